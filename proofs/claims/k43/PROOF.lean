import PyProof.Rows.All
import Wide.FinOn
import OpenK.KOwn
import KE.KNest
import KE.RegKIsAll
import KE.RegKTryMore
import PyProof.EqAt
import PyProof.EqKinds
import PyProof.TupleCall
import PyProof.NeKinds
import PyProof.NeData
import PyProof.EqLayable
import PyProof.ZipIter
import PyProof.EnumMake
import KE.LcSums
import PyProof.CompFree
import PyProof.ListRange
import PyProof.Rows.Range3
import PyProof.TupleOfSeq
import KE.KSortTup
import PyProof.Rows.TupAdd
import PyProof.DictWalks
import PyProof.AutoListH
import PyProof.StrWalks
import PyProof.SliceStr2
import PyProof.StrBlock2
import PyProof.StrLaws
import PyProof.StrCalls
import PyProof.CallStr
import KE.KIntText
import KE.KDictSum
import PyProof.Rows.SetFrom
import PyProof.SetRoads
import PyProof.Rows.StrInSeq3
import PyProof.Rows.CountFlat
import PyProof.InstStoreFacts
import PyProof.ExcInit
import PyProof.ExcArgsOwn
import PyProof.Rows.FStr
import Open.Boot
import Open.Tree
import PySem.Challenge.RW_slantfloor_k43_whole_sets_of_threes
open Option renaming some->aa,none->au,isSome_iff_exists->zk,map_eq_some_iff->U7,getD_some->US,isSome_some->Vg,map_some->XU
open PySem renaming wpAny_bind->ad,Addr->ae,Value->af,Shared->ah,wpAny_pure->aj,starEach->aw,Program->az,wpAny->bt,sizeLine->bu,Str->bv,World->bw,model->bz,Around->dh,Heap->dk,compareOp->fm,boot_len->fv,wpAny_field->fx,wpAny_call_entry->fz,wpAny_callSpecial?_slot->gg,eval->gh,wpAny_mono->gr,mem_of_lookup->ic,wpAny_newObj_type->ig,wpAny_truthy_bool->ik,foldedSetIterable->io,backTo->ir,swapsWith->iu,relabel->iz,wpAny_holding->jd,sysModules->ji,wpAny_isInstance->jm,mainGlobals->jo,Obj->jv,cLine->jy,FuncData->ke,sizeLine_eq->kg,Stmt->ku,binaryOp->lf,DictEntry->lq,Pos->lv,wpAny_attempt->lx,wpAny_typeNameOfWhole_keyiter->md,wpAny_rule->mh,wpAny_setField->nq,wpAny_Call_Name_kw->ny,bootBuiltins->oy,wpAny_seqItems->qi,codeAny_mono->qy,attributeBase->sd,rawInt->sr,Builtin->su,wpAny_dictEntries->sv,pyNext->sy,isSubtype_stop->tf,keywordEach->tj,behindInMarks->uq,wpAny_passesOwn->ut,wpAny_specialOf->uv,slot_listiter_next->ux,tupleKind_room_in1->uz,IsRangeIter->vc,sliceBounds->vd,isSubtype_tuple_tuple->vx,wpAny_eqBool_int->we,assignEach->wg,closureFor->wj,NameKind->wr,wpAny_execs_nil->wu,letOwnedTupleGo->wv,isInstance->xu,wpAny_setField_rec->xv,wpAny_call->yb,backToKw->yc,wpAny_tupleItemsOf->yj,Thread->yy,Env->zd,hashInt->zg,codeAny->zi,Keyword->zj,eqIsQuiet_byValue->zp,wpAny_newList->Tg,noteFrame->Tn,wpAny_pyHash_int->To,tupleKind->Tp,GenState->Tq,wpAny_execs_cons->Ts,getMethod->Tt,wpAny_pyNext_list_item->TU,wpAny_pyIter_rangeiter->TX,wpAny_Assign_Subscript->U1,reduceHash->U2,Model->U6,wpAny_dictEpoch->U9,size_of_entries->Ua,codeAny_builtin->Ub,importedModules->Uc,wpAny_pyIter_listiter->Ue,wpAny_isOneOf_keyiter->Uf,wpAny_notOrdered_dict->Ug,field->Uo,wpAny_loadName_local->Ur,wpAny_Expr_any->Us,Operator->Ut,carriedByValue->Uz,wpAny_pyIter_keyiter->UD,codeAny_call_builtin->UE,inplaceOp->UO,callerA->UP,valueAt->UQ,entry_listiter_next->UU,wpAny_loadName_cell->UV,atKey->V3,args_listiter_next->Va,wpAny_pyIter_range->Vb,IsPart->Ve,call_meets->Vf,wpAny_setItem_heap->Vh,Within->Vn,wpAny_assign_Name->Vq,standAt->Vr,holding->Vs,BindsTo->Vv,getItem->Vw,slot_list_getitem->Vx,wpAny_pyIter_enum->Vy,wpAny_pyIter_list->Vz,lastMarks->VQ,typeOf->VW,wpAny_pyIter_zip->VX,wpAny_Dict_empty->VY,eqIsQuiet->VZ,checkBuiltinCall->W5,treeTable->Wb,CmpOp->Wf,subscripted->Wh,Sem->Wm,leaving->Wx,intKind->Wy,OsState->Wz,wpAny_load->WB,firstArgMember->WC,IsPair->WD,builtinsNs->WE,wpAny_Name->WF,assign->WG,wpAny_loadPart->WI,recursionLimit->WJ,callWith->WK,bindL->WL,bindC->WM,typeIs_int->WP,ReadsAll->WQ,wpAny_newTuple->WS,wpAny_fieldsOf->WV,setFlight->X8,seqItems?->X9,Drawn->Xa,storeName->Xb,cellsFrom->Xd,Reads->Xg,rule->Xk,Result->Xl,Params->Xo,storedH->Xq,PyData->Xs,setField->XB,raiseNew->XC,ZipApart->XD,intItems->XE,again->XM,bindArgs->XO,compPost->XR,HeapKind->XV,pyIter->Y2,denote->Y8,IsZip->Y9,Tok->Yg
open Bool renaming true->ai,false->ao,and_eq_true->dm,false_eq_true->dq,false_ne_true->jj,true_and->sk,not_true->ur,eq_iff_iff->xa,false_and->xx,false_or->Te,and_false->Uy,not_false->UC,decide_or->UM,not_eq_true'->VJ,and_true->X7,true_or->Xp
open PySem.W renaming Frag->ak,findIn->jq,kia_one->ot,keepIn->qj,emptyDict->qw,kitOne->rh,instObj->wf,Looks->wo,callWith_K->xm,looks_findIn->ya,fnOf->Tc,specialIn->Uu,codeIn->Uv,hideAll->UN,plainGet_of->V1,looks_mroIn->V5,plainGet->Vd,of_hideAll->Vo,mroIn->Vt,exmOne->VH,makesIn->VR,takesIn->VT,cellsFrom_some->VU,isClsIn->W4,methodObj->We,hasDictIn->Wg,methodCall_KW->Wn,lookIn->WH,hideAll_get->X6,takerIn->Xc,isFn->Y3,excIn->Yd
open PySem.Heap renaming get?_push_of_some->ap,lt_size->bg,get?_push_size->cj,get?_update_other->eh,get?_update_self->og,SameBut->oz,size_push->vi,ExtBut->wq,get?_update_ne->xg,size_update->Tx,MadeExcOf->WW
open PyProof.Rows renaming wpS_pure->aq,wpS_bind->ar,pendingOf->cq,wpS_forRange->gf,callWith_type1->im,SortSt->je,wpS_modify->jl,wpS_mono->lj,kindOf->mv,slot_tuple_getitem->qg,seqObj->qo,SortKind->rm,Keyed->sw,envOfC->tu,getElem?_mirror_all->uj,IntsAre->uu,wpS_get->uw,arrOf->vf,failedOf->vm,getElem?_bubble->wy,AllBare->xk,boot_tuple->yt,boot_sorted->zu,listUpdate_at->Tf,wpS_lift->TL,subscriptTail_builtinR->TY,boot_isinstance->U8,seqEpoch_at->UA,boot_list->UR,subscriptTail->V2,boot_range->Vc,cnt->VN,callWith_builtin1->VV,bubble->W0,get?_update_seq->Ws,list_sort_plain->Wt,entry_list_sort->Wv,slicePart_none->WO,sortedHeap->WR,slot_list_sort->WT,args_list_sort->WU,mirror->WX,wpS->XA,mergeAt'->XX,gallopOf->XY,setArr->Y6,Call_->Yb
open List renaming getElem?_eq_getElem->av,replicate->ay,length_map->bf,getElem?_append_left->bh,getElem?_append_right->bo,getElem?_eq_some_iff->cf,length_cons->cg,mem_iff_getElem->cm,map_cons->cr,pairwise_iff_getElem->da,getD->de,mem_cons_of_mem->df,getElem?_map->dg,mem_cons_self->di,mem_cons->dj,append_assoc->dt,length_take->dw,length_append->ef,mem_append_right->eg,mem_singleton->eo,mem_of_getElem?->fe,size_toArray->fh,mem_append->fj,getElem_take->fk,getElem_mem->fq,getD_eq_getElem?_getD->fw,getElem?_set_ne->fy,eq_of_mem_replicate->gm,nil_append->gp,mem_append_left->gq,append_nil->gv,drop_eq_getElem_cons->gw,range->gx,getElem?_take_of_lt->gy,pairwise_map->iq,pairwise_cons->ix,cons_append->jb,mem_map->jg,getElem?_replicate->jr,getElem?_cons_zero->jt,map_map->ju,getElem?_set_self->jx,replicate_succ->kf,getElem?_eq_none->lh,Nodup->lr,mem_or_eq_of_mem_set->ma,getElem?_cons_succ->mf,length_replicate->ni,nodup_iff_pairwise_ne->oa,pairwise_append->ou,not_mem_nil->pf,take_of_length_le->ph,reverse_perm->pz,take_succ_eq_append_getElem->qa,flatten_replicate_singleton->qb,mem_iff_getElem?->qk,perm_append_comm->qp,take_append_of_le_length->qx,ext_getElem?->qz,find?_cons_of_pos->rd,find?_cons_of_neg->re,mem_singleton_self->rg,dropLast_concat_getLast->rj,mem_of_mem_take->rn,take_length_add_append->sx,any_cons->tw,map_congr_left->uc,take_append_drop->ug,length_nil->uy,getElem?_drop->vb,drop_length->ve,filter_cons_of_pos->vg,filter_cons_of_neg->vh,flatten_cons->vj,nodup_append->vn,mem_map_of_mem->vo,filter_eq_nil_iff->vq,pairwise_reverse->vy,getElem?_toArray->vz,length_filter_le->wa,singleton_append->wd,find?_cons->wl,map_nil->wp,filterMap_cons->xc,drop_sublist->xo,mem_range->xp,mem_filterMap->xz,nodup_cons->yd,map_append->yk,set_cons_zero->yr,take_succ_cons->yv,perm_ext_iff_of_nodup->yw,mem_of_find?_eq_some->zb,any_eq_false->zh,take_sublist->zl,all_eq_true->zq,mem_of_mem_eraseIdx->Th,filter_append->Tj,length_eq_zero_iff->Tw,length_eraseIdx_le->TM,pairwise_mergeSort->TN,sum_cons->TQ,forIn_cons->TR,mem_filter->TW,foldl->TZ,toArray->U3,drop_of_length_le->U4,eraseIdx_sublist->Ui,pairwise_flatMap->Ul,length_drop->Uw,mem_of_mem_drop->UG,reverse_reverse->UK,replicate_zero->UX,mergeSort_perm->UY,filter_eq_self->UZ,flatMap_append->V0,set_cons_succ->Vj,find?_eq_none->Vk,all_cons->VD,map_take->VE,length_range->VF,zipWith->VG,flatMap_cons->VL,forIn_nil->VO,getElem_inj->VP,filter_cons->W6,mem_flatMap->W7,zipIdx_cons->Wc,lookup_cons->Wi,nodup_range->Wj,zipIdx_nil->Wl,foldl_cons->Wp,range_succ->Wr,find?_some->Ww,of_mem_zip->WN,take_left->WZ,nodup_nil->Xf,drop_drop->Xi,all_nil->Xx,map_drop->XW,range'->Y0
open Int renaming toNat_natCast->bq,lt_or_eq_of_le->qv,emod_lt_of_pos->vp,toNat_of_nonneg->xi,le_refl->zw,emod_nonneg->Tb,le_of_lt->U5,lt_or_gt_of_ne->Vi,ofNat_lt->VM,mul_nonneg->X0,mul_le_mul->X1,natAbs_pow->X3,sub_zero->Xv,le_trans->Xz,one_mul->XG,mul_one->XJ,lt_trans->XZ
open Nat renaming le_refl->br,lt_of_lt_of_le->fg,ne_of_lt->gn,le_trans->ly,mul_le_mul->nc,le_of_not_lt->nh,add_assoc->nj,zero_le->oj,min_eq_left->pq,lt_irrefl->qh,zero_add->rq,lt_trichotomy->sh,lt_or_gt_of_ne->ue,add_zero->uf,le_of_ble_eq_true->wb,add_comm->yh,lt_of_le_of_lt->yi,add_mul_mod_self_right->yx,le_succ->zf,add_mul->Ta,succ_mul->Tu,le_add_right->U0,add_mul_div_right->Uk,ne_of_gt->Um,not_succ_lt_self->UB,lt_or_ge->UJ,mul_le_mul_right->UL,le_of_lt->Vp,lt_succ_of_lt->VA,lt_of_succ_lt->VB,lt_succ_self->VS,min_eq_right->W2,div_eq_of_lt->W8,mod_eq_of_lt->W9,mul_assoc->Wa,mul_add->WA,zero_mul->X2,le_of_eq->Xm,mul_comm->Xn,lt_trans->Xr,le_total->Xw,mod_lt->Y7,ble->Ye
open PySem.PassesOwn renaming never->cp,leaving->zr
open PySem.Builtin.Range renaming rangeSize->fc,small->xf
open PySem.Value renaming none->gc,bool->TV,isInt->Uq,builtin->V4,float->Wd,isStrOf->X5,bytes->XH,type->Y1
open False renaming elim->ie
open PySem.Str renaming ofString->ii
open Option.some renaming injEq->ip
open Sum renaming inl->iw,inr->xj
open PySem.PyData renaming eqv->ja,eqvAll->jf,depthAll->mw,canLayAll0->pi,canLay0->qm
open Array renaming getElem?_toList->jc,getElem?_eq_some_iff->nr,getElem?_eq_getElem->ui,length_toList->uo,ext_getElem?->va,getElem?_setIfInBounds_ne->vw,getD_eq_getD_getElem?->xn,perm_iff_toList_perm->yo,getD->yp,forIn_toList->VC,toList_inj->W1,toList->Xj
open PySem.F renaming slot_dict_keyiterator_next->jh,slot_tuple_hash->vk,args_dict_keyiterator_next_1->wn,entry_dict_keyiterator_next->wt,slot_tuple_eq->wx,slot_tuple_iterator_next->xr,slot_range_iterator_next->xt,plainAttrs_list->Tv,attr_ValueError->Tz,plain_list_iadd->TK,slot_enumerate_next->Ud,slot_dict_pop->Uj,slot_dict_iter->W3,slot_zip_next->Wk,slot_int_rmul->Wq
open Pure renaming pure->jw
open PySem.Builtin.Tuple renaming tupleHashOf->kh,tupleExact->qd,tupleItemsOf->yf
open True renaming intro->mj
open PySem.Challenge renaming pw_slantfloor_k43_whole_sets_of_threes->my,rw_slantfloor_k43_whole_sets_of_threes->ng
open PySem.Builtin.SmallTypes renaming nextOf->om,ownedTupleIsFree->uk
open PySem.Builtin.Slice renaming slicePlaces->oo,sliceAdjust->uh,sliceApplied->ye,slicePartIndex->Wo,sliceFields->X4
open Classical renaming byContradiction->oq,em->VI
open PySem.Obj renaming mapFields->qc,isFreed_of_fields->ss,data_mapFields->xq,mapSeq->yg,cls_mapFields->ze,data_mapDictKeys->UI
open PySem.Builtin.List renaming listTooLong->qe,listUpdate->Ty
open ForInStep renaming yield->ri
open List.cons renaming injEq->ww
open PySem.Builtin.Dict_items renaming ownsTuple->wz
open PySem.Heap.SameBut renaming update->xh
open PySem.Calls renaming Name_function_global->xw,call_function_entry->yz,evalArgs_plain->Ux
open PyProof.Rows.SortSt renaming mk'->yq
open PySem.Builtin.Dict renaming dictSlotNone->za,showsAll->Uh,takeOut->UH,keyAndDefault->WY
open PyProof renaming noPylong_of_log2->Td
open PySem.Around renaming under_plainId->UF
open PySem.EntryCells renaming newEntry->UT
open PySem.Builtin.Int renaming intBits->UW
open Prod.mk renaming injEq->V6
open PySem.W.Fast renaming te10156331382660048174->V7,te11892475500146522536->V8,te14364793385576792824->V9,te6613529449190102663->Vl,te4187177175401517315->Vm
open PySem.Code renaming isFrame->Vu
open StateT renaming run_pure->Wu
open LawfulBEq renaming eq_of_beq->Xe
open PySem.Expr renaming Name->Xh
open PySem.SeqAt renaming shaped->Xu
open PySem.W.KF renaming slot_gs->Xy
open PySem.Data renaming fields->XI
open PySem.SeqAt.Reads renaming unique->Y4
open PySem.W.Looks renaming ld->Y5
open ForIn renaming forIn->Yc
abbrev XQ:=@if_neg
abbrev Yh:=@if_pos
local macro_rules | `(tactic| right)=>`(tactic| first | lia | omega)
local macro_rules | `(term| ⋯)=>`(by  right)
local macro_rules | `(term| ∅)=>`(by  decide)
local macro_rules | `(term| ↥$q)=>`({ nx:=λ_=>$q (.v .non),rt:=$q })
open List (map_id)
open Nat (log2_lt)
open Option (getD_none isSome_map)
open PySem PySem.Spec PyProof.Rows
noncomputable section
set_option Elab.async false
set_option linter.all false
set_option maxRecDepth 100000
set_option maxHeartbeats 1000000
variable {base h:dk}{e tg:Expr}{i n:Nat}{Q E:af->ah->Prop}{A:dh}{a b f C:ae}{α:Type}{u:af}{P prog:az}{w:bw}{N ps:List bv}{s:ah}{pk:List (ae×jv)}{K:ak}{es:List Expr}{p:lv}{mg:bv->Option af}{outer:List zd}{Yj:bv}{Yi:Scope}
namespace L2
structure Like(o oe:jv):Prop where
  cls:oe.cls=o.cls
  dict:oe.dict=o.dict
  fl:∃us vs,o.data=.fields us/\oe.data=.fields vs /\ ∀i,i≠1->vs[i]?=us[i]?
def mY(o:jv):Prop:=∃us:Array af,o.data=.fields us/\us[2]?=aa .none
variable {o oe:jv}
theorem Like.mild(k:Like o oe)(m:mY o):mY oe:=by
  obtain⟨us,d,q⟩:=m;obtain⟨us',vs,d',dv,i⟩:=k.fl;rw[d] at d';cases d';exact⟨vs,dv,(i 2 ∅).trans q⟩
theorem Like.rfl'{us:Array af}(d:o.data=.fields us):Like o o:=⟨rfl,rfl,us,us,d,d,λ_ _=>rfl⟩
def Tr(h base:dk)(e:ae)(o:jv)(fl:af):Prop:=
  ∃(oe:jv) (vs:Array af) (T:ae) (oT:jv) (ts:Array af),h.get? e=aa oe/\Like o oe/\oe.data=.fields vs/\vs[1]?=aa (.ref T)/\base.get? T=au/\T≠e/\h.get? T=aa oT/\oT.data=.fields ts/\ts[3]?=aa fl
structure Fly(base:dk)(l:List zd)(e:ae)(o:jv)(fl:af)(h:dk):Prop where
  st:base.StaysIn h
  no:base.get? e=au
  fr:h.FunFrames base l
  tr:Tr h base e o fl
theorem Fly.there{l:List zd}{e:ae}{fl:af}(x:Fly base l e o fl h):∃oe,h.get? e=aa oe/\Like o oe:=by
  obtain⟨oe,_,_,_,_,g,k,_⟩:=x.tr;exact⟨oe,g,k⟩
theorem GE{vs:Array af}{v:af}(d:o.data=.fields vs):(qc (·.setIfInBounds i v) o).data=.fields (vs.setIfInBounds i v):=xq d _
theorem Like.set{v:af}(k:Like o oe):Like o (qc (·.setIfInBounds 1 v) oe):=by
  obtain⟨us,vs,d,dv,i⟩:=k.fl;refine⟨(ze ..).trans k.cls,?_,us,_,d,GE dv,λj hj=>?_⟩
  . rw[<- k.dict];obtain⟨c0,d0,a0,s0⟩:=oe;cases dv;rfl
  . rw[vw (λz=>hj z.symm)];exact i j hj
variable {M:U6}{env:zd}
section
variable {L e:ae}
theorem yI{vs:Array af}{head:af}{had:Bool}{Q:Unit->ah->Prop}(hfr:A.frames=aa (env::outer))(fr:s.heap.FunFrames base (env::outer))(hf:env.frame=aa L)(st:base.StaysIn s.heap)(no:base.get? e=au)
    (g:s.heap.get? e=aa oe) (k:Like o oe) (d:oe.data=.fields vs) (hsz:1<vs.size) (q:∀h',Fly base (env::outer) e o (sr L) h'->s.heap.UpToSlots h'->Q () { s with heap:=h' }):
    bt M A (do let a <- frameOf env;let pl <- entryPlaceOf L had;let b <- UT head a .none (sr L) .none pl;XB (.ref e) 1 b) Q E s:=by
  have nfr:e ∉ (env::outer).filterMap (·.frame):=λhm=>by
    obtain⟨_,o',g',nf⟩:=fr.mem hm;rw[g] at g';cases g';exact nf vs d
  refine ad (wpAny_frameOf_fun hfr fr hf λh1 ⟨_,same,slot⟩=>ad (wpAny_entryPlaceOf λpl hpl=>?_));unfold UT newFields;refine ad (ig ?_ (hpl.sizeOk5 _ _ _ _ _));have h3:(([head,.ref L,.none,sr L,.none]++(if pl.isEmpty then ay 6 gc else pl)).toArray:Array af)[3]?=aa (sr L):=by
    first | (simp;done) | (rcases hpl with rfl | ⟨_,_,_,_,_,_,_,rfl⟩<;>simp)
  generalize (([head,.ref L,.none,sr L,.none]++(if pl.isEmpty then ay 6 gc else pl)).toArray:Array af)=ts at h3;generalize hob:({ cls:=.type "traceback",dict:=au,data:=.fields ts }:jv)=ob;have g1:h1.get? e=aa oe:=(same e nfr).trans g;have gT:(h1.push ob).get? h1.objs.size=aa ob:=by
    subst hob;exact cj h1 rfl
  have ne:h1.objs.size≠e:=Um (bg g1);have st1:base.StaysIn h1:=λb u z=>(same b λhm=>by rw[(fr.mem hm).1] at z;cases z).trans (st b u z);have keep:∀b u,b≠e->h1.get? b=aa u->((h1.push ob).update e (qc (·.setIfInBounds 1 (.ref h1.objs.size)))).get? b=aa u:=λb u hb z=>
    (eh _ _ (Ne.symm hb)).trans (ap _ z)
  have rec':∀b u,s.heap.get? b=aa u->(∀us,u.data ≠ .fields us)->b≠e:=λb u z nf q=>by
    rw[q,g] at z;cases z;exact nf vs d
  refine nq (ap _ g1) d hsz (q _ ⟨λb u z=>keep b u (λq=>by rw[q,no] at z;cases z) (st1 b u z),no,fr.of_keeps λb u z nf=>?_,?_⟩ λb u z nf=>?_)
  . obtain⟨sl,z'⟩:=slot b u z;exact⟨_,keep b _ (rec' b u z nf) z',rfl⟩
  . refine⟨_,_,h1.objs.size,ob,ts,og _ (ap _ g1) (ss (GE d)),k.set,GE d,by simp[hsz],st1.fresh,ne,?_,by rw[<- hob],h3⟩;exact(eh _ _ (Ne.symm ne)).trans gT
  . obtain⟨sl,z'⟩:=slot b u z;exact⟨sl,keep b _ (rec' b u z nf) z'⟩
theorem G5{us:Array af}{Q:Unit->ah->Prop}(hfr:A.frames=aa (env::outer))(fr:s.heap.FunFrames base (env::outer))(hf:env.frame=aa L)(st:base.StaysIn s.heap)(no:base.get? e=au)
    (g:s.heap.get? e=aa o) (d:o.data=.fields us) (n1:us[1]?=aa .none) (q:∀h',Fly base (env::outer) e o (sr L) h'->s.heap.UpToSlots h'->Q () { s with heap:=h' }):bt M A (Tn (.ref e) env) Q E s:=by
  unfold Tn;simp only[hf];refine ad (fx g d n1 ?_);rw[XQ ∅];exact yI hfr fr hf st no g (Like.rfl' d) d (nr.mp n1).1 q
theorem C3{Q:Unit->ah->Prop}(hfr:A.frames=aa (env::outer))(hf:env.frame=aa L)(x:Fly base (env::outer) e o .none s.heap)
    (q:∀h',Fly base (env::outer) e o (sr L) h'->s.heap.UpToSlots h'->Q () { s with heap:=h' }):bt M A (Tn (.ref e) env) Q E s:=by
  obtain⟨st,no,fr,oe,vs,T,oT,ts,g,k,d,n1,nT,ne,gT,dT,n3⟩:=x;unfold Tn;simp only[hf];refine ad (fx g d n1 ?_);rw[Yh (show (Value.ref T != gc)=ai by simp)];refine ad (fx gT dT n3 ?_);rw[XQ (show ¬((gc==sr L)=ai) by simp[sr])];have oth:∀b,b≠T->(s.heap.update T (qc (·.setIfInBounds 3 gc))).get? b=s.heap.get? b:=λb hb=>eh _ _ (Ne.symm hb);have rec':∀b u,s.heap.get? b=aa u->(∀us,u.data ≠ .fields us)->b≠T:=λb u z nf q=>by
    rw[q,gT] at z;cases z;exact nf ts dT
  refine ad (nq gT dT (nr.mp n3).1 (yI hfr (fr.of_keeps λb u z nf=>⟨u,(oth b (rec' b u z nf)).trans z,rfl⟩) hf (λb u z=>(oth b λq=>by rw[q,nT] at z;cases z).trans (st b u z)) no ((oth e (Ne.symm ne)).trans g) k d (nr.mp n1).1 λh' x' u'=>q h' x' λb u z nf=>u' b u ((oth b (rec' b u z nf)).trans z) nf))
theorem p6{l:List zd}{fl:af}{Q:Unit->ah->Prop}(x:Fly base l e o fl s.heap)(q:∀h',Fly base l e o .none h'->s.heap.UpToSlots h'->Q () { s with heap:=h' }):bt M A (X8 (.ref e) au) Q E s:=by
  obtain⟨st,no,fr,oe,vs,T,oT,ts,g,k,d,n1,nT,ne,gT,dT,n3⟩:=x;have z3:=(nr.mp n3).1;have oth:∀b,b≠T->(s.heap.update T (qc (·.setIfInBounds 3 ((au:Option ae).elim gc λf=>sr f)))).get? b=s.heap.get? b:=λb hb=>eh _ _ (Ne.symm hb);have rec':∀b u,s.heap.get? b=aa u->(∀us,u.data ≠ .fields us)->b≠T:=λb u z nf q=>by
    rw[q,gT] at z;cases z;exact nf ts dT
  unfold X8;refine ad (fx g d n1 ?_);rw[Yh (show (Value.ref T != gc)=ai by simp)];refine nq gT dT z3 (q _ ⟨λb u z=>(oth b λq=>by rw[q,nT] at z;cases z).trans (st b u z),no,fr.of_keeps λb u z nf=>⟨u,(oth b (rec' b u z nf)).trans z,rfl⟩,?_⟩ λb u z nf=>⟨u.slots,(oth b (rec' b u z nf)).trans z⟩);exact⟨oe,vs,T,_,_,(oth e (Ne.symm ne)).trans g,k,d,n1,nT,ne,og _ gT (ss (GE dT)),GE dT,by simp[z3]⟩
theorem JG{us:Array af}{Q:Unit->ah->Prop}(hfr:A.frames=aa (env::outer))(fr:s.heap.FunFrames base (env::outer))(hf:env.frame=aa L)(st:base.StaysIn s.heap)(no:base.get? e=au)
    (g:s.heap.get? e=aa o) (d:o.data=.fields us) (n1:us[1]?=aa .none) (q:∀h',Fly base outer e o .none h'->s.heap.UpToSlots h'->Q () { s with heap:=h' }):bt M A (Wx env (.ref e)) Q E s:=by
  unfold Wx;refine ad (G5 hfr fr hf st no g d n1 λh1 x1 u1=>p6 x1 λh2 x2 u2=>q h2 ⟨x2.st,x2.no,?_,x2.tr⟩ (u1.trans u2));obtain⟨_,_,z⟩:=x2.fr;exact z
theorem OL{Q:Unit->ah->Prop}(hfr:A.frames=aa (env::outer))(hf:env.frame=aa L)(x:Fly base (env::outer) e o .none s.heap)(q:∀h',Fly base outer e o .none h'->s.heap.UpToSlots h'->Q () { s with heap:=h' }):
    bt M A (Wx env (.ref e)) Q E s:=by
  unfold Wx;refine ad (C3 hfr hf x λh1 x1 u1=>p6 x1 λh2 x2 u2=>q h2 ⟨x2.st,x2.no,?_,x2.tr⟩ (u1.trans u2));obtain⟨_,_,z⟩:=x2.fr;exact z
end
def Qu(A:dh)(h:dk):Prop:=A.handled=au \/ ∃(a:ae) (o:jv),A.handled=aa (.ref a)/\h.get? a=aa o/\mY o
variable {h':dk}
theorem Qu.keeps(q:Qu A h)(k:∀b o,mY o->h.get? b=aa o->h'.get? b=aa o):Qu A h':=by
  rcases q with q | ⟨a,o,e,g,m⟩
  . exact .inl q
  . exact .inr ⟨a,o,e,k a o m g,m⟩
theorem x9:entryFor table "proto.unchain" = aa su.«proto.unchain» := entryFor_of_fast (by kernel_rfl)
variable {l it:ae}{xs:Array af}{lo:Int}
theorem yW{e:af}(g:s.heap.get? a=aa o)(m:mY o)(q:Q .none s):bt (bz prog w) A (runValue (.builtin "proto.unchain" ⟨[e,.ref a,.ref a,.bool ao],[]⟩)) Q E s:=by
  obtain⟨us,d,n2⟩:=m;refine runValue_entry x9 ?_;unfold su.«proto.unchain»;dsimp only;refine ad (fx g d n2 ?_);rw[Yh ∅];exact aj ⟨_,rfl,q⟩
theorem FH{us:Array af}{Q:α->ah->Prop}(q:Qu A s.heap)(g:s.heap.get? a=aa o)(d:o.data=.fields us)(hz:2<us.size)(hm:∀v,A.handled=aa v->v ≠ .ref a)
    (h:∀h' o',(∀b u,b≠a->s.heap.get? b=aa u->h'.get? b=aa u)->h'.get? a=aa o'->o'.cls=o.cls->E (.ref a) { s with heap:=h' }):bt (bz prog w) A (XC (α:=α) (.ref a)) Q E s:=by
  simp only[XC];refine ad (wpAny_handled ?_);rcases q with q | ⟨b,ob,q,gb,mb⟩
  . rw[q];exact ad (aj (wpAny_throw (h s.heap o (λ_ _ _ z=>z) g rfl)))
  . rw[q];have ne:b≠a:=λz=>hm _ q (by rw[z]);dsimp only;rw[Yh (show (Value.ref b != Value.ref a)=ai by simpa using ne)];refine ad (jd (yW gb mb (ad ?_)));unfold updateField;refine ad (WB g ?_);rw[d];dsimp only;rw[Yh hz];refine wpAny_update g (wpAny_throw (h _ (qc (·.setIfInBounds 2 (.ref b)) o) (λc u hc z=>(eh _ _ (Ne.symm hc)).trans z) (og _ g (ss (GE d))) (ze ..)))
theorem jX{Q:α->ah->Prop}(q:Qu A s.heap)(h:∀h' e,(∀b u,s.heap.get? b=aa u->h'.get? b=aa u)->(∃o,h'.get? e=aa o/\o.cls=.type "StopIteration")->E (.ref e) { s with heap:=h' }):
    bt (bz prog w) A (newExc (.type "StopIteration") [] >>= λe=>XC (α:=α) e) Q E s:=by
  refine ad ?_;simp only[newExc,newTuple];refine ad (ig (ad (m:=WC _ _) (wpAny_of_eq (a:=gc) (by first | rfl | (simp only[WC];rfl)) (ig ?_ (by size_fits)))) (by size_fits));refine FH (q.keeps λb u _ z=>ap _ (ap _ z)) (cj _ rfl) rfl (by simp;right) (λv e z=>?_) λh' o' k g c=>h h' _ (λb u z=>k b u ?_ (ap _ (ap _ z))) ⟨o',g,c⟩
  . subst z;rcases q with q | ⟨b,ob,q,gb,_⟩
    . rw[q] at e;cases e
    . rw[q] at e;cases e;exact qh _ (fg (bg gb) (by rw[vi];exact zf _))
  . intro e;subst e;exact qh _ (fg (bg z) (by rw[vi];exact zf _))
theorem C7{Q:Option af->ah->Prop}(q:Qu A s.heap)(t:s.heap.IsListIter it l i)(il:s.heap.IsList l xs)(n:xs[i]?=au)(h:∀h',wq it s.heap h'->Q au { s with heap:=h' }):
    bt (bz prog w) A (sy (.ref it)) Q E s:=by
  obtain⟨o,g,c,d⟩:=id t;obtain⟨ol,gl,_,nl,dl⟩:=il;unfold sy;refine ad (lx (gg (name:=ii "__next__") t.typeIs ux (fz ux t.typeIs UU ?_ (Va _))));refine ad (m:=Uo (.ref it) 0) (fx g d (x:=.ref l) rfl ?_);rw[XQ (show ¬((Value.ref l==gc)=ai) from λz=>nomatch z)];refine ad (m:=Uo (.ref it) 1) (fx g d (x:=.int i 0) rfl (ad (m:=X9 (.ref l)) (qi gl dl ?_)));simp only[bq,n];have ne:∀b u,mY u->s.heap.get? b=aa u->b≠it:=λb u m gb z=>by
    subst z;rw[g] at gb;cases gb;obtain⟨us,du,z2⟩:=m;rw[d] at du;cases du;simp at z2
  refine ad (mh (ad (nq g d (by simp) (jX (q.keeps λb u m z=>(eh _ _ (Ne.symm (ne b u m z))).trans z) λh' e k ⟨oe,ge,ce⟩=>?_))));refine ad (jm (T:="StopIteration") (b:=ai) ⟨oe,ge,ce⟩ tf (aj (h _ λb u hb z=>k b u ((eh _ _ (Ne.symm hb)).trans z))))
theorem G9{Q:Option af->ah->Prop}(q:Qu A s.heap)(t:s.heap.IsTupleIter it l i)(il:s.heap.IsTuple l xs)(n:xs[i]?=au)(h:∀h',wq it s.heap h'->Q au { s with heap:=h' }):
    bt (bz prog w) A (sy (.ref it)) Q E s:=by
  obtain⟨o,g,c,d⟩:=id t;obtain⟨ol,gl,_,nl,dl⟩:=il;unfold sy;refine ad (lx (gg (name:=ii "__next__") t.typeIs xr (fz xr t.typeIs F.entry_tuple_iterator_next ?_ (F.args_tuple_iterator_next_1 _))));refine ad (m:=Uo (.ref it) 0) (fx g d (x:=.ref l) rfl ?_);rw[XQ (show ¬((Value.ref l==gc)=ai) from λz=>nomatch z)];refine ad (m:=Uo (.ref it) 1) (fx g d (x:=.int i 0) rfl (ad (m:=X9 (.ref l)) (qi gl dl ?_)));simp only[bq,n];have ne:∀b u,mY u->s.heap.get? b=aa u->b≠it:=λb u m gb z=>by
    subst z;rw[g] at gb;cases gb;obtain⟨us,du,z2⟩:=m;rw[d] at du;cases du;simp at z2
  refine ad (mh (ad (nq g d (by simp) (jX (q.keeps λb u m z=>(eh _ _ (Ne.symm (ne b u m z))).trans z) λh' e k ⟨oe,ge,ce⟩=>?_))));refine ad (jm (T:="StopIteration") (b:=ai) ⟨oe,ge,ce⟩ tf (aj (h _ λb u hb z=>k b u ((eh _ _ (Ne.symm hb)).trans z))))
theorem yJ{x left step:Int}{Q:Option af->ah->Prop}(q:Qu A s.heap)(t:vc s.heap it x left step)(n:left<=0)(h:∀h',wq it s.heap h'->Q au { s with heap:=h' }):
    bt (bz prog w) A (sy (.ref it)) Q E s:=by
  have ty:s.TypeIs (.ref it) "range_iterator" := ⟨_,t,rfl⟩;unfold sy;refine ad (lx (gg (name:=ii "__next__") ty xt (fz xt ty F.entry_range_iterator_next ?_ (F.args_range_iterator_next_1 _))));refine ad (m:=Uo (.ref it) 0) (fx t rfl (x:=sr x) rfl (ad (m:=Uo (.ref it) 1) (fx t rfl (x:=sr left) rfl (ad (m:=Uo (.ref it) 2) (fx t rfl (x:=sr step) rfl ?_)))));refine(show bt _ _ (ite (left<=0) _ _) _ _ s from ?_);rw[Yh n];refine ad (mh (ad (jX q λh' e k ⟨oe,ge,ce⟩=>?_)));refine ad (jm (T:="StopIteration") (b:=ai) ⟨oe,ge,ce⟩ tf (aj (h _ λb u hb z=>k b u z)))
theorem qE(q:Qu A s.heap)(t:s.heap.IsListIter it l i)(il:s.heap.IsList l xs)(n:xs[i]?=au)
    (h:∀h' e,wq it s.heap h'->(∃o,h'.get? e=aa o/\o.cls=.type "StopIteration")->E (.ref e) { s with heap:=h' }):bt (bz prog w) A (om (.ref it)) Q E s:=by
  obtain⟨o,g,c,d⟩:=id t;obtain⟨ol,gl,_,nl,dl⟩:=il;unfold om;refine ad (gg (name:=ii "__next__") t.typeIs ux (fz ux t.typeIs UU ?_ (Va _)));refine ad (m:=Uo (.ref it) 0) (fx g d (x:=.ref l) rfl ?_);rw[XQ (show ¬((Value.ref l==gc)=ai) from λz=>nomatch z)];refine ad (m:=Uo (.ref it) 1) (fx g d (x:=.int i 0) rfl (ad (m:=X9 (.ref l)) (qi gl dl ?_)));simp only[bq,n];have ne:∀b u,mY u->s.heap.get? b=aa u->b≠it:=λb u m gb z=>by
    subst z;rw[g] at gb;cases gb;obtain⟨us,du,z2⟩:=m;rw[d] at du;cases du;simp at z2
  exact ad (mh (ad (nq g d (by simp) (jX (q.keeps λb u m z=>(eh _ _ (Ne.symm (ne b u m z))).trans z) λh' e k z=>h h' e (λb u hb z=>k b u ((eh _ _ (Ne.symm hb)).trans z)) z))))
theorem JK{e:ae}{old:af}{Q:Option af->ah->Prop}(q:Qu A s.heap)(he:IsEnum s.heap e it i old)(t:s.heap.IsListIter it l i)(il:s.heap.IsList l xs)(n:xs[i]?=au)
    (h:∀h',wq it s.heap h'->Q au { s with heap:=h' }):bt (bz prog w) A (sy (.ref e)) Q E s:=by
  have ty:s.TypeIs (.ref e) "enumerate" := ⟨_,he,rfl⟩;unfold sy;refine ad (lx (gg (name:=ii "__next__") ty Ud (fz Ud ty F.entry_enumerate_next ?_ (F.args_enumerate_next_1 _))));refine ad (m:=Uo (.ref e) 2) (fx he rfl (x:=.ref it) rfl (ad (qE q t il n λh' x k ⟨oe,ge,ce⟩=>?_)));exact ad (jm (T:="StopIteration") (b:=ai) ⟨oe,ge,ce⟩ tf (aj (h _ k)))
theorem Ld{z TI TO i1 i2 l1 l2:ae}{k1 k2:Nat}{ys:Array af}{a b:af}{Q:Option af->ah->Prop}(q:Qu A s.heap)(D:XD z TI TO i1 i2 l1 l2)(hz:Y9 s.heap z TI TO .none)(pI:WD s.heap TI (.ref i1) (.ref i2))(pO:WD s.heap TO a b)
    (t1:s.heap.IsListIter i1 l1 k1) (t2:s.heap.IsListIter i2 l2 k2) (il1:s.heap.IsList l1 xs) (il2:s.heap.IsList l2 ys) (n:xs[k1]?=au \/ ys[k2]?=au)
    (h:∀h',(∀c o,c≠z->c≠TO->c≠i1->c≠i2->s.heap.get? c=aa o->h'.get? c=aa o)->Q au { s with heap:=h' }):bt (bz prog w) A (sy (.ref z)) Q E s:=by
  have ty:s.TypeIs (.ref z) "zip" := ⟨_,hz,rfl⟩;have fin:∀h' e,(∃o,h'.get? e=aa o/\o.cls=.type "StopIteration")->(∀c o,c≠z->c≠TO->c≠i1->c≠i2->s.heap.get? c=aa o->h'.get? c=aa o) ->
      bt (bz prog w) A (xu (.ref e) (.type "StopIteration") >>= λy=>if y=ai then jw au else throw (.ref e)) Q E { s with heap:=h' }:=λh' e ⟨oe,ge,ce⟩ k=>
    ad (jm (T:="StopIteration") (b:=ai) ⟨oe,ge,ce⟩ tf (aj (h _ k)))
  have mz:∀f0,¬mY { cls:=.type "zip",dict:=au,data:=.fields #[f0,.bool ao,.bool ao,.ref TI,.ref TO],slots:=#[] }:=λf0 ⟨us,du,z2⟩=>by
    cases du;simp at z2
  have mi:∀{h1:dk} {i l:ae} {k:Nat},h1.IsListIter i l k -> ∀u,mY u->h1.get? i≠aa u:=λ⟨o,g,_,d⟩ u ⟨us,du,z2⟩ gu=>by
    rw[g] at gu;cases gu;rw[d] at du;cases du;simp at z2
  have mp:∀{h1:dk} {p:ae} {x y:af},WD h1 p x y -> ∀u,mY u->h1.get? p≠aa u:=λg u ⟨us,du,z2⟩ gu=>by
    rw[g] at gu;cases gu;cases du
  unfold sy;refine ad (lx (gg (name:=ii "__next__") ty Wk (fz Wk ty F.entry_zip_next ?_ (F.args_zip_next_1 _))));refine ad (m:=Uo (.ref z) 2) (fx hz rfl (x:=.bool ao) rfl (ad (m:=Uo (.ref z) 3) (fx hz rfl (x:=.ref TI) rfl (ad (qi pI rfl ?_)))));refine ad (m:=uk (.ref z)) ?_;unfold uk;refine ad (fx hz rfl (x:=.none) rfl (aj ?_));simp only[if_true];refine ad (mh (ad (fx hz rfl (x:=.ref TO) rfl (ad (xv hz (by simp) λh1 hz1 s1=>ad ?_)))));replace hz1:Y9 h1 z TI TO .ellipsis:=hz1;have q1:Qu A h1:=q.keeps λc u m g=>s1.extBut c u (λe=>by subst e;rw[hz] at g;cases g;exact mz _ m) g;simp only[Wc,Wl,TR,VO];refine ad (ad (wpAny_onRaise (ad (m:=om (.ref i1)) ?_)));have t1':=t1.extBut s1.extBut D.i1z;have il1':=il1.extBut s1.extBut D.l1z;cases hx:xs[k1]? with
  |none=>
    refine qE q1 t1' il1' hx λh2 e s2 ⟨oe,ge,ce⟩=>?_;have hz2:Y9 h2 z TI TO .ellipsis:=s2 _ _ D.i1z.symm hz1;have ne:e≠z:=λy=>by subst y;rw[hz2] at ge;cases ge;simp at ce
    exact xv hz2 (by simp) λh3 _ s3=>fin h3 e ⟨oe,s3.extBut _ _ ne ge,ce⟩ λc o c1 _ c3 _ g=>s3.extBut _ _ c1 (s2 _ _ c3 (s1.extBut _ _ c1 g))
  |some x=>
    have hy:ys[k2]?=au:=n.elim (λy=>by rw[hx] at y;cases y) id;refine wpAny_nextOf_list_item t1' il1' hx λh2 t2' s2=>aj ?_;have pO2:WD h2 TO a b:=s2.extBut _ _ D.TOi1 (s1.extBut _ _ D.TOz pO);have q2:Qu A h2:=q1.keeps λc u m g=>s2.extBut c u (λe=>by subst e;exact mi t1' u m g) g;refine ad (qi pO2 rfl (ad (wpAny_updateSeq_pair pO2 λh3 pO3 s3=>ad (wpAny_letGo (aj ?_)))));have q3:Qu A h3:=q2.keeps λc u m g=>s3.extBut c u (λe=>by subst e;exact mp pO2 u m g) g;refine ad (ad (wpAny_onRaise (ad (m:=om (.ref i2)) ?_)));refine qE q3 (((t2.extBut s1.extBut D.i2z).extBut s2.extBut D.i12.symm).extBut s3.extBut D.TOi2.symm) (((il2.extBut s1.extBut D.l2z).extBut s2.extBut D.l2i1).extBut s3.extBut D.l2TO) hy λh4 e s4 ⟨oe,ge,ce⟩=>?_;have hz4:Y9 h4 z TI TO .ellipsis:=s4 _ _ D.i2z.symm (s3.extBut _ _ D.TOz.symm (s2.extBut _ _ D.i1z.symm hz1));have ne:e≠z:=λy=>by subst y;rw[hz4] at ge;cases ge;simp at ce
    exact xv hz4 (by simp) λh5 _ s5=>fin h5 e ⟨oe,s5.extBut _ _ ne ge,ce⟩ λc o c1 c2 c3 c4 g=>s5.extBut _ _ c1 (s4 _ _ c4 (s3.extBut _ _ c2 (s2.extBut _ _ c3 (s1.extBut _ _ c1 g))))
theorem Ex(hh:A.handled=aa (.ref a))(m:mY o)(I ax:ae)(hne:ax≠I)(xs:Array af):
    Walks prog w A I [I,ax,a] [I] xs.size (λi v=>xs[i]?=aa v) (λi h=>(h.IsListIter I ax i/\h.IsList ax xs)/\h.get? a=aa o) where
  sub:=λb hb=>by simp at hb;simp[hb]
  frame:=λ_ _ _ st k=>⟨⟨st.1.1.at λo e=>k I (by simp) o e,st.1.2.at λo e=>k ax (by simp) o e⟩,k a (by simp) _ st.2⟩
  item:=λi s Q E hi st h=>by
    have na:a≠I:=λe=>by
      subst e;obtain⟨o',g,_,d⟩:=st.1.1;obtain⟨us,du,z2⟩:=m;rw[st.2] at g;cases g;rw[d] at du;cases du;simp at z2
    exact TU st.1.1 st.1.2 (x:=xs[i]) (by simp[hi]) λh' t sb=>h _ h' s.toks (by simp[hi]) ⟨⟨t,st.1.2.extBut sb.extBut hne⟩,sb.extBut _ _ na st.2⟩ λb o hb e=>sb.extBut b o (λz=>hb (by simp[z])) e
  done:=λs Q E st h=>C7 (.inr ⟨a,o,hh,st.2,m⟩) st.1.1 st.1.2 (by simp) λh' k=>h h' s.toks λb o hb e=>k b o (λz=>hb (by simp[z])) e
  self:=λ_ _ _ _ st q=>Ue st.1.1 q
theorem PJ{xs:Array (Int×Yg)}(q:Qu A s.heap)(il:s.heap.IsList l (XE xs))
    (h:∀h' tk t',(∀b o,s.heap.get? b=aa o->h'.get? b=aa o)->Q (.int (preSum (numAt xs) xs.size) t') { s with heap:=h',toks:=tk }):bt (bz prog w) A (call (.builtin "sum") [.ref l]) Q E s:=by
  rcases q with q | ⟨a,o,q,g,m⟩
  . exact sum_intListG q il h
  . refine call_sum_walkG (iter_intList il λs2 e st fp ne=>?_);subst e;refine⟨_,_,_,_,_,_,numAt xs,rfl,Ex (A:=A.in1) q m _ l ne (XE xs),⟨st,ap _ g⟩,λb hb=>?_,λ_ _=>intItems_at,λh' tk t' k=>?_⟩
    . rcases dj.mp hb with e | hb
      . exact fp b (by simp[e])
      . rcases dj.mp hb with e | hb
        . exact fp b (by simp[e])
        . have e:b=a:=by simpa using hb
          subst e;exact bg (ap _ g)
    . have:=h h' tk t' (old_kept k);simpa [XE] using this
theorem vZ{c:Int}{Q:Option af->ah->Prop}(hi:i<n)(t:vc s.heap it (lo+(i:Nat)*c) ((n:Int)-(i:Nat)) c)
    (h:∀v h' tk,(∃t,v=.int (lo+i*c) t)->vc h' it (lo+((i+1:Nat):Int)*c) ((n:Int)-((i+1:Nat):Int)) c->(∀b o,b ∉ [it]->s.heap.get? b=aa o->h'.get? b=aa o)->Q (aa v) { s with heap:=h',toks:=tk }):
    bt (bz prog w) A (sy (.ref it)) Q E s:=by
  refine wpAny_pyNext_range_item t ⋯ λh' t' sb=>h _ h' _ ⟨_,rfl⟩ ?_ λb o hb e=>sb.extBut b o (λz=>hb (by simp[z])) e;rw[show ((i+1:Nat):Int)=(i:Int)+1 by simp,show lo+((i:Int)+1)*c=lo+i*c+c by rw[Int.add_mul,XG,Int.add_assoc],show (n:Int)-((i:Int)+1)=n-i-1 by right];exact t'
abbrev bW:=Sum Int bv
def yA:bW->af->Bool
  | .inl k,v=>Uq k v
  | .inr x,v=>X5 x v
def SH(w:bw):bW->Int
  | .inl k=>zg k
  | .inr x=>hashStr w x
theorem dY:∀{k:bW} {v:af},yA k v=ai->(∃i t,k=iw i/\v=Value.int i t) \/ (∃x t,k=xj x/\v=Value.str x t)
  | .inl i,v,h=>by
    obtain⟨t,e⟩:=Value.isInt_shape (k:=i) (v:=v) h;exact .inl ⟨i,t,rfl,e⟩
  | .inr x,v,h=>by
    obtain⟨t,e⟩:=Value.isStrOf_shape (x:=x) (v:=v) h;exact .inr ⟨x,t,rfl,e⟩
theorem Fw(i:Int)(t:Yg):yA (.inl i) (.int i t)=ai:=by simp[yA,Uq]
theorem Fv(x:bv)(t:Yg):yA (.inr x) (.str x t)=ai:=by simp[yA,X5]
theorem OA(a b:Int):decide ((iw a:bW)=iw b)=(a==b):=by
  by_cases e:a=b
  . subst e;simp
  . have h:¬(iw a:bW)=iw b:=λq=>e (iw.inj q);rw[decide_eq_false h];exact(beq_eq_false_iff_ne.mpr e).symm
theorem O7(a b:bv):decide ((xj a:bW)=xj b)=decide (a=b):=by
  by_cases e:a=b
  . subst e;simp
  . have h:¬(xj a:bW)=xj b:=λq=>e (xj.inj q);rw[decide_eq_false h,decide_eq_false e]
theorem O9(a:Int)(b:bv):decide ((iw a:bW)=xj b)=ao:=decide_eq_false (λq=>nomatch q)
theorem O8(a:bv)(b:Int):decide ((xj a:bW)=iw b)=ao:=decide_eq_false (λq=>nomatch q)
def eP(prog:az)(w:bw):PySem.KeyKind prog w bW where
  is:=yA
  hash:=SH w
  inj:=λv a b ha hb=>by
    rcases dY ha with⟨i,t,rfl,rfl⟩ | ⟨x,t,rfl,rfl⟩
    . rcases dY hb with⟨j,u,rfl,e⟩ | ⟨y,u,rfl,e⟩
      . injection e with e1 _;rw[e1]
      . exact nomatch e
    . rcases dY hb with⟨j,u,rfl,e⟩ | ⟨y,u,rfl,e⟩
      . exact nomatch e
      . injection e with e1 _;rw[e1]
  byValue:=λk v h=>by
    rcases dY h with⟨i,t,rfl,rfl⟩ | ⟨x,t,rfl,rfl⟩<;>rfl
  pyHash:=λhv h=>by
    rcases dY hv with⟨i,t,rfl,rfl⟩ | ⟨x,t,rfl,rfl⟩
    . exact To h
    . exact wpAny_pyHash_str h
  eqBool:=λhu hv h=>by
    rcases dY hu with⟨i,t,rfl,rfl⟩ | ⟨x,t,rfl,rfl⟩
    . rcases dY hv with⟨j,u,rfl,rfl⟩ | ⟨y,u,rfl,rfl⟩
      . rw[OA] at h;exact we h
      . rw[O9] at h;exact SeqAt.EqAt.int_str i t y u _ _ _ _ h
    . rcases dY hv with⟨j,u,rfl,rfl⟩ | ⟨y,u,rfl,rfl⟩
      . rw[O8] at h;exact SeqAt.EqAt.str_int x t j u _ _ _ _ h
      . rw[O7] at h;exact wpAny_eqBool_str h
  «strs» := λk x t v h=>by
    rcases dY h with⟨i,u,rfl,e⟩ | ⟨y,u,rfl,e⟩
    . exact nomatch e
    . injection e with e1 _;subst e1;cases v<;>rfl
theorem Bp(prog:az)(w:bw)(i:Int)(t:Yg):(eP prog w).is (.inl i) (.int i t)=ai:=Fw i t
theorem Bo(prog:az)(w:bw)(x:bv)(t:Yg):(eP prog w).is (.inr x) (.str x t)=ai:=Fv x t
inductive V where
  |non | bl (b:Bool) | int (i:Int) | str (x:bv) | byt (b:Array UInt8) | flt (b:UInt64) | ref (a:ae) | ty (n:String)
  deriving DecidableEq
def cO:V->af->Prop
  | .non,u=>u=gc
  | .bl b,u=>u=TV b
  | .int i,u=>∃t,u=Value.int i t
  | .str x,u=>∃t,u=Value.str x t
  | .byt b,u=>∃t,u=XH b t
  | .flt b,u=>∃t,u=Wd b t
  | .ref a,u=>u=Value.ref a
  | .ty n,u=>u=Y1 n
abbrev bV:List V->List af->Prop:=Paired cO
theorem bV.length{xs:List V}{us:List af}(r:bV xs us):xs.length=us.length:=Paired.length r
theorem bV.get:∀{xs:List V} {us:List af} {i:Nat} {x:V},bV xs us->xs[i]?=aa x -> ∃u,us[i]?=aa u/\cO x u
  |_,_,_,_,.nil,e=>by simp at e
  |_,_,0,_,.cons r _,e=>by simp at e;subst e;exact⟨_,rfl,r⟩
  |_,_,i+1,x,.cons _ t,e=>by
    obtain⟨u,h1,h2⟩:=bV.get (i:=i) (x:=x) t (by simpa using e);exact⟨u,by simpa using h1,h2⟩
theorem bV.append:∀{xs ys:List V} {us ws:List af},bV xs us->bV ys ws->bV (xs++ys) (us++ws)
  |_,_,_,_,.nil,s=>s
  |_,_,_,_,.cons r t,s=>.cons r (bV.append t s)
theorem bV.take:∀{xs:List V} {us:List af} (n:Nat),bV xs us->bV (xs.take n) (us.take n)
  |_,_,0,_=>.nil
  |_,_,_+1,.nil=>.nil
  |_,_,n+1,.cons r t=>.cons r (bV.take n t)
theorem bV.drop:∀{xs:List V} {us:List af} (n:Nat),bV xs us->bV (xs.drop n) (us.drop n)
  |_,_,0,r=>r
  |_,_,_+1,.nil=>.nil
  |_,_,n+1,.cons _ t=>bV.drop n t
def pP:Option V->Option af->Prop
  |some v,aa u=>cO v u
  |none,au=>True
  |_,_=>False
variable {κ:Type}
def KV:List (κ×V)->List (κ×af)->Prop:=Paired λ(p:κ×V) (q:κ×af)=>p.1=q.1/\cO p.2 q.2
def kV:bW->V
  | .inl i=>.int i
  | .inr x=>.str x
inductive HO where
  /-- a list -/
  |lst (xs:List V)
  /-- a tuple (never changes) -/
  |tup (xs:List V)
  /-- a dict whose keys are ints and texts;one whose keys are tuples of ints and texts (the empty one is both) -/
  |dK (kvs:List (bW×V)) | dT (ep:Nat) (kvs:List (List bW×V))
  /-- a set of ints: its members,its size -/
  |set (S:Int->Bool) (n:Nat)
  /-- an instance of the class at C,its dict at dx,its attributes -/
  |ins (C dx:ae) (fs:List (bv×V))
  /-- the dict of the instance at x -/
  |own (x:ae)
  /-- the dict of an exception -/
  |xd (fs:List (bv×V))
  /-- a bound method,f of x -/
  |met (f x:ae)
  /-- a range object lo,lo+1,.. below hi -/
  |rng (lo hi:Int)
  /-- a thing that is known to the object (the script;a dict while a loop walks it): read,never written while it is so -/
  |frz (o:jv) (u:HO)
  /-- a code object's table -/
  |tbl (ps:Array af)
  /-- a code object's table whose lambdas are named q;such a lambda's code -/
  |lam (q:bv) | cod (q:bv)
  /-- any other thing,by what is ai of its one object (a def of one's own: SetO a S n:=HO.ext λh=>..) -/
  |ext (φ:dk->Prop)
abbrev Hp:=ae->Option HO
def upd(H:Hp)(a:ae)(o:HO):Hp:=λb=>if b=a then aa o else H b
variable {H:Hp}
theorem bT{o:HO}:upd H a o a=aa o:=by unfold upd;rw[Yh rfl]
theorem bB{o:HO}(h:b≠a):upd H a o b=H b:=by unfold upd;rw[XQ h]
theorem MN{o u:HO}(h:H a=aa o)(h':H b=aa u)(d:o≠u):a≠b:=by
  intro e;subst e;rw[h] at h';exact d (Option.some.inj h')
theorem bL{o:HO}(h:H a=aa o)(h':H b=au):a≠b:=by
  intro e;subst e;rw[h] at h';cases h'
section
variable (P:az)(w:bw)
def cI(H:Hp)(h:dk)(a:ae):HO->Prop
  | .lst xs=>xs.length<=bu /\ ∃(its:List af) (n:Nat),bV xs its/\h.get? a=aa { cls:=.type "list",data:=.seq its.toArray n }
  | .tup xs=>xs.length<=bu /\ ∃its:List af,bV xs its/\IsTup h a its.toArray
  | .dK kvs=>kvs.length<=bu/\(a==ji)=ao /\ ∃vs,KV kvs vs/\h.DictOf (eP P w) a vs
  | .dT ep kvs=>kvs.length<=bu/\(a==ji)=ao /\ ∃xs:List (List bW×ae×af),
      Paired (λ(p:List bW×V) (q:List bW×ae×af)=>p.1=q.1/\H q.2.1=aa (.tup (p.1.map kV))/\cO p.2 q.2.2) kvs xs /\
      ∃o es,h.get? a=aa o/\o.ExactDict/\o.data=.dict es ep/\es.toList=xs.map (entryOfKey (Tp (eP P w)))/\(xs.map (·.1)).Nodup
  | .set S n=>h.SetOf (Wy P w) a S n
  | .ins C dx fs=>H dx=aa (.own a)/\fs.length<=1000/\dx≠a/\h.get? a=aa (wf C dx) /\
      ∃mA,h.Ns1 dx mA/\(∀f,pP (fs.lookup f) (mA f))/\Vn mA (fs.map (·.1))
  | .own _=>∃o,h.get? a=aa o
  | .xd fs=>∃mA,h.Ns1 a mA /\ ∀f,pP (fs.lookup f) (mA f)
  | .rng lo hi=>∃t u v,h.get? a=aa { cls:=.type "range",data:=.fields #[.int lo t,.int hi u,.int 1 v] }
  | .frz o u=>h.get? a=aa o/\cI H h a u
  | .tbl ps=>h.get? a=aa { cls:=.none,data:=.fields ps }
  | .lam q=>∃ps:Array af,h.get? a=aa (W.tabObj ps)/\TriplesOk ps.toList /\ ∀p:lv,codeAmong p ps.toList=au \/ ∃c,codeAmong p ps.toList=aa (.ref c)/\H c=aa (.cod q)
  | .cod q=>h.CodeRec (.ref a) q
  | .met f x=>h.get? a=aa (We (.ref f) (.ref x))
  | .ext φ=>φ h/\(∃o,h.get? a=aa o) /\ ∀h1 h2:dk,φ h1->(∀o,h1.get? a=aa o->h2.get? a=aa o)->φ h2
def lN(H:Hp)(h:dk):Prop:=∀a o,H a=aa o->cI P w H h a o
end
variable {H':Hp}
section
variable {o:HO}
theorem cI.lt(x:cI P w H h a o):a<h.objs.size:=by
  cases o with
  |lst xs=>obtain⟨_,_,_,_,e⟩:=x;exact bg e
  |tup xs=>obtain⟨_,_,_,p⟩:=x;exact p.lt
  |dK kvs=>obtain⟨_,_,_,_,o,_,_,e,_⟩:=x;exact bg e
  |dT ep kvs=>obtain⟨_,_,_,_,o,_,e,_⟩:=x;exact bg e
  |set S n=>obtain⟨o,_,_,_,e,_⟩:=x;exact bg e
  |ins C dx fs=>obtain⟨_,_,_,e,_⟩:=x;exact bg e
  |own y=>obtain⟨_,e⟩:=x;exact bg e
  |xd fs=>obtain⟨_,⟨_,_,_,e,_⟩,_⟩:=x;exact bg e
  |rng lo hi=>obtain⟨_,_,_,e⟩:=x;exact bg e
  |frz ob u=>obtain⟨e,_⟩:=x;exact bg e
  |tbl ps=>exact bg (show h.get? a=aa _ from x)
  |lam q=>obtain⟨_,e,_⟩:=x;exact bg e
  |cod q=>obtain⟨_,_,_,_,e,e2,_⟩:=x;cases e;exact bg e2
  |met f y=>exact bg (show h.get? a=aa _ from x)
  |ext φ=>obtain⟨_,⟨_,e⟩,_⟩:=x;exact bg e
theorem Paired.mapP{α β:Type}{F G:α->β->Prop}:∀{l₁:List α} {l₂:List β},Paired F l₁ l₂->(∀a b,F a b->G a b)->Paired G l₁ l₂
  |_,_,.nil,_=>.nil
  |_,_,.cons r t,f=>.cons (f _ _ r) (Paired.mapP t f)
theorem cI.stay(x:cI P w H h a o)(k:∀b u,(b=a \/ H b=aa (.own a))->h.get? b=aa u->h'.get? b=aa u)
    (ho:∀b,H b=aa (.own a)->H' b=aa (.own a)) (ht:∀b xs,H b=aa (.tup xs)->H' b=aa (.tup xs)) (hc:∀b q,H b=aa (.cod q)->H' b=aa (.cod q)):cI P w H' h' a o:=by
  induction o with
  |lst xs=>obtain⟨z,its,n,r,e⟩:=x;exact⟨z,its,n,r,k _ _ (.inl rfl) e⟩
  |tup xs=>obtain⟨z,its,r,ob,e,c⟩:=x;exact⟨z,its,r,ob,k _ _ (.inl rfl) e,c⟩
  |dK kvs=>obtain⟨z,y,vs,r,ob,es,ep,e,c⟩:=x;exact⟨z,y,vs,r,ob,es,ep,k _ _ (.inl rfl) e,c⟩
  |dT ep kvs=>
    obtain⟨z,y,xs,r,ob,es,e,c⟩:=x;exact⟨z,y,xs,Paired.mapP r λp q z=>⟨z.1,ht _ _ z.2.1,z.2.2⟩,ob,es,k _ _ (.inl rfl) e,c⟩
  |set S n=>obtain⟨ob,es,ep,t,e,c⟩:=x;exact⟨ob,es,ep,t,k _ _ (.inl rfl) e,c⟩
  |ins C dx fs=>
    obtain⟨d,z,ne,e,mA,⟨od,es,ep,e2,c⟩,r⟩:=x;exact⟨ho _ d,z,ne,k _ _ (.inl rfl) e,mA,⟨od,es,ep,k _ _ (.inr d) e2,c⟩,r⟩
  |own y=>obtain⟨ob,e⟩:=x;exact⟨ob,k _ _ (.inl rfl) e⟩
  |xd fs=>obtain⟨mA,⟨od,es,ep,e,c⟩,r⟩:=x;exact⟨mA,⟨od,es,ep,k _ _ (.inl rfl) e,c⟩,r⟩
  |rng lo hi=>obtain⟨t,u,v,e⟩:=x;exact⟨t,u,v,k _ _ (.inl rfl) e⟩
  |frz ob u ih=>obtain⟨e,q⟩:=x;exact⟨k _ _ (.inl rfl) e,ih q⟩
  |tbl ps=>
    have e:h.get? a=aa { cls:=.none,data:=.fields ps }:=x;show h'.get? a=aa { cls:=.none,data:=.fields ps };exact k a _ (.inl rfl) e
  |lam q=>
    obtain⟨ps,e,t,f⟩:=x;exact⟨ps,k _ _ (.inl rfl) e,t,λp=>(f p).imp_right λ⟨c,e1,e2⟩=>⟨c,e1,hc _ _ e2⟩⟩
  |cod q=>
    obtain⟨_,o,vs,t,e,e2,e3⟩:=x;cases e;exact⟨a,o,vs,t,rfl,k _ _ (.inl rfl) e2,e3⟩
  |met f y=>
    have e:h.get? a=aa (We (.ref f) (.ref y)):=x;show h'.get? a=aa (We (.ref f) (.ref y));exact k a _ (.inl rfl) e
  |ext φ=>obtain⟨p,⟨o,e⟩,st⟩:=x;exact⟨st _ _ p λo q=>k _ _ (.inl rfl) q,⟨o,k _ _ (.inl rfl) e⟩,st⟩
theorem lN.lt(x:lN P w H h)(e:H a=aa o):a<h.objs.size:=(x a o e).lt
theorem lN.fresh(x:lN P w H h)(e:h.objs.size<=a):H a=au:=by
  cases q:H a with
  |none=>rfl
  |some u=>exact absurd (fg (x.lt q) e) (qh _)
theorem lN.kept(x:lN P w H h)(k:∀b u,h.get? b=aa u->h'.get? b=aa u):lN P w H h':=λa o e=>
  (x a o e).stay (λb u _ q=>k b u q) (λ_ q=>q) (λ_ _ q=>q) λ_ _ q=>q
theorem lN.laid(x:lN P w H h)(k:∀b u,h.get? b=aa u->h'.get? b=aa u)(hp:h.objs.size<=a)(new:cI P w (upd H a o) h' a o):lN P w (upd H a o) h':=λb u e=>by
  have hn:=x.fresh hp;by_cases hb:b=a
  . subst hb;rw[bT] at e;cases e;exact new
  . rw[bB hb] at e;exact(x b u e).stay (λc v _ q=>k c v q) (λc q=>by rw[bB (bL q hn)];exact q) (λc xs q=>by rw[bB (bL q hn)];exact q) λc xs q=>by rw[bB (bL q hn)];exact q
end
def Rd(H:Hp)(a:ae)(u:HO):Prop:=H a=aa u \/ ∃o,H a=aa (.frz o u)
theorem Rd.ok{u:HO}(r:Rd H a u)(x:lN P w H h):cI P w H h a u:=by
  rcases r with r | ⟨o,r⟩
  . exact x a u r
  . obtain⟨_,q⟩:=x a _ r;exact q
def GP:Option HO->Prop
  |some (.lst _)=>True
  |some (.dK _)=>True
  |some (.dT _ _)=>True
  |some (.set _ _)=>True
  |some (.ins _ _ _)=>True
  |some (.ext _)=>True
  |_=>False
section
variable {x e:ae}{o':HO}
theorem lN.write(ok:lN P w H h)(mu:GP (H x))(he:e=x \/ H e=aa (.own x))(k:∀b u,b≠e->h.get? b=aa u->h'.get? b=aa u)(heo:∃u,h'.get? e=aa u)
    (new:cI P w (upd H x o') h' x o'):lN P w (upd H x o') h':=λb u q=>by
  have nown:∀c y,H c=aa (.own y)->c≠x:=λc y r z=>by subst z;rw[r] at mu;exact mu
  have ntup:∀c xs,H c=aa (.tup xs)->c≠x:=λc xs r z=>by subst z;rw[r] at mu;exact mu
  have ncod:∀c q,H c=aa (.cod q)->c≠x:=λc xs r z=>by subst z;rw[r] at mu;exact mu
  by_cases hb:b=x
  . subst hb;rw[bT] at q;cases q;exact new
  . rw[bB hb] at q;by_cases hbe:b=e
    . have q':H b=aa (.own x):=by
        rcases he with z | z
        . exact absurd (hbe.trans z) hb
        . rw[hbe];exact z
      rw[q] at q';cases q';obtain⟨v,hv⟩:=heo;exact⟨v,by rw[hbe];exact hv⟩
    . refine(ok b u q).stay (λc v hc r=>k c v ?_ r) (λc r=>by rw[bB (nown c b r)];exact r) (λc xs r=>by rw[bB (ntup c xs r)];exact r) λc xs r=>by rw[bB (ncod c xs r)];exact r
      rcases hc with rfl | hc
      . exact hbe
      . rintro rfl;rcases he with z | z
        . exact nown c b hc z
        . rw[hc] at z;cases z;exact hb rfl
end
structure Un(fs ex:List ae)(H H':Hp)(h h':dk):Prop where
  keep:∀b o,h.get? b=aa o->H b=au->b ∉ fs->b ∉ ex->h'.get? b=aa o
  slot:∀b o,h.get? b=aa o->H b=au->b∈fs->b ∉ ex -> ∃sl,h'.get? b=aa { o with slots:=sl }
  free:∀b o,h.get? b=aa o->H b=au->b ∉ ex->H' b=au
  there:∀b o,h.get? b=aa o->b ∉ ex -> ∃o',h'.get? b=aa o'
  tups:∀b xs,H b=aa (.tup xs)->H' b=aa (.tup xs)
  frzs:∀b o u,H b=aa (.frz o u)->H' b=aa (.frz o u)
  tbls:∀b ps,H b=aa (.tbl ps) -> ∃more,H' b=aa (.tbl (ps++more))
section
variable {fs fs' ex ex':List ae}{H1 H2:Hp}{h1 h2:dk}{x e:ae}{o:HO}
theorem Un.any(u:Un fs ex H H1 h h1){ob:jv}(q:h.get? b=aa ob)(n:H b=au)(hx:b ∉ ex):∃sl,h1.get? b=aa { ob with slots:=sl }:=by
  by_cases hb:b∈fs
  . exact u.slot b ob q n hb hx
  . exact⟨ob.slots,u.keep b ob q n hb hx⟩
theorem Un.kept(k:∀b u,h.get? b=aa u->h'.get? b=aa u):Un fs ex H H h h':=
  ⟨λb ob q _ _ _=>k b ob q,λb ob q _ _ _=>⟨ob.slots,k b ob q⟩,λ_ _ _ n _=>n,λb ob q _=>⟨ob,k b ob q⟩,λ_ _ q=>q,λ_ _ _ q=>q,λ_ ps q=>⟨#[],by rw[q];simp⟩⟩
theorem Un.refl:Un fs ex H H h h:=Un.kept λ_ _ q=>q
theorem Un.laid(k:∀b u,h.get? b=aa u->h'.get? b=aa u)(hp:h.objs.size<=a)(hn:H a=au):Un fs ex H (upd H a o) h h' where
  keep:=λb u q _ _ _=>k b u q
  slot:=λb u q _ _ _=>⟨u.slots,k b u q⟩
  free:=λb u q n _=>by rw[bB (gn (fg (bg q) hp))];exact n
  there:=λb u q _=>⟨u,k b u q⟩
  tups:=λb xs q=>by rw[bB (bL q hn)];exact q
  frzs:=λb u xs q=>by rw[bB (bL q hn)];exact q
  tbls:=λb ps q=>⟨#[],by rw[bB (bL q hn),q];simp⟩
theorem Un.write(mu:GP (H x))(he:e=x \/ H e=aa (.own x))(k:∀b u,b≠e->h.get? b=aa u->h'.get? b=aa u)(heo:∃u,h'.get? e=aa u):Un fs ex H (upd H x o) h h':=by
  have hx:∀b,H b=au->b≠x:=λb n z=>by subst z;rw[n] at mu;exact mu
  have hb:∀b,H b=au->b≠e:=λb n z=>by
    subst z;rcases he with r | r
    . exact hx b n r
    . rw[n] at r;cases r
  have hm:∀b u,H b=aa u -> ¬GP (aa u)->b≠x:=λb u q nm z=>by subst z;rw[q] at mu;exact nm mu
  refine⟨λb u q n _ _=>k b u (hb b n) q,λb u q n _ _=>⟨u.slots,k b u (hb b n) q⟩,λb u q n _=>by rw[bB (hx b n)];exact n,λb u q _=>?_,
    λb xs q=>by rw[bB (hm b _ q λz=>z)];exact q,λb u xs q=>by rw[bB (hm b _ q λz=>z)];exact q,λb ps q=>⟨#[],by rw[bB (hm b _ q λz=>z),q];simp⟩⟩
  by_cases hbe:b=e
  . subst hbe;exact heo
  . exact⟨u,k b u hbe q⟩
end
def trk(h:dk)(H:Hp):List ae:=(gx h.objs.size).filter λa=>(H a).isSome
def A6(h:dk)(H:Hp):dk:=UN h (trk h H)
theorem G3(h:dk)(H:Hp):(A6 h H).objs.size=h.objs.size:=W.hideAll_size _ _
theorem J9(e:h.get? b=aa o)(n:H b=au):(A6 h H).get? b=aa o:=
  X6 _ e λhm=>by
    have q:(H b).isSome=ai:=(TW.mp hm).2;rw[n] at q;simp at q
theorem Ks(e:(A6 h H).get? b=aa o):h.get? b=aa o/\H b=au:=by
  have e':h.get? b=aa o:=Vo (trk h H) e;refine⟨e',?_⟩;cases q:H b with
  |none=>rfl
  |some x=>
    have hm:b∈trk h H:=TW.mpr ⟨xp.mpr (bg e'),by simp[q]⟩;have z:(A6 h H).get? b=au:=W.hideAll_none (trk h H) hm;rw[z] at e;cases e
structure Mod(K:ak)(mg:bv->Option af)(base:dk):Prop where
  kin:K.In base
  glob:base.Ns jo mg
  blt:∃mb,base.Ns WE mb /\ ∀x:bv,x ≠ "__name__" -> mb x=oy x
  nolimit:base.NoLimit
/-- the context: a def's Yv (or a comprehension's block) running. base: fixed through the YC law;s₀,HZ: the entry;outer: the frames whose slots others may change (a def's callers);stack: all frames that run;
   ex: iterators that were made ahead of the entry and are walked here (a comprehension's);fn: the names whose cells were made at the entry (a def: all;a comprehension's block: its own);calm: not within an except suite;pn: pk that every state bears;xe: what is wanted of an exception that leaves the code -/
structure Cx where
  prog:az
  w:bw
  K:ak
  mg:bv->Option af
  base:dk
  A:dh
  N:List bv
  s₀:ah
  HZ:Hp
  env:zd
  outer:List zd
  stack:List zd
  ex:List ae
  fn:bv->Bool
  calm:Bool
  pn:List (ae×jv)
  xe:af->ah->Prop
  hs:List ae
def frs(l:List zd):List ae:=l.filterMap (·.frame)
abbrev Cx.fs(X:Cx):List ae:=frs X.outer
def R4(sc:Scope)(x:bv):Prop:=sc.names.lookup x=aa .local \/ sc.names.lookup x=aa .cell \/ sc.names.lookup x=aa .free
def GS(sc:Scope)(x:bv):Prop:=sc.names.lookup x=aa .local \/ sc.names.lookup x=aa .cell
def Sd(env:zd)(h:dk)(m:bv->Option af)(x:bv)(u:af):Prop:=
  (env.kindOf x=aa .local/\m x=aa u) \/ ((env.kindOf x=aa .cell \/ env.kindOf x=aa .free) /\ ∃c,env.cells.lookup x=aa c/\h.IsCell c (aa u))
structure Cx.Ok(X:Cx):Prop where
  mod:Mod X.K X.mg X.base
  kind:X.env.scope.kind=.function
  glob:X.env.globals=jo
  blt:X.env.builtins=WE
  above:X.s₀.heap.objs.size<=X.env.locals
  inj:∀x y c,X.env.cells.lookup x=aa c->X.env.cells.lookup y=aa c->x=y
  has:∀x,(X.env.kindOf x=aa .cell \/ X.env.kindOf x=aa .free) -> ∃c,X.env.cells.lookup x=aa c
  cab:∀x c,X.fn x=ai->X.env.cells.lookup x=aa c->X.s₀.heap.objs.size<=c
  hd:X.calm=ai->X.A.handled=au
  frames:X.A.frames=aa X.stack
  stk:X.stack=X.outer \/ (X.stack=X.env::X.outer/\X.env.frame=aa X.env.locals)
  exf:∀b∈X.ex,b≠X.env.locals /\ ∀x c,X.env.cells.lookup x=aa c->c≠b
  bs:∀b o,X.base.get? b=aa o->X.s₀.heap.get? b=aa o/\X.HZ b=au
  bsz:X.base.objs.size<=X.s₀.heap.objs.size
  noex:∀b o,X.base.get? b=aa o->b ∉ X.ex
  exfs:∀b∈X.ex,b ∉ X.fs
  funs:X.s₀.heap.FunFrames X.base X.outer
  frf:∀b∈X.fs,X.HZ b=au
  hq:X.A.handled=au \/ ∃a,a∈X.hs/\X.A.handled=aa (.ref a)
structure Inv(X:Cx)(pk:List (ae×jv))(σ:List (Option V))(H:Hp)(s:ah):Prop where
  ok:X.Ok
  os:s.os=X.s₀.os
  bare:xk s.gens
  base:Un X.fs X.ex X.HZ H X.s₀.heap s.heap
  loc:∃m,s.heap.Ns X.env.locals m /\ ∀(i:Nat) (x:bv) (v:V),X.N[i]?=aa x->σ[i]?=aa (aa v)->R4 X.env.scope x -> ∃u,cO v u/\Sd X.env s.heap m x u
  cell:∀x c,X.env.cells.lookup x=aa c -> ∃v,s.heap.IsCell c v
  free:H X.env.locals=au
  freeC:∀x c,X.env.cells.lookup x=aa c->H c=au
  pin:∀p∈X.pn++pk,s.heap.get? p.1=aa p.2/\H p.1=au/\p.1≠X.env.locals/\p.1 ∉ X.fs /\ ∀v,p.2.data ≠ .cell v
  hok:lN X.prog X.w H s.heap
  len:σ.length=X.N.length
  mild:∀a∈X.hs,∃o u,H a=aa (.frz o u)/\mY o
variable {v:V}{g':Array Tq}{t' j:Nat}{d':Xa}{ch:List ae}{s':ah}{X:Cx}
section
variable {σ:List (Option V)}
theorem Cx.Ok.nofr(ok:X.Ok)(e:X.base.get? b=aa o):b ∉ X.fs:=λhb=>by
  have:=(ok.funs.mem hb).1;rw[e] at this;cases this
theorem Inv.bs(I:Inv X pk σ H s):∀b o,X.base.get? b=aa o->s.heap.get? b=aa o/\H b=au:=λb o e=>
  ⟨I.base.keep b o (I.ok.bs b o e).1 (I.ok.bs b o e).2 (I.ok.nofr e) (I.ok.noex b o e),I.base.free b o (I.ok.bs b o e).1 (I.ok.bs b o e).2 (I.ok.noex b o e)⟩
theorem Inv.qu(I:Inv X pk σ H s):Qu X.A s.heap:=by
  rcases I.ok.hq with e | ⟨a,ha,e⟩
  . exact .inl e
  . obtain⟨o,u,g,m⟩:=I.mild a ha;obtain⟨ho,_⟩:=(show cI X.prog X.w H s.heap a (.frz o u) from I.hok a _ g);exact .inr ⟨a,o,e,ho,m⟩
theorem Inv.bk(I:Inv X pk σ H s):∀b o,X.base.get? b=aa o->s.heap.get? b=aa o:=λb o e=>(I.bs b o e).1
theorem Inv.mod(I:Inv X pk σ H s):Mod X.K X.mg X.base:=I.ok.mod
theorem Inv.kIn(I:Inv X pk σ H s):X.K.In s.heap:=I.ok.mod.kin.keeps I.bk
theorem Inv.lt(I:Inv X pk σ H s):X.env.locals<s.heap.objs.size:=let ⟨_,hn,_⟩:=I.loc;hn.lt
theorem Inv.sz(I:Inv X pk σ H s):X.s₀.heap.objs.size<=s.heap.objs.size:=ly I.ok.above (Vp I.lt)
theorem Inv.nofs(I:Inv X pk σ H s)(h:s.heap.objs.size<=a):a ∉ X.fs:=λhb=>by
  obtain⟨_,o,ho,_⟩:=I.ok.funs.mem hb;exact absurd (fg (bg ho) (ly I.sz h)) (qh _)
theorem Inv.cne(I:Inv X pk σ H s):∀x c,X.env.cells.lookup x=aa c->c≠X.env.locals:=λx c e z=>by
  obtain⟨v,o,ho,hd⟩:=I.cell x c e;obtain⟨m,⟨o',es,ep,ho',hd',_⟩,_⟩:=I.loc;rw[z,ho'] at ho;cases ho;rw[hd'] at hd;cases hd
theorem Inv.funs(I:Inv X pk σ H s):s.heap.FunFrames X.base X.outer:=by
  have all:∀(l:List zd),(∀b∈frs l,b∈X.fs)->X.s₀.heap.FunFrames X.base l->s.heap.FunFrames X.base l:=by
    intro l;induction l with
    |nil=>intro _ _;trivial
    |cons env r ih=>
      intro hs hl;obtain⟨hk,⟨L,o,hf,hn,ho,hd⟩,hr⟩:=hl;have hL:L∈X.fs:=hs L (by unfold frs;rw[xc,hf];exact di);obtain⟨sl,e⟩:=I.base.slot L o ho (I.ok.frf L hL) hL λz=>I.ok.exfs L z hL;exact⟨hk,⟨L,_,hf,hn,e,hd⟩,ih (λb hb=>hs b (by unfold frs;rw[xc,hf];exact df _ hb)) hr⟩
  exact all X.outer (λ_ hb=>hb) I.ok.funs
theorem Inv.stack(I:Inv X pk σ H s):s.heap.FunFrames X.base X.stack:=by
  rcases I.ok.stk with e | ⟨e,hf⟩
  . rw[e];exact I.funs
  . rw[e];obtain⟨m,hn,_⟩:=I.loc;refine .cons (by rw[I.ok.kind];decide) hf hn ?_ I.funs;exact Heap.get?_none_of_le (ly I.ok.bsz I.ok.above)
theorem Inv.stkSub(I:Inv X pk σ H s):∀b∈frs X.stack,b∈X.env.locals::X.fs:=λb hb=>by
  rcases I.ok.stk with e | ⟨e,hf⟩
  . rw[e] at hb;exact df _ hb
  . rw[e] at hb;unfold frs at hb;rw[xc,hf] at hb;exact hb
theorem Inv.stkFree(I:Inv X pk σ H s):∀b∈frs X.stack,H b=au:=λb hb=>by
  rcases dj.mp (I.stkSub b hb) with e | hb
  . rw[e];exact I.free
  . obtain⟨_,o,ho,_⟩:=I.ok.funs.mem hb;exact I.base.free b o ho (I.ok.frf b hb) λz=>I.ok.exfs b z hb
theorem Inv.step(I:Inv X pk σ H s)
    (hch:∀b∈ch,(b∈X.ex \/ X.s₀.heap.objs.size<=b)/\b≠X.env.locals/\(∀x c,X.env.cells.lookup x=aa c->c≠b) /\ ∀p∈X.pn++pk,p.1≠b)
    (keep:∀b o,b≠X.env.locals->b ∉ X.fs->b ∉ ch->s.heap.get? b=aa o->H b=au->h'.get? b=aa o)
    (slot:∀b o,b≠X.env.locals->b∈X.fs->b ∉ ch->s.heap.get? b=aa o->H b=au -> ∃sl,h'.get? b=aa { o with slots:=sl }) (free:∀b o,b ∉ ch->s.heap.get? b=aa o->H b=au->H' b=au)
    (there:∀b o,b ∉ ch->s.heap.get? b=aa o -> ∃o',h'.get? b=aa o')
    (tups:∀b xs,H b=aa (.tup xs)->H' b=aa (.tup xs)) (frzs:∀b o u,H b=aa (.frz o u)->H' b=aa (.frz o u)) (tbls:∀b ps,H b=aa (.tbl ps) -> ∃more,H' b=aa (.tbl (ps++more)))
    (ns:∀m,s.heap.Ns X.env.locals m->h'.Ns X.env.locals m) (hok:lN X.prog X.w H' h') (hg:xk g'):
    Inv X pk σ H' { s with heap:=h',gens:=g',drawn:=d',toks:=t' }:=by
  have neL:∀b o,X.s₀.heap.get? b=aa o->b≠X.env.locals:=λb o e=>gn (fg (bg e) I.ok.above);have neC:∀b o,X.s₀.heap.get? b=aa o->b ∉ X.ex->b ∉ ch:=λb o e hx hb=>by
    rcases(hch b hb).1 with z | z
    . exact hx z
    . exact absurd (fg (bg e) z) (qh _)
  have cellK:∀x c,X.env.cells.lookup x=aa c -> ∀v,s.heap.IsCell c v->h'.IsCell c v:=λx c e v ⟨o,ho,hd⟩=>by
    have nch:c ∉ ch:=λz=>(hch c z).2.2.1 x c e rfl;by_cases hc:c∈X.fs
    . obtain⟨sl,q⟩:=slot c o (I.cne x c e) hc nch ho (I.freeC x c e);exact⟨_,q,hd⟩
    . exact⟨o,keep c o (I.cne x c e) hc nch ho (I.freeC x c e),hd⟩
  refine⟨I.ok,I.os,hg,⟨λb o e n hb hx=>?_,λb o e n hb hx=>?_,λb o e n hx=>?_,λb o e hx=>?_,λb xs e=>tups b xs (I.base.tups b xs e),λb o xs e=>frzs b o xs (I.base.frzs b o xs e),λb ps e=>?_⟩,?_,λx c e=>?_,?_,λx c e=>?_,λp hp=>?_,hok,I.len,λa ha=>let ⟨o,u,g,m⟩:=I.mild a ha;⟨o,u,frzs a o u g,m⟩⟩
  . exact keep b o (neL b o e) hb (neC b o e hx) (I.base.keep b o e n hb hx) (I.base.free b o e n hx)
  . obtain⟨sl,e1⟩:=I.base.slot b o e n hb hx;obtain⟨sl',e2⟩:=slot b _ (neL b o e) hb (neC b o e hx) e1 (I.base.free b o e n hx);exact⟨sl',e2⟩
  . obtain⟨o',e1⟩:=I.base.there b o e hx;exact free b o' (neC b o e hx) e1 (I.base.free b o e n hx)
  . obtain⟨o',e1⟩:=I.base.there b o e hx;exact there b o' (neC b o e hx) e1
  . obtain⟨m1,e1⟩:=I.base.tbls b ps e;obtain⟨m2,e2⟩:=tbls b _ e1;exact⟨m1++m2,by rw[e2,Array.append_assoc]⟩
  . obtain⟨m,hn,hl⟩:=I.loc;refine⟨m,ns m hn,λi x v e1 e2 e3=>?_⟩;obtain⟨u,r,l⟩:=hl i x v e1 e2 e3;refine⟨u,r,?_⟩;rcases l with l | ⟨k,c,e,z⟩
    . exact .inl l
    . exact .inr ⟨k,c,e,cellK x c e _ z⟩
  . obtain⟨v,z⟩:=I.cell x c e;exact⟨v,cellK x c e v z⟩
  . obtain⟨m,⟨o,_,_,ho,_⟩,_⟩:=I.loc;exact free _ o (λz=>(hch _ z).2.1 rfl) ho I.free
  . obtain⟨v,o,ho,hd⟩:=I.cell x c e;exact free c o (λz=>(hch c z).2.2.1 x c e rfl) ho (I.freeC x c e)
  . obtain⟨e,n,ne,nf,d⟩:=I.pin p hp;have nch:p.1 ∉ ch:=λz=>(hch p.1 z).2.2.2 p hp rfl;exact⟨keep p.1 p.2 ne nf nch e n,free p.1 p.2 nch e n,ne,nf,d⟩
theorem Inv.un(I:Inv X pk σ H s)(u:Un X.fs [] H H' s.heap h')(hok:lN X.prog X.w H' h'):Inv X pk σ H' { s with heap:=h',toks:=t' }:=by
  obtain⟨m,⟨o,es,ep,ho,r⟩,_⟩:=id I.loc;obtain⟨sl,hL⟩:=u.any ho I.free (by simp);exact I.step (g':=s.gens) (d':=s.drawn) (ch:=[]) (λ_ z=>nomatch z) (λb o _ hb _ e n=>u.keep b o e n hb (by simp)) (λb o _ hb _ e n=>u.slot b o e n hb (by simp)) (λb o _ e n=>u.free b o e n (by simp)) (λb o _ e=>u.there b o e (by simp)) u.tups u.frzs u.tbls (λm' hm=>by
    obtain⟨o',es',ep',ho',r'⟩:=hm;rw[ho] at ho';cases ho';exact⟨_,es',ep',hL,r'⟩) hok I.bare
theorem Inv.call(I:Inv X pk σ H s)(u:Un (frs X.stack) ch H H' s.heap h')(hok:lN X.prog X.w H' h')(hg:xk g')
    (hch:∀b∈ch,(b∈X.ex \/ X.s₀.heap.objs.size<=b)/\b≠X.env.locals/\(∀x c,X.env.cells.lookup x=aa c->c≠b) /\ ∀p∈X.pn++pk,p.1≠b):
    Inv X pk σ H' { s with heap:=h',gens:=g',drawn:=d',toks:=t' }:=by
  obtain⟨m,⟨o,es,ep,ho,r⟩,_⟩:=id I.loc;obtain⟨sl,hL⟩:=u.any ho I.free λz=>(hch _ z).2.1 rfl;exact I.step (ch:=ch) hch (λb o hL hb hc e n=>u.keep b o e n (λz=>(dj.mp (I.stkSub b z)).elim hL hb) hc) (λb o _ _ hc e n=>u.any e n hc) (λb o hc e n=>u.free b o e n hc) (λb o hc e=>u.there b o e hc) u.tups u.frzs u.tbls (λm' hm=>by
    obtain⟨o',es',ep',ho',r'⟩:=hm;rw[ho] at ho';cases ho';exact⟨_,es',ep',hL,r'⟩) hok hg
theorem Inv.turned(I:Inv X pk σ H s)(k:∀b o,b≠it->s.heap.get? b=aa o->h'.get? b=aa o)(hn:H it=au)(hL:it≠X.env.locals)
    (h1:it∈X.ex \/ X.s₀.heap.objs.size<=it) (h2:∀x c,X.env.cells.lookup x=aa c->c≠it) (h3:∀p∈X.pn++pk,p.1≠it):Inv X pk σ H { s with heap:=h',toks:=t' }:=by
  have nit:∀b u,H b=aa u->b≠it:=λb u e z=>by rw[z,hn] at e;cases e
  refine I.step (g':=s.gens) (d':=s.drawn) (ch:=[it]) (λb hb=>?_) (λb o _ _ hc e _=>k b o (λz=>hc (by simp[z])) e) (λb o _ _ hc e _=>⟨o.slots,k b o (λz=>hc (by simp[z])) e⟩) (λ_ _ _ _ n=>n)
    (λb o hc e=>⟨o,k b o (λz=>hc (by simp[z])) e⟩) (λ_ _ e=>e) (λ_ _ _ e=>e) (λb ps e=>⟨#[],by rw[e];simp⟩) (λm hm=>?_) (λb u e=>?_) I.bare
  . have e:b=it:=by simpa using hb
    subst e;exact⟨h1,hL,h2,h3⟩
  . obtain⟨o,es,ep,ho,r⟩:=hm;exact⟨o,es,ep,k _ o (Ne.symm hL) ho,r⟩
  . refine(I.hok b u e).stay (λc v hc q=>k c v ?_ q) (λ_ q=>q) (λ_ _ q=>q) λ_ _ q=>q;rcases hc with z | z
    . rw[z];exact nit b u e
    . exact nit c _ z
theorem Inv.tok(I:Inv X pk σ H s)(t:Nat):Inv X pk σ H { s with toks:=t }:=I.un (h':=s.heap) (t':=t) Un.refl I.hok
theorem Inv.kept{t':Nat}(I:Inv X pk σ H s)(k:∀b u,s.heap.get? b=aa u->h'.get? b=aa u):Inv X pk σ H { s with heap:=h',toks:=t' }:=I.un (Un.kept k) (I.hok.kept k)
theorem Inv.laid{a:ae}{o:HO}{t':Nat}(I:Inv X pk σ H s)(k:∀b u,s.heap.get? b=aa u->h'.get? b=aa u)(hp:s.heap.objs.size<=a)(new:cI X.prog X.w (upd H a o) h' a o):
    Inv X pk σ (upd H a o) { s with heap:=h',toks:=t' }:=I.un (Un.laid k hp (I.hok.fresh hp)) (I.hok.laid k hp new)
theorem Inv.write{x e:ae}{o:HO}{t':Nat}(I:Inv X pk σ H s)(mu:GP (H x))(he:e=x \/ H e=aa (.own x))(k:∀b u,b≠e->s.heap.get? b=aa u->h'.get? b=aa u)(heo:∃u,h'.get? e=aa u)
    (new:cI X.prog X.w (upd H x o) h' x o):Inv X pk σ (upd H x o) { s with heap:=h',toks:=t' }:=I.un (Un.write mu he k heo) (I.hok.write mu he k heo new)
theorem Inv.pins_of{pins':List (ae×jv)}(I:Inv X pk σ H s)(h:∀p∈pins',s.heap.get? p.1=aa p.2/\H p.1=au/\p.1≠X.env.locals/\p.1 ∉ X.fs /\ ∀v,p.2.data ≠ .cell v):Inv X pins' σ H s:=
  ⟨I.ok,I.os,I.bare,I.base,I.loc,I.cell,I.free,I.freeC,λp hp=>(fj.mp hp).elim (λz=>I.pin p (gq _ z)) (h p),I.hok,I.len,I.mild⟩
theorem vR(hN:N.Nodup){x:bv}(a:N[i]?=aa x)(b:N[j]?=aa x):i=j:=by
  obtain⟨h1,e1⟩:=cf.mp a;obtain⟨h2,e2⟩:=cf.mp b;exact(VP hN).mp (e1.trans e2.symm)
theorem xP{x:bv}{Q:Unit->ah->Prop}(I:Inv X pk σ H s)(hN:X.N.Nodup)(hi:X.N[i]?=aa x)(hx:GS X.env.scope x)(r:cO v u)
    (h:∀s',Inv X pk (σ.set i (aa v)) H s'->(∃a,oz a s.heap s'.heap/\(a=X.env.locals \/ X.env.cells.lookup x=aa a))->Q () s') (hf:X.fn x=ai \/ X.env.scope.names.lookup x=aa .local:=by first | exact .inl rfl | exact .inr rfl | assumption):bt M A (Xb X.env x u) Q E s:=by
  obtain⟨m,hn,hl⟩:=id I.loc;have hcls:(X.env.scope.kind == .class || (X.env.scope.kind == .module&&X.env.locals != X.env.globals))=ao:=by rw[I.ok.kind];rfl
  have hiσ:i<σ.length:=by rw[I.len];exact(cf.mp hi).1
  have cne:=I.cne;have tracked:∀{a:ae} {h':dk},(∃o,s.heap.get? a=aa o/\H a=au)->oz a s.heap h'->lN X.prog X.w H h':=λ{a h'} ha hs b ob e=>by
    obtain⟨_,_,hfree⟩:=ha;refine(I.hok b ob e).stay (λc w' hc q=>(hs.2 c ?_).trans q) (λ_ q=>q) (λ_ _ q=>q) λ_ _ q=>q;rintro rfl;rcases hc with rfl | hc
    . rw[hfree] at e;cases e
    . rw[hfree] at hc;cases hc
  rcases hx with hk | hk
  . refine wpAny_storeName_local hk hn (λh' hn' hs=>?_) hcls;obtain⟨oL,_,_,hoL,_⟩:=id hn;refine h _ ⟨I.ok,I.os,I.bare,⟨λb o e n hb hx=>?_,λb o e n hb hx=>?_,I.base.free,λb o e hx=>?_,I.base.tups,I.base.frzs,I.base.tbls⟩,⟨_,hn',λj y v' e1 e2 e3=>?_⟩,λy c e=>?_,I.free,I.freeC,λp hp=>?_,tracked ⟨oL,hoL,I.free⟩ hs,by simpa using I.len,I.mild⟩ ⟨_,hs,.inl rfl⟩
    . exact(hs.2 b (gn (fg (bg e) I.ok.above))).trans (I.base.keep b o e n hb hx)
    . obtain⟨sl,e1⟩:=I.base.slot b o e n hb hx;exact⟨sl,(hs.2 b (gn (fg (bg e) I.ok.above))).trans e1⟩
    . obtain⟨o',e1⟩:=I.base.there b o e hx;exact⟨o',(hs.2 b (gn (fg (bg e) I.ok.above))).trans e1⟩
    . by_cases hj:j=i
      . subst hj;rw[hi] at e1;cases e1;rw[jx hiσ] at e2;cases e2;exact⟨u,r,.inl ⟨hk,by simp⟩⟩
      . rw[fy (Ne.symm hj)] at e2;obtain⟨u',r',q⟩:=hl j y v' e1 e2 e3;refine⟨u',r',?_⟩;rcases q with⟨k,e⟩ | ⟨k,c,e,z⟩
        . refine .inl ⟨k,?_⟩;have:y≠x:=λe=>hj (vR hN e1 (e ▸ hi));simp[this,e]
        . exact .inr ⟨k,c,e,z.sameBut hs (cne y c e)⟩
    . obtain⟨w',z⟩:=I.cell y c e;exact⟨w',z.sameBut hs (cne y c e)⟩
    . obtain⟨e,n,ne,nf,d⟩:=I.pin p hp;exact⟨(hs.2 p.1 ne).trans e,n,ne,nf,d⟩
  . have hfn:X.fn x=ai:=by
      rcases hf with z | z
      . exact z
      . rw[z] at hk;cases hk
    obtain⟨c,hc⟩:=I.ok.has x (.inl hk);obtain⟨w',z⟩:=I.cell x c hc;refine wpAny_storeName_cell I.ok.kind hk hc z (λh' hc' hs=>?_);obtain⟨oc,hoc,hocd⟩:=id z;refine h { s with heap:=h' } ⟨I.ok,I.os,I.bare,⟨λb o e n hb hx=>?_,λb o e n hb hx=>?_,I.base.free,λb o e hx=>?_,I.base.tups,I.base.frzs,I.base.tbls⟩,⟨m,hn.sameBut hs (Ne.symm (cne x c hc)),λj y v' e1 e2 e3=>?_⟩,λy c' e=>?_,I.free,I.freeC,λp hp=>?_,tracked ⟨oc,hoc,I.freeC x c hc⟩ hs,by simpa using I.len,I.mild⟩ ⟨c,hs,.inr hc⟩
    . exact(hs.2 b (gn (fg (bg e) (I.ok.cab x c hfn hc)))).trans (I.base.keep b o e n hb hx)
    . obtain⟨sl,e1⟩:=I.base.slot b o e n hb hx;exact⟨sl,(hs.2 b (gn (fg (bg e) (I.ok.cab x c hfn hc)))).trans e1⟩
    . obtain⟨o',e1⟩:=I.base.there b o e hx;exact⟨o',(hs.2 b (gn (fg (bg e) (I.ok.cab x c hfn hc)))).trans e1⟩
    . by_cases hj:j=i
      . subst hj;rw[hi] at e1;cases e1;rw[jx hiσ] at e2;cases e2;exact⟨u,r,.inr ⟨.inl hk,c,hc,hc'⟩⟩
      . rw[fy (Ne.symm hj)] at e2;obtain⟨u',r',q⟩:=hl j y v' e1 e2 e3;refine⟨u',r',?_⟩;rcases q with q | ⟨k,c',e,z'⟩
        . exact .inl q
        . refine .inr ⟨k,c',e,z'.sameBut hs ?_⟩;rintro rfl;exact hj (vR hN e1 (I.ok.inj _ _ _ e hc ▸ hi))
    . by_cases hcc:c'=c
      . subst hcc;exact⟨_,hc'⟩
      . obtain⟨w2,z2⟩:=I.cell y c' e;exact⟨w2,z2.sameBut hs hcc⟩
    . obtain⟨e,n,ne,nf,d⟩:=I.pin p hp;refine⟨(hs.2 p.1 ?_).trans e,n,ne,nf,d⟩;intro q;rw[q,hoc] at e;have q':oc=p.2:=Option.some.inj e;exact d w' (by rw[<- q'];exact hocd)
theorem rE{x:bv}{Q:Unit->ah->Prop}(I:Inv X pk σ H s)(hN:X.N.Nodup)(hi:X.N[i]?=aa x)(hx:GS X.env.scope x)(r:cO v u)
    (h:∀s',Inv X pk (σ.set i (aa v)) H s'->Q () s') (hf:X.fn x=ai \/ X.env.scope.names.lookup x=aa .local:=by first | exact .inl rfl | exact .inr rfl | assumption):bt M A (Xb X.env x u) Q E s:=
  xP I hN hi hx r (λs' I' _=>h s' I') hf
theorem Inv.call'(I:Inv X pk σ H s)(ho:s'.os=s.os)(u:Un (frs X.stack) ch H H' s.heap s'.heap)(hok:lN X.prog X.w H' s'.heap)(hg:xk s'.gens)
    (hch:∀b∈ch,(b∈X.ex \/ X.s₀.heap.objs.size<=b)/\b≠X.env.locals/\(∀x c,X.env.cells.lookup x=aa c->c≠b) /\ ∀p∈X.pn++pk,p.1≠b):Inv X pk σ H' s':=by
  obtain⟨h',g',d',t',o'⟩:=s';have e:o'=s.os:=ho;subst e;exact I.call (g':=g') (t':=t') (d':=d') u hok hg hch
end
abbrev XK:=af->Option ae->Hp->Prop
abbrev St:=List (Option V)
abbrev VK:=V->Hp->Prop
abbrev TE:=St->Hp->VK->Prop
abbrev TT:=St->Hp->(Bool->Hp->Prop)->Prop
abbrev TA:=St->Hp->(List V->Hp->Prop)->Prop
structure Ends where
  nx:St->Hp->Prop
  rt:VK
  bk:St->Hp->Prop:=λ_ _=>False
  ct:St->Hp->Prop:=λ_ _=>False
abbrev TS:=Ends->St->Hp->Prop
inductive EP(X:Cx)(pk:List (ae×jv))(σ:St)(Q:VK)(u:af)(s':ah):Prop
  |mk (v:V) (H':Hp) (I:Inv X pk σ H' s') (r:cO v u) (q:Q v H')
inductive TP(X:Cx)(pk:List (ae×jv))(σ:St)(Q:Bool->Hp->Prop)(b:Bool)(s':ah):Prop
  |mk (H':Hp) (I:Inv X pk σ H' s') (q:Q b H')
inductive AP(X:Cx)(pk:List (ae×jv))(σ:St)(Q:List V->Hp->Prop)(us:List af)(s':ah):Prop
  |mk (vs:List V) (H':Hp) (I:Inv X pk σ H' s') (r:bV vs us) (q:Q vs H')
inductive NP(X:Cx)(pk:List (ae×jv))(P:St->Hp->Prop)(s':ah):Prop
  |mk (σ':St) (H':Hp) (I:Inv X pk σ' H' s') (q:P σ' H')
inductive RP(X:Cx)(pk:List (ae×jv))(P:VK)(u:af)(s':ah):Prop
  |mk (v:V) (σ':St) (H':Hp) (I:Inv X pk σ' H' s') (r:cO v u) (q:P v H')
def SP(X:Cx)(pk:List (ae×jv))(D:Ends)(f:Flow)(s':ah):Prop:=
  match f with
  | .next=>NP X pk D.nx s'
  | .brk=>NP X pk D.bk s'
  | .cont=>NP X pk D.ct s'
  | .ret u=>RP X pk D.rt u s'
def PE(X:Cx)(e:Expr)(t:TE):Prop:=
  ∀(pk:List (ae×jv)) (s:ah) (σ:St) (H:Hp) (Q:VK),Inv X pk σ H s->t σ H Q->bt (bz X.prog X.w) X.A (gh e X.env) (EP X pk σ Q) X.xe s
def PT(X:Cx)(e:Expr)(t:TT):Prop:=
  ∀(pk:List (ae×jv)) (s:ah) (σ:St) (H:Hp) (Q:Bool->Hp->Prop),Inv X pk σ H s->t σ H Q->bt (bz X.prog X.w) X.A (isTrue e X.env (gh e X.env)) (TP X pk σ Q) X.xe s
def PW(X:Cx)(e:Expr)(t:TT):Prop:=
  ∀(YC:Wm af) (pk:List (ae×jv)) (s:ah) (σ:St) (H:Hp) (Q:Bool->Hp->Prop),Inv X pk σ H s->t σ H Q->bt (bz X.prog X.w) X.A (isTrue e X.env YC) (TP X pk σ Q) X.xe s
theorem PW.pt{t:TT}(h:PW X e t):PT X e t:=h _
def PA(X:Cx)(es:List Expr)(t:TA):Prop:=
  ∀(pos:lv) (pk:List (ae×jv)) (s:ah) (σ:St) (H:Hp) (Q:List V->Hp->Prop),Inv X pk σ H s->t σ H Q->bt (bz X.prog X.w) X.A (spliced (ir pos (aw es X.env))) (AP X pk σ Q) X.xe s
def PS(X:Cx)(st:ku)(t:TS):Prop:=
  ∀(pk:List (ae×jv)) (s:ah) (σ:St) (H:Hp) (D:Ends),Inv X pk σ H s->t D σ H->bt (bz X.prog X.w) X.A (exec st X.env) (SP X pk D) X.xe s
def uT(X:Cx)(st:List ku)(t:TS):Prop:=
  ∀(pk:List (ae×jv)) (s:ah) (σ:St) (H:Hp) (D:Ends),Inv X pk σ H s->t D σ H->bt (bz X.prog X.w) X.A (execs st X.env) (SP X pk D) X.xe s
theorem thn{t:Wm α}{Q Q':α->ah->Prop}(h:bt M A t Q E s)(hQ:∀a s,Q a s->Q' a s):bt M A t Q' E s:=gr h hQ λ_ _ x=>x
variable {σ:St}{ta tb:TE}
section
def z7(i:Nat):TE:=λσ H Q=>∃v,σ[i]?=aa (aa v)/\Q v H
def tC(v:V):TE:=λ_ H Q=>Q v H
theorem NU{x:bv}{pos:lv}(hN:X.N[i]?=aa x)(hv:R4 X.env.scope x)(hd:(x==("__debug__" : bv))=ao:=by decide)(hcd:(x==("__classdict__" : bv))=ao:=by decide):PE X (.Name x pos) (z7 i):=by
  intro pk s σ H Q I h;obtain⟨v,e,h⟩:=h;obtain⟨m,hn,hl⟩:=I.loc;obtain⟨u,r,l⟩:=hl i x v hN e hv;have fin:EP X pk σ Q u s:=⟨v,H,I,r,h⟩;rcases l with⟨hk,hm⟩ | ⟨hk,c,hc,Yo⟩
  . exact WF (Ur I.ok.kind hk hn hm fin) hd
  . rcases hk with hk | hk
    . exact WF (UV I.ok.kind hk hc Yo fin) hd
    . exact WF (wpAny_loadName_free I.ok.kind hk hc Yo fin hcd) hd
theorem Na{i j pos}:PE X (.Constant (.int i) j pos) (tC (.int i)):=λ_ _ _ H _ I h=>wpAny_Constant_int ⟨.int i,H,I.tok _,⟨_,rfl⟩,h⟩
theorem Py{b j pos}:PE X (.Constant (.bool b) j pos) (tC (.bl b)):=λ_ _ _ H _ I h=>Constant_bool ⟨.bl b,H,I,rfl,h⟩
theorem NW{x j pos}:PE X (.Constant (.str x) j pos) (tC (.str x)):=λ_ _ _ H _ I h=>Calls.Constant_str ⟨.str x,H,I.tok _,⟨_,rfl⟩,h⟩
def Gl(X:Cx)(x:bv):Prop:=X.env.kindOf x=aa .globalImplicit
theorem mM{x:bv}{pos:lv}(I:Inv X pk σ H s)(hg:Gl X x)(hm:X.mg x=aa u)(h:Q u s)
    (hd:(x==("__debug__" : bv))=ao:=by decide):bt (bz X.prog X.w) X.A (gh (.Name x pos) X.env) Q E s:=
  xw I.ok.kind hg (Calls.loadGlobal_global (by rw[I.ok.glob];exact I.mod.glob.keeps I.bk) hm h) hd
theorem nY{x:bv}{pos:lv}(I:Inv X pk σ H s)(hg:Gl X x)(hm:X.mg x=au)(hv:oy x=aa u)(h:Q u s)
    (hn:x ≠ "__name__" := by decide) (hd:(x==("__debug__" : bv))=ao:=by decide):bt (bz X.prog X.w) X.A (gh (.Name x pos) X.env) Q E s:=by
  obtain⟨mb,h1,h2⟩:=I.mod.blt;exact xw I.ok.kind hg (Calls.loadGlobal_builtin (by rw[I.ok.glob];exact I.mod.glob.keeps I.bk) hm (by rw[I.ok.blt];exact h1.keeps I.bk) ((h2 x hn).trans hv) h) hd
theorem Dx{x:bv}{pos:lv}(hg:Gl X x)(hm:X.mg x=aa u)(r:cO v u)(hd:(x==("__debug__" : bv))=ao:=by decide):PE X (.Name x pos) (tC v):=
  λ_ _ _ H _ I h=>mM I hg hm ⟨v,H,I,r,h⟩ hd
theorem oX{x:bv}{pos:lv}(hg:Gl X x)(hm:X.mg x=au)(hv:oy x=aa u)(r:cO v u)(hn:x ≠ "__name__" := by decide)(hd:(x==("__debug__" : bv))=ao:=by decide):PE X (.Name x pos) (tC v):=
  λ_ _ _ H _ I h=>nY I hg hm hv ⟨v,H,I,r,h⟩ hn hd
variable {a b:Expr}{pos:lv}
variable {tA tB':TT}{Yl:List Expr}
def Ri(t u:TT):TT:=λσ H Q=>t σ H λc H1=>if c=ai then u σ H1 Q else Q ao H1
def T0(t u:TT):TT:=λσ H Q=>t σ H λc H1=>if c=ai then Q ai H1 else u σ H1 Q
def Ra(t:TT):TT:=λσ H Q=>t σ H λc H1=>Q (!c) H1
theorem KO(ha:PT X a tA):PW X (.BoolOp .And [a] pos) tA:=by
  intro wh pk s σ H Q I h;refine isTrue_and (thn (ha pk s σ H Q I h) λc s1 e=>?_);cases c with
  |true=>exact isTrue_and_nil e
  |false=>exact e
theorem NI(ha:PT X a tA):PW X (.BoolOp .Or [a] pos) tA:=by
  intro wh pk s σ H Q I h;refine isTrue_or (thn (ha pk s σ H Q I h) λc s1 e=>?_);cases c with
  |false=>exact isTrue_or_nil e
  |true=>exact e
theorem NJ(ha:PT X a tA)(hb:PW X (.BoolOp .And (b::Yl) pos) tB'):PW X (.BoolOp .And (a::b::Yl) pos) (Ri tA tB'):=by
  intro wh pk s σ H Q I h;refine isTrue_and (thn (ha pk s σ H _ I h) λc s1 ⟨H1,I1,q1⟩=>?_);cases c with
  |true=>exact hb wh pk s1 σ H1 Q I1 q1
  |false=>exact⟨H1,I1,q1⟩
theorem Pr(ha:PT X a tA)(hb:PW X (.BoolOp .Or (b::Yl) pos) tB'):PW X (.BoolOp .Or (a::b::Yl) pos) (T0 tA tB'):=by
  intro wh pk s σ H Q I h;refine isTrue_or (thn (ha pk s σ H _ I h) λc s1 ⟨H1,I1,q1⟩=>?_);cases c with
  |true=>exact⟨H1,I1,q1⟩
  |false=>exact hb wh pk s1 σ H1 Q I1 q1
theorem NL(ha:PT X a tA):PT X (.UnaryOp .Not a pos) (Ra tA):=by
  intro pk s σ H Q I h;exact isTrue_not (thn (ha pk s σ H (λc H1=>Q (!c) H1) I h) λc s' z=>by cases z;exact⟨_,by assumption,by assumption⟩)
def PF(ta tb:TE):TE:=λσ H Q=>ta σ H λx H1=>∃c,x=.bl c/\if c=ai then tb σ H1 Q else Q (.bl ao) H1
def RZ(ta tb:TE):TE:=λσ H Q=>ta σ H λx H1=>∃c,x=.bl c/\if c=ai then Q (.bl ai) H1 else tb σ H1 Q
def P6(ta:TE):TE:=λσ H Q=>ta σ H λx H1=>∃c,x=.bl c/\Q (.bl (!c)) H1
theorem NX{op}{t:TE}(h:PE X a t):PE X (.BoolOp op [a] pos) t:=λpk s σ H Q I hw=>BoolOp_one (h pk s σ H Q I hw)
theorem Nc(ha:PE X a ta)(hb:PE X (.BoolOp .And (b::Yl) pos) tb):PE X (.BoolOp .And (a::b::Yl) pos) (PF ta tb):=by
  intro pk s σ H Q I h;refine BoolOp_and (thn (ha pk s σ H _ I h) λv s1 ⟨x,H1,I1,r1,q1⟩=>?_);obtain⟨c,rfl,q1⟩:=q1;cases r1;refine ik ?_;cases c with
  |true=>exact hb pk s1 σ H1 Q I1 q1
  |false=>exact⟨.bl ao,H1,I1,rfl,q1⟩
theorem Pv(ha:PE X a ta)(hb:PE X (.BoolOp .Or (b::Yl) pos) tb):PE X (.BoolOp .Or (a::b::Yl) pos) (RZ ta tb):=by
  intro pk s σ H Q I h;refine BoolOp_or (thn (ha pk s σ H _ I h) λv s1 ⟨x,H1,I1,r1,q1⟩=>?_);obtain⟨c,rfl,q1⟩:=q1;cases r1;refine ik ?_;cases c with
  |false=>exact hb pk s1 σ H1 Q I1 q1
  |true=>exact⟨.bl ai,H1,I1,rfl,q1⟩
theorem NY(ha:PE X a ta):PE X (.UnaryOp .Not a pos) (P6 ta):=by
  intro pk s σ H Q I h;refine UnaryOp_ (thn (ha pk s σ H _ I h) λv s1 ⟨x,H1,I1,r1,q1⟩=>?_);obtain⟨c,rfl,q1⟩:=q1;cases r1;exact not_of (ik ⟨.bl (!c),H1,I1,rfl,q1⟩)
end
def gJ(K:ak)(H:Hp)(a:ae)(xs:List V):Prop:=
  Rd H a (.lst xs) \/
    ∃(o:jv) (its:Array af) (n:Nat),K.lookup a=aa o/\o.cls=.type "list" /\ o.dict=au/\o.data=.seq its n/\its.size<=bu/\bV xs its.toList
def pF(K:ak)(H:Hp)(a:ae)(xs:List V):Prop:=
  Rd H a (.tup xs) \/
    ∃(o:jv) (its:Array af) (n:Nat),K.lookup a=aa o/\o.cls=.type "tuple" /\ o.data=.seq its n/\its.size<=bu/\bV xs its.toList
def SY:af->Option V
  | .none=>aa .non
  | .bool b=>aa (.bl b)
  | .int i _=>aa (.int i)
  | .str x _=>aa (.str x)
  | .bytes b _=>aa (.byt b)
  | .float b _=>aa (.flt b)
  | .ref a=>aa (.ref a)
  | .type n=>aa (.ty n)
  |_=>au
theorem cO.abs{x:V}(r:cO x u):SY u=aa x:=by
  cases x with
  |non=>cases r;rfl
  |bl _=>cases r;rfl
  |int _=>obtain⟨t,rfl⟩:=r;rfl
  |str _=>obtain⟨t,rfl⟩:=r;rfl
  |byt _=>obtain⟨t,rfl⟩:=r;rfl
  |flt _=>obtain⟨t,rfl⟩:=r;rfl
  |ref _=>cases r;rfl
  |ty _=>cases r;rfl
theorem cO.inj{x y:V}{u:af}(r:cO x u)(q:cO y u):x=y:=Option.some.inj (r.abs.symm.trans q.abs)
theorem bV.inj:∀{xs ys:List V} {us:List af},bV xs us->bV ys us->xs=ys
  |_,_,_,.nil,.nil=>rfl
  |_,_,_,.cons r t,.cons r' t'=>by rw[r.inj r',bV.inj t t']
section
variable {xs ys:List V}
theorem gJ.of(h:H a=aa (.lst xs)):gJ K H a xs:=.inl (.inl h)
theorem pF.of(h:H a=aa (.tup xs)):pF K H a xs:=.inl (.inl h)
theorem Inv.list(I:Inv X pk σ H s)(h:gJ X.K H a xs):∃its:List af,bV xs its/\PlainL s.heap a its.toArray/\xs.length<=bu:=by
  rcases h with h | ⟨o,its,n,hk,hc,hd,hs,hz,r⟩
  . obtain⟨z,its,n,r,e⟩:=h.ok I.hok;exact⟨its,r,⟨_,n,e,rfl,rfl,rfl⟩,z⟩
  . refine⟨its.toList,r,⟨o,n,I.kIn a o hk,hc,hd,by simpa using hs⟩,?_⟩;have e:=r.length;simp only[uo] at e;right
theorem Inv.tuple(I:Inv X pk σ H s)(h:pF X.K H a xs):∃its:List af,bV xs its/\IsTup s.heap a its.toArray/\xs.length<=bu:=by
  rcases h with h | ⟨o,its,n,hk,hc,hs,hz,r⟩
  . obtain⟨z,its,r,p⟩:=h.ok I.hok;exact⟨its,r,p,z⟩
  . refine⟨its.toList,r,⟨o,I.kIn a o hk,hc,n,by simpa using hs⟩,?_⟩;have e:=r.length;simp only[uo] at e;right
theorem Inv.list_inj(I:Inv X pk σ H s)(h:gJ X.K H a xs)(h':gJ X.K H a ys):xs=ys:=by
  obtain⟨its,r,⟨o,n,e,_,_,d⟩,_⟩:=I.list h;obtain⟨its',r',⟨o',n',e',_,_,d'⟩,_⟩:=I.list h';rw[e] at e';cases e';rw[d] at d';injection d' with d1 _;have:its=its':=by simpa using congrArg Xj d1
  subst this;exact r.inj r'
theorem Inv.tuple_inj(I:Inv X pk σ H s)(h:pF X.K H a xs)(h':pF X.K H a ys):xs=ys:=by
  obtain⟨its,r,⟨o,e,_,n,d⟩,_⟩:=I.tuple h;obtain⟨its',r',⟨o',e',_,n',d'⟩,_⟩:=I.tuple h';rw[e] at e';cases e';rw[d] at d';injection d' with d1 _;have:its=its':=by simpa using congrArg Xj d1
  subst this;exact r.inj r'
end
abbrev Cx.wish(X:Cx)(E:af->ah->Prop):Cx:={ X with xe:=E }
abbrev Cx.nox(X:Cx):Cx:=X.wish λ_ _=>False
theorem Cx.Ok.wish{X:Cx}(ok:X.Ok)(E:af->ah->Prop):(X.wish E).Ok:=
  ⟨ok.mod,ok.kind,ok.glob,ok.blt,ok.above,ok.inj,ok.has,ok.cab,ok.hd,ok.frames,ok.stk,ok.exf,ok.bs,ok.bsz,ok.noex,ok.exfs,ok.funs,ok.frf,ok.hq⟩
theorem Cx.Ok.unwish(ok:(X.wish E).Ok):X.Ok:=
  ⟨ok.mod,ok.kind,ok.glob,ok.blt,ok.above,ok.inj,ok.has,ok.cab,ok.hd,ok.frames,ok.stk,ok.exf,ok.bs,ok.bsz,ok.noex,ok.exfs,ok.funs,ok.frf,ok.hq⟩
theorem Inv.wish(I:Inv X pk σ H s)(E:af->ah->Prop):Inv (X.wish E) pk σ H s:=⟨I.ok.wish E,I.os,I.bare,I.base,I.loc,I.cell,I.free,I.freeC,I.pin,I.hok,I.len,I.mild⟩
theorem Inv.unwish(I:Inv (X.wish E) pk σ H s):Inv X pk σ H s:=⟨I.ok.unwish,I.os,I.bare,I.base,I.loc,I.cell,I.free,I.freeC,I.pin,I.hok,I.len,I.mild⟩
theorem SP.unwish{D:Ends}{f:Flow}{s':ah}(h:SP (X.wish E) pk D f s'):SP X pk D f s':=by
  cases f with
  |next=>obtain⟨σ',H',I,q⟩:=h;exact⟨σ',H',I.unwish,q⟩
  |brk=>obtain⟨σ',H',I,q⟩:=h;exact⟨σ',H',I.unwish,q⟩
  |cont=>obtain⟨σ',H',I,q⟩:=h;exact⟨σ',H',I.unwish,q⟩
  |ret u=>obtain⟨v,σ',H',I,r,q⟩:=h;exact⟨v,σ',H',I.unwish,r,q⟩
theorem uT.nox{st:List ku}{t:TS}(h:uT X.nox st t):uT X st t:=λpk s σ H D I hw=>
  gr (h pk s σ H D (I.wish _) hw) (λ_ _ q=>q.unwish) λ_ _ z=>ie z
variable {te:TE}
section
variable {st:ku}{Yl:List ku}{t u:TS}{pos:lv}
def P8:TS:=λD σ H=>D.nx σ H
def RX(t u:TS):TS:=λD σ H=>t { D with nx:=u D } σ H
theorem KZ:uT X [] P8:=λ_ _ σ H _ I h=>wu ⟨σ,H,I,h⟩
theorem B9(h1:PS X st t)(h2:uT X Yl u):uT X (st::Yl) (RX t u):=by
  intro pk s σ H D I h;refine Ts (thn (h1 pk s σ H { D with nx:=u D } I h) λf s1 q=>?_);cases f with
  |next=>
    obtain⟨σ',H',I',q⟩:=q;exact h2 pk s1 σ' H' D I' q
  |ret v=>exact q
  |brk=>exact q
  |cont=>exact q
theorem Dt(h1:PS X st t):uT X [st] t:=by
  intro pk s σ H D I h;refine Ts (thn (h1 pk s σ H D I h) λf s1 q=>?_);cases f with
  |next=>exact wu q
  |ret v=>exact q
  |brk=>exact q
  |cont=>exact q
def N1:TS:=λD σ H=>D.bk σ H
theorem HK:PS X (.Break pos) N1:=λ_ _ σ H _ I h=>wpAny_Break ⟨σ,H,I,h⟩
theorem Inv.quiet(I:Inv X pk σ H s):interactive X.env=ao:=by simp[interactive,I.ok.kind]
def PB(te:TE):TS:=λD σ H=>te σ H λ_ H1=>D.nx σ H1
theorem uG(he:PE X e te)(hs:iu e au pos.line X.env=jw ao:=by rfl):PS X (.Expr e pos) (PB te):=by
  intro pk s σ H D I h;exact Us (thn (he pk s σ H _ I h) λv s1 ⟨x,H1,I1,r1,q1⟩=>⟨σ,H1,I1,q1⟩) I.quiet hs
def RY(te:TE):TS:=λD σ H=>te σ H D.rt
theorem NN(he:PE X e te):PS X (.Return (aa e) pos) (RY te):=by
  intro pk s σ H D I h;exact wpAny_Return_some (thn (he pk s σ H _ I h) λv s1 ⟨x,H1,I1,r1,q1⟩=>⟨x,σ,H1,I1,r1,q1⟩)
def Rc(c:TT)(t u:TS):TS:=λD σ H=>c σ H λb H1=>if b=ai then t D σ H1 else u D σ H1
theorem M9{c:Expr}{a b:List ku}{tc:TT}(hc:PT X c tc)(ha:uT X a t)(hb:uT X b u):PS X (.If c a b pos) (Rc tc t u):=by
  intro pk s σ H D I h;refine wpAny_If (thn (hc pk s σ H _ I h) λd s1 ⟨H1,I1,q1⟩=>?_);cases d with
  |true=>exact ha pk s1 σ H1 D I1 q1
  |false=>exact hb pk s1 σ H1 D I1 q1
def My:TS:=λ_ _ _=>False
theorem HF:PS X st My:=λ_ _ _ _ _ _ h=>h.elim
end
abbrev TG:=V->St->Hp->(St->Hp->Prop)->Prop
abbrev Mo:=List V->St->Hp->(St->Hp->Prop)->Prop
def PG(X:Cx)(target:Expr)(t:TG):Prop:=
  ∀(pk:List (ae×jv)) (s:ah) (σ:St) (H:Hp) (v:V) (u:af) (Q:St->Hp->Prop),Inv X pk σ H s->cO v u->t v σ H Q ->
    bt (bz X.prog X.w) X.A (WG target X.env u) (λ_ s'=>∃σ' H',Inv X pk σ' H' s'/\Q σ' H') X.xe s
def RJ(X:Cx)(ts:List Expr)(t:Mo):Prop:=
  ∀(pk:List (ae×jv)) (s:ah) (σ:St) (H:Hp) (vs:List V) (us:List af) (Q:St->Hp->Prop),Inv X pk σ H s->bV vs us->t vs σ H Q ->
    bt (bz X.prog X.w) X.A (assignInOrder ((wg ts X.env).map (·.2)) us) (λ_ s'=>∃σ' H',Inv X pk σ' H' s'/\Q σ' H') X.xe s
abbrev xJ:=V->V->Hp->VK->Prop
def TD(X:Cx)(op:Ut)(t:xJ):Prop:=
  ∀(pk:List (ae×jv)) (s:ah) (σ:St) (H:Hp) (x y:V) (v u:af) (Q:VK),Inv X pk σ H s->cO x v->cO y u->t x y H Q ->
    bt (bz X.prog X.w) X.A (UO op v u) (EP X pk σ Q) X.xe s
variable {Yw:lv}
section
variable {pos:lv}
def C2(i:Nat):TG:=λv σ H Q=>Q (σ.set i (aa v)) H
theorem dW{x:bv}(hN:X.N.Nodup)(hi:X.N[i]?=aa x)(hx:GS X.env.scope x)(hf:X.fn x=ai \/ X.env.scope.names.lookup x=aa .local:=by first | exact .inl rfl | exact .inr rfl | assumption):PG X (.Name x pos) (C2 i):=by
  intro pk s σ H v u Q I r h;exact Vq (rE I hN hi hx r (λs' I'=>⟨_,H,I',h⟩) hf)
def Qf:Mo:=λvs σ H Q=>vs=[]/\Q σ H
def MW(t:TG)(u:Mo):Mo:=λvs σ H Q=>∃v r,vs=v::r/\t v σ H λσ' H'=>u r σ' H' Q
theorem mJ:RJ X [] Qf:=by
  intro pk s σ H vs us Q I r h;obtain⟨e,h⟩:=h;subst e;cases r;exact assignInOrder_nil ⟨σ,H,I,h⟩
theorem dA{t:TG}{u:Mo}(h1:PG X e t)(h2:RJ X es u)
    (hs:(wg (e::es) X.env).map (·.2)=WG e X.env::(wg es X.env).map (·.2):=by rfl):RJ X (e::es) (MW t u):=by
  intro pk s σ H vs us Q I r h;obtain⟨v,vr,e1,h⟩:=h;subst e1;cases r with
  |cons r rr=>
    rw[hs];refine assignInOrder_cons (thn (h1 pk s σ H _ _ _ I r h) λ_ s1 ⟨σ1,H1,I1,q1⟩=>?_);exact h2 pk s1 σ1 H1 _ _ Q I1 rr q1
def SO(K:ak)(n:Nat)(t:Mo):TG:=λv σ H Q=>∃a xs,v=.ref a/\pF K H a xs/\xs.length=n/\t xs σ H Q
theorem NT{k:Nat}{t:Mo}(hc:X.calm=ai)(h:RJ X es t)
    (hn:(wg es X.env).length=n:=by rfl) (hst:(wg es X.env).findIdx? (·.1)=au:=by rfl):PG X (.Tuple es k pos) (SO X.K n t):=by
  intro pk s σ H v u Q I r hw;obtain⟨a,xs,e1,hq,hl,hw⟩:=hw;subst e1;cases r;obtain⟨its,rv,ht,hz⟩:=I.tuple hq;refine assign_Tuple_tuple (I.ok.hd hc) ht (by simp[hn,<- hl,rv.length]) hst λh' hx=>?_;have I1:Inv X pk σ H { s with heap:=h' }:=I.kept (t':=s.toks) λb o e=>hx b o (gn (bg e)) e;exact h pk _ σ H xs _ Q I1 (by simpa using rv) hw
def N2(te:TE)(g:TG):TS:=λD σ H=>te σ H λx H1=>g x σ H1 D.nx
theorem HD{x:bv}(hN:X.N.Nodup)(hi:X.N[i]?=aa x)(hx:GS X.env.scope x)(he:PE X e te)(hs:iu e (aa (.Name x Yw)) pos.line X.env=jw ao:=by rfl)(hf:X.fn x=ai \/ X.env.scope.names.lookup x=aa .local:=by first | exact .inl rfl | exact .inr rfl | assumption):
    PS X (.Assign [.Name x Yw] e pos) (N2 te (C2 i)):=by
  intro pk s σ H D I h;refine wpAny_Assign_Name (thn (he pk s σ H _ I h) λv s1 ⟨y,H1,I1,r1,q1⟩=>?_) hs;exact rE I1 hN hi hx r1 (λs2 I2=>⟨_,H1,I2,q1⟩) hf
def Rh(i:Nat)(te:TE)(ti:xJ):TS:=λD σ H=>∃x,σ[i]?=aa (aa x)/\te σ H λy H1=>ti x y H1 λz H2=>D.nx (σ.set i (aa z)) H2
theorem NQ{x:bv}{op:Ut}{ti:xJ}(hN:X.N.Nodup)(hi:X.N[i]?=aa x)(hx:GS X.env.scope x)(he:PE X e te)(ho:TD X op ti)(hf:X.fn x=ai \/ X.env.scope.names.lookup x=aa .local:=by first | exact .inl rfl | exact .inr rfl | assumption):
    PS X (.AugAssign (.Name x Yw) op e pos) (Rh i te ti):=by
  intro pk s σ H D I h;obtain⟨v,e1,h⟩:=h;obtain⟨m,hn,hl⟩:=I.loc;have vis:R4 X.env.scope x:=by rcases hx with k | k;exact .inl k;exact .inr (.inl k)
  obtain⟨u,r,l⟩:=hl i x v hi e1 vis;refine wpAny_AugAssign_Name ?_;have go:bt (bz X.prog X.w) X.A (gh e X.env) (λw s₂=>bt (bz X.prog X.w) X.A (UO op u w) (λr s₃=>bt (bz X.prog X.w) X.A (Xb X.env x r) (λ_=>SP X pk D .next) X.xe s₃) X.xe s₂) X.xe s:=by
    refine thn (he pk s σ H _ I h) λw s1 ⟨y,H1,I1,r1,q1⟩=>?_;refine thn (ho pk s1 σ H1 v y u w _ I1 r r1 q1) λz s2 ⟨zv,H2,I2,r2,q2⟩=>?_;exact rE I2 hN hi hx r2 (λs3 I3=>⟨_,H2,I3,q2⟩) hf
  rcases l with⟨hk,hm⟩ | ⟨hk,c,hc,Yo⟩
  . exact Ur I.ok.kind hk hn hm go
  . rcases hk with hk | hk
    . exact UV I.ok.kind hk hc Yo go
    . rcases hx with k | k
      . have:X.env.scope.names.lookup x=aa .free:=hk;rw[k] at this;cases this
      . have:X.env.scope.names.lookup x=aa .free:=hk;rw[k] at this;cases this
end
structure It where
  go:Nat->Hp->Prop
  yld:Nat->Hp->V->Hp->Prop
  stop:Nat->Hp->Prop
def wR(X:Cx)(pk:List (ae×jv))(H:Hp)(b:ae):Prop:=
  H b=au/\b≠X.env.locals/\b ∉ X.fs/\(b∈X.ex \/ X.s₀.heap.objs.size<=b)/\(∀x c,X.env.cells.lookup x=aa c->c≠b) /\ ∀p∈X.pn++pk,p.1≠b
theorem Inv.fpOk(I:Inv X pk σ H s)(hb:s.heap.objs.size<=b)(hn:H' b=au):wR X pk H' b:=by
  refine⟨hn,Um (fg I.lt hb),I.nofs hb,.inr (ly I.sz hb),λx c e z=>?_,λp hp z=>?_⟩
  . obtain⟨v,q⟩:=I.cell x c e;exact absurd (fg q.lt (by rw[z];exact hb)) (qh _)
  . exact absurd (fg (bg (I.pin p hp).1) (by rw[z];exact hb)) (qh _)
structure Turn(P:az)(w:bw)(K:ak)(tg:Expr)(J:It)(fp:List ae)(it:ae)(tn:Nat->dk->Prop):Prop where
  mem:it∈fp
  obj:∀i h,tn i h -> ∀b∈fp,∃o,h.get? b=aa o /\ ∀v,o.data ≠ .cell v
  keep:∀i h h',tn i h->(∀b∈fp,∀o,h.get? b=aa o->h'.get? b=aa o)->tn i h'
  item:∀(X:Cx),X.prog=P->X.w=w->X.K=K->X.N=X.N -> ∀(i:Nat) (pk:List (ae×jv)) (s:ah) (σ:St) (H:Hp) (E:af->ah->Prop),Inv X pk σ H s->(∀b∈fp,wR X pk H b)->tn i s.heap->J.go i H ->
    bt (bz P w) X.A (sy (.ref it)) (λr s1=>∃u,r=aa u /\
      bt (bz P w) X.A (wv tg (.ref it) u) (λ_ s2=>∃x H',Inv X pk σ H' s2/\cO x u/\J.yld i H x H'/\tn (i+1) s2.heap /\ ∀b∈fp,H' b=au) E s1) E s
  done:∀(X:Cx),X.prog=P->X.w=w->X.K=K->X.N=X.N -> ∀(i:Nat) (pk:List (ae×jv)) (s:ah) (σ:St) (H:Hp) (E:af->ah->Prop),Inv X pk σ H s->(∀b∈fp,wR X pk H b)->tn i s.heap->J.stop i H ->
    bt (bz P w) X.A (sy (.ref it)) (λr s1=>r=au/\Inv X pk σ H s1) E s
  self:∀(A:dh) (i:Nat) (s:ah) (Q:af->ah->Prop) (E:af->ah->Prop),tn i s.heap->Q (.ref it) s->bt (bz P w) A (Y2 (.ref it)) Q E s
abbrev TI:=St->Hp->(It->Hp->Prop)->Prop
def Sr(X:Cx)(pk:List (ae×jv))(σ:St)(tg:Expr)(R:It->Hp->Prop)(itv:af)(s2:ah):Prop:=
  ∃(it:ae) (fp:List ae) (tn:Nat->dk->Prop) (J:It) (H':Hp),itv=.ref it/\Inv X pk σ H' s2/\Turn X.prog X.w X.K tg J fp it tn/\tn 0 s2.heap/\(∀b∈fp,wR X pk H' b)/\R J H'
def PI(X:Cx)(tg iter:Expr)(wi:TI):Prop:=
  ∀(pk:List (ae×jv)) (s:ah) (σ:St) (H:Hp) (R:It->Hp->Prop),Inv X pk σ H s->wi σ H R ->
    bt (bz X.prog X.w) X.A (gh iter X.env) (λv s1=>bt (bz X.prog X.w) X.A (Y2 v) (Sr X pk σ tg R) X.xe s1) X.xe s
theorem By{n:String}{vs:Array af}{Q:Unit->ah->Prop}(ho:s.heap.get? it=aa o)(hc:o.cls=.type n)(hd:o.data=.fields vs)
    (hn:["enumerate", "zip", "dict_itemiterator", "dict_reverseitemiterator", "odict_iterator", "itertools.zip_longest", "itertools.pairwise"].contains n=ao) (hQ:Q () s):bt M A (wv tg (.ref it) u) Q E s:=by
  unfold wv;cases tg<;>first
    |exact aj hQ
    | (cases u<;>first
        |exact aj hQ
        | (refine ad (WB ho ?_)
           rw[hc,hd];show bt M A (if (["enumerate", "zip", "dict_itemiterator", "dict_reverseitemiterator", "odict_iterator", "itertools.zip_longest", "itertools.pairwise"].contains n&&vs[0]?==aa (sr _))=ai then _ else _) Q E s;rw[XQ (by intro h;rw[hn,xx] at h;cases h)];exact aj hQ))
def RL(K:ak)(a:ae):It:=
  ⟨λi H=>∃xs x,gJ K H a xs/\xs[i]?=aa x,λi H x H'=>H'=H /\ ∀xs,gJ K H a xs->xs[i]?=aa x,λi H=>∃xs,gJ K H a xs/\xs.length<=i⟩
def Se(K:ak)(a:ae):It:=
  ⟨λi H=>∃xs x,pF K H a xs/\xs[i]?=aa x,λi H x H'=>H'=H /\ ∀xs,pF K H a xs->xs[i]?=aa x,λi H=>∃xs,pF K H a xs/\xs.length<=i⟩
def RK(lo:Int)(n:Nat):It:=⟨λi _=>i<n,λi H x H'=>H'=H/\x=.int (lo+i),λi _=>n<=i⟩
theorem Ey(a it:ae):Turn P w K tg (RL K a) [it] it (λi h=>h.IsListIter it a i) where
  mem:=by simp
  obj:=λi h st b hb=>by
    have e:b=it:=by simpa using hb
    subst e;obtain⟨o,e,c,d⟩:=st;exact⟨o,e,λv z=>by rw[d] at z;cases z⟩
  keep:=λi h h' st k=>st.at λo e=>k it (by simp) o e
  item:=by
    intro X hP hw hK hc i pk s σ H E I hf st hg;subst hP hw hK;obtain⟨xs,x,hq,hx⟩:=hg;obtain⟨its,rv,p,hz⟩:=I.list hq;obtain⟨u,hu,ru⟩:=rv.get hx;obtain⟨f0,f1,f2,f3,f4,f5⟩:=hf it (by simp);refine TU st p.isList (x:=u) (by simpa using hu) λh' st' sb=>?_;have I1:Inv X pk σ H { s with heap:=h' }:=I.turned (t':=s.toks) (λb o hb e=>(sb.2 b hb).trans e) f0 f1 f3 f4 f5;obtain⟨o,e,c,d⟩:=id st';exact⟨u,rfl,By (s:={ s with heap:=h' }) e c d ∅ ⟨x,H,I1,ru,⟨rfl,λys hy=>by rw[I.list_inj hy hq];exact hx⟩,st',λb hb=>(hf b hb).1⟩⟩
  done:=by
    intro X hP hw hK hc i pk s σ H E I hf st hg;subst hP hw hK;obtain⟨xs,hq,hx⟩:=hg;obtain⟨its,rv,p,hz⟩:=I.list hq;obtain⟨f0,f1,f2,f3,f4,f5⟩:=hf it (by simp);have hl:=rv.length;exact C7 I.qu st p.isList (by simp;right) λh' eb=>⟨rfl,I.turned (t':=s.toks) (λb o hb e=>eb b o hb e) f0 f1 f3 f4 f5⟩
  self:=λ_ _ _ _ _ st h=>Ue st h
theorem Ca(a it:ae):Turn P w K tg (Se K a) [it] it (λi h=>h.IsTupleIter it a i) where
  mem:=by simp
  obj:=λi h st b hb=>by
    have e:b=it:=by simpa using hb
    subst e;obtain⟨o,e,c,d⟩:=st;exact⟨o,e,λv z=>by rw[d] at z;cases z⟩
  keep:=λi h h' st k=>st.at λo e=>k it (by simp) o e
  item:=by
    intro X hP hw hK hc i pk s σ H E I hf st hg;subst hP hw hK;obtain⟨xs,x,hq,hx⟩:=hg;obtain⟨its,rv,p,hz⟩:=I.tuple hq;obtain⟨u,hu,ru⟩:=rv.get hx;obtain⟨f0,f1,f2,f3,f4,f5⟩:=hf it (by simp);refine wpAny_pyNext_tuple_item st (show s.heap.IsTuple a its.toArray from p) (x:=u) (by simpa using hu) λh' st' sb=>?_;have I1:Inv X pk σ H { s with heap:=h' }:=I.turned (t':=s.toks) (λb o hb e=>(sb.2 b hb).trans e) f0 f1 f3 f4 f5;obtain⟨o,e,c,d⟩:=id st';exact⟨u,rfl,By (s:={ s with heap:=h' }) e c d ∅ ⟨x,H,I1,ru,⟨rfl,λys hy=>by rw[I.tuple_inj hy hq];exact hx⟩,st',λb hb=>(hf b hb).1⟩⟩
  done:=by
    intro X hP hw hK hc i pk s σ H E I hf st hg;subst hP hw hK;obtain⟨xs,hq,hx⟩:=hg;obtain⟨its,rv,p,hz⟩:=I.tuple hq;obtain⟨f0,f1,f2,f3,f4,f5⟩:=hf it (by simp);have hl:=rv.length;exact G9 I.qu st (show s.heap.IsTuple a its.toArray from p) (by simp;right) λh' eb=>⟨rfl,I.turned (t':=s.toks) (λb o hb e=>eb b o hb e) f0 f1 f3 f4 f5⟩
  self:=λ_ _ _ _ _ st h=>wpAny_pyIter_tupleiter st h
theorem Cb(it:ae)(lo:Int)(n:Nat):Turn P w K tg (RK lo n) [it] it (λi h=>vc h it (lo+(i:Nat)*1) ((n:Int)-(i:Nat)) 1) where
  mem:=by simp
  obj:=λi h st b hb=>by
    have e:b=it:=by simpa using hb
    subst e;exact⟨_,st,λv z=>by
      have z':XI _=Data.cell v:=z;cases z'⟩
  keep:=λi h h' st k=>k it (by simp) _ st
  item:=by
    intro X hP hw hK hc i pk s σ H E I hf st hg;subst hP hw hK;obtain⟨f0,f1,f2,f3,f4,f5⟩:=hf it (by simp);refine vZ hg st λv h' tk hv st' kk=>?_;obtain⟨t,rfl⟩:=hv;have I1:Inv X pk σ H { s with heap:=h',toks:=tk }:=I.turned (λb o hb e=>kk b o (by simpa using hb) e) f0 f1 f3 f4 f5;refine⟨_,rfl,By (s:={ s with heap:=h',toks:=tk }) (n:="range_iterator") st' rfl rfl ∅ ⟨.int (lo+i),H,I1,⟨t,?_⟩,⟨rfl,rfl⟩,st',λb hb=>(hf b hb).1⟩⟩;rw[XJ]
  done:=by
    intro X hP hw hK hc i pk s σ H E I hf st hg;subst hP hw hK;obtain⟨f0,f1,f2,f3,f4,f5⟩:=hf it (by simp);exact yJ I.qu st (by have:n<=i:=hg;right) λh' eb=>⟨rfl,I.turned (t':=s.toks) (λb o hb e=>eb b o hb e) f0 f1 f3 f4 f5⟩
  self:=λ_ _ _ _ _ st h=>TX st h
variable {fp:List ae}{Yv:List ku}
theorem B4{R:It->Hp->Prop}{hi:Int}{t u v:Yg}{tk:Nat}(I:Inv X pk σ H s)(h1:-(2 ^ 62)<=lo)(h2:lo<2 ^ 62)(h3:-(2 ^ 62)<=hi)(h4:hi<2 ^ 62)
    (q:R (RK lo (hi-lo).toNat) H):bt (bz X.prog X.w) X.A (Y2 (.ref s.heap.objs.size)) (Sr X pk σ tg R) E { s with heap:=s.heap.push { cls:=.type "range",data:=.fields #[.int lo t,.int hi u,.int 1 v] },toks:=tk }:=by
  refine Vb (IsRange.new ..) (small_one h1 h2 h3 h4) ?_;have I1:Inv X pk σ H { s with heap:=s.heap.push { cls:=.type "range",data:=.fields #[.int lo t,.int hi u,.int 1 v] },toks:=tk }:=I.kept λb o e=>ap _ e;refine⟨(s.heap.push { cls:=.type "range",data:=.fields #[.int lo t,.int hi u,.int 1 v] }).objs.size,[(s.heap.push { cls:=.type "range",data:=.fields #[.int lo t,.int hi u,.int 1 v] }).objs.size],_,_,H,rfl,
    I1.kept (t':=tk) λb o e=>ap _ e,Cb _ lo (hi-lo).toNat,?_,λb hb=>?_,q⟩
  . have e1:lo+((0:Nat):Int)*1=lo:=by simp
    have e2:(((hi-lo).toNat:Nat):Int)-((0:Nat):Int)=fc lo hi 1:=by rw[rangeSize_one];split<;>right
    show vc _ _ (lo+((0:Nat):Int)*1) ((((hi-lo).toNat:Nat):Int)-((0:Nat):Int)) 1;rw[e1,e2];exact cj _ rfl
  . have e:b=(s.heap.push { cls:=.type "range",data:=.fields #[.int lo t,.int hi u,.int 1 v] }).objs.size:=by simpa using hb
    subst e;exact I1.fpOk (br _) (I1.hok.fresh (br _))
def Qd(ta:TA):TI:=λσ H R=>ta σ H λvs H1=>∃j:Int,vs=[.int j] /\ -(2 ^ 62)<=j/\j<2 ^ 62/\R (RK 0 j.toNat) H1
def Qc(ta:TA):TI:=λσ H R=>ta σ H λvs H1=>∃i j:Int,vs=[.int i,.int j]/\(-(2 ^ 62)<=i/\i<2 ^ 62 /\ -(2 ^ 62)<=j/\j<2 ^ 62)/\R (RK i (j-i).toNat) H1
theorem FN{a:Expr}{ta:TA}{pos:lv}(hg:Gl X "range")(hm:X.mg "range" = au)(ha:PA X [a] ta)(hs:aw [a] X.env=[(ao,gh a X.env)]:=by rfl):PI X tg (.Call (.Name "range" p) [a] [] pos) (Qd ta):=by
  intro pk s σ H R I h;refine Yb (nY I hg hm Vc (im (thn (ha pos pk s σ H _ I h) λus s1 ⟨vs,H1,I1,r1,q1⟩=>?_) hs rfl));obtain⟨j,e,q1,q2,q⟩:=q1;subst e;cases r1 with
  |cons r rr=>
    cases rr;obtain⟨t,rfl⟩:=r;exact call_range_1 (B4 I1 ⋯ ⋯ q1 q2 (by simpa using q))
theorem FM{a b:Expr}{ta:TA}{pos:lv}(hg:Gl X "range")(hm:X.mg "range" = au)(ha:PA X [a,b] ta)(hs:aw [a,b] X.env=[(ao,gh a X.env),(ao,gh b X.env)]:=by rfl)(hs2:aw [b] X.env=[(ao,gh b X.env)]:=by rfl):
    PI X tg (.Call (.Name "range" p) [a,b] [] pos) (Qc ta):=by
  intro pk s σ H R I h;refine Yb (nY I hg hm Vc (im (thn (ha pos pk s σ H _ I h) λus s1 ⟨vs,H1,I1,r1,q1⟩=>?_) (by rw[hs,hs2]) (by rw[hs2];rfl)));obtain⟨i,j,e,⟨q1,q2,q3,q4⟩,q⟩:=q1;subst e;cases r1 with
  |cons r rr=>
    cases rr with
    |cons r' rr=>
      cases rr;obtain⟨t,rfl⟩:=r;obtain⟨t',rfl⟩:=r';exact call_range_2 (B4 I1 q1 q2 q3 q4 q)
def Re(wi:TI)(g:TG)(tb:TS):TS:=λD σ H=>wi σ H λJ H1=>∃W:Nat->Nat->St->Hp->Prop,(∃m,W 0 m σ H1) /\ ∀i m σ H,W i m σ H ->
  (J.stop i H/\D.nx σ H) \/ (J.go i H /\ ∃N:St->Hp->Prop,(∀σ' H',N σ' H' -> ∃m',m'<m/\W (i+1) m' σ' H') /\ ∀x H',J.yld i H x H'->g x σ H' λσ2 H2=>tb { D with nx:=N,ct:=N,bk:=D.nx } σ2 H2)
def vL(fp:List ae)(h:dk):List (ae×jv):=fp.filterMap λb=>(h.get? b).map λo=>(b,o)
theorem mL(hb:b∈fp)(e:h.get? b=aa o):(b,o)∈vL fp h:=xz.mpr ⟨b,hb,by rw[e];rfl⟩
theorem Fa{p:ae×jv}(hp:p∈vL fp h):p.1∈fp/\h.get? p.1=aa p.2:=by
  obtain⟨b,hb,e⟩:=xz.mp hp;cases q:h.get? b with
  |none=>rw[q] at e;cases e
  |some o=>
    rw[q] at e;have e':(b,o)=p:=Option.some.inj e;subst e';exact⟨hb,q⟩
theorem Inv.pinned(I:Inv X pk σ H s)(hf:∀b∈fp,wR X pk H b)(ho:∀b∈fp,∃o,s.heap.get? b=aa o /\ ∀v,o.data ≠ .cell v):Inv X (pk++vL fp s.heap) σ H s:=
  I.pins_of λp hp=>(fj.mp hp).elim (λz=>I.pin p (eg _ z)) λz=>by
    obtain⟨hb,e⟩:=Fa z;obtain⟨f0,f1,f2,_⟩:=hf p.1 hb;obtain⟨o,e',d⟩:=ho p.1 hb;rw[e] at e';cases e';exact⟨e,f0,f1,f2,d⟩
theorem Inv.unpinned{pl:List (ae×jv)}(I:Inv X (pk++pl) σ H s):Inv X pk σ H s:=I.pins_of λp hp=>I.pin p (eg _ (gq _ hp))
theorem HG{iter:Expr}{wi:TI}{g:TG}{tb:TS}{pos:lv}(hp:PassesOwn (bz X.prog X.w) X.A X.env X.xe)(hc:X.N=X.N)(hi:PI X tg iter wi)(hg:PG X tg g)(hb:uT X Yv tb)
    (hs:∀x,io iter X.env x=jw x:=by intro _;rfl):PS X (.For tg iter Yv [] pos) (Re wi g tb):=by
  intro pk s σ H D I h;refine wpAny_For (thn (hi pk s σ H _ I h) λv s1 h1=>thn h1 λitv s2 h2=>?_) hs;obtain⟨it,fp,tn,J,H2,e,I2,T,st2,f2,W,⟨m0,w0⟩,turn⟩:=h2;subst e;have stat:∀{H':Hp},(∀b∈fp,H' b=au) -> ∀b∈fp,wR X pk H' b:=λhn b hb=>⟨hn b hb,(f2 b hb).2⟩;refine codeAny_forLoop_any (λn s'=>∃i σ' H',Inv X pk σ' H' s'/\tn i s'.heap/\(∀b∈fp,H' b=au)/\W i n σ' H') ?_ m0 ⟨0,σ,H2,I2,st2,λb hb=>(f2 b hb).1,w0⟩;rintro n s3 ⟨i,σ3,H3,I3,st3,fr3,w3⟩;rcases turn i n σ3 H3 w3 with⟨stop,qn⟩ | ⟨go,N,hN,step⟩
  . refine ut hp (thn (T.done X rfl rfl rfl hc i pk s3 σ3 H3 X.xe I3 (stat fr3) st3 stop) λr s4 ⟨hr,I4⟩=>?_);subst hr;exact wu ⟨σ3,H3,I4,qn⟩
  . refine ut hp (thn (T.item X rfl rfl rfl hc i pk s3 σ3 H3 X.xe I3 (stat fr3) st3 go) λr s4 ⟨u,hr,h4⟩=>?_);subst hr;refine ut hp (thn h4 λ_ s5 ⟨x,H5,I5,r5,y5,st5,fr5⟩=>?_);have I5':=I5.pinned (stat fr5) (T.obj _ _ st5);refine ut hp (thn (hg _ s5 σ3 H5 x u _ I5' r5 (step x H5 y5)) λ_ s6 ⟨σ6,H6,I6,q6⟩=>?_);refine ut hp (thn (hb _ s6 σ6 H6 _ I6 q6) λf s7 q7=>?_);have XM:∀{σ7:St} {H7:Hp},Inv X (pk++vL fp s5.heap) σ7 H7 s7->N σ7 H7 -> ∃m,m<n /\ ∃i σ' H',Inv X pk σ' H' s7/\tn i s7.heap/\(∀b∈fp,H' b=au)/\W i m σ' H':=λ{σ7 H7} I7 n7=>by
      obtain⟨m',hm,w7⟩:=hN σ7 H7 n7;refine⟨m',hm,i+1,σ7,H7,I7.unpinned,T.keep _ _ _ st5 λb hb o e=>(I7.pin (b,o) (eg _ (eg _ (mL hb e)))).1,λb hb=>?_,w7⟩;obtain⟨o,e,d⟩:=T.obj _ _ st5 b hb;exact(I7.pin (b,o) (eg _ (eg _ (mL hb e)))).2.1
    cases f with
    |next=>obtain⟨σ7,H7,I7,n7⟩:=q7;exact XM I7 n7
    |cont=>obtain⟨σ7,H7,I7,n7⟩:=q7;exact XM I7 n7
    |brk=>obtain⟨σ7,H7,I7,q7⟩:=q7;exact⟨σ7,H7,I7.unpinned,q7⟩
    |ret v=>obtain⟨x7,σ7,H7,I7,r7,q7⟩:=q7;exact⟨x7,σ7,H7,I7.unpinned,r7,q7⟩
abbrev R2:=V->V->Hp->VK->Prop
def lM(X:Cx)(f:af->af->Wm af)(r:R2):Prop:=
  ∀(pk:List (ae×jv)) (s:ah) (σ:St) (H:Hp) (x y:V) (v u:af) (Q:VK),Inv X pk σ H s->cO x v->cO y u->r x y H Q ->
    bt (bz X.prog X.w) X.A (f v u) (EP X pk σ Q) X.xe s
def SZ(X:Cx)(f:af->Wm af)(r:V->Hp->VK->Prop):Prop:=
  ∀(pk:List (ae×jv)) (s:ah) (σ:St) (H:Hp) (x:V) (v:af) (Q:VK),Inv X pk σ H s->cO x v->r x H Q ->
    bt (bz X.prog X.w) X.A (f v) (EP X pk σ Q) X.xe s
def fM(X:Cx)(f:af)(r:List V->Hp->VK->Prop):Prop:=
  ∀(pk:List (ae×jv)) (s:ah) (σ:St) (H:Hp) (xs:List V) (us:List af) (Q:VK),Inv X pk σ H s->bV xs us->r xs H Q ->
    bt (bz X.prog X.w) X.A (call f us) (EP X pk σ Q) X.xe s
def Sa(X:Cx)(r:V->Hp->(Bool->Hp->Prop)->Prop):Prop:=
  ∀(pk:List (ae×jv)) (s:ah) (σ:St) (H:Hp) (x:V) (v:af) (Q:Bool->Hp->Prop),Inv X pk σ H s->cO x v->r x H Q ->
    bt (bz X.prog X.w) X.A (truthy v) (TP X pk σ Q) X.xe s
def Oz(r:R2)(ta tb:TE):TE:=λσ H Q=>ta σ H λx H1=>tb σ H1 λy H2=>r x y H2 Q
def Sy(r:V->Hp->VK->Prop)(ta:TE):TE:=λσ H Q=>ta σ H λx H1=>r x H1 Q
def rI(C:Int->Int->Prop)(g:Int->Int->V):R2:=λx y H Q=>∃i j,x=.int i/\y=.int j/\C i j/\Q (g i j) H
def Cw(g:Int->Int->V):R2:=λx y H Q=>∃i j,x=.int i/\y=.int j/\Q (g i j) H
def rU(g:Int->V):V->Hp->VK->Prop:=λx H Q=>∃i,x=.int i/\Q (g i) H
variable {us:List af}{op op':Wf}{r r':R2}{y:V}
section
variable {a b c:Expr}{tc:TE}{pos:lv}
theorem OZ(ha:PE X a ta)(hb:PE X b tb){R:V->V->Hp->Prop}(I:Inv X pk σ H s)
    (h:ta σ H λx H1=>tb σ H1 λy H2=>R x y H2)  {f:af->af->Wm af}
    (hf:∀v u s2 x y H2,Inv X pk σ H2 s2->cO x v->cO y u->R x y H2->bt (bz X.prog X.w) X.A (f v u) Q X.xe s2):
    bt (bz X.prog X.w) X.A (gh a X.env) (λv s₁=>bt (bz X.prog X.w) X.A (gh b X.env) (λu s₂=>bt (bz X.prog X.w) X.A (f v u) Q X.xe s₂) X.xe s₁) X.xe s:=by
  refine thn (ha pk s σ H _ I h) λv s1 ⟨x,H1,I1,r1,q1⟩=>?_;refine thn (hb pk s1 σ H1 _ I1 q1) λu s2 ⟨y,H2,I2,r2,q2⟩=>?_;exact hf v u s2 x y H2 I2 r1 r2 q2
theorem Pw{op:Ut}(ho:lM X (lf op) r)(ha:PE X a ta)(hb:PE X b tb):PE X (.BinOp a op b pos) (Oz r ta tb):=by
  intro pk s σ H Q I h;exact wpAny_BinOp (OZ ha hb I h λv u s2 x y H2 I2 rx ry q=>ho pk s2 σ H2 x y v u Q I2 rx ry q)
theorem Pu{op:UnaryOp}{r:V->Hp->VK->Prop}(ho:SZ X (unaryOp op) r)(ha:PE X a ta):PE X (.UnaryOp op a pos) (Sy r ta):=by
  intro pk s σ H Q I h;exact UnaryOp_ (thn (ha pk s σ H _ I h) λv s1 ⟨x,H1,I1,r1,q1⟩=>ho pk s1 σ H1 x v Q I1 r1 q1)
theorem QD{f:af->af->Wm af}{C:Int->Int->Prop}{g:Int->Int->Int}
    (Xk:∀(i j:Int) (t u:Yg) (s:ah) (Q:af->ah->Prop) (E:af->ah->Prop),C i j->Q (.int (g i j) s.toks) { s with toks:=s.toks+1 }->bt (bz X.prog X.w) X.A (f (.int i t) (.int j u)) Q E s):
    lM X f (rI C λi j=>.int (g i j)):=by
  intro pk s σ H x y v u Q I rx ry h;obtain⟨i,j,rfl,rfl,hc,q⟩:=h;obtain⟨t,rfl⟩:=rx;obtain⟨t',rfl⟩:=ry;exact Xk i j t t' s _ _ hc ⟨.int (g i j),H,I.tok _,⟨_,rfl⟩,q⟩
theorem Nu{f:af->af->Wm af}{g:Int->Int->Int}
    (Xk:∀(i j:Int) (t u:Yg) (s:ah) (Q:af->ah->Prop) (E:af->ah->Prop),Q (.int (g i j) s.toks) { s with toks:=s.toks+1 }->bt (bz X.prog X.w) X.A (f (.int i t) (.int j u)) Q E s):
    lM X f (Cw λi j=>.int (g i j)):=by
  intro pk s σ H x y v u Q I rx ry h;obtain⟨i,j,rfl,rfl,q⟩:=h;obtain⟨t,rfl⟩:=rx;obtain⟨t',rfl⟩:=ry;exact Xk i j t t' s _ _ ⟨.int (g i j),H,I.tok _,⟨_,rfl⟩,q⟩
theorem Nv{f:af->af->Wm af}{g:Int->Int->Bool}
    (Xk:∀(i j:Int) (t u:Yg) (s:ah) (Q:af->ah->Prop) (E:af->ah->Prop),Q (.bool (g i j)) s->bt (bz X.prog X.w) X.A (f (.int i t) (.int j u)) Q E s):
    lM X f (Cw λi j=>.bl (g i j)):=by
  intro pk s σ H x y v u Q I rx ry h;obtain⟨i,j,rfl,rfl,q⟩:=h;obtain⟨t,rfl⟩:=rx;obtain⟨t',rfl⟩:=ry;exact Xk i j t t' s _ _ ⟨.bl (g i j),H,I,rfl,q⟩
def Jl(i j:Int):Prop:=0<=j/\j<=1000000/\i.natAbs<2 ^ 64
def Ol(i j:Int):Prop:=(-(2 ^ 64)<i/\i<2 ^ 64) \/ (-(2 ^ 64)<j/\j<2 ^ 64)
theorem Ol.ok{i j:Int}(h:Ol i j):IntMulOk i j:=by
  rcases h with⟨h1,h2⟩ | ⟨h1,h2⟩
  . exact .of_left (intBits_le_64 h1 h2)
  . exact .of_right (intBits_le_64 h1 h2)
theorem Nt:lM X (lf .Add) (Cw λi j=>.int (i+j)):=Nu λ_ _ _ _ _ _ _ q=>add_int q
theorem Ni:lM X (lf .Sub) (Cw λi j=>.int (i-j)):=Nu λ_ _ _ _ _ _ _ q=>sub_int q
theorem Nm:lM X (lf .Mod) (rI (λ_ j=>0<j) λi j=>.int (i % j)):=QD λi j _ _ _ _ _ hc q=>by
  have h1:(0:Int)<j:=hc;exact mod_int' ⋯ (by rw[Int.fmod_eq_emod_of_nonneg i ⋯];exact q)
theorem Nj:lM X (lf .LShift) (rI Jl λi j=>.int (i*2 ^ j.toNat)):=QD λ_ _ _ _ _ _ _ hc q=>lshift_int_small hc.1 hc.2.1 hc.2.2 q
theorem LN:lM X (UO .Add) (Cw λi j=>.int (i+j)):=Nu λ_ _ _ _ _ _ _ q=>iadd_int q
theorem Sx{f:af->Wm af}{g:Int->Int}
    (Xk:∀(i:Int) (t:Yg) (s:ah) (Q:af->ah->Prop) (E:af->ah->Prop),Q (.int (g i) s.toks) { s with toks:=s.toks+1 }->bt (bz X.prog X.w) X.A (f (.int i t)) Q E s):
    SZ X f (rU λi=>.int (g i)):=by
  intro pk s σ H x v Q I rx h;obtain⟨i,rfl,q⟩:=h;obtain⟨t,rfl⟩:=rx;exact Xk i t s _ _ ⟨.int (g i),H,I.tok _,⟨_,rfl⟩,q⟩
theorem Mt:SZ X (unaryOp .USub) (rU λi=>.int (-i)):=Sx λ_ _ _ _ _ q=>neg_int q
theorem BZ:lM X (fm .Lt) (Cw λi j=>.bl (decide (i<j))):=Nv λ_ _ _ _ _ _ _ q=>lt_int q
theorem Hz:lM X (fm .LtE) (Cw λi j=>.bl (decide (i<=j))):=Nv λ_ _ _ _ _ _ _ q=>le_int q
theorem QC:lM X (fm .Gt) (Cw λi j=>.bl (decide (j<i))):=Nv λ_ _ _ _ _ _ _ q=>gt_int q
theorem lM.or{f:af->af->Wm af}(h:lM X f r)(h':lM X f r'):lM X f (λx y H Q=>r x y H Q \/ r' x y H Q):=by
  intro pk s σ H x y v u Q I rx ry q;rcases q with q | q
  . exact h pk s σ H x y v u Q I rx ry q
  . exact h' pk s σ H x y v u Q I rx ry q
theorem nomark(b:Expr)(h:op ≠ .In:=by decide)(h2:op ≠ .NotIn:=by decide):uq op b=ao:=by
  have e1:(op==CmpOp.In)=ao:=by cases op<;>first | rfl | exact absurd rfl h
  have e2:(op==CmpOp.NotIn)=ao:=by cases op<;>first | rfl | exact absurd rfl h2
  cases b<;>simp[uq,e1,e2]
theorem Ki(ho:lM X (fm op) r)(ha:PE X a ta)(hb:PE X b tb)(hm:uq op b=ao):PE X (.Compare a [op] [b] pos) (Oz r ta tb):=by
  intro pk s σ H Q I h;exact wpAny_Compare1 (OZ ha hb I h λv u s2 x y H2 I2 rx ry q=>ho pk s2 σ H2 x y v u Q I2 rx ry q) hm
def Ly(t:TE):TT:=λσ H Q=>t σ H λx H'=>∃k,x=.bl k/\Q k H'
theorem KY(ho:lM X (fm op) r)(ha:PE X a ta)(hb:PE X b tb)(hm:uq op b=ao):PT X (.Compare a [op] [b] pos) (Ly (Oz r ta tb)):=by
  intro pk s σ H Q I h;refine wpAny_isTrue_Compare1 (thn (ha pk s σ H _ I h) λv s1 ⟨x,H1,I1,r1,q1⟩=>thn (hb pk s1 σ H1 _ I1 q1) λu s2 ⟨y,H2,I2,r2,q2⟩=>
    thn (ho pk s2 σ H2 x y v u _ I2 r1 r2 q2) λc s3 ⟨z,H3,I3,r3,k,e,q3⟩=>?_) hm
  subst e;cases r3;exact ik ⟨H3,I3,q3⟩
def Ci(r r':R2)(ta tb tc:TE):TE:=λσ H Q=>ta σ H λx H1=>tb σ H1 λy H2=>r x y H2 λz H3=>∃k,z=.bl k /\
  (if k=ai then tc σ H3 λw' H4=>r' y w' H4 Q else Q (.bl ao) H3)
theorem HV(ho:lM X (fm op) r)(ho':lM X (fm op') r')(ha:PE X a ta)(hb:PE X b tb)(hc:PE X c tc)
    (hm:VQ [op,op'] [b,c]=ao:=by with_unfolding_all rfl):PE X (.Compare a [op,op'] [b,c] pos) (Ci r r' ta tb tc):=by
  intro pk s σ H Q I h;refine Compare_chain (thn (ha pk s σ H _ I h) λv s1 ⟨x,H1,I1,r1,q1⟩=>chain_link (thn (hb pk s1 σ H1 _ I1 q1) λu s2 ⟨y,H2,I2,r2,q2⟩=>
    thn (ho pk s2 σ H2 x y v u _ I2 r1 r2 q2) λd s3 ⟨z,H3,I3,r3,k,e,q3⟩=>?_)) hm
  subst e;cases r3;refine ik ?_;cases k with
  |false=>exact ite_ff ⟨.bl ao,H3,I3,rfl,q3⟩
  |true=>exact ite_tt (chain_last (thn (hc pk s3 σ H3 _ I3 q3) λw' s4 ⟨z',H4,I4,r4,q4⟩=>ho' pk s4 σ H4 y z' u w' Q I4 r2 r4 q4))
theorem HC(ho:lM X (fm op) r)(ho':lM X (fm op') r')(ha:PE X a ta)(hb:PE X b tb)(hc:PE X c tc)
    (hm:VQ [op,op'] [b,c]=ao:=by with_unfolding_all rfl):PT X (.Compare a [op,op'] [b,c] pos) (Ly (Ci r r' ta tb tc)):=by
  intro pk s σ H Q I h;refine isTrue_chain (thn (ha pk s σ H _ I h) λv s1 ⟨x,H1,I1,r1,q1⟩=>test_link (thn (hb pk s1 σ H1 _ I1 q1) λu s2 ⟨y,H2,I2,r2,q2⟩=>
    thn (ho pk s2 σ H2 x y v u _ I2 r1 r2 q2) λd s3 ⟨z,H3,I3,r3,k,e,q3⟩=>?_)) hm
  subst e;cases r3;refine ik ?_;cases k with
  |false=>
    obtain⟨k',e',q'⟩:=q3;cases e';exact ite_ff ⟨H3,I3,q'⟩
  |true=>
    refine ite_tt (test_last (thn (hc pk s3 σ H3 _ I3 q3) λw' s4 ⟨z',H4,I4,r4,q4⟩=>thn (ho' pk s4 σ H4 y z' u w' _ I4 r2 r4 q4) λd' s5 ⟨z2,H5,I5,r5,k2,e2,q5⟩=>?_));subst e2;cases r5;exact ik ⟨H5,I5,q5⟩
def R5(K:ak)(x:V)(H:Hp)(k:Bool):Prop:=
  match x with
  | .non=>k=ao
  | .bl b=>k=b
  | .int i=>k=(i != 0)
  | .str y=>y.length<=bu/\k=((y.length:Int) != 0)
  | .byt y=>y.size<=bu/\k=((y.size:Int) != 0)
  | .ref p=>(∃xs,gJ K H p xs/\k = !xs.isEmpty) \/ (∃xs,pF K H p xs/\k = !xs.isEmpty) \/ ∃kvs,H p=aa (.dK kvs)/\k = !kvs.isEmpty
  |_=>False
theorem DR{kvs:List (κ×V)}{vs:List (κ×af)}(r:KV kvs vs):(!vs.isEmpty) = !kvs.isEmpty:=by
  cases r<;>rfl
theorem w5{xs:List V}{its:List af}(r:bV xs its):(!its.toArray.isEmpty) = !xs.isEmpty:=by
  cases r<;>simp
theorem sZ:(bu:Nat)<2 ^ 63:=by rw[kg];decide
theorem Mv:Sa X (λx H Q=>∃k,R5 X.K x H k/\Q k H):=by
  intro pk s σ H x v Q I rx h;obtain⟨k,e,q⟩:=h;have hl:=sZ;have hs:bu=16777216:=kg;cases x with
  |non=>
    cases rx;have e':k=ao:=e;subst e';exact truthy_none ⟨H,I,q⟩
  |bl b=>
    cases rx;have e':k=b:=e;subst e';exact ik ⟨H,I,q⟩
  |int i=>
    obtain⟨t,rfl⟩:=rx;have e':k=(i != 0):=e;subst e';exact PySem.P.truthy_int ⟨H,I,q⟩
  |str y=>
    obtain⟨t,rfl⟩:=rx;obtain⟨hy,e'⟩:y.length<=bu/\k=((y.length:Int) != 0):=e;subst e';exact PySem.P.truthy_str ⋯ ⟨H,I.tok _,q⟩
  |byt y=>
    obtain⟨t,rfl⟩:=rx;obtain⟨hy,e'⟩:y.size<=bu/\k=((y.size:Int) != 0):=e;subst e';exact W.truthy_bytes ⋯ ⟨H,I.tok _,q⟩
  |ref p=>
    cases rx;have e':(∃xs,gJ X.K H p xs/\k = !xs.isEmpty) \/ (∃xs,pF X.K H p xs/\k = !xs.isEmpty) \/ ∃kvs,H p=aa (.dK kvs)/\k = !kvs.isEmpty:=e;rcases e' with⟨xs,hx,e'⟩ | ⟨xs,hx,e'⟩ | ⟨kvs,hx,e'⟩
    . subst e';obtain⟨its,r,pl,hz⟩:=I.list hx;have hlen:=r.length;exact wpAny_truthy_list pl.isList (by simp only[fh];right) ⟨H,I.tok _,by rw[w5 r];exact q⟩
    . subst e';obtain⟨its,r,pl,hz⟩:=I.tuple hx;have hlen:=r.length;exact truthy_tuple pl (by simp only[fh];right) ⟨H,I.tok _,by rw[w5 r];exact q⟩
    . subst e';obtain⟨hz,hS,vs,r,m⟩:kvs.length<=bu/\(p==ji)=ao /\ ∃vs,KV kvs vs/\s.heap.DictOf (eP X.prog X.w) p vs:=I.hok p _ hx;have hlen:kvs.length=vs.length:=Paired.length r;exact wpAny_truthy_dict hS m ⋯ ⟨H,I.tok _,by rw[DR r];exact q⟩
  |_=>exact(show False from e).elim
theorem HA(ha:PE X a ta)(he:∀YC,isTrue a X.env YC=(do let v <- YC;Vr a.pos;Vs [v] (truthy v))):
    PT X a (λσ H Q=>ta σ H λx H'=>∃k,R5 X.K x H' k/\Q k H'):=by
  intro pk s σ H Q I h;exact isTrue_plain (thn (ha pk s σ H _ I h) λv s1 ⟨x,H1,I1,r1,q1⟩=>Mv pk s1 σ H1 x v Q I1 r1 q1) (he _)
theorem DB:lM X (lf .Add) (λx y H Q=>∃i j,x=.str i/\y=.str j/\i.length+j.length<=bu/\Q (.str (i++j)) H):=by
  intro pk s σ H x y v u Q I rx ry h;obtain⟨i,j,rfl,rfl,hz,q⟩:=h;obtain⟨t,rfl⟩:=rx;obtain⟨t',rfl⟩:=ry;exact add_str (λt' tk=>⟨.str (i++j),H,I.tok _,⟨_,rfl⟩,q⟩) hz
theorem Bw:lM X (UO .Add) (λx y H Q=>∃i j,x=.str i/\y=.str j/\i.length+j.length<=bu/\Q (.str (i++j)) H):=by
  intro pk s σ H x y v u Q I rx ry h;obtain⟨i,j,rfl,rfl,hz,q⟩:=h;obtain⟨t,rfl⟩:=rx;obtain⟨t',rfl⟩:=ry;exact iadd_str (λt' tk=>⟨.str (i++j),H,I.tok _,⟨_,rfl⟩,q⟩) hz
theorem kF{x:V}(r:bV [x] us):∃u,us=[u]/\cO x u:=by
  cases r with
  |cons r1 r2=>cases r2;exact⟨_,rfl,r1⟩
theorem Ah{x:V}(r:bV [x,y] us):∃u w',us=[u,w']/\cO x u/\cO y w':=by
  cases r with
  |cons r1 r2=>
    cases r2 with
    |cons r3 r4=>cases r4;exact⟨_,_,rfl,r1,r3⟩
theorem JY:fM X (.builtin "abs") (λxs H Q=>∃i,xs=[.int i]/\Q (.int (if i<0 then -i else i)) H):=by
  intro pk s σ H xs us Q I r h;obtain⟨i,rfl,q⟩:=h;obtain⟨u,rfl,t,rfl⟩:=kF r;exact call_abs_int λu tk=>⟨.int (if i<0 then -i else i),H,I.tok _,⟨_,rfl⟩,q⟩
theorem GK(hc:X.calm=ai):fM X (.builtin "min") (λxs H Q=>∃i j,xs=[.int i,.int j]/\Q (.int (if j<i then j else i)) H):=by
  intro pk s σ H xs us Q I r h;obtain⟨i,j,rfl,q⟩:=h;obtain⟨u,w',rfl,⟨t,rfl⟩,⟨t',rfl⟩⟩:=Ah r;refine min_two_ints (I.ok.hd hc) λh' tk k=>⟨_,H,I.kept k,?_,q⟩;by_cases hj:j<i
  . rw[Yh hj,Yh hj];exact⟨_,rfl⟩
  . rw[XQ hj,XQ hj];exact⟨_,rfl⟩
end
structure ObjM(h:dk)(x dx C:ae)(mA:bv->Option af):Prop where
  obj:h.get? x=aa (wf C dx)
  ns:h.Ns1 dx mA
  ne:dx≠x
variable {dx:ae}{mA:bv->Option af}
theorem Fi(n:h.Ns1 dx mA):∃od,h.get? dx=aa od /\ ∀name,WH name od=aa (mA name):=by
  obtain⟨o,es,ep,ho,hd,hk,_,hm⟩:=n;refine⟨o,ho,λname=>?_⟩;have e:=hm name;unfold nsFind findBy at e;rw[<- Array.find?_toList] at e;unfold WH;rw[hd];dsimp only;split
  . rename_i y q;rw[q] at e;exact congrArg aa e
  . rename_i q;rw[q] at e;have a:es.toList.any (·.refKey)=ao:=by
      rw[zh];intro y hy;obtain⟨z,t,hkey⟩:=hk y (Array.mem_toList_iff.mp hy);simp[DictEntry.refKey,hkey]
    have a':¬es.toList.any (·.refKey)=ai:=by rw[a];exact jj
    rw[XQ a'];exact congrArg aa e
theorem ObjM.look{x:ae}(I:ObjM h x dx C mA):∃od,W.InstAt h x (wf C dx) C (aa od) /\ ∀name,WH name od=aa (mA name):=
  let ⟨od,ho,hl⟩:=Fi I.ns
  ⟨od,⟨I.obj,rfl,rfl,ho⟩,hl⟩
variable {pl:Wm Bool}{kw:List (bv×af)}{name:bv}
section
variable {x:ae}{v:af}
theorem LQ{expr:Bool}(X:K.In s.heap)(I:ObjM s.heap x dx C mA)(hg:Vd K C name=ai)(hh:Wg K C=ai)
    (ha:jq K (.ref C) name=aa au) (hv:mA name=aa v) (hv':W.handedIn v=ai) (h:Q v { s with toks:=s.toks+1 }):
    bt (bz prog w) A (getAttr (.ref x) name expr) Q E s:=by
  obtain⟨od,J,hl⟩:=I.look;exact W.get_value X J (V1 hg).1 (W.findObj_own hh ha rfl (by rw[hl,hv])) hv' h
theorem JC{Q:af×List af->ah->Prop}(X:K.In s.heap)(I:ObjM s.heap x dx C mA)(hg:Vd K C name=ai)
    (hf:jq K (.ref C) name=aa (aa (.ref f))) (ht:Y3 K (.ref f)=ai) (hv:mA name=au) (h:Q (.ref f,[.ref x]) s):
    bt (bz prog w) A (Tt (.ref x) name pl) Q E s:=by
  obtain⟨od,J,hl⟩:=I.look;exact W.method_fn X J (V1 hg).1 (V1 hg).2 hf (beq_iff_eq.mp ht) (by show (WH name od).map (·.isSome)=aa ao;rw[hl,hv];rfl) h
theorem KB{ns:List bv}{Q:Unit->ah->Prop}(X:K.In s.heap)(I:ObjM s.heap x dx C mA)
    (hs:jq K (.ref C) "__setattr__" = aa (aa (.builtin "object.__setattr__"))) (hp:W.plainOver K C=ai) (ht:Xc K C name=aa au) (hh:Wg K C=ai)
    (hw:Vn mA ns) (hsz:ns.length<=bu)
    (h:∀h',ObjM h' x dx C (λy=>if y=name then aa v else mA y)->oz dx s.heap h'->Q () { s with heap:=h',toks:=s.toks+2 }):
    bt (bz prog w) A (setAttr (.ref x) name v) Q E s:=by
  obtain⟨od,J,hl⟩:=I.look;refine W.set_plain X J hs (W.osa_open (s:={ s with toks:=s.toks+1 }) (r:=au) X J hp ht λb=>?_);obtain⟨cd,hc,hd'⟩:=W.any_some hh;have hx:s.heap.get? x=aa ⟨.ref C,aa dx,.plain,#[]⟩:=I.obj;refine ad (aj (ad (ad (WI hx (ad (wo.here (s:={ s with toks:=s.toks+1 }) (W.looks_clsIn X hc) ?_))))));rw[hd'];refine aj (a:=aa dx) (ad (aj (ad ?_)));refine wpAny_nsSet1 (s:={ s with toks:=s.toks+1 }) I.ns λh' hn2 hs2=>?_;obtain⟨oD,esD,epD,hoD,hdD,hcD⟩:=hn2.count (PySem.Within.cons name v hw);refine ad (wpAny_lookBehind hoD (by rw[hdD];exact pastItsLine_dict (ly hcD (by rw[cg];right))) ?_);exact aj (h _ ⟨(hs2.2 _ (Ne.symm I.ne)).trans I.obj,hn2,I.ne⟩ hs2)
theorem IQ{R:Xl->ah->Prop}{vs:List af}(X:K.In s.heap)(hm:VR K C=ai)
    (hi:jq K (.ref C) "__init__" = aa (aa (.ref f))) (hf:W.typeIn K (.ref f)=aa (.type "function"))
    (h:zi (bz prog w) (A.under (.builtin "type.__call__" ⟨.ref C::vs,kw⟩)) (.call (.ref f) ⟨.ref (s.heap.objs.size+1)::vs,kw⟩) (W.InitBack (s.heap.objs.size+1) R)
      { s with heap:=(s.heap.push qw).push (wf C s.heap.objs.size) }):
    zi (bz prog w) A (.call (.ref C) ⟨vs,kw⟩) R s:=by
  obtain⟨hh,g,d,t,os⟩:=s;exact W.make_core (W.makes_of X hm) (ya X hi) (λself=>W.bind_fn X self hf) (.inl rfl) h
end
def mH(f:bv)(v:V):List (bv×V)->List (bv×V)
  | []=>[(f,v)]
  | (g,x)::r=>if g=f then (g,v)::r else (g,x)::mH f v r
theorem tN(f g:bv)(v:V):∀fs:List (bv×V),(mH f v fs).lookup g=if g=f then aa v else fs.lookup g
  | []=>by
    show List.lookup g [(f,v)]=_;by_cases h:g=f
    . have hb:(g==f)=ai:=beq_iff_eq.mpr h;simp only[List.lookup,hb,Yh h]
    . have hb:(g==f)=ao:=beq_eq_false_iff_ne.mpr h;simp only[List.lookup,hb,XQ h]
  | (k,x)::r=>by
    have ih:=tN f g v r;rw[show mH f v ((k,x)::r)=(if k=f then (k,v)::r else (k,x)::mH f v r) from rfl];by_cases hk:k=f
    . rw[Yh hk];by_cases h:g=k
      . have hb:(g==k)=ai:=beq_iff_eq.mpr h;simp only[List.lookup,hb,Yh (h.trans hk)]
      . have hb:(g==k)=ao:=beq_eq_false_iff_ne.mpr h;simp only[List.lookup,hb,XQ (λe:g=f=>h (e.trans hk.symm))]
    . rw[XQ hk];by_cases h:g=k
      . have hb:(g==k)=ai:=beq_iff_eq.mpr h;simp only[List.lookup,hb,XQ (λe:g=f=>hk (h.symm.trans e))]
      . have hb:(g==k)=ao:=beq_eq_false_iff_ne.mpr h;simp only[List.lookup,hb];exact ih
theorem t4(f:bv)(v:V):∀fs:List (bv×V),f∈(mH f v fs).map (·.1) /\ ∀g,g∈fs.map (·.1)->g∈(mH f v fs).map (·.1)
  | []=>⟨by simp[mH],λg h=>by simp at h⟩
  | (k,x)::r=>by
    obtain⟨i1,i2⟩:=t4 f v r;rw[show mH f v ((k,x)::r)=(if k=f then (k,v)::r else (k,x)::mH f v r) from rfl];by_cases hk:k=f
    . rw[Yh hk];subst hk;exact⟨by simp,λg h=>by simpa using h⟩
    . rw[XQ hk];refine⟨?_,λg h=>?_⟩
      . rw[cr];exact df _ i1
      . rw[cr] at h ⊢;rcases dj.mp h with e | e
        . exact dj.mpr (.inl e)
        . exact df _ (i2 g e)
theorem tP(f:bv)(v:V):∀fs:List (bv×V),(mH f v fs).length<=fs.length+1
  | []=>by simp[mH]
  | (k,x)::r=>by
    have ih:=tP f v r;rw[show mH f v ((k,x)::r)=(if k=f then (k,v)::r else (k,x)::mH f v r) from rfl];by_cases hk:k=f
    . rw[Yh hk,cg,cg];right
    . rw[XQ hk,cg,cg];right
theorem pP.some_of{o:Option af}(r:pP (aa v) o):∃u,o=aa u/\cO v u:=by
  cases o with
  |none=>exact(show False from r).elim
  |some u=>exact⟨u,rfl,r⟩
theorem pP.none_of{o:Option af}(r:pP au o):o=au:=by
  cases o with
  |none=>rfl
  |some u=>exact(show False from r).elim
theorem G4(r:cO v u):W.handedIn u=ai:=by
  cases v with
  |non=>cases (show u=gc from r);rfl
  |bl b=>cases (show u=TV b from r);rfl
  |int i=>obtain⟨t,e⟩:=(show ∃t,u=Value.int i t from r);cases e;rfl
  |str x=>obtain⟨t,e⟩:=(show ∃t,u=Value.str x t from r);cases e;rfl
  |byt b=>obtain⟨t,e⟩:=(show ∃t,u=XH b t from r);cases e;rfl
  |flt b=>obtain⟨t,e⟩:=(show ∃t,u=Wd b t from r);cases e;rfl
  |ref a=>cases (show u=Value.ref a from r);rfl
  |ty n=>cases (show u=Y1 n from r);rfl
section
variable {fs fs':List (bv×V)}
theorem uJ(hok:lN P w H h)(e:H a=aa (.ins C dx fs)):∃mA,ObjM h a dx C mA/\(∀f,pP (fs.lookup f) (mA f))/\Vn mA (fs.map (·.1))/\fs.length<=1000/\H dx=aa (.own a):=by
  obtain⟨d,z,ne,ob,mA,n,r,q⟩:=(show cI P w H h a (.ins C dx fs) from hok a _ e);exact⟨mA,⟨ob,n,ne⟩,r,q,z,d⟩
end
structure Cls(K:ak)(C:ae):Prop where
  pg:Vd K C Str.empty=ai
  hd:Wg K C=ai
  po:W.plainOver K C=ai
  sa:jq K (.ref C) "__setattr__" = aa (aa (.builtin "object.__setattr__"))
theorem Cls.get(c:Cls K C)(f:bv):Vd K C f=ai:=c.pg
def jG(K:ak)(C:ae)(f:bv):Prop:=jq K (.ref C) f=aa au
theorem jG.taker{f:bv}(n:jG K C f):Xc K C f=aa au:=by
  unfold Xc;rw[show jq K (.ref C) f=aa au from n];rfl
structure Meth(K:ak)(C:ae)(m:bv)(f:ae):Prop where
  at_:jq K (.ref C) m=aa (aa (.ref f))
  fn:Y3 K (.ref f)=ai
  kp:qj K (.ref f)=ai
variable {m:bv}
section
variable {fs:List (bv×V)}{f:bv}
theorem DU{b:Bool}(I:Inv X pk σ H s)(e:H a=aa (.ins C dx fs))(c:Cls X.K C)(n:jG X.K C f)(l:fs.lookup f=aa v)
    (h:∀u s',Inv X pk σ H s'->cO v u->Q u s'):bt (bz X.prog X.w) A (getAttr (.ref a) f b) Q E s:=by
  obtain⟨mA,O,r,_,_,_⟩:=uJ I.hok e;obtain⟨u,hu,ru⟩:=pP.some_of (v:=v) (o:=mA f) (by rw[<- l];exact r f);exact LQ I.kIn O (c.get f) c.hd n hu (G4 ru) (h u _ (I.tok _) ru)
theorem wA{g:ae}{Q:af×List af->ah->Prop}(I:Inv X pk σ H s)(e:H a=aa (.ins C dx fs))(c:Cls X.K C)(k:Meth X.K C m g)(l:fs.lookup m=au)
    (h:Q (.ref g,[.ref a]) s):bt (bz X.prog X.w) A (Tt (.ref a) m pl) Q E s:=by
  obtain⟨mA,O,r,_,_,_⟩:=uJ I.hok e;have hn:mA m=au:=pP.none_of (by rw[<- l];exact r m);exact JC I.kIn O (c.get m) k.at_ k.fn hn h
theorem Co{Q:Unit->ah->Prop}(I:Inv X pk σ H s)(e:H a=aa (.ins C dx fs))(c:Cls X.K C)(n:jG X.K C f)(hl:fs.length<1000)(ry:cO y u)
    (h:∀s',Inv X pk σ (upd H a (.ins C dx (mH f y fs))) s'->Q () s'):bt (bz X.prog X.w) A (setAttr (.ref a) f u) Q E s:=by
  obtain⟨mA,O,r,wi,_,ho⟩:=uJ I.hok e;have hz:(fs.map (·.1)).length<=bu:=by rw[bf,kg];right
  refine KB I.kIn O c.sa c.po n.taker c.hd wi hz λh' O' sb=>h _ ?_;have hd:∃o,h'.get? dx=aa o:=let ⟨o,_,_,e',_⟩:=O'.ns;⟨o,e'⟩;refine I.write (x:=a) (e:=dx) (by rw[e];exact mj) (.inr ho) (λb q hb z=>(sb.2 b hb).trans z) hd ?_;refine⟨by rw[bB O.ne];exact ho,?_,O.ne,O'.obj,_,O'.ns,λg=>?_,λg hg=>?_⟩
  . have:=tP f y fs;right
  . show pP ((mH f y fs).lookup g) (if g=f then aa u else mA g);rw[tN];by_cases q:g=f
    . rw[Yh q,Yh q];exact ry
    . rw[XQ q,XQ q];exact r g
  . by_cases q:g=f
    . rw[q];exact(t4 f y fs).1
    . refine(t4 f y fs).2 g (wi g λz=>hg ?_);show (if g=f then aa u else mA g)=au;rw[XQ q];exact z
theorem Inv.made(I:Inv X pk σ H s):Inv X pk σ (upd (upd H s.heap.objs.size (.own (s.heap.objs.size+1))) (s.heap.objs.size+1) (.ins C s.heap.objs.size []))
    { s with heap:=(s.heap.push qw).push (wf C s.heap.objs.size) }:=by
  have e1:(s.heap.push qw).get? s.heap.objs.size=aa qw:=cj s.heap rfl;have e2:((s.heap.push qw).push (wf C s.heap.objs.size)).get? (s.heap.objs.size+1)=aa (wf C s.heap.objs.size):=by
    have:=cj (s.heap.push qw) (o:=wf C s.heap.objs.size) rfl;rwa[vi] at this
  have e3:(s.heap.push qw).Ns s.heap.objs.size (λ_=>au):=⟨qw,#[],_,e1,rfl,(λe he=>absurd he (by simp)),λ_=>rfl⟩;have I1:=I.laid (a:=s.heap.objs.size) (o:=.own (s.heap.objs.size+1)) (h':=s.heap.push qw) (t':=s.toks) (λb u q=>ap _ q) (br _) ⟨_,e1⟩;refine I1.laid (a:=s.heap.objs.size+1) (o:=.ins C s.heap.objs.size []) (t':=s.toks) (λb u q=>ap _ q) (Xm (vi _ _)) ?_;have ne:s.heap.objs.size≠s.heap.objs.size+1:=gn (VS _);refine⟨by rw[bB ne,bT],oj _,ne,e2,λ_=>au,(Heap.Ns1.of_empty e3).at λo q=>ap _ q,λ_=>mj,λy hy=>absurd rfl hy⟩
theorem Lp{f:bv}{pos:lv}(hb:sd e f env (gh e env)=gh e env)
    (h:bt (bz prog w) A (gh e env) (λo s₁=>bt (bz prog w) A (getAttr o f ai) Q E s₁) E s):bt (bz prog w) A (gh (.Attribute e f pos) env) Q E s:=
  Attribute_any_ h (by rw[arm_eval_Attribute,hb])
end
def Rf(K:ak)(ta:TE)(f:bv):TE:=λσ H Q=>ta σ H λx H1=>∃a C dx fs v,x=.ref a/\H1 a=aa (.ins C dx fs)/\Cls K C/\jG K C f/\fs.lookup f=aa v/\Q v H1
def Rj(K:ak)(ta tv:TE)(f:bv):TS:=λD σ H=>tv σ H λy H1=>ta σ H1 λx H2=>∃a C dx fs,x=.ref a/\H2 a=aa (.ins C dx fs)/\Cls K C/\jG K C f/\fs.length<1000 /\
  D.nx σ (upd H2 a (.ins C dx (mH f y fs)))
section
variable {o Yp:Expr}{f:bv}{pos tpos:lv}{tv:TE}
theorem Nb(he:PE X e ta)(hb:sd e f X.env (gh e X.env)=gh e X.env):PE X (.Attribute e f pos) (Rf X.K ta f):=by
  intro pk s σ H Q I h;refine Lp hb (thn (he pk s σ H _ I h) λu s1 ⟨x,H1,I1,rx,a,C,dx,fs,v,ex,ea,c,n,l,q⟩=>?_);subst ex;obtain rfl:u=Value.ref a:=rx;exact DU I1 ea c n l λu' s2 I2 ru=>⟨v,H1,I2,ru,q⟩
theorem NO(ha:PE X o ta)(hv:PE X Yp tv)(hs:iu Yp (aa (.Attribute o f Yw)) pos.line X.env=jw ao):PS X (.Assign [.Attribute o f Yw] Yp pos) (Rj X.K ta tv f):=by
  intro pk s σ H D I h;refine plainObj_wpAny_Assign_Attribute (thn (hv pk s σ H _ I h) λu s1 ⟨y,H1,I1,ry,q⟩=>thn (ha pk s1 σ H1 _ I1 q) λov s2 ⟨x,H2,I2,rx,a,C,dx,fs,ex,ea,c,n,l,q2⟩=>?_) hs;subst ex;obtain rfl:ov=Value.ref a:=rx;exact Co I2 ea c n l ry λs3 I3=>⟨σ,_,I3,q2⟩
end
section
variable {c:af}{b:Bool}
inductive TyOf(K:ak)(H:Hp):V->af->Prop where
  |non:TyOf K H .non (.type "NoneType")
  |bl (x:Bool):TyOf K H (.bl x) (.type "bool")
  |int (i:Int):TyOf K H (.int i) (.type "int")
  |str (x:bv):TyOf K H (.str x) (.type "str")
  |flt (x:UInt64):TyOf K H (.flt x) (.type "float")
  |lst {a:ae} {xs:List V} (e:H a=aa (.lst xs)):TyOf K H (.ref a) (.type "list")
  |frz {a:ae} {o:jv} {xs:List V} (e:H a=aa (.frz o (.lst xs))):TyOf K H (.ref a) (.type "list")
  |tup {a:ae} {xs:List V} (e:H a=aa (.tup xs)):TyOf K H (.ref a) (.type "tuple")
  |dK {a:ae} {kvs:List (bW×V)} (e:H a=aa (.dK kvs)):TyOf K H (.ref a) (.type "dict")
  |dT {a:ae} {ep:Nat} {kvs:List (List bW×V)} (e:H a=aa (.dT ep kvs)):TyOf K H (.ref a) (.type "dict")
  |ins {a C dx:ae} {fs:List (bv×V)} (e:H a=aa (.ins C dx fs)) (cl:Cls K C) (ha:jq K (.ref C) "__class__" = aa (aa (.builtin "object.__class__")))
      (hn:Uu K (.builtin "object.__class__") "__get__" = aa (aa (.builtin "getset_descriptor.__get__"))) (htk:VT K (.builtin "object.__class__")=aa ai)
      (hm:Vt K C (.type "object")=aa ai):TyOf K H (.ref a) (.ref C)
theorem Fy{x:V}{t:af}(I:Inv X pk σ H s)(rx:cO x u)(ty:TyOf X.K H x t)(e:rh X.K t c=aa b)(h:∀tk,Q (.bool b) { s with toks:=tk }):
    bt (bz X.prog X.w) A (call (.builtin "isinstance") [u,c]) Q E s:=by
  cases ty with
  |non=>cases (show u=gc from rx);exact ot W.kitx_none I.kIn mj e (λz=>nomatch z) h
  |bl y=>cases (show u=TV y from rx);exact ot W.kitx_bool I.kIn mj e (λz=>nomatch z) h
  |int i=>obtain⟨t,q⟩:=(show ∃t,u=Value.int i t from rx);cases q;exact ot W.kitx_int I.kIn mj e (λz=>nomatch z) h
  |str y=>obtain⟨t,q⟩:=(show ∃t,u=Value.str y t from rx);cases q;exact ot W.kitx_str I.kIn mj e (λz=>nomatch z) h
  |flt y=>obtain⟨t,q⟩:=(show ∃t,u=Wd y t from rx);cases q;exact ot W.kitx_float I.kIn mj e (λz=>nomatch z) h
  | @lst a xs ea=>
    cases (show u=Value.ref a from rx);obtain⟨_,_,n,_,h1⟩:=(show cI X.prog X.w H s.heap a (.lst xs) from I.hok a _ ea);exact ot W.kitx_list I.kIn ⟨_,h1,rfl⟩ e (λz=>nomatch z) h
  | @frz a ob xs ea=>
    cases (show u=Value.ref a from rx);obtain⟨_,_,_,n,_,h1⟩:=(show cI X.prog X.w H s.heap a (.frz ob (.lst xs)) from I.hok a _ ea);exact ot W.kitx_list I.kIn ⟨_,h1,rfl⟩ e (λz=>nomatch z) h
  | @tup a xs ea=>
    cases (show u=Value.ref a from rx);obtain⟨_,_,_,p⟩:=(show cI X.prog X.w H s.heap a (.tup xs) from I.hok a _ ea);obtain⟨o,h1,h2,_⟩:=p;exact ot W.kitx_tuple I.kIn ⟨o,h1,h2⟩ e (λz=>nomatch z) h
  | @dK a kvs ea=>
    cases (show u=Value.ref a from rx);obtain⟨_,_,vs,_,p⟩:=(show cI X.prog X.w H s.heap a (.dK kvs) from I.hok a _ ea);obtain⟨o,es,ep,h1,h2,_⟩:=p;exact ot W.kitx_dict I.kIn ⟨o,h1,h2.1⟩ e (λz=>nomatch z) h
  | @dT a ep kvs ea=>
    cases (show u=Value.ref a from rx);obtain⟨_,_,xs,_,o,es,h1,h2,_⟩:=(show cI X.prog X.w H s.heap a (.dT ep kvs) from I.hok a _ ea);exact ot W.kitx_dict I.kIn ⟨o,h1,h2.1⟩ e (λz=>nomatch z) h
  | @ins a C dx fs ea cl ha hn htk hm=>
    cases (show u=Value.ref a from rx);obtain⟨mA,O,_⟩:=uJ I.hok ea;obtain⟨od,J,_⟩:=O.look;exact ot (W.kitx_own (cl.get _) cl.hd ha hn htk hm) I.kIn J e (λz=>nomatch z) h
end
structure Room(k:Nat)(A:dh):Prop where
  hd:A.handled=au
  dp:A.depth+3*k+5<WJ
  un:A.units+16*k+200<jy
theorem Room.mono{k:Nat}(r:Room k A)(h:j<=k):Room j A:=⟨r.hd,by have:=r.dp;right,by have:=r.un;right⟩
theorem Room.deeper{k:Nat}{A:dh}(r:Room (k+1) A)(env:zd):Room k (A.deeper env):=
  ⟨r.hd,by have:=r.dp;show A.depth+1+3*k+5<_;right,by have:=r.un;show A.units+3+16*k+200<_;right⟩
theorem DJ:(A.under (.builtin "type.__call__" ⟨.ref C::us,kw⟩)).depth=A.depth+1:=by
  first | rfl | simp[Around.under,Code.weight,Code.isCreation,Code.isGuard,Code.isCaller,Code.frames,Vu,guardIds]
theorem DI:(A.under (.builtin "type.__call__" ⟨.ref C::us,kw⟩)).units=A.units+1:=by
  first | rfl | simp[Around.under,Code.cUnits,Code.frames,Vu]
theorem Room.make{k:Nat}(r:Room (k+1) A)(C:ae)(us:List af)(kw:List (bv×af)):Room k (A.under (.builtin "type.__call__" ⟨.ref C::us,kw⟩)):=
  ⟨r.hd,by have:=r.dp;rw[DJ];right,by have:=r.un;rw[DI];right⟩
theorem Room.depth{k:Nat}{A:dh}(r:Room k A):A.depth<WJ:=by have:=r.dp;right
theorem Room.units{k:Nat}{A:dh}(r:Room k A):A.units+64<jy:=by have:=r.un;right
def P7:TA:=λ_ H Q=>Q [] H
def PC(ta:TE)(tr:TA):TA:=λσ H Q=>ta σ H λx H1=>tr σ H1 λxs H2=>Q (x::xs) H2
section
variable {t:TA}{pos:lv}
theorem qA:PA X [] P7:=λ_ _ _ _ H Q I h=>Calls.spliced_nil ⟨[],H,I,.nil,h⟩
theorem iP(ha:PE X e te)(hr:PA X es t)(hs:aw (e::es) X.env=(ao,gh e X.env)::aw es X.env:=by rfl):PA X (e::es) (PC te t):=by
  intro pos pk s σ H Q I h;rw[hs];show bt _ _ (spliced ((ao,gh e X.env)::ir pos (aw es X.env))) _ _ s;refine Calls.spliced_cons (thn (ha pk s σ H _ I h) λu s1 ⟨x,H1,I1,r1,q1⟩=>?_);exact thn (hr pos pk s1 σ H1 _ I1 q1) λus s2 ⟨xs,H2,I2,r2,q2⟩=>⟨x::xs,H2,I2,.cons r1 r2,q2⟩
def RW(t:TA):TE:=λσ H Q=>t σ H λxs H1=>xs.length<=bu /\ ∀p,H1 p=au->Q (.ref p) (upd H1 p (.tup xs))
def Rb(t:TA):TE:=λσ H Q=>t σ H λxs H1=>xs.length<=bu /\ ∀p,H1 p=au->Q (.ref p) (upd H1 p (.lst xs))
theorem NV{x1}(h:PA X es t):PE X (.Tuple es x1 pos) (RW t):=by
  intro pk s σ H Q I hq;refine wpAny_Tuple_spliced (thn (h pos pk s σ H _ I hq) λus s1 ⟨xs,H1,I1,r,z,q⟩=>⟨by rw[<- r.length];exact z,?_⟩);have hf:H1 s1.heap.objs.size=au:=I1.hok.fresh (br _);refine⟨.ref s1.heap.objs.size,upd H1 s1.heap.objs.size (.tup xs),I1.laid (t':=s1.toks) (λb u e=>ap _ e) (br _) ?_,rfl,q _ hf⟩;exact⟨z,us,r,⟨_,cj _ rfl,rfl,_,rfl⟩⟩
theorem NZ(h:PA X es t):PE X (.List es pos) (Rb t):=by
  intro pk s σ H Q I hq;refine wpAny_List_spliced (thn (h pos pk s σ H _ I hq) λus s1 ⟨xs,H1,I1,r,z,q⟩=>⟨by rw[<- r.length];exact z,?_⟩);have hf:H1 s1.heap.objs.size=au:=I1.hok.fresh (br _);refine⟨.ref s1.heap.objs.size,upd H1 s1.heap.objs.size (.lst xs),I1.laid (t':=s1.toks) (λb u e=>ap _ e) (br _) ?_,rfl,q _ hf⟩;exact⟨z,us,0,r,cj _ rfl⟩
end
abbrev Sp:=List V->Hp->VK->XK->Prop
abbrev GQ:=List zd->Hp->ah->XK->af->ah->Prop
structure Env0(P:az)(w:bw)(K:ak)(mg:bv->Option af)(base:dk)(A:dh)(outer:List zd)(s:ah)(H:Hp):Prop where
  frames:A.frames=aa outer
  mod:Mod K mg base
  bs:∀b o,base.get? b=aa o->s.heap.get? b=aa o/\H b=au
  bsz:base.objs.size<=s.heap.objs.size
  funs:s.heap.FunFrames base outer
  frf:∀b∈frs outer,H b=au
  hok:lN P w H s.heap
  bare:xk s.gens
def CE(outer:List zd)(P:az)(w:bw)(H:Hp)(s:ah)(Q:VK)(u:af)(s':ah):Prop:=
  ∃v H',s'.os=s.os/\xk s'.gens/\Un (frs outer) [] H H' s.heap s'.heap/\lN P w H' s'.heap/\cO v u/\Q v H'
def CR(CX:GQ)(outer:List zd)(P:az)(w:bw)(H:Hp)(s:ah)(Q:VK)(E:XK)(r:Xl)(s':ah):Prop:=
  match r with
  | .ok (.ret u)=>CE outer P w H s Q u s'
  | .ok _=>False
  | .error e=>CX outer H s E e s'
structure FnOk(P:az)(w:bw)(K:ak)(mg:bv->Option af)(base:dk)(CX:GQ)(k:Nat)(f:ae)(fd:ke)(ps:List bv)(sp:Sp):Prop where
  len:∀vs H Q E,sp vs H Q E->vs.length=ps.length
  run:∀(A:dh) (outer:List zd) (s:ah) (H:Hp) (args:Args) (us:List af) (vs:List V) (Q:VK) (E:XK),Room k A->Env0 P w K mg base A outer s H->Vv s fd args (ps.zip us)->bV vs us->sp vs H Q E ->
    zi (bz P w) A (.call (.ref f) args) (CR CX outer P w H s Q E) s
theorem Env0.make(e:Env0 P w K mg base A outer s H)(C:ae)(us:List af)(kw:List (bv×af)):
    Env0 P w K mg base (A.under (.builtin "type.__call__" ⟨.ref C::us,kw⟩)) outer s H:=⟨by first | exact e.frames | (simpa [Around.under,Code.envs,Vu,pushEnvs] using e.frames),e.mod,e.bs,e.bsz,e.funs,e.frf,e.hok,e.bare⟩
theorem Inv.env0(I:Inv X pk σ H s):Env0 X.prog X.w X.K X.mg X.base X.A X.stack s H:=
  ⟨I.ok.frames,I.ok.mod,I.bs,ly I.ok.bsz I.sz,I.stack,I.stkFree,I.hok,I.bare⟩
theorem Inv.after{Q:VK}(I:Inv X pk σ H s)(h:CE X.stack X.prog X.w H s Q u s'):EP X pk σ Q u s':=by
  obtain⟨v,H',os,bare,un,hok,r,q⟩:=h;obtain⟨hh,g,d,t,os'⟩:=s';obtain rfl:os'=s.os:=os;exact⟨v,H',I.call (h':=hh) (g':=g) (d':=d) (t':=t) (ch:=[]) un hok bare (λb z=>absurd z (by simp)),r,q⟩
def PD(sp:Sp)(dvs:List V)(E:XK)(t:TA):TE:=λσ H Q=>t σ H λvs H1=>sp (vs++dvs) H1 Q E
def Lz(C:ae)(m:bv)(sp:Sp)(dvs:List V)(E:XK)(ta:TE)(t:TA):TE:=λσ H Q=>ta σ H λx H1=>∃a dx fs,x=.ref a/\H1 a=aa (.ins C dx fs)/\fs.lookup m=au /\
  t σ H1 λvs H2=>sp (x::(vs++dvs)) H2 Q E
def P9(C:ae)(sp:Sp)(dvs:List V)(E:XK)(t:TA):TE:=λσ H Q=>t σ H λvs H1=>∀x dx,H1 x=au->H1 dx=au->dx≠x ->
  sp (.ref x::(vs++dvs)) (upd (upd H1 dx (.own x)) x (.ins C dx [])) (λv H2=>v=.non/\Q (.ref x) H2) E
def iH(K:ak)(fd:ke)(ps:List bv)(ds:List af):Prop:=
  ∀(s:ah) (us:List af),K.In s.heap->(us++ds).length=ps.length->Vv s fd ⟨us,[]⟩ (ps.zip (us++ds))
variable {fd:ke}
theorem iH.all(h:∀us:List af,us.length=ps.length->XO fd ⟨us,[]⟩=jw (ps.zip us)):iH K fd ps []:=λs us _ hl=>by
  rw[gv] at hl ⊢;exact .of_eq (h us hl)
def r6(CX:GQ)(X:Cx)(E:XK):Prop:=∀(pk:List (ae×jv)) (σ:St) (H:Hp) (s:ah) (e:af) (s':ah),Inv X pk σ H s->CX X.stack H s E e s'->X.xe e s'
variable {vs:List V}{CX:GQ}{sp:Sp}{Yt:lv}
section
variable {k:Nat}{dvs:List V}{ds:List af}{E:XK}{x:bv}{pos:lv}{o:Expr}{t:TA}
theorem Cq{Q:VK}(F:FnOk X.prog X.w X.K X.mg X.base CX k f fd ps sp)(hr:Room k X.A)(hb:iH X.K fd ps ds)(hd:bV dvs ds)(hx:r6 CX X E)
    (I:Inv X pk σ H s) (r:bV vs us) (h:sp (vs++dvs) H Q E):bt (bz X.prog X.w) X.A (call (.ref f) us) (EP X pk σ Q) X.xe s:=by
  have r2:bV (vs++dvs) (us++ds):=r.append hd;have hl:(us++ds).length=ps.length:=by rw[<- r2.length];exact F.len _ _ _ _ h
  refine yb (qy (F.run X.A X.stack s H ⟨us,[]⟩ (us++ds) (vs++dvs) Q E hr I.env0 (hb s us I.kIn hl) r2 h) λr s' hq=>?_);cases r with
  |error e=>exact hx pk σ H s e s' I hq
  |ok fl=>
    cases fl with
    |ret u=>exact I.after hq
    |next=>exact ie hq
    |brk=>exact ie hq
    |cont=>exact ie hq
theorem Kj(F:FnOk X.prog X.w X.K X.mg X.base CX k f fd ps sp)(hr:Room k X.A)(hg:Gl X x)(hm:X.mg x=aa (.ref f))(hk:qj X.K (.ref f)=ai)(hb:iH X.K fd ps ds)(hd:bV dvs ds)(hx:r6 CX X E)
    (ha:PA X (e::es) t) (hdb:(x==("__debug__" : bv))=ao:=by decide) (he:aw (e::es) X.env=(ao,gh e X.env)::aw es X.env:=by rfl) (hpl:(ir pos (aw es X.env)).any (·.1)=ao:=by rfl):
    PE X (.Call (.Name x p) (e::es) [] pos) (PD sp dvs E t):=by
  intro pk s σ H Q I h;refine ny (mM I hg hm ?_ hdb);refine xm (h₀:=X.base) I.ok.mod.kin hk (thn (ha pos pk s σ H _ I h) λus s1 ⟨vs,H1,I1,r,q⟩=>⟨I1.kIn,?_⟩) he hpl;exact Cq F hr hb hd hx I1 r q
theorem Kg(he:PE X o ta)(c:Cls X.K C)(hm:Meth X.K C m f)(F:FnOk X.prog X.w X.K X.mg X.base CX k f fd ps sp)(hr:Room k X.A)(hb:iH X.K fd ps ds)(hd:bV dvs ds)(hx:r6 CX X E)(ha:PA X (e::es) t)
    (hst:aw (e::es) X.env=(ao,gh e X.env)::aw es X.env:=by rfl) (hpl:(ir pos (aw es X.env)).any (·.1)=ao:=by rfl)
    (ht:gh (.Call (.Attribute o m Yt) (e::es) [] pos) X.env=(do
      let ov <- gh o X.env
      Vr Yt.atName
      let (f,first) <- Vs [ov] (Tt ov m pl)
      WK pos f first (ir pos (aw (e::es) X.env)) (yc pos (tj [] X.env))):=by rfl):
    PE X (.Call (.Attribute o m Yt) (e::es) [] pos) (Lz C m sp dvs E ta t):=by
  intro pk s σ H Q I h;refine Wn (pl:=pl) (thn (he pk s σ H _ I h) λu s1 ⟨x,H1,I1,rx,a,dx,fs,ex,ea,l,q⟩=>?_) ht;subst ex;obtain rfl:u=Value.ref a:=rx;refine wA I1 ea c hm l ?_;refine xm (first:=[.ref a]) (h₀:=X.base) I.ok.mod.kin hm.kp (thn (ha pos pk s1 σ H1 _ I1 q) λus s2 ⟨vs,H2,I2,r,q2⟩=>⟨I2.kIn,?_⟩) hst hpl;exact Cq (us:=.ref a::us) (vs:=.ref a::vs) F hr hb hd hx I2 (.cons rfl r) q2
theorem HP(he:PE X o ta)(c:Cls X.K C)(hm:Meth X.K C m f)(F:FnOk X.prog X.w X.K X.mg X.base CX k f fd ps sp)(hr:Room k X.A)(hb:iH X.K fd ps ds)(hd:bV dvs ds)(hx:r6 CX X E)
    (ht:gh (.Call (.Attribute o m Yt) [] [] pos) X.env=(do
      let ov <- gh o X.env
      Vr Yt.atName
      let (f,first) <- Vs [ov] (Tt ov m pl)
      WK pos f first (ir pos (aw [] X.env)) (yc pos (tj [] X.env))):=by rfl):
    PE X (.Call (.Attribute o m Yt) [] [] pos) (Lz C m sp dvs E ta P7):=by
  intro pk s σ H Q I h;refine Wn (pl:=pl) (thn (he pk s σ H _ I h) λu s1 ⟨x,H1,I1,rx,a,dx,fs,ex,ea,l,q⟩=>?_) ht;subst ex;obtain rfl:u=Value.ref a:=rx;refine wA I1 ea c hm l ?_;exact W.callWith_K0 (first:=[.ref a]) I1.kIn hm.kp (Cq (us:=[.ref a]) (vs:=[.ref a]) F hr hb hd hx I1 (.cons rfl .nil) q)
structure Mk(K:ak)(C f:ae):Prop where
  makes:VR K C=ai
  init:jq K (.ref C) "__init__" = aa (aa (.ref f))
  fn:Y3 K (.ref f)=ai
  kp:qj K (.ref C)=ai
theorem Gs{Q:VK}(M:Mk X.K C f)(F:FnOk X.prog X.w X.K X.mg X.base CX k f fd ps sp)(hr:Room (k+1) X.A)(hb:iH X.K fd ps ds)(hd:bV dvs ds)
    (hx:r6 CX X E) (I:Inv X pk σ H s) (r:bV vs us)
    (h:∀x dx,H x=au->H dx=au->dx≠x->sp (.ref x::(vs++dvs)) (upd (upd H dx (.own x)) x (.ins C dx [])) (λv H2=>v=.non/\Q (.ref x) H2) E):
    bt (bz X.prog X.w) X.A (call (.ref C) us) (EP X pk σ Q) X.xe s:=by
  have hq:=h (s.heap.objs.size+1) s.heap.objs.size (I.hok.fresh (zf _)) (I.hok.fresh (br _)) (gn (VS _));have I2:=Inv.made (C:=C) I;have r2:bV (V.ref (s.heap.objs.size+1)::(vs++dvs)) (Value.ref (s.heap.objs.size+1)::(us++ds)):=.cons rfl (r.append hd);have hl:(Value.ref (s.heap.objs.size+1)::us++ds).length=ps.length:=by
    have e:=r2.length;rw[F.len _ _ _ _ hq] at e;exact e.symm
  refine yb (IQ (f:=f) I.kIn M.makes M.init (beq_iff_eq.mp M.fn) (qy (F.run _ X.stack _ _ ⟨Value.ref (s.heap.objs.size+1)::us,[]⟩ (Value.ref (s.heap.objs.size+1)::(us++ds)) _ _ E (hr.make C us [])
    (I2.env0.make C us []) (hb _ (Value.ref (s.heap.objs.size+1)::us) I2.kIn hl) r2 hq) λr s' hq'=>?_))
  cases r with
  |error e=>exact hx pk σ _ _ e s' I2 hq'
  |ok fl=>
    cases fl with
    |ret u=>
      obtain⟨v,H',I3,rv,ev,q3⟩:=I2.after hq';subst ev;exact⟨rv,⟨V.ref (s.heap.objs.size+1),H',I3,rfl,q3⟩⟩
    |next=>exact ie hq'
    |brk=>exact ie hq'
    |cont=>exact ie hq'
theorem Kh(M:Mk X.K C f)(F:FnOk X.prog X.w X.K X.mg X.base CX k f fd ps sp)(hr:Room (k+1) X.A)(hg:Gl X x)(hm:X.mg x=aa (.ref C))(hb:iH X.K fd ps ds)(hd:bV dvs ds)(hx:r6 CX X E)
    (ha:PA X (e::es) t) (hdb:(x==("__debug__" : bv))=ao:=by decide) (he:aw (e::es) X.env=(ao,gh e X.env)::aw es X.env:=by rfl) (hpl:(ir pos (aw es X.env)).any (·.1)=ao:=by rfl):
    PE X (.Call (.Name x p) (e::es) [] pos) (P9 C sp dvs E t):=by
  intro pk s σ H Q I h;refine ny (mM I hg hm ?_ hdb);refine xm (h₀:=X.base) I.ok.mod.kin M.kp (thn (ha pos pk s σ H _ I h) λus s1 ⟨vs,H1,I1,r,q⟩=>⟨I1.kIn,?_⟩) he hpl;exact Gs M F hr hb hd hx I1 r q
end
section
variable {k:Nat}{ks:List bv}{E:XK}{x:bv}{pos kpos:lv}{o:Expr}{kws:List zj}{t tk:TA}{nm:Option bv}
variable {g:List af->List af->List af}{gV:List V->List V->List V}
end
structure FnScope(N P:List bv)(sc:Scope):Prop where
  kind:sc.kind=.function
  co:sc.isCoroutine=ao
  gen:sc.isGenerator=ao
  nd:N.Nodup
  pre:N.take P.length=P
  par:∀x∈P,sc.names.lookup x=aa .local \/ sc.names.lookup x=aa .cell
  nofree:∀y∈sc.names,y.2 ≠ .free
theorem yL{mv:bv->Option wr}{x:bv}:∀{binds:List (bv×af)} {m:bv->Option af},(∀v,(x,v) ∉ binds)->WL mv binds m x=m x
  | [],_,_=>rfl
  | (n,v)::r,m,h=>by
    unfold WL;rw[yL λw hw=>h w (df _ hw)];split
    . have:x≠n:=by rintro rfl;exact h v di
      simp[this]
    . rfl
theorem yN{mv:bv->Option wr}{x:bv}:∀{binds:List (bv×af)} {m:bv->Option af},(∀v,(x,v) ∉ binds)->WM mv binds m x=m x
  | [],_,_=>rfl
  | (n,v)::r,m,h=>by
    unfold WM;rw[yN λw hw=>h w (df _ hw)];split
    . rfl
    . have:x≠n:=by rintro rfl;exact h v di
      simp[this]
theorem yM{mv:bv->Option wr}{x:bv}{v:af}:∀{P:List bv} {vs:List af} {i:Nat} {m:bv->Option af},P.Nodup->P[i]?=aa x->vs[i]?=aa v->mv x=aa .local ->
    WL mv (P.zip vs) m x=aa v
  | [],_,_,_,_,h,_,_=>by simp at h
  |_::_,[],_,_,_,_,h,_=>by simp at h
  |p::P,w::vs,0,m,nd,h1,h2,hk=>by
    simp at h1 h2;subst h1;subst h2;show WL mv ((p,w)::P.zip vs) m p=_;unfold WL;rw[yL λv hv=>(yd.mp nd).1 (WN hv).1,Yh hk];simp
  |p::P,w::vs,i+1,m,nd,h1,h2,hk=>by
    show WL mv ((p,w)::P.zip vs) m x=_;unfold WL;exact yM (i:=i) (yd.mp nd).2 (by simpa using h1) (by simpa using h2) hk
theorem yO{mv:bv->Option wr}{x:bv}{v:af}:∀{P:List bv} {vs:List af} {i:Nat} {m:bv->Option af},P.Nodup->P[i]?=aa x->vs[i]?=aa v->mv x≠aa .local ->
    WM mv (P.zip vs) m x=aa v
  | [],_,_,_,_,h,_,_=>by simp at h
  |_::_,[],_,_,_,_,h,_=>by simp at h
  |p::P,w::vs,0,m,nd,h1,h2,hk=>by
    simp at h1 h2;subst h1;subst h2;show WM mv ((p,w)::P.zip vs) m p=_;unfold WM;rw[yN λv hv=>(yd.mp nd).1 (WN hv).1,XQ hk];simp
  |p::P,w::vs,i+1,m,nd,h1,h2,hk=>by
    show WM mv ((p,w)::P.zip vs) m x=_;unfold WM;exact yO (i:=i) (yd.mp nd).2 (by simpa using h1) (by simpa using h2) hk
def start(N:List bv)(vs:List V):St:=vs.map aa++ay (N.length-vs.length) au
def LP(A:dh):List ae:=match A.handled with
  |some (.ref a)=>[a]
  |_=>[]
theorem G1(h:A.handled=au):LP A=[]:=by
  unfold LP;rw[h]
def cK(CX:GQ)(P:az)(w:bw)(K:ak)(mg:bv->Option af)(base:dk)(N:List bv)(Yj:bv)(Yi:Scope)(f:ae)(cd:af)(A:dh)(outer:List zd)(s:ah)(H:Hp)(E:XK):Cx where
  prog:=P
  w:=w
  K:=K
  mg:=mg
  base:=base
  A:=A.deeper (tu Yj Yi s.heap.objs.size f cd)
  N:=N
  s₀:=s
  HZ:=H
  env:=tu Yj Yi s.heap.objs.size f cd
  outer:=outer
  stack:=tu Yj Yi s.heap.objs.size f cd::outer
  ex:=[]
  calm:=ai
  fn:=λ_=>ai
  pn:=[]
  hs:=LP A
  xe:=λe s'=>bt (bz P w) (A.deeper (tu Yj Yi s.heap.objs.size f cd)) (Wx (tu Yj Yi s.heap.objs.size f cd) e) (λ_ s''=>CX outer H s E e s'') (λe' s''=>CX outer H s E e' s'') s'
theorem CL{sc:Scope}{x:bv}(h:sc.names.lookup x=aa .cell):∃c,(Xd n sc.names []).lookup x=aa c:=by
  have q:=VU sc.names n [] (.inl h);exact zk.mp q
theorem Fz{cd:af}{s1:ah}{E:XK}
    (S:FnScope N ps Yi) (hd:A.handled=au) (e0:Env0 P w K mg base A outer s H) (hl:vs.length=ps.length) (r:bV vs us)
    (x:InCallC s s.heap.objs.size (WL (tu Yj Yi s.heap.objs.size f cd).kindOf (ps.zip us) λ_=>au) (Xd (s.heap.objs.size+1) Yi.names []) (WM (tu Yj Yi s.heap.objs.size f cd).kindOf (ps.zip us) λ_=>au) s1):
    Inv (cK CX P w K mg base N Yj Yi f cd A outer s H E) [] (start N vs) H s1:=by
  have hpl:ps.length<=N.length:=by have:=congrArg List.length S.pre;rw[dw] at this;right
  obtain⟨h1,tk,rfl,hk⟩:=x.done;have noA:∀b:ae,b ∉ (cK CX P w K mg base N Yj Yi f cd A outer s H E).ex:=λb z=>absurd (show b∈([]:List ae) from z) (by simp);refine⟨⟨e0.mod,S.kind,rfl,rfl,br _,λy z c h1 h2=>?_,λy hy=>?_,λy c _ h=>?_,λ_=>hd,Around.frames_deeper e0.frames,.inr ⟨rfl,rfl⟩,λb z=>absurd z (noA b),e0.bs,e0.bsz,λb _ _=>noA b,λb z=>absurd z (noA b),e0.funs,e0.frf,.inl hd⟩,
    rfl,e0.bare,Un.kept hk,⟨_,x.toInCall.ns,λi y v h1 h2 h3=>?_⟩,λy c h=>⟨_,x.cell y c h⟩,e0.hok.fresh (br _),λy c h=>?_,λp hp=>absurd (show p∈([]:List (ae×jv)) from hp) (by simp),e0.hok.kept hk,?_,λa ha=>absurd (show a∈LP A from ha) (by rw[G1 hd];simp)⟩
  . exact name_of_addr x.apart (ic h1) (ic h2)
  . have hy:Yi.names.lookup y=aa .cell \/ Yi.names.lookup y=aa .free:=hy;rcases hy with hy | hy
    . exact CL hy
    . exact absurd rfl (S.nofree _ (ic hy))
  . exact Vp (x.above y c (ic h))
  . have hi:i<vs.length:=by
      unfold start at h2;by_cases hi:i<vs.length
      . exact hi
      . rw[bo (by simpa using hi)] at h2;rw[jr] at h2;split at h2<;>cases h2
    have ha:vs[i]?=aa v:=by
      unfold start at h2;rw[bh (by simpa using hi),dg] at h2;cases e:vs[i]? with
      |none=>rw[e] at h2;cases h2
      |some a=>rw[e] at h2;cases h2;rfl
    obtain⟨u,hu,rv⟩:=r.get ha;have hp:ps[i]?=aa y:=by
      rw[<- S.pre,gy ⋯];exact h1
    have ndP:ps.Nodup:=by rw[<- S.pre];exact S.nd.sublist (zl _ _)
    refine⟨u,rv,?_⟩;rcases S.par y (fe hp) with k | k
    . exact .inl ⟨k,yM ndP hp hu k⟩
    . obtain⟨c,e⟩:=CL (n:=s.heap.objs.size+1) k;refine .inr ⟨.inl k,c,e,?_⟩;have q:=x.cell y c e;rw[yO ndP hp hu (by show Yi.names.lookup y≠_;rw[k];decide)] at q;exact q
  . exact e0.hok.fresh (Vp (x.above y c (ic h)))
  . unfold start;show _=N.length;rw[ef,bf,ni];right
theorem MX{k:Nat}{params:Arguments}{dV kV doc pm cdv ct oc:af}{an od:Option ae}
    {osl:Array (Option af)}   (lk:K.lookup f=aa ⟨oc,od,.func (Tc name Yj params Yv Yi dV kV doc pm an cdv ct),osl⟩) (hcd:Uv K cdv Yj=ai) (S:FnScope N ps Yi)
    (len:∀vs H Q E,sp vs H Q E->vs.length=ps.length)
    (Yu:∀(A:dh) (outer:List zd) (s:ah) (H:Hp) (vs:List V) (Q:VK) (E:XK),Room k (A.deeper (tu Yj Yi s.heap.objs.size f cdv))->sp vs H Q E ->
      ∃t,uT (cK CX P w K mg base N Yj Yi f cdv A outer s H E) Yv t/\t { nx:=λ_ H'=>Q .non H',rt:=Q } (start N vs) H):
    FnOk P w K mg base CX (k+1) f (Tc name Yj params Yv Yi dV kV doc pm an cdv ct) ps sp:=by
  refine⟨len,λA outer s H args us vs Q E hr e0 hb r hsp=>?_⟩;have hl:=len _ _ _ _ hsp;have KX:K.In s.heap:=e0.mod.kin.keeps λb o e=>(e0.bs b o e).1;have lim:s.heap.NoLimit:=e0.mod.nolimit.keeps λb o e=>(e0.bs b o e).1;have Ys:∀y∈ps.zip us,Yi.names.lookup y.1=aa .local \/ (Yi.names.lookup y.1=aa .cell/\((Xd (s.heap.objs.size+1) Yi.names []).lookup y.1).isSome=ai):=λ⟨n,v⟩ hy=>by
    rcases S.par n (WN hy).1 with q | q
    . exact .inl q
    . exact .inr ⟨q,VU _ _ _ (.inl q)⟩
  refine codeAny_call_function hr.depth (KX _ _ lk) rfl S.co S.gen rfl (W.codeRec_of KX hcd) (hb _ _ _ _ ?_);refine wpAny_newFunctionEnv_cells S.kind Ys λenv he s1 x=>?_;subst he;refine⟨lim.keeps x.toInCall.keep,codeAny_func ?_⟩;obtain⟨t,ht,hq⟩:=Yu A outer s H vs Q E (hr.deeper _) hsp;have I:Inv (cK CX P w K mg base N Yj Yi f cdv A outer s H E) [] (start N vs) H s1:=Fz S hr.hd e0 hl r x;refine gr (ht [] s1 (start N vs) H _ I hq) (λfl s' hs=>?_) λe s' hs=>hs;have fin:∀{σ':St} {H':Hp} {v:V} {u:af},Inv (cK CX P w K mg base N Yj Yi f cdv A outer s H E) [] σ' H' s'->cO v u->Q v H'->CE outer P w H s Q u s':=
    λ{σ' H' v u} J rv q=>⟨v,H',J.os,J.bare,J.base,J.hok,rv,q⟩
  cases fl with
  |ret u=>
    obtain⟨v,σ',H',J,rv,q⟩:=hs;exact fin J rv q
  |next=>
    obtain⟨σ',H',J,q⟩:=hs;exact fin (v:=V.non) (u:=gc) J rfl q
  |brk=>
    obtain⟨_,_,_,q⟩:=hs;exact ie q
  |cont=>
    obtain⟨_,_,_,q⟩:=hs;exact ie q
section
variable {x:bv}{pos:lv}{t:TA}{id T:String}{r:List V->Hp->VK->Prop}
def Rg(r:List V->Hp->VK->Prop)(t:TA):TE:=λσ H Q=>t σ H λvs H1=>r vs H1 Q
theorem rQ(hc:fM X (.builtin id) r)(hg:Gl X x)(hm:X.mg x=au)(hv:oy x=aa (.builtin id))(ha:PA X (e::es) t)(hn:x ≠ "__name__" := by decide)(hdb:(x==("__debug__" : bv))=ao:=by decide)
    (he:aw (e::es) X.env=(ao,gh e X.env)::aw es X.env:=by rfl) (hpl:(ir pos (aw es X.env)).any (·.1)=ao:=by rfl):PE X (.Call (.Name x p) (e::es) [] pos) (Rg r t):=by
  intro pk s σ H Q I h;refine ny (nY I hg hm hv ?_ hn hdb);exact VV (thn (ha pos pk s σ H _ I h) λus s1 ⟨vs,H1,I1,r1,q1⟩=>hc pk s1 σ H1 vs us Q I1 r1 q1) he hpl
theorem sS(hc:fM X (.type T) r)(hg:Gl X x)(hm:X.mg x=au)(hv:oy x=aa (.type T))(ha:PA X (e::es) t)(hn:x ≠ "__name__" := by decide)(hdb:(x==("__debug__" : bv))=ao:=by decide)
    (he:aw (e::es) X.env=(ao,gh e X.env)::aw es X.env:=by rfl) (hpl:(ir pos (aw es X.env)).any (·.1)=ao:=by rfl):PE X (.Call (.Name x p) (e::es) [] pos) (Rg r t):=by
  intro pk s σ H Q I h;refine ny (nY I hg hm hv ?_ hn hdb);exact im (thn (ha pos pk s σ H _ I h) λus s1 ⟨vs,H1,I1,r1,q1⟩=>hc pk s1 σ H1 vs us Q I1 r1 q1) he hpl
end
end L2
namespace HT
open PySem PyProof.Rows
section
open PySem.SeqAt
open PySem.AutoSeq1 (wpAny_loadPart')
open PySem.MeetsSeq PySem.MeetsSeq2 PySem.MeetsSeq3
end
variable {sl:ae}{vl vu:af}{lo hi:Option Int}
def hV(n d:Nat):Option Int->Nat
  |none=>d
  |some v=>if v<0 then (v+(n:Int)).toNat else min v.toNat n
theorem Ay(n d:Nat):hV n d au=d:=rfl
theorem NB(n d:Nat)(hd:d<=n)(o:Option Int):hV n d o<=n:=by
  cases o with
  |none=>exact hd
  |some v=>
    show (if v<0 then (v+(n:Int)).toNat else min v.toNat n)<=n;by_cases hv:v<0
    . rw[Yh hv];right
    . rw[XQ hv];exact Nat.min_le_right _ _
theorem Ep(v:Int)(n d:Nat):(if v<0 then max (v+(n:Int)) 0 else min v (n:Int))=((hV n d (aa v):Nat):Int):=by
  show (if v<0 then max (v+(n:Int)) 0 else min v (n:Int))=(((if v<0 then (v+(n:Int)).toNat else min v.toNat n):Nat):Int);by_cases hv:v<0
  . simp only[Yh hv];right
  . simp only[XQ hv];right
theorem Db(lo hi:Option Int)(n:Nat):uh lo hi 1 (n:Int)=(((hV n 0 lo:Nat):Int),((hV n n hi:Nat):Int)):=by
  have h1:¬((1:Int)<0):=⋯;unfold uh;simp only[h1,if_false];refine Prod.ext ?_ ?_
  . cases lo with
    |none=>rfl
    |some v=>exact Ep v n 0
  . cases hi with
    |none=>rfl
    |some v=>exact Ep v n n
theorem D0(i j:Nat):oo (i:Int) (j:Int) 1=j-i:=by
  unfold oo;have h1:(1:Int) > 0:=⋯;simp only[h1,if_true,Int.ediv_one];split<;>right
theorem vA{v:af}{o:Option Int}{Q:Option Int->ah->Prop}(p:Ve v o)(h:Q o s):bt (bz prog w) A (Wo v) Q E s:=by
  cases p with
  |none=>exact WO h
  |int i t=>exact slicePart_int h
theorem sQ{Q:Int×Int×Nat->ah->Prop}(hs:s.heap.IsSliceOf sl vl vu .none)(pl:Ve vl lo)(pu:Ve vu hi)
    (h:Q (((hV n 0 lo:Nat):Int),1,hV n n hi-hV n 0 lo) s):bt (bz prog w) A (ye (.ref sl) (jw (n:Int))) Q E s:=by
  obtain⟨os,hos,hcs,hds⟩:=id hs;unfold ye X4;refine ad (ad (fx hos hds (x:=vl) rfl (ad (fx hos hds (x:=vu) rfl (ad (fx hos hds (x:=.none) rfl (aj ?_)))))));refine ad (WO ?_);show bt _ _ (if ((1:Int)==0)=ai then _ else _) _ _ s;rw[XQ ∅];refine ad (vA pl (ad (vA pu (ad (aj ?_)))));show bt _ _ (match uh lo hi 1 (n:Int) with | (lo,hi)=>jw (lo,(1:Int),oo lo hi 1)) _ _ s;rw[Db lo hi n];show bt _ _ (jw (((hV n 0 lo:Nat):Int),(1:Int),oo ((hV n 0 lo:Nat):Int) ((hV n n hi:Nat):Int) 1)) _ _ s;rw[D0];exact aj h
theorem HM(xs:Array af)(i k:Nat):((gx k).filterMap λ(m:Nat)=>xs[((i:Int)+(m:Int)*1).toNat]?).toArray=((xs.toList.drop i).take k).toArray:=by
  have e:(λ(m:Nat)=>xs[((i:Int)+(m:Int)*1).toNat]?)=λm=>xs[i+m]?:=by
    funext m;have:((i:Int)+(m:Int)*1).toNat=i+m:=⋯;rw[this]
  rw[e];have:=pick_run xs i k;rw[List.filterMap_map] at this;have e2:((λx=>xs[x]?) ∘ λx=>i+x)=λm=>xs[i+m]?:=rfl;rw[e2] at this;rw[this]
theorem sC{t:ae}{Ym:Array af}(ht:IsTup s.heap t Ym)(hs:s.heap.IsSliceOf sl vl vu .none)(pl:Ve vl lo)(pu:Ve vu hi)
    (hw:¬(hV Ym.size 0 lo=0/\hV Ym.size Ym.size hi=Ym.size))
    (h:Q (.ref s.heap.objs.size) { s with heap:=s.heap.push { cls:=.type "tuple",data:=.seq ((Ym.toList.drop (hV Ym.size 0 lo)).take (hV Ym.size Ym.size hi-hV Ym.size 0 lo)).toArray } })
    (hsz:Ym.size<=bu):bt (bz prog w) A (Vw (.ref t) (.ref sl)) Q E s:=by
  have htake:sizeOk (.seq ((Ym.toList.drop (hV Ym.size 0 lo)).take (hV Ym.size Ym.size hi-hV Ym.size 0 lo)).toArray):=by
    show ((Ym.toList.drop (hV Ym.size 0 lo)).take (hV Ym.size Ym.size hi-hV Ym.size 0 lo)).toArray.size<=bu;rw[fh,dw,Uw,uo];right
  have hj:hV Ym.size Ym.size hi<=Ym.size:=NB _ _ (br _) hi;obtain⟨os,hos,hcs,hds⟩:=id hs;have hTs:s.TypeIs (.ref sl) "slice" := ⟨os,hos,hcs⟩;unfold Vw
  try with_reducible refine jd ?_
  first | refine ad (aj ?_) | skip
  refine ad (wpAny_sequenceKey ht.typeIs ∅ ?_);refine ad (gg (name:=ii "__getitem__") ht.typeIs qg
    (fz qg ht.typeIs entry_tuple_getitem ?_ (args_tuple_getitem _ _)))
  show bt _ _ (yf (.ref t) >>= _) _ _ s;refine ad (tupleItemsOf_ ht ?_);refine ad (wpAny_typeOf hTs ?_);rw[Yh ∅];refine ad (sQ hs pl pu ?_);have hno:¬((((hV Ym.size 0 lo:Nat):Int)==0&&(1:Int)==1&&(hV Ym.size Ym.size hi-hV Ym.size 0 lo)==Ym.size)=ai):=by
    intro q;rw[dm,dm] at q;have q1:((hV Ym.size 0 lo:Nat):Int)=0:=Xe q.1.1;have q2:hV Ym.size Ym.size hi-hV Ym.size 0 lo=Ym.size:=Xe q.2;exact hw ⟨⋯,⋯⟩
  show bt _ _ (if (((hV Ym.size 0 lo:Nat):Int)==0&&(1:Int)==1&&(hV Ym.size Ym.size hi-hV Ym.size 0 lo)==Ym.size)=ai then _ else _) _ _ s;rw[XQ hno,HM]
  first
    |exact ad (m:=qd _) (ig (aj ⟨_,rfl,aj h⟩) htake)
    |exact ad (m:=qd _) (ig (ad (aj (aj ⟨_,rfl,aj h⟩))) htake)
    |exact ad (ad (m:=qd _) (ig (aj (aj ⟨_,rfl,aj h⟩)) htake))
    |exact ad (ad (m:=qd _) (ig (aj ⟨_,rfl,aj h⟩) htake))
end HT
variable {H:L2.Hp}{X:L2.Cx}{σ:L2.St}{ns:List Int}{Yq:lv}
namespace L2
abbrev TO:=St->Hp->(Option Int->Hp->Prop)->Prop
def PO(X:Cx)(e:Option Expr)(t:TO):Prop:=
  ∀(pk:List (ae×jv)) (s:ah) (σ:St) (H:Hp) (Q:Option Int->Hp->Prop),Inv X pk σ H s->t σ H Q ->
    bt (bz X.prog X.w) X.A (evalPart e X.env) (λu s'=>∃o H',Inv X pk σ H' s'/\Ve u o/\Q o H') X.xe s
def K3:TO:=λ_ H Q=>Q au H
def Oy(t:TE):TO:=λσ H Q=>t σ H λx H1=>∃i,x=.int i/\Q (aa i) H1
theorem qI:∀{us:List af},bV (ns.map V.int) us->uu us ns:=by
  induction ns with
  |nil=>intro us r;rw[wp] at r;cases r;exact .nil
  |cons n ns ih=>
    intro us r;rw[cr] at r;cases r with
    |cons r1 r2=>
      obtain⟨t,e⟩:=r1;subst e;exact .cons n t (ih r2)
variable {r:V->Option Int->Option Int->Hp->VK->Prop}
section
variable {te:TE}{lo hi:Option Expr}{tl th:TO}{pos p2:lv}
theorem Kd:PO X au K3:=by
  intro pk s σ H Q I h;rw[evalPart_none];exact aj ⟨au,H,I,.none,h⟩
theorem Kc(h:PE X e te):PO X (aa e) (Oy te):=by
  intro pk s σ H Q I hw;rw[evalPart_some];refine thn (h pk s σ H _ I hw) λu s1 ⟨x,H1,I1,r1,q1⟩=>?_;obtain⟨i,rfl,q⟩:=q1;obtain⟨t,rfl⟩:=r1;exact⟨aa i,H1,I1,.int i t,q⟩
def Og(X:Cx)(r:V->Option Int->Option Int->Hp->VK->Prop):Prop:=
  ∀(pk:List (ae×jv)) (s:ah) (σ:St) (H:Hp) (x:V) (v vl vu:af) (lo hi:Option Int) (sl:ae) (Q:VK),Inv X pk σ H s->cO x v->s.heap.IsSliceOf sl vl vu .none->Ve vl lo->Ve vu hi->r x lo hi H Q ->
    ∃T id,typeLookup (.type T) "__getitem__" = jw (aa (.builtin id))/\s.TypeIs v T/\bt (bz X.prog X.w) X.A (Vw v (.ref sl)) (EP X pk σ Q) X.xe s
theorem Og.or{r':V->Option Int->Option Int->Hp->VK->Prop}(h:Og X r)(h':Og X r'):Og X (λx lo hi H Q=>r x lo hi H Q \/ r' x lo hi H Q):=by
  intro pk s σ H x v vl vu lo hi sl Q I rx hs pl pu q;rcases q with q | q
  . exact h pk s σ H x v vl vu lo hi sl Q I rx hs pl pu q
  . exact h' pk s σ H x v vl vu lo hi sl Q I rx hs pl pu q
def Sz(r:V->Option Int->Option Int->Hp->VK->Prop)(te:TE)(tl th:TO):TE:=λσ H Q=>te σ H λx H1=>tl σ H1 λl H2=>th σ H2 λu H3=>r x l u H3 Q
theorem HN(hr:Og X r)(he:PE X e te)(hl:PO X lo tl)(hu:PO X hi th):PE X (.Subscript e (.Slice lo hi au p2) pos) (Sz r te tl th):=by
  intro pk s σ H Q I h;refine Subscript_ (thn (he pk s σ H _ I h) λv s1 ⟨x,H1,I1,r1,q1⟩=>?_);refine wpAny_Slice (thn (hl pk s1 σ H1 _ I1 q1) λvl s2 ⟨l,H2,I2,pl,q2⟩=>thn (hu pk s2 σ H2 _ I2 q2) λvu s3 ⟨u,H3,I3,pu,q3⟩=>?_);rw[evalPart_none];refine aj ?_;have I4:Inv X pk σ H3 { s3 with heap:=s3.heap.push { cls:=.type "slice",data:=.fields #[vl,vu,.none] } }:=I3.kept (t':=s3.toks) λb ob q=>ap _ q;obtain⟨T,id,hT,ht,hg⟩:=hr pk { s3 with heap:=s3.heap.push { cls:=.type "slice",data:=.fields #[vl,vu,.none] } } σ H3 x v vl vu l u s3.heap.objs.size Q I4 r1 (Heap.IsSliceOf.new ..) pl pu q3;show bt (bz X.prog X.w) X.A (V2 e (.Slice lo hi au p2) v (.ref s3.heap.objs.size)) (EP X pk σ Q) X.xe { s3 with heap:=s3.heap.push { cls:=.type "slice",data:=.fields #[vl,vu,.none] } };exact tail_any (ops:=[.ref s3.heap.objs.size,v]) ht hT hg (by with_unfolding_all rfl)
def CJ(xs:List V)(lo hi:Option Int):List V:=(xs.drop (HT.hV xs.length 0 lo)).take (HT.hV xs.length xs.length hi-HT.hV xs.length 0 lo)
theorem tU(xs:List V)(lo hi:Option Int):(CJ xs lo hi).length<=xs.length:=by
  unfold CJ;rw[dw,Uw];right
def Rl(K:ak):V->Option Int->Option Int->Hp->VK->Prop:=λx lo hi H Q=>∃a xs,x=.ref a/\pF K H a xs /\
  ¬(HT.hV xs.length 0 lo=0/\HT.hV xs.length xs.length hi=xs.length) /\ ∀p,H p=au->Q (.ref p) (upd H p (.tup (CJ xs lo hi)))
theorem N8:Og X (Rl X.K):=by
  intro pk s σ H x v vl vu lo hi sl Q I rx hs pl pu h;obtain⟨a,xs,rfl,hx,hw,q⟩:=h;cases rx;obtain⟨its,r,ht,hz⟩:=I.tuple hx;have hlen:its.toArray.size=xs.length:=by rw[fh];exact r.length.symm
  refine⟨"tuple",_,qg.lookup,ht.typeIs,?_⟩;refine HT.sC ht hs pl pu (by rw[hlen];exact hw) ?_ (by rw[hlen];exact hz);rw[hlen];refine⟨.ref s.heap.objs.size,_,I.laid (t':=s.toks) (o:=.tup (CJ xs lo hi)) (λb ob q=>ap _ q) (br _) ?_,rfl,q _ (I.hok.fresh (br _))⟩;exact⟨ly (tU xs lo hi) hz,_,(r.drop (HT.hV xs.length 0 lo)).take (HT.hV xs.length xs.length hi-HT.hV xs.length 0 lo),IsTup.new _ _⟩
end
def uI(n:Nat)(i:Int):Option Nat:=if 0<=i then (if i<n then aa i.toNat else au) else if -(n:Int)<=i then aa (i+n).toNat else au
def qZ(xs:List α)(i:Int):Option α:=(uI xs.length i).bind λj=>xs[j]?
variable {i:Int}
theorem LM{j:Nat}(h:uI n i=aa j):seqIndex? i n=aa j/\j<n /\ -(n:Int)<=i/\i<n:=by
  unfold uI at h;by_cases h0:0<=i
  . rw[Yh h0] at h;by_cases h1:i<n
    . rw[Yh h1] at h;have e:i.toNat=j:=Option.some.inj h;exact⟨by rw[seqIndex_of h0 h1,e],⋯,⋯,h1⟩
    . rw[XQ h1] at h;cases h
  . rw[XQ h0] at h;by_cases h1:-(n:Int)<=i
    . rw[Yh h1] at h;have e:(i+n).toNat=j:=Option.some.inj h;exact⟨by rw[seqIndex_neg ⋯ h1,e],⋯,h1,⋯⟩
    . rw[XQ h1] at h;cases h
theorem AX{xs:List α}{v:α}(h:qZ xs i=aa v):∃j,seqIndex? i xs.length=aa j/\xs[j]?=aa v/\j<xs.length /\ -(xs.length:Int)<=i/\i<xs.length:=by
  unfold qZ at h;cases e:uI xs.length i with
  |none=>rw[e] at h;cases h
  |some j=>
    rw[e] at h;obtain⟨h1,h2,h3,h4⟩:=LM e;exact⟨j,h1,h,h2,h3,h4⟩
def Ev(b:Expr):Prop:=∀o i,Wh b ao o i=operate [o,i] (Vw o i)
def Jo(X:Cx)(r:R2):Prop:=
  ∀(Yp Yy:Expr) (pk:List (ae×jv)) (s:ah) (σ:St) (H:Hp) (x y:V) (v u:af) (Q:VK),Inv X pk σ H s->cO x v->cO y u->r x y H Q ->
    Wh Yy ao v u=operate [v,u] (Vw v u)->bt (bz X.prog X.w) X.A (V2 Yp Yy v u) (EP X pk σ Q) X.xe s
def Ss(X:Cx)(id:String)(r:V->List V->Hp->VK->Prop):Prop:=
  ∀(pk:List (ae×jv)) (s:ah) (σ:St) (H:Hp) (x:V) (xs:List V) (v:af) (us:List af) (Q:VK),Inv X pk σ H s->cO x v->bV xs us->r x xs H Q ->
    bt (bz X.prog X.w) X.A (call (.builtin id) (v::us)) (EP X pk σ Q) X.xe s
variable {T:String}
section
variable {a b:Expr}{ta tb:TE}{pos:lv}
theorem Jo.or{r r':R2}(h:Jo X r)(h':Jo X r'):Jo X (λx y H Q=>r x y H Q \/ r' x y H Q):=by
  intro Yp Yy pk s σ H x y v u Q I rx ry q hs;rcases q with q | q
  . exact h Yp Yy pk s σ H x y v u Q I rx ry q hs
  . exact h' Yp Yy pk s σ H x y v u Q I rx ry q hs
theorem Px{r:R2}(hr:Jo X r)(ha:PE X a ta)(hb:PE X b tb)(hs:Ev b):PE X (.Subscript a b pos) (Oz r ta tb):=by
  intro pk s σ H Q I h;exact Subscript_ (OZ ha hb I h λv u s2 x y H2 I2 rx ry q=>hr a b pk s2 σ H2 x y v u Q I2 rx ry q (hs _ _))
def Pg(K:ak):R2:=λx y H Q=>∃p xs i v,x=.ref p/\y=.int i/\gJ K H p xs/\qZ xs i=aa v/\Q v H
def Pd(K:ak):R2:=λx y H Q=>∃p xs i v,x=.ref p/\y=.int i/\pF K H p xs/\qZ xs i=aa v/\Q v H
def Pf:R2:=λx y H Q=>∃z i c,x=.str z/\y=.int i/\z.length<=bu/\qZ z.cps.toList i=aa c/\Q (.str ⟨#[c]⟩) H
theorem LK:Jo X (Pg X.K):=by
  intro Yp Yy pk s σ H x y v u Q I rx ry h hs;obtain⟨p,xs,i,z,rfl,rfl,hq,he,q⟩:=h;cases rx;obtain⟨t,rfl⟩:=ry;obtain⟨its,r,pl,hz⟩:=I.list hq;obtain⟨j,h1,h2,h3,h4,h5⟩:=AX he;obtain⟨w,ew,rw'⟩:=r.get h2;have hl:=r.length;have hn:=sZ;have fin:EP X pk σ Q w s:=⟨z,H,I,rw',q⟩;by_cases h0:0<=i
  . have hj:i.toNat=j:=by
      rw[seqIndex_of h0 h5] at h1;exact Option.some.inj h1
    exact item_listR pl.isList h0 ⋯ (by rw[hj];simpa using ew) fin hs
  . have hj:(i+(its.toArray.size:Int)).toNat=j:=by
      rw[seqIndex_neg ⋯ h4] at h1;rw[fh,<- hl];exact Option.some.inj h1
    exact TY (x:=w) pl.isList.typeIs Vx.lookup
      (wpAny_getItem_list_neg (Q:=λr s'=>r=w/\EP X pk σ Q r s') pl.isList ⋯ (by rw[fh]<;>right) ⋯ (by rw[hj];simpa using ew) ⟨rfl,fin⟩) hs
theorem OB:Jo X (Pd X.K):=by
  intro Yp Yy pk s σ H x y v u Q I rx ry h hs;obtain⟨p,xs,i,z,rfl,rfl,hq,he,q⟩:=h;cases rx;obtain⟨t,rfl⟩:=ry;obtain⟨its,r,pl,hz⟩:=I.tuple hq;obtain⟨j,h1,h2,h3,h4,h5⟩:=AX he;obtain⟨w,ew,rw'⟩:=r.get h2;have hl:=r.length;have hn:=sZ;have fin:EP X pk σ Q w s:=⟨z,H,I,rw',q⟩;exact TY (x:=w) pl.typeIs slot_tuple_getitem.lookup
    (getItem_tuple (j:=j) (Q:=λr s'=>r=w/\EP X pk σ Q r s') pl ⋯ ⋯ (by rw[fh,<- hl];exact h1) (by simpa using ew) ⟨rfl,fin⟩) hs
theorem OC:Jo X Pf:=by
  intro Yp Yy pk s σ H x y v u Q I rx ry h hs;obtain⟨z,i,c,rfl,rfl,hz,he,q⟩:=h;obtain⟨t,rfl⟩:=rx;obtain⟨t',rfl⟩:=ry;obtain⟨j,h1,h2,h3,h4,h5⟩:=AX he;have hl:z.cps.toList.length=z.length:=by simp[Str.length]
  rw[hl] at h1 h4 h5;have hn:=sZ;exact tail_any (typeIs_str s z t) slot_str_getitem.lookup (getItem_str (c:=c) (by
    have e1:decide (i < -(2 ^ 63:Int))=ao:=decide_eq_false ⋯;have e2:decide (i >= 2 ^ 63)=ao:=decide_eq_false ⋯;rw[e1,e2,Bool.or_false]) (by rw[h1];simpa using h2) ⟨.str ⟨#[c]⟩,H,I.tok _,⟨_,rfl⟩,q⟩) hs
def T5(K:ak):R2:=λx y H Q=>Pg K x y H Q \/ Pd K x y H Q \/ Pf x y H Q
theorem OD:Jo X (T5 X.K):=LK.or (OB.or OC)
theorem zB(lo hi:Option Int)(n:Nat):(vd lo hi au n).1=((HT.hV n 0 lo:Nat):Int)/\(vd lo hi au n).2.1=((HT.hV n n hi:Nat):Int)/\(vd lo hi au n).2.2=1:=by
  refine⟨?_,?_,rfl⟩
  . cases lo with
    |none=>simp[vd,HT.hV]
    |some i=>
      simp only[vd,HT.hV,getD_none,show (1:Int) > 0 by decide,if_true];by_cases h:i<0
      . simp only[h,if_true]<;>right
      . simp only[h,if_false]<;>right
  . cases hi with
    |none=>simp[vd,HT.hV]
    |some i=>
      simp only[vd,HT.hV,getD_none,show (1:Int) > 0 by decide,if_true];by_cases h:i<0
      . simp only[h,if_true]<;>right
      . simp only[h,if_false]<;>right
theorem wT(its:List af)(lo hi:Option Int):slicePick its.toArray lo hi au=((its.drop (HT.hV its.length 0 lo)).take (HT.hV its.length its.length hi-HT.hV its.length 0 lo)).toArray:=by
  obtain⟨h1,h2,h3⟩:=zB lo hi its.toArray.size;unfold slicePick;rw[h1,h2,h3];simp only[sliceRange_one,pick_run,fh]<;>rfl
def Rm(K:ak):V->Option Int->Option Int->Hp->VK->Prop:=λx lo hi H Q=>∃a xs,x=.ref a/\gJ K H a xs /\ ∀p,H p=au->Q (.ref p) (upd H p (.lst (CJ xs lo hi)))
theorem K9:Og X (Rm X.K):=by
  intro pk s σ H x v vl vu lo hi sl Q I rx hs pl pu h;obtain⟨a,xs,rfl,hx,q⟩:=h;cases rx;obtain⟨its,r,ht,hz⟩:=I.list hx;have hlen:=r.length;refine⟨"list",_,Vx.lookup,ht.isList.typeIs,?_⟩;refine wpAny_getItem_list_slice ht.isList hs pl pu .none (by simp) ?_ (by rw[fh]<;>right);rw[wT,<- hlen];refine⟨.ref s.heap.objs.size,_,I.laid (t':=s.toks) (o:=.lst (CJ xs lo hi)) (λb ob q=>ap _ q) (br _) ?_,rfl,q _ (I.hok.fresh (br _))⟩;exact⟨ly (tU xs lo hi) hz,_,0,(r.drop (HT.hV xs.length 0 lo)).take (HT.hV xs.length xs.length hi-HT.hV xs.length 0 lo),cj _ rfl⟩
theorem AV:fM X (.builtin "len") (λxs H Q=>∃p ys,xs=[.ref p]/\(gJ X.K H p ys \/ pF X.K H p ys)/\Q (.int ys.length) H):=by
  intro pk s σ H xs us Q I r h;obtain⟨p,ys,rfl,hq,q⟩:=h;obtain⟨u,rfl,rx⟩:=kF r;cases rx;have hn:=sZ;rcases hq with hq | hq
  . obtain⟨its,r',pl,hz⟩:=I.list hq;have hlen:=r'.length;exact Calls.call_len_list pl.isList (by simp only[fh]<;>right) ⟨.int ys.length,H,I.tok _,⟨s.toks+1,by rw[fh,hlen]⟩,q⟩
  . obtain⟨its,r',pl,hz⟩:=I.tuple hq;have hlen:=r'.length;exact len_tuple pl (by simp only[fh]<;>right) ⟨.int ys.length,H,I.tok _,⟨s.toks+1,by rw[fh,hlen]⟩,q⟩
theorem AU:fM X (.builtin "len") (λxs H Q=>∃z,xs=[.str z]/\z.length<=bu/\Q (.int z.length) H):=by
  intro pk s σ H xs us Q I r h;obtain⟨z,rfl,hz,q⟩:=h;obtain⟨u,rfl,t,rfl⟩:=kF r;have hn:=sZ;exact len_str ⋯ ⟨.int z.length,H,I.tok _,⟨_,rfl⟩,q⟩
theorem fM.or{f:af}{r r':List V->Hp->VK->Prop}(h:fM X f r)(h':fM X f r'):fM X f (λxs H Q=>r xs H Q \/ r' xs H Q):=by
  intro pk s σ H xs us Q I rs q;rcases q with q | q
  . exact h pk s σ H xs us Q I rs q
  . exact h' pk s σ H xs us Q I rs q
theorem AT:fM X (.type "list") (λxs H Q=>∃p ys,xs=[.ref p]/\(gJ X.K H p ys \/ pF X.K H p ys) /\ ∀l,H l=au->Q (.ref l) (upd H l (.lst ys))):=by
  intro pk s σ H xs us Q I r h;obtain⟨p,ys,rfl,hq,q⟩:=h;obtain⟨u,rfl,rx⟩:=kF r;cases rx;have fin:∀(its:List af),bV ys its->ys.length<=bu -> ∀(h':dk) (c':Nat),(∀b o',s.heap.get? b=aa o'->h'.get? b=aa o') ->
      h'.get? s.heap.objs.size=aa { cls:=.type "list",dict:=au,data:=.seq its.toArray c',slots:=#[] }->EP X pk σ Q (.ref s.heap.objs.size) { s with heap:=h' }:=λits r' hz h' c' kp e=>
    ⟨.ref s.heap.objs.size,_,I.laid (t':=s.toks) kp (br _) (show cI X.prog X.w _ h' _ (.lst ys) from⟨hz,its,c',r',e⟩),rfl,q _ (I.hok.fresh (br _))⟩
  rcases hq with hq | hq
  . obtain⟨its,r',pl,hz⟩:=I.list hq;have hlen:=r'.length;obtain⟨o,ho,hc,n,hd⟩:=pl.isList;exact call_list_seq p (.inl rfl) ho hc hd (λh' c' kp e=>fin its r' hz h' c' kp e) (by simp only[fh]<;>right)
  . obtain⟨its,r',pl,hz⟩:=I.tuple hq;have hlen:=r'.length;obtain⟨o,ho,hc,n,hd⟩:=pl;exact call_list_seq p (.inr rfl) ho hc hd (λh' c' kp e=>fin its r' hz h' c' kp e) (by simp only[fh]<;>right)
theorem xG:fM X (.type "tuple") (λxs H Q=>∃p ys,xs=[.ref p]/\((gJ X.K H p ys /\ ∀l,H l=au->Q (.ref l) (upd H l (.tup ys))) \/ (pF X.K H p ys/\Q (.ref p) H))):=by
  intro pk s σ H xs us Q I r h;obtain⟨p,ys,rfl,h⟩:=h;obtain⟨u,rfl,rx⟩:=kF r;cases rx;rcases h with⟨hq,q⟩ | ⟨hq,q⟩
  . obtain⟨its,r',pl,hz⟩:=I.list hq;have hlen:=r'.length;refine call_tuple_list pl.isList (λh' kp=>?_) (by simp only[fh]<;>right);have I1:Inv X pk σ H { s with heap:=h' }:=I.kept (t':=s.toks) kp;have I2:Inv X pk σ (upd H h'.objs.size (.tup ys)) { s with heap:=h'.push { cls:=.type "tuple",data:=.seq its.toArray } }:=
      I1.laid (t':=s.toks) (λb o e=>ap _ e) (br _) (show cI X.prog X.w _ _ _ (.tup ys) from⟨hz,its,r',IsTup.new _ _⟩)
    exact⟨.ref h'.objs.size,_,I2,rfl,q _ (I1.hok.fresh (br _))⟩
  . obtain⟨its,r',pl,hz⟩:=I.tuple hq;exact call_tuple_same pl ⟨.ref p,H,I,rfl,q⟩
def Sm(K:ak)(T:String)(x:V)(H:Hp):Prop:=match x with
  | .str _=>T = "str"
  | .int _=>T = "int"
  | .ref p=>(T = "list" /\ ∃xs,gJ K H p xs) \/ (T = "tuple" /\ ∃o,K.lookup p=aa o/\o.cls=.type "tuple" /\ o.dict=au) \/
      (T = "dict" /\ ((∃kvs,H p=aa (.dK kvs)) \/ ∃ep kvs,H p=aa (.dT ep kvs))) \/ (T = "set" /\ ∃S n,H p=aa (.set S n))
  |_=>False
theorem Mu{x:V}{v:af}(I:Inv X pk σ H s)(r:cO x v)(ty:Sm X.K T x H):
    s.TypeIs v T /\ ∀a,v=.ref a -> ∃ob,s.heap.get? a=aa ob/\ob.dict=au:=by
  cases x with
  |str z=>
    obtain⟨t,rfl⟩:=r;cases (show T = "str" from ty);exact⟨typeIs_str s z t,λ_ e=>nomatch e⟩
  |int i=>
    obtain⟨t,rfl⟩:=r;cases (show T = "int" from ty);exact⟨WP s i t,λ_ e=>nomatch e⟩
  |ref p=>
    cases r;rcases ty with⟨rfl,xs,hq⟩ | ⟨rfl,o,hk,hc,hd⟩ | ⟨rfl,hk⟩ | ⟨rfl,S,n,hk⟩
    . obtain⟨its,_,pl,_⟩:=I.list hq;refine⟨pl.isList.typeIs,λa e=>?_⟩;cases e;obtain⟨o,n,e,c,hd,_⟩:=pl;exact⟨o,e,hd⟩
    . refine⟨⟨o,I.kIn p o hk,hc⟩,λa e=>?_⟩;cases e;exact⟨o,I.kIn _ o hk,hd⟩
    . have z:∃o,s.heap.get? p=aa o/\o.ExactDict:=by
        rcases hk with⟨kvs,hk⟩ | ⟨ep,kvs,hk⟩
        . obtain⟨_,_,_,_,o,_,_,e,ex,_⟩:=I.hok p _ hk;exact⟨o,e,ex⟩
        . obtain⟨_,_,_,_,o,_,e,ex,_⟩:=I.hok p _ hk;exact⟨o,e,ex⟩
      obtain⟨o,e,ex⟩:=z;refine⟨⟨o,e,ex.1⟩,λa e2=>?_⟩;cases e2;exact⟨o,e,ex.2.1⟩
    . obtain⟨o,_,_,_,e,ex,_⟩:=I.hok p _ hk;refine⟨⟨o,e,ex.1⟩,λa e2=>?_⟩;cases e2;exact⟨o,e,ex.2.1⟩
  |_=>exact ie ty
def T1(K:ak)(T:String)(r:V->List V->Hp->VK->Prop)(to:TE)(t:TA):TE:=λσ H Q=>to σ H λx H1=>Sm K T x H1/\t σ H1 λxs H2=>r x xs H2 Q
variable {o:Expr}{to:TE}{t:TA}{name:bv}{Yt:lv}{id:String}{r:V->List V->Hp->VK->Prop}
theorem HW(pa:PlainAttrs T)(slot:Slot T name id)(hty:VW (.builtin id)=jw (.type "method_descriptor"))(hm:Ss X id r)(ho:PE X o to)(ha:PA X (e::es) t)
    (YD:sd o name X.env (gh o X.env)=gh o X.env:=by rfl)
    (hfew:((ir Yq (aw (e::es) X.env)).all (λx=>!x.1)&&(yc Yq (tj [] X.env)).all (λx=>x.1.isSome)
      && decide ((e::es).length+([]:List zj).length+(if ([]:List zj).isEmpty then 0 else 1)<30))=ai:=by rfl)
    (YE:(Yt.endLine==Yq.line)=ai:=by rfl) (hs:aw (e::es) X.env=(ao,gh e X.env)::aw es X.env:=by rfl) (Yz:(ir Yq (aw es X.env)).any (·.1)=ao:=by rfl):
    PE X (.Call (.Attribute o name Yt) (e::es) [] Yq) (T1 X.K T r to t):=by
  intro pk s σ H Q I h;refine wpAny_Call_method_late YD hfew YE rfl (thn (ho pk s σ H _ I h) λv s1 ⟨x,H1,I1,r1,ty,q1⟩=>?_);obtain⟨h1,h2⟩:=Mu I1 r1 ty;refine⟨T,id,pa,slot,hty,h1,h2,?_⟩;have hA:=ha Yq pk s1 σ H1 _ I1 q1;rw[hs] at hA ⊢;refine Calls.callWith_builtin (by show (ao || (ir Yq (aw es X.env)).any (·.1))=ao;rw[Yz]<;>rfl) (Ux ?_);exact thn hA λus s2 ⟨vs,H2,I2,r2,q2⟩=>hm pk s2 σ H2 x vs v us Q I2 r1 r2 q2
/- xs.append(e),list.index on a module's tuple .. are Ss facts of 06m -/
end
def Sc(X:Cx)(id:String)(r:V->List V->Hp->VK->Prop):Prop:=
  ∀(pk:List (ae×jv)) (s:ah) (σ:St) (H:Hp) (x:V) (xs:List V) (v:af) (us:List af) (Q:VK),Inv X pk σ H s->cO x v->bV xs us->r x xs H Q ->
    bt (bz X.prog X.w) X.A (call (.builtin id) (v::us)) (EP X pk σ Q) X.xe s
theorem bV.one:∀{x:V} {us:List af},bV [x] us -> ∃u,us=[u]/\cO x u
  |_,_,.cons r .nil=>⟨_,rfl,r⟩
theorem bV.rep{xs:List V}{us:List af}(h:bV xs us):∀k:Nat,bV (ay k xs).flatten (ay k us).flatten
  |0=>.nil
  |k+1=>by
    rw[kf,kf,vj,vj];exact bV.append h (bV.rep h k)
theorem yH(its:List af):∀(k:Nat) (acc:List af),
    TZ (λx1 x2=>x1++x2) acc.toArray (ay k its.toArray)=(acc++(ay k its).flatten).toArray
  |0,acc=>by simp
  |k+1,acc=>by
    have e:acc.toArray++its.toArray=(acc++its).toArray:=by simp
    have e2:(acc++its)++(ay k its).flatten=acc++(ay (k+1) its).flatten:=by
      rw[kf,vj,dt]
    rw[<- e2,<- yH its k (acc++its),<- e,kf,Wp]
variable {its:List af}{t':Nat}
section
variable {l:ae}{xs ys zs:List V}
theorem Inv.lset{its':List af}{f:Array af->Array af}(I:Inv X pk σ H s)(hH:H l=aa (.lst xs))
    (e:s.heap.get? l=aa { cls:=.type "list",data:=.seq its.toArray n }) (hf:f its.toArray=its'.toArray) (hv:bV ys its') (hz:ys.length<=bu):
    Inv X pk σ (upd H l (.lst ys)) { s with heap:=s.heap.update l (yg f),toks:=t' }:=by
  have q:=PySem.IsL.update e f;rw[hf] at q;refine I.write (x:=l) (e:=l) (by rw[hH];exact trivial) (.inl rfl) (λb' u hb hu=>(eh s.heap (yg f) (Ne.symm hb)).trans hu) ⟨_,q⟩ ?_;exact⟨hz,its',_,hv,q⟩
theorem Inv.lnew(I:Inv X pk σ H s)(hv:bV ys its)(hz:ys.length<=bu):
    Inv X pk σ (upd H s.heap.objs.size (.lst ys)) { s with heap:=s.heap.push { cls:=.type "list",data:=.seq its.toArray },toks:=t' }:=
  I.laid (λ_ _ q=>ap _ q) (br _) ⟨hz,its,0,hv,cj _ rfl⟩
theorem Inv.fresh(I:Inv X pk σ H s):H s.heap.objs.size=au:=I.hok.fresh (br _)
theorem Inv.lstM(I:Inv X pk σ H s)(hH:H l=aa (.lst xs)):xs.length<=bu /\ ∃(its:List af) (n:Nat),bV xs its/\xs.length=its.length/\s.heap.get? l=aa { cls:=.type "list",data:=.seq its.toArray n }:=by
  obtain⟨z,its,n,r,e⟩:=I.hok l _ hH;exact⟨z,its,n,r,r.length,e⟩
theorem Bb(h:n<=bu):qe n=ao:=by
  unfold qe;exact decide_eq_false ⋯
end
def KI:V->List V->Hp->VK->Prop:=λx vs H Q=>∃l xs y,x=.ref l/\vs=[y]/\H l=aa (.lst xs)/\xs.length<bu/\Q .non (upd H l (.lst (xs++[y])))
theorem y7:Sc X "list.append" KI:=by
  intro pk s σ H x vs v us Q I rx rv h;obtain⟨l,xs,y,rfl,rfl,hH,hz,q⟩:=h;cases rx;obtain⟨u,rfl,ru⟩:=rv.one;obtain⟨z,its,n,r,hl,e⟩:=I.lstM hH;refine Vf F.slot_list_append ⟨_,e,rfl⟩ F.entry_list_append (F.args_list_append_2 _ _) (PySem.list_append l its.toArray n u (by rw[fh];right)) ⟨e,?_⟩;refine⟨.non,_,I.lset (its':=its++[u]) hH e (by simp) (r.append (.cons ru .nil)) ?_,rfl,q⟩;rw[ef,List.length_singleton];right
def KH:V->List V->Hp->VK->Prop:=λx vs H Q=>∃l b xs zs,x=.ref l/\vs=[.ref b]/\H l=aa (.lst xs)/\H b=aa (.lst zs)/\xs.length+zs.length<=bu/\Q .non (upd H l (.lst (xs++zs)))
theorem Fd:Sc X "list.extend" KH:=by
  intro pk s σ H x vs v us Q I rx rv h;obtain⟨l,b,xs,zs,rfl,rfl,hH,hB,hz,q⟩:=h;cases rx;obtain⟨u,rfl,ru⟩:=rv.one;cases ru;obtain⟨z,its,n,r,hl,e⟩:=I.lstM hH;obtain⟨z2,its2,n2,r2,hl2,e2⟩:=I.lstM hB;have hsz:its.toArray.size+its2.toArray.size<=bu:=by rw[fh,fh];right
  have hlong:¬(!its.toArray.isEmpty&&qe (its.toArray.size+its2.toArray.size))=ai:=by
    rw[Bb hsz,Uy];exact jj
  refine Vf F.slot_list_extend ⟨_,e,rfl⟩ F.entry_list_extend (F.args_list_extend_2 _ _)
    (AutoSeq1.list_extend_list_list_0 l its.toArray n b its2.toArray n2 hlong (by rw[fh];right) ⋯) ⟨e,e2,?_⟩
  refine⟨.non,_,I.lset (its':=its++its2) hH e (by simp) (r.append r2) ?_,rfl,q⟩;rw[ef];right
def Ru:R2:=λx y H Q=>∃l b xs zs,x=.ref l/\y=.ref b/\H l=aa (.lst xs)/\H b=aa (.lst zs)/\xs.length+zs.length<=bu /\ ∀p,H p=au->Q (.ref p) (upd H p (.lst (xs++zs)))
theorem Nr:lM X (lf .Add) Ru:=by
  intro pk s σ H x y v u Q I rx ry h;obtain⟨l,b,xs,zs,rfl,rfl,hH,hB,hz,q⟩:=h;cases rx;cases ry;obtain⟨z,its,n,r,hl,e⟩:=I.lstM hH;obtain⟨z2,its2,n2,r2,hl2,e2⟩:=I.lstM hB;refine PySem.P.add_list e e2 ?_ (by rw[fh,fh];right);have ea:its.toArray++its2.toArray=(its++its2).toArray:=by simp
  rw[ea];exact⟨.ref _,_,I.lnew (t':=s.toks) (r.append r2) (by rw[ef];right),rfl,q _ I.fresh⟩
def Rn:R2:=λx y H Q=>∃l k xs,x=.ref l/\y=.int k/\H l=aa (.lst xs) /\ -(2 ^ 63)<=k/\k<2 ^ 63/\xs.length*k.toNat<=bu /\
  ∀p,H p=au->Q (.ref p) (upd H p (.lst (ay k.toNat xs).flatten))
theorem L6(xs:List α)(k:Nat):(ay k xs).flatten.length=k*xs.length:=by
  induction k with
  |zero=>simp
  |succ k ih=>rw[kf,vj,ef,ih,Tu,yh]
theorem Nk:lM X (lf .Mult) Rn:=by
  intro pk s σ H x y v u Q I rx ry h;obtain⟨l,k,xs,rfl,rfl,hH,h1,h2,hz,q⟩:=h;cases rx;obtain⟨t,rfl⟩:=ry;obtain⟨z,its,n,r,hl,e⟩:=I.lstM hH;have hlen:its.toArray.size*k.toNat<=bu:=by rw[fh,<- hl];exact hz
  have hcap:¬its.toArray.size*k.toNat > (2 ^ 63-1) / 8:=by
    have:(bu:Nat)<=(2 ^ 63-1) / 8:=by decide
    right
  have hfit:¬(!Builtin.List.listFitsIndex k)=ai:=by
    rw[fitsIndex_both h1 h2];exact jj
  have hlong:¬qe (its.toArray.size*k.toNat)=ai:=by
    rw[Bb hlen];exact jj
  have hnew:TZ (λx1 x2=>x1++x2) #[] (ay (if its.toArray.isEmpty=ai then 0 else k.toNat) its.toArray)=(ay k.toNat its).flatten.toArray:=by
    have f0:∀m:Nat,TZ (λx1 x2=>x1++x2) #[] (ay m its.toArray)=(ay m its).flatten.toArray:=λm=>by
      have:=yH its m [];rw[gp] at this;exact this
    rw[f0];cases its with
    |nil=>simp
    |cons a r'=>rw[XQ (by simp)]
  refine wpAny_binaryOp_repeat_ref (T:="list") (U:="int") ∅ ⟨_,e,rfl⟩ (λs'=>WP s' k t) noFill_list_mul F.fills_int_mul Wq repeat_list F.slot_int_index.lookup
    (Vf Wq (WP s k t) F.entry_int_rmul (F.args_int_rmul_2 _ _) (int___rmul___int_list k t l its.toArray n)
      ⟨e,rfl,⟨_,e,rfl⟩,Vf F.slot_list_mul ⟨_,e,rfl⟩ F.entry_list_mul (F.args_list_mul_2 _ _) (AutoListH.list___mul___list_int_3 l its.toArray n k t hfit hcap hlong) ⟨e,?_⟩⟩)
  rw[hnew];exact⟨.ref _,_,I.lnew (t':=s.toks) (r.rep k.toNat) (by rw[L6,Xn];exact hz),rfl,q _ I.fresh⟩
end L2
namespace Att
open PySem PySem.W PySem.Calls PyProof.Rows
variable {P:Xo}
theorem uB:∀(ns:List Int) (vs:List af),WellAll P h vs (ns.map WData.int)->uu vs ns:=by
  intro ns;induction ns with
  |nil=>
    intro vs w;rw[wp] at w;cases w;exact .nil
  |cons n ns ih=>
    intro vs w;rw[cr] at w;cases w with
    |cons a b=>
      cases a;exact .cons _ _ (ih _ b)
variable {l:OpenLaw}
theorem FC(hn:l.most=aa n){args:List WData}{vals:List af}
    (hpre:l.row.toRowW.claim.pre args=ai) (hwl:WellAll P h vals args):
    ∃a vs ns,vals=[Value.ref a]/\args=[WData.list (ns.map WData.int)]/\h.get? a=aa { cls:=.type "list",data:=.seq vs.toArray }/\uu vs ns/\ns.length<=n:=by
  have hsh:WShape.hasAll [] args [.list .int]=ai:=(pre_splitW hpre).1;have hc:l.pre.holds [] { args:=args }=ai:=(pre_splitW hpre).2;obtain⟨d,r,rfl,h1,h2⟩:=hasAllW_cons hsh;obtain rfl:=hasAllW_nil h2;obtain⟨xs,rfl,h3⟩:=hasW_list h1;obtain⟨ns,rfl⟩:=items_int h3;have hlen:ns.length<=n:=by
    unfold OpenLaw.pre at hc;have h4:(WTm.not (.lt (.lit (.int (n:Int))) (.len (.arg 0)))).holds [] { args:=[.list (ns.map .int)] }=ai:=by
      have h4:=(holds_andW hc).1;rw[hn] at h4;exact h4
    have h5:=condW_of h4 (w_not (w_lt w_lit (w_len_list (w_arg rfl))));rw[bf] at h5;refine nh λq=>?_;have q':(n:Int)<((ns.length:Nat):Int):=⋯
    first
      | (rw[decide_eq_true q'] at h5;exact absurd h5 ∅)
      | (simp at h5;right)
  cases hwl with
  |cons w1 w2=>
    cases w2;cases w1 with
    |list ho hall=>exact⟨_,_,ns,rfl,rfl,ho,uB ns _ hall,hlen⟩
theorem FK(l:OpenLaw)(args:List WData):l.row.toRowW.claim.post args (.bool ai) args=ai:=
  postW_of (r:=l.row.toRowW) (X:=(ai==ai))
    (show WShape.has [] (.bool ai) .bool=ai by first | rfl | decide | simp[WShape.has,WShape.arms,WShape.armsAll])
    (show (WTm.eq .res (.lit (.bool ai))).value [] { args:=args,res:=aa (.bool ai),after:=args }=aa (.bool (ai==ai)) from w_eq_bool (w_res rfl) w_lit) rfl
theorem CO{q:az}{loose:List bv}{XP:(bv->Option af)->dk->Prop}{YP:bw->dk->Prop}{d:DefRec}
    (hn:l.most=aa n) (hdf:d.params.defaults=[])
    (call:∀(w:bw) (s₀ s₁:ah) (mg mb:bv->Option af) (fa:ae) (o:jv) (pm cd doc:af) (a:ae) (vs:List af) (ns:List Int),
      Ground q loose [] XP w s₀ mg mb s₁.heap->YP w s₁.heap ->
      s₁.heap.get? fa=aa o->o.data=.func (docDef d.name d.params d.body d.scope pm cd doc)->s₁.heap.CodeRec cd d.name->mg d.name=aa (.ref fa) ->
      s₁.heap.get? a=aa { cls:=.type "list",data:=.seq vs.toArray }->uu vs ns->ns.length<=n->s₁.gens = #[] ->
      zi (bz l.prog w) UP (.call (.ref fa) ⟨[.ref a],[]⟩) (λr s'=>r=.ok (.ret (.bool ai))/\OldK s₁.heap s'.heap/\s'.os=s₁.os/\xk s'.gens) s₁):
    WalkO q loose XP YP l.row.toRowW d [] (λf vs=>PySem.call f vs):=by
  intro w s₀ s₁ mg mb G Y fa o pm cd doc dV kV ho hd hcd hD hmg hg args vals as hpre hlay hrd hwl hlo;obtain rfl:dV=.none:=Dflts.none hD hdf;obtain rfl:kV=.none:=Dflts.noKw hD;obtain⟨a,vs,ns,rfl,rfl,hobj,hints,hlen⟩:=FC hn hpre hwl;refine enter_call (qy (call w s₀ s₁ mg mb fa o pm cd doc a vs ns G Y ho (fd_plain hd) hcd hmg hobj hints hlen hg) λr s' hq=>?_);obtain⟨rfl,h2,h3,h4⟩:=hq;exact⟨.inl ⟨.bool ai,.bool ai,[],rfl,λ_=>rfl,.bool ai,FK l _,λ_=>⟨List.Pairwise.nil,λ_ hm=>(nomatch hm)⟩⟩,h2,h3,h4⟩
section
variable {K:Frag}
end
end Att
variable {H' H1:L2.Hp}
namespace L2
theorem xO:∀{vs:List af} {ns:List Int},uu vs ns->bV (ns.map V.int) vs
  |_,_,.nil=>.nil
  |_,_,.cons n t h=>.cons ⟨t,rfl⟩ (xO h)
def Jj(H:Hp):Prop:=∀b,H b=au \/ ∃o xs,H b=aa (.frz o (.lst xs))
variable {fd:ke}{sp:Sp}
theorem Ic{mb:bv->Option af}{CX:GQ}{k:Nat}{fa:ae}{x:bv}{s₁:ah}{vs:List af}
    (KX:K.In s₁.heap) (hns:s₁.heap.Ns jo mg) (hb:s₁.heap.Ns WE mb) (hbb:∀x:bv,x ≠ "__name__" -> mb x=oy x) (hlim:s₁.heap.NoLimit) (hg:s₁.gens = #[])
    (ha:s₁.heap.get? a=aa { cls:=.type "list",data:=.seq vs.toArray }) (hi:uu vs ns) (hl:ns.length<=bu) (hr:Room k UP)
    (F:∀base:dk,K.In base->base.Ns jo mg->FnOk P w K mg base CX k fa fd [x] sp) (hbind:∀(s:ah) (u:af),Vv s fd ⟨[u],[]⟩ [(x,u)])
    (hsp:∀H:Hp,Jj H->gJ K H a (ns.map V.int)->sp [.ref a] H (λv _=>v=.bl ai) λ_ _ _=>False)
    (hCX:∀H e s',CX [] H s₁ (λ_ _ _=>False) e s'->False):
    zi (bz P w) UP (.call (.ref fa) ⟨[.ref a],[]⟩) (λr s'=>r=.ok (.ret (.bool ai))/\OldK s₁.heap s'.heap/\s'.os=s₁.os/\xk s'.gens) s₁:=by
  have rv:=xO hi;have lenV:=hi.length;have core:∀H:Hp,Jj H->gJ K H a (ns.map V.int)->lN P w H s₁.heap->(∀b,H b≠au->b=a)->(H a≠au->K.lookup a=au) ->
      zi (bz P w) UP (.call (.ref fa) ⟨[.ref a],[]⟩) (λr s'=>r=.ok (.ret (.bool ai))/\OldK s₁.heap s'.heap/\s'.os=s₁.os/\xk s'.gens) s₁:=by
    intro H hO hS hok hA hK;have base_of:∀{b:ae} {o:jv},s₁.heap.get? b=aa o->H b=au->(A6 s₁.heap H).get? b=aa o:=λe n=>J9 e n;have noA:∀{b:ae} {o:jv} {es:Array lq} {ep:Nat},s₁.heap.get? b=aa o->o.data=.dict es ep->H b=au:=λ{b o es ep} e d=>by
      cases q:H b with
      |none=>rfl
      |some u=>
        have e':b=a:=hA b (by rw[q];simp);subst e';rw[ha] at e;cases e;have d':Data.seq vs.toArray _=Data.dict es ep:=d;cases d'
    have nsK:∀{b:ae} {m:bv->Option af},s₁.heap.Ns b m->(A6 s₁.heap H).Ns b m:=λ{b m} ⟨o,es,ep,e,d,r⟩=>⟨o,es,ep,base_of e (noA e d),d,r⟩;have hKb:K.In (A6 s₁.heap H):=λb o e=>base_of (KX b o e) (by
      cases q:H b with
      |none=>rfl
      |some u=>
        have e':b=a:=hA b (by rw[q];simp);subst e';rw[hK (by rw[q];simp)] at e;cases e)
    have hM:Mod K mg (A6 s₁.heap H):=⟨hKb,nsK hns,⟨mb,nsK hb,hbb⟩,let ⟨mc,h1,h2⟩:=hlim;⟨mc,nsK h1,h2⟩⟩;have e0:Env0 P w K mg (A6 s₁.heap H) UP [] s₁ H:=⟨rfl,hM,λb o e=>Ks e,Xm (G3 _ _),trivial,λb hb=>absurd (show b∈([]:List ae) from hb) (by simp),hok,.of_eq hg⟩;refine qy ((F _ hKb (nsK hns)).run UP [] s₁ H ⟨[.ref a],[]⟩ [.ref a] [.ref a] _ _ hr e0 (hbind s₁ (.ref a)) (.cons rfl .nil) (hsp H hO hS)) λr s' h=>?_;cases r with
    |error e=>exact(hCX H e s' h).elim
    |ok fl=>
      cases fl with
      |next=>exact ie h
      |brk=>exact ie h
      |cont=>exact ie h
      |ret u=>
        obtain⟨v,H',os,bare,un,hok',r',q⟩:=h;have q':v=.bl ai:=q;subst q';obtain rfl:u=TV ai:=r';refine⟨rfl,OldK.of_keep λb o e=>?_,os,bare⟩;cases q:H b with
        |none=>exact un.keep b o e q (by intro z;exact absurd (show b∈([]:List ae) from z) (by simp)) (by simp)
        |some u=>
          rcases hO b with z | ⟨ob,xs,z⟩
          . rw[q] at z;cases z
          . have z2:=un.frzs b ob _ z;obtain⟨e1,_⟩:=hok b _ z;obtain⟨e2,_⟩:=hok' b _ z2;rw[e] at e1;cases e1;exact e2
  cases hk:K.lookup a with
  |some o=>
    have e:=KX a o hk;rw[ha] at e;cases e;refine core (λ_=>au) (λ_=>.inl rfl) (.inr ⟨_,vs.toArray,_,hk,rfl,rfl,rfl,by rw[fh,lenV];exact hl,by simpa using rv⟩) (λb u z=>by have z':(au:Option HO)=aa u:=z;cases z') (λb z=>absurd rfl z) λz=>absurd rfl z
  |none=>
    refine core (λb=>if b=a then aa (.frz { cls:=.type "list",data:=.seq vs.toArray } (.lst (ns.map V.int))) else au) (λb=>?_) (.inl (.inr ⟨{ cls:=.type "list",data:=.seq vs.toArray },Yh rfl⟩)) (λb u z=>?_) (λb z=>?_) λ_=>hk
    . by_cases hb:b=a
      . exact .inr ⟨_,_,Yh hb⟩
      . exact .inl (XQ hb)
    . by_cases hb:b=a
      . have z':=(Yh hb).symm.trans z;cases z';subst hb;exact⟨ha,by rw[bf];exact hl,vs,_,rv,ha⟩
      . have z':=(XQ hb).symm.trans z;cases z'
    . by_cases hb:b=a
      . exact hb
      . exact absurd (XQ hb) z
theorem Js{l:W.OpenLaw}{k:Nat}{q:az}{loose:List bv}{XP:(bv->Option af)->dk->Prop}{YP:bw->dk->Prop}{d:DefRec}{K:Xo->ak}{CX:bw->GQ}{sp:bw->Sp}{x:bv}
    (hn:l.most=aa n) (hn2:n<=bu) (hdf:d.params.defaults=[]) (hr:Room k UP)
    (hY:∀(w:bw) (h:dk),YP w h->(K w.params).In h)
    (F:∀(w:bw) (mg:bv->Option af) (fa:ae) (h:dk),(K w.params).In h->h.Ns jo mg->mg d.name=aa (.ref fa) ->
      ∃fd:ke,(∀(s:ah) (u:af),Vv s fd ⟨[u],[]⟩ [(x,u)]) /\
        ∀base:dk,(K w.params).In base->base.Ns jo mg->FnOk l.prog w (K w.params) mg base (CX w) k fa fd [x] (sp w))
    (hsp:∀(w:bw) (H:Hp) (a:ae) (ns:List Int),ns.length<=n->Jj H->gJ (K w.params) H a (ns.map V.int)->sp w [.ref a] H (λv _=>v=.bl ai) λ_ _ _=>False)
    (hCX:∀(w:bw) (H:Hp) (s:ah) (e:af) (s':ah),CX w [] H s (λ_ _ _=>False) e s'->False):
    W.WalkO q loose XP YP l.row.toRowW d [] (λf vs=>PySem.call f vs):=by
  refine Att.CO hn hdf λw s₀ s₁ mg mb fa o pm cd doc a vs ns G Y ho hd hcd hmg hobj hints hlen hg=>?_;have KX:=hY w _ Y;obtain⟨fd,hb,hF⟩:=F w mg fa _ KX G.T.g hmg;exact Ic KX G.T.g G.T.b G.T.builtins G.T.nolimit hg hobj hints (ly hlen hn2) hr hF hb (λH hO hS=>hsp w H a ns hlen hO hS) λH e s'=>hCX w H s₁ e s'
def g8(s:ku)(j:Nat):ku:=match s with
  | .ClassDef _ _ _ Yv _ _ _ _ _ _ _=>Yv.getD j (.Pass ⟨0,0,0,0⟩)
  |_=>.Pass ⟨0,0,0,0⟩
def jM(s:ku):Arguments:=match s with
  | .FunctionDef _ a _ _ _ _ _ _ _ _=>a
  |_=>{ posonlyargs:=[],args:=[],vararg:=au,kwonlyargs:=[],kw_defaults:=[],kwarg:=au,defaults:=[] }
def eF(s:ku):List ku:=match s with
  | .FunctionDef _ _ b _ _ _ _ _ _ _=>b
  |_=>[]
def aI(s:ku):Scope:=match s with
  | .FunctionDef _ _ _ _ _ _ sc _ _ _=>sc
  |_=>{ kind:=.function,names:=[],isGenerator:=ao,isCoroutine:=ao }
abbrev Dd:GQ:=λ_ _ _ _ _ _=>False
abbrev E0:XK:=λ_ _ _=>False
theorem Dz:r6 Dd X E0:=λ_ _ _ _ _ _ _ h=>h.elim
structure Fun(K:ak)(x qual:bv)(st:ku)(f:ae)(fd:ke):Prop where
  ex:∃(oc:af) (od:Option ae) (kV doc pm:af) (an:Option ae) (cdv ct:af) (osl:Array (Option af)),
    fd=Tc x qual (jM st) (eF st) (aI st) .none kV doc pm an cdv ct/\K.lookup f=aa ⟨oc,od,.func fd,osl⟩/\Uv K cdv qual=ai
  kp:qj K (.ref f)=ai
variable {st:ku}
theorem Fun.ok{x:bv}{k:Nat}(F:Fun K x Yj st f fd)(S:FnScope N ps (aI st))(len:∀vs H Q E,sp vs H Q E->vs.length=ps.length)
    (Yu:∀(cdv:af) (A:dh) (outer:List zd) (s:ah) (H:Hp) (vs:List V) (Q:VK) (E:XK),Room k (A.deeper (tu Yj (aI st) s.heap.objs.size f cdv))->sp vs H Q E ->
      ∃t,uT (cK Dd P w K mg base N Yj (aI st) f cdv A outer s H E).nox (eF st) t/\t { nx:=λ_ H'=>Q .non H',rt:=Q } (start N vs) H):FnOk P w K mg base Dd (k+1) f fd ps sp:=by
  obtain⟨oc,od,kV,doc,pm,an,cdv,ct,osl,rfl,lk,hcd⟩:=F.ex;refine MX lk hcd S len λA outer s H vs Q E hr hsp=>?_;obtain⟨t,h,q⟩:=Yu cdv A outer s H vs Q E hr hsp;exact⟨t,h.nox,q⟩
theorem Fun.binds{x:bv}(F:Fun K x Yj st f fd)
    (h:∀(kV doc pm:af) (an:Option ae) (cdv ct:af) (us:List af),us.length=ps.length->XO (Tc x Yj (jM st) (eF st) (aI st) .none kV doc pm an cdv ct) ⟨us,[]⟩=jw (ps.zip us)):iH K fd ps []:=by
  obtain⟨oc,od,kV,doc,pm,an,cdv,ct,osl,rfl,lk,hcd⟩:=F.ex;exact .all (h kV doc pm an cdv ct)
theorem A9{x:bv}{oc:af}{od an:Option ae}{osl:Array (Option af)}{kV doc pm cdv ct:af}(l:K.lookup f=aa ⟨oc,od,.func (Tc x Yj (jM st) (eF st) (aI st) .none kV doc pm an cdv ct),osl⟩)
    (c:Uv K cdv Yj=ai) (k:qj K (.ref f)=ai):Fun K x Yj st f (Tc x Yj (jM st) (eF st) (aI st) .none kV doc pm an cdv ct):=⟨⟨oc,od,kV,doc,pm,an,cdv,ct,osl,rfl,l,c⟩,k⟩
theorem f6{k:Nat}(hr:Room k A):A.units+1<jy:=yi (Nat.add_le_add_left (by decide:1<=64) _) hr.units
theorem FA(h:n<=1000):n<bu:=yi h ∅
theorem pv(i:Nat){x:bv}{pos:lv}(hN:X.N[i]?=aa x:=by rfl)(hv:R4 X.env.scope x:=by first | exact Or.inl rfl | exact Or.inr (.inl rfl) | exact Or.inr (.inr rfl))(hd:(x==("__debug__" : bv))=ao:=by decide)
    (hcd:(x==("__classdict__" : bv))=ao:=by decide):PE X (.Name x pos) (z7 i):=NU hN hv hd hcd
variable {B:Prop}
theorem uA{A:Prop}(h:B):if ao=ai then A else B:=by
  rw[XQ jj];exact h
theorem u9{A:Prop}(h:A):if ai=ai then A else B:=by
  rw[Yh rfl];exact h
theorem nZ{c A:Prop}[Decidable c](h1:c->A)(h2:¬c->B):if c then A else B:=by
  by_cases h:c
  . rw[Yh h];exact h1 h
  . rw[XQ h];exact h2 h
def aO(H H':Hp):Prop:=∀b o,H b=aa o->H' b=aa o
theorem aO.refl(H:Hp):aO H H:=λ_ _ h=>h
theorem aO.trans{H2:Hp}(a:aO H H1)(b:aO H1 H2):aO H H2:=λc o h=>b c o (a c o h)
theorem aO.free(e:aO H H'){l:ae}(h:H' l=au):H l=au:=by
  cases q:H l with
  |none=>rfl
  |some o=>
    rw[e l o q] at h;cases h
end L2
set_option maxHeartbeats 4000000
variable {ifs:List Expr}{kvs:List (List L2.bW×L2.V)}{ks:List Int}
namespace L2
def RM(i j:Int):Prop:=0<j/\j<2 ^ 200
theorem IA:lM X (lf .FloorDiv) (rI RM λi j=>.int (i / j)):=QD λi j _ _ _ _ _ hc q=>by
  have p1:(0:Int)<j:=hc.1;have p2:j<2 ^ 200:=hc.2;have p3:j.natAbs<2 ^ 200:=⋯;have p4:j.natAbs.log2<200:=(log2_lt ⋯).mpr p3;refine floordiv_int ⋯ ?_ (.inl (Td ⋯));rw[Int.fdiv_eq_ediv_of_nonneg i ⋯];exact q
theorem HQ{x:bv}{n:Int}{pos:lv}(hm:∃t,X.mg x=aa (.int n t))(hg:Gl X x:=by rfl)(hd:(x==("__debug__" : bv))=ao:=by decide):PE X (.Name x pos) (tC (.int n)):=by
  obtain⟨t,h⟩:=hm;exact Dx hg h ⟨t,rfl⟩ hd
variable {t':Nat}{fp:List ae}{ob:HO}{h':dk}
theorem Inv.turnedL(I:Inv X pk σ H s)(hf:∀b∈fp,wR X pk H b)(k:∀b o,b ∉ fp->s.heap.get? b=aa o->h'.get? b=aa o):Inv X pk σ H { s with heap:=h',toks:=t' }:=by
  have nf:∀b u,H b=aa u->b ∉ fp:=λb u e z=>by have:=(hf b z).1;rw[e] at this;cases this
  refine I.step (g':=s.gens) (d':=s.drawn) (ch:=fp) (λb hb=>?_) (λb o _ _ hc e _=>k b o hc e) (λb o _ _ hc e _=>⟨o.slots,k b o hc e⟩) (λ_ _ _ _ n=>n) (λb o hc e=>⟨o,k b o hc e⟩) (λ_ _ e=>e) (λ_ _ _ e=>e)
    (λb ps e=>⟨#[],by rw[e];simp⟩) (λm hm=>?_) (λb u e=>?_) I.bare
  . obtain⟨_,f1,_,f3,f4,f5⟩:=hf b hb;exact⟨f3,f1,f4,f5⟩
  . obtain⟨o,es,ep,ho,r⟩:=hm;exact⟨o,es,ep,k _ o (λz=>(hf _ z).2.1 rfl) ho,r⟩
  . refine(I.hok b u e).stay (λc v hc q=>k c v ?_ q) (λ_ q=>q) (λ_ _ q=>q) λ_ _ q=>q;rcases hc with z | z
    . rw[z];exact nf b u e
    . exact nf c _ z
theorem Inv.turnedN{T:ae}(I:Inv X pk σ H s)(hf:∀b∈fp,wR X pk H b)(k:∀b o,b ∉ fp->s.heap.get? b=aa o->h'.get? b=aa o)(hT:s.heap.objs.size<=T)
    (new:cI X.prog X.w (upd H T ob) h' T ob):Inv X pk σ (upd H T ob) { s with heap:=h',toks:=t' }:=by
  have hn:H T=au:=I.hok.fresh hT;have nf:∀b u,H b=aa u->b ∉ fp:=λb u e z=>by have:=(hf b z).1;rw[e] at this;cases this
  have nT:∀b o,s.heap.get? b=aa o->b≠T:=λb o e=>gn (fg (bg e) hT);refine I.step (g':=s.gens) (d':=s.drawn) (ch:=fp) (λb hb=>?_) (λb o _ _ hc e _=>k b o hc e) (λb o _ _ hc e _=>⟨o.slots,k b o hc e⟩) (λb o _ e n=>by rw[bB (nT b o e)];exact n) (λb o hc e=>⟨o,k b o hc e⟩)
    (λb xs e=>by rw[bB (bL e hn)];exact e) (λb _ _ e=>by rw[bB (bL e hn)];exact e)
    (λb ps e=>⟨#[],by rw[bB (bL e hn),e];simp⟩) (λm hm=>?_) (λb u e=>?_) I.bare
  . obtain⟨_,f1,_,f3,f4,f5⟩:=hf b hb;exact⟨f3,f1,f4,f5⟩
  . obtain⟨o,es,ep,ho,r⟩:=hm;exact⟨o,es,ep,k _ o (λz=>(hf _ z).2.1 rfl) ho,r⟩
  . by_cases hb:b=T
    . subst hb;rw[bT] at e;cases e;exact new
    . rw[bB hb] at e;refine(I.hok b u e).stay (λc v hc q=>k c v ?_ q) (λc q=>by rw[bB (bL q hn)];exact q) (λc xs q=>by rw[bB (bL q hn)];exact q) λc xs q=>by rw[bB (bL q hn)];exact q
      rcases hc with z | z
      . rw[z];exact nf b u e
      . exact nf c _ z
def RS(K:ak)(a:ae):It:=
  ⟨λi H=>∃xs x,gJ K H a xs/\xs[i]?=aa x,λi H v H'=>∃T x,H T=au/\v=.ref T/\H'=upd H T (.tup [.int i,x]) /\ ∀xs,gJ K H a xs->xs[i]?=aa x,λi H=>∃xs,gJ K H a xs/\xs.length<=i⟩
variable {elts:List Expr}{x1:Nat}
theorem F1{pos:lv}(a e it:ae)(hne:e≠it):
    Turn P w K (.Tuple elts x1 pos) (RS K a) [e,it] e (λi h=>(∃old,IsEnum h e it (i:Nat) old)/\h.IsListIter it a i) where
  mem:=by simp
  obj:=λi h st b hb=>by
    obtain⟨⟨old,he⟩,o,ho,c,d⟩:=st;rcases dj.mp hb with rfl | hb
    . exact⟨_,he,λv z=>by cases z⟩
    . rw[eo.mp hb];exact⟨o,ho,λv z=>by rw[d] at z;cases z⟩
  keep:=λi h h' st k=>⟨let ⟨old,he⟩:=st.1;⟨old,k e (by simp) _ he⟩,st.2.at λo q=>k it (by simp) o q⟩
  item:=by
    intro X hP hw hK hc i pk s σ H E I hf st hg;subst hP hw hK;obtain⟨xs,x,hq,hx⟩:=hg;obtain⟨its,rv,p,hz⟩:=I.list hq;obtain⟨u,hu,ru⟩:=rv.get hx;obtain⟨⟨old,he⟩,hit⟩:=st;refine wpAny_pyNext_enum_item he hit p.isList (x:=u) (by simpa using hu) hne λh1 heo hit1 ht hsz hk=>⟨_,rfl,?_⟩;refine wpAny_letOwnedTupleGo_enum heo λh2 he2 hs2=>?_;have heL:e<s.heap.objs.size:=bg he;have hn:H s.heap.objs.size=au:=I.hok.fresh (br _);have k2:∀b o,b ∉ [e,it]->s.heap.get? b=aa o->h2.get? b=aa o:=λb o hb q=>by
      have b1:b≠e:=λz=>hb (by simp[z]);have b2:b≠it:=λz=>hb (by simp[z]);exact(hs2.2 b b1).trans (hk b o b1 b2 q)
    have tt:h2.get? s.heap.objs.size=aa { cls:=.type "tuple",data:=.seq #[.int i s.toks,u] }:=(hs2.2 _ (Um heL)).trans ht;refine⟨.ref s.heap.objs.size,_,I.turnedN (ob:=.tup [.int i,x]) (T:=s.heap.objs.size) (t':=s.toks+1) hf k2 (br _) ?_,rfl,⟨_,x,hn,rfl,rfl,λys hy=>by rw[I.list_inj hy hq];exact hx⟩,⟨⟨u,?_⟩,hit1.extBut hs2.extBut (Ne.symm hne)⟩,λb hb=>?_⟩
    . exact⟨(by decide:2<=bu),[.int i s.toks,u],.cons ⟨_,rfl⟩ (.cons ru .nil),_,tt,rfl,_,rfl⟩
    . have:((i+1:Nat):Int)=(i:Int)+1:=⋯;rw[this];exact he2
    . have hb1:=(hf b hb).1;rw[bB ?_]
      . exact hb1
      . rintro rfl;obtain⟨o,ho,_⟩:=id hit;rcases dj.mp hb with z | z
        . exact absurd heL (by rw[<- z];exact qh _)
        . have:=bg ho;rw[<- eo.mp z] at this;exact qh _ this
  done:=by
    intro X hP hw hK hc i pk s σ H E I hf st hg;subst hP hw hK;obtain⟨xs,hq,hx⟩:=hg;obtain⟨its,rv,p,hz⟩:=I.list hq;obtain⟨⟨old,he⟩,hit⟩:=st;have hl:=rv.length;exact JK I.qu he hit p.isList (by simp;right) λh1 eb=>⟨rfl,I.turnedL (t':=s.toks) hf λb o hb q=>eb b o (λz=>hb (by simp[z])) q⟩
  self:=λ_ _ _ _ _ st h=>by
    obtain⟨⟨old,he⟩,_⟩:=st;exact Vy he h
variable {tp:lv}{ta:TA}
def Qe(K:ak)(ta:TA):TI:=λσ H R=>ta σ H λvs H1=>∃a,vs=[.ref a]/\(∃xs,gJ K H1 a xs)/\R (RS K a) H1
theorem Kf{a:Expr}{pos:lv}(hg:Gl X "enumerate")(hm:X.mg "enumerate" = au)(ha:PA X [a] ta)(hs:aw [a] X.env=[(ao,gh a X.env)]:=by rfl):
    PI X (.Tuple elts x1 tp) (.Call (.Name "enumerate" p) [a] [] pos) (Qe X.K ta):=by
  intro pk s σ H R I h;refine Yb (nY I hg hm boot_enumerate (im (thn (ha pos pk s σ H _ I h) λus s1 ⟨vs,H1,I1,r1,q1⟩=>?_) hs rfl));obtain⟨l,e,⟨xs,hq⟩,q⟩:=q1;subst e;obtain⟨u,rfl,ru⟩:=kF r1;cases ru;obtain⟨its,rv,pl,hz⟩:=I1.list hq;refine call_enumerate_list pl.isList λh1 he hit hsz hk=>Vy he ?_;have I2:Inv X pk σ H1 { s1 with heap:=h1 }:=I1.kept (t':=s1.toks) hk;refine⟨s1.heap.objs.size+1,[s1.heap.objs.size+1,s1.heap.objs.size],_,_,H1,rfl,I2,F1 l _ _ (Nat.succ_ne_self _),⟨⟨_,he⟩,hit⟩,λb hb=>?_,q⟩;refine I1.fpOk ?_ (I1.hok.fresh ?_)
  all_goals
    rcases dj.mp hb with z | z
    . rw[z];exact zf _
    . rw[eo.mp z];exact br _
def Si(a b:ae):It:=
  ⟨λi H=>∃xs ys x y,H a=aa (.lst xs)/\H b=aa (.lst ys)/\xs[i]?=aa x/\ys[i]?=aa y,
   λi H v H'=>∃T x y,H T=au/\v=.ref T/\H'=upd H T (.tup [x,y])/\(∀xs,H a=aa (.lst xs)->xs[i]?=aa x) /\ ∀ys,H b=aa (.lst ys)->ys[i]?=aa y,
   λi H=>∃xs ys,H a=aa (.lst xs)/\H b=aa (.lst ys)/\(xs.length<=i \/ ys.length<=i)⟩
structure ZApart(z TI TO i1 i2:ae):Prop where
  a:TI≠z
  b:TO≠z
  c:i1≠z
  d:i2≠z
  e:TI≠TO
  f:TI≠i1
  g:TI≠i2
  h:TO≠i1
  i:TO≠i2
  j:i1≠i2
theorem GW{pos:lv}(a b z TI TO i1 i2:ae)(Z:ZApart z TI TO i1 i2):
    Turn P w K (.Tuple elts x1 pos) (Si a b) [z,TI,TO,i1,i2] z (λi h=>Y9 h z TI TO .none/\WD h TI (.ref i1) (.ref i2)/\(∃p q,WD h TO p q)/\h.IsListIter i1 a i/\h.IsListIter i2 b i) where
  mem:=by simp
  obj:=λi h st c hc=>by
    obtain⟨hz,hI,⟨p,q,hO⟩,⟨o1,h1,_,d1⟩,⟨o2,h2,_,d2⟩⟩:=st;simp only[dj,pf,or_false] at hc;rcases hc with rfl | rfl | rfl | rfl | rfl
    . exact⟨_,hz,λv y=>by cases y⟩
    . exact⟨_,hI,λv y=>by cases y⟩
    . exact⟨_,hO,λv y=>by cases y⟩
    . exact⟨_,h1,λv y=>by rw[d1] at y;cases y⟩
    . exact⟨_,h2,λv y=>by rw[d2] at y;cases y⟩
  keep:=λi h h' st k=>by
    obtain⟨hz,hI,⟨p,q,hO⟩,h1,h2⟩:=st;exact⟨k z (by simp) _ hz,k TI (by simp) _ hI,⟨p,q,k TO (by simp) _ hO⟩,h1.at λo y=>k i1 (by simp) o y,h2.at λo y=>k i2 (by simp) o y⟩
  item:=by
    intro X hP hw hK hc i pk s σ H E I hf st hg;subst hP hw hK;obtain⟨xs,ys,x,y,ha,hb,hx,hy⟩:=hg;obtain⟨its,rv,pl,hz1⟩:=I.list (gJ.of ha);obtain⟨its2,rv2,pl2,hz2⟩:=I.list (gJ.of hb);obtain⟨u,hu,ru⟩:=rv.get hx;obtain⟨u2,hu2,ru2⟩:=rv2.get hy;obtain⟨hz,hI,⟨p,q,hO⟩,h1,h2⟩:=st;have na:∀c∈[z,TI,TO,i1,i2],a≠c:=λc hc=>bL ha (hf c hc).1;have nb:∀c∈[z,TI,TO,i1,i2],b≠c:=λc hc=>bL hb (hf c hc).1;have D:XD z TI TO i1 i2 a b:=⟨Z.a,Z.b,Z.c,Z.d,Z.e,Z.f,Z.g,Z.h,Z.i,Z.j,na z (by simp),na TO (by simp),na i1 (by simp),na i2 (by simp),nb z (by simp),nb TO (by simp),nb i1 (by simp),nb i2 (by simp)⟩;refine wpAny_pyNext_zip_item D hz hI hO h1 h2 pl.isList pl2.isList (x:=u) (y:=u2) (by simpa using hu) (by simpa using hu2) λg a1 a2 a3 a4 a5 a6 hk=>⟨_,rfl,?_⟩;refine wpAny_letOwnedTupleGo_zip a1 λg2 hz2 hs2=>?_;have hn:H s.heap.objs.size=au:=I.hok.fresh (br _);have zL:z<s.heap.objs.size:=bg hz;have lt:∀{c:ae} {o:jv},s.heap.get? c=aa o->c≠s.heap.objs.size:=λe=>gn (bg e);have k2:∀c o,c ∉ [z,TI,TO,i1,i2]->s.heap.get? c=aa o->g2.get? c=aa o:=λc o hc e=>by
      simp only[dj,pf,or_false,not_or] at hc;exact(hs2.2 c hc.1).trans (hk c o hc.1 hc.2.2.1 hc.2.2.2.1 hc.2.2.2.2 e)
    have tt:g2.get? s.heap.objs.size=aa { cls:=.type "tuple",data:=.seq #[u,u2] }:=(hs2.2 _ (Um zL)).trans a5;refine⟨.ref s.heap.objs.size,_,I.turnedN (ob:=.tup [x,y]) (T:=s.heap.objs.size) (t':=s.toks) hf k2 (br _) ?_,rfl,
      ⟨_,x,y,hn,rfl,rfl,λzs hzs=>by rw[ha] at hzs;cases hzs;exact hx,λzs hzs=>by rw[hb] at hzs;cases hzs;exact hy⟩,
      ⟨hz2,hs2.extBut _ _ Z.a (hk _ _ Z.a Z.e Z.f Z.g hI),⟨_,_,hs2.extBut _ _ Z.b a2⟩,a3.extBut hs2.extBut Z.c,a4.extBut hs2.extBut Z.d⟩,λc hc=>?_⟩
    . exact⟨(by decide:2<=bu),[u,u2],.cons ru (.cons ru2 .nil),_,tt,rfl,_,rfl⟩
    . have hc1:=(hf c hc).1;have:c≠s.heap.objs.size:=by
        simp only[dj,pf,or_false] at hc;rcases hc with rfl | rfl | rfl | rfl | rfl
        . exact lt hz
        . exact lt hI
        . exact lt hO
        . obtain⟨o,e,_⟩:=h1;exact lt e
        . obtain⟨o,e,_⟩:=h2;exact lt e
      rw[bB this];exact hc1
  done:=by
    intro X hP hw hK hc i pk s σ H E I hf st hg;subst hP hw hK;obtain⟨xs,ys,ha,hb,hor⟩:=hg;obtain⟨its,rv,pl,hz1⟩:=I.list (gJ.of ha);obtain⟨its2,rv2,pl2,hz2⟩:=I.list (gJ.of hb);obtain⟨hz,hI,⟨p,q,hO⟩,h1,h2⟩:=st;have na:∀c∈[z,TI,TO,i1,i2],a≠c:=λc hc=>bL ha (hf c hc).1;have nb:∀c∈[z,TI,TO,i1,i2],b≠c:=λc hc=>bL hb (hf c hc).1;have D:XD z TI TO i1 i2 a b:=⟨Z.a,Z.b,Z.c,Z.d,Z.e,Z.f,Z.g,Z.h,Z.i,Z.j,na z (by simp),na TO (by simp),na i1 (by simp),na i2 (by simp),nb z (by simp),nb TO (by simp),nb i1 (by simp),nb i2 (by simp)⟩;have l1:=rv.length;have l2:=rv2.length;refine Ld I.qu D hz hI hO h1 h2 pl.isList pl2.isList ?_ λg hk=>⟨rfl,I.turnedL (t':=s.toks) hf λc o hc e=>?_⟩
    . rcases hor with h | h
      . exact .inl (by simp;right)
      . exact .inr (by simp;right)
    . simp only[dj,pf,or_false,not_or] at hc;exact hk c o hc.1 hc.2.2.1 hc.2.2.2.1 hc.2.2.2.2 e
  self:=λ_ _ _ _ _ st h=>VX st.1 h
theorem zapart(n:Nat):ZApart (n+4) (n+2) (n+3) n (n+1):=
  ⟨λe=>by have e':(n+2:Nat)=n+4:=e;right,λe=>by have e':(n+3:Nat)=n+4:=e;right,λe=>by have e':(n:Nat)=n+4:=e;right,λe=>by have e':(n+1:Nat)=n+4:=e;right,
   λe=>by have e':(n+2:Nat)=n+3:=e;right,λe=>by have e':(n+2:Nat)=n:=e;right,λe=>by have e':(n+2:Nat)=n+1:=e;right,λe=>by have e':(n+3:Nat)=n:=e;right,
   λe=>by have e':(n+3:Nat)=n+1:=e;right,λe=>by have e':(n:Nat)=n+1:=e;right⟩
def SM(ta:TA):TI:=λσ H R=>ta σ H λvs H1=>∃a b,vs=[.ref a,.ref b]/\(∃xs,H1 a=aa (.lst xs))/\(∃ys,H1 b=aa (.lst ys))/\R (Si a b) H1
theorem NR{a b:Expr}{pos:lv}(hg:Gl X "zip")(hm:X.mg "zip" = au)(ha:PA X [a,b] ta)
    (hs:aw [a,b] X.env=[(ao,gh a X.env),(ao,gh b X.env)]:=by rfl) (hs2:aw [b] X.env=[(ao,gh b X.env)]:=by rfl):
    PI X (.Tuple elts x1 tp) (.Call (.Name "zip" p) [a,b] [] pos) (SM ta):=by
  intro pk s σ H R I h;refine Yb (nY I hg hm boot_zip (im (thn (ha pos pk s σ H _ I h) λus s1 ⟨vs,H1,I1,r1,q1⟩=>?_) (by rw[hs,hs2]) (by rw[hs2];rfl)));obtain⟨l,l2,e,⟨xs,hl⟩,⟨ys,hl2⟩,q⟩:=q1;subst e;obtain⟨u,u2,rfl,ru,ru2⟩:=Ah r1;cases ru;cases ru2;obtain⟨its,rv,pl,hz⟩:=I1.list (gJ.of hl);obtain⟨its2,rv2,pl2,hz2⟩:=I1.list (gJ.of hl2);refine call_zip_2 pl.isList pl2.isList λh1 hz hI hO i1 i2 hsz hk=>VX hz ?_;have I2:Inv X pk σ H1 { s1 with heap:=h1 }:=I1.kept (t':=s1.toks) hk;refine⟨s1.heap.objs.size+4,[s1.heap.objs.size+4,s1.heap.objs.size+2,s1.heap.objs.size+3,s1.heap.objs.size,s1.heap.objs.size+1],_,_,H1,rfl,I2,
    GW l l2 _ _ _ _ _ (zapart s1.heap.objs.size),⟨hz,hI,⟨_,_,hO⟩,i1,i2⟩,λb hb=>?_,q⟩
  have hle:s1.heap.objs.size<=b:=by
    simp only[dj,pf,or_false] at hb;rcases hb with rfl | rfl | rfl | rfl | rfl
    . exact U0 _ _
    . exact U0 _ _
    . exact U0 _ _
    . exact br _
    . exact U0 _ _
  exact I1.fpOk hle (I1.hok.fresh hle)
def Rq(K:ak):List V->Hp->VK->Prop:=λxs H Q=>∃x T t b,xs=[x,.ty T]/\TyOf K H x t/\rh K t (.type T)=aa b/\Q (.bl b) H
theorem JX:fM X (.builtin "isinstance") (Rq X.K):=by
  intro pk s σ H xs us Q I r h;obtain⟨x,T,t,b,rfl,ty,k,q⟩:=h;obtain⟨u,u2,rfl,ru,ru2⟩:=Ah r;cases ru2;exact Fy I ru ty k λtk=>⟨.bl b,H,I.tok tk,rfl,q⟩
theorem uW:∀{bs:List Bool} {us:List af},bV (bs.map V.bl) us->LSm.BoolsAre us bs
  | [],_,.nil=>.nil
  |_::_,_,.cons r t=>by cases r;exact .cons _ (uW t)
theorem uV:∀{ns:List Int} {us:List af},bV (ns.map V.int) us->uu us ns
  | [],_,.nil=>.nil
  |_::_,_,.cons r t=>by obtain⟨t',rfl⟩:=r;exact .cons _ _ (uV t)
def Rv(K:ak):List V->Hp->VK->Prop:=λxs H Q=>∃(a:ae) (bs:List Bool),xs=[.ref a]/\gJ K H a (bs.map V.bl)/\Q (.bl (bs.all id)) H
theorem GO(hc:X.calm=ai):fM X (.builtin "all") (Rv X.K):=by
  intro pk s σ H xs us Q I r h;obtain⟨a,bs,rfl,hq,q⟩:=h;obtain⟨u,rfl,ru⟩:=kF r;cases ru;obtain⟨its,rv,pl,hz⟩:=I.list hq;have ba:=uW rv;have lt:a<s.heap.objs.size:=by obtain⟨_,e,_⟩:=pl.isList;exact bg e
  refine call_all_walk (Vz pl.isList ⟨s.heap.objs.size,[s.heap.objs.size,a],[s.heap.objs.size],its.toArray.size,_,_,λi=>(bs[i]?).getD ai,rfl,
    Walks.list (A:=X.A.in1) (I.ok.hd hc) _ a (gn lt) its.toArray,⟨⟨_,cj _ rfl,rfl,rfl⟩,pl.isList.push _⟩,λi v s' Q' E' hP hQ=>?_,λh' tk hk=>?_⟩)
  . obtain⟨b,e,rfl⟩:=ba.get i v (by simpa using hP);have hQ':Q' ((bs[i]?).getD ai) s':=hQ;rw[e] at hQ';exact ik hQ'
  . have e:((gx its.toArray.size).all λi=>(bs[i]?).getD ai)=bs.all id:=by
      have:=LSm.range_all bs;rw[<- ba.length] at this;simpa using this
    rw[e];exact⟨.bl _,H,I.kept (LSm.kept_iter hk),rfl,q⟩
def Rk(K:ak):List V->Hp->VK->Prop:=λxs H Q=>∃(a:ae) (ns:List Int),xs=[.ref a]/\gJ K H a (ns.map V.int)/\Q (.int ns.sum) H
theorem GI(hc:X.N=X.N):fM X (.builtin "sum") (Rk X.K):=by
  intro pk s σ H xs us Q I r h;obtain⟨a,ns,rfl,hq,q⟩:=h;obtain⟨u,rfl,ru⟩:=kF r;cases ru;obtain⟨its,rv,pl,hz⟩:=I.list hq;have ia:=uV rv;obtain⟨ys,hy⟩:=ia.allInts.items;have e1:=nums_intItems ys;rw[<- hy,show numsOf its.toArray.toList=ns from ia.numsOf] at e1;refine PJ I.qu (hy ▸ pl.isList) λh' tk t' hk=>⟨.int ns.sum,H,I.kept hk,⟨t',?_⟩,q⟩;rw[preSum_eq,e1,ph (by simp)]
def pick(js:List Nat)(σ:St):St:=js.map λj=>(σ[j]?).join
def qU(X:Cx)(Yi:Scope)(cl:List (bv×ae))(fp:List ae)(N:List bv)(s:ah)(H:Hp):Cx where
  prog:=X.prog
  w:=X.w
  K:=X.K
  mg:=X.mg
  base:=X.base
  A:=X.A
  N:=N
  s₀:=s
  HZ:=H
  env:=compEnvC Yi cl s.heap.objs.size X.env
  outer:=X.stack
  stack:=X.stack
  ex:=fp
  fn:=λ_=>ao
  calm:=X.calm
  pn:=[]
  xe:=λ_ _=>False
  hs:=X.hs
def Oh(X:Cx)(ifs:List Expr)(t:TT):Prop:=
  ∀(pk:List (ae×jv)) (s:ah) (σ:St) (H:Hp) (Q:Bool->Hp->Prop),Inv X pk σ H s->t σ H Q ->
    bt (bz X.prog X.w) X.A (Yc ifs ai λc r=>if r=ai then do let ok <- isTrue c X.env (gh c X.env);jw (ri ok) else jw (ri r)) (TP X pk σ Q) X.xe s
theorem KW:Oh X [] (λ_ H Q=>Q ai H):=λpk s σ H Q I h=>wpAny_tests_nil ⟨H,I,h⟩
theorem KU{c:Expr}{t:TT}(h:PT X c t):Oh X [c] t:=λpk s σ H Q I q=>wpAny_tests_one (h pk s σ H Q I q)
def z8(wi:TI)(k:Nat)(js:List Nat)(g:TG)(tt:TT)(te:TE):TE:=λσ H Q=>wi σ H λJ H1=>∀D,H1 D=au -> ∃W:Nat->Nat->List V->Hp->Prop,(∃m,W 0 m [] (upd H1 D (.lst []))) /\ ∀i m acc H2,W i m acc H2->H2 D=aa (.lst acc) ->
  (J.stop i H2/\Q (.ref D) H2) \/ (J.go i H2 /\ ∀y H3,J.yld i H2 y H3 -> ∀old:St,old.length=k->g y (old++pick js σ) H3 λσ4 H4=>(∃new:St,new.length=k/\σ4=new++pick js σ)/\tt σ4 H4 λb H5=>
    if b=ai then te σ4 H5 λv H6=>H6 D=aa (.lst acc)/\acc.length<bu /\ ∃m',m'<m/\W (i+1) m' (acc++[v]) (upd H6 D (.lst (acc++[v])))
    else H5 D=aa (.lst acc) /\ ∃m',m'<m/\W (i+1) m' acc H5)
variable {elt tgt iter:Expr}
theorem xF{R:Xl->ah->Prop}{pos:lv}{it acc:af}{env:zd}(J:Nat->ah->Prop)
    (turn:∀n s,J n s->bt (bz prog w) A (sy it) (λr s1=>match r with
      |none=>R (.ok .next) s1
      |some v=>bt (bz prog w) A (wv tgt it v) (λ_ s2=>bt (bz prog w) A (WG tgt env v) (λ_ s3=>
          bt (bz prog w) A (Yc ifs ai λc r=>if r=ai then do let ok <- isTrue c env (gh c env);jw (ri ok) else jw (ri r)) (λb s3'=>
          if b=ai then bt (bz prog w) A (gh elt env) (λy s4=>bt (bz prog w) A (call (.builtin "list.append") [acc,y]) (λ_ s5=>∃m,m<n/\J m s5) (λ_ _=>False) s4) (λ_ _=>False) s3'
          else ∃m,m<n/\J m s3') (λ_ _=>False) s3) (λ_ _=>False) s2) (λ_ _=>False) s1) (λ_ _=>False) s)
    (n:Nat) (h:J n s):zi (bz prog w) A (.compLoop (.ListComp elt [⟨tgt,iter,ifs,0⟩] Yi pos) 0 it acc env) R s:=by
  refine codeAny_loop rfl J (λn' s' hJ=>?_) n h;show bt _ _ ((compTurn (.ListComp elt [⟨tgt,iter,ifs,0⟩] Yi pos) 0 it acc env).onRaise (λz=>do Tn z env;theTreesLotGoes z)) _ _ s';refine wpAny_noted ?_;rw[compTurn_list];have nope:∀{α:Type} {t:Wm α} {Q:α->ah->Prop} {E:af->ah->Prop} {q:ah},bt (bz prog w) A t Q (λ_ _=>False) q->bt (bz prog w) A t Q E q:=λh=>gr h (λ_ _ z=>z) λ_ _ z=>z.elim;refine ad (wpAny_standAt (ad (gr (nope (turn n' s' hJ)) (λr s1 h1=>?_) λ_ _ z=>z)));cases r with
  |none=>exact aj h1
  |some v=>
    refine ad (gr (nope h1) (λ_ s2 h2=>?_) λ_ _ z=>z);refine ad (gr (nope h2) (λ_ s3 h3=>?_) λ_ _ z=>z);refine ad (gr (nope h3) (λb s4 h4=>?_) λ_ _ z=>z);cases b with
    |true=>
      have h4':=(show bt _ _ _ _ _ s4 by simpa using h4);simp only[if_true];refine ad (ad (gr (nope h4') (λy s5 h5=>?_) λ_ _ z=>z));refine ad (gr (nope h5) (λ_ s6 h6=>?_) λ_ _ z=>z);exact aj (aj ⟨rfl,h6⟩)
    |false=>
      have h4':∃m,m<n'/\J m s4:=by simpa using h4
      simp only[dq,if_false];exact ad (aj (aj ⟨rfl,h4'⟩))
variable {js:List Nat}{v:V}{cl:List (bv×ae)}{tgs ns:List bv}{wi:TI}{tt:TT}{te:TE}
theorem HL(h:(pick js σ)[i]?=aa (aa v)):∃j,js[i]?=aa j/\σ[j]?=aa (aa v):=by
  unfold pick at h;rw[dg] at h;cases e:js[i]? with
  |none=>rw[e] at h;cases h
  |some j=>
    rw[e] at h;have h':(σ[j]?).join=aa v:=Option.some.inj h;refine⟨j,rfl,?_⟩;cases q:σ[j]? with
    |none=>rw[q] at h';cases h'
    |some o=>rw[q] at h';exact congrArg aa h'
theorem yK{pos:lv}{g:TG}(hc:X.N=X.N)
    (hi:PI X tgt iter wi) (hg:∀(fp:List ae) (s:ah) (H:Hp),PG (qU X Yi cl fp (tgs++ns) s H) tgt g) (ht:∀(fp:List ae) (s:ah) (H:Hp),Oh (qU X Yi cl fp (tgs++ns) s H) ifs tt)
    (he:∀(fp:List ae) (s:ah) (H:Hp),PE (qU X Yi cl fp (tgs++ns) s H) elt te)
    (YA:wj Yi X.env=jw cl) (Yx:∀x c,cl.lookup x=aa c->X.env.cells.lookup x=aa c)
    (YH:∀x,((iz Yi X.env).names.lookup x=aa .cell \/ (iz Yi X.env).names.lookup x=aa .free) -> ∃c,cl.lookup x=aa c)
    (hjs:js.map (λj=>X.N[j]?)=ns.map aa) (hin:∀y∈ns,(iz Yi X.env).names.lookup y=aa .cell \/ (iz Yi X.env).names.lookup y=aa .free)
    (YB:∀y∈ns,X.env.kindOf y=aa .cell \/ X.env.kindOf y=aa .free)
    (Yo:∀y∈Yi.names,y.2 ≠ .cell:=by decide +kernel) (Ys:Yi.kind=.function:=by rfl)
    (Yr:∀y∈Yi.names,y.2=.local->Yi.names.lookup y.1=aa .local:=by decide +kernel)
    (hs:∀z,io iter X.env z=jw z:=by intro _;rfl):
    ∀(pos0:lv) (pk:List (ae×jv)) (s:ah) (σ:St) (H:Hp) (Q:VK) (I:Inv X pk σ H s) (h:z8 wi tgs.length js g tt te σ H Q) (use:Option (af->Wm Unit)) (R:af->ah->Prop)
      (hfin:∀(D C:ae) (H':Hp) (s':ah),Q (.ref D) H'->wR X pk H' C->(∃m,s'.heap.Ns C m)->(∀h',oz C s'.heap h'->Inv X pk σ H' { s' with heap:=h' })->XR (bz X.prog X.w) X.A X.xe use R (.ref D) C (.ok .next) s'),
      bt (bz X.prog X.w) X.A (comprehension (.ListComp elt [⟨tgt,iter,ifs,0⟩] Yi pos) Yi X.env pos0 (newList []) ao (gh iter X.env) use) R X.xe s:=by
  intro pos0 pk s σ H Q I h use R hfin;refine wpAny_comprehension_free (use:=use) rfl hs YA Ys Yr (thn (hi pk s σ H _ I h) λv s1 h1=>thn h1 λitv s2 h2=>?_);obtain⟨it,fp,tn,J,H2,rfl,I2,T,st2,f2,Yv⟩:=h2;have hD:H2 s2.heap.objs.size=au:=I2.hok.fresh (br _);obtain⟨W,⟨m0,w0⟩,step⟩:=Yv _ hD;refine ig (wpAny_newFunctionEnv Yo (by intro y hy;simp at hy) (λg1 hns hsb=>?_) Ys) (by size_fits);dsimp only at hns hsb ⊢;have I3:Inv X pk σ (upd H2 s2.heap.objs.size (.lst [])) { s2 with heap:=s2.heap.push { cls:=.type "list",dict:=au,data:=.seq ([]:List af).toArray } }:=I2.lnew (t':=s2.toks) .nil (by simp);generalize hD':s2.heap.objs.size=D at *;generalize hH3:upd H2 D (.lst [])=H3 at *;generalize hS3:s2.heap.push { cls:=.type "list",dict:=au,data:=.seq ([]:List af).toArray }=g3 at *;have zs:g3.objs.size=D+1:=by rw[<- hS3,vi,hD']
  have f3:∀b∈fp,wR X pk H3 b:=λb hb=>by
    obtain⟨o,ho,_⟩:=T.obj _ _ st2 b hb;have lt:=bg ho;refine⟨?_,(f2 b hb).2⟩;rw[<- hH3,bB (gn (hD' ▸ lt))];exact(f2 b hb).1
  have ltf:∀b∈fp,b<g3.objs.size:=λb hb=>by
    obtain⟨o,ho,_⟩:=T.obj _ _ st2 b hb;rw[zs];exact VA (hD' ▸ bg ho)
  have kept:∀b o,g3.get? b=aa o->g1.get? b=aa o:=λb o e=>hsb.extBut b o (gn (bg e)) (ap _ e);have cne:∀x c,cl.lookup x=aa c->c≠g3.objs.size:=λx c e=>by
    obtain⟨v,q⟩:=I3.cell x c (Yx x c e);exact gn q.lt
  have ok:(qU X Yi cl fp (tgs++ns) { s2 with heap:=g3 } H3).Ok:=by
    refine⟨I.ok.mod,Ys,I.ok.glob,I.ok.blt,br _,λy z c e1 e2=>I.ok.inj y z c (Yx y c e1) (Yx z c e2),λy hy=>YH y hy,λy c e=>(nomatch e),I.ok.hd,I.ok.frames,.inl rfl,
      λb hb=>⟨gn (ltf b hb),λy c e=>(f3 b hb).2.2.2.2.1 y c (Yx y c e)⟩,I3.bs,ly I.ok.bsz I3.sz,λb o e hb=>?_,λb hb=>?_,I3.stack,I3.stkFree,I.ok.hq⟩
    . rcases(f3 b hb).2.2.2.1 with q | q
      . exact I.ok.noex b o e q
      . exact absurd (fg (bg (I.ok.bs b o e).1) q) (qh _)
    . intro z;rcases dj.mp (I3.stkSub b z) with q | q
      . exact(f3 b hb).2.1 q
      . exact(f3 b hb).2.2.1 q
  have cells1:∀x c,cl.lookup x=aa c -> ∃v,g1.IsCell c v:=λx c e=>by
    obtain⟨v,o,ho,hd⟩:=I3.cell x c (Yx x c e);exact⟨v,o,kept _ _ ho,hd⟩
  have J4:Inv (qU X Yi cl fp (tgs++ns) { s2 with heap:=g3 } H3) [] (ay tgs.length au++pick js σ) H3 { s2 with heap:=g1,toks:=s2.toks+([]:List (bv×af)).length }:=by
    refine⟨ok,rfl,I3.bare,Un.kept kept,⟨_,hns,λi y v e1 e2 e3=>?_⟩,λy c e=>cells1 y c e,I3.hok.fresh (br _),λy c e=>I3.freeC y c (Yx y c e),λp hp=>absurd (show p∈([]:List (ae×jv)) from hp) (by simp),I3.hok.kept kept,?_,I3.mild⟩
    . have hi2:tgs.length<=i:=by
        by_cases hlt:i<tgs.length
        . rw[bh (by simpa using hlt),jr,Yh hlt] at e2;cases e2
        . right
      rw[bo (by simpa using hi2),ni] at e2;have e1':(tgs++ns)[i]?=aa y:=e1;rw[bo hi2] at e1';obtain⟨j,hj,hσ⟩:=HL e2;have hNj:X.N[j]?=aa y:=by
        have:=congrArg (λl=>l[i-tgs.length]?) hjs;simp only[dg,hj,e1',XU] at this;exact Option.some.inj this
      have ym:y∈ns:=fe e1';obtain⟨m,hm,hl⟩:=I3.loc;have vis:R4 X.env.scope y:=by
        rcases YB y ym with q | q
        . exact .inr (.inl q)
        . exact .inr (.inr q)
      obtain⟨u,ru,lk⟩:=hl j y v hNj hσ vis;refine⟨u,ru,?_⟩;rcases lk with⟨q,_⟩ | ⟨_,c,hc1,hc2⟩
      . rcases YB y ym with z | z
        . rw[z] at q;cases q
        . rw[z] at q;cases q
      . obtain⟨c',hc'⟩:=YH y (hin y ym);have:=Yx y c' hc';rw[hc1] at this;cases this;obtain⟨o,ho,hd⟩:=hc2;exact .inr ⟨hin y ym,c,hc',o,kept _ _ ho,hd⟩
    . show _=(tgs++ns).length;have:=congrArg List.length hjs;simp only[bf] at this;simp[pick,this]
  have st4:tn 0 g1:=T.keep 0 _ _ st2 λb hb o e=>kept b o (by rw[<- hS3];exact ap _ e);have fin:∀(H':Hp) (σ':St) (s':ah),Inv (qU X Yi cl fp (tgs++ns) { s2 with heap:=g3 } H3) [] σ' H' s'->Q (.ref D) H'->XR (bz X.prog X.w) X.A X.xe use R (.ref D) g3.objs.size (.ok .next) s':=by
    intro H' σ' s' K q;obtain⟨m,hm,_⟩:=K.loc;refine hfin D g3.objs.size H' s' q (I3.fpOk (br _) K.free) ⟨m,hm⟩ λh' hsb'=>?_;have ne:∀b o,g3.get? b=aa o->b≠g3.objs.size:=λb o e=>gn (bg e);have B:Un (frs X.stack) fp H3 H' g3 s'.heap:=K.base;refine I3.call' (s':={ s' with heap:=h' }) (ch:=fp) K.os ⟨λb o e n hb hx=>(hsb'.2 b (ne b o e)).trans (B.keep b o e n hb hx),λb o e n hb hx=>?_,B.free,λb o e hx=>?_,B.tups,B.frzs,B.tbls⟩ (λb u e=>?_) K.bare (λb hb=>?_)
    . obtain⟨sl,e1⟩:=B.slot b o e n hb hx;exact⟨sl,(hsb'.2 b (ne b o e)).trans e1⟩
    . obtain⟨o',e1⟩:=B.there b o e hx;exact⟨o',(hsb'.2 b (ne b o e)).trans e1⟩
    . have nC:∀c v,H' c=aa v->c≠g3.objs.size:=λc v e z=>by
        have:H' g3.objs.size=au:=K.free;rw[z,this] at e;cases e
      refine(K.hok b u e).stay (λc v hc q=>(hsb'.2 c ?_).trans q) (λ_ q=>q) (λ_ _ q=>q) λ_ _ q=>q;rcases hc with z | z
      . rw[z];exact nC b u e
      . exact nC c _ z
    . obtain⟨_,q1,_,q3,q4,q5⟩:=f3 b hb;exact⟨q3,q1,q4,q5⟩
  have loop:zi (bz X.prog X.w) X.A (.compLoop (.ListComp elt [⟨tgt,iter,ifs,0⟩] Yi pos) 0 (.ref it) (.ref D) (compEnvC Yi cl g3.objs.size X.env))
      (XR (bz X.prog X.w) X.A X.xe use R (.ref D) g3.objs.size) { s2 with heap:=g1,toks:=s2.toks+([]:List (bv×af)).length }:=by
    refine xF (λn s'=>∃i acc old H',Inv (qU X Yi cl fp (tgs++ns) { s2 with heap:=g3 } H3) [] (old++pick js σ) H' s'/\old.length=tgs.length/\tn i s'.heap/\(∀b∈fp,H' b=au)/\H' D=aa (.lst acc)/\W i n acc H') ?_ m0
      ⟨0,[],ay tgs.length au,H3,J4,by simp,st4,λb hb=>(f3 b hb).1,by rw[<- hH3];exact bT,w0⟩
    rintro n s' ⟨i,acc,old,H',K,lo,st,fr,hDl,w⟩;have fpk:∀{H'':Hp},(∀b∈fp,H'' b=au) -> ∀b∈fp,wR (qU X Yi cl fp (tgs++ns) { s2 with heap:=g3 } H3) [] H'' b:=λhn b hb=>
      ⟨hn b hb,gn (ltf b hb),λz=>ok.exfs b hb z,.inl hb,λy c e=>(f3 b hb).2.2.2.2.1 y c (Yx y c e),λp hp=>absurd (show p∈([]:List (ae×jv)) from hp) (by simp)⟩
    rcases step i n acc H' w hDl with⟨stop,q⟩ | ⟨go,next⟩
    . refine thn (T.done (qU X Yi cl fp (tgs++ns) { s2 with heap:=g3 } H3) rfl rfl rfl rfl i [] s' _ H' _ K (fpk fr) st stop) λr s1 ⟨hr,K1⟩=>?_;subst hr;exact fin H' _ s1 K1 q
    . refine thn (T.item (qU X Yi cl fp (tgs++ns) { s2 with heap:=g3 } H3) rfl rfl rfl rfl i [] s' _ H' _ K (fpk fr) st go) λr s1 ⟨u,hr,h4⟩=>?_;subst hr;refine thn h4 λ_ s5 ⟨y,H5,K5,r5,y5,st5,fr5⟩=>?_;have K5':=K5.pinned (fpk fr5) (T.obj _ _ st5);refine thn (hg fp { s2 with heap:=g3 } H3 _ s5 _ H5 y u _ K5' r5 (next y H5 y5 old lo)) λ_ s6 ⟨σ6,H6,K6,⟨new,hnew,e6⟩,q6⟩=>?_;subst e6;refine thn (ht fp { s2 with heap:=g3 } H3 _ s6 _ H6 _ K6 q6) λb s6' ⟨H6',K6',q6'⟩=>?_;have XM:∀{s8:ah} {H8:Hp} {Yn:List V} {m':Nat},Inv (qU X Yi cl fp (tgs++ns) { s2 with heap:=g3 } H3) ([]++vL fp s5.heap) (new++pick js σ) H8 s8->H8 D=aa (.lst Yn)->m'<n->W (i+1) m' Yn H8 ->
          ∃m,m<n /\ ∃i acc old H',Inv (qU X Yi cl fp (tgs++ns) { s2 with heap:=g3 } H3) [] (old++pick js σ) H' s8/\old.length=tgs.length/\tn i s8.heap/\(∀b∈fp,H' b=au)/\H' D=aa (.lst acc)/\W i m acc H':=by
        intro s8 H8 Yn m' K8 h8 hm' w8;refine⟨m',hm',i+1,Yn,new,H8,K8.unpinned,hnew,T.keep _ _ _ st5 λb hb o e=>(K8.pin (b,o) (eg _ (eg _ (mL hb e)))).1,λb hb=>?_,h8,w8⟩;obtain⟨o,e,d⟩:=T.obj _ _ st5 b hb;exact(K8.pin (b,o) (eg _ (eg _ (mL hb e)))).2.1
      cases b with
      |true=>
        refine u9 ?_;rw[Yh rfl] at q6';refine thn (he fp { s2 with heap:=g3 } H3 _ s6' _ H6' _ K6' q6') λvv s7 ⟨v,H7,K7,r7,hD7,hlen,m',hm',w7⟩=>?_;refine thn (y7 (X:=qU X Yi cl fp (tgs++ns) { s2 with heap:=g3 } H3) _ s7 _ H7 (.ref D) [v] (.ref D) [vv] (λ_ H8=>H8=upd H7 D (.lst (acc++[v]))) K7 rfl (.cons r7 .nil) ⟨D,acc,v,rfl,rfl,hD7,hlen,rfl⟩) λ_ s8 ⟨_,H8,K8,_,e8⟩=>?_;subst e8;exact XM K8 bT hm' w7
      |false=>
        refine uA ?_;have q6f:H6' D=aa (.lst acc) /\ ∃m',m'<n/\W (i+1) m' acc H6':=by simpa using q6'
        obtain⟨hD7,m',hm',w7⟩:=q6f;exact XM K6' hD7 hm' w7
  exact codeAny_compStart_list loop (T.self _ 0 _ _ _ st4 loop)
theorem HU{pos:lv}{g:TG}(hc:X.N=X.N)
    (hi:PI X tgt iter wi) (hg:∀(fp:List ae) (s:ah) (H:Hp),PG (qU X Yi cl fp (tgs++ns) s H) tgt g) (ht:∀(fp:List ae) (s:ah) (H:Hp),Oh (qU X Yi cl fp (tgs++ns) s H) ifs tt)
    (he:∀(fp:List ae) (s:ah) (H:Hp),PE (qU X Yi cl fp (tgs++ns) s H) elt te)
    (YA:wj Yi X.env=jw cl) (Yx:∀x c,cl.lookup x=aa c->X.env.cells.lookup x=aa c)
    (YH:∀x,((iz Yi X.env).names.lookup x=aa .cell \/ (iz Yi X.env).names.lookup x=aa .free) -> ∃c,cl.lookup x=aa c)
    (hjs:js.map (λj=>X.N[j]?)=ns.map aa) (hin:∀y∈ns,(iz Yi X.env).names.lookup y=aa .cell \/ (iz Yi X.env).names.lookup y=aa .free)
    (YB:∀y∈ns,X.env.kindOf y=aa .cell \/ X.env.kindOf y=aa .free)
    (Yo:∀y∈Yi.names,y.2 ≠ .cell:=by decide +kernel) (Ys:Yi.kind=.function:=by rfl)
    (Yr:∀y∈Yi.names,y.2=.local->Yi.names.lookup y.1=aa .local:=by decide +kernel)
    (hs:∀z,io iter X.env z=jw z:=by intro _;rfl):
    PE X (.ListComp elt [⟨tgt,iter,ifs,0⟩] Yi pos) (z8 wi tgs.length js g tt te):=by
  intro pk s σ H Q I h;rw[eval_ListComp];refine yK hc hi hg ht he YA Yx YH hjs hin YB Yo Ys Yr hs _ pk s σ H Q I h au _ ?_;intro D C H' s' q fp hm inv;obtain⟨m,hm⟩:=hm;exact⟨m,hm,λh' hs'=>⟨.ref D,H',inv h' hs',rfl,q⟩⟩
theorem HI{y:bv}{py spos:lv}{iy:Nat}{pos:lv}{g:TG}(hN:X.N.Nodup)(hi2:X.N[iy]?=aa y)(hx2:GS X.env.scope y)(hc:X.N=X.N)
    (hi:PI X tgt iter wi) (hg:∀(fp:List ae) (s:ah) (H:Hp),PG (qU X Yi cl fp (tgs++ns) s H) tgt g) (ht:∀(fp:List ae) (s:ah) (H:Hp),Oh (qU X Yi cl fp (tgs++ns) s H) ifs tt)
    (he:∀(fp:List ae) (s:ah) (H:Hp),PE (qU X Yi cl fp (tgs++ns) s H) elt te)
    (YA:wj Yi X.env=jw cl) (Yx:∀x c,cl.lookup x=aa c->X.env.cells.lookup x=aa c)
    (YH:∀x,((iz Yi X.env).names.lookup x=aa .cell \/ (iz Yi X.env).names.lookup x=aa .free) -> ∃c,cl.lookup x=aa c)
    (hjs:js.map (λj=>X.N[j]?)=ns.map aa) (hin:∀y∈ns,(iz Yi X.env).names.lookup y=aa .cell \/ (iz Yi X.env).names.lookup y=aa .free)
    (YB:∀y∈ns,X.env.kindOf y=aa .cell \/ X.env.kindOf y=aa .free)
    (Yo:∀y∈Yi.names,y.2 ≠ .cell:=by decide +kernel) (Ys:Yi.kind=.function:=by rfl)
    (Yr:∀y∈Yi.names,y.2=.local->Yi.names.lookup y.1=aa .local:=by decide +kernel)
    (hs:∀z,io iter X.env z=jw z:=by intro _;rfl)
    (hsw:iu (.ListComp elt [⟨tgt,iter,ifs,0⟩] Yi pos) (aa (.Name y py)) spos.line X.env=jw ai:=by rfl) (hf:X.fn y=ai \/ X.env.scope.names.lookup y=aa .local:=by first | exact .inl rfl | exact .inr rfl | assumption):
    PS X (.Assign [.Name y py] (.ListComp elt [⟨tgt,iter,ifs,0⟩] Yi pos) spos) (N2 (z8 wi tgs.length js g tt te) (C2 iy)):=by
  intro pk s σ H D I h;rw[exec_Assign_Name_used _ _ _ _ hsw];refine ad (wpAny_standAt (ad ?_));show bt _ X.A (do let _ <- comprehension (.ListComp elt [⟨tgt,iter,ifs,0⟩] Yi pos) Yi X.env _ (newList []) ao (gh iter X.env) (aa (WG (.Name y py) X.env))) _ _ s;refine ad (gr (yK hc hi hg ht he YA Yx YH hjs hin YB Yo Ys Yr hs _ pk s σ H _ I h (aa (WG (.Name y py) X.env)) (λ_ s'=>SP X pk D .next s') ?_) (λ_ s' hq=>aj (aj hq)) λ_ _ e=>e);intro E C H' s' q fp ⟨m,hm⟩ inv;have I1:Inv X pk σ H' s':=inv s'.heap ⟨rfl,λ_ _=>rfl⟩;show bt _ X.A (WG (.Name y py) X.env (.ref E)) _ _ _;refine Vq (xP I1 hN hi2 hx2 (v:=.ref E) rfl (λs2 I2 hsb=>?_) hf);obtain⟨a,hsb,ha⟩:=hsb;have aC:a≠C:=by
    rcases ha with ha | ha
    . rw[ha];exact Ne.symm fp.2.1
    . exact fp.2.2.2.2.1 _ _ ha
  refine⟨m,hm.sameBut hsb (Ne.symm aC),λh' hs'=>⟨_,H',?_,q⟩⟩;refine I2.call' (s':={ s2 with heap:=h' }) (ch:=[C]) rfl ⟨λb o e n hb hx=>?_,λb o e n hb hx=>?_,λb o e n hx=>n,λb o e hx=>?_,λ_ _ e=>e,λ_ _ _ e=>e,λb ps e=>⟨#[],by simpa using e⟩⟩ ?_ I2.bare ?_
  . exact hs'.extBut b o (by simpa using hx) e
  . exact⟨o.slots,hs'.extBut b o (by simpa using hx) e⟩
  . exact⟨o,hs'.extBut b o (by simpa using hx) e⟩
  . have nC:∀c v,H' c=aa v->c≠C:=λc v e z=>by
      rw[z,fp.1] at e;cases e
    intro b u e;refine(I2.hok b u e).stay (λc v hc q=>(hs'.2 c ?_).trans q) (λ_ q=>q) (λ_ _ q=>q) λ_ _ q=>q;rcases hc with z | z
    . rw[z];exact nC b u e
    . exact nC c _ z
  . intro b hb;obtain rfl:b=C:=by simpa using hb
    exact⟨fp.2.2.2.1,fp.2.1,fp.2.2.2.2.1,fp.2.2.2.2.2⟩
variable {y:V}{o:Option V}{κ:Type}
section
variable [DecidableEq κ]
def kR(kvs:List (κ×V))(k:κ):Option V:=(kvs.find? λkv=>decide (kv.1=k)).map (·.2)
def rP(kvs:List (κ×V))(k:κ)(v:V):List (κ×V):=
  if (kvs.any λkv=>decide (kv.1=k))=ai then kvs.map (λkv=>if kv.1=k then (kv.1,v) else kv) else kvs++[(k,v)]
theorem nA{p:κ×V}{r:List (κ×V)}{k:κ}(e:p.1=k):kR (p::r) k=aa p.2:=by simp[kR,wl,e]
theorem nB{p:κ×V}{r:List (κ×V)}{k:κ}(e:¬p.1=k):kR (p::r) k=kR r k:=by simp[kR,wl,e]
theorem Ai(k:κ):∀kvs:List (κ×V),(kvs.any λkv=>decide (kv.1=k))=(kR kvs k).isSome
  | []=>rfl
  |p::r=>by
    rw[tw];by_cases e:p.1=k
    . simp only[nA e,decide_eq_true e,Xp,Vg]
    . rw[nB e,decide_eq_false e,Te];exact Ai k r
theorem tO(kvs:List (κ×V))(k:κ)(v:V):(rP kvs k v).length<=kvs.length+1:=by
  unfold rP;split
  . rw[bf];right
  . rw[ef,cg,uy];right
theorem pP.isSome_eq{u:Option af}(r:pP o u):o.isSome=u.isSome:=by
  cases o with
  |none=>cases u with
    |none=>rfl
    |some _=>exact(show False from r).elim
  |some _=>cases u with
    |none=>exact(show False from r).elim
    |some _=>rfl
theorem KV.val{kvs:List (κ×V)}{vs:List (κ×af)}(r:KV kvs vs)(k:κ):pP (kR kvs k) (UQ vs k):=by
  unfold KV at r;induction r with
  |nil=>exact mj
  | @cons p q ps qs h t ih=>
    obtain⟨h1,h2⟩:=h;by_cases e:p.1=k
    . have e':q.1=k:=h1.symm.trans e;have b:UQ (q::qs) k=aa q.2:=by simp[UQ,wl,e']
      rw[nA e,b];exact h2
    . have e':¬q.1=k:=λz=>e (h1.trans z);have b:UQ (q::qs) k=UQ qs k:=by simp[UQ,wl,e']
      rw[nB e,b];exact ih
theorem KV.any{kvs:List (κ×V)}{vs:List (κ×af)}(r:KV kvs vs)(k:κ):(kvs.any λkv=>decide (kv.1=k))=vs.any λkv=>decide (kv.1=k):=by
  unfold KV at r;induction r with
  |nil=>rfl
  |cons h t ih=>rw[tw,tw,ih,h.1]
theorem KV.repl{kvs:List (κ×V)}{vs:List (κ×af)}(r:KV kvs vs)(k:κ)(ry:cO y u):
    KV (kvs.map λkv=>if kv.1=k then (kv.1,y) else kv) (vs.map λkv=>if kv.1=k then (kv.1,u) else kv):=by
  unfold KV at r ⊢;induction r with
  |nil=>exact .nil
  | @cons p q ps qs h t ih=>
    rw[cr,cr];refine .cons ?_ ih;obtain⟨h1,h2⟩:=h;by_cases e:p.1=k
    . rw[Yh e,Yh (h1.symm.trans e)];exact⟨h1,ry⟩
    . rw[XQ e,XQ (λz=>e (h1.trans z))];exact⟨h1,h2⟩
theorem KV.put{kvs:List (κ×V)}{vs:List (κ×af)}(r:KV kvs vs)(k:κ)(ry:cO y u):KV (rP kvs k y) (stored vs k u):=by
  unfold rP stored;rw[r.any k];by_cases e:(vs.any λkv=>decide (kv.1=k))=ai
  . rw[Yh e,Yh e];exact r.repl k ry
  . rw[XQ e,XQ e];exact Paired.snoc r ⟨rfl,ry⟩
theorem KV.length{kvs:List (κ×V)}{vs:List (κ×af)}(r:KV kvs vs):kvs.length=vs.length:=Paired.length r
end
theorem EZ{k:bW}(r:cO (kV k) u):(eP P w).is k u=ai:=by
  cases k with
  |inl i=>obtain⟨t,e⟩:=(show ∃t,u=Value.int i t from r);subst e;exact Bp P w i t
  |inr x=>obtain⟨t,e⟩:=(show ∃t,u=Value.str x t from r);subst e;exact Bo P w x t
theorem yD{P:az}{w:bw}:∀{ks:List bW} {us:List af},bV (ks.map kV) us->ItemsAre (eP P w) ks us
  | [],_,r=>by rw[wp] at r;cases r;exact .nil
  |k::ks,_,r=>by
    rw[cr] at r;cases r with
    |cons h t=>exact .cons (EZ h) (yD t)
abbrev KT(H:Hp):List (List bW×V)->List (List bW×ae×af)->Prop:=Paired λp q=>p.1=q.1/\H q.2.1=aa (.tup (p.1.map kV))/\cO p.2 q.2.2
variable {xs:List (List bW×ae×af)}
theorem KT.val(r:KT H kvs xs)(k:List bW):pP (kR kvs k) ((V3 xs k).map (·.2)):=by
  induction r with
  |nil=>exact mj
  | @cons p q ps qs h t ih=>
    obtain⟨h1,_,h2⟩:=h;by_cases e:p.1=k
    . have e':q.1=k:=h1.symm.trans e;have b:V3 (q::qs) k=aa q.2:=by simp[V3,wl,e']
      rw[nA e,b];exact h2
    . have e':¬q.1=k:=λz=>e (h1.trans z);have b:V3 (q::qs) k=V3 qs k:=by simp[V3,wl,e']
      rw[nB e,b];exact ih
theorem KT.repl(r:KT H kvs xs)(k:List bW)(ry:cO y u):
    KT H (kvs.map λkv=>if kv.1=k then (kv.1,y) else kv) (xs.map (putAt k u)):=by
  induction r with
  |nil=>exact .nil
  | @cons p q ps qs h t ih=>
    rw[cr,cr];refine .cons ?_ ih;obtain⟨h1,h2,h3⟩:=h;unfold putAt;by_cases e:p.1=k
    . rw[Yh e,Yh (h1.symm.trans e)];exact⟨h1,h2,ry⟩
    . rw[XQ e,XQ (λz=>e (h1.trans z))];exact⟨h1,h2,h3⟩
theorem KT.put(r:KT H kvs xs)(k:List bW)(hb:H b=aa (.tup (k.map kV)))(ry:cO y u):
    KT H (rP kvs k y) (Xq xs k b u):=by
  have e:(kvs.any λkv=>decide (kv.1=k))=(V3 xs k).isSome:=by
    rw[Ai,(r.val k).isSome_eq,isSome_map]
  unfold rP Xq;rw[e];by_cases q:(V3 xs k).isSome=ai
  . rw[Yh q,Yh q];exact r.repl k ry
  . rw[XQ q,XQ q];exact Paired.snoc r ⟨rfl,hb,ry⟩
theorem KT.keeps(r:KT H kvs xs)(ht:∀b ys,H b=aa (.tup ys)->H' b=aa (.tup ys)):KT H' kvs xs:=
  Paired.mapP r λ_ _ z=>⟨z.1,ht _ _ z.2.1,z.2.2⟩
variable {ep:Nat}
theorem M5{u:HO}(ok:lN P w H h)(e:Rd H a u):cI P w H h a u:=e.ok ok
theorem CG{kvs:List (bW×V)}(ok:lN P w H h)(e:Rd H a (.dK kvs)):kvs.length<=bu/\(a==ji)=ao /\ ∃vs,KV kvs vs/\h.DictOf (eP P w) a vs:=
  show cI P w H h a (.dK kvs) from M5 ok e
theorem Ql{kvs:List (bW×V)}(ok:lN P w H h)(e:H a=aa (.dK kvs)):kvs.length<=bu/\(a==ji)=ao /\ ∃vs,KV kvs vs/\h.DictOf (eP P w) a vs:=CG ok (.inl e)
theorem vX{ks:List bW}(ok:lN P w H h)(e:H a=aa (.tup (ks.map kV))):(Tp (eP P w)).is h ks a:=by
  obtain⟨_,its,r,o,h1,h2,n,h3⟩:=(show cI P w H h a (.tup (ks.map kV)) from ok a _ e);exact⟨o,its.toArray,n,h1,h2,h3,by simpa using yD r⟩
theorem Eo(ok:lN P w H h)(e:Rd H a (.dT ep kvs)):kvs.length<=bu/\(a==ji)=ao /\
    ∃xs,KT H kvs xs/\h.DictOfH (Tp (eP P w)) a xs:=by
  obtain⟨z,y,xs,r,o,es,h1,h2,h3,h4,h5⟩:=(show cI P w H h a (.dT ep kvs) from M5 ok e);refine⟨z,y,xs,r,o,es,ep,h1,h2,h3,h4,λx hx=>?_,h5⟩;have all:∀{l:List (List bW×V)} {m:List (List bW×ae×af)},KT H l m -> ∀x∈m,(Tp (eP P w)).is h x.1 x.2.1:=by
    intro l m q;induction q with
    |nil=>intro x hx;exact nomatch hx
    | @cons p q ps qs hq t ih=>
      intro x hx;rcases dj.mp hx with e | hx
      . subst e;exact vX ok (by rw[<- hq.1];exact hq.2.1)
      . exact ih x hx
  exact all r x hx
theorem Mc(ok:lN P w H h)(e:H a=aa (.dT ep kvs)):kvs.length<=bu/\(a==ji)=ao /\
    ∃xs,KT H kvs xs/\h.DictOfH (Tp (eP P w)) a xs:=Eo ok (.inl e)
def tH(H:Hp)(a:ae)(y:V)(r:Option V):Prop:=
  (∃kvs k,Rd H a (.dK kvs)/\y=kV k/\r=kR kvs k) \/ ∃ep kvs k b,Rd H a (.dT ep kvs)/\y=.ref b/\H b=aa (.tup (k.map kV))/\r=kR kvs k
def Jk(H:Hp)(a:ae)(y v:V)(R:Hp->Prop):Prop:=
  (∃kvs k,H a=aa (.dK kvs)/\y=kV k/\kvs.length<bu/\R (upd H a (.dK (rP kvs k v)))) \/
  ∃ep kvs k b,H a=aa (.dT ep kvs)/\y=.ref b/\H b=aa (.tup (k.map kV))/\kvs.length<bu /\ ∀ep',R (upd H a (.dT ep' (rP kvs k v)))
theorem tH.k{H:Hp}{a:ae}{kvs:List (bW×V)}{k:bW}(e:H a=aa (.dK kvs)):tH H a (kV k) (kR kvs k):=.inl ⟨kvs,k,.inl e,rfl,rfl⟩
theorem tH.t{k:List bW}(e:H a=aa (.dT ep kvs))(eb:H b=aa (.tup (k.map kV))):tH H a (.ref b) (kR kvs k):=.inr ⟨ep,kvs,k,b,.inl e,rfl,eb,rfl⟩
theorem Jk.t{k:List bW}{R:Hp->Prop}(e:H a=aa (.dT ep kvs))(eb:H b=aa (.tup (k.map kV)))(hl:kvs.length<bu)(r:∀ep',R (upd H a (.dT ep' (rP kvs k v)))):Jk H a (.ref b) v R:=.inr ⟨ep,kvs,k,b,e,rfl,eb,hl,r⟩
variable {r:af}
theorem Inv.big(I:Inv X pk σ H s):ji<s.heap.objs.size:=by
  have h:jo<s.heap.objs.size:=(I.mod.glob.keeps I.bk).lt;exact Xr ∅ h
theorem GG(hu:A.units+1<jy)(I:Inv X pk σ H s)(g:tH H a y (aa v))(ry:cO y u)(h:∀w' s',Inv X pk σ H s'->cO v w'->Q w' s'):
    bt (bz X.prog X.w) A (Vw (.ref a) u) Q E s:=by
  rcases g with⟨kvs,k,e,ey,l⟩ | ⟨_,kvs,k,b,e,ey,eb,l⟩
  . subst ey;obtain⟨z,hd,vs,rel,dd⟩:=CG I.hok e;obtain⟨w',hw,rw'⟩:=pP.some_of (v:=v) (o:=UQ vs k) (by rw[l];exact rel.val k);exact wpAny_getItem_of (EZ ry) dd.mapOf hw (h w' _ (I.tok _) rw')
  . subst ey;cases (show u=Value.ref b from ry);obtain⟨z,hd,xs,rel,dd⟩:=Eo I.hok e;obtain⟨w',hw,rw'⟩:=pP.some_of (v:=v) (o:=(V3 xs k).map (·.2)) (by rw[l];exact rel.val k);obtain⟨p,hp,hp2⟩:=U7.mp hw;refine wpAny_getItem_heap (uz hu) (vX I.hok eb) dd hp ?_;rw[hp2];exact h w' _ (I.tok _) rw'
theorem SX(hu:A.units+1<jy)(I:Inv X pk σ H s)(g:tH H a y o)(ry:cO y u)(h:∀s',Inv X pk σ H s'->Q (.bool o.isSome) s'):
    bt (bz X.prog X.w) A (fm .In u (.ref a)) Q E s:=by
  rcases g with⟨kvs,k,e,ey,l⟩ | ⟨_,kvs,k,b,e,ey,eb,l⟩
  . subst ey;obtain⟨z,hd,vs,rel,dd⟩:=CG I.hok e;refine wpAny_in_of (EZ ry) hd dd.mapOf ?_;rw[<- (rel.val k).isSome_eq,<- l];exact h _ (I.tok _)
  . subst ey;cases (show u=Value.ref b from ry);obtain⟨z,hd,xs,rel,dd⟩:=Eo I.hok e;refine wpAny_in_heap (uz hu) (vX I.hok eb) hd dd ?_;have q:=(rel.val k).isSome_eq;rw[isSome_map] at q;rw[<- q,<- l];exact h _ (I.tok _)
theorem uQ(I:Inv X pk σ H s)(mu:GP (H a))(hs:oz a s.heap h')(he:∃q,h'.get? a=aa q)(new:cI X.prog X.w (upd H a ob) h' a ob):
    Inv X pk σ (upd H a ob) { s with heap:=h',toks:=t' }:=
  I.write (x:=a) (e:=a) mu (.inl rfl) (λb q hb z=>(hs.2 b hb).trans z) he new
theorem OS{kvs:List (bW×V)}{vs:List (bW×af)}(z:kvs.length<=bu)(hd:(a==ji)=ao)(rel:KV kvs vs)(dd:h'.DictOf (eP P w) a vs):
    cI P w H' h' a (.dK kvs):=⟨z,hd,vs,rel,dd⟩
theorem GF{R:Hp->Prop}{Q:Unit->ah->Prop}(hu:A.units+1<jy)(I:Inv X pk σ H s)(g:Jk H a y v R)(ry:cO y u)(rv:cO v r)(h:∀H' s',R H'->Inv X pk σ H' s'->Q () s'):
    bt (bz X.prog X.w) A (setItem (.ref a) u r) Q E s:=by
  rcases g with⟨kvs,k,e,ey,l,eH⟩ | ⟨ep0,kvs,k,b,e,ey,eb,l,eH⟩
  . subst ey;obtain⟨z,hd,vs,rel,dd⟩:=Ql I.hok e;have hz:vs.length<=bu:=by rw[<- rel.length];exact z
    have hl:(rP kvs k v).length<=bu:=by have:=tO kvs k v;right
    refine wpAny_setItem_pairs (hsz:=hz) (EZ ry) dd λh' dd' hs=>h _ _ eH ?_;have he:∃q,h'.get? a=aa q:=let ⟨q,_,_,hq,_⟩:=dd';⟨q,hq⟩;exact uQ I (by rw[e];exact mj) hs he (OS hl hd (rel.put k rv) dd')
  . subst ey;cases (show u=Value.ref b from ry);obtain⟨z,hd,xs,rel,dd⟩:=Mc I.hok e;have hz:xs.length<=bu:=by rw[<- Paired.length rel];exact z
    have hl:(rP kvs k v).length<=bu:=by have:=tO kvs k v;right
    refine Vh (hsz:=hz) (uz hu) (vX I.hok eb) dd λh' dd' hs=>?_;obtain⟨q,es,ep,hq,h2,h3,h4,_,h5⟩:=dd';refine h _ _ (eH ep) ?_;refine uQ I (by rw[e];exact mj) hs ⟨q,hq⟩ ⟨hl,hd,_,(rel.put k eb rv).keeps λc ys ec=>?_,q,es,hq,h2,h3,h4,h5⟩;rw[bB (MN ec e (λz=>nomatch z))];exact ec
section
variable {kvs:List (bW×V)}{k:bW}
theorem Qm(I:Inv X pk σ H s)(e:Rd H a (.dK kvs))(h:∀t s',Inv X pk σ H s'->Q (.int kvs.length t) s'):bt (bz X.prog X.w) A (call (.builtin "len") [.ref a]) Q E s:=by
  obtain⟨z,hd,vs,rel,dd⟩:=CG I.hok e;refine call_len_dict hd dd (by rw[<- rel.length];rw[kg] at z;right) ?_;rw[<- rel.length];exact h _ _ (I.tok _)
end
theorem CH(I:Inv X pk σ H s)(g:tH H a y o):s.TypeIs (.ref a) "dict" := by
  rcases g with⟨kvs,k,e,_,_⟩ | ⟨_,kvs,k,b,e,_,_,_⟩
  . obtain⟨_,_,vs,_,dd⟩:=CG I.hok e;exact dd.typeIs
  . obtain⟨_,_,xs,_,dd⟩:=Eo I.hok e;exact dd.typeIs
def PP(td ty tv:TE):TS:=λD σ H=>tv σ H λv H1=>td σ H1 λx H2=>ty σ H2 λy H3=>∃a,x=.ref a/\Jk H3 a y v (D.nx σ)
variable {Yp:Expr}{Yw:lv}{td tv:TE}
section
variable {o i:Expr}{pos tpos:lv}{ty:TE}
theorem Ka(hu:X.A.units+1<jy)(ho:PE X o td)(hi:PE X i ty)(hv:PE X Yp tv)(hs:iu Yp (aa (.Subscript o i Yw)) pos.line X.env=jw ao):
    PS X (.Assign [.Subscript o i Yw] Yp pos) (PP td ty tv):=by
  intro pk s σ H D I h;refine U1 (thn (hv pk s σ H _ I h) λr s1 ⟨v,H1,I1,rv,q1⟩=>thn (ho pk s1 σ H1 _ I1 q1) λu s2 ⟨x,H2,I2,rx,q2⟩=>thn (hi pk s2 σ H2 _ I2 q2) λiv s3 ⟨y,H3,I3,ry,a,ex,g⟩=>?_) hs;subst ex;obtain rfl:u=Value.ref a:=rx;exact GF hu I3 g ry rv λH4 s4 q3 I4=>⟨σ,H4,I4,q3⟩
end
theorem JP(h:dk)(hb:ji<h.objs.size):cI P w H (h.push { cls:=.type "dict",data:=.dict #[] }) h.objs.size (.dT 0 []):=
  ⟨oj _,beq_eq_false_iff_ne.mpr (Ne.symm (gn hb)),[],.nil,_,#[],cj _ rfl,⟨rfl,rfl,rfl⟩,rfl,rfl,Xf⟩
def Mz:TE:=λ_ H Q=>∀p,H p=au->Q (.ref p) (upd H p (.dT 0 []))
section
variable {pos:lv}
theorem HR:PE X (.Dict [] [] pos) Mz:=λpk s σ H Q I h=>
  VY ⟨.ref s.heap.objs.size,_,I.laid (a:=s.heap.objs.size) (o:=.dT 0 []) (t':=s.toks) (λ_ _ q=>ap _ q) (br _) (JP s.heap I.big),rfl,h _ (I.hok.fresh (br _))⟩
end
section
variable {d:V}
end
section
variable {o f:Expr}{Yt:lv}{ty tx:TE}
end
section
variable {kvs:List (bW×V)}
end
theorem GL:fM X (.builtin "len") (λxs H Q=>∃a kvs,xs=[V.ref a]/\H a=aa (.dK kvs)/\Q (.int kvs.length) H):=by
  intro pk s σ H xs us Q I r h;obtain⟨a,kvs,rfl,ha,q⟩:=h;obtain⟨u,rfl,ru⟩:=kF r;cases ru;exact Qm I (.inl ha) λt s' I'=>⟨.int kvs.length,H,I',⟨t,rfl⟩,q⟩
section
variable [DecidableEq κ]
end
abbrev Tk:=Int×Int×List Int
def gI(prog:az)(w:bw)(h:dk)(k:Tk)(a:ae):Prop:=
  ∃(o:jv) (t u:Yg) (c:ae) (n:Nat),h.get? a=aa o/\o.cls=.type "tuple" /\ o.data=.seq #[.int k.1 t,.int k.2.1 u,.ref c] n/\IsTupleKey (Wy prog w) h k.2.2 c
theorem gI.ty{k:Tk}(x:gI prog w s.heap k a):s.TypeIs (.ref a) "tuple" := let ⟨o,_,_,_,_,g,c,_⟩:=x;⟨o,g,c⟩
def rA(k:Tk):Int:=U2 (kh [zg k.1,zg k.2.1,U2 (kh (k.2.2.map zg))])
theorem F2{k:Tk}{Q:Int->ah->Prop}(hu:A.units+1<jy)(x:gI prog w s.heap k a)(h:Q (rA k) { s with toks:=s.toks+(k.2.2.length+4) }):bt (bz prog w) A (pyHash (.ref a)) Q E s:=by
  have ty:=x.ty;obtain⟨o,t,u,c,n,g,_,d,i⟩:=x;unfold pyHash
  first | unfold pyHashByItsType | skip
  first | refine ad (wpAny_cRoomFor_or (.inr (VB hu)) ?_) | skip
  refine ad (uv ty vk.lookup ?_);refine(show bt _ _ (ite ((aa (V4 "tuple.__hash__")==aa gc)=ai) _ _) Q E s from ?_);rw[XQ (by rw[beq_builtin_none];exact jj)];refine ad (uv ty vk.lookup (ad (m:=callSpecialIfBoundUnlessNone? (.ref a) "__hash__" _) (wpAny_callSpecialIfBoundUnlessNone?_slot ty vk (fz vk ty F.entry_tuple_hash ?_ (F.args_tuple_hash_1 _)))));refine ad (m:=yf (.ref a)) (yj g d (ad ?_));rw[<- VC];simp only[TR,VO];refine ad (ad (To (aj ?_)));refine ad (ad (To (aj ?_)));refine ad (ad (wpAny_pyHash_tuple (knd:=Wy prog w) hu i (aj (aj ?_))));refine(show bt _ _ (retInt (kh [zg k.1,zg k.2.1,U2 (kh (k.2.2.map zg))])) _ _ _ from ?_);unfold rA U2 at h;unfold U2;generalize hZ:kh [zg k.1,zg k.2.1,_]=z at h ⊢;refine wpAny_ret_mkInt ?_;refine(show bt _ _ (ite ((decide (-(2:Int) ^ 63<=z)&&decide (z<2 ^ 63))=ai) _ _) Q E _ from ?_);have et:s.toks+1+1+(k.2.2.length+1)+1=s.toks+(k.2.2.length+4):=⋯;by_cases c1:(decide (-(2:Int) ^ 63<=z)&&decide (z<2 ^ 63))=ai
  . rw[Yh c1] at h ⊢;exact aj (by simpa [et] using h)
  . rw[XQ c1] at h ⊢;exact ad (mh (aj (by simpa [et] using h)))
theorem yX{x y:Tk}{P:Fin->ah->Prop}(hu:A.units<jy)(hx:gI prog w s.heap x a)(hy:gI prog w s.heap y b)(h:P (.done (.ret (.bool (decide (x=y))))) s):
    bt (bz prog w) A (su.«tuple.__eq__» ⟨[.ref a,.ref b],[]⟩) P E s:=by
  have ty:=hy.ty;obtain⟨o,t,u,c,n,g,_,d,i⟩:=hx;obtain⟨o2,t2,u2,c2,n2,g2,_,d2,i2⟩:=hy;refine ad (m:=xu (.ref b) (.type "tuple")) (jm ty vx ?_);simp only[ur,dq,if_false];refine ad (yj g d (ad (yj g2 d2 (ad ?_))));simp only[List.zip_cons_cons,List.zip_nil_right,TR,VO];have no:x≠y->P (.done (.ret (.bool ao))) s:=λe=>by rw[decide_eq_false e] at h;exact h
  refine ad (ad (we ?_));by_cases e1:x.1=y.1
  . rw[beq_iff_eq.mpr e1];refine aj (ad (ad (we ?_)));by_cases e2:x.2.1=y.2.1
    . rw[beq_iff_eq.mpr e2];refine aj (ad (ad (wpAny_eqBool_tuple hu i i2 ?_)));by_cases e3:x.2.2=y.2.2
      . rw[decide_eq_true e3];rw[decide_eq_true (Prod.ext e1 (Prod.ext e2 e3))] at h;exact aj (aj (aj h))
      . rw[decide_eq_false e3];exact ad (aj (aj (aj (aj (no λz=>e3 (by rw[z]))))))
    . rw[beq_eq_false_iff_ne.mpr e2];exact ad (aj (aj (aj (aj (no λz=>e2 (by rw[z]))))))
  . rw[beq_eq_false_iff_ne.mpr e1];exact ad (aj (aj (aj (aj (no λz=>e1 (by rw[z]))))))
theorem gI.inj{h:dk}{a:ae}{x y:Tk}(hx:gI prog w h x a)(hy:gI prog w h y a):x=y:=by
  obtain⟨o,t,u,c,n,g,_,d,i⟩:=hx;obtain⟨o2,t2,u2,c2,n2,g2,_,d2,i2⟩:=hy;rw[g] at g2;cases g2;rw[d] at d2;simp only[Data.seq.injEq,Array.mk.injEq,ww,Value.int.injEq,Value.ref.injEq] at d2;obtain⟨⟨⟨e1,_⟩,⟨e2,_⟩,e3,_⟩,_⟩:=d2;subst e3;exact Prod.ext e1 (Prod.ext e2 (i.inj i2))
theorem Jx{x y:Tk}{Q:Bool->ah->Prop}(hu:A.units+1<jy)(hx:gI prog w s.heap x a)(hy:gI prog w s.heap y b)(h:Q (decide (x=y)) s):bt (bz prog w) A (eqBool (.ref a) (.ref b)) Q E s:=by
  unfold eqBool
  try with_reducible refine jd ?_
  refine(show bt _ _ (ite ((Value.ref a==Value.ref b)=ai) _ _) Q E s from ?_);by_cases ab:(Value.ref a==Value.ref b)=ai
  . rw[Yh ab];have e:a=b:=by have:=Xe ab;injection this
    subst e;obtain rfl:=hx.inj hy;exact ad (mh (aj (by simpa using h)))
  . rw[XQ ab];exact ad (wpAny_richCompare_same_room (op:=.Eq) hx.ty hy.ty wx (fz wx hx.ty F.entry_tuple_eq (yX hu hx hy ⟨_,rfl,(λe=>nomatch e),ik h⟩) (F.args_tuple_eq_2 _ _)) (VB hu))
theorem gI.keeps{h h':dk}{k:Tk}{a d:ae}{o:jv}{es:Array lq}{ep:Nat}(x:gI prog w h k a)(ho:h.get? d=aa o)(hd:o.data=.dict es ep)(hs:oz d h h'):gI prog w h' k a:=by
  obtain⟨o2,t,u,c,n,g,cl,d2,i⟩:=x;have ne:a≠d:=by
    rintro rfl;rw[g] at ho;cases ho;rw[hd] at d2;cases d2
  exact⟨o2,t,u,c,n,(hs.2 a ne).trans g,cl,d2,i.keeps ho hd hs⟩
theorem Bx{Q:Bool->ah->Prop}(hk:IsTupleKey (Wy prog w) s.heap ks a)(h:Q ai s):bt (bz prog w) A (VZ 7 (.ref a)) Q E s:=by
  have ty:=hk.typeIs;obtain⟨o,its,n,g,_,d,i⟩:=hk;unfold VZ;refine ad (uv ty wx.lookup (ad (m:=xu (.ref a) (.type "tuple")) (jm ty vx ?_)));simp only[ur,dq,if_false];refine ad (qi g d (ad ?_));refine(show bt _ _ (Yc its _ _) _ _ s from ?_);rw[<- VC];refine wpAny_forIn_list _ (λYl r s'=>r.1=au/\s'=s /\ ∀v∈Yl,Uz v=ai) _ (λv Yl r s' z=>?_) (λr s' z=>?_) _ _ ⟨rfl,rfl,i.byValue⟩
  . obtain⟨_,rfl,al⟩:=z;rw[zp _ (al v di)];refine ad (aj ?_);simp only[ur,dq,if_false];exact aj ⟨rfl,rfl,λy hy=>al y (df _ hy)⟩
  . obtain⟨r1,r2⟩:=r;obtain⟨hr,rfl,_⟩:=z;cases hr;exact aj h
theorem Ce{k:Tk}{Q:Bool->ah->Prop}(hk:gI prog w s.heap k a)(h:Q ai s):bt (bz prog w) A (VZ 8 (.ref a)) Q E s:=by
  have ty:=hk.ty;obtain⟨o,t,u,c,n,g,_,d,i⟩:=hk;unfold VZ;refine ad (uv ty wx.lookup (ad (m:=xu (.ref a) (.type "tuple")) (jm ty vx ?_)));simp only[ur,dq,if_false];refine ad (qi g d (ad ?_));refine(show bt _ _ (Yc (#[Value.int k.1 t,Value.int k.2.1 u,Value.ref c]:Array af) _ _) _ _ s from ?_);rw[<- VC];simp only[TR,VO];rw[zp _ (show Uz (Value.int k.1 t)=ai from rfl),zp _ (show Uz (Value.int k.2.1 u)=ai from rfl)];refine ad (ad (aj (aj ?_)));refine ad (ad (aj (aj ?_)));exact ad (ad (Bx i (aj (aj (aj h)))))
def uX(prog:az)(w:bw):XV prog w Tk where
  is:=gI prog w
  hash:=rA
  draws:=λk=>k.2.2.length+4
  room:=λA=>A.units+1<jy
  inj:=λhx hy=>hx.inj hy
  keeps:=λx ho hd hs=>x.keeps ho hd hs
  pyHash:=λhu hk h=>F2 hu hk h
  eqBool:=λhu hx hy h=>Jx hu hx hy h
  quiet:=λhk h=>Ce hk h
abbrev SV(x:Tk×ae):lq:=⟨rA x.1,.ref x.2,.bool ai⟩
def ndict(a:ae)(xs:List (Tk×ae)):dk->Prop:=λh=>xs.length<=bu/\(a==ji)=ao /\ ∃o es ep,h.get? a=aa o/\o.ExactDict/\o.data=.dict es ep/\es.toList=xs.map SV/\(xs.map (·.1)).Nodup
abbrev HO.dN(a:ae)(xs:List (Tk×ae)):HO:=.ext (ndict a xs)
def TileAt(H:Hp)(k:Tk)(b:ae):Prop:=∃c,H b=aa (.tup [.int k.1,.int k.2.1,.ref c])/\H c=aa (.tup (k.2.2.map V.int))
theorem TileAt.is{k:Tk}(ok:lN P w H h)(t:TileAt H k b):gI P w h k b:=by
  obtain⟨c,e1,e2⟩:=t;obtain⟨_,its,r,o,g,cl,n,d⟩:=(show cI P w H h b (.tup _) from ok b _ e1);obtain⟨_,its2,r2,o2,g2,cl2,n2,d2⟩:=(show cI P w H h c (.tup _) from ok c _ e2);cases r with
  |cons r1 r=>
    cases r with
    |cons r2' r=>
      cases r with
      |cons r3 r=>
        cases r;obtain⟨t1,rfl⟩:=r1;obtain⟨t2,rfl⟩:=r2';cases r3;refine⟨o,t1,t2,c,n,g,cl,d,o2,its2.toArray,n2,g2,cl2,d2,?_⟩;have all:∀{ns:List Int} {us:List af},bV (ns.map V.int) us->ItemsAre (Wy P w) ns us:=by
          intro ns;induction ns with
          |nil=>intro us r;cases r;exact .nil
          |cons n ns ih=>
            intro us r;cases r with
            |cons r1 r=>
              obtain⟨t,rfl⟩:=r1;exact .cons (show Uq n (.int n t)=ai from by simp[Uq]) (ih r)
        simpa using all r2
theorem Bc{xs:List (Tk×ae)}:∀h1 h2:dk,ndict a xs h1->(∀o,h1.get? a=aa o->h2.get? a=aa o)->ndict a xs h2:=λh1 h2 ⟨z,y,o,es,ep,g,r⟩ k=>⟨z,y,o,es,ep,k o g,r⟩
theorem Bd{xs:List (Tk×ae)}(x:ndict a xs h):cI P w H h a (.dN a xs):=by
  refine⟨x,?_,Bc⟩;obtain⟨_,_,o,_,_,g,_⟩:=x;exact⟨o,g⟩
theorem Be{xs:List (Tk×ae)}(ok:lN P w H h)(e:H a=aa (.dN a xs))(t:∀x∈xs,TileAt H x.1 x.2):xs.length<=bu/\(a==ji)=ao/\h.DictOfH (uX P w) a (xs.map λx=>(x.1,x.2,.bool ai)):=by
  obtain⟨⟨z,y,o,es,ep,g,ex,d,l,nd⟩,_⟩:=(show cI P w H h a (.dN a xs) from ok a _ e);refine⟨z,y,o,es,ep,g,ex,d,?_,λx hx=>?_,?_⟩
  . rw[l,ju];rfl
  . obtain⟨p,hp,rfl⟩:=jg.mp hx;exact(t p hp).is ok
  . rw[ju];exact nd
def hasN(xs:List (Tk×ae))(k:Tk):Bool:=xs.any λx=>decide (x.1=k)
def wV(xs:List (Tk×ae))(k:Tk)(b:ae):List (Tk×ae):=if hasN xs k then xs else xs++[(k,b)]
abbrev Cc(x:Tk×ae):Tk×ae×af:=(x.1,x.2,.bool ai)
theorem yQ(xs:List (Tk×ae))(k:Tk):(V3 (xs.map Cc) k).isSome=hasN xs k:=by
  induction xs with
  |nil=>rfl
  |cons x r ih=>
    unfold V3 hasN at *;rw[cr,wl,tw];by_cases e:x.1=k
    . simp[e]
    . simp only[decide_eq_false e,Te];exact ih
theorem Cj(xs:List (Tk×ae))(k:Tk)(b:ae):Xq (xs.map Cc) k b (.bool ai)=(wV xs k b).map Cc:=by
  unfold Xq wV;rw[yQ];by_cases e:hasN xs k=ai
  . rw[Yh e,Yh e,ju];refine uc λx _=>?_;unfold putAt;simp only[Function.comp_apply];split<;>rfl
  . rw[XQ e,XQ e,yk];rfl
theorem KS(xs:List (Tk×ae))(k:Tk)(b:ae):(wV xs k b).length<=xs.length+1:=by
  unfold wV;split
  . exact zf _
  . rw[ef];exact br _
section
variable {xs:List (Tk×ae)}{k:Tk}
theorem Fc{Q:Unit->ah->Prop}(hu:A.units+2<jy)(I:Inv X pk σ H s)(e:H a=aa (.dN a xs))(t:∀x∈xs,TileAt H x.1 x.2)(tb:TileAt H k b)(hl:xs.length<bu)
    (h:∀s',Inv X pk σ (upd H a (.dN a (wV xs k b))) s'->Q () s'):bt (bz X.prog X.w) A (setItem (.ref a) (.ref b) (.bool ai)) Q E s:=by
  obtain⟨z,hd,dd⟩:=Be I.hok e t;refine Vh (knd:=uX X.prog X.w) (hsz:=by rw[bf];exact z) hu (tb.is I.hok) dd λh' dd' hs=>h _ ?_;rw[Cj] at dd';obtain⟨q,es,ep,hq,h2,h3,h4,_,h5⟩:=dd';refine uQ I (by rw[e];exact mj) hs ⟨q,hq⟩ (Bd ⟨ly (KS xs k b) hl,hd,q,es,ep,hq,h2,h3,?_,?_⟩)
  . rw[h4,ju];rfl
  . rw[ju] at h5;exact h5
theorem S7(hu:A.units+2<jy)(I:Inv X pk σ H s)(e:H a=aa (.dN a xs))(t:∀x∈xs,TileAt H x.1 x.2)(tb:TileAt H k b)(h:∀s',Inv X pk σ H s'->Q (.bool (hasN xs k)) s'):
    bt (bz X.prog X.w) A (fm .In (.ref b) (.ref a)) Q E s:=by
  obtain⟨z,hd,dd⟩:=Be I.hok e t;refine wpAny_in_heap (knd:=uX X.prog X.w) hu (tb.is I.hok) hd dd ?_;rw[yQ];exact h _ (I.tok _)
end
section
variable {pos:lv}{o i:Expr}{ty:TE}
def N0:TE:=λ_ H Q=>∀p,H p=au->Q (.ref p) (upd H p (.dN p []))
theorem HS:PE X (.Dict [] [] pos) N0:=λpk s σ H Q I h=>
  VY ⟨.ref s.heap.objs.size,_,I.laid (a:=s.heap.objs.size) (o:=.dN s.heap.objs.size []) (t':=s.toks) (λ_ _ q=>ap _ q) (br _)
    (Bd ⟨oj _,beq_eq_false_iff_ne.mpr (Ne.symm (gn I.big)),_,#[],0,cj _ rfl,⟨rfl,rfl,rfl⟩,rfl,rfl,Xf⟩),rfl,h _ (I.hok.fresh (br _))⟩
def NC(td ty tv:TE):TS:=λD σ H=>tv σ H λv H1=>v=.bl ai/\td σ H1 λx H2=>ty σ H2 λy H3=>∃a b xs k,x=.ref a/\y=.ref b/\H3 a=aa (.dN a xs)/\(∀x∈xs,TileAt H3 x.1 x.2)/\TileAt H3 k b/\xs.length<bu/\D.nx σ (upd H3 a (.dN a (wV xs k b)))
theorem HH(hu:X.A.units+2<jy)(ho:PE X o td)(hi:PE X i ty)(hv:PE X Yp tv)(hs:iu Yp (aa (.Subscript o i Yw)) pos.line X.env=jw ao):
    PS X (.Assign [.Subscript o i Yw] Yp pos) (NC td ty tv):=by
  intro pk s σ H D I h;refine U1 (thn (hv pk s σ H _ I h) λr s1 ⟨v,H1,I1,rv,ev,q1⟩=>thn (ho pk s1 σ H1 _ I1 q1) λu s2 ⟨x,H2,I2,rx,q2⟩=>thn (hi pk s2 σ H2 _ I2 q2) λiv s3 ⟨y,H3,I3,ry,a,b,xs,k,ex,ey,e,t,tb,hl,q3⟩=>?_) hs;subst ev ex ey;obtain rfl:u=Value.ref a:=rx;obtain rfl:iv=Value.ref b:=ry;obtain rfl:r=TV ai:=rv;exact Fc hu I3 e t tb hl λs4 I4=>⟨σ,_,I4,q3⟩
def Rs(neg:Bool):R2:=λx y H Q=>∃a b xs k,x=.ref b/\y=.ref a/\H a=aa (.dN a xs)/\(∀x∈xs,TileAt H x.1 x.2)/\TileAt H k b/\Q (.bl (if neg then !hasN xs k else hasN xs k)) H
theorem Np(hu:X.A.units+2<jy):lM X (fm .In) (Rs ao):=by
  intro pk s σ H x y v u Q I rx ry h;obtain⟨a,b,xs,k,rfl,rfl,e,t,tb,q⟩:=h;cases rx;cases ry;exact S7 hu I e t tb λs' I'=>⟨.bl (hasN xs k),H,I',rfl,q⟩
end
end L2
variable {xs:List (List L2.bW×L2.V)}{M F:ae->Prop}{HZ:L2.Hp}
namespace Z
open L2
abbrev St:=L2.St
inductive Dv where
 |non
 |bl (b:Bool)
 |int (i:Int)
 |str (x:bv)
 |tup (xs:List Dv)
 |lst (xs:List Dv)
 |dik (kvs:List (bW×Dv))
 |dit (kvs:List (List bW×Dv))
 |obj (C:ae) (fs:List (bv×Dv))
 |scr (ns:List Int)
 /-- an exception that was caught,of the class at C -/
 |exc (C:ae) (p:Option Int)
 /-- a dict by tiles whose values are True -/
 |dns (ks:List Tk)
def kM:Dv->Bool
 | .lst _=>ao
 | .dik _=>ao
 | .dit _=>ao
 | .obj _ _=>ao
 | .dns _=>ao
 | .tup xs=>flatDs xs
 |_=>ai
where flatDs:List Dv->Bool
 | []=>ai
 |d::r=>kM d&&flatDs r
abbrev flatDs:=kM.flatDs
def Lr(K:ak)(H:Hp)(a:ae)(ns:List Int):Prop:=
 (∃o,H a=aa (.frz o (.lst (ns.map V.int)))) \/
  ∃(o:jv) (its:Array af) (n:Nat),K.lookup a=aa o/\o.cls=.type "list" /\ o.dict=au/\o.data=.seq its n/\its.size<=bu/\bV (ns.map V.int) its.toList
theorem Lr.sq(h:Lr K H a ns):gJ K H a (ns.map V.int):=by
 rcases h with⟨o,h⟩ | h
 ·exact .inl (.inr ⟨o,h⟩)
 ·exact .inr h
def tX(H:Hp):Option Int->Option ae->Prop
 |none,au=>True
 |some n,aa d=>∃od,H d=aa (.frz od (.xd [("step",.int n)]))
 |_,_=>False
theorem tX.gen(h:∀a o u,H a=aa (.frz o u)->H' a=aa (.frz o u)):∀{p:Option Int} {d:Option ae},tX H p d->tX H' p d
 |none,au,z=>z
 |some _,aa _,⟨od,z⟩=>⟨od,h _ _ _ z⟩
 |none,aa _,z=>z.elim
 |some _,au,z=>z.elim
def Mq(H:Hp)(a C:ae)(p:Option Int):Prop:=∃o u,H a=aa (.frz o u)/\o.cls=.ref C/\tX H p o.dict/\mY o
def Sb(H:Hp)(a:ae)(ks:List Tk):Prop:=∃xs,H a=aa (.dN a xs)/\ks=xs.map (·.1) /\ ∀x∈xs,TileAt H x.1 x.2
mutual
inductive Rep(K:ak)(M:ae->Prop)(H:Hp):V->Dv->Prop
 |non:Rep K M H .non .non
 |bl (b:Bool):Rep K M H (.bl b) (.bl b)
 |int (i:Int):Rep K M H (.int i) (.int i)
 |str (x:bv):Rep K M H (.str x) (.str x)
 |tup {a:ae} {xs:List V} {ds:List Dv}:H a=aa (.tup xs)->Reps K M H xs ds->Rep K M H (.ref a) (.tup ds)
 |lst {a:ae} {xs:List V} {ds:List Dv}:H a=aa (.lst xs) -> ¬M a->Reps K M H xs ds->Rep K M H (.ref a) (.lst ds)
 |dik {a:ae} {kvs:List (bW×V)} {ds:List (bW×Dv)}:H a=aa (.dK kvs) -> ¬M a->RepK K M H kvs ds->Rep K M H (.ref a) (.dik ds)
 |dit {a:ae} {ep:Nat} {kvs:List (List bW×V)} {ds:List (List bW×Dv)}:H a=aa (.dT ep kvs) -> ¬M a->RepT K M H kvs ds->Rep K M H (.ref a) (.dit ds)
 |obj {a C dx:ae} {fs:List (bv×V)} {ds:List (bv×Dv)}:H a=aa (.ins C dx fs) -> ¬M a->RepF K M H fs ds->Rep K M H (.ref a) (.obj C ds)
 |scr {a:ae} {ns:List Int}:Lr K H a ns->Rep K M H (.ref a) (.scr ns)
 |exc {a C:ae} {p:Option Int}:Mq H a C p->Rep K M H (.ref a) (.exc C p)
 |dns {a:ae} {ks:List Tk}:Sb H a ks -> ¬M a->Rep K M H (.ref a) (.dns ks)
inductive Reps(K:ak)(M:ae->Prop)(H:Hp):List V->List Dv->Prop
 |nil:Reps K M H [] []
 |cons {x:V} {d:Dv} {xs:List V} {ds:List Dv}:Rep K M H x d->Reps K M H xs ds->Reps K M H (x::xs) (d::ds)
inductive RepK(K:ak)(M:ae->Prop)(H:Hp):List (bW×V)->List (bW×Dv)->Prop
 |nil:RepK K M H [] []
 |cons {k:bW} {x:V} {d:Dv} {xs:List (bW×V)} {ds:List (bW×Dv)}:Rep K M H x d->RepK K M H xs ds->RepK K M H ((k,x)::xs) ((k,d)::ds)
inductive RepT(K:ak)(M:ae->Prop)(H:Hp):List (List bW×V)->List (List bW×Dv)->Prop
 |nil:RepT K M H [] []
 |cons {k:List bW} {x:V} {d:Dv} {xs:List (List bW×V)} {ds:List (List bW×Dv)}:Rep K M H x d->RepT K M H xs ds->RepT K M H ((k,x)::xs) ((k,d)::ds)
inductive RepF(K:ak)(M:ae->Prop)(H:Hp):List (bv×V)->List (bv×Dv)->Prop
 |nil:RepF K M H [] []
 |cons {k:bv} {x:V} {d:Dv} {xs:List (bv×V)} {ds:List (bv×Dv)}:Rep K M H x d->RepF K M H xs ds->RepF K M H ((k,x)::xs) ((k,d)::ds)
end
structure Gen(K:ak)(M M':ae->Prop)(H H':Hp):Prop where
 l:∀a o,H a=aa o->GP (aa o) -> ¬M a->H' a=aa o /\ ¬M' a
 t:∀a xs,H a=aa (.tup xs)->H' a=aa (.tup xs)
 s:∀a ns,Lr K H a ns->Lr K H' a ns
 x:∀a o u,H a=aa (.frz o u)->H' a=aa (.frz o u)
variable {ds:List Dv}{o:HO}{M':ae->Prop}{H'':Hp}
section
variable {M'':ae->Prop}
theorem Reps.ind{P:List V->List Dv->Prop}(h0:P [] [])(h1:∀(x:V) (d:Dv) (xs:List V) (ds:List Dv),Rep K M H x d->Reps K M H xs ds->P xs ds->P (x::xs) (d::ds)){xs:List V}(r:Reps K M H xs ds):P xs ds:=
 Reps.rec (motive_1:=λ_ _ _=>True) (motive_2:=λxs ds _=>P xs ds) (motive_3:=λ_ _ _=>True) (motive_4:=λ_ _ _=>True) (motive_5:=λ_ _ _=>True) trivial (λ_=>trivial) (λ_=>trivial) (λ_=>trivial) (λ_ _ _=>trivial) (λ_ _ _ _=>trivial) (λ_ _ _ _=>trivial) (λ_ _ _ _=>trivial) (λ_ _ _ _=>trivial) (λ_=>trivial) (λ_=>trivial) (λ_ _=>trivial) h0 (λa r _ ih=>h1 _ _ _ _ a r ih) trivial (λ_ _ _ _=>trivial) trivial (λ_ _ _ _=>trivial) trivial (λ_ _ _ _=>trivial) r
theorem RepK.ind{P:List (bW×V)->List (bW×Dv)->Prop}(h0:P [] [])(h1:∀(k:bW) (x:V) (d:Dv) (xs:List (bW×V)) (ds:List (bW×Dv)),Rep K M H x d->RepK K M H xs ds->P xs ds->P ((k,x)::xs) ((k,d)::ds)){xs:List (bW×V)}{ds:List (bW×Dv)}(r:RepK K M H xs ds):P xs ds:=
 RepK.rec (motive_1:=λ_ _ _=>True) (motive_2:=λ_ _ _=>True) (motive_3:=λxs ds _=>P xs ds) (motive_4:=λ_ _ _=>True) (motive_5:=λ_ _ _=>True) trivial (λ_=>trivial) (λ_=>trivial) (λ_=>trivial) (λ_ _ _=>trivial) (λ_ _ _ _=>trivial) (λ_ _ _ _=>trivial) (λ_ _ _ _=>trivial) (λ_ _ _ _=>trivial) (λ_=>trivial) (λ_=>trivial) (λ_ _=>trivial) trivial (λ_ _ _ _=>trivial) h0 (λa r _ ih=>h1 _ _ _ _ _ a r ih) trivial (λ_ _ _ _=>trivial) trivial (λ_ _ _ _=>trivial) r
theorem RepT.ind{P:List (List bW×V)->List (List bW×Dv)->Prop}(h0:P [] [])(h1:∀(k:List bW) (x:V) (d:Dv) (xs:List (List bW×V)) (ds:List (List bW×Dv)),Rep K M H x d->RepT K M H xs ds->P xs ds->P ((k,x)::xs) ((k,d)::ds)){ds:List (List bW×Dv)}(r:RepT K M H xs ds):P xs ds:=
 RepT.rec (motive_1:=λ_ _ _=>True) (motive_2:=λ_ _ _=>True) (motive_3:=λ_ _ _=>True) (motive_4:=λxs ds _=>P xs ds) (motive_5:=λ_ _ _=>True) trivial (λ_=>trivial) (λ_=>trivial) (λ_=>trivial) (λ_ _ _=>trivial) (λ_ _ _ _=>trivial) (λ_ _ _ _=>trivial) (λ_ _ _ _=>trivial) (λ_ _ _ _=>trivial) (λ_=>trivial) (λ_=>trivial) (λ_ _=>trivial) trivial (λ_ _ _ _=>trivial) trivial (λ_ _ _ _=>trivial) h0 (λa r _ ih=>h1 _ _ _ _ _ a r ih) trivial (λ_ _ _ _=>trivial) r
theorem RepF.ind{P:List (bv×V)->List (bv×Dv)->Prop}(h0:P [] [])(h1:∀(k:bv) (x:V) (d:Dv) (xs:List (bv×V)) (ds:List (bv×Dv)),Rep K M H x d->RepF K M H xs ds->P xs ds->P ((k,x)::xs) ((k,d)::ds)){xs:List (bv×V)}{ds:List (bv×Dv)}(r:RepF K M H xs ds):P xs ds:=
 RepF.rec (motive_1:=λ_ _ _=>True) (motive_2:=λ_ _ _=>True) (motive_3:=λ_ _ _=>True) (motive_4:=λ_ _ _=>True) (motive_5:=λxs ds _=>P xs ds) trivial (λ_=>trivial) (λ_=>trivial) (λ_=>trivial) (λ_ _ _=>trivial) (λ_ _ _ _=>trivial) (λ_ _ _ _=>trivial) (λ_ _ _ _=>trivial) (λ_ _ _ _=>trivial) (λ_=>trivial) (λ_=>trivial) (λ_ _=>trivial) trivial (λ_ _ _ _=>trivial) trivial (λ_ _ _ _=>trivial) trivial (λ_ _ _ _=>trivial) h0 (λa r _ ih=>h1 _ _ _ _ _ a r ih) r
theorem _root_.L2.TileAt.gen{k:Tk}(t:TileAt H k b)(ht:∀a xs,H a=aa (.tup xs)->H' a=aa (.tup xs)):TileAt H' k b:=let ⟨c,e1,e2⟩:=t;⟨c,ht _ _ e1,ht _ _ e2⟩
theorem Rep.gen(G:Gen K M M' H H'){x:V}{d:Dv}(r:Rep K M H x d):Rep K M' H' x d:=
 Rep.rec (motive_1:=λx d _=>Rep K M' H' x d) (motive_2:=λxs ds _=>Reps K M' H' xs ds) (motive_3:=λxs ds _=>RepK K M' H' xs ds) (motive_4:=λxs ds _=>RepT K M' H' xs ds) (motive_5:=λxs ds _=>RepF K M' H' xs ds)
  .non .bl .int .str (λh _ r=>.tup (G.t _ _ h) r) (λh m _ r=>.lst (G.l _ _ h trivial m).1 (G.l _ _ h trivial m).2 r) (λh m _ r=>.dik (G.l _ _ h trivial m).1 (G.l _ _ h trivial m).2 r) (λh m _ r=>.dit (G.l _ _ h trivial m).1 (G.l _ _ h trivial m).2 r)
  (λh m _ r=>.obj (G.l _ _ h trivial m).1 (G.l _ _ h trivial m).2 r) (λh=>.scr (G.s _ _ h)) (λ⟨o,u,h,z,y,m⟩=>.exc ⟨o,u,G.x _ _ _ h,z,y.gen G.x,m⟩) (λ⟨xs,h,e,t⟩ m=>.dns ⟨xs,(G.l _ _ h trivial m).1,e,λx hx=>(t x hx).gen G.t⟩ (G.l _ _ h trivial m).2) .nil (λ_ _ a r=>.cons a r) .nil (λ_ _ a r=>.cons a r) .nil (λ_ _ a r=>.cons a r) .nil (λ_ _ a r=>.cons a r) r
theorem Reps.gen(G:Gen K M M' H H'){xs:List V}{ds:List Dv}(r:Reps K M H xs ds):Reps K M' H' xs ds:=r.ind .nil λ_ _ _ _ a _ ih=>.cons (a.gen G) ih
theorem RepK.gen(G:Gen K M M' H H'){xs:List (bW×V)}{ds:List (bW×Dv)}(r:RepK K M H xs ds):RepK K M' H' xs ds:=r.ind .nil λ_ _ _ _ _ a _ ih=>.cons (a.gen G) ih
theorem RepT.gen(G:Gen K M M' H H'){xs:List (List bW×V)}{ds:List (List bW×Dv)}(r:RepT K M H xs ds):RepT K M' H' xs ds:=r.ind .nil λ_ _ _ _ _ a _ ih=>.cons (a.gen G) ih
theorem RepF.gen(G:Gen K M M' H H'){xs:List (bv×V)}{ds:List (bv×Dv)}(r:RepF K M H xs ds):RepF K M' H' xs ds:=r.ind .nil λ_ _ _ _ _ a _ ih=>.cons (a.gen G) ih
theorem aO.scr(S:aO H H')(h:Lr K H a ns):Lr K H' a ns:=by
 rcases h with⟨o,h⟩ | h
 ·exact .inl ⟨o,S _ _ h⟩
 ·exact .inr h
theorem Gen.mono(S:aO H H'):Gen K M M H H':=⟨λa o h _ m=>⟨S _ _ h,m⟩,λ_ _ h=>S _ _ h,λ_ _ h=>aO.scr S h,λ_ _ _ h=>S _ _ h⟩
theorem Gen.weak(h:∀a,M' a->M a):Gen K M M' H H:=⟨λa o e _ m=>⟨e,λz=>m (h a z)⟩,λ_ _ h=>h,λ_ _ h=>h,λ_ _ _ h=>h⟩
theorem Gen.fresh{p:ae}(hp:H p=au):Gen K M (λb=>M b \/ b=p) H H:=
 ⟨λa o e _ m=>⟨e,λz=>z.elim m λz=>by rw[z,hp] at e;cases e⟩,λ_ _ h=>h,λ_ _ h=>h,λ_ _ _ h=>h⟩
theorem Gen.trans(a:Gen K M M' H H')(b:Gen K M' M'' H' H''):Gen K M M'' H H'':=
 ⟨λc o e mu m=>b.l c o (a.l c o e mu m).1 mu (a.l c o e mu m).2,λc xs h=>b.t c xs (a.t c xs h),λc ns h=>b.s c ns (a.s c ns h),λc o u h=>b.x c o u (a.x c o u h)⟩
theorem DC{p:ae}{u:HO}(mu:GP (H p))(e:H a=aa u)(n:¬GP (aa u)):a≠p:=λz=>by
 subst z;rw[e] at mu;exact n mu
theorem Gen.write{p:ae}(hM:M p)(mu:GP (H p)):Gen K M M H (upd H p o):=by
 refine⟨λa u e _ m=>⟨?_,m⟩,λa xs h=>?_,λa ns h=>?_,λa o u h=>by rw[bB (DC mu h λz=>z)];exact h⟩
 ·rw[bB λz=>m (by rw[z];exact hM)];exact e
 ·rw[bB (DC mu h λz=>z)];exact h
 ·rcases h with⟨u,h⟩ | h
  ·exact .inl ⟨u,by rw[bB (DC mu h λz=>z)];exact h⟩
  ·exact .inr h
end
theorem Rep.mono{x:V}{d:Dv}(S:aO H H')(h:Rep K M H x d):Rep K M H' x d:=h.gen (.mono S)
theorem Rep.weak{x:V}{d:Dv}(w:∀a,M' a->M a)(h:Rep K M H x d):Rep K M' H x d:=h.gen (.weak w)
theorem Reps.mono{xs:List V}{ds:List Dv}(S:aO H H')(h:Reps K M H xs ds):Reps K M H' xs ds:=h.gen (.mono S)
theorem Reps.weak{xs:List V}{ds:List Dv}(w:∀a,M' a->M a)(h:Reps K M H xs ds):Reps K M' H xs ds:=h.gen (.weak w)
theorem f9{d:Dv}(f:flatDs (d::ds)=ai):kM d=ai/\flatDs ds=ai:=by
 have f':(kM d&&flatDs ds)=ai:=f;rwa[dm] at f'
theorem Rep.flat{x:V}{d:Dv}(f:kM d=ai)(r:Rep K M H x d):Rep K M' H x d:=
 Rep.rec (motive_1:=λx d _=>kM d=ai->Rep K M' H x d) (motive_2:=λxs ds _=>flatDs ds=ai->Reps K M' H xs ds) (motive_3:=λ_ _ _=>True) (motive_4:=λ_ _ _=>True) (motive_5:=λ_ _ _=>True)
  (λ_=>.non) (λb _=>.bl b) (λi _=>.int i) (λx _=>.str x) (λh _ ih f=>.tup h (ih (by rw[kM] at f;exact f))) (λ_ _ _ _ f=>by simp[kM] at f) (λ_ _ _ _ f=>by simp[kM] at f) (λ_ _ _ _ f=>by simp[kM] at f)
  (λ_ _ _ _ f=>by simp[kM] at f) (λh _=>.scr h) (λh _=>.exc h) (λ_ _ f=>by simp[kM] at f) (λ_=>.nil) (λ_ _ a r f=>.cons (a (f9 f).1) (r (f9 f).2)) trivial (λ_ _ _ _=>trivial) trivial (λ_ _ _ _=>trivial) trivial (λ_ _ _ _=>trivial) r f
theorem Reps.flat{xs:List V}{ds:List Dv}(f:flatDs ds=ai)(r:Reps K M H xs ds):Reps K M' H xs ds:=
 r.ind (P:=λxs ds=>flatDs ds=ai->Reps K M' H xs ds) (λ_=>.nil) (λ_ _ _ _ a _ ih f=>.cons (a.flat (f9 f).1) (ih (f9 f).2)) f
theorem RepF.flat{xs:List (bv×V)}{ds:List (bv×Dv)}(f:flatDs (ds.map (·.2))=ai)(r:RepF K M H xs ds):RepF K M' H xs ds:=
 r.ind (P:=λxs ds=>flatDs (ds.map (·.2))=ai->RepF K M' H xs ds) (λ_=>.nil) (λ_ _ _ _ _ a _ ih f=>.cons (a.flat (f9 f).1) (ih (f9 f).2)) f
theorem RepK.flat{xs:List (bW×V)}{ds:List (bW×Dv)}(f:flatDs (ds.map (·.2))=ai)(r:RepK K M H xs ds):RepK K M' H xs ds:=
 r.ind (P:=λxs ds=>flatDs (ds.map (·.2))=ai->RepK K M' H xs ds) (λ_=>.nil) (λ_ _ _ _ _ a _ ih f=>.cons (a.flat (f9 f).1) (ih (f9 f).2)) f
theorem RepT.flat{xs:List (List bW×V)}{ds:List (List bW×Dv)}(f:flatDs (ds.map (·.2))=ai)(r:RepT K M H xs ds):RepT K M' H xs ds:=
 r.ind (P:=λxs ds=>flatDs (ds.map (·.2))=ai->RepT K M' H xs ds) (λ_=>.nil) (λ_ _ _ _ _ a _ ih f=>.cons (a.flat (f9 f).1) (ih (f9 f).2)) f
theorem Reps.length{xs:List V}{ds:List Dv}(r:Reps K M H xs ds):xs.length=ds.length:=r.ind (P:=λxs ds=>xs.length=ds.length) rfl λ_ _ _ _ _ _ ih=>congrArg (· + 1) ih
theorem Reps.append{xs ys:List V}{es:List Dv}(r:Reps K M H xs ds)(s:Reps K M H ys es):Reps K M H (xs++ys) (ds++es):=r.ind (P:=λxs ds=>Reps K M H (xs++ys) (ds++es)) s λ_ _ _ _ a _ ih=>.cons a ih
theorem Reps.get{xs:List V}{d:Dv}(r:Reps K M H xs ds)(e:ds[i]?=aa d):∃x,xs[i]?=aa x/\Rep K M H x d:=
 r.ind (P:=λxs ds=>∀i,ds[i]?=aa d -> ∃x,xs[i]?=aa x/\Rep K M H x d) (λi e=>by rw[List.getElem?_nil] at e;cases e) (λx y xs ys a _ ih i e=>by
  cases i with
  |zero=>rw[jt] at e;cases e;exact⟨x,rfl,a⟩
  |succ i=>exact ih i e) i e
theorem Reps.take{xs:List V}{ds:List Dv}(n:Nat)(r:Reps K M H xs ds):Reps K M H (xs.take n) (ds.take n):=
 r.ind (P:=λxs ds=>∀n,Reps K M H (xs.take n) (ds.take n)) (λn=>by cases n<;>exact .nil) (λ_ _ _ _ a r ih n=>by cases n with
  |zero=>exact .nil
  |succ n=>exact .cons a (ih n)) n
theorem Reps.drop{xs:List V}{ds:List Dv}(n:Nat)(r:Reps K M H xs ds):Reps K M H (xs.drop n) (ds.drop n):=
 r.ind (P:=λxs ds=>∀n,Reps K M H (xs.drop n) (ds.drop n)) (λn=>by cases n<;>exact .nil) (λ_ _ _ _ a r ih n=>by cases n with
  |zero=>exact .cons a r
  |succ n=>exact ih n) n
theorem Reps.repl{xs:List V}{ds:List Dv}(h:Reps K M H xs ds):∀n:Nat,Reps K M H (ay n xs).flatten (ay n ds).flatten
 |0=>.nil
 |n+1=>by
  rw[kf,kf,vj,vj];exact h.append (Reps.repl h n)
theorem Reps.ints:∀ns:List Int,Reps K M H (ns.map V.int) (ns.map Dv.int)
 | []=>.nil
 |n::r=>.cons (.int n) (Reps.ints r)
def f8(K:ak)(M:ae->Prop)(H:Hp)(a:ae):Dv->Prop
 | .lst ds=>∃xs,H a=aa (.lst xs)/\Reps K M H xs ds
 | .dik ds=>∃kvs,H a=aa (.dK kvs)/\RepK K M H kvs ds
 | .dit ds=>∃ep kvs,H a=aa (.dT ep kvs)/\RepT K M H kvs ds
 | .obj C ds=>∃dx fs,H a=aa (.ins C dx fs)/\RepF K M H fs ds
 | .dns ks=>Sb H a ks
 |_=>False
def JH:Dv->Bool
 | .lst ds=>flatDs ds
 | .dik ds=>flatDs (ds.map (·.2))
 | .dit ds=>flatDs (ds.map (·.2))
 | .obj _ ds=>flatDs (ds.map (·.2))
 | .dns _=>ai
 |_=>ao
theorem f8.gen{d:Dv}(G:Gen K M M' H H')(ha:∀o,H a=aa o->H' a=aa o)(h:f8 K M H a d):f8 K M' H' a d:=by
 cases d with
 |lst ds=>obtain⟨xs,e,r⟩:=h;exact⟨xs,ha _ e,r.gen G⟩
 |dik ds=>obtain⟨xs,e,r⟩:=h;exact⟨xs,ha _ e,r.gen G⟩
 |dit ds=>obtain⟨ep,xs,e,r⟩:=h;exact⟨ep,xs,ha _ e,r.gen G⟩
 |obj C ds=>obtain⟨dx,fs,e,r⟩:=h;exact⟨dx,fs,ha _ e,r.gen G⟩
 |dns ks=>obtain⟨xs,e,k,t⟩:=h;exact⟨xs,ha _ e,k,λx hx=>(t x hx).gen G.t⟩
 |_=>exact h.elim
theorem f8.mono{d:Dv}(S:aO H H')(h:f8 K M H a d):f8 K M H' a d:=h.gen (.mono S) λo e=>S _ _ e
theorem f8.weak{d:Dv}(w:∀a,M' a->M a)(h:f8 K M H a d):f8 K M' H a d:=h.gen (.weak w) λ_ e=>e
theorem f8.flat{d:Dv}(f:JH d=ai)(h:f8 K M H a d):f8 K M' H a d:=by
 cases d with
 |lst ds=>obtain⟨xs,e,r⟩:=h;exact⟨xs,e,r.flat f⟩
 |dik ds=>obtain⟨xs,e,r⟩:=h;exact⟨xs,e,r.flat f⟩
 |dit ds=>obtain⟨ep,xs,e,r⟩:=h;exact⟨ep,xs,e,r.flat f⟩
 |obj C ds=>obtain⟨dx,fs,e,r⟩:=h;exact⟨dx,fs,e,r.flat f⟩
 |dns ks=>exact h
 |_=>exact h.elim
theorem f8.mut{d:Dv}(h:f8 K M H a d):∃o,H a=aa o/\GP (aa o):=by
 cases d with
 |lst ds=>obtain⟨xs,e,r⟩:=h;exact⟨_,e,trivial⟩
 |dik ds=>obtain⟨xs,e,r⟩:=h;exact⟨_,e,trivial⟩
 |dit ds=>obtain⟨ep,xs,e,r⟩:=h;exact⟨_,e,trivial⟩
 |obj C ds=>obtain⟨dx,fs,e,r⟩:=h;exact⟨_,e,trivial⟩
 |dns ks=>obtain⟨xs,e,_⟩:=h;exact⟨_,e,trivial⟩
 |_=>exact h.elim
theorem f8.rep{d:Dv}(h:f8 K M H a d)(m:¬M a):Rep K M H (.ref a) d:=by
 cases d with
 |lst ds=>obtain⟨xs,e,r⟩:=h;exact .lst e m r
 |dik ds=>obtain⟨xs,e,r⟩:=h;exact .dik e m r
 |dit ds=>obtain⟨ep,xs,e,r⟩:=h;exact .dit e m r
 |obj C ds=>obtain⟨dx,fs,e,r⟩:=h;exact .obj e m r
 |dns ks=>exact .dns h m
 |_=>exact h.elim
inductive Sl where
 |un
 |v (d:Dv)
 |own (a:ae) (d:Dv)
def MM(F:ae->Prop)(ρ:List Sl):ae->Prop:=λa=>F a \/ ∃d,Sl.own a d∈ρ
def xK(K:ak)(M:ae->Prop)(H:Hp)(o:Option (Option V)):Sl->Prop
 | .un=>True
 | .v d=>∃x,o=aa (aa x)/\Rep K M H x d
 | .own a d=>o=aa (aa (.ref a))/\f8 K M H a d
abbrev QR:Bool:=ao
def Oi(K:ak)(P:ae)(q:bv):Prop:=QR=ai /\ ∃(C f:ae) (o:af) (od:Option ae) (fd:ke) (sl:Array (Option af)) (c:ae) (oc:af) (odc:Option ae) (vs:Array af) (slc:Array (Option af)),
 W.nsIn K jo "Sides" = aa (aa (.ref C))/\jq K (.ref C) "last" = aa (aa (.ref f))/\K.lookup f=aa ⟨o,od,.func fd,sl⟩/\fd.code=.ref c/\K.lookup c=aa ⟨oc,odc,.fields vs,slc⟩/\vs[11]?=aa (.ref P) /\
 q = "Sides.last" ++ ".<locals>." ++ "<lambda>"
def yR(K:ak)(H:Hp):Prop:=∀P q,Oi K P q->H P=aa (.lam q)
structure OldF(K:ak)(F:ae->Prop)(HZ:Hp):Prop where
 f:∀a,F a->HZ a≠au
 t:yR K HZ
theorem yR.mono(t:yR K H)(S:aO H H'):yR K H':=λP q z=>S _ _ (t P q z)
structure Fr(K:ak)(HZ:Hp)(F:ae->Prop)(σ:St)(H:Hp)(ρ:List Sl):Prop where
 len:σ.length=ρ.length
 sl:∀(i:Nat) (s:Sl),ρ[i]?=aa s->xK K (MM F ρ) H σ[i]? s
 nd:∀(i j:Nat) (a:ae) (d d':Dv),ρ[i]?=aa (.own a d)->ρ[j]?=aa (.own a d')->i=j
 new:∀(a:ae) (d:Dv),Sl.own a d∈ρ->HZ a=au
 same:aO HZ H
 old:OldF K F HZ
variable {σ:St}{ρ:List Sl}
theorem xK.mono{o:Option (Option V)}{s:Sl}(S:aO H H')(h:xK K M H o s):xK K M H' o s:=by
 cases s with
 |un=>trivial
 |v d=>obtain⟨x,e,r⟩:=h;exact⟨x,e,r.mono S⟩
 |own a d=>exact⟨h.1,h.2.mono S⟩
theorem xK.weak{o:Option (Option V)}{s:Sl}(w:∀a,M' a->M a)(h:xK K M H o s):xK K M' H o s:=by
 cases s with
 |un=>trivial
 |v d=>obtain⟨x,e,r⟩:=h;exact⟨x,e,r.weak w⟩
 |own a d=>exact⟨h.1,h.2.weak w⟩
theorem Fr.tab(fr:Fr K HZ F σ H ρ):yR K H:=fr.old.t.mono fr.same
theorem Fr.mono(fr:Fr K HZ F σ H ρ)(S:aO H H'):Fr K HZ F σ H' ρ:=⟨fr.len,λi s e=>(fr.sl i s e).mono S,fr.nd,fr.new,fr.same.trans S,fr.old⟩
theorem Fr.at_own(fr:Fr K HZ F σ H ρ){d:Dv}(h:Sl.own a d∈ρ):∃i:Nat,ρ[i]?=aa (.own a d)/\σ[i]?=aa (aa (.ref a))/\f8 K (MM F ρ) H a d:=by
 obtain⟨i,e⟩:=qk.mp h;have:=fr.sl i _ e;exact⟨i,e,this.1,this.2⟩
theorem Fr.dom(fr:Fr K HZ F σ H ρ)(m:MM F ρ a):H a≠au:=by
 rcases m with m | ⟨d,m⟩
 ·intro e;exact fr.old.f a m (fr.same.free e)
 ·obtain⟨_,_,_,o⟩:=fr.at_own m;obtain⟨u,e,_⟩:=o.mut;rw[e];simp
theorem Fr.fresh(fr:Fr K HZ F σ H ρ)(e:H a=au):¬MM F ρ a:=λm=>fr.dom m e
inductive R where
 |v (d:Dv)
 |ow (a:ae) (d:Dv)
 |nw (d:Dv)
def R.d:R->Dv
 | .v d=>d
 | .ow _ d=>d
 | .nw d=>d
def R.free:R->Bool
 | .ow _ _=>ao
 |_=>ai
def Ab(ρ:List Sl):ae->Dv->Prop:=λa d=>Sl.own a d∈ρ
def yS:ae->Dv->Prop:=λ_ _=>False
def eD(K:ak)(M:ae->Prop)(O:ae->Dv->Prop)(H:Hp)(x:V)(r:R)(H':Hp):Prop:=match r with
 | .v d=>Rep K M H' x d
 | .ow a d=>x=.ref a/\O a d/\f8 K M H' a d
 | .nw d=>∃a,x=.ref a/\H a=au/\f8 K (λb=>M b \/ b=a) H' a d
def dP(K:ak)(M:ae->Prop)(H:Hp)(x:V)(d:Dv):Prop:=Rep K M H x d \/ ∃a,x=.ref a/\f8 K M H a d
section
variable {K:ak}{M M':ae->Prop}{O:ae->Dv->Prop}{H H' H'':Hp}{x:V}{r:R}
theorem eD.mono(h:eD K M O H x r H')(S:aO H' H''):eD K M O H x r H'':=by
 cases r with
 |v d=>exact Rep.mono S h
 |ow a d=>exact⟨h.1,h.2.1,h.2.2.mono S⟩
 |nw d=>obtain⟨a,e,n,o⟩:=h;exact⟨a,e,n,o.mono S⟩
theorem eD.ahead(h:eD K M O H1 x r H')(S:aO H H1):eD K M O H x r H':=by
 cases r with
 |v d=>exact h
 |ow a d=>exact h
 |nw d=>obtain⟨a,e,n,o⟩:=h;exact⟨a,e,S.free n,o⟩
theorem eD.c(h:eD K M O H x r H'):dP K M H' x r.d:=by
 cases r with
 |v d=>exact .inl h
 |ow a d=>exact .inr ⟨a,h.1,h.2.2⟩
 |nw d=>obtain⟨a,e,n,o⟩:=h;exact .inr ⟨a,e,o.weak λb z=>.inl z⟩
theorem eD.rep(h:eD K M O H x r H')(hM:∀a,M a->H a≠au)(f:r.free=ai):Rep K M H' x r.d:=by
 cases r with
 |v d=>exact h
 |ow a d=>simp[R.free] at f
 |nw d=>
  obtain⟨a,e,n,o⟩:=h;subst e;exact(o.weak λb z=>.inl z).rep λz=>hM a z n
theorem dP.lst{ds:List Dv}(h:dP K M H x (.lst ds)):∃a xs,x=.ref a/\H a=aa (.lst xs)/\Reps K M H xs ds:=by
 rcases h with h | ⟨a,e,xs,h1,h2⟩
 ·cases h with
  |lst h1 _ h2=>exact⟨_,_,rfl,h1,h2⟩
 ·exact⟨a,xs,e,h1,h2⟩
theorem dP.tup{ds:List Dv}(h:dP K M H x (.tup ds)):∃a xs,x=.ref a/\H a=aa (.tup xs)/\Reps K M H xs ds:=by
 rcases h with h | ⟨a,e,o⟩
 ·cases h with
  |tup h1 h2=>exact⟨_,_,rfl,h1,h2⟩
 ·exact o.elim
theorem dP.int{i:Int}(h:dP K M H x (.int i)):x=.int i:=by
 rcases h with h | ⟨a,e,o⟩
 ·cases h;rfl
 ·exact o.elim
theorem dP.bl{b:Bool}(h:dP K M H x (.bl b)):x=.bl b:=by
 rcases h with h | ⟨a,e,o⟩
 ·cases h;rfl
 ·exact o.elim
theorem dP.non(h:dP K M H x .non):x=.non:=by
 rcases h with h | ⟨a,e,o⟩
 ·cases h;rfl
 ·exact o.elim
theorem dP.str{s:bv}(h:dP K M H x (.str s)):x=.str s:=by
 rcases h with h | ⟨a,e,o⟩
 ·cases h;rfl
 ·exact o.elim
theorem dP.scr{ns:List Int}(h:dP K M H x (.scr ns)):∃a,x=.ref a/\Lr K H a ns:=by
 rcases h with h | ⟨a,e,o⟩
 ·cases h with
  |scr h=>exact⟨_,rfl,h⟩
 ·exact o.elim
theorem dP.dns{ks:List Tk}(h:dP K M H x (.dns ks)):∃a,x=.ref a/\Sb H a ks:=by
 rcases h with h | ⟨a,e,o⟩
 ·cases h with
  |dns h _=>exact⟨_,rfl,h⟩
 ·exact⟨a,e,o⟩
theorem dP.exc{C:ae}{p:Option Int}(h:dP K M H x (.exc C p)):∃a,x=.ref a/\Mq H a C p:=by
 rcases h with h | ⟨a,e,o⟩
 ·cases h with
  |exc h=>exact⟨_,rfl,h⟩
 ·exact o.elim
theorem dP.dik{ds:List (bW×Dv)}(h:dP K M H x (.dik ds)):∃a kvs,x=.ref a/\H a=aa (.dK kvs)/\RepK K M H kvs ds:=by
 rcases h with h | ⟨a,e,xs,h1,h2⟩
 ·cases h with
  |dik h1 _ h2=>exact⟨_,_,rfl,h1,h2⟩
 ·exact⟨a,xs,e,h1,h2⟩
theorem dP.dit{ds:List (List bW×Dv)}(h:dP K M H x (.dit ds)):∃a ep kvs,x=.ref a/\H a=aa (.dT ep kvs)/\RepT K M H kvs ds:=by
 rcases h with h | ⟨a,e,ep0,xs,h1,h2⟩
 ·cases h with
  |dit h1 _ h2=>exact⟨_,_,_,rfl,h1,h2⟩
 ·exact⟨a,ep0,xs,e,h1,h2⟩
theorem dP.obj{C:ae}{ds:List (bv×Dv)}(h:dP K M H x (.obj C ds)):∃a dx fs,x=.ref a/\H a=aa (.ins C dx fs)/\RepF K M H fs ds:=by
 rcases h with h | ⟨a,e,dx,fs,h1,h2⟩
 ·cases h with
  |obj h1 _ h2=>exact⟨_,_,_,rfl,h1,h2⟩
 ·exact⟨a,dx,fs,e,h1,h2⟩
end
abbrev dB:=List Sl->(R->Prop)->Prop
abbrev lP:=List Sl->(List R->Prop)->Prop
abbrev n6:=List Sl->(Bool->Prop)->Prop
def kB(K:ak)(M:ae->Prop)(O:ae->Dv->Prop)(H:Hp)(xs:List V)(rs:List R)(H':Hp):Prop:=Paired (λx r=>eD K M O H x r H') xs rs
def yV(K:ak)(M:ae->Prop)(H:Hp):List V->List Dv->Prop:=Paired (dP K M H)
variable {O:ae->Dv->Prop}
theorem kB.ahead{xs:List V}{rs:List R}(h:kB K M O H1 xs rs H')(S:aO H H1):kB K M O H xs rs H':=Paired.mapP h λ_ _ q=>q.ahead S
theorem kB.c:∀{xs:List V} {rs:List R},kB K M O H xs rs H'->yV K M H' xs (rs.map R.d)
 |_,_,.nil=>.nil
 |_,_,.cons a t=>.cons a.c (kB.c t)
theorem kB.reps(hM:∀a,M a->H a≠au):∀{xs:List V} {rs:List R},kB K M O H xs rs H'->rs.all R.free=ai->Reps K M H' xs (rs.map R.d)
 |_,_,.nil,_=>.nil
 |_,_,.cons a t,f=>by
  rw[VD,dm] at f;exact .cons (a.rep hM f.1) (kB.reps hM t f.2)
inductive lift(K:ak)(HZ:Hp)(F:ae->Prop)(t:dB)(σ:St)(H:Hp)(Q:VK):Prop
 |mk (ρ:List Sl) (fr:Fr K HZ F σ H ρ) (h:t ρ λr=>∀x H',aO H H'->eD K (MM F ρ) (Ab ρ) H x r H'->Q x H')
inductive liftA(K:ak)(HZ:Hp)(F:ae->Prop)(t:lP)(σ:St)(H:Hp)(Q:List V->Hp->Prop):Prop
 |mk (ρ:List Sl) (fr:Fr K HZ F σ H ρ) (h:t ρ λrs=>∀xs H',aO H H'->kB K (MM F ρ) (Ab ρ) H xs rs H'->Q xs H')
inductive liftT(K:ak)(HZ:Hp)(F:ae->Prop)(t:n6)(σ:St)(H:Hp)(Q:Bool->Hp->Prop):Prop
 |mk (ρ:List Sl) (fr:Fr K HZ F σ H ρ) (h:t ρ λb=>∀H',aO H H'->Q b H')
structure QE(X:Cx)(e:Expr)(t:dB):Prop where
 mono:∀(ρ:List Sl) (Q Q':R->Prop),(∀r,Q r->Q' r)->t ρ Q->t ρ Q'
 run:∀(HZ:Hp) (F:ae->Prop),PE X e (lift X.K HZ F t)
structure QA(X:Cx)(es:List Expr)(t:lP):Prop where
 mono:∀(ρ:List Sl) (Q Q':List R->Prop),(∀r,Q r->Q' r)->t ρ Q->t ρ Q'
 run:∀(HZ:Hp) (F:ae->Prop),PA X es (liftA X.K HZ F t)
structure QT(X:Cx)(e:Expr)(t:n6):Prop where
 mono:∀(ρ:List Sl) (Q Q':Bool->Prop),(∀r,Q r->Q' r)->t ρ Q->t ρ Q'
 run:∀(HZ:Hp) (F:ae->Prop),PT X e (liftT X.K HZ F t)
structure QW(X:Cx)(e:Expr)(t:n6):Prop where
 mono:∀(ρ:List Sl) (Q Q':Bool->Prop),(∀r,Q r->Q' r)->t ρ Q->t ρ Q'
 run:∀(HZ:Hp) (F:ae->Prop),PW X e (liftT X.K HZ F t)
variable {t':TT}{op:Wf}{Yl:List Expr}{ta te:dB}{ts:lP}
section
variable {a b c:Expr}{tb tc:dB}{pos:lv}
theorem cU{t t':TE}(h:PE X e t)(w:∀σ H Q,t' σ H Q->t σ H Q):PE X e t':=λpk s σ H Q I q=>h pk s σ H Q I (w σ H Q q)
theorem Ji{t t':TA}(h:PA X es t)(w:∀σ H Q,t' σ H Q->t σ H Q):PA X es t':=λpos pk s σ H Q I q=>h pos pk s σ H Q I (w σ H Q q)
theorem Aa{t:TT}(h:PT X e t)(w:∀σ H Q,t' σ H Q->t σ H Q):PT X e t':=λpk s σ H Q I q=>h pk s σ H Q I (w σ H Q q)
theorem Jg{t:TT}(h:PW X e t)(w:∀σ H Q,t' σ H Q->t σ H Q):PW X e t':=λwh pk s σ H Q I q=>h wh pk s σ H Q I (w σ H Q q)
theorem QW.qt{t:n6}(h:QW X e t):QT X e t:=⟨h.mono,λHZ F=>(h.run HZ F).pt⟩
theorem QE.step{Q:R->Prop}{Q':VK}(h:QE X e te)(fr:Fr X.K HZ F σ H ρ)(q:te ρ Q)
  (k:∀r x H',Q r->aO H H'->eD X.K (MM F ρ) (Ab ρ) H x r H'->Q' x H'):lift X.K HZ F te σ H Q':=⟨ρ,fr,h.mono _ _ _ (λr qr x H' S rx=>k r x H' qr S rx) q⟩
theorem QA.step{Q:List R->Prop}{Q':List V->Hp->Prop}(h:QA X es ts)(fr:Fr X.K HZ F σ H ρ)(q:ts ρ Q)
  (k:∀rs xs H',Q rs->aO H H'->kB X.K (MM F ρ) (Ab ρ) H xs rs H'->Q' xs H'):liftA X.K HZ F ts σ H Q':=⟨ρ,fr,h.mono _ _ _ (λr qr x H' S rx=>k r x H' qr S rx) q⟩
theorem QT.step{t:n6}{Q:Bool->Prop}{Q':Bool->Hp->Prop}(h:QT X e t)(fr:Fr X.K HZ F σ H ρ)(q:t ρ Q)
  (k:∀b H',Q b->aO H H'->Q' b H'):liftT X.K HZ F t σ H Q':=⟨ρ,fr,h.mono _ _ _ (λr qr H' S=>k r H' qr S) q⟩
def a8(i:Nat):dB:=λρ Q=>match ρ[i]? with
 |some (.v d)=>Q (.v d)
 |some (.own a d)=>Q (.ow a d)
 |_=>False
theorem a7(i:Nat){x:bv}(h:PE X (.Name x pos) (z7 i)):QE X (.Name x pos) (a8 i):=by
 refine⟨λρ Q Q' w h=>?_,λHZ F=>cU h λσ H Q ⟨ρ,fr,q⟩=>?_⟩
 ·unfold a8 at *;split at h
  ·exact w _ h
  ·exact w _ h
  ·exact h
 ·unfold a8 at q;split at q
  ·rename_i d e;obtain⟨x,hx,r⟩:=fr.sl i _ e;exact⟨x,hx,q x H (aO.refl _) r⟩
  ·rename_i a d e;obtain⟨hx,r⟩:=fr.sl i _ e;exact⟨.ref a,hx,q _ H (aO.refl _) ⟨rfl,fe e,r⟩⟩
  ·exact q.elim
def eC(d:Dv):dB:=λ_ Q=>Q (.v d)
theorem RR{v:V}{d:Dv}(h:PE X e (tC v))(r:∀M H,Rep X.K M H v d):QE X e (eC d):=
 ⟨λ_ _ _ w q=>w _ q,λHZ F=>cU h λσ H Q ⟨ρ,fr,q⟩=>q v H (aO.refl _) (r _ _)⟩
theorem aN{i j pos}:QE X (.Constant (.int i) j pos) (eC (.int i)):=RR Na λ_ _=>.int i
theorem n4{b j pos}:QE X (.Constant (.bool b) j pos) (eC (.bl b)):=RR Py λ_ _=>.bl b
theorem M7{x j pos}:QE X (.Constant (.str x) j pos) (eC (.str x)):=RR NW λ_ _=>.str x
theorem rN{x:bv}{n:Int}(hm:∃t,X.mg x=aa (.int n t))(hg:Gl X x:=by rfl)(hd:(x==("__debug__" : bv))=ao:=by decide):QE X (.Name x pos) (eC (.int n)):=RR (HQ hm hg hd) λ_ _=>.int n
def aF:lP:=λ_ Q=>Q []
def a9(te:dB)(ts:lP):lP:=λρ Q=>te ρ λr=>ts ρ λrs=>Q (r::rs)
theorem aE:QA X [] aF:=⟨λ_ _ _ w q=>w _ q,λHZ F=>Ji qA λσ H Q ⟨ρ,fr,q⟩=>q [] H (aO.refl _) .nil⟩
theorem aD(ha:QE X e te)(hr:QA X es ts)(hs:aw (e::es) X.env=(ao,gh e X.env)::aw es X.env:=by rfl):QA X (e::es) (a9 te ts):=by
 refine⟨λρ Q Q' w h=>ha.mono _ _ _ (λr q=>hr.mono _ _ _ (λrs q=>w _ q) q) h,λHZ F=>Ji (iP (ha.run HZ F) (hr.run HZ F) hs) λσ H Q ⟨ρ,fr,q⟩=>?_⟩;refine ha.step fr q λr x H1 q1 S1 r1=>?_;refine hr.step (fr.mono S1) q1 λrs xs H2 q2 S2 r2=>?_;exact q2 _ H2 (S1.trans S2) (.cons (r1.mono S2) (r2.ahead S1))
def xL(X:Cx)(f:af->af->Wm af)(p:Dv->Dv->(R->Prop)->Prop):Prop:=
 (∀dx dy (Q Q':R->Prop),(∀r,Q r->Q' r)->p dx dy Q->p dx dy Q') /\ ∃r:R2,lM X f r /\ ∀(M:ae->Prop) (O:ae->Dv->Prop) (H:Hp) (x y:V) (dx dy:Dv) (Q:VK),dP X.K M H x dx->dP X.K M H y dy ->
  p dx dy (λrr=>∀z H',aO H H'->eD X.K M O H z rr H'->Q z H')->r x y H Q
def aR(p:Dv->Dv->(R->Prop)->Prop)(ta tb:dB):dB:=λρ Q=>ta ρ λx=>tb ρ λy=>p x.d y.d Q
theorem uP{p:Dv->Dv->(R->Prop)->Prop}{r:R2}(ha:QE X a ta)(hb:QE X b tb) (hr:∀(M:ae->Prop) (O:ae->Dv->Prop) (H:Hp) (x y:V) (dx dy:Dv) (Q:VK),dP X.K M H x dx->dP X.K M H y dy ->
  p dx dy (λrr=>∀z H',aO H H'->eD X.K M O H z rr H'->Q z H')->r x y H Q) (mo:∀dx dy (Q Q':R->Prop),(∀r,Q r->Q' r)->p dx dy Q->p dx dy Q') (HZ:Hp) (F:ae->Prop) (σ:St) (H:Hp) (Q:VK)
  (h:lift X.K HZ F (aR p ta tb) σ H Q):Oz r (lift X.K HZ F ta) (lift X.K HZ F tb) σ H Q:=by
 obtain⟨ρ,fr,q⟩:=h;refine ha.step fr q λrx x H1 q1 S1 r1=>?_;refine hb.step (fr.mono S1) q1 λry y H2 q2 S2 r2=>?_;refine hr (MM F ρ) (Ab ρ) H2 x y _ _ Q (r1.mono S2).c r2.c (mo _ _ _ _ (λrr k z H' S rz=>?_) q2);exact k z H' ((S1.trans S2).trans S) (rz.ahead (S1.trans S2))
theorem sD{p:Dv->Dv->(R->Prop)->Prop}(ha:QE X a ta)(hb:QE X b tb)(mo:∀dx dy (Q Q':R->Prop),(∀r,Q r->Q' r)->p dx dy Q->p dx dy Q')(ρ:List Sl)(Q Q':R->Prop)(w:∀r,Q r->Q' r)(h:aR p ta tb ρ Q):aR p ta tb ρ Q':=
 ha.mono _ _ _ (λrx h=>hb.mono _ _ _ (λry h=>mo _ _ _ _ w h) h) h
theorem bP{op:Ut}{p:Dv->Dv->(R->Prop)->Prop}(ho:xL X (lf op) p)(ha:QE X a ta)(hb:QE X b tb):QE X (.BinOp a op b pos) (aR p ta tb):=by
 obtain⟨mo,r,hR,hr⟩:=ho;exact⟨sD ha hb mo,λHZ F=>cU (Pw hR (ha.run HZ F) (hb.run HZ F)) (uP ha hb hr mo HZ F)⟩
theorem l9{p:Dv->Dv->(R->Prop)->Prop}(ho:xL X (fm op) p)(ha:QE X a ta)(hb:QE X b tb)(hm:uq op b=ao:=by first | exact nomark _ | rfl):QE X (.Compare a [op] [b] pos) (aR p ta tb):=by
 obtain⟨mo,r,hR,hr⟩:=ho;exact⟨sD ha hb mo,λHZ F=>cU (Ki hR (ha.run HZ F) (hb.run HZ F) hm) (uP ha hb hr mo HZ F)⟩
def bI(te:dB):n6:=λρ Q=>te ρ λr=>match r.d with
 | .bl c=>Q c
 |_=>False
theorem wE(mo:∀(ρ:List Sl) (Q Q':R->Prop),(∀r,Q r->Q' r)->te ρ Q->te ρ Q')(ρ:List Sl)(Q Q':Bool->Prop)(w:∀r,Q r->Q' r)(h:bI te ρ Q):bI te ρ Q':=by
 refine mo _ _ _ (λr q=>?_) h;split at q
 ·exact w _ q
 ·exact q.elim
theorem JL{Q:Bool->Hp->Prop}(mo:∀(ρ:List Sl) (Q Q':R->Prop),(∀r,Q r->Q' r)->te ρ Q->te ρ Q')(h:liftT X.K HZ F (bI te) σ H Q):lift X.K HZ F te σ H λx H'=>∃k,x=.bl k/\Q k H':=by
 obtain⟨ρ,fr,q⟩:=h;refine⟨ρ,fr,mo _ _ _ (λr q x H' S rx=>?_) q⟩;split at q
 ·rename_i c e;have:=rx.c;rw[e] at this;exact⟨c,this.bl,q H' S⟩
 ·exact q.elim
theorem c8{p:Dv->Dv->(R->Prop)->Prop}(ho:xL X (fm op) p)(ha:QE X a ta)(hb:QE X b tb)(hm:uq op b=ao:=by first | exact nomark _ | rfl):QT X (.Compare a [op] [b] pos) (bI (aR p ta tb)):=by
 obtain⟨mo,r,hR,hr⟩:=ho;have m1:=sD ha hb mo;exact⟨wE m1,λHZ F=>Aa (KY hR (ha.run HZ F) (hb.run HZ F) hm) λσ H Q h=>uP ha hb hr mo HZ F σ H _ (JL m1 h)⟩
def xA(t u:n6):n6:=λρ Q=>t ρ λc=>if c=ai then u ρ Q else Q ao
def Le(t u:n6):n6:=λρ Q=>t ρ λc=>if c=ai then Q ai else u ρ Q
def o8(t:n6):n6:=λρ Q=>t ρ λc=>Q (!c)
theorem uF{t:n6}(h:QT X a t):QW X (.BoolOp .And [a] pos) t:=⟨h.mono,λHZ F=>KO (h.run HZ F)⟩
theorem zF{t:n6}(h:QT X a t):QW X (.BoolOp .Or [a] pos) t:=⟨h.mono,λHZ F=>NI (h.run HZ F)⟩
theorem vH{t u:n6}(h:QT X a t)(k:QW X (.BoolOp .And (b::Yl) pos) u):QW X (.BoolOp .And (a::b::Yl) pos) (xA t u):=by
 refine⟨λρ Q Q' w q=>h.mono _ _ _ (λc q=>?_) q,λHZ F=>Jg (NJ (h.run HZ F) (k.run HZ F)) λσ H Q ⟨ρ,fr,q⟩=>?_⟩
 ·split at q
  ·rw[Yh ‹_›];exact k.mono _ _ _ w q
  ·rw[XQ ‹_›];exact w _ q
 ·refine h.step fr q λc H1 q1 S1=>?_;cases c with
  |true=>
   simp only[if_true] at q1;exact u9 ⟨ρ,fr.mono S1,k.mono _ _ _ (λb q H' S=>q H' (S1.trans S)) q1⟩
  |false=>
   simp only[dq,if_false] at q1;exact uA (q1 H1 S1)
theorem Dp{t u:n6}(h:QT X a t)(k:QW X (.BoolOp .Or (b::Yl) pos) u):QW X (.BoolOp .Or (a::b::Yl) pos) (Le t u):=by
 refine⟨λρ Q Q' w q=>h.mono _ _ _ (λc q=>?_) q,λHZ F=>Jg (Pr (h.run HZ F) (k.run HZ F)) λσ H Q ⟨ρ,fr,q⟩=>?_⟩
 ·split at q
  ·rw[Yh ‹_›];exact w _ q
  ·rw[XQ ‹_›];exact k.mono _ _ _ w q
 ·refine h.step fr q λc H1 q1 S1=>?_;cases c with
  |true=>
   simp only[if_true] at q1;exact u9 (q1 H1 S1)
  |false=>
   simp only[dq,if_false] at q1;exact uA ⟨ρ,fr.mono S1,k.mono _ _ _ (λb q H' S=>q H' (S1.trans S)) q1⟩
theorem jY{t:n6}(h:QT X a t):QT X (.UnaryOp .Not a pos) (o8 t):=
 ⟨λρ Q Q' w q=>h.mono _ _ _ (λc q=>w _ q) q,λHZ F=>Aa (NL (h.run HZ F)) λσ H Q ⟨ρ,fr,q⟩=>h.step fr q λc H1 q1 S1=>q1 H1 S1⟩
def sE(ta tb:dB):dB:=λρ Q=>ta ρ λr=>match r.d with
 | .bl c=>if c=ai then tb ρ Q else Q (.v (.bl ao))
 |_=>False
def JM(ta tb:dB):dB:=λρ Q=>ta ρ λr=>match r.d with
 | .bl c=>if c=ai then Q (.v (.bl ai)) else tb ρ Q
 |_=>False
def wF(ta:dB):dB:=λρ Q=>ta ρ λr=>match r.d with
 | .bl c=>Q (.v (.bl (!c)))
 |_=>False
theorem vI{op}(h:QE X a ta):QE X (.BoolOp op [a] pos) ta:=⟨h.mono,λHZ F=>NX (h.run HZ F)⟩
theorem xT(h:QE X a ta)(k:QE X (.BoolOp .And (b::Yl) pos) tb):QE X (.BoolOp .And (a::b::Yl) pos) (sE ta tb):=by
 refine⟨λρ Q Q' w q=>h.mono _ _ _ (λc q=>?_) q,λHZ F=>cU (Nc (h.run HZ F) (k.run HZ F)) λσ H Q ⟨ρ,fr,q⟩=>?_⟩
 ·split at q
  ·split at q
   ·rw[Yh ‹_›];exact k.mono _ _ _ w q
   ·rw[XQ ‹_›];exact w _ q
  ·exact q
 ·refine h.step fr q λr x H1 q1 S1 r1=>?_;split at q1
  ·rename_i c e;have rc:=r1.c;rw[e] at rc;refine⟨c,rc.bl,?_⟩;cases c with
   |true=>
    simp only[if_true] at q1;exact u9 ⟨ρ,fr.mono S1,k.mono _ _ _ (λb q z H' S rz=>q z H' (S1.trans S) (rz.ahead S1)) q1⟩
   |false=>
    simp only[dq,if_false] at q1;exact uA (q1 _ H1 S1 (Rep.bl ao))
  ·exact q1.elim
theorem Pl(h:QE X a ta)(k:QE X (.BoolOp .Or (b::Yl) pos) tb):QE X (.BoolOp .Or (a::b::Yl) pos) (JM ta tb):=by
 refine⟨λρ Q Q' w q=>h.mono _ _ _ (λc q=>?_) q,λHZ F=>cU (Pv (h.run HZ F) (k.run HZ F)) λσ H Q ⟨ρ,fr,q⟩=>?_⟩
 ·split at q
  ·split at q
   ·rw[Yh ‹_›];exact w _ q
   ·rw[XQ ‹_›];exact k.mono _ _ _ w q
  ·exact q
 ·refine h.step fr q λr x H1 q1 S1 r1=>?_;split at q1
  ·rename_i c e;have rc:=r1.c;rw[e] at rc;refine⟨c,rc.bl,?_⟩;cases c with
   |true=>
    simp only[if_true] at q1;exact u9 (q1 _ H1 S1 (Rep.bl ai))
   |false=>
    simp only[dq,if_false] at q1;exact uA ⟨ρ,fr.mono S1,k.mono _ _ _ (λb q z H' S rz=>q z H' (S1.trans S) (rz.ahead S1)) q1⟩
  ·exact q1.elim
theorem Dq(h:QE X a ta):QE X (.UnaryOp .Not a pos) (wF ta):=by
 refine⟨λρ Q Q' w q=>h.mono _ _ _ (λc q=>?_) q,λHZ F=>cU (NY (h.run HZ F)) λσ H Q ⟨ρ,fr,q⟩=>?_⟩
 ·split at q
  ·exact w _ q
  ·exact q
 ·refine h.step fr q λr x H1 q1 S1 r1=>?_;split at q1
  ·rename_i c e;have rc:=r1.c;rw[e] at rc;exact⟨c,rc.bl,q1 _ H1 S1 (Rep.bl _)⟩
  ·exact q1.elim
def Sq(t:n6)(ta tb:dB):dB:=λρ Q=>t ρ λc=>if c=ai then ta ρ Q else tb ρ Q
def gH(ts:lP):dB:=λρ Q=>ts ρ λrs=>rs.all R.free=ai/\rs.length<=1000/\Q (.v (.tup (rs.map R.d)))
def jL(ts:lP):dB:=λρ Q=>ts ρ λrs=>rs.all R.free=ai/\rs.length<=1000/\Q (.nw (.lst (rs.map R.d)))
theorem tL(h:n<=1000):n<=bu:=Vp (FA h)
theorem aO.new'{l:ae}(hl:H l=au):aO H (upd H l o):=λb q e=>by rw[bB (bL e hl)];exact e
theorem h7{x1}(h:QA X es ts):QE X (.Tuple es x1 pos) (gH ts):=by
 refine⟨λρ Q Q' w q=>h.mono _ _ _ (λrs q=>⟨q.1,q.2.1,w _ q.2.2⟩) q,λHZ F=>cU (NV (h.run HZ F)) λσ H Q ⟨ρ,fr,q⟩=>?_⟩;refine h.step fr q λrs xs H1 ⟨q1,q2,q3⟩ S1 r1=>?_;have hl:xs.length=rs.length:=Paired.length r1;refine⟨tL ⋯,λp hp=>q3 _ _ (S1.trans (aO.new' hp)) ?_⟩;exact .tup bT ((r1.reps (λa m=>fr.dom m) q1).mono (aO.new' hp))
theorem iG(h:QA X es ts):QE X (.List es pos) (jL ts):=by
 refine⟨λρ Q Q' w q=>h.mono _ _ _ (λrs q=>⟨q.1,q.2.1,w _ q.2.2⟩) q,λHZ F=>cU (NZ (h.run HZ F)) λσ H Q ⟨ρ,fr,q⟩=>?_⟩;refine h.step fr q λrs xs H1 ⟨q1,q2,q3⟩ S1 r1=>?_;have hl:xs.length=rs.length:=Paired.length r1;refine⟨tL ⋯,λp hp=>q3 _ _ (S1.trans (aO.new' hp)) ?_⟩;exact⟨p,rfl,S1.free hp,xs,bT,((r1.reps (λa m=>fr.dom m) q1).gen (.fresh hp)).mono (aO.new' hp)⟩
end
abbrev Ac:Nat:=1000000
theorem j6(h:n<=Ac):n<=bu:=ly h (by rw[kg];decide)
theorem k6{p:ae}{xs:List V}(hp:H p=au)(r:Reps K M H xs ds):eD K M O H (.ref p) (.nw (.lst ds)) (upd H p (.lst xs)):=⟨p,rfl,hp,xs,bT,(r.gen (.fresh hp)).mono (aO.new' hp)⟩
theorem Lu{p:ae}{xs:List V}(hp:H p=au)(r:Reps K M H xs ds):eD K M O H (.ref p) (.v (.tup ds)) (upd H p (.tup xs)):=Rep.tup bT (r.mono (aO.new' hp))
def dD:Dv->Dv->(R->Prop)->Prop
 | .int i,.int j,Q=>Q (.v (.int (i+j)))
 | .lst xs,.lst ys,Q=>xs.length+ys.length<=Ac/\Q (.nw (.lst (xs++ys)))
 | .str x,.str y,Q=>x.length+y.length<=Ac/\Q (.v (.str (x++y)))
 |_,_,_=>False
def lC:Dv->Dv->(R->Prop)->Prop
 | .int i,.int j,Q=>Q (.v (.int (i-j)))
 |_,_,_=>False
def tY(i j:Int):Prop:=Ol i j \/ (i.natAbs<2 ^ 4000/\j.natAbs<2 ^ 4000)
def gK:Dv->Dv->(R->Prop)->Prop
 | .int i,.int j,Q=>tY i j/\Q (.v (.int (i*j)))
 | .lst xs,.int k,Q=>(-(2 ^ 63)<=k/\k<2 ^ 63/\xs.length*k.toNat<=Ac)/\Q (.nw (.lst (ay k.toNat xs).flatten))
 |_,_,_=>False
def n5:Dv->Dv->(R->Prop)->Prop
 | .int i,.int j,Q=>(0<j/\j<2 ^ 200)/\Q (.v (.int (i / j)))
 |_,_,_=>False
def rW:Dv->Dv->(R->Prop)->Prop
 | .int i,.int j,Q=>(j≠0/\j.natAbs<2 ^ 4000)/\Q (.v (.int (i.fdiv j)))
 |_,_,_=>False
def hW:Dv->Dv->(R->Prop)->Prop
 | .int i,.int j,Q=>0<j/\Q (.v (.int (i % j)))
 |_,_,_=>False
def Rx:Dv->Dv->(R->Prop)->Prop
 | .int i,.int j,Q=>Jl i j/\Q (.v (.int (i ^ j.toNat)))
 |_,_,_=>False
variable {f:Int->Int->Bool}
theorem FW:∀dx dy (Q Q':R->Prop),(∀r,Q r->Q' r)->dD dx dy Q->dD dx dy Q':=by
 intro dx dy Q Q' w h;unfold dD at h;split at h
 ·exact w _ h
 ·exact⟨h.1,w _ h.2⟩
 ·exact⟨h.1,w _ h.2⟩
 ·exact h.elim
theorem bU:xL X (lf .Add) dD:=by
 refine⟨FW,_,Nt.or (Nr.or DB),λM O H x y dx dy Q cx cy h=>?_⟩;unfold dD at h;split at h
 ·obtain rfl:=cx.int;obtain rfl:=cy.int;exact .inl ⟨_,_,rfl,rfl,h _ H (aO.refl _) (Rep.int _)⟩
 ·obtain⟨a,xs,rfl,ea,ra⟩:=cx.lst;obtain⟨b,ys,rfl,eb,rb⟩:=cy.lst;have l1:=ra.length;have l2:=rb.length;exact .inr (.inl ⟨a,b,xs,ys,rfl,rfl,ea,eb,j6 ⋯,λp hp=>h.2 _ _ (aO.new' hp) (k6 hp (ra.append rb))⟩)
 ·obtain rfl:=cx.str;obtain rfl:=cy.str;exact .inr (.inr ⟨_,_,rfl,rfl,j6 h.1,h.2 _ H (aO.refl _) (Rep.str _)⟩)
 ·exact h.elim
theorem FQ:∀dx dy (Q Q':R->Prop),(∀r,Q r->Q' r)->lC dx dy Q->lC dx dy Q':=by
 intro dx dy Q Q' w h;unfold lC at h;split at h
 ·exact w _ h
 ·exact h.elim
theorem kI:xL X (lf .Sub) lC:=by
 refine⟨FQ,_,Ni,λM O H x y dx dy Q cx cy h=>?_⟩;unfold lC at h;split at h
 ·obtain rfl:=cx.int;obtain rfl:=cy.int;exact⟨_,_,rfl,rfl,h _ H (aO.refl _) (Rep.int _)⟩
 ·exact h.elim
theorem tY.ok{i j:Int}(h:tY i j):IntMulOk i j:=by
 rcases h with h | ⟨h1,h2⟩
 ·exact h.ok
 ·have key:∀{z:Int},z.natAbs<2 ^ 4000->UW z<=2 ^ 20:=λ{z} hz=>by
   have hl:z.natAbs≠0->z.natAbs.log2<4000:=λh0=>(log2_lt h0).mpr hz;clear hz h1 h2;unfold UW;by_cases h0:z=0
   ·simp[h0]
   ·have:=hl ⋯;simp[h0];right
  exact IntMulOk.of_bits (key h1) (key h2)
theorem Kq:lM X (lf .Mult) (rI tY λi j=>.int (i*j)):=QD λ_ _ _ _ _ _ _ hc q=>mul_int q hc.ok
theorem FR:∀dx dy (Q Q':R->Prop),(∀r,Q r->Q' r)->gK dx dy Q->gK dx dy Q':=by
 intro dx dy Q Q' w h;unfold gK at h;split at h
 ·exact⟨h.1,w _ h.2⟩
 ·exact⟨h.1,w _ h.2⟩
 ·exact h.elim
theorem dL:xL X (lf .Mult) gK:=by
 refine⟨FR,_,Kq.or Nk,λM O H x y dx dy Q cx cy h=>?_⟩;unfold gK at h;split at h
 ·obtain rfl:=cx.int;obtain rfl:=cy.int;exact .inl ⟨_,_,rfl,rfl,h.1,h.2 _ H (aO.refl _) (Rep.int _)⟩
 ·obtain⟨a,xs,rfl,ea,ra⟩:=cx.lst;obtain rfl:=cy.int;have l1:=ra.length;exact .inr ⟨a,_,xs,rfl,rfl,ea,h.1.1,h.1.2.1,j6 (by rw[l1];exact h.1.2.2),λp hp=>h.2 _ _ (aO.new' hp) (k6 hp (ra.repl _))⟩
 ·exact h.elim
theorem FV:∀dx dy (Q Q':R->Prop),(∀r,Q r->Q' r)->n5 dx dy Q->n5 dx dy Q':=by
 intro dx dy Q Q' w h;unfold n5 at h;split at h
 ·exact⟨h.1,w _ h.2⟩
 ·exact h.elim
theorem kJ:xL X (lf .FloorDiv) n5:=by
 refine⟨FV,_,IA,λM O H x y dx dy Q cx cy h=>?_⟩;unfold n5 at h;split at h
 ·obtain rfl:=cx.int;obtain rfl:=cy.int;exact⟨_,_,rfl,rfl,h.1,h.2 _ H (aO.refl _) (Rep.int _)⟩
 ·exact h.elim
theorem I0:lM X (lf .FloorDiv) (rI (λ_ j=>j≠0/\j.natAbs<2 ^ 4000) λi j=>.int (i.fdiv j)):=QD λi j _ _ _ _ _ hc q=>by
 refine floordiv_int hc.1 q (.inl (Td ?_));have h0:j.natAbs≠0:=λz=>hc.1 (Int.natAbs_eq_zero.mp z);have:=(log2_lt h0).mpr hc.2;clear hc;right
theorem D9:∀dx dy (Q Q':R->Prop),(∀r,Q r->Q' r)->rW dx dy Q->rW dx dy Q':=by
 intro dx dy Q Q' w h;unfold rW at h;split at h
 ·exact⟨h.1,w _ h.2⟩
 ·exact h.elim
theorem BY:xL X (lf .FloorDiv) rW:=by
 refine⟨D9,_,I0,λM O H x y dx dy Q cx cy h=>?_⟩;unfold rW at h;split at h
 ·obtain rfl:=cx.int;obtain rfl:=cy.int;exact⟨_,_,rfl,rfl,h.1,h.2 _ H (aO.refl _) (Rep.int _)⟩
 ·exact h.elim
theorem FT:∀dx dy (Q Q':R->Prop),(∀r,Q r->Q' r)->hW dx dy Q->hW dx dy Q':=by
 intro dx dy Q Q' w h;unfold hW at h;split at h
 ·exact⟨h.1,w _ h.2⟩
 ·exact h.elim
theorem dX:xL X (lf .Mod) hW:=by
 refine⟨FT,_,Nm,λM O H x y dx dy Q cx cy h=>?_⟩;unfold hW at h;split at h
 ·obtain rfl:=cx.int;obtain rfl:=cy.int;exact⟨_,_,rfl,rfl,h.1,h.2 _ H (aO.refl _) (Rep.int _)⟩
 ·exact h.elim
def Lf(ta:dB):dB:=λρ Q=>ta ρ λr=>match r.d with
 | .int i=>Q (.v (.int (-i)))
 |_=>False
theorem Pn{a:Expr}{pos:lv}(h:QE X a ta):QE X (.UnaryOp .USub a pos) (Lf ta):=by
 refine⟨λρ Q Q' w q=>h.mono _ _ _ (λc q=>?_) q,λHZ F=>cU (Pu Mt (h.run HZ F)) λσ H Q ⟨ρ,fr,q⟩=>?_⟩
 ·split at q
  ·exact w _ q
  ·exact q
 ·refine h.step fr q λr x H1 q1 S1 r1=>?_;split at q1
  ·rename_i i e;have rc:=r1.c;rw[e] at rc;exact⟨i,rc.int,q1 _ H1 S1 (Rep.int _)⟩
  ·exact q1.elim
def zP(f:Int->Int->Bool):Dv->Dv->(R->Prop)->Prop
 | .int i,.int j,Q=>Q (.v (.bl (f i j)))
 |_,_,_=>False
theorem vP:∀dx dy (Q Q':R->Prop),(∀r,Q r->Q' r)->zP f dx dy Q->zP f dx dy Q':=by
 intro dx dy Q Q' w h;unfold zP at h;split at h
 ·exact w _ h
 ·exact h.elim
theorem DA{g:af->af->Wm af}(h:lM X g (Cw λi j=>.bl (f i j))):xL X g (zP f):=by
 refine⟨vP,_,h,λM O H x y dx dy Q cx cy h=>?_⟩;unfold zP at h;split at h
 ·obtain rfl:=cx.int;obtain rfl:=cy.int;exact⟨_,_,rfl,rfl,h _ H (aO.refl _) (Rep.bl _)⟩
 ·exact h.elim
abbrev zO:=zP λi j=>decide (i<j)
abbrev Q8:=zP λi j=>decide (i<=j)
abbrev EI:=zP λi j=>decide (j<i)
theorem nV:xL X (fm .Lt) zO:=DA BZ
theorem Hy:xL X (fm .LtE) Q8:=DA Hz
theorem kW:xL X (fm .Gt) EI:=DA QC
def mQ(p p':Dv->Dv->(R->Prop)->Prop)(ta tb tc:dB):dB:=λρ Q=>ta ρ λx=>tb ρ λy=>p x.d y.d λz=>match z.d with
 | .bl k=>if k=ai then tc ρ λw=>p' y.d w.d Q else Q (.v (.bl ao))
 |_=>False
def isN:Dv->Bool
 | .non=>ai
 |_=>ao
def Ry:Dv->Dv->(R->Prop)->Prop
 |d,.non,Q=>Q (.v (.bl (isN d)))
 |_,_,_=>False
def Q4:Dv->Dv->(R->Prop)->Prop
 |d,.non,Q=>Q (.v (.bl (!isN d)))
 |_,_,_=>False
def gO:Dv->Xs
 | .non=>.none
 | .bl b=>.bool b
 | .int i=>.int i
 | .str x=>.str x
 | .tup xs=>.tuple (pyDs xs)
 | .lst xs=>.list (pyDs xs)
 | .scr ns=>.list (ns.map .int)
 |_=>.dict []
where pyDs:List Dv->List Xs
 | []=>[]
 |d::r=>gO d::pyDs r
abbrev pyDs:=gO.pyDs
def dR:Nat->Dv->Bool
 |_,.non=>ai
 |_,.bl _=>ai
 |_,.int _=>ai
 |_,.str x=>PyData.strOk x
 |n+1,.tup xs=>okDs n xs
 |n+1,.lst xs=>okDs n xs
 |_+1,.scr _=>ai
 |_,_=>ao
where okDs:Nat->List Dv->Bool
 |_,[]=>ai
 |n,d::r=>dR n d&&okDs n r
abbrev okDs:=dR.okDs
def eqD(a b:Dv):Bool:=ja (gO a) (gO b)
theorem CN(ns:List Int):pi (ns.map .int)=ai:=by
 induction ns with
 |nil=>rfl
 |cons n r ih=>rw[cr,pi,ih];rfl
theorem DX(ns:List Int):mw (ns.map .int)=0:=by
 induction ns with
 |nil=>rfl
 |cons n r ih=>rw[cr,mw,ih];rfl
mutual
theorem rZ:∀(n:Nat) (d:Dv),dR n d=ai->(gO d).canLay0=ai/\(gO d).depth<=n
 |_,.non,_=>⟨by simp[gO,qm],by simp[gO,PyData.depth]⟩
 |_,.bl _,_=>⟨by simp[gO,qm],by simp[gO,PyData.depth]⟩
 |_,.int _,_=>⟨by simp[gO,qm],by simp[gO,PyData.depth]⟩
 |_,.str x,h=>⟨by rw[gO,qm];cases ‹Nat›<;>simpa [dR] using h,by simp[gO,PyData.depth]⟩
 |0,.tup _,h=>by simp[dR] at h
 |0,.lst _,h=>by simp[dR] at h
 |0,.scr _,h=>by simp[dR] at h
 |n+1,.tup xs,h=>by
  have:=vQ n xs (by rw[dR] at h;exact h);exact⟨by rw[gO,qm];exact this.1,by rw[gO,PyData.depth];have h2:mw (gO.pyDs xs)<=n:=this.2;right⟩
 |n+1,.lst xs,h=>by
  have:=vQ n xs (by rw[dR] at h;exact h);exact⟨by rw[gO,qm];exact this.1,by rw[gO,PyData.depth];have h2:mw (gO.pyDs xs)<=n:=this.2;right⟩
 |n+1,.scr ns,_=>⟨by rw[gO,qm];exact CN ns,by rw[gO,PyData.depth,DX];right⟩
 |0,.dik _,h=>by simp[dR] at h
 |0,.dit _,h=>by simp[dR] at h
 |0,.obj _ _,h=>by simp[dR] at h
 |0,.exc _ _,h=>by simp[dR] at h
 |_+1,.exc _ _,h=>by simp[dR] at h
 |0,.dns _,h=>by simp[dR] at h
 |_+1,.dns _,h=>by simp[dR] at h
 |_+1,.dik _,h=>by simp[dR] at h
 |_+1,.dit _,h=>by simp[dR] at h
 |_+1,.obj _ _,h=>by simp[dR] at h
theorem vQ:∀(n:Nat) (ds:List Dv),okDs n ds=ai->pi (pyDs ds)=ai/\mw (pyDs ds)<=n
 |_,[],_=>⟨by simp[gO.pyDs,pi],by simp[gO.pyDs,mw]⟩
 |n,d::r,h=>by
  have h':(dR n d&&okDs n r)=ai:=h;rw[dm] at h';have h1:=rZ n d h'.1;have h2:=vQ n r h'.2;refine⟨by show pi (gO d::pyDs r)=ai;rw[pi,h1.1,h2.1];rfl,?_⟩;show mw (gO d::pyDs r)<=n;rw[mw];right
end
theorem mK{d:Dv}(h:dR n d=ai)(hn:n<=64):Xu (gO d)=ai:=by
 obtain⟨h1,h2⟩:=rZ n d h;unfold Xu;rw[h1,decide_eq_true ⋯];rfl
theorem w6{h:dk}:∀{ns:List Int} {us:List af},bV (ns.map V.int) us -> ∃as,WQ h us (ns.map PyData.int) as
 | [],_,.nil=>⟨_,.nil⟩
 |n::r,_,.cons a t=>by
  obtain⟨tk,rfl⟩:=a;obtain⟨as,q⟩:=w6 (h:=h) t;exact⟨_,.cons (.int n tk) q⟩
theorem uH{d:Dv}(f:okDs n (d::ds)=ai):dR n d=ai/\okDs n ds=ai:=by
 have f':(dR n d&&okDs n ds)=ai:=f;rwa[dm] at f'
theorem Rep.reads(I:Inv X pk σ H s){x:V}{d:Dv}(q:Rep X.K M H x d)(ok:dR n d=ai)(r:cO x u):∃as,Xg s.heap u (gO d) as:=by
 refine Rep.rec (motive_1:=λx d _=>∀n u,dR n d=ai->cO x u -> ∃as,Xg s.heap u (gO d) as) (motive_2:=λxs ds _=>∀n us,okDs n ds=ai->bV xs us -> ∃as,WQ s.heap us (pyDs ds) as) (motive_3:=λ_ _ _=>True) (motive_4:=λ_ _ _=>True) (motive_5:=λ_ _ _=>True)
  (λn u _ r=>by cases r;exact⟨_,.none⟩) (λb n u _ r=>by cases r;exact⟨_,.bool b⟩) (λi n u _ r=>by obtain⟨t,rfl⟩:=r;exact⟨_,.int i t⟩) (λy n u _ r=>by obtain⟨t,rfl⟩:=r;exact⟨_,.str y t⟩) ?tup ?lst ?dik ?dit ?obj ?scr ?exc ?dns ?nil ?cons
  trivial (λ_ _ _ _=>trivial) trivial (λ_ _ _ _=>trivial) trivial (λ_ _ _ _=>trivial) q n u ok r
 case tup=>
  intro a xs ds e _ ih n u ok r;cases n with
  |zero=>simp[dR] at ok
  |succ n=>
   cases r;obtain⟨_,its,rv,o,ho,hc,m,hd⟩:=I.hok _ _ e;obtain⟨as,ra⟩:=ih n its (by rw[dR] at ok;exact ok) rv;exact⟨_,.tuple ho hc hd ra⟩
 case lst=>
  intro a xs ds e _ _ ih n u ok r;cases n with
  |zero=>simp[dR] at ok
  |succ n=>
   cases r;obtain⟨_,its,m,rv,ho⟩:=I.hok _ _ e;obtain⟨as,ra⟩:=ih n its (by rw[dR] at ok;exact ok) rv;exact⟨_,.list ho rfl rfl ra⟩
 case dik=>intro a xs ds _ _ _ _ n u ok;cases n<;>simp[dR] at ok
 case dit=>intro a ep xs ds _ _ _ _ n u ok;cases n<;>simp[dR] at ok
 case obj=>intro a C dx xs ds _ _ _ _ n u ok;cases n<;>simp[dR] at ok
 case scr=>
  intro a ns e n u _ r;cases r;obtain⟨its,rv,pl,_⟩:=I.list e.sq;obtain⟨o,ho,hc,m,hd⟩:=pl.isList;obtain⟨as,ra⟩:=w6 (h:=s.heap) rv;exact⟨_,.list ho hc hd (by simpa using ra)⟩
 case exc=>intro a C p _ n u ok;cases n<;>simp[dR] at ok
 case dns=>intro a ks _ _ n u ok;cases n<;>simp[dR] at ok
 case nil=>intro n us _ r;cases r;exact⟨_,.nil⟩
 case cons=>
  intro x d xs ds _ _ i1 i2 n us ok r;cases r with
  |cons r1 r2=>
   obtain⟨as,ra⟩:=i1 n _ (uH ok).1 r1;obtain⟨bs,rb⟩:=i2 n _ (uH ok).2 r2;exact⟨_,.cons ra rb⟩
theorem Reps.reads(I:Inv X pk σ H s){n:Nat}{xs:List V}{ds:List Dv}{us:List af}(q:Reps X.K M H xs ds)(ok:okDs n ds=ai)(r:bV xs us):∃as,WQ s.heap us (pyDs ds) as:=
 q.ind (P:=λxs ds=>∀us,okDs n ds=ai->bV xs us -> ∃as,WQ s.heap us (pyDs ds) as) (λus _ r=>by cases r;exact⟨_,.nil⟩) (λx d xs ds a _ ih us ok r=>by
  cases r with
  |cons r1 r2=>
   obtain⟨as,ra⟩:=a.reads I (uH ok).1 r1;obtain⟨bs,rb⟩:=ih _ (uH ok).2 r2;exact⟨_,.cons ra rb⟩) us ok r
theorem dP.reads(I:Inv X pk σ H s){n:Nat}{x:V}{d:Dv}{u:af}(c:dP X.K M H x d)(ok:dR n d=ai)(r:cO x u):∃as,Xg s.heap u (gO d) as:=by
 rcases c with c | ⟨a,rfl,o⟩
 ·exact c.reads I ok r
 ·cases d with
  |lst ds=>
   obtain⟨xs,e,q⟩:=o;cases r;cases n with
   |zero=>simp[dR] at ok
   |succ n=>
    obtain⟨_,its,m,rv,ho⟩:=I.hok _ _ e;obtain⟨as,ra⟩:=Reps.reads I q (by rw[dR] at ok;exact ok) rv;exact⟨_,.list ho rfl rfl ra⟩
  |dik _=>cases n<;>simp[dR] at ok
  |dit _=>cases n<;>simp[dR] at ok
  |obj _ _=>cases n<;>simp[dR] at ok
  |dns _=>cases n<;>simp[dR] at ok
  |_=>exact o.elim
def sI:Dv->Dv->(R->Prop)->Prop
 | .int i,.int j,Q=>Q (.v (.bl (decide (i=j))))
 |dx,dy,Q=>(dR 8 dx=ai/\dR 8 dy=ai)/\Q (.v (.bl (eqD dx dy)))
def xZ:Dv->Dv->(R->Prop)->Prop
 | .int i,.int j,Q=>Q (.v (.bl (!decide (i=j))))
 |dx,dy,Q=>(dR 8 dx=ai/\dR 8 dy=ai)/\Q (.v (.bl (!eqD dx dy)))
def Rt(K:ak):R2:=λx y H Q=>∃M dx dy,dP K M H x dx/\dP K M H y dy/\dR 8 dx=ai/\dR 8 dy=ai/\Q (.bl (eqD dx dy)) H
def Ro(K:ak):R2:=λx y H Q=>∃M dx dy,dP K M H x dx/\dP K M H y dy/\dR 8 dx=ai/\dR 8 dy=ai/\Q (.bl (!eqD dx dy)) H
theorem Nq(hu:X.A.units+64<jy):lM X (fm .Eq) (Rt X.K):=by
 intro pk s σ H x y v u Q I rx ry h;obtain⟨M,dx,dy,r1,r2,o1,o2,q⟩:=h;obtain⟨as,ra⟩:=r1.reads I o1 rx;obtain⟨bs,rb⟩:=r2.reads I o2 ry;exact SeqAt.compareEq_shaped ra rb (mK o1 ∅) (mK o2 ∅) hu ⟨.bl _,H,I,rfl,q⟩
theorem Nl(hu:X.A.units+64<jy):lM X (fm .NotEq) (Ro X.K):=by
 intro pk s σ H x y v u Q I rx ry h;obtain⟨M,dx,dy,r1,r2,o1,o2,q⟩:=h;obtain⟨as,ra⟩:=r1.reads I o1 rx;obtain⟨bs,rb⟩:=r2.reads I o2 ry;exact SeqAt.compareNe_shaped ra rb (mK o1 ∅) (mK o2 ∅) hu ⟨.bl _,H,I,rfl,q⟩
theorem AC(i j:Int):eqD (.int i) (.int j)=decide (i=j):=by
 show ja (.int i) (.int j)=_;rw[ja];exact Bool.beq_eq_decide_eq i j
theorem gG(hu:X.A.units+64<jy):xL X (fm .Eq) sI:=by
 refine⟨λdx dy Q Q' w h=>?_,_,Nq hu,λM O H x y dx dy Q cx cy h=>?_⟩
 ·unfold sI at *;split at h
  ·exact w _ h
  ·exact⟨h.1,w _ h.2⟩
 ·unfold sI at h;split at h
  ·refine⟨M,_,_,cx,cy,by simp[dR],by simp[dR],?_⟩;rw[AC];exact h _ H (aO.refl _) (Rep.bl _)
  ·exact⟨M,_,_,cx,cy,h.1.1,h.1.2,h.2 _ H (aO.refl _) (Rep.bl _)⟩
theorem qD(hu:X.A.units+64<jy):xL X (fm .NotEq) xZ:=by
 refine⟨λdx dy Q Q' w h=>?_,_,Nl hu,λM O H x y dx dy Q cx cy h=>?_⟩
 ·unfold xZ at *;split at h
  ·exact w _ h
  ·exact⟨h.1,w _ h.2⟩
 ·unfold xZ at h;split at h
  ·refine⟨M,_,_,cx,cy,by simp[dR],by simp[dR],?_⟩;rw[AC];exact h _ H (aO.refl _) (Rep.bl _)
  ·exact⟨M,_,_,cx,cy,h.1.1,h.1.2,h.2 _ H (aO.refl _) (Rep.bl _)⟩
structure En where
 nx:List Sl->Prop
 rt:R->Prop
 bk:List Sl->Prop:=λ_=>False
 ct:List Sl->Prop:=λ_=>False
abbrev cE:=En->List Sl->Prop
structure EnLe(E E':En):Prop where
 nx:∀ρ,E.nx ρ->E'.nx ρ
 rt:∀r,E.rt r->E'.rt r
 bk:∀ρ,E.bk ρ->E'.bk ρ
 ct:∀ρ,E.ct ρ->E'.ct ρ
structure Ent(K:ak)(HZ:Hp)(F:ae->Prop)(E:En)(D:Ends):Prop where
 nx:∀ρ σ H,Fr K HZ F σ H ρ->E.nx ρ->D.nx σ H
 bk:∀ρ σ H,Fr K HZ F σ H ρ->E.bk ρ->D.bk σ H
 ct:∀ρ σ H,Fr K HZ F σ H ρ->E.ct ρ->D.ct σ H
 rt:∀r x H,aO HZ H->eD K F yS HZ x r H->E.rt r->D.rt x H
inductive liftS(K:ak)(HZ:Hp)(F:ae->Prop)(t:cE)(D:Ends)(σ:St)(H:Hp):Prop
 |mk (ρ:List Sl) (E:En) (fr:Fr K HZ F σ H ρ) (h:t E ρ) (en:Ent K HZ F E D)
structure QS(X:Cx)(st:ku)(t:cE):Prop where
 mono:∀E E' ρ,EnLe E E'->t E ρ->t E' ρ
 run:∀(HZ:Hp) (F:ae->Prop),PS X st (liftS X.K HZ F t)
structure QSs(X:Cx)(sts:List ku)(t:cE):Prop where
 mono:∀E E' ρ,EnLe E E'->t E ρ->t E' ρ
 run:∀(HZ:Hp) (F:ae->Prop),uT X sts (liftS X.K HZ F t)
variable {E:En}{sts:List ku}
section
variable {st:ku}{t u:cE}{c:Expr}{pos:lv}
theorem dQ{t t':TS}(h:PS X st t)(w:∀D σ H,t' D σ H->t D σ H):PS X st t':=λpk s σ H D I q=>h pk s σ H D I (w D σ H q)
theorem uS{t t':TS}(h:uT X sts t)(w:∀D σ H,t' D σ H->t D σ H):uT X sts t':=λpk s σ H D I q=>h pk s σ H D I (w D σ H q)
def cB:cE:=λE ρ=>E.nx ρ
def aV(t u:cE):cE:=λE ρ=>t { E with nx:=u E } ρ
theorem bY:QSs X [] cB:=⟨λE E' ρ w h=>w.nx _ h,λHZ F=>uS KZ λD σ H ⟨ρ,E,fr,h,en⟩=>en.nx _ _ _ fr h⟩
theorem EnLe.with_nx{E':En}{a b:List Sl->Prop}(w:EnLe E E')(h:∀ρ,a ρ->b ρ):EnLe { E with nx:=a } { E' with nx:=b }:=⟨h,w.rt,w.bk,w.ct⟩
theorem aG(h1:QS X st t)(h2:QSs X sts u):QSs X (st::sts) (aV t u):=by
 refine⟨λE E' ρ w h=>h1.mono _ _ _ (w.with_nx λρ h=>h2.mono _ _ _ w h) h,λHZ F=>uS (B9 (h1.run HZ F) (h2.run HZ F)) λD σ H ⟨ρ,E,fr,h,en⟩=>?_⟩;exact⟨ρ,_,fr,h,λρ' σ' H' fr' h'=>⟨ρ',E,fr',h',en⟩,en.bk,en.ct,en.rt⟩
theorem aH(h1:QS X st t):QSs X [st] t:=⟨h1.mono,λHZ F=>Dt (h1.run HZ F)⟩
def zE:cE:=λE ρ=>E.bk ρ
def M4:cE:=λE ρ=>E.ct ρ
theorem KN:QS X (.Break pos) zE:=⟨λE E' ρ w h=>w.bk _ h,λHZ F=>dQ HK λD σ H ⟨ρ,E,fr,h,en⟩=>en.bk _ _ _ fr h⟩
def jW:cE:=λ_ _=>False
theorem kH:QS X st jW:=⟨λ_ _ _ _ h=>h,λHZ F=>dQ HF λD σ H ⟨ρ,E,fr,h,en⟩=>h⟩
def Az(te:dB):cE:=λE ρ=>te ρ λ_=>E.nx ρ
theorem Gx(he:QE X e te)(hs:iu e au pos.line X.env=jw ao:=by rfl):QS X (.Expr e pos) (Az te):=
 ⟨λE E' ρ w h=>he.mono _ _ _ (λ_ q=>w.nx _ q) h,λHZ F=>dQ (uG (he.run HZ F) hs) λD σ H ⟨ρ,E,fr,h,en⟩=>he.step fr h λr x H1 q S1 _=>en.nx _ _ _ (fr.mono S1) q⟩
def R.out:R->R
 | .ow _ d=>.nw d
 |r=>r
theorem eD.out{K:ak}{HZ H H':Hp}{F:ae->Prop}{σ:St}{ρ:List Sl}{x:V}{r:R}(fr:Fr K HZ F σ H ρ)(h:eD K (MM F ρ) (Ab ρ) H x r H'):eD K F yS HZ x r.out H':=by
 cases r with
 |v d=>exact Rep.weak (λa z=>.inl z) h
 |nw d=>
  obtain⟨a,e,n,o⟩:=h;exact⟨a,e,fr.same.free n,o.weak λb z=>z.elim (λz=>.inl (.inl z)) .inr⟩
 |ow a d=>
  obtain⟨e,m,o⟩:=h;refine⟨a,e,fr.new a d m,o.weak λb z=>?_⟩;rcases z with z | z
  ·exact .inl z
  ·rw[z];exact .inr ⟨d,m⟩
def cM(te:dB):cE:=λE ρ=>te ρ λr=>E.rt r.out
def M3:cE:=λE _=>E.rt (.v .non)
theorem bX(he:QE X e te):QS X (.Return (aa e) pos) (cM te):=
 ⟨λE E' ρ w h=>he.mono _ _ _ (λ_ q=>w.rt _ q) h,λHZ F=>dQ (NN (he.run HZ F)) λD σ H ⟨ρ,E,fr,h,en⟩=>he.step fr h λr x H1 q S1 r1=>en.rt _ _ _ (fr.same.trans S1) (eD.out fr r1) q⟩
def jI(c:n6)(t u:cE):cE:=λE ρ=>c ρ λb=>if b=ai then t E ρ else u E ρ
theorem fN{a b:List ku}{tc:n6}(hc:QT X c tc)(ha:QSs X a t)(hb:QSs X b u):QS X (.If c a b pos) (jI tc t u):=by
 refine⟨λE E' ρ w h=>hc.mono _ _ _ (λk q=>?_) h,λHZ F=>dQ (M9 (hc.run HZ F) (ha.run HZ F) (hb.run HZ F)) λD σ H ⟨ρ,E,fr,h,en⟩=>?_⟩
 ·split at q
  ·rw[Yh ‹_›];exact ha.mono _ _ _ w q
  ·rw[XQ ‹_›];exact hb.mono _ _ _ w q
 ·refine hc.step fr h λk H1 q S1=>?_;cases k with
  |true=>exact u9 ⟨ρ,E,fr.mono S1,by simpa using q,en⟩
  |false=>exact uA ⟨ρ,E,fr.mono S1,by simpa using q,en⟩
end
theorem dM{l:List α}{j:Nat}{a b:α}(h:(l.set i a)[j]?=aa b):(i=j/\i<l.length/\b=a) \/ (i≠j/\l[j]?=aa b):=by
 by_cases e:i=j
 ·subst e;by_cases hl:i<l.length
  ·rw[jx hl] at h;exact .inl ⟨rfl,hl,(Option.some.inj h).symm⟩
  ·rw[lh (by simp;right)] at h;cases h
 ·rw[fy e] at h;exact .inr ⟨e,h⟩
theorem MM.set{i:Nat}{s:Sl}(a:ae)(h:MM F (ρ.set i s) a):MM F ρ a \/ ∃d,s=.own a d:=by
 rcases h with h | ⟨d,h⟩
 ·exact .inl (.inl h)
 ·rcases ma h with h | h
  ·exact .inl (.inr ⟨d,h⟩)
  ·exact .inr ⟨d,h.symm⟩
theorem Fr.setv(fr:Fr K HZ F σ H ρ){x:V}{d:Dv}(r:Rep K (MM F ρ) H x d):Fr K HZ F (σ.set i (aa x)) H (ρ.set i (.v d)):=by
 have wk:∀a,MM F (ρ.set i (.v d)) a->MM F ρ a:=λa h=>by
  rcases MM.set a h with h | ⟨_,h⟩
  ·exact h
  ·cases h
 refine⟨by simp[fr.len],λj s e=>?_,λj k a d1 d2 e1 e2=>?_,λa d1 h=>?_,fr.same,fr.old⟩
 ·rcases dM e with⟨rfl,hl,rfl⟩ | ⟨ne,e⟩
  ·exact⟨x,by rw[jx (by rw[fr.len];exact hl)],r.weak wk⟩
  ·rw[fy ne];exact(fr.sl j s e).weak wk
 ·rcases dM e1 with⟨_,_,z⟩ | ⟨_,e1⟩
  ·cases z
  ·rcases dM e2 with⟨_,_,z⟩ | ⟨_,e2⟩
   ·cases z
   ·exact fr.nd j k a d1 d2 e1 e2
 ·rcases ma h with h | h
  ·exact fr.new a d1 h
  ·cases h
theorem Fr.setu(fr:Fr K HZ F σ H ρ){o:Option V}:Fr K HZ F (σ.set i o) H (ρ.set i .un):=by
 have wk:∀a,MM F (ρ.set i .un) a->MM F ρ a:=λa h=>by
  rcases MM.set a h with h | ⟨_,h⟩
  ·exact h
  ·cases h
 refine⟨by simp[fr.len],λj s e=>?_,λj k a d1 d2 e1 e2=>?_,λa d1 h=>?_,fr.same,fr.old⟩
 ·rcases dM e with⟨rfl,hl,rfl⟩ | ⟨ne,e⟩
  ·trivial
  ·rw[fy ne];exact(fr.sl j s e).weak wk
 ·rcases dM e1 with⟨_,_,z⟩ | ⟨_,e1⟩
  ·cases z
  ·rcases dM e2 with⟨_,_,z⟩ | ⟨_,e2⟩
   ·cases z
   ·exact fr.nd j k a d1 d2 e1 e2
 ·rcases ma h with h | h
  ·exact fr.new a d1 h
  ·cases h
theorem xK.gen{M M':ae->Prop}{o:Option (Option V)}{s:Sl}(G:Gen K M M' H H')(hs:∀a d,s=.own a d -> ∀u,H a=aa u->H' a=aa u)(h:xK K M H o s):xK K M' H' o s:=by
 cases s with
 |un=>trivial
 |v d=>obtain⟨x,e,r⟩:=h;exact⟨x,e,r.gen G⟩
 |own a d=>exact⟨h.1,h.2.gen G (hs a d rfl)⟩
theorem Fr.seto(fr:Fr K HZ F σ H ρ)(S:aO H H'){d:Dv}(ha:H a=au)(o:f8 K (λb=>MM F ρ b \/ b=a) H' a d):Fr K HZ F (σ.set i (aa (.ref a))) H' (ρ.set i (.own a d)):=by
 have wk:∀b,MM F (ρ.set i (.own a d)) b->MM F ρ b \/ b=a:=λb h=>by
  rcases MM.set b h with h | ⟨_,h⟩
  ·exact .inl h
  ·cases h;exact .inr rfl
 have G:Gen K (MM F ρ) (MM F (ρ.set i (.own a d))) H H':=((Gen.fresh ha).trans (.mono S)).trans (.weak wk);have ne:∀(j:Nat) (b:ae) (d':Dv),ρ[j]?=aa (Sl.own b d')->b≠a:=λj b d' e z=>by
  have:=(fr.sl j _ e).2.mut;obtain⟨u,hu,_⟩:=this;rw[z,ha] at hu;cases hu
 refine⟨by simp[fr.len],λj s e=>?_,λj k b d1 d2 e1 e2=>?_,λb d1 h=>?_,fr.same.trans S,fr.old⟩
 ·rcases dM e with⟨rfl,hl,rfl⟩ | ⟨hne,e⟩
  ·exact⟨by rw[jx (by rw[fr.len];exact hl)],o.weak wk⟩
  ·rw[fy hne];exact(fr.sl j s e).gen G λb d' _ u hu=>S _ _ hu
 ·rcases dM e1 with⟨h1,_,z⟩ | ⟨_,e1⟩
  ·rcases dM e2 with⟨h2,_,z'⟩ | ⟨_,e2⟩
   ·right
   ·cases z;exact absurd rfl (ne k _ _ e2)
  ·rcases dM e2 with⟨h2,_,z'⟩ | ⟨_,e2⟩
   ·cases z';exact absurd rfl (ne j _ _ e1)
   ·exact fr.nd j k b d1 d2 e1 e2
 ·rcases ma h with h | h
  ·exact fr.new b d1 h
  ·cases h;exact fr.same.free ha
theorem Fr.write(fr:Fr K HZ F σ H ρ){i:Nat}{a:ae}{d d':Dv}{o:HO}(hi:ρ[i]?=aa (.own a d))(n:f8 K (MM F ρ) (upd H a o) a d'):Fr K HZ F σ (upd H a o) (ρ.set i (.own a d')):=by
 have mem:Sl.own a d∈ρ:=fe hi;have wk:∀b,MM F (ρ.set i (.own a d')) b->MM F ρ b:=λb h=>by
  rcases MM.set b h with h | ⟨_,h⟩
  ·exact h
  ·cases h;exact .inr ⟨d,mem⟩
 obtain⟨hs,ow⟩:=fr.sl i _ hi;obtain⟨u,hu,mu⟩:=ow.mut;have mu':GP (H a):=by rw[hu];exact mu
 have G:Gen K (MM F ρ) (MM F (ρ.set i (.own a d'))) H (upd H a o):=(Gen.write (.inr ⟨d,mem⟩) mu').trans (.weak wk);refine⟨by simp[fr.len],λj s e=>?_,λj k b d1 d2 e1 e2=>?_,λb d1 h=>?_,λb q e=>?_,fr.old⟩
 ·rcases dM e with⟨rfl,hl,rfl⟩ | ⟨hne,ej⟩
  ·exact⟨hs,n.weak wk⟩
  ·refine(fr.sl j s ej).gen G λb d2 es u hu=>?_;subst es;rw[bB λz=>hne ?_]
   ·exact hu
   ·subst z;exact fr.nd i j _ d d2 hi ej
 ·rcases dM e1 with⟨h1,_,z⟩ | ⟨_,e1⟩
  ·cases z;rcases dM e2 with⟨h2,_,z'⟩ | ⟨_,e2⟩
   ·right
   ·rw[<- h1];exact fr.nd i k _ d d2 hi e2
  ·rcases dM e2 with⟨h2,_,z'⟩ | ⟨_,e2⟩
   ·cases z';rw[<- h2];exact fr.nd j i _ d1 d e1 hi
   ·exact fr.nd j k b d1 d2 e1 e2
 ·rcases ma h with h | h
  ·exact fr.new b d1 h
  ·cases h;exact fr.new _ d mem
 ·rw[bB ?_]
  ·exact fr.same b q e
  ·intro z;subst z;rw[fr.new _ d mem] at e;cases e
def freeze(i:Nat)(ρ:List Sl):List Sl:=match ρ[i]? with
 |some (.own _ d)=>ρ.set i (.v d)
 |_=>ρ
theorem Fr.freeze(fr:Fr K HZ F σ H ρ)(i:Nat):Fr K HZ F σ H (freeze i ρ):=by
 unfold Z.freeze;split
 ·rename_i a d hi;have mem:Sl.own a d∈ρ:=fe hi;obtain⟨hs,ow⟩:=fr.sl i _ hi;have nF:¬F a:=λz=>fr.old.f a z (fr.new a d mem);have wk:∀b,MM F (ρ.set i (.v d)) b->MM F ρ b:=λb h=>by
   rcases MM.set b h with h | ⟨_,h⟩
   ·exact h
   ·cases h
  have nM:¬MM F (ρ.set i (.v d)) a:=by
   rintro(h | ⟨d',h⟩)
   ·exact nF h
   ·obtain⟨j,e⟩:=qk.mp h;rcases dM e with⟨_,_,z⟩ | ⟨ne,e⟩
    ·cases z
    ·exact ne (fr.nd i j a d d' hi e)
  refine⟨by simp[fr.len],λj s e=>?_,λj k b d1 d2 e1 e2=>?_,λb d1 h=>?_,fr.same,fr.old⟩
  ·rcases dM e with⟨rfl,hl,rfl⟩ | ⟨hne,e⟩
   ·exact⟨_,hs,(ow.weak wk).rep nM⟩
   ·exact(fr.sl j s e).weak wk
  ·rcases dM e1 with⟨_,_,z⟩ | ⟨_,e1⟩
   ·cases z
   ·rcases dM e2 with⟨_,_,z⟩ | ⟨_,e2⟩
    ·cases z
    ·exact fr.nd j k b d1 d2 e1 e2
  ·rcases ma h with h | h
   ·exact fr.new b d1 h
   ·cases h
 ·exact fr
section
variable {pos Yw:lv}{t:cE}
def cA(i:Nat)(te:dB):cE:=λE ρ=>te ρ λr=>match r with
 | .v d=>E.nx (ρ.set i (.v d))
 | .nw d=>E.nx (ρ.set i (.v d))
 | .ow _ _=>False
def j5(i:Nat)(te:dB):cE:=λE ρ=>te ρ λr=>match r with
 | .v d=>E.nx (ρ.set i (.v d))
 | .nw d=>∀a,E.nx (ρ.set i (.own a d))
 | .ow _ _=>False
def KC(i:Nat)(t:cE):cE:=λE ρ=>t E (freeze i ρ)
theorem Po(i:Nat)(h:QSs X sts t):QSs X sts (KC i t):=
 ⟨λE E' ρ w q=>h.mono _ _ _ w q,λHZ F=>uS (h.run HZ F) λD σ H ⟨ρ,E,fr,q,en⟩=>⟨_,E,fr.freeze i,q,en⟩⟩
theorem cL{x:bv}(hN:X.N.Nodup)(hi:X.N[i]?=aa x)(hx:GS X.env.scope x)(he:QE X e te)(hs:iu e (aa (.Name x Yw)) pos.line X.env=jw ao:=by rfl)(hf:X.fn x=ai \/ X.env.scope.names.lookup x=aa .local:=by first | exact .inl rfl | exact .inr rfl | assumption):
  QS X (.Assign [.Name x Yw] e pos) (cA i te):=by
 refine⟨λE E' ρ w h=>he.mono _ _ _ (λr q=>?_) h,λHZ F=>dQ (HD hN hi hx (he.run HZ F) hs hf) λD σ H ⟨ρ,E,fr,h,en⟩=>?_⟩
 ·cases r with
  |v d=>exact w.nx _ q
  |nw d=>exact w.nx _ q
  |ow a d=>exact q
 ·refine he.step fr h λr x H1 q S1 r1=>?_;cases r with
  |v d=>exact en.nx _ _ _ ((fr.mono S1).setv r1) q
  |nw d=>exact en.nx _ _ _ ((fr.mono S1).setv (r1.rep (λa m=>fr.dom m) rfl)) q
  |ow a d=>exact q.elim
theorem iB{x:bv}(hN:X.N.Nodup)(hi:X.N[i]?=aa x)(hx:GS X.env.scope x)(he:QE X e te)(hs:iu e (aa (.Name x Yw)) pos.line X.env=jw ao:=by rfl)(hf:X.fn x=ai \/ X.env.scope.names.lookup x=aa .local:=by first | exact .inl rfl | exact .inr rfl | assumption):
  QS X (.Assign [.Name x Yw] e pos) (j5 i te):=by
 refine⟨λE E' ρ w h=>he.mono _ _ _ (λr q=>?_) h,λHZ F=>dQ (HD hN hi hx (he.run HZ F) hs hf) λD σ H ⟨ρ,E,fr,h,en⟩=>?_⟩
 ·cases r with
  |v d=>exact w.nx _ q
  |nw d=>exact λa=>w.nx _ (q a)
  |ow a d=>exact q
 ·refine he.step fr h λr x H1 q S1 r1=>?_;cases r with
  |v d=>exact en.nx _ _ _ ((fr.mono S1).setv r1) q
  |nw d=>
   obtain⟨a,rfl,ha,o⟩:=r1;exact en.nx _ _ _ (fr.seto S1 ha o) (q a)
  |ow a d=>exact q.elim
def FE(i:Nat)(p:Dv->Dv->(R->Prop)->Prop)(te:dB):cE:=λE ρ=>match ρ[i]? with
 |some (.v d)=>te ρ λr=>p d r.d λz=>match z with
  | .v d'=>E.nx (ρ.set i (.v d'))
  |_=>False
 |_=>False
def Su(X:Cx)(op:Ut)(p:Dv->Dv->(R->Prop)->Prop):Prop:=xL X (UO op) p
theorem Pq{x:bv}{op:Ut}{p:Dv->Dv->(R->Prop)->Prop}(ho:Su X op p)(hN:X.N.Nodup)(hi:X.N[i]?=aa x)(hx:GS X.env.scope x)(he:QE X e te)(hf:X.fn x=ai \/ X.env.scope.names.lookup x=aa .local:=by first | exact .inl rfl | exact .inr rfl | assumption):
  QS X (.AugAssign (.Name x Yw) op e pos) (FE i p te):=by
 obtain⟨mo,r2,hR,hr⟩:=ho;refine⟨λE E' ρ w h=>?_,λHZ F=>dQ (NQ hN hi hx (he.run HZ F) (λpk s σ H x y v u Q I rx ry h=>hR pk s σ H x y v u Q I rx ry h) hf) λD σ H ⟨ρ,E,fr,h,en⟩=>?_⟩
 ·unfold FE at *;split at h
  ·refine he.mono _ _ _ (λr q=>mo _ _ _ _ (λz q=>?_) q) h;split at q
   ·exact w.nx _ q
   ·exact q
  ·exact h
 ·unfold FE at h;split at h
  ·rename_i d ed;obtain⟨x,ex,rx⟩:=fr.sl i _ ed;refine⟨x,ex,he.step fr h λr y H1 q S1 r1=>?_⟩;refine hr (MM F ρ) (Ab ρ) H1 x y _ _ _ (.inl (rx.mono S1)) r1.c (mo _ _ _ _ (λz q z' H' S' rz=>?_) q);split at q
   ·exact en.nx _ _ _ (((fr.mono S1).mono S').setv rz) q
   ·exact q.elim
  ·exact h.elim
def nR(i:Nat)(te:dB):cE:=λE ρ=>match ρ[i]? with
 |some (.own a (.lst xs))=>te ρ λr=>(r.free=ai/\xs.length<Ac)/\E.nx (ρ.set i (.own a (.lst (xs++[r.d]))))
 |_=>False
theorem vV(h:n<Ac):n<bu:=fg h (j6 (br _))
theorem rO{x:bv}{p1 p2 p3:lv}(hv:PE X (.Name x p1) (z7 i))(he:QE X e te)(hs:iu (.Call (.Attribute (.Name x p1) "append" p2) [e] [] p3) au pos.line X.env=jw ao:=by rfl)
  (YD:sd (.Name x p1) "append" X.env (gh (.Name x p1) X.env)=gh (.Name x p1) X.env:=by rfl)
  (hfew:((ir p3 (aw [e] X.env)).all (λx=>!x.1)&&(yc p3 (tj [] X.env)).all (λx=>x.1.isSome)
   && decide ([e].length+([]:List zj).length+(if ([]:List zj).isEmpty then 0 else 1)<30))=ai:=by rfl)
  (YE:(p2.endLine==p3.line)=ai:=by rfl) (hst:aw [e] X.env=(ao,gh e X.env)::aw [] X.env:=by rfl) (Yz:(ir p3 (aw [] X.env)).any (·.1)=ao:=by rfl):
  QS X (.Expr (.Call (.Attribute (.Name x p1) "append" p2) [e] [] p3) pos) (nR i te):=by
 refine⟨λE E' ρ w h=>?_,λHZ F=>dQ (uG (HW Tv PySem.F.slot_list_append PySem.F.type_list_append y7 hv (iP (he.run HZ F) qA hst) YD hfew YE hst Yz) hs) λD σ H ⟨ρ,E,fr,h,en⟩=>?_⟩
 ·unfold nR at *;split at h
  ·exact he.mono _ _ _ (λr q=>⟨q.1,w.nx _ q.2⟩) h
  ·exact h
 ·unfold nR at h;split at h
  ·rename_i a xs hx;obtain⟨hs1,vs,hv1,rv1⟩:=fr.sl i _ hx;refine⟨_,hs1,.inl ⟨rfl,_,gJ.of hv1⟩,he.step fr h λr y H1 q S1 r1=>?_⟩;obtain⟨⟨qf,ql⟩,q2⟩:=q;have rep:=r1.rep (λa m=>fr.dom m) qf;have hv2:=S1 _ _ hv1;refine⟨a,vs,y,rfl,rfl,hv2,by rw[rv1.length];exact vV ql,?_⟩;refine en.nx _ _ _ ((fr.mono S1).write (d':=.lst (xs++[r.d])) hx ⟨_,bT,?_⟩) q2;have G:Gen X.K (MM F ρ) (MM F ρ) H1 (upd H1 a (.lst (vs++[y]))):=Gen.write (.inr ⟨_,fe hx⟩) (by rw[hv2];trivial);exact((rv1.mono S1).append (.cons rep .nil)).gen G
  ·exact h.elim
end
open Classical in
def prot(H:Hp)(ρ:List Sl):Hp:=λb=>if ∃d,Sl.own b d∈ρ then au else H b
section
variable {σ':St}{ρ':List Sl}
theorem vJ{d:Dv}(h:Sl.own b d∈ρ):prot H ρ b=au:=by unfold prot;rw[Yh ⟨d,h⟩]
theorem cJ(h:¬ ∃d,Sl.own b d∈ρ):prot H ρ b=H b:=by unfold prot;rw[XQ h]
theorem oV(h:prot H ρ b=aa o):H b=aa o:=by
 by_cases c:∃d,Sl.own b d∈ρ
 ·obtain⟨d,c⟩:=c;rw[vJ c] at h;cases h
 ·rw[cJ c] at h;exact h
theorem FJ(h:prot H ρ b=au):(∃d,Sl.own b d∈ρ) \/ H b=au:=by
 by_cases c:∃d,Sl.own b d∈ρ
 ·exact .inl c
 ·rw[cJ c] at h;exact .inr h
theorem Fr.prot(fr:Fr K HZ F σ H ρ):Fr K (prot H ρ) F σ H ρ:=by
 refine⟨fr.len,fr.sl,fr.nd,λa d h=>vJ h,λb o h=>oV h,λa h=>?_,λP q z=>?_⟩
 ·rw[cJ ?_]
  ·exact fr.dom (.inl h)
  ·rintro⟨d,c⟩;exact fr.old.f a h (fr.new a d c)
 ·have e:=fr.old.t P q z;rw[cJ ?_]
  ·exact fr.same _ _ e
  ·rintro⟨d,c⟩;rw[fr.new P d c] at e;cases e
theorem Fr.free_of(fr:Fr K HZ F σ H ρ)(h:Z.prot H ρ b=au):HZ b=au:=by
 rcases FJ h with⟨d,c⟩ | h
 ·exact fr.new b d c
 ·exact fr.same.free h
theorem Fr.same_of(fr:Fr K HZ F σ H ρ)(S:aO (Z.prot H ρ) H'):aO HZ H':=λb o e=>by
 refine S b o ?_;rw[cJ ?_]
 ·exact fr.same b o e
 ·rintro⟨d,c⟩;rw[fr.new b d c] at e;cases e
theorem Fr.unprot(fr:Fr K HZ F σ H ρ)(g:Fr K (Z.prot H ρ) F σ' H' ρ'):Fr K HZ F σ' H' ρ':=
 ⟨g.len,g.sl,g.nd,λa d h=>fr.free_of (g.new a d h),fr.same_of g.same,fr.old⟩
theorem Fr.gen(fr:Fr K HZ F σ H ρ)(g:Fr K (Z.prot H ρ) F σ' H' ρ'):Gen K (MM F ρ) (MM F ρ') H H':=by
 have no:∀a o,H a=aa o -> ¬MM F ρ a->Z.prot H ρ a=aa o:=λa o e m=>by
  rw[cJ λc=>m (.inr c)];exact e
 have no2:∀a o,H a=aa o -> ¬GP (aa o)->Z.prot H ρ a=aa o:=λa o e m=>by
  rw[cJ ?_]
  ·exact e
  ·rintro⟨d,c⟩;obtain⟨_,_,_,ow⟩:=fr.at_own c;obtain⟨u,hu,mu⟩:=ow.mut;rw[e] at hu;cases hu;exact m mu
 refine⟨λa o e mu m=>⟨g.same _ _ (no a o e m),?_⟩,λa xs e=>g.same _ _ (no2 a _ e λz=>z),λa ns e=>?_,λa o u e=>g.same _ _ (no2 a _ e λz=>z)⟩
 ·rintro(h | ⟨d,h⟩)
  ·exact m (.inl h)
  ·have:=g.new a d h;rw[no a o e m] at this;cases this
 ·rcases e with⟨o,e⟩ | e
  ·exact .inl ⟨o,g.same _ _ (no2 a _ e λz=>z)⟩
  ·exact .inr e
theorem Ent.prot{E:En}{D:Ends}(fr:Fr K HZ F σ H ρ)(en:Ent K HZ F E D):Ent K (Z.prot H ρ) F E D:=by
 refine⟨λρ' σ' H' g h=>en.nx _ _ _ (fr.unprot g) h,λρ' σ' H' g h=>en.bk _ _ _ (fr.unprot g) h,λρ' σ' H' g h=>en.ct _ _ _ (fr.unprot g) h,λr x H' S rr h=>en.rt r x H' (fr.same_of S) ?_ h⟩;cases r with
 |v d=>exact rr
 |ow a d=>exact rr
 |nw d=>obtain⟨a,e,n,o⟩:=rr;exact⟨a,e,fr.free_of n,o⟩
end
abbrev xJ:=List Sl->(List Dv->List (ae×List Dv)->Prop)->Prop
def guard(ogs:List (ae×List Dv))(ρ:List Sl):Prop:=∀p∈ogs,Sl.own p.1 (.lst p.2)∈ρ
def wQ(K:ak)(P:Hp)(M:ae->Prop)(H1:Hp)(J:It)(ds:List Dv)(ogs:List (ae×List Dv)):Prop:=
 ∀(i:Nat) (H':Hp) (M':ae->Prop),aO P H'->Gen K M M' H1 H'->(∀p∈ogs,f8 K M' H' p.1 (.lst p.2)) ->
  (∀d,ds[i]?=aa d->J.go i H' /\ ∀y H'',J.yld i H' y H''->aO H' H''/\Rep K M' H'' y d)/\(ds.length<=i->J.stop i H')
structure QI(X:Cx)(tg iter:Expr)(ti:xJ):Prop where
 mono:∀(ρ:List Sl) (Q Q':List Dv->List (ae×List Dv)->Prop),(∀ds g,Q ds g->Q' ds g)->ti ρ Q->ti ρ Q'
 run:∀(HZ:Hp) (F:ae->Prop),∃wi,PI X tg iter wi /\ ∀(σ:St) (H:Hp) (ρ:List Sl) (R:It->Hp->Prop),Fr X.K HZ F σ H ρ ->
  ti ρ (λds ogs=>∀J H1,aO H H1->guard ogs ρ->wQ X.K (prot H1 ρ) (MM F ρ) H1 J ds ogs->R J H1)->wi σ H R
variable {P:Hp}{l:Expr}{lo:Int}
section
variable {tl:dB}
def Qa(K:ak)(tl:TE):TI:=λσ H R=>tl σ H λx H1=>∃a,x=.ref a/\(((∃xs,gJ K H1 a xs)/\R (RL K a) H1) \/ ((∃xs,pF K H1 a xs)/\R (Se K a) H1))
theorem NS{tl:TE}(hl:PE X l tl):PI X tg l (Qa X.K tl):=by
 intro pk s σ H R I h;refine thn (hl pk s σ H _ I h) λv s1 ⟨x,H1,I1,r1,q1⟩=>?_;obtain⟨a,e,q1⟩:=q1;subst e;cases r1;rcases q1 with⟨⟨xs,hq⟩,q⟩ | ⟨⟨xs,hq⟩,q⟩
 ·obtain⟨its,rv,p,hz⟩:=I1.list hq;refine Vz p.isList ?_;refine⟨s1.heap.objs.size,[s1.heap.objs.size],_,_,H1,rfl,I1.kept (t':=s1.toks) λb o e=>ap _ e,Ey a _,⟨_,cj _ rfl,rfl,rfl⟩,λb hb=>?_,q⟩;have e:b=s1.heap.objs.size:=by simpa using hb
  subst e;exact I1.fpOk (br _) (I1.hok.fresh (br _))
 ·obtain⟨its,rv,p,hz⟩:=I1.tuple hq;refine wpAny_pyIter_tuple (show s1.heap.IsTuple a its.toArray from p) ?_;refine⟨s1.heap.objs.size,[s1.heap.objs.size],_,_,H1,rfl,I1.kept (t':=s1.toks) λb o e=>ap _ e,Ca a _,⟨_,cj _ rfl,rfl,rfl⟩,λb hb=>?_,q⟩;have e:b=s1.heap.objs.size:=by simpa using hb
  subst e;exact I1.fpOk (br _) (I1.hok.fresh (br _))
def kC(tl:dB):xJ:=λρ Q=>tl ρ λr=>match r with
 | .v (.lst ds)=>Q ds []
 | .nw (.lst ds)=>Q ds []
 | .ow a (.lst ds)=>Q ds [(a,ds)]
 | .v (.tup ds)=>Q ds []
 | .v (.scr ns)=>Q (ns.map .int) []
 |_=>False
theorem yB{xs:List V}(hP:P a=aa (.lst xs))(r:Reps K M H1 xs ds):wQ K P M H1 (RL K a) ds []:=by
 intro i H' M' S G _;have h':=S _ _ hP;refine⟨λd e=>?_,λh=>⟨xs,gJ.of h',by rw[r.length];exact h⟩⟩;obtain⟨x,hx,rx⟩:=r.get e;refine⟨⟨xs,x,gJ.of h',hx⟩,λy H'' ⟨e1,e2⟩=>?_⟩;subst e1;have:=e2 xs (gJ.of h');rw[hx] at this;cases this;exact⟨aO.refl _,rx.gen G⟩
theorem J2:wQ K P M H1 (RL K a) ds [(a,ds)]:=by
 intro i H' M' S G ow;obtain⟨xs,h',r⟩:=ow (a,ds) (by simp);refine⟨λd e=>?_,λh=>⟨xs,gJ.of h',by rw[r.length];exact h⟩⟩;obtain⟨x,hx,rx⟩:=r.get e;refine⟨⟨xs,x,gJ.of h',hx⟩,λy H'' ⟨e1,e2⟩=>?_⟩;subst e1;have:=e2 xs (gJ.of h');rw[hx] at this;cases this;exact⟨aO.refl _,rx⟩
theorem J0{xs:List V}(hP:P a=aa (.tup xs))(r:Reps K M H1 xs ds):wQ K P M H1 (Se K a) ds []:=by
 intro i H' M' S G _;have h':=S _ _ hP;refine⟨λd e=>?_,λh=>⟨xs,pF.of h',by rw[r.length];exact h⟩⟩;obtain⟨x,hx,rx⟩:=r.get e;refine⟨⟨xs,x,pF.of h',hx⟩,λy H'' ⟨e1,e2⟩=>?_⟩;subst e1;have:=e2 xs (pF.of h');rw[hx] at this;cases this;exact⟨aO.refl _,rx.gen G⟩
theorem J1(hP:Lr K P a ns):wQ K P M H1 (RL K a) (ns.map .int) []:=by
 intro i H' M' S G _;have h':=(aO.scr S hP).sq;refine⟨λd e=>?_,λh=>⟨_,h',by simpa using h⟩⟩;have r:Reps K M' H' (ns.map V.int) (ns.map .int):=Reps.ints ns;obtain⟨x,hx,rx⟩:=r.get e;refine⟨⟨_,x,h',hx⟩,λy H'' ⟨e1,e2⟩=>?_⟩;subst e1;have:=e2 _ h';rw[hx] at this;cases this;exact⟨aO.refl _,rx⟩
theorem ES(fr:Fr K HZ F σ H ρ)(e:H a=aa o)(m:¬GP (aa o)):¬ ∃d,Sl.own a d∈ρ:=by
 rintro⟨d,c⟩;obtain⟨_,_,_,ow⟩:=fr.at_own c;obtain⟨u,hu,mu⟩:=ow.mut;rw[e] at hu;cases hu;exact m mu
theorem gF(h:QE X l tl):QI X tg l (kC tl):=by
 refine⟨λρ Q Q' w q=>h.mono _ _ _ (λr q=>?_) q,λHZ F=>⟨_,NS (h.run HZ F),λσ H ρ R fr q=>?_⟩⟩
 ·unfold kC at *;split at q<;>first | exact w _ _ q | exact q
 ·refine h.step fr q λr x H1 q S1 r1=>?_;have fr1:=fr.mono S1;split at q
  ·rename_i ds;cases r1 with
   |lst e m rs=>
    exact⟨_,rfl,.inl ⟨⟨_,gJ.of e⟩,q _ H1 S1 (by intro p hp;simp at hp) (yB (by rw[cJ λc=>m (.inr c)];exact e) rs)⟩⟩
  ·rename_i ds;obtain⟨a,rfl,n,xs,e,rs⟩:=r1;exact⟨_,rfl,.inl ⟨⟨_,gJ.of e⟩,q _ H1 S1 (by intro p hp;simp at hp) (yB (by rw[cJ λc=>fr.fresh n (.inr c)];exact e) (rs.weak λb z=>.inl z))⟩⟩
  ·rename_i a ds;obtain⟨rfl,m,xs,e,rs⟩:=r1;exact⟨_,rfl,.inl ⟨⟨_,gJ.of e⟩,q _ H1 S1 (by intro p hp;simp at hp;subst hp;exact m) J2⟩⟩
  ·rename_i ds;cases r1 with
   |tup e rs=>exact⟨_,rfl,.inr ⟨⟨_,pF.of e⟩,q _ H1 S1 (by intro p hp;simp at hp) (J0 (by rw[cJ (ES fr1 e λz=>z)];exact e) rs)⟩⟩
  ·rename_i ns;cases r1 with
   |scr e=>
    refine⟨_,rfl,.inl ⟨⟨_,e.sq⟩,q _ H1 S1 (by intro p hp;simp at hp) (J1 ?_)⟩⟩;rcases e with⟨o,e⟩ | e
    ·exact .inl ⟨o,by rw[cJ (ES fr1 e λz=>z)];exact e⟩
    ·exact .inr e
  ·exact q.elim
def aW(lo:Int)(n:Nat):List Dv:=(gx n).map λ(k:Nat)=>Dv.int (lo+(k:Int))
theorem Cu{d:Dv}(h:(aW lo n)[i]?=aa d):i<n/\d=.int (lo+i):=by
 unfold aW at h;rw[dg] at h;cases e:(gx n)[i]? with
 |none=>rw[e] at h;cases h
 |some k=>
  rw[e] at h;obtain⟨h1,h2⟩:=cf.mp e;simp at h1 h2;subst h2;exact⟨h1,(Option.some.inj h).symm⟩
theorem vY:wQ K P M H1 (RK lo n) (aW lo n) []:=by
 intro i H' M' S G _;refine⟨λd e=>?_,λh=>(show n<=i by simpa [aW] using h)⟩;obtain⟨h1,h2⟩:=Cu e;subst h2;refine⟨h1,λy H'' ⟨e1,e2⟩=>?_⟩;subst e1 e2;exact⟨aO.refl _,.int _⟩
def dE(ts:lP):xJ:=λρ Q=>ts ρ λrs=>match rs.map R.d with
 | [.int j]=>(-(2 ^ 62)<=j/\j<2 ^ 62)/\Q (aW 0 j.toNat) []
 |_=>False
def gP(ts:lP):xJ:=λρ Q=>ts ρ λrs=>match rs.map R.d with
 | [.int i,.int j]=>(-(2 ^ 62)<=i/\i<2 ^ 62 /\ -(2 ^ 62)<=j/\j<2 ^ 62)/\Q (aW i (j-i).toNat) []
 |_=>False
theorem eQ{xs:List V}{d:Dv}(h:yV K M H xs [d]):∃x,xs=[x]/\dP K M H x d:=by
 cases h with
 |cons a t=>cases t;exact⟨_,rfl,a⟩
theorem DZ{xs:List V}{d d':Dv}(h:yV K M H xs [d,d']):∃x y,xs=[x,y]/\dP K M H x d/\dP K M H y d':=by
 cases h with
 |cons a t=>
  obtain⟨y,rfl,b⟩:=eQ t;exact⟨_,_,rfl,a,b⟩
theorem cS{a:Expr}{pos:lv}(hg:Gl X "range")(hm:X.mg "range" = au)(ha:QA X [a] ts)(hs:aw [a] X.env=[(ao,gh a X.env)]:=by rfl):QI X tg (.Call (.Name "range" p) [a] [] pos) (dE ts):=by
 refine⟨λρ Q Q' w q=>ha.mono _ _ _ (λr q=>?_) q,λHZ F=>⟨_,FN hg hm (ha.run HZ F) hs,λσ H ρ R fr q=>?_⟩⟩
 ·split at q
  ·exact⟨q.1,w _ _ q.2⟩
  ·exact q
 ·refine ha.step fr q λrs xs H1 q S1 r1=>?_;split at q
  ·rename_i j e;have c:=r1.c;rw[e] at c;obtain⟨x,rfl,cx⟩:=eQ c;obtain rfl:=cx.int;exact⟨j,rfl,q.1.1,q.1.2,q.2 _ H1 S1 (by intro p hp;simp at hp) vY⟩
  ·exact q.elim
theorem g6{a b:Expr}{pos:lv}(hg:Gl X "range")(hm:X.mg "range" = au)(ha:QA X [a,b] ts)(hs:aw [a,b] X.env=[(ao,gh a X.env),(ao,gh b X.env)]:=by rfl)(hs2:aw [b] X.env=[(ao,gh b X.env)]:=by rfl):
  QI X tg (.Call (.Name "range" p) [a,b] [] pos) (gP ts):=by
 refine⟨λρ Q Q' w q=>ha.mono _ _ _ (λr q=>?_) q,λHZ F=>⟨_,FM hg hm (ha.run HZ F) hs hs2,λσ H ρ R fr q=>?_⟩⟩
 ·split at q
  ·exact⟨q.1,w _ _ q.2⟩
  ·exact q
 ·refine ha.step fr q λrs xs H1 q S1 r1=>?_;split at q
  ·rename_i i j e;have c:=r1.c;rw[e] at c;obtain⟨x,y,rfl,cx,cy⟩:=DZ c;obtain rfl:=cx.int;obtain rfl:=cy.int;exact⟨i,j,rfl,q.1,q.2 _ H1 S1 (by intro p hp;simp at hp) vY⟩
  ·exact q.elim
end
abbrev AZ:=Dv->List Sl->(List Sl->Prop)->Prop
structure QG(X:Cx)(tg:Expr)(k:Nat)(g:AZ):Prop where
 mono:∀d ρ (Q Q':List Sl->Prop),(∀ρ,Q ρ->Q' ρ)->g d ρ Q->g d ρ Q'
 agree:∀d ρ (Q:List Sl->Prop),g d ρ Q->g d ρ λρ1=>Q ρ1/\ρ1.length=ρ.length /\ ∀j,k<=j->ρ1[j]?=ρ[j]?
 run:∃t,PG X tg t /\ ∀(HZ:Hp) (F:ae->Prop) (v:V) (d:Dv) (σ:St) (H:Hp) (ρ:List Sl) (Q:St->Hp->Prop),Fr X.K HZ F σ H ρ->Rep X.K (MM F ρ) H v d ->
  g d ρ (λρ1=>∀σ1,Fr X.K HZ F σ1 H ρ1->(∀j,k<=j->σ1[j]?=σ[j]?)->Q σ1 H)->t v σ H Q
def gN(i:Nat):AZ:=λd ρ Q=>Q (ρ.set i (.v d))
def lZ:List Nat->List Dv->List Sl->List Sl
 |i::is,d::ds,ρ=>lZ is ds (ρ.set i (.v d))
 |_,_,ρ=>ρ
def gT(is:List Nat):AZ:=λd ρ Q=>match d with
 | .tup ds=>ds.length=is.length/\Q (lZ is ds ρ)
 |_=>False
def SN:List Nat->Mo
 | []=>Qf
 |i::is=>MW (C2 i) (SN is)
theorem vB:∀(is:List Nat) (ds:List Dv) (ρ:List Sl),(lZ is ds ρ).length=ρ.length
 | [],_,_=>rfl
 |_::_,[],_=>rfl
 |i::is,d::ds,ρ=>by rw[lZ,vB is ds];simp
theorem vC{k:Nat}:∀(is:List Nat) (ds:List Dv) (ρ:List Sl),(∀i∈is,i<k) -> ∀j,k<=j->(lZ is ds ρ)[j]?=ρ[j]?
 | [],_,_,_,_,_=>rfl
 |_::_,[],_,_,_,_=>rfl
 |i::is,d::ds,ρ,h,j,hj=>by
  have:=h i (by simp);rw[lZ,vC is ds _ (λi hi=>h i (by simp[hi])) j hj,fy ⋯]
section
variable {pos:lv}
theorem eX{k:Nat}{x:bv}(hN:X.N.Nodup)(hi:X.N[i]?=aa x)(hx:GS X.env.scope x)(hk:i<k:=by decide)(hf:X.fn x=ai \/ X.env.scope.names.lookup x=aa .local:=by first | exact .inl rfl | exact .inr rfl | assumption):QG X (.Name x pos) k (gN i):=by
 refine⟨λd ρ Q Q' w q=>w _ q,λd ρ Q q=>⟨q,by simp,λj hj=>by rw[fy ⋯]⟩,_,dW hN hi hx hf,λHZ F v d σ H ρ Q fr r q=>?_⟩;exact q _ (fr.setv r) λj hj=>by rw[fy ⋯]
theorem Eg{K:ak}{HZ:Hp}{F:ae->Prop}{H:Hp}{k:Nat}:∀(is:List Nat) (ds:List Dv) (vs:List V) (σ:St) (ρ:List Sl) (Q:St->Hp->Prop),(∀i∈is,i<k)->ds.length=is.length->Fr K HZ F σ H ρ->Reps K (MM F ρ) H vs ds ->
  (∀σ1,Fr K HZ F σ1 H (lZ is ds ρ)->(∀j,k<=j->σ1[j]?=σ[j]?)->Q σ1 H)->SN is vs σ H Q
 | [],[],_,σ,ρ,Q,_,_,fr,.nil,q=>⟨rfl,q σ fr λ_ _=>rfl⟩
 |i::is,d::ds,_,σ,ρ,Q,hk,hl,fr,.cons (x:=x) a r,q=>by
  refine⟨x,_,rfl,?_⟩;have wk:∀b,MM F (ρ.set i (.v d)) b->MM F ρ b:=λb h=>by
   rcases MM.set b h with h | ⟨_,h⟩
   ·exact h
   ·cases h
  refine Eg is ds _ _ (ρ.set i (.v d)) Q (λi hi=>hk i (by simp[hi])) (by simpa using hl) (fr.setv a) (r.weak wk) λσ1 f1 e1=>q σ1 f1 λj hj=>?_;have:=hk i (by simp);rw[e1 j hj,fy ⋯]
theorem Cz{x1 k:Nat}{is:List Nat}(hc:X.calm=ai)(h:RJ X es (SN is))(hk:∀i∈is,i<k:=by decide)(hl:is.length=n:=by rfl)
  (hn:(wg es X.env).length=n:=by rfl) (hst:(wg es X.env).findIdx? (·.1)=au:=by rfl):QG X (.Tuple es x1 pos) k (gT is):=by
 refine⟨λd ρ Q Q' w q=>?_,λd ρ Q q=>?_,_,NT hc h hn hst,λHZ F v d σ H ρ Q fr r q=>?_⟩
 ·unfold gT at *;split at q
  ·exact⟨q.1,w _ q.2⟩
  ·exact q
 ·unfold gT at *;split at q
  ·exact⟨q.1,q.2,vB _ _ _,vC _ _ _ hk⟩
  ·exact q
 ·unfold gT at q;split at q
  ·cases r with
   |tup e rs=>exact⟨_,_,rfl,pF.of e,by rw[rs.length,q.1,hl],Eg is _ _ σ ρ Q hk q.1 fr rs q.2⟩
  ·exact q.elim
end
def aY(g:AZ)(tb:cE)(ogs:List (ae×List Dv)):List Dv->cE
 | []=>λE ρ=>guard ogs ρ/\E.nx ρ
 |d::r=>λE ρ=>guard ogs ρ/\g d ρ λρ1=>tb { E with nx:=aY g tb ogs r E,ct:=aY g tb ogs r E,bk:=E.nx } ρ1
def eW(ti:xJ)(g:AZ)(tb:cE):cE:=λE ρ=>ti ρ λds ogs=>aY g tb ogs ds E ρ
section
variable {X:Cx}{tg iter c:Expr}{ti:xJ}{g:AZ}{tb:cE}{Yv:List ku}{pos:lv}{k:Nat}
theorem mO(mg:∀d ρ (Q Q':List Sl->Prop),(∀ρ,Q ρ->Q' ρ)->g d ρ Q->g d ρ Q')(mb:∀E E' ρ,EnLe E E'->tb E ρ->tb E' ρ)(ogs:List (ae×List Dv)):∀(ds:List Dv) (E E':En) (ρ:List Sl),EnLe E E'->aY g tb ogs ds E ρ->aY g tb ogs ds E' ρ
 | [],E,E',ρ,w,h=>⟨h.1,w.nx _ h.2⟩
 |d::r,E,E',ρ,w,h=>by
  have w2:EnLe { E with nx:=aY g tb ogs r E,ct:=aY g tb ogs r E,bk:=E.nx } { E' with nx:=aY g tb ogs r E',ct:=aY g tb ogs r E',bk:=E'.nx }:=
   ⟨λρ h=>mO mg mb ogs r E E' ρ w h,w.rt,w.nx,λρ h=>mO mg mb ogs r E E' ρ w h⟩
  exact⟨h.1,mg _ _ _ _ (λρ1 h=>mb _ _ _ w2 h) h.2⟩
theorem aZ(ogs:List (ae×List Dv))(E:En)(ρ:List Sl):aY g tb ogs [] E ρ=(guard ogs ρ/\E.nx ρ):=rfl
theorem b5(ogs:List (ae×List Dv))(d:Dv)(r:List Dv)(E:En)(ρ:List Sl):aY g tb ogs (d::r) E ρ=(guard ogs ρ/\g d ρ λρ1=>tb { E with nx:=aY g tb ogs r E,ct:=aY g tb ogs r E,bk:=E.nx } ρ1):=rfl
theorem tR{ogs:List (ae×List Dv)}:∀{ds:List Dv},aY g tb ogs ds E ρ->guard ogs ρ
 | [],h=>by rw[aZ] at h;exact h.1
 |_::_,h=>by rw[b5] at h;exact h.1
theorem dF(hp:PassesOwn (bz X.prog X.w) X.A X.env X.xe)(hc:X.N=X.N)(hi:QI X tg iter ti)(hg:QG X tg k g)(hb:QSs X Yv tb)(hs:∀x,io iter X.env x=jw x:=by intro _;rfl):QS X (.For tg iter Yv [] pos) (eW ti g tb):=by
 refine⟨λE E' ρ w h=>hi.mono _ _ _ (λds ogs h=>mO hg.mono hb.mono ogs ds E E' ρ w h) h,λHZ F=>?_⟩;obtain⟨wi,hwi,wiq⟩:=hi.run HZ F;obtain⟨tt,htt,ttq⟩:=hg.run;have hb':uT X Yv (λD σ H=>∃P,liftS X.K P F tb D σ H):=λpk s σ H D I ⟨P,q⟩=>hb.run P F pk s σ H D I q;refine dQ (HG hp hc hwi htt hb' hs) λD σ H ⟨ρ,E,fr,h,en⟩=>?_;refine wiq σ H ρ _ fr (hi.mono _ _ _ (λds ogs q J H2 S2 _ ok=>?_) h);have fr2:=fr.mono S2;have en2:Ent X.K (prot H2 ρ) F E D:=en.prot fr2;refine⟨λi m σ' H'=>m=ds.length-i/\i<=ds.length /\ ∃ρ',Fr X.K (prot H2 ρ) F σ' H' ρ'/\aY g tb ogs (ds.drop i) E ρ',⟨ds.length,by simp,oj _,ρ,fr2.prot,by simpa using q⟩,?_⟩;rintro i m σ' H' ⟨rfl,hil,ρ',fr',q'⟩;have gd:guard ogs ρ':=tR q';have Gn:=fr2.gen fr';have oks:=ok i H' (MM F ρ') fr'.same Gn λp hp=>let ⟨_,_,_,h⟩:=fr'.at_own (gd p hp);h;by_cases hlt:i<ds.length
 ·have hd:ds[i]?=aa ds[i]:=by simp[hlt]
  have hdr:ds.drop i=ds[i]::ds.drop (i+1):=gw hlt;rw[hdr,b5] at q';obtain⟨go,yld⟩:=oks.1 _ hd;refine .inr ⟨go,λσ2 H2'=>∃ρ2,Fr X.K (prot H2 ρ) F σ2 H2' ρ2/\aY g tb ogs (ds.drop (i+1)) E ρ2,λσ2 H2' ⟨ρ2,f2',q2⟩=>⟨ds.length-(i+1),⋯,rfl,hlt,ρ2,f2',q2⟩,λy H3 hy=>?_⟩;obtain⟨S3,ry⟩:=yld y H3 hy;refine ttq _ F y _ σ' H3 ρ' _ (fr'.mono S3) ry (hg.mono _ _ _ _ (λρ1 q1 σ1 f1 _=>?_) q'.2);exact⟨_,ρ1,_,f1,q1,λρ3 σ3 H3' f3 q3=>⟨ρ3,f3,q3⟩,en2.nx,λρ3 σ3 H3' f3 q3=>⟨ρ3,f3,q3⟩,en2.rt⟩
 ·have e:i=ds.length:=⋯;subst e;rw[ve,aZ] at q';exact .inl ⟨oks.2 (br _),en2.nx _ _ _ fr' q'.2⟩
end
end Z
variable {te:Z.dB}{ds:List (List L2.bW×Z.Dv)}{ρ:List Z.Sl}{ts:Z.lP}
namespace Z
open L2
variable {js:List Nat}{σ:St}{j:Nat}{elt iter:Expr}{ti:xJ}
section
variable {c:Expr}{g:AZ}{tb:cE}{Yv:List ku}{pos:lv}{k:Nat}{tc:n6}
def eY(js:List Nat)(ρ:List Sl):List Sl:=js.map λj=>(ρ[j]?).getD .un
def e9(ρ0:List Sl)(g:AZ)(tt:n6)(te:dB):List Dv->List Dv->(R->Prop)->Prop
 | [],acc,Q=>Q (.nw (.lst acc))
 |d::r,acc,Q=>g d ρ0 λρ1=>tt ρ1 λb=>if b=ai then te ρ1 λv=>(v.free=ai/\acc.length<Ac)/\e9 ρ0 g tt te r (acc++[v.d]) Q else e9 ρ0 g tt te r acc Q
def gD(k:Nat)(js:List Nat)(ti:xJ)(g:AZ)(tt:n6)(te:dB):dB:=λρ Q=>ti ρ λds _=>e9 (ay k .un++eY js ρ) g tt te ds [] Q
structure QTs(X:Cx)(ifs:List Expr)(t:n6):Prop where
 mono:∀(ρ:List Sl) (Q Q':Bool->Prop),(∀r,Q r->Q' r)->t ρ Q->t ρ Q'
 run:∀(HZ:Hp) (F:ae->Prop),Oh X ifs (liftT X.K HZ F t)
def jH:n6:=λ_ Q=>Q ai
theorem oU:QTs X [] jH:=⟨λ_ _ _ w q=>w _ q,λHZ F pk s σ H Q I ⟨ρ,fr,q⟩=>KW pk s σ H Q I (q H (aO.refl _))⟩
theorem rM{t:n6}(h:QT X c t):QTs X [c] t:=⟨h.mono,λHZ F=>KU (h.run HZ F)⟩
theorem lA{s:Sl}(h:(eY js ρ)[i]?=aa s)(hs:s ≠ .un):∃j,js[i]?=aa j/\ρ[j]?=aa s:=by
 unfold eY at h;rw[dg] at h;cases e:js[i]? with
 |none=>rw[e] at h;cases h
 |some j=>
  rw[e] at h;refine⟨j,rfl,?_⟩;have h':(ρ[j]?).getD .un=s:=Option.some.inj h;cases q:ρ[j]? with
  |none=>rw[q] at h';exact absurd h'.symm hs
  |some o=>rw[q] at h';exact congrArg aa h'
theorem Du{x:V}(hj:js[i]?=aa j)(h:σ[j]?=aa (aa x)):(pick js σ)[i]?=aa (aa x):=by
 unfold pick;rw[dg,hj,XU,h];rfl
theorem kO{ρ0:List Sl}{tt:n6}(mg:∀d ρ (Q Q':List Sl->Prop),(∀ρ,Q ρ->Q' ρ)->g d ρ Q->g d ρ Q')(mt:∀(ρ:List Sl) (Q Q':Bool->Prop),(∀r,Q r->Q' r)->tt ρ Q->tt ρ Q')(me:∀(ρ:List Sl) (Q Q':R->Prop),(∀r,Q r->Q' r)->te ρ Q->te ρ Q'):
  ∀(ds acc:List Dv) (Q Q':R->Prop),(∀r,Q r->Q' r)->e9 ρ0 g tt te ds acc Q->e9 ρ0 g tt te ds acc Q'
 | [],acc,Q,Q',w,h=>w _ h
 |d::r,acc,Q,Q',w,h=>by
  refine mg _ _ _ _ (λρ1 h=>mt _ _ _ (λb h=>?_) h) h;split at h
  ·rw[Yh ‹_›];exact me _ _ _ (λv h=>⟨h.1,kO mg mt me r _ Q Q' w h.2⟩) h
  ·rw[XQ ‹_›];exact kO mg mt me r _ Q Q' w h
theorem Fb{l:List Nat}(hN:l.Nodup){x:Nat}(a:l[i]?=aa x)(b:l[j]?=aa x):i=j:=by
 obtain⟨h1,e1⟩:=cf.mp a;obtain⟨h2,e2⟩:=cf.mp b;have P:=da.mp hN;rcases sh i j with h | h | h
 ·exact absurd (e1.trans e2.symm) (P i j h1 h2 h)
 ·exact h
 ·exact absurd (e2.trans e1.symm) (P j i h2 h1 h)
theorem Fr.block{H2:Hp}{k:Nat}{D:ae}{old:St}(fr:Fr K HZ F σ H ρ)(S:aO H H2)(hD:H D=au)(hD2:H2 D≠au)(nd:js.Nodup)(lo:old.length=k):
  ∃(P:Hp) (F':ae->Prop),Fr K P F' (old++pick js σ) H2 (ay k .un++eY js ρ)/\(∀a,MM F' (ay k .un++eY js ρ) a ↔ MM F ρ a \/ a=D)/\(∀a,F' a ↔ (MM F ρ a \/ a=D) /\ ¬ ∃d,Sl.own a d∈eY js ρ):=by
 have mem:∀{a:ae} {d:Dv},Sl.own a d∈ay k Sl.un++eY js ρ->Sl.own a d∈eY js ρ:=λh=>by
  rcases fj.mp h with h | h
  ·cases gm h
  ·exact h
 have sub:∀{a:ae} {d:Dv},Sl.own a d∈eY js ρ->Sl.own a d∈ρ:=λh=>by
  obtain⟨i,e⟩:=qk.mp h;obtain⟨j,_,e2⟩:=lA e (by intro z;cases z);exact fe e2
 refine⟨Z.prot H2 (eY js ρ),λa=>(MM F ρ a \/ a=D) /\ ¬ ∃d,Sl.own a d∈eY js ρ,?_,λa=>⟨λh=>?_,λh=>?_⟩,λa=>Iff.rfl⟩
 ·have iff:∀a,MM (λa=>(MM F ρ a \/ a=D) /\ ¬ ∃d,Sl.own a d∈eY js ρ) (ay k .un++eY js ρ) a->MM F ρ a \/ a=D:=λa h=>by
   rcases h with h | ⟨d,h⟩
   ·exact h.1
   ·exact .inl (.inr ⟨d,sub (mem h)⟩)
  have G:Gen K (MM F ρ) (MM (λa=>(MM F ρ a \/ a=D) /\ ¬ ∃d,Sl.own a d∈eY js ρ) (ay k .un++eY js ρ)) H H2:=((Gen.fresh hD).trans (.mono S)).trans (.weak iff);refine⟨by simp[pick,eY,lo],λi s e=>?_,λi j a d d' e1 e2=>?_,λa d h=>vJ (mem h),λb o h=>oV h,λa h=>?_,λPt q z=>?_⟩
  ·by_cases hi:i<k
   ·rw[bh (by simpa using hi),jr,Yh hi] at e;cases e;trivial
   ·rw[bo (by simpa using nh hi),ni] at e;rw[bo (by rw[lo];exact nh hi),lo];cases s with
    |un=>trivial
    |v d=>
     obtain⟨j,hj,e2⟩:=lA e (by intro z;cases z);obtain⟨x,hx,r⟩:=fr.sl j _ e2;exact⟨x,Du hj hx,r.gen G⟩
    |own a d=>
     obtain⟨j,hj,e2⟩:=lA e (by intro z;cases z);obtain⟨hx,r⟩:=fr.sl j _ e2;exact⟨Du hj hx,r.gen G λo e=>S _ _ e⟩
  ·have ge:∀{i:Nat} {d:Dv},(ay k Sl.un++eY js ρ)[i]?=aa (.own a d)->k<=i/\(eY js ρ)[i-k]?=aa (.own a d):=λ{i d} e=>by
    by_cases hi:i<k
    ·rw[bh (by simpa using hi),jr,Yh hi] at e;cases e
    ·rw[bo (by simpa using nh hi),ni] at e;exact⟨nh hi,e⟩
   obtain⟨k1,e1⟩:=ge e1;obtain⟨k2,e2⟩:=ge e2;obtain⟨j1,hj1,e1⟩:=lA e1 (by intro z;cases z);obtain⟨j2,hj2,e2⟩:=lA e2 (by intro z;cases z);have:=fr.nd j1 j2 a d d' e1 e2;subst this;have:=Fb nd hj1 hj2;right
  ·rw[cJ h.2];rcases h.1 with m | m
   ·intro z;exact fr.dom m (S.free z)
   ·rw[m];exact hD2
  ·have e:=fr.old.t Pt q z;rw[cJ ?_]
   ·exact S _ _ (fr.same _ _ e)
   ·rintro⟨d,c⟩;rw[fr.new Pt d (sub c)] at e;cases e
 ·rcases h with h | ⟨d,h⟩
  ·exact h.1
  ·exact .inl (.inr ⟨d,sub (mem h)⟩)
 ·by_cases c:∃d,Sl.own a d∈eY js ρ
  ·obtain⟨d,c⟩:=c;exact .inr ⟨d,eg _ c⟩
  ·exact .inl ⟨h,c⟩
end
inductive liftG(K:ak)(k:Nat)(g:AZ)(v:V)(σ:St)(H:Hp)(Q:St->Hp->Prop):Prop
 |mk (d:Dv) (HZ:Hp) (F:ae->Prop) (ρ:List Sl) (fr:Fr K HZ F σ H ρ) (r:Rep K (MM F ρ) H v d) (h:g d ρ (λρ1=>∀σ1,Fr K HZ F σ1 H ρ1->(∀j,k<=j->σ1[j]?=σ[j]?)->Q σ1 H))
theorem QG.pg{k:Nat}{g:AZ}(h:QG X tg k g):PG X tg (liftG X.K k g):=by
 obtain⟨t,ht,tq⟩:=h.run;intro pk s σ H v u Q I r ⟨d,HZ,F,ρ,fr,rv,q⟩;exact ht pk s σ H v u Q I r (tq HZ F v d σ H ρ Q fr rv q)
theorem QE.pe(h:QE X e te):PE X e (λσ H Q=>∃HZ F,lift X.K HZ F te σ H Q):=λpk s σ H Q I ⟨HZ,F,q⟩=>h.run HZ F pk s σ H Q I q
variable {tt:n6}
theorem QTs.pt(h:QTs X ifs tt):Oh X ifs (λσ H Q=>∃HZ F,liftT X.K HZ F tt σ H Q):=λpk s σ H Q I ⟨HZ,F,q⟩=>h.run HZ F pk s σ H Q I q
theorem As{l a b:List α}{k:Nat}(ha:a.length=k)(hl:l.length=k+b.length)(h:∀j,k<=j->l[j]?=(a++b)[j]?):l=l.take k++b:=by
 refine qz λj=>?_;by_cases hj:j<k
 ·rw[bh (by rw[dw];right),gy hj]
 ·rw[h j ⋯,bo ⋯,bo (by rw[dw];right),ha,dw,pq ⋯]
section
variable {pos:lv}
theorem NH{tgt:Expr}{cl:List (bv×ae)}{tgs ns:List bv}{k:Nat}{g:AZ}(hc:X.N=X.N)(hk:tgs.length=k)
  (hi:QI X tgt iter ti) (hg:∀(fp:List ae) (s:ah) (H:Hp),QG (qU X Yi cl fp (tgs++ns) s H) tgt k g) (ht:∀(fp:List ae) (s:ah) (H:Hp),QTs (qU X Yi cl fp (tgs++ns) s H) ifs tt)
  (he:∀(fp:List ae) (s:ah) (H:Hp),QE (qU X Yi cl fp (tgs++ns) s H) elt te)
  (YA:wj Yi X.env=jw cl) (Yx:∀x c,cl.lookup x=aa c->X.env.cells.lookup x=aa c)
  (YH:∀x,((iz Yi X.env).names.lookup x=aa .cell \/ (iz Yi X.env).names.lookup x=aa .free) -> ∃c,cl.lookup x=aa c)
  (hjs:js.map (λj=>X.N[j]?)=ns.map aa) (hin:∀y∈ns,(iz Yi X.env).names.lookup y=aa .cell \/ (iz Yi X.env).names.lookup y=aa .free)
  (YB:∀y∈ns,X.env.kindOf y=aa .cell \/ X.env.kindOf y=aa .free) (nd:js.Nodup)
  (Yo:∀y∈Yi.names,y.2 ≠ .cell:=by decide +kernel) (Ys:Yi.kind=.function:=by rfl)
  (Yr:∀y∈Yi.names,y.2=.local->Yi.names.lookup y.1=aa .local:=by decide +kernel)
  (hs:∀z,io iter X.env z=jw z:=by intro _;rfl):
  QE X (.ListComp elt [⟨tgt,iter,ifs,0⟩] Yi pos) (gD k js ti g tt te):=by
 have mg:=(hg [] X.s₀ λ_=>au).mono;have ag:=(hg [] X.s₀ λ_=>au).agree;have mt:=(ht [] X.s₀ λ_=>au).mono;have me:=(he [] X.s₀ λ_=>au).mono;refine⟨λρ Q Q' w h=>hi.mono _ _ _ (λds ogs h=>kO mg mt me ds [] Q Q' w h) h,λHZ F=>?_⟩;obtain⟨wi,hwi,wiq⟩:=hi.run HZ F;refine cU (HU (tgs:=tgs) (ns:=ns) (js:=js) (g:=liftG X.K k g) (tt:=λσ H Q=>∃HZ F,liftT X.K HZ F tt σ H Q) (te:=λσ H Q=>∃HZ F,lift X.K HZ F te σ H Q) hc hwi (λfp s H=>(hg fp s H).pg) (λfp s H=>(ht fp s H).pt) (λfp s H=>(he fp s H).pe) YA Yx YH hjs hin YB Yo Ys Yr hs) λσ H Q ⟨ρ,fr,h⟩=>?_;subst hk;refine wiq σ H ρ _ fr (hi.mono _ _ _ (λds ogs q J H1 S1 gd ok=>?_) h);intro D hD;have fr1:=fr.mono S1;refine⟨λi m acc H2=>m=ds.length-i/\i<=ds.length/\aO H1 H2 /\ ∃accD,Reps X.K (λa=>MM F ρ a \/ a=D) H2 acc accD /\
  e9 (ay tgs.length .un++eY js ρ) g tt te (ds.drop i) accD (λr=>∀x H',aO H H'->eD X.K (MM F ρ) (Ab ρ) H x r H'->Q x H'),
  ⟨ds.length,by simp,oj _,aO.new' hD,[],.nil,by simpa using q⟩,?_⟩
 rintro i m acc H2 ⟨rfl,hil,S2,accD,ra,q⟩ hDl;have G2:Gen X.K (MM F ρ) (λa=>MM F ρ a \/ a=D) H1 H2:=(Gen.fresh hD).trans (.mono S2);have oks:=ok i H2 (λa=>MM F ρ a \/ a=D) (λb o e=>S2 _ _ (oV e)) G2 λp hp=>by
  obtain⟨_,_,_,ow⟩:=fr1.at_own (gd p hp);exact ow.gen G2 λo e=>S2 _ _ e
 by_cases hlt:i<ds.length
 ·have hd:ds[i]?=aa ds[i]:=by simp[hlt]
  rw[gw hlt] at q;obtain⟨go,yld⟩:=oks.1 _ hd;refine .inr ⟨go,λy H3 hy old lo=>?_⟩;obtain⟨S3,ry⟩:=yld y H3 hy;have hD3:=S3 _ _ hDl;obtain⟨P,F',fr',iff,iffF⟩:=fr1.block (js:=js) (old:=old) (S2.trans S3) hD (by rw[hD3];simp) nd lo;refine⟨_,P,F',_,fr',ry.weak λa z=>(iff a).mp z,mg _ _ _ _ (λρ1 q1 σ1 f1 a1=>?_) (ag _ _ _ q)⟩;obtain⟨q1,l1,b1⟩:=q1;have up:∀a,MM F ρ a \/ a=D->MM F' ρ1 a:=λa z=>by
   rcases(iff a).mpr z with z | ⟨d,z⟩
   ·exact .inl z
   ·refine .inr ⟨d,?_⟩;obtain⟨j,e⟩:=qk.mp z;have hj:tgs.length<=j:=by
     by_cases hj:j<tgs.length
     ·rw[bh (by simpa using hj),jr,Yh hj] at e;cases e
     ·right
    rw[<- b1 j hj] at e;exact fe e
  have hlen:σ1.length=tgs.length+(pick js σ).length:=by
   have:=f1.len;rw[l1] at this;simp[pick,eY] at this ⊢;right
  refine⟨⟨σ1.take tgs.length,by rw[dw];right,As lo hlen a1⟩,P,F',ρ1,f1,mt _ _ _ (λb q5 H5 S5=>?_) q1⟩;have S25:=(S2.trans S3).trans S5;cases b with
  |true=>
   simp only[if_true] at q5;refine u9 ⟨P,F',ρ1,f1.mono S5,me _ _ _ (λr q6 x H6 S6 rx=>?_) q5⟩;have hD6:=S6 _ _ (S5 _ _ hD3);obtain⟨⟨rf,rl⟩,q6⟩:=q6;have rep:=(rx.rep (λa z=>(f1.mono S5).dom z) rf).weak up;refine⟨hD6,by rw[ra.length];exact vV rl,ds.length-(i+1),⋯,rfl,hlt,λb o e=>?_,_,?_,q6⟩
   ·rw[bB (bL e hD)];exact S6 _ _ (S25 _ _ e)
   ·have G6:Gen X.K (λa=>MM F ρ a \/ a=D) (λa=>MM F ρ a \/ a=D) H6 (upd H6 D (.lst (acc++[x]))):=Gen.write (.inr rfl) (by rw[hD6];trivial);exact((ra.mono ((S3.trans S5).trans S6)).append (.cons rep .nil)).gen G6
  |false=>
   simp only[dq,if_false] at q5;exact uA ⟨S5 _ _ hD3,ds.length-(i+1),⋯,rfl,hlt,S25,accD,ra.mono (S3.trans S5),q5⟩
 ·have e:i=ds.length:=⋯;subst e;rw[ve] at q;exact .inl ⟨oks.2 (br _),q (.ref D) H2 (S1.trans S2) ⟨D,rfl,S1.free hD,acc,hDl,ra⟩⟩
end
def oO(X:Cx)(f:af)(p:List Dv->(R->Prop)->Prop):Prop:=
 (∀ds (Q Q':R->Prop),(∀r,Q r->Q' r)->p ds Q->p ds Q') /\ ∃r:List V->Hp->VK->Prop,fM X f r /\ ∀(M:ae->Prop) (O:ae->Dv->Prop) (H:Hp) (xs:List V) (ds:List Dv) (Q:VK),yV X.K M H xs ds ->
  p ds (λrr=>∀z H',aO H H'->eD X.K M O H z rr H'->Q z H')->r xs H Q
def fD(p:List Dv->(R->Prop)->Prop)(ts:lP):dB:=λρ Q=>ts ρ λrs=>p (rs.map R.d) Q
variable {T:String}{p2:lv}
section
variable {pos:lv}{x:bv}{id:String}{pp:List Dv->(R->Prop)->Prop}
theorem Em{r:List V->Hp->VK->Prop}(ha:QA X es ts)(mo:∀ds (Q Q':R->Prop),(∀r,Q r->Q' r)->pp ds Q->pp ds Q')
  (hr:∀(M:ae->Prop) (O:ae->Dv->Prop) (H:Hp) (xs:List V) (ds:List Dv) (Q:VK),yV X.K M H xs ds->pp ds (λrr=>∀z H',aO H H'->eD X.K M O H z rr H'->Q z H')->r xs H Q)
  (HZ:Hp) (F:ae->Prop) (σ:St) (H:Hp) (Q:VK) (h:lift X.K HZ F (fD pp ts) σ H Q):Rg r (liftA X.K HZ F ts) σ H Q:=by
 obtain⟨ρ,fr,h⟩:=h;refine ha.step fr h λrs xs H1 q S1 r1=>?_;exact hr (MM F ρ) (Ab ρ) H1 xs _ Q r1.c (mo _ _ _ (λrr k z H' S rz=>k z H' (S1.trans S) (rz.ahead S1)) q)
theorem aX(hc:oO X (.builtin id) pp)(hg:Gl X x)(hm:X.mg x=au)(hv:oy x=aa (.builtin id))(ha:QA X (e::es) ts)(hn:x ≠ "__name__" := by decide)(hdb:(x==("__debug__" : bv))=ao:=by decide)
  (he:aw (e::es) X.env=(ao,gh e X.env)::aw es X.env:=by rfl) (hpl:(ir pos (aw es X.env)).any (·.1)=ao:=by rfl):QE X (.Call (.Name x p) (e::es) [] pos) (fD pp ts):=by
 obtain⟨mo,r,hR,hr⟩:=hc;exact⟨λρ Q Q' w q=>ha.mono _ _ _ (λrs q=>mo _ _ _ w q) q,λHZ F=>cU (rQ hR hg hm hv (ha.run HZ F) hn hdb he hpl) (Em ha mo hr HZ F)⟩
theorem jZ(hc:oO X (.type T) pp)(hg:Gl X x)(hm:X.mg x=au)(hv:oy x=aa (.type T))(ha:QA X (e::es) ts)(hn:x ≠ "__name__" := by decide)(hdb:(x==("__debug__" : bv))=ao:=by decide)
  (he:aw (e::es) X.env=(ao,gh e X.env)::aw es X.env:=by rfl) (hpl:(ir pos (aw es X.env)).any (·.1)=ao:=by rfl):QE X (.Call (.Name x p) (e::es) [] pos) (fD pp ts):=by
 obtain⟨mo,r,hR,hr⟩:=hc;exact⟨λρ Q Q' w q=>ha.mono _ _ _ (λrs q=>mo _ _ _ w q) q,λHZ F=>cU (sS hR hg hm hv (ha.run HZ F) hn hdb he hpl) (Em ha mo hr HZ F)⟩
def d5:List Dv->(R->Prop)->Prop
 | [.lst xs],Q=>Q (.v (.int xs.length))
 | [.tup xs],Q=>Q (.v (.int xs.length))
 | [.scr ns],Q=>Q (.v (.int ns.length))
 | [.str y],Q=>y.length<=Ac/\Q (.v (.int y.length))
 | [.dik kvs],Q=>Q (.v (.int kvs.length))
 |_,_=>False
theorem RepK.length{K:ak}{M:ae->Prop}{H:Hp}{xs:List (bW×V)}{ds:List (bW×Dv)}(r:RepK K M H xs ds):xs.length=ds.length:=r.ind (P:=λxs ds=>xs.length=ds.length) rfl λ_ _ _ _ _ _ _ ih=>congrArg (· + 1) ih
theorem bZ:oO X (.builtin "len") d5:=by
 refine⟨λds Q Q' w h=>?_,_,AV.or (AU.or GL),λM O H xs ds Q c h=>?_⟩
 ·unfold d5 at *;split at h<;>first | exact w _ h | exact⟨h.1,w _ h.2⟩ | exact h
 ·unfold d5 at h;split at h
  ·obtain⟨x,rfl,cx⟩:=eQ c;obtain⟨a,ys,rfl,ea,ra⟩:=cx.lst;refine .inl ⟨a,ys,rfl,.inl (gJ.of ea),?_⟩;rw[ra.length];exact h _ H (aO.refl _) (Rep.int _)
  ·obtain⟨x,rfl,cx⟩:=eQ c;obtain⟨a,ys,rfl,ea,ra⟩:=cx.tup;refine .inl ⟨a,ys,rfl,.inr (pF.of ea),?_⟩;rw[ra.length];exact h _ H (aO.refl _) (Rep.int _)
  ·obtain⟨x,rfl,cx⟩:=eQ c;obtain⟨a,rfl,ea⟩:=cx.scr;refine .inl ⟨a,_,rfl,.inl ea.sq,?_⟩;rw[bf];exact h _ H (aO.refl _) (Rep.int _)
  ·obtain⟨x,rfl,cx⟩:=eQ c;obtain rfl:=cx.str;exact .inr (.inl ⟨_,rfl,j6 h.1,h.2 _ H (aO.refl _) (Rep.int _)⟩)
  ·obtain⟨x,rfl,cx⟩:=eQ c;obtain⟨a,ys,rfl,ea,ra⟩:=cx.dik;refine .inr (.inr ⟨a,ys,rfl,ea,?_⟩);rw[ra.length];exact h _ H (aO.refl _) (Rep.int _)
  ·exact h.elim
def FX:List Dv->(R->Prop)->Prop
 | [.int i],Q=>Q (.v (.int (if i<0 then -i else i)))
 |_,_=>False
theorem JW:oO X (.builtin "abs") FX:=by
 refine⟨λds Q Q' w h=>?_,_,JY,λM O H xs ds Q c h=>?_⟩
 ·unfold FX at *;split at h<;>first | exact w _ h | exact h
 ·unfold FX at h;split at h
  ·obtain⟨x,rfl,cx⟩:=eQ c;obtain rfl:=cx.int;exact⟨_,rfl,h _ H (aO.refl _) (Rep.int _)⟩
  ·exact h.elim
def vO:List Dv->(R->Prop)->Prop
 | [.int i,.int j],Q=>Q (.v (.int (if j<i then j else i)))
 |_,_=>False
def Q7:List Dv->(R->Prop)->Prop
 | [.int i,.int j],Q=>Q (.v (.int (if j > i then j else i)))
 |_,_=>False
theorem Er(hc:X.calm=ai):oO X (.builtin "min") vO:=by
 refine⟨λds Q Q' w h=>?_,_,GK hc,λM O H xs ds Q c h=>?_⟩
 ·unfold vO at *;split at h<;>first | exact w _ h | exact h
 ·unfold vO at h;split at h
  ·obtain⟨x,y,rfl,cx,cy⟩:=DZ c;obtain rfl:=cx.int;obtain rfl:=cy.int;exact⟨_,_,rfl,h _ H (aO.refl _) (Rep.int _)⟩
  ·exact h.elim
def Hb:List Dv->(R->Prop)->Prop
 | [.lst ds],Q=>∃ns:List Int,ds=ns.map .int/\Q (.v (.int ns.sum))
 |_,_=>False
def Hw:List Dv->(R->Prop)->Prop
 | [.lst ds],Q=>∃bs:List Bool,ds=bs.map .bl/\Q (.v (.bl (bs.all _root_.id)))
 |_,_=>False
theorem Reps.of_ints{K:ak}{M:ae->Prop}{H:Hp}:∀{xs:List V} {ns:List Int},Reps K M H xs (ns.map .int)->xs=ns.map V.int
 |_,[],.nil=>rfl
 |_,n::r,.cons a t=>by cases a;rw[Reps.of_ints t];rfl
theorem Reps.of_bls{K:ak}{M:ae->Prop}{H:Hp}:∀{xs:List V} {ns:List Bool},Reps K M H xs (ns.map .bl)->xs=ns.map V.bl
 |_,[],.nil=>rfl
 |_,n::r,.cons a t=>by cases a;rw[Reps.of_bls t];rfl
theorem OW(hc:X.N=X.N):oO X (.builtin "sum") Hb:=by
 refine⟨λds Q Q' w h=>?_,_,GI hc,λM O H xs ds Q c h=>?_⟩
 ·unfold Hb at *;split at h
  ·obtain⟨ns,e,h⟩:=h;exact⟨ns,e,w _ h⟩
  ·exact h
 ·unfold Hb at h;split at h
  ·obtain⟨ns,rfl,h⟩:=h;obtain⟨x,rfl,cx⟩:=eQ c;obtain⟨a,ys,rfl,ea,ra⟩:=cx.lst;obtain rfl:=ra.of_ints;exact⟨a,ns,rfl,gJ.of ea,h _ H (aO.refl _) (Rep.int _)⟩
  ·exact h.elim
theorem OX(hc:X.calm=ai):oO X (.builtin "all") Hw:=by
 refine⟨λds Q Q' w h=>?_,_,GO hc,λM O H xs ds Q c h=>?_⟩
 ·unfold Hw at *;split at h
  ·obtain⟨ns,e,h⟩:=h;exact⟨ns,e,w _ h⟩
  ·exact h
 ·unfold Hw at h;split at h
  ·obtain⟨ns,rfl,h⟩:=h;obtain⟨x,rfl,cx⟩:=eQ c;obtain⟨a,ys,rfl,ea,ra⟩:=cx.lst;obtain rfl:=ra.of_bls;exact⟨a,ns,rfl,gJ.of ea,h _ H (aO.refl _) (Rep.bl _)⟩
  ·exact h.elim
def rV:List Dv->(R->Prop)->Prop
 | [.lst ds],Q=>Q (.nw (.lst ds))
 | [.tup ds],Q=>Q (.nw (.lst ds))
 | [.scr ns],Q=>Q (.nw (.lst (ns.map .int)))
 |_,_=>False
theorem Es:oO X (.type "list") rV:=by
 refine⟨λds Q Q' w h=>?_,_,AT,λM O H xs ds Q c h=>?_⟩
 ·unfold rV at *;split at h<;>first | exact w _ h | exact h
 ·unfold rV at h;split at h
  ·obtain⟨x,rfl,cx⟩:=eQ c;obtain⟨a,ys,rfl,ea,ra⟩:=cx.lst;exact⟨a,ys,rfl,.inl (gJ.of ea),λl hl=>h _ _ (aO.new' hl) (k6 hl ra)⟩
  ·obtain⟨x,rfl,cx⟩:=eQ c;obtain⟨a,ys,rfl,ea,ra⟩:=cx.tup;exact⟨a,ys,rfl,.inr (pF.of ea),λl hl=>h _ _ (aO.new' hl) (k6 hl ra)⟩
  ·obtain⟨x,rfl,cx⟩:=eQ c;obtain⟨a,rfl,ea⟩:=cx.scr;exact⟨a,_,rfl,.inl ea.sq,λl hl=>h _ _ (aO.new' hl) (k6 hl (Reps.ints _))⟩
  ·exact h.elim
def k4:List Dv->(R->Prop)->Prop
 | [.lst ds],Q=>Q (.v (.tup ds))
 | [.tup ds],Q=>Q (.v (.tup ds))
 |_,_=>False
theorem oH:oO X (.type "tuple") k4:=by
 refine⟨λds Q Q' w h=>?_,_,xG,λM O H xs ds Q c h=>?_⟩
 ·unfold k4 at *;split at h<;>first | exact w _ h | exact h
 ·unfold k4 at h;split at h
  ·obtain⟨x,rfl,cx⟩:=eQ c;obtain⟨a,ys,rfl,ea,ra⟩:=cx.lst;exact⟨a,ys,rfl,.inl ⟨gJ.of ea,λl hl=>h _ _ (aO.new' hl) (Lu hl ra)⟩⟩
  ·obtain⟨x,rfl,cx⟩:=eQ c;obtain⟨a,ys,rfl,ea,ra⟩:=cx.tup;exact⟨a,ys,rfl,.inr ⟨pF.of ea,h _ H (aO.refl _) (Rep.tup ea ra)⟩⟩
  ·exact h.elim
def RO:Dv->String
 | .non=>"NoneType"
 | .bl _=>"bool"
 | .int _=>"int"
 | .str _=>"str"
 | .tup _=>"tuple"
 | .lst _=>"list"
 | .scr _=>"list"
 | .dik _=>"dict"
 | .dit _=>"dict"
 | .obj _ _=>""
 | .exc _ _=>""
 | .dns _=>""
def J3(T:String)(d:Dv):Bool:=RO d==T || (T == "int" && RO d == "bool")
def Aj:Dv->Bool
 | .obj _ _=>ao
 | .exc _ _=>ao
 | .dns _=>ao
 | .scr _=>ao
 |_=>ai
def AD(T:String)(te:dB):dB:=λρ Q=>te ρ λr=>Aj r.d=ai/\Q (.v (.bl (J3 T r.d)))
theorem LJ(hT:T = "int" \/ T = "bool" \/ T = "tuple" \/ T = "list" \/ T = "str")(d:Dv)(ho:Aj d=ai):rh K (.type (RO d)) (.type T)=aa (J3 T d):=by
 rcases hT with rfl | rfl | rfl | rfl | rfl<;>cases d<;>first | (simp[Aj] at ho;done) | with_unfolding_all rfl
theorem dP.ty{x:V}{d:Dv}(c:dP K M H x d)(ho:Aj d=ai):TyOf K H x (.type (RO d)):=by
 cases d with
 |non=>obtain rfl:=c.non;exact .non
 |bl b=>obtain rfl:=c.bl;exact .bl b
 |int i=>obtain rfl:=c.int;exact .int i
 |str y=>obtain rfl:=c.str;exact .str y
 |tup ds=>obtain⟨a,xs,rfl,e,_⟩:=c.tup;exact .tup e
 |lst ds=>obtain⟨a,xs,rfl,e,_⟩:=c.lst;exact .lst e
 |dik ds=>obtain⟨a,xs,rfl,e,_⟩:=c.dik;exact .dK e
 |dit ds=>obtain⟨a,ep,xs,rfl,e,_⟩:=c.dit;exact .dT e
 |obj C fs=>simp[Aj] at ho
 |scr ns=>simp[Aj] at ho
 |exc C p=>simp[Aj] at ho
 |dns ks=>simp[Aj] at ho
theorem B7(hT:T = "int" \/ T = "bool" \/ T = "tuple" \/ T = "list" \/ T = "str")(hg:Gl X "isinstance")(hm:X.mg "isinstance" = au)(ha:QE X e te)(hty:PE X (.Name x p2) (tC (.ty T)))
  (he:aw [e,.Name x p2] X.env=(ao,gh e X.env)::aw [.Name x p2] X.env:=by rfl) (he2:aw [Xh x p2] X.env=(ao,gh (.Name x p2) X.env)::aw [] X.env:=by rfl) (hpl:(ir pos (aw [.Name x p2] X.env)).any (·.1)=ao:=by rfl):
  QE X (.Call (.Name "isinstance" p) [e,.Name x p2] [] pos) (AD T te):=by
 refine⟨λρ Q Q' w q=>ha.mono _ _ _ (λr q=>⟨q.1,w _ q.2⟩) q,λHZ F=>cU (rQ JX hg hm U8 (iP (ha.run HZ F) (iP hty qA he2) he) ∅ ∅ he hpl) λσ H Q ⟨ρ,fr,h⟩=>?_⟩;refine ha.step fr h λr x H1 q S1 r1=>?_;exact⟨x,T,_,_,rfl,r1.c.ty q.1,LJ hT _ q.1,q.2 _ H1 S1 (Rep.bl _)⟩
end
def kD:bW->Dv
 | .inl i=>.int i
 | .inr x=>.str x
def cR:Dv->Dv->(R->Prop)->Prop
 | .lst xs,.int i,Q=>match qZ xs i with
  |some d=>Q (.v d)
  |none=>False
 | .tup xs,.int i,Q=>match qZ xs i with
  |some d=>Q (.v d)
  |none=>False
 | .scr ns,.int i,Q=>match qZ ns i with
  |some n=>Q (.v (.int n))
  |none=>False
 | .str z,.int i,Q=>z.length<=Ac/\match qZ z.cps.toList i with
  |some c=>Q (.v (.str ⟨#[c]⟩))
  |none=>False
 | .dik kvs,.int i,Q=>match kvs.find? (λkv=>decide (kv.1=iw i)) with
  |some kv=>Q (.v kv.2)
  |none=>False
 | .dik kvs,.str x,Q=>match kvs.find? (λkv=>decide (kv.1=xj x)) with
  |some kv=>Q (.v kv.2)
  |none=>False
 | .dit kvs,.tup ds,Q=>∃k:List bW,ds=k.map kD/\match kvs.find? (λkv=>decide (kv.1=k)) with
  |some kv=>Q (.v kv.2)
  |none=>False
 |_,_,_=>False
variable {tb ta:dB}{a b:Expr}
section
variable {pos:lv}
theorem Reps.at{K:ak}{M:ae->Prop}{H:Hp}{xs:List V}{ds:List Dv}{i:Int}{d:Dv}(r:Reps K M H xs ds)(h:qZ ds i=aa d):∃x,qZ xs i=aa x/\Rep K M H x d:=by
 unfold qZ at *;rw[r.length];cases e:uI ds.length i with
 |none=>rw[e] at h;cases h
 |some j=>
  rw[e] at h;obtain⟨x,hx,rx⟩:=r.get (i:=j) h;exact⟨x,hx,rx⟩
theorem Lq{β:Type}{f:α->β}{l:List α}{i:Int}:qZ (l.map f) i=(qZ l i).map f:=by
 unfold qZ;rw[bf];cases uI l.length i with
 |none=>rfl
 |some j=>simp
theorem RepK.val{k:bW}{xs:List (bW×V)}{ds:List (bW×Dv)}(r:RepK K M H xs ds):(∀kv,ds.find? (λkv=>decide (kv.1=k))=aa kv -> ∃x,kR xs k=aa x/\Rep K M H x kv.2)/\(ds.find? (λkv=>decide (kv.1=k))=au->kR xs k=au):=
 r.ind (P:=λxs ds=>(∀kv,ds.find? (λkv=>decide (kv.1=k))=aa kv -> ∃x,kR xs k=aa x/\Rep K M H x kv.2)/\(ds.find? (λkv=>decide (kv.1=k))=au->kR xs k=au)) ⟨λ_ h=>(by cases h),λ_=>rfl⟩ λk' x d xs ds a _ ih=>by
  by_cases e:k'=k
  ·rw[rd (by simpa using e),nA e];exact⟨λkv h=>by cases h;exact⟨x,rfl,a⟩,λh=>by cases h⟩
  ·rw[re (by simpa using e),nB e];exact ih
theorem RepT.val{k:List bW}(r:RepT K M H xs ds):(∀kv,ds.find? (λkv=>decide (kv.1=k))=aa kv -> ∃x,kR xs k=aa x/\Rep K M H x kv.2)/\(ds.find? (λkv=>decide (kv.1=k))=au->kR xs k=au):=
 r.ind (P:=λxs ds=>(∀kv,ds.find? (λkv=>decide (kv.1=k))=aa kv -> ∃x,kR xs k=aa x/\Rep K M H x kv.2)/\(ds.find? (λkv=>decide (kv.1=k))=au->kR xs k=au)) ⟨λ_ h=>(by cases h),λ_=>rfl⟩ λk' x d xs ds a _ ih=>by
  by_cases e:k'=k
  ·rw[rd (by simpa using e),nA e];exact⟨λkv h=>by cases h;exact⟨x,rfl,a⟩,λh=>by cases h⟩
  ·rw[re (by simpa using e),nB e];exact ih
theorem Reps.keys{K:ak}{M:ae->Prop}{H:Hp}:∀{xs:List V} {k:List bW},Reps K M H xs (k.map kD)->xs=k.map kV
 |_,[],.nil=>rfl
 |_,.inl i::r,.cons a t=>by cases a;rw[Reps.keys t];rfl
 |_,.inr x::r,.cons a t=>by cases a;rw[Reps.keys t];rfl
def Rp:R2:=λx y H Q=>∃a v,x=.ref a/\tH H a y (aa v)/\Q v H
theorem LL(hu:X.A.units+1<jy):Jo X Rp:=by
 intro Yp Yy pk s σ H x y v u Q I rx ry h hs;obtain⟨a,z,rfl,g,q⟩:=h;cases rx;have hT:=CH I g;unfold V2;refine ad ?_;rw[getitemInPython_of_ne hT.not_modules];refine ad (uv hT PySem.F.slot_dict_getitem.lookup ?_);have fin:bt (bz X.prog X.w) X.A (Wh Yy ao (.ref a) u) (λr s₃=>bt (bz X.prog X.w) X.A (letTemporaryGo Yp (.ref a) r >>= λ_=>jw r) (EP X pk σ Q) X.xe s₃) X.xe s:=by
  rw[hs];exact wpAny_operating (gr (GG hu I g ry λw' s' I' rw'=>show EP X pk σ Q w' s' from⟨z,H,I',rw',q⟩) (λr s₃ h₃=>ad (wpAny_letTemporaryGo (aj h₃))) λ_ _ x=>x)
 first
  |exact aj (ad fin)
  |exact ad (aj (ad fin))
  |exact ad fin
theorem BQ:∀dx dy (Q Q':R->Prop),(∀r,Q r->Q' r)->cR dx dy Q->cR dx dy Q':=by
 intro dx dy Q Q' w h;unfold cR at *;split at h
 ·split at h
  ·exact w _ h
  ·exact h
 ·split at h
  ·exact w _ h
  ·exact h
 ·split at h
  ·exact w _ h
  ·exact h
 ·refine⟨h.1,?_⟩;have h2:=h.2;split at h2
  ·exact w _ h2
  ·exact h2
 ·split at h
  ·exact w _ h
  ·exact h
 ·split at h
  ·exact w _ h
  ·exact h
 ·obtain⟨k,e,h⟩:=h;refine⟨k,e,?_⟩;split at h
  ·exact w _ h
  ·exact h
 ·exact h
theorem c9(hu:X.A.units+1<jy)(ha:QE X a ta)(hb:QE X b tb)(hs:Ev b:=by intro _ _;rfl):QE X (.Subscript a b pos) (aR cR ta tb):=by
 refine⟨sD ha hb BQ,λHZ F=>cU (Px (OD.or (LL hu)) (ha.run HZ F) (hb.run HZ F) hs) (uP ha hb (λM O H x y dx dy Q cx cy h=>?_) BQ HZ F)⟩;unfold cR at h;split at h
 ·rename_i xs i;split at h
  ·rename_i d hd;obtain⟨p,vs,rfl,ea,ra⟩:=cx.lst;obtain rfl:=cy.int;obtain⟨z,hz,rz⟩:=ra.at hd;exact .inl (.inl ⟨p,vs,i,z,rfl,rfl,gJ.of ea,hz,h _ H (aO.refl _) rz⟩)
  ·exact h.elim
 ·rename_i xs i;split at h
  ·rename_i d hd;obtain⟨p,vs,rfl,ea,ra⟩:=cx.tup;obtain rfl:=cy.int;obtain⟨z,hz,rz⟩:=ra.at hd;exact .inl (.inr (.inl ⟨p,vs,i,z,rfl,rfl,pF.of ea,hz,h _ H (aO.refl _) rz⟩))
  ·exact h.elim
 ·rename_i ns i;split at h
  ·rename_i n hn;obtain⟨p,rfl,ea⟩:=cx.scr;obtain rfl:=cy.int;refine .inl (.inl ⟨p,_,i,.int n,rfl,rfl,ea.sq,?_,h _ H (aO.refl _) (Rep.int _)⟩);rw[Lq,hn];rfl
  ·exact h.elim
 ·rename_i z i;obtain⟨hl,h⟩:=h;split at h
  ·rename_i c hc;obtain rfl:=cx.str;obtain rfl:=cy.int;exact .inl (.inr (.inr ⟨z,i,c,rfl,rfl,j6 hl,hc,h _ H (aO.refl _) (Rep.str _)⟩))
  ·exact h.elim
 ·split at h
  ·rename_i kv hk;obtain⟨p,kvs,rfl,ea,ra⟩:=cx.dik;obtain rfl:=cy.int;obtain⟨z,hz,rz⟩:=ra.val.1 kv hk;exact .inr ⟨p,z,rfl,by rw[<- hz];exact tH.k (k:=iw _) ea,h _ H (aO.refl _) rz⟩
  ·exact h.elim
 ·split at h
  ·rename_i kv hk;obtain⟨p,kvs,rfl,ea,ra⟩:=cx.dik;obtain rfl:=cy.str;obtain⟨z,hz,rz⟩:=ra.val.1 kv hk;exact .inr ⟨p,z,rfl,by rw[<- hz];exact tH.k (k:=xj _) ea,h _ H (aO.refl _) rz⟩
  ·exact h.elim
 ·obtain⟨k,rfl,h⟩:=h;split at h
  ·rename_i kv hk;obtain⟨p,ep,kvs,rfl,ea,ra⟩:=cx.dit;obtain⟨b,ys,rfl,eb,rb⟩:=cy.tup;obtain rfl:=rb.keys;obtain⟨z,hz,rz⟩:=ra.val.1 kv hk;exact .inr ⟨p,z,rfl,by rw[<- hz];exact tH.t ea eb,h _ H (aO.refl _) rz⟩
  ·exact h.elim
 ·exact h.elim
abbrev R6:=List Sl->(Option Int->Prop)->Prop
structure QO(X:Cx)(e:Option Expr)(t:R6):Prop where
 mono:∀(ρ:List Sl) (Q Q':Option Int->Prop),(∀r,Q r->Q' r)->t ρ Q->t ρ Q'
 run:∀(HZ:Hp) (F:ae->Prop),PO X e (λσ H Q=>∃ρ,Fr X.K HZ F σ H ρ/\t ρ λo=>∀H',aO H H'->Q o H')
def g9:R6:=λ_ Q=>Q au
def lG(te:dB):R6:=λρ Q=>te ρ λr=>match r.d with
 | .int i=>Q (aa i)
 |_=>False
theorem Jh{e:Option Expr}{t t':TO}(h:PO X e t)(w:∀σ H Q,t' σ H Q->t σ H Q):PO X e t':=λpk s σ H Q I q=>h pk s σ H Q I (w σ H Q q)
theorem mD:QO X au g9:=⟨λ_ _ _ w q=>w _ q,λHZ F=>Jh Kd λσ H Q ⟨ρ,fr,q⟩=>q H (aO.refl _)⟩
theorem mC(h:QE X e te):QO X (aa e) (lG te):=by
 refine⟨λρ Q Q' w q=>h.mono _ _ _ (λr q=>?_) q,λHZ F=>Jh (Kc (h.run HZ F)) λσ H Q ⟨ρ,fr,q⟩=>?_⟩
 ·split at q
  ·exact w _ q
  ·exact q
 ·refine h.step fr q λr x H1 q S1 r1=>?_;split at q
  ·rename_i i e;have c:=r1.c;rw[e] at c;exact⟨i,c.int,q H1 S1⟩
  ·exact q.elim
def cut(xs:List α)(lo hi:Option Int):List α:=(xs.drop (HT.hV xs.length 0 lo)).take (HT.hV xs.length xs.length hi-HT.hV xs.length 0 lo)
def MG:Dv->Option Int->Option Int->(R->Prop)->Prop
 | .lst xs,lo,hi,Q=>Q (.nw (.lst (cut xs lo hi)))
 | .scr ns,lo,hi,Q=>Q (.nw (.lst ((cut ns lo hi).map .int)))
 | .tup xs,lo,hi,Q=>¬(HT.hV xs.length 0 lo=0/\HT.hV xs.length xs.length hi=xs.length)/\Q (.v (.tup (cut xs lo hi)))
 |_,_,_,_=>False
def GA(te:dB)(tl th:R6):dB:=λρ Q=>te ρ λr=>tl ρ λlo=>th ρ λhi=>MG r.d lo hi Q
theorem Hc:∀d lo hi (Q Q':R->Prop),(∀r,Q r->Q' r)->MG d lo hi Q->MG d lo hi Q':=by
 intro d lo hi Q Q' w h;unfold MG at *;split at h<;>first | exact w _ h | exact⟨h.1,w _ h.2⟩ | exact h
theorem Reps.cut{K:ak}{M:ae->Prop}{H:Hp}{xs:List V}{ds:List Dv}(r:Reps K M H xs ds)(lo hi:Option Int):Reps K M H (CJ xs lo hi) (Z.cut ds lo hi):=by
 unfold CJ Z.cut;rw[r.length];exact(r.drop _).take _
theorem mE{lo hi:Option Expr}{tl th:R6}(he:QE X e te)(hl:QO X lo tl)(hh:QO X hi th):QE X (.Subscript e (.Slice lo hi au p2) pos) (GA te tl th):=by
 refine⟨λρ Q Q' w q=>he.mono _ _ _ (λr q=>hl.mono _ _ _ (λl q=>hh.mono _ _ _ (λu q=>Hc _ _ _ _ _ w q) q) q) q,λHZ F=>cU (HN (K9.or N8) (he.run HZ F) (hl.run HZ F) (hh.run HZ F)) λσ H Q ⟨ρ,fr,q⟩=>?_⟩;refine he.step fr q λr x H1 q S1 r1=>?_;refine⟨ρ,fr.mono S1,hl.mono _ _ _ (λl q H2 S2=>?_) q⟩;refine⟨ρ,(fr.mono S1).mono S2,hh.mono _ _ _ (λu q H3 S3=>?_) q⟩;have S13:=(S1.trans S2).trans S3;have c:=(r1.mono (S2.trans S3)).c;generalize r.d=d at q c;unfold MG at q;split at q
 ·obtain⟨a,xs,rfl,ea,ra⟩:=c.lst;exact .inl ⟨a,xs,rfl,gJ.of ea,λp hp=>q _ _ (S13.trans (aO.new' hp)) ((k6 hp (ra.cut _ _)).ahead S13)⟩
 ·obtain⟨a,rfl,ea⟩:=c.scr;refine .inl ⟨a,_,rfl,ea.sq,λp hp=>q _ _ (S13.trans (aO.new' hp)) (eD.ahead (k6 hp ?_) S13)⟩;have:∀(ns:List Int) l u,(Z.cut ns l u).map Dv.int=Z.cut (ns.map Dv.int) l u:=λns l u=>by
   unfold Z.cut;simp[VE,XW]
  rw[this];exact(Reps.ints _).cut _ _
 ·obtain⟨a,xs,rfl,ea,ra⟩:=c.tup;exact .inr ⟨a,xs,rfl,pF.of ea,by rw[ra.length];exact q.1,λp hp=>q.2 _ _ (S13.trans (aO.new' hp)) (eD.ahead (Lu hp (ra.cut _ _)) S13)⟩
 ·exact q.elim
end
section
variable {c:Expr}{tc:dB}{pos:lv}
theorem Ds{op op':Wf}{f f':Int->Int->Bool}(ho:lM X (fm op) (Cw λi j=>.bl (f i j)))(ho':lM X (fm op') (Cw λi j=>.bl (f' i j)))(ha:QE X a ta)(hb:QE X b tb)(hc:QE X c tc)
  (hm:VQ [op,op'] [b,c]=ao:=by with_unfolding_all rfl):QE X (.Compare a [op,op'] [b,c] pos) (mQ (zP f) (zP f') ta tb tc):=by
 refine⟨λρ Q Q' w q=>ha.mono _ _ _ (λrx q=>hb.mono _ _ _ (λry q=>vP _ _ _ _ (λz q=>?_) q) q) q,λHZ F=>cU (HV ho ho' (ha.run HZ F) (hb.run HZ F) (hc.run HZ F) hm) λσ H Q ⟨ρ,fr,q⟩=>?_⟩
 ·split at q
  ·split at q
   ·rw[Yh ‹_›];exact hc.mono _ _ _ (λw' q=>vP _ _ _ _ w q) q
   ·rw[XQ ‹_›];exact w _ q
  ·exact q
 ·refine ha.step fr q λrx x H1 q1 S1 r1=>?_;refine hb.step (fr.mono S1) q1 λry y H2 q2 S2 r2=>?_;have cx:=(r1.mono S2).c;have cy:=r2.c;generalize rx.d=dx at q2 cx;generalize ry.d=dy at q2 cy;unfold zP at q2;split at q2
  ·rename_i Q2 i j;obtain rfl:=cx.int;obtain rfl:=cy.int;refine⟨_,_,rfl,rfl,f i j,rfl,?_⟩;have S12:=S1.trans S2;replace q2:=(show (if f i j=ai then tc ρ (λw=>zP f' (.int j) w.d (λr=>∀x H',aO H H'->eD X.K (MM F ρ) (Z.Ab ρ) H x r H'->Q x H')) else (∀x H',aO H H'->eD X.K (MM F ρ) (Z.Ab ρ) H x (.v (.bl ao)) H'->Q x H')) from q2);cases h:f i j with
   |true=>
    rw[h] at q2;simp only[if_true] at q2;refine u9 (hc.step ((fr.mono S1).mono S2) q2 λrw' z H3 q3 S3 r3=>?_);have cz:=r3.c;generalize rw'.d=dz at q3 cz;cases dz with
    |int l=>
     obtain rfl:=cz.int;exact⟨_,_,rfl,rfl,q3 _ H3 (S12.trans S3) (Rep.bl _)⟩
    |_=>exact(show False from q3).elim
   |false=>
    rw[h] at q2;simp only[dq,if_false] at q2;exact uA (q2 _ H2 S12 (Rep.bl _))
  ·exact q2.elim
def pG:Dv->Option Bool
 | .non=>aa ao
 | .bl b=>aa b
 | .int i=>aa (i != 0)
 | .lst xs=>aa (!xs.isEmpty)
 | .tup xs=>aa (!xs.isEmpty)
 | .dik xs=>aa (!xs.isEmpty)
 | .scr xs=>aa (!xs.isEmpty)
 |_=>au
def kE(te:dB):n6:=λρ Q=>te ρ λr=>match pG r.d with
 |some k=>Q k
 |none=>False
theorem Reps.empty{xs:List V}{ds:List Dv}(r:Reps K M H xs ds):xs.isEmpty=ds.isEmpty:=by cases r<;>rfl
theorem iA(h:QE X e te)(he:∀YC,isTrue e X.env YC=(do let v <- YC;Vr e.pos;Vs [v] (truthy v)):=by intro _;rfl):QT X e (kE te):=by
 refine⟨λρ Q Q' w q=>h.mono _ _ _ (λr q=>?_) q,λHZ F=>Aa (HA (h.run HZ F) he) λσ H Q ⟨ρ,fr,q⟩=>?_⟩
 ·split at q
  ·exact w _ q
  ·exact q
 ·refine h.step fr q λr x H1 q S1 r1=>?_;have cx:=r1.c;generalize r.d=d at q cx;split at q
  ·rename_i k hk;refine⟨k,?_,q H1 S1⟩;cases d with
   |non=>obtain rfl:=cx.non;simp only[pG,ip] at hk;subst hk;rfl
   |bl b=>obtain rfl:=cx.bl;simp only[pG,ip] at hk;exact hk.symm
   |int i=>obtain rfl:=cx.int;simp only[pG,ip] at hk;exact hk.symm
   |lst ds=>
    obtain⟨a,xs,rfl,ea,ra⟩:=cx.lst;simp only[pG,ip] at hk;exact .inl ⟨xs,gJ.of ea,by rw[ra.empty];exact hk.symm⟩
   |tup ds=>
    obtain⟨a,xs,rfl,ea,ra⟩:=cx.tup;simp only[pG,ip] at hk;exact .inr (.inl ⟨xs,pF.of ea,by rw[ra.empty];exact hk.symm⟩)
   |dik ds=>
    obtain⟨a,xs,rfl,ea,ra⟩:=cx.dik;simp only[pG,ip] at hk;exact .inr (.inr ⟨xs,ea,by rw[<- hk];cases ra<;>rfl⟩)
   |scr ns=>
    obtain⟨a,rfl,ea⟩:=cx.scr;simp only[pG,ip] at hk;exact .inl ⟨_,ea.sq,by rw[<- hk];cases ns<;>rfl⟩
   |_=>simp[pG] at hk
  ·exact q.elim
end
abbrev Fn:=List Dv->(R->Prop)->Prop
inductive low(K:ak)(sp:Fn)(vs:List V)(H:Hp)(Q:VK)(E:XK):Prop
 |mk (F:ae->Prop) (ds:List Dv) (hF:OldF K F H) (r:Reps K F H vs ds) (q:sp ds (λr=>∀x H',aO H H'->eD K F yS H x r H'->Q x H'))
structure MonoF(sp:Fn):Prop where
 mo:∀ds (Q Q':R->Prop),(∀r,Q r->Q' r)->sp ds Q->sp ds Q'
structure Def(P:az)(w:bw)(K:ak)(mg:bv->Option af)(base:dk)(k:Nat)(x:bv)(ps:List bv)(sp:Sp):Prop where
 ex:∃f fd,mg x=aa (.ref f)/\qj K (.ref f)=ai/\iH K fd ps []/\FnOk P w K mg base Dd k f fd ps sp
structure At(K:ak)(mg:bv->Option af)(x nm:bv)(st:ku)(ps:List bv):Prop where
 ex:∃f fd,mg x=aa (.ref f)/\Fun K nm nm st f fd/\iH K fd ps []
structure MDef(P:az)(w:bw)(K:ak)(mg:bv->Option af)(base:dk)(k:Nat)(C:ae)(m:bv)(ps:List bv)(sp:Sp):Prop where
 ex:∃f fd,Meth K C m f/\iH K fd ps []/\FnOk P w K mg base Dd k f fd ps sp
structure MAt(K:ak)(C:ae)(m qual:bv)(st:ku)(ps:List bv):Prop where
 ex:∃f fd,Meth K C m f/\Fun K m qual st f fd/\iH K fd ps []
theorem At.ok{P:az}{w:bw}{K:ak}{mg:bv->Option af}{base:dk}{k:Nat}{x nm:bv}{st:ku}{ps N:List bv}{sp:Sp}(a:At K mg x nm st ps)(S:FnScope N ps (aI st))(len:∀vs H Q E,sp vs H Q E->vs.length=ps.length)
  (Yu:∀(f:ae) (cdv:af) (A:dh) (outer:List zd) (s:ah) (H:Hp) (vs:List V) (Q:VK) (E:XK),Room k (A.deeper (tu nm (aI st) s.heap.objs.size f cdv))->sp vs H Q E ->
   ∃t,uT (cK Dd P w K mg base N nm (aI st) f cdv A outer s H E).nox (eF st) t/\t { nx:=λ_ H'=>Q .non H',rt:=Q } (start N vs) H):Def P w K mg base (k+1) x ps sp:=by
 obtain⟨f,fd,hm,F,hb⟩:=a.ex;exact⟨f,fd,hm,F.kp,hb,F.ok S len (Yu f)⟩
theorem MAt.ok{P:az}{w:bw}{K:ak}{mg:bv->Option af}{base:dk}{k:Nat}{C:ae}{m Yj:bv}{st:ku}{ps N:List bv}{sp:Sp}(a:MAt K C m Yj st ps)(S:FnScope N ps (aI st))(len:∀vs H Q E,sp vs H Q E->vs.length=ps.length)
  (Yu:∀(f:ae) (cdv:af) (A:dh) (outer:List zd) (s:ah) (H:Hp) (vs:List V) (Q:VK) (E:XK),Room k (A.deeper (tu Yj (aI st) s.heap.objs.size f cdv))->sp vs H Q E ->
   ∃t,uT (cK Dd P w K mg base N Yj (aI st) f cdv A outer s H E).nox (eF st) t/\t { nx:=λ_ H'=>Q .non H',rt:=Q } (start N vs) H):MDef P w K mg base (k+1) C m ps sp:=by
 obtain⟨f,fd,hm,F,hb⟩:=a.ex;exact⟨f,fd,hm,hb,F.ok S len (Yu f)⟩
def aM(N:List bv)(ds:List Dv):List Sl:=ds.map .v++ay (N.length-ds.length) .un
variable {vs:List V}
theorem Aq{ds:List Dv}(hF:OldF K F H)(r:Reps K F H vs ds):Fr K H F (start N vs) H (aM N ds):=by
 have no:∀{a:ae} {d:Dv},Sl.own a d∈aM N ds->False:=λ{a d} h=>by
  rcases fj.mp h with h | h
  ·obtain⟨z,_,e⟩:=jg.mp h;cases e
  ·cases gm h
 have wk:∀a,MM F (aM N ds) a->F a:=λa h=>by
  rcases h with h | ⟨d,h⟩
  ·exact h
  ·exact(no h).elim
 have hl:=r.length;refine⟨by simp[L2.start,aM,hl],λi s e=>?_,λi j a d d' e _=>(no (fe e)).elim,λa d h=>(no h).elim,aO.refl _,hF⟩;unfold aM at e;by_cases hi:i<ds.length
 ·rw[bh (by simpa using hi),dg] at e;cases q:ds[i]? with
  |none=>rw[q] at e;cases e
  |some d=>
   rw[q] at e;cases e;obtain⟨x,hx,rx⟩:=r.get q;refine⟨x,?_,rx.weak wk⟩;unfold L2.start;rw[bh (by simpa using(cf.mp hx).1),dg,hx];rfl
 ·rw[bo (by simpa using nh hi)] at e;have:=fe e;cases gm this;trivial
variable {Q:VK}{E:XK}{sp:Fn}
theorem AW{sts:List ku}{t:cE}(h:QSs X sts t)(hsp:∀ds Q,sp ds Q->t ↥Q (aM N ds))(q:low X.K sp vs H Q E):
  ∃t',uT X sts t'/\t' { nx:=λ_ H'=>Q .non H',rt:=Q } (start N vs) H:=by
 obtain⟨F,ds,hF,r,q⟩:=q;exact⟨_,h.run H F,aM N ds,_,Aq hF r,hsp ds _ q,λρ σ H' fr q=>q .non H' fr.same Rep.non,λ_ _ _ _ z=>z.elim,λ_ _ _ _ z=>z.elim,λrr x H' S rx q=>q x H' S rx⟩
theorem A0(h:∀ds Q,sp ds Q->ds.length=n):∀vs H Q E,low K sp vs H Q E->vs.length=n:=λvs H Q E ⟨F,ds,_,r,q⟩=>by rw[r.length];exact h _ _ q
variable {st:ku}
theorem At.okP{k:Nat}{x nm:bv}{t:cE}(a:At K mg x nm st ps)(S:FnScope N ps (aI st))
  (hq:∀(f:ae) (cdv:af) (A:dh) (outer:List zd) (s:ah) (H:Hp) (E:XK),Room k (A.deeper (tu nm (aI st) s.heap.objs.size f cdv))->QSs (cK Dd P w K mg base N nm (aI st) f cdv A outer s H E).nox (eF st) t)
  (len:∀ds Q,sp ds Q->ds.length=ps.length) (hsp:∀ds Q,sp ds Q->t ↥Q (aM N ds)):Def P w K mg base (k+1) x ps (low K sp):=
 a.ok S (A0 len) λf cdv A outer s H vs Q E hr q=>AW (hq f cdv A outer s H E hr) hsp q
variable {m:bv}
theorem MAt.okP{k:Nat}{t:cE}(a:MAt K C m Yj st ps)(S:FnScope N ps (aI st))
  (hq:∀(f:ae) (cdv:af) (A:dh) (outer:List zd) (s:ah) (H:Hp) (E:XK),Room k (A.deeper (tu Yj (aI st) s.heap.objs.size f cdv))->QSs (cK Dd P w K mg base N Yj (aI st) f cdv A outer s H E).nox (eF st) t)
  (len:∀ds Q,sp ds Q->ds.length=ps.length) (hsp:∀ds Q,sp ds Q->t ↥Q (aM N ds)):MDef P w K mg base (k+1) C m ps (low K sp):=
 a.ok S (A0 len) λf cdv A outer s H vs Q E hr q=>AW (hq f cdv A outer s H E hr) hsp q
def R.flat:R->Bool
 | .v d=>kM d
 | .nw d=>JH d
 | .ow _ _=>ao
def back(rs:List R)(Q:R->Prop):R->Prop:=λr=>(rs.all R.free=ai \/ r.flat=ai)/\Q r
def b8(sp:Fn)(ts:lP):dB:=λρ Q=>ts ρ λrs=>sp (rs.map R.d) (back rs Q)
variable {rs:List R}
def lent(M:ae->Prop)(rs:List R):ae->Prop:=λa=>M a /\ ∀d,R.ow a d ∉ rs
theorem lF(fr:Fr K HZ F σ H ρ){all:List R}:∀{xs:List V} {rs:List R},(∀r∈rs,r∈all)->Paired (λx r=>eD K (MM F ρ) (Z.Ab ρ) H x r H1) xs rs->Reps K (lent (MM F ρ) all) H1 xs (rs.map R.d)
 |_,_,_,.nil=>.nil
 |_,r::_,hs,.cons a t=>by
  refine .cons ?_ (lF fr (λr hr=>hs r (by simp[hr])) t);have wk:∀a,lent (MM F ρ) all a->MM F ρ a:=λa z=>z.1;cases r with
  |v d=>exact Rep.weak wk a
  |nw d=>exact(eD.rep a (λa m=>fr.dom m) rfl).weak wk
  |ow b d=>
   obtain⟨rfl,_,o⟩:=a;exact(o.weak wk).rep λz=>z.2 d (hs _ (by simp))
theorem Jf(h:rs.all R.free=ai)(a:ae)(d:Dv):R.ow a d ∉ rs:=λz=>by
 have:=zq.mp h _ z;simp[R.free] at this
theorem y9{x:V}{r:R}{O:ae->Dv->Prop}(fr:Fr K HZ F σ H ρ)(S1:aO H H1)(h:eD K (lent (MM F ρ) rs) yS H1 x r H')(f:rs.all R.free=ai \/ r.flat=ai):eD K (MM F ρ) O H x r H':=by
 rcases f with f | f
 ·have wk:∀a,MM F ρ a->lent (MM F ρ) rs a:=λa z=>⟨z,λd=>Jf f a d⟩;cases r with
  |v d=>exact Rep.weak wk h
  |ow a d=>exact h.2.1.elim
  |nw d=>
   obtain⟨a,e,n,o⟩:=h;exact⟨a,e,S1.free n,o.weak λb z=>z.elim (λz=>.inl (wk b z)) .inr⟩
 ·cases r with
  |v d=>exact Rep.flat f h
  |ow a d=>exact h.2.1.elim
  |nw d=>
   obtain⟨a,e,n,o⟩:=h;exact⟨a,e,S1.free n,o.flat f⟩
variable {Q':R->Prop}{pl:Wm Bool}
section
variable {k:Nat}{x:bv}{o:Expr}{to:dB}{pos Yt:lv}
theorem wK{xs:List V}(mo:MonoF sp)(fr:Fr X.K HZ F σ H ρ)(S1:aO H H1)(r1:kB X.K (MM F ρ) (Z.Ab ρ) H xs rs H1)(q:sp (rs.map R.d) (back rs Q'))
  (w:∀r,Q' r -> ∀x H',aO H H'->eD X.K (MM F ρ) (Z.Ab ρ) H x r H'->Q x H'):low X.K sp xs H1 Q E:=by
 refine⟨lent (MM F ρ) rs,_,⟨λa z=>(fr.mono S1).dom z.1,(fr.mono S1).tab⟩,lF fr (λ_ h=>h) r1,mo.mo _ _ _ (λr q x H' S rx=>?_) q⟩;exact w r q.2 x H' (S1.trans S) (y9 fr S1 rx q.1)
theorem pB{Q:R->Prop}(w:∀r,Q r->Q' r):∀r,back rs Q r->back rs Q' r:=λr h=>⟨h.1,w r h.2⟩
theorem bH(d:Def X.prog X.w X.K X.mg X.base k x ps (low X.K sp))(mo:MonoF sp)(hr:Room k X.A)(ha:QA X (e::es) ts)(hg:Gl X x:=by rfl)
  (hdb:(x==("__debug__" : bv))=ao:=by decide) (he:aw (e::es) X.env=(ao,gh e X.env)::aw es X.env:=by rfl) (hpl:(ir pos (aw es X.env)).any (·.1)=ao:=by rfl):
  QE X (.Call (.Name x p) (e::es) [] pos) (b8 sp ts):=by
 obtain⟨f,fd,hm,hk,hb,FO⟩:=d.ex;refine⟨λρ Q Q' w q=>ha.mono _ _ _ (λrs q=>mo.mo _ _ _ (pB w) q) q,λHZ F=>cU (Kj FO hr hg hm hk hb .nil Dz (ha.run HZ F) hdb he hpl) λσ H Q ⟨ρ,fr,h⟩=>?_⟩;refine ha.step fr h λrs xs H1 q S1 r1=>?_;rw[gv];exact wK mo fr S1 r1 q λr z=>z
def fS(C:ae)(m:bv)(sp:Fn)(to:dB)(ts:lP):dB:=λρ Q=>to ρ λro=>match ro.d with
 | .obj C' fs=>(C'=C/\fs.lookup m=au)/\ts ρ λrs=>sp (ro.d::rs.map R.d) (back (ro::rs) Q)
 |_=>False
theorem RepF.lookup{K:ak}{M:ae->Prop}{H:Hp}{f:bv}{xs:List (bv×V)}{ds:List (bv×Dv)}(r:RepF K M H xs ds):(ds.lookup f=au->xs.lookup f=au) /\ ∀d,ds.lookup f=aa d -> ∃x,xs.lookup f=aa x/\Rep K M H x d:=
 r.ind (P:=λxs ds=>(ds.lookup f=au->xs.lookup f=au) /\ ∀d,ds.lookup f=aa d -> ∃x,xs.lookup f=aa x/\Rep K M H x d) ⟨λ_=>rfl,λd h=>by cases h⟩ λk x d xs ds a _ ih=>by
  rw[Wi,Wi];cases h:f==k with
  |true=>
   refine⟨λz=>?_,λd' z=>?_⟩
   ·cases z
   ·cases z;exact⟨x,rfl,a⟩
  |false=>exact ih
theorem jE(c:Cls X.K C)(d:MDef X.prog X.w X.K X.mg X.base k C m ps (low X.K sp))(mo:MonoF sp)(hr:Room k X.A)(ho:QE X o to)(ha:QA X (e::es) ts)
  (hst:aw (e::es) X.env=(ao,gh e X.env)::aw es X.env:=by rfl) (hpl:(ir pos (aw es X.env)).any (·.1)=ao:=by rfl)
  (ht:gh (.Call (.Attribute o m Yt) (e::es) [] pos) X.env=(do
   let ov <- gh o X.env
   Vr Yt.atName
   let (f,first) <- Vs [ov] (Tt ov m pl)
   WK pos f first (ir pos (aw (e::es) X.env)) (yc pos (tj [] X.env))):=by rfl):
  QE X (.Call (.Attribute o m Yt) (e::es) [] pos) (fS C m sp to ts):=by
 obtain⟨f,fd,hm,hb,FO⟩:=d.ex;refine⟨λρ Q Q' w q=>ho.mono _ _ _ (λro q=>?_) q,λHZ F=>cU (Kg (pl:=pl) (ho.run HZ F) c hm FO hr hb .nil Dz (ha.run HZ F) hst hpl ht) λσ H Q ⟨ρ,fr,h⟩=>?_⟩
 ·split at q
  ·exact⟨q.1,ha.mono _ _ _ (λrs q=>mo.mo _ _ _ (pB w) q) q.2⟩
  ·exact q
 ·refine ho.step fr h λro x H1 q S1 r1=>?_;split at q
  ·rename_i C' fs e;obtain⟨⟨rfl,hl⟩,q⟩:=q;have cx:=r1.c;rw[e] at cx;obtain⟨a,dx,fs',rfl,ea,ra⟩:=cx.obj;refine⟨a,dx,fs',rfl,ea,ra.lookup.1 hl,ha.step (fr.mono S1) q λrs xs H2 q S2 r2=>?_⟩;rw[gv];exact wK (rs:=ro::rs) (xs:=.ref a::xs) mo fr (S1.trans S2) (.cons (r1.mono S2) (r2.ahead S1)) q λr z=>z
  ·exact q.elim
theorem mF(c:Cls X.K C)(d:MDef X.prog X.w X.K X.mg X.base k C m ps (low X.K sp))(mo:MonoF sp)(hr:Room k X.A)(ho:QE X o to)
  (ht:gh (.Call (.Attribute o m Yt) [] [] pos) X.env=(do
   let ov <- gh o X.env
   Vr Yt.atName
   let (f,first) <- Vs [ov] (Tt ov m pl)
   WK pos f first (ir pos (aw [] X.env)) (yc pos (tj [] X.env))):=by rfl):
  QE X (.Call (.Attribute o m Yt) [] [] pos) (fS C m sp to aF):=by
 obtain⟨f,fd,hm,hb,FO⟩:=d.ex;refine⟨λρ Q Q' w q=>ho.mono _ _ _ (λro q=>?_) q,λHZ F=>cU (HP (pl:=pl) (ho.run HZ F) c hm FO hr hb .nil Dz ht) λσ H Q ⟨ρ,fr,h⟩=>?_⟩
 ·split at q
  ·exact⟨q.1,mo.mo _ _ _ (pB w) q.2⟩
  ·exact q
 ·refine ho.step fr h λro x H1 q S1 r1=>?_;split at q
  ·rename_i C' fs e;obtain⟨⟨rfl,hl⟩,q⟩:=q;have cx:=r1.c;rw[e] at cx;obtain⟨a,dx,fs',rfl,ea,ra⟩:=cx.obj;refine⟨a,dx,fs',rfl,ea,ra.lookup.1 hl,?_⟩;exact wK (rs:=[ro]) (xs:=[.ref a]) (E:=E0) mo fr S1 (.cons r1 .nil) q λr z=>z
  ·exact q.elim
def JO(C:ae)(f:bv)(to:dB):dB:=λρ Q=>to ρ λro=>match ro.d with
 | .obj C' fs=>C'=C/\match fs.lookup f with
  |some d=>Q (.v d)
  |none=>False
 |_=>False
theorem M8{f:bv}(c:Cls X.K C)(n:jG X.K C f)(ho:QE X o to)(hb:sd o f X.env (gh o X.env)=gh o X.env:=by rfl):QE X (.Attribute o f pos) (JO C f to):=by
 refine⟨λρ Q Q' w q=>ho.mono _ _ _ (λro q=>?_) q,λHZ F=>cU (Nb (ho.run HZ F) hb) λσ H Q ⟨ρ,fr,h⟩=>?_⟩
 ·split at q
  ·refine⟨q.1,?_⟩;have q2:=q.2;split at q2
   ·exact w _ q2
   ·exact q2
  ·exact q
 ·refine ho.step fr h λro x H1 q S1 r1=>?_;split at q
  ·rename_i C' fs e;obtain⟨rfl,q⟩:=q;have cx:=r1.c;rw[e] at cx;obtain⟨a,dx,fs',rfl,ea,ra⟩:=cx.obj;split at q
   ·rename_i d hd;obtain⟨z,hz,rz⟩:=ra.lookup.2 d hd;exact⟨a,_,dx,fs',z,rfl,ea,c,n,hz,q _ H1 S1 rz⟩
   ·exact q.elim
  ·exact q.elim
end
end Z
namespace L2
def Oj(lo c:Int)(n:Nat):It:=⟨λi _=>i<n,λi H x H'=>H'=H/\x=.int (lo+i*c),λi _=>n<=i⟩
theorem Ak(it:ae)(lo c:Int)(n:Nat):Turn P w K tg (Oj lo c n) [it] it (λi h=>vc h it (lo+(i:Nat)*c) ((n:Int)-(i:Nat)) c) where
 mem:=by simp
 obj:=λi h st b hb=>by
  have e:b=it:=by simpa using hb
  subst e;exact⟨_,st,λv z=>by
   have z':XI _=Data.cell v:=z;cases z'⟩
 keep:=λi h h' st k=>k it (by simp) _ st
 item:=by
  intro X hP hw hK hc i pk s σ H E I hf st hg;subst hP hw hK;obtain⟨f0,f1,f2,f3,f4,f5⟩:=hf it (by simp);refine vZ hg st λv h' tk hv st' kk=>?_;obtain⟨t,rfl⟩:=hv;have I1:Inv X pk σ H { s with heap:=h',toks:=tk }:=I.turned (λb o hb e=>kk b o (by simpa using hb) e) f0 f1 f3 f4 f5;exact⟨_,rfl,By (s:={ s with heap:=h',toks:=tk }) (n:="range_iterator") st' rfl rfl ∅ ⟨.int (lo+i*c),H,I1,⟨t,rfl⟩,⟨rfl,rfl⟩,st',λb hb=>(hf b hb).1⟩⟩
 done:=by
  intro X hP hw hK hc i pk s σ H E I hf st hg;subst hP hw hK;obtain⟨f0,f1,f2,f3,f4,f5⟩:=hf it (by simp);exact yJ I.qu st (by have:n<=i:=hg;right) λh' eb=>⟨rfl,I.turned (t':=s.toks) (λb o hb e=>eb b o hb e) f0 f1 f3 f4 f5⟩
 self:=λ_ _ _ _ _ st h=>TX st h
def Qb(ta:TA):TI:=λσ H R=>ta σ H λvs H1=>∃i j c:Int,vs=[.int i,.int j,.int c]/\c≠0/\c.natAbs<1000/\xf i j c=ai/\0<=fc i j c/\R (Oj i c (fc i j c).toNat) H1
theorem FL{a b c:Expr}{ta:TA}{pos:lv}(hg:Gl X "range")(hm:X.mg "range" = au)(ha:PA X [a,b,c] ta)(hs:aw [a,b,c] X.env=[(ao,gh a X.env),(ao,gh b X.env),(ao,gh c X.env)]:=by rfl)
  (hs2:aw [b,c] X.env=[(ao,gh b X.env),(ao,gh c X.env)]:=by rfl):PI X tg (.Call (.Name "range" p) [a,b,c] [] pos) (Qb ta):=by
 intro pk s σ H R I h;refine Yb (nY I hg hm Vc (im (thn (ha pos pk s σ H _ I h) λus s1 ⟨vs,H1,I1,r1,q1⟩=>?_) (by rw[hs,hs2]) (by rw[hs2];rfl)));obtain⟨i,j,c,e,q0,qs,q1,q2,q⟩:=q1;subst e;cases r1 with
 |cons r rr=>
  cases rr with
  |cons r' rr=>
   cases rr with
   |cons r'' rr=>
    cases rr;obtain⟨t,rfl⟩:=r;obtain⟨t',rfl⟩:=r';obtain⟨t'',rfl⟩:=r'';refine call_range_3 q0 ?_ (.inl (PyProof.noPylong_small ⋯));refine Vb (IsRange.new ..) q1 ?_;have I2:Inv X pk σ H1 { s1 with heap:=s1.heap.push { cls:=.type "range",data:=.fields #[.int i t,.int j t',.int c t''] },toks:=s1.toks }:=I1.kept λb o e=>ap _ e;refine⟨_,[_],_,_,H1,rfl,I2.kept (t':=s1.toks) λb o e=>ap _ e,Ak _ i c (fc i j c).toNat,?_,λb hb=>?_,q⟩
    ·show vc _ _ (i+((0:Nat):Int)*c) ((((fc i j c).toNat:Nat):Int)-((0:Nat):Int)) c;have e1:i+((0:Nat):Int)*c=i:=by simp
     have e2:(((fc i j c).toNat:Nat):Int)-((0:Nat):Int)=fc i j c:=⋯;rw[e1,e2];exact cj _ rfl
    ·have e:b=_:=eo.mp hb;subst e;exact I2.fpOk (br _) (I2.hok.fresh (br _))
def tQ(lo:Int)(n:Nat):List V:=(gx n).map λ(k:Nat)=>V.int (lo+(k:Int))
theorem GJ:fM X (.type "range") (λxs H Q=>∃j:Int,xs=[.int j] /\ ∀p,H p=au->Q (.ref p) (upd H p (.rng 0 j))):=by
 intro pk s σ H xs us Q I r h;obtain⟨j,rfl,q⟩:=h;obtain⟨u,rfl,ru⟩:=kF r;obtain⟨t,rfl⟩:=ru;exact call_range_1 ⟨.ref s.heap.objs.size,_,I.laid (o:=.rng 0 j) (λb o e=>ap _ e) (br _) ⟨_,_,_,cj _ rfl⟩,rfl,q _ (I.hok.fresh (br _))⟩
theorem xI(hc:X.calm=ai):fM X (.type "list") (λxs H Q=>∃p lo hi,xs=[.ref p]/\H p=aa (.rng lo hi)/\(-(2 ^ 62)<=lo/\lo<2 ^ 62 /\ -(2 ^ 62)<=hi/\hi<2 ^ 62)/\(hi-lo).toNat<=1000000 /\ ∀l,H l=au->Q (.ref l) (upd H l (.lst (tQ lo (hi-lo).toNat)))):=by
 intro pk s σ H xs us Q I r h;obtain⟨p,lo,hi,rfl,hp,⟨b1,b2,b3,b4⟩,hn,q⟩:=h;obtain⟨u,rfl,ru⟩:=kF r;cases ru;obtain⟨t,t2,t3,e⟩:=I.hok _ _ hp;refine call_list_range (n:=(hi-lo).toNat) (I.ok.hd hc) e (small_one b1 b2 b3 b4) (by rw[rangeSize_one];split<;>right) ⋯ λh' tk acc c' hk hS hacc=>?_;refine⟨.ref s.heap.objs.size,_,I.laid (o:=.lst (tQ lo (hi-lo).toNat)) hk (br _) ?_,rfl,q _ (I.hok.fresh (br _))⟩;have hl:acc.size=(hi-lo).toNat:=hacc.1;refine⟨by simp only[tQ,bf,VF];rw[kg];right,acc.toList,c',?_,by simpa using hS⟩;have key:∀(n:Nat) (l:List af),l.length=n->(∀(i:Nat) (v:af),l[i]?=aa v -> ∃t,v=Value.int (lo+(i:Int)*1) t)->bV (tQ lo n) l:=by
  intro n;induction n with
  |zero=>intro l hl _;rw[Tw.mp hl];exact .nil
  |succ n ih=>
   intro l hl hi;have hne:l≠[]:=by intro z;rw[z] at hl;cases hl
   have e1:l=l.dropLast++[l.getLast hne]:=(rj hne).symm;rw[e1];unfold tQ;rw[Wr,yk];have l1:l.dropLast.length=n:=by simp[hl]
   refine bV.append (ih l.dropLast l1 λi v hv=>hi i v ?_) (.cons ?_ .nil)
   ·have hlt:i<l.dropLast.length:=(cf.mp hv).1;rw[e1,bh hlt];exact hv
   ·obtain⟨t,ht⟩:=hi n (l.getLast hne) (by simp[List.getLast_eq_getElem,hl]);rw[ht,XJ];exact⟨t,rfl⟩
 refine key _ _ (by simpa using hl) λi v hv=>?_;exact hacc.2 i v (by simpa using hv)
end L2
namespace Z
open L2
variable {lo:Int}{P:Hp}{ds:List Dv}{σ:St}{elts:List Expr}{x1:Nat}{tp:lv}
section
variable {a b c:Expr}{ta tb:dB}{pos p2:lv}
def q9(lo c:Int)(n:Nat):List Dv:=(gx n).map λ(k:Nat)=>Dv.int (lo+(k:Int)*c)
def uK(ts:lP):xJ:=λρ Q=>ts ρ λrs=>match rs.map R.d with
 | [.int i,.int j,.int c]=>(c≠0/\c.natAbs<1000/\xf i j c=ai/\0<=fc i j c)/\Q (q9 i c (fc i j c).toNat) []
 |_=>False
theorem Cv{c:Int}{d:Dv}(h:(q9 lo c n)[i]?=aa d):i<n/\d=.int (lo+i*c):=by
 unfold q9 at h;rw[dg] at h;cases e:(gx n)[i]? with
 |none=>rw[e] at h;cases h
 |some k=>
  rw[e] at h;obtain⟨h1,h2⟩:=cf.mp e;simp at h1 h2;subst h2;exact⟨h1,(Option.some.inj h).symm⟩
theorem Bu{c:Int}:wQ K P M H1 (Oj lo c n) (q9 lo c n) []:=by
 intro i H' M' S G _;refine⟨λd e=>?_,λh=>(show n<=i by simpa [q9] using h)⟩;obtain⟨h1,h2⟩:=Cv e;subst h2;refine⟨h1,λy H'' ⟨e1,e2⟩=>?_⟩;subst e1 e2;exact⟨aO.refl _,.int _⟩
theorem OT{xs:List V}{d d' d'':Dv}(h:yV K M H xs [d,d',d'']):∃x y z,xs=[x,y,z]/\dP K M H x d/\dP K M H y d'/\dP K M H z d'':=by
 cases h with
 |cons a t=>
  obtain⟨y,z,rfl,b,c⟩:=DZ t;exact⟨_,_,_,rfl,a,b,c⟩
theorem FI(hg:Gl X "range")(hm:X.mg "range" = au)(ha:QA X [a,b,c] ts)(hs:aw [a,b,c] X.env=[(ao,gh a X.env),(ao,gh b X.env),(ao,gh c X.env)]:=by rfl)
  (hs2:aw [b,c] X.env=[(ao,gh b X.env),(ao,gh c X.env)]:=by rfl):QI X tg (.Call (.Name "range" p) [a,b,c] [] pos) (uK ts):=by
 refine⟨λρ Q Q' w q=>ha.mono _ _ _ (λr q=>?_) q,λHZ F=>⟨_,FL hg hm (ha.run HZ F) hs hs2,λσ H ρ R fr q=>?_⟩⟩
 ·split at q
  ·exact⟨q.1,w _ _ q.2⟩
  ·exact q
 ·refine ha.step fr q λrs xs H1 q S1 r1=>?_;split at q
  ·rename_i i j c e;have cc:=r1.c;rw[e] at cc;obtain⟨x,y,z,rfl,cx,cy,cz⟩:=OT cc;obtain rfl:=cx.int;obtain rfl:=cy.int;obtain rfl:=cz.int;exact⟨i,j,c,rfl,q.1.1,q.1.2.1,q.1.2.2.1,q.1.2.2.2,q.2 _ H1 S1 (by intro p hp;simp at hp) Bu⟩
  ·exact q.elim
def GB(ts:lP):dB:=λρ Q=>ts ρ λrs=>match rs.map R.d with
 | [.int j]=>(-(2 ^ 62)<=j/\j<2 ^ 62/\j.toNat<=1000000)/\Q (.nw (.lst (aW 0 j.toNat)))
 |_=>False
def Qk(ts:lP):dB:=λρ Q=>ts ρ λrs=>match rs.map R.d with
 | [.int i,.int j]=>((-(2 ^ 62)<=i/\i<2 ^ 62 /\ -(2 ^ 62)<=j/\j<2 ^ 62)/\(j-i).toNat<=1000000)/\Q (.nw (.lst (aW i (j-i).toNat)))
 |_=>False
theorem Ct(lo:Int)(n:Nat):Reps K M H (tQ lo n) (aW lo n):=by
 unfold tQ aW;induction (gx n) with
 |nil=>exact .nil
 |cons k r ih=>exact .cons (.int _) ih
theorem mG{pos2:lv}(hc:X.calm=ai)(hg:Gl X "list")(hm:X.mg "list" = au)(hg2:Gl X "range")(hm2:X.mg "range" = au)(ha:QA X [a] ts)
  (h1:aw [.Call (.Name "range" p2) [a] [] pos2] X.env=(ao,gh (.Call (.Name "range" p2) [a] [] pos2) X.env)::aw [] X.env:=by rfl) (h2:(ir pos (aw [] X.env)).any (·.1)=ao:=by rfl)
  (h3:aw [a] X.env=(ao,gh a X.env)::aw [] X.env:=by rfl) (h4:(ir pos2 (aw [] X.env)).any (·.1)=ao:=by rfl):
  QE X (.Call (.Name "list" p) [.Call (.Name "range" p2) [a] [] pos2] [] pos) (GB ts):=by
 refine⟨λρ Q Q' w q=>ha.mono _ _ _ (λr q=>?_) q,λHZ F=>cU (sS (xI hc) hg hm UR (iP (sS GJ hg2 hm2 Vc (ha.run HZ F) ∅ ∅ h3 h4) qA h1) ∅ ∅ h1 h2) λσ H Q ⟨ρ,fr,q⟩=>?_⟩
 ·split at q
  ·exact⟨q.1,w _ q.2⟩
  ·exact q
 ·refine ha.step fr q λrs xs H1 q S1 r1=>?_;split at q
  ·rename_i j e;have cc:=r1.c;rw[e] at cc;obtain⟨x,rfl,cx⟩:=eQ cc;obtain rfl:=cx.int;obtain⟨⟨b1,b2,b3⟩,q⟩:=q;refine⟨j,rfl,λr hr=>⟨r,0,j,rfl,bT,⟨⋯,⋯,b1,b2⟩,by rw[Xv];exact b3,λl hl=>?_⟩⟩;have S2:aO H (upd (upd H1 r (.rng 0 j)) l (.lst (tQ 0 (j-0).toNat))):=(S1.trans (aO.new' hr)).trans (aO.new' hl);rw[Xv] at S2 ⊢;exact q _ _ S2 (eD.ahead (k6 hl (Ct 0 _)) (S1.trans (aO.new' hr)))
  ·exact q.elim
def tT(ds:List Dv):List Dv:=(ds.zipIdx).map λq=>.tup [.int (q.2:Int),q.1]
theorem G7{d:Dv}(h:(tT ds)[i]?=aa d):∃d0,ds[i]?=aa d0/\d=.tup [.int i,d0]:=by
 unfold tT at h;rw[dg,List.getElem?_zipIdx] at h;cases e:ds[i]? with
 |none=>rw[e] at h;cases h
 |some d0=>
  rw[e] at h;refine⟨d0,rfl,?_⟩;simp at h;exact h.symm
def A5(ts:lP):xJ:=λρ Q=>ts ρ λrs=>match rs with
 | [.v (.lst ds)]=>Q (tT ds) []
 | [.nw (.lst ds)]=>Q (tT ds) []
 | [.ow a (.lst ds)]=>Q (tT ds) [(a,ds)]
 |_=>False
structure Walked(K:ak)(P:Hp)(M:ae->Prop)(H1:Hp)(a:ae)(ds:List Dv)(ogs:List (ae×List Dv)):Prop where
 at_:∀(H':Hp) (M':ae->Prop),aO P H'->Gen K M M' H1 H'->(∀p∈ogs,f8 K M' H' p.1 (.lst p.2)) -> ∃xs,H' a=aa (.lst xs)/\Reps K M' H' xs ds
def pQ:R->List (ae×List Dv)
 | .ow a (.lst ds)=>[(a,ds)]
 |_=>[]
theorem walked{x:V}{r:R}(fr:Fr K HZ F σ H ρ)(S1:aO H H1)(r1:eD K (MM F ρ) (Z.Ab ρ) H x r H1)(hd:r.d=.lst ds):
  ∃a xs,x=.ref a/\H1 a=aa (.lst xs)/\guard (pQ r) ρ/\Walked K (prot H1 ρ) (MM F ρ) H1 a ds (pQ r):=by
 cases r with
 |v d=>
  have e:d=.lst ds:=hd;subst e;cases r1 with
  |lst e m rs=>
   refine⟨_,_,rfl,e,by intro p hp;simp[pQ] at hp,⟨λH' M' S G _=>⟨_,S _ _ (by rw[cJ λc=>m (.inr c)];exact e),rs.gen G⟩⟩⟩
 |nw d=>
  have e:d=.lst ds:=hd;subst e;obtain⟨a,rfl,n,xs,e,rs⟩:=r1;exact⟨_,_,rfl,e,by intro p hp;simp[pQ] at hp,⟨λH' M' S G _=>⟨_,S _ _ (by rw[cJ λc=>fr.fresh n (.inr c)];exact e),(rs.weak λb z=>.inl z).gen G⟩⟩⟩
 |ow a d=>
  have e:d=.lst ds:=hd;subst e;obtain⟨rfl,m,xs,e,rs⟩:=r1;refine⟨_,_,rfl,e,by intro p hp;simp[pQ] at hp;subst hp;exact m,⟨λH' M' S G ow=>?_⟩⟩;exact ow (a,ds) (by simp[pQ])
theorem Fx{a:ae}{ogs:List (ae×List Dv)}(w:Walked K P M H1 a ds ogs):wQ K P M H1 (RS K a) (tT ds) ogs:=by
 intro i H' M' S G ow;obtain⟨xs,h',r⟩:=w.at_ H' M' S G ow;refine⟨λd e=>?_,λh=>⟨xs,gJ.of h',by rw[r.length];simpa [tT] using h⟩⟩;obtain⟨d0,e0,rfl⟩:=G7 e;obtain⟨x,hx,rx⟩:=r.get e0;refine⟨⟨xs,x,gJ.of h',hx⟩,λy H'' ⟨T,z,hT,e1,e2,hz⟩=>?_⟩;subst e1 e2;have:=hz xs (gJ.of h');rw[hx] at this;cases this;exact⟨aO.new' hT,.tup bT (.cons (.int _) (.cons (rx.mono (aO.new' hT)) .nil))⟩
theorem KK(hg:Gl X "enumerate")(hm:X.mg "enumerate" = au)(ha:QA X [a] ts)(hs:aw [a] X.env=[(ao,gh a X.env)]:=by rfl):QI X (.Tuple elts x1 tp) (.Call (.Name "enumerate" p) [a] [] pos) (A5 ts):=by
 refine⟨λρ Q Q' w q=>ha.mono _ _ _ (λr q=>?_) q,λHZ F=>⟨_,Kf hg hm (ha.run HZ F) hs,λσ H ρ R fr q=>?_⟩⟩
 ·split at q<;>first | exact w _ _ q | exact q
 ·refine ha.step fr q λrs xs H1 q S1 r1=>?_;have one:∀{r:Z.R} {ds:List Dv},rs=[r]->r.d=.lst ds->(∀J H1',aO H H1'->guard (pQ r) ρ->wQ X.K (prot H1' ρ) (MM F ρ) H1' J (tT ds) (pQ r)->R J H1') -> ∃a,xs=[V.ref a]/\(∃xs,gJ X.K H1 a xs)/\R (RS X.K a) H1:=by
   intro r ds e hd k;subst e;cases r1 with
   |cons a1 t1=>
    cases t1;obtain⟨a,ys,rfl,ea,gd,wk⟩:=walked fr S1 a1 hd;exact⟨a,rfl,⟨ys,gJ.of ea⟩,k _ H1 S1 gd (Fx wk)⟩
  split at q
  ·exact one rfl rfl q
  ·exact one rfl rfl q
  ·exact one rfl rfl q
  ·exact q.elim
def Ae(xs ys:List Dv):List Dv:=VG (λx y=>.tup [x,y]) xs ys
def yG(ts:lP):xJ:=λρ Q=>ts ρ λrs=>match rs with
 | [r,r']=>match r.d,r'.d with
  | .lst xs,.lst ys=>Q (Ae xs ys) (pQ r++pQ r')
  |_,_=>False
 |_=>False
theorem Iz{a b:ae}{es:List Dv}{o1 o2:List (ae×List Dv)}(w1:Walked K P M H1 a ds o1)(w2:Walked K P M H1 b es o2):wQ K P M H1 (Si a b) (Ae ds es) (o1++o2):=by
 intro i H' M' S G ow;obtain⟨xs,h1,r1⟩:=w1.at_ H' M' S G λp hp=>ow p (gq _ hp);obtain⟨ys,h2,r2⟩:=w2.at_ H' M' S G λp hp=>ow p (eg _ hp);refine⟨λd e=>?_,λh=>⟨xs,ys,h1,h2,?_⟩⟩
 ·unfold Ae at e;rw[List.getElem?_zipWith] at e;cases e1:ds[i]? with
  |none=>rw[e1] at e;cases e
  |some d1=>
   cases e2:es[i]? with
   |none=>rw[e1,e2] at e;cases e
   |some d2=>
    rw[e1,e2] at e;cases e;obtain⟨x,hx,rx⟩:=r1.get e1;obtain⟨y,hy,ry⟩:=r2.get e2;refine⟨⟨xs,ys,x,y,h1,h2,hx,hy⟩,λz H'' ⟨T,z1,z2,hT,e3,e4,k1,k2⟩=>?_⟩;subst e3 e4;have q1:=k1 xs h1;have q2:=k2 ys h2;rw[hx] at q1;rw[hy] at q2;cases q1;cases q2;exact⟨aO.new' hT,.tup bT (.cons (rx.mono (aO.new' hT)) (.cons (ry.mono (aO.new' hT)) .nil))⟩
 ·rw[r1.length,r2.length];simp only[Ae,List.length_zipWith] at h;right
theorem Gw(hg:Gl X "zip")(hm:X.mg "zip" = au)(ha:QA X [a,b] ts)(hs:aw [a,b] X.env=[(ao,gh a X.env),(ao,gh b X.env)]:=by rfl)(hs2:aw [b] X.env=[(ao,gh b X.env)]:=by rfl):
  QI X (.Tuple elts x1 tp) (.Call (.Name "zip" p) [a,b] [] pos) (yG ts):=by
 refine⟨λρ Q Q' w q=>ha.mono _ _ _ (λr q=>?_) q,λHZ F=>⟨_,NR hg hm (ha.run HZ F) hs hs2,λσ H ρ R fr q=>?_⟩⟩
 ·split at q
  ·split at q
   ·exact w _ _ q
   ·exact q
  ·exact q
 ·refine ha.step fr q λrs xs H1 q S1 r1=>?_;split at q
  ·rename_i r r';split at q
   ·rename_i ds es h1 h2;cases r1 with
    |cons a1 t1=>
     cases t1 with
     |cons a2 t2=>
      cases t2;obtain⟨a,ys,rfl,ea,gd,wk⟩:=walked fr S1 a1 h1;obtain⟨b,zs,rfl,eb,gd2,wk2⟩:=walked fr S1 a2 h2;refine⟨a,b,rfl,⟨ys,ea⟩,⟨zs,eb⟩,q _ H1 S1 (λp hp=>?_) (Iz wk wk2)⟩;rcases fj.mp hp with h | h
      ·exact gd p h
      ·exact gd2 p h
   ·exact q.elim
  ·exact q.elim
end
def fE(env:zd):List (bv×wr)->List (bv×ae)->List (bv×ae)
 | [],acc=>acc
 | (n,k)::r,acc=>if (k == .free)=ai then (match env.cells.lookup n with | some c=>fE env r ((n,c)::acc) | none=>fE env r acc) else fE env r acc
variable {env:zd}
theorem pR(h:(Yi.names.all λy=>!(y.2 == .free) || (env.cells.lookup y.1).isSome)=ai):wj Yi env=jw (fE env Yi.names []):=by
 unfold wj;have key:∀(l:List (bv×wr)) (acc:List (bv×ae)),(l.all λy=>!(y.2 == .free) || (env.cells.lookup y.1).isSome)=ai ->
   (Yc (m:=Wm) l acc λx r=>(match x with | (name,kind)=>if (kind==NameKind.free)=ai then (do let c <- cellOf env name;jw (ri ((name,c)::r))) else jw (ri r)))=jw (fE env l acc):=by
  intro l;induction l with
  |nil=>intro acc _;rfl
  |cons y r ih=>
   intro acc hl;obtain⟨n,k⟩:=y;rw[VD,dm] at hl;rw[TR];unfold fE;by_cases hk:(k==NameKind.free)=ai
   ·rw[Yh hk];have h1:(env.cells.lookup n).isSome=ai:=by
     have:=hl.1;simpa [hk] using this
    obtain⟨c,hc⟩:=zk.mp h1;have e:cellOf env n=jw c:=by unfold cellOf;rw[hc]
    simp only[hk,if_true,e,hc];exact ih _ hl.2
   ·rw[XQ hk];simp only[hk];exact ih _ hl.2
 dsimp only;have h2:=key Yi.names [] h;refine Eq.trans (congrArg (λt:Wm (List (bv×ae))=>t >>= λr=>jw r) h2) ?_;rfl
theorem lI{env:zd}:∀(l:List (bv×wr)) (acc:List (bv×ae)),(∀q∈acc,env.cells.lookup q.1=aa q.2) -> ∀q∈fE env l acc,env.cells.lookup q.1=aa q.2
 | [],acc,h,q,hq=>h q hq
 | (n,k)::r,acc,h,q,hq=>by
  unfold fE at hq;split at hq
  ·split at hq
   ·rename_i c hc;refine lI r _ (λq' hq'=>?_) q hq;rcases dj.mp hq' with e | e
    ·rw[e];exact hc
    ·exact h q' e
   ·exact lI r acc h q hq
  ·exact lI r acc h q hq
theorem mT{env:zd}:∀(l:List (bv×wr)) (acc:List (bv×ae)),∀q∈acc,q∈fE env l acc
 | [],acc,q,hq=>hq
 | (n,k)::r,acc,q,hq=>by
  unfold fE;split
  ·split
   ·exact mT r _ q (df _ hq)
   ·exact mT r acc q hq
  ·exact mT r acc q hq
theorem k7{env:zd}{x:bv}:∀(l:List (bv×wr)) (acc:List (bv×ae)),(l.all λy=>!(y.2 == .free) || (env.cells.lookup y.1).isSome)=ai->(x,NameKind.free)∈l -> ∃c,(x,c)∈fE env l acc
 | [],_,_,h=>by simp at h
 | (n,k)::r,acc,hl,h=>by
  rw[VD,dm] at hl;unfold fE;rcases dj.mp h with e | e
  ·cases e;rw[Yh (by rfl)];have h1:(env.cells.lookup x).isSome=ai:=by simpa using hl.1
   obtain⟨c,hc⟩:=zk.mp h1;rw[hc];exact⟨c,mT r _ _ (by simp)⟩
  ·split
   ·split
    ·exact k7 r _ hl.2 e
    ·exact k7 r _ hl.2 e
   ·exact k7 r _ hl.2 e
theorem kY{α:Type}{x:bv}{c:α}:∀{l:List (bv×α)},(x,c)∈l -> ∃c',l.lookup x=aa c'
 | (n,d)::r,h=>by
  rw[Wi];cases e:x==n with
  |true=>exact⟨d,rfl⟩
  |false=>
   rcases dj.mp h with z | z
   ·cases z;simp at e
   ·exact kY z
theorem rL{x:bv}(Yo:∀y∈Yi.names,y.2 ≠ .cell)(h:(iz Yi env).names.lookup x=aa .cell \/ (iz Yi env).names.lookup x=aa .free):(x,NameKind.free)∈Yi.names:=by
 have:(x,NameKind.cell)∈(iz Yi env).names \/ (x,NameKind.free)∈(iz Yi env).names:=h.imp ic ic;rcases this with h | h
 ·obtain⟨⟨n,k⟩,hm,e⟩:=jg.mp h;dsimp only at e;split at e
  ·rename_i hc;rw[dm,dm,beq_iff_eq] at hc;cases e;rw[hc.1.1] at hm;exact hm
  ·cases e;exact absurd rfl (Yo _ hm)
 ·obtain⟨⟨n,k⟩,hm,e⟩:=jg.mp h;dsimp only at e;split at e
  ·cases e
  ·cases e;exact hm
section
variable {pos:lv}
theorem Cy{elt iter tgt:Expr}(tgs ns:List bv)(js:List Nat){k:Nat}{ti:xJ}{g:AZ}{tt:n6}(hc:X.N=X.N)(hi:QI X tgt iter ti)
  (hg:∀(fp:List ae) (s:ah) (H:Hp),QG (qU X Yi (fE X.env Yi.names []) fp (tgs++ns) s H) tgt k g) (ht:∀(fp:List ae) (s:ah) (H:Hp),QTs (qU X Yi (fE X.env Yi.names []) fp (tgs++ns) s H) ifs tt)
  (he:∀(fp:List ae) (s:ah) (H:Hp),QE (qU X Yi (fE X.env Yi.names []) fp (tgs++ns) s H) elt te) (hk:tgs.length=k:=by rfl)
  (hall:(Yi.names.all λy=>!(y.2 == .free) || (X.env.cells.lookup y.1).isSome)=ai:=by rfl) (hjs:js.map (λj=>X.N[j]?)=ns.map aa:=by rfl)
  (hin:(ns.all λy=>(iz Yi X.env).names.lookup y==aa .cell || (iz Yi X.env).names.lookup y==aa .free)=ai:=by rfl) (YB:(ns.all λy=>X.env.kindOf y==aa .cell || X.env.kindOf y==aa .free)=ai:=by rfl)
  (nd:js.Nodup:=by decide) (Yo:∀y∈Yi.names,y.2 ≠ .cell:=by decide +kernel) (Ys:Yi.kind=.function:=by rfl)
  (Yr:∀y∈Yi.names,y.2=.local->Yi.names.lookup y.1=aa .local:=by decide +kernel) (hs:∀z,io iter X.env z=jw z:=by intro _;rfl):
  QE X (.ListComp elt [⟨tgt,iter,ifs,0⟩] Yi pos) (gD k js ti g tt te):=by
 refine NH hc hk hi hg ht he (pR hall) (λx c e=>lI Yi.names [] (by simp) (x,c) (ic e)) (λx h=>?_) hjs (λy hy=>?_) (λy hy=>?_) nd Yo Ys Yr hs
 ·obtain⟨c,hc⟩:=k7 Yi.names [] hall (rL Yo h);exact kY hc
 ·have:=zq.mp hin y hy;simpa using this
 ·have:=zq.mp YB y hy;simpa using this
end
open Classical in
def pL(h:dk)(db:Xs)(u:af):Bool:=if q:∃d as,Xg h u d as then ja (choose q) db else ao
theorem Ei{db d:Xs}{as:List ae}(ok:d.canLay0=ai)(r:Xg h u d as):pL h db u=ja d db:=by
 unfold pL;have q:∃d as,Xg h u d as:=⟨d,as,r⟩;rw[dif_pos q];obtain⟨as',r'⟩:=Classical.choose_spec q;rw[Y4 d _ u as as' ok r r']
theorem oK(I:Inv X pk σ H s){db:Xs}{dx:Dv}(hb:db=gO dx):∀{xs:List V} {ds:List Dv} {us:List af},Reps X.K M H xs ds->okDs 8 ds=ai->bV xs us->us.any (pL s.heap db)=ds.any λd=>eqD d dx
 |_,_,_,.nil,_,r=>by cases r;rfl
 |_,_,_,.cons a q,ok,r=>by
  have ok':(dR 8 _&&okDs 8 _)=ai:=ok;rw[dm] at ok';cases r with
  |cons r1 r2=>
   obtain⟨as,ra⟩:=Rep.reads I a ok'.1 r1;rw[tw,tw,oK I hb q ok'.2 r2,Ei (rZ 8 _ ok'.1).1 ra,hb];rfl
theorem nW(I:Inv X pk σ H s){A:dh}{v:af}{dx:Dv}{bs:List ae}(rb:Xg s.heap v (gO dx) bs)(ob:dR 8 dx=ai)(hu:A.units+64<jy):∀{xs:List V} {ds:List Dv} {us:List af},Reps X.K M H xs ds->okDs 8 ds=ai->bV xs us -> ∀u∈us,SeqAt.EqAt A s u v (pL s.heap (gO dx) u)
 |_,_,_,.nil,_,r,u,hm=>by cases r;simp at hm
 |_,_,_,.cons a q,ok,r,u,hm=>by
  have ok':(dR 8 _&&okDs 8 _)=ai:=ok;rw[dm] at ok';cases r with
  |cons r1 r2=>
   rcases dj.mp hm with e | hm
   ·subst e;obtain⟨as,ra⟩:=Rep.reads I a ok'.1 r1;obtain⟨l1,l2⟩:=rZ 8 _ ok'.1;obtain⟨m1,m2⟩:=rZ 8 _ ob;rw[Ei l1 ra];exact SeqAt.eqAt_reads _ _ A s u v as bs ra rb l1 m1 ⋯
   ·exact nW I rb ob hu q ok'.2 r2 u hm
def Pj(K:ak)(neg:Bool):R2:=λx y H Q=>∃M dx ds p xs,dP K M H x dx/\y=.ref p/\(gJ K H p xs \/ pF K H p xs)/\Reps K M H xs ds/\dR 8 dx=ai/\okDs 8 ds=ai /\
 Q (.bl (if neg then !(ds.any λd=>eqD d dx) else ds.any λd=>eqD d dx)) H
theorem oZ(h:A.units+65<jy):A.in1.units+64<jy:=by
 have:A.in1.units<=A.units+1:=by unfold Around.in1;simp[Around.units]
 right
theorem Nn(hu:X.A.units+65<jy):lM X (fm .In) (Pj X.K ao):=by
 intro pk s σ H x y v u Q I rx ry h;obtain⟨M,dx,ds,p,xs,cx,rfl,hq,rs,o1,o2,q⟩:=h;cases ry;obtain⟨bs,rb⟩:=cx.reads I o1 rx;rcases hq with hq | hq
 ·obtain⟨its,r,pl,hz⟩:=I.list hq;refine SeqAt.in_listAt (pL s.heap (gO dx)) pl.isList (λw hw=>nW I rb o1 (oZ hu) rs o2 r w (by simpa using hw)) ⟨.bl _,H,I,rfl,?_⟩;rw[show its.toArray.any (pL s.heap (gO dx))=its.any (pL s.heap (gO dx)) by simp,oK I rfl rs o2 r];exact q
 ·obtain⟨its,r,pl,hz⟩:=I.tuple hq;refine SeqAt.in_tupleAt (pL s.heap (gO dx)) pl (λw hw=>nW I rb o1 (oZ hu) rs o2 r w (by simpa using hw)) ⟨.bl _,H,I,rfl,?_⟩;rw[show its.toArray.any (pL s.heap (gO dx))=its.any (pL s.heap (gO dx)) by simp,oK I rfl rs o2 r];exact q
theorem FZ(hu:X.A.units+65<jy):lM X (fm .NotIn) (Pj X.K ai):=by
 intro pk s σ H x y v u Q I rx ry h;obtain⟨M,dx,ds,p,xs,cx,rfl,hq,rs,o1,o2,q⟩:=h;cases ry;obtain⟨bs,rb⟩:=cx.reads I o1 rx;rcases hq with hq | hq
 ·obtain⟨its,r,pl,hz⟩:=I.list hq;refine SeqAt.notIn_listAt (pL s.heap (gO dx)) pl.isList (λw hw=>nW I rb o1 (oZ hu) rs o2 r w (by simpa using hw)) ⟨.bl _,H,I,rfl,?_⟩;rw[show its.toArray.any (pL s.heap (gO dx))=its.any (pL s.heap (gO dx)) by simp,oK I rfl rs o2 r];exact q
 ·obtain⟨its,r,pl,hz⟩:=I.tuple hq;refine SeqAt.notIn_tupleAt (pL s.heap (gO dx)) pl (λw hw=>nW I rb o1 (oZ hu) rs o2 r w (by simpa using hw)) ⟨.bl _,H,I,rfl,?_⟩;rw[show its.toArray.any (pL s.heap (gO dx))=its.any (pL s.heap (gO dx)) by simp,oK I rfl rs o2 r];exact q
end Z
variable {sp:Z.Fn}
namespace Z
open L2
theorem Dh{k:Nat}(r:Room k A):A.units+65<jy:=by have:=r.un;right
def Q6:Dv->Dv->(R->Prop)->Prop
 | .int i,.int j,Q=>j≠0/\Q (.v (.int (i.fmod j)))
 |_,_,_=>False
def isB(b:Bool):Dv->Bool
 | .bl c=>c==b
 |_=>ao
def Rz:Dv->Dv->(R->Prop)->Prop
 |d,.bl b,Q=>Q (.v (.bl (isB b d)))
 |_,_,_=>False
def Q5:Dv->Dv->(R->Prop)->Prop
 |d,.bl b,Q=>Q (.v (.bl (!isB b d)))
 |_,_,_=>False
def M0(i:Nat)(tk tv:dB):cE:=λE ρ=>match ρ[i]? with
 |some (.own a (.lst xs))=>tv ρ λr=>tk ρ λk=>match k.d with
  | .int n=>match uI xs.length n with
   |some j=>r.free=ai/\E.nx (ρ.set i (.own a (.lst (xs.set j r.d))))
   |none=>False
  |_=>False
 |_=>False
def inD(d:Dv)(ds:List Dv):Bool:=ds.any λe=>eqD e d
def Om:Dv->Dv->(R->Prop)->Prop
 |d,.lst ds,Q=>(dR 8 d=ai/\okDs 8 ds=ai)/\Q (.v (.bl (inD d ds)))
 |d,.tup ds,Q=>(dR 8 d=ai/\okDs 8 ds=ai)/\Q (.v (.bl (inD d ds)))
 |_,_,_=>False
def vN:Dv->Dv->(R->Prop)->Prop
 |d,.lst ds,Q=>(dR 8 d=ai/\okDs 8 ds=ai)/\Q (.v (.bl (!inD d ds)))
 |d,.tup ds,Q=>(dR 8 d=ai/\okDs 8 ds=ai)/\Q (.v (.bl (!inD d ds)))
 |_,_,_=>False
theorem Nh(hu:X.A.units+65<jy)(_hu1:X.A.units+1<jy):xL X (fm .In) Om:=by
 refine⟨λdx dy Q Q' w h=>?_,_,Nn hu,λM O H x y dx dy Q cx cy h=>?_⟩
 ·unfold Om at h;split at h
  ·exact⟨h.1,w _ h.2⟩
  ·exact⟨h.1,w _ h.2⟩
  ·exact h.elim
 ·unfold Om at h;split at h
  ·obtain⟨a,xs,rfl,ea,ra⟩:=cy.lst;exact⟨M,_,_,a,xs,cx,rfl,.inl (gJ.of ea),ra,h.1.1,h.1.2,h.2 _ H (aO.refl _) (Rep.bl _)⟩
  ·obtain⟨a,xs,rfl,ea,ra⟩:=cy.tup;exact⟨M,_,_,a,xs,cx,rfl,.inr (pF.of ea),ra,h.1.1,h.1.2,h.2 _ H (aO.refl _) (Rep.bl _)⟩
  ·exact h.elim
theorem FY(hu:X.A.units+65<jy)(_hu1:X.A.units+1<jy):xL X (fm .NotIn) vN:=by
 refine⟨λdx dy Q Q' w h=>?_,_,FZ hu,λM O H x y dx dy Q cx cy h=>?_⟩
 ·unfold vN at h;split at h
  ·exact⟨h.1,w _ h.2⟩
  ·exact⟨h.1,w _ h.2⟩
  ·exact h.elim
 ·unfold vN at h;split at h
  ·obtain⟨a,xs,rfl,ea,ra⟩:=cy.lst;exact⟨M,_,_,a,xs,cx,rfl,.inl (gJ.of ea),ra,h.1.1,h.1.2,h.2 _ H (aO.refl _) (Rep.bl _)⟩
  ·obtain⟨a,xs,rfl,ea,ra⟩:=cy.tup;exact⟨M,_,_,a,xs,cx,rfl,.inr (pF.of ea),ra,h.1.1,h.1.2,h.2 _ H (aO.refl _) (Rep.bl _)⟩
  ·exact h.elim
structure QX(X:Cx)(st:ku)(i:Nat)(te:dB):Prop where
 mono:∀(ρ:List Sl) (Q Q':R->Prop),(∀r,Q r->Q' r)->te ρ Q->te ρ Q'
 run:∀(HZ:Hp) (F:ae->Prop),PS X st (N2 (lift X.K HZ F te) (C2 i))
variable {σ:St}{st:ku}
section
variable {pos:lv}
theorem QX.step{Q:R->Prop}{Q':VK}(h:QX X st i te)(fr:Fr X.K HZ F σ H ρ)(q:te ρ Q)
  (k:∀r x H',Q r->aO H H'->eD X.K (MM F ρ) (Ab ρ) H x r H'->Q' x H'):lift X.K HZ F te σ H Q':=⟨ρ,fr,h.mono _ _ _ (λr qr x H' S rx=>k r x H' qr S rx) q⟩
theorem zG(he:QX X st i te):QS X st (cA i te):=by
 refine⟨λE E' ρ w h=>he.mono _ _ _ (λr q=>?_) h,λHZ F=>dQ (he.run HZ F) λD σ H ⟨ρ,E,fr,h,en⟩=>?_⟩
 ·cases r with
  |v d=>exact w.nx _ q
  |nw d=>exact w.nx _ q
  |ow a d=>exact q
 ·refine he.step fr h λr x H1 q S1 r1=>?_;cases r with
  |v d=>exact en.nx _ _ _ ((fr.mono S1).setv r1) q
  |nw d=>exact en.nx _ _ _ ((fr.mono S1).setv (r1.rep (λa m=>fr.dom m) rfl)) q
  |ow a d=>exact q.elim
end
variable {y:bv}{py spos:lv}{iy:Nat}{elt iter tgt:Expr}{ti:xJ}{tt:n6}
section
variable {pos:lv}
theorem KM{cl:List (bv×ae)}{tgs ns:List bv}{js:List Nat}{k:Nat}{g:AZ}(hN:X.N.Nodup)(hi2:X.N[iy]?=aa y)(hx2:GS X.env.scope y)(hc:X.N=X.N)(hk:tgs.length=k)
  (hi:QI X tgt iter ti) (hg:∀(fp:List ae) (s:ah) (H:Hp),QG (qU X Yi cl fp (tgs++ns) s H) tgt k g) (ht:∀(fp:List ae) (s:ah) (H:Hp),QTs (qU X Yi cl fp (tgs++ns) s H) ifs tt)
  (he:∀(fp:List ae) (s:ah) (H:Hp),QE (qU X Yi cl fp (tgs++ns) s H) elt te)
  (YA:wj Yi X.env=jw cl) (Yx:∀x c,cl.lookup x=aa c->X.env.cells.lookup x=aa c)
  (YH:∀x,((iz Yi X.env).names.lookup x=aa .cell \/ (iz Yi X.env).names.lookup x=aa .free) -> ∃c,cl.lookup x=aa c)
  (hjs:js.map (λj=>X.N[j]?)=ns.map aa) (hin:∀y∈ns,(iz Yi X.env).names.lookup y=aa .cell \/ (iz Yi X.env).names.lookup y=aa .free)
  (YB:∀y∈ns,X.env.kindOf y=aa .cell \/ X.env.kindOf y=aa .free) (nd:js.Nodup)
  (Yo:∀y∈Yi.names,y.2 ≠ .cell:=by decide +kernel) (Ys:Yi.kind=.function:=by rfl)
  (Yr:∀y∈Yi.names,y.2=.local->Yi.names.lookup y.1=aa .local:=by decide +kernel)
  (hs:∀z,io iter X.env z=jw z:=by intro _;rfl)
  (hsw:iu (.ListComp elt [⟨tgt,iter,ifs,0⟩] Yi pos) (aa (.Name y py)) spos.line X.env=jw ai:=by rfl) (hf:X.fn y=ai \/ X.env.scope.names.lookup y=aa .local:=by first | exact .inl rfl | exact .inr rfl | assumption):
  QX X (.Assign [.Name y py] (.ListComp elt [⟨tgt,iter,ifs,0⟩] Yi pos) spos) iy (gD k js ti g tt te):=by
 have mg:=(hg [] X.s₀ λ_=>au).mono;have ag:=(hg [] X.s₀ λ_=>au).agree;have mt:=(ht [] X.s₀ λ_=>au).mono;have me:=(he [] X.s₀ λ_=>au).mono;refine⟨λρ Q Q' w h=>hi.mono _ _ _ (λds ogs h=>kO mg mt me ds [] Q Q' w h) h,λHZ F=>?_⟩;obtain⟨wi,hwi,wiq⟩:=hi.run HZ F
 suffices key:∀σ H Q,lift X.K HZ F (gD k js ti g tt te) σ H Q->z8 wi tgs.length js (liftG X.K k g) (λσ H Q=>∃HZ F,liftT X.K HZ F tt σ H Q) (λσ H Q=>∃HZ F,lift X.K HZ F te σ H Q) σ H Q from
  dQ (HI (tgs:=tgs) (ns:=ns) (js:=js) (g:=liftG X.K k g) (tt:=λσ H Q=>∃HZ F,liftT X.K HZ F tt σ H Q) (te:=λσ H Q=>∃HZ F,lift X.K HZ F te σ H Q) hN hi2 hx2 hc hwi (λfp s H=>(hg fp s H).pg) (λfp s H=>(ht fp s H).pt) (λfp s H=>(he fp s H).pe) YA Yx YH hjs hin YB Yo Ys Yr hs hsw hf) λD σ H h=>key σ H _ h
 intro σ H Q ⟨ρ,fr,h⟩;subst hk;refine wiq σ H ρ _ fr (hi.mono _ _ _ (λds ogs q J H1 S1 gd ok=>?_) h);intro D hD;have fr1:=fr.mono S1;refine⟨λi m acc H2=>m=ds.length-i/\i<=ds.length/\aO H1 H2 /\ ∃accD,Reps X.K (λa=>MM F ρ a \/ a=D) H2 acc accD /\
  e9 (ay tgs.length .un++eY js ρ) g tt te (ds.drop i) accD (λr=>∀x H',aO H H'->eD X.K (MM F ρ) (Ab ρ) H x r H'->Q x H'),
  ⟨ds.length,by simp,oj _,aO.new' hD,[],.nil,by simpa using q⟩,?_⟩
 rintro i m acc H2 ⟨rfl,hil,S2,accD,ra,q⟩ hDl;have G2:Gen X.K (MM F ρ) (λa=>MM F ρ a \/ a=D) H1 H2:=(Gen.fresh hD).trans (.mono S2);have oks:=ok i H2 (λa=>MM F ρ a \/ a=D) (λb o e=>S2 _ _ (oV e)) G2 λp hp=>by
  obtain⟨_,_,_,ow⟩:=fr1.at_own (gd p hp);exact ow.gen G2 λo e=>S2 _ _ e
 by_cases hlt:i<ds.length
 ·have hd:ds[i]?=aa ds[i]:=by simp[hlt]
  rw[gw hlt] at q;obtain⟨go,yld⟩:=oks.1 _ hd;refine .inr ⟨go,λy H3 hy old lo=>?_⟩;obtain⟨S3,ry⟩:=yld y H3 hy;have hD3:=S3 _ _ hDl;obtain⟨P,F',fr',iff,iffF⟩:=fr1.block (js:=js) (old:=old) (S2.trans S3) hD (by rw[hD3];simp) nd lo;refine⟨_,P,F',_,fr',ry.weak λa z=>(iff a).mp z,mg _ _ _ _ (λρ1 q1 σ1 f1 a1=>?_) (ag _ _ _ q)⟩;obtain⟨q1,l1,b1⟩:=q1;have up:∀a,MM F ρ a \/ a=D->MM F' ρ1 a:=λa z=>by
   rcases(iff a).mpr z with z | ⟨d,z⟩
   ·exact .inl z
   ·refine .inr ⟨d,?_⟩;obtain⟨j,e⟩:=qk.mp z;have hj:tgs.length<=j:=by
     by_cases hj:j<tgs.length
     ·rw[bh (by simpa using hj),jr,Yh hj] at e;cases e
     ·right
    rw[<- b1 j hj] at e;exact fe e
  have hlen:σ1.length=tgs.length+(pick js σ).length:=by
   have:=f1.len;rw[l1] at this;simp[pick,eY] at this ⊢;right
  refine⟨⟨σ1.take tgs.length,by rw[dw];right,As lo hlen a1⟩,P,F',ρ1,f1,mt _ _ _ (λb q5 H5 S5=>?_) q1⟩;have S25:=(S2.trans S3).trans S5;cases b with
  |true=>
   simp only[if_true] at q5;refine u9 ⟨P,F',ρ1,f1.mono S5,me _ _ _ (λr q6 x H6 S6 rx=>?_) q5⟩;have hD6:=S6 _ _ (S5 _ _ hD3);obtain⟨⟨rf,rl⟩,q6⟩:=q6;have rep:=(rx.rep (λa z=>(f1.mono S5).dom z) rf).weak up;refine⟨hD6,by rw[ra.length];exact vV rl,ds.length-(i+1),⋯,rfl,hlt,λb o e=>?_,_,?_,q6⟩
   ·rw[bB (bL e hD)];exact S6 _ _ (S25 _ _ e)
   ·have G6:Gen X.K (λa=>MM F ρ a \/ a=D) (λa=>MM F ρ a \/ a=D) H6 (upd H6 D (.lst (acc++[x]))):=Gen.write (.inr rfl) (by rw[hD6];trivial);exact((ra.mono ((S3.trans S5).trans S6)).append (.cons rep .nil)).gen G6
  |false=>
   simp only[dq,if_false] at q5;exact uA ⟨S5 _ _ hD3,ds.length-(i+1),⋯,rfl,hlt,S25,accD,ra.mono (S3.trans S5),q5⟩
 ·have e:i=ds.length:=⋯;subst e;rw[ve] at q;exact .inl ⟨oks.2 (br _),q (.ref D) H2 (S1.trans S2) ⟨D,rfl,S1.free hD,acc,hDl,ra⟩⟩
theorem Dr(tgs ns:List bv)(js:List Nat){k:Nat}{g:AZ}(hN:X.N.Nodup)(hi2:X.N[iy]?=aa y)(hx2:GS X.env.scope y)(hc:X.N=X.N)(hi:QI X tgt iter ti)
  (hg:∀(fp:List ae) (s:ah) (H:Hp),QG (qU X Yi (fE X.env Yi.names []) fp (tgs++ns) s H) tgt k g) (ht:∀(fp:List ae) (s:ah) (H:Hp),QTs (qU X Yi (fE X.env Yi.names []) fp (tgs++ns) s H) ifs tt)
  (he:∀(fp:List ae) (s:ah) (H:Hp),QE (qU X Yi (fE X.env Yi.names []) fp (tgs++ns) s H) elt te) (hk:tgs.length=k:=by rfl)
  (hall:(Yi.names.all λy=>!(y.2 == .free) || (X.env.cells.lookup y.1).isSome)=ai:=by rfl) (hjs:js.map (λj=>X.N[j]?)=ns.map aa:=by rfl)
  (hin:(ns.all λy=>(iz Yi X.env).names.lookup y==aa .cell || (iz Yi X.env).names.lookup y==aa .free)=ai:=by rfl) (YB:(ns.all λy=>X.env.kindOf y==aa .cell || X.env.kindOf y==aa .free)=ai:=by rfl)
  (nd:js.Nodup:=by decide) (Yo:∀y∈Yi.names,y.2 ≠ .cell:=by decide +kernel) (Ys:Yi.kind=.function:=by rfl)
  (Yr:∀y∈Yi.names,y.2=.local->Yi.names.lookup y.1=aa .local:=by decide +kernel) (hs:∀z,io iter X.env z=jw z:=by intro _;rfl)
  (hsw:iu (.ListComp elt [⟨tgt,iter,ifs,0⟩] Yi pos) (aa (.Name y py)) spos.line X.env=jw ai:=by rfl) (hf:X.fn y=ai \/ X.env.scope.names.lookup y=aa .local:=by first | exact .inl rfl | exact .inr rfl | assumption):
  QX X (.Assign [.Name y py] (.ListComp elt [⟨tgt,iter,ifs,0⟩] Yi pos) spos) iy (gD k js ti g tt te):=by
 refine KM hN hi2 hx2 hc hk hi hg ht he (pR hall) (λx c e=>lI Yi.names [] (by simp) (x,c) (ic e)) (λx h=>?_) hjs (λy hy=>?_) (λy hy=>?_) nd Yo Ys Yr hs hsw hf
 ·obtain⟨c,hc⟩:=k7 Yi.names [] hall (rL Yo h);exact kY hc
 ·have:=zq.mp hin y hy;simpa using this
 ·have:=zq.mp YB y hy;simpa using this
end
def BV:Dv->Dv->(R->Prop)->Prop
 | .int i,.int j,Q=>Q (.v (.int (i+j)))
 | .str x,.str y,Q=>x.length+y.length<=Ac/\Q (.v (.str (x++y)))
 |_,_,_=>False
def Q9:Dv->Dv->(R->Prop)->Prop
 | .int i,.int j,Q=>Q (.v (.int (i-j)))
 |_,_,_=>False
def QB:Dv->Dv->(R->Prop)->Prop
 | .int i,.int j,Q=>tY i j/\Q (.v (.int (i*j)))
 |_,_,_=>False
theorem J6:Su X .Add BV:=by
 refine⟨λdx dy Q Q' w h=>?_,_,LN.or Bw,λM O H x y dx dy Q cx cy h=>?_⟩
 ·unfold BV at h;split at h
  ·exact w _ h
  ·exact⟨h.1,w _ h.2⟩
  ·exact h.elim
 ·unfold BV at h;split at h
  ·obtain rfl:=cx.int;obtain rfl:=cy.int;exact .inl ⟨_,_,rfl,rfl,h _ H (aO.refl _) (Rep.int _)⟩
  ·obtain rfl:=cx.str;obtain rfl:=cy.str;exact .inr ⟨_,_,rfl,rfl,j6 h.1,h.2 _ H (aO.refl _) (Rep.str _)⟩
  ·exact h.elim
def PQ(te:dB)(g:AZ):cE:=λE ρ=>te ρ λr=>r.free=ai/\g r.d ρ E.nx
theorem B5{a b c:Expr}{ta tb tc:dB}{pos:lv}{op op':Wf}{f f':Int->Int->Bool}(ho:lM X (fm op) (Cw λi j=>.bl (f i j)))(ho':lM X (fm op') (Cw λi j=>.bl (f' i j)))(ha:QE X a ta)(hb:QE X b tb)(hc:QE X c tc)
  (hm:VQ [op,op'] [b,c]=ao:=by with_unfolding_all rfl):QT X (.Compare a [op,op'] [b,c] pos) (bI (mQ (zP f) (zP f') ta tb tc)):=by
 have Q0:=Ds (pos:=pos) ho ho' ha hb hc hm;have low:∀(HZ:Hp) (F:ae->Prop) (σ:St) (H:Hp) (Q:VK),lift X.K HZ F (mQ (zP f) (zP f') ta tb tc) σ H Q->Ci (Cw λi j=>.bl (f i j)) (Cw λi j=>.bl (f' i j)) (lift X.K HZ F ta) (lift X.K HZ F tb) (lift X.K HZ F tc) σ H Q:=by
  rintro HZ F σ H Q ⟨ρ,fr,q⟩;refine ha.step fr q λrx x H1 q1 S1 r1=>?_;refine hb.step (fr.mono S1) q1 λry y H2 q2 S2 r2=>?_;have cx:=(r1.mono S2).c;have cy:=r2.c;generalize rx.d=dx at q2 cx;generalize ry.d=dy at q2 cy;unfold zP at q2;split at q2
  ·rename_i Q2 i j;obtain rfl:=cx.int;obtain rfl:=cy.int;refine⟨_,_,rfl,rfl,f i j,rfl,?_⟩;have S12:=S1.trans S2;replace q2:=(show (if f i j=ai then tc ρ (λw=>zP f' (.int j) w.d (λr=>∀x H',aO H H'->eD X.K (MM F ρ) (Z.Ab ρ) H x r H'->Q x H')) else (∀x H',aO H H'->eD X.K (MM F ρ) (Z.Ab ρ) H x (.v (.bl ao)) H'->Q x H')) from q2);cases h:f i j with
   |true=>
    rw[h] at q2;simp only[if_true] at q2;refine u9 (hc.step ((fr.mono S1).mono S2) q2 λrw' z H3 q3 S3 r3=>?_);have cz:=r3.c;generalize rw'.d=dz at q3 cz;cases dz with
    |int l=>
     obtain rfl:=cz.int;exact⟨_,_,rfl,rfl,q3 _ H3 (S12.trans S3) (Rep.bl _)⟩
    |_=>exact(show False from q3).elim
   |false=>
    rw[h] at q2;simp only[dq,if_false] at q2;exact uA (q2 _ H2 S12 (Rep.bl _))
  ·exact q2.elim
 refine⟨λρ Q Q' w q=>wE Q0.mono ρ Q Q' w q,λHZ F=>Aa (HC ho ho' (ha.run HZ F) (hb.run HZ F) (hc.run HZ F) hm) λσ H Q ⟨ρ,fr,q⟩=>?_⟩;refine low HZ F σ H _ (Q0.step fr q λr x H1 q S1 r1=>?_);have cx:=r1.c;generalize r.d=d at q cx;split at q
 ·obtain rfl:=cx.bl;exact⟨_,rfl,q H1 S1⟩
 ·exact q.elim
variable {f:bv}{p1 p2:lv}
section
variable {pos:lv}
def FD(i:Nat)(te:dB):cE:=λE ρ=>match ρ[i]? with
 |some (.own a (.lst xs))=>te ρ λr=>match r.d with
  | .lst ys=>xs.length+ys.length<=Ac/\E.nx (ρ.set i (.own a (.lst (xs++ys))))
  |_=>False
 |_=>False
theorem Pp{x:bv}{p3:lv}(hv:PE X (.Name x p1) (z7 i))(he:QE X e te)(hs:iu (.Call (.Attribute (.Name x p1) "extend" p2) [e] [] p3) au pos.line X.env=jw ao:=by rfl)
  (YD:sd (.Name x p1) "extend" X.env (gh (.Name x p1) X.env)=gh (.Name x p1) X.env:=by rfl)
  (hfew:((ir p3 (aw [e] X.env)).all (λx=>!x.1)&&(yc p3 (tj [] X.env)).all (λx=>x.1.isSome)
   && decide ([e].length+([]:List zj).length+(if ([]:List zj).isEmpty then 0 else 1)<30))=ai:=by rfl)
  (YE:(p2.endLine==p3.line)=ai:=by rfl) (hst:aw [e] X.env=(ao,gh e X.env)::aw [] X.env:=by rfl) (Yz:(ir p3 (aw [] X.env)).any (·.1)=ao:=by rfl):
  QS X (.Expr (.Call (.Attribute (.Name x p1) "extend" p2) [e] [] p3) pos) (FD i te):=by
 refine⟨λE E' ρ w h=>?_,λHZ F=>dQ (uG (HW Tv PySem.F.slot_list_extend PySem.F.type_list_extend Fd hv (iP (he.run HZ F) qA hst) YD hfew YE hst Yz) hs) λD σ H ⟨ρ,E,fr,h,en⟩=>?_⟩
 ·unfold FD at *;split at h
  ·refine he.mono _ _ _ (λr q=>?_) h;split at q
   ·exact⟨q.1,w.nx _ q.2⟩
   ·exact q
  ·exact h
 ·unfold FD at h;split at h
  ·rename_i a xs hx;obtain⟨hs1,vs,hv1,rv1⟩:=fr.sl i _ hx;refine⟨_,hs1,.inl ⟨rfl,_,gJ.of hv1⟩,he.step fr h λr y H1 q S1 r1=>?_⟩;have cy:=r1.c;generalize r.d=d at q cy;split at q
   ·rename_i ys;obtain⟨b,zs,rfl,eb,rb⟩:=cy.lst;obtain⟨ql,q2⟩:=q;have hv2:=S1 _ _ hv1;refine⟨a,b,vs,zs,rfl,rfl,hv2,eb,j6 (by rw[rv1.length,rb.length];exact ql),?_⟩;refine en.nx _ _ _ ((fr.mono S1).write (d':=.lst (xs++ys)) hx ⟨_,bT,?_⟩) q2;have G:Gen X.K (MM F ρ) (MM F ρ) H1 (upd H1 a (.lst (vs++zs))):=Gen.write (.inr ⟨_,fe hx⟩) (by rw[hv2];trivial);exact((rv1.mono S1).append rb).gen G
   ·exact q.elim
  ·exact h.elim
def H9(f:bv)(d:Dv):List (bv×Dv)->List (bv×Dv)
 | []=>[(f,d)]
 | (g,x)::r=>if g=f then (g,d)::r else (g,x)::H9 f d r
theorem RepF.put{x:V}{d:Dv}(a:Rep K M H x d){xs:List (bv×V)}{ds:List (bv×Dv)}(r:RepF K M H xs ds):RepF K M H (mH f x xs) (H9 f d ds):=
 r.ind (P:=λxs ds=>RepF K M H (mH f x xs) (H9 f d ds)) (.cons a .nil) λk _ _ _ _ b r ih=>by
  show RepF K M H (if k=f then _ else _) (if k=f then _ else _);split
  ·exact .cons a r
  ·exact .cons b ih
theorem RepF.length{K:ak}{M:ae->Prop}{H:Hp}{xs:List (bv×V)}{ds:List (bv×Dv)}(r:RepF K M H xs ds):xs.length=ds.length:=r.ind (P:=λxs ds=>xs.length=ds.length) rfl λ_ _ _ _ _ _ _ ih=>congrArg (· + 1) ih
def vD(C:ae)(i:Nat)(f:bv)(te:dB):cE:=λE ρ=>match ρ[i]? with
 |some (.own a (.obj C' fs))=>te ρ λr=>(C'=C/\r.free=ai/\fs.length<1000)/\E.nx (ρ.set i (.own a (.obj C' (H9 f r.d fs))))
 |_=>False
theorem Gy{x:bv}(c:Cls X.K C)(n:jG X.K C f)(hv:PE X (.Name x p1) (z7 i))(he:QE X e te)
  (hs:iu e (aa (.Attribute (.Name x p1) f p2)) pos.line X.env=jw ao:=by rfl):QS X (.Assign [.Attribute (.Name x p1) f p2] e pos) (vD C i f te):=by
 refine⟨λE E' ρ w h=>?_,λHZ F=>dQ (NO hv he.pe hs) λD σ H ⟨ρ,E,fr,h,en⟩=>?_⟩
 ·unfold vD at *;split at h
  ·exact he.mono _ _ _ (λr q=>⟨q.1,w.nx _ q.2⟩) h
  ·exact h
 ·unfold vD at h;split at h
  ·rename_i a C' fs hx;refine⟨HZ,F,he.step fr h λr y H1 q S1 r1=>?_⟩;obtain⟨⟨rfl,qf,ql⟩,q2⟩:=q;have fr1:=fr.mono S1;obtain⟨hs1,dx,fs1,hv1,rv1⟩:=fr1.sl i _ hx;have rep:=r1.rep (λa m=>fr.dom m) qf;refine⟨_,hs1,a,C',dx,fs1,rfl,hv1,c,n,by rw[rv1.length];exact ql,?_⟩;refine en.nx _ _ _ (fr1.write (d':=.obj C' (H9 f r.d fs)) hx ⟨dx,_,bT,?_⟩) q2;have G:Gen X.K (MM F ρ) (MM F ρ) H1 (upd H1 a (.ins C' dx (mH f y fs1))):=Gen.write (.inr ⟨_,fe hx⟩) (by rw[hv1];trivial);exact(RepF.put rep rv1).gen G
  ·exact h.elim
end
def SC(K:ak)(C:ae)(sp:Fn):Sp:=λvs H Q _=>∃(x dx:ae) (vs':List V) (H0:Hp) (F:ae->Prop) (ds:List Dv),vs=.ref x::vs'/\H=upd (upd H0 dx (.own x)) x (.ins C dx [])/\H0 x=au/\H0 dx=au/\dx≠x/\OldF K F H0/\Reps K F H0 vs' ds /\
 sp ds (λr=>∀H',aO H0 H'->eD K F yS H0 (.ref x) r H'->Q .non H')
structure IDef(P:az)(w:bw)(K:ak)(mg:bv->Option af)(base:dk)(k:Nat)(x:bv)(C:ae)(ps:List bv)(sp:Fn):Prop where
 ex:∃f fd,Mk K C f/\mg x=aa (.ref C)/\iH K fd ps []/\FnOk P w K mg base Dd k f fd ps (SC K C sp)
structure IAt(K:ak)(mg:bv->Option af)(x:bv)(C:ae)(qual:bv)(st:ku)(ps:List bv):Prop where
 ex:∃f fd,Mk K C f/\mg x=aa (.ref C)/\Fun K "__init__" qual st f fd/\iH K fd ps []
def jD(C a:ae)(N:List bv)(ds:List Dv):List Sl:=.own a (.obj C [])::(ds.map .v++ay (N.length-(ds.length+1)) .un)
variable {H0:Hp}{dx:ae}
theorem Gq{x:ae}{o o':HO}(hx:H0 x=au)(hd:H0 dx=au):aO H0 (upd (upd H0 dx o) x o'):=λb q e=>by
 rw[bB (bL e hx),bB (bL e hd)];exact e
theorem F7{x:ae}{vs:List V}{ds:List Dv}(hx:H0 x=au)(hd:H0 dx=au)(hF:OldF K F H0)(r:Reps K F H0 vs ds):
  Fr K H0 F (start N (.ref x::vs)) (upd (upd H0 dx (.own x)) x (.ins C dx [])) (jD C x N ds):=by
 have S:aO H0 (upd (upd H0 dx (.own x)) x (.ins C dx [])):=Gq hx hd;have only:∀{a:ae} {d:Dv},Sl.own a d∈jD C x N ds->a=x:=λ{a d} h=>by
  rcases dj.mp h with h | h
  ·cases h;rfl
  ·rcases fj.mp h with h | h
   ·obtain⟨z,_,e⟩:=jg.mp h;cases e
   ·cases gm h
 have wk:∀a,MM F (jD C x N ds) a->F a \/ a=x:=λa h=>by
  rcases h with h | ⟨d,h⟩
  ·exact .inl h
  ·exact .inr (only h)
 have G:Gen K F (MM F (jD C x N ds)) H0 (upd (upd H0 dx (.own x)) x (.ins C dx [])):=((Gen.fresh hx).trans (.mono S)).trans (.weak wk);have hl:=r.length;have r':=r.gen G;have zero:∀(i:Nat) (a:ae) (d:Dv),(jD C x N ds)[i]?=aa (.own a d)->i=0:=λi a d e=>by
  cases i with
  |zero=>rfl
  |succ i=>
   have e':(ds.map Sl.v++ay (N.length-(ds.length+1)) Sl.un)[i]?=aa (.own a d):=e;have:=fe e';rcases fj.mp this with h | h
   ·obtain⟨z,_,e⟩:=jg.mp h;cases e
   ·cases gm h
 refine⟨by simp[L2.start,jD,hl],λi s e=>?_,λi j a d d' e1 e2=>?_,λa d h=>by rw[only h];exact hx,S,hF⟩
 ·cases i with
  |zero=>
   cases e;exact⟨rfl,dx,[],bT,.nil⟩
  |succ i=>
   have e':(ds.map Sl.v++ay (N.length-(ds.length+1)) Sl.un)[i]?=aa s:=e;have es:(start N (.ref x::vs))[i+1]?=(vs.map aa++ay (N.length-(vs.length+1)) au)[i]?:=by simp[L2.start]
   rw[es];by_cases hi:i<ds.length
   ·rw[bh (by simpa using hi),dg] at e';cases q:ds[i]? with
    |none=>rw[q] at e';cases e'
    |some d=>
     rw[q] at e';cases e';obtain⟨y,hy,ry⟩:=r'.get q;refine⟨y,?_,ry⟩;rw[bh (by simpa using(cf.mp hy).1),dg,hy];rfl
   ·rw[bo (by simpa using nh hi)] at e';have:=fe e';cases gm this;trivial
 ·rw[zero i a d e1,zero j a d' e2]
theorem IAt.okP{k:Nat}{x:bv}{t:cE}(m:IAt K mg x C Yj st ps)(S:FnScope N ps (aI st))
  (hq:∀(f:ae) (cdv:af) (A:dh) (outer:List zd) (s:ah) (H:Hp) (E:XK),Room k (A.deeper (tu Yj (aI st) s.heap.objs.size f cdv))->QSs (cK Dd P w K mg base N Yj (aI st) f cdv A outer s H E).nox (eF st) t)
  (len:∀ds Q,sp ds Q->ds.length+1=ps.length) (hsp:∀ds Q,sp ds Q -> ∀a,t { nx:=λρ=>∃d,ρ[0]?=aa (.own a d)/\Q (.nw d),rt:=λ_=>False } (jD C a N ds)):IDef P w K mg base (k+1) x C ps sp:=by
 obtain⟨f,fd,M,hm,FF,hb⟩:=m.ex;refine⟨f,fd,M,hm,hb,FF.ok S (λvs H Q E ⟨a,dx,vs',H0,F,ds,e,_,_,_,_,_,r,q⟩=>?_) λcdv A outer s H vs Q E hr q=>?_⟩
 ·rw[e,cg,r.length];exact len _ _ q
 ·obtain⟨a,dx,vs',H0,F,ds,rfl,rfl,hx,hd,hn,hF,r,q⟩:=q;refine⟨_,(hq f cdv A outer s _ E hr).run H0 F,jD C a N ds,_,F7 hx hd hF r,hsp ds _ q a,?_,λ_ _ _ _ z=>z.elim,λ_ _ _ _ z=>z.elim,λ_ _ _ _ _ z=>z.elim⟩;rintro ρ σ H' fr ⟨d,hd',q⟩;have mem:Sl.own a d∈ρ:=fe hd';exact q H' fr.same ⟨a,rfl,hx,(fr.sl 0 _ hd').2.weak λb z=>z.elim .inl λz=>.inr ⟨d,by rw[z];exact mem⟩⟩
def Ek(sp:Fn)(ts:lP):dB:=λρ Q=>ts ρ λrs=>sp (rs.map R.d) (back rs Q)
section
variable {k:Nat}{x:bv}{pos:lv}
theorem NF(d:IDef X.prog X.w X.K X.mg X.base k x C ps sp)(mo:MonoF sp)(hr:Room (k+1) X.A)(ha:QA X (e::es) ts)(hg:Gl X x:=by rfl)
  (hdb:(x==("__debug__" : bv))=ao:=by decide) (he:aw (e::es) X.env=(ao,gh e X.env)::aw es X.env:=by rfl) (hpl:(ir pos (aw es X.env)).any (·.1)=ao:=by rfl):
  QE X (.Call (.Name x p) (e::es) [] pos) (Ek sp ts):=by
 obtain⟨f,fd,M,hm,hb,FO⟩:=d.ex;refine⟨λρ Q Q' w q=>ha.mono _ _ _ (λrs q=>mo.mo _ _ _ (pB w) q) q,λHZ F=>cU (Kh M FO hr hg hm hb .nil Dz (ha.run HZ F) hdb he hpl) λσ H Q ⟨ρ,fr,h⟩=>?_⟩;refine ha.step fr h λrs xs H1 q S1 r1=>?_;intro a dx hx hd hn;rw[gv];refine⟨a,dx,xs,H1,lent (MM F ρ) rs,rs.map R.d,rfl,rfl,hx,hd,hn,⟨λb z=>(fr.mono S1).dom z.1,(fr.mono S1).tab⟩,lF fr (λ_ h=>h) r1,mo.mo _ _ _ (λr q H' S rx=>?_) q⟩;exact⟨rfl,q.2 _ H' (S1.trans S) (y9 fr S1 rx q.1)⟩
end
def N3(a:ae)(N:List bv):List Dv->List Sl
 | []=>[]
 |d::ds=>.own a d::(ds.map .v++ay (N.length-(ds.length+1)) .un)
def PN(i:Nat)(sp:Fn)(ts:lP):cE:=λE ρ=>ts ρ λrs=>match rs with
 | .ow a d::Yl=>ρ[i]?=aa (.own a d)/\Yl.all R.free=ai/\sp (d::Yl.map R.d) (λr=>match r with | .nw d'=>∀b,E.nx (ρ.set i (.own b d')) | _=>False)
 |_=>False
section
variable {k:Nat}{x:bv}{pos pos2:lv}
end
def He:Dv->Dv->(R->Prop)->Prop
 | .int i,.int j,Q=>Jl i j/\Q (.v (.int (i*2 ^ j.toNat)))
 |_,_,_=>False
theorem Ko:xL X (lf .LShift) He:=by
 refine⟨λdx dy Q Q' w h=>?_,_,Nj,λM O H x y dx dy Q cx cy h=>?_⟩
 ·unfold He at h;split at h
  ·exact⟨h.1,w _ h.2⟩
  ·exact h.elim
 ·unfold He at h;split at h
  ·obtain rfl:=cx.int;obtain rfl:=cy.int;exact⟨_,_,rfl,rfl,h.1,h.2 _ H (aO.refl _) (Rep.int _)⟩
  ·exact h.elim
end Z
namespace L2
open AutoSeq1
section
variable {r:ae}{a b c:Int}{t u v:Yg}
end
end L2
namespace L2
end L2
namespace Z
open L2
section
variable {a:Expr}{p2 pos:lv}
def Qj(ts:lP):dB:=λρ Q=>ts ρ λrs=>match rs.map R.d with
 | [.int j]=>(-(2 ^ 62)<=j/\j<2 ^ 62/\j.toNat<=1000000)/\Q (.v (.tup (aW 0 j.toNat)))
 |_=>False
end
end Z
namespace Tim
open PySem PySem.W PyProof.Rows
def ask(lt:Nat->Nat->Bool)(N:Nat){α:Type}:KasT α->(α->Prop)->Prop
 | .ret a,Q=>Q a
 | .ask i j k,Q=>(i<N/\j<N/\i≠j)/\ask lt N (k (lt i j)) Q
theorem lL{lt:Nat->Nat->Bool}{N:Nat}{α β:Type}{f:α->KasT β}{Q:β->Prop}:∀(t:KasT α),ask lt N t (λa=>ask lt N (f a) Q)->ask lt N (t.bind f) Q
 | .ret _,h=>h
 | .ask i j k,h=>⟨h.1,lL (k (lt i j)) h.2⟩
theorem Jc{lt:Nat->Nat->Bool}{N:Nat}{α:Type}{cmp:Nat->Nat->(Bool->ah->Prop)->ah->Prop}{s:ah}(hc:∀i j C,i<N->j<N->i≠j->C (lt i j) s->cmp i j C s){Q:α->ah->Prop}:
  ∀(t:KasT α),ask lt N t (λa=>Q a s)->t.kasWp cmp Q s
 | .ret _,h=>h
 | .ask i j k,h=>hc i j _ h.1.1 h.1.2.1 h.1.2.2 (Jc hc (k (lt i j)) h.2)
structure Weak(lt:Nat->Nat->Bool):Prop where
 irr:∀a,lt a a=ao
 tr:∀a b c,lt a b=ai->lt b c=ai->lt a c=ai
 nt:∀a b c,lt a c=ai->lt a b=ai \/ lt b c=ai
def d7(p:Array Nat)(k:Nat):Nat:=p.getD k 0
variable {p:Array Nat}{j:Nat}
theorem CP{q:Array Nat}(h:p[i]?=q[j]?):d7 p i=d7 q j:=by
 unfold d7;rw[xn,xn,h]
theorem l7(hj:j<=p.size)(k:Nat):d7 (kas_rev p i j) k=if i<=k/\k<j then d7 p (i+j-1-k) else d7 p k:=by
 have e:=uj (i:=i) hj k;split
 ·rename_i h;rw[Yh h] at e;exact CP e
 ·rename_i h;rw[XQ h] at e;exact CP e
theorem Oe{k d:Nat}(hs:k<p.size)(hd:d<=k)(u:Nat):d7 (W0 p k d) u=if u=k-d then d7 p k else if k-d<u/\u<=k then d7 p (u-1) else d7 p u:=by
 have e:=wy hs d hd u;by_cases h1:u=k-d
 ·rw[Yh h1] at e ⊢;exact CP e
 ·rw[XQ h1] at e ⊢;by_cases h2:k-d<u/\u<=k
  ·rw[Yh h2] at e ⊢;exact CP e
  ·rw[XQ h2] at e ⊢;exact CP e
def Pm(N:Nat)(p:Array Nat):Prop:=p.Perm (U3 (gx N))
variable {q a b:Nat}{Q:Nat×Array Nat->Prop}
section
variable {lt:Nat->Nat->Bool}{N:Nat}
theorem Pm.size(h:Pm N p):p.size=N:=by
 have:=Array.Perm.size_eq h;simpa using this
theorem Pm.list(h:Pm N p):p.toList.Perm (gx N):=by
 have:=yo.mp h;simpa using this
theorem qY{k:Nat}(hk:k<p.size):d7 p k=p.toList[k]'(by simpa using hk):=by
 unfold d7;simp[yp,hk]
theorem Pm.ltN(h:Pm N p){k:Nat}(hk:k<N):d7 p k<N:=by
 have hs:k<p.size:=by rw[h.size];exact hk
 rw[qY hs];exact xp.mp (h.list.mem_iff.mp (fq _))
theorem Pm.ne(h:Pm N p)(hi:i<N)(hj:j<N)(n:i≠j):d7 p i≠d7 p j:=by
 have nd:p.toList.Nodup:=h.list.nodup_iff.mpr Wj;rw[qY (by rw[h.size];exact hi),qY (by rw[h.size];exact hj)];intro e;rcases ue n with z | z
 ·exact da.mp nd i j _ _ z e
 ·exact da.mp nd j i _ _ z e.symm
theorem Pm.rev(h:Pm N p)(i j:Nat):Pm N (kas_rev p i j):=Array.Perm.trans (mirror_perm _ _ _ _) h
theorem Pm.bub(h:Pm N p)(i j:Nat):Pm N (W0 p i j):=Array.Perm.trans (bubble_perm _ _ _) h
def Tl(N:Nat)(p:Array Nat)(k:Nat):Prop:=∀i,k<=i->i<N->d7 p i=i
theorem Tl.up{k m:Nat}(h:Tl N p k)(hm:k<=m):Tl N p m:=λi hi hn=>h i (ly hm hi) hn
theorem Tl.below{k:Nat}(h:Tl N p k)(P:Pm N p)(hk:i<k)(hn:i<N):d7 p i<k:=by
 have:=P.ltN hn;apply Nat.lt_of_not_le;intro z;have e:=h _ z this;exact P.ne hn this ⋯ e.symm
theorem Tl.rev{k:Nat}(h:Tl N p k)(P:Pm N p)(hj:j<=k)(hN:j<=N):Tl N (kas_rev p i j) k:=λu hu hn=>by
 rw[l7 (by rw[P.size];exact hN),XQ ⋯];exact h u hu hn
def Ew(lt:Nat->Nat->Bool)(a b:Nat):Prop:=lt b a=ao/\(lt a b=ai \/ a<b)
theorem Ew.trans(W:Weak lt){c:Nat}(h:Ew lt a b)(k:Ew lt b c):Ew lt a c:=by
 have n1:lt c a=ao:=by
  cases e:lt c a with
  |false=>rfl
  |true=>
   rcases W.nt c b a e with z | z
   ·rw[k.1] at z;cases z
   ·rw[h.1] at z;cases z
 refine⟨n1,?_⟩;rcases h.2 with x | x
 ·rcases W.nt a c b x with z | z
  ·exact .inl z
  ·rw[k.1] at z;cases z
 ·rcases k.2 with y | y
  ·rcases W.nt b a c y with z | z
   ·rw[h.1] at z;cases z
   ·exact .inl z
  ·exact .inr (Xr x y)
theorem Weak.asym(W:Weak lt)(h:lt a b=ai):lt b a=ao:=by
 cases e:lt b a with
 |false=>rfl
 |true=>have:=W.tr _ _ _ h e;rw[W.irr] at this;cases this
theorem Ew.of(W:Weak lt)(h:lt a b=ai):Ew lt a b:=⟨W.asym h,.inl h⟩
def Up(lt:Nat->Nat->Bool)(p:Array Nat)(k:Nat):Prop:=∀u v,u<v->v<k->Ew lt (d7 p u) (d7 p v)
def Dn(lt:Nat->Nat->Bool)(p:Array Nat)(k:Nat):Prop:=∀u v,u<v->v<k->Ew lt (d7 p v) (d7 p u)
theorem Up.rev{k:Nat}(h:Up lt p k)(hk:k<=p.size):Dn lt (kas_rev p 0 k) k:=λu v huv hv=>by
 rw[l7 hk,l7 hk,Yh ⋯,Yh ⋯];exact h _ _ ⋯ ⋯
theorem Dn.rev{k:Nat}(h:Dn lt p k)(hk:k<=p.size):Up lt (kas_rev p 0 k) k:=λu v huv hv=>by
 rw[l7 hk,l7 hk,Yh ⋯,Yh ⋯];exact h _ _ ⋯ ⋯
theorem Up.snoc(W:Weak lt){k:Nat}(h:Up lt p k)(t:Tl N p k)(P:Pm N p)(h1:1<=k)(hk:k<N)(n:lt (d7 p k) (d7 p (k-1))=ao):Up lt p (k+1):=λu v huv hv=>by
 by_cases e:v=k
 ·subst e;have one:Ew lt (d7 p (v-1)) (d7 p v):=⟨n,.inr (by rw[t v (br _) hk];exact t.below P ⋯ ⋯)⟩;by_cases e2:u=v-1
  ·rw[e2];exact one
  ·exact(h u (v-1) ⋯ ⋯).trans W one
 ·exact h u v huv ⋯
theorem AY(W:Weak lt)(P:Pm N p){Q:Nat->Prop}:∀(f n:Nat),1<=n->n+f<=N->Up lt p n->Tl N p n ->
  (∀m,n<=m->m<=n+f->Up lt p m->(m=n+f \/ m<N/\lt (d7 p m) (d7 p (m-1))=ai)->Q m)->ask lt N (kas_asc p f n) Q
 |0,n,_,hn,u,t,k=>k n (br _) (br _) u (.inl rfl)
 |f+1,n,h1,hn,u,t,k=>by
  refine⟨⟨P.ltN ⋯,P.ltN ⋯,P.ne ⋯ ⋯ ⋯⟩,?_⟩;show ask lt N (if lt (d7 p n) (d7 p (n-1))=ai then KasT.ret n else kas_asc p f (n+1)) Q;cases e:lt (d7 p n) (d7 p (n-1)) with
  |true=>
   rw[Yh rfl];exact k n (br _) ⋯ u (.inr ⟨⋯,e⟩)
  |false=>
   rw[XQ (by simp)];exact AY W P f (n+1) ⋯ ⋯ (u.snoc W t P h1 ⋯ e) (t.up ⋯) λm a b c d=>k m ⋯ ⋯ c (d.elim (λz=>.inl ⋯) .inr)
structure Run(lt:Nat->Nat->Bool)(N:Nat)(p:Array Nat)(n q:Nat):Prop where
 pm:Pm N p
 tl:Tl N p n
 le:q+1<=n
 hi:n<=N
 dn:Dn lt p (n-(q+1))
 same:∀u v,n-(q+1)<=u->u<v->v<n->lt (d7 p u) (d7 p v)=ao/\lt (d7 p v) (d7 p u)=ao/\d7 p u<d7 p v
 less:∀u v,u<n-(q+1)->n-(q+1)<=v->v<n->lt (d7 p v) (d7 p u)=ai
theorem Run.turn(W:Weak lt)(h:Run lt N p n q):Dn lt (kas_rev p (n-(q+1)) n) n:=λu v huv hv=>by
 have hs:n<=p.size:=by rw[h.pm.size];exact h.hi
 have hl:=h.le;rw[l7 hs,l7 hs];by_cases c:n-(q+1)<=v
 ·rw[Yh ⟨c,hv⟩];by_cases d:n-(q+1)<=u
  ·rw[Yh ⟨d,⋯⟩];obtain⟨a,b,e⟩:=h.same (n-(q+1)+n-1-v) (n-(q+1)+n-1-u) ⋯ ⋯ ⋯;exact⟨b,.inr e⟩
  ·rw[XQ ⋯];exact Ew.of W (h.less u _ ⋯ ⋯ ⋯)
 ·rw[XQ ⋯,XQ ⋯];exact h.dn u v huv ⋯
theorem Run.flat(W:Weak lt)(h:Run lt N p n 0):Dn lt p n:=λu v huv hv=>by
 by_cases c:n-1<=v
 ·exact Ew.of W (h.less u v ⋯ ⋯ hv)
 ·exact h.dn u v huv ⋯
theorem Run.done(W:Weak lt)(h:Run lt N p n q):∃p',(if q > 0 then kas_rev p (n-(q+1)) n else p)=p'/\Pm N p'/\Tl N p' n/\Dn lt p' n /\ ∀u,u<n -> ∃w,w<n/\d7 p' u=d7 p w:=by
 by_cases c:q > 0
 ·refine⟨_,Yh c,h.pm.rev _ _,h.tl.rev h.pm (br _) h.hi,h.turn W,λu hu=>?_⟩;have hl:=h.le;rw[l7 (by rw[h.pm.size];exact h.hi)];split
  ·exact⟨_,⋯,rfl⟩
  ·exact⟨u,hu,rfl⟩
 ·have:q=0:=⋯;subst this;exact⟨_,XQ c,h.pm,h.tl,h.flat W,λu hu=>⟨u,hu,rfl⟩⟩
theorem Run.next(W:Weak lt)(h:Run lt N p n q)(hn:n<N)(e:lt (d7 p n) (d7 p (n-1))=ai):Run lt N (if q > 0 then kas_rev p (n-(q+1)) n else p) (n+1) 0:=by
 have hl:=h.le;have all:∀w,w<n->lt (d7 p n) (d7 p w)=ai:=λw hw=>by
  by_cases c:w=n-1
  ·rw[c];exact e
  ·by_cases d:w<n-(q+1)
   ·exact W.tr _ _ _ e (h.less w (n-1) d ⋯ ⋯)
   ·rcases W.nt _ (d7 p w) _ e with z | z
    ·exact z
    ·rw[(h.same w (n-1) ⋯ ⋯ ⋯).1] at z;cases z
 obtain⟨p',ep,P,T,D,A⟩:=h.done W;rw[ep];have en:d7 p' n=d7 p n:=by rw[T n (br _) hn,h.tl n (br _) hn]
 refine⟨P,T.up ⋯,⋯,hn,by simpa using D,λu v a b c=>by right,λu v a b c=>?_⟩;have:v=n:=⋯;subst this;obtain⟨w,hw,ew⟩:=A u ⋯;rw[en,ew];exact all w hw
theorem Run.more(W:Weak lt)(h:Run lt N p n q)(hn:n<N)(e:lt (d7 p n) (d7 p (n-1))=ao)(d:lt (d7 p (n-1)) (d7 p n)=ao):Run lt N p (n+1) (q+1):=by
 have hl:=h.le;have en:=h.tl n (br _) hn;have sz:n+1-(q+1+1)=n-(q+1):=⋯;refine⟨h.pm,h.tl.up ⋯,⋯,hn,by rw[sz];exact h.dn,λu v a b c=>?_,λu v a b c=>?_⟩
 ·rw[sz] at a;by_cases z:v=n
  ·subst z;have lw:d7 p u<d7 p v:=by rw[en];exact h.tl.below h.pm b ⋯
   by_cases y:u=v-1
   ·subst y;exact⟨d,e,lw⟩
   ·obtain⟨s1,s2,_⟩:=h.same u (v-1) a ⋯ ⋯;refine⟨?_,?_,lw⟩
    ·cases q1:lt (d7 p u) (d7 p v) with
     |false=>rfl
     |true=>
      rcases W.nt _ (d7 p (v-1)) _ q1 with x | x
      ·rw[s1] at x;cases x
      ·rw[d] at x;cases x
    ·cases q1:lt (d7 p v) (d7 p u) with
     |false=>rfl
     |true=>
      rcases W.nt _ (d7 p (v-1)) _ q1 with x | x
      ·rw[e] at x;cases x
      ·rw[s2] at x;cases x
  ·exact h.same u v a b ⋯
 ·rw[sz] at a b;by_cases z:v=n
  ·subst z;rcases W.nt _ (d7 p v) _ (h.less u (v-1) a ⋯ ⋯) with x | x
   ·rw[d] at x;cases x
   ·exact x
  ·exact h.less u v a b ⋯
theorem sG(W:Weak lt){Q:Array Nat×Nat×Nat->Prop}:∀(f:Nat) (p:Array Nat) (n q:Nat),n+f<=N->Run lt N p n q->(∀p' n' q',n<=n'->n'<=n+f->Run lt N p' n' q'->Q (p',n',q'))->ask lt N (kas_desc f p n q) Q
 |0,p,n,q,hn,r,k=>k p n q (br _) (br _) r
 |f+1,p,n,q,hn,r,k=>by
  have hl:=r.le;refine⟨⟨r.pm.ltN ⋯,r.pm.ltN ⋯,r.pm.ne ⋯ ⋯ ⋯⟩,?_⟩;show ask lt N (if lt (d7 p n) (d7 p (n-1))=ai then (if q > 0 then kas_desc f (kas_rev p (n-(q+1)) n) (n+1) 0 else kas_desc f p (n+1) 0)
   else .ask (p.getD (n-1) 0) (p.getD n 0) λd=>if d=ai then .ret (p,n,q) else kas_desc f p (n+1) (q+1)) Q
  cases e:lt (d7 p n) (d7 p (n-1)) with
  |true=>
   rw[Yh rfl];have r':=r.next W ⋯ e;by_cases c:q > 0
   ·rw[Yh c] at r' ⊢;exact sG W f _ (n+1) 0 ⋯ r' λp' n' q' a b c=>k p' n' q' ⋯ ⋯ c
   ·rw[XQ c] at r' ⊢;exact sG W f _ (n+1) 0 ⋯ r' λp' n' q' a b c=>k p' n' q' ⋯ ⋯ c
  |false=>
   rw[XQ (by simp)];refine⟨⟨r.pm.ltN ⋯,r.pm.ltN ⋯,r.pm.ne ⋯ ⋯ ⋯⟩,?_⟩;show ask lt N (if lt (d7 p (n-1)) (d7 p n)=ai then .ret (p,n,q) else kas_desc f p (n+1) (q+1)) Q;cases d:lt (d7 p (n-1)) (d7 p n) with
   |true=>
    rw[Yh rfl];exact k p n q (br _) ⋯ r
   |false=>
    rw[XQ (by simp)];exact sG W f _ (n+1) (q+1) ⋯ (r.more W ⋯ e d) λp' n' q' a b c=>k p' n' q' ⋯ ⋯ c
def Sj(lt:Nat->Nat->Bool)(N:Nat)(r:Nat×Array Nat):Prop:=1<=r.1/\r.1<=N/\Pm N r.2/\Up lt r.2 r.1/\Tl N r.2 r.1
theorem Ao(W:Weak lt)(P:Pm N p)(h1:1<=n)(hn:n<=N)(D:Dn lt p n)(T:Tl N p n)(k:∀r,Sj lt N r->Q r):ask lt N (kas_tail3 n N p) Q:=by
 unfold kas_tail3;have P':=P.rev 0 n;have T':Tl N (kas_rev p 0 n) n:=T.rev P (br _) hn;refine lL _ (AY W P' (N-n) n h1 ⋯ (D.rev (by rw[P.size];exact hn)) T' λm a b c d=>?_);exact k _ ⟨by show 1<=m;right,by show m<=N;right,P',c,T'.up a⟩
theorem BC(W:Weak lt)(P:Pm N p)(h1:1<=n)(hn:n<N)(D:Dn lt p n)(T:Tl N p n)(e:∀w,w<n->lt (d7 p n) (d7 p w)=ai)(k:∀r,Sj lt N r->Q r):ask lt N (kas_descPart n N p) Q:=by
 unfold kas_descPart;have r0:Run lt N p (n+1) 0:=⟨P,T.up ⋯,⋯,hn,by simpa using D,λu v a b c=>by right,λu v a b c=>by
  have:v=n:=⋯;subst this;exact e u ⋯⟩
 refine lL _ (sG W _ p (n+1) 0 ⋯ r0 λp' n' q' a b r=>?_);obtain⟨p2,ep,P2,T2,D2,_⟩:=r.done W;show ask lt N (if q' > 0 then kas_tail3 n' N (kas_rev p' (n'-(q'+1)) n') else kas_tail3 n' N p') Q;by_cases c:q' > 0
 ·rw[Yh c] at ep ⊢;rw[ep];exact Ao W P2 ⋯ ⋯ D2 T2 k
 ·rw[XQ c] at ep ⊢;rw[ep];exact Ao W P2 ⋯ ⋯ D2 T2 k
theorem GH(W:Weak lt)(P:Pm N p)(h1:1<=N)(T:Tl N p 0)(k:∀r,Sj lt N r->Q r):ask lt N (kas_count N p) Q:=by
 unfold kas_count;refine lL _ (AY W P (N-1) 1 (br _) ⋯ (λu v a b=>by right) (T.up ⋯) λm a b c d=>?_);by_cases z:m=N
 ·rw[Yh (by simpa using z)];exact k _ ⟨a,by show m<=N;right,P,c,T.up ⋯⟩
 ·rw[XQ (by simpa using z)];have hm:m<N/\lt (d7 p m) (d7 p (m-1))=ai:=d.resolve_left ⋯;by_cases y:m > 1
  ·rw[Yh y];refine⟨⟨P.ltN ⋯,P.ltN ⋯,P.ne ⋯ ⋯ ⋯⟩,?_⟩;show ask lt N (if lt (d7 p 0) (d7 p (m-1))=ai then .ret (m,p) else kas_descPart m N (kas_rev p 0 m)) Q;cases e:lt (d7 p 0) (d7 p (m-1)) with
   |true=>
    rw[Yh rfl];exact k _ ⟨a,by show m<=N;right,P,c,T.up ⋯⟩
   |false=>
    rw[XQ (by simp)];have hs:m<=p.size:=by rw[P.size];right
    refine BC W (P.rev _ _) a hm.1 (c.rev hs) ((T.up (oj m)).rev P (br _) ⋯) (λw hw=>?_) k;rw[l7 hs,l7 hs,XQ ⋯,Yh ⋯];have m0:lt (d7 p m) (d7 p 0)=ai:=by
     rcases W.nt _ (d7 p 0) _ hm.2 with x | x
     ·exact x
     ·rw[e] at x;cases x
    by_cases w0:0+m-1-w=0
    ·rw[w0];exact m0
    ·rcases W.nt _ (d7 p (0+m-1-w)) _ m0 with x | x
     ·exact x
     ·rw[(c 0 (0+m-1-w) ⋯ ⋯).1] at x;cases x
  ·rw[XQ y];have:m=1:=⋯;subst this;refine BC W P a hm.1 (λu v a b=>by right) (T.up ⋯) (λw hw=>?_) k;have:w=0:=⋯;subst this;exact hm.2
theorem sR(W:Weak lt)(P:Pm N p){k:Nat}(hk:k<N)(U:Up lt p k){Q:Nat->Prop}:∀(f l r:Nat),l<=r->r<=k->r-l<=f->(∀u,u<l->lt (d7 p k) (d7 p u)=ao)->(∀u,r<=u->u<k->lt (d7 p k) (d7 p u)=ai) ->
  (∀l',l'<=k->(∀u,u<l'->lt (d7 p k) (d7 p u)=ao)->(∀u,l'<=u->u<k->lt (d7 p k) (d7 p u)=ai)->Q l')->ask lt N (kas_place p k f l r) Q
 |0,l,r,hl,hr,hf,a,b,g=>by
  have:r=l:=⋯;subst this;exact g r hr a b
 |f+1,l,r,hl,hr,hf,a,b,g=>by
  unfold kas_place;by_cases c:l >= r
  ·rw[Yh c];have:r=l:=⋯;subst this;exact g r hr a b
  ·rw[XQ c];have hm:(l+r) / 2<r:=⋯;have hm2:l<=(l+r) / 2:=⋯;generalize (l+r) / 2=mid at *;refine⟨⟨P.ltN hk,P.ltN ⋯,P.ne hk ⋯ ⋯⟩,?_⟩;show ask lt N (if lt (d7 p k) (d7 p mid)=ai then kas_place p k f l mid else kas_place p k f (mid+1) r) Q;cases e:lt (d7 p k) (d7 p mid) with
   |true=>
    rw[Yh rfl];refine sR W P hk U f l mid hm2 ⋯ ⋯ a (λu h1 h2=>?_) g;by_cases z:u=mid
    ·rw[z];exact e
    ·rcases W.nt _ (d7 p u) _ e with x | x
     ·exact x
     ·rw[(U mid u ⋯ h2).1] at x;cases x
   |false=>
    rw[XQ (by simp)];refine sR W P hk U f (mid+1) r ⋯ hr ⋯ (λu hu=>?_) b g;by_cases z:u=mid
    ·rw[z];exact e
    ·cases q:lt (d7 p k) (d7 p u) with
     |false=>rfl
     |true=>
      rcases W.nt _ (d7 p mid) _ q with x | x
      ·rw[e] at x;cases x
      ·rw[(U u mid ⋯ ⋯).1] at x;cases x
theorem Et(W:Weak lt){Q:Array Nat->Prop}:∀(f:Nat) (p:Array Nat) (k:Nat),k+f=N->Pm N p->Up lt p k->Tl N p k->(∀p',Pm N p'->Up lt p' N->Q p')->ask lt N (kas_bin f p k) Q
 |0,p,k,hk,P,U,T,g=>by
  have:k=N:=⋯;subst this;exact g p P U
 |f+1,p,k,hk,P,U,T,g=>by
  refine lL _ (sR W P ⋯ U k 0 k (oj _) (br _) ⋯ (λu h=>by right) (λu h1 h2=>by right) λl hl a b=>?_);have hs:k<p.size:=by rw[P.size];right
  have e:∀u,d7 (W0 p k (k-l)) u=if u=l then d7 p k else if l<u/\u<=k then d7 p (u-1) else d7 p u:=λu=>by
   rw[Oe hs ⋯ u,show k-(k-l)=l by right]
  refine Et W f _ (k+1) ⋯ (P.bub _ _) (λu v huv hv=>?_) (λi hi hn=>?_) g
  ·have tk:=T k (br _) ⋯;rw[e u,e v];by_cases u1:u=l
   ·rw[Yh u1,XQ ⋯,Yh ⋯];exact Ew.of W (b (v-1) ⋯ ⋯)
   ·rw[XQ u1];by_cases v1:v=l
    ·rw[Yh v1,XQ ⋯];exact⟨a u ⋯,.inr (by rw[tk];exact T.below P ⋯ ⋯)⟩
    ·rw[XQ v1];by_cases u2:l<u
     ·rw[Yh ⋯,Yh ⋯];exact U _ _ ⋯ ⋯
     ·rw[XQ ⋯];by_cases v2:l<v
      ·rw[Yh ⋯];exact U _ _ ⋯ ⋯
      ·rw[XQ ⋯];exact U _ _ ⋯ ⋯
  ·rw[e i,XQ ⋯,XQ ⋯];exact T i ⋯ hn
theorem Go(W:Weak lt)(h1:1<=N){Q:Array Nat->Prop}(k:∀p',Pm N p'->Up lt p' N->Q p'):ask lt N (kas_sort N) Q:=by
 unfold kas_sort;refine lL _ (GH W (Array.Perm.refl _) h1 (λi _ hi=>by simp[d7,yp,hi]) λr g=>?_);obtain⟨a,b,c,d,e⟩:=g;by_cases z:r.1<N
 ·rw[Yh z];have:max r.1 1=r.1:=⋯;rw[this];exact Et W _ r.2 r.1 ⋯ c d e k
 ·rw[XQ z];have:r.1=N:=⋯;rw[this] at d;exact k _ c d
end
end Tim
namespace L2
open PySem PySem.Spec PySem.W PyProof.Rows Tim
abbrev picked(vs:List af)(p:Array Nat):List af:=p.toList.map λi=>vs.getD i gc
structure Cmp(prog:az)(w:bw)(s:ah)(a:ae)(vs:List af)(lt:Nat->Nat->Bool)(κ:rm):Prop where
 wk:Weak lt
 kind:∀(A:dh) (h:dk) (Q:rm->ah->Prop),(∀b o,b≠a->s.heap.get? b=aa o->h.get? b=aa o)->Q κ { s with heap:=h }->bt (bz prog w) A (keyKind' vs.toArray) Q (λ_ _=>False) { s with heap:=h }
 less:∀(A:dh) (h:dk) (i j:Nat) (C:Bool->ah->Prop),(∀b o,b≠a->s.heap.get? b=aa o->h.get? b=aa o)->i<vs.length->j<vs.length->i≠j->C (lt i j) { s with heap:=h } ->
  bt (bz prog w) A (keyLt' κ (vs.getD i gc) (vs.getD j gc)) C (λ_ _=>False) { s with heap:=h }
variable {vs:List af}{κ:rm}
theorem xV(vs:List af):picked vs (U3 (gx vs.length))=vs:=by
 apply qz;intro i;by_cases h:i<vs.length
 ·simp[picked,h]
 ·simp[picked,h]
theorem F9{lt:Nat->Nat->Bool}{P:Fin->ah->Prop}(ho:s.heap.get? a=aa (qo "list" vs.toArray n))(h64:vs.length<64)(c:2<=vs.length->Cmp prog w s a vs lt κ)
  (k:∀p,Pm vs.length p->Up lt p vs.length->P (.done (.ret .none)) { s with heap:=WR s.heap a vs (picked vs p).toArray }):bt (bz prog w) A (su.«list.sort» ⟨[.ref a],[]⟩) P E s:=by
 have la:a<s.heap.objs.size:=bg ho
 let h1:=s.heap.update a (yg λ_=>#[])
 let h2:=h1.push (qo "tuple" vs.toArray 0)
 let h3:=h2.push (qo "list" #[] 0)
 obtain⟨m,g1⟩:∃m,h1.get? a=aa (qo "list" #[] m):=⟨_,Ws ho λ_=>#[]⟩;have sz1:h1.objs.size=s.heap.objs.size:=Tx ..;have keep:∀b o,b≠a->s.heap.get? b=aa o->h3.get? b=aa o:=λb o hb e=>
  ap _ (ap _ ((xg _ _ _ _ hb).trans e))
 have g3:h3.get? a=aa (qo "list" #[] m):=ap _ (ap _ g1);have line:vs.length<=bu:=by rw[kg];right
 have fin:∀p,Pm vs.length p->Up lt p vs.length->bt (bz prog w) A (do
   let touched:=(<- seqEpoch a) != m
   Ty (.ref a) λ_=>(picked vs p).toArray
   if touched then Xk "list.sort.modified";raiseError "ValueError" "list modified during sort"
   ret .none) P E { s with heap:=h3 }:=λp pm up=>by
  have sz:(picked vs p).toArray.size=vs.length:=by simp[picked,pm.size]
  refine ad (UA g3 rfl (ad (Tf g3 rfl ?_ (oj _) (by rw[sz];right))));rw[show (m != m)=ao by simp];exact aj (k p pm up)
 rw[Wt];refine ad (listItems_at ho rfl (ad (Tf ho rfl ?_ (by simpa using line) (oj _))));refine ad (UA g1 rfl (ad (WS (ad (Tg (jd ?_) (oj _))) (by simpa using line))));show bt (bz prog w) A _ P E { s with heap:=h3 };dsimp only;by_cases two:2<=vs.length
 ·have big:¬vs.toArray.size<2:=by simpa using two
  rw[XQ big,XQ big];have cc:=c two;refine ad (gr (cc.kind A h3 (λx s'=>x=κ/\s'={ s with heap:=h3 }) keep ⟨rfl,rfl⟩) (λx s' e=>?_) λ_ _ z=>z.elim);obtain⟨rfl,rfl⟩:=e;have tree:(kas_sort vs.length).kasWp (kas_ask prog w A x vs) (λp s'=>(Pm vs.length p/\Up lt p vs.length)/\s'={ s with heap:=h3 }) { s with heap:=h3 }:=
   Jc (lt:=lt) (N:=vs.length) (λi j C hi hj hn q=>cc.less A h3 i j C keep hi hj hn q) _ (Go cc.wk ⋯ λp a b=>⟨⟨a,b⟩,rfl⟩)
  refine ad (gr (kat_run (E:=E) (Q:=λst' s'=>∃p,(Pm vs.length p/\Up lt p vs.length)/\vf st'=p.map (kas_item (vs.toArray.zip vs.toArray))/\vm st'=au/\s'={ s with heap:=h3 })
   rfl two h64 (λp st' s' _ a b q=>⟨p,q.1,a,b,q.2⟩) tree) (λr s' q=>?_) λ_ _ z=>z)
  obtain⟨⟨⟩,st'⟩:=r;obtain⟨p,⟨pm,up⟩,e1,e2,rfl⟩:=q;dsimp only at e1 e2 ⊢;rw[kat_snds rfl e1,e2];exact fin p pm up
 ·have few:vs.toArray.size<2:=by simp;right
  rw[Yh few,Yh few];refine ad (aj ?_);rw[Wu];refine ad (aj ?_);dsimp only;have e:((vf (yq general' (vs.toArray.zip vs.toArray) #[] 7 au)).map λx=>x.2)=(picked vs (U3 (gx vs.length))).toArray:=by
   rw[xV];apply W1.mp;show ((vs.toArray.zip vs.toArray).map λx=>x.2).toList=_;simp;apply qz;intro i;by_cases hi:i<vs.length
   ·simp[hi]
   ·simp[hi]
  rw[e];exact fin _ (Array.Perm.refl _) λu v h1 h2=>by right
theorem F8{l:ae}{lt:Nat->Nat->Bool}(hl:s.heap.IsList l vs.toArray)(h64:vs.length<64)(c:2<=vs.length->Cmp prog w s s.heap.objs.size vs lt κ)
  (k:∀p,Pm vs.length p->Up lt p vs.length->Q (.ref (s.heap.objs.size+1)) { s with heap:=sortedAll s.heap vs (picked vs p).toArray }):bt (bz prog w) A (call (.builtin "sorted") [.ref l]) Q E s:=by
 have line:vs.length<=bu:=by rw[kg];right
 let h1:=(s.heap.push (qo "list" #[] 0)).update s.heap.objs.size (yg (· ++ vs.toArray))
 let h2:=h1.push (qo "list" vs.toArray 0)
 have sz:h1.objs.size=s.heap.objs.size+1:=(Tx ..).trans (size_push' _ _);have old:∀b o,s.heap.get? b=aa o->h2.get? b=aa o:=λb o e=>
  ap _ ((xg _ _ _ _ (gn (bg e))).trans (ap _ e))
 have mine:h2.get? (s.heap.objs.size+1)=aa (qo "list" vs.toArray 0):=sz ▸ cj h1 rfl;refine yz kind_sorted plain_sorted entry_sorted (args_sorted1 _) ?_;unfold su.«sorted»;refine ad (m:=checkCount "sorted" 1 1 _) (aj (ad (collect_list hl (ad (Tg ?_ line)) line)));show bt _ _ _ _ _ { s with heap:=h2 };rw[show ((s.heap.push (qo "list" #[] 0)).update s.heap.objs.size (yg (· ++ vs.toArray))).objs.size=s.heap.objs.size+1 from sz];refine ad (jd (fz WT ⟨_,mine,rfl⟩ Wv ?_ (WU _)));refine F9 (s:={ s with heap:=h2 }) (lt:=lt) (κ:=κ) mine h64 (λtwo=>?_) λp a b=>⟨_,rfl,aj ⟨_,rfl,k p a b⟩⟩
 ·have cc:=c two;exact⟨cc.wk,λA h Q hk q=>cc.kind A h Q (λb o hb e=>hk b o (λz=>by have y:=bg e;rw[z] at y;exact UB y) (old b o e)) q,
   λA h i j C hk hi hj hn q=>cc.less A h i j C (λb o hb e=>hk b o (λz=>by have y:=bg e;rw[z] at y;exact UB y) (old b o e)) hi hj hn q⟩
def gW:List Int->List Int->Bool
 | [],[]=>ao
 | [],_::_=>ai
 |_::_,[]=>ao
 |a::r,b::t=>if a=b then gW r t else decide (a<b)
theorem Bt:∀a,gW a a=ao
 | []=>rfl
 |a::r=>by rw[gW,Yh rfl];exact Bt r
theorem A2:∀a b c,gW a b=ai->gW b c=ai->gW a c=ai
 | [],[],_,h,_=>by cases h
 | [],_::_,[],_,k=>by cases k
 | [],_::_,_::_,_,_=>rfl
 |_::_,[],_,h,_=>by cases h
 |_::_,_::_,[],_,k=>by cases k
 |a::r,b::t,c::u,h,k=>by
  unfold gW at h k ⊢;by_cases e:a=b
  ·rw[Yh e] at h;subst e;by_cases e2:a=c
   ·rw[Yh e2] at k ⊢;exact A2 r t u h k
   ·rw[XQ e2] at k ⊢;exact k
  ·rw[XQ e] at h;have h1:=of_decide_eq_true h;by_cases e2:b=c
   ·subst e2;rw[XQ e];exact h
   ·rw[XQ e2] at k;have h2:=of_decide_eq_true k;rw[XQ ⋯];exact decide_eq_true ⋯
theorem nX:∀a b,a≠b->gW a b=ai \/ gW b a=ai
 | [],[],h=>absurd rfl h
 | [],_::_,_=>.inl rfl
 |_::_,[],_=>.inr rfl
 |a::r,b::t,h=>by
  unfold gW;by_cases e:a=b
  ·subst e;rw[Yh rfl,Yh rfl];exact nX r t λz=>h (by rw[z])
  ·rw[XQ e,XQ (Ne.symm e)];rcases Vi e with z | z
   ·exact .inl (decide_eq_true z)
   ·exact .inr (decide_eq_true z)
theorem y8(f:Nat->List Int):Weak λi j=>gW (f i) (f j):=by
 refine⟨λa=>Bt _,λa b c=>A2 _ _ _,λa b c h=>?_⟩;by_cases e:f a=f b
 ·exact .inr (by rw[<- e];exact h)
 ·rcases nX _ _ e with z | z
  ·exact .inl z
  ·exact .inr (A2 _ _ _ z h)
section
variable {C:Bool->ah->Prop}{fin:Bool}
theorem vW:∀(ns ms:List Int) (us vs ru rv:List af) (i:Nat),uu us ns->uu vs ms->ns.length=ms.length->ns≠ms->C (gW ns ms) s->KatLex prog w A ai fin C ((us++ru).zip (vs++rv)) i s
 | [],[],_,_,_,_,_,_,_,_,n,_=>absurd rfl n
 | [],_::_,_,_,_,_,_,_,_,l,_,_=>by cases l
 |_::_,[],_,_,_,_,_,_,_,l,_,_=>by cases l
 |a::r,b::t,_,_,ru,rv,i,.cons _ x hu,.cons _ y hv,l,n,q=>by
  unfold gW at q;refine kat_cons (we (kat_go (λe=>kat_yes ?_) λe=>kat_no ?_))
  ·have e':a=b:=by simpa using e
   rw[Yh e'] at q;exact vW r t _ _ ru rv (i+1) hu hv (by simpa using l) (λz=>n (by rw[e',z])) q
  ·have e':¬a=b:=by simpa using e
   rw[XQ e'] at q;by_cases z:i=0
   ·rw[show (ai&&i==0)=ai by simp[z]];exact oneLt_int q
   ·rw[show (ai&&i==0)=ao by simp[z]];exact kat_one _ _ (lt_int q)
end
variable {N:Nat}{p:Array Nat}
abbrev Jn:=ae×List Int×List V
theorem Dw(P:Pm N p)(xs:List α)(hl:xs.length=N)(d:α):(p.toList.map λi=>xs.getD i d).Perm xs:=by
 have e:(gx N).map (λi=>xs.getD i d)=xs:=by
  apply qz;intro i;by_cases h:i<N
  ·simp[h,hl]
  ·simp[h,hl]
 have:=P.list.map λi=>xs.getD i d;rwa[e] at this
theorem tJ{lt:Nat->Nat->Bool}(P:Pm N p)(U:Up lt p N)(xs:List α)(d:α)(Rel:α->α->Prop)(hR:∀i j,i<N->j<N->Ew lt i j->Rel (xs.getD i d) (xs.getD j d)):
  (p.toList.map λi=>xs.getD i d).Pairwise Rel:=by
 rw[iq];rw[da];intro i j hi hj hij;have si:i<p.size:=by simpa using hi
 have sj:j<p.size:=by simpa using hj
 have b:=U i j hij (by rw[<- P.size];exact sj);rw[qY si,qY sj] at b;have:=P.ltN (k:=i) (by rw[<- P.size];exact si);have:=P.ltN (k:=j) (by rw[<- P.size];exact sj);rw[qY si] at *;rw[qY sj] at *;exact hR _ _ (by assumption) (by assumption) b
theorem AR:fM X (.builtin "sorted") (λxs H Q=>∃(p:ae) (its:List Jn) (k:Nat),xs=[.ref p]/\gJ X.K H p (its.map λt=>V.ref t.1)/\its.length<64/\(∀t∈its,pF X.K H t.1 (t.2.1.map V.int++t.2.2)/\t.2.1.length=k+1) /\
  its.Pairwise (λt u=>t.2.1≠u.2.1) /\ ∀its':List Jn,its'.Perm its->its'.Pairwise (λt u=>gW t.2.1 u.2.1=ai) -> ∀l,H l=au->Q (.ref l) (upd H l (.lst (its'.map λt=>V.ref t.1)))):=by
 intro pk s σ H xs us Q I r h;obtain⟨p,its,k,rfl,hl,h64,YF,hd,q⟩:=h;obtain⟨u,rfl,ru⟩:=kF r;cases ru;obtain⟨vs,rv,pl,hz⟩:=I.list hl;have ev:vs=its.map λt=>Value.ref t.1:=by
  clear hl hz h64 YF hd q pl;induction its generalizing vs with
  |nil=>cases rv;rfl
  |cons t r ih=>
   cases rv with
   |cons a b=>rw[cr,<- ih _ b];cases a;rfl
 subst ev;have len:(its.map λt=>Value.ref t.1).length=its.length:=by simp
 let num:Nat->List Int:=λi=>(its.getD i (0,[],[])).2.1
 have get:∀i,i<its.length->(its.map λt=>Value.ref t.1).getD i gc=Value.ref (its.getD i (0,[],[])).1:=λi hi=>by simp[hi]
 have mem:∀i,i<its.length->its.getD i (0,[],[])∈its:=λi hi=>by
  rw[fw,av hi];exact fq hi
 have ne:∀i j,i<its.length->j<its.length->i≠j->num i≠num j:=λi j hi hj n=>by
  have e:∀i,i<its.length->num i=(its[i]!).2.1:=λi hi=>by simp[num,hi]
  have pw:=da.mp hd;have ei:its.getD i (0,[],[])=its[i]:=by simp[hi]
  have ej:its.getD j (0,[],[])=its[j]:=by simp[hj]
  show (its.getD i (0,[],[])).2.1≠(its.getD j (0,[],[])).2.1;rw[ei,ej];rcases ue n with z | z
  ·exact pw i j hi hj z
  ·exact(pw j i hj hi z).symm
 have tup:∀t∈its,∃(o:jv) (a b:List af) (n:Nat),s.heap.get? t.1=aa o/\o.cls=.type "tuple" /\ o.data=.seq (a++b).toArray n/\uu a t.2.1:=λt ht=>by
  obtain⟨z,r',⟨o,ho,hc,n,hd'⟩,_⟩:=I.tuple (YF t ht).1;obtain⟨a,b,rfl,ra,rb⟩:∃a b,z=a++b/\bV (t.2.1.map V.int) a/\bV t.2.2 b:=by
   clear hd' ho hc;generalize t.2.1.map V.int=m at r';induction m generalizing z with
   |nil=>exact⟨[],z,rfl,.nil,r'⟩
   |cons x y ih=>
    cases r' with
    |cons x1 x2=>
     obtain⟨a,b,rfl,ra,rb⟩:=ih _ x2;exact⟨_::a,b,rfl,.cons x1 ra,rb⟩
  exact⟨o,a,b,n,ho,hc,hd',qI ra⟩
 have cmp:2<=(its.map λt=>Value.ref t.1).length->Cmp X.prog X.w s s.heap.objs.size (its.map λt=>Value.ref t.1) (λi j=>gW (num i) (num j)) (tuples' ai):=λtwo=>by
  have far:∀{b o},s.heap.get? b=aa o->b≠s.heap.objs.size:=λe=>gn (bg e);refine⟨y8 num,λA h Q' hk q'=>?_,λA h i j C hk hi hj hn q'=>?_⟩
  ·have go:∀l:List Jn,(∀t∈l,t∈its) -> ∃fs:List af,KatTups h (l.map λt=>Value.ref t.1) fs/\fs.length=l.length /\ ∀v∈fs,∃x y,v=Value.int x y:=by
    intro l;induction l with
    |nil=>intro _;exact⟨[],.nil,rfl,λv hv=>by cases hv⟩
    |cons t r ih=>
     intro hm;obtain⟨fs,kt,e,al⟩:=ih λu hu=>hm u (df _ hu);have ht:=hm t (di ..);obtain⟨o,a,b,n,ho,hc,hd',ia⟩:=tup t ht;obtain⟨x,Yl,ex⟩:∃x Yl,t.2.1=x::Yl:=by
      have:=(YF t ht).2;cases e':t.2.1 with
      |nil=>rw[e'] at this;cases this
      |cons x Yl=>exact⟨x,Yl,rfl⟩
     rw[ex] at ia;cases ia with
     |cons _ y ia'=>
      refine⟨Value.int x y::fs,KatTups.cons (hk _ _ (far ho) ho) hc hd' (by simp) kt,by simp[e],λv hv=>?_⟩;rcases dj.mp hv with rfl | hv
      ·exact⟨x,y,rfl⟩
      ·exact al v hv
   obtain⟨fs,kt,e,al⟩:=go its λ_ h=>h;refine kat_kind (s:={ s with heap:=h }) (T:=.type "int") kt (by rw[e];simp at two;right) (λv hv=>?_) ∅ q';obtain⟨x,y,rfl⟩:=al v hv;exact Looks.of_pure rfl
  ·rw[len] at hi hj;rw[get i hi,get j hj];obtain⟨o,a,b,n,ho,hc,hd',ia⟩:=tup _ (mem i hi);obtain⟨o2,a2,b2,n2,ho2,hc2,hd2,ia2⟩:=tup _ (mem j hj);refine kat_lt (s:={ s with heap:=h }) (hk _ _ (far ho) ho) hd' (hk _ _ (far ho2) ho2) hd2 ?_;exact vW _ _ a a2 b b2 0 ia ia2 (by rw[(YF _ (mem i hi)).2,(YF _ (mem j hj)).2]) (ne i j hi hj hn) q'
 refine F8 (lt:=λi j=>gW (num i) (num j)) (κ:=tuples' ai) pl.isList (by rw[len];exact h64) cmp λp' pm up=>?_;rw[len] at pm up
 let its':=p'.toList.map λi=>its.getD i (0,[],[])
 have perm:its'.Perm its:=Dw pm its rfl _;have pw:its'.Pairwise (λt u=>gW t.2.1 u.2.1=ai):=tJ pm up its _ _ λi j hi hj b=>by
  rcases b.2 with z | z
  ·exact z
  ·rcases nX _ _ (ne i j hi hj (gn z)) with y | y
   ·exact y
   ·have b1:gW (num j) (num i)=ao:=b.1;rw[b1] at y;cases y
 have ep:picked (its.map λt=>Value.ref t.1) p'=its'.map λt=>Value.ref t.1:=by
  unfold picked;rw[ju];apply uc;intro i hi;exact get i (xp.mp (pm.list.mem_iff.mp hi))
 rw[ep];obtain⟨c,at1⟩:=sortedAll_at s.heap (its.map λt=>Value.ref t.1) (its'.map λt=>Value.ref t.1).toArray;have rel:∀l:List Jn,bV (l.map λt=>V.ref t.1) (l.map λt=>Value.ref t.1):=λl=>by
  induction l with
  |nil=>exact .nil
  |cons t r ih=>exact .cons rfl ih
 have hle:(its'.map λt=>V.ref t.1).length<=bu:=by rw[kg,bf,perm.length_eq];right
 exact⟨.ref (s.heap.objs.size+1),_,I.laid (t':=s.toks) (λb o e=>sortedAll_old e) (zf _) (show cI X.prog X.w _ _ _ (.lst _) from⟨hle,_,c,rel its',at1⟩),rfl,q its' perm pw _ (I.hok.fresh (zf _))⟩
theorem AS:fM X (.builtin "sorted") (λxs H Q=>∃(p:ae) (ns:List Int),xs=[.ref p]/\gJ X.K H p (ns.map V.int)/\ns.length<64 /\ ∀ms:List Int,ms.Perm ns->ms.Pairwise (· <= ·) -> ∀l,H l=au->Q (.ref l) (upd H l (.lst (ms.map V.int)))):=by
 intro pk s σ H xs us Q I r h;obtain⟨p,ns,rfl,hl,h64,q⟩:=h;obtain⟨u,rfl,ru⟩:=kF r;cases ru;obtain⟨vs,rv,pl,hz⟩:=I.list hl;have ia:=qI rv;refine sorted_ints pl.isList ia (by rw[ia.length];exact h64) λout ms hi hp hs=>?_;obtain⟨c,at1⟩:=sortedAll_at s.heap vs out;have back:∀{us:List af} {ns:List Int},uu us ns->bV (ns.map V.int) us:=λh=>by
  induction h with
  |nil=>exact .nil
  |cons a t _ ih=>exact .cons ⟨t,rfl⟩ ih
 have ea:out.toList.toArray=out:=by cases out;rfl
 have hle:(ms.map V.int).length<=bu:=by rw[kg,bf,hp.length_eq];right
 exact⟨.ref (s.heap.objs.size+1),_,I.laid (t':=s.toks) (λb o e=>sortedAll_old e) (zf _) (show cI X.prog X.w _ _ _ (.lst _) from⟨hle,out.toList,c,back hi,by rw[ea];exact at1⟩),rfl,q ms hp hs _ (I.hok.fresh (zf _))⟩
end L2
namespace Z
open L2
section
variable {pos:lv}
def Oq:dB:=λ_ Q=>Q (.nw (.dit []))
theorem zH:QE X (.Dict [] [] pos) Oq:=
 ⟨λρ Q Q' w q=>w _ q,λHZ F=>cU HR λσ H Q ⟨ρ,fr,q⟩ p hp=>q _ _ (aO.new' hp) ⟨p,rfl,hp,0,[],bT,.nil⟩⟩
def B8(kvs:List (List bW×Dv))(k:List bW)(d:Dv):List (List bW×Dv):=
 if kvs.any (λkv=>decide (kv.1=k)) then kvs.map (λkv=>if kv.1=k then (kv.1,d) else kv) else kvs++[(k,d)]
theorem RepT.any{K:ak}{M:ae->Prop}{H:Hp}{k:List bW}{xs:List (List bW×V)}{ds:List (List bW×Dv)}(r:RepT K M H xs ds):xs.any (λkv=>decide (kv.1=k))=ds.any (λkv=>decide (kv.1=k)):=
 r.ind (P:=λxs ds=>xs.any (λkv=>decide (kv.1=k))=ds.any (λkv=>decide (kv.1=k))) rfl λ_ _ _ _ _ _ _ ih=>by rw[tw,tw,ih]
theorem RepT.len(r:RepT K M H xs ds):xs.length=ds.length:=r.ind (P:=λxs ds=>xs.length=ds.length) rfl λ_ _ _ _ _ _ _ ih=>congrArg (· + 1) ih
theorem RepT.snoc{k:List bW}{x:V}{d:Dv}(a:Rep K M H x d)(r:RepT K M H xs ds):RepT K M H (xs++[(k,x)]) (ds++[(k,d)]):=
 r.ind (P:=λxs ds=>RepT K M H (xs++[(k,x)]) (ds++[(k,d)])) (.cons a .nil) λ_ _ _ _ _ b _ ih=>.cons b ih
theorem RepT.repl{k:List bW}{x:V}{d:Dv}(a:Rep K M H x d)(r:RepT K M H xs ds):
  RepT K M H (xs.map λkv=>if kv.1=k then (kv.1,x) else kv) (ds.map λkv=>if kv.1=k then (kv.1,d) else kv):=
 r.ind (P:=λxs ds=>RepT K M H (xs.map λkv=>if kv.1=k then (kv.1,x) else kv) (ds.map λkv=>if kv.1=k then (kv.1,d) else kv)) .nil λk' _ _ _ _ b _ ih=>by
  rw[cr,cr];by_cases e:k'=k
  ·rw[Yh e,Yh e];exact .cons a ih
  ·rw[XQ e,XQ e];exact .cons b ih
theorem RepT.put{k:List bW}{x:V}{d:Dv}(r:RepT K M H xs ds)(a:Rep K M H x d):RepT K M H (rP xs k x) (B8 ds k d):=by
 unfold rP B8;rw[r.any (k:=k)];split
 ·exact r.repl a
 ·exact r.snoc a
def wU(i:Nat)(tk tv:dB):cE:=λE ρ=>match ρ[i]? with
 |some (.own a (.dit kvs))=>tv ρ λr=>tk ρ λkk=>∃k:List bW,kk.d=.tup (k.map kD)/\(r.free=ai/\kvs.length<Ac)/\E.nx (ρ.set i (.own a (.dit (B8 kvs k r.d))))
 |_=>False
theorem B6{x:bv}{p1 p2:lv}{k:Expr}{tk:dB}(hu:X.A.units+1<jy)(hv:PE X (.Name x p1) (z7 i))(hk:QE X k tk)(he:QE X e te)
  (hs:iu e (aa (.Subscript (.Name x p1) k p2)) pos.line X.env=jw ao:=by rfl):QS X (.Assign [.Subscript (.Name x p1) k p2] e pos) (wU i tk te):=by
 refine⟨λE E' ρ w h=>?_,λHZ F=>dQ (Ka hu hv (hk.run HZ F) (he.run HZ F) hs) λD σ H ⟨ρ,E,fr,h,en⟩=>?_⟩
 ·unfold wU at *;split at h
  ·exact he.mono _ _ _ (λr q=>hk.mono _ _ _ (λkk ⟨k,a,b,c⟩=>⟨k,a,b,w.nx _ c⟩) q) h
  ·exact h
 ·unfold wU at h;split at h
  ·rename_i a kvs hx;refine he.step fr h λr y H1 q S1 r1=>?_;have fr1:=fr.mono S1;obtain⟨hs1,ep,vs,hv1,rv1⟩:=fr1.sl i _ hx;refine⟨_,hs1,hk.step fr1 q λkk z H2 q S2 rk=>?_⟩;obtain⟨ks,ek,⟨qf,ql⟩,q2⟩:=q;have ck:=rk.c;rw[ek] at ck;obtain⟨b,zs,rfl,eb,rb⟩:=ck.tup;have ez:zs=ks.map kV:=rb.keys;have rep:=(r1.rep (λa m=>fr.dom m) qf).mono S2;have hv2:=S2 _ _ hv1;refine⟨a,rfl,Jk.t hv2 (ez ▸ eb) (by rw[rv1.len];exact vV ql) λep2=>?_⟩;refine en.nx _ _ _ ((fr1.mono S2).write (d':=.dit (B8 kvs ks r.d)) hx ⟨_,_,bT,?_⟩) q2;have G:Gen X.K (MM F ρ) (MM F ρ) H2 (upd H2 a (.dT ep2 (rP vs ks y))):=Gen.write (.inr ⟨_,fe hx⟩) (by rw[hv2];trivial);exact((rv1.gen (.mono S2)).put rep).gen G
  ·exact h.elim
def Gr(i:Nat):cE:=λE ρ=>match ρ[i]? with
 |some (.own a (.lst _))=>E.nx (ρ.set i (.own a (.lst [])))
 |_=>False
def Av(i:Nat):cE:=λE ρ=>match ρ[i]? with
 |some (.own a (.lst xs))=>E.nx (ρ.set i (.own a (.lst xs.reverse)))
 |_=>False
abbrev tI(t:List Int×List Dv):Dv:=.tup (t.1.map .int++t.2)
def iQ:List Dv->(R->Prop)->Prop
 | [.lst xs],Q=>(∃ns:List Int,xs=ns.map .int/\ns.length<64 /\ ∀ms:List Int,ms.Perm ns->ms.Pairwise (· <= ·)->Q (.nw (.lst (ms.map .int)))) \/
  ∃(ts:List (List Int×List Dv)) (k:Nat),xs=ts.map tI/\ts.length<64/\(∀t∈ts,t.1.length=k+1)/\ts.Pairwise (λt u=>t.1≠u.1) /\ ∀ts':List (List Int×List Dv),ts'.Perm ts->ts'.Pairwise (λt u=>gW t.1 u.1=ai)->Q (.nw (.lst (ts'.map tI)))
 |_,_=>False
theorem Reps.fore{K:ak}{M:ae->Prop}{H:Hp}:∀{ns:List Int} {xs:List V} {ds:List Dv},Reps K M H xs (ns.map .int++ds) -> ∃ys,xs=ns.map V.int++ys/\Reps K M H ys ds
 | [],xs,ds,r=>⟨xs,rfl,r⟩
 |n::ns,_,ds,.cons a r=>by
  obtain⟨ys,e,r'⟩:=Reps.fore (ns:=ns) r;cases a;exact⟨ys,by rw[e];rfl,r'⟩
theorem oW{β:Type}{f:α->β}{zs ws:List β}(hp:zs.Perm ws):∀{its:List α},its.map f=ws -> ∃jts:List α,jts.Perm its/\zs=jts.map f:=by
 induction hp with
 |nil=>intro its hz;exact⟨its,.refl _,hz.symm⟩
 |cons x p ih=>
  intro its hz;cases its with
  |nil=>cases hz
  |cons t r=>
   rw[cr] at hz;injection hz with h1 h2;obtain⟨j,hj,e⟩:=ih h2;exact⟨t::j,hj.cons t,by rw[cr,h1,e]⟩
 |swap x y l=>
  intro its hz
  match its,hz with
  |t::u::r,hz=>
   simp only[cr,ww] at hz;obtain⟨h1,h2,h3⟩:=hz;exact⟨u::t::r,.swap _ _ _,by simp only[cr,h1,h2,h3]⟩
 |trans p1 p2 ih1 ih2=>
  intro its hz;obtain⟨j,hj,e⟩:=ih2 hz;obtain⟨j2,hj2,e2⟩:=ih1 e.symm;exact⟨j2,hj2.trans hj,e2⟩
theorem p8:oO X (.builtin "sorted") iQ:=by
 refine⟨λds Q Q' w h=>?_,_,AS.or AR,λM O H xs ds Q c h=>?_⟩
 ·unfold iQ at *;split at h
  ·rcases h with⟨ns,a,b,q⟩ | ⟨ts,k,a,b,c,d,q⟩
   ·exact .inl ⟨ns,a,b,λms x y=>w _ (q ms x y)⟩
   ·exact .inr ⟨ts,k,a,b,c,d,λts' x y=>w _ (q ts' x y)⟩
  ·exact h
 ·unfold iQ at h;split at h
  ·obtain⟨x,rfl,cx⟩:=eQ c;obtain⟨a,ys,rfl,ea,ra⟩:=cx.lst;rcases h with⟨ns,rfl,hl,q⟩ | ⟨ts,k,rfl,hl,hk,hd,q⟩
   ·have ey:ys=ns.map V.int:=by
     have ra':Reps X.K M H ys (ns.map .int++[]):=by simpa using ra
     obtain⟨zs,e,r'⟩:=ra'.fore;cases r';simpa using e
    subst ey;exact .inl ⟨a,ns,rfl,gJ.of ea,hl,λms hp hs l hl=>q ms hp hs _ _ (aO.new' hl) (k6 hl (Reps.ints _))⟩
   ·-- what each item is,by its place
    have go:∀{ys:List V} {ts:List (List Int×List Dv)},Reps X.K M H ys (ts.map tI) -> ∃its:List (Jn×List Dv),ys=its.map (λt=>V.ref t.1.1)/\ts=its.map (λt=>(t.1.2.1,t.2)) /\
      ∀t∈its,H t.1.1=aa (.tup (t.1.2.1.map V.int++t.1.2.2))/\Reps X.K M H t.1.2.2 t.2:=by
     intro ys ts r;induction ts generalizing ys with
     |nil=>cases r;exact⟨[],rfl,rfl,λt ht=>by cases ht⟩
     |cons t ts ih=>
      cases r with
      |cons u r=>
       obtain⟨its,e1,e2,e3⟩:=ih r;cases u with
       |tup hb rb=>
        obtain⟨zs,e,rz⟩:=rb.fore;subst e;refine⟨((_,t.1,zs),t.2)::its,by rw[e1];rfl,by rw[e2];rfl,λy hy=>?_⟩;rcases dj.mp hy with rfl | hy
        ·exact⟨hb,rz⟩
        ·exact e3 y hy
    obtain⟨its,rfl,rfl,al⟩:=go ra;refine .inr ⟨a,its.map (·.1),k,rfl,by rw[ju];exact gJ.of ea,by simpa using hl,λt ht=>?_,?_,λits' hp hs l hl=>?_⟩
    ·obtain⟨u,hu,rfl⟩:=jg.mp ht;exact⟨pF.of (al u hu).1,hk _ (jg.mpr ⟨u,hu,rfl⟩)⟩
    ·rw[iq] at hd ⊢;exact hd
    ·-- bring the plain parts along
     obtain⟨jts,hj,rfl⟩:=oW hp rfl;have rr:∀jts:List (Jn×List Dv),(∀t∈jts,t∈its)->Reps X.K M H (jts.map λt=>V.ref t.1.1) ((jts.map λt=>(t.1.2.1,t.2)).map tI):=by
      intro jts;induction jts with
      |nil=>intro _;exact .nil
      |cons t r ih=>
       intro hm;have ht:=al t (hm t (di ..));have one:Reps X.K M H (t.1.2.1.map V.int++t.1.2.2) (t.1.2.1.map .int++t.2):=(Reps.ints _).append ht.2;exact .cons (.tup ht.1 one) (ih λu hu=>hm u (df _ hu))
     rw[ju];show Q _ (upd H l (.lst (jts.map λt=>V.ref t.1.1)));refine q (jts.map λt=>(t.1.2.1,t.2)) (hj.map _) ?_ _ _ (aO.new' hl) (k6 hl (rr jts λt ht=>hj.mem_iff.mp ht));rw[iq] at hs ⊢;exact hs
  ·exact h.elim
end
theorem ER{i j:Int}{Q:R->Prop}:(dD (.int i) (.int j) Q)=(Q (.v (.int (i+j)))):=rfl
theorem E4{i j:Int}{Q:R->Prop}:(lC (.int i) (.int j) Q)=(Q (.v (.int (i-j)))):=rfl
theorem EE{i j:Int}{Q:R->Prop}:(gK (.int i) (.int j) Q)=(tY i j/\Q (.v (.int (i*j)))):=rfl
theorem EN{i j:Int}{Q:R->Prop}:(n5 (.int i) (.int j) Q)=((0<j/\j<2 ^ 200)/\Q (.v (.int (i / j)))):=rfl
theorem BW{i j:Int}{Q:R->Prop}:(rW (.int i) (.int j) Q)=((j≠0/\j.natAbs<2 ^ 4000)/\Q (.v (.int (i.fdiv j)))):=rfl
theorem EF{i j:Int}{Q:R->Prop}:(hW (.int i) (.int j) Q)=(0<j/\Q (.v (.int (i % j)))):=rfl
theorem BP{i j:Int}{Q:R->Prop}:(Q6 (.int i) (.int j) Q)=(j≠0/\Q (.v (.int (i.fmod j)))):=rfl
theorem E6{i j:Int}{Q:R->Prop}:(Rx (.int i) (.int j) Q)=(Jl i j/\Q (.v (.int (i ^ j.toNat)))):=rfl
theorem EQ{xs ys:List Dv}{Q:R->Prop}:(dD (.lst xs) (.lst ys) Q)=((xs.length+ys.length<=Ac/\Q (.nw (.lst (xs++ys))))):=rfl
theorem EO{x y:bv}{Q:R->Prop}:(dD (.str x) (.str y) Q)=((x.length+y.length<=Ac/\Q (.v (.str (x++y))))):=rfl
theorem ED{xs:List Dv}{k:Int}{Q:R->Prop}:(gK (.lst xs) (.int k) Q)=(((-(2 ^ 63)<=k/\k<2 ^ 63/\xs.length*k.toNat<=Ac)/\Q (.nw (.lst (ay k.toNat xs).flatten)))):=rfl
theorem Hs{f:Int->Int->Bool}{i j:Int}{Q:R->Prop}:(zP f (.int i) (.int j) Q)=(Q (.v (.bl (f i j)))):=rfl
theorem Ho{d:Dv}{Q:R->Prop}:(Ry d .non Q)=(Q (.v (.bl (isN d)))):=rfl
theorem E7{d:Dv}{Q:R->Prop}:(Q4 d .non Q)=(Q (.v (.bl (!isN d)))):=rfl
theorem Hq{d:Dv}{b:Bool}{Q:R->Prop}:(Rz d (.bl b) Q)=(Q (.v (.bl (isB b d)))):=rfl
theorem E8{d:Dv}{b:Bool}{Q:R->Prop}:(Q5 d (.bl b) Q)=(Q (.v (.bl (!isB b d)))):=rfl
theorem Ht{i j:Int}{Q:R->Prop}:(sI (.int i) (.int j) Q)=(Q (.v (.bl (decide (i=j))))):=rfl
theorem Hf{i j:Int}{Q:R->Prop}:(xZ (.int i) (.int j) Q)=(Q (.v (.bl (!decide (i=j))))):=rfl
theorem Hu{x:Bool}{d:Dv}{Q:R->Prop}:(sI (.bl x) d Q)=(((dR 8 (.bl x)=ai/\dR 8 d=ai)/\Q (.v (.bl (eqD (.bl x) d))))):=rfl
theorem Hh{x:Bool}{d:Dv}{Q:R->Prop}:(xZ (.bl x) d Q)=(((dR 8 (.bl x)=ai/\dR 8 d=ai)/\Q (.v (.bl (!eqD (.bl x) d))))):=rfl
theorem EJ{x:List Dv}{d:Dv}{Q:R->Prop}:(sI (.tup x) d Q)=(((dR 8 (.tup x)=ai/\dR 8 d=ai)/\Q (.v (.bl (eqD (.tup x) d))))):=rfl
theorem E9{x:List Dv}{d:Dv}{Q:R->Prop}:(xZ (.tup x) d Q)=(((dR 8 (.tup x)=ai/\dR 8 d=ai)/\Q (.v (.bl (!eqD (.tup x) d))))):=rfl
theorem EM{x:List Dv}{d:Dv}{Q:R->Prop}:(sI (.lst x) d Q)=(((dR 8 (.lst x)=ai/\dR 8 d=ai)/\Q (.v (.bl (eqD (.lst x) d))))):=rfl
theorem EC{x:List Dv}{d:Dv}{Q:R->Prop}:(xZ (.lst x) d Q)=(((dR 8 (.lst x)=ai/\dR 8 d=ai)/\Q (.v (.bl (!eqD (.lst x) d))))):=rfl
theorem EK{x:bv}{d:Dv}{Q:R->Prop}:(sI (.str x) d Q)=(((dR 8 (.str x)=ai/\dR 8 d=ai)/\Q (.v (.bl (eqD (.str x) d))))):=rfl
theorem EA{x:bv}{d:Dv}{Q:R->Prop}:(xZ (.str x) d Q)=(((dR 8 (.str x)=ai/\dR 8 d=ai)/\Q (.v (.bl (!eqD (.str x) d))))):=rfl
theorem EL{x:List Int}{d:Dv}{Q:R->Prop}:(sI (.scr x) d Q)=(((dR 8 (.scr x)=ai/\dR 8 d=ai)/\Q (.v (.bl (eqD (.scr x) d))))):=rfl
theorem EB{x:List Int}{d:Dv}{Q:R->Prop}:(xZ (.scr x) d Q)=(((dR 8 (.scr x)=ai/\dR 8 d=ai)/\Q (.v (.bl (!eqD (.scr x) d))))):=rfl
theorem MJ{xs:List Dv}{i:Int}{Q:R->Prop}:(cR (.lst xs) (.int i) Q)=((match qZ xs i with | some d=>Q (.v d) | none=>False)):=rfl
theorem MH{xs:List Dv}{i:Int}{Q:R->Prop}:(cR (.tup xs) (.int i) Q)=((match qZ xs i with | some d=>Q (.v d) | none=>False)):=rfl
theorem MI{ns:List Int}{i:Int}{Q:R->Prop}:(cR (.scr ns) (.int i) Q)=((match qZ ns i with | some n=>Q (.v (.int n)) | none=>False)):=rfl
theorem ME{xs:List Dv}{lo hi:Option Int}{Q:R->Prop}:(MG (.lst xs) lo hi Q)=(Q (.nw (.lst (cut xs lo hi)))):=rfl
theorem MD{ns:List Int}{lo hi:Option Int}{Q:R->Prop}:(MG (.scr ns) lo hi Q)=(Q (.nw (.lst ((cut ns lo hi).map .int)))):=rfl
theorem MC{xs:List Dv}{lo hi:Option Int}{Q:R->Prop}:(MG (.tup xs) lo hi Q)=((¬(HT.hV xs.length 0 lo=0/\HT.hV xs.length xs.length hi=xs.length)/\Q (.v (.tup (cut xs lo hi))))):=rfl
theorem Hm{xs:List Dv}{Q:R->Prop}:(d5 [(.lst xs)] Q)=(Q (.v (.int xs.length))):=rfl
theorem Hk{xs:List Dv}{Q:R->Prop}:(d5 [(.tup xs)] Q)=(Q (.v (.int xs.length))):=rfl
theorem Hl{ns:List Int}{Q:R->Prop}:(d5 [.scr ns] Q)=(Q (.v (.int ns.length))):=rfl
theorem Hx{i:Int}{Q:R->Prop}:(FX [.int i] Q)=(Q (.v (.int (if i<0 then -i else i)))):=rfl
theorem Hi{i j:Int}{Q:R->Prop}:(vO [.int i,.int j] Q)=(Q (.v (.int (if j<i then j else i)))):=rfl
theorem Hj{i j:Int}{Q:R->Prop}:(Q7 [.int i,.int j] Q)=(Q (.v (.int (if j > i then j else i)))):=rfl
theorem BN{xs:List Dv}{Q:R->Prop}:(k4 [.lst xs] Q)=(Q (.v (.tup xs))):=rfl
theorem BM{xs:List Dv}{Q:R->Prop}:(k4 [.tup xs] Q)=(Q (.v (.tup xs))):=rfl
theorem EH{xs:List Dv}{Q:R->Prop}:(rV [.lst xs] Q)=(Q (.nw (.lst xs))):=rfl
theorem EG{xs:List Dv}{Q:R->Prop}:(rV [.tup xs] Q)=(Q (.nw (.lst xs))):=rfl
theorem Hv{ds:List Dv}{Q:R->Prop}:(Hw [.lst ds] Q)=((∃bs:List Bool,ds=bs.map .bl/\Q (.v (.bl (bs.all _root_.id))))):=rfl
theorem Ha{ds:List Dv}{Q:R->Prop}:(Hb [.lst ds] Q)=((∃ns:List Int,ds=ns.map .int/\Q (.v (.int ns.sum)))):=rfl
theorem RG{d:Dv}:(R.d (.v d))=(d):=rfl
theorem RI{d:Dv}:(R.d (.nw d))=(d):=rfl
theorem RH{a:ae}{d:Dv}:(R.d (.ow a d))=(d):=rfl
theorem R7{d:Dv}:(R.out (.v d))=(.v d):=rfl
theorem R9{d:Dv}:(R.out (.nw d))=(.nw d):=rfl
theorem R8{a:ae}{d:Dv}:(R.out (.ow a d))=(.nw d):=rfl
theorem RD{d:Dv}:(R.free (.v d))=(ai):=rfl
theorem RF{d:Dv}:(R.free (.nw d))=(ai):=rfl
theorem RE{a:ae}{d:Dv}:(R.free (.ow a d))=(ao):=rfl
theorem RA{d:Dv}:(R.flat (.v d))=(kM d):=rfl
theorem RC{d:Dv}:(R.flat (.nw d))=(JH d):=rfl
theorem RB{a:ae}{d:Dv}:(R.flat (.ow a d))=(ao):=rfl
theorem JJ{a b:Bool}:(eqD (.bl a) (.bl b))=((a==b)):=by cases a<;>cases b<;>simp[eqD,gO,ja]
theorem fT{ρ0:List Sl}{g:AZ}{tt:n6}{te:dB}{acc:List Dv}{Q:R->Prop}:(e9 ρ0 g tt te [] acc Q)=(Q (.nw (.lst acc))):=rfl
theorem tW{ρ0:List Sl}{g:AZ}{tt:n6}{te:dB}{d:Dv}{r acc:List Dv}{Q:R->Prop}:(e9 ρ0 g tt te (d::r) acc Q)=((g d ρ0 λρ1=>tt ρ1 λb=>if b=ai then te ρ1 λv=>(v.free=ai/\acc.length<Ac)/\e9 ρ0 g tt te r (acc++[v.d]) Q else e9 ρ0 g tt te r acc Q)):=rfl
theorem kQ{xs:List α}{i:Int}(h0:0<=i)(h1:i<xs.length):qZ xs i=xs[i.toNat]?:=by
 unfold qZ uI;rw[Yh h0,Yh h1];rfl
theorem Mj{α:Type}{x:α}{r:List α}:qZ (x::r) 0=aa x:=by rw[kQ ∅ (by simp<;>right)];rfl
theorem Mi{α:Type}{x y:α}{r:List α}:qZ (x::y::r) 1=aa y:=by rw[kQ ∅ (by simp<;>right)];rfl
theorem Mh{α:Type}{x y z:α}{r:List α}:qZ (x::y::z::r) 2=aa z:=by rw[kQ ∅ (by simp<;>right)];rfl
theorem Mf{α:Type}{x y z w:α}{r:List α}:qZ (x::y::z::w::r) 3=aa w:=by rw[kQ ∅ (by simp<;>right)];rfl
theorem Me{α:Type}{x y z w v:α}{r:List α}:qZ (x::y::z::w::v::r) 4=aa v:=by rw[kQ ∅ (by simp<;>right)];rfl
theorem J5{b c:Bool}:isB b (.bl c)=(c==b):=rfl
theorem Eb{b:Bool}{i:Int}:isB b (.int i)=ao:=rfl
theorem MR:isN .non=ai:=rfl
theorem MU{b:Bool}:isN (.bl b)=ao:=rfl
theorem MT{i:Int}:isN (.int i)=ao:=rfl
theorem MP{i:bv}:isN (.str i)=ao:=rfl
theorem MO{i:List Dv}:isN (.tup i)=ao:=rfl
theorem MS{i:List Dv}:isN (.lst i)=ao:=rfl
theorem MQ{C:ae}{i:List (bv×Dv)}:isN (.obj C i)=ao:=rfl
theorem Gd{b:Bool}:pG (.bl b)=aa b:=rfl
theorem GZ:pG .non=aa ao:=rfl
theorem Gc{i:Int}:pG (.int i)=aa (i != 0):=rfl
theorem Ga{xs:List Dv}:pG (.lst xs)=aa (!xs.isEmpty):=rfl
theorem GX{xs:List Dv}:pG (.tup xs)=aa (!xs.isEmpty):=rfl
theorem Gb{xs:List (bW×Dv)}:pG (.dik xs)=aa (!xs.isEmpty):=rfl
theorem GY{xs:List Int}:pG (.scr xs)=aa (!xs.isEmpty):=rfl
theorem Iy:uI 1 0=aa 0:=rfl
theorem Ix:uI 2 0=aa 0:=rfl
theorem Iw:uI 2 1=aa 1:=rfl
theorem Iv:uI 3 0=aa 0:=rfl
theorem Iu:uI 3 1=aa 1:=rfl
theorem Is:uI 3 2=aa 2:=rfl
theorem Ir:uI 4 0=aa 0:=rfl
theorem Iq:uI 4 1=aa 1:=rfl
theorem Ip:uI 4 2=aa 2:=rfl
theorem Io:uI 4 3=aa 3:=rfl
theorem Im:uI 5 0=aa 0:=rfl
theorem Il:uI 5 1=aa 1:=rfl
theorem Ik:uI 5 2=aa 2:=rfl
theorem Ij:uI 5 3=aa 3:=rfl
theorem Ii:uI 5 4=aa 4:=rfl
variable {lo:Int}
theorem bK:aW lo 0=[]:=rfl
theorem b6:aW lo (n+1)=.int lo::aW (lo+1) n:=by
 unfold aW;rw[List.range_succ_eq_map,cr,ju];congr 1
 ·simp
 ·apply uc;intro k _;show Dv.int _=Dv.int _;congr 1;show lo+((k+1:Nat):Int)=lo+1+k;right
theorem BU{i j:Int}{Q:R->Prop}:(BV (.int i) (.int j) Q)=(Q (.v (.int (i+j)))):=rfl
theorem BR{i j:Int}{Q:R->Prop}:(Q9 (.int i) (.int j) Q)=(Q (.v (.int (i-j)))):=rfl
theorem BS{i j:Int}{Q:R->Prop}:(QB (.int i) (.int j) Q)=(tY i j/\Q (.v (.int (i*j)))):=rfl
theorem CI{xs:List α}{k:Int}(h0:0<=k):cut xs (aa k) au=xs.drop k.toNat:=by
 unfold cut;have e:HT.hV xs.length 0 (aa k)=min k.toNat xs.length:=by show (if k<0 then _ else _)=_;rw[XQ ⋯]
 rw[e,HT.Ay];rcases Xw k.toNat xs.length with h | h
 ·rw[pq h];exact ph (by rw[Uw];exact br _)
 ·rw[W2 h,U4 (br _),U4 h,List.take_nil]
theorem DY{xs:List α}{k:Int}(h0:0<=k):cut xs au (aa k)=xs.take k.toNat:=by
 unfold cut;have e:HT.hV xs.length xs.length (aa k)=min k.toNat xs.length:=by show (if k<0 then _ else _)=_;rw[XQ ⋯]
 rw[e,HT.Ay,List.drop_zero,Nat.sub_zero];rcases Xw k.toNat xs.length with h | h
 ·rw[pq h]
 ·rw[W2 h,ph (br _),ph h]
theorem Ar{a:ae}{N:List bv}{d:Dv}{ds:List Dv}:N3 a N (d::ds)=.own a d::(ds.map .v++ay (N.length-(ds.length+1)) .un):=rfl
theorem E5{i j:Int}{Q:R->Prop}:(He (.int i) (.int j) Q)=(Jl i j/\Q (.v (.int (i*2 ^ j.toNat)))):=rfl
variable {Q:R->Prop}
theorem xY(h:ns.length<64)(q:∀ms:List Int,ms.Perm ns->ms.Pairwise (· <= ·)->Q (.nw (.lst (ms.map .int)))):iQ [.lst (ns.map .int)] Q:=.inl ⟨ns,rfl,h,q⟩
theorem xX{ts:List (List Int×List Dv)}{k:Nat}(h:ts.length<64)(hk:∀t∈ts,t.1.length=k+1)(hd:ts.Pairwise (λt u=>t.1≠u.1))
  (q:∀ts':List (List Int×List Dv),ts'.Perm ts->ts'.Pairwise (λt u=>gW t.1 u.1=ai)->Q (.nw (.lst (ts'.map tI)))):iQ [.lst (ts.map tI)] Q:=.inr ⟨ts,k,rfl,h,hk,hd,q⟩
theorem Ih:∀{a b:List bW},a.map kD=b.map kD->a=b
 | [],[],_=>rfl
 | [],_::_,h=>by cases h
 |_::_,[],h=>by cases h
 |a::r,b::t,h=>by
  rw[cr,cr] at h;injection h with h1 h2;have e:a=b:=by cases a<;>cases b<;>first | (injection h1 with h1;rw[h1]) | cases h1
  rw[e,Ih h2]
theorem Hn{kvs:List (List bW×Dv)}{a b:Int}{Q:R->Prop}:(cR (.dit kvs) (.tup [.int a,.int b]) Q)=(match kvs.find? (λkv=>decide (kv.1=[iw a,iw b])) with | some kv=>Q (.v kv.2) | none=>False):=by
 apply propext;constructor
 ·rintro⟨k,e,h⟩;have:k=[iw a,iw b]:=Ih (e.symm.trans rfl);subst this;exact h
 ·exact λh=>⟨[iw a,iw b],rfl,h⟩
theorem zc:(type_of% @beq_self_eq_true.{0})/\(type_of% @jt.{0})/\(type_of% @mf.{0})/\(type_of% @yr.{0})/\(type_of% @Vj.{0})/\(type_of% @cr.{0,0})/\(type_of% @wp.{0,0})/\(type_of% @jb.{0})/\(type_of% @gp.{0})/\(type_of% @gv.{0})/\(type_of% @cg.{0})/\(type_of% @uy.{0})/\(type_of% @kf.{0})/\(type_of% @UX.{0})/\(type_of% @VD.{0})/\(type_of% @Xx.{0})/\(type_of% @US.{0})/\(type_of% @X7)/\(type_of% @sk)/\(type_of% @if_true.{1})/\(type_of% @dq)/\(type_of% @if_false.{1})/\(type_of% @true_and)/\(type_of% @and_true)/\(type_of% @true_or)/\(type_of% @decide_eq_true_eq)/\(type_of% @decide_true)/\(type_of% @decide_false)/\(type_of% @ur)/\(type_of% @UC)/\(type_of% @pf.{0})/\(type_of% @false_imp_iff)/\(type_of% @implies_true.{1}):=
 ⟨@beq_self_eq_true.{0},@jt.{0},@mf.{0},@yr.{0},@Vj.{0},@cr.{0,0},@wp.{0,0},@jb.{0},@gp.{0},@gv.{0},@cg.{0},@uy.{0},@kf.{0},@UX.{0},@VD.{0},@Xx.{0},@US.{0},@X7,@sk,@if_true.{1},@dq,@if_false.{1},@true_and,@and_true,@true_or,@decide_eq_true_eq,@decide_true,@decide_false,@ur,@UC,@pf.{0},@false_imp_iff,@implies_true.{1}⟩
theorem zt:(type_of% @Oq.eq_1)/\(type_of% @wU.eq_1)/\(type_of% @Gr.eq_1)/\(type_of% @Av.eq_1)/\(type_of% @Hn)/\(type_of% @Qj.eq_1)/\(type_of% @E5)/\(type_of% @FD.eq_1)/\(type_of% @vD.eq_1)/\(type_of% @Ek.eq_1)/\(type_of% @PN.eq_1)/\(type_of% @fS.eq_1)/\(type_of% @JO.eq_1)/\(type_of% @jD.eq_1)/\(type_of% @Ar)/\(type_of% @PQ.eq_1)/\(type_of% @BU)/\(type_of% @BR)/\(type_of% @BS)/\(type_of% @uK.eq_1)/\(type_of% @A5.eq_1)/\(type_of% @yG.eq_1)/\(type_of% @GB.eq_1)/\(type_of% @Qk.eq_1)/\(type_of% @aV.eq_1)/\(type_of% @cB.eq_1)/\(type_of% @zE.eq_1)/\(type_of% @M4.eq_1)/\(type_of% @jW.eq_1)/\(type_of% @Az.eq_1)/\(type_of% @cM.eq_1)/\(type_of% @M3.eq_1)/\(type_of% @jI.eq_1)/\(type_of% @cA.eq_1)/\(type_of% @j5.eq_1)/\(type_of% @KC.eq_1)/\(type_of% @freeze.eq_1)/\(type_of% @FE.eq_1)/\(type_of% @nR.eq_1)/\(type_of% @M0.eq_1)/\(type_of% @eW.eq_1)/\(type_of% @a8.eq_1)/\(type_of% @eC.eq_1)/\(type_of% @a9.eq_1)/\(type_of% @aF.eq_1)/\(type_of% @aR.eq_1)/\(type_of% @bI.eq_1)/\(type_of% @xA.eq_1)/\(type_of% @Le.eq_1)/\(type_of% @o8.eq_1)/\(type_of% @sE.eq_1)/\(type_of% @JM.eq_1)/\(type_of% @wF.eq_1)/\(type_of% @Sq.eq_1)/\(type_of% @gH.eq_1)/\(type_of% @jL.eq_1)/\(type_of% @Lf.eq_1)/\(type_of% @kE.eq_1)/\(type_of% @b8.eq_1)/\(type_of% @back.eq_1)/\(type_of% @fD.eq_1)/\(type_of% @AD.eq_1)/\(type_of% @gD.eq_1)/\(type_of% @jH.eq_1)/\(type_of% @GA.eq_1)/\(type_of% @lG.eq_1)/\(type_of% @g9.eq_1)/\(type_of% @kC.eq_1)/\(type_of% @dE.eq_1)/\(type_of% @gP.eq_1)/\(type_of% @gN.eq_1)/\(type_of% @gT.eq_1)/\(type_of% @aM.eq_1)/\(type_of% @mQ.eq_1)/\(type_of% @ER)/\(type_of% @E4)/\(type_of% @EE)/\(type_of% @EN)/\(type_of% @BW)/\(type_of% @EF)/\(type_of% @BP)/\(type_of% @E6)/\(type_of% @EQ)/\(type_of% @EO)/\(type_of% @ED)/\(type_of% @Hs)/\(type_of% @Ho)/\(type_of% @E7)/\(type_of% @Hq)/\(type_of% @E8)/\(type_of% @Ht)/\(type_of% @Hf)/\(type_of% @Hu)/\(type_of% @Hh)/\(type_of% @EJ)/\(type_of% @E9)/\(type_of% @EM)/\(type_of% @EC)/\(type_of% @EK)/\(type_of% @EA)/\(type_of% @EL)/\(type_of% @EB)/\(type_of% @MJ)/\(type_of% @MH)/\(type_of% @MI)/\(type_of% @ME)/\(type_of% @MD)/\(type_of% @MC)/\(type_of% @Hm)/\(type_of% @Hk)/\(type_of% @Hl)/\(type_of% @Hx)/\(type_of% @Hi)/\(type_of% @Hj)/\(type_of% @BN)/\(type_of% @BM)/\(type_of% @EH)/\(type_of% @EG)/\(type_of% @Hv)/\(type_of% @Ha)/\(type_of% @fT)/\(type_of% @tW)/\(type_of% @eY.eq_1):=
 ⟨@Oq.eq_1,@wU.eq_1,@Gr.eq_1,@Av.eq_1,@Hn,@Qj.eq_1,@E5,@FD.eq_1,@vD.eq_1,@Ek.eq_1,@PN.eq_1,@fS.eq_1,@JO.eq_1,@jD.eq_1,@Ar,@PQ.eq_1,@BU,@BR,@BS,@uK.eq_1,@A5.eq_1,@yG.eq_1,@GB.eq_1,@Qk.eq_1,@aV.eq_1,@cB.eq_1,@zE.eq_1,@M4.eq_1,@jW.eq_1,@Az.eq_1,@cM.eq_1,@M3.eq_1,@jI.eq_1,@cA.eq_1,@j5.eq_1,@KC.eq_1,@freeze.eq_1,@FE.eq_1,@nR.eq_1,@M0.eq_1,@eW.eq_1,@a8.eq_1,@eC.eq_1,@a9.eq_1,@aF.eq_1,@aR.eq_1,@bI.eq_1,@xA.eq_1,@Le.eq_1,@o8.eq_1,@sE.eq_1,@JM.eq_1,@wF.eq_1,@Sq.eq_1,@gH.eq_1,@jL.eq_1,@Lf.eq_1,@kE.eq_1,@b8.eq_1,@back.eq_1,@fD.eq_1,@AD.eq_1,@gD.eq_1,@jH.eq_1,@GA.eq_1,@lG.eq_1,@g9.eq_1,@kC.eq_1,@dE.eq_1,@gP.eq_1,@gN.eq_1,@gT.eq_1,@aM.eq_1,@mQ.eq_1,@ER,@E4,@EE,@EN,@BW,@EF,@BP,@E6,@EQ,@EO,@ED,@Hs,@Ho,@E7,@Hq,@E8,@Ht,@Hf,@Hu,@Hh,@EJ,@E9,@EM,@EC,@EK,@EA,@EL,@EB,@MJ,@MH,@MI,@ME,@MD,@MC,@Hm,@Hk,@Hl,@Hx,@Hi,@Hj,@BN,@BM,@EH,@EG,@Hv,@Ha,@fT,@tW,@eY.eq_1⟩
theorem zo:(type_of% @RG)/\(type_of% @RI)/\(type_of% @RH)/\(type_of% @R7)/\(type_of% @R9)/\(type_of% @R8)/\(type_of% @RD)/\(type_of% @RF)/\(type_of% @RE)/\(type_of% @RA)/\(type_of% @RC)/\(type_of% @RB)/\(type_of% @JJ)/\(type_of% @aZ)/\(type_of% @b5)/\(type_of% @J5)/\(type_of% @Eb)/\(type_of% @MR)/\(type_of% @MU)/\(type_of% @MT)/\(type_of% @MP)/\(type_of% @MO)/\(type_of% @MS)/\(type_of% @MQ)/\(type_of% @Gd)/\(type_of% @GZ)/\(type_of% @Gc)/\(type_of% @Ga)/\(type_of% @GX)/\(type_of% @Gb)/\(type_of% @GY)/\(type_of% @Mj)/\(type_of% @Mi)/\(type_of% @Mh)/\(type_of% @Mf)/\(type_of% @Me)/\(type_of% @Iy)/\(type_of% @Ix)/\(type_of% @Iw)/\(type_of% @Iv)/\(type_of% @Iu)/\(type_of% @Is)/\(type_of% @Ir)/\(type_of% @Iq)/\(type_of% @Ip)/\(type_of% @Io)/\(type_of% @Im)/\(type_of% @Il)/\(type_of% @Ik)/\(type_of% @Ij)/\(type_of% @Ii):=
 ⟨@RG,@RI,@RH,@R7,@R9,@R8,@RD,@RF,@RE,@RA,@RC,@RB,@JJ,@aZ,@b5,@J5,@Eb,@MR,@MU,@MT,@MP,@MO,@MS,@MQ,@Gd,@GZ,@Gc,@Ga,@GX,@Gb,@GY,@Mj,@Mi,@Mh,@Mf,@Me,@Iy,@Ix,@Iw,@Iv,@Iu,@Is,@Ir,@Iq,@Ip,@Io,@Im,@Il,@Ik,@Ij,@Ii⟩
end Z
namespace Sf
structure Rw where
 x:Int
 y:Int
 m:Int
def Rw.up(r:Rw):Prop:=0<r.y \/ (r.y=0/\0<r.x)
def crs(a b:Rw):Int:=a.x*b.y-b.x*a.y
def place(v:Rw)(rows:List Rw):Nat:=rows.countP λr=>decide (0<crs r v)
def uR(rows:List Rw):Prop:=rows.Pairwise λa b=>0<crs a b
structure Pre(s:Int)(rows:List Rw):Prop where
 srt:uR rows
 ok:∀r∈rows,r.up /\ -s<=r.x/\r.x<=s/\r.y<=s/\1<=r.m
def many(rows:List Rw):Int:=(rows.map (·.m)).sum
structure Good(rows:List Rw):Prop where
 lo:2<=rows.length
 hi:rows.length<=6
 srt:uR rows
 ok:∀r∈rows,r.up /\ -999999999999<=r.x/\r.x<=999999999999/\r.y<=999999999999/\1<=r.m
 tot:many rows<=12
def bG:Nat->List Rw->List Int
 |_,[]=>[]
 |k,r::rs=>ay r.m.toNat (k:Int)++bG (k+1) rs
abbrev aJ(rows:List Rw):List Int:=bG 0 rows
end Sf
namespace L2
section
variable {D:Ends}{Q:VK}{t u:TS}{te ta tb tc:TE}{g:TG}
end
end L2
namespace Z
open L2
theorem F6(h:∀Q:R->Prop,Q (.v (.bl ai))->sp [.scr ns] Q)(hO:Jj H)(hT:yR K H)(hS:gJ K H a (ns.map V.int)):low K sp [.ref a] H (λv _=>v=.bl ai) (λ_ _ _=>False):=by
 refine⟨λ_=>False,[.scr ns],⟨λ_ z=>z.elim,hT⟩,.cons (.scr ?_) .nil,h _ λx H' S r=>?_⟩
 ·rcases hS with(h | h) | h
  ·rcases hO a with z | ⟨o,xs,z⟩
   ·rw[z] at h;cases h
   ·rw[z] at h;cases h
  ·exact .inl h
  ·exact .inr h
 ·have r':Rep K (λ_=>False) H' x (.bl ai):=r;cases r';rfl
end Z
namespace L2
end L2
namespace Z
open L2
end Z
namespace L2
variable {it:ae}{ep:Nat}{es:Array lq}
structure Ent(h:dk)(d:ae)(es:Array lq)(ep:Nat):Prop where
 at_:∃o,h.get? d=aa o/\o.ExactDict/\o.data=.dict es ep
theorem EX{d:ae}{en:lq}{Q:Option af->ah->Prop}(k:s.heap.IsKeyIter it d i n ep)(g:Ent s.heap d es ep)(hn:es.size=n)(he:es[i]?=aa en)
  (q:∀h',h'.IsKeyIter it d (i+1) n ep->oz it s.heap h'->Q (aa en.key) { s with heap:=h' }):bt (bz prog w) A (sy (.ref it)) Q E s:=by
 obtain⟨⟨od,gd,_,dd⟩⟩:=g;obtain⟨oi,gi,ci,fi⟩:=id k;have up:(s.heap.update it (qc (·.setIfInBounds 1 (sr ((i:Int)+1))))).IsKeyIter it d (i+1) n ep:=
  ⟨_,og _ gi (ss (xq fi _)),(ze ..).trans ci,by rw[xq fi];simp[sr]⟩
 have fin:=q _ up (xh ..);unfold sy;refine ad (lx (gg (name:=ii "__next__") k.typeIs jh (fz jh k.typeIs wt (ad (aj (ad (ad ?a)))) (wn _))));refine ad (md k.typeIs (aj (ad (WV gi fi ?b))));rw[show (if wz "dict_keyiterator" = ai then 2 else 0)=0 by decide];show bt _ _ (ite ((Value.ref d==gc)=ai) _ _) _ _ s;rw[XQ (by exact λz=>nomatch z)];refine ad (aj (ad (sv gd dd ?c)));rw[XQ (by rw[hn];simp)];refine ad (aj (ad (U9 gd dd ?d)));rw[XQ (by simp)];refine aj ?e;simp only[show ¬((i:Int)<0) by right,ite_false,bq,he];refine ad (ad (md k.typeIs (aj (ad (Uf k.typeIs ?f)))));show bt _ _ (XB (.ref it) 1 (sr ((i:Int)+1)) >>= _) _ _ s;refine ad (nq gi fi (by simp) (ad (jd (ad (Uf (s:={ s with heap:=s.heap.update it (qc (·.setIfInBounds 1 (sr ((i:Int)+1)))) }) up.typeIs ?g)))));show bt _ _ (jw en.key) _ _ _;exact aj (aj ⟨_,rfl,aj fin⟩)
theorem Id{d:ae}{Q:Option af->ah->Prop}(qu:Qu A s.heap)(k:s.heap.IsKeyIter it d i n ep)(g:Ent s.heap d es ep)(hn:es.size=n)(hi:n<=i)
  (q:∀h',wq it s.heap h'->Q au { s with heap:=h' }):bt (bz prog w) A (sy (.ref it)) Q E s:=by
 obtain⟨⟨od,gd,_,dd⟩⟩:=g;obtain⟨oi,gi,ci,fi⟩:=id k;have he:es[i]?=au:=Array.getElem?_eq_none ⋯;unfold sy;refine ad (lx (gg (name:=ii "__next__") k.typeIs jh (fz jh k.typeIs wt (ad (aj (ad (ad ?a)))) (wn _))));refine ad (md k.typeIs (aj (ad (WV gi fi ?b))));rw[show (if wz "dict_keyiterator" = ai then 2 else 0)=0 by decide];show bt _ _ (ite ((Value.ref d==gc)=ai) _ _) _ _ s;rw[XQ (by exact λz=>nomatch z)];refine ad (aj (ad (sv gd dd ?c)));rw[XQ (by rw[hn];simp)];refine ad (aj (ad (U9 gd dd ?d)));rw[XQ (by simp)];refine aj ?e;simp only[show ¬((i:Int)<0) by right,ite_false,bq,he];refine ad (ad (md k.typeIs (aj ?f)));show bt _ _ (XB (.ref it) 0 .none >>= _) _ _ s;have ne:∀b u,mY u->s.heap.get? b=aa u->b≠it:=λb u m gb z=>by
  subst z;rw[gi] at gb;cases gb;obtain⟨us,du,z2⟩:=m;rw[fi] at du;cases du;simp at z2
 refine ad (nq gi fi (by simp) (jX (qu.keeps λb u m z=>(eh _ _ (Ne.symm (ne b u m z))).trans z) λh' e kk ⟨oe,ge,ce⟩=>?_));exact ad (jm (T:="StopIteration") (b:=ai) ⟨oe,ge,ce⟩ tf (aj (q _ λb u hb z=>kk b u ((eh _ _ (Ne.symm hb)).trans z))))
theorem EY{d:ae}(hd:(d==ji)=ao)(g:Ent s.heap d es ep)
  (q:Q (.ref s.heap.objs.size) { s with heap:=s.heap.push { cls:=.type "dict_keyiterator",data:=.fields #[.ref d,.int 0 0,.int es.size 0,.int ep 0] } }):bt (bz prog w) A (Y2 (.ref d)) Q E s:=by
 obtain⟨⟨od,gd,ex,dd⟩⟩:=g;have ty:s.TypeIs (.ref d) "dict" := ⟨od,gd,ex.1⟩;refine wpAny_pyIter_slot ty W3 (fz W3 ty F.entry_dict_iter (ad (show bt _ _ (za _ _) _ _ s from ?a)) (F.args_dict_iter_1 _));unfold za;refine ad (Ug ty (show bt _ _ (jw (Value.ref d)) _ _ s from aj (show bt _ _ (Uh d >>= _) _ _ s from ad ?b)));unfold Uh;rw[XQ (by rw[hd];exact jj)];refine aj (ad (sv gd dd (ad (U9 gd dd (ad (ig (aj ⟨_,rfl, "dict_keyiterator",_,⟨_,cj _ rfl,rfl⟩,jh.lookup,?c⟩)))))));simpa [sr] using q
def Sh(a:ae)(ep n:Nat):It:=
 ⟨λi H=>∃kvs,H a=aa (.dT ep kvs)/\kvs.length=n/\i<n,λi H x H'=>H'=H /\ ∀kvs,H a=aa (.dT ep kvs) -> ∃p b,kvs[i]?=aa p/\x=.ref b/\H b=aa (.tup (p.1.map kV)),λi H=>∃kvs,H a=aa (.dT ep kvs)/\kvs.length=n/\n<=i⟩
theorem E3{α β:Type}{F:α->β->Prop}:∀{l:List α} {m:List β},Paired F l m -> ∀{i:Nat} {p:α},l[i]?=aa p -> ∃q,m[i]?=aa q/\F p q
 |_,_,.nil,i,p,h=>by simp at h
 |_,_,.cons r t,0,p,h=>by
  simp only[jt,ip] at h;subst h;exact⟨_,rfl,r⟩
 |_,_,.cons r t,i+1,p,h=>E3 t (i:=i) (by simpa using h)
theorem BD{α β:Type}{F:α->β->Prop}:∀{l:List α} {m:List β},Paired F l m->l.length=m.length
 |_,_,.nil=>rfl
 |_,_,.cons _ t=>congrArg (· + 1) (BD t)
theorem DV(ok:cI P w H h a (.dT ep kvs)):
  ∃es:Array lq,Ent h a es ep/\es.size=kvs.length/\(a==ji)=ao /\ ∀(i:Nat) (p:List bW×V),kvs[i]?=aa p -> ∃(en:lq) (b:ae),es[i]?=aa en/\en.key=.ref b/\H b=aa (.tup (p.1.map kV)):=by
 obtain⟨_,hd,xs,r,o,es,g,ex,dd,he,_⟩:=ok;refine⟨es,⟨⟨o,g,ex,dd⟩⟩,?_,hd,λi p hp=>?_⟩
 ·rw[Ua he];exact(BD r).symm
 ·obtain⟨q,hq,h1,h2,_⟩:=E3 r hp;exact⟨_,q.2.1,by rw[entry_at he,hq];rfl,rfl,h2⟩
theorem Ez(a it:ae)(ep n:Nat):Turn P w K tg (Sh a ep n) [it] it (λi h=>h.IsKeyIter it a i n ep) where
 mem:=rg _
 obj:=λi h st b hb=>by
  obtain rfl:=eo.mp hb;obtain⟨o,e,c,d⟩:=st;exact⟨o,e,λv z=>by rw[d] at z;cases z⟩
 keep:=λi h h' st k=>st.at λo e=>k it (rg _) o e
 item:=by
  rintro X rfl rfl rfl hc i pk s σ H E I hf st ⟨kvs,e,hl,hi⟩;obtain⟨es,g,hz,hd,at_⟩:=DV (I.hok a _ e);obtain⟨p,hp⟩:∃p,kvs[i]?=aa p:=⟨kvs[i]'⋯,av _⟩;obtain⟨en,b,h1,h2,h3⟩:=at_ i p hp;obtain⟨f0,f1,f2,f3,f4,f5⟩:=hf it (rg _);refine EX st g (hz.trans hl) h1 λh' st' sb=>?_;have I1:Inv X pk σ H { s with heap:=h' }:=I.turned (t':=s.toks) (λc o hb e=>(sb.2 c hb).trans e) f0 f1 f3 f4 f5;obtain⟨o,e1,c,d⟩:=id st';exact⟨_,rfl,By (s:={ s with heap:=h' }) e1 c d ∅ ⟨.ref b,H,I1,h2,⟨rfl,λkvs' e'=>⟨p,b,by rw[e] at e';cases e';exact hp,rfl,h3⟩⟩,st',λb hb=>(hf b hb).1⟩⟩
 done:=by
  rintro X rfl rfl rfl hc i pk s σ H E I hf st ⟨kvs,e,hl,hi⟩;obtain⟨es,g,hz,hd,at_⟩:=DV (I.hok a _ e);obtain⟨f0,f1,f2,f3,f4,f5⟩:=hf it (rg _);exact Id I.qu st g (hz.trans hl) hi λh' eb=>⟨rfl,I.turned (t':=s.toks) (λb o hb e=>eb b o hb e) f0 f1 f3 f4 f5⟩
 self:=λ_ _ _ _ _ st h=>UD st h
def OI(tl:TE):TI:=λσ H R=>tl σ H λx H1=>∃a ep kvs,x=.ref a/\H1 a=aa (.dT ep kvs)/\R (Sh a ep kvs.length) H1
theorem Ke{l:Expr}{tl:TE}(hl:PE X l tl):PI X tg l (OI tl):=by
 intro pk s σ H R I h;refine thn (hl pk s σ H _ I h) λv s1 ⟨x,H1,I1,r1,a,ep,kvs,e,ea,q⟩=>?_;subst e;cases r1;obtain⟨es,g,hz,hd,_⟩:=DV (I1.hok a _ ea);refine EY hd g ?_;refine⟨s1.heap.objs.size,[s1.heap.objs.size],_,_,H1,rfl,I1.kept (t':=s1.toks) λb o e=>ap _ e,Ez a _ ep kvs.length,⟨_,cj _ rfl,rfl,by rw[hz];rfl⟩,λb hb=>?_,q⟩;obtain rfl:=eo.mp hb;exact I1.fpOk (br _) (I1.hok.fresh (br _))
end L2
namespace Z
open L2
theorem Reps.ofKeys{K:ak}{M:ae->Prop}{H:Hp}:∀k:List bW,Reps K M H (k.map kV) (k.map kD)
 | []=>.nil
 | .inl i::r=>.cons (.int i) (Reps.ofKeys r)
 | .inr x::r=>.cons (.str x) (Reps.ofKeys r)
abbrev Ie(kv:List bW×Dv):Dv:=.tup (kv.1.map kD)
theorem RepT.key(r:RepT K M H xs ds):xs.map (·.1)=ds.map (·.1):=
 r.ind (P:=λxs ds=>xs.map (·.1)=ds.map (·.1)) rfl λ_ _ _ _ _ _ _ ih=>by rw[cr,cr,ih]
theorem yC{P:Hp}{ep:Nat}(hP:P a=aa (.dT ep xs))(r:RepT K M H1 xs ds):
  wQ K P M H1 (Sh a ep xs.length) (ds.map Ie) []:=by
 intro i H' M' S G _;have h':=S _ _ hP;have hl:=r.len;refine⟨λd e=>?_,λh=>⟨xs,h',rfl,by rw[bf] at h;right⟩⟩;rw[dg] at e;cases ed:ds[i]? with
 |none=>rw[ed] at e;cases e
 |some q=>
  rw[ed] at e;cases e;have hi:=(cf.mp ed).1;refine⟨⟨xs,h',rfl,⋯⟩,λy H'' ⟨e1,e2⟩=>?_⟩;subst e1;obtain⟨p,b,hp,rfl,hb⟩:=e2 xs h';have k1:(xs.map (·.1))[i]?=aa p.1:=by rw[dg,hp];rfl
  rw[r.key,dg,ed] at k1;have k2:q.1=p.1:=Option.some.inj k1;rw[Ie,k2];exact⟨aO.refl _,.tup hb (Reps.ofKeys _)⟩
def Ee(tl:dB):xJ:=λρ Q=>tl ρ λr=>match r with
 | .v (.dit kvs)=>Q (kvs.map Ie) []
 | .nw (.dit kvs)=>Q (kvs.map Ie) []
 |_=>False
section
variable {l:Expr}{tl:dB}
theorem KJ(h:QE X l tl):QI X tg l (Ee tl):=by
 refine⟨λρ Q Q' w q=>h.mono _ _ _ (λr q=>?_) q,λHZ F=>⟨_,Ke (h.run HZ F),λσ H ρ R fr q=>?_⟩⟩
 ·unfold Ee at *;split at q<;>first | exact w _ _ q | exact q
 ·refine h.step fr q λr x H1 q S1 r1=>?_;have fr1:=fr.mono S1;split at q
  ·rename_i ds;cases r1 with
   |dit e m rs=>exact⟨_,_,_,rfl,e,q _ H1 S1 (by intro p hp;simp at hp) (yC (by rw[cJ λc=>m (.inr c)];exact e) rs)⟩
  ·rename_i ds;obtain⟨a,rfl,n,ep,xs,e,rs⟩:=r1;exact⟨_,_,_,rfl,e,q _ H1 S1 (by intro p hp;simp at hp) (yC (by rw[cJ λc=>fr.fresh n (.inr c)];exact e) (rs.gen (.weak λb z=>.inl z)))⟩
  ·exact q.elim
def JB(kvs:List (List bW×Dv))(k:List bW):Bool:=kvs.any λkv=>decide (kv.1=k)
def Rr(neg:Bool):R2:=λx y H Q=>∃a o,y=.ref a/\tH H a x o/\Q (.bl (if neg then !o.isSome else o.isSome)) H
theorem No(hu:X.A.units+1<jy):lM X (fm .In) (Rr ao):=by
 intro pk s σ H x y v u Q I rx ry h;obtain⟨a,o,rfl,g,q⟩:=h;cases ry;exact SX hu I g rx λs' I'=>⟨.bl o.isSome,H,I',rfl,q⟩
def FU:Dv->Dv->(R->Prop)->Prop
 | .tup ds,.dit kvs,Q=>∃k:List bW,ds=k.map kD/\Q (.v (.bl (JB kvs k)))
 |_,_,_=>False
theorem RepT.has{k:List bW}(r:RepT K M H xs ds):(kR xs k).isSome=JB ds k:=by
 have h:=r.val (k:=k);unfold JB;cases e:ds.find? (λkv=>decide (kv.1=k)) with
 |none=>
  rw[h.2 e];have:=Vk.mp e;symm;rw[Option.isSome_none,zh];exact this
 |some kv=>
  obtain⟨x,hx,_⟩:=h.1 kv e;rw[hx];symm;rw[Vg,List.any_eq_true];exact⟨kv,zb e,by have:=Ww (p:=λkv:List bW×Dv=>decide (kv.1=k)) e;exact this⟩
theorem zQ(hu:X.A.units+1<jy):xL X (fm .In) FU:=by
 refine⟨λdx dy Q Q' w h=>?_,_,No hu,λM O H x y dx dy Q cx cy h=>?_⟩
 ·unfold FU at *;split at h
  ·exact⟨h.choose,h.choose_spec.1,w _ h.choose_spec.2⟩
  ·exact h
 ·unfold FU at h;split at h
  ·obtain⟨k,rfl,q⟩:=h;obtain⟨b,ys,rfl,eb,rb⟩:=cx.tup;obtain rfl:=rb.keys;obtain⟨a,ep,kvs,rfl,ea,ra⟩:=cy.dit;refine⟨a,_,rfl,tH.t ea eb,?_⟩;rw[XQ ∅,ra.has];exact q _ H (aO.refl _) (Rep.bl _)
  ·exact h.elim
end
end Z
namespace HT
open PySem PyProof.Rows
section
open PySem.SeqAt
open PySem.AutoSeq1 (wpAny_loadPart')
open PySem.MeetsSeq PySem.MeetsSeq2 PySem.MeetsSeq3
end
end HT
namespace L2
end L2
namespace Z
open L2
section
variable {o:Expr}{to:dB}{Yt:lv}
end
end Z
namespace L2
end L2
namespace Z
open L2
section
variable {o:Expr}{to tg tp:dB}{Yt:lv}
end
end Z
namespace L2
variable {h':dk}
theorem cI.at{o:HO}(x:cI P w H h a o):∃ob,h.get? a=aa ob:=by
 cases o with
 |lst xs=>obtain⟨_,_,_,_,e⟩:=x;exact⟨_,e⟩
 |tup xs=>obtain⟨_,_,_,_,e,_⟩:=x;exact⟨_,e⟩
 |dK kvs=>obtain⟨_,_,_,_,o,_,_,e,_⟩:=x;exact⟨_,e⟩
 |dT ep kvs=>obtain⟨_,_,_,_,o,_,e,_⟩:=x;exact⟨_,e⟩
 |set S n=>obtain⟨o,_,_,_,e,_⟩:=x;exact⟨_,e⟩
 |ins C dx fs=>obtain⟨_,_,_,e,_⟩:=x;exact⟨_,e⟩
 |own y=>exact x
 |xd fs=>obtain⟨_,⟨_,_,_,e,_⟩,_⟩:=x;exact⟨_,e⟩
 |lam q=>obtain⟨_,e,_⟩:=x;exact⟨_,e⟩
 |cod q=>obtain⟨_,_,_,_,e,e2,_⟩:=x;cases e;exact⟨_,e2⟩
 |rng lo hi=>obtain⟨_,_,_,e⟩:=x;exact⟨_,e⟩
 |frz ob u=>obtain⟨e,_⟩:=x;exact⟨_,e⟩
 |tbl ps=>exact⟨_,(show h.get? a=aa _ from x)⟩
 |met f y=>exact⟨_,(show h.get? a=aa _ from x)⟩
 |ext φ=>obtain⟨_,e,_⟩:=x;exact e
theorem lN.out(x:lN P w H h)(e:h.get? a=au):H a=au:=by
 cases q:H a with
 |none=>rfl
 |some u=>
  obtain⟨o,z⟩:=(x a u q).at;rw[e] at z;cases z
abbrev Mb:List af:=[.type "ValueError",.type "Exception",.type "BaseException",.type "object"]
def Dc(K:ak)(C:ae):Prop:=Yd K C Mb "ValueError.__new__" = ai
theorem Dc.cls(X:K.In h)(q:Dc K C):∃bm N nm qn bs hd sn sub ab col dd k0 k1 k2 k3 k5 mN,
  h.get? C=aa (excClassObj nm qn C N bs bm hd sn sub ab col dd k0 k1 k2 k3 k5 "ValueError.__new__")/\h.Ns N mN/\mN "__init__" = au/\OwnTail h Mb bm:=by
 unfold Dc Yd at q;split at q
 ·rename_i dd cd sl ho;split at q
  ·rename_i C1 bm a0 a1 a2 a3 n a5 hm hs;rw[dm,dm,dm,dm,dm] at q;obtain⟨⟨⟨⟨⟨e1,e2⟩,e3⟩,e4⟩,e5⟩,e6⟩:=q;cases beq_iff_eq.mp e1;cases beq_iff_eq.mp e2;cases cd with
   |mk nm bs mro ns qn hd sn sub ab col del=>
    dsimp only at hm e3 e5 e6;cases hm;have dz:del=ao:=by cases del<;>simp_all
    cases dz;cases sl with
    |mk l=>
     dsimp only at hs;cases hs;exact⟨bm,ns,nm,qn,bs,hd,sn,sub,ab,col,dd,a0,a1,a2,a3,a5,_,X _ _ ho,.of_isNs (W.isNs_of_in X e5),W.nsMap_none_of_in X e5 (beq_iff_eq.mp e6),W.tail_of_in X e4⟩
  ·cases q
 ·cases q
def iO(P:az)(w:bw):GQ:=λouter H s E e s'=>∃(a:ae) (o:jv) (C:ae) (H':Hp) (B:dk),e=.ref a/\s'.os=s.os/\xk s'.gens/\Un (frs outer) [] H H' s.heap s'.heap/\lN P w H' s'.heap /\
 Fly B outer a o .none s'.heap/\(∀b o,s'.heap.get? b=aa o->b ∉ frs outer->(H' b≠au \/ ∃u,s.heap.get? b=aa u)->B.get? b=aa o)/\s.heap.get? a=au/\H' a=au/\E (.ref C) o.dict H'/\o.cls=.ref C/\mY o
section
variable {fs:List ae}{h0 h1 h2 B:dk}
theorem Un.fly(u:Un fs [] H H' h0 h1)(k:∀b o,h1.get? b=aa o->b ∉ fs->(H' b≠au \/ ∃u,h0.get? b=aa u)->B.get? b=aa o)(hB:B.StaysIn h2)
  (sl:∀b∈fs,∀o,h1.get? b=aa o -> ∃z,h2.get? b=aa { o with slots:=z }):Un fs [] H H' h0 h2 where
 keep:=λb o e n hb hx=>hB b o (k b o (u.keep b o e n hb hx) hb (.inr ⟨_,e⟩))
 slot:=λb o e n hb hx=>by
  obtain⟨z,q⟩:=u.slot b o e n hb hx;obtain⟨z',q'⟩:=sl b hb _ q;exact⟨z',q'⟩
 free:=u.free
 there:=λb o e hx=>by
  obtain⟨o',q⟩:=u.there b o e hx;by_cases hb:b∈fs
  ·obtain⟨z,q'⟩:=sl b hb _ q;exact⟨_,q'⟩
  ·exact⟨_,hB b o' (k b o' q hb (.inr ⟨_,e⟩))⟩
 tups:=u.tups
 frzs:=u.frzs
 tbls:=u.tbls
theorem lN.fly(x:lN P w H' h1)(nf:∀b∈fs,H' b=au)(k:∀b o,h1.get? b=aa o->b ∉ fs->(H' b≠au \/ ∃u,h0.get? b=aa u)->B.get? b=aa o)(hB:B.StaysIn h2):lN P w H' h2:=λb o e=>
 (x b o e).stay (λc v hc q=>by
  have hn:H' c≠au:=by
   rcases hc with z | z
   ·rw[z,e];simp
   ·rw[z];simp
  exact hB c v (k c v q (λm=>hn (nf c m)) (.inl hn))) (λ_ q=>q) (λ_ _ q=>q) λ_ _ q=>q
end
section
variable {cd:af}{s0:ah}{H0:Hp}{E:XK}
theorem Jp{us:List af}(I:Inv (cK (iO P w) P w K mg base N Yj Yi f cd A outer s0 H0 E) pk σ H s)(m:WW s.heap h' a (.ref C) us)
  (hE:E (.ref C) au H):(cK (iO P w) P w K mg base N Yj Yi f cd A outer s0 H0 E).xe (.ref a) { s with heap:=h' }:=by
 have hin:∀env∈(cK (iO P w) P w K mg base N Yj Yi f cd A outer s0 H0 E).stack,∀b,env.frame=aa b->b∈frs (cK (iO P w) P w K mg base N Yj Yi f cd A outer s0 H0 E).stack:=λenv he b hb=>xz.mpr ⟨env,he,hb⟩;obtain⟨t,ge,_,_⟩:=m.there;have nb:(UN s.heap (frs (cK (iO P w) P w K mg base N Yj Yi f cd A outer s0 H0 E).stack)).get? a=au:=by
  cases q:(UN s.heap (frs (cK (iO P w) P w K mg base N Yj Yi f cd A outer s0 H0 E).stack)).get? a with
  |none=>rfl
  |some o'=>
   have:=Vo _ q;rw[m.new] at this;cases this
 refine JG (base:=UN s.heap (frs (cK (iO P w) P w K mg base N Yj Yi f cd A outer s0 H0 E).stack)) I.ok.frames ((W.funFrames_hide I.stack hin).of_keeps λb o hb _=>⟨o,m.keeps b o hb,rfl⟩) rfl (λb o q=>m.keeps b o (Vo _ q)) nb ge rfl rfl λh2 x1 x4=>?_;have fs:∀b,b∈frs (cK (iO P w) P w K mg base N Yj Yi f cd A outer s0 H0 E).stack->b=(tu Yj Yi s0.heap.objs.size f cd).locals \/ b∈frs outer:=λb hb=>dj.mp (I.stkSub b hb);have k1:∀b o,s.heap.get? b=aa o->b ∉ frs outer->(H b≠au \/ ∃u,s0.heap.get? b=aa u)->(UN s.heap (frs (cK (iO P w) P w K mg base N Yj Yi f cd A outer s0 H0 E).stack)).get? b=aa o:=λb o e nb hc=>by
  refine X6 _ e λhm=>?_;rcases fs b hm with z | z
  ·rcases hc with hc | ⟨u,hu⟩
   ·exact hc (I.stkFree b hm)
   ·have:b<s0.heap.objs.size:=bg hu;have h2:s0.heap.objs.size<=b:=by rw[z];exact I.ok.above
    exact absurd (fg this h2) (qh _)
  ·exact nb z
 have sl:∀b∈frs outer,∀o,s.heap.get? b=aa o -> ∃z,h2.get? b=aa { o with slots:=z }:=λb hb o e=>by
  obtain⟨_,o',q,nf⟩:=I.funs.mem hb;rw[e] at q;cases q;exact x4 b o (m.keeps b o e) nf
 refine⟨a,_,C,H,_,rfl,I.os,I.bare,Un.fly I.base k1 x1.st sl,lN.fly (fs:=frs outer) I.hok (λb hb=>?_) k1 x1.st,x1,λb o e nb hc=>?_,?_,I.hok.out m.new,hE,rfl,⟨_,rfl,rfl⟩⟩
 ·obtain⟨_,o,q,_⟩:=I.ok.funs.mem hb;exact I.base.free b o q (I.ok.frf b hb) (λz=>nomatch z)
 ·have:∃o',s.heap.get? b=aa o':=by
   rcases hc with hc | ⟨u,hu⟩
   ·cases q:H b with
    |none=>exact(hc q).elim
    |some v=>exact(I.hok b v q).at
   ·exact I.base.there b u hu (λz=>nomatch z)
  obtain⟨o',q⟩:=this;have q1:=k1 b o' q nb hc;have q2:=x1.st b o' q1;rw[e] at q2;cases q2;exact q1
 ·cases q:s0.heap.get? a with
  |none=>rfl
  |some o=>
   obtain⟨o',q'⟩:=I.base.there a o q (λz=>nomatch z);rw[m.new] at q';cases q'
end
variable {np:lv}
section
variable {x:bv}{t:TA}{pos:lv}
theorem HE{Ψ:Hp->Prop}(hh:X.A.handled=au)(hm:X.mg x=aa (.ref C))(hg:Gl X x)(q:Dc X.K C)(ha:PA X (e::es) t)
  (hx:∀(pk:List (ae×jv)) (σ:St) (H:Hp) (s:ah) (h':dk) (a:ae) (us:List af),Inv X pk σ H s->WW s.heap h' a (.ref C) us->Ψ H->X.xe (.ref a) { s with heap:=h' })
  (hdb:(x==("__debug__" : bv))=ao:=by decide) (he:aw (e::es) X.env=(ao,gh e X.env)::aw es X.env:=by rfl) (hpl:(ir Yq (aw es X.env)).any (·.1)=ao:=by rfl):
  PS X (.Raise (aa (.Call (.Name x np) (e::es) [] Yq)) au pos) (λ_ σ H=>t σ H λvs H1=>vs.length<=bu/\Ψ H1):=by
 intro pk s σ H D I h;obtain⟨bm,N,nm,qn,bs,hd,sn,sub,ab,col,dd,a0,a1,a2,a3,a5,mN,c1,c2,c3,c4⟩:=q.cls I.ok.mod.kin;refine wpAny_Raise_call_subT (N:=N) (bm:=bm) (C:=C) (q:=qn) (nm:=nm) (bs:=bs) (sn:=sn) (hdct:=hd) (sub:=sub) (col:=col) (ab:=ab) (dd:=dd) (k5:=a5) (k0:=a0) (k1:=a1) (k2:=a2) (k3:=a3) PySem.F.excBase_ValueError (mN:=mN) (c4.hasType rfl) hh ?_ c3 (mM I hg hm ⟨rfl,?_⟩ hdb)
 ·rw[he];show (ao || (ir Yq (aw es X.env)).any (·.1))=ao;rw[hpl];rfl
 ·have h1:=ha Yq pk s σ H _ I h;rw[he] at h1 ⊢;refine Ux (gr h1 (λus s1 z=>?_) λ_ _ z=>z);obtain⟨vs,H1,I1,r,l,p⟩:=z;exact⟨rfl,by rw[<- r.length];exact l,I1.bk _ _ c1,c2.keeps I1.bk,c4.keeps I1.bk,λh' a m=>hx pk σ H1 s1 h' a us I1 m p⟩
end
abbrev Cx.inx(X:Cx)(a:ae):Cx:={ X with A:=X.A.mark (aa (.ref a)),calm:=ao,xe:=λ_ _=>False,hs:=a::X.hs }
variable {M:U6}{Q:Unit->ah->Prop}{n:bv}
theorem Cx.Ok.inx(ok:X.Ok)(a:ae):(X.inx a).Ok:=
 ⟨ok.mod,ok.kind,ok.glob,ok.blt,ok.above,ok.inj,ok.has,ok.cab,(λz=>nomatch z),ok.frames,ok.stk,ok.exf,ok.bs,ok.bsz,ok.noex,ok.exfs,ok.funs,ok.frf,.inr ⟨a,di,rfl⟩⟩
theorem Inv.inx(I:Inv X pk σ H s)(a:ae)(m:∃o u,H a=aa (.frz o u)/\mY o):Inv (X.inx a) pk σ H s:=⟨I.ok.inx a,I.os,I.bare,I.base,I.loc,I.cell,I.free,I.freeC,I.pin,I.hok,I.len,λb hb=>(dj.mp hb).elim (λe=>e ▸ m) (I.mild b)⟩
theorem Inv.outx(ok:X.Ok)(I:Inv (X.inx a) pk σ H s):Inv X pk σ H s:=⟨ok,I.os,I.bare,I.base,I.loc,I.cell,I.free,I.freeC,I.pin,I.hok,I.len,λb hb=>I.mild b (df _ hb)⟩
theorem Inv.goes{pos:lv}(I:Inv X pk σ H s)(hN:X.N.Nodup)(hi:X.N[i]?=aa n)(hk:X.env.scope.names.lookup n=aa .local)
  (h:∀s',Inv X pk (σ.set i au) H s'->Q () s'):bt M A (do bindName X.env n .none;unbindBehindTheSuite X.env n pos) Q E s:=by
 obtain⟨m,hn,hl⟩:=id I.loc;have hcls:(X.env.scope.kind == .class || (X.env.scope.kind == .module&&X.env.locals != X.env.globals))=ao:=by rw[I.ok.kind];rfl
 refine wpAny_nameGoes_keeps hk hn hcls λh' v hn' hs=>h _ ?_;have old:∀b o,X.s₀.heap.get? b=aa o->h'.get? b=s.heap.get? b:=λb o e=>hs.2 b (gn (fg (bg e) I.ok.above));refine⟨I.ok,I.os,I.bare,⟨λb o e n hb hx=>?_,λb o e n hb hx=>?_,I.base.free,λb o e hx=>?_,I.base.tups,I.base.frzs,I.base.tbls⟩,⟨_,hn',λj y v' e1 e2 e3=>?_⟩,λy c e=>?_,I.free,I.freeC,λp hp=>?_,λb ob e=>?_,by simpa using I.len,I.mild⟩
 ·exact(old b o e).trans (I.base.keep b o e n hb hx)
 ·obtain⟨sl,q⟩:=I.base.slot b o e n hb hx;exact⟨sl,(old b o e).trans q⟩
 ·obtain⟨o',q⟩:=I.base.there b o e hx;exact⟨o',(old b o e).trans q⟩
 ·have ne:i≠j:=λz=>by
   subst z;by_cases hl2:i<σ.length
   ·rw[jx hl2] at e2;cases e2
   ·rw[lh (by simpa using nh hl2)] at e2;cases e2
  rw[fy ne] at e2;obtain⟨u,r,q⟩:=hl j y v' e1 e2 e3;have yn:y≠n:=λz=>ne (vR hN hi (z ▸ e1));refine⟨u,r,?_⟩;rcases q with⟨k,q⟩ | ⟨k,c,q,z⟩
  ·exact .inl ⟨k,by simp[yn,q]⟩
  ·exact .inr ⟨k,c,q,z.sameBut hs (I.cne y c q)⟩
 ·obtain⟨w',z⟩:=I.cell y c e;exact⟨w',z.sameBut hs (I.cne y c e)⟩
 ·obtain⟨e,q,ne,nf,d⟩:=I.pin p hp;exact⟨(hs.2 p.1 ne).trans e,q,ne,nf,d⟩
 ·refine(I.hok b ob e).stay (λc w' hc q=>(hs.2 c ?_).trans q) (λ_ q=>q) (λ_ _ q=>q) λ_ _ q=>q;rintro rfl;rcases hc with rfl | hc
  ·rw[I.free] at e;cases e
  ·rw[I.free] at hc;cases hc
variable {b0:ku}{hb:List ku}{YI:lv}{th:TS}{C0 C1:ae}
section
variable {s1 s2:ah}{E:XK}{e:af}{D:Ends}
abbrev Ends.goes(D:Ends)(i:Nat):Ends:={ nx:=λσ H=>D.nx (σ.set i au) H,rt:=D.rt,bk:=λσ H=>D.bk (σ.set i au) H,ct:=λσ H=>D.ct (σ.set i au) H }
theorem caught{c:bv}{Yl:List ExceptHandler}(I1:Inv X pk σ H1 s1)(cx:iO X.prog X.w X.stack H1 s1 E e s2)
  (hN:X.N.Nodup) (hi:X.N[i]?=aa n) (hk:X.env.scope.names.lookup n=aa .local) (hst:X.stack=X.env::X.outer) (hfr:X.env.frame=aa X.env.locals) (hg:Gl X c) (hm:X.mg c=aa (.ref C1))
  (hx:VH X.K (.ref C0) (.ref C1)=aa ai)
  (hE:∀C dd H',E (.ref C) dd H'->C=C0 /\ ∀a o,H' a=au->o.cls=.ref C0->o.dict=dd->mY o->th (D.goes i) (σ.set i (aa (.ref a))) (upd H' a (.frz o (.own a))))
  (Yu:∀a,uT (X.inx a) (b0::hb) th) (hdb:(c==("__debug__" : bv))=ao:=by decide):
  bt (bz X.prog X.w) X.A (Tn e X.env) (λ_ s3=>bt (bz X.prog X.w) X.A (X8 e au) (λ_ s4=>
   bt (bz X.prog X.w) X.A (handleBy e X.env (.ExceptHandler (aa (.Name c np)) (aa n) (b0::hb) YI::Yl)) (SP X pk D) X.xe s4) X.xe s3) X.xe s2:=by
 obtain⟨a,o0,C,H',B,rfl,os,bare,un,hok,fl,k,na,nH,hE',hc0,hm0⟩:=cx;obtain⟨rfl,go⟩:=hE C _ H' hE';have ff:X.A.frames=aa (X.env::X.outer):=by rw[<- hst];exact I1.ok.frames
 have nfr:∀b∈frs X.stack,H' b=au:=λb hb=>by
  obtain⟨_,o,q,_⟩:=I1.stack.mem hb;exact un.free b o q (I1.stkFree b hb) (λz=>nomatch z)
 have sl:∀{h:dk},s2.heap.UpToSlots h -> ∀b∈frs X.stack,∀o,s2.heap.get? b=aa o -> ∃z,h.get? b=aa { o with slots:=z }:=λ{h} u b hb o e=>by
  obtain⟨_,o1,q,nf⟩:=I1.stack.mem hb;obtain⟨z,q2⟩:=un.slot b o1 q (I1.stkFree b hb) hb (λz=>nomatch z);rw[e] at q2;cases q2;exact u b _ e nf
 have inv:∀h,B.StaysIn h->s2.heap.UpToSlots h->Inv X pk σ H' { s2 with heap:=h }:=λh hB u=>
  I1.call' os (un.fly k hB (sl u)) (lN.fly hok nfr k hB) bare (λ_ z=>nomatch z)
 rw[hst] at fl;refine C3 ff hfr fl λh4 hl4 u4=>?_;refine p6 hl4 λh5 hl5 u5=>?_;have I5:=inv h5 hl5.st (u4.trans u5);obtain⟨o5,he5,lk5⟩:=hl5.there;have hc5:o5.cls=.ref C:=lk5.cls.trans hc0;have nu:∀b u,H' b=aa u->b≠a:=λb u e z=>by rw[z,nH] at e;cases e
 have invx:∀h oh,B.StaysIn h->s2.heap.UpToSlots h->h.get? a=aa oh->Inv X pk σ (upd H' a (.frz oh (.own a))) { s2 with heap:=h }:=λh oh hB u g=>by
  have un6:=un.fly k hB (sl u);refine I1.call' os (ch:=[]) ⟨un6.keep,un6.slot,λb o e n hx=>?_,un6.there,λb xs e=>?_,λb o u e=>?_,λb ps e=>?_⟩ (λb u' e=>?_) bare (λ_ z=>nomatch z)
  ·rw[bB (λz=>by rw[z,na] at e;cases e)];exact un6.free b o e n hx
  ·rw[bB (nu b _ (un6.tups b xs e))];exact un6.tups b xs e
  ·rw[bB (nu b _ (un6.frzs b o u e))];exact un6.frzs b o u e
  ·obtain⟨m,q⟩:=un6.tbls b ps e;exact⟨m,by rw[bB (nu b _ q)];exact q⟩
  ·by_cases hb:b=a
   ·subst hb;rw[bT] at e;cases e;exact⟨g,_,g⟩
   ·rw[bB hb] at e;exact((inv h hB u).hok b u' e).stay (λ_ _ _ q=>q) (λc q=>by rw[bB (nu c _ q)];exact q) (λc xs q=>by rw[bB (nu c _ q)];exact q) λc xs q=>by rw[bB (nu c _ q)];exact q
 have I5x:=(invx h5 o5 hl5.st (u4.trans u5) he5).inx a ⟨o5,_,bT,lk5.mild hm0⟩;refine wpAny_handleBy_cons (codeAny_handlers_test (mM (X:=X.inx a) I5x hg hm ?_ hdb)) (λz=>nomatch z);have LT:wo (bz X.prog X.w) h5 (VW (.ref a)) (.ref C):=hc5 ▸ (Y5 he5).andThen .now;refine(W.exm_one I5.kIn LT hx).here (codeAny_handlers_suite_as ?_);refine p6 hl5 λh6 hl6 u6=>?_;obtain⟨o6,he6,lk6⟩:=hl6.there;have hc6:o6.cls=.ref C:=lk6.cls.trans hc0;have I7:=invx h6 o6 hl6.st ((u4.trans u5).trans u6) he6;refine rE (X:=X.inx a) (v:=.ref a) (I7.inx a ⟨o6,_,bT,lk6.mild hm0⟩) hN hi (.inl hk) rfl (λs7 I8=>?_) (.inr hk);refine gr (Yu a pk s7 _ _ (D.goes i) I8 (go a o6 nH hc6 lk6.dict (lk6.mild hm0))) (λf s8 q=>?_) λ_ _ z=>z.elim;cases f with
 |next=>
  obtain⟨σ',H'',I9,q⟩:=q;exact(I9.outx I1.ok).goes hN hi hk λs9 I10=>⟨_,_,I10,q⟩
 |brk=>
  obtain⟨σ',H'',I9,q⟩:=q;exact(I9.outx I1.ok).goes hN hi hk λs9 I10=>⟨_,_,I10,q⟩
 |cont=>
  obtain⟨σ',H'',I9,q⟩:=q;exact(I9.outx I1.ok).goes hN hi hk λs9 I10=>⟨_,_,I10,q⟩
 |ret u=>
  obtain⟨v,σ',H'',I9,r,q⟩:=q;exact(I9.outx I1.ok).goes hN hi hk λs9 I10=>⟨v,_,_,I10,r,q⟩
end
variable {fd:ke}{sp:Sp}
section
variable {k:Nat}{x:bv}{epos pos:lv}{t:TA}
theorem NM{c:bv}{YG:List ku}{to:TS}(hno:∀e s,¬X.xe e s)(F:FnOk X.prog X.w X.K X.mg X.base (iO X.prog X.w) k f fd ps sp)(hr:Room k X.A)(hg:Gl X x)
  (hm:X.mg x=aa (.ref f)) (hkp:qj X.K (.ref f)=ai) (hbd:iH X.K fd ps []) (ha:PA X (e::es) t)
  (hN:X.N.Nodup) (hi:X.N[i]?=aa n) (hk:X.env.scope.names.lookup n=aa .local) (hst:X.stack=X.env::X.outer) (hfr:X.env.frame=aa X.env.locals) (hgc:Gl X c) (hmc:X.mg c=aa (.ref C1))
  (hx:VH X.K (.ref C0) (.ref C1)=aa ai) (Yu:∀a,uT (X.inx a) (b0::hb) th) (hel:uT X YG to)
  (hdb:(x==("__debug__" : bv))=ao:=by decide) (hdc:(c==("__debug__" : bv))=ao:=by decide) (he:aw (e::es) X.env=(ao,gh e X.env)::aw es X.env:=by rfl) (hpl:(ir Yq (aw es X.env)).any (·.1)=ao:=by rfl)
  (hs:iu (.Call (.Name x p) (e::es) [] Yq) au epos.line X.env=jw ao:=by rfl):
  PS X (.Try [.Expr (.Call (.Name x p) (e::es) [] Yq) epos] [.ExceptHandler (aa (.Name c np)) (aa n) (b0::hb) YI] YG [] pos)
   (λD σ H=>t σ H λvs H1=>sp vs H1 (λ_ H2=>to D σ H2) (λcv dd H2=>∀C,cv=.ref C->C=C0 /\ ∀a o,H2 a=au->o.cls=.ref C0->o.dict=dd->mY o->th (D.goes i) (σ.set i (aa (.ref a))) (upd H2 a (.frz o (.own a))))):=by
 intro pk s σ H D I h;refine wpAny_Try_except (Ts (Us (ny (mM I hg hm ?_ hdb)) I.quiet hs));refine xm (h₀:=X.base) I.ok.mod.kin hkp (gr (ha Yq pk s σ H _ I h) (λus s1 z=>?_) λe s z=>(hno e s z).elim) he hpl;obtain⟨vs,H1,I1,r,q⟩:=z;refine⟨I1.kIn,?_⟩;have hl:us.length=ps.length:=by rw[<- r.length];exact F.len _ _ _ _ q
 have hb1:=hbd s1 us I1.kIn (by rw[gv];exact hl);rw[gv] at hb1;refine yb (qy (F.run X.A X.stack s1 H1 ⟨us,[]⟩ us vs _ _ hr I1.env0 hb1 r q) λr s2 hq=>?_);cases r with
 |error e=>
  dsimp only[CR] at hq;exact caught I1 hq hN hi hk hst hfr hgc hmc hx (λC dd H' z=>z C rfl) Yu hdc
 |ok fl=>
  cases fl with
  |ret u=>
   obtain⟨v,H2,I2,_,q2⟩:=I1.after hq;exact wu (hel pk s2 σ H2 D I2 q2)
  |next=>exact ie hq
  |brk=>exact ie hq
  |cont=>exact ie hq
end
structure ExcI(K:ak)(C:ae):Prop where
 cls:W4 K C=ai
 ga:jq K (.ref C) "__getattribute__" = aa (aa (.builtin "BaseException.__getattribute__"))
 gt:jq K (.ref C) "__getattr__" = aa au
 be:Vt K C (.type "BaseException")=aa ai
 ca:jq K (.ref C) "__class__" = aa (aa (.builtin "object.__class__"))
 sp:Uu K (.builtin "object.__class__") "__get__" = aa (aa (.builtin "getset_descriptor.__get__"))
 tk:VT K (.builtin "object.__class__")=aa ai
 ob:Vt K C (.type "object")=aa ai
def wP(x C:ae)(h:dk):Prop:=∃o,h.get? x=aa o/\o.cls=.ref C
section
open PySem.Calls PySem.Builtin PySem.Builtin.ObjectAttr PySem.Builtin.Getset_descriptor
variable {x:ae}
theorem wP.ty(o:wP x C h):wo M h (VW (.ref x)) (.ref C):=by
 obtain⟨ox,e,c⟩:=o;rw[<- c];exact(Y5 e).andThen .now
theorem Br{a g:af}(X:K.In h)(ha:jq K (.ref C) n=aa (aa a))(hg:Uu K a "__get__" = aa (aa g))(ht:VT K a=aa ai):
  wo M h (find (.ref x) (.ref C) n) (.bind g a):=by
 have l1:=ya (M:=M) X ha;have l2:wo M h (getOf (aa a)) (aa g):=W.looks_specialIn X hg;have l3:wo M h (dataDescriptor? (aa a) (aa g)) (aa (g,a)):=(W.looks_takesIn (M:=M) X ht).andThen .now;exact l1.andThen (l2.andThen (l3.andThen (wo.tag .now)))
theorem AQ{R:Xl->ah->Prop}{tp:af}(X:K.In s.heap)(o:wP x C s.heap)(hm:Vt K C (.type "object")=aa ai)(hR:R (.ok (.ret (.ref C))) s):
  zi (bz prog w) A (.call (.builtin "getset_descriptor.__get__") ⟨[.builtin "object.__class__",.ref x,tp],[]⟩) R s:=by
 obtain⟨hp,ge,dr,tk,os⟩:=s;have l0:wo (bz prog w) hp (VW (.ref x)) (.ref C):=o.ty;have l1:=V5 (M:=bz prog w) X hm;refine UE Xy.plain W.KF.entry_gs (Xy.check _ _ _ _ _ _ _ _ W.KF.type_class (W.KF.args_gs _ _ _) ?_);unfold su.«getset_descriptor.__get__»;unfold descrGet;rw[W.dga_obj];refine ad (aj ?_);unfold descrGetter;unfold descrCheckInstance;unfold descrNameAndClass;unfold xu;simp only[W.KF.owner_class]
 repeat lk
 refine⟨Code.quiet_builtin _ (by decide +kernel),Ub W.KF.entry_class ?_⟩;unfold su.«object.__class__»;unfold shownTypeOf
 repeat lk
 exact hR
theorem JD{R:Fin->ah->Prop}{tk:Yg}(X:K.In s.heap)(o:wP x C s.heap)(c:ExcI K C)(hR:R (.done (.ret (.ref C))) s):bt (bz prog w) A (su.«object.__getattribute__» ⟨[.ref x,.str "__class__" tk],[]⟩) R E s:=by
 obtain⟨hp,g,d,t,os⟩:=s;have l0:wo (bz prog w) hp (VW (.ref x)) (.ref C):=o.ty;have l3:=Br (M:=bz prog w) (x:=x) X c.ca c.sp c.tk;unfold su.«object.__getattribute__»;refine ad (aj (ad (aj (ad (l0.at (ad (l3.at ?_)))))));show bt _ _ (bindTo _ _ _ _) _ _ _;unfold bindTo;refine ad (jd (yb (AQ X o c.ob ?_)));exact aj hR
theorem JE{nv:af}(X:K.In s.heap)(o:wP x C s.heap)(c:ExcI K C)(hQ:Q () s):bt (bz prog w) A (W5 "BaseException.__getattribute__" ⟨[.ref x,nv],[]⟩) Q E s:=by
 obtain⟨hp,g,d,t,os⟩:=s;have l0:wo (bz prog w) hp (VW (.ref x)) (.ref C):=o.ty;have l4:=V5 (M:=bz prog w) X c.be;have k1:builtinKind "BaseException.__getattribute__" = aa .slot:=by decide +kernel
 have k2:splitId "BaseException.__getattribute__" = aa ("BaseException", "__getattribute__"):=by decide +kernel
 have k3:=PySem.F.args_bexc_ga (.ref x) nv;simp only[W5,k1,k2];refine ad ?_;unfold xu;refine ad (l0.at (l4.at ?_))
 repeat (any_goals (first | assumption | wp_step))
theorem wN{Q:Option af->ah->Prop}(X:K.In s.heap)(o:wP x C s.heap)(c:ExcI K C)(hQ:Q (aa (.ref C)) { s with toks:=s.toks+1 }):bt (bz prog w) A (getAttr? (.ref x) "__class__") Q E s:=by
 obtain⟨hp,g,d,t,os⟩:=s;have l0:wo (bz prog w) hp (VW (.ref x)) (.ref C):=o.ty;have l1:=ya (M:=bz prog w) X c.ga;have l2:=ya (M:=bz prog w) X c.gt;have l4:=V5 (M:=bz prog w) X c.be;have ne:(V4 "BaseException.__getattribute__" == V4 "object.__getattribute__")=ao:=by decide +kernel
 unfold getAttr?;unfold getAttrBy?;unfold getAttrBy;refine ad (wpAny_mkText (ad (lx (jd (ad (l0.at (ad (l1.at ?_))))))));dsimp only;rw[ne,Uy,XQ jj];unfold getAttrByItsOwn;unfold hookBefore;rw[Yh (show onTheHeap (Value.ref C)=ai from rfl)];refine ad (l2.at ?_);refine ad (lx (jd ?_));unfold callGetattribute;rw[XQ (by simp)];unfold boundAndCalled;refine ad (wpAny_of_eq (Tz.ga.bind (.ref x)) ?_);refine yb (UE Tz.ga.plain PySem.F.entry_bexc_ga ?_);refine JE X o c (JD X o c ?_);exact W.handed_on rfl (aj hQ)
theorem EW(c:ExcI K C):W.KitX K (.ref x) (.ref C) (wP x C) where
 ty:=λ_ _ _ o=>o.ty
 it:=λ_ _ X _=>by
  have cl:=c.cls;unfold W4 W.clsIn at cl;split at cl
  ·rename_i ho;intro A1 Q1 E1 s1 kp z;unfold isType loadHead;exact ad (WI (kp _ _ (X _ _ ho)) (aj z))
  ·cases cl
 ne:=λh tp dd its m sl X htp=>by
  have cl:=c.cls;refine Bool.eq_false_iff.mpr λz=>?_;have e:C=tp:=Value.ref.inj (beq_iff_eq.mp z);subst e;unfold W4 W.clsIn at cl;split at cl
  ·rename_i ho;cases (X _ _ ho).symm.trans htp
  ·cases cl
 ca:=λX o k=>wN X o c k
end
def Pi(K:ak):List V->Hp->VK->Prop:=λxs H Q=>∃(a C C':ae) (o:jv) (u:HO) (b:Bool),xs=[.ref a,.ref C']/\H a=aa (.frz o u)/\o.cls=.ref C/\ExcI K C/\rh K (.ref C) (.ref C')=aa b/\Q (.bl b) H
theorem GN:fM X (.builtin "isinstance") (Pi X.K):=by
 intro pk s σ H xs us Q I r h;obtain⟨a,C,C',o,u,b,rfl,ha,hc,ci,kb,q⟩:=h;obtain⟨u1,u2,rfl,r1,r2⟩:=Ah r;cases r1;cases r2;obtain⟨ho,_⟩:=(show cI X.prog X.w H s.heap a (.frz o u) from I.hok a _ ha);exact ot (EW ci) I.kIn ⟨o,ho,hc⟩ kb (λz=>nomatch z) λtk=>⟨.bl b,H,I.tok tk,rfl,q⟩
section
variable {k:Nat}{E:XK}{x:bv}{pos:lv}{t:TA}
end
end L2
namespace Z
open L2
abbrev yU:=ae×Option Int
abbrev yT:=List Dv->(R->Prop)->(yU->Prop)->Prop
inductive lowX(K:ak)(sp:yT)(vs:List V)(H:Hp)(Q:VK)(E:XK):Prop
 |mk (F:ae->Prop) (ds:List Dv) (Ψ:yU->Prop) (hF:OldF K F H) (r:Reps K F H vs ds) (q:sp ds (λr=>∀x H',aO H H'->eD K F yS H x r H'->Q x H') Ψ) (hE:∀C p dd H',Ψ (C,p)->aO H H'->tX H' p dd->E (.ref C) dd H')
structure MonoX(sp:yT):Prop where
 mo:∀ds (Q Q':R->Prop) (Ψ Ψ':yU->Prop),(∀r,Q r->Q' r)->(∀C,Ψ C->Ψ' C)->sp ds Q Ψ->sp ds Q' Ψ'
structure DefX(P:az)(w:bw)(K:ak)(mg:bv->Option af)(base:dk)(k:Nat)(x:bv)(ps:List bv)(sp:Sp):Prop where
 ex:∃f fd,mg x=aa (.ref f)/\qj K (.ref f)=ai/\iH K fd ps []/\FnOk P w K mg base (iO P w) k f fd ps sp
structure QxS(X:Cx)(HZ:Hp)(F:ae->Prop)(st:ku)(t:cE):Prop where
 mono:∀E E' ρ,EnLe E E'->t E ρ->t E' ρ
 run:PS X st (liftS X.K HZ F t)
structure QxB(X:Cx)(HZ:Hp)(F:ae->Prop)(sts:List ku)(t:cE):Prop where
 mono:∀E E' ρ,EnLe E E'->t E ρ->t E' ρ
 run:uT X sts (liftS X.K HZ F t)
variable {st:ku}
section
variable {sts a b:List ku}{t u:cE}{c:Expr}{tc:n6}{pos:lv}
theorem QS.x(h:QS X st t):QxS X HZ F st t:=⟨h.mono,h.run HZ F⟩
theorem QSs.x(h:QSs X sts t):QxB X HZ F sts t:=⟨h.mono,h.run HZ F⟩
theorem Ag(h:QxS X HZ F st t):QxB X HZ F [st] t:=⟨h.mono,Dt h.run⟩
theorem uU(h1:QxS X HZ F st t)(h2:QxB X HZ F sts u):QxB X HZ F (st::sts) (aV t u):=by
 refine⟨λE E' ρ w h=>h1.mono _ _ _ (w.with_nx λρ h=>h2.mono _ _ _ w h) h,uS (B9 h1.run h2.run) λD σ H z=>?_⟩;obtain⟨ρ,E,fr,h,en⟩:=z;exact⟨ρ,_,fr,h,λρ' σ' H' fr' h'=>⟨ρ',E,fr',h',en⟩,en.bk,en.ct,en.rt⟩
theorem Ov(hc:QT X c tc)(ha:QxB X HZ F a t)(hb:QxB X HZ F b u):QxS X HZ F (.If c a b pos) (jI tc t u):=by
 refine⟨λE E' ρ w h=>hc.mono _ _ _ (λk q=>?_) h,dQ (M9 (hc.run HZ F) ha.run hb.run) λD σ H z=>?_⟩
 ·cases k with
  |true=>exact u9 (ha.mono _ _ _ w (by simpa using q))
  |false=>exact uA (hb.mono _ _ _ w (by simpa using q))
 ·obtain⟨ρ,E,fr,h,en⟩:=z;refine hc.step fr h λk H1 q S1=>?_;cases k with
  |true=>exact u9 ⟨ρ,E,fr.mono S1,by simpa using q,en⟩
  |false=>exact uA ⟨ρ,E,fr.mono S1,by simpa using q,en⟩
end
def zD(Ψ:yU->Prop)(C:ae)(ts:lP):cE:=λ_ ρ=>ts ρ λrs=>rs.length<=1000/\Ψ (C,au)
theorem kB.len{K:ak}{M:ae->Prop}{O:ae->Dv->Prop}{H H':Hp}:∀{xs:List V} {rs:List R},kB K M O H xs rs H'->xs.length=rs.length
 |_,_,.nil=>rfl
 |_,_,.cons _ t=>by rw[cg,cg,kB.len t]
section
variable {cd:af}{s0:ah}{H0:Hp}{E:XK}
end
theorem At.okX{k:Nat}{x nm:bv}{sp:yT}{t:(yU->Prop)->cE}(a:At K mg x nm st ps)(S:FnScope N ps (aI st))
  (hq:∀(f:ae) (cdv:af) (A:dh) (outer:List zd) (s:ah) (H:Hp) (E:XK) (F:ae->Prop) (Ψ:yU->Prop),Room k (A.deeper (tu nm (aI st) s.heap.objs.size f cdv))->(∀C p dd H',Ψ (C,p)->aO H H'->tX H' p dd->E (.ref C) dd H') ->
   QxB (cK (iO P w) P w K mg base N nm (aI st) f cdv A outer s H E) H F (eF st) (t Ψ))
  (len:∀ds Q Ψ,sp ds Q Ψ->ds.length=ps.length) (hsp:∀ds Q Ψ,sp ds Q Ψ->t Ψ ↥Q (aM N ds)):DefX P w K mg base (k+1) x ps (lowX K sp):=by
 obtain⟨f,fd,hm,F,hb⟩:=a.ex;obtain⟨oc,od,kV,doc,pm,an,cdv,ct,osl,rfl,lk,hcd⟩:=F.ex;refine⟨f,_,hm,F.kp,hb,MX lk hcd S (λvs H Q E z=>?_) λA outer s H vs Q E hr z=>?_⟩
 ·obtain⟨F,ds,Ψ,hF,r,q,hE⟩:=z;rw[r.length];exact len _ _ _ q
 ·obtain⟨F,ds,Ψ,hF,r,q,hE⟩:=z;exact⟨_,(hq f cdv A outer s H E F Ψ hr hE).run,aM N ds,_,Aq hF r,hsp ds _ Ψ q,λρ σ H' fr q=>q .non H' fr.same Rep.non,λ_ _ _ _ z=>z.elim,λ_ _ _ _ z=>z.elim,λrr x H' S rx q=>q x H' S rx⟩
abbrev En.goes(E:En)(i:Nat):En:={ nx:=λρ=>E.nx (ρ.set i .un),rt:=E.rt,bk:=λρ=>E.bk (ρ.set i .un),ct:=λρ=>E.ct (ρ.set i .un) }
def NA(C0:ae)(i:Nat)(sp:yT)(ts:lP)(th to:cE):cE:=λE ρ=>ts ρ λrs=>sp (rs.map R.d) (λ_=>to E ρ) (λx=>x.1=C0/\th (E.goes i) (ρ.set i (.v (.exc C0 x.2))))
theorem EnLe.goes{E E':En}(w:EnLe E E')(i:Nat):EnLe (E.goes i) (E'.goes i):=⟨λ_ h=>w.nx _ h,w.rt,λ_ h=>w.bk _ h,λ_ h=>w.ct _ h⟩
theorem Ent.goes{K:ak}{HZ:Hp}{F:ae->Prop}{E:En}{D:Ends}(en:Ent K HZ F E D)(i:Nat):Ent K HZ F (E.goes i) (D.goes i):=
 ⟨λ_ _ _ fr h=>en.nx _ _ _ fr.setu h,λ_ _ _ fr h=>en.bk _ _ _ fr.setu h,λ_ _ _ fr h=>en.ct _ _ _ fr.setu h,en.rt⟩
section
variable {k:Nat}{sp:yT}{x:bv}{epos pos:lv}
theorem Pk{c n:bv}{b0:ku}{hb YG:List ku}{YI np:lv}{th to:cE}{C0 C1:ae}(hno:∀e s,¬X.xe e s)(d:DefX X.prog X.w X.K X.mg X.base k x ps (lowX X.K sp))(mo:MonoX sp)(hr:Room k X.A)(ha:QA X (e::es) ts)
  (hN:X.N.Nodup) (hmc:X.mg c=aa (.ref C1)) (hx:VH X.K (.ref C0) (.ref C1)=aa ai) (Yu:∀a,QSs (X.inx a) (b0::hb) th) (hel:QSs X YG to)
  (hi:X.N[i]?=aa n:=by rfl) (hk:X.env.scope.names.lookup n=aa .local:=by rfl) (hst:X.stack=X.env::X.outer:=by rfl) (hfr:X.env.frame=aa X.env.locals:=by rfl) (hg:Gl X x:=by rfl) (hgc:Gl X c:=by rfl)
  (hdb:(x==("__debug__" : bv))=ao:=by decide) (hdc:(c==("__debug__" : bv))=ao:=by decide) (he:aw (e::es) X.env=(ao,gh e X.env)::aw es X.env:=by rfl) (hpl:(ir Yq (aw es X.env)).any (·.1)=ao:=by rfl)
  (hs:iu (.Call (.Name x p) (e::es) [] Yq) au epos.line X.env=jw ao:=by rfl):
  QS X (.Try [.Expr (.Call (.Name x p) (e::es) [] Yq) epos] [.ExceptHandler (aa (.Name c np)) (aa n) (b0::hb) YI] YG [] pos) (NA C0 i sp ts th to):=by
 obtain⟨f,fd,hm,hkp,hbd,FO⟩:=d.ex;refine⟨λE E' ρ w h=>ha.mono _ _ _ (λrs q=>mo.mo _ _ _ _ _ (λ_ q=>hel.mono _ _ _ w q) (λC q=>⟨q.1,(Yu 0).mono _ _ _ (w.goes i) q.2⟩) q) h,λHZ F=>dQ (NM (th:=liftS X.K HZ F th) (to:=liftS X.K HZ F to) hno FO hr hg hm hkp hbd (ha.run HZ F) hN hi hk hst hfr hgc hmc hx (λa=>(Yu a).run HZ F) (hel.run HZ F) hdb hdc he hpl hs) λD σ H z=>?_⟩;obtain⟨ρ,E,fr,h,en⟩:=z;refine ha.step fr h λrs xs H1 q S1 r1=>?_;have fr1:=fr.mono S1;refine⟨lent (MM F ρ) rs,_,λx=>x.1=C0/\th (E.goes i) (ρ.set i (.v (.exc C0 x.2))),⟨λa z=>fr1.dom z.1,fr1.tab⟩,lF fr (λ_ h=>h) r1,mo.mo _ _ _ _ _ (λr q x H' S rx=>?_) (λC q=>q) q,λC p dd H2 q S2 py=>?_⟩
 ·exact⟨ρ,E,fr1.mono S,q,en⟩
 ·intro C' ec;cases ec;refine⟨q.1,λa o hn hc hd hm=>?_⟩;have S3:aO H2 (upd H2 a (.frz o (.own a))):=aO.new' hn;exact⟨_,_,((fr1.mono S2).mono S3).setv (.exc ⟨o,_,bT,hc,by rw[hd];exact py.gen λb o u e=>S3 b _ e,hm⟩),q.2,en.goes i⟩
end
section
variable {k:Nat}{x:bv}{pos:lv}
def El(K:ak)(C':ae)(te:dB):dB:=λρ Q=>te ρ λr=>match r.d with
 | .exc C _=>ExcI K C /\ ∃b,rh K (.ref C) (.ref C')=aa b/\Q (.v (.bl b))
 |_=>False
theorem Gv{y:bv}{C':ae}{p2:lv}(hg:Gl X "isinstance")(hm:X.mg "isinstance" = au)(ha:QE X e te)(hmy:X.mg y=aa (.ref C'))(hgy:Gl X y:=by rfl)(hdy:(y==("__debug__" : bv))=ao:=by decide)
  (he:aw [e,.Name y p2] X.env=(ao,gh e X.env)::aw [.Name y p2] X.env:=by rfl) (he2:aw [Xh y p2] X.env=(ao,gh (.Name y p2) X.env)::aw [] X.env:=by rfl) (hpl:(ir pos (aw [.Name y p2] X.env)).any (·.1)=ao:=by rfl):
  QE X (.Call (.Name "isinstance" p) [e,.Name y p2] [] pos) (El X.K C' te):=by
 refine⟨λρ Q Q' w q=>ha.mono _ _ _ (λr q=>?_) q,λHZ F=>cU (rQ GN hg hm U8 (iP (ha.run HZ F) (iP (Dx (v:=.ref C') hgy hmy rfl hdy) qA he2) he) ∅ ∅ he hpl) λσ H Q z=>?_⟩
 ·generalize r.d=d at q ⊢;cases d with
  |exc C p=>
   obtain⟨ci,b,kb,q⟩:=q;exact⟨ci,b,kb,w _ q⟩
  |_=>exact q.elim
 ·obtain⟨ρ,fr,h⟩:=z;refine ha.step fr h λr x H1 q S1 r1=>?_;have cx:=r1.c;generalize r.d=d at q cx;cases d with
  |exc C p=>
   obtain⟨ci,b,kb,q⟩:=q;obtain⟨a,rfl,o,u,ea,hc,_⟩:=cx.exc;exact⟨a,C,C',o,u,b,rfl,ea,hc,ci,kb,q _ H1 S1 (Rep.bl _)⟩
  |_=>exact q.elim
end
end Z
namespace L2
end L2
namespace Z
open L2
section
variable {l o:Expr}{tl to:dB}{pos Yt:lv}
end
end Z
namespace L2
open PySem PySem.Spec PySem.W PyProof.Rows Tim
variable {es:Array lq}{ep:Nat}
theorem Lj{its:List Jn}{k:Nat}(two:2<=(its.map λt=>Value.ref t.1).length)(YF:∀t∈its,t.2.1.length=k+1)(hd:its.Pairwise (λt u=>t.2.1≠u.2.1))
  (tup:∀t∈its,∃(o:jv) (a b:List af) (n:Nat),s.heap.get? t.1=aa o/\o.cls=.type "tuple" /\ o.data=.seq (a++b).toArray n/\uu a t.2.1) (far:∀t∈its,t.1≠a):
  Cmp prog w s a (its.map λt=>Value.ref t.1) (λi j=>gW (its.getD i (0,[],[])).2.1 (its.getD j (0,[],[])).2.1) (tuples' ai):=by
 have len:(its.map λt=>Value.ref t.1).length=its.length:=by simp
 let num:Nat->List Int:=λi=>(its.getD i (0,[],[])).2.1
 have get:∀i,i<its.length->(its.map λt=>Value.ref t.1).getD i gc=Value.ref (its.getD i (0,[],[])).1:=λi hi=>by simp[hi]
 have mem:∀i,i<its.length->its.getD i (0,[],[])∈its:=λi hi=>by
  rw[fw,av hi];exact fq hi
 have ne:∀i j,i<its.length->j<its.length->i≠j->num i≠num j:=λi j hi hj n=>by
  have e:∀i,i<its.length->num i=(its[i]!).2.1:=λi hi=>by simp[num,hi]
  have pw:=da.mp hd;have ei:its.getD i (0,[],[])=its[i]:=by simp[hi]
  have ej:its.getD j (0,[],[])=its[j]:=by simp[hj]
  show (its.getD i (0,[],[])).2.1≠(its.getD j (0,[],[])).2.1;rw[ei,ej];rcases ue n with z | z
  ·exact pw i j hi hj z
  ·exact(pw j i hj hi z).symm
 refine⟨y8 num,λA h Q' hk q'=>?_,λA h i j C hk hi hj hn q'=>?_⟩
 ·have go:∀l:List Jn,(∀t∈l,t∈its) -> ∃fs:List af,KatTups h (l.map λt=>Value.ref t.1) fs/\fs.length=l.length /\ ∀v∈fs,∃x y,v=Value.int x y:=by
   intro l;induction l with
   |nil=>intro _;exact⟨[],.nil,rfl,λv hv=>by cases hv⟩
   |cons t r ih=>
    intro hm;obtain⟨fs,kt,e,al⟩:=ih λu hu=>hm u (df _ hu);have ht:=hm t (di ..);obtain⟨o,a,b,n,ho,hc,hd',ia⟩:=tup t ht;obtain⟨x,Yl,ex⟩:∃x Yl,t.2.1=x::Yl:=by
     have:=YF t ht;cases e':t.2.1 with
     |nil=>rw[e'] at this;cases this
     |cons x Yl=>exact⟨x,Yl,rfl⟩
    rw[ex] at ia;cases ia with
    |cons _ y ia'=>
     refine⟨Value.int x y::fs,KatTups.cons (hk _ _ (far t ht) ho) hc hd' (by simp) kt,by simp[e],λv hv=>?_⟩;rcases dj.mp hv with rfl | hv
     ·exact⟨x,y,rfl⟩
     ·exact al v hv
  obtain⟨fs,kt,e,al⟩:=go its λ_ h=>h;refine kat_kind (s:={ s with heap:=h }) (T:=.type "int") kt (by rw[e];simp at two;right) (λv hv=>?_) ∅ q';obtain⟨x,y,rfl⟩:=al v hv;exact Looks.of_pure rfl
 ·rw[len] at hi hj;rw[get i hi,get j hj];obtain⟨o,a,b,n,ho,hc,hd',ia⟩:=tup _ (mem i hi);obtain⟨o2,a2,b2,n2,ho2,hc2,hd2,ia2⟩:=tup _ (mem j hj);refine kat_lt (s:={ s with heap:=h }) (hk _ _ (far _ (mem i hi)) ho) hd' (hk _ _ (far _ (mem j hj)) ho2) hd2 ?_;exact vW _ _ a a2 b b2 0 ia ia2 (by rw[YF _ (mem i hi),YF _ (mem j hj)]) (ne i j hi hj hn) q'
theorem Ent.keep{h':dk}{d:ae}(x:Ent h d es ep)(k:∀o,h.get? d=aa o->h'.get? d=aa o):Ent h' d es ep:=by
 obtain⟨⟨o,g,r⟩⟩:=x;exact⟨⟨o,k o g,r⟩⟩
theorem Ent.lt{d:ae}(x:Ent h d es ep):d<h.objs.size:=by
 obtain⟨⟨o,g,r⟩⟩:=x;exact bg g
theorem G8(hh:A.handled=au)(I d:ae)(hne:d≠I)(es:Array lq)(ep:Nat):
  Walks prog w A I [I,d] [I] es.size (λi v=>∃en,es[i]?=aa en/\v=en.key) (λi h=>h.IsKeyIter I d i es.size ep/\Ent h d es ep) where
 sub:=λb hb=>by rw[eo.mp hb];exact di ..
 frame:=λi h h' st k=>⟨st.1.at λo e=>k I (by simp) o e,st.2.keep λo e=>k d (by simp) o e⟩
 item:=λi s Q E hi st q=>by
  have hx:es[i]?=aa es[i]:=ui hi;exact EX st.1 st.2 rfl hx λh' st' sb=>q _ h' s.toks ⟨_,hx,rfl⟩ ⟨st',st.2.keep λo e=>(sb.2 d hne).trans e⟩ λb o hb e=>(sb.2 b (by simpa using hb)).trans e
 done:=λs Q E st q=>Id (.inl hh) st.1 st.2 rfl (br _) λh' eb=>q h' s.toks λb o hb e=>eb b o (by simpa using hb) e
 self:=λi s Q E st q=>UD st.1 q
theorem Lc{d:ae}(lo:(d==ji)=ao):W.KdlSrc prog w "dict" d d es.size (λi v=>∃en,es[i]?=aa en/\v=en.key) (λh=>Ent h d es ep) where
 type:=λs x=>by
  obtain⟨⟨o,g,ex,_⟩⟩:=x;exact⟨o,g,ex.1⟩
 there:=λh x=>⟨x.lt,x.lt⟩
 keep:=λh h' x k=>x.keep λo e=>k d (.inl rfl) o e
 notList:=by decide
 notTuple:=by decide
 hint:=λA E s Q x q=>W.kdl_hint_dict (by obtain⟨⟨o,g,ex,_⟩⟩:=x;exact⟨o,g,ex.1⟩) q
 iter:=λA s hh x=>⟨_,_,λE Q q=>EY lo x q,G8 hh _ d (gn x.lt) es ep,⟨_,cj _ rfl,rfl,rfl⟩,x.keep λo e=>ap _ e⟩
theorem JU{T:String}{r d:ae}{P:Nat->af->Prop}{OK:dk->Prop}{R:List af->ah->Prop}(K:W.KdlSrc prog w T r d n P OK)(hq:A.handled=au)(ok:OK s.heap)(le:n<=bu)
  (fin:∀(h1:dk) (tk:Nat) (acc:Array af),(∀b o,s.heap.get? b=aa o->h1.get? b=aa o)->s.heap.objs.size<h1.objs.size->ItemsOf P acc n->R acc.toList { s with heap:=h1,toks:=tk }):bt (bz prog w) A (collect (.ref r)) R E s:=by
 obtain⟨l1,l2⟩:=K.there _ ok
 let N:=s.heap.objs.size
 let hN:=s.heap.push { cls:=.type "list",data:=.seq ([]:List af).toArray }
 have oN:hN.get? N=aa { cls:=.type "list",data:=.seq #[] }:=cj _ rfl;have up:∀b o,s.heap.get? b=aa o->hN.get? b=aa o:=λb o e=>ap _ e
 let G:Xl->ah->Prop:=λq s2=>∃(h1:dk) (tk:Nat) (acc:Array af) (c:Nat),q=.ok (.ret (.ref N))/\s2={ s with heap:=h1,toks:=tk }/\(∀b o,s.heap.get? b=aa o->h1.get? b=aa o)/\h1.get? N=aa { cls:=.type "list",dict:=au,data:=.seq acc c,slots:=#[] }/\ItemsOf P acc n
 have gone:=W.kdl_extend (A:=A) (s:={ s with heap:=hN }) (R:=G) K hq (K.keep _ _ ok λb _ o e=>up b o e) N (Um l1) (Um l2) (.ref N) 0 oN
  (λh1 tk acc c k g it=>⟨h1,tk,acc,c,rfl,rfl,λb o e=>k b o (gn (bg e)) (up b o e),g,it⟩) le
 have last:∀(h1:dk) (tk:Nat) (acc:Array af) (c:Nat),(∀b o,s.heap.get? b=aa o->h1.get? b=aa o)->h1.get? N=aa { cls:=.type "list",dict:=au,data:=.seq acc c,slots:=#[] }->ItemsOf P acc n ->
   bt (bz prog w) A (do let o <- load N;match o.data with | .seq xs _=>jw xs.toList | _=>unsupported "internal:collect") R E { s with heap:=h1,toks:=tk }:=λh1 tk acc c k g it=>
  ad (WB g (aj (fin h1 tk acc k (bg g) it)))
 unfold collect;refine ad (wpAny_runValue (Ub PySem.F.entry_proto_collect ?_));rw[UF PySem.F.plain_proto_collect _];refine ad (m:=newList []) (ig (aj ⟨plainId_quiet TK _,Ub PySem.F.entry_list_iadd ?_⟩));rw[UF TK _];refine gr gone (λfin2 s2 z=>?_) λe s2 z=>?_
 ·cases fin2 with
  |done f=>obtain⟨h1,tk,acc,c,e,rfl,k,g,it⟩:=z;cases e;exact last h1 tk acc c k g it
  |again c1=>exact⟨z.1,qy z.2 λq s3 y=>by obtain⟨h1,tk,acc,c,rfl,rfl,k,g,it⟩:=y;exact last h1 tk acc c k g it⟩
 ·obtain⟨_,_,_,_,z,_⟩:=z;cases z
theorem OE{xs:List (List bW×ae×af)}(r:KT H kvs xs){kns:List (List Int)}(hk:kvs.map (·.1)=kns.map λl=>l.map iw):
  ∃its:List Jn,its.map (·.2.1)=kns/\xs.map (λq=>Value.ref q.2.1)=its.map (λt=>Value.ref t.1)/\(∀t∈its,H t.1=aa (.tup (t.2.1.map V.int))/\t.2.2=[])/\xs.map (·.1)=kns.map λl=>l.map iw:=by
 induction r generalizing kns with
 |nil=>
  cases kns with
  |nil=>exact⟨[],rfl,rfl,λt ht=>(pf ht).elim,rfl⟩
  |cons _ _=>cases hk
 | @cons p q ps qs h t ih=>
  cases kns with
  |nil=>cases hk
  |cons l kns=>
   rw[cr,cr] at hk;injection hk with h1 h2;obtain⟨its,e1,e2,e3,e4⟩:=ih h2;refine⟨(q.2.1,l,[])::its,by rw[cr,e1],by rw[cr,cr,e2],λt ht=>?_,by rw[cr,cr,e4,<- h.1,h1]⟩;rcases dj.mp ht with rfl | ht
   ·refine⟨?_,rfl⟩;have:=h.2.1;rw[h1,ju] at this;exact this
   ·exact e3 t ht
end L2
namespace L2
end L2
namespace Z
open L2
section
variable {a b c d:Expr}{ta tb tc td:dB}{pos:lv}
end
end Z
namespace L2
end L2
namespace Z
open L2
section
variable {a b c d:Expr}{ta tb tc td:dB}{pos:lv}
theorem RepT.keys(r:RepT K M H xs ds):xs.map (·.1)=ds.map (·.1):=
 r.ind (P:=λxs ds=>xs.map (·.1)=ds.map (·.1)) rfl λ_ _ _ _ _ _ _ ih=>by rw[cr,cr,ih]
end
section
variable {pos:lv}
end
end Z
namespace L2
section
variable {r:af}
end
end L2
namespace L2
open PySem.MeetsSeq PySem.SeqAt
end L2
namespace Z
open L2
end Z
namespace L2
variable {s2 s0:ah}{cd:af}{H0:Hp}{E:XK}
section
variable {E':XK}
theorem Ot{e:af}(I:Inv (cK (iO P w) P w K mg base N Yj Yi f cd A outer s0 H0 E) pk σ H s)
  (cx:iO P w (cK (iO P w) P w K mg base N Yj Yi f cd A outer s0 H0 E).stack H s E' e s2) (hE:∀C dd H',E' (.ref C) dd H'->E (.ref C) dd H'):(cK (iO P w) P w K mg base N Yj Yi f cd A outer s0 H0 E).xe e s2:=by
 obtain⟨a,o0,C,H',B,rfl,os,bare,un,hok,fl,k,na,nH,hE',hc0,hm0⟩:=cx;have nfr:∀b∈frs (cK (iO P w) P w K mg base N Yj Yi f cd A outer s0 H0 E).stack,H' b=au:=λb hb=>by
  obtain⟨_,o,q,_⟩:=I.stack.mem hb;exact un.free b o q (I.stkFree b hb) (λz=>nomatch z)
 have I2:Inv (cK (iO P w) P w K mg base N Yj Yi f cd A outer s0 H0 E) pk σ H' s2:=I.call' os un hok bare (λ_ z=>nomatch z);have mem:∀b,b∈frs (cK (iO P w) P w K mg base N Yj Yi f cd A outer s0 H0 E).stack->b=(tu Yj Yi s0.heap.objs.size f cd).locals \/ b∈frs outer:=λb hb=>dj.mp (I.stkSub b hb);have k1:∀b o,s2.heap.get? b=aa o->b ∉ frs outer->(H' b≠au \/ ∃u,s0.heap.get? b=aa u)->B.get? b=aa o:=λb o q nb hc=>by
  refine k b o q (λhm=>?_) ?_
  ·rcases mem b hm with z | z
   ·rcases hc with hc | ⟨u,hu⟩
    ·exact hc (nfr b hm)
    ·have h1:b<s0.heap.objs.size:=bg hu;have h2:s0.heap.objs.size<=b:=by rw[z];exact I.ok.above
     exact absurd (fg h1 h2) (qh _)
   ·exact nb z
  ·rcases hc with hc | ⟨u,hu⟩
   ·exact .inl hc
   ·exact .inr (I.base.there b u hu (λz=>nomatch z))
 refine OL I.ok.frames rfl fl λh' fl' u'=>?_;have sl:∀b∈frs outer,∀o,s2.heap.get? b=aa o -> ∃z,h'.get? b=aa { o with slots:=z }:=λb hb o q=>by
  obtain⟨_,o',q',nf⟩:=I2.funs.mem hb;rw[q] at q';cases q';exact u' b o q nf
 refine⟨a,o0,C,H',B,rfl,os.trans I.os,bare,Un.fly I2.base k1 fl'.st sl,lN.fly (fs:=frs outer) I2.hok (λb hb=>?_) k1 fl'.st,fl',λb o q nb hc=>?_,?_,nH,hE C _ H' hE',hc0,hm0⟩
 ·obtain⟨_,o,q,_⟩:=I.ok.funs.mem hb;exact I2.base.free b o q (I.ok.frf b hb) (λz=>nomatch z)
 ·have:∃o',s2.heap.get? b=aa o':=by
   rcases hc with hc | ⟨u,hu⟩
   ·cases q:H' b with
    |none=>exact(hc q).elim
    |some v=>exact(I2.hok b v q).at
   ·exact I2.base.there b u hu (λz=>nomatch z)
  obtain⟨o',q2⟩:=this;have q3:=k1 b o' q2 nb hc;have q4:=fl'.st b o' q3;rw[q] at q4;cases q4;exact q3
 ·cases q:s0.heap.get? a with
  |none=>rfl
  |some o=>
   obtain⟨o',q'⟩:=I.base.there a o q (λz=>nomatch z);rw[na] at q';cases q'
end
section
variable {s1:ah}{e:af}{D:Ends}
end
variable {fd:ke}{sp:Sp}
section
variable {k:Nat}{x:bv}{epos pos:lv}{t:TA}
end
section
variable {fa:ae}{E0:XK}
variable {k:Nat}{x:bv}{pos:lv}{t:TA}
end
end L2
namespace Z
open L2
variable {tb:cE}{Yv:List ku}
section
variable {cd:af}{s0:ah}{H0:Hp}{E:XK}{Ψ:yU->Prop}
theorem Af{x:bv}{np pos:lv}(hS:∀H',aO HZ H'->aO H0 H')(hh:(A.deeper (tu Yj Yi s0.heap.objs.size f cd)).handled=au)(hE:∀C p dd H',Ψ (C,p)->aO H0 H'->tX H' p dd->E (.ref C) dd H')
  (hm:mg x=aa (.ref C)) (q:Dc K C) (hg:Gl (cK (iO P w) P w K mg base N Yj Yi f cd A outer s0 H0 E) x) (ha:QA (cK (iO P w) P w K mg base N Yj Yi f cd A outer s0 H0 E) (e::es) ts)
  (hdb:(x==("__debug__" : bv))=ao:=by decide) (he:aw (e::es) (cK (iO P w) P w K mg base N Yj Yi f cd A outer s0 H0 E).env=(ao,gh e (cK (iO P w) P w K mg base N Yj Yi f cd A outer s0 H0 E).env)::aw es (cK (iO P w) P w K mg base N Yj Yi f cd A outer s0 H0 E).env:=by rfl)
  (hpl:(ir Yq (aw es (cK (iO P w) P w K mg base N Yj Yi f cd A outer s0 H0 E).env)).any (·.1)=ao:=by rfl):
  QxS (cK (iO P w) P w K mg base N Yj Yi f cd A outer s0 H0 E) HZ F (.Raise (aa (.Call (.Name x np) (e::es) [] Yq)) au pos) (zD Ψ C ts):=by
 refine⟨λE E' ρ w h=>h,dQ (HE (X:=cK (iO P w) P w K mg base N Yj Yi f cd A outer s0 H0 E) (Ψ:=λH1=>E (.ref C) au H1) hh hm hg q (ha.run HZ F) (λpk σ H s h' a us I m p=>Jp I m p) hdb he hpl) λD σ H z=>?_⟩;obtain⟨ρ,E',fr,h,en⟩:=z;refine ha.step fr h λrs xs H1 q1 S1 r1=>⟨?_,hE C au au H1 q1.2 (hS _ (fr.same.trans S1)) trivial⟩;rw[r1.len];exact ly q1.1 ∅
theorem Ls{iter:Expr}{ti:xJ}{g:AZ}{pos:lv}{k:Nat}(hS:∀H',aO HZ H'->aO H0 H')(hi:QI (cK (iO P w) P w K mg base N Yj Yi f cd A outer s0 H0 E) tg iter ti)(hg:QG (cK (iO P w) P w K mg base N Yj Yi f cd A outer s0 H0 E) tg k g)
  (hb:∀H₁:Hp,(∀H',aO H₁ H'->aO H0 H')->QxB (cK (iO P w) P w K mg base N Yj Yi f cd A outer s0 H0 E) H₁ F Yv tb) (hs:∀x,io iter (cK (iO P w) P w K mg base N Yj Yi f cd A outer s0 H0 E).env x=jw x:=by intro _;rfl):
  QxS (cK (iO P w) P w K mg base N Yj Yi f cd A outer s0 H0 E) HZ F (.For tg iter Yv [] pos) (eW ti g tb):=by
 have mb:=(hb HZ hS).mono;refine⟨λE E' ρ w h=>hi.mono _ _ _ (λds ogs h=>mO hg.mono mb ogs ds E E' ρ w h) h,?_⟩;obtain⟨wi,hwi,wiq⟩:=hi.run HZ F;obtain⟨tt,htt,ttq⟩:=hg.run;have hb':uT (cK (iO P w) P w K mg base N Yj Yi f cd A outer s0 H0 E) Yv (λD σ H=>∃P',(∀H',aO P' H'->aO H0 H')/\liftS K P' F tb D σ H):=λpk s σ H D I ⟨P',h1,q⟩=>(hb P' h1).run pk s σ H D I q;refine dQ (HG zr rfl hwi htt hb' hs) λD σ H z=>?_;obtain⟨ρ,E',fr,h,en⟩:=z;refine wiq σ H ρ _ fr (hi.mono _ _ _ (λds ogs q J H2 S2 _ ok=>?_) h);have fr2:=fr.mono S2;have en2:Ent K (prot H2 ρ) F E' D:=en.prot fr2;refine⟨λi m σ' H'=>m=ds.length-i/\i<=ds.length /\ ∃ρ',Fr K (prot H2 ρ) F σ' H' ρ'/\aY g tb ogs (ds.drop i) E' ρ',⟨ds.length,by simp,oj _,ρ,fr2.prot,by simpa using q⟩,?_⟩;rintro i m σ' H' ⟨rfl,hil,ρ',fr',q'⟩;have gd:guard ogs ρ':=tR q';have Gn:=fr2.gen fr';have oks:=ok i H' (MM F ρ') fr'.same Gn λp hp=>let ⟨_,_,_,h⟩:=fr'.at_own (gd p hp);h;by_cases hlt:i<ds.length
 ·have hd:ds[i]?=aa ds[i]:=by simp[hlt]
  have hdr:ds.drop i=ds[i]::ds.drop (i+1):=gw hlt;rw[hdr,b5] at q';obtain⟨go,yld⟩:=oks.1 _ hd;refine .inr ⟨go,λσ2 H2'=>∃ρ2,Fr K (prot H2 ρ) F σ2 H2' ρ2/\aY g tb ogs (ds.drop (i+1)) E' ρ2,λσ2 H2' ⟨ρ2,f2',q2⟩=>⟨ds.length-(i+1),⋯,rfl,hlt,ρ2,f2',q2⟩,λy H3 hy=>?_⟩;obtain⟨S3,ry⟩:=yld y H3 hy;refine ttq _ F y _ σ' H3 ρ' _ (fr'.mono S3) ry (hg.mono _ _ _ _ (λρ1 q1 σ1 f1 _=>?_) q'.2);exact⟨prot H2 ρ,λH' S=>hS _ (fr2.same_of S),ρ1,_,f1,q1,λρ3 σ3 H3' f3 q3=>⟨ρ3,f3,q3⟩,en2.nx,λρ3 σ3 H3' f3 q3=>⟨ρ3,f3,q3⟩,en2.rt⟩
 ·have e:i=ds.length:=⋯;subst e;rw[ve,aZ] at q';exact .inl ⟨oks.2 (br _),en2.nx _ _ _ fr' q'.2⟩
end
section
variable {k:Nat}{sp:yT}{x:bv}{epos pos:lv}
end
section
variable {M':ae->Prop}
end
section
variable {k:Nat}{y f:bv}{e1 e2 z c:Expr}{tt:n6}{tr:cE}{te2:dB}{Yl:List ku}{Yw Yt ipos q1 q2 q3 q4 q5 r1 r3 r4 r5:lv}
end
theorem DefX.calm{k:Nat}{x:bv}{sp:yT}(d:DefX P w K mg base k x ps (lowX K sp)):Def P w K mg base k x ps (low K λds Q=>sp ds Q λ_=>False):=by
 obtain⟨f,fd,hm,hk,hb,FO⟩:=d.ex;refine⟨f,fd,hm,hk,hb,λvs H Q E q=>?_,λA outer s H args us vs Q E hr he hbd hv q=>?_⟩
 ·obtain⟨F,ds,hF,r,q⟩:=q;exact FO.len vs H Q (λ_ _ _=>False) ⟨F,ds,λ_=>False,hF,r,q,λ_ _ _ _ z=>z.elim⟩
 ·obtain⟨F,ds,hF,r,q⟩:=q;refine qy (FO.run A outer s H args us vs Q (λ_ _ _=>False) hr he hbd hv ⟨F,ds,λ_=>False,hF,r,q,λ_ _ _ _ z=>z.elim⟩) λrr s' hq=>?_;cases rr with
  |ok o=>cases o<;>exact hq
  |error e=>
   obtain⟨_,_,_,_,_,_,_,_,_,_,_,_,_,_,z,_⟩:=hq;exact z.elim
theorem MonoX.calm{sp:yT}(m:MonoX sp):MonoF λds Q=>sp ds Q λ_=>False:=⟨λds Q Q' w h=>m.mo ds Q Q' _ _ w (λ_ z=>z) h⟩
end Z
namespace L2
def Ph(K:ak):List V->Hp->VK->Prop:=λxs H Q=>∃(a C:ae) (o:jv) (u:HO) (b:Bool),xs=[.ref a,.ty "ValueError"]/\H a=aa (.frz o u)/\o.cls=.ref C/\ExcI K C/\rh K (.ref C) (.type "ValueError")=aa b/\Q (.bl b) H
theorem GM:fM X (.builtin "isinstance") (Ph X.K):=by
 intro pk s σ H xs us Q I r h;obtain⟨a,C,o,u,b,rfl,ha,hc,ci,kb,q⟩:=h;obtain⟨u1,u2,rfl,r1,r2⟩:=Ah r;cases r1;cases r2;obtain⟨ho,_⟩:=(show cI X.prog X.w H s.heap a (.frz o u) from I.hok a _ ha);exact ot (EW ci) I.kIn ⟨o,ho,hc⟩ kb (λz=>nomatch z) λtk=>⟨.bl b,H,I.tok tk,rfl,q⟩
section
variable {fa:ae}{cd:af}{s0:ah}{H0:Hp}{E0:XK}
variable {k:Nat}{fd:ke}{sp:Sp}{x:bv}{pos:lv}{t:TA}
theorem HJ(F:FnOk P w K mg base (iO P w) k f fd ps sp)(hr:Room k (cK (iO P w) P w K mg base N Yj Yi fa cd A outer s0 H0 E0).A)(hg:Gl (cK (iO P w) P w K mg base N Yj Yi fa cd A outer s0 H0 E0) x)
  (hm:mg x=aa (.ref f)) (hkp:qj K (.ref f)=ai) (hbd:iH K fd ps []) (ha:PA (cK (iO P w) P w K mg base N Yj Yi fa cd A outer s0 H0 E0) (e::es) t)
  (hdb:(x==("__debug__" : bv))=ao:=by decide) (he:aw (e::es) (cK (iO P w) P w K mg base N Yj Yi fa cd A outer s0 H0 E0).env=(ao,gh e (cK (iO P w) P w K mg base N Yj Yi fa cd A outer s0 H0 E0).env)::aw es (cK (iO P w) P w K mg base N Yj Yi fa cd A outer s0 H0 E0).env:=by rfl) (hpl:(ir Yq (aw es (cK (iO P w) P w K mg base N Yj Yi fa cd A outer s0 H0 E0).env)).any (·.1)=ao:=by rfl)
  (hs:iu (.Call (.Name x p) (e::es) [] Yq) au pos.line (cK (iO P w) P w K mg base N Yj Yi fa cd A outer s0 H0 E0).env=jw ao:=by rfl):
  PS (cK (iO P w) P w K mg base N Yj Yi fa cd A outer s0 H0 E0) (.Expr (.Call (.Name x p) (e::es) [] Yq) pos)
   (λD σ H=>t σ H λvs H1=>sp vs H1 (λv H2=>D.nx σ H2) (λcv dd H2=>∀C,cv=.ref C->E0 (.ref C) dd H2)):=by
 intro pk s σ H D I h;refine Us (ny (mM I hg hm ?_ hdb)) I.quiet hs;refine xm (h₀:=base) I.ok.mod.kin hkp (gr (ha Yq pk s σ H _ I h) (λus s1 z=>?_) λe s z=>z) he hpl;obtain⟨vs,H1,I1,r,q⟩:=z;refine⟨I1.kIn,?_⟩;have hl:us.length=ps.length:=by rw[<- r.length];exact F.len _ _ _ _ q
 have hb1:=hbd s1 us I1.kIn (by rw[gv];exact hl);rw[gv] at hb1;refine yb (qy (F.run (cK (iO P w) P w K mg base N Yj Yi fa cd A outer s0 H0 E0).A (cK (iO P w) P w K mg base N Yj Yi fa cd A outer s0 H0 E0).stack s1 H1 ⟨us,[]⟩ us vs _ _ hr I1.env0 hb1 r q) λr s2 hq=>?_);cases r with
 |error e=>
  dsimp only[CR] at hq;exact Ot I1 hq λC dd H' z=>z C rfl
 |ok fl=>
  cases fl with
  |ret u=>
   obtain⟨v,H2,I2,r2,q2⟩:=I1.after hq;exact⟨σ,H2,I2,q2⟩
  |next=>exact ie hq
  |brk=>exact ie hq
  |cont=>exact ie hq
end
end L2
namespace Z
open L2
section
variable {o:Expr}{to:dB}{pos Yt:lv}
def JN(K:ak)(te:dB):dB:=λρ Q=>te ρ λr=>match r.d with
 | .exc C _=>ExcI K C /\ ∃b,rh K (.ref C) (.type "ValueError")=aa b/\Q (.v (.bl b))
 |_=>False
theorem NG{p2:lv}(hg:Gl X "isinstance")(hm:X.mg "isinstance" = au)(ha:QE X e te)(hmv:X.mg "ValueError" = au)(hgv:Gl X "ValueError" := by rfl)(hbv:oy "ValueError" = aa (.type "ValueError"):=by rfl)
  (he:aw [e,.Name "ValueError" p2] X.env=(ao,gh e X.env)::aw [.Name "ValueError" p2] X.env:=by rfl) (he2:aw [Xh "ValueError" p2] X.env=(ao,gh (.Name "ValueError" p2) X.env)::aw [] X.env:=by rfl) (hpl:(ir pos (aw [.Name "ValueError" p2] X.env)).any (·.1)=ao:=by rfl):
  QE X (.Call (.Name "isinstance" p) [e,.Name "ValueError" p2] [] pos) (JN X.K te):=by
 refine⟨λρ Q Q' w q=>ha.mono _ _ _ (λr q=>?_) q,λHZ F=>cU (rQ GM hg hm U8 (iP (ha.run HZ F) (iP (oX (v:=.ty "ValueError") hgv hmv hbv rfl) qA he2) he) ∅ ∅ he hpl) λσ H Q z=>?_⟩
 ·generalize r.d=d at q ⊢;cases d with
  |exc C p=>
   obtain⟨ci,b,kb,q⟩:=q;exact⟨ci,b,kb,w _ q⟩
  |_=>exact q.elim
 ·obtain⟨ρ,fr,h⟩:=z;refine ha.step fr h λr x H1 q S1 r1=>?_;have cx:=r1.c;generalize r.d=d at q cx;cases d with
  |exc C p=>
   obtain⟨ci,b,kb,q⟩:=q;obtain⟨a,rfl,o,u,ea,hc,_⟩:=cx.exc;exact⟨a,C,o,u,b,rfl,ea,hc,ci,kb,q _ H1 S1 (Rep.bl _)⟩
  |_=>exact q.elim
end
section
variable {cd:af}{s0:ah}{H0:Hp}{E:XK}{Ψ:yU->Prop}
def Cp(sp:yT)(ts:lP)(Ψ:yU->Prop):cE:=λE ρ=>ts ρ λrs=>sp (rs.map R.d) (λ_=>E.nx ρ) Ψ
theorem Jq{k:Nat}{sp:yT}{x:bv}{pos:lv}{HB:Hp}(hS:∀H',aO HZ H'->aO HB H')(hE:∀C p dd H',Ψ (C,p)->aO HB H'->tX H' p dd->E (.ref C) dd H')
  (d:DefX P w K mg base k x ps (lowX K sp)) (mo:MonoX sp) (hr:Room k (cK (iO P w) P w K mg base N Yj Yi f cd A outer s0 H0 E).A) (ha:QA (cK (iO P w) P w K mg base N Yj Yi f cd A outer s0 H0 E) (e::es) ts)
  (hg:Gl (cK (iO P w) P w K mg base N Yj Yi f cd A outer s0 H0 E) x:=by rfl)
  (hdb:(x==("__debug__" : bv))=ao:=by decide) (he:aw (e::es) (cK (iO P w) P w K mg base N Yj Yi f cd A outer s0 H0 E).env=(ao,gh e (cK (iO P w) P w K mg base N Yj Yi f cd A outer s0 H0 E).env)::aw es (cK (iO P w) P w K mg base N Yj Yi f cd A outer s0 H0 E).env:=by rfl) (hpl:(ir Yq (aw es (cK (iO P w) P w K mg base N Yj Yi f cd A outer s0 H0 E).env)).any (·.1)=ao:=by rfl)
  (hs:iu (.Call (.Name x p) (e::es) [] Yq) au pos.line (cK (iO P w) P w K mg base N Yj Yi f cd A outer s0 H0 E).env=jw ao:=by rfl):
  QxS (cK (iO P w) P w K mg base N Yj Yi f cd A outer s0 H0 E) HZ F (.Expr (.Call (.Name x p) (e::es) [] Yq) pos) (Cp sp ts Ψ):=by
 obtain⟨fa,fd,hm,hkp,hbd,FO⟩:=d.ex;refine⟨λE1 E2 ρ w1 h=>ha.mono _ _ _ (λrs q=>mo.mo _ _ _ _ _ (λr q=>w1.nx _ q) (λC q=>q) q) h,dQ (HJ FO hr hg hm hkp hbd (ha.run HZ F) hdb he hpl hs) λD σ H z=>?_⟩;obtain⟨ρ,E',fr,h,en⟩:=z;refine ha.step fr h λrs xs H1 q S1 r1=>?_;have fr1:=fr.mono S1;refine⟨lent (MM F ρ) rs,_,Ψ,⟨λa z=>fr1.dom z.1,fr1.tab⟩,lF fr (λ_ h=>h) r1,mo.mo _ _ _ _ _ (λr q x H' S rx=>?_) (λC q=>q) q,λC p dd H2 q S2 py C' ec=>?_⟩
 ·exact en.nx _ _ _ (fr1.mono S) q
 ·cases ec;exact hE C p dd H2 q (hS _ ((fr.same.trans S1).trans S2)) py
end
end Z
namespace L2
variable {K:Frag}{S N:ae}{os:Wz}{nm q:bv}{sn:List bv}{sub:List af}{ab:Bool}{col:Option Bool}{dd:Option ae}{k0 k1 k2 k3 k5:Option af}
section
open PySem.Builtin PySem.Builtin.ObjectAttr PySem.W
variable {x:ae}{ox:jv}{us:Array af}{cd:ClassData}{name:bv}{v:af}
open PySem.Builtin PySem.W
variable {g:Array Tq}{d:Xa}{t:Nat}
variable {fI:ae}{bs:List af}
open PySem.Builtin PySem.W
variable {g:Array Tq}{d:Xa}{t:Nat}
variable {e t0:ae}{bs:List af}{dct:Option ae}
end
end L2
namespace L2
variable {S fI:ae}
variable {te:TE}
section
variable {CX:GQ}{k:Nat}{fd:ke}
end
section
variable {cd:af}{s0:ah}{H0:Hp}{E:XK}
end
section
open PySem.Calls PySem.Builtin PySem.Builtin.ObjectAttr
variable {x d:ae}{o:jv}{mA:bv->Option af}{v:af}
end
section
variable {pos:lv}
end
end L2
namespace Z
open L2
section
variable {a b:Expr}{pos:lv}{x:bv}{id T:String}{pp:List Dv->(R->Prop)->Prop}
end
section
variable {cd:af}{s0:ah}{H0:Hp}{E:XK}{Ψ:yU->Prop}
end
abbrev RV(k:Tk):Dv:=.tup [.int k.1,.int k.2.1,.tup (k.2.2.map Dv.int)]
def xU(ks:List Tk)(k:Tk):List Tk:=if ks.any (λx=>decide (x=k)) then ks else ks++[k]
def w9(ks:List Tk)(k:Tk):Bool:=ks.any λx=>decide (x=k)
theorem Ef(xs:List (Tk×ae))(k:Tk):hasN xs k=w9 (xs.map (·.1)) k:=by
 unfold hasN w9;rw[List.any_map];rfl
theorem KQ(xs:List (Tk×ae))(k:Tk)(b:ae):(wV xs k b).map (·.1)=xU (xs.map (·.1)) k:=by
 unfold wV xU;rw[Ef];unfold w9;split
 ·rfl
 ·rw[yk];rfl
theorem An{x:V}{k:Tk}(c:dP K M H x (RV k)):∃b,x=.ref b/\TileAt H k b:=by
 obtain⟨b,vs,rfl,e,r⟩:=c.tup;cases r with
 |cons r1 r=>
  cases r with
  |cons r2 r=>
   cases r with
   |cons r3 r=>
    cases r;cases r1;cases r2;cases r3 with
    |tup e3 r3=>
     refine⟨b,rfl,_,e,?_⟩;have ey:∀{ns:List Int} {ys:List V},Reps K M H ys (ns.map .int)->ys=ns.map V.int:=by
      intro ns;induction ns with
      |nil=>intro ys r;cases r;rfl
      |cons n ns ih=>
       intro ys r;cases r with
       |cons r1 r=>cases r1;rw[ih r];rfl
     rw[<- ey r3];exact e3
theorem OJ{k:Nat}(r:Room k A):A.units+2<jy:=by have:=r.un;right
section
variable {pos:lv}
def SW:dB:=λ_ Q=>Q (.nw (.dns []))
theorem KL:QE X (.Dict [] [] pos) SW:=
 ⟨λρ Q Q' w q=>w _ q,λHZ F=>cU HS λσ H Q ⟨ρ,fr,q⟩ p hp=>q _ _ (aO.new' hp) ⟨p,rfl,hp,[],bT,rfl,λ_ z=>nomatch z⟩⟩
def Aw(i:Nat)(tk tv:dB):cE:=λE ρ=>match ρ[i]? with
 |some (.own a (.dns ks))=>tv ρ λr=>r=.v (.bl ai)/\tk ρ λkk=>∃k:Tk,kk.d=RV k/\ks.length<Ac/\E.nx (ρ.set i (.own a (.dns (xU ks k))))
 |_=>False
theorem ND{x:bv}{p1 p2:lv}{k:Expr}{tk:dB}(hu:X.A.units+2<jy)(hv:PE X (.Name x p1) (z7 i))(hk:QE X k tk)(he:QE X e te)
  (hs:iu e (aa (.Subscript (.Name x p1) k p2)) pos.line X.env=jw ao:=by rfl):QS X (.Assign [.Subscript (.Name x p1) k p2] e pos) (Aw i tk te):=by
 refine⟨λE E' ρ w h=>?_,λHZ F=>dQ (HH hu hv (hk.run HZ F) (he.run HZ F) hs) λD σ H ⟨ρ,E,fr,h,en⟩=>?_⟩
 ·unfold Aw at *;split at h
  ·exact he.mono _ _ _ (λr q=>⟨q.1,hk.mono _ _ _ (λkk ⟨k,a,b,c⟩=>⟨k,a,b,w.nx _ c⟩) q.2⟩) h
  ·exact h
 ·unfold Aw at h;split at h
  ·rename_i a ks hx;refine he.step fr h λr y H1 q S1 r1=>?_;obtain⟨rfl,q⟩:=q;have fr1:=fr.mono S1;obtain⟨hs1,xs,hv1,ek,t1⟩:=fr1.sl i _ hx;refine⟨by cases r1;rfl,_,hs1,hk.step fr1 q λkk z H2 q S2 rk=>?_⟩;obtain⟨k,ed,ql,q2⟩:=q;have ck:=rk.c;rw[ed] at ck;obtain⟨b,rfl,tb⟩:=An ck;have hv2:=S2 _ _ hv1;have t2:∀x∈xs,TileAt H2 x.1 x.2:=λx hx=>(t1 x hx).gen λ_ _ e=>S2 _ _ e;refine⟨a,b,xs,k,rfl,rfl,hv2,t2,tb,vV (by rw[ek,bf] at ql;exact ql),?_⟩;have G:Gen X.K (MM F ρ) (MM F ρ) H2 (upd H2 a (.dN a (wV xs k b))):=Gen.write (.inr ⟨_,fe hx⟩) (by rw[hv2];trivial);refine en.nx _ _ _ ((fr1.mono S2).write (d':=.dns (xU ks k)) hx ⟨_,bT,by rw[KQ,ek],λy hy=>?_⟩) q2;unfold wV at hy;split at hy
   ·exact(t2 y hy).gen G.t
   ·rcases fj.mp hy with z | z
    ·exact(t2 y z).gen G.t
    ·rw[eo.mp z];exact tb.gen G.t
  ·exact h.elim
def Hr:Dv->Dv->(R->Prop)->Prop
 | .tup ds,.dns ks,Q=>∃k:Tk,Dv.tup ds=RV k/\Q (.v (.bl (w9 ks k)))
 |_,_,_=>False
theorem Kp(hu:X.A.units+2<jy):xL X (fm .In) Hr:=by
 refine⟨λdx dy Q Q' w h=>?_,_,Np hu,λM O H x y dx dy Q cx cy h=>?_⟩
 ·unfold Hr at *;split at h
  ·exact⟨h.choose,h.choose_spec.1,w _ h.choose_spec.2⟩
  ·exact h
 ·unfold Hr at h;split at h
  ·obtain⟨k,ed,q⟩:=h;rw[ed] at cx;obtain⟨b,rfl,tb⟩:=An cx;obtain⟨a,rfl,xs,e1,ek,t⟩:=cy.dns;subst ek;refine⟨a,b,xs,k,rfl,rfl,e1,t,tb,?_⟩;simp only[dq,if_false];rw[Ef];exact q _ H (aO.refl _) (Rep.bl _)
  ·exact h.elim
end
end Z
namespace L2
open PySem.W
def gal:Bool->sw->Array sw->Nat->Nat->Nat->StateT je Wm (Option Nat):=sortPriv% PySem.Builtin.gallop
def QJ:Array sw->Array sw->StateT je Wm (Array sw):=sortPriv% PySem.Builtin.mergeLo
def QK:Array sw->Array sw->StateT je Wm (Array sw):=sortPriv% PySem.Builtin.mergeHi
variable {arr:Array sw}{st:je}{Q:Option Nat->je->Prop}{N:Nat}{it:Nat->sw}{κ:rm}{left:Bool}{M:U6}
structure Tm(M:U6)(A:dh)(E:af->ah->Prop)(s:ah)(N:Nat)(lt:Nat->Nat->Bool)(it:Nat->sw)(κ:rm):Prop where
 cmp:∀i j,i<N->j<N->i≠j -> ∀(st:je) (Q:Option Bool->je->Prop),mv st=κ->Q (aa (lt i j)) st->XA M A E s (lt' (it i) (it j)) Q st
 tot:∀i j,i<N->j<N->i≠j->lt i j = !lt j i
 tr:∀i j k,i<N->j<N->k<N->lt i j=ai->lt j k=ai->lt i k=ai
theorem b9{x:sw}{Q:sw->je->Prop}(h:arr[i]?=aa x)(q:Q x st):XA M A E s (elem' arr i) Q st:=by
 rw[elem'_eq,h];exact aq q
theorem A8{lt:Nat->Nat->Bool}(T:Tm M A E s N lt it κ){x:Nat}{base hint:Nat}{f:Nat->Nat}(hk:mv st=κ)(hx:x<N)
  (ha:∀i,i<n->arr[base+i]?=aa (it (f i))) (hf:∀i,i<n->f i<N/\f i≠x) (up:∀i j,i<j->j<n->lt (f i) (f j)=ai) (hh:hint<n)
  (q:∀k,k<=n->(∀i,i<k->lt (f i) x=ai)->(∀i,k<=i->i<n->lt x (f i)=ai)->Q (aa k) st):XA M A E s (gal left (it x) arr base n hint) Q st:=by
 have b1:∀i (Q:Option Bool->je->Prop),i<n->Q (aa (lt (f i) x)) st->XA M A E s (do
   let y <- elem' arr (base+i)
   if left=ai then lt' y (it x) else do
    let r <- lt' (it x) y
    jw (r.map λb=>!b)) Q st:=λi Q hi q=>by
  obtain⟨h1,h2⟩:=hf i hi;refine ar (b9 (ha i hi) ?_);cases left with
  |true=>exact T.cmp _ _ h1 hx h2 st Q hk q
  |false=>
   refine ar (T.cmp _ _ hx h1 (Ne.symm h2) st _ hk (aq ?_));rw[T.tot _ _ hx h1 (Ne.symm h2)];simpa using q
 have mon:∀i j,i<=j->j<n->lt (f j) x=ai->lt (f i) x=ai:=λi j hij hj z=>by
  by_cases e:i=j
  ·rw[e];exact z
  ·exact T.tr _ _ _ (hf i ⋯).1 (hf j hj).1 hx (up i j ⋯ hj) z
 show XA M A E s (gal left (it x) arr base n hint) Q st;unfold gal;refine ar (b1 hint _ hh ?_);dsimp only;cases y0:lt (f hint) x with
 |true=>
  rw[Yh rfl];refine ar (lj (gf (I:=λi c st'=>st=st' /\ ∃l o,c=(au,l,o)/\l<o/\i+1<=o/\hint+l<n/\lt (f (hint+l)) x=ai)
   (Q:=λc st'=>st=st' /\ ∃l o,c=(au,l,o)/\l<o/\hint+l<n/\lt (f (hint+l)) x=ai/\(hint+o<n->lt (f (hint+o)) x=ao)) ?_ ?_ ?_) ?_)
  ·rintro i c st' _ hi ⟨rfl,l,o,rfl,l1,l2,l3,l4⟩;dsimp only;by_cases z:o >= n-hint
   ·rw[Yh z];exact aq ⟨rfl,l,o,rfl,l1,l3,l4,λh=>by right⟩
   ·rw[XQ z];refine ar (b1 (hint+o) _ ⋯ ?_);cases y:lt (f (hint+o)) x with
    |true=>
     dsimp only;rw[XQ ∅];exact aq ⟨rfl,_,_,rfl,⋯,⋯,⋯,y⟩
    |false=>
     dsimp only;rw[Yh ∅];exact aq ⟨rfl,l,o,rfl,l1,l3,l4,λ_=>y⟩
  ·rintro c st' ⟨rfl,l,o,rfl,l1,l2,l3,l4⟩;exact⟨rfl,l,o,rfl,l1,l3,l4,λh=>by right⟩
  ·exact⟨rfl,0,1,rfl,⋯,⋯,⋯,y0⟩
  rintro c st' ⟨rfl,l,o,rfl,l1,l3,l4,l5⟩;dsimp only;refine ar (lj (gf (I:=λi c st'=>st=st' /\ ∃lo hi,c=(au,lo,hi)/\lo<=hi/\hi<=n/\hi-lo+i<=n/\(∀i,i<lo->lt (f i) x=ai)/\(∀i,hi<=i->i<n->lt (f i) x=ao))
   (Q:=λc st'=>st=st' /\ ∃k,c=(au,k,k)/\k<=n/\(∀i,i<k->lt (f i) x=ai)/\(∀i,k<=i->i<n->lt (f i) x=ao)) ?_ ?_ ?_) ?_)
  ·rintro i c st' _ hi ⟨rfl,lo,h,rfl,l1,l2,l3,l4,l5⟩;dsimp only;by_cases z:lo >= h
   ·rw[Yh z];have e:lo=h:=⋯;subst e;exact aq ⟨rfl,lo,rfl,l2,l4,l5⟩
   ·rw[XQ z];refine ar (b1 (lo+(h-lo) / 2) _ ⋯ ?_);cases y:lt (f (lo+(h-lo) / 2)) x with
    |true=>
     dsimp only;rw[Yh rfl];exact aq ⟨rfl,_,_,rfl,⋯,⋯,⋯,λj hj=>mon j _ ⋯ ⋯ y,l5⟩
    |false=>
     dsimp only;rw[XQ ∅];refine aq ⟨rfl,_,_,rfl,⋯,⋯,⋯,l4,λj hj hn=>?_⟩;cases y2:lt (f j) x with
     |false=>rfl
     |true=>rw[mon _ j hj hn y2] at y;cases y
  ·rintro c st' ⟨rfl,lo,h,rfl,l1,l2,l3,l4,l5⟩;have e:lo=h:=⋯;subst e;exact⟨rfl,lo,rfl,l2,l4,l5⟩
  ·exact⟨rfl,_,_,rfl,⋯,⋯,⋯,λj hj=>mon j _ ⋯ l3 l4,λj hj hn=>by
    cases y2:lt (f j) x with
    |false=>rfl
    |true=>have z:=mon (hint+o) j ⋯ hn y2;rw[l5 ⋯] at z;cases z⟩
  ·rintro c st' ⟨rfl,k,rfl,l2,l4,l5⟩;exact aq (q k l2 l4 λi hi hn=>by rw[T.tot _ _ hx (hf i hn).1 (Ne.symm (hf i hn).2),l5 i hi hn];rfl)
 |false=>
  rw[XQ ∅];refine ar (lj (gf (I:=λi c st'=>st=st' /\ ∃l o,c=(au,l,o)/\l<o/\i+1<=o/\l<=hint/\lt (f (hint-l)) x=ao)
   (Q:=λc st'=>st=st' /\ ∃l o,c=(au,l,o)/\l<o/\l<=hint/\lt (f (hint-l)) x=ao/\(o<=hint->lt (f (hint-o)) x=ai)) ?_ ?_ ?_) ?_)
  ·rintro i c st' _ hi ⟨rfl,l,o,rfl,l1,l2,l3,l4⟩;dsimp only;by_cases z:o >= hint+1
   ·rw[Yh z];exact aq ⟨rfl,l,o,rfl,l1,l3,l4,λh=>by right⟩
   ·rw[XQ z];refine ar (b1 (hint-o) _ ⋯ ?_);cases y:lt (f (hint-o)) x with
    |true=>
     dsimp only;rw[Yh rfl];exact aq ⟨rfl,l,o,rfl,l1,l3,l4,λ_=>y⟩
    |false=>
     dsimp only;rw[XQ ∅];exact aq ⟨rfl,_,_,rfl,⋯,⋯,⋯,y⟩
  ·rintro c st' ⟨rfl,l,o,rfl,l1,l2,l3,l4⟩;exact⟨rfl,l,o,rfl,l1,l3,l4,λh=>by right⟩
  ·exact⟨rfl,0,1,rfl,⋯,⋯,⋯,y0⟩
  rintro c st' ⟨rfl,l,o,rfl,l1,l3,l4,l5⟩;dsimp only;refine ar (lj (gf (I:=λi c st'=>st=st' /\ ∃lo hi,c=(au,lo,hi)/\lo<=hi/\hi<=n/\hi-lo+i<=n/\(∀i,i<lo->lt (f i) x=ai)/\(∀i,hi<=i->i<n->lt (f i) x=ao))
   (Q:=λc st'=>st=st' /\ ∃k,c=(au,k,k)/\k<=n/\(∀i,i<k->lt (f i) x=ai)/\(∀i,k<=i->i<n->lt (f i) x=ao)) ?_ ?_ ?_) ?_)
  ·rintro i c st' _ hi ⟨rfl,lo,h,rfl,l1,l2,l3,l4,l5⟩;dsimp only;by_cases z:lo >= h
   ·rw[Yh z];have e:lo=h:=⋯;subst e;exact aq ⟨rfl,lo,rfl,l2,l4,l5⟩
   ·rw[XQ z];refine ar (b1 (lo+(h-lo) / 2) _ ⋯ ?_);cases y:lt (f (lo+(h-lo) / 2)) x with
    |true=>
     dsimp only;rw[Yh rfl];exact aq ⟨rfl,_,_,rfl,⋯,⋯,⋯,λj hj=>mon j _ ⋯ ⋯ y,l5⟩
    |false=>
     dsimp only;rw[XQ ∅];refine aq ⟨rfl,_,_,rfl,⋯,⋯,⋯,l4,λj hj hn=>?_⟩;cases y2:lt (f j) x with
     |false=>rfl
     |true=>rw[mon _ j hj hn y2] at y;cases y
  ·rintro c st' ⟨rfl,lo,h,rfl,l1,l2,l3,l4,l5⟩;have e:lo=h:=⋯;subst e;exact⟨rfl,lo,rfl,l2,l4,l5⟩
  ·exact⟨rfl,_,_,rfl,⋯,⋯,⋯,λj hj=>mon j (hint-o) ⋯ ⋯ (l5 ⋯),λj hj hn=>by
    cases y2:lt (f j) x with
    |false=>rfl
    |true=>have z:=mon (hint-l) j ⋯ hn y2;rw[l4] at z;cases z⟩
  ·rintro c st' ⟨rfl,k,rfl,l2,l4,l5⟩;exact aq (q k l2 l4 λi hi hn=>by rw[T.tot _ _ hx (hf i hn).1 (Ne.symm (hf i hn).2),l5 i hi hn];rfl)
structure Mg(lt:Nat->Nat->Bool)(la lb lo:List Nat)(ia ib:Nat):Prop where
 pm:(lo++(la.drop ia++lb.drop ib)).Perm (la++lb)
 up:lo.Pairwise λx y=>lt x y=ai
 lo:∀o∈lo,∀r∈la.drop ia++lb.drop ib,lt o r=ai
structure Two(N:Nat)(lt:Nat->Nat->Bool)(la lb:List Nat):Prop where
 ua:la.Pairwise λx y=>lt x y=ai
 ub:lb.Pairwise λx y=>lt x y=ai
 nd:(la++lb).Nodup
 bd:∀x∈la++lb,x<N
variable {l la lb:List Nat}{ia ib:Nat}
section
variable {lt:Nat->Nat->Bool}{lo:List Nat}
theorem Two.symm(T:Two N lt la lb):Two N lt lb la:=⟨T.ub,T.ua,(qp.nodup_iff).mp T.nd,λx hx=>T.bd x (qp.mem_iff.mp hx)⟩
theorem Mg.symm(m:Mg lt la lb lo ia ib):Mg lt lb la lo ib ia:=
 ⟨((qp (l₁:=lb.drop ib) (l₂:=la.drop ia)).append_left lo).trans (m.pm.trans qp),m.up,λo ho r hr=>m.lo o ho r (qp.mem_iff.mp hr)⟩
theorem Mg.takeA(T:Two N lt la lb)(m:Mg lt la lb lo ia ib)(k:Nat)(h:∀x∈(la.drop ia).take k,∀r∈lb.drop ib,lt x r=ai):Mg lt la lb (lo++(la.drop ia).take k) (ia+k) ib:=by
 have e:(la.drop ia).take k++la.drop (ia+k)=la.drop ia:=by rw[<- Xi,ug]
 have ud:(la.drop ia).Pairwise λx y=>lt x y=ai:=T.ua.sublist (xo _ _);rw[<- e] at ud;have ud2:=ou.mp ud;refine⟨?_,ou.mpr ⟨m.up,ud2.1,λo ho x hx=>m.lo o ho x ?_⟩,λo ho r hr=>?_⟩
 ·have:=m.pm;rw[<- e] at this;simpa [dt] using this
 ·exact gq _ (rn hx)
 ·rcases fj.mp ho with ho | ho
  ·refine m.lo o ho r ?_;rcases fj.mp hr with hr | hr
   ·exact gq _ (by rw[<- e];exact eg _ hr)
   ·exact eg _ hr
  ·rcases fj.mp hr with hr | hr
   ·exact ud2.2.2 o ho r hr
   ·exact h o ho r hr
theorem Mg.takeB(T:Two N lt la lb)(m:Mg lt la lb lo ia ib)(k:Nat)(h:∀x∈(lb.drop ib).take k,∀r∈la.drop ia,lt x r=ai):Mg lt la lb (lo++(lb.drop ib).take k) ia (ib+k):=
 (m.symm.takeA T.symm k h).symm
def Ad(lt:Nat->Nat->Bool)(la lb l:List Nat):Prop:=l.Perm (la++lb)/\l.Pairwise λx y=>lt x y=ai
theorem Mg.endA(T:Two N lt la lb)(m:Mg lt la lb lo ia ib)(h:∀x∈la.drop ia,∀r∈lb.drop ib,lt x r=ai):Ad lt la lb (lo++la.drop ia++lb.drop ib):=by
 refine⟨by rw[dt];exact m.pm,?_⟩;rw[dt];refine ou.mpr ⟨m.up,ou.mpr ⟨T.ua.sublist (xo _ _),T.ub.sublist (xo _ _),h⟩,m.lo⟩
theorem Mg.endB(T:Two N lt la lb)(m:Mg lt la lb lo ia ib)(h:∀x∈lb.drop ib,∀r∈la.drop ia,lt x r=ai):Ad lt la lb (lo++lb.drop ib++la.drop ia):=by
 have:=m.symm.endA T.symm h;exact⟨this.1.trans qp,this.2⟩
theorem sF(h:i<l.length):l.drop i=l.getD i 0::l.drop (i+1):=by
 rw[gw h];simp[de,h]
theorem Two.headA(T:Two N lt la lb)(tr:∀i j k,i<N->j<N->k<N->lt i j=ai->lt j k=ai->lt i k=ai){x:Nat}(hx:x<N)(hi:ia<la.length)(h:lt x (la.getD ia 0)=ai):∀r∈la.drop ia,lt x r=ai:=λr hr=>by
 rw[sF hi] at hr;rcases dj.mp hr with e | hr
 ·rw[e];exact h
 ·have ud:(la.drop ia).Pairwise λx y=>lt x y=ai:=T.ua.sublist (xo _ _);rw[sF hi] at ud;have b1:la.getD ia 0<N:=T.bd _ (gq _ (by rw[fw,av hi];exact fq hi));have b2:r<N:=T.bd r (gq _ (UG hr));exact tr _ _ _ hx b1 b2 h ((ix.mp ud).1 r hr)
end
variable {j:Nat}
section
variable {lt:Nat->Nat->Bool}
structure SEq(st st':je):Prop where
 k:mv st'=mv st
 a:vf st'=vf st
 p:cq st'=cq st
 f:vm st'=vm st
theorem SEq.refl(st:je):SEq st st:=⟨rfl,rfl,rfl,rfl⟩
abbrev fO(it:Nat->sw)(l:List Nat):Array sw:=(l.map it).toArray
theorem aU(h:i<l.length):(fO it l)[i]?=aa (it (l.getD i 0)):=by
 simp[de,h]
theorem bN{x:Nat}:(fO it l).push (it x)=fO it (l++[x]):=by simp[fO]
theorem b7{m:List Nat}:fO it l++fO it m=fO it (l++m):=by simp[fO]
theorem wO:(fO it l).size=l.length:=by simp[fO]
theorem eG:(fO it l).extract i j=fO it ((l.drop i).take (j-i)):=by
 simp[fO,VE,XW]
theorem Jd:(fO it l).extract i l.length=fO it (l.drop i):=by
 rw[eG,ph (by simp)]
theorem Two.neAB(W:Two N lt la lb)(hi:i<la.length)(hj:j<lb.length):la.getD i 0≠lb.getD j 0:=by
 have e1:la.getD i 0=la[i]:=by simp[de,hi]
 have e2:lb.getD j 0=lb[j]:=by simp[de,hj]
 rw[e1,e2];exact(vn.mp W.nd).2.2 _ (fq hi) _ (fq hj)
theorem Two.ltA(W:Two N lt la lb)(hi:i<la.length):la.getD i 0<N:=W.bd _ (gq _ (by rw[fw,av hi];exact fq hi))
theorem Two.upA(W:Two N lt la lb)(hij:i<j)(hj:j<la.length):lt (la.getD i 0) (la.getD j 0)=ai:=by
 have e1:la.getD i 0=la[i]'⋯:=by simp[de,show i<la.length by right]
 have e2:la.getD j 0=la[j]:=by simp[de,hj]
 rw[e1,e2];exact da.mp W.ua i j ⋯ hj hij
variable {lo:List Nat}
structure Trn(N:Nat)(lt:Nat->Nat->Bool):Prop where
 tr:∀i j k,i<N->j<N->k<N->lt i j=ai->lt j k=ai->lt i k=ai
theorem _root_.L2.Tm.trn(T:Tm M A E s N lt it κ):Trn N lt:=⟨T.tr⟩
theorem Mg.stepB(T:Trn N lt)(W:Two N lt la lb)(m:Mg lt la lb lo ia ib)(hi:ia<la.length)(hj:ib<lb.length)(h:lt (lb.getD ib 0) (la.getD ia 0)=ai):Mg lt la lb (lo++[lb.getD ib 0]) ia (ib+1):=by
 have e:(lb.drop ib).take 1=[lb.getD ib 0]:=by rw[sF hj];rfl
 have:=m.takeB W 1 (by
  rw[e];intro x hx;rw[eo.mp hx];exact W.headA T.tr (W.symm.ltA hj) hi h)
 rwa[e] at this
theorem Mg.stepA(T:Trn N lt)(W:Two N lt la lb)(m:Mg lt la lb lo ia ib)(hi:ia<la.length)(hj:ib<lb.length)(h:lt (la.getD ia 0) (lb.getD ib 0)=ai):Mg lt la lb (lo++[la.getD ia 0]) (ia+1) ib:=(m.symm.stepB T W.symm hj hi h).symm
theorem Mg.galA(T:Trn N lt)(W:Two N lt la lb)(m:Mg lt la lb lo ia ib){k:Nat}(hj:ib<lb.length)(hk:k<=la.length-ia)(h:∀i,i<k->lt (la.getD (ia+i) 0) (lb.getD ib 0)=ai):Mg lt la lb (lo++(la.drop ia).take k) (ia+k) ib:=
 m.takeA W k λx hx r hr=>by
  obtain⟨i,hi,e⟩:=cm.mp hx;simp at hi;have e2:x=la.getD (ia+i) 0:=by
   rw[<- e];simp[de,show ia+i<la.length by right]
  subst e2;exact W.symm.headA T.tr (W.ltA ⋯) hj (h i ⋯) r hr
theorem Mg.galB(T:Trn N lt)(W:Two N lt la lb)(m:Mg lt la lb lo ia ib){k:Nat}(hi:ia<la.length)(hk:k<=lb.length-ib)(h:∀i,i<k->lt (lb.getD (ib+i) 0) (la.getD ia 0)=ai):Mg lt la lb (lo++(lb.drop ib).take k) ia (ib+k):=
 (m.symm.galA T W.symm hi hk h).symm
theorem Mg.doneA(W:Two N lt la lb)(m:Mg lt la lb lo ia ib)(h:ia=la.length \/ ib=lb.length):Ad lt la lb (lo++la.drop ia++lb.drop ib):=m.endA W λx hx r hr=>by
 rcases h with h | h
 ·rw[h,ve] at hx;cases hx
 ·rw[h,ve] at hr;cases hr
theorem Mg.lastA(W:Two N lt la lb)(m:Mg lt la lb lo ia ib)(hz:∀r∈lb,lt r (la.getD (la.length-1) 0)=ai)(h:ia+1=la.length):Ad lt la lb (lo++lb.drop ib++la.drop ia):=m.endB W λx hx r hr=>by
 rw[sF ⋯,h,ve] at hr;rw[eo.mp hr,show ia=la.length-1 by right];exact hz x (UG hx)
theorem t6(T:Tm M A E s N lt it κ)(W:Two N lt la lb)(hk:mv st=κ)(hi:ia<la.length)(hj:ib<lb.length)
  (q:∀k,k<=la.length-ia->(∀i,i<k->lt (la.getD (ia+i) 0) (lb.getD ib 0)=ai)->(∀i,k<=i->i<la.length-ia->lt (lb.getD ib 0) (la.getD (ia+i) 0)=ai)->Q (aa k) st):
  XA M A E s (gal left (it (lb.getD ib 0)) (fO it la) ia (la.length-ia) 0) Q st:=
 A8 T (f:=λi=>la.getD (ia+i) 0) hk (W.symm.ltA hj) (λi h=>aU ⋯) (λi h=>⟨W.ltA ⋯,W.neAB ⋯ hj⟩) (λi j h h2=>W.upA ⋯ ⋯) ⋯ q
theorem L1(T:Tm M A E s N lt it κ)(W:Two N lt la lb){Q:Array sw->je->Prop}(hk:mv st=κ)(ha:0<la.length)(hb:0<lb.length)(h0:lt (lb.getD 0 0) (la.getD 0 0)=ai)(hz:∀r∈lb,lt r (la.getD (la.length-1) 0)=ai)
  (q:∀l st',Ad lt la lb l->SEq st st'->Q (fO it l) st'):XA M A E s (QJ (fO it la) (fO it lb)) Q st:=by
 have m0:Mg lt la lb [] 0 0:=⟨by simp,.nil,λo ho=>by cases ho⟩;have m1:=m0.stepB T.trn W ha hb h0;unfold QJ;refine ar (TL (mh ⟨rfl,?_⟩));refine ar (b9 (aU hb) ?_);dsimp only;simp only[wO,Jd,beq_iff_eq];rw[show #[it (lb.getD 0 0)]=fO it ([]++[lb.getD 0 0]) from rfl];simp only[b7];by_cases c1:1=lb.length
 ·rw[Yh c1];exact aq (q _ _ (by have:=m1.doneA W (.inr c1);simpa using this) (.refl st))
 rw[XQ c1];by_cases c2:0+1=la.length
 ·rw[Yh c2];exact aq (q _ _ (by have:=m1.lastA W hz c2;simpa using this) (.refl st))
 rw[XQ c2];refine ar (uw ?_);refine ar (lj (gf
  (I:=λx c st'=>SEq st st' /\ ∃lo ia ib g,c=(au,fO it lo,ia,ib,g)/\Mg lt la lb lo ia ib/\ia+1<la.length/\ib<lb.length/\x+1<=ia+ib)
  (Q:=λc st'=>SEq st st' /\ ∃l c',c=(aa (fO it l),c')/\Ad lt la lb l) ?step ?fin ?init) ?post)
 case fin=>
  rintro c st' ⟨_,lo,ia,ib,g,rfl,m,h1,h2,h3⟩;right
 case init=>exact⟨.refl st,_,_,_,_,rfl,m1,⋯,⋯,⋯⟩
 case post=>
  rintro c st' ⟨e,l,c',rfl,d⟩;exact aq (q l st' d e)
 case step=>
  rintro x c st' _ hx ⟨e,lo,ia,ib,g,rfl,m,h1,h2,h3⟩;dsimp only;refine ar (lj (gf
   (I:=λy c st'=>SEq st st' /\ ∃lo ia' ib' ac bc,c=(au,fO it lo,ia',ib',ac,bc)/\Mg lt la lb lo ia' ib'/\ia'+1<la.length/\ib'<lb.length/\ia+ib+y<=ia'+ib')
   (Q:=λc st'=>SEq st st'/\((∃l c',c=(aa (fO it l),c')/\Ad lt la lb l) \/ ∃lo ia' ib' ac bc,c=(au,fO it lo,ia',ib',ac,bc)/\Mg lt la lb lo ia' ib'/\ia'+1<la.length/\ib'<lb.length/\ia+ib+1<=ia'+ib')) ?s1 ?f1 ?i1) ?p1)
  case i1=>exact⟨e,_,_,_,_,_,rfl,m,h1,h2,br _⟩
  case f1=>
   rintro c st2 ⟨e2,lo2,ia2,ib2,ac,bc,rfl,m2,a1,a2,a3⟩;exact⟨e2,.inr ⟨_,_,_,_,_,rfl,m2,a1,a2,⋯⟩⟩
  case s1=>
   rintro y c st2 _ hy ⟨e2,lo2,ia2,ib2,ac,bc,rfl,m2,a1,a2,a3⟩;dsimp only;refine ar (b9 (aU a2) (ar (b9 (aU ⋯) (ar (T.cmp _ _ (W.symm.ltA a2) (W.ltA ⋯) (Ne.symm (W.neAB ⋯ a2)) _ _ (e2.k.trans hk) ?_)))));cases y0:lt (lb.getD ib2 0) (la.getD ia2 0) with
   |true=>
    dsimp only;rw[Yh rfl];refine ar (b9 (aU a2) ?_);have m3:=m2.stepB T.trn W ⋯ a2 y0;simp only[bN,b7];by_cases z:ib2+1=lb.length
    ·rw[Yh z];exact aq ⟨e2,.inl ⟨_,_,rfl,m3.doneA W (.inr z)⟩⟩
    ·rw[XQ z];split
     ·exact aq ⟨e2,.inr ⟨_,_,_,_,_,rfl,m3,a1,⋯,⋯⟩⟩
     ·exact aq ⟨e2,_,_,_,_,_,rfl,m3,a1,⋯,⋯⟩
   |false=>
    dsimp only;rw[XQ ∅];refine ar (b9 (aU ⋯) ?_);have y1:lt (la.getD ia2 0) (lb.getD ib2 0)=ai:=by rw[T.tot _ _ (W.ltA ⋯) (W.symm.ltA a2) (W.neAB ⋯ a2),y0];rfl
    have m3:=m2.stepA T.trn W ⋯ a2 y1;simp only[bN,b7];by_cases z:ia2+1+1=la.length
    ·rw[Yh z];exact aq ⟨e2,.inl ⟨_,_,rfl,m3.lastA W hz z⟩⟩
    ·rw[XQ z];split
     ·exact aq ⟨e2,.inr ⟨_,_,_,_,_,rfl,m3,⋯,a2,⋯⟩⟩
     ·exact aq ⟨e2,_,_,_,_,_,rfl,m3,⋯,a2,⋯⟩
  case p1=>
   rintro c st2 ⟨e2,⟨l,c',rfl,d⟩ | ⟨lo2,ia2,ib2,ac,bc,rfl,m2,a1,a2,a3⟩⟩
   ·exact aq ⟨e2,l,_,rfl,d⟩
   dsimp only;refine ar (TL (mh ⟨rfl,?_⟩));refine ar (lj (gf
    (I:=λy c st'=>SEq st st' /\ ∃lo ia' ib' g' ac bc,c=(au,fO it lo,ia',ib',g',ac,bc)/\Mg lt la lb lo ia' ib'/\ia'+1<la.length/\ib'<lb.length/\ia2+ib2+y<=ia'+ib')
    (Q:=λc st'=>SEq st st'/\((∃l c',c=(aa (fO it l),c')/\Ad lt la lb l) \/ ∃lo ia' ib' g' ac bc,c=(au,fO it lo,ia',ib',g',ac,bc)/\Mg lt la lb lo ia' ib'/\ia'+1<la.length/\ib'<lb.length/\ia2+ib2<=ia'+ib')) ?s2 ?f2 ?i2) ?p2)
   case i2=>exact⟨e2,_,_,_,_,_,_,rfl,m2,a1,a2,br _⟩
   case f2=>
    rintro c st3 ⟨e3,lo3,ia3,ib3,g3,ac3,bc3,rfl,m3,b1,b2,b3⟩;exact⟨e3,.inr ⟨_,_,_,_,_,_,rfl,m3,b1,b2,⋯⟩⟩
   case p2=>
    rintro c st3 ⟨e3,⟨l,c',rfl,d⟩ | ⟨lo3,ia3,ib3,g3,ac3,bc3,rfl,m3,b1,b2,b3⟩⟩
    ·exact aq ⟨e3,l,_,rfl,d⟩
    dsimp only;refine ar (jl ?_);exact aq ⟨⟨e3.k,e3.a,e3.p,e3.f⟩,_,_,_,_,rfl,m3,b1,b2,⋯⟩
   case s2=>
    rintro y c st3 _ hy ⟨e3,lo3,ia3,ib3,g3,ac3,bc3,rfl,m3,b1,b2,b3⟩;dsimp only;by_cases hg:g3 > 1
    ·rw[Yh hg];refine ar (jl ?_);refine ar (b9 (aU b2) ?_);refine ar (t6 (left:=ao) (ia:=ia3) (ib:=ib3) T W (e3.k.trans hk) ⋯ b2 λk k1 k2 k3=>?_);dsimp only;by_cases kz:k > 0
     ·rw[Yh kz];have m4:=m3.galA T.trn W b2 k1 k2;simp only[eG,b7,show ia3+k-ia3=k by right];by_cases z1:ia3+k+1=la.length
      ·rw[Yh z1];exact aq ⟨⟨e3.k,e3.a,e3.p,e3.f⟩,.inl ⟨_,_,rfl,m4.lastA W hz z1⟩⟩
      rw[XQ z1];by_cases z2:ia3+k=la.length
      ·rw[Yh z2];exact aq ⟨⟨e3.k,e3.a,e3.p,e3.f⟩,.inl ⟨_,_,rfl,m4.doneA W (.inl z2)⟩⟩
      rw[XQ z2];have hl:=k3 k (br _) ⋯;refine ar (b9 (aU b2) ?_);have m5:=m4.stepB T.trn W ⋯ b2 hl;simp only[bN,b7];by_cases z1:ib3+1=lb.length
      ·rw[Yh z1];exact aq ⟨⟨e3.k,e3.a,e3.p,e3.f⟩,.inl ⟨_,_,rfl,m5.doneA W (.inr z1)⟩⟩
      rw[XQ z1];refine ar (b9 (aU ⋯) ?_);refine ar (t6 (left:=ai) (ia:=ib3+1) (ib:=ia3+k) T W.symm (e3.k.trans hk) ⋯ ⋯ λj j1 j2 j3=>?_);dsimp only;by_cases jz:j > 0
      ·rw[Yh jz];have m6:=m5.galB T.trn W ⋯ j1 j2;simp only[eG,b7,show ib3+1+j-(ib3+1)=j by right];by_cases z4:ib3+1+j=lb.length
       ·rw[Yh z4];exact aq ⟨⟨e3.k,e3.a,e3.p,e3.f⟩,.inl ⟨_,_,rfl,m6.doneA W (.inr z4)⟩⟩
       rw[XQ z4];have hl2:=j3 j (br _) ⋯;have m7:=m6.stepA T.trn W ⋯ ⋯ hl2;refine ar (b9 (aU ⋯) ?_);simp only[bN,b7];by_cases z3:ia3+k+1+1=la.length
       ·rw[Yh z3];exact aq ⟨⟨e3.k,e3.a,e3.p,e3.f⟩,.inl ⟨_,_,rfl,m7.lastA W hz z3⟩⟩
       rw[XQ z3];by_cases z5:(decide (k<7)&&decide (j<7))=ai
       ·rw[Yh z5];exact aq ⟨⟨e3.k,e3.a,e3.p,e3.f⟩,.inr ⟨_,_,_,_,_,_,rfl,m7,⋯,⋯,⋯⟩⟩
       ·rw[XQ z5];exact aq ⟨⟨e3.k,e3.a,e3.p,e3.f⟩,_,_,_,_,_,_,rfl,m7,⋯,⋯,⋯⟩
      ·rw[XQ jz];have m6:=m5;have hl2:=j3 0 ⋯ ⋯;rw[uf] at hl2;have m7:=m6.stepA T.trn W ⋯ ⋯ hl2;refine ar (b9 (aU ⋯) ?_);simp only[bN,b7];by_cases z3:ia3+k+1+1=la.length
       ·rw[Yh z3];exact aq ⟨⟨e3.k,e3.a,e3.p,e3.f⟩,.inl ⟨_,_,rfl,m7.lastA W hz z3⟩⟩
       rw[XQ z3];by_cases z5:(decide (k<7)&&decide (j<7))=ai
       ·rw[Yh z5];exact aq ⟨⟨e3.k,e3.a,e3.p,e3.f⟩,.inr ⟨_,_,_,_,_,_,rfl,m7,⋯,⋯,⋯⟩⟩
       ·rw[XQ z5];exact aq ⟨⟨e3.k,e3.a,e3.p,e3.f⟩,_,_,_,_,_,_,rfl,m7,⋯,⋯,⋯⟩
     ·rw[XQ kz];have m4:=m3;have hl:=k3 0 ⋯ ⋯;rw[uf] at hl;refine ar (b9 (aU b2) ?_);have m5:=m4.stepB T.trn W ⋯ b2 hl;simp only[bN,b7];by_cases z1:ib3+1=lb.length
      ·rw[Yh z1];exact aq ⟨⟨e3.k,e3.a,e3.p,e3.f⟩,.inl ⟨_,_,rfl,m5.doneA W (.inr z1)⟩⟩
      rw[XQ z1];refine ar (b9 (aU ⋯) ?_);refine ar (t6 (left:=ai) (ia:=ib3+1) (ib:=ia3) T W.symm (e3.k.trans hk) ⋯ ⋯ λj j1 j2 j3=>?_);dsimp only;by_cases jz:j > 0
      ·rw[Yh jz];have m6:=m5.galB T.trn W ⋯ j1 j2;simp only[eG,b7,show ib3+1+j-(ib3+1)=j by right];by_cases z4:ib3+1+j=lb.length
       ·rw[Yh z4];exact aq ⟨⟨e3.k,e3.a,e3.p,e3.f⟩,.inl ⟨_,_,rfl,m6.doneA W (.inr z4)⟩⟩
       rw[XQ z4];have hl2:=j3 j (br _) ⋯;have m7:=m6.stepA T.trn W ⋯ ⋯ hl2;refine ar (b9 (aU ⋯) ?_);simp only[bN,b7];by_cases z3:ia3+1+1=la.length
       ·rw[Yh z3];exact aq ⟨⟨e3.k,e3.a,e3.p,e3.f⟩,.inl ⟨_,_,rfl,m7.lastA W hz z3⟩⟩
       rw[XQ z3];by_cases z5:(decide (k<7)&&decide (j<7))=ai
       ·rw[Yh z5];exact aq ⟨⟨e3.k,e3.a,e3.p,e3.f⟩,.inr ⟨_,_,_,_,_,_,rfl,m7,⋯,⋯,⋯⟩⟩
       ·rw[XQ z5];exact aq ⟨⟨e3.k,e3.a,e3.p,e3.f⟩,_,_,_,_,_,_,rfl,m7,⋯,⋯,⋯⟩
      ·rw[XQ jz];have m6:=m5;have hl2:=j3 0 ⋯ ⋯;rw[uf] at hl2;have m7:=m6.stepA T.trn W ⋯ ⋯ hl2;refine ar (b9 (aU ⋯) ?_);simp only[bN,b7];by_cases z3:ia3+1+1=la.length
       ·rw[Yh z3];exact aq ⟨⟨e3.k,e3.a,e3.p,e3.f⟩,.inl ⟨_,_,rfl,m7.lastA W hz z3⟩⟩
       rw[XQ z3];by_cases z5:(decide (k<7)&&decide (j<7))=ai
       ·rw[Yh z5];exact aq ⟨⟨e3.k,e3.a,e3.p,e3.f⟩,.inr ⟨_,_,_,_,_,_,rfl,m7,⋯,⋯,⋯⟩⟩
       ·rw[XQ z5];exact aq ⟨⟨e3.k,e3.a,e3.p,e3.f⟩,_,_,_,_,_,_,rfl,m7,⋯,⋯,⋯⟩
    ·rw[XQ hg];refine ar (jl ?_);refine ar (b9 (aU b2) ?_);refine ar (t6 (left:=ao) (ia:=ia3) (ib:=ib3) T W (e3.k.trans hk) ⋯ b2 λk k1 k2 k3=>?_);dsimp only;by_cases kz:k > 0
     ·rw[Yh kz];have m4:=m3.galA T.trn W b2 k1 k2;simp only[eG,b7,show ia3+k-ia3=k by right];by_cases z1:ia3+k+1=la.length
      ·rw[Yh z1];exact aq ⟨⟨e3.k,e3.a,e3.p,e3.f⟩,.inl ⟨_,_,rfl,m4.lastA W hz z1⟩⟩
      rw[XQ z1];by_cases z2:ia3+k=la.length
      ·rw[Yh z2];exact aq ⟨⟨e3.k,e3.a,e3.p,e3.f⟩,.inl ⟨_,_,rfl,m4.doneA W (.inl z2)⟩⟩
      rw[XQ z2];have hl:=k3 k (br _) ⋯;refine ar (b9 (aU b2) ?_);have m5:=m4.stepB T.trn W ⋯ b2 hl;simp only[bN,b7];by_cases z1:ib3+1=lb.length
      ·rw[Yh z1];exact aq ⟨⟨e3.k,e3.a,e3.p,e3.f⟩,.inl ⟨_,_,rfl,m5.doneA W (.inr z1)⟩⟩
      rw[XQ z1];refine ar (b9 (aU ⋯) ?_);refine ar (t6 (left:=ai) (ia:=ib3+1) (ib:=ia3+k) T W.symm (e3.k.trans hk) ⋯ ⋯ λj j1 j2 j3=>?_);dsimp only;by_cases jz:j > 0
      ·rw[Yh jz];have m6:=m5.galB T.trn W ⋯ j1 j2;simp only[eG,b7,show ib3+1+j-(ib3+1)=j by right];by_cases z4:ib3+1+j=lb.length
       ·rw[Yh z4];exact aq ⟨⟨e3.k,e3.a,e3.p,e3.f⟩,.inl ⟨_,_,rfl,m6.doneA W (.inr z4)⟩⟩
       rw[XQ z4];have hl2:=j3 j (br _) ⋯;have m7:=m6.stepA T.trn W ⋯ ⋯ hl2;refine ar (b9 (aU ⋯) ?_);simp only[bN,b7];by_cases z3:ia3+k+1+1=la.length
       ·rw[Yh z3];exact aq ⟨⟨e3.k,e3.a,e3.p,e3.f⟩,.inl ⟨_,_,rfl,m7.lastA W hz z3⟩⟩
       rw[XQ z3];by_cases z5:(decide (k<7)&&decide (j<7))=ai
       ·rw[Yh z5];exact aq ⟨⟨e3.k,e3.a,e3.p,e3.f⟩,.inr ⟨_,_,_,_,_,_,rfl,m7,⋯,⋯,⋯⟩⟩
       ·rw[XQ z5];exact aq ⟨⟨e3.k,e3.a,e3.p,e3.f⟩,_,_,_,_,_,_,rfl,m7,⋯,⋯,⋯⟩
      ·rw[XQ jz];have m6:=m5;have hl2:=j3 0 ⋯ ⋯;rw[uf] at hl2;have m7:=m6.stepA T.trn W ⋯ ⋯ hl2;refine ar (b9 (aU ⋯) ?_);simp only[bN,b7];by_cases z3:ia3+k+1+1=la.length
       ·rw[Yh z3];exact aq ⟨⟨e3.k,e3.a,e3.p,e3.f⟩,.inl ⟨_,_,rfl,m7.lastA W hz z3⟩⟩
       rw[XQ z3];by_cases z5:(decide (k<7)&&decide (j<7))=ai
       ·rw[Yh z5];exact aq ⟨⟨e3.k,e3.a,e3.p,e3.f⟩,.inr ⟨_,_,_,_,_,_,rfl,m7,⋯,⋯,⋯⟩⟩
       ·rw[XQ z5];exact aq ⟨⟨e3.k,e3.a,e3.p,e3.f⟩,_,_,_,_,_,_,rfl,m7,⋯,⋯,⋯⟩
     ·rw[XQ kz];have m4:=m3;have hl:=k3 0 ⋯ ⋯;rw[uf] at hl;refine ar (b9 (aU b2) ?_);have m5:=m4.stepB T.trn W ⋯ b2 hl;simp only[bN,b7];by_cases z1:ib3+1=lb.length
      ·rw[Yh z1];exact aq ⟨⟨e3.k,e3.a,e3.p,e3.f⟩,.inl ⟨_,_,rfl,m5.doneA W (.inr z1)⟩⟩
      rw[XQ z1];refine ar (b9 (aU ⋯) ?_);refine ar (t6 (left:=ai) (ia:=ib3+1) (ib:=ia3) T W.symm (e3.k.trans hk) ⋯ ⋯ λj j1 j2 j3=>?_);dsimp only;by_cases jz:j > 0
      ·rw[Yh jz];have m6:=m5.galB T.trn W ⋯ j1 j2;simp only[eG,b7,show ib3+1+j-(ib3+1)=j by right];by_cases z4:ib3+1+j=lb.length
       ·rw[Yh z4];exact aq ⟨⟨e3.k,e3.a,e3.p,e3.f⟩,.inl ⟨_,_,rfl,m6.doneA W (.inr z4)⟩⟩
       rw[XQ z4];have hl2:=j3 j (br _) ⋯;have m7:=m6.stepA T.trn W ⋯ ⋯ hl2;refine ar (b9 (aU ⋯) ?_);simp only[bN,b7];by_cases z3:ia3+1+1=la.length
       ·rw[Yh z3];exact aq ⟨⟨e3.k,e3.a,e3.p,e3.f⟩,.inl ⟨_,_,rfl,m7.lastA W hz z3⟩⟩
       rw[XQ z3];by_cases z5:(decide (k<7)&&decide (j<7))=ai
       ·rw[Yh z5];exact aq ⟨⟨e3.k,e3.a,e3.p,e3.f⟩,.inr ⟨_,_,_,_,_,_,rfl,m7,⋯,⋯,⋯⟩⟩
       ·rw[XQ z5];exact aq ⟨⟨e3.k,e3.a,e3.p,e3.f⟩,_,_,_,_,_,_,rfl,m7,⋯,⋯,⋯⟩
      ·rw[XQ jz];have m6:=m5;have hl2:=j3 0 ⋯ ⋯;rw[uf] at hl2;have m7:=m6.stepA T.trn W ⋯ ⋯ hl2;refine ar (b9 (aU ⋯) ?_);simp only[bN,b7];by_cases z3:ia3+1+1=la.length
       ·rw[Yh z3];exact aq ⟨⟨e3.k,e3.a,e3.p,e3.f⟩,.inl ⟨_,_,rfl,m7.lastA W hz z3⟩⟩
       rw[XQ z3];by_cases z5:(decide (k<7)&&decide (j<7))=ai
       ·rw[Yh z5];exact aq ⟨⟨e3.k,e3.a,e3.p,e3.f⟩,.inr ⟨_,_,_,_,_,_,rfl,m7,⋯,⋯,⋯⟩⟩
       ·rw[XQ z5];exact aq ⟨⟨e3.k,e3.a,e3.p,e3.f⟩,_,_,_,_,_,_,rfl,m7,⋯,⋯,⋯⟩
end
abbrev fl(lt:Nat->Nat->Bool):Nat->Nat->Bool:=λx y=>lt y x
variable {na nb:Nat}
section
variable {lt:Nat->Nat->Bool}{lo:List Nat}
theorem Trn.fl(T:Trn N lt):Trn N (fl lt):=⟨λi j k a b c h1 h2=>T.tr k j i c b a h2 h1⟩
theorem Two.fl(W:Two N lt la lb):Two N (fl lt) la.reverse lb.reverse where
 ua:=vy.mpr W.ua
 ub:=vy.mpr W.ub
 nd:=by
  have:=W.nd;refine(List.Perm.nodup_iff ?_).mp this;exact(pz la).symm.append (pz lb).symm
 bd:=λx hx=>W.bd x (by simpa using hx)
structure Hg(lt:Nat->Nat->Bool)(la lb lo:List Nat)(na nb:Nat):Prop where
 m:Mg (fl lt) la.reverse lb.reverse lo (la.length-na) (lb.length-nb)
 a:na<=la.length
 b:nb<=lb.length
theorem rK(h0:0<n)(h:n<=l.length):l.reverse.getD (l.length-n) 0=l.getD (n-1) 0:=by
 simp only[fw];rw[List.getElem?_reverse ⋯];congr 2;right
theorem nS(h:n<=l.length):l.reverse.drop (l.length-n)=(l.take n).reverse:=by
 rw[List.drop_reverse];congr 2;right
theorem KD{t:Nat}(h1:t<=n)(h:n<=l.length):(l.reverse.drop (l.length-n)).take (n-t)=((l.drop t).take (n-t)).reverse:=by
 rw[nS h,List.take_reverse,dw,pq h];congr 1;rw[show n-(n-t)=t by right,List.drop_take]
theorem Hg.symm(h:Hg lt la lb lo na nb):Hg lt lb la lo nb na:=⟨h.m.symm,h.b,h.a⟩
theorem Hg.stepA(T:Trn N lt)(W:Two N lt la lb)(h:Hg lt la lb lo na nb)(h1:0<na)(h2:0<nb)(z:lt (lb.getD (nb-1) 0) (la.getD (na-1) 0)=ai):Hg lt la lb (lo++[la.getD (na-1) 0]) (na-1) nb:=by
 have a:=h.a;have b:=h.b;have:=h.m.stepA T.fl W.fl (by simp;right) (by simp;right) (by rw[rK h1 h.a,rK h2 h.b];exact z);rw[rK h1 h.a,show la.length-na+1=la.length-(na-1) by right] at this;exact⟨this,⋯,h.b⟩
theorem Hg.stepB(T:Trn N lt)(W:Two N lt la lb)(h:Hg lt la lb lo na nb)(h1:0<na)(h2:0<nb)(z:lt (la.getD (na-1) 0) (lb.getD (nb-1) 0)=ai):Hg lt la lb (lo++[lb.getD (nb-1) 0]) na (nb-1):=(h.symm.stepA T W.symm h2 h1 z).symm
theorem Hg.galA(T:Trn N lt)(W:Two N lt la lb)(h:Hg lt la lb lo na nb){t:Nat}(h2:0<nb)(ht:t<=na)(z:∀i,t<=i->i<na->lt (lb.getD (nb-1) 0) (la.getD i 0)=ai):Hg lt la lb (lo++((la.drop t).take (na-t)).reverse) t nb:=by
 have a:=h.a;have b:=h.b;have:=h.m.galA T.fl W.fl (k:=na-t) (by simp;right) (by simp;right) (λi hi=>by
  rw[rK h2 h.b,show la.length-na+i=la.length-(na-i) by right,rK ⋯ ⋯];exact z (na-i-1) ⋯ ⋯)
 rw[KD ht h.a,show la.length-na+(na-t)=la.length-t by right] at this;exact⟨this,⋯,h.b⟩
theorem Hg.galB(T:Trn N lt)(W:Two N lt la lb)(h:Hg lt la lb lo na nb){t:Nat}(h1:0<na)(ht:t<=nb)(z:∀i,t<=i->i<nb->lt (la.getD (na-1) 0) (lb.getD i 0)=ai):Hg lt la lb (lo++((lb.drop t).take (nb-t)).reverse) na t:=(h.symm.galA T W.symm h1 ht z).symm
theorem Ad.rev(d:Ad (fl lt) la.reverse lb.reverse l):Ad lt la lb l.reverse:=
 ⟨(pz l).trans (d.1.trans ((pz la).append (pz lb))),vy.mpr d.2⟩
theorem Hg.first(W:Two N lt la lb)(h:Hg lt la lb lo na nb)(z:∀x∈la.take na,∀r∈lb.take nb,lt r x=ai):Ad lt la lb (lb.take nb++la.take na++lo.reverse):=by
 have:=(h.m.endA W.fl (by rw[nS h.a,nS h.b];intro x hx r hr;exact z x (by simpa using hx) r (by simpa using hr))).rev;rw[nS h.a,nS h.b] at this;simpa using this
theorem Hg.done(W:Two N lt la lb)(h:Hg lt la lb lo na nb)(z:na=0 \/ nb=0):Ad lt la lb (la.take na++lb.take nb++lo.reverse):=by
 have:=h.first W (λx hx r hr=>by rcases z with z | z<;>subst z<;>first | (simp at hx;done) | (simp at hr;done));rcases z with z | z
 ·subst z;simpa using this
 ·subst z;simpa using this
theorem cX:(fO it l).reverse=fO it l.reverse:=by simp[fO]
theorem Je:(fO it l).extract 0 n=fO it (l.take n):=by rw[eG];simp
theorem t7(T:Tm M A E s N lt it κ)(W:Two N lt la lb)(hk:mv st=κ)(h1:0<na)(ha:na<=la.length)(h2:0<nb)(hb:nb<=lb.length)
  (q:∀t,t<=na->(∀i,i<t->lt (la.getD i 0) (lb.getD (nb-1) 0)=ai)->(∀i,t<=i->i<na->lt (lb.getD (nb-1) 0) (la.getD i 0)=ai)->Q (aa t) st):
  XA M A E s (gal left (it (lb.getD (nb-1) 0)) (fO it la) 0 na (na-1)) Q st:=
 A8 T (f:=λi=>la.getD i 0) hk (W.symm.ltA ⋯) (λi h=>by rw[rq];exact aU ⋯) (λi h=>⟨W.ltA ⋯,W.neAB ⋯ ⋯⟩) (λi j h h2=>W.upA h ⋯) ⋯ q
theorem L3(T:Tm M A E s N lt it κ)(W:Two N lt la lb){Q:Array sw->je->Prop}(hk:mv st=κ)(ha:0<la.length)(hb:0<lb.length)(h0:∀x∈la,lt (lb.getD 0 0) x=ai)(hz:lt (lb.getD (lb.length-1) 0) (la.getD (la.length-1) 0)=ai)
  (q:∀l st',Ad lt la lb l->SEq st st'->Q (fO it l) st'):XA M A E s (QK (fO it la) (fO it lb)) Q st:=by
 have m0:Hg lt la lb [] la.length lb.length:=⟨⟨by simpa using(pz la).append (pz lb) |>.trans (List.Perm.refl _) |>.symm.symm.trans ((pz la).append (pz lb)).symm,.nil,λo ho=>by cases ho⟩,br _,br _⟩;have m1:=m0.stepA T.trn W ha hb hz;have fst:∀{lo na nb},Hg lt la lb lo na nb->nb=1->Ad lt la lb (lb.take nb++la.take na++lo.reverse):=λ{lo na nb} m e=>m.first W λx hx r hr=>by
  subst e;have er:r=lb.getD 0 0:=by
   cases lb with
   |nil=>simp at hb
   |cons b l=>simpa using hr
  rw[er];exact h0 x (rn hx)
 unfold QK;refine ar (TL (mh ⟨rfl,?_⟩));simp only[wO];refine ar (b9 (aU ⋯) ?_);simp only[Je,beq_iff_eq];rw[show #[it (la.getD (la.length-1) 0)]=fO it ([]++[la.getD (la.length-1) 0]) from rfl];simp only[cX,b7];by_cases c1:la.length-1=0
 ·rw[Yh c1];exact aq (q _ _ (m1.done W (.inl c1)) (.refl st))
 rw[XQ c1];by_cases c2:lb.length=1
 ·rw[Yh c2];exact aq (q _ _ (fst m1 c2) (.refl st))
 rw[XQ c2];refine ar (uw ?_);refine ar (lj (gf
  (I:=λx c st'=>SEq st st' /\ ∃lo na nb g,c=(au,na,nb,fO it lo,g)/\Hg lt la lb lo na nb/\0<na/\1<nb/\na+nb+x+1<=la.length+lb.length)
  (Q:=λc st'=>SEq st st' /\ ∃l c',c=(aa (fO it l),c')/\Ad lt la lb l) ?step ?fin ?init) ?post)
 case fin=>
  rintro c st' ⟨_,lo,na,nb,g,rfl,m,h1,h2,h3⟩;right
 case init=>exact⟨.refl st,_,_,_,_,rfl,m1,⋯,⋯,⋯⟩
 case post=>
  rintro c st' ⟨e,l,c',rfl,d⟩;exact aq (q l st' d e)
 case step=>
  rintro x c st' _ hx ⟨e,lo,na,nb,g,rfl,m,h1,h2,h3⟩;dsimp only;refine ar (lj (gf
   (I:=λy c st'=>SEq st st' /\ ∃lo na' nb' ac bc,c=(au,na',nb',fO it lo,ac,bc)/\Hg lt la lb lo na' nb'/\0<na'/\1<nb'/\na'+nb'+y<=na+nb)
   (Q:=λc st'=>SEq st st'/\((∃l c',c=(aa (fO it l),c')/\Ad lt la lb l) \/ ∃lo na' nb' ac bc,c=(au,na',nb',fO it lo,ac,bc)/\Hg lt la lb lo na' nb'/\0<na'/\1<nb'/\na'+nb'+1<=na+nb)) ?s1 ?f1 ?i1) ?p1)
  case i1=>exact⟨e,_,_,_,_,_,rfl,m,h1,h2,br _⟩
  case f1=>
   rintro c st2 ⟨e2,lo2,na2,nb2,ac,bc,rfl,m2,a1,a2,a3⟩;exact⟨e2,.inr ⟨_,_,_,_,_,rfl,m2,a1,a2,⋯⟩⟩
  case s1=>
   rintro y c st2 _ hy ⟨e2,lo2,na2,nb2,ac,bc,rfl,m2,a1,a2,a3⟩;have pa:=m2.a;have pb:=m2.b;dsimp only;refine ar (b9 (aU ⋯) (ar (b9 (aU ⋯) (ar (T.cmp _ _ (W.symm.ltA ⋯) (W.ltA ⋯) (Ne.symm (W.neAB ⋯ ⋯)) _ _ (e2.k.trans hk) ?_)))));cases y0:lt (lb.getD (nb2-1) 0) (la.getD (na2-1) 0) with
   |true=>
    dsimp only;rw[Yh rfl];refine ar (b9 (aU ⋯) ?_);have m3:=m2.stepA T.trn W a1 ⋯ y0;simp only[bN,cX,b7];by_cases z:na2-1=0
    ·rw[Yh z];exact aq ⟨e2,.inl ⟨_,_,rfl,m3.done W (.inl z)⟩⟩
    ·rw[XQ z];split
     ·exact aq ⟨e2,.inr ⟨_,_,_,_,_,rfl,m3,⋯,a2,⋯⟩⟩
     ·exact aq ⟨e2,_,_,_,_,_,rfl,m3,⋯,a2,⋯⟩
   |false=>
    dsimp only;rw[XQ ∅];refine ar (b9 (aU ⋯) ?_);have y1:lt (la.getD (na2-1) 0) (lb.getD (nb2-1) 0)=ai:=by rw[T.tot _ _ (W.ltA ⋯) (W.symm.ltA ⋯) (W.neAB ⋯ ⋯),y0];rfl
    have m3:=m2.stepB T.trn W a1 ⋯ y1;simp only[bN,cX,b7];by_cases z:nb2-1=1
    ·rw[Yh z];exact aq ⟨e2,.inl ⟨_,_,rfl,fst m3 z⟩⟩
    ·rw[XQ z];split
     ·exact aq ⟨e2,.inr ⟨_,_,_,_,_,rfl,m3,a1,⋯,⋯⟩⟩
     ·exact aq ⟨e2,_,_,_,_,_,rfl,m3,a1,⋯,⋯⟩
  case p1=>
   rintro c st2 ⟨e2,⟨l,c',rfl,d⟩ | ⟨lo2,na2,nb2,ac,bc,rfl,m2,a1,a2,a3⟩⟩
   ·exact aq ⟨e2,l,_,rfl,d⟩
   dsimp only;refine ar (TL (mh ⟨rfl,?_⟩));refine ar (lj (gf
    (I:=λy c st'=>SEq st st' /\ ∃lo na' nb' g' ac bc,c=(au,na',nb',fO it lo,g',ac,bc)/\Hg lt la lb lo na' nb'/\0<na'/\1<nb'/\na'+nb'+y<=na2+nb2)
    (Q:=λc st'=>SEq st st'/\((∃l c',c=(aa (fO it l),c')/\Ad lt la lb l) \/ ∃lo na' nb' g' ac bc,c=(au,na',nb',fO it lo,g',ac,bc)/\Hg lt la lb lo na' nb'/\0<na'/\1<nb'/\na'+nb'<=na2+nb2)) ?s2 ?f2 ?i2) ?p2)
   case i2=>exact⟨e2,_,_,_,_,_,_,rfl,m2,a1,a2,br _⟩
   case f2=>
    rintro c st3 ⟨e3,lo3,na3,nb3,g3,ac3,bc3,rfl,m3,b1,b2,b3⟩;exact⟨e3,.inr ⟨_,_,_,_,_,_,rfl,m3,b1,b2,⋯⟩⟩
   case p2=>
    rintro c st3 ⟨e3,⟨l,c',rfl,d⟩ | ⟨lo3,na3,nb3,g3,ac3,bc3,rfl,m3,b1,b2,b3⟩⟩
    ·exact aq ⟨e3,l,_,rfl,d⟩
    dsimp only;refine ar (jl ?_);exact aq ⟨⟨e3.k,e3.a,e3.p,e3.f⟩,_,_,_,_,rfl,m3,b1,b2,⋯⟩
   case s2=>
    rintro y c st3 _ hy ⟨e3,lo3,na3,nb3,g3,ac3,bc3,rfl,m3,b1,b2,b3⟩;have pa:=m3.a;have pb:=m3.b;dsimp only;by_cases hg:g3 > 1
    ·rw[Yh hg];refine ar (jl ?_);refine ar (b9 (aU ⋯) ?_);refine ar (t7 (left:=ao) (na:=na3) (nb:=nb3) T W (e3.k.trans hk) b1 pa ⋯ pb λt k1 k2 k3=>?_);dsimp only;by_cases kz:na3-t > 0
     ·rw[Yh kz];have m4:=m3.galA T.trn W ⋯ k1 k3
      try simp only[eG,cX,b7]
      by_cases z0:t=0
      ·rw[Yh z0];exact aq ⟨⟨e3.k,e3.a,e3.p,e3.f⟩,.inl ⟨_,_,rfl,m4.done W (.inl z0)⟩⟩
      rw[XQ z0];have hl:=k2 (t-1) ⋯;refine ar (b9 (aU ⋯) ?_);have m5:=m4.stepB T.trn W ⋯ ⋯ hl;simp only[bN,cX,b7];by_cases z1:nb3-1=1
      ·rw[Yh z1];exact aq ⟨⟨e3.k,e3.a,e3.p,e3.f⟩,.inl ⟨_,_,rfl,fst m5 z1⟩⟩
      rw[XQ z1];refine ar (b9 (aU ⋯) ?_);refine ar (t7 (left:=ai) (na:=nb3-1) (nb:=t) T W.symm (e3.k.trans hk) ⋯ ⋯ ⋯ ⋯ λu j1 j2 j3=>?_);dsimp only;by_cases jz:nb3-1-u > 0
      ·rw[Yh jz];have m6:=m5.galB T.trn W ⋯ j1 j3
       try simp only[eG,cX,b7]
       by_cases z4:u=1
       ·rw[Yh z4];exact aq ⟨⟨e3.k,e3.a,e3.p,e3.f⟩,.inl ⟨_,_,rfl,fst m6 z4⟩⟩
       rw[XQ z4];by_cases z6:u=0
       ·rw[Yh z6];exact aq ⟨⟨e3.k,e3.a,e3.p,e3.f⟩,.inl ⟨_,_,rfl,m6.done W (.inr z6)⟩⟩
       rw[XQ z6];have hl2:=j2 (u-1) ⋯;have m7:=m6.stepA T.trn W ⋯ ⋯ hl2;refine ar (b9 (aU ⋯) ?_);simp only[bN,cX,b7];by_cases z3:t-1=0
       ·rw[Yh z3];exact aq ⟨⟨e3.k,e3.a,e3.p,e3.f⟩,.inl ⟨_,_,rfl,m7.done W (.inl z3)⟩⟩
       rw[XQ z3];by_cases z5:(decide (na3-t<7)&&decide (nb3-1-u<7))=ai
       ·rw[Yh z5];exact aq ⟨⟨e3.k,e3.a,e3.p,e3.f⟩,.inr ⟨_,_,_,_,_,_,rfl,m7,⋯,⋯,⋯⟩⟩
       ·rw[XQ z5];exact aq ⟨⟨e3.k,e3.a,e3.p,e3.f⟩,_,_,_,_,_,_,rfl,m7,⋯,⋯,⋯⟩
      ·rw[XQ jz];have eu:u=nb3-1:=⋯;have m6:=m5;have hl2:=j2 (nb3-1-1) ⋯;have m7:=m6.stepA T.trn W ⋯ ⋯ hl2;refine ar (b9 (aU ⋯) ?_);simp only[bN,cX,b7];by_cases z3:t-1=0
       ·rw[Yh z3];exact aq ⟨⟨e3.k,e3.a,e3.p,e3.f⟩,.inl ⟨_,_,rfl,m7.done W (.inl z3)⟩⟩
       rw[XQ z3];by_cases z5:(decide (na3-t<7)&&decide (nb3-1-u<7))=ai
       ·rw[Yh z5];exact aq ⟨⟨e3.k,e3.a,e3.p,e3.f⟩,.inr ⟨_,_,_,_,_,_,rfl,m7,⋯,⋯,⋯⟩⟩
       ·rw[XQ z5];exact aq ⟨⟨e3.k,e3.a,e3.p,e3.f⟩,_,_,_,_,_,_,rfl,m7,⋯,⋯,⋯⟩
     ·rw[XQ kz];have et:t=na3:=⋯;have m4:=m3;have hl:=k2 (na3-1) ⋯;refine ar (b9 (aU ⋯) ?_);have m5:=m4.stepB T.trn W ⋯ ⋯ hl;simp only[bN,cX,b7];by_cases z1:nb3-1=1
      ·rw[Yh z1];exact aq ⟨⟨e3.k,e3.a,e3.p,e3.f⟩,.inl ⟨_,_,rfl,fst m5 z1⟩⟩
      rw[XQ z1];refine ar (b9 (aU ⋯) ?_);refine ar (t7 (left:=ai) (na:=nb3-1) (nb:=na3) T W.symm (e3.k.trans hk) ⋯ ⋯ ⋯ ⋯ λu j1 j2 j3=>?_);dsimp only;by_cases jz:nb3-1-u > 0
      ·rw[Yh jz];have m6:=m5.galB T.trn W ⋯ j1 j3
       try simp only[eG,cX,b7]
       by_cases z4:u=1
       ·rw[Yh z4];exact aq ⟨⟨e3.k,e3.a,e3.p,e3.f⟩,.inl ⟨_,_,rfl,fst m6 z4⟩⟩
       rw[XQ z4];by_cases z6:u=0
       ·rw[Yh z6];exact aq ⟨⟨e3.k,e3.a,e3.p,e3.f⟩,.inl ⟨_,_,rfl,m6.done W (.inr z6)⟩⟩
       rw[XQ z6];have hl2:=j2 (u-1) ⋯;have m7:=m6.stepA T.trn W ⋯ ⋯ hl2;refine ar (b9 (aU ⋯) ?_);simp only[bN,cX,b7];by_cases z3:na3-1=0
       ·rw[Yh z3];exact aq ⟨⟨e3.k,e3.a,e3.p,e3.f⟩,.inl ⟨_,_,rfl,m7.done W (.inl z3)⟩⟩
       rw[XQ z3];by_cases z5:(decide (na3-t<7)&&decide (nb3-1-u<7))=ai
       ·rw[Yh z5];exact aq ⟨⟨e3.k,e3.a,e3.p,e3.f⟩,.inr ⟨_,_,_,_,_,_,rfl,m7,⋯,⋯,⋯⟩⟩
       ·rw[XQ z5];exact aq ⟨⟨e3.k,e3.a,e3.p,e3.f⟩,_,_,_,_,_,_,rfl,m7,⋯,⋯,⋯⟩
      ·rw[XQ jz];have eu:u=nb3-1:=⋯;have m6:=m5;have hl2:=j2 (nb3-1-1) ⋯;have m7:=m6.stepA T.trn W ⋯ ⋯ hl2;refine ar (b9 (aU ⋯) ?_);simp only[bN,cX,b7];by_cases z3:na3-1=0
       ·rw[Yh z3];exact aq ⟨⟨e3.k,e3.a,e3.p,e3.f⟩,.inl ⟨_,_,rfl,m7.done W (.inl z3)⟩⟩
       rw[XQ z3];by_cases z5:(decide (na3-t<7)&&decide (nb3-1-u<7))=ai
       ·rw[Yh z5];exact aq ⟨⟨e3.k,e3.a,e3.p,e3.f⟩,.inr ⟨_,_,_,_,_,_,rfl,m7,⋯,⋯,⋯⟩⟩
       ·rw[XQ z5];exact aq ⟨⟨e3.k,e3.a,e3.p,e3.f⟩,_,_,_,_,_,_,rfl,m7,⋯,⋯,⋯⟩
    ·rw[XQ hg];refine ar (jl ?_);refine ar (b9 (aU ⋯) ?_);refine ar (t7 (left:=ao) (na:=na3) (nb:=nb3) T W (e3.k.trans hk) b1 pa ⋯ pb λt k1 k2 k3=>?_);dsimp only;by_cases kz:na3-t > 0
     ·rw[Yh kz];have m4:=m3.galA T.trn W ⋯ k1 k3
      try simp only[eG,cX,b7]
      by_cases z0:t=0
      ·rw[Yh z0];exact aq ⟨⟨e3.k,e3.a,e3.p,e3.f⟩,.inl ⟨_,_,rfl,m4.done W (.inl z0)⟩⟩
      rw[XQ z0];have hl:=k2 (t-1) ⋯;refine ar (b9 (aU ⋯) ?_);have m5:=m4.stepB T.trn W ⋯ ⋯ hl;simp only[bN,cX,b7];by_cases z1:nb3-1=1
      ·rw[Yh z1];exact aq ⟨⟨e3.k,e3.a,e3.p,e3.f⟩,.inl ⟨_,_,rfl,fst m5 z1⟩⟩
      rw[XQ z1];refine ar (b9 (aU ⋯) ?_);refine ar (t7 (left:=ai) (na:=nb3-1) (nb:=t) T W.symm (e3.k.trans hk) ⋯ ⋯ ⋯ ⋯ λu j1 j2 j3=>?_);dsimp only;by_cases jz:nb3-1-u > 0
      ·rw[Yh jz];have m6:=m5.galB T.trn W ⋯ j1 j3
       try simp only[eG,cX,b7]
       by_cases z4:u=1
       ·rw[Yh z4];exact aq ⟨⟨e3.k,e3.a,e3.p,e3.f⟩,.inl ⟨_,_,rfl,fst m6 z4⟩⟩
       rw[XQ z4];by_cases z6:u=0
       ·rw[Yh z6];exact aq ⟨⟨e3.k,e3.a,e3.p,e3.f⟩,.inl ⟨_,_,rfl,m6.done W (.inr z6)⟩⟩
       rw[XQ z6];have hl2:=j2 (u-1) ⋯;have m7:=m6.stepA T.trn W ⋯ ⋯ hl2;refine ar (b9 (aU ⋯) ?_);simp only[bN,cX,b7];by_cases z3:t-1=0
       ·rw[Yh z3];exact aq ⟨⟨e3.k,e3.a,e3.p,e3.f⟩,.inl ⟨_,_,rfl,m7.done W (.inl z3)⟩⟩
       rw[XQ z3];by_cases z5:(decide (na3-t<7)&&decide (nb3-1-u<7))=ai
       ·rw[Yh z5];exact aq ⟨⟨e3.k,e3.a,e3.p,e3.f⟩,.inr ⟨_,_,_,_,_,_,rfl,m7,⋯,⋯,⋯⟩⟩
       ·rw[XQ z5];exact aq ⟨⟨e3.k,e3.a,e3.p,e3.f⟩,_,_,_,_,_,_,rfl,m7,⋯,⋯,⋯⟩
      ·rw[XQ jz];have eu:u=nb3-1:=⋯;have m6:=m5;have hl2:=j2 (nb3-1-1) ⋯;have m7:=m6.stepA T.trn W ⋯ ⋯ hl2;refine ar (b9 (aU ⋯) ?_);simp only[bN,cX,b7];by_cases z3:t-1=0
       ·rw[Yh z3];exact aq ⟨⟨e3.k,e3.a,e3.p,e3.f⟩,.inl ⟨_,_,rfl,m7.done W (.inl z3)⟩⟩
       rw[XQ z3];by_cases z5:(decide (na3-t<7)&&decide (nb3-1-u<7))=ai
       ·rw[Yh z5];exact aq ⟨⟨e3.k,e3.a,e3.p,e3.f⟩,.inr ⟨_,_,_,_,_,_,rfl,m7,⋯,⋯,⋯⟩⟩
       ·rw[XQ z5];exact aq ⟨⟨e3.k,e3.a,e3.p,e3.f⟩,_,_,_,_,_,_,rfl,m7,⋯,⋯,⋯⟩
     ·rw[XQ kz];have et:t=na3:=⋯;have m4:=m3;have hl:=k2 (na3-1) ⋯;refine ar (b9 (aU ⋯) ?_);have m5:=m4.stepB T.trn W ⋯ ⋯ hl;simp only[bN,cX,b7];by_cases z1:nb3-1=1
      ·rw[Yh z1];exact aq ⟨⟨e3.k,e3.a,e3.p,e3.f⟩,.inl ⟨_,_,rfl,fst m5 z1⟩⟩
      rw[XQ z1];refine ar (b9 (aU ⋯) ?_);refine ar (t7 (left:=ai) (na:=nb3-1) (nb:=na3) T W.symm (e3.k.trans hk) ⋯ ⋯ ⋯ ⋯ λu j1 j2 j3=>?_);dsimp only;by_cases jz:nb3-1-u > 0
      ·rw[Yh jz];have m6:=m5.galB T.trn W ⋯ j1 j3
       try simp only[eG,cX,b7]
       by_cases z4:u=1
       ·rw[Yh z4];exact aq ⟨⟨e3.k,e3.a,e3.p,e3.f⟩,.inl ⟨_,_,rfl,fst m6 z4⟩⟩
       rw[XQ z4];by_cases z6:u=0
       ·rw[Yh z6];exact aq ⟨⟨e3.k,e3.a,e3.p,e3.f⟩,.inl ⟨_,_,rfl,m6.done W (.inr z6)⟩⟩
       rw[XQ z6];have hl2:=j2 (u-1) ⋯;have m7:=m6.stepA T.trn W ⋯ ⋯ hl2;refine ar (b9 (aU ⋯) ?_);simp only[bN,cX,b7];by_cases z3:na3-1=0
       ·rw[Yh z3];exact aq ⟨⟨e3.k,e3.a,e3.p,e3.f⟩,.inl ⟨_,_,rfl,m7.done W (.inl z3)⟩⟩
       rw[XQ z3];by_cases z5:(decide (na3-t<7)&&decide (nb3-1-u<7))=ai
       ·rw[Yh z5];exact aq ⟨⟨e3.k,e3.a,e3.p,e3.f⟩,.inr ⟨_,_,_,_,_,_,rfl,m7,⋯,⋯,⋯⟩⟩
       ·rw[XQ z5];exact aq ⟨⟨e3.k,e3.a,e3.p,e3.f⟩,_,_,_,_,_,_,rfl,m7,⋯,⋯,⋯⟩
      ·rw[XQ jz];have eu:u=nb3-1:=⋯;have m6:=m5;have hl2:=j2 (nb3-1-1) ⋯;have m7:=m6.stepA T.trn W ⋯ ⋯ hl2;refine ar (b9 (aU ⋯) ?_);simp only[bN,cX,b7];by_cases z3:na3-1=0
       ·rw[Yh z3];exact aq ⟨⟨e3.k,e3.a,e3.p,e3.f⟩,.inl ⟨_,_,rfl,m7.done W (.inl z3)⟩⟩
       rw[XQ z3];by_cases z5:(decide (na3-t<7)&&decide (nb3-1-u<7))=ai
       ·rw[Yh z5];exact aq ⟨⟨e3.k,e3.a,e3.p,e3.f⟩,.inr ⟨_,_,_,_,_,_,rfl,m7,⋯,⋯,⋯⟩⟩
       ·rw[XQ z5];exact aq ⟨⟨e3.k,e3.a,e3.p,e3.f⟩,_,_,_,_,_,_,rfl,m7,⋯,⋯,⋯⟩
end
variable {u v lo:Nat}{p p':List Nat}
section
variable {lt:Nat->Nat->Bool}
abbrev g(p:List Nat)(u:Nat):Nat:=p.getD u 0
structure Sp1(it:Nat->sw)(κ:rm)(st:je)(p:List Nat):Prop where
 k:mv st=κ
 a:vf st=fO it p
 f:vm st=au
abbrev tG(N:Nat)(p:List Nat):Prop:=p.Perm (gx N)
theorem nU(h:tG N p):p.length=N:=by rw[h.length_eq,VF]
theorem cZ(h:tG N p)(hu:u<N):g p u<N:=by
 have hl:=nU h;have e:g p u=p[u]'⋯:=by simp[g,de,show u<p.length by right]
 rw[e];exact xp.mp (h.mem_iff.mp (fq _))
theorem vK(h:tG N p)(hu:u<N)(hv:v<N)(n:u≠v):g p u≠g p v:=by
 have hl:=nU h;have nd:p.Nodup:=h.nodup_iff.mpr Wj;have e1:g p u=p[u]'⋯:=by simp[g,de,show u<p.length by right]
 have e2:g p v=p[v]'⋯:=by simp[g,de,show v<p.length by right]
 rw[e1,e2];rcases ue n with z | z
 ·exact da.mp nd u v ⋯ ⋯ z
 ·exact Ne.symm (da.mp nd v u ⋯ ⋯ z)
def Sg(lt:Nat->Nat->Bool)(p:List Nat)(lo hi:Nat):Prop:=∀u v,lo<=u->u<v->v<hi->lt (g p u) (g p v)=ai
def Ou(p p':List Nat)(lo hi:Nat):Prop:=∀u,(u<lo \/ hi<=u)->g p' u=g p u
theorem sJ(T:Tm M A E s N lt it κ){Q:Option Bool->je->Prop}(S:Sp1 it κ st p)(P:tG N p)(hi:i<N)(hj:j<N)(hn:i≠j)(q:Q (aa (lt (g p i) (g p j))) st):XA M A E s (ltAt' i j) Q st:=by
 have hl:=nU P;unfold ltAt';refine ar (uw ?_);refine ar (b9 (x:=it (g p i)) (by rw[show (sortPriv% PySem.Builtin.SortState.a) st=fO it p from S.a];exact aU ⋯) (ar (b9 (x:=it (g p j)) (by rw[show (sortPriv% PySem.Builtin.SortState.a) st=fO it p from S.a];exact aU ⋯) ?_)));exact T.cmp _ _ (cZ P hi) (cZ P hj) (vK P hi hj hn) st Q S.k q
theorem o7{q:Array Nat}(h:q[u]?=p[v]?):g q.toList u=g p v:=by
 unfold g;rw[fw,fw,jc,h]
theorem KG(hj:j<=p.length):∃p',WX (fO it p) i j ((j-i) / 2)=fO it p'/\p'.Perm p /\ ∀u,g p' u=if i<=u/\u<j then g p (i+j-1-u) else g p u:=by
 refine⟨(WX p.toArray i j ((j-i) / 2)).toList,?_,?_,λu=>?_⟩
 ·apply va;intro u;rw[uj (by simpa using hj)];simp only[fO,vz,dg,jc];rw[uj (by simpa using hj)];split<;>simp
 ·have:=mirror_perm p.toArray i j ((j-i) / 2);simpa using this.toList
 ·have e:=uj (xs:=p.toArray) (i:=i) (j:=j) (by simpa using hj) u;split
  ·rename_i h;rw[Yh h] at e;exact o7 (by rw[e];simp)
  ·rename_i h;rw[XQ h] at e;exact o7 (by rw[e];simp)
theorem Ll{src d:Nat}(hs:src<p.length)(hd:d<=src):∃p',W0 (fO it p) src d=fO it p'/\p'.Perm p /\ ∀u,g p' u=if u=src-d then g p src else if src-d<u/\u<=src then g p (u-1) else g p u:=by
 refine⟨(W0 p.toArray src d).toList,?_,?_,λu=>?_⟩
 ·apply va;intro u;rw[wy (by simpa using hs) d hd];simp only[fO,vz,dg,jc];rw[wy (by simpa using hs) d hd]
  repeat' split
  all_goals simp
 ·have:=bubble_perm p.toArray src d;simpa using this.toList
 ·have e:=wy (xs:=p.toArray) (src:=src) (by simpa using hs) d hd u;by_cases h1:u=src-d
  ·rw[Yh h1] at e ⊢;exact o7 (by rw[e];simp)
  ·rw[XQ h1] at e ⊢;by_cases h2:src-d<u/\u<=src
   ·rw[Yh h2] at e ⊢;exact o7 (by rw[e];simp)
   ·rw[XQ h2] at e ⊢;exact o7 (by rw[e];simp)
theorem JT(T:Tm M A E s N lt it κ)(S:Sp1 it κ st p)(P:tG N p)(h1:0<n)(hn:lo+n<=N)
  (q:∀m st' p',1<=m->m<=n->Sp1 it κ st' p'->cq st'=cq st->tG N p'->Sg lt p' lo (lo+m)->Ou p p' lo (lo+m)->Q (aa m) st'):XA M A E s (countRun' lo n) Q st:=by
 have grow:∀{p:List Nat} {m:Nat},tG N p->1<=m->lo+m<N->Sg lt p lo (lo+m)->lt (g p (lo+m)) (g p (lo+m-1))=ao->Sg lt p lo (lo+(m+1)):=λ{p m} P hm hN sg z u v hu huv hv=>by
  have last:lt (g p (lo+m-1)) (g p (lo+m))=ai:=by rw[T.tot _ _ (cZ P ⋯) (cZ P ⋯) (vK P ⋯ ⋯ ⋯),z];rfl
  by_cases e:v=lo+m
  ·subst e;by_cases e2:u=lo+m-1
   ·rw[e2];exact last
   ·exact T.tr _ _ _ (cZ P ⋯) (cZ P ⋯) (cZ P ⋯) (sg u (lo+m-1) hu ⋯ ⋯) last
  ·exact sg u v hu huv ⋯
 unfold countRun';refine ar (lj (gf
  (I:=λx c st'=>st=st'/\c=(au,x)/\Sg lt p lo (lo+x))
  (Q:=λc st'=>st=st' /\ ∃m,c=(au,m)/\1<=m/\m<=n/\Sg lt p lo (lo+m)/\(m<n->lt (g p (lo+m)) (g p (lo+m-1))=ai)) ?s1 ?f1 ?i1) ?p1)
 case i1=>exact⟨rfl,rfl,λu v a b c=>by right⟩
 case f1=>
  rintro c st' ⟨rfl,rfl,sg⟩;exact⟨rfl,_,rfl,⋯,⋯,by rw[show max 1 n=n by right] at sg ⊢;exact sg,λh=>by right⟩
 case s1=>
  rintro x c st' hx1 hx ⟨rfl,rfl,sg⟩;dsimp only;refine ar (sJ T S P ⋯ ⋯ ⋯ ?_);cases y:lt (g p (lo+x)) (g p (lo+x-1)) with
  |true=>
   dsimp only;rw[Yh rfl];exact aq ⟨rfl,x,rfl,hx1,⋯,sg,λ_=>y⟩
  |false=>
   dsimp only;rw[XQ ∅];exact aq ⟨rfl,rfl,grow P hx1 ⋯ sg y⟩
 case p1=>
  rintro c st' ⟨rfl,m,rfl,m1,m2,sg,fall⟩;dsimp only;by_cases z:m=n
  ·rw[Yh (by simpa using z)];exact aq (q m st p m1 m2 S rfl P sg λu h=>rfl)
  rw[XQ (by simpa using z)];have fa:=fall ⋯;by_cases z2:m > 1
  ·rw[Yh z2];refine ar (sJ T S P ⋯ ⋯ ⋯ ?_);rw[sg lo (lo+m-1) (br _) ⋯ ⋯];dsimp only;rw[Yh rfl];exact aq (q m st p m1 m2 S rfl P sg λu h=>rfl)
  rw[XQ z2];obtain rfl:m=1:=⋯;refine ar (TL (mh ⟨rfl,?_⟩));refine ar (lj (gf
   (I:=λx c st'=>st=st'/\c=(au,x,0) /\ ∀u v,lo<=u->u<v->v<lo+x->lt (g p v) (g p u)=ai)
   (Q:=λc st'=>st=st' /\ ∃k,c=(au,k,0)/\2<=k/\k<=n /\ ∀u v,lo<=u->u<v->v<lo+k->lt (g p v) (g p u)=ai) ?s2 ?f2 ?i2) ?p2)
  case i2=>
   refine⟨rfl,rfl,λu v a b c=>?_⟩;rw[show u=lo by right,show v=lo+1 by right];exact fa
  case f2=>
   rintro c st' ⟨rfl,rfl,d⟩;exact⟨rfl,_,rfl,⋯,⋯,d⟩
  case s2=>
   rintro x c st' hx1 hx ⟨rfl,rfl,d⟩;dsimp only;refine ar (sJ T S P ⋯ ⋯ ⋯ ?_);cases y:lt (g p (lo+x)) (g p (lo+x-1)) with
   |true=>
    dsimp only;rw[Yh rfl,XQ ∅];refine aq ⟨rfl,rfl,λu v hu huv hv=>?_⟩;by_cases e:v=lo+x
    ·subst e;by_cases e2:u=lo+x-1
     ·rw[e2];exact y
     ·exact T.tr _ _ _ (cZ P ⋯) (cZ P ⋯) (cZ P ⋯) y (d u (lo+x-1) hu ⋯ ⋯)
    ·exact d u v hu huv ⋯
   |false=>
    dsimp only;rw[XQ ∅];refine ar (sJ T S P ⋯ ⋯ ⋯ ?_);rw[show lt (g p (lo+x-1)) (g p (lo+x))=ai by rw[T.tot _ _ (cZ P ⋯) (cZ P ⋯) (vK P ⋯ ⋯ ⋯),y];rfl];dsimp only;rw[Yh rfl];exact aq ⟨rfl,x,rfl,hx1,⋯,d⟩
  case p2=>
   rintro c st' ⟨rfl,k,rfl,k1,k2,d⟩;dsimp only;rw[XQ ∅];have hl:=nU P;obtain⟨p2,e2,pp2,gp2⟩:=KG (it:=it) (p:=p) (i:=lo) (j:=lo+k) ⋯;have S2:Sp1 it κ (Y6 st (WX (vf st) lo (lo+k) ((lo+k-lo) / 2))) p2:=⟨S.k,by show WX (vf st) lo (lo+k) ((lo+k-lo) / 2)=_;rw[S.a];exact e2,S.f⟩;have P2:tG N p2:=pp2.trans P;have sg2:Sg lt p2 lo (lo+k):=λu v hu huv hv=>by
    rw[gp2 u,gp2 v,Yh ⋯,Yh ⋯];exact d _ _ ⋯ ⋯ ⋯
   refine ar (jl ?_);show XA M A E s _ Q (Y6 st (WX (vf st) lo (lo+k) ((lo+k-lo) / 2)));generalize hst:Y6 st (WX (vf st) lo (lo+k) ((lo+k-lo) / 2))=st2 at S2 ⊢;have pe:cq st2=cq st:=by rw[<- hst]
   refine ar (lj (gf
    (I:=λx c st'=>st2=st'/\c=(au,x)/\Sg lt p2 lo (lo+x))
    (Q:=λc st'=>st2=st' /\ ∃m,c=(au,m)/\k<=m/\m<=n/\Sg lt p2 lo (lo+m)) ?s3 ?f3 ?i3) ?p3)
   case i3=>exact⟨rfl,rfl,sg2⟩
   case f3=>
    rintro c st' ⟨rfl,rfl,sg3⟩;exact⟨rfl,_,rfl,⋯,⋯,sg3⟩
   case s3=>
    rintro x c st' hx1 hx ⟨rfl,rfl,sg3⟩;dsimp only;refine ar (sJ T S2 P2 ⋯ ⋯ ⋯ ?_);cases y:lt (g p2 (lo+x)) (g p2 (lo+x-1)) with
    |true=>
     dsimp only;rw[Yh rfl];exact aq ⟨rfl,x,rfl,hx1,⋯,sg3⟩
    |false=>
     dsimp only;rw[XQ ∅];exact aq ⟨rfl,rfl,grow P2 ⋯ ⋯ sg3 y⟩
   case p3=>
    rintro c st' ⟨rfl,m,rfl,m1,m2,sg3⟩;exact aq (q m st2 p2 ⋯ m2 S2 pe P2 sg3 λu h=>by rw[gp2 u,XQ ⋯])
theorem OY(T:Tm M A E s N lt it κ){ok:Nat}{Q:Bool->je->Prop}(S:Sp1 it κ st p)(P:tG N p)(h1:1<=ok)(ho:ok<=n)(hn:lo+n<=N)(sg:Sg lt p lo (lo+ok))
  (q:∀st' p',Sp1 it κ st' p'->cq st'=cq st->tG N p'->Sg lt p' lo (lo+n)->Ou p p' lo (lo+n)->Q ai st'):XA M A E s (binarySort' lo n ok) Q st:=by
 unfold binarySort';refine ar (lj (gf
  (I:=λk c st'=>c=(au,()) /\ ∃p',Sp1 it κ st' p'/\cq st'=cq st/\tG N p'/\Sg lt p' lo (lo+k)/\Ou p p' lo (lo+n))
  (Q:=λc st'=>c=(au,()) /\ ∃p',Sp1 it κ st' p'/\cq st'=cq st/\tG N p'/\Sg lt p' lo (lo+n)/\Ou p p' lo (lo+n)) ?s1 ?f1 ?i1) ?p1)
 case i1=>exact⟨rfl,p,S,rfl,P,by rw[show max ok 1=ok by right];exact sg,λu h=>rfl⟩
 case f1=>
  rintro c st' ⟨rfl,p',S',e,P',sg',o⟩;exact⟨rfl,p',S',e,P',by rw[show max (max ok 1) n=n by right] at sg';exact sg',o⟩
 case p1=>
  rintro c st' ⟨rfl,p',S',e,P',sg',o⟩;exact aq (q st' p' S' e P' sg' o)
 case s1=>
  rintro k c st' hk1 hk ⟨rfl,p',S',e,P',sg',o⟩;dsimp only;refine ar (lj (gf
   (I:=λx c st2=>st'=st2 /\ ∃l r,c=(au,l,r)/\l<=r/\r<=k/\r-l+x<=k/\(∀u,u<l->lt (g p' (lo+u)) (g p' (lo+k))=ai) /\ ∀u,r<=u->u<k->lt (g p' (lo+k)) (g p' (lo+u))=ai)
   (Q:=λc st2=>st'=st2 /\ ∃l,c=(au,l,l)/\l<=k/\(∀u,u<l->lt (g p' (lo+u)) (g p' (lo+k))=ai) /\ ∀u,l<=u->u<k->lt (g p' (lo+k)) (g p' (lo+u))=ai) ?s2 ?f2 ?i2) ?p2)
  case i2=>exact⟨rfl,0,k,rfl,⋯,⋯,⋯,λu h=>by right,λu h h2=>by right⟩
  case f2=>
   rintro c st2 ⟨rfl,l,r,rfl,l1,l2,l3,l4,l5⟩;obtain rfl:l=r:=⋯;exact⟨rfl,l,rfl,l2,l4,l5⟩
  case s2=>
   rintro x c st2 _ hx ⟨rfl,l,r,rfl,l1,l2,l3,l4,l5⟩;dsimp only;by_cases z:l >= r
   ·rw[Yh z];obtain rfl:l=r:=⋯;exact aq ⟨rfl,l,rfl,l2,l4,l5⟩
   rw[XQ z];refine ar (sJ T S' P' ⋯ ⋯ ⋯ ?_);cases y:lt (g p' (lo+k)) (g p' (lo+(l+r) / 2)) with
   |true=>
    dsimp only;rw[Yh rfl];refine aq ⟨rfl,_,_,rfl,⋯,⋯,⋯,l4,λu hu hk2=>?_⟩;by_cases e2:u=(l+r) / 2
    ·rw[e2];exact y
    ·exact T.tr _ _ _ (cZ P' ⋯) (cZ P' ⋯) (cZ P' ⋯) y (sg' _ _ ⋯ ⋯ ⋯)
   |false=>
    dsimp only;rw[XQ ∅];have y1:lt (g p' (lo+(l+r) / 2)) (g p' (lo+k))=ai:=by rw[T.tot _ _ (cZ P' ⋯) (cZ P' ⋯) (vK P' ⋯ ⋯ ⋯),y];rfl
    refine aq ⟨rfl,_,_,rfl,⋯,⋯,⋯,λu hu=>?_,l5⟩;by_cases e2:u=(l+r) / 2
    ·rw[e2];exact y1
    ·exact T.tr _ _ _ (cZ P' ⋯) (cZ P' ⋯) (cZ P' ⋯) (sg' _ _ ⋯ ⋯ ⋯) y1
  case p2=>
   rintro c st2 ⟨rfl,l,rfl,l2,l4,l5⟩;dsimp only;have hl:=nU P';obtain⟨p2,e2,pp2,gp2⟩:=Ll (it:=it) (p:=p') (src:=lo+k) (d:=lo+k-(lo+l)) ⋯ ⋯;have S2:Sp1 it κ (Y6 st' (W0 (vf st') (lo+k) (lo+k-(lo+l)))) p2:=⟨S'.k,by show W0 (vf st') (lo+k) (lo+k-(lo+l))=_;rw[S'.a];exact e2,S'.f⟩;refine ar (jl ?_);refine aq ⟨rfl,p2,S2,e,pp2.trans P',λu v hu huv hv=>?_,λu h=>?_⟩
   ·rw[gp2 u,gp2 v];by_cases c1:u=lo+k-(lo+k-(lo+l))
    ·rw[Yh c1,XQ ⋯,Yh ⋯];have:=l5 (v-1-lo) ⋯ ⋯;rw[show lo+(v-1-lo)=v-1 by right] at this;exact this
    ·rw[XQ c1];by_cases c2:v=lo+k-(lo+k-(lo+l))
     ·rw[Yh c2,XQ ⋯];have:=l4 (u-lo) ⋯;rw[show lo+(u-lo)=u by right] at this;exact this
     ·rw[XQ c2];split
      ·split
       ·exact sg' _ _ ⋯ ⋯ ⋯
       ·right
      ·split
       ·exact sg' _ _ ⋯ ⋯ ⋯
       ·exact sg' _ _ ⋯ ⋯ ⋯
   ·rw[gp2 u,XQ ⋯,XQ ⋯];exact o u h
end
variable {b:Nat}
theorem JF:∀(l:List α) (j0:Nat) (xs:Array α),b+j0+l.length<=xs.size -> ∀u,((l.zipIdx j0).foldl (λa (q:α×Nat)=>a.setIfInBounds (b+q.2) q.1) xs)[u]?=if b+j0<=u/\u<b+j0+l.length then l[u-(b+j0)]? else xs[u]?:=by
 intro l;induction l with
 |nil=>
  intro j0 xs h u;rw[XQ (by simp only[uy];right)];rfl
 |cons x l ih=>
  intro j0 xs h u;simp only[cg] at h ⊢;rw[Wc,Wp,ih (j0+1) _ (by simp;right) u];by_cases c:u=b+j0
  ·subst c;rw[XQ ⋯,Yh ⋯];simp[show b+j0<xs.size by right]
  ·by_cases c2:b+(j0+1)<=u/\u<b+(j0+1)+l.length
   ·rw[Yh c2,Yh ⋯,show u-(b+j0)=u-(b+(j0+1))+1 by right];rfl
   ·rw[XQ c2,XQ ⋯,vw ⋯]
section
variable {lt:Nat->Nat->Bool}
theorem KR(h:b+l.length<=p.length):((fO it l).toList.zipIdx.foldl (λa (q:sw×Nat)=>a.setIfInBounds (b+q.2) q.1) (fO it p))=fO it (p.take b++l++p.drop (b+l.length)):=by
 apply va;intro u;have:=JF (b:=b) (fO it l).toList 0 (fO it p) (by simpa [fO] using h) u;rw[this];simp only[fO,List.toList_toArray,bf,uf,vz,dg];by_cases c:b<=u/\u<b+l.length
 ·rw[Yh c,dt,bo (by simp;right),bh (by simp;right)];simp[dw,pq (show b<=p.length by right)]
 ·rw[XQ c];by_cases c2:u<b
  ·rw[dt,bh (by simp;right),gy c2]
  ·rw[bo (by simp;right)];simp only[ef,dw,vb];congr 2;right
theorem A7(h:b+l.length<=p.length):g (p.take b++l++p.drop (b+l.length)) u=if u<b then g p u else if u<b+l.length then g l (u-b) else g p u:=by
 unfold g;simp only[fw];by_cases c2:u<b
 ·rw[Yh c2,dt,bh (by simp;right),gy c2]
 ·rw[XQ c2];by_cases c:u<b+l.length
  ·rw[Yh c,dt,bo (by simp;right),bh (by simp;right)];simp[dw,pq (show b<=p.length by right)]
  ·rw[XQ c,bo (by simp;right)];simp only[ef,dw,vb];congr 2;right
theorem uE{x:Nat}(h:b+n<=p.length)(hx:x∈(p.drop b).take n):∃u,b<=u/\u<b+n/\x=g p u:=by
 obtain⟨i,hi,e⟩:=cm.mp hx;simp at hi;refine⟨b+i,⋯,⋯,?_⟩;rw[<- e];simp[g,de,show b+i<p.length by right]
theorem zC(hi:i<n)(h:b+n<=p.length):((p.drop b).take n).getD i 0=g p (b+i):=by
 unfold g;simp only[fw];rw[gy hi,vb]
theorem Gp(h:b+n<=p.length)(sg:Sg lt p b (b+n)):((p.drop b).take n).Pairwise λx y=>lt x y=ai:=by
 rw[da];intro i j hi hj hij;simp at hi hj;have e1:((p.drop b).take n)[i]'(by simp;right)=g p (b+i):=by simp[g,de,show b+i<p.length by right]
 have e2:((p.drop b).take n)[j]'(by simp;right)=g p (b+j):=by simp[g,de,show b+j<p.length by right]
 rw[e1,e2];exact sg _ _ ⋯ ⋯ ⋯
theorem FB{a m:Nat}:(p.drop a).take m++(p.drop (a+m)).take b=(p.drop a).take (m+b):=by
 rw[List.take_add,Xi]
theorem Gz(h:b+n<=p.length)(d:l.Perm ((p.drop b).take n)):(p.take b++l++p.drop (b+l.length)).Perm p:=by
 have el:l.length=n:=by rw[d.length_eq];simp;right
 rw[el];have e:p.take b++(p.drop b).take n++p.drop (b+n)=p:=by
  rw[dt,<- Xi,ug,ug]
 refine List.Perm.trans ?_ (List.Perm.of_eq e);exact(d.append_left _).append_right _
theorem Jr{σ:Type}{a:σ}{Q:PUnit->σ->Prop}{st:σ}(h:Q ⟨⟩ a):XA M A E s (set a:StateT σ Wm PUnit) Q st:=by
 unfold XA;rw[StateT.run_set];exact aj ⟨rfl,h⟩
theorem R1(T:Tm M A E s N lt it κ){sa sb pw x:Nat}{Q:Bool->je->Prop}(S:Sp1 it κ st p)(P:tG N p)(e1:(cq st)[i]?=aa (sa,na,pw))(e2:(cq st)[i+1]?=aa (sb,nb,x))(hs:sb=sa+na)(ha:0<na)(hb:0<nb)(hN:sb+nb<=N)
  (ga:Sg lt p sa (sa+na)) (gb:Sg lt p sb (sb+nb))
  (q:∀st' p',Sp1 it κ st' p'->cq st'=((cq st).setIfInBounds i (sa,na+nb,pw)).eraseIdxIfInBounds (i+1)->tG N p'->Sg lt p' sa (sa+(na+nb))->Ou p p' sa (sa+(na+nb))->Q ai st'):XA M A E s (XX i) Q st:=by
 have hl:=nU P;subst hs;unfold XX;refine ar (uw ?_);have e1':((sortPriv% PySem.Builtin.SortState.pending) st)[i]?=aa (sa,na,pw):=e1;have e2':((sortPriv% PySem.Builtin.SortState.pending) st)[i+1]?=aa (sa+na,nb,x):=e2;have ea:(sortPriv% PySem.Builtin.SortState.a) st=fO it p:=S.a;dsimp only;rw[e1',e2'];dsimp only;refine ar (Jr ?_);have S1:Sp1 it κ (yq (mv st) (vf st) (((cq st).setIfInBounds i (sa,na+nb,pw)).eraseIdxIfInBounds (i+1)) (XY st) (vm st)) p:=⟨S.k,S.a,S.f⟩;show XA M A E s _ Q (yq (mv st) (vf st) (((cq st).setIfInBounds i (sa,na+nb,pw)).eraseIdxIfInBounds (i+1)) (XY st) (vm st));generalize hst:yq (mv st) (vf st) (((cq st).setIfInBounds i (sa,na+nb,pw)).eraseIdxIfInBounds (i+1)) (XY st) (vm st)=st1 at S1 ⊢;have hp1:cq st1=((cq st).setIfInBounds i (sa,na+nb,pw)).eraseIdxIfInBounds (i+1):=by rw[<- hst]
 rw[ea];refine ar (b9 (aU ⋯) ?_);refine ar (A8 T (left:=ao) (f:=λi=>g p (sa+i)) S1.k (cZ P ⋯) (λi h=>aU ⋯) (λi h=>⟨cZ P ⋯,vK P ⋯ ⋯ ⋯⟩) (λi j h h2=>ga _ _ ⋯ ⋯ ⋯) ⋯ λk k1 k2 k3=>?_);have bAll:∀v,sa+na<=v->v<sa+na+nb -> ∀y,y<N->lt y (g p (sa+na))=ai->lt y (g p v)=ai:=λv h1 h2 y hy z=>by
  by_cases c:v=sa+na
  ·rw[c];exact z
  ·exact T.tr _ _ _ hy (cZ P ⋯) (cZ P ⋯) z (gb _ _ ⋯ ⋯ ⋯)
 dsimp only;by_cases z:na-k=0
 ·rw[Yh (by simpa using z)];refine aq (q st1 p S1 hp1 P (λu v hu huv hv=>?_) λu h=>rfl);by_cases c:v<sa+na
  ·exact ga u v hu huv c
  ·by_cases c2:sa+na<=u
   ·exact gb u v c2 huv ⋯
   ·refine bAll v ⋯ ⋯ _ (cZ P ⋯) ?_;have:=k2 (u-sa) ⋯;rw[show sa+(u-sa)=u by right] at this;exact this
 rw[XQ (by simpa using z),show sa+k+(na-k)-1=sa+na-1 by right];refine ar (b9 (aU ⋯) ?_);refine ar (A8 T (left:=ai) (f:=λi=>g p (sa+na+i)) S1.k (cZ P ⋯) (λi h=>aU ⋯) (λi h=>⟨cZ P ⋯,vK P ⋯ ⋯ ⋯⟩) (λi j h h2=>gb _ _ ⋯ ⋯ ⋯) ⋯ λm j1 j2 j3=>?_);dsimp only;have z2:m≠0:=λc=>by
  have y1:=j3 0 ⋯ ⋯;have y2:=k3 (na-1) ⋯ ⋯;rw[show sa+(na-1)=sa+na-1 by right] at y2;have y3:lt (g p (sa+na)) (g p (sa+na-1))=ai:=y2;have y4:lt (g p (sa+na-1)) (g p (sa+na))=ai:=y1;rw[T.tot _ _ (cZ P ⋯) (cZ P ⋯) (vK P ⋯ ⋯ ⋯),y3] at y4;cases y4
 rw[XQ (by simpa using z2),eG,eG,show sa+na-(sa+k)=na-k by right,show sa+na+m-(sa+na)=m by right];have wh:(p.drop (sa+k)).take (na-k)++(p.drop (sa+na)).take m=(p.drop (sa+k)).take (na-k+m):=by
  have:=FB (p:=p) (a:=sa+k) (m:=na-k) (b:=m);rw[show sa+k+(na-k)=sa+na by right] at this;exact this
 have nd:p.Nodup:=P.nodup_iff.mpr Wj;have W:Two N lt ((p.drop (sa+k)).take (na-k)) ((p.drop (sa+na)).take m):=by
  refine⟨Gp ⋯ λu v a b c=>ga u v ⋯ b ⋯,Gp ⋯ λu v a b c=>gb u v ⋯ b ⋯,?_,λy hy=>?_⟩
  ·rw[wh];exact nd.sublist ((zl _ _).trans (xo _ _))
  ·rw[wh] at hy;obtain⟨u,h1,h2,rfl⟩:=uE ⋯ hy;exact cZ P ⋯
 have la0:0<((p.drop (sa+k)).take (na-k)).length:=by simp;right
 have lb0:0<((p.drop (sa+na)).take m).length:=by simp;right
 have ll:((p.drop (sa+k)).take (na-k)).length=na-k:=by simp;right
 have lm:((p.drop (sa+na)).take m).length=m:=by simp;right
 have fin:∀l,Ad lt ((p.drop (sa+k)).take (na-k)) ((p.drop (sa+na)).take m) l -> ∃p2,(fO it l).toList.zipIdx.foldl (λa (q:sw×Nat)=>a.setIfInBounds (sa+k+q.2) q.1) (fO it p)=fO it p2/\tG N p2/\Sg lt p2 sa (sa+(na+nb))/\Ou p p2 sa (sa+(na+nb)):=λl d=>by
  have d1:=d.1;rw[wh] at d1;have el:l.length=na-k+m:=by rw[d1.length_eq];simp;right
  have mem:∀y∈l,∃u,sa+k<=u/\u<sa+na+m/\y=g p u:=λy hy=>by
   obtain⟨u,h1,h2,h3⟩:=uE ⋯ (d1.mem_iff.mp hy);exact⟨u,h1,⋯,h3⟩
  have lg:∀u,u<l.length->g l u∈l:=λu hu=>by
   have e:g l u=l[u]:=by simp[g,de,hu]
   rw[e];exact fq hu
  refine⟨_,KR ⋯,(Gz (n:=na-k+m) ⋯ d1).trans P,λu v hu huv hv=>?_,λu h=>?_⟩
  ·have A1:∀u,sa<=u->u<sa+k->lt (g p u) (g p (sa+na))=ai:=λu h1 h2=>by
    have:=k2 (u-sa) ⋯;rw[show sa+(u-sa)=u by right] at this;exact this
   have B1:∀w,sa+na+m<=w->w<sa+na+nb->lt (g p (sa+na-1)) (g p w)=ai:=λw h1 h2=>by
    have:=j3 (w-(sa+na)) ⋯ ⋯;rw[show sa+na+(w-(sa+na))=w by right] at this;exact this
   rw[A7 ⋯,A7 ⋯];by_cases cu:u<sa+k
   ·rw[Yh cu];by_cases cv:v<sa+k
    ·rw[Yh cv];exact ga u v hu huv ⋯
    ·rw[XQ cv];by_cases cv2:v<sa+k+l.length
     ·rw[Yh cv2];obtain⟨w,w1,w2,w3⟩:=mem _ (lg (v-(sa+k)) ⋯);rw[w3];by_cases cw:w<sa+na
      ·exact ga u w hu ⋯ cw
      ·exact bAll w ⋯ ⋯ _ (cZ P ⋯) (A1 u hu cu)
     ·rw[XQ cv2];exact bAll v ⋯ ⋯ _ (cZ P ⋯) (A1 u hu cu)
   ·rw[XQ cu,XQ (by right:¬v<sa+k)];by_cases cu2:u<sa+k+l.length
    ·rw[Yh cu2];by_cases cv2:v<sa+k+l.length
     ·rw[Yh cv2];have e1:g l (u-(sa+k))=l[u-(sa+k)]'⋯:=by simp[g,de,show u-(sa+k)<l.length by right]
      have e2:g l (v-(sa+k))=l[v-(sa+k)]'⋯:=by simp[g,de,show v-(sa+k)<l.length by right]
      rw[e1,e2];exact da.mp d.2 _ _ ⋯ ⋯ ⋯
     ·rw[XQ cv2];obtain⟨w,w1,w2,w3⟩:=mem _ (lg (u-(sa+k)) ⋯);rw[w3];by_cases cw:w<sa+na
      ·by_cases c3:w=sa+na-1
       ·rw[c3];exact B1 v ⋯ ⋯
       ·exact T.tr _ _ _ (cZ P ⋯) (cZ P ⋯) (cZ P ⋯) (ga w (sa+na-1) ⋯ ⋯ ⋯) (B1 v ⋯ ⋯)
      ·exact gb w v ⋯ ⋯ ⋯
    ·rw[XQ cu2,XQ ⋯];exact gb u v ⋯ huv ⋯
  ·rw[A7 ⋯];by_cases cu:u<sa+k
   ·rw[Yh cu]
   ·rw[XQ cu,XQ ⋯]
 have xl:∀y∈(p.drop (sa+k)).take (na-k),lt (g p (sa+na)) y=ai:=λy hy=>by
  obtain⟨u,h1,h2,rfl⟩:=uE ⋯ hy;have:=k3 (u-sa) ⋯ ⋯;rw[show sa+(u-sa)=u by right] at this;exact this
 have yl:∀y∈(p.drop (sa+na)).take m,lt y (g p (sa+na-1))=ai:=λy hy=>by
  obtain⟨u,h1,h2,rfl⟩:=uE ⋯ hy;have:=j2 (u-(sa+na)) ⋯;rw[show sa+na+(u-(sa+na))=u by right] at this;exact this
 have b0:((p.drop (sa+na)).take m).getD 0 0=g p (sa+na):=zC ⋯ ⋯;have a0:((p.drop (sa+k)).take (na-k)).getD 0 0=g p (sa+k):=zC ⋯ ⋯;have aL:((p.drop (sa+k)).take (na-k)).getD (((p.drop (sa+k)).take (na-k)).length-1) 0=g p (sa+na-1):=by
  rw[ll,zC ⋯ ⋯];congr 1;right
 split
 ·refine ar (L1 T W S1.k la0 lb0 (by rw[b0];exact xl _ (by rw[a0,<- a0,fw,av la0];exact fq la0)) (by rw[aL];exact yl) λl st' d se=>?_);obtain⟨p2,f1,f2,f3,f4⟩:=fin l d;refine ar (jl (ar (uw ?_)));have hf:(vm st').isNone=ai:=by rw[se.f,S1.f];rfl
  have S2:vf st'=fO it p:=by rw[se.a,S1.a]
  refine aq ?_;refine(congrArg (λb=>Q b _) hf).mpr (q _ p2 ⟨se.k.trans S1.k,?_,se.f.trans S1.f⟩ (se.p.trans hp1) f2 f3 f4);show TZ _ (vf st') _=_;rw[S2];exact f1
 ·refine ar (L3 T W S1.k la0 lb0 (by rw[b0];exact xl) (by rw[aL];exact yl _ (by rw[fw,av ⋯];exact fq _)) λl st' d se=>?_);obtain⟨p2,f1,f2,f3,f4⟩:=fin l d;refine ar (jl (ar (uw ?_)));have hf:(vm st').isNone=ai:=by rw[se.f,S1.f];rfl
  have S2:vf st'=fO it p:=by rw[se.a,S1.a]
  refine aq ?_;refine(congrArg (λb=>Q b _) hf).mpr (q _ p2 ⟨se.k.trans S1.k,?_,se.f.trans S1.f⟩ (se.p.trans hp1) f2 f3 f4);show TZ _ (vf st') _=_;rw[S2];exact f1
def oM(lt:Nat->Nat->Bool)(p:List Nat):Nat->List (Nat×Nat×Nat)->Nat->Prop
 |b,[],e=>b=e
 |b,(a,n,_)::r,e=>a=b/\0<n/\Sg lt p b (b+n)/\oM lt p (b+n) r e
theorem oM.le:∀{r:List (Nat×Nat×Nat)} {b e:Nat},oM lt p b r e->b+r.length<=e
 | [],b,e,h=>by have:b=e:=h;simp;right
 | (a,n,w)::r,b,e,h=>by
  have:=h.2.2.2.le;have:=h.2.1;simp;right
theorem oM.split:∀{xs ys:List (Nat×Nat×Nat)} {b e:Nat},oM lt p b (xs++ys) e -> ∃m,oM lt p b xs m/\oM lt p m ys e
 | [],ys,b,e,h=>⟨b,rfl,h⟩
 | (a,n,w)::xs,ys,b,e,h=>by
  obtain⟨m,h1,h2⟩:=oM.split (xs:=xs) h.2.2.2;exact⟨m,⟨h.1,h.2.1,h.2.2.1,h1⟩,h2⟩
theorem oM.join:∀{xs ys:List (Nat×Nat×Nat)} {b m e:Nat},oM lt p b xs m->oM lt p m ys e->oM lt p b (xs++ys) e
 | [],ys,b,m,e,h1,h2=>by have z:b=m:=h1;subst z;exact h2
 | (a,n,w)::xs,ys,b,m,e,h1,h2=>⟨h1.1,h1.2.1,h1.2.2.1,h1.2.2.2.join h2⟩
theorem oM.same:∀{xs:List (Nat×Nat×Nat)} {b e:Nat},oM lt p b xs e->(∀u,b<=u->u<e->g p' u=g p u)->oM lt p' b xs e
 | [],b,e,h,_=>h
 | (a,n,w)::xs,b,e,h,z=>by
  have l:=h.2.2.2.le;refine⟨h.1,h.2.1,λu v hu huv hv=>?_,h.2.2.2.same λu h1 h2=>z u ⋯ h2⟩;rw[z u hu ⋯,z v ⋯ ⋯];exact h.2.2.1 u v hu huv hv
theorem IR{l:List α}(h:i+1<l.length):∃xs x y ys,l=xs++x::y::ys/\xs.length=i:=
 ⟨l.take i,l[i]'⋯,l[i+1],l.drop (i+2),by
  rw[<- gw h,<- gw (by right:i<l.length),ug],by simp;right⟩
theorem DD(T:Tm M A E s N lt it κ){Q:Bool->je->Prop}(S:Sp1 it κ st p)(P:tG N p)(hi:i+1<(cq st).size)(hN:lo<=N)(c:oM lt p 0 (cq st).toList lo)
  (q:∀st' p',Sp1 it κ st' p'->tG N p'->oM lt p' 0 (cq st').toList lo->(cq st').size+1=(cq st).size->Ou p p' 0 lo->Q ai st'):XA M A E s (XX i) Q st:=by
 obtain⟨xs,⟨a,n,w⟩,⟨b,m,x⟩,ys,e,el⟩:=IR (l:=(cq st).toList) (i:=i) (by simpa using hi);rw[e] at c;obtain⟨k,c1,c2⟩:=c.split;obtain⟨rfl,n0,sg,rfl,m0,sg2,c3⟩:=c2;have l1:=c1.le;have l3:=c3.le;have e1:(cq st)[i]?=aa (a,n,w):=by rw[<- jc,e,bo ⋯,el];simp
 have e2:(cq st)[i+1]?=aa (a+n,m,x):=by rw[<- jc,e,bo ⋯,el];simp
 refine R1 T S P e1 e2 rfl n0 m0 ⋯ sg sg2 λst' p' S' hp P' sg' o=>?_;have ep:(cq st').toList=xs++(a,n+m,w)::ys:=by
  rw[hp];simp only[Array.toList_eraseIdxIfInBounds,Array.toList_setIfInBounds,e];rw[List.set_append_right _ _ ⋯,el,Nat.sub_self,yr,List.eraseIdx_append_of_length_le ⋯,el];simp
 refine q st' p' S' P' ?_ ?_ λu h=>o u ⋯
 ·rw[ep];exact(c1.same λu h1 h2=>o u (.inl h2)).join ⟨rfl,⋯,sg',by
   rw[<- nj];exact c3.same λu h1 h2=>o u (.inr ⋯)⟩
 ·rw[<- uo,ep,<- uo,e];simp;right
theorem oM.power{pd:Array (Nat×Nat×Nat)}{e w:Nat}(c:oM lt p b pd.toList e):oM lt p b (pd.modify i λx=>(x.1,x.2.1,w)).toList e:=by
 rw[Array.toList_modify];generalize pd.toList=l at c;induction l generalizing i b with
 |nil=>cases i<;>exact c
 |cons x l ih=>
  obtain⟨a,n,v⟩:=x;cases i with
  |zero=>exact c
  |succ i=>exact⟨c.1,c.2.1,c.2.2.1,ih c.2.2.2⟩
theorem oM.push{pd:Array (Nat×Nat×Nat)}{lo n:Nat}(c:oM lt p 0 pd.toList lo)(h:0<n)(sg:Sg lt p lo (lo+n)):oM lt p 0 (pd.push (lo,n,0)).toList (lo+n):=by
 rw[Array.toList_push];exact c.join ⟨rfl,h,sg,rfl⟩
theorem Mx(T:Tm M A E s N lt it κ){Q:Unit->je->Prop}(S:Sp1 it κ st p)(P:tG N p)(hp:cq st = #[])
  (q:∀st' p',Sp1 it κ st' p'->tG N p'->Sg lt p' 0 N->Q () st'):XA M A E s sortRuns' Q st:=by
 have hl:=nU P;rw[sortRuns'_eq];refine ar (uw ?_);dsimp only;have hsz:(vf st).size=N:=by rw[S.a,wO,hl]
 simp only[hsz];generalize minRun' N N 0=mr;refine ar (lj (gf
  (I:=λx c st'=>∃lo p',c=(au,lo)/\Sp1 it κ st' p'/\tG N p'/\oM lt p' 0 (cq st').toList lo/\lo<=N/\x<=lo)
  (Q:=λc st'=>∃p',c=(au,N)/\Sp1 it κ st' p'/\tG N p'/\oM lt p' 0 (cq st').toList N) ?step ?fin ?init) ?post)
 case init=>exact⟨0,p,rfl,S,P,by rw[hp];rfl,⋯,⋯⟩
 case fin=>
  rintro c st' ⟨lo,p',rfl,S',P',c',h1,h2⟩;obtain rfl:lo=N:=⋯;exact⟨p',rfl,S',P',c'⟩
 case post=>
  rintro c st' ⟨p',rfl,S',P',c'⟩;dsimp only;have cl:=c'.le;refine ar (lj (gf
   (I:=λx c st2=>c=(au,()) /\ ∃p2,Sp1 it κ st2 p2/\tG N p2/\oM lt p2 0 (cq st2).toList N/\(cq st2).size+x<=N)
   (Q:=λc st2=>c=(au,()) /\ ∃p2,Sp1 it κ st2 p2/\tG N p2/\oM lt p2 0 (cq st2).toList N/\(cq st2).size<=1) ?s2 ?f2 ?i2) ?p2)
  case i2=>exact⟨rfl,p',S',P',c',by rw[<- uo];right⟩
  case f2=>
   rintro c st2 ⟨rfl,p2,S2,P2,c2,h⟩;exact⟨rfl,p2,S2,P2,c2,⋯⟩
  case s2=>
   rintro x c st2 _ hx ⟨rfl,p2,S2,P2,c2,h⟩;refine ar (uw ?_);by_cases z:(cq st2).size<=1
   ·rw[Yh z];exact aq ⟨rfl,p2,S2,P2,c2,z⟩
   rw[XQ z];refine ar (DD T S2 P2 ?hj (br _) c2 λst3 p3 S3 P3 c3 h3 _=>?_)
   case hj=>
    repeat' split
    all_goals right
   rw[XQ ∅];exact aq ⟨rfl,p3,S3,P3,c3,⋯⟩
  case p2=>
   rintro c st2 ⟨rfl,p2,S2,P2,c2,h⟩;refine aq (q st2 p2 S2 P2 ?_);have:(cq st2).toList.length=(cq st2).size:=by simp
   match hl2:(cq st2).toList,c2 with
   | [],c2=>
    have z:0=N:=c2;intro u v a b c;right
   | [(a,n,w)],c2=>
    obtain⟨rfl,n0,sg,z⟩:=c2;have z':0+n=N:=z;rw[<- z'];exact sg
   |_::_::_,_=>
    rw[hl2] at this;simp at this;right
 case step=>
  rintro x c st' _ hx ⟨lo,p',rfl,S',P',c',h1,h2⟩;dsimp only;by_cases z:lo >= N
  ·rw[Yh z];obtain rfl:lo=N:=⋯;exact aq ⟨p',rfl,S',P',c'⟩
  rw[XQ z];refine ar (JT T S' P' ⋯ ⋯ λm st2 p2 m1 m2 S2 e2 P2 sg2 o2=>?_);have c2:oM lt p2 0 (cq st2).toList lo:=by rw[e2];exact c'.same λu a b=>o2 u (.inl b)
  dsimp only;by_cases zm:m<mr
  ·rw[Yh zm];refine ar (TL (mh ⟨rfl,?_⟩));have hf:min (N-lo) mr<=N-lo:=Nat.min_le_left _ _;have hf2:m<=min (N-lo) mr:=⋯;refine ar (OY T S2 P2 m1 hf2 ⋯ sg2 λst3 p3 S3 e3 P3 sg3 o3=>?_);have c3:oM lt p3 0 (cq st3).toList lo:=by rw[e3];exact c2.same λu a b=>o3 u (.inl b)
   generalize min (N-lo) mr=fo at *;rw[XQ ∅];refine ar (uw ?_);cases hb:(cq st3).back? with
   |none=>
    dsimp only;exact ar (jl (aq ⟨lo+fo,p3,rfl,⟨S3.k,S3.a,S3.f⟩,P3,c3.push ⋯ sg3,⋯,⋯⟩))
   |some t=>
    obtain⟨s1,n1,w1⟩:=t;dsimp only;refine ar (lj (gf
     (I:=λy c st4=>c=(au,()) /\ ∃p4,Sp1 it κ st4 p4/\tG N p4/\oM lt p4 0 (cq st4).toList lo/\Sg lt p4 lo (lo+fo))
     (Q:=λc st4=>c=(au,()) /\ ∃p4,Sp1 it κ st4 p4/\tG N p4/\oM lt p4 0 (cq st4).toList lo/\Sg lt p4 lo (lo+fo)) ?_ (λ_ _ h=>h) ⟨rfl,p3,S3,P3,c3,sg3⟩) ?_)
    ·rintro y c st4 _ hy ⟨rfl,p4,S4,P4,c4,sg4⟩;refine ar (uw ?_);by_cases zz:(cq st4).size > 1
     ·rw[Yh zz];cases ho:(cq st4)[(cq st4).size-2]? with
      |none=>exact aq ⟨rfl,p4,S4,P4,c4,sg4⟩
      |some t=>
       obtain⟨t1,t2,older⟩:=t;dsimp only;split
       ·exact aq ⟨rfl,p4,S4,P4,c4,sg4⟩
       ·refine ar (DD T S4 P4 ⋯ ⋯ c4 λst5 p5 S5 P5 c5 h5 o5=>?_);rw[XQ ∅];exact aq ⟨rfl,p5,S5,P5,c5,λu v hu huv hv=>by rw[o5 u (.inr hu),o5 v (.inr ⋯)];exact sg4 u v hu huv hv⟩
     ·rw[XQ zz];exact aq ⟨rfl,p4,S4,P4,c4,sg4⟩
    ·rintro c st4 ⟨rfl,p4,S4,P4,c4,sg4⟩;dsimp only;exact ar (jl (ar (jl (aq ⟨lo+fo,p4,rfl,⟨S4.k,S4.a,S4.f⟩,P4,(oM.power c4).push ⋯ sg4,⋯,⋯⟩))))
  ·rw[XQ zm];refine ar (uw ?_);cases hb:(cq st2).back? with
   |none=>
    dsimp only;exact ar (jl (aq ⟨lo+m,p2,rfl,⟨S2.k,S2.a,S2.f⟩,P2,c2.push ⋯ sg2,⋯,⋯⟩))
   |some t=>
    obtain⟨s1,n1,w1⟩:=t;dsimp only;refine ar (lj (gf
     (I:=λy c st4=>c=(au,()) /\ ∃p4,Sp1 it κ st4 p4/\tG N p4/\oM lt p4 0 (cq st4).toList lo/\Sg lt p4 lo (lo+m))
     (Q:=λc st4=>c=(au,()) /\ ∃p4,Sp1 it κ st4 p4/\tG N p4/\oM lt p4 0 (cq st4).toList lo/\Sg lt p4 lo (lo+m)) ?_ (λ_ _ h=>h) ⟨rfl,p2,S2,P2,c2,sg2⟩) ?_)
    ·rintro y c st4 _ hy ⟨rfl,p4,S4,P4,c4,sg4⟩;refine ar (uw ?_);by_cases zz:(cq st4).size > 1
     ·rw[Yh zz];cases ho:(cq st4)[(cq st4).size-2]? with
      |none=>exact aq ⟨rfl,p4,S4,P4,c4,sg4⟩
      |some t=>
       obtain⟨t1,t2,older⟩:=t;dsimp only;split
       ·exact aq ⟨rfl,p4,S4,P4,c4,sg4⟩
       ·refine ar (DD T S4 P4 ⋯ ⋯ c4 λst5 p5 S5 P5 c5 h5 o5=>?_);rw[XQ ∅];exact aq ⟨rfl,p5,S5,P5,c5,λu v hu huv hv=>by rw[o5 u (.inr hu),o5 v (.inr ⋯)];exact sg4 u v hu huv hv⟩
     ·rw[XQ zz];exact aq ⟨rfl,p4,S4,P4,c4,sg4⟩
    ·rintro c st4 ⟨rfl,p4,S4,P4,c4,sg4⟩;dsimp only;exact ar (jl (ar (jl (aq ⟨lo+m,p4,rfl,⟨S4.k,S4.a,S4.f⟩,P4,(oM.power c4).push ⋯ sg4,⋯,⋯⟩))))
end
end L2
namespace L2
open PySem PySem.Spec PySem.W PyProof.Rows Tim
variable {vs:List af}{κ:rm}
theorem Cn{lt:Nat->Nat->Bool}{P:Fin->ah->Prop}(ho:s.heap.get? a=aa (qo "list" vs.toArray n))(h64:vs.length<=1000)(ht:∀i j,i<vs.length->j<vs.length->i≠j->lt i j=ai \/ lt j i=ai)(c:2<=vs.length->Cmp prog w s a vs lt κ)
  (k:∀p,Pm vs.length p->Up lt p vs.length->P (.done (.ret .none)) { s with heap:=WR s.heap a vs (picked vs p).toArray }):bt (bz prog w) A (su.«list.sort» ⟨[.ref a],[]⟩) P E s:=by
 have la:a<s.heap.objs.size:=bg ho
 let h1:=s.heap.update a (yg λ_=>#[])
 let h2:=h1.push (qo "tuple" vs.toArray 0)
 let h3:=h2.push (qo "list" #[] 0)
 obtain⟨m,g1⟩:∃m,h1.get? a=aa (qo "list" #[] m):=⟨_,Ws ho λ_=>#[]⟩;have sz1:h1.objs.size=s.heap.objs.size:=Tx ..;have keep:∀b o,b≠a->s.heap.get? b=aa o->h3.get? b=aa o:=λb o hb e=>
  ap _ (ap _ ((xg _ _ _ _ hb).trans e))
 have g3:h3.get? a=aa (qo "list" #[] m):=ap _ (ap _ g1);have line:vs.length<=bu:=by rw[kg];right
 have fin:∀p,Pm vs.length p->Up lt p vs.length->bt (bz prog w) A (do
   let touched:=(<- seqEpoch a) != m
   Ty (.ref a) λ_=>(picked vs p).toArray
   if touched then Xk "list.sort.modified";raiseError "ValueError" "list modified during sort"
   ret .none) P E { s with heap:=h3 }:=λp pm up=>by
  have sz:(picked vs p).toArray.size=vs.length:=by simp[picked,pm.size]
  refine ad (UA g3 rfl (ad (Tf g3 rfl ?_ (oj _) (by rw[sz];right))));rw[show (m != m)=ao by simp];exact aj (k p pm up)
 rw[Wt];refine ad (listItems_at ho rfl (ad (Tf ho rfl ?_ (by simpa using line) (oj _))));refine ad (UA g1 rfl (ad (WS (ad (Tg (jd ?_) (oj _))) (by simpa using line))));show bt (bz prog w) A _ P E { s with heap:=h3 };dsimp only;by_cases two:2<=vs.length
 ·have big:¬vs.toArray.size<2:=by simpa using two
  rw[XQ big,XQ big];have cc:=c two;refine ad (gr (cc.kind A h3 (λx s'=>x=κ/\s'={ s with heap:=h3 }) keep ⟨rfl,rfl⟩) (λx s' e=>?_) λ_ _ z=>z.elim);obtain⟨rfl,rfl⟩:=e;have W:=cc.wk;have T:Tm (bz prog w) A E { s with heap:=h3 } vs.length lt (kas_item (vs.toArray.zip vs.toArray)) x:=by
   have tot:∀i j,i<vs.length->j<vs.length->i≠j->lt i j = !lt j i:=λi j hi hj n=>by
    rcases ht i j hi hj n with z | z
    ·rw[z,W.asym z];rfl
    ·rw[z,W.asym z];rfl
   refine⟨λi j hi hj hn st Q hk q=>?_,tot,λi j k _ _ _=>W.tr i j k⟩;have it1:∀i,i<vs.length->(kas_item (vs.toArray.zip vs.toArray) i).1=vs.getD i gc:=λi hi=>by simp[kas_item,yp,hi]
   rw[lt'_eq];refine ar (uw ?_);refine ar (TL (lx (gr (?_:bt (bz prog w) A _ (λb s'=>s'={ s with heap:=h3 }/\b=lt i j) (λ_ _=>False) _) (λb s' z=>?_) λ_ _ z=>z.elim)))
   ·rw[hk,it1 i hi,it1 j hj];exact cc.less A h3 i j _ keep hi hj hn ⟨rfl,rfl⟩
   ·obtain⟨rfl,rfl⟩:=z;exact⟨rfl,aq q⟩
  have est:vs.toArray.zip vs.toArray=fO (kas_item (vs.toArray.zip vs.toArray)) (gx vs.length):=by
   apply va;intro u;by_cases hu:u<vs.length
   ·simp[fO,kas_item,yp,hu]
   ·simp[fO,hu]
  have run:=Mx T (st:=yq x (vs.toArray.zip vs.toArray) #[] 7 au) (p:=gx vs.length) (Q:=λ_ st'=>∃p,(Pm vs.length p/\Up lt p vs.length)/\vf st'=p.map (kas_item (vs.toArray.zip vs.toArray))/\vm st'=au) ⟨rfl,est,rfl⟩ (List.Perm.refl _) rfl λst' p' S P sg=>by
   have hlp:=nU P;have ag:∀u,d7 p'.toArray u=g p' u:=λu=>by
    by_cases hu:u<p'.length
    ·simp[d7,g,de,yp,hu]
    ·simp[d7,g,de,yp,hu]
   refine⟨p'.toArray,⟨?_,λu v huv hv=>?_⟩,by rw[S.a];simp[fO],S.f⟩
   ·exact yo.mpr (by simpa using P)
   ·rw[ag,ag];exact Ew.of W (sg u v (oj _) huv hv)
  refine ad (gr run (λr s' q=>?_) λ_ _ z=>z);obtain⟨⟨⟩,st'⟩:=r;obtain⟨rfl,p,⟨pm,up⟩,e1,e2⟩:=q;dsimp only at e1 e2 ⊢;rw[kat_snds rfl e1,e2];exact fin p pm up
 ·have few:vs.toArray.size<2:=by simp;right
  rw[Yh few,Yh few];refine ad (aj ?_);rw[Wu];refine ad (aj ?_);dsimp only;have e:((vf (yq general' (vs.toArray.zip vs.toArray) #[] 7 au)).map λx=>x.2)=(picked vs (U3 (gx vs.length))).toArray:=by
   rw[xV];apply W1.mp;show ((vs.toArray.zip vs.toArray).map λx=>x.2).toList=_;simp;apply qz;intro i;by_cases hi:i<vs.length
   ·simp[hi]
   ·simp[hi]
  rw[e];exact fin _ (Array.Perm.refl _) λu v h1 h2=>by right
theorem Au{d:ae}{es:Array lq}{ep:Nat}{lt:Nat->Nat->Bool}(hh:A.handled=au)(lo:(d==ji)=ao)(x:Ent s.heap d es ep)(hv:es.toList.map (·.key)=vs)(h64:vs.length<=1000)(ht:∀i j,i<vs.length->j<vs.length->i≠j->lt i j=ai \/ lt j i=ai)
  (c:∀(h1:dk) (tk:Nat),(∀b o,s.heap.get? b=aa o->h1.get? b=aa o)->2<=vs.length->Cmp prog w { s with heap:=h1.push (qo "list" vs.toArray 0),toks:=tk } h1.objs.size vs lt κ)
  (k:∀(h1:dk) (tk:Nat) p,(∀b o,s.heap.get? b=aa o->h1.get? b=aa o)->s.heap.objs.size<h1.objs.size->Pm vs.length p->Up lt p vs.length->Q (.ref h1.objs.size) { s with heap:=WR (h1.push (qo "list" vs.toArray 0)) h1.objs.size vs (picked vs p).toArray,toks:=tk }):
  bt (bz prog w) A (call (.builtin "sorted") [.ref d]) Q E s:=by
 have line:vs.length<=bu:=by rw[kg];right
 have hn:es.size=vs.length:=by rw[<- hv];simp
 refine yz kind_sorted plain_sorted entry_sorted (args_sorted1 _) ?_;unfold su.«sorted»;refine ad (m:=checkCount "sorted" 1 1 _) (aj (ad (JU (Lc lo) hh x (by rw[hn];exact line) λh1 tk acc old big it=>?_)));have ea:acc.toList=vs:=by
  apply qz;intro i;rw[<- hv];by_cases hi:i<acc.size
  ·obtain⟨en,e1,e2⟩:=it.2 i acc[i] (ui hi);rw[jc,ui hi,dg,jc,e1,e2];rfl
  ·have:es.size<=i:=by rw[<- it.1];right
   rw[lh (by simpa using hi),lh (by simpa using this)]
 rw[ea];refine ad (Tg ?_ line);have mine:(h1.push (qo "list" vs.toArray 0)).get? h1.objs.size=aa (qo "list" vs.toArray 0):=cj h1 rfl;refine ad (jd (fz WT ⟨_,mine,rfl⟩ Wv ?_ (WU _)));refine Cn (s:={ s with heap:=h1.push (qo "list" vs.toArray 0),toks:=tk }) (lt:=lt) (κ:=κ) mine h64 ht (λtwo=>c h1 tk old two) λp a b=>⟨_,rfl,aj ⟨_,rfl,k h1 tk p old big a b⟩⟩
theorem xH(hc:X.calm=ai):fM X (.builtin "sorted") (λxs H Q=>∃(p:ae) (ep:Nat) (kvs:List (List bW×V)) (kns:List (List Int)) (k:Nat),xs=[.ref p]/\H p=aa (.dT ep kvs)/\kvs.map (·.1)=kns.map (λl=>l.map iw)/\kvs.length<=1000/\(∀l∈kns,l.length=k+1) /\
  ∀its':List (ae×List Int),(its'.map (·.2)).Perm kns->its'.Pairwise (λt u=>gW t.2 u.2=ai)->(∀t∈its',H t.1=aa (.tup (t.2.map V.int))) -> ∀l,H l=au->Q (.ref l) (upd H l (.lst (its'.map λt=>V.ref t.1)))):=by
 intro pk s σ H xs us Q I r h;obtain⟨p,ep,kvs,kns,k,rfl,hp,hk,h64,hlen,q⟩:=h;obtain⟨u,rfl,ru⟩:=kF r;cases ru;obtain⟨hz,hsys,xs,rx,o,es,g,ex,dd,he,nd⟩:=(show cI X.prog X.w H s.heap p (.dT ep kvs) from I.hok p _ hp);obtain⟨its,e1,e2,e3,e4⟩:=OE rx hk;have ln:its.length=kvs.length:=by
  have a:=congrArg List.length e1;have b:=congrArg List.length hk;simp at a b;right
 have pw0:its.Pairwise (λt u=>t.2.1≠u.2.1):=by
  rw[e4] at nd;have nd2:kns.Nodup:=by
   rw[oa] at nd ⊢;rw[iq] at nd;exact nd.imp λh z=>h (by rw[z])
  rw[<- e1,oa,iq] at nd2;exact nd2
 have YF:∀t∈its,t.2.1.length=k+1:=λt ht=>hlen _ (by rw[<- e1];exact vo ht);have tup:∀t∈its,∃(o:jv) (a b:List af) (n:Nat),s.heap.get? t.1=aa o/\o.cls=.type "tuple" /\ o.data=.seq (a++b).toArray n/\uu a t.2.1:=λt ht=>by
  obtain⟨z,r',⟨o,ho,hc,n,hd'⟩,_⟩:=I.tuple (pF.of (e3 t ht).1);exact⟨o,z,[],n,ho,hc,by rw[gv];exact hd',qI r'⟩
 have hv:es.toList.map (·.key)=its.map (λt=>Value.ref t.1):=by
  rw[he,ju,<- e2];rfl
 have hl:(its.map λt=>Value.ref t.1).length=its.length:=bf ..;have neX:∀i j,i<its.length->j<its.length->i≠j->(its.getD i (0,[],[])).2.1≠(its.getD j (0,[],[])).2.1:=λi j hi hj n=>by
  have pw:=da.mp pw0;have ei:its.getD i (0,[],[])=its[i]:=by simp[hi]
  have ej:its.getD j (0,[],[])=its[j]:=by simp[hj]
  rw[ei,ej];rcases ue n with z | z
  ·exact pw i j hi hj z
  ·exact(pw j i hj hi z).symm
 refine Au (I.ok.hd hc) hsys ⟨⟨o,g,ex,dd⟩⟩ hv (by rw[hl,ln];right) (λi j hi hj n=>by rw[hl] at hi hj;exact nX _ _ (neX i j hi hj n)) (λh1 tk old two=>Lj (k:=k) two YF pw0 (λt ht=>?_) (λt ht=>?_)) λh1 tk p' old big pm up=>?_
 ·obtain⟨o,a,b,n,ho,r⟩:=tup t ht;exact⟨o,a,b,n,ap _ (old _ _ ho),r⟩
 ·obtain⟨o,a,b,n,ho,r⟩:=tup t ht;exact gn (bg (old _ _ ho))
 ·rw[hl] at pm up
  let its':=p'.toList.map λi=>its.getD i (0,[],[])
  have perm:its'.Perm its:=Dw pm its rfl _;have ne:∀i j,i<its.length->j<its.length->i≠j->(its.getD i (0,[],[])).2.1≠(its.getD j (0,[],[])).2.1:=λi j hi hj n=>by
   have pw:=da.mp pw0;have ei:its.getD i (0,[],[])=its[i]:=by simp[hi]
   have ej:its.getD j (0,[],[])=its[j]:=by simp[hj]
   rw[ei,ej];rcases ue n with z | z
   ·exact pw i j hi hj z
   ·exact(pw j i hj hi z).symm
  have pw:its'.Pairwise (λt u=>gW t.2.1 u.2.1=ai):=tJ pm up its _ _ λi j hi hj b=>by
   rcases b.2 with z | z
   ·exact z
   ·rcases nX _ _ (ne i j hi hj (gn z)) with y | y
    ·exact y
    ·have b1:gW (its.getD j (0,[],[])).2.1 (its.getD i (0,[],[])).2.1=ao:=b.1;rw[b1] at y;cases y
  have ep:picked (its.map λt=>Value.ref t.1) p'=its'.map λt=>Value.ref t.1:=by
   unfold picked;rw[ju];apply uc;intro i hi;have hi':i<its.length:=xp.mp (pm.list.mem_iff.mp hi);simp[hi']
  rw[ep];have mine:(h1.push (qo "list" (its.map λt=>Value.ref t.1).toArray 0)).get? h1.objs.size=aa (qo "list" (its.map λt=>Value.ref t.1).toArray 0):=cj h1 rfl;have rel:∀l:List Jn,bV (l.map λt=>V.ref t.1) (l.map λt=>Value.ref t.1):=λl=>by
   induction l with
   |nil=>exact .nil
   |cons t r ih=>exact .cons rfl ih
  have hle:(its'.map λt=>V.ref t.1).length<=bu:=by rw[kg,bf,perm.length_eq];right
  have q':=q (its'.map λt=>(t.1,t.2.1)) (by rw[ju,<- e1];exact perm.map _) (by rw[iq];exact pw) (λt ht=>by
   obtain⟨u,hu,rfl⟩:=jg.mp ht;exact(e3 u (perm.mem_iff.mp hu)).1)
  rw[ju] at q';obtain⟨c,at1⟩:=sortedHeap_at (out:=(its'.map λt=>Value.ref t.1).toArray) mine;have low:∀b o,s.heap.get? b=aa o->b<h1.objs.size:=λb o e=>bg (old b o e);have le:s.heap.objs.size<=h1.objs.size:=Vp big;exact⟨.ref h1.objs.size,_,I.laid (λb o e=>(sortedHeap_old (gn (low b o e)) (by rw[size_push'];exact VA (low b o e))).trans (ap _ (old b o e))) le (show cI X.prog X.w _ _ _ (.lst _) from⟨hle,_,c,rel its',at1⟩),rfl,q' _ (I.hok.fresh le)⟩
end L2
namespace Z
open L2
def iK:List Dv->(R->Prop)->Prop
 | [.dit kvs],Q=>∃(kns:List (List Int)) (k:Nat),kvs.map (·.1)=kns.map (λl=>l.map iw)/\kvs.length<=1000/\(∀l∈kns,l.length=k+1) /\ ∀ls:List (List Int),ls.Perm kns->ls.Pairwise (λt u=>gW t u=ai)->Q (.nw (.lst (ls.map λl=>.tup (l.map .int))))
 |_,_=>False
theorem CM(hc:X.calm=ai):oO X (.builtin "sorted") iK:=by
 refine⟨λds Q Q' w h=>?_,_,xH hc,λM O H xs ds Q c h=>?_⟩
 ·unfold iK at *;split at h
  ·obtain⟨kns,k,a,b,c,q⟩:=h;exact⟨kns,k,a,b,c,λls x y=>w _ (q ls x y)⟩
  ·exact h
 ·unfold iK at h;split at h
  ·obtain⟨x,rfl,cx⟩:=eQ c;obtain⟨a,ep,kvs',rfl,ea,ra⟩:=cx.dit;obtain⟨kns,k,e1,e2,e3,q⟩:=h;refine⟨a,ep,kvs',kns,k,rfl,ea,by rw[ra.keys];exact e1,by rw[ra.len];exact e2,e3,λits' p1 p2 p3 l hl=>?_⟩;refine q (its'.map (·.2)) p1 (by rw[iq];exact p2) _ _ (aO.new' hl) (k6 hl ?_);clear q p1 p2;induction its' with
   |nil=>exact .nil
   |cons t r ih=>
    refine .cons (.tup (p3 t (di ..)) (Reps.ints _)) (ih λu hu=>p3 u (df _ hu))
  ·exact h.elim
theorem BO{kvs:List (List bW×Dv)}{Q:R->Prop}:(iK [.dit kvs] Q)=(∃(kns:List (List Int)) (k:Nat),kvs.map (·.1)=kns.map (λl=>l.map iw)/\kvs.length<=1000/\(∀l∈kns,l.length=k+1) /\ ∀ls:List (List Int),ls.Perm kns->ls.Pairwise (λt u=>gW t u=ai)->Q (.nw (.lst (ls.map λl=>.tup (l.map .int))))):=rfl
end Z
namespace L2
theorem uO{α β:Type}(f:α->β):∀(l:List α) (j:Nat),(l.map f).eraseIdx j=(l.eraseIdx j).map f
 | [],_=>rfl
 |_::_,0=>rfl
 |a::l,j+1=>by simp[uO f l j]
variable {j:Nat}
section
variable {K:Type}[DecidableEq K]{knd:XV prog w K}
theorem Gj{d:ae}{xs:List (K×ae×af)}{k:K}{p:ae×af}{Q:Option lq->ah->Prop}(hu:knd.room A)(hkey:knd.is s.heap k a)(hm:s.heap.DictOfH knd d xs)(hj:xs[j]?=aa (k,p))
  (h:∀e h',e.val=p.2->h'.DictOfH knd d (xs.eraseIdx j)->oz d s.heap h'->Q (aa e) { s with heap:=h',toks:=s.toks+knd.draws k }) (hsz:xs.length<=bu):
  bt (bz prog w) A (UH d (.ref a)) Q E s:=by
 obtain⟨o,es,ep,ho,hc,hd,he,his,hn⟩:=hm;unfold UH
 try with_reducible refine jd ?_
 refine ad (knd.pyHash hu hkey ?_);refine ad (wpAny_dictFind_heap (s:={ s with toks:=s.toks+knd.draws k }) hu hkey ho hd he his hn ?_ ?_)
 ·exact λno=>absurd hj (no j p)
 ·intro j' p' hj';have lt':j'<(xs.map (·.1)).length:=by rw[bf];exact(cf.mp hj').1
  have:j'=j:=(List.getElem?_inj lt' hn).mp (by rw[dg,dg,hj,hj'];rfl);subst this;rw[hj] at hj';injection hj' with hj';injection hj' with _ hj';subst hj';refine ad (sv (s:={ s with toks:=s.toks+knd.draws k }) ho hd ?_);rw[entry_at he j',hj];refine ad (wpAny_updateDictKeys (hz:=by have e:=Ua he;right) (s:={ s with toks:=s.toks+knd.draws k }) ho hd (aj (h _ _ rfl ⟨_,_,ep+1,og _ ho (Obj.isFreed_of_dict (UI hd _)),
   hc.mapDictKeys _,UI hd _,?_,?_,?_⟩ (xh ..))))
  ·have:(es.eraseIdxIfInBounds j').toList=es.toList.eraseIdx j':=by obtain⟨l⟩:=es;simp
   rw[this,he,uO]
  ·intro x hx;exact knd.keeps (his x (Th hx)) ho hd (xh ..)
  ·rw[show (xs.eraseIdx j').map (·.1)=(xs.map (·.1)).eraseIdx j' from(uO _ _ _).symm];exact hn.sublist (Ui ..)
theorem DH(knd:XV prog w K)(d a:ae):
  MeetsIn prog w (su.«dict.pop» ⟨[.ref d,.ref a],[]⟩) (λA R s=>knd.room A.in1 /\ ∃k xs j p,knd.is s.heap k a/\s.heap.DictOfH knd d xs/\xs.length<=bu/\xs[j]?=aa (k,p) /\
   ∀h',h'.DictOfH knd d (xs.eraseIdx j)->oz d s.heap h'->R (.ok (.ret p.2)) { s with heap:=h',toks:=s.toks+knd.draws k }):=
 .of_wp λA R s ⟨hu,k,xs,j,p,hkey,hm,hsz,hj,h⟩=>by
  obtain⟨o,es,ep,ho,hc,hd,he,his,hn⟩:=id hm;unfold su.«dict.pop»;refine ad ?_;unfold WY;refine ad (Ug hm.typeIs ?_);show bt _ _ (jw (d,Value.ref a,au)) _ _ s;refine aj ?_;have kp:(keyPart (Value.ref a)).isSome=ao:=rfl;simp only[kp,dq,if_false];refine ad (sv ho hd ?_);refine ad (aj ?_);have ne:es.isEmpty=ao:=by
   have e1:=Ua he;have:=(cf.mp hj).1;have h0:es.size≠0:=⋯;simp only[Array.isEmpty,decide_eq_false h0]
  simp only[ne,dq,if_false];refine ad (Gj (hsz:=hsz) hu hkey hm hj λe h' he hm' hs'=>?_);simp only[Option.isNone_some,dq,if_false];exact ad (wpAny_letGo (aj ⟨e.val,rfl,by rw[he];exact h h' hm' hs'⟩))
end
theorem BA{α β:Type}{F:α->β->Prop}:∀{l:List α} {m:List β} (j:Nat),Paired F l m->Paired F (l.eraseIdx j) (m.eraseIdx j)
 |_,_,_,.nil=>by simpa using Paired.nil
 |_,_,0,.cons _ r=>r
 |_,_,n+1,.cons b r=>.cons b (BA n r)
theorem MA{α β:Type}{F:α->β->Prop}:∀{l:List α} {m:List β} {j:Nat} {x:α},Paired F l m->l[j]?=aa x -> ∃y,m[j]?=aa y/\F x y
 |_,_,j,_,.nil,h=>by simp at h
 |_,_,0,x,.cons b r,h=>by simp at h;subst h;exact⟨_,rfl,b⟩
 |_,_,n+1,x,.cons b r,h=>by
  simp only[mf] at h ⊢;exact MA r h
section
variable {ep:Nat}{k:List bW}{v:V}
theorem OQ(hu:A.units+1<jy)(I:Inv X pk σ H s)(e:H a=aa (.dT ep kvs))(eb:H b=aa (.tup (k.map kV)))(l:kvs[j]?=aa (k,v))
  (h:∀ep' w' s',Inv X pk σ (upd H a (.dT ep' (kvs.eraseIdx j))) s'->cO v w'->Q w' s'):bt (bz X.prog X.w) A (call (.builtin "dict.pop") [.ref a,.ref b]) Q E s:=by
 obtain⟨z,hd,xs,rel,dd⟩:=Mc I.hok e;have hz:xs.length<=bu:=by rw[<- Paired.length rel];exact z
 obtain⟨⟨k',c,w'⟩,hx,q1,q2,q3⟩:=MA rel l;simp only at q1 q2 q3;subst q1;refine call_meetsIn Uj dd.typeIs PySem.F.entry_dict_pop (PySem.F.args_dict_pop_2 _ _) (DH (Tp (eP X.prog X.w)) a b)
  ⟨uz hu,k,xs,j,(c,w'),vX I.hok eb,dd,hz,hx,λh' dd' hs=>?_⟩
 obtain⟨q,es,ep',hq,h2,h3,h4,_,h5⟩:=dd';refine h ep' _ _ ?_ q3;have hl:(kvs.eraseIdx j).length<=bu:=ly (TM ..) z;have rel':KT H (kvs.eraseIdx j) (xs.eraseIdx j):=BA j rel;refine uQ I (by rw[e];exact mj) hs ⟨q,hq⟩ ⟨hl,hd,_,KT.keeps rel' λc ys ec=>?_,q,es,hq,h2,h3,h4,h5⟩;rw[bB (MN ec e (λz=>nomatch z))];exact ec
end
end L2
namespace Z
open L2
theorem RepT.erase{K:ak}{H:Hp}:∀{xs:List (List bW×V)} {ds:List (List bW×Dv)} (n:Nat),RepT K M H xs ds->RepT K M H (xs.eraseIdx n) (ds.eraseIdx n)
 |_,_,_,.nil=>by simpa using RepT.nil
 |_,_,0,.cons _ r=>r
 |_,_,n+1,.cons b r=>.cons b (RepT.erase n r)
theorem RepT.at{K:ak}{H:Hp}:∀{xs:List (List bW×V)} {ds:List (List bW×Dv)} {n:Nat} {k:List bW} {d:Dv},RepT K M H xs ds->ds[n]?=aa (k,d) -> ∃x,xs[n]?=aa (k,x)
 |_,_,_,_,_,.nil,h=>by simp at h
 |_,_,0,_,_,.cons b r,h=>by simp at h;obtain⟨rfl,rfl⟩:=h;exact⟨_,rfl⟩
 |_,_,n+1,_,_,.cons b r,h=>by
  simp only[mf] at h ⊢;exact RepT.at r h
theorem Ku(hu:X.A.units+1<jy):Sc X "dict.pop" (λx vs H Q=>∃(a b:ae) (ep:Nat) (kvs:List (List bW×V)) (k:List bW) (v:V) (j:Nat),x=.ref a/\vs=[.ref b]/\H a=aa (.dT ep kvs)/\H b=aa (.tup (k.map kV))/\kvs[j]?=aa (k,v) /\
  ∀ep',Q v (upd H a (.dT ep' (kvs.eraseIdx j)))):=by
 intro pk s σ H x vs v us Q I rx rv h;obtain⟨a,b,ep,kvs,k,v',j,rfl,rfl,e,eb,l,q⟩:=h;cases rx;obtain⟨u,rfl,ru⟩:=rv.one;cases ru;exact OQ hu I e eb l λep' w' s' I' r'=>⟨_,_,I',r',q ep'⟩
def Ax(i:Nat)(te:dB):cE:=λE ρ=>match ρ[i]? with
 |some (.own a (.dit kvs))=>te ρ λkk=>∃(k:List bW) (j:Nat) (d:Dv),kk.d=.tup (k.map kD)/\kvs[j]?=aa (k,d)/\E.nx (ρ.set i (.own a (.dit (kvs.eraseIdx j))))
 |_=>False
theorem NE{x:bv}{p1 p2 p3 pos:lv}(hu:X.A.units+1<jy)(hv:PE X (.Name x p1) (z7 i))(he:QE X e te)
  (hs:iu (.Call (.Attribute (.Name x p1) "pop" p2) [e] [] p3) au pos.line X.env=jw ao:=by rfl)
  (YD:sd (.Name x p1) "pop" X.env (gh (.Name x p1) X.env)=gh (.Name x p1) X.env:=by rfl)
  (hfew:((ir p3 (aw (e::[]) X.env)).all (λx=>!x.1)&&(yc p3 (tj [] X.env)).all (λx=>x.1.isSome)
   && decide ((e::[]).length+([]:List zj).length+(if ([]:List zj).isEmpty then 0 else 1)<30))=ai:=by rfl)
  (YE:(p2.endLine==p3.line)=ai:=by rfl) (hst:aw (e::[]) X.env=(ao,gh e X.env)::aw [] X.env:=by rfl) (Yz:(ir p3 (aw [] X.env)).any (·.1)=ao:=by rfl):
  QS X (.Expr (.Call (.Attribute (.Name x p1) "pop" p2) [e] [] p3) pos) (Ax i te):=by
 have hA:QA X [e] (a9 te aF):=aD he aE hst;refine⟨λE E' ρ w h=>?_,λHZ F=>dQ (uG (HW PySem.F.plainAttrs_dict Uj PySem.F.type_dict_pop (Ku hu) hv (hA.run HZ F) YD hfew YE hst Yz) hs) λD σ H ⟨ρ,E,fr,h,en⟩=>?_⟩
 ·unfold Ax at *;split at h
  ·exact he.mono _ _ _ (λv ⟨k,j,d,a,b,q⟩=>⟨k,j,d,a,b,w.nx _ q⟩) h
  ·exact h
 ·unfold Ax at h;split at h
  ·rename_i a kvs hx;obtain⟨hs1,ep,vs,hv1,rv1⟩:=fr.sl i _ hx;refine⟨_,hs1,.inr (.inr (.inl ⟨rfl,.inr ⟨_,_,hv1⟩⟩)),?_⟩;have h':a9 te aF ρ λrs=>∃kk,rs=[kk] /\ ∃(k:List bW) (j:Nat) (d:Dv),kk.d=.tup (k.map kD)/\kvs[j]?=aa (k,d)/\E.nx (ρ.set i (.own a (.dit (kvs.eraseIdx j)))):=
    he.mono _ _ _ (λv z=>⟨v,rfl,z⟩) h
   refine hA.step fr h' λrs xs' H2 ⟨kk,erv,ks,j,d,ek,hj,q⟩ S2 r2=>?_;subst erv;have cc:=r2.c;obtain⟨y,rfl,cy⟩:=eQ cc;have ck:=cy;rw[ek] at ck;obtain⟨b,zs,rfl,eb,rb⟩:=ck.tup;have ez:zs=ks.map kV:=rb.keys;have hv2:=S2 _ _ hv1;have rv2:=RepT.gen (.mono S2) rv1;obtain⟨v,hjv⟩:=RepT.at rv1 hj;refine⟨a,b,ep,vs,ks,v,j,rfl,rfl,hv2,ez ▸ eb,hjv,λep'=>?_⟩;have G:Gen X.K (MM F ρ) (MM F ρ) H2 (upd H2 a (.dT ep' (vs.eraseIdx j))):=Gen.write (.inr ⟨_,fe hx⟩) (by rw[hv2];trivial);exact en.nx _ _ _ ((fr.mono S2).write (d':=.dit (kvs.eraseIdx j)) hx ⟨_,_,bT,(rv2.erase j).gen G⟩) q
  ·exact h.elim
inductive DF(K:ak)(mg:bv->Option af)(x nm:bv)(st:ku):Prop
 |mk {f:ae} {od an:Option ae} {sl:Array (Option af)} {oc kV dc pm cd ct:af} (a:mg x=aa (.ref f))
  (l:K.lookup f=aa ⟨oc,od,.func (Tc nm nm (jM st) (eF st) (aI st) .none kV dc pm an cd ct),sl⟩) (c:Uv K cd nm=ai) (k:qj K (.ref f)=ai)
inductive MF(K:ak)(C:ae)(m qual:bv)(st:ku):Prop
 |mk {f:ae} {od an:Option ae} {sl:Array (Option af)} {oc kV dc pm cd ct:af} (a:jq K (.ref C) m=aa (aa (.ref f))) (i:Y3 K (.ref f)=ai)
  (l:K.lookup f=aa ⟨oc,od,.func (Tc m qual (jM st) (eF st) (aI st) .none kV dc pm an cd ct),sl⟩) (c:Uv K cd qual=ai) (k:qj K (.ref f)=ai)
abbrev De(x Yj:bv)(st:ku)(ps:List bv):Prop:=∀(kV doc pm:af) (an:Option ae) (cdv ct:af) (us:List af),us.length=ps.length->XO (Tc x Yj (jM st) (eF st) (aI st) .none kV doc pm an cdv ct) ⟨us,[]⟩=jw (ps.zip us)
variable {st:ku}
theorem DF.at{x nm:bv}(d:DF K mg x nm st)(h:De nm nm st ps:=by intro _ _ _ _ _ _ us hl;rcases us with _ | ⟨_,_ | ⟨_,_ | ⟨_,_ | ⟨_,_ | ⟨_,_ | ⟨_,_ | ⟨_,_ | ⟨_,_⟩⟩⟩⟩⟩⟩⟩⟩<;>first | rfl | cases hl):At K mg x nm st ps:=by
 obtain⟨a,l,c,k⟩:=d;have F:=A9 l c k;exact⟨_,_,a,F,F.binds h⟩
theorem MF.at{m:bv}(d:MF K C m Yj st)(h:De m Yj st ps:=by intro _ _ _ _ _ _ us hl;rcases us with _ | ⟨_,_ | ⟨_,_ | ⟨_,_ | ⟨_,_ | ⟨_,_ | ⟨_,_ | ⟨_,_ | ⟨_,_⟩⟩⟩⟩⟩⟩⟩⟩<;>first | rfl | cases hl):MAt K C m Yj st ps:=by
 obtain⟨a,i,l,c,k⟩:=d;have F:=A9 l c k;exact⟨_,_,⟨a,i,k⟩,F,F.binds h⟩
theorem MF.ini{x:bv}(d:MF K C "__init__" Yj st)(e:mg x=aa (.ref C))(mk:VR K C=ai)(kc:qj K (.ref C)=ai)
  (h:De "__init__" Yj st ps:=by intro _ _ _ _ _ _ us hl;rcases us with _ | ⟨_,_ | ⟨_,_ | ⟨_,_ | ⟨_,_ | ⟨_,_ | ⟨_,_ | ⟨_,_ | ⟨_,_⟩⟩⟩⟩⟩⟩⟩⟩<;>first | rfl | cases hl):IAt K mg x C Yj st ps:=by
 obtain⟨a,i,l,c,k⟩:=d;have F:=A9 l c k;exact⟨_,_,⟨mk,a,i,kc⟩,e,F,F.binds h⟩
theorem TB{x:bv}{n:Int}{t:Yg}(h:mg x=aa (.int n t)):∃t,mg x=aa (.int n t):=⟨_,h⟩
end Z
local macro_rules | `(tactic| ac_nf)=>`(tactic| simp only[↓Z.zt,Z.zo,Z.zc,Z.lZ,Nat.reduceSub,Nat.reduceAdd,↓reduceIte,Int.reduceEq,Int.reduceMul,Int.reduceAdd,Int.reduceSub,Int.reduceNeg,Z.guard,Int.reduceLT,Int.reduceLE,Int.reduceToNat,Int.reducePow,Nat.reduceLT,Nat.reduceLeDiff,Nat.reducePow,Z.Ac])
local macro_rules | `(tactic| push_cast [$xs,*])=>`(tactic| simp only[↓Z.zt,Z.zo,Z.zc,Z.lZ,Nat.reduceSub,Nat.reduceAdd,↓reduceIte,Int.reduceEq,Int.reduceMul,Int.reduceAdd,Int.reduceSub,Int.reduceNeg,Z.guard,Int.reduceLT,Int.reduceLE,Int.reduceToNat,Int.reducePow,Nat.reduceLT,Nat.reduceLeDiff,Nat.reducePow,Z.Ac,$xs,*])
namespace Lw
open L2 Z
def top(i:Nat):ku:=my.main.body.getD i (.Pass ⟨0,0,0,0⟩)
abbrev tF:cE:=
 (nR 1 (gH (a9 (a8 2) (a9 (a8 3) (a9 (a8 4) (a9 (a8 5) aF))))))
abbrev pE:cE:=
 (eW (gP (a9 (aR dD (a8 4) (eC (.int 1))) (a9 (a8 0) aF))) (gN 5) tF)
abbrev pD:cE:=
 (eW (gP (a9 (aR dD (a8 3) (eC (.int 1))) (a9 (a8 0) aF))) (gN 4) pE)
abbrev pC:cE:=
 (eW (gP (a9 (aR dD (a8 2) (eC (.int 1))) (a9 (a8 0) aF))) (gN 3) pD)
abbrev yZ:cE:=
 (aV (j5 1 (jL aF))
 (aV (eW (dE (a9 (a8 0) aF)) (gN 2) pC)
 (cM (a8 1))))
variable {bM bE bJ cW bD aK bC cG:Fn}{aT:ae}
section
local macro_rules | `(tactic| norm_cast)=>`(tactic| exact⟨rfl,rfl,rfl,by decide +kernel,rfl,by decide +kernel,by decide +kernel⟩)
theorem JR(P:az)(w:bw)(mg:bv->Option af)(base:dk)(m:At K mg "fours" "fours" (top 9) ["many"])(aS:mg "range" = au)(len:∀ds Q,sp ds Q->ds.length=1)(hsp:∀ds Q,sp ds Q->yZ  ↥Q (aM ["many", "told", "i", "j", "k", "l"] ds)):Def P w K mg base 1 "fours" ["many"] (low K sp):=by
 have sc:FnScope ["many", "told", "i", "j", "k", "l"] ["many"] (aI (top 9)):=by norm_cast
 refine m.okP (k:=0) (t:=yZ ) sc (λf cdv A outer s H E hr=>?_) len hsp
 ·
  exact(aG (iB (i:=1) sc.nd rfl (.inl rfl) (iG aE))
 (aG (dF cp rfl (cS rfl aS (aD (a7 0 (pv 0)) aE)) (eX (i:=2) (k:=6) sc.nd rfl (.inl rfl)) (aH (dF cp rfl (g6 rfl aS (aD (bP bU (a7 2 (pv 2)) aN) (aD (a7 0 (pv 0)) aE))) (eX (i:=3) (k:=6) sc.nd rfl (.inl rfl)) (aH (dF cp rfl (g6 rfl aS (aD (bP bU (a7 3 (pv 3)) aN) (aD (a7 0 (pv 0)) aE))) (eX (i:=4) (k:=6) sc.nd rfl (.inl rfl)) (aH (dF cp rfl (g6 rfl aS (aD (bP bU (a7 4 (pv 4)) aN) (aD (a7 0 (pv 0)) aE))) (eX (i:=5) (k:=6) sc.nd rfl (.inl rfl)) (aH (rO (i:=1) (pv 1) (h7 (aD (a7 2 (pv 2)) (aD (a7 3 (pv 3)) (aD (a7 4 (pv 4)) (aD (a7 5 (pv 5)) aE))))))))))))))
 (aH (bX (a7 1 (pv 1))))))
abbrev pX:cE:=
 (cM (sE (AD "int" (a8 0)) (wF (AD "bool" (a8 0)))))
theorem CD(P:az)(w:bw)(mg:bv->Option af)(base:dk)(m:At K mg "is_whole" "is_whole" (top 16) ["thing"])(bF:mg "isinstance" = au)(GU:mg "int" = au)(CY:mg "bool" = au)(len:∀ds Q,sp ds Q->ds.length=1)(hsp:∀ds Q,sp ds Q->pX  ↥Q (aM ["thing"] ds)):Def P w K mg base 1 "is_whole" ["thing"] (low K sp):=by
 have sc:FnScope ["thing"] ["thing"] (aI (top 16)):=by norm_cast
 refine m.okP (k:=0) (t:=pX ) sc (λf cdv A outer s H E hr=>?_) len hsp
 ·
  exact(aH (bX (xT (B7 (.inl rfl) rfl bF (a7 0 (pv 0)) (oX (v:=.ty "int") rfl GU boot_int rfl)) (vI (Dq (B7 (.inr (.inl rfl)) rfl bF (a7 0 (pv 0)) (oX (v:=.ty "bool") rfl CY boot_bool rfl)))))))
abbrev gR(iN:Fn):cE:=
 (aV (jI (Le (o8 (kE (AD "tuple" (a8 0)))) (bI (aR xZ (fD d5 (a9 (a8 0) aF)) (eC (.int 3))))) (cM (eC (.bl ao))) cB)
 (cM (fD Hw (a9 (gD 1 [] (kC (a8 0)) (gN 0) jH (b8 iN (a9 (a8 0) aF))) aF))))
theorem pM(P:az)(w:bw)(mg:bv->Option af)(base:dk){iN:Fn}(m:At K mg "has_three_wholes" "has_three_wholes" (top 22) ["direction"])(bF:mg "isinstance" = au)(eE:mg "tuple" = au)(bA:mg "len" = au)(GV:mg "all" = au)(qR:Def P w K mg base 1 "is_whole" ["thing"] (low K iN))(Bl:MonoF iN)(len:∀ds Q,sp ds Q->ds.length=1)(hsp:∀ds Q,sp ds Q->gR iN ↥Q (aM ["direction"] ds)):Def P w K mg base 2 "has_three_wholes" ["direction"] (low K sp):=by
 have sc:FnScope ["direction"] ["direction"] (aI (top 22)):=by norm_cast
 refine m.okP (k:=1) (t:=gR iN) sc (λf cdv A outer s H E hr=>?_) len hsp
 ·
  have hu:=hr.units;exact(aG (fN (QW.qt (Dp (jY (iA (B7 (.inr (.inr (.inl rfl))) rfl bF (a7 0 (pv 0)) (oX (v:=.ty "tuple") rfl eE yt rfl)))) (zF (c8 (qD hu) (aX bZ rfl bA fv (aD (a7 0 (pv 0)) aE)) aN)))) (aH (bX n4)) bY)
 (aH (bX (aX (OX rfl) rfl GV boot_all (aD (Cy ["part"] [] [] rfl (gF (a7 0 (pv 0))) (λfp s H=>(eX (i:=0) (k:=1) (show lr (["part"]:List bv) by decide +kernel) rfl (.inl rfl))) (λfp s H=>oU) (λfp s H=>(bH qR Bl (hr.mono ∅) (aD (a7 0 (pv 0)) aE)))) aE)))))
abbrev i8:cE:=
 (cM (sE (aR Q8 (fD FX (a9 (aR cR (a8 0) (eC (.int 0))) aF)) (eC (.int 999999999999))) (aR Q8 (fD FX (a9 (aR cR (a8 0) (eC (.int 1))) aF)) (eC (.int 999999999999)))))
theorem qK(P:az)(w:bw)(mg:bv->Option af)(base:dk)(m:At K mg "has_few_figures" "has_few_figures" (top 23) ["direction"])(Df:mg "abs" = au)(i0:∃t,mg "LARGEST_PART" = aa (.int 999999999999 t))(len:∀ds Q,sp ds Q->ds.length=1)(hsp:∀ds Q,sp ds Q->i8  ↥Q (aM ["direction"] ds)):Def P w K mg base 1 "has_few_figures" ["direction"] (low K sp):=by
 have sc:FnScope ["direction"] ["direction"] (aI (top 23)):=by norm_cast
 refine m.okP (k:=0) (t:=i8 ) sc (λf cdv A outer s H E hr=>?_) len hsp
 ·
  have hu1:=f6 hr;exact(aH (bX (xT (l9 Hy (aX JW rfl Df boot_abs (aD (c9 hu1 (a7 0 (pv 0)) aN) aE)) (rN i0)) (vI (l9 Hy (aX JW rfl Df boot_abs (aD (c9 hu1 (a7 0 (pv 0)) aN) aE)) (rN i0))))))
abbrev nD:cE:=
 (cM (JM (aR EI (aR cR (a8 0) (eC (.int 1))) (eC (.int 0))) (sE (aR sI (aR cR (a8 0) (eC (.int 1))) (eC (.int 0))) (aR EI (aR cR (a8 0) (eC (.int 0))) (eC (.int 0))))))
theorem AE(P:az)(w:bw)(mg:bv->Option af)(base:dk)(m:At K mg "points_up" "points_up" (top 24) ["direction"])(len:∀ds Q,sp ds Q->ds.length=1)(hsp:∀ds Q,sp ds Q->nD  ↥Q (aM ["direction"] ds)):Def P w K mg base 1 "points_up" ["direction"] (low K sp):=by
 have sc:FnScope ["direction"] ["direction"] (aI (top 24)):=by norm_cast
 refine m.okP (k:=0) (t:=nD ) sc (λf cdv A outer s H E hr=>?_) len hsp
 ·
  have hu:=hr.units;have hu1:=f6 hr;exact(aH (bX (Pl (l9 kW (c9 hu1 (a7 0 (pv 0)) aN) aN) (vI (xT (l9 (gG hu) (c9 hu1 (a7 0 (pv 0)) aN) aN) (vI (l9 kW (c9 hu1 (a7 0 (pv 0)) aN) aN)))))))
abbrev nE:cE:=
 (cM (aR EI (aR lC (aR gK (aR cR (a8 1) (eC (.int 0))) (aR cR (a8 0) (eC (.int 1)))) (aR gK (aR cR (a8 0) (eC (.int 0))) (aR cR (a8 1) (eC (.int 1))))) (eC (.int 0))))
theorem AF(P:az)(w:bw)(mg:bv->Option af)(base:dk)(m:At K mg "lies_left" "lies_left" (top 25) ["direction", "ahead"])(len:∀ds Q,sp ds Q->ds.length=2)(hsp:∀ds Q,sp ds Q->nE  ↥Q (aM ["direction", "ahead"] ds)):Def P w K mg base 1 "lies_left" ["direction", "ahead"] (low K sp):=by
 have sc:FnScope ["direction", "ahead"] ["direction", "ahead"] (aI (top 25)):=by norm_cast
 refine m.okP (k:=0) (t:=nE ) sc (λf cdv A outer s H E hr=>?_) len hsp
 ·
  have hu1:=f6 hr;exact(aH (bX (l9 kW (bP kI (bP dL (c9 hu1 (a7 1 (pv 1)) aN) (c9 hu1 (a7 0 (pv 0)) aN)) (bP dL (c9 hu1 (a7 0 (pv 0)) aN) (c9 hu1 (a7 1 (pv 1)) aN))) aN)))
abbrev i9(cT d9 h9:Fn):cE:=
 (aV (jI (o8 (kE (b8 cT (a9 (a8 0) aF)))) jW cB)
 (aV (jI (o8 (kE (b8 d9 (a9 (a8 0) aF)))) jW cB)
 (aV (jI (o8 (kE (b8 h9 (a9 (a8 0) aF)))) jW cB)
 (jI (bI (aR zO (aR cR (a8 0) (eC (.int 2))) (eC (.int 1)))) jW cB))))
theorem qL(P:az)(w:bw)(mg:bv->Option af)(base:dk){cT d9 h9:Fn}(m:At K mg "check_direction" "check_direction" (top 26) ["direction"])(gY:Def P w K mg base 2 "has_three_wholes" ["direction"] (low K cT))(pJ:MonoF cT)(iD:Def P w K mg base 1 "has_few_figures" ["direction"] (low K d9))(qG:MonoF d9)(o9:Def P w K mg base 1 "points_up" ["direction"] (low K h9))(zR:MonoF h9)(len:∀ds Q,sp ds Q->ds.length=1)(hsp:∀ds Q,sp ds Q->i9 cT d9 h9 ↥Q (aM ["direction"] ds)):Def P w K mg base 3 "check_direction" ["direction"] (low K sp):=by
 have sc:FnScope ["direction"] ["direction"] (aI (top 26)):=by norm_cast
 refine m.okP (k:=2) (t:=i9 cT d9 h9) sc (λf cdv A outer s H E hr=>?_) len hsp
 ·
  have hu1:=f6 hr;exact(aG (fN (jY (iA (bH gY pJ (hr.mono ∅) (aD (a7 0 (pv 0)) aE)))) (aH kH) bY)
 (aG (fN (jY (iA (bH iD qG (hr.mono ∅) (aD (a7 0 (pv 0)) aE)))) (aH kH) bY)
 (aG (fN (jY (iA (bH o9 zR (hr.mono ∅) (aD (a7 0 (pv 0)) aE)))) (aH kH) bY)
 (aH (fN (c8 nV (c9 hu1 (a7 0 (pv 0)) aN) aN) (aH kH) bY)))))
abbrev j8(bS dH:Fn):cE:=
 (Az (b8 bS (a9 (a8 1) aF)))
abbrev fZ(bS dH:Fn):cE:=
 (jI (o8 (kE (b8 dH (a9 (a8 1) (a9 (a8 2) aF))))) jW cB)
abbrev gU(bS dH:Fn):cE:=
 (aV (jI (o8 (kE (AD "list" (a8 0)))) jW cB)
 (aV (jI (o8 (bI (mQ Q8 Q8 (eC (.int 2)) (fD d5 (a9 (a8 0) aF)) (eC (.int 6))))) jW cB)
 (aV (eW (kC (a8 0)) (gN 1) (j8 bS dH))
 (aV (jI (bI (aR EI (fD Hb (a9 (gD 1 [] (kC (a8 0)) (gN 0) jH (aR cR (a8 0) (eC (.int 2)))) aF)) (eC (.int 12)))) jW cB)
 (eW (yG (a9 (a8 0) (a9 (GA (a8 0) (lG (eC (.int 1))) g9) aF))) (gT [2,1]) (fZ bS dH))))))
theorem pN(P:az)(w:bw)(mg:bv->Option af)(base:dk){bS dH:Fn}(m:At K mg "check_directions" "check_directions" (top 27) ["directions"])(bF:mg "isinstance" = au)(fQ:mg "list" = au)(bA:mg "len" = au)(GT:mg "sum" = au)(xM:mg "zip" = au)(gE:∃t,mg "FEWEST_DIRECTIONS" = aa (.int 2 t))(hX:∃t,mg "MOST_DIRECTIONS" = aa (.int 6 t))(lR:∃t,mg "MOST_BANDS" = aa (.int 12 t))(iE:Def P w K mg base 3 "check_direction" ["direction"] (low K bS))(qH:MonoF bS)(oA:Def P w K mg base 1 "lies_left" ["direction", "ahead"] (low K dH))(zS:MonoF dH)(len:∀ds Q,sp ds Q->ds.length=1)(hsp:∀ds Q,sp ds Q->gU bS dH ↥Q (aM ["directions", "direction", "ahead"] ds)):Def P w K mg base 4 "check_directions" ["directions"] (low K sp):=by
 have sc:FnScope ["directions", "direction", "ahead"] ["directions"] (aI (top 27)):=by norm_cast
 refine m.okP (k:=3) (t:=gU bS dH) sc (λf cdv A outer s H E hr=>?_) len hsp
 ·
  have hu1:=f6 hr;exact(aG (fN (jY (iA (B7 (.inr (.inr (.inr (.inl rfl)))) rfl bF (a7 0 (pv 0)) (oX (v:=.ty "list") rfl fQ UR rfl)))) (aH kH) bY)
 (aG (fN (jY (B5 Hz Hz (rN gE) (aX bZ rfl bA fv (aD (a7 0 (pv 0)) aE)) (rN hX))) (aH kH) bY)
 (aG (dF cp rfl (gF (a7 0 (pv 0))) (eX (i:=1) (k:=3) sc.nd rfl (.inl rfl)) (aH (Gx (bH iE qH (hr.mono ∅) (aD (a7 1 (pv 1)) aE)))))
 (aG (fN (c8 kW (aX (OW rfl) rfl GT boot_sum (aD (Cy ["direction"] [] [] rfl (gF (a7 0 (pv 0))) (λfp s H=>(eX (i:=0) (k:=1) (show lr (["direction"]:List bv) by decide +kernel) rfl (.inl rfl))) (λfp s H=>oU) (λfp s H=>(c9 hu1 (a7 0 (pv 0)) aN))) aE)) (rN lR)) (aH kH) bY)
 (aH (dF cp rfl (Gw rfl xM (aD (a7 0 (pv 0)) (aD (mE (a7 0 (pv 0)) (mC aN) mD) aE))) (Cz (k:=3) (is:=[2,1]) rfl (dA (dW (i:=2) sc.nd rfl (.inl rfl)) (dA (dW (i:=1) sc.nd rfl (.inl rfl)) mJ))) (aH (fN (jY (iA (bH oA zS (hr.mono ∅) (aD (a7 1 (pv 1)) (aD (a7 2 (pv 2)) aE))))) (aH kH) bY))))))))
abbrev sH(C:ae)(cC:Fn):cE:=
 (FD 2 (aR gK (jL (a9 (a8 3) aF)) (aR cR (a8 4) (eC (.int 2)))))
abbrev Ch(C:ae)(cC:Fn):cE:=
 (aV (Az (b8 cC (a9 (a8 1) aF)))
 (aV (j5 2 (jL aF))
 (aV (eW (A5 (a9 (a8 1) aF)) (gT [3,4]) (sH C cC))
 (aV (vD C 0 "kinds" (fD k4 (a9 (a8 2) aF)))
 (vD C 0 "vectors" (fD k4 (a9 (gD 1 [] (kC (a8 1)) (gN 0) jH (gH (a9 (aR cR (a8 0) (eC (.int 0))) (a9 (aR cR (a8 0) (eC (.int 1))) aF)))) aF)))))))
theorem Li(P:az)(w:bw)(mg:bv->Option af)(base:dk){cC:Fn}(m:IAt K mg "Sides" C "Sides.__init__" (g8 (top 28) 0) ["self", "directions"])(n9:mg "enumerate" = au)(eE:mg "tuple" = au)(cl:Cls K C)(jK:jG K C "kinds")(sT:jG K C "vectors")(gZ:Def P w K mg base 4 "check_directions" ["directions"] (low K cC))(pK:MonoF cC)(len:∀ds Q,sp ds Q->ds.length+1=2)(hsp:∀ds Q,sp ds Q -> ∀a,Ch C cC { nx:=λρ=>∃d,ρ[0]?=aa (.own a d)/\Q (.nw d),rt:=λ_=>False } (jD C a ["self", "directions", "kinds", "number", "direction"] ds)):IDef P w K mg base 5 "Sides" C ["self", "directions"] sp:=by
 have sc:FnScope ["self", "directions", "kinds", "number", "direction"] ["self", "directions"] (aI (g8 (top 28) 0)):=by norm_cast
 refine m.okP (k:=4) (t:=Ch C cC) sc (λf cdv A outer s H E hr=>?_) len hsp
 ·
  have hu1:=f6 hr;exact(aG (Gx (bH gZ pK (hr.mono ∅) (aD (a7 1 (pv 1)) aE)))
 (aG (iB (i:=2) sc.nd rfl (.inl rfl) (iG aE))
 (aG (dF cp rfl (KK rfl n9 (aD (a7 1 (pv 1)) aE)) (Cz (k:=5) (is:=[3,4]) rfl (dA (dW (i:=3) sc.nd rfl (.inl rfl)) (dA (dW (i:=4) sc.nd rfl (.inl rfl)) mJ))) (aH (Pp (i:=2) (pv 2) (bP dL (iG (aD (a7 3 (pv 3)) aE)) (c9 hu1 (a7 4 (pv 4)) aN)))))
 (aG (Gy (i:=0) cl jK (pv 0) (jZ oH rfl eE yt (aD (a7 2 (pv 2)) aE)))
 (aH (Gy (i:=0) cl sT (pv 0) (jZ oH rfl eE yt (aD (Cy ["direction"] [] [] rfl (gF (a7 1 (pv 1))) (λfp s H=>(eX (i:=0) (k:=1) (show lr (["direction"]:List bv) by decide +kernel) rfl (.inl rfl))) (λfp s H=>oU) (λfp s H=>(h7 (aD (c9 hu1 (a7 0 (pv 0)) aN) (aD (c9 hu1 (a7 0 (pv 0)) aN) aE))))) aE))))))))
abbrev Cf(C:ae):cE:=
 (cM (fD d5 (a9 (JO C "kinds" (a8 0)) aF)))
theorem Lg(P:az)(w:bw)(mg:bv->Option af)(base:dk)(m:MAt K C "many" "Sides.many" (g8 (top 28) 1) ["self"])(bA:mg "len" = au)(cl:Cls K C)(jK:jG K C "kinds")(len:∀ds Q,sp ds Q->ds.length=1)(hsp:∀ds Q,sp ds Q->Cf C  ↥Q (aM ["self"] ds)):MDef P w K mg base 1 C "many" ["self"] (low K sp):=by
 have sc:FnScope ["self"] ["self"] (aI (g8 (top 28) 1)):=by norm_cast
 refine m.okP (k:=0) (t:=Cf C ) sc (λf cdv A outer s H E hr=>?_) len hsp
 ·
  exact(aH (bX (aX bZ rfl bA fv (aD (M8 cl jK (a7 0 (pv 0))) aE))))
abbrev Cg(C:ae):cE:=
 (cM (aR cR (JO C "kinds" (a8 0)) (a8 1)))
theorem Lh(P:az)(w:bw)(mg:bv->Option af)(base:dk)(m:MAt K C "kind" "Sides.kind" (g8 (top 28) 2) ["self", "band"])(cl:Cls K C)(jK:jG K C "kinds")(len:∀ds Q,sp ds Q->ds.length=2)(hsp:∀ds Q,sp ds Q->Cg C  ↥Q (aM ["self", "band"] ds)):MDef P w K mg base 1 C "kind" ["self", "band"] (low K sp):=by
 have sc:FnScope ["self", "band"] ["self", "band"] (aI (g8 (top 28) 2)):=by norm_cast
 refine m.okP (k:=0) (t:=Cg C ) sc (λf cdv A outer s H E hr=>?_) len hsp
 ·
  have hu1:=f6 hr;exact(aH (bX (c9 hu1 (M8 cl jK (a7 0 (pv 0))) (a7 1 (pv 1)))))
abbrev jQ(C:ae)(bM:Fn):cE:=
 (aV (jI (bI (aR sI (fS C "kind" bM (a8 0) (a9 (aR cR (a8 2) (eC (.int 0))) aF)) (fS C "kind" bM (a8 0) (a9 (aR cR (a8 2) (eC (.int 1))) aF)))) (cM (eC (.bl ao))) cB)
 (aV (jI (bI (aR sI (fS C "kind" bM (a8 0) (a9 (aR cR (a8 2) (eC (.int 1))) aF)) (fS C "kind" bM (a8 0) (a9 (aR cR (a8 2) (eC (.int 2))) aF)))) (cM (eC (.bl ai))) cB)
 (cM (aR FU (a8 2) (a8 1)))))
theorem uC(P:az)(w:bw)(mg:bv->Option af)(base:dk)(m:At K mg "counts_as_up" "counts_as_up" (top 8) ["sides", "ups", "three"])(cl:Cls K C)(eJ:MDef P w K mg base 1 C "kind" ["self", "band"] (low K bM))(d8:MonoF bM)(len:∀ds Q,sp ds Q->ds.length=3)(hsp:∀ds Q,sp ds Q->jQ C bM ↥Q (aM ["sides", "ups", "three"] ds)):Def P w K mg base 2 "counts_as_up" ["sides", "ups", "three"] (low K sp):=by
 have sc:FnScope ["sides", "ups", "three"] ["sides", "ups", "three"] (aI (top 8)):=by norm_cast
 refine m.okP (k:=1) (t:=jQ C bM) sc (λf cdv A outer s H E hr=>?_) len hsp
 ·
  have hu:=hr.units;have hu1:=f6 hr;exact(aG (fN (c8 (gG hu) (jE cl eJ d8 (hr.mono ∅) (a7 0 (pv 0)) (aD (c9 hu1 (a7 2 (pv 2)) aN) aE)) (jE cl eJ d8 (hr.mono ∅) (a7 0 (pv 0)) (aD (c9 hu1 (a7 2 (pv 2)) aN) aE))) (aH (bX n4)) bY)
 (aG (fN (c8 (gG hu) (jE cl eJ d8 (hr.mono ∅) (a7 0 (pv 0)) (aD (c9 hu1 (a7 2 (pv 2)) aN) aE)) (jE cl eJ d8 (hr.mono ∅) (a7 0 (pv 0)) (aD (c9 hu1 (a7 2 (pv 2)) aN) aE))) (aH (bX n4)) bY)
 (aH (bX (l9 (zQ hu1) (a7 2 (pv 2)) (a7 1 (pv 1)))))))
abbrev i7(C:ae)(bM:Fn):cE:=
 (cM (JM (aR sI (fS C "kind" bM (a8 0) (a9 (aR cR (a8 1) (eC (.int 0))) aF)) (fS C "kind" bM (a8 0) (a9 (aR cR (a8 1) (eC (.int 2))) aF))) (aR sI (fS C "kind" bM (a8 0) (a9 (aR cR (a8 1) (eC (.int 1))) aF)) (fS C "kind" bM (a8 0) (a9 (aR cR (a8 1) (eC (.int 3))) aF)))))
theorem qJ(P:az)(w:bw)(mg:bv->Option af)(base:dk)(m:At K mg "has_three_alike" "has_three_alike" (top 10) ["sides", "four"])(cl:Cls K C)(eJ:MDef P w K mg base 1 C "kind" ["self", "band"] (low K bM))(d8:MonoF bM)(len:∀ds Q,sp ds Q->ds.length=2)(hsp:∀ds Q,sp ds Q->i7 C bM ↥Q (aM ["sides", "four"] ds)):Def P w K mg base 2 "has_three_alike" ["sides", "four"] (low K sp):=by
 have sc:FnScope ["sides", "four"] ["sides", "four"] (aI (top 10)):=by norm_cast
 refine m.okP (k:=1) (t:=i7 C bM) sc (λf cdv A outer s H E hr=>?_) len hsp
 ·
  have hu:=hr.units;have hu1:=f6 hr;exact(aH (bX (Pl (l9 (gG hu) (jE cl eJ d8 (hr.mono ∅) (a7 0 (pv 0)) (aD (c9 hu1 (a7 1 (pv 1)) aN) aE)) (jE cl eJ d8 (hr.mono ∅) (a7 0 (pv 0)) (aD (c9 hu1 (a7 1 (pv 1)) aN) aE))) (vI (l9 (gG hu) (jE cl eJ d8 (hr.mono ∅) (a7 0 (pv 0)) (aD (c9 hu1 (a7 1 (pv 1)) aN) aE)) (jE cl eJ d8 (hr.mono ∅) (a7 0 (pv 0)) (aD (c9 hu1 (a7 1 (pv 1)) aN) aE)))))))
abbrev nL(bE:Fn):cE:=
 (aV (cA 3 (jL (a9 (gH (a9 (aR cR (a8 2) (eC (.int 0))) (a9 (aR cR (a8 2) (eC (.int 1))) (a9 (aR cR (a8 2) (eC (.int 2))) aF)))) (a9 (gH (a9 (aR cR (a8 2) (eC (.int 0))) (a9 (aR cR (a8 2) (eC (.int 1))) (a9 (aR cR (a8 2) (eC (.int 3))) aF)))) (a9 (gH (a9 (aR cR (a8 2) (eC (.int 0))) (a9 (aR cR (a8 2) (eC (.int 2))) (a9 (aR cR (a8 2) (eC (.int 3))) aF)))) (a9 (GA (a8 2) (lG (eC (.int 1))) g9) aF))))))
 (aV (cA 4 (gD 1 [0,1] (kC (a8 3)) (gN 0) jH (b8 bE (a9 (a8 1) (a9 (a8 2) (a9 (a8 0) aF))))))
 (aV (cA 5 (gD 2 [] (yG (a9 (a8 4) (a9 (GA (a8 4) (lG (eC (.int 1))) g9) aF))) (gT [0,1]) (bI (aR xZ (a8 0) (a8 1))) (eC (.int 1))))
 (cM (aR EI (fD d5 (a9 (a8 5) aF)) (eC (.int 1)))))))
theorem AK(P:az)(w:bw)(mg:bv->Option af)(base:dk)(m:At K mg "is_barred" "is_barred" (top 11) ["sides", "ups", "four"])(xM:mg "zip" = au)(bA:mg "len" = au)(d6:Def P w K mg base 2 "counts_as_up" ["sides", "ups", "three"] (low K bE))(eZ:MonoF bE)(len:∀ds Q,sp ds Q->ds.length=3)(hsp:∀ds Q,sp ds Q->nL bE ↥Q (aM ["sides", "ups", "four", "within", "stand", "changes"] ds)):Def P w K mg base 3 "is_barred" ["sides", "ups", "four"] (low K sp):=by
 have sc:FnScope ["sides", "ups", "four", "within", "stand", "changes"] ["sides", "ups", "four"] (aI (top 11)):=by norm_cast
 refine m.okP (k:=2) (t:=nL bE) sc (λf cdv A outer s H E hr=>?_) len hsp
 ·
  have hu:=hr.units;have hu1:=f6 hr;exact(aG (cL (i:=3) sc.nd rfl (.inl rfl) (iG (aD (h7 (aD (c9 hu1 (a7 2 (pv 2)) aN) (aD (c9 hu1 (a7 2 (pv 2)) aN) (aD (c9 hu1 (a7 2 (pv 2)) aN) aE)))) (aD (h7 (aD (c9 hu1 (a7 2 (pv 2)) aN) (aD (c9 hu1 (a7 2 (pv 2)) aN) (aD (c9 hu1 (a7 2 (pv 2)) aN) aE)))) (aD (h7 (aD (c9 hu1 (a7 2 (pv 2)) aN) (aD (c9 hu1 (a7 2 (pv 2)) aN) (aD (c9 hu1 (a7 2 (pv 2)) aN) aE)))) (aD (mE (a7 2 (pv 2)) (mC aN) mD) aE))))))
 (aG (zG (Dr (iy:=4) ["three"] ["sides", "ups"] [0,1] sc.nd rfl (.inl rfl) rfl (gF (a7 3 (pv 3))) (λfp s H=>(eX (i:=0) (k:=1) (show lr (["three", "sides", "ups"]:List bv) by decide +kernel) rfl (.inl rfl))) (λfp s H=>oU) (λfp s H=>(bH d6 eZ (hr.mono ∅) (aD (a7 1 (pv 1)) (aD (a7 2 (pv 2)) (aD (a7 0 (pv 0)) aE)))))))
 (aG (zG (Dr (iy:=5) ["one", "other"] [] [] sc.nd rfl (.inl rfl) rfl (Gw rfl xM (aD (a7 4 (pv 4)) (aD (mE (a7 4 (pv 4)) (mC aN) mD) aE))) (λfp s H=>(Cz (k:=2) (is:=[0,1]) rfl (dA (dW (i:=0) (show lr (["one", "other"]:List bv) by decide +kernel) rfl (.inl rfl)) (dA (dW (i:=1) (show lr (["one", "other"]:List bv) by decide +kernel) rfl (.inl rfl)) mJ)))) (λfp s H=>(rM (c8 (qD hu) (a7 0 (pv 0)) (a7 1 (pv 1))))) (λfp s H=>aN)))
 (aH (bX (l9 kW (aX bZ rfl bA fv (aD (a7 5 (pv 5)) aE)) aN))))))
abbrev pY(bE:Fn):cE:=
 (aV (jI (bI (aR zO (a8 2) (a8 3))) (cM (wF (b8 bE (a9 (a8 0) (a9 (a8 1) (a9 (gH (a9 (a8 2) (a9 (a8 3) (a9 (a8 4) aF)))) aF)))))) cB)
 (aV (jI (bI (aR EI (a8 2) (a8 4))) (cM (wF (b8 bE (a9 (a8 0) (a9 (a8 1) (a9 (gH (a9 (a8 3) (a9 (a8 4) (a9 (a8 2) aF)))) aF)))))) cB)
 (cM (sE (mQ zO zO (a8 3) (a8 2) (a8 4)) (b8 bE (a9 (a8 0) (a9 (a8 1) (a9 (gH (a9 (a8 3) (a9 (a8 2) (a9 (a8 4) aF)))) aF))))))))
theorem CF(P:az)(w:bw)(mg:bv->Option af)(base:dk)(m:At K mg "is_below" "is_below" (top 13) ["sides", "ups", "z", "x", "y"])(d6:Def P w K mg base 2 "counts_as_up" ["sides", "ups", "three"] (low K bE))(eZ:MonoF bE)(len:∀ds Q,sp ds Q->ds.length=5)(hsp:∀ds Q,sp ds Q->pY bE ↥Q (aM ["sides", "ups", "z", "x", "y"] ds)):Def P w K mg base 3 "is_below" ["sides", "ups", "z", "x", "y"] (low K sp):=by
 have sc:FnScope ["sides", "ups", "z", "x", "y"] ["sides", "ups", "z", "x", "y"] (aI (top 13)):=by norm_cast
 refine m.okP (k:=2) (t:=pY bE) sc (λf cdv A outer s H E hr=>?_) len hsp
 ·
  exact(aG (fN (c8 nV (a7 2 (pv 2)) (a7 3 (pv 3))) (aH (bX (Dq (bH d6 eZ (hr.mono ∅) (aD (a7 0 (pv 0)) (aD (a7 1 (pv 1)) (aD (h7 (aD (a7 2 (pv 2)) (aD (a7 3 (pv 3)) (aD (a7 4 (pv 4)) aE)))) aE))))))) bY)
 (aG (fN (c8 kW (a7 2 (pv 2)) (a7 4 (pv 4))) (aH (bX (Dq (bH d6 eZ (hr.mono ∅) (aD (a7 0 (pv 0)) (aD (a7 1 (pv 1)) (aD (h7 (aD (a7 3 (pv 3)) (aD (a7 4 (pv 4)) (aD (a7 2 (pv 2)) aE)))) aE))))))) bY)
 (aH (bX (xT (Ds BZ BZ (a7 3 (pv 3)) (a7 2 (pv 2)) (a7 4 (pv 4))) (vI (bH d6 eZ (hr.mono ∅) (aD (a7 0 (pv 0)) (aD (a7 1 (pv 1)) (aD (h7 (aD (a7 3 (pv 3)) (aD (a7 2 (pv 2)) (aD (a7 4 (pv 4)) aE)))) aE))))))))))
abbrev yP(C:ae)(bJ bM:Fn):cE:=
 (jI (bI (aR xZ (fS C "kind" bM (a8 0) (a9 (a8 2) aF)) (fS C "kind" bM (a8 0) (a9 (a8 3) aF)))) (nR 1 (gH (a9 (a8 2) (a9 (a8 3) aF)))) cB)
abbrev lJ(C:ae)(bJ bM:Fn):cE:=
 (eW (gP (a9 (aR dD (a8 2) (eC (.int 1))) (a9 (fS C "many" bJ (a8 0) aF) aF))) (gN 3) (yP C bJ bM))
abbrev yY(C:ae)(bJ bM:Fn):cE:=
 (aV (j5 1 (jL aF))
 (aV (eW (dE (a9 (fS C "many" bJ (a8 0) aF) aF)) (gN 2) (lJ C bJ bM))
 (cM (a8 1))))
theorem JQ(P:az)(w:bw)(mg:bv->Option af)(base:dk)(m:MAt K C "pairs" "Sides.pairs" (g8 (top 28) 4) ["self"])(aS:mg "range" = au)(cl:Cls K C)(iL:MDef P w K mg base 1 C "many" ["self"] (low K bJ))(g7:MonoF bJ)(eJ:MDef P w K mg base 1 C "kind" ["self", "band"] (low K bM))(d8:MonoF bM)(len:∀ds Q,sp ds Q->ds.length=1)(hsp:∀ds Q,sp ds Q->yY C bJ bM ↥Q (aM ["self", "found", "a", "b"] ds)):MDef P w K mg base 2 C "pairs" ["self"] (low K sp):=by
 have sc:FnScope ["self", "found", "a", "b"] ["self"] (aI (g8 (top 28) 4)):=by norm_cast
 refine m.okP (k:=1) (t:=yY C bJ bM) sc (λf cdv A outer s H E hr=>?_) len hsp
 ·
  have hu:=hr.units;exact(aG (iB (i:=1) sc.nd rfl (.inl rfl) (iG aE))
 (aG (dF cp rfl (cS rfl aS (aD (mF cl iL g7 (hr.mono ∅) (a7 0 (pv 0))) aE)) (eX (i:=2) (k:=4) sc.nd rfl (.inl rfl)) (aH (dF cp rfl (g6 rfl aS (aD (bP bU (a7 2 (pv 2)) aN) (aD (mF cl iL g7 (hr.mono ∅) (a7 0 (pv 0))) aE))) (eX (i:=3) (k:=4) sc.nd rfl (.inl rfl)) (aH (fN (c8 (qD hu) (jE cl eJ d8 (hr.mono ∅) (a7 0 (pv 0)) (aD (a7 2 (pv 2)) aE)) (jE cl eJ d8 (hr.mono ∅) (a7 0 (pv 0)) (aD (a7 3 (pv 3)) aE))) (aH (rO (i:=1) (pv 1) (h7 (aD (a7 2 (pv 2)) (aD (a7 3 (pv 3)) aE))))) bY)))))
 (aH (bX (a7 1 (pv 1))))))
abbrev wM(C:ae)(cW bJ bM:Fn):cE:=
 (jI (bI (aR xZ (fS C "kind" bM (a8 0) (a9 (a8 4) aF)) (fS C "kind" bM (a8 0) (a9 (a8 3) aF)))) (nR 1 (gH (a9 (a8 2) (a9 (a8 3) (a9 (a8 4) aF))))) cB)
abbrev k8(C:ae)(cW bJ bM:Fn):cE:=
 (eW (gP (a9 (aR dD (a8 3) (eC (.int 1))) (a9 (fS C "many" bJ (a8 0) aF) aF))) (gN 4) (wM C cW bJ bM))
abbrev v5(C:ae)(cW bJ bM:Fn):cE:=
 (aV (j5 1 (jL aF))
 (aV (eW (kC (fS C "pairs" cW (a8 0) aF)) (gT [2,3]) (k8 C cW bJ bM))
 (cM (a8 1))))
theorem GC(P:az)(w:bw)(mg:bv->Option af)(base:dk)(m:At K mg "threes" "threes" (top 7) ["sides"])(aS:mg "range" = au)(cl:Cls K C)(p7:MDef P w K mg base 2 C "pairs" ["self"] (low K cW))(lE:MonoF cW)(iL:MDef P w K mg base 1 C "many" ["self"] (low K bJ))(g7:MonoF bJ)(eJ:MDef P w K mg base 1 C "kind" ["self", "band"] (low K bM))(d8:MonoF bM)(len:∀ds Q,sp ds Q->ds.length=1)(hsp:∀ds Q,sp ds Q->v5 C cW bJ bM ↥Q (aM ["sides", "told", "a", "b", "c"] ds)):Def P w K mg base 3 "threes" ["sides"] (low K sp):=by
 have sc:FnScope ["sides", "told", "a", "b", "c"] ["sides"] (aI (top 7)):=by norm_cast
 refine m.okP (k:=2) (t:=v5 C cW bJ bM) sc (λf cdv A outer s H E hr=>?_) len hsp
 ·
  have hu:=hr.units;exact(aG (iB (i:=1) sc.nd rfl (.inl rfl) (iG aE))
 (aG (dF cp rfl (gF (mF cl p7 lE (hr.mono ∅) (a7 0 (pv 0)))) (Cz (k:=5) (is:=[2,3]) rfl (dA (dW (i:=2) sc.nd rfl (.inl rfl)) (dA (dW (i:=3) sc.nd rfl (.inl rfl)) mJ))) (aH (dF cp rfl (g6 rfl aS (aD (bP bU (a7 3 (pv 3)) aN) (aD (mF cl iL g7 (hr.mono ∅) (a7 0 (pv 0))) aE))) (eX (i:=4) (k:=5) sc.nd rfl (.inl rfl)) (aH (fN (c8 (qD hu) (jE cl eJ d8 (hr.mono ∅) (a7 0 (pv 0)) (aD (a7 4 (pv 4)) aE)) (jE cl eJ d8 (hr.mono ∅) (a7 0 (pv 0)) (aD (a7 3 (pv 3)) aE))) (aH (rO (i:=1) (pv 1) (h7 (aD (a7 2 (pv 2)) (aD (a7 3 (pv 3)) (aD (a7 4 (pv 4)) aE)))))) bY)))))
 (aH (bX (a7 1 (pv 1))))))
abbrev iF(aT:ae)(Ψ:yU->Prop)(C:ae)(gL iS bR dJ bJ:Fn):cE:=
 (jI (bI (aR vN (a8 3) (a8 2))) (zD Ψ aT (a9 (eC (.str "there is something that is no three of these sides")) aF)) cB)
abbrev fK(aT:ae)(Ψ:yU->Prop)(C:ae)(gL iS bR dJ bJ:Fn):cE:=
 (jI (xA (o8 (kE (b8 bR (a9 (a8 0) (a9 (a8 4) aF))))) (kE (b8 dJ (a9 (a8 0) (a9 (a8 1) (a9 (a8 4) aF)))))) (zD Ψ aT (a9 (eC (.str "four bands bar these threes")) aF)) cB)
abbrev jC(aT:ae)(Ψ:yU->Prop)(C:ae)(gL iS bR dJ bJ:Fn):cE:=
 (aV (cA 2 (b8 gL (a9 (a8 0) aF)))
 (aV (eW (Ee (a8 1)) (gN 3) (iF aT Ψ C gL iS bR dJ bJ))
 (eW (kC (b8 iS (a9 (fS C "many" bJ (a8 0) aF) aF))) (gN 4) (fK aT Ψ C gL iS bR dJ bJ))))
theorem tD(P:az)(w:bw)(mg:bv->Option af)(base:dk){gL iS bR dJ:Fn}{sp:yT}(m:At K mg "check_threes" "check_threes" (top 12) ["sides", "ups"])(cl:Cls K C)(gX:mg "NoThrees" = aa (.ref aT))(mB:Dc K aT)(wI:Def P w K mg base 3 "threes" ["sides"] (low K gL))(sU:MonoF gL)(AM:Def P w K mg base 1 "fours" ["many"] (low K iS))(vT:MonoF iS)(iC:Def P w K mg base 2 "has_three_alike" ["sides", "four"] (low K bR))(qF:MonoF bR)(oG:Def P w K mg base 3 "is_barred" ["sides", "ups", "four"] (low K dJ))(zX:MonoF dJ)(iL:MDef P w K mg base 1 C "many" ["self"] (low K bJ))(g7:MonoF bJ)(len:∀ds Q Ψ,sp ds Q Ψ->ds.length=2)(hsp:∀ds Q Ψ,sp ds Q Ψ->jC aT Ψ C gL iS bR dJ bJ ↥Q (aM ["sides", "ups", "known", "three", "four"] ds)):DefX P w K mg base 4 "check_threes" ["sides", "ups"] (lowX K sp):=by
 have sc:FnScope ["sides", "ups", "known", "three", "four"] ["sides", "ups"] (aI (top 12)):=by norm_cast
 refine m.okX (k:=3) (t:=λΨ=>jC aT Ψ C gL iS bR dJ bJ) sc (λf cdv A outer s H E F Ψ hr hE=>?_) len hsp
 ·
  have hS:∀H2,aO H H2->aO H H2:=λ_ z=>z;have hu1:=f6 hr;have hu65:=Dh hr;exact(uU (QS.x (cL (i:=2) sc.nd rfl (.inl rfl) (bH wI sU (hr.mono ∅) (aD (a7 0 (pv 0)) aE))))
 (uU (Ls hS (KJ (a7 1 (pv 1))) (eX (i:=3) (k:=5) sc.nd rfl (.inl rfl)) (λP hS=>(Ag (Ov (c8 (FY hu65 hu1) (a7 3 (pv 3)) (a7 2 (pv 2))) (Ag (Af hS hr.hd hE gX mB rfl (aD M7 aE))) (QSs.x bY)))))
 (Ag (Ls hS (gF (bH AM vT (hr.mono ∅) (aD (mF cl iL g7 (hr.mono ∅) (a7 0 (pv 0))) aE))) (eX (i:=4) (k:=5) sc.nd rfl (.inl rfl)) (λP hS=>(Ag (Ov (QW.qt (vH (jY (iA (bH iC qF (hr.mono ∅) (aD (a7 0 (pv 0)) (aD (a7 4 (pv 4)) aE))))) (uF (iA (bH oG zX (hr.mono ∅) (aD (a7 0 (pv 0)) (aD (a7 1 (pv 1)) (aD (a7 4 (pv 4)) aE)))))))) (Ag (Af hS hr.hd hE gX mB rfl (aD M7 aE))) (QSs.x bY))))))))
abbrev l6(Ψ:yU->Prop)(C:ae)(eA cW bJ:Fn)(cD:yT):cE:=
 (wU 2 (a8 3) (eC (.bl ai)))
abbrev iX(Ψ:yU->Prop)(C:ae)(eA cW bJ:Fn)(cD:yT):cE:=
 (aV (cA 7 (gD 1 [0,2,5,6] (dE (a9 (fS C "many" bJ (a8 0) aF) aF)) (gN 0) (kE (b8 eA (a9 (a8 1) (a9 (a8 2) (a9 (a8 0) (a9 (a8 3) (a9 (a8 4) aF))))))) (a8 0)))
 (nR 4 (gH (a9 (a8 5) (a9 (a8 6) (a9 (fD k4 (a9 (a8 7) aF)) aF))))))
abbrev nN(Ψ:yU->Prop)(C:ae)(eA cW bJ:Fn)(cD:yT):cE:=
 (aV (j5 2 Oq)
 (aV (eW (kC (a8 1)) (gN 3) (l6 Ψ C eA cW bJ cD))
 (aV (Cp cD (a9 (a8 0) (a9 (a8 2) aF)) Ψ)
 (KC 2 (aV (j5 4 (jL aF))
 (aV (eW (kC (fS C "pairs" cW (a8 0) aF)) (gT [5,6]) (iX Ψ C eA cW bJ cD))
 (cM (a8 4))))))))
theorem AL(P:az)(w:bw)(mg:bv->Option af)(base:dk){eA:Fn}{cD:yT}{sp:yT}(m:At K mg "floor_by" "floor_by" (top 14) ["sides", "some"])(aS:mg "range" = au)(eE:mg "tuple" = au)(cl:Cls K C)(gQ:DefX P w K mg base 4 "check_threes" ["sides", "ups"] (lowX K cD))(sX:MonoX cD)(qS:Def P w K mg base 3 "is_below" ["sides", "ups", "z", "x", "y"] (low K eA))(Bm:MonoF eA)(p7:MDef P w K mg base 2 C "pairs" ["self"] (low K cW))(lE:MonoF cW)(iL:MDef P w K mg base 1 C "many" ["self"] (low K bJ))(g7:MonoF bJ)(len:∀ds Q Ψ,sp ds Q Ψ->ds.length=2)(hsp:∀ds Q Ψ,sp ds Q Ψ->nN Ψ C eA cW bJ cD ↥Q (aM ["sides", "some", "ups", "three", "told", "x", "y", "below"] ds)):DefX P w K mg base 5 "floor_by" ["sides", "some"] (lowX K sp):=by
 have sc:FnScope ["sides", "some", "ups", "three", "told", "x", "y", "below"] ["sides", "some"] (aI (top 14)):=by norm_cast
 refine m.okX (k:=4) (t:=λΨ=>nN Ψ C eA cW bJ cD) sc (λf cdv A outer s H E F Ψ hr hE=>?_) len hsp
 ·
  have hS:∀H2,aO H H2->aO H H2:=λ_ z=>z;have hu1:=f6 hr;exact(uU (QS.x (iB (i:=2) sc.nd rfl (.inr rfl) zH))
 (uU (QS.x (dF zr rfl (gF (a7 1 (pv 1))) (eX (i:=3) (k:=8) sc.nd rfl (.inl rfl)) (aH (B6 hu1 (i:=2) (pv 2) (a7 3 (pv 3)) n4))))
 (uU (Jq hS hE gQ sX (hr.mono ∅) (aD (a7 0 (pv 0)) (aD (a7 2 (pv 2)) aE)))
 (QSs.x (Po 2 (aG (iB (i:=4) sc.nd rfl (.inl rfl) (iG aE))
 (aG (dF zr rfl (gF (mF cl p7 lE (hr.mono ∅) (a7 0 (pv 0)))) (Cz (k:=8) (is:=[5,6]) rfl (dA (dW (i:=5) sc.nd rfl (.inr rfl)) (dA (dW (i:=6) sc.nd rfl (.inr rfl)) mJ))) (aG (zG (Dr (iy:=7) ["z"] ["sides", "ups", "x", "y"] [0,2,5,6] sc.nd rfl (.inl rfl) rfl (cS rfl aS (aD (mF cl iL g7 (hr.mono ∅) (a7 0 (pv 0))) aE)) (λfp s H=>(eX (i:=0) (k:=1) (show lr (["z", "sides", "ups", "x", "y"]:List bv) by decide +kernel) rfl (.inl rfl))) (λfp s H=>(rM (iA (bH qS Bm (hr.mono ∅) (aD (a7 1 (pv 1)) (aD (a7 2 (pv 2)) (aD (a7 0 (pv 0)) (aD (a7 3 (pv 3)) (aD (a7 4 (pv 4)) aE))))))))) (λfp s H=>(a7 0 (pv 0)))))
 (aH (rO (i:=4) (pv 4) (h7 (aD (a7 5 (pv 5)) (aD (a7 6 (pv 6)) (aD (jZ oH rfl eE yt (aD (a7 7 (pv 7)) aE)) aE))))))))
 (aH (bX (a7 4 (pv 4)))))))))))
abbrev kT:cE:=
 (aV (jI (bI (aR zO (a8 1) (fD d5 (a9 (a8 0) aF)))) (cM (aR cR (a8 0) (a8 1))) cB)
 (cM (eC (.int 5))))
theorem wH(P:az)(w:bw)(mg:bv->Option af)(base:dk)(m:At K mg "_law_cell_at" "_law_cell_at" (top 30) ["_law_script", "_law_k"])(bA:mg "len" = au)(len:∀ds Q,sp ds Q->ds.length=2)(hsp:∀ds Q,sp ds Q->kT  ↥Q (aM ["_law_script", "_law_k"] ds)):Def P w K mg base 1 "_law_cell_at" ["_law_script", "_law_k"] (low K sp):=by
 have sc:FnScope ["_law_script", "_law_k"] ["_law_script", "_law_k"] (aI (top 30)):=by norm_cast
 refine m.okP (k:=0) (t:=kT ) sc (λf cdv A outer s H E hr=>?_) len hsp
 ·
  have hu1:=f6 hr;exact(aG (fN (c8 nV (a7 1 (pv 1)) (aX bZ rfl bA fv (aD (a7 0 (pv 0)) aE))) (aH (bX (c9 hu1 (a7 0 (pv 0)) (a7 1 (pv 1))))) bY)
 (aH (bX aN)))
abbrev pU(bD:Fn):cE:=
 (aV (jI (xA (bI (aR sI (a8 1) (eC (.int 0)))) (bI (aR sI (aR hW (aR hW (aR gK (b8 bD (a9 (a8 0) (a9 (eC (.int 0)) aF))) (eC (.int 48271))) (eC (.int 2147483647))) (eC (.int 4))) (eC (.int 1))))) (cM (eC (.int 12))) cB)
 (cM (a8 2)))
theorem CA(P:az)(w:bw)(mg:bv->Option af)(base:dk)(m:At K mg "_law_most" "_law_most" (top 33) ["_law_script", "_law_k", "_law_usual"])(dG:Def P w K mg base 1 "_law_cell_at" ["_law_script", "_law_k"] (low K bD))(fR:MonoF bD)(len:∀ds Q,sp ds Q->ds.length=3)(hsp:∀ds Q,sp ds Q->pU bD ↥Q (aM ["_law_script", "_law_k", "_law_usual"] ds)):Def P w K mg base 2 "_law_most" ["_law_script", "_law_k", "_law_usual"] (low K sp):=by
 have sc:FnScope ["_law_script", "_law_k", "_law_usual"] ["_law_script", "_law_k", "_law_usual"] (aI (top 33)):=by norm_cast
 refine m.okP (k:=1) (t:=pU bD) sc (λf cdv A outer s H E hr=>?_) len hsp
 ·
  have hu:=hr.units;exact(aG (fN (QW.qt (vH (c8 (gG hu) (a7 1 (pv 1)) aN) (uF (c8 (gG hu) (bP dX (bP dX (bP dL (bH dG fR (hr.mono ∅) (aD (a7 0 (pv 0)) (aD aN aE))) aN) aN) aN) aN)))) (aH (bX aN)) bY)
 (aH (bX (a7 2 (pv 2)))))
abbrev iW:cE:=
 (aV (cA 6 (aR lC (aR lC (a8 1) (fD d5 (a9 (a8 4) aF))) (aR lC (aR lC (a8 2) (a8 5)) (eC (.int 1)))))
 (aV (cA 7 (aR dD (eC (.int 1)) (aR hW (aR hW (aR gK (aR hW (aR gK (aR dD (a8 0) (aR gK (eC (.int 31)) (a8 5))) (eC (.int 48271))) (eC (.int 2147483647))) (aR dD (aR gK (a8 5) (a8 5)) (eC (.int 17)))) (eC (.int 99991))) (fD vO (a9 (a8 6) (a9 (eC (.int 3)) aF))))))
 (aV (jI (bI (aR EI (a8 3) (eC (.int 1)))) (aV (cA 7 (aR dD (eC (.int 1)) (aR hW (a8 3) (a8 6))))
 (cA 3 (aR n5 (a8 3) (a8 6)))) cB)
 (cA 4 (aR dD (a8 4) (aR gK (jL (a9 (a8 5) aF)) (a8 7)))))))
abbrev nK:cE:=
 (aV (cA 2 (aR dD (eC (.int 2)) (aR hW (a8 0) (eC (.int 5)))))
 (aV (cA 3 (aR n5 (a8 0) (eC (.int 5))))
 (aV (cA 4 (jL aF))
 (aV (eW (dE (a9 (a8 2) aF)) (gN 5) iW)
 (cM (a8 4))))))
theorem AJ(P:az)(w:bw)(mg:bv->Option af)(base:dk)(m:At K mg "_law_bands" "_law_bands" (top 34) ["_law_cell", "_law_most_here"])(aS:mg "range" = au)(bA:mg "len" = au)(xN:mg "min" = au)(len:∀ds Q,sp ds Q->ds.length=2)(hsp:∀ds Q,sp ds Q->nK  ↥Q (aM ["_law_cell", "_law_most_here", "_law_kinds", "_law_rest", "_law_bands_here", "_law_k", "_law_spare", "_law_count"] ds)):Def P w K mg base 1 "_law_bands" ["_law_cell", "_law_most_here"] (low K sp):=by
 have sc:FnScope ["_law_cell", "_law_most_here", "_law_kinds", "_law_rest", "_law_bands_here", "_law_k", "_law_spare", "_law_count"] ["_law_cell", "_law_most_here"] (aI (top 34)):=by norm_cast
 refine m.okP (k:=0) (t:=nK ) sc (λf cdv A outer s H E hr=>?_) len hsp
 ·
  exact(aG (cL (i:=2) sc.nd rfl (.inl rfl) (bP bU aN (bP dX (a7 0 (pv 0)) aN)))
 (aG (cL (i:=3) sc.nd rfl (.inl rfl) (bP kJ (a7 0 (pv 0)) aN))
 (aG (cL (i:=4) sc.nd rfl (.inl rfl) (iG aE))
 (aG (dF cp rfl (cS rfl aS (aD (a7 2 (pv 2)) aE)) (eX (i:=5) (k:=8) sc.nd rfl (.inl rfl)) (aG (cL (i:=6) sc.nd rfl (.inl rfl) (bP kI (bP kI (a7 1 (pv 1)) (aX bZ rfl bA fv (aD (a7 4 (pv 4)) aE))) (bP kI (bP kI (a7 2 (pv 2)) (a7 5 (pv 5))) aN)))
 (aG (cL (i:=7) sc.nd rfl (.inl rfl) (bP bU aN (bP dX (bP dX (bP dL (bP dX (bP dL (bP bU (a7 0 (pv 0)) (bP dL aN (a7 5 (pv 5)))) aN) aN) (bP bU (bP dL (a7 5 (pv 5)) (a7 5 (pv 5))) aN)) aN) (aX (Er rfl) rfl xN boot_min (aD (a7 6 (pv 6)) (aD aN aE))))))
 (aG (fN (c8 kW (a7 3 (pv 3)) aN) (aG (cL (i:=7) sc.nd rfl (.inl rfl) (bP bU aN (bP dX (a7 3 (pv 3)) (a7 6 (pv 6)))))
 (aH (cL (i:=3) sc.nd rfl (.inl rfl) (bP kJ (a7 3 (pv 3)) (a7 6 (pv 6)))))) bY)
 (aH (cL (i:=4) sc.nd rfl (.inl rfl) (bP bU (a7 4 (pv 4)) (bP dL (iG (aD (a7 5 (pv 5)) aE)) (a7 7 (pv 7))))))))))
 (aH (bX (a7 4 (pv 4))))))))
abbrev pT:cE:=
 (cM (aR hW (aR hW (aR gK (aR hW (aR gK (aR dD (a8 0) (aR gK (eC (.int 31)) (a8 1))) (eC (.int 48271))) (eC (.int 2147483647))) (aR dD (aR gK (a8 1) (a8 1)) (eC (.int 17)))) (eC (.int 99991))) (a8 2)))
theorem C9(P:az)(w:bw)(mg:bv->Option af)(base:dk)(m:At K mg "_law_pick" "_law_pick" (top 35) ["_law_cell", "_law_step", "_law_many_here"])(len:∀ds Q,sp ds Q->ds.length=3)(hsp:∀ds Q,sp ds Q->pT  ↥Q (aM ["_law_cell", "_law_step", "_law_many_here"] ds)):Def P w K mg base 1 "_law_pick" ["_law_cell", "_law_step", "_law_many_here"] (low K sp):=by
 have sc:FnScope ["_law_cell", "_law_step", "_law_many_here"] ["_law_cell", "_law_step", "_law_many_here"] (aI (top 35)):=by norm_cast
 refine m.okP (k:=0) (t:=pT ) sc (λf cdv A outer s H E hr=>?_) len hsp
 ·
  exact(aH (bX (bP dX (bP dX (bP dL (bP dX (bP dL (bP bU (a7 0 (pv 0)) (bP dL aN (a7 1 (pv 1)))) aN) aN) (bP bU (bP dL (a7 1 (pv 1)) (a7 1 (pv 1))) aN)) aN) (a7 2 (pv 2)))))
abbrev jB:cE:=
 (cM (aR dD (aR dD (GA (a8 0) g9 (lG (a8 1))) (jL (a9 (aR cR (a8 0) (aR dD (a8 1) (eC (.int 1)))) (a9 (aR cR (a8 0) (a8 1)) aF)))) (GA (a8 0) (lG (aR dD (a8 1) (eC (.int 2)))) g9)))
theorem tB(P:az)(w:bw)(mg:bv->Option af)(base:dk)(m:At K mg "_law_exchanged" "_law_exchanged" (top 36) ["_law_path", "_law_p"])(len:∀ds Q,sp ds Q->ds.length=2)(hsp:∀ds Q,sp ds Q->jB  ↥Q (aM ["_law_path", "_law_p"] ds)):Def P w K mg base 1 "_law_exchanged" ["_law_path", "_law_p"] (low K sp):=by
 have sc:FnScope ["_law_path", "_law_p"] ["_law_path", "_law_p"] (aI (top 36)):=by norm_cast
 refine m.okP (k:=0) (t:=jB ) sc (λf cdv A outer s H E hr=>?_) len hsp
 ·
  have hu1:=f6 hr;exact(aH (bX (bP bU (bP bU (mE (a7 0 (pv 0)) mD (mC (a7 1 (pv 1)))) (iG (aD (c9 hu1 (a7 0 (pv 0)) (bP bU (a7 1 (pv 1)) aN)) (aD (c9 hu1 (a7 0 (pv 0)) (a7 1 (pv 1))) aE)))) (mE (a7 0 (pv 0)) (mC (bP bU (a7 1 (pv 1)) aN)) mD))))
abbrev kP(fV aK:Fn):cE:=
 (aV (cA 6 (aR lC (fD d5 (a9 (a8 2) aF)) (eC (.int 1))))
 (aV (cA 7 (gD 1 [0,2] (dE (a9 (a8 6) aF)) (gN 0) (bI (aR zO (aR cR (a8 1) (aR cR (a8 2) (a8 0))) (aR cR (a8 1) (aR cR (a8 2) (aR dD (a8 0) (eC (.int 1))))))) (a8 0)))
 (aV (jI (bI (aR sI (a8 7) (jL aF))) (cM (a8 3)) cB)
 (aV (cA 8 (b8 fV (a9 (a8 1) (a9 (a8 5) (a9 (fD d5 (a9 (a8 7) aF)) aF)))))
 (aV (jI (bI (aR EI (a8 4) (eC (.int 1)))) (aV (cA 8 (aR hW (a8 4) (fD d5 (a9 (a8 7) aF))))
 (cA 4 (aR n5 (a8 4) (fD d5 (a9 (a8 7) aF))))) cB)
 (aV (nR 3 (aR cR (a8 7) (a8 8)))
 (cA 2 (b8 aK (a9 (a8 2) (a9 (aR cR (a8 7) (a8 8)) aF))))))))))
abbrev sK(fV aK:Fn):cE:=
 (aV (cA 2 (GB (a9 (fD d5 (a9 (a8 0) aF)) aF)))
 (aV (j5 3 (jL aF))
 (aV (cA 4 (a8 1))
 (aV (eW (dE (a9 (aR gK (fD d5 (a9 (a8 0) aF)) (fD d5 (a9 (a8 0) aF))) aF)) (gN 5) (kP fV aK))
 (cM (a8 3))))))
theorem DW(P:az)(w:bw)(mg:bv->Option af)(base:dk){fV:Fn}(m:At K mg "_law_row" "_law_row" (top 37) ["_law_bands_here", "_law_cell"])(bA:mg "len" = au)(fQ:mg "list" = au)(aS:mg "range" = au)(qN:Def P w K mg base 1 "_law_pick" ["_law_cell", "_law_step", "_law_many_here"] (low K fV))(Bh:MonoF fV)(cH:Def P w K mg base 1 "_law_exchanged" ["_law_path", "_law_p"] (low K aK))(eI:MonoF aK)(len:∀ds Q,sp ds Q->ds.length=2)(hsp:∀ds Q,sp ds Q->sK fV aK ↥Q (aM ["_law_bands_here", "_law_cell", "_law_path", "_law_row_here", "_law_rest", "_law_step", "_law_last", "_law_spots", "_law_pick_here"] ds)):Def P w K mg base 2 "_law_row" ["_law_bands_here", "_law_cell"] (low K sp):=by
 have sc:FnScope ["_law_bands_here", "_law_cell", "_law_path", "_law_row_here", "_law_rest", "_law_step", "_law_last", "_law_spots", "_law_pick_here"] ["_law_bands_here", "_law_cell"] (aI (top 37)):=by norm_cast
 refine m.okP (k:=1) (t:=sK fV aK) sc (λf cdv A outer s H E hr=>?_) len hsp
 ·
  have hu:=hr.units;have hu1:=f6 hr;exact(aG (cL (i:=2) sc.nd rfl (.inr rfl) (mG rfl rfl fQ rfl aS (aD (aX bZ rfl bA fv (aD (a7 0 (pv 0)) aE)) aE)))
 (aG (iB (i:=3) sc.nd rfl (.inl rfl) (iG aE))
 (aG (cL (i:=4) sc.nd rfl (.inl rfl) (a7 1 (pv 1)))
 (aG (dF cp rfl (cS rfl aS (aD (bP dL (aX bZ rfl bA fv (aD (a7 0 (pv 0)) aE)) (aX bZ rfl bA fv (aD (a7 0 (pv 0)) aE))) aE)) (eX (i:=5) (k:=9) sc.nd rfl (.inl rfl)) (aG (cL (i:=6) sc.nd rfl (.inl rfl) (bP kI (aX bZ rfl bA fv (aD (a7 2 (pv 2)) aE)) aN))
 (aG (zG (Dr (iy:=7) ["_law_p"] ["_law_bands_here", "_law_path"] [0,2] sc.nd rfl (.inl rfl) rfl (cS rfl aS (aD (a7 6 (pv 6)) aE)) (λfp s H=>(eX (i:=0) (k:=1) (show lr (["_law_p", "_law_bands_here", "_law_path"]:List bv) by decide +kernel) rfl (.inl rfl))) (λfp s H=>(rM (c8 nV (c9 hu1 (a7 1 (pv 1)) (c9 hu1 (a7 2 (pv 2)) (a7 0 (pv 0)))) (c9 hu1 (a7 1 (pv 1)) (c9 hu1 (a7 2 (pv 2)) (bP bU (a7 0 (pv 0)) aN)))))) (λfp s H=>(a7 0 (pv 0)))))
 (aG (fN (c8 (gG hu) (a7 7 (pv 7)) (iG aE)) (aH (bX (a7 3 (pv 3)))) bY)
 (aG (cL (i:=8) sc.nd rfl (.inl rfl) (bH qN Bh (hr.mono ∅) (aD (a7 1 (pv 1)) (aD (a7 5 (pv 5)) (aD (aX bZ rfl bA fv (aD (a7 7 (pv 7)) aE)) aE)))))
 (aG (fN (c8 kW (a7 4 (pv 4)) aN) (aG (cL (i:=8) sc.nd rfl (.inl rfl) (bP dX (a7 4 (pv 4)) (aX bZ rfl bA fv (aD (a7 7 (pv 7)) aE))))
 (aH (cL (i:=4) sc.nd rfl (.inl rfl) (bP kJ (a7 4 (pv 4)) (aX bZ rfl bA fv (aD (a7 7 (pv 7)) aE)))))) bY)
 (aG (rO (i:=3) (pv 3) (c9 hu1 (a7 7 (pv 7)) (a7 8 (pv 8))))
 (aH (cL (i:=2) sc.nd rfl (.inr rfl) (bH cH eI (hr.mono ∅) (aD (a7 2 (pv 2)) (aD (c9 hu1 (a7 7 (pv 7)) (a7 8 (pv 8))) aE))))))))))))
 (aH (bX (a7 3 (pv 3))))))))
abbrev iV(aK:Fn):cE:=
 (aV (nR 3 (gH (a9 (aR cR (a8 2) (a8 4)) (a9 (aR cR (a8 2) (aR dD (a8 4) (eC (.int 1)))) (a9 (fD k4 (a9 (fD iQ (a9 (GA (a8 2) g9 (lG (a8 4))) aF)) aF)) aF)))))
 (cA 2 (b8 aK (a9 (a8 2) (a9 (a8 4) aF)))))
abbrev nJ(aK:Fn):cE:=
 (aV (cA 2 (GB (a9 (fD d5 (a9 (a8 0) aF)) aF)))
 (aV (j5 3 (jL aF))
 (aV (eW (kC (a8 1)) (gN 4) (iV aK))
 (cM (fD iQ (a9 (a8 3) aF))))))
theorem AI(P:az)(w:bw)(mg:bv->Option af)(base:dk)(m:At K mg "_law_floor" "_law_floor" (top 38) ["_law_bands_here", "_law_row_here"])(bA:mg "len" = au)(fQ:mg "list" = au)(aS:mg "range" = au)(fP:mg "sorted" = au)(eE:mg "tuple" = au)(cH:Def P w K mg base 1 "_law_exchanged" ["_law_path", "_law_p"] (low K aK))(eI:MonoF aK)(len:∀ds Q,sp ds Q->ds.length=2)(hsp:∀ds Q,sp ds Q->nJ aK ↥Q (aM ["_law_bands_here", "_law_row_here", "_law_path", "_law_tiles", "_law_p"] ds)):Def P w K mg base 2 "_law_floor" ["_law_bands_here", "_law_row_here"] (low K sp):=by
 have sc:FnScope ["_law_bands_here", "_law_row_here", "_law_path", "_law_tiles", "_law_p"] ["_law_bands_here", "_law_row_here"] (aI (top 38)):=by norm_cast
 refine m.okP (k:=1) (t:=nJ aK) sc (λf cdv A outer s H E hr=>?_) len hsp
 ·
  have hu1:=f6 hr;exact(aG (cL (i:=2) sc.nd rfl (.inl rfl) (mG rfl rfl fQ rfl aS (aD (aX bZ rfl bA fv (aD (a7 0 (pv 0)) aE)) aE)))
 (aG (iB (i:=3) sc.nd rfl (.inl rfl) (iG aE))
 (aG (dF cp rfl (gF (a7 1 (pv 1))) (eX (i:=4) (k:=5) sc.nd rfl (.inl rfl)) (aG (rO (i:=3) (pv 3) (h7 (aD (c9 hu1 (a7 2 (pv 2)) (a7 4 (pv 4))) (aD (c9 hu1 (a7 2 (pv 2)) (bP bU (a7 4 (pv 4)) aN)) (aD (jZ oH rfl eE yt (aD (aX p8 rfl fP zu (aD (mE (a7 2 (pv 2)) mD (mC (a7 4 (pv 4)))) aE)) aE)) aE)))))
 (aH (cL (i:=2) sc.nd rfl (.inl rfl) (bH cH eI (hr.mono ∅) (aD (a7 2 (pv 2)) (aD (a7 4 (pv 4)) aE)))))))
 (aH (bX (aX p8 rfl fP zu (aD (a7 3 (pv 3)) aE)))))))
abbrev pV:cE:=
 (cM (fD d5 (a9 (gD 1 [1] (kC (a8 0)) (gN 0) (bI (aR sI (a8 0) (a8 1))) (a8 0)) aF)))
theorem CB(P:az)(w:bw)(mg:bv->Option af)(base:dk)(m:At K mg "_law_many" "_law_many" (top 39) ["_law_bands_here", "_law_kind"])(bA:mg "len" = au)(len:∀ds Q,sp ds Q->ds.length=2)(hsp:∀ds Q,sp ds Q->pV  ↥Q (aM ["_law_bands_here", "_law_kind"] ds)):Def P w K mg base 1 "_law_many" ["_law_bands_here", "_law_kind"] (low K sp):=by
 have sc:FnScope ["_law_bands_here", "_law_kind"] ["_law_bands_here", "_law_kind"] (aI (top 39)):=by norm_cast
 refine m.okP (k:=0) (t:=pV ) sc (λf cdv A outer s H E hr=>?_) len hsp
 ·
  have hu:=hr.units;exact(aH (bX (aX bZ rfl bA fv (aD (Cy ["_law_band"] ["_law_kind"] [1] rfl (gF (a7 0 (pv 0))) (λfp s H=>(eX (i:=0) (k:=1) (show lr (["_law_band", "_law_kind"]:List bv) by decide +kernel) rfl (.inl rfl))) (λfp s H=>(rM (c8 (gG hu) (a7 0 (pv 0)) (a7 1 (pv 1))))) (λfp s H=>(a7 0 (pv 0)))) aE))))
abbrev nG(iM p9:Fn):cE:=
 (cM (Ek p9 (a9 (gD 1 [0] (dE (a9 (aR dD (aR cR (a8 0) (Lf (eC (.int 1)))) (eC (.int 1))) aF)) (gN 0) jH (gH (a9 (aR lC (eC (.int 6)) (aR gK (eC (.int 2)) (a8 0))) (a9 (eC (.int 1)) (a9 (b8 iM (a9 (a8 1) (a9 (a8 0) aF))) aF))))) aF)))
theorem AG(P:az)(w:bw)(mg:bv->Option af)(base:dk){iM p9:Fn}(m:At K mg "_law_sides" "_law_sides" (top 40) ["_law_bands_here"])(aS:mg "range" = au)(qP:Def P w K mg base 1 "_law_many" ["_law_bands_here", "_law_kind"] (low K iM))(Bj:MonoF iM)(AN:IDef P w K mg base 5 "Sides" C ["self", "directions"] p9)(IP:MonoF p9)(len:∀ds Q,sp ds Q->ds.length=1)(hsp:∀ds Q,sp ds Q->nG iM p9 ↥Q (aM ["_law_bands_here"] ds)):Def P w K mg base 7 "_law_sides" ["_law_bands_here"] (low K sp):=by
 have sc:FnScope ["_law_bands_here"] ["_law_bands_here"] (aI (top 40)):=by norm_cast
 refine m.okP (k:=6) (t:=nG iM p9) sc (λf cdv A outer s H E hr=>?_) len hsp
 ·
  have hu1:=f6 hr;exact(aH (bX (NF AN IP (hr.mono ∅) (aD (Cy ["_law_k"] ["_law_bands_here"] [0] rfl (cS rfl aS (aD (bP bU (c9 hu1 (a7 0 (pv 0)) (Pn aN)) aN) aE)) (λfp s H=>(eX (i:=0) (k:=1) (show lr (["_law_k", "_law_bands_here"]:List bv) by decide +kernel) rfl (.inl rfl))) (λfp s H=>oU) (λfp s H=>(h7 (aD (bP kI aN (bP dL aN (a7 0 (pv 0)))) (aD aN (aD (bH qP Bj (hr.mono ∅) (aD (a7 1 (pv 1)) (aD (a7 0 (pv 0)) aE))) aE)))))) aE))))
abbrev oJ:cE:=
 (aV (cA 3 (aR n5 (a8 2) (aR gK (fD d5 (a9 (a8 0) aF)) (fD d5 (a9 (a8 0) aF)))))
 (aV (cA 4 (aR hW (aR n5 (a8 2) (fD d5 (a9 (a8 0) aF))) (fD d5 (a9 (a8 0) aF))))
 (aV (cA 5 (aR hW (a8 2) (fD d5 (a9 (a8 0) aF))))
 (jI (xA (bI (mQ zO zO (a8 3) (a8 4) (a8 5))) (xA (bI (aR zO (aR cR (a8 0) (a8 3)) (aR cR (a8 0) (a8 4)))) (bI (aR zO (aR cR (a8 0) (a8 4)) (aR cR (a8 0) (a8 5)))))) (nR 1 (gH (a9 (a8 3) (a9 (a8 4) (a9 (a8 5) aF))))) cB))))
abbrev lT:cE:=
 (aV (j5 1 (jL aF))
 (aV (eW (dE (a9 (aR gK (aR gK (fD d5 (a9 (a8 0) aF)) (fD d5 (a9 (a8 0) aF))) (fD d5 (a9 (a8 0) aF))) aF)) (gN 2) oJ)
 (cM (a8 1))))
theorem xB(P:az)(w:bw)(mg:bv->Option af)(base:dk)(m:At K mg "_law_threes" "_law_threes" (top 41) ["_law_bands_here"])(bA:mg "len" = au)(aS:mg "range" = au)(len:∀ds Q,sp ds Q->ds.length=1)(hsp:∀ds Q,sp ds Q->lT  ↥Q (aM ["_law_bands_here", "_law_found", "_law_k", "_law_a", "_law_b", "_law_c"] ds)):Def P w K mg base 1 "_law_threes" ["_law_bands_here"] (low K sp):=by
 have sc:FnScope ["_law_bands_here", "_law_found", "_law_k", "_law_a", "_law_b", "_law_c"] ["_law_bands_here"] (aI (top 41)):=by norm_cast
 refine m.okP (k:=0) (t:=lT ) sc (λf cdv A outer s H E hr=>?_) len hsp
 ·
  have hu1:=f6 hr;exact(aG (iB (i:=1) sc.nd rfl (.inl rfl) (iG aE))
 (aG (dF cp rfl (cS rfl aS (aD (bP dL (bP dL (aX bZ rfl bA fv (aD (a7 0 (pv 0)) aE)) (aX bZ rfl bA fv (aD (a7 0 (pv 0)) aE))) (aX bZ rfl bA fv (aD (a7 0 (pv 0)) aE))) aE)) (eX (i:=2) (k:=6) sc.nd rfl (.inl rfl)) (aG (cL (i:=3) sc.nd rfl (.inl rfl) (bP kJ (a7 2 (pv 2)) (bP dL (aX bZ rfl bA fv (aD (a7 0 (pv 0)) aE)) (aX bZ rfl bA fv (aD (a7 0 (pv 0)) aE)))))
 (aG (cL (i:=4) sc.nd rfl (.inl rfl) (bP dX (bP kJ (a7 2 (pv 2)) (aX bZ rfl bA fv (aD (a7 0 (pv 0)) aE))) (aX bZ rfl bA fv (aD (a7 0 (pv 0)) aE))))
 (aG (cL (i:=5) sc.nd rfl (.inl rfl) (bP dX (a7 2 (pv 2)) (aX bZ rfl bA fv (aD (a7 0 (pv 0)) aE))))
 (aH (fN (QW.qt (vH (B5 BZ BZ (a7 3 (pv 3)) (a7 4 (pv 4)) (a7 5 (pv 5))) (vH (c8 nV (c9 hu1 (a7 0 (pv 0)) (a7 3 (pv 3))) (c9 hu1 (a7 0 (pv 0)) (a7 4 (pv 4)))) (uF (c8 nV (c9 hu1 (a7 0 (pv 0)) (a7 4 (pv 4))) (c9 hu1 (a7 0 (pv 0)) (a7 5 (pv 5)))))))) (aH (rO (i:=1) (pv 1) (h7 (aD (a7 3 (pv 3)) (aD (a7 4 (pv 4)) (aD (a7 5 (pv 5)) aE)))))) bY))))))
 (aH (bX (a7 1 (pv 1))))))
abbrev k9:cE:=
 (wU 1 (gH (a9 (a8 2) (a9 (a8 3) aF))) (a8 4))
abbrev lV:cE:=
 (aV (j5 1 Oq)
 (aV (eW (kC (a8 0)) (gT [2,3,4]) k9)
 (cM (a8 1))))
theorem xD(P:az)(w:bw)(mg:bv->Option af)(base:dk)(m:At K mg "_law_belows" "_law_belows" (top 42) ["_law_tiles"])(len:∀ds Q,sp ds Q->ds.length=1)(hsp:∀ds Q,sp ds Q->lV  ↥Q (aM ["_law_tiles", "_law_belows_here", "_law_a", "_law_b", "_law_below"] ds)):Def P w K mg base 1 "_law_belows" ["_law_tiles"] (low K sp):=by
 have sc:FnScope ["_law_tiles", "_law_belows_here", "_law_a", "_law_b", "_law_below"] ["_law_tiles"] (aI (top 42)):=by norm_cast
 refine m.okP (k:=0) (t:=lV ) sc (λf cdv A outer s H E hr=>?_) len hsp
 ·
  have hu1:=f6 hr;exact(aG (iB (i:=1) sc.nd rfl (.inl rfl) zH)
 (aG (dF cp rfl (gF (a7 0 (pv 0))) (Cz (k:=5) (is:=[2,3,4]) rfl (dA (dW (i:=2) sc.nd rfl (.inl rfl)) (dA (dW (i:=3) sc.nd rfl (.inl rfl)) (dA (dW (i:=4) sc.nd rfl (.inl rfl)) mJ)))) (aH (B6 hu1 (i:=1) (pv 1) (h7 (aD (a7 2 (pv 2)) (aD (a7 3 (pv 3)) aE))) (a7 4 (pv 4)))))
 (aH (bX (a7 1 (pv 1))))))
abbrev v6(gC bC:Fn):cE:=
 (aV (cA 2 (b8 gC (a9 (a8 1) aF)))
 (cM (gD 1 [2] (kC (b8 bC (a9 (a8 0) aF))) (gN 0) (bI (aR Om (aR cR (a8 0) (eC (.int 1))) (aR cR (a8 1) (gH (a9 (aR cR (a8 0) (eC (.int 0))) (a9 (aR cR (a8 0) (eC (.int 2))) aF)))))) (a8 0))))
theorem GD(P:az)(w:bw)(mg:bv->Option af)(base:dk){gC:Fn}(m:At K mg "_law_up" "_law_up" (top 43) ["_law_bands_here", "_law_tiles"])(mR:Def P w K mg base 1 "_law_belows" ["_law_tiles"] (low K gC))(wY:MonoF gC)(gA:Def P w K mg base 1 "_law_threes" ["_law_bands_here"] (low K bC))(kX:MonoF bC)(len:∀ds Q,sp ds Q->ds.length=2)(hsp:∀ds Q,sp ds Q->v6 gC bC ↥Q (aM ["_law_bands_here", "_law_tiles", "_law_belows_here"] ds)):Def P w K mg base 2 "_law_up" ["_law_bands_here", "_law_tiles"] (low K sp):=by
 have sc:FnScope ["_law_bands_here", "_law_tiles", "_law_belows_here"] ["_law_bands_here", "_law_tiles"] (aI (top 43)):=by norm_cast
 refine m.okP (k:=1) (t:=v6 gC bC) sc (λf cdv A outer s H E hr=>?_) len hsp
 ·
  have hu1:=f6 hr;have hu65:=Dh hr;exact(aG (cL (i:=2) sc.nd rfl (.inr rfl) (bH mR wY (hr.mono ∅) (aD (a7 1 (pv 1)) aE)))
 (aH (bX (Cy ["_law_three"] ["_law_belows_here"] [2] rfl (gF (bH gA kX (hr.mono ∅) (aD (a7 0 (pv 0)) aE))) (λfp s H=>(eX (i:=0) (k:=1) (show lr (["_law_three", "_law_belows_here"]:List bv) by decide +kernel) rfl (.inl rfl))) (λfp s H=>(rM (c8 (Nh hu65 hu1) (c9 hu1 (a7 0 (pv 0)) aN) (c9 hu1 (a7 1 (pv 1)) (h7 (aD (c9 hu1 (a7 0 (pv 0)) aN) (aD (c9 hu1 (a7 0 (pv 0)) aN) aE))))))) (λfp s H=>(a7 0 (pv 0)))))))
abbrev mW(bC dS cQ cG:Fn):cE:=
 (jI (bI (aR sI (aR hW (aR rW (aR rW (a8 1) (eC (.int 3))) (aR He (eC (.int 1)) (a8 5))) (eC (.int 2))) (eC (.int 1)))) (wU 4 (aR cR (a8 3) (a8 5)) (eC (.bl ai))) cB)
abbrev mV(bC dS cQ cG:Fn):cE:=
 (wU 4 (a8 6) (eC (.bl ai)))
abbrev mU(bC dS cQ cG:Fn):cE:=
 (jI (bI (aR EI (fD d5 (a9 (a8 3) aF)) (eC (.int 0)))) (aV (cA 6 (aR cR (a8 3) (aR hW (a8 7) (fD d5 (a9 (a8 3) aF)))))
 (aV (jI (bI (aR FU (a8 6) (a8 4))) (Ax 4 (a8 6)) (wU 4 (a8 6) (eC (.bl ai))))
 (cA 7 (aR n5 (a8 7) (fD d5 (a9 (a8 3) aF)))))) cB)
abbrev pS(bC dS cQ cG:Fn):cE:=
 (aV (cA 3 (b8 bC (a9 (a8 0) aF)))
 (aV (j5 4 Oq)
 (aV (jI (bI (aR sI (aR hW (a8 1) (eC (.int 3))) (eC (.int 0)))) (aV (eW (dE (a9 (fD d5 (a9 (a8 3) aF)) aF)) (gN 5) (mW bC dS cQ cG))
 (cM (a8 4))) cB)
 (aV (eW (kC (b8 cG (a9 (a8 0) (a9 (b8 cQ (a9 (a8 0) (a9 (b8 dS (a9 (a8 0) (a9 (aR n5 (a8 1) (eC (.int 3))) aF))) aF))) aF)))) (gN 6) (mV bC dS cQ cG))
 (aV (cA 7 (aR n5 (a8 2) (eC (.int 4))))
 (aV (eW (dE (a9 (aR hW (a8 2) (eC (.int 4))) aF)) (gN 5) (mU bC dS cQ cG))
 (cM (a8 4))))))))
theorem C8(P:az)(w:bw)(mg:bv->Option af)(base:dk){dS cQ:Fn}(m:At K mg "_law_some" "_law_some" (top 44) ["_law_bands_here", "_law_cell", "_law_others"])(bA:mg "len" = au)(aS:mg "range" = au)(gA:Def P w K mg base 1 "_law_threes" ["_law_bands_here"] (low K bC))(kX:MonoF bC)(tE:Def P w K mg base 2 "_law_row" ["_law_bands_here", "_law_cell"] (low K dS))(DE:MonoF dS)(oE:Def P w K mg base 2 "_law_floor" ["_law_bands_here", "_law_row_here"] (low K cQ))(zV:MonoF cQ)(lH:Def P w K mg base 2 "_law_up" ["_law_bands_here", "_law_tiles"] (low K cG))(sV:MonoF cG)(len:∀ds Q,sp ds Q->ds.length=3)(hsp:∀ds Q,sp ds Q->pS bC dS cQ cG ↥Q (aM ["_law_bands_here", "_law_cell", "_law_others", "_law_every", "_law_marks", "_law_k", "_law_three", "_law_rest"] ds)):Def P w K mg base 3 "_law_some" ["_law_bands_here", "_law_cell", "_law_others"] (low K sp):=by
 have sc:FnScope ["_law_bands_here", "_law_cell", "_law_others", "_law_every", "_law_marks", "_law_k", "_law_three", "_law_rest"] ["_law_bands_here", "_law_cell", "_law_others"] (aI (top 44)):=by norm_cast
 refine m.okP (k:=2) (t:=pS bC dS cQ cG) sc (λf cdv A outer s H E hr=>?_) len hsp
 ·
  have hu:=hr.units;have hu1:=f6 hr;exact(aG (cL (i:=3) sc.nd rfl (.inl rfl) (bH gA kX (hr.mono ∅) (aD (a7 0 (pv 0)) aE)))
 (aG (iB (i:=4) sc.nd rfl (.inl rfl) zH)
 (aG (fN (c8 (gG hu) (bP dX (a7 1 (pv 1)) aN) aN) (aG (dF cp rfl (cS rfl aS (aD (aX bZ rfl bA fv (aD (a7 3 (pv 3)) aE)) aE)) (eX (i:=5) (k:=8) sc.nd rfl (.inl rfl)) (aH (fN (c8 (gG hu) (bP dX (bP BY (bP BY (a7 1 (pv 1)) aN) (bP Ko aN (a7 5 (pv 5)))) aN) aN) (aH (B6 hu1 (i:=4) (pv 4) (c9 hu1 (a7 3 (pv 3)) (a7 5 (pv 5))) n4)) bY)))
 (aH (bX (a7 4 (pv 4))))) bY)
 (aG (dF cp rfl (gF (bH lH sV (hr.mono ∅) (aD (a7 0 (pv 0)) (aD (bH oE zV (hr.mono ∅) (aD (a7 0 (pv 0)) (aD (bH tE DE (hr.mono ∅) (aD (a7 0 (pv 0)) (aD (bP kJ (a7 1 (pv 1)) aN) aE))) aE))) aE)))) (eX (i:=6) (k:=8) sc.nd rfl (.inl rfl)) (aH (B6 hu1 (i:=4) (pv 4) (a7 6 (pv 6)) n4)))
 (aG (cL (i:=7) sc.nd rfl (.inl rfl) (bP kJ (a7 2 (pv 2)) aN))
 (aG (dF cp rfl (cS rfl aS (aD (bP dX (a7 2 (pv 2)) aN) aE)) (eX (i:=5) (k:=8) sc.nd rfl (.inl rfl)) (aH (fN (c8 kW (aX bZ rfl bA fv (aD (a7 3 (pv 3)) aE)) aN) (aG (cL (i:=6) sc.nd rfl (.inl rfl) (c9 hu1 (a7 3 (pv 3)) (bP dX (a7 7 (pv 7)) (aX bZ rfl bA fv (aD (a7 3 (pv 3)) aE)))))
 (aG (fN (c8 (zQ hu1) (a7 6 (pv 6)) (a7 4 (pv 4))) (aH (NE (i:=4) hu1 (pv 4) (a7 6 (pv 6)))) (aH (B6 hu1 (i:=4) (pv 4) (a7 6 (pv 6)) n4)))
 (aH (cL (i:=7) sc.nd rfl (.inl rfl) (bP kJ (a7 7 (pv 7)) (aX bZ rfl bA fv (aD (a7 3 (pv 3)) aE))))))) bY)))
 (aH (bX (a7 4 (pv 4))))))))))
abbrev lU:cE:=
 (aV (jI (bI (aR sI (aR cR (a8 0) (a8 2)) (aR cR (a8 0) (a8 3)))) (cM (eC (.bl ao))) cB)
 (aV (jI (bI (aR sI (aR cR (a8 0) (a8 3)) (aR cR (a8 0) (a8 4)))) (cM (eC (.bl ai))) cB)
 (cM (aR FU (gH (a9 (a8 2) (a9 (a8 3) (a9 (a8 4) aF)))) (a8 1)))))
theorem xC(P:az)(w:bw)(mg:bv->Option af)(base:dk)(m:At K mg "_law_counts" "_law_counts" (top 45) ["_law_bands_here", "_law_marks", "_law_a", "_law_b", "_law_c"])(len:∀ds Q,sp ds Q->ds.length=5)(hsp:∀ds Q,sp ds Q->lU  ↥Q (aM ["_law_bands_here", "_law_marks", "_law_a", "_law_b", "_law_c"] ds)):Def P w K mg base 1 "_law_counts" ["_law_bands_here", "_law_marks", "_law_a", "_law_b", "_law_c"] (low K sp):=by
 have sc:FnScope ["_law_bands_here", "_law_marks", "_law_a", "_law_b", "_law_c"] ["_law_bands_here", "_law_marks", "_law_a", "_law_b", "_law_c"] (aI (top 45)):=by norm_cast
 refine m.okP (k:=0) (t:=lU ) sc (λf cdv A outer s H E hr=>?_) len hsp
 ·
  have hu:=hr.units;have hu1:=f6 hr;exact(aG (fN (c8 (gG hu) (c9 hu1 (a7 0 (pv 0)) (a7 2 (pv 2))) (c9 hu1 (a7 0 (pv 0)) (a7 3 (pv 3)))) (aH (bX n4)) bY)
 (aG (fN (c8 (gG hu) (c9 hu1 (a7 0 (pv 0)) (a7 3 (pv 3))) (c9 hu1 (a7 0 (pv 0)) (a7 4 (pv 4)))) (aH (bX n4)) bY)
 (aH (bX (l9 (zQ hu1) (h7 (aD (a7 2 (pv 2)) (aD (a7 3 (pv 3)) (aD (a7 4 (pv 4)) aE)))) (a7 1 (pv 1)))))))
abbrev kA(cN:Fn):cE:=
 (jI (bI (aR xZ (aR cR (a8 6) (a8 8)) (aR cR (a8 6) (aR dD (a8 8) (eC (.int 1)))))) (FE 7 BV (eC (.int 1))) cB)
abbrev lW(cN:Fn):cE:=
 (aV (jI (Le (bI (aR sI (aR cR (a8 0) (a8 2)) (aR cR (a8 0) (a8 4)))) (bI (aR sI (aR cR (a8 0) (a8 3)) (aR cR (a8 0) (a8 5))))) (cM (eC (.bl ao))) cB)
 (aV (cA 6 (jL (a9 (b8 cN (a9 (a8 0) (a9 (a8 1) (a9 (a8 2) (a9 (a8 3) (a9 (a8 4) aF)))))) (a9 (b8 cN (a9 (a8 0) (a9 (a8 1) (a9 (a8 2) (a9 (a8 3) (a9 (a8 5) aF)))))) aF))))
 (aV (cA 6 (aR dD (a8 6) (jL (a9 (b8 cN (a9 (a8 0) (a9 (a8 1) (a9 (a8 2) (a9 (a8 4) (a9 (a8 5) aF)))))) (a9 (b8 cN (a9 (a8 0) (a9 (a8 1) (a9 (a8 3) (a9 (a8 4) (a9 (a8 5) aF)))))) aF)))))
 (aV (cA 7 (eC (.int 0)))
 (aV (eW (dE (a9 (eC (.int 3)) aF)) (gN 8) (kA cN))
 (cM (aR EI (a8 7) (eC (.int 1)))))))))
theorem xE(P:az)(w:bw)(mg:bv->Option af)(base:dk){cN:Fn}(m:At K mg "_law_barred" "_law_barred" (top 46) ["_law_bands_here", "_law_marks", "_law_a", "_law_b", "_law_c", "_law_d"])(aS:mg "range" = au)(gB:Def P w K mg base 1 "_law_counts" ["_law_bands_here", "_law_marks", "_law_a", "_law_b", "_law_c"] (low K cN))(iR:MonoF cN)(len:∀ds Q,sp ds Q->ds.length=6)(hsp:∀ds Q,sp ds Q->lW cN ↥Q (aM ["_law_bands_here", "_law_marks", "_law_a", "_law_b", "_law_c", "_law_d", "_law_row_here", "_law_changes", "_law_k"] ds)):Def P w K mg base 2 "_law_barred" ["_law_bands_here", "_law_marks", "_law_a", "_law_b", "_law_c", "_law_d"] (low K sp):=by
 have sc:FnScope ["_law_bands_here", "_law_marks", "_law_a", "_law_b", "_law_c", "_law_d", "_law_row_here", "_law_changes", "_law_k"] ["_law_bands_here", "_law_marks", "_law_a", "_law_b", "_law_c", "_law_d"] (aI (top 46)):=by norm_cast
 refine m.okP (k:=1) (t:=lW cN) sc (λf cdv A outer s H E hr=>?_) len hsp
 ·
  have hu:=hr.units;have hu1:=f6 hr;exact(aG (fN (QW.qt (Dp (c8 (gG hu) (c9 hu1 (a7 0 (pv 0)) (a7 2 (pv 2))) (c9 hu1 (a7 0 (pv 0)) (a7 4 (pv 4)))) (zF (c8 (gG hu) (c9 hu1 (a7 0 (pv 0)) (a7 3 (pv 3))) (c9 hu1 (a7 0 (pv 0)) (a7 5 (pv 5))))))) (aH (bX n4)) bY)
 (aG (cL (i:=6) sc.nd rfl (.inl rfl) (iG (aD (bH gB iR (hr.mono ∅) (aD (a7 0 (pv 0)) (aD (a7 1 (pv 1)) (aD (a7 2 (pv 2)) (aD (a7 3 (pv 3)) (aD (a7 4 (pv 4)) aE)))))) (aD (bH gB iR (hr.mono ∅) (aD (a7 0 (pv 0)) (aD (a7 1 (pv 1)) (aD (a7 2 (pv 2)) (aD (a7 3 (pv 3)) (aD (a7 5 (pv 5)) aE)))))) aE))))
 (aG (cL (i:=6) sc.nd rfl (.inl rfl) (bP bU (a7 6 (pv 6)) (iG (aD (bH gB iR (hr.mono ∅) (aD (a7 0 (pv 0)) (aD (a7 1 (pv 1)) (aD (a7 2 (pv 2)) (aD (a7 4 (pv 4)) (aD (a7 5 (pv 5)) aE)))))) (aD (bH gB iR (hr.mono ∅) (aD (a7 0 (pv 0)) (aD (a7 1 (pv 1)) (aD (a7 3 (pv 3)) (aD (a7 4 (pv 4)) (aD (a7 5 (pv 5)) aE)))))) aE)))))
 (aG (cL (i:=7) sc.nd rfl (.inl rfl) aN)
 (aG (dF cp rfl (cS rfl aS (aD aN aE)) (eX (i:=8) (k:=9) sc.nd rfl (.inl rfl)) (aH (fN (c8 (qD hu) (c9 hu1 (a7 6 (pv 6)) (a7 8 (pv 8))) (c9 hu1 (a7 6 (pv 6)) (bP bU (a7 8 (pv 8)) aN))) (aH (Pq (i:=7) J6 sc.nd rfl (.inl rfl) aN)) bY)))
 (aH (bX (l9 kW (a7 7 (pv 7)) aN))))))))
abbrev fJ(c6:Fn):cE:=
 (jI (kE (b8 c6 (a9 (a8 0) (a9 (a8 1) (a9 (a8 2) (a9 (a8 3) (a9 (a8 4) (a9 (a8 5) aF)))))))) (cM (eC (.bl ai))) cB)
abbrev fH(c6:Fn):cE:=
 (eW (gP (a9 (aR dD (a8 4) (eC (.int 1))) (a9 (fD d5 (a9 (a8 0) aF)) aF))) (gN 5) (fJ c6))
abbrev fG(c6:Fn):cE:=
 (eW (gP (a9 (aR dD (a8 3) (eC (.int 1))) (a9 (fD d5 (a9 (a8 0) aF)) aF))) (gN 4) (fH c6))
abbrev fF(c6:Fn):cE:=
 (eW (gP (a9 (aR dD (a8 2) (eC (.int 1))) (a9 (fD d5 (a9 (a8 0) aF)) aF))) (gN 3) (fG c6))
abbrev jA(c6:Fn):cE:=
 (aV (eW (dE (a9 (fD d5 (a9 (a8 0) aF)) aF)) (gN 2) (fF c6))
 (cM (eC (.bl ao))))
theorem t9(P:az)(w:bw)(mg:bv->Option af)(base:dk){c6:Fn}(m:At K mg "_law_is_barred" "_law_is_barred" (top 47) ["_law_bands_here", "_law_marks"])(bA:mg "len" = au)(aS:mg "range" = au)(mS:Def P w K mg base 2 "_law_barred" ["_law_bands_here", "_law_marks", "_law_a", "_law_b", "_law_c", "_law_d"] (low K c6))(wZ:MonoF c6)(len:∀ds Q,sp ds Q->ds.length=2)(hsp:∀ds Q,sp ds Q->jA c6 ↥Q (aM ["_law_bands_here", "_law_marks", "_law_a", "_law_b", "_law_c", "_law_d"] ds)):Def P w K mg base 3 "_law_is_barred" ["_law_bands_here", "_law_marks"] (low K sp):=by
 have sc:FnScope ["_law_bands_here", "_law_marks", "_law_a", "_law_b", "_law_c", "_law_d"] ["_law_bands_here", "_law_marks"] (aI (top 47)):=by norm_cast
 refine m.okP (k:=2) (t:=jA c6) sc (λf cdv A outer s H E hr=>?_) len hsp
 ·
  exact(aG (dF cp rfl (cS rfl aS (aD (aX bZ rfl bA fv (aD (a7 0 (pv 0)) aE)) aE)) (eX (i:=2) (k:=6) sc.nd rfl (.inl rfl)) (aH (dF cp rfl (g6 rfl aS (aD (bP bU (a7 2 (pv 2)) aN) (aD (aX bZ rfl bA fv (aD (a7 0 (pv 0)) aE)) aE))) (eX (i:=3) (k:=6) sc.nd rfl (.inl rfl)) (aH (dF cp rfl (g6 rfl aS (aD (bP bU (a7 3 (pv 3)) aN) (aD (aX bZ rfl bA fv (aD (a7 0 (pv 0)) aE)) aE))) (eX (i:=4) (k:=6) sc.nd rfl (.inl rfl)) (aH (dF cp rfl (g6 rfl aS (aD (bP bU (a7 4 (pv 4)) aN) (aD (aX bZ rfl bA fv (aD (a7 0 (pv 0)) aE)) aE))) (eX (i:=5) (k:=6) sc.nd rfl (.inl rfl)) (aH (fN (iA (bH mS wZ (hr.mono ∅) (aD (a7 0 (pv 0)) (aD (a7 1 (pv 1)) (aD (a7 2 (pv 2)) (aD (a7 3 (pv 3)) (aD (a7 4 (pv 4)) (aD (a7 5 (pv 5)) aE)))))))) (aH (bX n4)) bY)))))))))
 (aH (bX n4)))
abbrev mX(aK:Fn):cE:=
 (Aw 2 (a8 3) (eC (.bl ai)))
abbrev jO(aK:Fn):cE:=
 (aV (cA 3 (gH (a9 (aR cR (a8 4) (a8 7)) (a9 (aR cR (a8 4) (aR dD (a8 7) (eC (.int 1)))) (a9 (fD k4 (a9 (fD iQ (a9 (GA (a8 4) g9 (lG (a8 7))) aF)) aF)) aF)))))
 (jI (xA (bI (aR zO (aR cR (a8 0) (aR cR (a8 4) (a8 7))) (aR cR (a8 0) (aR cR (a8 4) (aR dD (a8 7) (eC (.int 1))))))) (bI (aR Hr (a8 3) (a8 2)))) (aV (nR 5 (a8 3))
 (aV (cA 4 (b8 aK (a9 (a8 4) (a9 (a8 7) aF))))
 zE)) cB))
abbrev jN(aK:Fn):cE:=
 (eW (dE (a9 (aR lC (fD d5 (a9 (a8 4) aF)) (eC (.int 1))) aF)) (gN 7) (jO aK))
abbrev pW(aK:Fn):cE:=
 (aV (j5 2 SW)
 (aV (eW (kC (a8 1)) (gN 3) (mX aK))
 (aV (cA 4 (GB (a9 (fD d5 (a9 (a8 0) aF)) aF)))
 (aV (j5 5 (jL aF))
 (aV (eW (dE (a9 (fD d5 (a9 (a8 1) aF)) aF)) (gN 6) (jN aK))
 (cM (aR sI (fD iQ (a9 (a8 5) aF)) (a8 1))))))))
theorem CC(P:az)(w:bw)(mg:bv->Option af)(base:dk)(m:At K mg "_law_laid" "_law_laid" (top 48) ["_law_bands_here", "_law_tiles"])(bA:mg "len" = au)(fQ:mg "list" = au)(aS:mg "range" = au)(fP:mg "sorted" = au)(eE:mg "tuple" = au)(cH:Def P w K mg base 1 "_law_exchanged" ["_law_path", "_law_p"] (low K aK))(eI:MonoF aK)(len:∀ds Q,sp ds Q->ds.length=2)(hsp:∀ds Q,sp ds Q->pW aK ↥Q (aM ["_law_bands_here", "_law_tiles", "_law_marks", "_law_tile", "_law_path", "_law_met", "_law_step", "_law_p"] ds)):Def P w K mg base 2 "_law_laid" ["_law_bands_here", "_law_tiles"] (low K sp):=by
 have sc:FnScope ["_law_bands_here", "_law_tiles", "_law_marks", "_law_tile", "_law_path", "_law_met", "_law_step", "_law_p"] ["_law_bands_here", "_law_tiles"] (aI (top 48)):=by norm_cast
 refine m.okP (k:=1) (t:=pW aK) sc (λf cdv A outer s H E hr=>?_) len hsp
 ·
  have hu:=hr.units;have hu1:=f6 hr;have hu2:=OJ hr;exact(aG (iB (i:=2) sc.nd rfl (.inl rfl) KL)
 (aG (dF cp rfl (gF (a7 1 (pv 1))) (eX (i:=3) (k:=8) sc.nd rfl (.inl rfl)) (aH (ND hu2 (i:=2) (pv 2) (a7 3 (pv 3)) n4)))
 (aG (cL (i:=4) sc.nd rfl (.inl rfl) (mG rfl rfl fQ rfl aS (aD (aX bZ rfl bA fv (aD (a7 0 (pv 0)) aE)) aE)))
 (aG (iB (i:=5) sc.nd rfl (.inl rfl) (iG aE))
 (aG (dF cp rfl (cS rfl aS (aD (aX bZ rfl bA fv (aD (a7 1 (pv 1)) aE)) aE)) (eX (i:=6) (k:=8) sc.nd rfl (.inl rfl)) (aH (dF cp rfl (cS rfl aS (aD (bP kI (aX bZ rfl bA fv (aD (a7 4 (pv 4)) aE)) aN) aE)) (eX (i:=7) (k:=8) sc.nd rfl (.inl rfl)) (aG (cL (i:=3) sc.nd rfl (.inl rfl) (h7 (aD (c9 hu1 (a7 4 (pv 4)) (a7 7 (pv 7))) (aD (c9 hu1 (a7 4 (pv 4)) (bP bU (a7 7 (pv 7)) aN)) (aD (jZ oH rfl eE yt (aD (aX p8 rfl fP zu (aD (mE (a7 4 (pv 4)) mD (mC (a7 7 (pv 7)))) aE)) aE)) aE)))))
 (aH (fN (QW.qt (vH (c8 nV (c9 hu1 (a7 0 (pv 0)) (c9 hu1 (a7 4 (pv 4)) (a7 7 (pv 7)))) (c9 hu1 (a7 0 (pv 0)) (c9 hu1 (a7 4 (pv 4)) (bP bU (a7 7 (pv 7)) aN)))) (uF (c8 (Kp hu2) (a7 3 (pv 3)) (a7 2 (pv 2)))))) (aG (rO (i:=5) (pv 5) (a7 3 (pv 3)))
 (aG (cL (i:=4) sc.nd rfl (.inl rfl) (bH cH eI (hr.mono ∅) (aD (a7 4 (pv 4)) (aD (a7 7 (pv 7)) aE))))
 (aH KN))) bY))))))
 (aH (bX (l9 (gG hu) (aX p8 rfl fP zu (aD (a7 5 (pv 5)) aE)) (a7 1 (pv 1))))))))))
abbrev kS(K:ak)(dZ aT hG:ae)(hC:yT):cE:=
 (aV (cA 2 (eC (.bl ao)))
 (aV (NA aT 3 hC (a9 (a8 0) (a9 (a8 1) aF)) (cA 2 (sE (El K aT (a8 3)) (sE (JN K (a8 3)) (wF (El K hG (a8 3)))))) cB)
 (cM (a8 2))))
theorem wG(P:az)(w:bw)(mg:bv->Option af)(base:dk){hC:yT}{dZ hG:ae}(m:At K mg "_law_refused" "_law_refused" (top 49) ["_law_sides_here", "_law_some_here"])(bF:mg "isinstance" = au)(lQ:mg "ValueError" = au)(mP:mg "SlantError" = aa (.ref dZ))(x_NoThrees_SlantError:VH K (.ref aT) (.ref dZ)=aa ai)(gX:mg "NoThrees" = aa (.ref aT))(t8:mg "NoFloor" = aa (.ref hG))(kN:DefX P w K mg base 5 "floor_by" ["sides", "some"] (lowX K hC))(zY:MonoX hC)(len:∀ds Q,sp ds Q->ds.length=2)(hsp:∀ds Q,sp ds Q->kS K dZ aT hG hC ↥Q (aM ["_law_sides_here", "_law_some_here", "_law_refused_here", "e"] ds)):Def P w K mg base 6 "_law_refused" ["_law_sides_here", "_law_some_here"] (low K sp):=by
 have sc:FnScope ["_law_sides_here", "_law_some_here", "_law_refused_here", "e"] ["_law_sides_here", "_law_some_here"] (aI (top 49)):=by norm_cast
 refine m.okP (k:=5) (t:=kS K dZ aT hG hC) sc (λf cdv A outer s H E hr=>?_) len hsp
 ·
  exact(aG (cL (i:=2) sc.nd rfl (.inl rfl) n4)
 (aG (Pk (i:=3) (λ_ _ z=>z) kN zY (hr.mono ∅) (aD (a7 0 (pv 0)) (aD (a7 1 (pv 1)) aE)) sc.nd mP x_NoThrees_SlantError (λa=>(aH (cL (i:=2) sc.nd rfl (.inl rfl) (xT (Gv rfl bF (a7 3 (pv 3)) gX) (xT (NG rfl bF (a7 3 (pv 3)) lQ) (vI (Dq (Gv rfl bF (a7 3 (pv 3)) t8)))))))) bY)
 (aH (bX (a7 2 (pv 2))))))
abbrev iU:cE:=
 (jI (bI (aR zO (aR cR (a8 0) (a8 2)) (aR cR (a8 0) (a8 3)))) (nR 1 (gH (a9 (a8 2) (a9 (a8 3) aF)))) cB)
abbrev iT:cE:=
 (eW (gP (a9 (aR dD (a8 2) (eC (.int 1))) (a9 (fD d5 (a9 (a8 0) aF)) aF))) (gN 3) iU)
abbrev nI:cE:=
 (aV (j5 1 (jL aF))
 (aV (eW (dE (a9 (fD d5 (a9 (a8 0) aF)) aF)) (gN 2) iT)
 (cM (a8 1))))
theorem AH(P:az)(w:bw)(mg:bv->Option af)(base:dk)(m:At K mg "_law_pairs" "_law_pairs" (top 50) ["_law_bands_here"])(bA:mg "len" = au)(aS:mg "range" = au)(len:∀ds Q,sp ds Q->ds.length=1)(hsp:∀ds Q,sp ds Q->nI  ↥Q (aM ["_law_bands_here", "_law_found", "_law_a", "_law_b"] ds)):Def P w K mg base 1 "_law_pairs" ["_law_bands_here"] (low K sp):=by
 have sc:FnScope ["_law_bands_here", "_law_found", "_law_a", "_law_b"] ["_law_bands_here"] (aI (top 50)):=by norm_cast
 refine m.okP (k:=0) (t:=nI ) sc (λf cdv A outer s H E hr=>?_) len hsp
 ·
  have hu1:=f6 hr;exact(aG (iB (i:=1) sc.nd rfl (.inl rfl) (iG aE))
 (aG (dF cp rfl (cS rfl aS (aD (aX bZ rfl bA fv (aD (a7 0 (pv 0)) aE)) aE)) (eX (i:=2) (k:=4) sc.nd rfl (.inl rfl)) (aH (dF cp rfl (g6 rfl aS (aD (bP bU (a7 2 (pv 2)) aN) (aD (aX bZ rfl bA fv (aD (a7 0 (pv 0)) aE)) aE))) (eX (i:=3) (k:=4) sc.nd rfl (.inl rfl)) (aH (fN (c8 nV (c9 hu1 (a7 0 (pv 0)) (a7 2 (pv 2))) (c9 hu1 (a7 0 (pv 0)) (a7 3 (pv 3)))) (aH (rO (i:=1) (pv 1) (h7 (aD (a7 2 (pv 2)) (aD (a7 3 (pv 3)) aE))))) bY)))))
 (aH (bX (a7 1 (pv 1))))))
abbrev Eu(fW bD eN eK fU cP dI fY eL cG fX:Fn):cE:=
 (aV (cA 2 (b8 eN (a9 (b8 bD (a9 (a8 0) (a9 (a8 1) aF))) (a9 (b8 fW (a9 (a8 0) (a9 (a8 1) (a9 (eC (.int 8)) aF)))) aF))))
 (aV (cA 3 (b8 eK (a9 (a8 2) aF)))
 (aV (cA 4 (b8 fU (a9 (a8 2) (a9 (b8 bD (a9 (a8 0) (a9 (aR dD (a8 1) (eC (.int 1))) aF))) (a9 (b8 bD (a9 (a8 0) (a9 (aR dD (a8 1) (eC (.int 2))) aF))) aF)))))
 (aV (cA 5 (fD iK (a9 (a8 4) aF)))
 (jI (kE (b8 cP (a9 (a8 2) (a9 (a8 4) aF)))) (jI (o8 (kE (b8 dI (a9 (a8 3) (a9 (fD rV (a9 (a8 5) aF)) aF))))) (cM (eC (.bl ao))) cB) (aV (cA 6 (b8 fY (a9 (a8 3) (a9 (fD rV (a9 (a8 5) aF)) aF))))
 (aV (jI (Le (o8 (kE (AD "list" (a8 6)))) (bI (aR xZ (gD 3 [] (kC (a8 6)) (gT [0,1,2]) jH (gH (a9 (a8 0) (a9 (a8 1) aF)))) (b8 eL (a9 (a8 2) aF))))) (cM (eC (.bl ao))) cB)
 (jI (Le (bI (aR xZ (b8 cG (a9 (a8 2) (a9 (a8 6) aF))) (a8 5))) (o8 (kE (b8 fX (a9 (a8 2) (a9 (a8 6) aF)))))) (cM (eC (.bl ao))) cB))))))))
abbrev Gk(fW bD eN eK fU cP dI fY eL cG fX:Fn):cE:=
 (aV (eW (uK (a9 (eC (.int 0)) (a9 (aR dD (fD vO (a9 (eC (.int 21)) (a9 (fD d5 (a9 (a8 0) aF)) aF))) (eC (.int 1))) (a9 (eC (.int 3)) aF)))) (gN 1) (Eu fW bD eN eK fU cP dI fY eL cG fX))
 (cM (eC (.bl ai))))
theorem OR(P:az)(w:bw)(mg:bv->Option af)(base:dk){fW eN eK fU cP dI fY eL fX:Fn}{fL:ae}{fdL:ke}(F:Fun K "law" "law" (top 51) fL fdL)(bA:mg "len" = au)(xN:mg "min" = au)(aS:mg "range" = au)(fP:mg "sorted" = au)(fQ:mg "list" = au)(bF:mg "isinstance" = au)(qO:Def P w K mg base 2 "_law_most" ["_law_script", "_law_k", "_law_usual"] (low K fW))(Bi:MonoF fW)(dG:Def P w K mg base 1 "_law_cell_at" ["_law_script", "_law_k"] (low K bD))(fR:MonoF bD)(oF:Def P w K mg base 1 "_law_bands" ["_law_cell", "_law_most_here"] (low K eN))(zW:MonoF eN)(oB:Def P w K mg base 7 "_law_sides" ["_law_bands_here"] (low K eK))(zT:MonoF eK)(qM:Def P w K mg base 3 "_law_some" ["_law_bands_here", "_law_cell", "_law_others"] (low K fU))(Bg:MonoF fU)(jF:Def P w K mg base 3 "_law_is_barred" ["_law_bands_here", "_law_marks"] (low K cP))(sW:MonoF cP)(kZ:Def P w K mg base 6 "_law_refused" ["_law_sides_here", "_law_some_here"] (low K dI))(vS:MonoF dI)(qT:Def P w K mg base 5 "floor_by" ["sides", "some"] (low K fY))(Bn:MonoF fY)(oC:Def P w K mg base 1 "_law_pairs" ["_law_bands_here"] (low K eL))(zU:MonoF eL)(lH:Def P w K mg base 2 "_law_up" ["_law_bands_here", "_law_tiles"] (low K cG))(sV:MonoF cG)(qQ:Def P w K mg base 2 "_law_laid" ["_law_bands_here", "_law_tiles"] (low K fX))(Bk:MonoF fX)(len:∀ds Q,sp ds Q->ds.length=1)(hsp:∀ds Q,sp ds Q->Gk fW bD eN eK fU cP dI fY eL cG fX ↥Q (aM ["_law_script", "_law_k", "_law_bands_here", "_law_sides_here", "_law_marks", "_law_some_here", "_law_tiles"] ds)):FnOk P w K mg base Dd 8 fL fdL ["_law_script"] (low K sp):=by
 have sc:FnScope ["_law_script", "_law_k", "_law_bands_here", "_law_sides_here", "_law_marks", "_law_some_here", "_law_tiles"] ["_law_script"] (aI (top 51)):=by norm_cast
 refine F.ok (k:=7) sc (A0 len) λcdv A outer s H vs Q E hr qq=>AW (N:=["_law_script", "_law_k", "_law_bands_here", "_law_sides_here", "_law_marks", "_law_some_here", "_law_tiles"]) (t:=Gk fW bD eN eK fU cP dI fY eL cG fX) ?_ hsp qq
 ·
  have hu:=hr.units;exact(aG (dF cp rfl (FI rfl aS (aD aN (aD (bP bU (aX (Er rfl) rfl xN boot_min (aD aN (aD (aX bZ rfl bA fv (aD (a7 0 (pv 0)) aE)) aE))) aN) (aD aN aE)))) (eX (i:=1) (k:=7) sc.nd rfl (.inl rfl)) (aG (cL (i:=2) sc.nd rfl (.inl rfl) (bH oF zW (hr.mono ∅) (aD (bH dG fR (hr.mono ∅) (aD (a7 0 (pv 0)) (aD (a7 1 (pv 1)) aE))) (aD (bH qO Bi (hr.mono ∅) (aD (a7 0 (pv 0)) (aD (a7 1 (pv 1)) (aD aN aE)))) aE))))
 (aG (cL (i:=3) sc.nd rfl (.inl rfl) (bH oB zT (hr.mono ∅) (aD (a7 2 (pv 2)) aE)))
 (aG (cL (i:=4) sc.nd rfl (.inl rfl) (bH qM Bg (hr.mono ∅) (aD (a7 2 (pv 2)) (aD (bH dG fR (hr.mono ∅) (aD (a7 0 (pv 0)) (aD (bP bU (a7 1 (pv 1)) aN) aE))) (aD (bH dG fR (hr.mono ∅) (aD (a7 0 (pv 0)) (aD (bP bU (a7 1 (pv 1)) aN) aE))) aE)))))
 (aG (cL (i:=5) sc.nd rfl (.inl rfl) (aX (CM rfl) rfl fP zu (aD (a7 4 (pv 4)) aE)))
 (aH (fN (iA (bH jF sW (hr.mono ∅) (aD (a7 2 (pv 2)) (aD (a7 4 (pv 4)) aE)))) (aH (fN (jY (iA (bH kZ vS (hr.mono ∅) (aD (a7 3 (pv 3)) (aD (jZ Es rfl fQ UR (aD (a7 5 (pv 5)) aE)) aE))))) (aH (bX n4)) bY)) (aG (cL (i:=6) sc.nd rfl (.inl rfl) (bH qT Bn (hr.mono ∅) (aD (a7 3 (pv 3)) (aD (jZ Es rfl fQ UR (aD (a7 5 (pv 5)) aE)) aE))))
 (aG (fN (QW.qt (Dp (jY (iA (B7 (.inr (.inr (.inr (.inl rfl)))) rfl bF (a7 6 (pv 6)) (oX (v:=.ty "list") rfl fQ UR rfl)))) (zF (c8 (qD hu) (Cy ["_law_a", "_law_b", "_law_below"] [] [] rfl (gF (a7 6 (pv 6))) (λfp s H=>(Cz (k:=3) (is:=[0,1,2]) rfl (dA (dW (i:=0) (show lr (["_law_a", "_law_b", "_law_below"]:List bv) by decide +kernel) rfl (.inl rfl)) (dA (dW (i:=1) (show lr (["_law_a", "_law_b", "_law_below"]:List bv) by decide +kernel) rfl (.inl rfl)) (dA (dW (i:=2) (show lr (["_law_a", "_law_b", "_law_below"]:List bv) by decide +kernel) rfl (.inl rfl)) mJ))))) (λfp s H=>oU) (λfp s H=>(h7 (aD (a7 0 (pv 0)) (aD (a7 1 (pv 1)) aE))))) (bH oC zU (hr.mono ∅) (aD (a7 2 (pv 2)) aE)))))) (aH (bX n4)) bY)
 (aH (fN (QW.qt (Dp (c8 (qD hu) (bH lH sV (hr.mono ∅) (aD (a7 2 (pv 2)) (aD (a7 6 (pv 6)) aE))) (a7 5 (pv 5))) (zF (jY (iA (bH qQ Bk (hr.mono ∅) (aD (a7 2 (pv 2)) (aD (a7 6 (pv 6)) aE)))))))) (aH (bX n4)) bY)))))))))))
 (aH (bX n4)))
end
end Lw
variable {l:List Int}
namespace Fl
def aP(l:List Int)(p:Nat):List Int:=l.take p++[l.getD (p+1) 0,l.getD p 0]++l.drop (p+2)
variable {p:Nat}
theorem eU(hp:p+1<l.length):(aP l p).length=l.length:=by unfold aP;simp;right
theorem cF{k:Nat}(hp:p+1<l.length)(hk:k<l.length):(aP l p).getD k 0=if k=p+1 then l.getD p 0 else if k=p then l.getD (p+1) 0 else l.getD k 0:=by
 unfold aP;simp only[de,dt];by_cases h1:k<p
 ·rw[bh (by simp;right),gy h1,XQ ⋯,XQ ⋯]
 ·rw[bo (by simp;right),dw,pq ⋯];by_cases h2:k=p
  ·subst h2;rw[XQ ⋯,Yh rfl];simp
  ·by_cases h3:k=p+1
   ·subst h3;rw[Yh rfl,show p+1-p=1 by right];simp
   ·rw[XQ h3,XQ h2,bo (by simp;right)];simp only[cg,uy,vb];rw[show p+2+(k-p-(0+1+1))=k by right]
def sg(p i:Nat):Nat:=if i=p then p+1 else if i=p+1 then p else i
theorem Do(p i:Nat):sg p (sg p i)=i:=by unfold sg;split<;>split<;>first | right | (split<;>right)
theorem rH(hp:p+1<n)(hi:i<n):sg p i<n:=by unfold sg;split<;>first | right | (split<;>right)
theorem rC(hp:p+1<l.length)(hi:i<l.length):(aP l p).getD (sg p i) 0=l.getD i 0:=by
 rw[cF hp (rH hp hi)];unfold sg;by_cases h:i=p
 ·rw[Yh h,Yh rfl,h]
 ·rw[XQ h];by_cases h2:i=p+1
  ·rw[Yh h2,XQ ⋯,Yh rfl,h2]
  ·rw[XQ h2,XQ h2,XQ h]
structure Pt(n:Nat)(l:List Int):Prop where
 len:l.length=n
 bd:∀i,i<n->0<=l.getD i 0/\l.getD i 0<n
 inj:∀i j,i<n->j<n->l.getD i 0=l.getD j 0->i=j
 sur:∀x:Int,0<=x->x<n -> ∃i,i<n/\l.getD i 0=x
abbrev ids(n:Nat):List Int:=(gx n).map λ(k:Nat)=>(k:Int)
theorem kL(h:i<n):(ids n).getD i 0=i:=by simp[ids,de,h]
theorem Pt.ids(n:Nat):Pt n (ids n):=by
 refine⟨by simp[Fl.ids],λi hi=>by rw[kL hi];right,λi j hi hj e=>by rw[kL hi,kL hj] at e;right,λx h0 h1=>⟨x.toNat,⋯,by rw[kL ⋯];right⟩⟩
theorem Pt.swap(h:Pt n l)(hp:p+1<n):Pt n (aP l p):=by
 have hl:=h.len;have g:∀i,i<n->(aP l p).getD i 0=l.getD (sg p i) 0:=λi hi=>by
  have:=rC (l:=l) (p:=p) (i:=sg p i) ⋯ (by rw[hl];exact rH hp hi);rwa[Do] at this
 refine⟨by rw[eU ⋯];exact hl,λi hi=>by rw[g i hi];exact h.bd _ (rH hp hi),λi j hi hj e=>?_,λx h0 h1=>?_⟩
 ·rw[g i hi,g j hj] at e;have:=h.inj _ _ (rH hp hi) (rH hp hj) e;have:=congrArg (sg p) this;rwa[Do,Do] at this
 ·obtain⟨i,hi,e⟩:=h.sur x h0 h1;exact⟨sg p i,rH hp hi,by rw[rC ⋯ ⋯];exact e⟩
def Bf(l:List Int)(x y:Int):Prop:=∃i j,i<j/\j<l.length/\l.getD i 0=x/\l.getD j 0=y
variable {y:Int}
section
variable {x:Int}
theorem Bf.anti(P:Pt n l)(h:Bf l x y)(k:Bf l y x):False:=by
 obtain⟨i,j,a,b,c,d⟩:=h;obtain⟨i',j',a',b',c',d'⟩:=k;have hl:=P.len;have:=P.inj i j' ⋯ ⋯ (c.trans d'.symm);have:=P.inj j i' ⋯ ⋯ (d.trans c'.symm);right
theorem Bf.tot(P:Pt n l)(hx:0<=x)(hx':x<n)(hy:0<=y)(hy':y<n)(ne:x≠y):Bf l x y \/ Bf l y x:=by
 obtain⟨i,hi,ei⟩:=P.sur x hx hx';obtain⟨j,hj,ej⟩:=P.sur y hy hy';have hl:=P.len;rcases sh i j with h | h | h
 ·exact .inl ⟨i,j,h,⋯,ei,ej⟩
 ·subst h;exact absurd (ei.symm.trans ej) ne
 ·exact .inr ⟨j,i,h,⋯,ej,ei⟩
theorem Bf.swap(P:Pt n l)(hp:p+1<n)(h:Bf l x y)(ne:¬(x=l.getD p 0/\y=l.getD (p+1) 0)):Bf (aP l p) x y:=by
 obtain⟨i,j,a,b,c,d⟩:=h;have hl:=P.len;refine⟨sg p i,sg p j,?_,by rw[eU ⋯,hl];exact rH hp ⋯,by rw[rC ⋯ ⋯];exact c,by rw[rC ⋯ ⋯];exact d⟩;by_cases z:i=p/\j=p+1
 ·exact absurd ⟨by rw[<- c,z.1],by rw[<- d,z.2]⟩ ne
 ·unfold sg;split<;>split<;>first | right | (split<;>first | right | (split<;>right))
theorem Bf.new(hp:p+1<l.length):Bf (aP l p) (l.getD (p+1) 0) (l.getD p 0):=
 ⟨p,p+1,⋯,by rw[eU hp];exact hp,by rw[cF hp ⋯,XQ ⋯,Yh rfl],by rw[cF hp hp,Yh rfl]⟩
theorem Bf.back(P:Pt n l)(hp:p+1<n)(h:Bf (aP l p) x y):Bf l x y \/ (x=l.getD (p+1) 0/\y=l.getD p 0):=by
 have hl:=P.len;by_cases z:x=l.getD (p+1) 0/\y=l.getD p 0
 ·exact .inr z
 ·have P':=P.swap hp;obtain⟨i,j,a,b,c,d⟩:=h;rw[eU ⋯] at b;have g:∀i,i<n->(aP l p).getD i 0=l.getD (sg p i) 0:=λi hi=>by
   have:=rC (l:=l) (p:=p) (i:=sg p i) ⋯ (by rw[hl];exact rH hp hi);rwa[Do] at this
  rw[g i ⋯] at c;rw[g j ⋯] at d;refine .inl ⟨sg p i,sg p j,?_,by rw[hl];exact rH hp ⋯,c,d⟩;by_cases w:i=p/\j=p+1
  ·exfalso;apply z;obtain⟨rfl,rfl⟩:=w;refine⟨?_,?_⟩
   ·rw[<- c];unfold sg;rw[Yh rfl]
   ·rw[<- d];unfold sg;rw[XQ ⋯,Yh rfl]
  ·unfold sg;split<;>split<;>first | right | (split<;>first | right | (split<;>right))
theorem Bf.near(hp:p+1<l.length):Bf l (l.getD p 0) (l.getD (p+1) 0):=⟨p,p+1,⋯,hp,rfl,rfl⟩
theorem t5{x:Int}(h0:0<=x)(h:x<y)(h1:y<n):Bf (ids n) x y:=
 ⟨x.toNat,y.toNat,⋯,by simp[ids];right,by rw[kL ⋯];right,by rw[kL ⋯];right⟩
end
abbrev kd(ks:List Int)(x:Int):Int:=ks.getD x.toNat 0
inductive Walk(ks:List Int):List Int->List Int->List Int->Prop
 |nil (l:List Int):Walk ks l [] l
 |cons {l e r:List Int} {p:Nat}:p+1<ks.length->kd ks (l.getD p 0)<kd ks (l.getD (p+1) 0)->Walk ks (aP l p) r e->Walk ks l ((p:Int)::r) e
def tls:List Int->List Int->List (Int×Int×List Int)
 |_,[]=>[]
 |l,p::r=>(l.getD p.toNat 0,l.getD (p.toNat+1) 0,l.take p.toNat)::tls (aP l p.toNat) r
theorem i5:∀(r l:List Int),(tls l r).length=r.length
 | [],_=>rfl
 |p::r,l=>by rw[tls,cg,cg,i5 r]
variable {m r e:List Int}
section
variable {x:Int}
theorem Walk.snoc(w:Walk ks l r e)(hp:p+1<ks.length)(h:kd ks (e.getD p 0)<kd ks (e.getD (p+1) 0)):Walk ks l (r++[(p:Int)]) (aP e p):=by
 induction w with
 |nil l=>exact .cons hp h (.nil _)
 |cons a b _ ih=>exact .cons a b (ih h)
theorem Walk.pt(w:Walk ks l r e)(P:Pt ks.length l):Pt ks.length e:=by
 induction w with
 |nil l=>exact P
 |cons a b _ ih=>exact ih (P.swap a)
theorem Walk.append{e2 r2:List Int}(w:Walk ks l r m)(w2:Walk ks m r2 e2):Walk ks l (r++r2) e2:=by
 induction w with
 |nil l=>exact w2
 |cons a b _ ih=>exact .cons a b (ih w2)
theorem Walk.stay(w:Walk ks l r e)(P:Pt ks.length l)(k:kd ks x<=kd ks y)(h:Bf l y x):Bf e y x:=by
 induction w with
 |nil l=>exact h
 |cons a b w ih=>
  refine ih (P.swap a) (h.swap P a λz=>?_);rw[z.1,z.2] at k;right
theorem Walk.key(w:Walk ks l r e)(P:Pt ks.length l){t:Int×Int×List Int}(h:t∈tls l r):Bf l t.1 t.2.1/\kd ks t.1<kd ks t.2.1/\Bf e t.2.1 t.1:=by
 induction w with
 |nil l=>cases h
 | @cons l e r p a b w ih=>
  have hl:=P.len;rw[tls,bq] at h;rcases dj.mp h with rfl | h
  ·exact⟨Bf.near ⋯,b,w.stay (P.swap a) (U5 b) (Bf.new ⋯)⟩
  ·obtain⟨h1,h2,h3⟩:=ih (P.swap a) h;refine⟨?_,h2,h3⟩;rcases h1.back P a with z | z
   ·exact z
   ·rw[z.1,z.2] at h2;right
theorem Walk.nodup(w:Walk ks l r e)(P:Pt ks.length l):((tls l r).map λt=>(t.1,t.2.1)).Nodup:=by
 induction w with
 |nil l=>exact Xf
 | @cons l e r p a b w ih=>
  have hl:=P.len;rw[tls,bq,cr];refine yd.mpr ⟨λh=>?_,ih (P.swap a)⟩;obtain⟨t,ht,et⟩:=jg.mp h;obtain⟨h1,_,_⟩:=w.key (P.swap a) ht;simp only[V6] at et;rw[et.1,et.2] at h1;exact h1.anti (P.swap a) (Bf.new ⋯)
theorem Walk.or(w:Walk ks l r e)(P:Pt ks.length l)(h:Bf l x y):(∃t∈tls l r,t.1=x/\t.2.1=y) \/ Bf e x y:=by
 induction w with
 |nil l=>exact .inr h
 | @cons l e r p a b w ih=>
  have hl:=P.len;rw[tls,bq];by_cases z:x=l.getD p 0/\y=l.getD (p+1) 0
  ·exact .inl ⟨_,di ..,z.1.symm,z.2.symm⟩
  ·rcases ih (P.swap a) (h.swap P a z) with⟨t,ht,et⟩ | q
   ·exact .inl ⟨t,df _ ht,et⟩
   ·exact .inr q
def eS(ks e:List Int):Prop:=∀p,p+1<ks.length->kd ks (e.getD (p+1) 0)<=kd ks (e.getD p 0)
theorem eS.le(d:eS ks e)(P:Pt ks.length e):∀(k i:Nat),i+k<ks.length->kd ks (e.getD (i+k) 0)<=kd ks (e.getD i 0)
 |0,i,_=>zw _
 |k+1,i,h=>Xz (d (i+k) ⋯) (d.le P k i ⋯)
theorem Walk.all(w:Walk ks l r e)(P:Pt ks.length l)(d:eS ks e)(k:kd ks x<kd ks y)(h:Bf l x y):∃t∈tls l r,t.1=x/\t.2.1=y:=by
 rcases w.or P h with q | ⟨i,j,a,b,c,f⟩
 ·exact q
 ·have P':=w.pt P;have hl:=P'.len;have:=d.le P' (j-i) i ⋯;rw[show i+(j-i)=j by right,c,f] at this;right
end
def pc:List Int->Nat
 | []=>0
 |x::r=>(r.filter λy=>decide (x<y)).length+pc r
theorem Dy{a b:Int}(h:a<b)(v:List Int):∀u:List Int,pc (u++a::b::v)=pc (u++b::a::v)+1
 | []=>by
  have h':¬b<a:=⋯;simp only[gp,pc,W6,h,h',decide_true,decide_false,if_true,dq,if_false,cg];right
 |x::u=>by
  have e:((u++a::b::v).filter λy=>decide (x<y)).length=((u++b::a::v).filter λy=>decide (x<y)).length:=by
   simp only[Tj,W6,ef];split<;>split<;>simp
  rw[jb,jb,pc,pc,Dy h v u,e];right
theorem MB:∀l:List Int,pc l<=l.length*l.length
 | []=>br _
 |x::r=>by
  have h1:=MB r;have h2:=wa (λy=>decide (x<y)) r;rw[pc,cg,Ta,WA];right
theorem Pz(h:1<=l.length):pc l<l.length*l.length:=by
 cases l with
 |nil=>simp at h
 |cons x r=>
  have h1:=MB r;have h2:=wa (λy=>decide (x<y)) r;rw[pc,cg,Ta,WA];right
theorem v7(hp:p+1<l.length):l=l.take p++l.getD p 0::l.getD (p+1) 0::l.drop (p+2):=by
 have e1:l.drop p=l.getD p 0::l.drop (p+1):=by
  rw[gw (show p<l.length by right)];simp[de,show p<l.length by right]
 have e2:l.drop (p+1)=l.getD (p+1) 0::l.drop (p+2):=by
  rw[gw hp];simp[de,hp]
 rw[<- e2,<- e1,ug]
theorem Walk.count(w:Walk ks l r e)(hl:l.length=ks.length):pc (l.map (kd ks))=r.length+pc (e.map (kd ks)):=by
 induction w with
 |nil l=>simp
 | @cons l e r p a b w ih=>
  have h1:=ih (by rw[eU ⋯];exact hl);have h2:pc (l.map (kd ks))=pc ((aP l p).map (kd ks))+1:=by
   have e1:=congrArg (List.map (kd ks)) (v7 (l:=l) (p:=p) ⋯);rw[yk,cr,cr] at e1;rw[e1,Dy b];congr 2;unfold aP;simp
  rw[h2,h1,cg];right
theorem J8(ks:List Int):(ids ks.length).map (kd ks)=ks:=by
 apply qz;intro i;by_cases h:i<ks.length
 ·simp[ids,kd,h]
 ·simp[ids,h]
theorem iY:∀(r l:List Int) (k:Nat),(tls l r).take k=tls l (r.take k)
 | [],l,k=>by simp[tls]
 |p::r,l,0=>rfl
 |p::r,l,k+1=>by rw[tls,yv,yv,tls,iY r]
theorem Walk.at(w:Walk ks l r e):∀{k:Nat} {t:Int×Int×List Int},(tls l r)[k]?=aa t -> ∃(m:List Int) (p:Nat),Walk ks l (r.take k) m/\p+1<ks.length/\t=(m.getD p 0,m.getD (p+1) 0,m.take p):=by
 induction w with
 |nil l=>intro k t h;simp[tls] at h
 | @cons l e r p a b w ih=>
  intro k t h;rw[tls,bq] at h;cases k with
  |zero=>
   simp only[jt,ip] at h;exact⟨l,p,.nil _,a,h.symm⟩
  |succ k=>
   rw[mf] at h;obtain⟨m,q,w1,hq,et⟩:=ih h;exact⟨m,q,.cons a b w1,hq,et⟩
theorem Lm{b:Int}(P:Pt n m)(hp:p+1<n):b∈m.take p ↔ Bf m b (m.getD p 0):=by
 have hl:=P.len;constructor
 ·intro h;obtain⟨i,hi,e⟩:=cm.mp h;rw[dw] at hi;refine⟨i,p,⋯,⋯,?_,rfl⟩;rw[fk] at e;simp[de,show i<m.length by right,e]
 ·rintro⟨i,j,a,b',c,d⟩;have:=P.inj j p ⋯ ⋯ d;subst this;refine cm.mpr ⟨i,by rw[dw];right,?_⟩;rw[fk];simpa [de,show i<m.length by right] using c
end Fl
set_option maxHeartbeats 8000000
namespace Fl
variable {y v a b:Int}{m r e:List Int}
def tm(ks r:List Int)(x y:Int):Nat:=(tls (ids ks.length) r).findIdx λt=>decide (t.1=x/\t.2.1=y)
def gM(ks:List Int):Prop:=∀a b:Int,0<=a->a<=b->b<ks.length->kd ks a<=kd ks b
theorem Ow(x y:Int):tm ks r x y<=r.length:=by
 have:=List.findIdx_le_length (p:=λt:Int×Int×List Int=>decide (t.1=x/\t.2.1=y)) (xs:=tls (ids ks.length) r);rwa[i5] at this
theorem Am{x:Int}(h:tm ks r x y<r.length):∃t,(tls (ids ks.length) r)[tm ks r x y]?=aa t/\t.1=x/\t.2.1=y:=by
 have hl:tm ks r x y<(tls (ids ks.length) r).length:=by rw[i5];exact h
 have:=List.findIdx_getElem (w:=hl);exact⟨_,av hl,(of_decide_eq_true this).1,(of_decide_eq_true this).2⟩
theorem Mw{x:Int}{t:Int×Int×List Int}(h:t∈tls (ids ks.length) r)(e1:t.1=x)(e2:t.2.1=y):tm ks r x y<r.length:=by
 have:=List.findIdx_lt_length_of_exists (p:=λt:Int×Int×List Int=>decide (t.1=x/\t.2.1=y)) ⟨t,h,decide_eq_true ⟨e1,e2⟩⟩;rwa[i5] at this
theorem Walk.sw_iff(w:Walk ks (ids ks.length) r e){k:Nat}(w1:Walk ks (ids ks.length) (r.take k) m)(hk:k<=r.length){u:Int}(h0:0<=u)(huv:u<v)(hv:v<ks.length):Bf m v u ↔ tm ks r u v<k:=by
 have P:=Pt.ids ks.length;have P1:=w1.pt P;constructor
 ·intro h;rcases w1.or P (t5 h0 huv hv) with⟨t,ht,e1,e2⟩ | q
  ·rw[<- iY] at ht;obtain⟨i,hi,gi⟩:=cm.mp ht;rw[dw] at hi;have hi2:i<(tls (ids ks.length) r).length:=⋯;rw[fk] at gi;apply yi _ (show i<k by right);apply nh;intro z;have:=List.not_of_lt_findIdx z;rw[gi] at this;rw[decide_eq_true (show t.1=u/\t.2.1=v from⟨e1,e2⟩)] at this;cases this
  ·exact(q.anti P1 h).elim
 ·intro h;obtain⟨t,ht,e1,e2⟩:=Am (ks:=ks) (r:=r) (x:=u) (y:=v) ⋯;have hm:t∈tls (ids ks.length) (r.take k):=by
   rw[<- iY];obtain⟨lz,gz⟩:=cf.mp ht;exact cm.mpr ⟨tm ks r u v,by rw[dw];right,by rw[fk];exact gz⟩
  have:=(w1.key P hm).2.2;rwa[e1,e2] at this
theorem Walk.tm_lt(w:Walk ks (ids ks.length) r e)(d:eS ks e){x:Int}(h0:0<=x)(hxy:x<y)(hy:y<ks.length)(hk:kd ks x<kd ks y):tm ks r x y<r.length:=by
 obtain⟨t,ht,e1,e2⟩:=w.all (Pt.ids _) d hk (t5 h0 hxy hy);exact Mw ht e1 e2
theorem Walk.tm_alike(w:Walk ks (ids ks.length) r e){x:Int}(hk:¬kd ks x<kd ks y):tm ks r x y=r.length:=by
 apply Nat.le_antisymm (Ow x y);apply nh;intro z;obtain⟨t,ht,e1,e2⟩:=Am z;have:=(w.key (Pt.ids _) (fe ht)).2.1;rw[e1,e2] at this;exact hk this
theorem Di{x u:Int}(h:tm ks r x y<r.length)(e:tm ks r x y=tm ks r u v):x=u/\y=v:=by
 obtain⟨t,ht,e1,e2⟩:=Am h;obtain⟨t',ht',e1',e2'⟩:=Am (ks:=ks) (r:=r) (x:=u) (y:=v) ⋯;rw[e,ht'] at ht;cases ht;exact⟨e1.symm.trans e1',e2.symm.trans e2'⟩
theorem Walk.tile(w:Walk ks (ids ks.length) r e){x:Int}(h:tm ks r x y<r.length):∃(m:List Int) (p:Nat),Walk ks (ids ks.length) (r.take (tm ks r x y)) m/\Pt ks.length m/\p+1<ks.length/\m.getD p 0=x/\m.getD (p+1) 0=y/\(tls (ids ks.length) r)[tm ks r x y]?=aa (x,y,m.take p):=by
 obtain⟨t,ht,e1,e2⟩:=Am h;obtain⟨m,p,w1,hp,et⟩:=w.at ht;subst et;dsimp only at e1 e2;exact⟨m,p,w1,w1.pt (Pt.ids _),hp,e1,e2,by rw[ht,e1,e2]⟩
theorem Walk.tri(w:Walk ks (ids ks.length) r e)(d:eS ks e)(mo:gM ks){c:Int}(h0:0<=a)(hab:a<b)(hbc:b<c)(hc:c<ks.length)(hk:kd ks a≠kd ks c):
  (tm ks r a b<tm ks r a c/\tm ks r a c<tm ks r b c) \/ (tm ks r b c<tm ks r a c/\tm ks r a c<tm ks r a b):=by
 have m1:=mo a c h0 ⋯ hc;have hl:=w.tm_lt d h0 (show a<c by right) hc ⋯;obtain⟨m,p,w1,P1,hp,ea,ec,_⟩:=w.tile hl;have lm:=P1.len;have near:Bf m a c:=by rw[<- ea,<- ec];exact Bf.near ⋯
 have n1:tm ks r a b≠tm ks r a c:=λz=>by have:=Di hl z.symm;right
 have n2:tm ks r b c≠tm ks r a c:=λz=>by have:=Di hl z.symm;right
 rcases Bf.tot P1 (x:=b) (y:=a) ⋯ ⋯ h0 ⋯ ⋯ with h | h
 ·have i1:=(w.sw_iff w1 ⋯ h0 hab ⋯).mp h;have bc:Bf m b c:=by
   obtain⟨x1,x2,q1,q2,q3,q4⟩:=h;obtain⟨y1,y2,p1,p2,p3,p4⟩:=near;have:=P1.inj x2 y1 ⋯ ⋯ (q4.trans p3.symm);exact⟨x1,y2,⋯,p2,q3,p4⟩
  have i2:¬tm ks r b c<tm ks r a c:=λz=>bc.anti P1 ((w.sw_iff w1 ⋯ ⋯ hbc hc).mpr z);exact .inl ⟨i1,⋯⟩
 ·have cb:Bf m c b:=by
   obtain⟨x1,x2,q1,q2,q3,q4⟩:=h;have z1:=P1.inj x1 p ⋯ ⋯ (q3.trans ea.symm);have z2:x2≠p+1:=λz=>by rw[z,ec] at q4;right
   exact⟨p+1,x2,⋯,q2,ec,q4⟩
  have i1:=(w.sw_iff w1 ⋯ ⋯ hbc hc).mp cb;have i2:¬tm ks r a b<tm ks r a c:=λz=>h.anti P1 ((w.sw_iff w1 ⋯ h0 hab ⋯).mpr z);exact .inr ⟨i1,⋯⟩
theorem Walk.under(w:Walk ks (ids ks.length) r e){x:Int}(h0:0<=x)(hxy:x<y)(hy:y<ks.length)(h:tm ks r x y<r.length):∃pre:List Int,(tls (ids ks.length) r)[tm ks r x y]?=aa (x,y,pre)/\pre.Nodup /\
  ∀z:Int,z∈pre ↔ 0<=z/\z<ks.length/\z≠x/\z≠y/\((z<x/\tm ks r x y<tm ks r z x) \/ (x<z/\tm ks r x z<tm ks r x y)):=by
 obtain⟨m,p,w1,P1,hp,ea,ec,g⟩:=w.tile h;have lm:=P1.len;have nd:m.Nodup:=da.mpr λi j hi hj hij z=>by
  have:=P1.inj i j ⋯ ⋯ (by simp only[de,av hi,av hj,US];exact z);right
 refine⟨m.take p,g,nd.sublist (zl _ _),λz=>?_⟩;rw[Lm P1 hp,ea];constructor
 ·intro hb;obtain⟨i,j,q1,q2,q3,q4⟩:=id hb;have hi:=P1.bd i ⋯;rw[q3] at hi;have zx:z≠x:=λe=>by
   have:=P1.inj i j ⋯ ⋯ (by rw[q3,q4];exact e);right
  have jp:=P1.inj j p ⋯ ⋯ (by rw[q4,ea]);have zy:z≠y:=λe=>by
   have:=P1.inj i (p+1) ⋯ ⋯ (by rw[q3,ec];exact e);right
  refine⟨hi.1,⋯,zx,zy,?_⟩;rcases Vi zx with q | q
  ·refine .inl ⟨q,?_⟩;have n1:¬tm ks r z x<tm ks r x y:=λc=>hb.anti P1 ((w.sw_iff w1 ⋯ hi.1 q ⋯).mpr c);have n2:tm ks r z x≠tm ks r x y:=λc=>by have:=Di h c.symm;right
   right
  ·exact .inr ⟨q,(w.sw_iff w1 ⋯ h0 q ⋯).mp hb⟩
 ·rintro⟨z0,zn,zx,zy,q | q⟩
  ·rcases Bf.tot P1 (x:=z) (y:=x) z0 ⋯ h0 ⋯ zx with c | c
   ·exact c
   ·have:=(w.sw_iff w1 ⋯ z0 q.1 ⋯).mp c;right
  ·exact(w.sw_iff w1 ⋯ h0 q.1 ⋯).mpr q.2
structure Tms(n:Nat)(kk:Int->Int)(T:Int->Int->Nat)(L:Nat):Prop where
 mono:∀a b:Int,0<=a->a<=b->b<n->kk a<=kk b
 lt:∀a b:Int,0<=a->a<b->b<n->kk a<kk b->T a b<L
 al:∀a b:Int,¬kk a<kk b->T a b=L
 ne:∀a b c d:Int,T a b<L->T a b=T c d->a=c/\b=d
 tri:∀a b c:Int,0<=a->a<b->b<c->c<n->kk a≠kk c->(T a b<T a c/\T a c<T b c) \/ (T b c<T a c/\T a c<T a b)
theorem Walk.tms(w:Walk ks (ids ks.length) r e)(d:eS ks e)(mo:gM ks):Tms ks.length (kd ks) (tm ks r) r.length:=
 ⟨mo,λa b h0 h1 h2 h3=>w.tm_lt d h0 h1 h2 h3,λa b h=>w.tm_alike h,λa b c d h e=>Di h e,λa b c h0 h1 h2 h3 h4=>w.tri d mo h0 h1 h2 h3 h4⟩
section
variable {L:Nat}{kk:Int->Int}{T:Int->Int->Nat}
end
def srt(l:List Int):List Int:=l.mergeSort λa b=>decide (a<=b)
theorem iZ(l:List Int):(srt l).Perm l:=UY l _
theorem Gm(l:List Int):(srt l).Pairwise (· <= ·):=by
 have:=TN (le:=λa b:Int=>decide (a<=b)) (λa b c h1 h2=>by simp at *;right) (λa b=>by simp;right) l;exact this.imp λh=>of_decide_eq_true h
theorem Dg:∀{l m:List Int},l.Perm m->l.Pairwise (· <= ·)->m.Pairwise (· <= ·)->l=m
 | [],m,p,_,_=>(List.nil_perm.mp p).symm
 |x::l,[],p,_,_=>by have:=p.length_eq;simp at this
 |x::l,y::m,p,h1,h2=>by
  obtain⟨a1,a2⟩:=ix.mp h1;obtain⟨b1,b2⟩:=ix.mp h2;have e:x=y:=by
   have i1:x∈y::m:=p.mem_iff.mp (di ..);have i2:y∈x::l:=p.mem_iff.mpr (di ..);rcases dj.mp i1 with z | z
   ·exact z
   ·rcases dj.mp i2 with q | q
    ·exact q.symm
    ·have:=b1 x z;have:=a1 y q;right
  subst e;rw[Dg (List.perm_cons _ |>.mp p) a2 b2]
theorem jR(p:m.Perm l)(h:m.Pairwise (· <= ·)):m=srt l:=Dg (p.trans (iZ l).symm) h (Gm l)
theorem Ck(p:l.Perm m):srt l=srt m:=jR ((iZ l).trans p) (Gm l)
theorem Dl(l:List Int):(srt l).length=l.length:=(iZ l).length_eq
variable {p:Nat}{z:Int}
section
variable {R S cur:List Int}
theorem Bf.mem{x:Int}(h:Bf l x y)(hy:p<l.length)(ey:l.getD p 0=y)(P:Pt n l):x∈l.take p:=by
 obtain⟨i,j,a,b,c,d⟩:=h;have hl:=P.len;have:=P.inj j p ⋯ ⋯ (d.trans ey.symm);subst this;rw[cm];refine⟨i,by rw[dw];right,?_⟩;rw[fk,<- c];simp[de,show i<l.length by right]
theorem vU{x:Int}(hp:p<l.length)(h:x∈l.take p):Bf l x (l.getD p 0):=by
 obtain⟨i,hi,e⟩:=cm.mp h;rw[dw] at hi;rw[fk] at e;exact⟨i,p,⋯,hp,by rw[<- e];simp[de,show i<l.length by right],rfl⟩
theorem Bf.tr{x:Int}(P:Pt n l)(h:Bf l x y)(k:Bf l y z):Bf l x z:=by
 obtain⟨i,j,a,b,c,d⟩:=h;obtain⟨i',j',a',b',c',d'⟩:=k;have hl:=P.len;have:=P.inj j i' ⋯ ⋯ (d.trans c'.symm);exact⟨i,j',⋯,b',c,d'⟩
theorem Bf.ne{x:Int}(P:Pt n l)(h:Bf l x y):x≠y:=λz=>by
 obtain⟨i,j,a,b,c,d⟩:=h;have hl:=P.len;have:=P.inj i j ⋯ ⋯ (c.trans (z.trans d.symm));right
theorem Bf.bd{l:List Int}{x y:Int}{n:Nat}(P:Pt n l)(h:Bf l x y):(0<=x/\x<n)/\0<=y/\y<n:=by
 obtain⟨i,j,a,b,rfl,rfl⟩:=h;have hl:=P.len;exact⟨P.bd i ⋯,P.bd j ⋯⟩
theorem Jv{k:Nat}{t:Int×Int×List Int}(h:t∈tls l (R.take k)):t∈tls l R:=by
 rw[<- iY] at h;exact rn h
theorem Walk.ahead(v:Walk ks (ids ks.length) S cur)(h:Bf (ids ks.length) a b)(no:¬ ∃t∈tls (ids ks.length) S,t.1=a/\t.2.1=b){t:Int×Int×List Int}(ht:(tls (ids ks.length) S)[i]?=aa t):
  ∃(c:List Int) (q:Nat),Pt ks.length c/\q+1<ks.length/\t=(c.getD q 0,c.getD (q+1) 0,c.take q)/\Bf c a b:=by
 obtain⟨c,q,wc,hq,e⟩:=v.at ht;refine⟨c,q,wc.pt (Pt.ids _),hq,e,?_⟩;rcases wc.or (Pt.ids _) h with⟨u,hu,z⟩ | z
 ·exact(no ⟨u,Jv hu,z⟩).elim
 ·exact z
theorem Walk.behind(w:Walk ks (ids ks.length) R e){k j:Nat}{u t:Int×Int×List Int}(hu:(tls (ids ks.length) R)[k]?=aa u)(ht:(tls (ids ks.length) R)[j]?=aa t)(kj:k<j):
  ∃(c:List Int) (q:Nat),Pt ks.length c/\q+1<ks.length/\t=(c.getD q 0,c.getD (q+1) 0,c.take q)/\Bf c u.2.1 u.1:=by
 obtain⟨c,q,wc,hq,ee⟩:=w.at ht;refine⟨c,q,wc.pt (Pt.ids _),hq,ee,?_⟩;refine(wc.key (Pt.ids _) (t:=u) ?_).2.2;rw[<- iY];obtain⟨hk,e2⟩:=cf.mp hu;rw[cm];exact⟨k,by rw[dw];right,by rw[fk];exact e2⟩
theorem greedy(w:Walk ks (ids ks.length) R e)(d:eS ks e)(v:Walk ks (ids ks.length) S cur)(sub:∀t∈tls (ids ks.length) S,∃u∈tls (ids ks.length) R,u.1=t.1/\u.2.1=t.2.1/\u.2.2.Perm t.2.2)(nd:¬eS ks cur):
  ∃i,i+1<ks.length /\ ∃u∈tls (ids ks.length) R,u.1=cur.getD i 0/\u.2.1=cur.getD (i+1) 0/\u.2.2.Perm (cur.take i):=by
 have Pc:=v.pt (Pt.ids _);have lc:=Pc.len;have ex:∃k:Nat,∃u:Int×Int×List Int,(tls (ids ks.length) R)[k]?=aa u /\ ¬ ∃t∈tls (ids ks.length) S,t.1=u.1/\t.2.1=u.2.1:=by
  have:∃p,p+1<ks.length/\kd ks (cur.getD p 0)<kd ks (cur.getD (p+1) 0):=by
   apply oq;intro z;exact nd λp hp=>Int.not_lt.mp λq=>z ⟨p,hp,q⟩
  obtain⟨p,hp,hk⟩:=this;have near:Bf cur (cur.getD p 0) (cur.getD (p+1) 0):=Bf.near ⋯;have b1:=Pc.bd p ⋯;have b2:=Pc.bd (p+1) ⋯;have bi:Bf (ids ks.length) (cur.getD p 0) (cur.getD (p+1) 0):=by
   rcases Bf.tot (Pt.ids ks.length) b1.1 b1.2 b2.1 b2.2 (near.ne Pc) with z | z
   ·exact z
   ·exact(near.anti Pc (v.stay (Pt.ids _) (U5 hk) z)).elim
  obtain⟨u,hu,e1,e2⟩:=w.all (Pt.ids _) d hk bi;obtain⟨k,hk',ek⟩:=cm.mp hu;refine⟨k,u,by rw[av hk',ek],λ⟨t,ht,f1,f2⟩=>?_⟩;have:=(v.key (Pt.ids _) ht).2.2;rw[f1,f2,e1,e2] at this;exact near.anti Pc this
 obtain⟨k,⟨u,hu,no⟩,least⟩:∃k:Nat,(∃u:Int×Int×List Int,(tls (ids ks.length) R)[k]?=aa u /\ ¬ ∃t∈tls (ids ks.length) S,t.1=u.1/\t.2.1=u.2.1) /\ ∀j:Nat,j<k -> ¬ ∃u:Int×Int×List Int,(tls (ids ks.length) R)[j]?=aa u /\ ¬ ∃t∈tls (ids ks.length) S,t.1=u.1/\t.2.1=u.2.1:=by
  obtain⟨k,hk⟩:=ex;induction k using Nat.strongRecOn with
  |ind k ih=>
   by_cases z:∃j:Nat,j<k /\ ∃u:Int×Int×List Int,(tls (ids ks.length) R)[j]?=aa u /\ ¬ ∃t∈tls (ids ks.length) S,t.1=u.1/\t.2.1=u.2.1
   ·obtain⟨j,hj,hh⟩:=z;exact ih j hj hh
   ·exact⟨k,hk,λj hj hh=>z ⟨j,hj,hh⟩⟩
 obtain⟨m,p,wm,hp,eu⟩:=w.at hu;have Pm:=wm.pt (Pt.ids _);have lm:=Pm.len;have um:u∈tls (ids ks.length) R:=fe hu;obtain⟨bab,kab,_⟩:=w.key (Pt.ids _) um;have early:∀t∈tls (ids ks.length) (R.take k),∃s∈tls (ids ks.length) S,s.1=t.1/\s.2.1=t.2.1:=by
  intro t ht;rw[<- iY] at ht;obtain⟨j,hj,ej⟩:=cm.mp ht;rw[dw] at hj;rw[fk] at ej;apply oq;intro z;exact least j ⋯ ⟨t,by rw[av ⋯,ej],z⟩
 have ea:u.1=m.getD p 0:=by rw[eu]
 have eb:u.2.1=m.getD (p+1) 0:=by rw[eu]
 have eB:u.2.2=m.take p:=by rw[eu]
 have mab:Bf m u.1 u.2.1:=by rw[ea,eb];exact Bf.near ⋯
 have cab:Bf cur u.1 u.2.1:=by
  rcases v.or (Pt.ids _) bab with z | z
  ·exact(no z).elim
  ·exact z
 have low:∀z,Bf m z u.1->Bf cur z u.1:=by
  intro z hz;obtain⟨z0,a0⟩:=hz.bd Pm;rcases Bf.tot (Pt.ids ks.length) z0.1 z0.2 a0.1 a0.2 (hz.ne Pm) with q | q
  ·rcases v.or (Pt.ids _) q with⟨t,ht,t1,t2⟩ | q'
   ·exfalso;obtain⟨r,hr,r1,r2,rp⟩:=sub t ht;obtain⟨j,hj,ej⟩:=cm.mp hr;have hrj:(tls (ids ks.length) R)[j]?=aa r:=by rw[av hj,ej]
    obtain⟨i,hi,ei⟩:=cm.mp ht;have hti:(tls (ids ks.length) S)[i]?=aa t:=by rw[av hi,ei]
    have kj:k<j:=by
     rcases sh j k with h | h | h
     ·exfalso;have:r∈tls (ids ks.length) (R.take k):=by
       rw[<- iY,cm];exact⟨j,by rw[dw];right,by rw[fk];exact ej⟩
      have:=(wm.key (Pt.ids _) this).2.2;rw[r1,r2,t1,t2] at this;exact this.anti Pm hz
     ·exfalso;subst h;rw[hrj] at hu;cases hu;exact hz.ne Pm (t1.symm.trans r1.symm)
     ·exact h
    obtain⟨c,q,P1,hq,e1,b1⟩:=w.behind hu hrj kj;obtain⟨c',q',P2,hq',e2,b2⟩:=v.ahead bab no hti;have l1:=P1.len;have l2:=P2.len;have ra:c.getD (q+1) 0=u.1:=by have:=r2.trans t2;rw[e1] at this;exact this
    have ta:c'.getD (q'+1) 0=u.1:=by have:=t2;rw[e2] at this;exact this
    have rz:c.getD q 0=z:=by have:=r1.trans t1;rw[e1] at this;exact this
    have tz:c'.getD q' 0=z:=by have:=t1;rw[e2] at this;exact this
    have m1:u.2.1∈c.take (q+1):=b1.mem ⋯ ra P1;have nz:u.2.1≠z:=λy=>by
     have:Bf m u.2.1 u.1:=by rw[y];exact hz
     exact this.anti Pm mab
    have m2:u.2.1∈c.take q:=by
     obtain⟨x,hx,ex⟩:=cm.mp m1;rw[dw] at hx;rw[fk] at ex;have:x≠q:=λy=>by
      subst y;refine nz ?_;rw[<- ex,<- rz];simp[de,show x<c.length by right]
     rw[cm];exact⟨x,by rw[dw];right,by rw[fk];exact ex⟩
    have m3:u.2.1∈c'.take q':=by
     have:r.2.2=c.take q:=by rw[e1]
     rw[<- this] at m2;have:=rp.mem_iff.mp m2;rw[e2] at this;exact this
    have b3:Bf c' u.2.1 u.1:=by
     have:=vU (l:=c') ⋯ m3;rw[tz] at this;refine this.tr P2 ?_;rw[<- tz,<- ta];exact Bf.near ⋯
    exact b3.anti P2 b2
   ·exact q'
  ·rcases wm.or (Pt.ids _) q with⟨t,ht,t1,t2⟩ | q'
   ·obtain⟨s,hs,s1,s2⟩:=early t ht;have:=(v.key (Pt.ids _) hs).2.2;rw[s1,s2,t1,t2] at this;exact this
   ·exact(q'.anti Pm hz).elim
 have high:∀z,Bf m u.2.1 z->Bf cur u.2.1 z:=by
  intro z hz;obtain⟨a0,z0⟩:=hz.bd Pm;rcases Bf.tot (Pt.ids ks.length) a0.1 a0.2 z0.1 z0.2 (hz.ne Pm) with q | q
  ·rcases v.or (Pt.ids _) q with⟨t,ht,t1,t2⟩ | q'
   ·exfalso;obtain⟨r,hr,r1,r2,rp⟩:=sub t ht;obtain⟨j,hj,ej⟩:=cm.mp hr;have hrj:(tls (ids ks.length) R)[j]?=aa r:=by rw[av hj,ej]
    obtain⟨i,hi,ei⟩:=cm.mp ht;have hti:(tls (ids ks.length) S)[i]?=aa t:=by rw[av hi,ei]
    have kj:k<j:=by
     rcases sh j k with h | h | h
     ·exfalso;have:r∈tls (ids ks.length) (R.take k):=by
       rw[<- iY,cm];exact⟨j,by rw[dw];right,by rw[fk];exact ej⟩
      have:=(wm.key (Pt.ids _) this).2.2;rw[r1,r2,t1,t2] at this;exact this.anti Pm hz
     ·exfalso;subst h;rw[hrj] at hu;cases hu;exact mab.ne Pm (r1.trans t1)
     ·exact h
    obtain⟨c,q,P1,hq,e1,b1⟩:=w.behind hu hrj kj;obtain⟨c',q',P2,hq',e2,b2⟩:=v.ahead bab no hti;have l1:=P1.len;have l2:=P2.len;have rb:c.getD q 0=u.2.1:=by have:=r1.trans t1;rw[e1] at this;exact this
    have tb:c'.getD q' 0=u.2.1:=by have:=t1;rw[e2] at this;exact this
    have m3:u.1∈c'.take q':=b2.mem ⋯ tb P2;have m2:u.1∈c.take q:=by
     have e3:r.2.2=c.take q:=by rw[e1]
     rw[<- e3];refine rp.mem_iff.mpr ?_;rw[e2];exact m3
    have b3:=vU (l:=c) ⋯ m2;rw[rb] at b3;exact b3.anti P1 b1
   ·exact q'
  ·rcases wm.or (Pt.ids _) q with⟨t,ht,t1,t2⟩ | q'
   ·obtain⟨s,hs,s1,s2⟩:=early t ht;have:=(v.key (Pt.ids _) hs).2.2;rw[s1,s2,t1,t2] at this;exact this
   ·exact(q'.anti Pm hz).elim
 obtain⟨i,j,ij,hj,ei,ejb⟩:=cab;have cab:Bf cur u.1 u.2.1:=⟨i,j,ij,hj,ei,ejb⟩;have side:∀z:Int,0<=z->z<ks.length->z≠u.1->z≠u.2.1->Bf m z u.1 \/ Bf m u.2.1 z:=by
  intro z h0 h1 n1 n2;obtain⟨x,hx,ex⟩:=Pm.sur z h0 h1;rcases UJ x p with q | q
  ·exact .inl ⟨x,p,q,⋯,ex,ea.symm⟩
  ·have x1:x≠p:=λy=>n1 (by rw[<- ex,y,ea]);have x2:x≠p+1:=λy=>n2 (by rw[<- ex,y,eb]);exact .inr ⟨p+1,x,⋯,⋯,eb.symm,ex⟩
 have jn:j=i+1:=by
  apply oq;intro ne;have bd:=Pc.bd (i+1) ⋯;have n1:cur.getD (i+1) 0≠u.1:=λy=>by have:=Pc.inj (i+1) i ⋯ ⋯ (y.trans ei.symm);right
  have n2:cur.getD (i+1) 0≠u.2.1:=λy=>by have:=Pc.inj (i+1) j ⋯ ⋯ (y.trans ejb.symm);right
  rcases side _ bd.1 bd.2 n1 n2 with q | q
  ·exact(low _ q).anti Pc ⟨i,i+1,⋯,⋯,ei,rfl⟩
  ·exact(high _ q).anti Pc ⟨i+1,j,⋯,⋯,rfl,ejb⟩
 subst jn;refine⟨i,⋯,u,um,ei.symm,ejb.symm,?_⟩;have nd1:∀{l:List Int},Pt ks.length l -> ∀p,(l.take p).Nodup:=λ{l} P p=>by
  have hl:=P.len;rw[oa,da];intro x y hx hy xy z;rw[dw] at hx hy;rw[fk,fk] at z;have:=P.inj x y ⋯ ⋯ (by simp only[de];rw[av ⋯,av ⋯,z]);right
 rw[eB];refine(yw (nd1 Pm p) (nd1 Pc i)).mpr λz=>⟨λh=>?_,λh=>?_⟩
 ·have:=vU (l:=m) ⋯ h;rw[<- ea] at this;exact(low z this).mem ⋯ ei Pc
 ·have hz:=vU (l:=cur) ⋯ h;rw[ei] at hz;obtain⟨z0,_⟩:=hz.bd Pc;have n2:z≠u.2.1:=λy=>by rw[y] at hz;exact hz.anti Pc cab
  rcases side z z0.1 z0.2 (hz.ne Pc) n2 with q | q
  ·exact q.mem ⋯ ea.symm Pm
  ·exact((cab.tr Pc (high z q)).anti Pc hz).elim
end
abbrev Ti:=Int×Int×List Int
def tS(t:Ti):Ti:=(t.1,t.2.1,srt t.2.2)
def g5(l row:List Int):List Ti:=(tls l row).map tS
abbrev pos(t:Ti):Int:=t.2.2.length
theorem Kb(w:Walk ks l r e)(P:Pt ks.length l):(g5 l r).map pos=r:=by
 induction w with
 |nil l=>rfl
 | @cons l e r p a b w ih=>
  have hl:=P.len;unfold g5 at ih ⊢;rw[tls,cr,cr,bq,ih (P.swap a)];show ((srt (l.take p)).length:Int)::r=_;rw[Dl,dw,pq ⋯]
theorem Bs(h:l.length=m.length)(k:∀i,i<l.length->l.getD i 0=m.getD i 0):l=m:=by
 apply List.ext_getElem h;intro i h1 h2;have:=k i h1;simpa [de,h1,h2] using this
theorem uN(hp:p+1<l.length)(hi:i<l.length)(h1:i≠p)(h2:i≠p+1):(aP l p).getD i 0=l.getD i 0:=by
 rw[Fl.cF hp hi,XQ h2,XQ h1]
variable {q:Nat}
theorem C5(hp:p+1<l.length)(hq:q+1<l.length)(h:p+2<=q \/ q+2<=p):aP (aP l p) q=aP (aP l q) p:=by
 have e1:=Fl.eU hp;have e2:=Fl.eU hq;have e3:=Fl.eU (l:=aP l p) (p:=q) ⋯;have e4:=Fl.eU (l:=aP l q) (p:=p) ⋯;refine Bs ⋯ λi hi=>?_;rw[Fl.cF ⋯ ⋯,Fl.cF (l:=aP l q) ⋯ ⋯,Fl.cF hp ⋯,Fl.cF hp ⋯,Fl.cF hp ⋯,Fl.cF hq ⋯,Fl.cF hq ⋯,Fl.cF hq ⋯]
 (repeat' split)<;>first | rfl | right
theorem F5(hp:p+1<l.length):(aP l p).Perm l:=by
 have e:=Fl.v7 hp;have q:(l.take p++(l.getD (p+1) 0::l.getD p 0::l.drop (p+2))).Perm (l.take p++(l.getD p 0::l.getD (p+1) 0::l.drop (p+2))):=(List.Perm.swap _ _ _).append_left _;rw[<- e] at q;unfold aP;simpa using q
theorem C4(hp:p+1<l.length)(hq:q+1<l.length)(h:p+2<=q \/ q+2<=p):srt ((aP l p).take q)=srt (l.take q):=by
 rcases h with h | h
 ·have:(aP l p).take q=aP (l.take q) p:=by
   have e1:=Fl.eU hp;have e2:(l.take q).length=q:=by simp;right
   have e3:=Fl.eU (l:=l.take q) (p:=p) ⋯;have gt:∀(m:List Int) i,i<q->(m.take q).getD i 0=m.getD i 0:=λm i hi=>by simp[de,gy hi]
   refine Bs (by simp;right) λi hi=>?_;have hi':i<q:=by simp at hi;right
   rw[gt _ _ hi',Fl.cF hp ⋯,Fl.cF ⋯ ⋯,gt _ _ ⋯,gt _ _ ⋯,gt _ _ hi']
  rw[this];exact Ck (F5 (by simp;right))
 ·have:(aP l p).take q=l.take q:=by
   unfold aP;rw[dt,qx (by simp;right),List.take_take,pq ⋯]
  rw[this]
theorem Qq{p q:Int}(w:Walk ks l (p::q::r) e)(P:Pt ks.length l)(h:p+2<=q \/ q+2<=p):
  Walk ks l (q::p::r) e /\ ∃t u B,g5 l (p::q::r)=t::u::B/\g5 l (q::p::r)=u::t::B:=by
 have hl:=P.len;cases w with
 | @cons _ _ _ p a b w=>
  cases w with
  | @cons _ _ _ q a' b' w=>
   have f:p+2<=q \/ q+2<=p:=⋯;have f':q+2<=p \/ p+2<=q:=⋯;have g1:=uN (l:=l) (p:=p) (i:=q) ⋯ ⋯ ⋯ ⋯;have g2:=uN (l:=l) (p:=p) (i:=q+1) ⋯ ⋯ ⋯ ⋯;have g3:=uN (l:=l) (p:=q) (i:=p) ⋯ ⋯ ⋯ ⋯;have g4:=uN (l:=l) (p:=q) (i:=p+1) ⋯ ⋯ ⋯ ⋯;rw[C5 ⋯ ⋯ f] at w;rw[g1,g2] at b';refine⟨.cons a' b' (.cons a (by rw[g3,g4];exact b) w),tS (l.getD p 0,l.getD (p+1) 0,l.take p),tS (l.getD q 0,l.getD (q+1) 0,l.take q),g5 (aP (aP l q) p) r,?_,?_⟩
   ·unfold g5;simp only[tls,bq,cr,g1,g2,tS,C4 (l:=l) (p:=p) (q:=q) ⋯ ⋯ f,C5 (l:=l) (p:=p) (q:=q) ⋯ ⋯ f]
   ·unfold g5;simp only[tls,bq,cr,g3,g4,tS,C4 (l:=l) (p:=q) (q:=p) ⋯ ⋯ f']
theorem Qp:∀(A:List Ti) {u t:Ti} {B:List Ti} {l r e:List Int},Walk ks l r e->Pt ks.length l->g5 l r=A++u::t::B->(pos u+2<=pos t \/ pos t+2<=pos u) -> ∃r',Walk ks l r' e/\g5 l r'=A++t::u::B:=by
 intro A;induction A with
 |nil=>
  intro u t B l r e w P h f;have pr:=Kb w P;rw[h] at pr;simp only[gp,cr] at pr h;rw[<- pr] at w h;obtain⟨w',x,y,B',e1,e2⟩:=Qq w P f;rw[h] at e1;injection e1 with e3 e4;injection e4 with e4 e5;subst e3 e4 e5;exact⟨_,w',e2⟩
 |cons a A ih=>
  intro u t B l r e w P h f;cases w with
  |nil l=>simp[g5,tls] at h
  | @cons l e r p a1 b1 w=>
   unfold g5 at h;rw[tls,cr,jb] at h;injection h with h1 h2;rw[bq] at h2;obtain⟨r',w',e'⟩:=ih w (P.swap a1) h2 f;refine⟨(p:Int)::r',.cons a1 b1 w',?_⟩;unfold g5 at e' ⊢;rw[tls,cr,bq,e',<- h1,bq];rfl
theorem sA{x:Int}:x∈srt l ↔ x∈l:=(iZ l).mem_iff
theorem Ap(X:List Int)(a b:Int)(Y:List Int):aP (X++a::b::Y) X.length=X++b::a::Y:=by
 unfold aP;simp[de]
theorem uM(X:List Int)(a:Int)(Y:List Int):(X++a::Y).getD X.length 0=a:=by simp[de]
theorem Bz(X:List Int)(a b:Int)(Y:List Int):(X++a::b::Y).getD (X.length+1) 0=b:=by simp[de]
theorem Qn:∀(A:List Ti) {B:List Ti} {l r e:List Int},Walk ks l r e->Pt ks.length l->g5 l r=A++B -> ∃m r1 r2,Walk ks l r1 m/\Walk ks m r2 e/\Pt ks.length m/\g5 l r1=A/\g5 m r2=B:=by
 intro A;induction A with
 |nil=>exact λ{B l r e} w P h=>⟨l,[],r,.nil _,w,P,rfl,h⟩
 |cons a A ih=>
  intro B l r e w P h;cases w with
  |nil l=>simp[g5,tls] at h
  | @cons l e r p a1 b1 w=>
   unfold g5 at h;rw[tls,cr,jb] at h;injection h with h1 h2;rw[bq] at h2;obtain⟨m,r1,r2,w1,w2,Pm,e1,e2⟩:=ih w (P.swap a1) h2;refine⟨m,(p:Int)::r1,r2,.cons a1 b1 w1,w2,Pm,?_,e2⟩;unfold g5 at e1 ⊢;rw[tls,cr,h1,bq,e1]
theorem Cd{r1:List Int}(w:Walk ks l r1 m)(r2:List Int):g5 l (r1++r2)=g5 l r1++g5 m r2:=by
 induction w with
 |nil l=>rfl
 | @cons l e r p a b w ih=>
  unfold g5 at ih ⊢;rw[jb,tls,tls,cr,cr,bq,ih,jb]
variable {u:Ti}
theorem So{Y:List Ti}(w:Walk ks l r e)(P:Pt ks.length l)(h:g5 l r=u::Y):∃(p:Nat) (r':List Int),r=(p:Int)::r'/\p+1<ks.length/\kd ks u.1<kd ks u.2.1/\l.getD p 0=u.1/\l.getD (p+1) 0=u.2.1/\srt (l.take p)=u.2.2/\p=u.2.2.length/\Walk ks (aP l p) r' e/\Pt ks.length (aP l p)/\g5 (aP l p) r'=Y:=by
 have hl:=P.len;cases w with
 |nil l=>simp[g5,tls] at h
 | @cons l e r p a b w=>
  unfold g5 at h;rw[tls,cr,bq] at h;injection h with h1 h2;subst h1;refine⟨p,r,rfl,a,b,rfl,rfl,rfl,?_,w,P.swap a,h2⟩;show p=(srt (l.take p)).length;rw[Dl,dw];right
theorem v4(hp:p<l.length):l.take (p+1)=l.take p++[l.getD p 0]:=by
 rw[qa hp];simp[de,hp]
def bar(p q r s:Bool):Prop:=(p≠q/\q≠r) \/ (p≠q/\r≠s) \/ (q≠r/\r≠s)
structure Cs(ks:List Int)(c:Int->Int->Int->Bool):Prop where
 fst:∀a b d:Int,0<=a->a<b->b<d->d<ks.length->kd ks a=kd ks b->c a b d=ao
 lst:∀a b d:Int,0<=a->a<b->b<d->d<ks.length->kd ks a≠kd ks b->kd ks b=kd ks d->c a b d=ai
 four:∀i j k l:Int,0<=i->i<j->j<k->k<l->l<ks.length->kd ks i≠kd ks k->kd ks j≠kd ks l -> ¬bar (c i j k) (c i j l) (c i k l) (c j k l)
def isb(c:Int->Int->Int->Bool)(z x y:Int):Bool:=if z<x then !c z x y else if y<z then !c x y z else decide (x<z)&&decide (z<y)&&c x z y
def Mp(n:Nat)(c:Int->Int->Int->Bool)(t:Ti):Prop:=∀z:Int,0<=z->z<n->(z∈t.2.2 ↔ isb c z t.1 t.2.1=ai)
theorem gM.lt(mo:gM ks){x:Int}(h:kd ks x<kd ks y)(hy:0<=y)(hx:x<ks.length):x<y:=by
 rcases Int.lt_or_le x y with q | q
 ·exact q
 ·have:=mo y x hy q hx;right
variable {κ:Int}
theorem e7{x:Int}(h0:0<=x)(h1:x<ks.length):kd (ks++[κ]) x=kd ks x:=by
 unfold kd;have:x.toNat<ks.length:=⋯;simp[de,bh this,this]
theorem Ig:kd (ks++[κ]) (ks.length:Int)=κ:=by
 unfold kd;simp[de]
theorem ON{c:Int->Int->Int->Bool}(mo:gM (ks++[κ]))(C:Cs (ks++[κ]) c){A B:List Ti}{t:Ti}(w:Walk ks l r e)(P:Pt ks.length l)(h:g5 l r=A++t::u::B)(ft:Mp ks.length c t)(fu:Mp ks.length c u)(nt:c t.1 t.2.1 ks.length=ao)(yu:c u.1 u.2.1 ks.length=ai):pos t+2<=pos u \/ pos u+2<=pos t:=by
 obtain⟨m0,r0,q0,w0,v0,P0,e0,f0⟩:=Qn A w P h;obtain⟨p,q1,rfl,hp,k1,ga,gb,gS,sl,v1,P1,f1⟩:=So v0 P0 f0;obtain⟨q,q2,rfl,hq,k2,ga2,gb2,gS2,sl2,v2,P2,f2⟩:=So v1 P1 f1;obtain⟨a,b,S⟩:=t;obtain⟨a',b',S'⟩:=u;simp only at k1 ga gb gS sl k2 ga2 gb2 gS2 sl2 nt yu;have l0:=P0.len;have ba:=P0.bd p ⋯;have bb:=P0.bd (p+1) hp;rw[ga] at ba;rw[gb] at bb;have lab:(ks++[κ]).length=ks.length+1:=by simp
 have kn:kd (ks++[κ]) (ks.length:Int)=κ:=Ig;have ka:kd (ks++[κ]) a=kd ks a:=e7 ba.1 ba.2;have kb:kd (ks++[κ]) b=kd ks b:=e7 bb.1 bb.2;have ab:a<b:=mo.lt ⋯ bb.1 ⋯;have mb:=mo b ks.length bb.1 ⋯ ⋯;show (S.length:Int)+2<=S'.length \/ (S'.length:Int)+2<=S.length;rw[<- sl,<- sl2];rcases VI (p+2<=q \/ q+2<=p) with z | z
 ·right
 exfalso;rcases(show q=p \/ q=p+1 \/ p=q+1 by right) with rfl | rfl | rfl
 ·rw[cF ⋯ ⋯,XQ ⋯,Yh rfl,gb] at ga2;rw[cF ⋯ ⋯,Yh rfl,ga] at gb2;rw[<- ga2,<- gb2] at k2;right
 ·have hb:b∈S':=by
   rw[<- gS2,sA,v4 (by rw[eU ⋯];right)];refine eg _ ?_;rw[cF ⋯ ⋯,XQ ⋯,Yh rfl,gb];exact eo.mpr rfl
  rw[cF ⋯ ⋯,Yh rfl,ga] at ga2;rw[cF ⋯ ⋯,XQ ⋯,XQ ⋯] at gb2;subst ga2;have bd:=P0.bd (p+1+1) ⋯;have nbd:b≠b':=λz=>by
   have:=P0.inj (p+1) (p+1+1) ⋯ ⋯ (by rw[gb,gb2];exact z);right
  rw[gb2] at bd;have kb':kd (ks++[κ]) b'=kd ks b':=e7 bd.1 bd.2;have ab':a<b':=mo.lt ⋯ bd.1 ⋯;have i1:=(fu b bb.1 bb.2).mp hb;have mb':=mo b' ks.length bd.1 ⋯ ⋯;simp only[isb] at i1;rw[XQ ⋯] at i1;have nk:kd (ks++[κ]) b≠kd (ks++[κ]) ks.length:=λz=>by
   have:=C.lst a b ks.length ba.1 ab bb.2 ⋯ ⋯ z;rw[nt] at this;exact nomatch this
  by_cases z:b'<b
  ·rw[Yh z] at i1;have m2:=mo b' b bd.1 ⋯ ⋯;have f:=C.four a b' b ks.length ba.1 ab' z bb.2 ⋯ ⋯ ⋯;rw[nt,yu] at f;simp only[VJ] at i1;rw[i1] at f;exact f (.inl ⟨by decide,by decide⟩)
  ·rw[XQ z] at i1;simp only[dm,decide_eq_true_eq] at i1;have f:=C.four a b b' ks.length ba.1 ab ⋯ bd.2 ⋯ ⋯ nk;rw[nt,yu,i1.2] at f;exact f (.inl ⟨by decide,by decide⟩)
 ·rw[cF ⋯ ⋯,XQ ⋯,XQ ⋯] at ga2;rw[cF ⋯ ⋯,XQ ⋯,Yh rfl,gb] at gb2;subst gb2;have hx:a'∈S:=by
   rw[<- gS,sA,v4 ⋯];refine eg _ ?_;rw[ga2];exact eo.mpr rfl
  have bx:=P0.bd q ⋯;rw[ga2] at bx;have nax:a'≠a:=λz=>by
   have:=P0.inj q (q+1) ⋯ ⋯ (by rw[ga,ga2];exact z);right
  have kx:kd (ks++[κ]) a'=kd ks a':=e7 bx.1 bx.2;have xb:a'<b:=mo.lt ⋯ bb.1 ⋯;have i1:=(ft a' bx.1 bx.2).mp hx;simp only[isb] at i1;by_cases z:a'<a
  ·rw[Yh z] at i1;simp only[VJ] at i1;have f:=C.four a' a b ks.length bx.1 z ab bb.2 ⋯ ⋯ ⋯;rw[nt,yu,i1] at f;revert f;cases c a' a ks.length<;>simp[bar]
  ·rw[XQ z,XQ ⋯] at i1;simp only[dm,decide_eq_true_eq] at i1;have f:=C.four a a' b ks.length ba.1 ⋯ xb bb.2 ⋯ ⋯ ⋯;rw[nt,yu,i1.2] at f;revert f;cases c a a' ks.length<;>simp[bar]
section
variable {c:Int->Int->Int->Bool}
theorem Ps(mo:gM (ks++[κ]))(C:Cs (ks++[κ]) c)(P:Pt ks.length l)(yu:c u.1 u.2.1 ks.length=ai):∀(D:List Ti) {A X:List Ti} {r:List Int},Walk ks l r e->g5 l r=A++(D++u::X)->(∀t∈g5 l r,Mp ks.length c t)->(∀t∈D,c t.1 t.2.1 ks.length=ao) -> ∃r',Walk ks l r' e/\g5 l r'=A++u::(D++X):=by
 intro D;induction D with
 |nil=>exact λ{A X r} w h _ _=>⟨r,w,h⟩
 |cons t D ih=>
  intro A X r w h f n;obtain⟨r1,w1,h1⟩:=ih (A:=A++[t]) (X:=X) w (by rw[h];simp) f λx hx=>n x (df _ hx);have f':∀x,x=t \/ x=u->Mp ks.length c x:=λx hx=>f x (by rw[h];rcases hx with rfl | rfl<;>simp);have h1':g5 l r1=A++t::u::(D++X):=by rw[h1];simp
  obtain⟨r2,w2,h2⟩:=Qp A w1 P (u:=t) (t:=u) (B:=D++X) h1' (ON mo C w1 P h1' (f' t (.inl rfl)) (f' u (.inr rfl)) (n t (di ..)) yu);exact⟨r2,w2,h2⟩
theorem PM(mo:gM (ks++[κ]))(C:Cs (ks++[κ]) c)(P:Pt ks.length l):∀(D A B:List Ti) {r:List Int},Walk ks l r e->g5 l r=A++(B++D)->(∀t∈g5 l r,Mp ks.length c t)->(∀t∈A,c t.1 t.2.1 ks.length=ai)->(∀t∈B,c t.1 t.2.1 ks.length=ao) -> ∃r' A' B',Walk ks l r' e/\g5 l r'=A'++B'/\(∀t∈g5 l r',Mp ks.length c t)/\(∀t∈A',c t.1 t.2.1 ks.length=ai)/\(∀t∈B',c t.1 t.2.1 ks.length=ao):=by
 intro D;induction D with
 |nil=>exact λA B r w h f a b=>⟨r,A,B,w,by rw[h];simp,f,a,b⟩
 |cons u D ih=>
  intro A B r w h f a b;cases q:c u.1 u.2.1 ks.length with
  |true=>
   obtain⟨r1,w1,h1⟩:=Ps mo C P q B w h f b;refine ih (A++[u]) B w1 (by rw[h1];simp) (λt ht=>f t ?_) (λt ht=>?_) b
   ·rw[h1] at ht;rw[h];simp only[fj,dj] at ht ⊢;rcases ht with ht | ht | ht | ht
    ·exact .inl ht
    ·exact .inr (.inr (.inl ht))
    ·exact .inr (.inl ht)
    ·exact .inr (.inr (.inr ht))
   ·rcases fj.mp ht with ht | ht
    ·exact a t ht
    ·rw[eo.mp ht];exact q
  |false=>
   refine ih A (B++[u]) w (by rw[h];simp) f a λt ht=>?_;rcases fj.mp ht with ht | ht
   ·exact b t ht
   ·rw[eo.mp ht];exact q
theorem v8(X M:List Int)(p:Nat):aP (X++M) (X.length+p)=X++aP M p:=by
 unfold aP;rw[sx,show X.length+p+2=X.length+(p+2) by right,List.drop_length_add_append];simp[de,bo,nj]
theorem j7(X M:List Int)(p:Nat):(X++M).getD (X.length+p) 0=M.getD p 0:=by
 simp[de,bo]
theorem Walk.ext(z:Int)(w:Walk ks l r e):Pt ks.length l->Walk (ks++[κ]) (l++[z]) r (e++[z])/\g5 (l++[z]) r=g5 l r:=by
 induction w with
 |nil l=>exact λ_=>⟨.nil _,rfl⟩
 | @cons l e r p a b w ih=>
  intro P;have hl:=P.len;obtain⟨w1,h1⟩:=ih (P.swap a);have g1:(l++[z]).getD p 0=l.getD p 0:=by simp[de,bh (show p<l.length by right)]
  have g2:(l++[z]).getD (p+1) 0=l.getD (p+1) 0:=by simp[de,bh (show p+1<l.length by right)]
  have s:aP (l++[z]) p=aP l p++[z]:=by
   unfold aP;rw[g1,g2,qx ⋯,List.drop_append_of_le_length ⋯];simp
  have b1:=P.bd p ⋯;have b2:=P.bd (p+1) a;refine⟨.cons (by simp;right) (by rw[g1,g2,e7 b1.1 b1.2,e7 b2.1 b2.2];exact b) (by rw[s];exact w1),?_⟩;unfold g5 at h1 ⊢;rw[tls,tls,cr,cr,bq,g1,g2,s,h1,qx ⋯]
def QY(z:Int)(t:Ti):Ti:=(t.1,t.2.1,srt (z::t.2.2))
theorem Walk.shift{L:List Int}(z:Int)(w:Walk ks l r e):Pt ks.length l -> ∀M,l=L++M->(∀x∈L,∀y:Int,0<=y->y<ks.length->kd ks y<=kd ks x) -> ∃M' r',e=L++M'/\Walk (ks++[κ]) (L++z::M) r' (L++z::M')/\g5 (L++z::M) r'=(g5 l r).map (QY z):=by
 induction w with
 |nil l=>exact λ_ M h _=>⟨M,[],h,.nil _,rfl⟩
 | @cons l e r p a b w ih=>
  rintro P M rfl mx;have hl:=P.len;have b1:=P.bd p ⋯;have b2:=P.bd (p+1) a;rcases UJ p L.length with q | q
  ·have:=mx (L.getD p 0) (by simp[de,q]) _ b2.1 b2.2;have e1:(L++M).getD p 0=L.getD p 0:=by simp[de,bh q]
   rw[e1] at b;right
  ·obtain⟨k,rfl⟩:=Nat.exists_eq_add_of_le q;obtain⟨M',r',e1,w1,h1⟩:=ih (P.swap a) (aP M k) (v8 L M k) mx;have g1:(L++z::M).getD (L.length+k+1) 0=(L++M).getD (L.length+k) 0:=by
    rw[nj,j7,j7];rfl
   have g2:(L++z::M).getD (L.length+k+1+1) 0=(L++M).getD (L.length+k+1) 0:=by
    rw[nj,nj,nj,j7,j7];rfl
   have s:aP (L++z::M) (L.length+k+1)=L++z::aP M k:=by
    rw[nj,v8];rfl
   refine⟨M',((L.length+k+1:Nat):Int)::r',e1,.cons (by simp;right) (by rw[g1,g2,e7 b1.1 b1.2,e7 b2.1 b2.2];exact b) (by rw[s];exact w1),?_⟩;unfold g5 at h1 ⊢;rw[tls,tls,cr,cr,cr,bq,bq,g1,g2,s,h1];congr 1;unfold tS QY;simp only;congr 2;rw[nj,sx,sx,yv];exact Ck (List.perm_middle.trans ((iZ _).symm.cons z))
theorem sweep{K X:List Int}:∀(N Y:List Int),(∀i∈N,kd K i<kd K z)->X.length+N.length+Y.length+1=K.length -> ∃r,Walk K (X++(N.reverse++z::Y)) r (X++z::(N.reverse++Y)) /\ ∀t∈g5 (X++(N.reverse++z::Y)) r,∃M1 i M2,N.reverse=M1++i::M2/\t=(i,z,srt (X++M1)):=by
 intro N;induction N with
 |nil=>exact λY _ _=>⟨[],.nil _,λt ht=>nomatch ht⟩
 |cons i N ih=>
  intro Y h hl;rw[cg] at hl;obtain⟨r,w,ht⟩:=ih (i::Y) (λx hx=>h x (df _ hx)) (by rw[cg];right);have e1:X++((i::N).reverse++z::Y)=(X++N.reverse)++i::z::Y:=by simp
  have e2:X++(N.reverse++z::i::Y)=(X++N.reverse)++z::i::Y:=by simp
  have e3:X++z::((i::N).reverse++Y)=X++z::(N.reverse++i::Y):=by simp
  rw[e2] at w ht;rw[e1,e3];refine⟨((X++N.reverse).length:Int)::r,.cons (by simp;right) (by rw[uM,Bz];exact h i (di ..)) (by rw[Ap];exact w),?_⟩;intro t h1;unfold g5 at h1 ht;rw[tls,cr,bq,Ap,uM,Bz,WZ] at h1;rcases dj.mp h1 with rfl | h1
  ·exact⟨N.reverse,i,[],by simp,rfl⟩
  ·obtain⟨M1,j,M2,q,rfl⟩:=ht t h1;exact⟨M1,j,M2++[i],by simp[q],rfl⟩
theorem N4{p:Int->Prop}:∀l:List Int,(∀i j,i<j->j<l.length->p (l.getD j 0)->p (l.getD i 0)) -> ∃L M,l=L++M/\(∀x∈L,p x) /\ ∀x∈M,¬p x:=by
 intro l;induction l with
 |nil=>exact λ_=>⟨[],[],rfl,(λ_ h=>nomatch h),(λ_ h=>nomatch h)⟩
 |cons a l ih=>
  intro h;rcases VI (p a) with q | q
  ·obtain⟨L,M,e,h1,h2⟩:=ih λi j a b c=>h (i+1) (j+1) ⋯ (by simpa using b) c;refine⟨a::L,M,by rw[e];rfl,λx hx=>?_,h2⟩;rcases dj.mp hx with rfl | hx
   ·exact q
   ·exact h1 x hx
  ·refine⟨[],a::l,rfl,(λ_ h=>nomatch h),λx hx px=>?_⟩;rcases dj.mp hx with rfl | hx
   ·exact q px
   ·obtain⟨j,hj,rfl⟩:=cm.mp hx;refine q (h 0 (j+1) ⋯ (by simpa using hj) ?_);simpa [de,hj] using px
theorem Jw(w:Walk ks l r e):Pt ks.length l -> ∀t∈g5 l r,(0<=t.1/\t.1<ks.length)/\(0<=t.2.1/\t.2.1<ks.length)/\kd ks t.1<kd ks t.2.1 /\ ∀x∈t.2.2,0<=x/\x<ks.length:=by
 induction w with
 |nil l=>exact λ_ t ht=>nomatch ht
 | @cons l e r p a b w ih=>
  intro P t ht;have hl:=P.len;unfold g5 at ht ih;rw[tls,cr,bq] at ht;rcases dj.mp ht with rfl | ht
  ·refine⟨P.bd p ⋯,P.bd (p+1) a,b,λx hx=>?_⟩;have hx:=rn (sA.mp hx);obtain⟨j,hj,rfl⟩:=cm.mp hx;have:=P.bd j ⋯;simpa [de,hj] using this
  ·exact ih (P.swap a) t ht
theorem J7(n:Nat):ids (n+1)=ids n++[(n:Int)]:=by simp[ids,Wr]
theorem gM.old(mo:gM (ks++[κ])):gM ks:=λa b h0 h1 h2=>by
 have:=mo a b h0 h1 (by simp;right);rwa[e7 h0 ⋯,e7 ⋯ h2] at this
theorem Cs.old(C:Cs (ks++[κ]) c):Cs ks c:=by
 refine⟨λa b d h0 h1 h2 h3 h4=>C.fst a b d h0 h1 h2 (by simp;right) ?_,λa b d h0 h1 h2 h3 h4 h5=>C.lst a b d h0 h1 h2 (by simp;right) ?_ ?_,λi j k l h0 h1 h2 h3 h4 h5 h6=>C.four i j k l h0 h1 h2 h3 (by simp;right) ?_ ?_⟩
 ·rw[e7 ⋯ ⋯,e7 ⋯ ⋯];exact h4
 ·rw[e7 ⋯ ⋯,e7 ⋯ ⋯];exact h4
 ·rw[e7 ⋯ ⋯,e7 ⋯ ⋯];exact h5
 ·rw[e7 ⋯ ⋯,e7 ⋯ ⋯];exact h5
 ·rw[e7 ⋯ ⋯,e7 ⋯ ⋯];exact h6
theorem Ea{n x:Int}(h1:x<y)(h2:y<n):isb c n x y = !c x y n:=by
 unfold isb;rw[XQ ⋯,Yh h2]
theorem exfit(c:Int->Int->Int->Bool):∀(n:Nat) (ks:List Int),ks.length=n->gM ks->Cs ks c -> ∃r e,Walk ks (ids ks.length) r e/\eS ks e /\ ∀t∈g5 (ids ks.length) r,Mp ks.length c t:=by
 intro n;induction n with
 |zero=>
  intro ks hl _ _;refine⟨[],ids ks.length,.nil _,λp hp=>by right,λt ht=>nomatch ht⟩
 |succ n ih=>
  intro K hK mo C;have hne:K≠[]:=λz=>by rw[z] at hK;exact nomatch hK
  obtain⟨ks,κ,rfl⟩:∃ks κ,K=ks++[κ]:=⟨K.dropLast,K.getLast hne,(rj hne).symm⟩;have hn:ks.length=n:=by simpa using hK
  obtain⟨r,e,w,d,f⟩:=ih ks hn mo.old C.old;have P:=Pt.ids ks.length;obtain⟨r',A,B,w',h',f',fA,fB⟩:=PM mo C P (g5 _ r) [] [] w rfl f (λt h=>nomatch h) (λt h=>nomatch h);obtain⟨m,r1,r2,w1,w2,Pm,e1,e2⟩:=Qn A w' P h';have lK:(ks++[κ]).length=ks.length+1:=by simp
  have ko:∀{x:Int},0<=x->x<ks.length->kd (ks++[κ]) x=kd ks x:=λh0 h1=>e7 h0 h1;have kn:kd (ks++[κ]) (ks.length:Int)=κ:=Ig;have kmax:∀x:Int,0<=x->x<ks.length->kd ks x<=κ:=λx h0 h1=>by
   have:=mo x ks.length h0 ⋯ ⋯;rwa[ko h0 h1,kn] at this
  have ex:∀x y:Int,0<=x->x<y->y<ks.length->kd ks x<kd ks y->(c x y ks.length=ai->Bf m y x)/\(c x y ks.length=ao->Bf m x y):=by
   intro x y h0 hxy hy k;have b0:=t5 h0 hxy hy;constructor
   ·intro q;obtain⟨t,ht,rfl,rfl⟩:=w'.all P d k b0;have i1:tS t∈A++B:=h' ▸ vo ht;rcases fj.mp i1 with i1 | i1
    ·rw[<- e1] at i1;obtain⟨u,hu,eu⟩:=jg.mp i1;have:=(w1.key P hu).2.2;have q1:(tS u).1=(tS t).1:=congrArg (λx=>x.1) eu;rw[show (tS u).1=u.1 from rfl,show (tS t).1=t.1 from rfl] at q1;have q2:u.2.1=t.2.1:=congrArg (λx=>x.2.1) eu;rwa[q1,q2] at this
    ·have:=fB _ i1;rw[show c (tS t).1 (tS t).2.1 ks.length=c t.1 t.2.1 ks.length from rfl,q] at this;exact nomatch this
   ·intro q;rcases w1.or P b0 with⟨t,ht,rfl,rfl⟩ | h
    ·have:=fA (tS t) (e1 ▸ vo ht);rw[show c (tS t).1 (tS t).2.1 ks.length=c t.1 t.2.1 ks.length from rfl,q] at this;exact nomatch this
    ·exact h
  have al:∀x y:Int,0<=x->x<y->y<ks.length->kd ks x=kd ks y->Bf m x y:=λx y h0 hxy hy k=>w1.stay P ⋯ (t5 h0 hxy hy);have lm:=Pm.len;obtain⟨L,M,rfl,hL,hM⟩:=N4 (p:=λx=>kd ks x=κ) m λi j hij hj pj=>by
   have bi:=Pm.bd i ⋯;have bj:=Pm.bd j ⋯;have ki:=kmax _ bi.1 bi.2;rcases qv ki with q | q
   ·have lt:=mo.lt (x:=m.getD i 0) (y:=m.getD j 0) (by rw[ko bi.1 bi.2,ko bj.1 bj.2,pj];exact q) bj.1 ⋯;have:=(ex _ _ bi.1 lt bj.2 (by rw[pj];exact q)).1 (C.lst _ _ _ bi.1 lt bj.2 ⋯ (by rw[ko bi.1 bi.2,ko bj.1 bj.2];right) (by rw[ko bj.1 bj.2,kn];exact pj));exact(this.anti Pm ⟨i,j,hij,hj,rfl,rfl⟩).elim
   ·exact q
  rw[ef] at lm;have mem_bd:∀x∈L++M,0<=x/\x<ks.length:=λx hx=>by
   obtain⟨j,hj,rfl⟩:=cm.mp hx;have:=Pm.bd j (by rw[ef] at hj;right);rwa[show (L++M).getD j 0=(L++M)[j] by simp only[de,av hj,US]] at this
  obtain⟨w1',h1'⟩:=w1.ext (κ:=κ) (ks.length:Int) P;obtain⟨rs,ws,hs⟩:=sweep (K:=ks++[κ]) (X:=L) (z:=(ks.length:Int)) M.reverse [] (λi hi=>by
   have hi:=List.mem_reverse.mp hi;have b:=mem_bd i (eg _ hi);have k1:=kmax i b.1 b.2;have k2:=hM i hi;rw[ko b.1 b.2,kn];right) (by simp;right)
  rw[UK,gv] at ws;rw[UK] at hs;obtain⟨M',r3,ee,w3,h3⟩:=w2.shift (κ:=κ) (ks.length:Int) Pm M rfl λx hx y y0 y1=>by
   rw[hL x hx];exact kmax y y0 y1
  subst ee;have ei:ids (ks++[κ]).length=ids ks.length++[(ks.length:Int)]:=by rw[lK];exact J7 _
  rw[show L++M++[(ks.length:Int)]=L++(M++[(ks.length:Int)]) by simp] at w1';have wall:=w1'.append (ws.append w3);have PK:=Pt.ids (ks++[κ]).length;rw[ei] at PK;have Pe:=wall.pt PK;have Pe0:=w2.pt Pm;have le0:=Pe0.len;rw[ef] at le0;rw[ei];refine⟨_,_,wall,λp hp=>?_,λt ht=>?_⟩
  ·rw[lK] at hp;have bp:=Pe.bd (p+1) ⋯;have mx:kd (ks++[κ]) ((L++(ks.length:Int)::M').getD (p+1) 0)<=κ:=by
    have:=mo _ ks.length bp.1 ⋯ ⋯;rwa[kn] at this
   rcases sh p L.length with q | q | q
   ·have e1:(L++(ks.length:Int)::M').getD p 0=L.getD p 0:=by simp[de,bh q]
    have i1:L.getD p 0∈L:=by simp[de,q]
    have b:=mem_bd _ (gq _ i1);rw[e1,ko b.1 b.2,hL _ i1];exact mx
   ·rw[q,uM,kn,<- q];exact mx
   ·obtain⟨k,rfl⟩:=Nat.exists_eq_add_of_lt q;have g1:(L++(ks.length:Int)::M').getD (L.length+k+1) 0=(L++M').getD (L.length+k) 0:=by
     rw[nj,j7,j7];rfl
    have g2:(L++(ks.length:Int)::M').getD (L.length+k+1+1) 0=(L++M').getD (L.length+k+1) 0:=by
     rw[nj,nj,nj,j7,j7];rfl
    have b1:=Pe0.bd (L.length+k) ⋯;have b2:=Pe0.bd (L.length+k+1) ⋯;rw[g1,g2,ko b1.1 b1.2,ko b2.1 b2.2];exact d _ ⋯
  ·rw[Cd w1',Cd ws,h1',h3,e1,e2] at ht;have fit:∀t∈A++B,Mp ks.length c t:=λt ht=>f' t (by rw[h'];exact ht);have tin:∀t∈A++B,_:=λt ht=>Jw w' P t (by rw[h'];exact ht);have spl:∀{z:Int},z<((ks++[κ]).length:Nat)->z<ks.length \/ z=ks.length:=λh=>by right
   rcases fj.mp ht with ht | ht
   ·obtain⟨i1,i2,i3,i4⟩:=tin t (gq _ ht);have lt:=mo.old.lt i3 i2.1 i1.2;intro z z0 z1;rcases spl z1 with z1 | rfl
    ·exact fit t (gq _ ht) z z0 z1
    ·rw[Ea lt i2.2,fA t ht];refine⟨λq=>?_,λq=>nomatch q⟩;have:=i4 _ q;right
   rcases fj.mp ht with ht | ht
   ·obtain⟨M1,i,M2,eM,rfl⟩:=hs t ht;have hi:i∈L++M:=by rw[eM];simp
    have bi:=mem_bd i hi;have gi:(L++M).getD (L++M1).length 0=i:=by
     rw[eM,<- dt];exact uM _ _ _
    have li:(L++M1).length<(L++M).length:=by rw[eM];simp
    have tk:(L++M).take (L++M1).length=L++M1:=by
     rw[eM,<- dt,WZ]
    have iff:∀z,z∈L++M1 ↔ Bf (L++M) z i:=λz=>by
     refine⟨λh=>?_,λh=>?_⟩
     ·have:=vU li (x:=z) (by rw[tk];exact h);rwa[gi] at this
     ·have:=h.mem li gi Pm;rwa[tk] at this
    have ne:∀z,Bf (L++M) z z->False:=λz h=>h.anti Pm h;have kin:kd ks i≠κ:=hM i (by rw[eM];simp);intro z z0 z1;simp only;rw[sA,iff];rcases spl z1 with z1 | rfl
    ·rcases Int.lt_trichotomy z i with q | q | q
     ·unfold isb;rw[Yh q];have km:=mo.old z i z0 ⋯ bi.2;rcases qv km with k | k
      ·have E:=ex z i z0 q bi.2 k;cases v:c z i ks.length with
       |true=>exact⟨λh=>(h.anti Pm (E.1 v)).elim,λh=>nomatch h⟩
       |false=>exact⟨λ_=>rfl,λ_=>E.2 v⟩
      ·rw[C.fst z i ks.length z0 q bi.2 ⋯ (by rw[ko z0 z1,ko bi.1 bi.2];exact k)];exact⟨λ_=>rfl,λ_=>al z i z0 q bi.2 k⟩
     ·subst q;unfold isb;rw[XQ ⋯,XQ ⋯];refine⟨λh=>(ne _ h).elim,λh=>?_⟩;simp at h
     ·unfold isb;rw[XQ ⋯,XQ ⋯,decide_eq_true q,decide_eq_true z1];have km:=mo.old i z bi.1 ⋯ z1;rcases qv km with k | k
      ·have E:=ex i z bi.1 q z1 k;cases v:c i z ks.length with
       |true=>exact⟨λ_=>rfl,λ_=>E.1 v⟩
       |false=>exact⟨λh=>(h.anti Pm (E.2 v)).elim,λh=>nomatch h⟩
      ·rw[C.fst i z ks.length bi.1 q z1 ⋯ (by rw[ko z0 z1,ko bi.1 bi.2];exact k)];exact⟨λh=>(h.anti Pm (al i z bi.1 q z1 k)).elim,λh=>nomatch h⟩
    ·unfold isb;rw[XQ ⋯,XQ ⋯];refine⟨λh=>?_,λh=>?_⟩
     ·have:=mem_bd _ (rn (h.mem li gi Pm));right
     ·simp at h
   ·obtain⟨t,hB,rfl⟩:=jg.mp ht;obtain⟨i1,i2,i3,i4⟩:=tin t (eg _ hB);have lt:=mo.old.lt i3 i2.1 i1.2;intro z z0 z1;show z∈srt (_::t.2.2) ↔ isb c z t.1 t.2.1=ai;rw[sA,dj];rcases spl z1 with z1 | rfl
    ·rw[<- fit t (eg _ hB) z z0 z1];exact⟨λh=>h.resolve_left ⋯,.inr⟩
    ·rw[Ea lt i2.2,fB t hB];exact⟨λ_=>rfl,λ_=>.inl rfl⟩
end
end Fl
variable {rows:List Sf.Rw}
namespace Lw
open L2 Z
open Sf (Rw crs uR Pre Good aJ bG)
abbrev rD(r:Rw):Dv:=.tup [.int r.x,.int r.y,.int r.m]
abbrev CV(rows:List Rw):List Dv:=rows.map rD
abbrev bO(r:List Int):List Dv:=r.map Dv.int
abbrev CZ(rows:List Rw):List Dv:=rows.map λr=>.tup [.int r.x,.int r.y]
abbrev c7(C:ae)(rows:List Rw):Dv:=.obj C [("kinds",.tup (bO (aJ rows))),("vectors",.tup (CZ rows))]
abbrev TJ:Int:=999999999999
def On(r:Rw):Prop:=r.up /\ -999999999999<=r.x/\r.x<=999999999999/\r.y<=999999999999/\1<=r.m
def zA:Fn:=λds Q=>∃n:Int,ds=[.int n]/\Q (.v (.bl ai))
def rF:Fn:=λds Q=>∃r:Rw,ds=[rD r]/\Q (.v (.bl ai))
def sO:Fn:=λds Q=>∃r:Rw,ds=[rD r]/\On r/\Q (.v (.bl ai))
def lX:Fn:=λds Q=>∃r a:Rw,ds=[rD r,rD a]/\On r/\On a/\0<crs a r/\Q (.v (.bl ai))
def lY:Fn:=λds Q=>∃r:Rw,ds=[rD r]/\On r/\Q (.v .non)
def sP:Fn:=λds Q=>∃rows:List Rw,ds=[.lst (CV rows)]/\Good rows/\Q (.v .non)
def rG(C:ae):Fn:=λds Q=>∃rows:List Rw,ds=[.lst (CV rows)]/\Good rows/\Q (.nw (c7 C rows))
theorem LD:∀ds Q,zA ds Q->ds.length=1:=by rintro ds Q ⟨_,rfl,_⟩;rfl
theorem Fj:∀ds Q,rF ds Q->ds.length=1:=by rintro ds Q ⟨_,rfl,_⟩;rfl
theorem EV:∀ds Q,sO ds Q->ds.length=1:=by rintro ds Q ⟨_,rfl,_⟩;rfl
theorem IW:∀ds Q,lX ds Q->ds.length=2:=by rintro ds Q ⟨_,_,rfl,_⟩;rfl
theorem Ia:∀ds Q,lY ds Q->ds.length=1:=by rintro ds Q ⟨_,rfl,_⟩;rfl
theorem LG:∀ds Q,sP ds Q->ds.length=1:=by rintro ds Q ⟨_,rfl,_⟩;rfl
theorem Fk:∀ds Q,rG C ds Q->ds.length+1=2:=by rintro ds Q ⟨_,rfl,_⟩;rfl
theorem O1:MonoF zA:=⟨λds Q Q' w z=>by obtain⟨r,e,h⟩:=z;exact⟨r,e,w _ h⟩⟩
theorem ID:MonoF rF:=⟨λds Q Q' w z=>by obtain⟨r,e,h⟩:=z;exact⟨r,e,w _ h⟩⟩
theorem IJ:MonoF sO:=⟨λds Q Q' w z=>by obtain⟨r,e,a,h⟩:=z;exact⟨r,e,a,w _ h⟩⟩
theorem Ky:MonoF lX:=⟨λds Q Q' w z=>by obtain⟨r,e,a,b,c,d,h⟩:=z;exact⟨r,e,a,b,c,d,w _ h⟩⟩
theorem L0:MonoF lY:=⟨λds Q Q' w z=>by obtain⟨r,e,a,h⟩:=z;exact⟨r,e,a,w _ h⟩⟩
theorem O3:MonoF sP:=⟨λds Q Q' w z=>by obtain⟨r,e,a,h⟩:=z;exact⟨r,e,a,w _ h⟩⟩
theorem IE:MonoF (rG C):=⟨λds Q Q' w z=>by obtain⟨r,e,a,h⟩:=z;exact⟨r,e,a,w _ h⟩⟩
theorem D7:∀ds Q,zA ds Q->pX ↥Q (aM ["thing"] ds):=by
 rintro ds Q ⟨n,rfl,q⟩;ac_nf;exact⟨rfl,rfl,q⟩
theorem qB:∀ds Q,rF ds Q->gR zA ↥Q (aM ["direction"] ds):=by
 rintro ds Q ⟨r,rfl,q⟩;ac_nf;refine⟨rfl,?_⟩;rw[show J3 "tuple" (rD r)=ai from rfl];ac_nf;rw[show (!decide (((0+1+1+1:Nat):Int)=3))=ao from rfl];ac_nf;refine⟨_,rfl,?_⟩;ac_nf;refine⟨_,rfl,?_⟩;ac_nf;refine⟨_,rfl,?_⟩;ac_nf;exact⟨[ai,ai,ai],rfl,q⟩
theorem rS:∀ds Q,sO ds Q->i8 ↥Q (aM ["direction"] ds):=by
 rintro ds Q ⟨r,rfl,⟨hu,h1,h2,h3,_⟩,q⟩;have hy:0<=r.y:=by rcases hu with h | h<;>right
 ac_nf;rw[Yh (show (if r.x<0 then -r.x else r.x)<=999999999999 by split<;>right),decide_eq_true (show (if r.y<0 then -r.y else r.y)<=999999999999 by split<;>right)];exact q
theorem BE:∀ds Q,sO ds Q->nD ↥Q (aM ["direction"] ds):=by
 rintro ds Q ⟨r,rfl,⟨hu,h1,h2,h3,_⟩,q⟩;ac_nf;rcases hu with h | ⟨h,h'⟩
 ·rw[Yh h];exact q
 ·rw[XQ ⋯,Yh h,decide_eq_true h'];exact q
theorem BF:∀ds Q,lX ds Q->nE ↥Q (aM ["direction", "ahead"] ds):=by
 rintro ds Q ⟨r,a,rfl,⟨hu,h1,h2,h3,_⟩,⟨gu,g1,g2,g3,_⟩,hc,q⟩;ac_nf;refine⟨.inl (.inl ⟨⋯,⋯⟩),.inl (.inl ⟨⋯,⋯⟩),?_⟩;rw[decide_eq_true (show 0<a.x*r.y-r.x*a.y from hc)];exact q
theorem rT:∀ds Q,lY ds Q->i9 rF sO sO ↥Q (aM ["direction"] ds):=by
 rintro ds Q ⟨r,rfl,ok,q⟩;ac_nf;refine⟨r,rfl,?_⟩;ac_nf;refine⟨r,rfl,ok,?_⟩;ac_nf;refine⟨r,rfl,ok,?_⟩;ac_nf;rw[XQ (by have:=ok.2.2.2.2;right)];exact q
variable {E:En}
theorem Qt{x:Sl}:∀(rows:List Rw) (s t:Sl),(∀r∈rows,On r)->(∀s,E.nx [x,s,t])->aY (gN 1) (j8 lY lX) [] (CV rows) E [x,s,t]:=by
 intro rows;induction rows with
 |nil=>
  intro s t _ h;ac_nf;exact h s
 |cons r rs ih=>
  intro s t ok h;ac_nf;refine⟨r,rfl,ok r (by simp),?_⟩;ac_nf;exact ih _ _ (λr hr=>ok r (by simp[hr])) h
variable {Q:R->Prop}
theorem Qr:∀(rows:List Rw) (acc:List Int),acc.length+rows.length<=100->Q (.nw (.lst (bO (acc++rows.map (·.m)))))->e9 [.un] (gN 0) jH (aR cR (a8 0) (eC (.int 2))) (CV rows) (bO acc) Q:=by
 intro rows;induction rows with
 |nil=>
  intro acc _ h;ac_nf;simpa using h
 |cons r rs ih=>
  intro acc hl h;simp only[cg] at hl;push_cast [bf];refine⟨⋯,?_⟩;rw[show bO acc++[Dv.int r.m]=bO (acc++[r.m]) by simp];exact ih _ (by simp;right) (by simpa using h)
theorem Qs{x:Sl}:∀(rows:List Rw) (s t:Sl),uR rows->(∀r∈rows,On r)->(∀s t,E.nx [x,s,t])->aY (gT [2,1]) (fZ lY lX) [] (Ae (CV rows) (CV (rows.drop 1))) E [x,s,t]:=by
 intro rows;induction rows with
 |nil=>
  intro s t _ _ h;push_cast [Ae,List.zipWith_nil_left];exact h s t
 |cons a rs ih=>
  intro s t srt ok h;cases rs with
  |nil=>
   push_cast [Ae,List.drop,VG];exact h s t
  |cons b rs=>
   push_cast [Ae,List.drop,VG];refine⟨b,a,rfl,ok b (by simp),ok a (by simp),?_,?_⟩
   ·exact(ix.mp srt).1 b (by simp)
   ·ac_nf;exact ih _ _ (ix.mp srt).2 (λr hr=>ok r (by simp at hr ⊢;exact .inr hr)) h
theorem qC:∀ds Q,sP ds Q->gU lY lX ↥Q (aM ["directions", "direction", "ahead"] ds):=by
 rintro ds Q ⟨rows,rfl,G,q⟩;have lo:=G.lo;have hi:=G.hi;push_cast [bf];refine⟨rfl,?_⟩;rw[show J3 "list" (.lst (CV rows))=ai from rfl];ac_nf;rw[Yh ⋯,decide_eq_true (show (rows.length:Int)<=6 by right)];ac_nf;refine Qt rows _ _ G.ok λs=>?_;ac_nf;refine Qr rows [] (by simp;right) ?_;refine⟨rows.map (·.m),by simp,?_⟩;ac_nf;rw[XQ (by have:=G.tot;unfold Sf.many at this;right)];show aY (gT [2,1]) (fZ lY lX) [] _ _ _;rw[CI ∅,show (CV rows).drop (Int.toNat 1)=CV (rows.drop 1) by simp[CV]];exact Qs rows _ _ G.srt G.ok λs t=>q
theorem Fh(h:∀r∈rows,1<=r.m):∀k,Sf.many (rows.take k)<=Sf.many rows:=by
 induction rows with
 |nil=>intro k;simp
 |cons r rs ih=>
  intro k;cases k with
  |zero=>
   have:=ih (λr hr=>h r (by simp[hr])) 0;have hm:=h r (by simp);simp only[Sf.many,List.take_zero,wp,List.sum_nil,cr,TQ] at *;right
  |succ k=>
   have:=ih (λr hr=>h r (by simp[hr])) k;simp only[Sf.many,yv,cr,TQ] at *;right
theorem OG{x y:Sl}:∀(rs:List Rw) (k:Nat) (ks:List Int) (s t:Sl),(∀r∈rs,1<=r.m)->(ks.length:Int)+Sf.many rs<=12->(∀s t,E.nx [x,y,.own a (.lst (bO (ks++bG k rs))),s,t]) ->
  aY (gT [3,4]) (sH C sP) [] (((CV rs).zipIdx k).map λq=>.tup [.int (q.2:Int),q.1]) E [x,y,.own a (.lst (bO ks)),s,t]:=by
 intro rs;induction rs with
 |nil=>
  intro k ks s t _ _ h;push_cast [Wl];simpa [bG] using h s t
 |cons r rs ih=>
  intro k ks s t ok hb h;have hm:=ok r (by simp);have hp:0<=Sf.many rs:=by
   have:=Fh (λr hr=>ok r (by simp[hr])) (rows:=rs) 0;simpa [Sf.many] using this
  have hb':(ks.length:Int)+(r.m+Sf.many rs)<=12:=by simpa [Sf.many] using hb
  push_cast [Wc,sH,bf];refine⟨⟨⋯,⋯,⋯⟩,?_⟩;have e:(ay r.m.toNat [Dv.int (k:Int)]).flatten=bO (ay r.m.toNat (k:Int)):=by
   rw[qb];simp
  rw[e];refine⟨by simp;right,?_⟩;rw[show bO ks++bO (ay r.m.toNat (k:Int))=bO (ks++ay r.m.toNat (k:Int)) by simp];refine ih (k+1) _ _ _ (λr hr=>ok r (by simp[hr])) (by simp;right) λs t=>?_;rw[dt];exact h s t
theorem OF:∀(rows:List Rw) (acc:List Rw),acc.length+rows.length<=100->Q (.nw (.lst (CZ (acc++rows))))->e9 [.un] (gN 0) jH (gH (a9 (aR cR (a8 0) (eC (.int 0))) (a9 (aR cR (a8 0) (eC (.int 1))) aF))) (CV rows) (CZ acc) Q:=by
 intro rows;induction rows with
 |nil=>
  intro acc _ h;ac_nf;simpa using h
 |cons r rs ih=>
  intro acc hl h;simp only[cg] at hl;push_cast [bf];refine⟨⋯,?_⟩;rw[show CZ acc++[Dv.tup [Dv.int r.x,Dv.int r.y]]=CZ (acc++[r]) by simp];exact ih _ (by simp;right) (by simpa using h)
theorem Ng:∀ds Q,rG C ds Q -> ∀a,Ch C sP { nx:=λρ=>∃d,ρ[0]?=aa (.own a d)/\Q (.nw d),rt:=λ_=>False } (jD C a ["self", "directions", "kinds", "number", "direction"] ds):=by
 rintro ds Q ⟨rows,rfl,G,q⟩ a;have hi:=G.hi;ac_nf;refine⟨rows,rfl,G,?_⟩;ac_nf;intro b;show aY (gT [3,4]) (sH C sP) [] (((CV rows).zipIdx 0).map λq=>.tup [.int (q.2:Int),q.1]) _ [_,_,.own b (.lst (bO [])),_,_];refine OG rows 0 [] _ _ (λr hr=>(G.ok r hr).2.2.2.2) (by simpa using G.tot) λs t=>?_;ac_nf;refine OF rows [] (by simp;right) ?_;ac_nf;exact⟨(by decide:1<1000),_,rfl,q⟩
end Lw
namespace Lw
open L2 Z
open Sf (Rw crs uR Pre Good aJ bG place many)
open Fl (kd ids)
variable {r:List Int}
theorem eR{k:Nat}(h:k<r.length):qZ (bO r) (k:Int)=aa (.int (r.getD k 0)):=by
 rw[kQ ⋯ (by simp;right)];simp[de,h]
theorem f7{i:Int}(h0:0<=i)(h:i<r.length):qZ (bO r) i=aa (.int (r.getD i.toNat 0)):=by
 obtain⟨k,rfl⟩:∃k:Nat,i=k:=⟨i.toNat,⋯⟩;rw[eR ⋯,bq]
theorem vG(n:Nat):aW 0 n=bO (ids n):=by unfold aW;simp
def dU(C:ae):Fn:=λds Q=>∃(rows:List Rw) (b:Nat),ds=[c7 C rows,.int b]/\b<(aJ rows).length/\Q (.v (.int ((aJ rows).getD b 0)))
theorem IY:∀ds Q,dU C ds Q->ds.length=2:=by rintro ds Q ⟨_,_,rfl,_⟩;rfl
theorem d8:MonoF (dU C):=⟨λds Q Q' w z=>by obtain⟨r,b,e,a,h⟩:=z;exact⟨r,b,e,a,w _ h⟩⟩
theorem Nf:∀ds Q,dU C ds Q->Cg C ↥Q (aM ["self", "band"] ds):=by
 rintro ds Q ⟨rows,b,rfl,hb,h⟩;ac_nf;rw[show List.lookup (ii "kinds") [(ii "kinds",Dv.tup (bO (aJ rows))),(ii "vectors",Dv.tup (CZ rows))]=aa (Dv.tup (bO (aJ rows))) from rfl];ac_nf;rw[eR hb];exact h
def cV(C:ae):Fn:=λds Q=>∃rows:List Rw,ds=[c7 C rows]/\Q (.v (.int (aJ rows).length))
theorem IV:∀ds Q,cV C ds Q->ds.length=1:=by rintro ds Q ⟨_,rfl,_⟩;rfl
theorem g7:MonoF (cV C):=⟨λds Q Q' w z=>by obtain⟨r,e,h⟩:=z;exact⟨r,e,w _ h⟩⟩
theorem Nd:∀ds Q,cV C ds Q->Cf C ↥Q (aM ["self"] ds):=by
 rintro ds Q ⟨rows,rfl,h⟩;ac_nf;rw[show List.lookup (ii "kinds") [(ii "kinds",Dv.tup (bO (aJ rows))),(ii "vectors",Dv.tup (CZ rows))]=aa (Dv.tup (bO (aJ rows))) from rfl];push_cast [bf];exact h
abbrev pH(l:List (Int×Int)):List Dv:=l.map λt=>.tup [.int t.1,.int t.2]
abbrev i6(l:List (Int×Int×Int)):List Dv:=l.map λt=>.tup [.int t.1,.int t.2.1,.int t.2.2]
def yF(ks:List Int)(a:Int):Nat->Nat->List (Int×Int)
 |0,_=>[]
 |i+1,b=>(if kd ks a=kd ks b then [] else [(a,(b:Int))])++yF ks a i (b+1)
def lD(ks:List Int):Nat->Nat->List (Int×Int)
 |0,_=>[]
 |i+1,a=>yF ks a (ks.length-(a+1)) (a+1)++lD ks i (a+1)
def eO(ks:List Int):List (Int×Int):=lD ks ks.length 0
def yE(ks:List Int)(a b:Int):Nat->Nat->List (Int×Int×Int)
 |0,_=>[]
 |i+1,c=>(if kd ks c=kd ks b then [] else [(a,b,(c:Int))])++yE ks a b i (c+1)
def eT(ks:List Int)(l:List (Int×Int)):List (Int×Int×Int):=l.flatMap λt=>yE ks t.1 t.2 (ks.length-(t.2.toNat+1)) (t.2.toNat+1)
def bQ(ks:List Int):List (Int×Int×Int):=eT ks (eO ks)
theorem sB(ks:List Int)(a:Int):∀i b,(yF ks a i b).length<=i
 |0,_=>br _
 |i+1,b=>by rw[yF,ef];have:=sB ks a i (b+1);split<;>simp<;>right
theorem rY(ks:List Int):∀i a,(lD ks i a).length<=i*ks.length
 |0,_=>oj _
 |i+1,a=>by rw[lD,ef,Ta];have:=rY ks i (a+1);have:=sB ks a (ks.length-(a+1)) (a+1);right
theorem A3(ks:List Int)(a b:Int):∀i c,(yE ks a b i c).length<=i
 |0,_=>br _
 |i+1,c=>by rw[yE,ef];have:=A3 ks a b i (c+1);split<;>simp<;>right
theorem lS(ks:List Int):∀l,(eT ks l).length<=l.length*ks.length
 | []=>oj _
 |t::l=>by
  have h1:=lS ks l;have h2:=A3 ks t.1 t.2 (ks.length-(t.2.toNat+1)) (t.2.toNat+1);unfold eT at h1 ⊢;rw[VL,ef,cg,Ta];right
theorem Ed(ks:List Int)(a:Int):∀(i b:Nat) (t:Int×Int),t∈yF ks a i b ↔ t.1=a/\(b:Int)<=t.2/\t.2<(b+i:Nat)/\kd ks a≠kd ks t.2
 |0,b,t=>by simp[yF];intro _ h1 h2;right
 |i+1,b,t=>by
  rw[yF,fj,Ed ks a i (b+1) t];obtain⟨x,y⟩:=t;by_cases e:kd ks a=kd ks (b:Int)
  ·rw[Yh e];constructor
   ·rintro(h | ⟨h1,h2,h3,h4⟩)
    ·cases h
    ·exact⟨h1,⋯,⋯,h4⟩
   ·rintro⟨h1,h2,h3,h4⟩;have:y≠(b:Int):=λz=>h4 (by rw[z];exact e);exact .inr ⟨h1,by dsimp only at *;right,by dsimp only at *;right,h4⟩
  ·rw[XQ e];constructor
   ·rintro(h | ⟨h1,h2,h3,h4⟩)
    ·rw[eo] at h;cases h;exact⟨rfl,zw _,by dsimp only;right,e⟩
    ·exact⟨h1,⋯,⋯,h4⟩
   ·rintro⟨h1,h2,h3,h4⟩;by_cases z:y=(b:Int)
    ·exact .inl (by rw[eo,z];dsimp only at h1;rw[h1])
    ·exact .inr ⟨h1,by dsimp only at *;right,by dsimp only at *;right,h4⟩
theorem BX(ks:List Int):∀(i a:Nat) (t:Int×Int),a+i=ks.length->(t∈lD ks i a ↔ (a:Int)<=t.1/\t.1<t.2/\t.2<ks.length/\kd ks t.1≠kd ks t.2)
 |0,a,t,h=>by simp[lD];intro h1 h2 h3;right
 |i+1,a,t,h=>by
  rw[lD,fj,Ed,BX ks i (a+1) t ⋯];constructor
  ·rintro(⟨h1,h2,h3,h4⟩ | ⟨h1,h2,h3,h4⟩)
   ·exact⟨⋯,⋯,⋯,by rw[h1];exact h4⟩
   ·exact⟨⋯,h2,h3,h4⟩
  ·rintro⟨h1,h2,h3,h4⟩;by_cases z:t.1=(a:Int)
   ·exact .inl ⟨z,⋯,⋯,by rw[<- z];exact h4⟩
   ·exact .inr ⟨⋯,h2,h3,h4⟩
theorem lB{t:Int×Int}:t∈eO ks ↔ 0<=t.1/\t.1<t.2/\t.2<ks.length/\kd ks t.1≠kd ks t.2:=BX ks ks.length 0 t ⋯
theorem kK(ks:List Int)(a b:Int):∀(i c:Nat) (t:Int×Int×Int),t∈yE ks a b i c->t.1=a/\t.2.1=b/\(c:Int)<=t.2.2/\t.2.2<(c+i:Nat)/\kd ks t.2.2≠kd ks b
 |0,c,t,h=>by cases h
 |i+1,c,t,h=>by
  rw[yE,fj] at h;rcases h with h | h
  ·split at h
   ·cases h
   ·rename_i e;rw[eo] at h;cases h;exact⟨rfl,rfl,zw _,by dsimp only;right,e⟩
  ·obtain⟨h1,h2,h3,h4,h5⟩:=kK ks a b i (c+1) t h;exact⟨h1,h2,⋯,⋯,h5⟩
theorem uY{t:Int×Int×Int}(h:t∈bQ ks):0<=t.1/\t.1<t.2.1/\t.2.1<t.2.2/\t.2.2<ks.length/\kd ks t.1≠kd ks t.2.1/\kd ks t.2.1≠kd ks t.2.2:=by
 obtain⟨u,hu,ht⟩:=W7.mp h;obtain⟨a1,a2,a3,a4⟩:=lB.mp hu;obtain⟨h1,h2,h3,h4,h5⟩:=kK ks u.1 u.2 _ _ t ht;exact⟨⋯,⋯,⋯,⋯,by rw[h1,h2];exact a4,by rw[h2];exact λz=>h5 z.symm⟩
def eV(C:ae):Fn:=λds Q=>∃rows:List Rw,ds=[c7 C rows]/\(aJ rows).length<=12/\Q (.nw (.lst (pH (eO (aJ rows)))))
theorem Fm:∀ds Q,eV C ds Q->ds.length=1:=by rintro ds Q ⟨_,rfl,_⟩;rfl
theorem lE:MonoF (eV C):=⟨λds Q Q' w z=>by obtain⟨r,e,a,h⟩:=z;exact⟨r,e,a,w _ h⟩⟩
variable {l:ae}{E:En}
theorem Kl{a:Nat}(ha:a<(aJ rows).length):∀(i b:Nat) (acc:List (Int×Int)) (s:Sl),b+i=(aJ rows).length->acc.length+i<=1000 ->
  (∀s,E.nx [.v (c7 C rows),.own l (.lst (pH (acc++yF (aJ rows) a i b))),.v (.int a),s]) ->
  aY (gN 3) (yP C (cV C) (dU C)) [] (aW b i) E [.v (c7 C rows),.own l (.lst (pH acc)),.v (.int a),s]:=by
 intro i;induction i with
 |zero=>
  intro b acc s _ _ h;rw[bK,aZ];exact⟨λp hp=>by simp at hp,by simpa [yF] using h s⟩
 |succ i ih=>
  intro b acc s hb hl h;push_cast [b6,bf];refine⟨rfl,rows,a,rfl,ha,?_⟩;ac_nf;refine⟨rfl,rows,b,rfl,⋯,?_⟩;ac_nf;rw[show ((b:Int)+1)=((b+1:Nat):Int) by right];by_cases e:(aJ rows).getD a 0=(aJ rows).getD b 0
  ·rw[decide_eq_true e];ac_nf;refine ih (b+1) acc _ ⋯ ⋯ λs=>?_;have:=h s;rw[yF,Yh (by simpa [kd] using e)] at this;exact this
  ·rw[decide_eq_false e];ac_nf;refine⟨⋯,?_⟩;rw[show pH acc++[Dv.tup [Dv.int a,Dv.int b]]=pH (acc++[((a:Int),(b:Int))]) by simp];refine ih (b+1) _ _ ⋯ (by simp;right) λs=>?_;have:=h s;rw[yF,XQ (by simpa [kd] using e)] at this;simpa using this
theorem Kk(hn:(aJ rows).length<=12):∀(i a:Nat) (acc:List (Int×Int)) (s t:Sl),a+i=(aJ rows).length->acc.length+i*12<=500 ->
  (∀s t,E.nx [.v (c7 C rows),.own l (.lst (pH (acc++lD (aJ rows) i a))),s,t]) ->
  aY (gN 2) (lJ C (cV C) (dU C)) [] (aW a i) E [.v (c7 C rows),.own l (.lst (pH acc)),s,t]:=by
 intro i;induction i with
 |zero=>
  intro a acc s t _ _ h;rw[bK,aZ];exact⟨λp hp=>by simp at hp,by simpa [lD] using h s t⟩
 |succ i ih=>
  intro a acc s t ha hl h;rw[b6,b5];refine⟨λp hp=>by simp at hp,?_⟩;have nx:∀s t,aY (gN 2) (lJ C (cV C) (dU C)) [] (aW ((a:Int)+1) i) E [.v (c7 C rows),.own l (.lst (pH (acc++yF (aJ rows) a ((aJ rows).length-(a+1)) (a+1)))),s,t]:=λs t=>by
   have il:=sB (aJ rows) a ((aJ rows).length-(a+1)) (a+1);refine ih (a+1) _ s t ⋯ (by simp;right) λs t=>?_;have:=h s t;rw[lD] at this;simpa using this
  generalize aY (gN 2) (lJ C (cV C) (dU C)) [] (aW ((a:Int)+1) i) E=G at nx ⊢;push_cast [lJ];refine⟨rfl,rows,rfl,?_⟩;ac_nf;refine⟨⟨⋯,⋯,⋯⟩,?_⟩;rw[show ((aJ rows).length-((a:Int)+1)).toNat=(aJ rows).length-(a+1) by right,show ((a:Int)+1)=((a+1:Nat):Int) by right];exact Kl ⋯ _ (a+1) acc _ ⋯ ⋯ λs=>nx _ s
theorem Km:∀ds Q,eV C ds Q->yY C (cV C) (dU C) ↥Q (aM ["self", "found", "a", "b"] ds):=by
 rintro ds Q ⟨rows,rfl,hn,h⟩;ac_nf;intro l;refine⟨rfl,rows,rfl,?_⟩;ac_nf;refine⟨⋯,?_⟩;rw[show ((aJ rows).length:Int).toNat=(aJ rows).length by right];refine Kk hn _ 0 [] _ _ ⋯ (by simp;right) λs t=>?_;ac_nf;exact h
end Lw
namespace Lw
open L2 Z
open Sf (Rw crs uR Pre Good aJ bG place many)
open Fl (kd ids)
def iI(C:ae):Fn:=λds Q=>∃rows:List Rw,ds=[c7 C rows]/\(aJ rows).length<=12/\Q (.nw (.lst (i6 (bQ (aJ rows)))))
theorem DK:∀ds Q,iI C ds Q->ds.length=1:=by rintro ds Q ⟨_,rfl,_⟩;rfl
theorem sU:MonoF (iI C):=⟨λds Q Q' w z=>by obtain⟨r,e,a,h⟩:=z;exact⟨r,e,a,w _ h⟩⟩
variable {l:ae}{E:En}
theorem Gg{a b:Int}(hb:0<=b/\b<(aJ rows).length):∀(i c:Nat) (acc:List (Int×Int×Int)) (s:Sl),c+i=(aJ rows).length->acc.length+i<=10000 ->
  (∀s,E.nx [.v (c7 C rows),.own l (.lst (i6 (acc++yE (aJ rows) a b i c))),.v (.int a),.v (.int b),s]) ->
  aY (gN 4) (wM C (eV C) (cV C) (dU C)) [] (aW c i) E [.v (c7 C rows),.own l (.lst (i6 acc)),.v (.int a),.v (.int b),s]:=by
 intro i;induction i with
 |zero=>
  intro c acc s _ _ h;rw[bK,aZ];exact⟨λp hp=>by simp at hp,by simpa [yE] using h s⟩
 |succ i ih=>
  intro c acc s hc hl h;push_cast [b6,bf];refine⟨rfl,rows,c,rfl,⋯,?_⟩;ac_nf;refine⟨rfl,rows,b.toNat,by rw[xi hb.1],⋯,?_⟩;ac_nf;rw[show ((c:Int)+1)=((c+1:Nat):Int) by right];by_cases e:(aJ rows).getD c 0=(aJ rows).getD b.toNat 0
  ·rw[decide_eq_true e];ac_nf;refine ih (c+1) acc _ ⋯ ⋯ λs=>?_;have:=h s;rw[yE,Yh (by simpa [kd] using e)] at this;exact this
  ·rw[decide_eq_false e];ac_nf;refine⟨⋯,?_⟩;rw[show i6 acc++[Dv.tup [Dv.int a,Dv.int b,Dv.int c]]=i6 (acc++[(a,b,(c:Int))]) by simp];refine ih (c+1) _ _ ⋯ (by simp;right) λs=>?_;have:=h s;rw[yE,XQ (by simpa [kd] using e)] at this;simpa using this
theorem Gf(hn:(aJ rows).length<=12):∀(ps:List (Int×Int)) (acc:List (Int×Int×Int)) (s t u:Sl),(∀t∈ps,0<=t.2/\t.2<(aJ rows).length)->acc.length+ps.length*12<=5000 ->
  (∀s t u,E.nx [.v (c7 C rows),.own l (.lst (i6 (acc++eT (aJ rows) ps))),s,t,u]) ->
  aY (gT [2,3]) (k8 C (eV C) (cV C) (dU C)) [] (pH ps) E [.v (c7 C rows),.own l (.lst (i6 acc)),s,t,u]:=by
 intro ps;induction ps with
 |nil=>
  intro acc s t u _ _ h;rw[show pH []=[] from rfl,aZ];exact⟨λp hp=>by simp at hp,by simpa [eT] using h s t u⟩
 |cons p ps ih=>
  intro acc s t u hp hl h;have h0:=hp p (by simp);rw[show pH (p::ps)=.tup [.int p.1,.int p.2]::pH ps from rfl,b5];refine⟨λp hp=>by simp at hp,?_⟩;have il:=A3 (aJ rows) p.1 p.2 ((aJ rows).length-(p.2.toNat+1)) (p.2.toNat+1);have nx:∀s t u,aY (gT [2,3]) (k8 C (eV C) (cV C) (dU C)) [] (pH ps) E [.v (c7 C rows),.own l (.lst (i6 (acc++yE (aJ rows) p.1 p.2 ((aJ rows).length-(p.2.toNat+1)) (p.2.toNat+1)))),s,t,u]:=λs t u=>by
   simp only[cg] at hl;refine ih _ s t u (λt ht=>hp t (df _ ht)) (by simp;right) λs t u=>?_;have:=h s t u;unfold eT at this ⊢;rw[VL] at this;simpa using this
  generalize aY (gT [2,3]) (k8 C (eV C) (cV C) (dU C)) [] (pH ps) E=G at nx ⊢;push_cast [k8];refine⟨rfl,rows,rfl,?_⟩;ac_nf;refine⟨⟨⋯,⋯,⋯⟩,?_⟩;rw[show ((aJ rows).length-(p.2+1)).toNat=(aJ rows).length-(p.2.toNat+1) by right,show (p.2+1)=((p.2.toNat+1:Nat):Int) by right];simp only[cg] at hl;exact Gg h0 _ (p.2.toNat+1) acc _ ⋯ ⋯ λs=>nx _ _ s
theorem HX:∀ds Q,iI C ds Q->v5 C (eV C) (cV C) (dU C) ↥Q (aM ["sides", "told", "a", "b", "c"] ds):=by
 rintro ds Q ⟨rows,rfl,hn,h⟩;have pl:=rY (aJ rows) (aJ rows).length 0;have sq:(aJ rows).length*(aJ rows).length<=12*12:=nc hn hn;ac_nf;intro l;refine⟨rfl,rows,rfl,hn,?_⟩;ac_nf;refine Gf hn (eO (aJ rows)) [] _ _ _ (λt ht=>?_) (by unfold eO;simp;right) λs t u=>?_
 ·obtain⟨a1,a2,a3,a4⟩:=lB.mp ht;exact⟨⋯,a3⟩
 ac_nf;exact h
abbrev Ti:=Int×Int×List Int
abbrev Jy(t:Ti):Dv:=.tup [.int t.1,.int t.2.1,.tup (bO t.2.2)]
abbrev lO(l:List Ti):List Dv:=l.map Jy
abbrev DQ(t:Ti):List bW:=[iw t.1,iw t.2.1]
abbrev Jm(l:List Ti):List (List bW×Dv):=l.map λt=>(DQ t,.tup (bO t.2.2))
def CU(l:List Ti):Prop:=l.Pairwise λt u=>¬(t.1=u.1/\t.2.1=u.2.1)
def oS:Fn:=λds Q=>∃fl:List Ti,ds=[.lst (lO fl)]/\fl.length<=1000/\CU fl/\Q (.nw (.dit (Jm fl)))
theorem DM:∀ds Q,oS ds Q->ds.length=1:=by rintro ds Q ⟨_,rfl,_⟩;rfl
theorem Ff:MonoF oS:=⟨λds Q Q' w z=>by obtain⟨r,e,a,b,h⟩:=z;exact⟨r,e,a,b,w _ h⟩⟩
theorem KP{l:List Ti}{t:Ti}(h:∀u∈l,¬(u.1=t.1/\u.2.1=t.2.1)):B8 (Jm l) (DQ t) (.tup (bO t.2.2))=Jm (l++[t]):=by
 unfold B8;have e:(Jm l).any (λkv=>decide (kv.1=DQ t))=ao:=by
  rw[zh];intro kv hkv;obtain⟨u,hu,rfl⟩:=jg.mp hkv;have:=h u hu;simp only[decide_eq_true_eq];intro z;apply this;simp only[DQ,ww,iw.injEq,and_true] at z;exact z
 rw[e];simp
theorem JZ{x:Sl}:∀(fl acc:List Ti) (s t u:Sl),CU (acc++fl)->acc.length+fl.length<=1000->(∀s t u,E.nx [x,.own a (.dit (Jm (acc++fl))),s,t,u]) ->
  aY (gT [2,3,4]) k9 [] (lO fl) E [x,.own a (.dit (Jm acc)),s,t,u]:=by
 intro fl;induction fl with
 |nil=>
  intro acc s t u _ _ h;rw[show lO []=[] from rfl,aZ];exact⟨λp hp=>by simp at hp,by simpa using h s t u⟩
 |cons p fl ih=>
  intro acc s t u hk hl h;simp only[cg] at hl;rw[show lO (p::fl)=.tup [.int p.1,.int p.2.1,.tup (bO p.2.2)]::lO fl from rfl];push_cast [k9,bf];refine⟨DQ p,rfl,⋯,?_⟩;rw[KP λu hu=>(ou.mp hk).2.2 u hu p (by simp)];exact ih _ _ _ _ (by simpa using hk) (by simp;right) (by simpa using h)
theorem zM:∀ds Q,oS ds Q->lV ↥Q (aM ["_law_tiles", "_law_belows_here", "_law_a", "_law_b", "_law_below"] ds):=by
 rintro ds Q ⟨fl,rfl,hl,hk,h⟩;ac_nf;intro a;refine JZ fl [] _ _ _ (by simpa using hk) (by simp;right) λs t u=>?_;ac_nf;exact h
def GR(l:List Ti)(a c:Int):List Int:=((l.find? λt=>decide (t.1=a/\t.2.1=c)).map λt=>t.2.2).getD []
def Sk(ks:List Int)(l:List Ti):Prop:=∀a c:Int,0<=a->a<c->c<ks.length->kd ks a≠kd ks c -> ∃t∈l,t.1=a/\t.2.1=c
theorem LX(l:List Ti)(a c:Int):(Jm l).find? (λkv=>decide (kv.1=[iw a,iw c]))=(l.find? λt=>decide (t.1=a/\t.2.1=c)).map λt=>(DQ t,.tup (bO t.2.2)):=by
 induction l with
 |nil=>rfl
 |cons t l ih=>
  rw[show Jm (t::l)=(DQ t,.tup (bO t.2.2))::Jm l from rfl];by_cases e:t.1=a/\t.2.1=c
  ·rw[rd (by simpa using e),rd (by simpa using e)];rfl
  ·rw[re (by simpa using e),re (by simpa using e)];exact ih
theorem wB{l:List Ti}{a c:Int}(h:∃t∈l,t.1=a/\t.2.1=c):∃t,(l.find? λt=>decide (t.1=a/\t.2.1=c))=aa t/\t∈l/\t.1=a/\t.2.1=c/\GR l a c=t.2.2:=by
 obtain⟨t,ht,e⟩:=h;cases q:l.find? λt=>decide (t.1=a/\t.2.1=c) with
 |none=>exact absurd (decide_eq_true e) (Vk.mp q t ht)
 |some u=>
  have:=Ww q;refine⟨u,rfl,zb q,(of_decide_eq_true this).1,(of_decide_eq_true this).2,?_⟩;unfold GR;rw[q];rfl
def gM(ks:List Int):Prop:=∀a b:Int,0<=a->a<=b->b<ks.length->kd ks a<=kd ks b
theorem S0(n:Nat)(i:Int):dR n (.int i)=ai:=by cases n<;>rfl
theorem tM(n:Nat):∀l:List Int,okDs n (bO l)=ai
 | []=>rfl
 |i::r=>by
  show (dR n (.int i)&&okDs n (bO r))=ai;rw[tM n r];cases n<;>rfl
theorem tK(hn:ks.length<=12):(bQ ks).length<=1728:=by
 have h1:=rY ks ks.length 0;have h2:=lS ks (eO ks);have sq:ks.length*ks.length<=12*12:=nc hn hn;have h3:(eO ks).length*ks.length<=144*12:=nc (by unfold eO;right) hn;unfold bQ;right
end Lw
namespace Lw
open L2 Z
open Sf (Rw crs uR Pre Good aJ bG place many)
open Fl (kd ids Walk eS tls pc aP Pt)
theorem tZ{u k:Int}(h0:-1000000<k)(hk:k<1000000):tY u k:=.inl (.inr ⟨⋯,⋯⟩)
def jJ:Fn:=λds Q=>∃(ns:List Int) (k:Int),ds=[.scr ns,.int k]/\0<=k /\ ∀c:Int,Q (.v (.int c))
theorem Ib:∀ds Q,jJ ds Q->ds.length=2:=by rintro ds Q ⟨_,_,rfl,_⟩;rfl
theorem ET:MonoF jJ:=⟨λds Q Q' w z=>by obtain⟨r,e,a,b,h⟩:=z;exact⟨r,e,a,b,λc=>w _ (h c)⟩⟩
theorem wX:∀ds Q,jJ ds Q->kT ↥Q (aM ["_law_script", "_law_k"] ds):=by
 rintro ds Q ⟨ns,k,rfl,h0,h⟩;ac_nf;by_cases hk:k<(ns.length:Int)
 ·rw[Yh hk,kQ h0 hk,av ⋯];exact h _
 ·rw[XQ hk];exact h 5
def oQ:Fn:=λds Q=>∃(ns:List Int) (k:Int),ds=[.scr ns,.int k,.int 8] /\ ∀m:Int,6<=m->m<=12->Q (.v (.int m))
theorem IU:∀ds Q,oQ ds Q->ds.length=3:=by rintro ds Q ⟨_,_,rfl,_⟩;rfl
theorem Kx:MonoF oQ:=⟨λds Q Q' w z=>by obtain⟨r,e,a,h⟩:=z;exact⟨r,e,a,λm x y=>w _ (h m x y)⟩⟩
theorem D4:∀ds Q,oQ ds Q->pU jJ ↥Q (aM ["_law_script", "_law_k", "_law_usual"] ds):=by
 rintro ds Q ⟨ns,k,rfl,h⟩;ac_nf;by_cases hk:k=0
 ·rw[Yh hk];refine⟨ns,0,rfl,⋯,λc=>?_⟩;ac_nf;refine⟨tZ ∅ ∅,?_⟩;split
  ·exact h 12 ⋯ ⋯
  ·exact h 8 ⋯ ⋯
 ·rw[XQ hk];exact h 8 ⋯ ⋯
def kG:Fn:=λds Q=>∃(c step m:Int),ds=[.int c,.int step,.int m]/\0<=step/\step<=500/\0<m /\ ∀q:Int,0<=q->q<m->Q (.v (.int q))
theorem IT:∀ds Q,kG ds Q->ds.length=3:=by rintro ds Q ⟨_,_,_,rfl,_⟩;rfl
theorem Kw:MonoF kG:=⟨λds Q Q' w z=>by obtain⟨r,e,a,b,c,d,f,h⟩:=z;exact⟨r,e,a,b,c,d,f,λm x y=>w _ (h m x y)⟩⟩
theorem D3:∀ds Q,kG ds Q->pT ↥Q (aM ["_law_cell", "_law_step", "_law_many_here"] ds):=by
 rintro ds Q ⟨c,k,m,rfl,h0,h1,hm,h⟩;have hkk:0<=k*k/\k*k<=500*500:=⟨X0 h0 h0,X1 h1 h1 h0 ⋯⟩;ac_nf;refine⟨.inl (.inl ⟨by decide,by decide⟩),tZ ∅ ∅,tZ ⋯ ⋯,tZ ⋯ ⋯,hm,?_⟩;exact h _ (Tb _ ⋯) (vp _ hm)
theorem PH{p:Nat}:bO (l.take p)++[.int (l.getD (p+1) 0),.int (l.getD p 0)]++bO (l.drop (p+2))=bO (aP l p):=by unfold aP;simp
def dC:Fn:=λds Q=>∃(Yk:List Int) (p:Nat),ds=[.lst (bO Yk),.int p]/\Yk.length<=100/\p+1<Yk.length/\Q (.nw (.lst (bO (aP Yk p))))
theorem IZ:∀ds Q,dC ds Q->ds.length=2:=by rintro ds Q ⟨_,_,rfl,_⟩;rfl
theorem zZ:MonoF dC:=⟨λds Q Q' w z=>by obtain⟨a,b,c,d,e,h⟩:=z;exact⟨a,b,c,d,e,w _ h⟩⟩
theorem u7:∀ds Q,dC ds Q->jB ↥Q (aM ["_law_path", "_law_p"] ds):=by
 rintro ds Q ⟨Yk,p,rfl,hn,hp,h⟩;have e1:((p:Int)+1)=((p+1:Nat):Int):=⋯;have e2:((p:Int)+2)=((p+2:Nat):Int):=⋯;ac_nf;rw[e1,e2,eR ⋯,eR ⋯,DY ⋯,CI ⋯];simp only[bq,<- VE,<- XW];push_cast [bf,dw,Uw,ef];refine⟨⋯,⋯,?_⟩;have:=PH (l:=Yk) (p:=p);simp only[dt,jb,gp] at this ⊢;rw[this];exact h
def aQ:Nat->List Nat->List Int
 |_,[]=>[]
 |k,c::cs=>ay c (k:Int)++aQ (k+1) cs
theorem qW:∀(k:Nat) (cs:List Nat) (c:Nat),aQ k (cs++[c])=aQ k cs++ay c ((k+cs.length:Nat):Int)
 |_,[],_=>by simp[aQ]
 |k,a::rs,c=>by
  simp only[jb,aQ,qW (k+1) rs c,dt,cg];congr 3;right
theorem pA:∀(k:Nat) (cs:List Nat),(aQ k cs).length=cs.sum
 |_,[]=>rfl
 |k,c::cs=>by simp[aQ,pA (k+1) cs]
structure Cnt(cs:List Nat):Prop where
 lo:2<=cs.length
 hi:cs.length<=6
 ok:∀c∈cs,1<=c
 tot:cs.sum<=12
variable {M Yl:Int}{E:En}{x6 x7:Sl}
theorem R0{c:Int}{k:Nat}{tl:cE}(hk:k<=10)(sp:Int)(hs:M-(l.length:Int)-((n:Int)-(k:Int)-1)=sp)(h1:1<=sp)(h2:sp<=12)
  (h:∀VN:Int,1<=VN->VN<=sp->tl E [.v (.int c),.v (.int M),.v (.int n),.v (.int Yl),.v (.lst (bO l)),.v (.int k),.v (.int sp),.v (.int VN)]):
  aV (cA 6 (aR lC (aR lC (a8 1) (fD d5 (a9 (a8 4) aF))) (aR lC (aR lC (a8 2) (a8 5)) (eC (.int 1)))))
 (aV (cA 7 (aR dD (eC (.int 1)) (aR hW (aR hW (aR gK (aR hW (aR gK (aR dD (a8 0) (aR gK (eC (.int 31)) (a8 5))) (eC (.int 48271))) (eC (.int 2147483647))) (aR dD (aR gK (a8 5) (a8 5)) (eC (.int 17)))) (eC (.int 99991))) (fD vO (a9 (a8 6) (a9 (eC (.int 3)) aF)))))) tl) E [.v (.int c),.v (.int M),.v (.int n),.v (.int Yl),.v (.lst (bO l)),.v (.int k),x6,x7]:=by
 push_cast [bf,hs];generalize hm:(if 3<sp then 3 else sp)=mn;have hmn:1<=mn/\mn<=sp:=by rw[<- hm];split<;>right
 have kk:(k:Int)*k<=10*10:=X1 ⋯ ⋯ ⋯ ⋯;have kk0:0<=(k:Int)*k:=X0 ⋯ ⋯;refine⟨.inl (.inl ⟨by decide,by decide⟩),tZ ∅ ∅,tZ ⋯ ⋯,tZ ⋯ ⋯,⋯,?_⟩;generalize (c+31*(k:Int))*48271 % 2147483647*((k:Int)*k+17) % 99991=q;have a1:=Tb q (show mn≠0 by right);have a2:=vp q (show 0<mn by right);exact h _ ⋯ ⋯
variable {x0 x1 x2:Sl}
theorem Qz{sp VN k:Int}(h1:1<=sp)(h2:sp<=12)(c1:1<=VN)(c2:VN<=sp)(ll:l.length<=100)
  (h:∀Yl VN:Int,1<=VN->VN<=sp->E.nx [x0,x1,x2,.v (.int Yl),.v (.lst (bO l++(ay VN.toNat [Dv.int k]).flatten)),.v (.int k),.v (.int sp),.v (.int VN)]):
  aV (jI (bI (aR EI (a8 3) (eC (.int 1)))) (aV (cA 7 (aR dD (eC (.int 1)) (aR hW (a8 3) (a8 6))))
 (cA 3 (aR n5 (a8 3) (a8 6)))) cB)
 (cA 4 (aR dD (a8 4) (aR gK (jL (a9 (a8 5) aF)) (a8 7)))) E [x0,x1,x2,.v (.int Yl),.v (.lst (bO l)),.v (.int k),.v (.int sp),.v (.int VN)]:=by
 have fl:∀m:Nat,(ay m [Dv.int k]).flatten.length=m:=λm=>by rw[qb];simp
 push_cast [bf,fl];split
 ·have a1:=Tb Yl (show sp≠0 by right);have a2:=vp Yl (show 0<sp by right);exact⟨⋯,⋯,⋯,⋯,h _ _ ⋯ ⋯⟩
 ·exact⟨⋯,⋯,h _ _ c1 c2⟩
theorem SQ{d:Dv}{x3 x4 x5:Sl}{Q:List Sl->Prop}(h:Q [x0,x1,x2,x3,x4,.v d,x6,x7]):gN 5 d [x0,x1,x2,x3,x4,x5,x6,x7] Q:=by
 ac_nf;exact h
theorem Lo{c:Int}(hn:n<=6)(hM:M<=12):∀(i k:Nat) (Yl:Int) (cs:List Nat) (s5 s6 s7:Sl),k+i=n->cs.length=k->(∀x∈cs,1<=x)->(cs.sum:Int)+i<=M ->
  (∀(Yl:Int) (cs:List Nat) (s5 s6 s7:Sl),cs.length=n->(∀x∈cs,1<=x)->(cs.sum:Int)<=M->E.nx [.v (.int c),.v (.int M),.v (.int n),.v (.int Yl),.v (.lst (bO (aQ 0 cs))),s5,s6,s7]) ->
  aY (gN 5) iW [] (aW k i) E [.v (.int c),.v (.int M),.v (.int n),.v (.int Yl),.v (.lst (bO (aQ 0 cs))),s5,s6,s7]:=by
 intro i;induction i with
 |zero=>
  intro k Yl cs s5 s6 s7 hk hl ok ht h;rw[bK,aZ];exact⟨λp hp=>by simp at hp,h _ _ _ _ _ ⋯ ok ⋯⟩
 |succ i ih=>
  intro k Yl cs s5 s6 s7 hk hl ok ht h;rw[b6,b5];refine⟨λp hp=>by simp at hp,?_⟩;have next:∀(Yl VN:Int) (s5 s6 s7:Sl),1<=VN->VN+cs.sum+i<=M->aY (gN 5) iW [] (aW ((k:Int)+1) i) E [.v (.int c),.v (.int M),.v (.int n),.v (.int Yl),.v (.lst (bO (aQ 0 cs)++(ay VN.toNat [Dv.int (k:Int)]).flatten)),s5,s6,s7]:=λYl VN s5 s6 s7 c1 c2=>by
   have e2:(ay VN.toNat [Dv.int (k:Int)]).flatten=bO (ay VN.toNat (k:Int)):=by
    rw[qb];simp
   have e3:bO (aQ 0 cs)++bO (ay VN.toNat (k:Int))=bO (aQ 0 (cs++[VN.toNat])):=by
    rw[qW,hl,rq];simp
   rw[e2,e3];exact ih (k+1) Yl (cs++[VN.toNat]) s5 s6 s7 ⋯ (by simp;right) (λx hx=>by
    rcases fj.mp hx with hx | hx
    ·exact ok x hx
    ·rw[eo.mp hx];right) (by simp;right) h
  generalize aY (gN 5) iW [] (aW ((k:Int)+1) i) E=nx at *;have bl:=pA 0 cs;exact SQ (R0 ⋯ _ rfl ⋯ ⋯ λVN c1 c2=>Qz ⋯ ⋯ c1 c2 ⋯ λYl VN d1 d2=>next Yl VN _ _ _ d1 ⋯)
def l8:Fn:=λds Q=>∃c M:Int,ds=[.int c,.int M]/\6<=M/\M<=12 /\ ∀cs,Cnt cs->Q (.v (.lst (bO (aQ 0 cs))))
theorem Ft:∀ds Q,l8 ds Q->ds.length=2:=by rintro ds Q ⟨_,_,rfl,_⟩;rfl
theorem IN:MonoF l8:=⟨λds Q Q' w z=>by obtain⟨c,M,e,a,b,h⟩:=z;exact⟨c,M,e,a,b,λr g=>w _ (h r g)⟩⟩
theorem BJ:∀ds Q,l8 ds Q->nK ↥Q (aM ["_law_cell", "_law_most_here", "_law_kinds", "_law_rest", "_law_bands_here", "_law_k", "_law_spare", "_law_count"] ds):=by
 rintro ds Q ⟨c,M,rfl,M6,M12,h⟩;ac_nf;obtain⟨n,hn,h2,h6⟩:∃n:Nat,2+c % 5=(n:Int)/\2<=n/\n<=6:=⟨(2+c % 5).toNat,⋯,⋯,⋯⟩;rw[hn];refine⟨⋯,?_⟩;rw[bq];refine Lo h6 M12 n 0 _ [] _ _ _ ⋯ rfl (λx hx=>by simp at hx) (by simp;right) λYl cs s5 s6 s7 l ok t=>?_;ac_nf;exact h cs ⟨⋯,⋯,ok,⋯⟩
theorem qX(k:Nat)(cs:List Nat):(aQ k cs).Pairwise (· <= ·) /\ ∀x∈aQ k cs,(k:Int)<=x:=by
 induction cs generalizing k with
 |nil=>exact⟨List.Pairwise.nil,λx hx=>by cases hx⟩
 |cons c cs ih=>
  obtain⟨i1,i2⟩:=ih (k+1);rw[aQ];refine⟨ou.mpr ⟨?_,i1,λa ha b hb=>?_⟩,λx hx=>?_⟩
  ·rw[da];intro i j hi hj _;simp
  ·rw[gm ha];have:=i2 b hb;right
  ·rcases fj.mp hx with hx | hx
   ·rw[gm hx];exact zw _
   ·have:=i2 x hx;right
theorem wL(cs:List Nat):gM (aQ 0 cs):=λa b h0 hab hb=>by
 have pw:=da.mp (qX 0 cs).1;show (aQ 0 cs).getD a.toNat 0<=(aQ 0 cs).getD b.toNat 0;have e1:(aQ 0 cs).getD a.toNat 0=(aQ 0 cs)[a.toNat]'⋯:=by simp[de,show a.toNat<(aQ 0 cs).length by right]
 have e2:(aQ 0 cs).getD b.toNat 0=(aQ 0 cs)[b.toNat]'⋯:=by simp[de,show b.toNat<(aQ 0 cs).length by right]
 rw[e1,e2];rcases UJ a.toNat b.toNat with h | h
 ·exact pw _ _ _ _ h
 ·have:a.toNat=b.toNat:=⋯;simp[this]
def wJ:List Nat->Nat
 | []=>0
 |c::cs=>c*cs.sum+wJ cs
def PL:List Nat->Nat
 | []=>0
 |c::cs=>c*c+PL cs
theorem BB:∀(k:Nat) (cs:List Nat),pc (aQ k cs)=wJ cs
 |_,[]=>rfl
 |k,c::cs=>by
  rw[aQ,wJ,<- BB (k+1) cs,<- pA (k+1) cs];have hi:=(qX (k+1) cs).2;generalize aQ (k+1) cs=B at hi;induction c with
  |zero=>simp
  |succ c ih=>
   rw[kf,jb,pc,ih,Tj];have e1:(ay c (k:Int)).filter (λy=>decide ((k:Int)<y))=[]:=vq.mpr λx hx=>by rw[gm hx];simp
   have e2:B.filter (λy=>decide ((k:Int)<y))=B:=UZ.mpr λx hx=>by have:=hi x hx;simp;right
   rw[e1,e2,Ta];simp;right
theorem CK:∀cs:List Nat,2*wJ cs+PL cs=cs.sum*cs.sum
 | []=>rfl
 |c::cs=>by
  have ih:=CK cs;rw[wJ,PL,TQ,Ta,WA c,WA cs.sum,<- ih,Xn cs.sum c];right
theorem Dm:∀cs:List Nat,4*cs.sum<=PL cs+4*cs.length
 | []=>br _
 |c::cs=>by
  have ih:=Dm cs;have h:4*c<=c*c+4:=by
   rcases UJ c 4 with z | z
   ·have:c=0 \/ c=1 \/ c=2 \/ c=3:=⋯;rcases this with rfl | rfl | rfl | rfl<;>decide
   ·have:=UL c z;right
  rw[PL,TQ,cg];right
variable {cs:List Nat}
theorem JV(C:Cnt cs):pc (aQ 0 cs)<=60:=by
 rw[BB];have h1:=CK cs;have h2:=Dm cs;have h3:=C.tot;have h4:=C.hi;generalize cs.sum=S at *;have h5:S*S<=12*S:=UL S h3;right
theorem AO(C:Cnt cs):2<=(aQ 0 cs).length/\(aQ 0 cs).length<=12:=by
 rw[pA];have h:∀cs:List Nat,(∀c∈cs,1<=c)->cs.length<=cs.sum:=by
  intro cs;induction cs with
  |nil=>intro _;simp
  |cons c cs ih=>
   intro h;have h1:=h c (by simp);have h2:=ih λx hx=>h x (by simp[hx]);simp only[cg,TQ];right
 have:=h cs C.ok;have:=C.lo;have:=C.tot;right
end Lw
variable {row:List Int}
namespace Lw
open L2 Z
open Sf (Rw crs uR Pre Good aJ bG place many)
open Fl (kd ids Walk eS tls pc aP Pt)
def ascs(ks Yk:List Int):Nat->Nat->List Int
 |0,_=>[]
 |m+1,j=>(if kd ks (Yk.getD j 0)<kd ks (Yk.getD (j+1) 0) then [(j:Int)] else [])++ascs ks Yk m (j+1)
theorem CS(ks Yk:List Int):∀(m j:Nat) (x:Int),x∈ascs ks Yk m j -> ∃p:Nat,x=p/\p<j+m/\kd ks (Yk.getD p 0)<kd ks (Yk.getD (p+1) 0)
 |0,_,_,h=>by cases h
 |m+1,j,x,h=>by
  rw[ascs,fj] at h;rcases h with h | h
  ·split at h
   ·rw[eo] at h;exact⟨j,h,⋯,by assumption⟩
   ·cases h
  ·obtain⟨p,e,l,k⟩:=CS ks Yk m (j+1) x h;exact⟨p,e,⋯,k⟩
theorem CQ(ks Yk:List Int):∀(m j:Nat),ascs ks Yk m j=[] -> ∀p,j<=p->p<j+m->kd ks (Yk.getD (p+1) 0)<=kd ks (Yk.getD p 0)
 |0,_,_,p,h1,h2=>by right
 |m+1,j,h,p,h1,h2=>by
  rw[ascs,List.append_eq_nil_iff] at h;by_cases e:p=j
  ·subst e;have:=h.1;split at this
   ·cases this
   ·right
  ·exact CQ ks Yk m (j+1) h.2 p ⋯ ⋯
theorem CT(ks Yk:List Int):∀(m j:Nat),(ascs ks Yk m j).length<=m
 |0,_=>br _
 |m+1,j=>by rw[ascs,ef];have:=CT ks Yk m (j+1);split<;>simp<;>right
variable {Yk:List Int}{Q:R->Prop}
theorem PR(hn:ks.length<=12)(P:Pt ks.length Yk):∀(m j:Nat) (acc:List Int),j+m+1=ks.length->acc.length+m<=100->Q (.nw (.lst (bO (acc++ascs ks Yk m j)))) ->
  e9 [.un,.v (.lst (bO ks)),.v (.lst (bO Yk))] (gN 0) (bI (aR zO (aR cR (a8 1) (aR cR (a8 2) (a8 0))) (aR cR (a8 1) (aR cR (a8 2) (aR dD (a8 0) (eC (.int 1))))))) (a8 0) (aW j m) (bO acc) Q:=by
 have hl:=P.len;intro m;induction m with
 |zero=>
  intro j acc _ ha h;push_cast [bK];simpa [ascs] using h
 |succ m ih=>
  intro j acc hj ha h;have b1:=P.bd j ⋯;have b2:=P.bd (j+1) ⋯;push_cast [b6,eR (show j<Yk.length by right),show ((j:Int)+1)=((j+1:Nat):Int) by right,eR (show j+1<Yk.length by right),f7 b1.1 (show Yk.getD j 0<ks.length by right),f7 b2.1 (show Yk.getD (j+1) 0<ks.length by right),bf];rw[ascs] at h;by_cases e:kd ks (Yk.getD j 0)<kd ks (Yk.getD (j+1) 0)
  ·rw[Yh e];rw[Yh e] at h;refine⟨⋯,?_⟩;rw[show bO acc++[Dv.int (j:Int)]=bO (acc++[(j:Int)]) by simp];exact ih (j+1) _ ⋯ (by simp;right) (by simpa using h)
  ·rw[XQ e];rw[XQ e] at h;exact ih (j+1) _ ⋯ ⋯ (by simpa using h)
theorem OO:∀l:List Int,eqD (.lst (bO l)) (.lst [])=l.isEmpty
 | []=>by simp[eqD,gO,gO.pyDs,ja,jf]
 |i::l=>by simp[eqD,gO,gO.pyDs,ja,jf]
theorem T6(l:List Int):dR 8 (.lst (bO l))=ai:=tM 7 l
def pZ:Fn:=λds Q=>∃(ks:List Int) (c:Int),ds=[.lst (bO ks),.int c]/\2<=ks.length/\ks.length<=12/\pc ks<=60 /\ ∀row e,Walk ks (ids ks.length) row e->eS ks e->row.length<=60->Q (.nw (.lst (bO row)))
theorem L5:∀ds Q,pZ ds Q->ds.length=2:=by rintro ds Q ⟨_,_,rfl,_⟩;rfl
theorem Nx:MonoF pZ:=⟨λds Q Q' w z=>by obtain⟨a,b,c,d,e,f,h⟩:=z;exact⟨a,b,c,d,e,f,λr x y z u=>w _ (h r x y z u)⟩⟩
variable {tl:cE}{E:En}{x0 x1 x3 x4 x5 x6 x7 x8:Sl}
theorem Pa(hl:Yk.length=ks.length)(h:tl E [x0,x1,.v (.lst (bO Yk)),x3,x4,x5,.v (.int ((ks.length:Int)-1)),x7,x8]):
  aV (cA 6 (aR lC (fD d5 (a9 (a8 2) aF)) (eC (.int 1)))) tl E [x0,x1,.v (.lst (bO Yk)),x3,x4,x5,x6,x7,x8]:=by
 push_cast [bf,hl];exact h
theorem PZ(h2:2<=ks.length)(hn:ks.length<=12)(P:Pt ks.length Yk)(h:tl E [.v (.lst (bO ks)),x1,.v (.lst (bO Yk)),x3,x4,x5,.v (.int ((ks.length:Int)-1)),.v (.lst (bO (ascs ks Yk (ks.length-1) 0))),x8]):
  aV (cA 7 (gD 1 [0,2] (dE (a9 (a8 6) aF)) (gN 0) (bI (aR zO (aR cR (a8 1) (aR cR (a8 2) (a8 0))) (aR cR (a8 1) (aR cR (a8 2) (aR dD (a8 0) (eC (.int 1))))))) (a8 0))) tl E [.v (.lst (bO ks)),x1,.v (.lst (bO Yk)),x3,x4,x5,.v (.int ((ks.length:Int)-1)),x7,x8]:=by
 ac_nf;refine⟨⋯,?_⟩;rw[show ((ks.length:Int)-1).toNat=ks.length-1 by right];exact PR hn P (ks.length-1) 0 [] ⋯ (by simp;right) h
variable {x2:Sl}
theorem PY(h0:l=[]->E.rt (.nw (.lst (bO row))))(h1:l≠[]->tl E [x0,x1,x2,.own a (.lst (bO row)),x4,x5,x6,.v (.lst (bO l)),x8]):
  aV (jI (bI (aR sI (a8 7) (jL aF))) (cM (a8 3)) cB) tl E [x0,x1,x2,.own a (.lst (bO row)),x4,x5,x6,.v (.lst (bO l)),x8]:=by
 push_cast [OO,T6];refine⟨rfl,?_⟩;cases l with
 |nil=>exact h0 rfl
 |cons i l=>exact h1 (by simp)
theorem PX{c k:Int}(hl:l≠[])(hk:0<=k/\k<=500)(h:∀q:Int,0<=q->q<l.length->tl E [x0,.v (.int c),x2,x3,x4,.v (.int k),x6,.v (.lst (bO l)),.v (.int q)]):
  aV (cA 8 (b8 kG (a9 (a8 1) (a9 (a8 5) (a9 (fD d5 (a9 (a8 7) aF)) aF))))) tl E [x0,.v (.int c),x2,x3,x4,.v (.int k),x6,.v (.lst (bO l)),x8]:=by
 have YI:(0:Int)<l.length:=by cases l with | nil=>exact absurd rfl hl | cons=>simp<;>right
 push_cast [bf];refine⟨c,k,l.length,rfl,hk.1,hk.2,YI,λq q0 q1=>?_⟩;ac_nf;exact h q q0 q1
variable {q:Int}
theorem PV{Yl:Int}(hl:l≠[])(ll:l.length<=100)(q0:0<=q)(q1:q<l.length)(h:∀Yl q:Int,0<=q->q<l.length->tl E [x0,x1,x2,x3,.v (.int Yl),x5,x6,.v (.lst (bO l)),.v (.int q)]):
  aV (jI (bI (aR EI (a8 4) (eC (.int 1)))) (aV (cA 8 (aR hW (a8 4) (fD d5 (a9 (a8 7) aF)))) (cA 4 (aR n5 (a8 4) (fD d5 (a9 (a8 7) aF))))) cB) tl E [x0,x1,x2,x3,.v (.int Yl),x5,x6,.v (.lst (bO l)),.v (.int q)]:=by
 have YI:(0:Int)<l.length:=by cases l with | nil=>exact absurd rfl hl | cons=>simp<;>right
 push_cast [bf];split
 ·exact⟨YI,⟨YI,⋯⟩,h _ _ (Tb Yl ⋯) (vp Yl YI)⟩
 ·exact h _ _ q0 q1
theorem PU{p:Nat}(q0:0<=q)(q1:q<l.length)(ep:l.getD q.toNat 0=p)(hp:p+1<Yk.length)(pl:Yk.length<=100)(rl:row.length<=200)(h:E.nx [x0,x1,.v (.lst (bO (aP Yk p))),.own a (.lst (bO row++[Dv.int (p:Int)])),x4,x5,x6,.v (.lst (bO l)),.v (.int q)]):
  aV (nR 3 (aR cR (a8 7) (a8 8))) (cA 2 (b8 dC (a9 (a8 2) (a9 (aR cR (a8 7) (a8 8)) aF)))) E [x0,x1,.v (.lst (bO Yk)),.own a (.lst (bO row)),x4,x5,x6,.v (.lst (bO l)),.v (.int q)]:=by
 push_cast [f7 q0 q1,ep,bf];refine⟨⋯,Yk,p,rfl,pl,hp,?_⟩;ac_nf;exact h
theorem T7{d:Dv}{Q:List Sl->Prop}(h:Q [x0,x1,x2,x3,x4,.v d,x6,x7,x8]):gN 5 d [x0,x1,x2,x3,x4,x5,x6,x7,x8] Q:=by
 ac_nf;exact h
theorem Pb{c:Int}(h2:2<=ks.length)(hn:ks.length<=12)(hp:pc ks<=60)(hQ:∀row e,Walk ks (ids ks.length) row e->eS ks e->row.length<=60->Q (.nw (.lst (bO row))))(hE:E.rt=Q):
  ∀(i k:Nat) (Yl:Int) (Yk row:List Int) (s5 s6 s7 s8:Sl),k+i=ks.length*ks.length->row.length=k->Walk ks (ids ks.length) row Yk ->
  aY (gN 5) (kP kG dC) [] (aW k i) E [.v (.lst (bO ks)),.v (.int c),.v (.lst (bO Yk)),.own a (.lst (bO row)),.v (.int Yl),s5,s6,s7,s8]:=by
 have sq:ks.length*ks.length<=12*12:=nc hn hn;have pl:=Fl.Pz (l:=ks) ⋯;have VN:∀{row Yk},Walk ks (ids ks.length) row Yk->row.length<=pc ks:=λw=>by
  have:=w.count (by simp);rw[Fl.J8] at this;right
 intro i;induction i with
 |zero=>
  intro k Yl Yk row s5 s6 s7 s8 hk rl w;have:=VN w;right
 |succ i ih=>
  intro k Yl Yk row s5 s6 s7 s8 hk rl w;rw[b6,b5];refine⟨λp hp=>by simp at hp,?_⟩;have P:=w.pt (Pt.ids _);have hl:=P.len;have rw60:=VN w;have next:∀(Yl:Int) (p:Nat) (s5 s6 s7 s8:Sl),p+1<ks.length->kd ks (Yk.getD p 0)<kd ks (Yk.getD (p+1) 0) ->
    aY (gN 5) (kP kG dC) [] (aW ((k:Int)+1) i) E [.v (.lst (bO ks)),.v (.int c),.v (.lst (bO (aP Yk p))),.own a (.lst (bO row++[Dv.int (p:Int)])),.v (.int Yl),s5,s6,s7,s8]:=λYl p s5 s6 s7 s8 hp hk'=>by
   have:=ih (k+1) Yl (aP Yk p) (row++[(p:Int)]) s5 s6 s7 s8 ⋯ (by simp[rl]) (w.snoc hp hk');rw[show (((k+1:Nat)):Int)=(k:Int)+1 by right] at this;simpa using this
  generalize aY (gN 5) (kP kG dC) [] (aW ((k:Int)+1) i) E=G at next ⊢;have am:=CS ks Yk (ks.length-1) 0;have an:=CQ ks Yk (ks.length-1) 0;have al:=CT ks Yk (ks.length-1) 0;refine T7 (Pa hl (PZ h2 hn P ?_));generalize ascs ks Yk (ks.length-1) 0=l at am an al;refine PY (λle=>?_) λle=>PX le ⋯ λq q0 q1=>PV le ⋯ q0 q1 λYl q q0 q1=>?_
  ·show E.rt _;rw[hE];exact hQ row Yk w (λp hp=>an le p ⋯ ⋯) ⋯
  ·have hin:l.getD q.toNat 0∈l:=by
    have hk:q.toNat<l.length:=⋯;simp only[de,av hk,US];exact fq hk
   obtain⟨p,ep,lp,kp⟩:=am _ hin;exact PU q0 q1 ep ⋯ ⋯ ⋯ (next Yl p _ _ _ _ ⋯ kp)
theorem FP:∀ds Q,pZ ds Q->sK kG dC ↥Q (aM ["_law_bands_here", "_law_cell", "_law_path", "_law_row_here", "_law_rest", "_law_step", "_law_last", "_law_spots", "_law_pick_here"] ds):=by
 rintro ds Q ⟨ks,c,rfl,h2,hn,hp,h⟩;have sq:ks.length*ks.length<=12*12:=nc hn hn;push_cast [bf];refine⟨⋯,?_⟩;intro a;rw[show ((ks.length:Nat):Int).toNat=ks.length by right,vG ks.length];have e:(ks.length:Int)*(ks.length:Int)=((ks.length*ks.length:Nat):Int):=by simp
 refine⟨tZ ⋯ ⋯,by rw[e];right,?_⟩;rw[e,bq];exact Pb (Q:=Q) h2 hn hp h rfl (ks.length*ks.length) 0 c _ [] _ _ _ _ ⋯ rfl (.nil _)
end Lw
namespace Lw
open L2 Z
open Sf (Rw crs uR Pre Good aJ bG place many)
open Fl (kd ids Walk eS tls pc aP Pt)
def Al(ts us:List Ti):Prop:=ts.length=us.length /\ ∀(i:Nat) (t u:Ti),ts[i]?=aa t->us[i]?=aa u->t.1=u.1/\t.2.1=u.2.1/\t.2.2=Fl.srt u.2.2
theorem Al.nil:Al [] []:=⟨rfl,λi t u h=>by simp at h⟩
variable {ts:List Ti}
theorem Al.snoc{us:List Ti}{t u:Ti}(h:Al ts us)(e1:t.1=u.1)(e2:t.2.1=u.2.1)(e3:t.2.2=Fl.srt u.2.2):Al (ts++[t]) (us++[u]):=by
 refine⟨by simp[h.1],λi x y hx hy=>?_⟩;by_cases hi:i<ts.length
 ·rw[bh hi] at hx;rw[bh (by rw[<- h.1];exact hi)] at hy;exact h.2 i x y hx hy
 ·rw[bo ⋯] at hx;rw[bo (by rw[<- h.1];right)] at hy;have:i-ts.length=0:=by
   have:=(cf.mp hx).1;simp at this;right
  rw[this] at hx;rw[<- h.1,this] at hy;simp only[jt,ip] at hx hy;subst hx hy;exact⟨e1,e2,e3⟩
def j9(ks row:List Int)(fl:List Ti):Prop:=∃ts,fl.Perm ts/\Al ts (tls (ids ks.length) row)
variable {e:List Int}
theorem Al.keys(w:Walk ks (ids ks.length) row e)(h:Al ts (tls (ids ks.length) row)):CU ts:=by
 have nd:=w.nodup (Pt.ids _);rw[oa,iq] at nd;have pw:=da.mp nd;refine da.mpr λi j hi hj hij z=>?_;have hi':i<(tls (ids ks.length) row).length:=by rw[<- h.1];exact hi
 have hj':j<(tls (ids ks.length) row).length:=by rw[<- h.1];exact hj
 obtain⟨a1,a2,_⟩:=h.2 i _ _ (av hi) (av hi');obtain⟨b1,b2,_⟩:=h.2 j _ _ (av hj) (av hj');exact pw i j hi' hj' hij (by rw[<- a1,<- a2,<- b1,<- b2,z.1,z.2])
theorem CU.perm{a b:List Ti}(h:CU a)(p:a.Perm b):CU b:=(p.pairwise_iff (λ{x y} h z=>h ⟨z.1.symm,z.2.symm⟩)).mp h
theorem j9.keys{ks row e:List Int}{fl:List Ti}(w:Walk ks (ids ks.length) row e)(h:j9 ks row fl):CU fl:=by
 obtain⟨ts,p,a⟩:=h;exact(a.keys w).perm p.symm
theorem j9.len{fl:List Ti}(h:j9 ks row fl):fl.length=row.length:=by
 obtain⟨ts,p,a⟩:=h;rw[p.length_eq,a.1,Fl.i5]
theorem j9.cov{fl:List Ti}(w:Walk ks (ids ks.length) row e)(d:eS ks e)(m:gM ks)(h:j9 ks row fl):Sk ks fl:=by
 obtain⟨ts,p,al⟩:=h;intro a c h0 hac hc hk;have:=m a c h0 ⋯ hc;obtain⟨t,ht,e1,e2⟩:=w.all (Pt.ids _) d (x:=a) (y:=c) ⋯ (Fl.t5 h0 hac hc);obtain⟨i,hi,gi⟩:=cm.mp ht;have hi':i<ts.length:=by rw[al.1];exact hi
 obtain⟨a1,a2,_⟩:=al.2 i _ _ (av hi') (av hi);exact⟨ts[i],p.mem_iff.mpr (fq hi'),by rw[a1,gi,e1],by rw[a2,gi,e2]⟩
theorem j9.below{fl:List Ti}(w:Walk ks (ids ks.length) row e)(h:j9 ks row fl){k:Nat}{v:Ti}(hk:(tls (ids ks.length) row)[k]?=aa v):GR fl v.1 v.2.1=Fl.srt v.2.2:=by
 have ky:=h.keys w;obtain⟨ts,p,al⟩:=h;obtain⟨hk',gk⟩:=cf.mp hk;have hi':k<ts.length:=by rw[al.1];exact hk'
 obtain⟨a1,a2,a3⟩:=al.2 k _ _ (av hi') hk;have hm:ts[k]∈fl:=p.mem_iff.mpr (fq hi');obtain⟨u,hu,mu,u1,u2,eu⟩:=wB (l:=fl) (a:=v.1) (c:=v.2.1) ⟨ts[k],hm,a1,a2⟩;have:u=ts[k]:=by
  obtain⟨i,hi,gi⟩:=cm.mp mu;obtain⟨j,hj,gj⟩:=cm.mp hm;have pw:=da.mp ky;rcases sh i j with z | z | z
  ·exact(pw i j hi hj z ⟨by rw[gi,gj,u1,a1],by rw[gi,gj,u2,a2]⟩).elim
  ·subst z;rw[<- gi,gj]
  ·exact(pw j i hj hi z ⟨by rw[gi,gj,u1,a1],by rw[gi,gj,u2,a2]⟩).elim
 rw[eu,this];exact a3
theorem Ge{r:List Int}(w:Walk ks l r e)(p:Nat):tls l (r++[(p:Int)])=tls l r++[(e.getD p 0,e.getD (p+1) 0,e.take p)]:=by
 induction w with
 |nil l=>simp[tls]
 | @cons l e r q a b w ih=>rw[jb,tls,tls,bq,ih,jb]
def TC(fl:List Ti):Prop:=fl.Pairwise λt u=>gW [t.1,t.2.1] [u.1,u.2.1]=ai
def jT:Fn:=λds Q=>∃(ks row e:List Int),ds=[.lst (bO ks),.lst (bO row)]/\ks.length<=12/\Walk ks (ids ks.length) row e/\row.length<=60 /\ ∀fl,j9 ks row fl->TC fl->Q (.nw (.lst (lO fl)))
theorem Fq:∀ds Q,jT ds Q->ds.length=2:=by rintro ds Q ⟨_,_,_,rfl,_⟩;rfl
theorem II:MonoF jT:=⟨λds Q Q' w z=>by obtain⟨a,b,c,d,e,f,g,h⟩:=z;exact⟨a,b,c,d,e,f,g,λr x y=>w _ (h r x y)⟩⟩
variable {Yk:List Int}{p:Nat}{E:En}{x0 x1:Sl}
theorem Qh{ms:List Int}{l:List Dv}{tl:cE}(hp:p+1<Yk.length)(pl:Yk.length<=20)(ll:l.length<=200)(h:∀ms:List Int,ms=Fl.srt (Yk.take p)->tl E [x0,x1,.v (.lst (bO Yk)),.own a (.lst (l++[Dv.tup [Dv.int (Yk.getD p 0),Dv.int (Yk.getD (p+1) 0),Dv.tup (bO ms)]])),.v (.int p)]):
  aV (nR 3 (gH (a9 (aR cR (a8 2) (a8 4)) (a9 (aR cR (a8 2) (aR dD (a8 4) (eC (.int 1)))) (a9 (fD k4 (a9 (fD iQ (a9 (GA (a8 2) g9 (lG (a8 4))) aF)) aF)) aF))))) tl E [x0,x1,.v (.lst (bO Yk)),.own a (.lst l),.v (.int p)]:=by
 push_cast [eR (show p<Yk.length by right),show ((p:Int)+1)=((p+1:Nat):Int) by right,eR hp,DY (show (0:Int)<=p by right),bq,<- VE];refine xY (by rw[dw];right) λms hm hs=>?_;ac_nf;exact⟨⋯,h ms (Fl.jR hm hs)⟩
variable {x3:Sl}
theorem Qg(hp:p+1<Yk.length)(pl:Yk.length<=20)(h:E.nx [x0,x1,.v (.lst (bO (aP Yk p))),x3,.v (.int p)]):cA 2 (b8 dC (a9 (a8 2) (a9 (a8 4) aF))) E [x0,x1,.v (.lst (bO Yk)),x3,.v (.int p)]:=by
 ac_nf;refine⟨Yk,p,rfl,⋯,hp,?_⟩;ac_nf;exact h
theorem T8{d:Dv}{x2 x4:Sl}{Q:List Sl->Prop}(h:Q [x0,x1,x2,x3,.v d]):gN 4 d [x0,x1,x2,x3,x4] Q:=by
 ac_nf;exact h
theorem LW{x y:Sl}(hn:ks.length<=12):∀(r done Yk e:List Int) (ts:List Ti) (s:Sl),Walk ks (ids ks.length) done Yk->Walk ks Yk r e->Al ts (tls (ids ks.length) done)->ts.length+r.length<=100 ->
  (∀Yk ts s,Al ts (tls (ids ks.length) (done++r))->E.nx [x,y,.v (.lst (bO Yk)),.own a (.lst (lO ts)),s]) ->
  aY (gN 4) (iV dC) [] (bO r) E [x,y,.v (.lst (bO Yk)),.own a (.lst (lO ts)),s]:=by
 intro r;induction r with
 |nil=>
  intro done Yk e ts s w1 w2 al hl h;rw[show bO []=[] from rfl,aZ];exact⟨λp hp=>by simp at hp,h Yk ts s (by simpa using al)⟩
 |cons p r ih=>
  intro done Yk e ts s w1 w2 al hl h;obtain⟨p,rfl,hp,hk,w2'⟩:∃q:Nat,p=q/\q+1<ks.length/\kd ks (Yk.getD q 0)<kd ks (Yk.getD (q+1) 0)/\Walk ks (aP Yk q) r e:=by
   cases w2 with
   |cons a b w=>exact⟨_,rfl,a,b,w⟩
  have P:=w1.pt (Pt.ids _);have pl:=P.len;simp only[cg] at hl;rw[show bO ((p:Int)::r)=.int p::bO r from rfl,b5];refine⟨λp hp=>by simp at hp,?_⟩;have next:∀ms:List Int,ms=Fl.srt (Yk.take p)->aY (gN 4) (iV dC) [] (bO r) E [x,y,.v (.lst (bO (aP Yk p))),.own a (.lst (lO ts++[Dv.tup [Dv.int (Yk.getD p 0),Dv.int (Yk.getD (p+1) 0),Dv.tup (bO ms)]])),.v (.int p)]:=λms hm=>by
   have al':Al (ts++[(Yk.getD p 0,Yk.getD (p+1) 0,ms)]) (tls (ids ks.length) (done++[(p:Int)])):=by
    rw[Ge w1];exact al.snoc rfl rfl hm
   have:=ih (done++[(p:Int)]) (aP Yk p) e (ts++[(Yk.getD p 0,Yk.getD (p+1) 0,ms)]) (.v (.int p)) (w1.snoc hp hk) w2' al' (by simp;right) (by simpa using h);simpa using this
  generalize aY (gN 4) (iV dC) [] (bO r) E=G at next ⊢;exact T8 (Qh (ms:=[]) ⋯ ⋯ (by simp;right) λms hm=>Qg ⋯ ⋯ (next ms hm))
theorem BI:∀ds Q,jT ds Q->nJ dC ↥Q (aM ["_law_bands_here", "_law_row_here", "_law_path", "_law_tiles", "_law_p"] ds):=by
 rintro ds Q ⟨ks,row,e,rfl,hn,w,rl,h⟩;push_cast [bf];refine⟨⋯,?_⟩;intro a;rw[show ((ks.length:Nat):Int).toNat=ks.length by right,vG ks.length];refine LW hn row [] (ids ks.length) e [] _ (.nil _) w Al.nil (by simp;right) λYk ts s al=>?_;ac_nf;rw[gp] at al;have tl:ts.length=row.length:=by rw[al.1,Fl.i5]
 rw[show lO ts=(ts.map λt=>([t.1,t.2.1],[Dv.tup (bO t.2.2)])).map tI by rw[ju];rfl];refine xX (k:=1) (by simp;right) (λt ht=>?_) ?_ λts' hp hs=>?_
 ·obtain⟨u,_,rfl⟩:=jg.mp ht;rfl
 ·rw[iq];exact(al.keys w).imp λ{t u} z q=>z (by simpa using q)
 ·obtain⟨fl,hf,rfl⟩:=oW hp rfl;rw[ju];rw[iq] at hs;ac_nf;exact h fl ⟨ts,hf,al⟩ hs
def nP:Fn:=λds Q=>∃(l:List Int) (k:Int),ds=[.lst (bO l),.int k]/\l.length<=100/\Q (.v (.int ((l.filter λb=>decide (b=k)).length)))
theorem Fo:∀ds Q,nP ds Q->ds.length=2:=by rintro ds Q ⟨_,_,rfl,_⟩;rfl
theorem IH:MonoF nP:=⟨λds Q Q' w z=>by obtain⟨a,b,c,d,h⟩:=z;exact⟨a,b,c,d,w _ h⟩⟩
variable {Q:R->Prop}
theorem OM{k:Int}:∀(l acc:List Int),acc.length+l.length<=100->Q (.nw (.lst (bO (acc++l.filter λb=>decide (b=k))))) ->
  e9 [.un,.v (.int k)] (gN 0) (bI (aR sI (a8 0) (a8 1))) (a8 0) (bO l) (bO acc) Q:=by
 intro l;induction l with
 |nil=>
  intro acc _ h;ac_nf;simpa using h
 |cons b l ih=>
  intro acc hl h;simp only[cg] at hl;push_cast [bf];by_cases e:b=k
  ·rw[Yh e];refine⟨⋯,?_⟩;rw[show bO acc++[Dv.int b]=bO (acc++[b]) by simp];refine ih _ (by simp;right) ?_;rw[vg (by simpa using e)] at h;simpa using h
  ·rw[XQ e];refine ih _ ⋯ ?_;rw[vh (by simpa using e)] at h;exact h
theorem D5:∀ds Q,nP ds Q->pV ↥Q (aM ["_law_bands_here", "_law_kind"] ds):=by
 rintro ds Q ⟨l,k,rfl,hl,h⟩;ac_nf;refine OM l [] (by simp;right) ?_;push_cast [bf];exact h
theorem wC:∀(j:Nat) (cs:List Nat) (i:Nat),((aQ j cs).filter λb=>decide (b=((j+i:Nat):Int))).length=cs.getD i 0
 |_,[],i=>by simp[aQ]
 |j,c::cs,0=>by
  have key:∀(k:Nat) (cs:List Nat),j<k->(aQ k cs).filter (λb=>decide (b=((j+0:Nat):Int)))=[]:=by
   intro k cs hk;apply vq.mpr;intro x hx;have:=(qX k cs).2 x hx;simp;right
  rw[aQ,Tj,key (j+1) cs ⋯,gv,UZ.mpr (λx hx=>by rw[gm hx];simp)];simp
 |j,c::cs,i+1=>by
  have e:=wC (j+1) cs i;rw[aQ,Tj,ef];have z:(ay c (j:Int)).filter (λb=>decide (b=((j+(i+1):Nat):Int)))=[]:=by
   apply vq.mpr;intro x hx;rw[gm hx];simp;right
  rw[z,show j+(i+1)=j+1+i by right,e];simp
variable {cs:List Nat}
theorem Da(C:Cnt cs):qZ (bO (aQ 0 cs)) (-1)=aa (.int ((cs.length:Int)-1)):=by
 have hne:cs≠[]:=by intro z;have:=C.lo;rw[z] at this;simp at this
 have e:cs=cs.dropLast++[cs.getLast hne]:=(rj hne).symm;have h1:=C.ok _ (List.getLast_mem hne);have lo:=C.lo;generalize cs.getLast hne=c at *;generalize cs.dropLast=ds at *;subst e;obtain⟨c,rfl⟩:∃k,c=k+1:=⟨c-1,⋯⟩;rw[qW,rq];unfold qZ uI;rw[XQ ∅,Yh (by simp;right)];simp only[bf,ef,ni,Option.bind_some];rw[show (-1+(((aQ 0 ds).length+(c+1):Nat):Int)).toNat=(aQ 0 ds).length+c by right];simp
def Gu(k:Nat)(c:Nat):Rw:=⟨6-2*(k:Int),1,(c:Int)⟩
def cY:Nat->List Nat->List Rw
 |_,[]=>[]
 |k,c::cs=>Gu k c::cY (k+1) cs
theorem rJ:∀(k:Nat) (cs:List Nat),(cY k cs).length=cs.length
 |_,[]=>rfl
 |k,c::cs=>by rw[cY,cg,cg,rJ]
theorem vF:∀(k:Nat) (cs:List Nat),bG k (cY k cs)=aQ k cs
 |_,[]=>rfl
 |k,c::cs=>by
  rw[cY,bG,aQ,vF (k+1) cs];rfl
theorem vE:∀(k:Nat) (cs:List Nat) (r:Rw),r∈cY k cs -> ∃(j c:Nat),r=Gu j c/\k<=j/\j<k+cs.length/\c∈cs
 |_,[],r,h=>by cases h
 |k,c::cs,r,h=>by
  rcases dj.mp h with rfl | h
  ·exact⟨k,c,rfl,br _,by simp,by simp⟩
  ·obtain⟨j,d,e,h1,h2,h3⟩:=vE (k+1) cs r h;exact⟨j,d,e,⋯,by simp;right,by simp[h3]⟩
theorem B3:∀(k:Nat) (cs:List Nat),uR (cY k cs)
 |_,[]=>List.Pairwise.nil
 |k,c::cs=>by
  refine ix.mpr ⟨λr hr=>?_,B3 (k+1) cs⟩;obtain⟨j,d,rfl,h1,_,_⟩:=vE (k+1) cs r hr;show 0<(6-2*(k:Int))*1-(6-2*(j:Int))*1;right
theorem xS:∀(k:Nat) (cs:List Nat),many (cY k cs)=(cs.sum:Int)
 |_,[]=>rfl
 |k,c::cs=>by
  have:=xS (k+1) cs;unfold many at this ⊢;rw[cY,cr,TQ,this,TQ];show (c:Int)+_=_;right
theorem FG(C:Cnt cs):Good (cY 0 cs):=by
 have lo:=C.lo;have hi:=C.hi;have tt:=C.tot;refine⟨by rw[rJ];right,by rw[rJ];right,B3 0 cs,λr hr=>?_,by rw[xS];right⟩;obtain⟨j,c,rfl,_,h2,h3⟩:=vE 0 cs r hr;have:=C.ok c h3;refine⟨.inl (by show (0:Int)<1;decide),?_,?_,?_,?_⟩
 ·show -999999999999<=6-2*(j:Int);right
 ·show 6-2*(j:Int)<=999999999999;right
 ·show (1:Int)<=999999999999;decide
 ·show (1:Int)<=(c:Int);right
def jP(C:ae):Fn:=λds Q=>∃cs:List Nat,ds=[.lst (bO (aQ 0 cs))]/\Cnt cs/\Q (.nw (c7 C (cY 0 cs)))
theorem DL:∀ds Q,jP C ds Q->ds.length=1:=by rintro ds Q ⟨_,rfl,_⟩;rfl
theorem Fe:MonoF (jP C):=⟨λds Q Q' w z=>by obtain⟨a,b,c,h⟩:=z;exact⟨a,b,c,w _ h⟩⟩
theorem xR:∀(k:Nat) (cs:List Nat) (c:Nat),cY k (cs++[c])=cY k cs++[Gu (k+cs.length) c]
 |_,[],_=>by simp[cY]
 |k,a::cs,c=>by
  rw[jb,cY,cY,xR (k+1) cs c,jb,cg,show k+1+cs.length=k+(cs.length+1) by right]
theorem KA(C:Cnt cs):∀(m k:Nat),k+m=cs.length->Q (.nw (.lst (CV (cY 0 cs)))) ->
  e9 [.un,.v (.lst (bO (aQ 0 cs)))] (gN 0) jH (gH (a9 (aR lC (eC (.int 6)) (aR gK (eC (.int 2)) (a8 0))) (a9 (eC (.int 1)) (a9 (b8 nP (a9 (a8 1) (a9 (a8 0) aF))) aF)))) (aW k m) (CV (cY 0 (cs.take k))) Q:=by
 intro m;have hi:=C.hi;have bl:=(AO C).2;induction m with
 |zero=>
  intro k hk h;rw[bK,fT,ph ⋯];exact h
 |succ m ih=>
  intro k hk h;have hlt:k<cs.length:=⋯;have rl:=rJ 0 (cs.take k);rw[dw] at rl;push_cast [b6];refine⟨tZ ⋯ ⋯,aQ 0 cs,k,rfl,⋯,?_⟩;have fb:=wC 0 cs k;rw[rq] at fb;push_cast [fb,bf];refine⟨⋯,?_⟩;have:=ih (k+1) ⋯ h;rw[List.take_add_one,av hlt] at this;simp only[Option.toList_some] at this;rw[xR,rq,dw,pq ⋯,show (((k+1:Nat)):Int)=(k:Int)+1 by right] at this;unfold CV at this ⊢;rw[yk] at this;have ec:cs.getD k 0=cs[k]:=by simp[de,hlt]
  rw[ec];exact this
theorem BG:∀ds Q,jP C ds Q->nG nP (rG C) ↥Q (aM ["_law_bands_here"] ds):=by
 rintro ds Q ⟨cs,rfl,C',h⟩;have hi:=C'.hi;have lo:=C'.lo;push_cast [Da C'];refine⟨⋯,?_⟩;rw[show ((cs.length:Int)-1+1).toNat=cs.length by right];refine KA C' cs.length 0 ⋯ ?_;refine⟨cY 0 cs,rfl,FG C',?_⟩;ac_nf;exact h
theorem DP(cs:List Nat):aJ (cY 0 cs)=aQ 0 cs:=vF 0 cs
end Lw
namespace Lw
open L2 Z
open Sf (Rw crs uR Pre Good aJ bG place many)
open Fl (kd ids Walk eS tls pc aP Pt srt jR)
def aC(ks:List Int)(a b:Int):Nat->Nat->List (Int×Int×Int)
 |0,_=>[]
 |i+1,c=>(if kd ks a<kd ks b/\kd ks b<kd ks c then [(a,b,(c:Int))] else [])++aC ks a b i (c+1)
def aB(ks:List Int)(a:Int):Nat->Nat->List (Int×Int×Int)
 |0,_=>[]
 |i+1,b=>aC ks a b (ks.length-(b+1)) (b+1)++aB ks a i (b+1)
def aA(ks:List Int):Nat->Nat->List (Int×Int×Int)
 |0,_=>[]
 |i+1,a=>aB ks a (ks.length-(a+1)) (a+1)++aA ks i (a+1)
theorem Ml{ks:List Int}(m:gM ks){a b:Int}(h0:0<=a)(hab:a<b)(hb:b<ks.length):∀(i c:Nat),b<c->c+i<=ks.length->aC ks a b i c=if kd ks a=kd ks b then [] else yE ks a b i c
 |0,c,_,_=>by simp[aC,yE]
 |i+1,c,h1,h2=>by
  have m1:=m a b h0 ⋯ ⋯;have m2:=m b c ⋯ ⋯ ⋯;rw[aC,Ml m h0 hab hb i (c+1) ⋯ ⋯];by_cases e:kd ks a=kd ks b
  ·rw[Yh e,Yh e,XQ ⋯];rfl
  ·rw[XQ e,XQ e,yE];by_cases e2:kd ks (c:Int)=kd ks b
   ·rw[Yh e2,XQ ⋯]
   ·rw[XQ e2,Yh ⋯]
theorem Mm{ks:List Int}(m:gM ks){a:Nat}:∀(i b:Nat),a<b->b+i=ks.length->aB ks a i b=eT ks (yF ks a i b)
 |0,b,_,_=>rfl
 |i+1,b,h1,h2=>by
  rw[aB,Ml m ⋯ ⋯ ⋯ _ _ ⋯ ⋯,Mm m i (b+1) ⋯ ⋯,yF];unfold eT;rw[V0];by_cases e:kd ks (a:Int)=kd ks (b:Int)
  ·rw[Yh e,Yh e];rfl
  ·rw[XQ e,XQ e];simp
theorem Mn{ks:List Int}(m:gM ks):∀(i a:Nat),a+i=ks.length->aA ks i a=eT ks (lD ks i a)
 |0,a,_=>rfl
 |i+1,a,h=>by
  rw[aA,Mm m _ _ ⋯ ⋯,Mn m i (a+1) ⋯,lD];unfold eT;rw[V0]
def wS(ks:List Int):Nat->Nat->List (Int×Int×Int)
 |0,_=>[]
 |i+1,k=>(if k / (ks.length*ks.length)<k / ks.length % ks.length/\k / ks.length % ks.length<k % ks.length/\kd ks (k / (ks.length*ks.length):Nat)<kd ks (k / ks.length % ks.length:Nat)/\kd ks (k / ks.length % ks.length:Nat)<kd ks (k % ks.length:Nat) then [(((k / (ks.length*ks.length):Nat):Int),((k / ks.length % ks.length:Nat):Int),((k % ks.length:Nat):Int))] else [])++wS ks i (k+1)
theorem K0(ks:List Int):∀i k,(wS ks i k).length<=i
 |0,_=>br _
 |i+1,k=>by rw[wS,ef];have:=K0 ks i (k+1);split<;>simp<;>right
theorem rB(ks:List Int):∀i j k,wS ks (i+j) k=wS ks i k++wS ks j (k+i)
 |0,j,k=>by rw[rq,uf];rfl
 |i+1,j,k=>by
  rw[show i+1+j=(i+j)+1 by right,wS,rB ks i j (k+1),wS,dt,show k+1+i=k+(i+1) by right]
def fC(ks:List Int)(a b:Nat):Nat->Nat->List (Int×Int×Int)
 |0,_=>[]
 |i+1,c=>(if a<b/\b<c/\kd ks (a:Nat)<kd ks (b:Nat)/\kd ks (b:Nat)<kd ks (c:Nat) then [((a:Int),(b:Int),(c:Int))] else [])++fC ks a b i (c+1)
variable {a b:Nat}
theorem digits{c:Nat}(hb:b<n)(hc:c<n):((a*n+b)*n+c) / (n*n)=a/\((a*n+b)*n+c) / n % n=b/\((a*n+b)*n+c) % n=c:=by
 have hn:0<n:=⋯;have e1:((a*n+b)*n+c) / n=a*n+b:=by
  rw[yh,Uk _ _ hn,W8 hc,rq]
 refine⟨?_,?_,?_⟩
 ·rw[<- Nat.div_div_eq_div_mul,e1,yh,Uk _ _ hn,W8 hb,rq]
 ·rw[e1,yh,yx,W9 hb]
 ·rw[yh,yx,W9 hc]
theorem Lv{ks:List Int}{a b:Nat}(hb:b<ks.length):∀(i c:Nat),c+i<=ks.length->wS ks i ((a*ks.length+b)*ks.length+c)=fC ks a b i c
 |0,_,_=>rfl
 |i+1,c,h=>by
  obtain⟨d1,d2,d3⟩:=digits (a:=a) hb (show c<ks.length by right);rw[wS,fC,d1,d2,d3,nj,Lv hb i (c+1) ⋯]
theorem MZ{ks:List Int}{a b:Nat}:∀(i c:Nat),c+i<=b+1->fC ks a b i c=[]
 |0,_,_=>rfl
 |i+1,c,h=>by
  rw[fC,XQ ⋯,MZ i (c+1) ⋯];rfl
theorem JI(ks:List Int)(a b:Nat):∀i j c,fC ks a b (i+j) c=fC ks a b i c++fC ks a b j (c+i)
 |0,j,c=>by rw[rq,uf];rfl
 |i+1,j,c=>by
  rw[show i+1+j=(i+j)+1 by right,fC,JI ks a b i j (c+1),fC,dt,show c+1+i=c+(i+1) by right]
theorem Ma{ks:List Int}{a b:Nat}(hab:a<b):∀(i c:Nat),b<c->fC ks a b i c=aC ks a b i c
 |0,_,_=>rfl
 |i+1,c,h=>by
  rw[fC,aC,Ma hab i (c+1) ⋯];congr 1;by_cases e:kd ks (a:Nat)<kd ks (b:Nat)/\kd ks (b:Nat)<kd ks (c:Nat)
  ·rw[Yh e,Yh ⟨hab,h,e⟩]
  ·rw[XQ e,XQ λz=>e z.2.2]
theorem MY{ks:List Int}{a b:Nat}(hab:¬a<b):∀(i c:Nat),fC ks a b i c=[]
 |0,_=>rfl
 |i+1,c=>by
  rw[fC,XQ λz=>hab z.1,MY hab i (c+1)];rfl
theorem Dj(hb:b<ks.length):wS ks ks.length ((a*ks.length+b)*ks.length)=if a<b then aC ks a b (ks.length-(b+1)) (b+1) else []:=by
 have h:=Lv (ks:=ks) (a:=a) hb ks.length 0 ⋯;rw[uf] at h;rw[h];by_cases hab:a<b
 ·rw[Yh hab,show ks.length=(b+1)+(ks.length-(b+1)) by right,JI,MZ _ _ ⋯,gp,rq,show b+1+(ks.length-(b+1))-(b+1)=ks.length-(b+1) by right,Ma hab _ _ ⋯]
 ·rw[XQ hab,MY hab]
theorem Gh{ks:List Int}{a:Nat}:∀(j b:Nat),b+j<=a+1->b+j<=ks.length->wS ks (j*ks.length) ((a*ks.length+b)*ks.length)=[]
 |0,b,_,_=>by rw[X2];rfl
 |j+1,b,h,h2=>by
  rw[Tu,yh,rB,Dj ⋯,XQ ⋯,gp,show (a*ks.length+b)*ks.length+ks.length=(a*ks.length+(b+1))*ks.length by rw[<- Tu];rfl];exact Gh j (b+1) ⋯ ⋯
theorem Gi{ks:List Int}{a:Nat}:∀(j b:Nat),a<b->b+j<=ks.length->wS ks (j*ks.length) ((a*ks.length+b)*ks.length)=aB ks a j b
 |0,b,_,_=>by rw[X2];rfl
 |j+1,b,h,h2=>by
  rw[Tu,yh,rB,Dj ⋯,Yh h,show (a*ks.length+b)*ks.length+ks.length=(a*ks.length+(b+1))*ks.length by rw[<- Tu];rfl,Gi j (b+1) ⋯ ⋯];rfl
theorem Jz(ha:a<ks.length):wS ks (ks.length*ks.length) (a*(ks.length*ks.length))=aB ks a (ks.length-(a+1)) (a+1):=by
 have l:=Gh (ks:=ks) (a:=a) (a+1) 0 ⋯ ⋯;have h:=Gi (ks:=ks) (a:=a) (ks.length-(a+1)) (a+1) ⋯ ⋯;rw[show (a*ks.length+0)*ks.length=a*(ks.length*ks.length) by rw[uf,Wa]] at l;have e:ks.length*ks.length=(a+1)*ks.length+(ks.length-(a+1))*ks.length:=by
  rw[<- Ta,show a+1+(ks.length-(a+1))=ks.length by right]
 rw[show wS ks (ks.length*ks.length) (a*(ks.length*ks.length))=wS ks ((a+1)*ks.length+(ks.length-(a+1))*ks.length) (a*(ks.length*ks.length)) by rw[<- e],rB,l,gp,<- h];congr 1;rw[Ta (a*ks.length),Wa]
theorem Lx{ks:List Int}:∀(j a:Nat),a+j=ks.length->wS ks (j*(ks.length*ks.length)) (a*(ks.length*ks.length))=aA ks j a
 |0,a,_=>by rw[X2];rfl
 |j+1,a,h=>by
  rw[Tu,yh,rB,Jz ⋯,<- Tu,Lx j (a+1) ⋯];rfl
theorem K2(m:gM ks):wS ks (ks.length*ks.length*ks.length) 0=bQ ks:=by
 have h:=Lx (ks:=ks) ks.length 0 ⋯;rw[X2,<- Wa] at h;rw[h,Mn m _ _ ⋯];rfl
def nO:Fn:=λds Q=>∃ks:List Int,ds=[.lst (bO ks)]/\1<=ks.length/\ks.length<=12/\gM ks/\Q (.nw (.lst (i6 (bQ ks))))
theorem L9:∀ds Q,nO ds Q->ds.length=1:=by rintro ds Q ⟨_,rfl,_⟩;rfl
theorem IG:MonoF nO:=⟨λds Q Q' w z=>by obtain⟨a,b,c,d,e,h⟩:=z;exact⟨a,b,c,d,e,w _ h⟩⟩
variable {E:En}{x1 x3 x4 x5:Sl}
theorem S9{k:Nat}(h1:1<=ks.length)(hn:ks.length<=12){tl:cE}
  (h:tl E [.v (.lst (bO ks)),x1,.v (.int k),.v (.int (k / (ks.length*ks.length):Nat)),.v (.int (k / ks.length % ks.length:Nat)),.v (.int (k % ks.length:Nat))]):
  aV (cA 3 (aR n5 (a8 2) (aR gK (fD d5 (a9 (a8 0) aF)) (fD d5 (a9 (a8 0) aF))))) (aV (cA 4 (aR hW (aR n5 (a8 2) (fD d5 (a9 (a8 0) aF))) (fD d5 (a9 (a8 0) aF)))) (aV (cA 5 (aR hW (a8 2) (fD d5 (a9 (a8 0) aF)))) tl)) E [.v (.lst (bO ks)),x1,.v (.int k),x3,x4,x5]:=by
 have sq:ks.length*ks.length<=12*12:=nc hn hn;have sq1:1*1<=ks.length*ks.length:=nc h1 h1;have nn:(ks.length:Int)*(ks.length:Int)=((ks.length*ks.length:Nat):Int):=by norm_cast
 have ea:(k:Int) / ((ks.length*ks.length:Nat):Int)=((k / (ks.length*ks.length):Nat):Int):=by norm_cast
 have eb:(k:Int) / (ks.length:Int) % (ks.length:Int)=((k / ks.length % ks.length:Nat):Int):=by norm_cast
 have ec:(k:Int) % (ks.length:Int)=((k % ks.length:Nat):Int):=by norm_cast
 push_cast [bf,nn,ea,eb,ec];exact⟨tZ ⋯ ⋯,⟨⋯,⋯⟩,⟨⋯,⋯⟩,⋯,⋯,h⟩
variable {l:ae}{x2:Sl}
theorem S8{c:Nat}(ha:a<ks.length)(hb:b<ks.length)(hc:c<ks.length){acc:List (Int×Int×Int)}(hl:acc.length<=10000)
  (h:E.nx [.v (.lst (bO ks)),.own l (.lst (i6 (acc++(if a<b/\b<c/\kd ks (a:Nat)<kd ks (b:Nat)/\kd ks (b:Nat)<kd ks (c:Nat) then [((a:Int),(b:Int),(c:Int))] else [])))),x2,.v (.int a),.v (.int b),.v (.int c)]):
  jI (xA (bI (mQ zO zO (a8 3) (a8 4) (a8 5))) (xA (bI (aR zO (aR cR (a8 0) (a8 3)) (aR cR (a8 0) (a8 4)))) (bI (aR zO (aR cR (a8 0) (a8 4)) (aR cR (a8 0) (a8 5)))))) (nR 1 (gH (a9 (a8 3) (a9 (a8 4) (a9 (a8 5) aF))))) cB E [.v (.lst (bO ks)),.own l (.lst (i6 acc)),x2,.v (.int a),.v (.int b),.v (.int c)]:=by
 have no:¬(a<b/\b<c/\kd ks (a:Nat)<kd ks (b:Nat)/\kd ks (b:Nat)<kd ks (c:Nat))->E.nx [.v (.lst (bO ks)),.own l (.lst (i6 acc)),x2,.v (.int a),.v (.int b),.v (.int c)]:=λz=>by
  rw[XQ z,gv] at h;exact h
 have ka:kd ks (a:Nat)=ks.getD a 0:=by unfold kd;rw[bq]
 have kb:kd ks (b:Nat)=ks.getD b 0:=by unfold kd;rw[bq]
 have kc:kd ks (c:Nat)=ks.getD c 0:=by unfold kd;rw[bq]
 rw[ka,kb,kc] at no h;push_cast [bf,eR ha,eR hb,eR hc];refine nZ (λe1=>nZ (λe2=>nZ (λe3=>nZ (λe4=>?_) λe4=>no λz=>e4 z.2.2.2) λe3=>no λz=>e3 z.2.2.1) λe2=>no λz=>e2 (VM.mpr z.2.1)) λe1=>no λz=>e1 (VM.mpr z.1);refine⟨⋯,?_⟩;rw[Yh ⟨VM.mp e1,VM.mp e2,e3,e4⟩,show i6 (acc++[((a:Int),(b:Int),(c:Int))])=i6 acc++[Dv.tup [Dv.int a,Dv.int b,Dv.int c]] from yk] at h;exact h
theorem SR{d:Dv}{x0:Sl}{Q:List Sl->Prop}(h:Q [x0,x1,.v d,x3,x4,x5]):gN 2 d [x0,x1,x2,x3,x4,x5] Q:=by
 ac_nf;exact h
theorem QL(h1:1<=ks.length)(hn:ks.length<=12):∀(i k:Nat) (acc:List (Int×Int×Int)) (s t u v:Sl),k+i=ks.length*ks.length*ks.length->acc.length+i<=10000 ->
  (∀s t u v,E.nx [.v (.lst (bO ks)),.own l (.lst (i6 (acc++wS ks i k))),s,t,u,v]) ->
  aY (gN 2) oJ [] (aW k i) E [.v (.lst (bO ks)),.own l (.lst (i6 acc)),s,t,u,v]:=by
 intro i;induction i with
 |zero=>
  intro k acc s t u v _ _ h;rw[bK,aZ];exact⟨λp hp=>by simp at hp,by simpa [wS] using h s t u v⟩
 |succ i ih=>
  intro k acc s t u v hk hl h;have sq1:1*1<=ks.length*ks.length:=nc h1 h1;have ha:k / (ks.length*ks.length)<ks.length:=by rw[Nat.div_lt_iff_lt_mul ⋯,<- Wa];right
  rw[b6,b5];refine⟨λp hp=>by simp at hp,?_⟩;rw[show ((k:Int)+1)=((k+1:Nat):Int) by right];refine SR (S9 h1 hn (S8 ha (Y7 _ ⋯) (Y7 _ ⋯) ⋯ ?_));refine ih (k+1) _ _ _ _ _ ⋯ (by rw[ef];split<;>simp<;>right) λs t u v=>?_;have:=h s t u v;rw[wS,<- dt] at this;exact this
theorem zJ:∀ds Q,nO ds Q->lT ↥Q (aM ["_law_bands_here", "_law_found", "_law_k", "_law_a", "_law_b", "_law_c"] ds):=by
 rintro ds Q ⟨ks,rfl,h1,hn,m,h⟩;have sq:ks.length*ks.length<=12*12:=nc hn hn;have cb:ks.length*ks.length*ks.length<=144*12:=nc sq hn;have nn:(ks.length:Int)*(ks.length:Int)=((ks.length*ks.length:Nat):Int):=by norm_cast
 have nnn:((ks.length*ks.length:Nat):Int)*(ks.length:Int)=((ks.length*ks.length*ks.length:Nat):Int):=by norm_cast
 push_cast [bf,nn,nnn];intro l;refine⟨tZ ⋯ ⋯,tZ ⋯ ⋯,⋯,?_⟩;rw[bq];refine QL h1 hn _ 0 [] _ _ _ _ ⋯ (by simp;right) λs t u v=>?_;ac_nf;rw[K2 m];exact h
end Lw
namespace Fl
section
variable {L:Nat}{kk:Int->Int}{T:Int->Int->Nat}
def n8(T:Int->Int->Nat)(a b c:Int):Prop:=T a b<T a c
instance (T:Int->Int->Nat) (a b c:Int):Decidable (n8 T a b c):=by unfold n8;exact inferInstance
theorem Tms.four(h:Tms n kk T L){i j k l:Int}(h0:0<=i)(ij:i<j)(jk:j<k)(kl:k<l)(ln:l<n)(k1:kk i≠kk k)(k2:kk j≠kk l):
  (n8 T i j k ↔ n8 T i j l)/\(n8 T i j l ↔ n8 T i k l) \/ (n8 T i j k ↔ n8 T i j l)/\(n8 T i k l ↔ n8 T j k l) \/ (n8 T i j l ↔ n8 T i k l)/\(n8 T i k l ↔ n8 T j k l):=by
 have m1:=h.mono i j h0 ⋯ ⋯;have m2:=h.mono j k ⋯ ⋯ ⋯;have m3:=h.mono k l ⋯ ⋯ ⋯;have a:=h.tri i j k h0 ij jk ⋯ k1;have b:=h.tri i j l h0 ij ⋯ ln ⋯;have c:=h.tri i k l h0 ⋯ kl ln ⋯;have d:=h.tri j k l ⋯ jk kl ln k2;unfold n8;right
theorem Tms.counts(h:Tms n kk T L){a b c:Int}{u:Prop}[Decidable u](h0:0<=a)(ab:a<b)(bc:b<c)(cn:c<n)(k:kk a≠kk c)(hu:kk a≠kk b->kk b≠kk c->(u ↔ n8 T a b c)):
  (if kk a=kk b then ao else if kk b=kk c then ai else decide u)=decide (n8 T a b c):=by
 have m1:=h.mono a b h0 ⋯ ⋯;have m2:=h.mono b c ⋯ ⋯ cn;have t:=h.tri a b c h0 ab bc cn k;have l:=h.lt a c h0 ⋯ cn ⋯;unfold n8 at *;by_cases e:kk a=kk b
 ·rw[Yh e];have:=h.al a b ⋯;exact(decide_eq_false ⋯).symm
 ·rw[XQ e];by_cases e2:kk b=kk c
  ·rw[Yh e2];have:=h.al b c ⋯;exact(decide_eq_true ⋯).symm
  ·rw[XQ e2];exact decide_eq_decide.mpr (hu e e2)
theorem Tms.isb(h:Tms n kk T L){x y z:Int}(h0:0<=x)(xy:x<y)(yn:y<n)(k:kk x≠kk y)(z0:0<=z)(zn:z<n):
  (if z<x then ¬n8 T z x y else if y<z then ¬n8 T x y z else x<z/\z<y/\n8 T x z y) ↔ z≠x/\z≠y/\((z<x/\T x y<T z x) \/ (x<z/\T x z<T x y)):=by
 have m1:=h.mono x y h0 ⋯ yn;unfold n8;by_cases e:z<x
 ·rw[Yh e];have m2:=h.mono z x z0 ⋯ ⋯;have t:=h.tri z x y z0 e xy yn ⋯;right
 ·rw[XQ e];by_cases e2:y<z
  ·rw[Yh e2];have m2:=h.mono y z ⋯ ⋯ ⋯;have t:=h.tri x y z h0 xy e2 zn ⋯;right
  ·rw[XQ e2];right
end
end Fl
namespace Lw
open L2 Z
open Sf (Rw crs uR Pre Good aJ bG place many)
open Fl (kd ids Walk eS tls pc aP Pt tm n8)
abbrev T3:=Int×Int×Int
abbrev DO(t:T3):List bW:=[iw t.1,iw t.2.1,iw t.2.2]
abbrev dO(U:List T3):List (List bW×Dv):=U.map λt=>(DO t,.bl ai)
theorem uL(U:List T3)(t:T3):JB (dO U) (DO t)=decide (t∈U):=by
 induction U with
 |nil=>rfl
 |cons u U ih=>
  unfold JB at ih ⊢;rw[show dO (u::U)=(DO u,.bl ai)::dO U from rfl,tw,ih];have e:(DO u=DO t) ↔ t=u:=by
   constructor
   ·intro z;injection z with z1 z2;injection z2 with z2 z3;injection z3 with z3 _;injection z1 with z1;injection z2 with z2;injection z3 with z3;exact Prod.ext z1.symm (Prod.ext z2.symm z3.symm)
   ·rintro rfl;rfl
  rw[decide_eq_decide.mpr e,<- UM];exact decide_eq_decide.mpr dj.symm
def cau(ks:List Int)(U:List T3)(a b c:Int):Bool:=if kd ks a=kd ks b then ao else if kd ks b=kd ks c then ai else decide ((a,b,c)∈U)
def Os(n:Nat)(a b c:Int):Prop:=(0<=a/\a<n)/\(0<=b/\b<n)/\(0<=c/\c<n)
def q8(C:ae):Fn:=λds Q=>∃(rows:List Rw) (U:List T3) (a b c:Int),ds=[c7 C rows,.dit (dO U),.tup [.int a,.int b,.int c]]/\(aJ rows).length<=12/\Os (aJ rows).length a b c/\Q (.v (.bl (cau (aJ rows) U a b c)))
theorem LH:∀ds Q,q8 C ds Q->ds.length=3:=by rintro ds Q ⟨_,_,_,_,_,rfl,_⟩;rfl
theorem IM:MonoF (q8 C):=⟨λds Q Q' w z=>by obtain⟨a,b,c,d,e,f,g,i,h⟩:=z;exact⟨a,b,c,d,e,f,g,i,w _ h⟩⟩
theorem vM:∀ds Q,q8 C ds Q->jQ C (dU C) ↥Q (aM ["sides", "ups", "three"] ds):=by
 rintro ds Q ⟨rows,U,a,b,c,rfl,hn,⟨ha,hb,hc⟩,q⟩;have kn:∀{x:Int} {Q:R->Prop},0<=x/\x<(aJ rows).length->Q (.v (.int (kd (aJ rows) x)))->dU C [c7 C rows,.int x] Q:=λ{x Q} hx q=>⟨rows,x.toNat,by rw[xi hx.1],⋯,q⟩;unfold cau at q;ac_nf;refine⟨rfl,kn ha ?_⟩;ac_nf;refine⟨rfl,kn hb ?_⟩;ac_nf;refine nZ (λe=>by rw[Yh e] at q;exact q) λe=>?_;rw[XQ e] at q;refine⟨rfl,kn hb ?_⟩;ac_nf;refine⟨rfl,kn hc ?_⟩;ac_nf;refine nZ (λe2=>by rw[Yh e2] at q;exact q) λe2=>?_;rw[XQ e2] at q;refine⟨DO (a,b,c),rfl,?_⟩;rw[uL];exact q
abbrev T4:=Int×Int×Int×Int
abbrev d4(t:T4):Dv:=.tup [.int t.1,.int t.2.1,.int t.2.2.1,.int t.2.2.2]
structure In4(n:Nat)(t:T4):Prop where
 lo:0<=t.1
 ij:t.1<t.2.1
 jk:t.2.1<t.2.2.1
 kl:t.2.2.1<t.2.2.2
 hi:t.2.2.2<n
def alike(ks:List Int)(t:T4):Bool:=decide (kd ks t.1=kd ks t.2.2.1) || decide (kd ks t.2.1=kd ks t.2.2.2)
def jV(C:ae):Fn:=λds Q=>∃(rows:List Rw) (t:T4),ds=[c7 C rows,d4 t]/\In4 (aJ rows).length t/\Q (.v (.bl (alike (aJ rows) t)))
theorem Fu:∀ds Q,jV C ds Q->ds.length=2:=by rintro ds Q ⟨_,_,rfl,_⟩;rfl
theorem IO:MonoF (jV C):=⟨λds Q Q' w z=>by obtain⟨a,b,c,d,h⟩:=z;exact⟨a,b,c,d,w _ h⟩⟩
theorem rR:∀ds Q,jV C ds Q->i7 C (dU C) ↥Q (aM ["sides", "four"] ds):=by
 rintro ds Q ⟨rows,t,rfl,i4,q⟩;obtain⟨h0,ij,jk,kl,hi⟩:=i4;have kn:∀{x:Int} {Q:R->Prop},0<=x/\x<(aJ rows).length->Q (.v (.int (kd (aJ rows) x)))->dU C [c7 C rows,.int x] Q:=λ{x Q} hx q=>⟨rows,x.toNat,by rw[xi hx.1],⋯,q⟩;unfold alike at q;ac_nf;refine⟨rfl,kn ⟨⋯,⋯⟩ ?_⟩;ac_nf;refine⟨rfl,kn ⟨⋯,⋯⟩ ?_⟩;ac_nf;refine nZ (λe=>by rw[decide_eq_true e] at q;exact q) λe=>?_;rw[decide_eq_false e,Te] at q;refine⟨rfl,kn ⟨⋯,⋯⟩ ?_⟩;ac_nf;refine⟨rfl,kn ⟨⋯,⋯⟩ ?_⟩;ac_nf;exact q
def w4(ks:List Int)(U:List T3)(z x y:Int):Bool:=if z<x then !cau ks U z x y else if y<z then !cau ks U x y z else (decide (x<z)&&decide (z<y))&&cau ks U x z y
def nQ(C:ae):Fn:=λds Q=>∃(rows:List Rw) (U:List T3) (z x y:Int),ds=[c7 C rows,.dit (dO U),.int z,.int x,.int y]/\(aJ rows).length<=12/\Os (aJ rows).length z x y/\Q (.v (.bl (w4 (aJ rows) U z x y)))
theorem LE:∀ds Q,nQ C ds Q->ds.length=5:=by rintro ds Q ⟨_,_,_,_,_,rfl,_⟩;rfl
theorem O2:MonoF (nQ C):=⟨λds Q Q' w z=>by obtain⟨a,b,c,d,e,f,g,i,h⟩:=z;exact⟨a,b,c,d,e,f,g,i,w _ h⟩⟩
theorem D8:∀ds Q,nQ C ds Q->pY (q8 C) ↥Q (aM ["sides", "ups", "z", "x", "y"] ds):=by
 rintro ds Q ⟨rows,U,z,x,y,rfl,hn,⟨hz,hx,hy⟩,q⟩;unfold w4 at q;ac_nf;refine nZ (λe=>?_) λe=>nZ (λe2=>?_) λe2=>nZ (λe3=>nZ (λe4=>?_) λe4=>?_) λe3=>?_
 ·rw[Yh e] at q;refine⟨rows,U,z,x,y,rfl,hn,⟨hz,hx,hy⟩,?_⟩;ac_nf;exact q
 ·rw[XQ e,Yh e2] at q;refine⟨rows,U,x,y,z,rfl,hn,⟨hx,hy,hz⟩,?_⟩;ac_nf;exact q
 ·rw[XQ e,XQ e2,decide_eq_true e3,sk,decide_eq_true e4,sk] at q;refine⟨rows,U,x,z,y,rfl,hn,⟨hx,hz,hy⟩,?_⟩;ac_nf;exact q
 ·rw[XQ e,XQ e2,decide_eq_false e4,Uy,xx] at q;exact q
 ·rw[XQ e,XQ e2,decide_eq_false e3,xx,xx] at q;exact q
def chg(a b:Bool):Nat:=if a=b then 0 else 1
def barred(ks:List Int)(U:List T3)(t:T4):Bool:=
 decide (1<chg (cau ks U t.1 t.2.1 t.2.2.1) (cau ks U t.1 t.2.1 t.2.2.2)+chg (cau ks U t.1 t.2.1 t.2.2.2) (cau ks U t.1 t.2.2.1 t.2.2.2)+chg (cau ks U t.1 t.2.2.1 t.2.2.2) (cau ks U t.2.1 t.2.2.1 t.2.2.2))
def iJ(C:ae):Fn:=λds Q=>∃(rows:List Rw) (U:List T3) (t:T4),ds=[c7 C rows,.dit (dO U),d4 t]/\(aJ rows).length<=12/\In4 (aJ rows).length t/\Q (.v (.bl (barred (aJ rows) U t)))
theorem DN:∀ds Q,iJ C ds Q->ds.length=3:=by rintro ds Q ⟨_,_,_,rfl,_⟩;rfl
theorem Fg:MonoF (iJ C):=⟨λds Q Q' w z=>by obtain⟨a,b,c,d,e,f,h⟩:=z;exact⟨a,b,c,d,e,f,w _ h⟩⟩
def chgs:List (Bool×Bool)->Nat
 | []=>0
 |p::r=>chg p.1 p.2+chgs r
theorem Lk:∀l:List (Bool×Bool),chgs l<=l.length
 | []=>br _
 |p::r=>by have:=Lk r;rw[chgs,chg,cg];split<;>right
variable {Q:R->Prop}
theorem Jb:∀(l:List (Bool×Bool)) (k:Nat),k+l.length<=100->Q (.nw (.lst (ay (k+chgs l) (.int 1)))) ->
  e9 [.un,.un] (gT [0,1]) (bI (aR xZ (a8 0) (a8 1))) (eC (.int 1)) (l.map λp=>.tup [.bl p.1,.bl p.2]) (ay k (.int 1)) Q:=by
 intro l;induction l with
 |nil=>
  intro k _ h;rw[wp,fT];exact h
 |cons p l ih=>
  intro k hk h;rw[cg] at hk;rw[chgs,chg] at h;push_cast [cr,ni];refine⟨⟨rfl,rfl⟩,?_⟩;by_cases e:p.1=p.2
  ·rw[Yh e,rq] at h;rw[XQ (by simp[e])];exact ih k ⋯ h
  ·rw[XQ e] at h;rw[Yh (by simp[e]),<- List.replicate_succ'];exact⟨⋯,ih (k+1) ⋯ (by rw[show k+1+chgs l=k+(1+chgs l) by right];exact h)⟩
abbrev RQ(t:T3):Dv:=.tup [.int t.1,.int t.2.1,.int t.2.2]
variable {x3 x4 x5:Sl}{tl:cE}{E:En}
theorem Qy{y0 y1:Sl}{t:T4}(h:tl E [y0,y1,.v (d4 t),.v (.lst ([(t.1,t.2.1,t.2.2.1),(t.1,t.2.1,t.2.2.2),(t.1,t.2.2.1,t.2.2.2),t.2].map RQ)),x4,x5]):
  aV (cA 3 (jL (a9 (gH (a9 (aR cR (a8 2) (eC (.int 0))) (a9 (aR cR (a8 2) (eC (.int 1))) (a9 (aR cR (a8 2) (eC (.int 2))) aF)))) (a9 (gH (a9 (aR cR (a8 2) (eC (.int 0))) (a9 (aR cR (a8 2) (eC (.int 1))) (a9 (aR cR (a8 2) (eC (.int 3))) aF)))) (a9 (gH (a9 (aR cR (a8 2) (eC (.int 0))) (a9 (aR cR (a8 2) (eC (.int 2))) (a9 (aR cR (a8 2) (eC (.int 3))) aF)))) (a9 (GA (a8 2) (lG (eC (.int 1))) g9) aF)))))) tl E
   [y0,y1,.v (d4 t),x3,x4,x5]:=by
 ac_nf;exact⟨by decide,h⟩
variable {U:List T3}
theorem Qv(hn:(aJ rows).length<=12):∀(l:List T3) (acc:List Dv),(∀t∈l,Os (aJ rows).length t.1 t.2.1 t.2.2)->acc.length+l.length<=100 ->
  Q (.nw (.lst (acc++l.map λt=>.bl (cau (aJ rows) U t.1 t.2.1 t.2.2))))->e9 [.un,.v (c7 C rows),.v (.dit (dO U))] (gN 0) jH (b8 (q8 C) (a9 (a8 1) (a9 (a8 2) (a9 (a8 0) aF)))) (l.map RQ) acc Q:=by
 intro l;induction l with
 |nil=>
  intro acc _ _ h;rw[wp,gv] at h;rw[wp,fT];exact h
 |cons t l ih=>
  intro acc hi hk h;rw[cg] at hk;push_cast [cr];refine⟨rows,U,_,_,_,rfl,hn,hi t di,?_⟩;refine⟨.inl rfl,⟨rfl,⋯⟩,ih _ (λu hu=>hi u (df _ hu)) ?_ ?_⟩
  ·rw[ef,cg,uy];right
  ·rw[dt];exact h
variable {x2:Sl}
theorem Qx{l:List T3}(hn:(aJ rows).length<=12)(hi:∀t∈l,Os (aJ rows).length t.1 t.2.1 t.2.2)(hl:l.length<=100)
  (h:tl E [.v (c7 C rows),.v (.dit (dO U)),x2,.v (.lst (l.map RQ)),.v (.lst (l.map λt=>.bl (cau (aJ rows) U t.1 t.2.1 t.2.2))),x5]):
  aV (cA 4 (gD 1 [0,1] (kC (a8 3)) (gN 0) jH (b8 (q8 C) (a9 (a8 1) (a9 (a8 2) (a9 (a8 0) aF)))))) tl E
   [.v (c7 C rows),.v (.dit (dO U)),x2,.v (.lst (l.map RQ)),x4,x5]:=by
 ac_nf;exact Qv hn l [] hi (by rw[uy,rq];exact hl) h
theorem Qw{x0 x1:Sl}{u1 u2 u3 u4:Bool}(h:tl E [x0,x1,x2,x3,.v (.lst [.bl u1,.bl u2,.bl u3,.bl u4]),.v (.lst (ay (chgs [(u1,u2),(u2,u3),(u3,u4)]) (.int 1)))]):
  aV (cA 5 (gD 2 [] (yG (a9 (a8 4) (a9 (GA (a8 4) (lG (eC (.int 1))) g9) aF))) (gT [0,1]) (bI (aR xZ (a8 0) (a8 1))) (eC (.int 1)))) tl E
   [x0,x1,x2,x3,.v (.lst [.bl u1,.bl u2,.bl u3,.bl u4]),x5]:=by
 ac_nf;refine Jb [(u1,u2),(u2,u3),(u3,u4)] 0 (wb rfl) ?_;rw[rq];exact h
theorem BK:∀ds Q,iJ C ds Q->nL (q8 C) ↥Q (aM ["sides", "ups", "four", "within", "stand", "changes"] ds):=by
 rintro ds Q ⟨rows,U,t,rfl,hn,⟨h0,ij,jk,kl,hi⟩,q⟩;have i2:∀{a b c:Int},0<=a->a<b->b<c->c<(aJ rows).length->Os (aJ rows).length a b c:=λ{a b c} h1 h2 h3 h4=>⟨⟨h1,⋯⟩,⟨⋯,⋯⟩,⋯,h4⟩;refine Qy (Qx hn (λu hu=>?_) (wb rfl) (Qw ?_))
 ·simp only[dj,pf,or_false] at hu;rcases hu with rfl | rfl | rfl | rfl
  ·exact i2 h0 ij jk (XZ kl hi)
  ·exact i2 h0 ij (XZ jk kl) hi
  ·exact i2 h0 (XZ ij jk) kl hi
  ·exact i2 (Xz h0 (U5 ij)) jk kl hi
 ·unfold barred at q;rw[show ∀{a b c d:Bool},chg a b+chg b c+chg c d=chgs [(a,b),(b,c),(c,d)] from λ{a b c d}=>by simp only[chgs,nj,uf]] at q;generalize chgs _=m at q ⊢;push_cast [ni];rw[show decide ((1:Int)<(m:Int))=decide (1<m) from decide_eq_decide.mpr ⋯];exact q
end Lw
namespace Lw
open L2 Z
open Sf (Rw crs uR Pre Good aJ bG place many)
open Fl (kd ids Walk eS tls pc aP Pt tm n8)
def RN(n:Nat)(l:List T4):Prop:=∀t∈l,In4 n t
def A4(n:Nat)(P:T4->Prop)(l:List T4):Prop:=RN n l /\ ∀t,In4 n t->P t->t∈l
variable {l:List T4}
theorem A4.imp{P P':T4->Prop}(h:A4 n P l)(w:∀t,In4 n t->P' t->P t):A4 n P' l:=⟨h.1,λt i q=>h.2 t i (w t i q)⟩
def Oc(i:Nat)(t:T4):Prop:=t.1<i
def Ob(i j:Nat)(t:T4):Prop:=t.1<i \/ (t.1=i/\t.2.1<j)
def Oa(i j k:Nat)(t:T4):Prop:=t.1<i \/ (t.1=i/\(t.2.1<j \/ (t.2.1=j/\t.2.2.1<k)))
def Ln(i j k l:Nat)(t:T4):Prop:=t.1<i \/ (t.1=i/\(t.2.1<j \/ (t.2.1=j/\(t.2.2.1<k \/ (t.2.2.1=k/\t.2.2.2<l)))))
variable {j:Nat}
theorem A4.snoc{k m:Nat}(h:A4 n (Ln i j k m) l)(q:In4 n ((i:Int),(j:Int),(k:Int),(m:Int))):A4 n (Ln i j k (m+1)) (l++[((i:Int),(j:Int),(k:Int),(m:Int))]):=by
 refine⟨λu hu=>?_,λt i4 b=>?_⟩
 ·rcases fj.mp hu with z | z
  ·exact h.1 u z
  ·rw[eo.mp z];exact q
 ·rcases VI (Ln i j k m t) with z | z
  ·exact gq _ (h.2 t i4 z)
  ·refine eg _ (eo.mpr ?_);obtain⟨x,y,u,v⟩:=t;unfold Ln at b z;simp only at b z;rw[show x=i by right,show y=j by right,show u=k by right,show v=m by right]
abbrev CW(l:List T4):List Dv:=l.map d4
variable {E:En}
theorem LV{k:Nat}(ij:i<j)(jk:j<k):∀(m l:Nat) (acc:List T4) (s:Sl),k<l->l+m=n->A4 n (Ln i j k l) acc->acc.length+m<=100000 ->
  (∀Yn s,A4 n (Ln i j k n) Yn->Yn.length<=acc.length+m->E.nx [.v (.int n),.own b (.lst (CW Yn)),.v (.int i),.v (.int j),.v (.int k),s]) ->
  aY (gN 5) tF [] (aW l m) E [.v (.int n),.own b (.lst (CW acc)),.v (.int i),.v (.int j),.v (.int k),s]:=by
 intro m;induction m with
 |zero=>
  intro l acc s _ ln A _ h;rw[bK,aZ];exact⟨λp hp=>by simp at hp,h acc s (A.imp λt i4 q=>by obtain⟨_,_,_,_,_⟩:=i4;unfold Ln at *;right) (br _)⟩
 |succ m ih=>
  intro l acc s kl hl A ha h;rw[b6,b5];refine⟨λp hp=>by simp at hp,?_⟩;push_cast [tF,bf];refine⟨⋯,?_⟩;rw[show CW acc++[Dv.tup [Dv.int i,.int j,.int k,.int l]]=CW (acc++[((i:Int),(j:Int),(k:Int),(l:Int))]) by simp,show ((l:Int)+1)=((l+1:Nat):Int) by right];exact ih (l+1) _ _ ⋯ ⋯ (A.snoc ⟨show (0:Int)<=i by right,show (i:Int)<j by right,show (j:Int)<k by right,show (k:Int)<l by right,show (l:Int)<n by right⟩) (by simp;right) λYn s A' hl'=>h Yn s A' (by simp at hl';right)
theorem LU(hn:n<=12)(ij:i<j):∀(m k:Nat) (acc:List T4) (s t:Sl),j<k->k+m=n->A4 n (Oa i j k) acc->acc.length+m*12<=90000 ->
  (∀Yn s t,A4 n (Oa i j n) Yn->Yn.length<=acc.length+m*12->E.nx [.v (.int n),.own b (.lst (CW Yn)),.v (.int i),.v (.int j),s,t]) ->
  aY (gN 4) pE [] (aW k m) E [.v (.int n),.own b (.lst (CW acc)),.v (.int i),.v (.int j),s,t]:=by
 intro m;induction m with
 |zero=>
  intro k acc s t _ ln A _ h;rw[bK,aZ];exact⟨λp hp=>by simp at hp,h acc s t (A.imp λt i4 q=>by obtain⟨_,_,_,_,_⟩:=i4;unfold Oa at *;right) (br _)⟩
 |succ m ih=>
  intro k acc s t jk hl A ha h;rw[b6,b5];refine⟨λp hp=>by simp at hp,?_⟩;have nx:=λYn s t A' (hl':Yn.length<=acc.length+12)=>ih (k+1) Yn s t ⋯ ⋯ A' ⋯ λa s t A hl=>h a s t A ⋯;rw[show ((k:Int)+1)=((k+1:Nat):Int) by right];generalize aY (gN 4) pE [] (aW ((k+1:Nat):Int) m) E=G at nx ⊢;push_cast [pE];refine⟨⋯,?_⟩;rw[show ((n:Int)-((k:Int)+1)).toNat=n-(k+1) by right,show ((k:Int)+1)=((k+1:Nat):Int) by right];exact LV ij jk (n-(k+1)) (k+1) acc t ⋯ ⋯ (A.imp λt i4 q=>by obtain⟨_,_,_,_,_⟩:=i4;unfold Oa Ln at *;right) ⋯ λYn s A' hl'=>nx Yn _ s (A'.imp λt i4 q=>by obtain⟨_,_,_,_,_⟩:=i4;unfold Oa Ln at *;right) ⋯
theorem LS(hn:n<=12):∀(m j:Nat) (acc:List T4) (s t u:Sl),i<j->j+m=n->A4 n (Ob i j) acc->acc.length+m*144<=80000 ->
  (∀Yn s t u,A4 n (Ob i n) Yn->Yn.length<=acc.length+m*144->E.nx [.v (.int n),.own b (.lst (CW Yn)),.v (.int i),s,t,u]) ->
  aY (gN 3) pD [] (aW j m) E [.v (.int n),.own b (.lst (CW acc)),.v (.int i),s,t,u]:=by
 intro m;induction m with
 |zero=>
  intro j acc s t u _ ln A _ h;rw[bK,aZ];exact⟨λp hp=>by simp at hp,h acc s t u (A.imp λt i4 q=>by obtain⟨_,_,_,_,_⟩:=i4;unfold Ob at *;right) (br _)⟩
 |succ m ih=>
  intro j acc s t u ij hl A ha h;rw[b6,b5];refine⟨λp hp=>by simp at hp,?_⟩;have nx:=λYn s t u A' (hl':Yn.length<=acc.length+144)=>ih (j+1) Yn s t u ⋯ ⋯ A' ⋯ λa s t u A hl=>h a s t u A ⋯;rw[show ((j:Int)+1)=((j+1:Nat):Int) by right];generalize aY (gN 3) pD [] (aW ((j+1:Nat):Int) m) E=G at nx ⊢;push_cast [pD];refine⟨⋯,?_⟩;rw[show ((n:Int)-((j:Int)+1)).toNat=n-(j+1) by right,show ((j:Int)+1)=((j+1:Nat):Int) by right];exact LU hn ij (n-(j+1)) (j+1) acc t u ⋯ ⋯ (A.imp λt i4 q=>by obtain⟨_,_,_,_,_⟩:=i4;unfold Ob Oa at *;right) ⋯ λYn s t A' hl'=>nx Yn _ s t (A'.imp λt i4 q=>by obtain⟨_,_,_,_,_⟩:=i4;unfold Ob Oa at *;right) ⋯
theorem LR(hn:n<=12):∀(m i:Nat) (acc:List T4) (s t u v:Sl),i+m=n->A4 n (Oc i) acc->acc.length+m*1728<=50000 ->
  (∀Yn s t u v,A4 n (Oc n) Yn->Yn.length<=acc.length+m*1728->E.nx [.v (.int n),.own b (.lst (CW Yn)),s,t,u,v]) ->
  aY (gN 2) pC [] (aW i m) E [.v (.int n),.own b (.lst (CW acc)),s,t,u,v]:=by
 intro m;induction m with
 |zero=>
  intro i acc s t u v ln A _ h;rw[bK,aZ];exact⟨λp hp=>by simp at hp,h acc s t u v (A.imp λt i4 q=>by obtain⟨_,_,_,_,_⟩:=i4;unfold Oc at *;right) (br _)⟩
 |succ m ih=>
  intro i acc s t u v hl A ha h;rw[b6,b5];refine⟨λp hp=>by simp at hp,?_⟩;have nx:=λYn s t u v A' (hl':Yn.length<=acc.length+1728)=>ih (i+1) Yn s t u v ⋯ A' ⋯ λa s t u v A hl=>h a s t u v A ⋯;rw[show ((i:Int)+1)=((i+1:Nat):Int) by right];generalize aY (gN 2) pC [] (aW ((i+1:Nat):Int) m) E=G at nx ⊢;push_cast [pC];refine⟨⋯,?_⟩;rw[show ((n:Int)-((i:Int)+1)).toNat=n-(i+1) by right,show ((i:Int)+1)=((i+1:Nat):Int) by right];exact LS hn (n-(i+1)) (i+1) acc t u v ⋯ ⋯ (A.imp λt i4 q=>by obtain⟨_,_,_,_,_⟩:=i4;unfold Oc Ob at *;right) ⋯ λYn s t u A' hl'=>nx Yn _ s t u (A'.imp λt i4 q=>by obtain⟨_,_,_,_,_⟩:=i4;unfold Oc Ob at *;right) ⋯
def jS:Fn:=λds Q=>∃n:Nat,ds=[.int n]/\n<=12 /\ ∀l:List T4,(∀t,t∈l ↔ In4 n t)->Q (.nw (.lst (CW l)))
theorem Fp:∀ds Q,jS ds Q->ds.length=1:=by rintro ds Q ⟨_,rfl,_⟩;rfl
theorem vT:MonoF jS:=⟨λds Q Q' w z=>by obtain⟨a,b,c,h⟩:=z;exact⟨a,b,c,λl z=>w _ (h l z)⟩⟩
theorem Kn:∀ds Q,jS ds Q->yZ ↥Q (aM ["many", "told", "i", "j", "k", "l"] ds):=by
 rintro ds Q ⟨n,rfl,hn,q⟩;ac_nf;intro b;refine⟨⋯,?_⟩;rw[bq];refine LR hn n 0 [] _ _ _ _ ⋯ ⟨λt ht=>(nomatch ht),λt i4 q=>by obtain⟨_,_,_,_,_⟩:=i4;unfold Oc at q;right⟩ (by simp;right) λYn s t u v A' _=>?_;ac_nf;exact q Yn λt=>⟨A'.1 t,λi4=>A'.2 t i4 (by obtain⟨_,_,_,_,_⟩:=i4;unfold Oc;right)⟩
end Lw
namespace Lw
open L2 Z
open Sf (Rw crs uR Pre Good aJ bG place many)
open Fl (kd ids Walk eS tls pc aP Pt srt jR)
theorem MV(i:Int):∀l:List Int,inD (.int i) (bO l)=decide (i∈l)
 | []=>rfl
 |j::l=>by
  have ih:=MV i l;unfold inD at ih ⊢;rw[show bO (j::l)=.int j::bO l from rfl,tw,ih];by_cases e:i=j
  ·subst e;simp[eqD,gO,ja]
  ·have:eqD (.int i) (.int j)=ao:=by simp[eqD,gO,ja,e]
   have:eqD (.int j) (.int i)=ao:=by simp[eqD,gO,ja,Ne.symm e]
   simp[*]
theorem AA{α:Type}(f:α->Dv)(hf:∀a b,eqD (f a) (f b)=ai ↔ a=b):∀l m:List α,jf (pyDs (l.map f)) (pyDs (m.map f))=ai ↔ l=m
 | [],[]=>by simp[gO.pyDs,jf]
 | [],_::_=>by simp[gO.pyDs,jf]
 |_::_,[]=>by simp[gO.pyDs,jf]
 |a::l,b::m=>by
  show jf (gO (f a)::pyDs (l.map f)) (gO (f b)::pyDs (m.map f))=ai ↔ _;have h:=hf a b;unfold eqD at h;rw[jf,dm,AA f hf l m,h,ww]
theorem wD(f:α->Dv)(hf:∀a b,eqD (f a) (f b)=ai ↔ a=b)(l m:List α):eqD (.lst (l.map f)) (.lst (m.map f))=ai ↔ l=m:=by
 unfold eqD;show ja (.list (pyDs _)) (.list (pyDs _))=ai ↔ _;rw[ja];exact AA f hf l m
theorem C6(f:α->Dv)(hf:∀a b,eqD (f a) (f b)=ai ↔ a=b)(l m:List α):eqD (.tup (l.map f)) (.tup (m.map f))=ai ↔ l=m:=by
 unfold eqD;show ja (.tuple (pyDs _)) (.tuple (pyDs _))=ai ↔ _;rw[ja];exact AA f hf l m
theorem Ej(a b:Int):eqD (.int a) (.int b)=ai ↔ a=b:=by rw[Z.AC,decide_eq_true_eq]
theorem AB(l m:List Int):eqD (.tup (bO l)) (.tup (bO m))=decide (l=m):=by
 rw[xa,decide_eq_true_eq];exact C6 _ Ej l m
theorem OP(t u:Ti):eqD (Jy t) (Jy u)=ai ↔ t=u:=by
 have h1:=Ej t.1 u.1;have h2:=Ej t.2.1 u.2.1;have h3:=C6 Dv.int Ej t.2.2 u.2.2;unfold eqD at h1 h2 h3 ⊢;show ja (.tuple [gO (.int t.1),gO (.int t.2.1),gO (.tup (bO t.2.2))]) (.tuple [gO (.int u.1),gO (.int u.2.1),gO (.tup (bO u.2.2))])=ai ↔ _;rw[ja,jf,jf,jf,jf,dm,dm,dm,h1,h2,h3];obtain⟨a,b,c⟩:=t;obtain⟨x,y,z⟩:=u;simp
theorem Lb(l m:List Ti):eqD (.lst (lO l)) (.lst (lO m))=decide (l=m):=by
 rw[xa,decide_eq_true_eq];exact wD _ OP l m
theorem LZ(l m:List (Int×Int×Int)):eqD (.lst (i6 l)) (.lst (i6 m))=decide (l=m):=by
 rw[xa,decide_eq_true_eq];refine wD _ (λt u=>?_) l m;rw[show Dv.tup [Dv.int t.1,Dv.int t.2.1,Dv.int t.2.2]=.tup (bO [t.1,t.2.1,t.2.2]) from rfl,show Dv.tup [Dv.int u.1,Dv.int u.2.1,Dv.int u.2.2]=.tup (bO [u.1,u.2.1,u.2.2]) from rfl,AB,decide_eq_true_eq];obtain⟨a,b,c⟩:=t;obtain⟨x,y,z⟩:=u;simp
theorem oY(n:Nat):∀l:List Dv,(∀d∈l,dR n d=ai)->okDs n l=ai
 | [],_=>rfl
 |d::r,h=>by
  show (dR n d&&okDs n r)=ai;rw[h d (by simp),oY n r λx hx=>h x (by simp[hx])];rfl
theorem MK(l:List (Int×Int×Int)):dR 8 (.lst (i6 l))=ai:=oY 7 _ λd hd=>by
 obtain⟨t,_,rfl⟩:=jg.mp hd;exact tM 6 [t.1,t.2.1,t.2.2]
theorem ML(l:List Ti):dR 8 (.lst (lO l))=ai:=oY 7 _ λd hd=>by
 obtain⟨t,_,rfl⟩:=jg.mp hd;refine oY 6 _ λd hd=>?_;simp only[dj,pf,or_false] at hd;rcases hd with rfl | rfl | rfl
 ·rfl
 ·rfl
 ·exact tM 5 _
theorem Nw(l:List Int):dR 8 (.tup (bO l))=ai:=tM 7 l
theorem Sn(l:List Int)(b:Int):bO l++[Dv.int b]=bO (l++[b]):=by simp
theorem Kr(l:List (Int×Int×Int)):okDs 8 (i6 l)=ai:=oY 8 _ λd hd=>by
 obtain⟨t,_,rfl⟩:=jg.mp hd;exact tM 7 [t.1,t.2.1,t.2.2]
theorem QZ(t:Int×Int×Int)(l:List (Int×Int×Int)):inD (.tup [.int t.1,.int t.2.1,.int t.2.2]) (i6 l)=decide (t∈l):=by
 have e3:∀u:Int×Int×Int,eqD (.tup [.int u.1,.int u.2.1,.int u.2.2]) (.tup [.int t.1,.int t.2.1,.int t.2.2])=decide (u=t):=λu=>by
  rw[show Dv.tup [Dv.int t.1,Dv.int t.2.1,Dv.int t.2.2]=.tup (bO [t.1,t.2.1,t.2.2]) from rfl,show Dv.tup [Dv.int u.1,Dv.int u.2.1,Dv.int u.2.2]=.tup (bO [u.1,u.2.1,u.2.2]) from rfl,AB];obtain⟨a,b,c⟩:=t;obtain⟨x,y,z⟩:=u;simp
 unfold inD;induction l with
 |nil=>rfl
 |cons u l ih=>
  rw[show i6 (u::l)=.tup [.int u.1,.int u.2.1,.int u.2.2]::i6 l from rfl,tw,ih,e3,<- UM];exact decide_eq_decide.mpr ⟨λz=>by rcases z with rfl | z;exact di ..;exact df _ z,λz=>by rcases dj.mp z with rfl | z;exact .inl rfl;exact .inr z⟩
end Lw
variable {U:List Lw.T3}
namespace Lw
open L2 Z
open Sf (Rw crs uR Pre Good aJ bG place many)
open Fl (kd ids Walk eS tls pc aP Pt tm n8)
structure UpsOk(ks:List Int)(U:List T3):Prop where
 known:∀t∈U,t∈bQ ks
 four:∀t,In4 ks.length t->alike ks t=ao->barred ks U t=ao
def jU(C XN:ae):yT:=λds Q Ψ=>∃(rows:List Rw) (U:List T3),ds=[c7 C rows,.dit (dO U)]/\(aJ rows).length<=12/\(∀t∈U,t∈bQ (aJ rows))/\(UpsOk (aJ rows) U->Q (.v .non))/\(¬UpsOk (aJ rows) U->Ψ (XN,au))
variable {XN:ae}
theorem Fs:∀ds Q Ψ,jU C XN ds Q Ψ->ds.length=2:=by rintro ds Q Ψ ⟨_,_,rfl,_⟩;rfl
theorem IL:MonoX (jU C XN):=⟨λds Q Q' Ψ Ψ' w v ⟨a,b,c,d,e,f,g⟩=>⟨a,b,c,d,e,λz=>w _ (f z),λz=>v _ (g z)⟩⟩
variable {E:En}
theorem OV{Ψ:yU->Prop}{K:List T3}{x0 x1 x4:Sl}:∀(U:List T3) (s3:Sl),(∀t∈U,t∈K)->(∀s3,E.nx [x0,x1,.v (.lst (i6 K)),s3,x4]) ->
  aY (gN 3) (iF XN Ψ C (iI C) jS (jV C) (iJ C) (cV C)) [] (i6 U) E [x0,x1,.v (.lst (i6 K)),s3,x4]:=by
 intro U;induction U with
 |nil=>
  intro s3 _ h;rw[show i6 []=[] from rfl,aZ];exact⟨λp hp=>by simp at hp,h _⟩
 |cons t U ih=>
  intro s3 hU h;rw[show i6 (t::U)=.tup [.int t.1,.int t.2.1,.int t.2.2]::i6 U from rfl];push_cast [iF,vN];refine⟨⟨Nw [t.1,t.2.1,t.2.2],Kr K⟩,?_⟩;rw[QZ,decide_eq_true (hU t (di ..))];ac_nf;exact ih _ (λu hu=>hU u (df _ hu)) h
theorem OU{Ψ:yU->Prop}{x2 x3:Sl}(hn:(aJ rows).length<=12)(no:∀t,In4 (aJ rows).length t->alike (aJ rows) t=ao->barred (aJ rows) U t=ai->Ψ (XN,au)):∀(l:List T4) (s4:Sl),RN (aJ rows).length l->((∀t∈l,alike (aJ rows) t=ao->barred (aJ rows) U t=ao) -> ∀s4,E.nx [.v (c7 C rows),.v (.dit (dO U)),x2,x3,s4]) ->
  aY (gN 4) (fK XN Ψ C (iI C) jS (jV C) (iJ C) (cV C)) [] (CW l) E [.v (c7 C rows),.v (.dit (dO U)),x2,x3,s4]:=by
 intro l;induction l with
 |nil=>
  intro s4 _ h;rw[show CW []=[] from rfl,aZ];exact⟨λp hp=>by simp at hp,h (λt ht=>nomatch ht) _⟩
 |cons t l ih=>
  intro s4 A h;have i4:=A t (di ..);have nx:=λ(ht:alike (aJ rows) t=ao->barred (aJ rows) U t=ao) s4=>ih s4 (λu hu=>A u (df _ hu)) λhl=>h λu hu=>by
   rcases dj.mp hu with rfl | hu
   ·exact ht
   ·exact hl u hu
  rw[show CW (t::l)=d4 t::CW l from rfl,b5];refine⟨λp hp=>by simp at hp,?_⟩;generalize aY (gN 4) (fK XN Ψ C (iI C) jS (jV C) (iJ C) (cV C)) [] (CW l) E=G at nx ⊢;push_cast [fK];refine⟨rows,t,rfl,i4,?_⟩;cases e:alike (aJ rows) t with
  |true=>
   ac_nf;exact nx (λz=>by rw[e] at z;exact nomatch z) _
  |false=>
   ac_nf;refine⟨rows,U,t,rfl,hn,i4,?_⟩;cases eb:barred (aJ rows) U t with
   |true=>
    push_cast [zD];exact no t i4 e eb
   |false=>
    ac_nf;exact nx (λ_=>eb) _
theorem u8:∀ds Q Ψ,jU C XN ds Q Ψ->jC XN Ψ C (iI C) jS (jV C) (iJ C) (cV C) ↥Q (aM ["sides", "ups", "known", "three", "four"] ds):=by
 rintro ds Q Ψ ⟨rows,U,rfl,hn,hU,q,no⟩;ac_nf;refine⟨rows,rfl,hn,?_⟩;push_cast [Ee];rw[show (dO U).map Ie=i6 U by rw[ju];rfl];refine OV U _ hU λs3=>?_;ac_nf;refine⟨rfl,rows,rfl,?_⟩;ac_nf;refine⟨_,rfl,hn,λl A=>?_⟩;ac_nf;refine OU hn (λt i4 ha hb=>no λz=>?_) l _ (λt ht=>(A t).mp ht) λhl s4=>q ⟨hU,λt i4 ha=>hl t ((A t).mpr i4) ha⟩;have:=z.four t i4 ha;rw[hb] at this;exact nomatch this
end Lw
namespace Lw
open L2 Z
open Sf (Rw crs uR Pre Good aJ bG place many)
open Fl (kd ids Walk eS tls pc aP Pt tm n8)
def oI(ks:List Int)(U:List T3)(x y:Int):List Int:=(ids ks.length).filter λz=>w4 ks U z x y
def r9(ks:List Int)(U:List T3):List Ti:=(eO ks).map λp=>(p.1,p.2,oI ks U p.1 p.2)
def v9(C XN:ae):yT:=λds Q Ψ=>∃(rows:List Rw) (U:List T3),ds=[c7 C rows,.lst (i6 U)]/\(aJ rows).length<=12/\U.Nodup/\U.length<=2000/\(∀t∈U,t∈bQ (aJ rows))/\(UpsOk (aJ rows) U->Q (.nw (.lst (lO (r9 (aJ rows) U)))))/\(¬UpsOk (aJ rows) U->Ψ (XN,au))
variable {XN:ae}
theorem LF:∀ds Q Ψ,v9 C XN ds Q Ψ->ds.length=2:=by rintro ds Q Ψ ⟨_,_,rfl,_⟩;rfl
theorem IK:MonoX (v9 C XN):=⟨λds Q Q' Ψ Ψ' w v ⟨a,b,c,d,e,f,g,h,i⟩=>⟨a,b,c,d,e,f,g,λz=>w _ (h z),λz=>v _ (i z)⟩⟩
theorem zI{t:T3}(h:t ∉ U):B8 (dO U) (DO t) (.bl ai)=dO (U++[t]):=by
 have:=uL U t;rw[decide_eq_false h] at this;unfold B8;rw[show (dO U).any (λkv=>decide (kv.1=DO t))=ao from this,XQ ∅];simp
variable {E:En}{x1:Sl}
theorem SU{Ψ:yU->Prop}{x0 x4 x5 x6 x7:Sl}:∀(U acc:List T3) (s3:Sl),(acc++U).Nodup->acc.length+U.length<=2000->(∀s3,E.nx [x0,x1,.own a (.dit (dO (acc++U))),s3,x4,x5,x6,x7]) ->
  aY (gN 3) (l6 Ψ C (nQ C) (eV C) (cV C) (jU C XN)) [] (i6 U) E [x0,x1,.own a (.dit (dO acc)),s3,x4,x5,x6,x7]:=by
 intro U;induction U with
 |nil=>
  intro acc s3 _ _ h;rw[show i6 []=[] from rfl,aZ];rw[gv] at h;exact⟨λp hp=>by simp at hp,h _⟩
 |cons t U ih=>
  intro acc s3 nd hl h;rw[cg] at hl;have nt:t ∉ acc:=λz=>(vn.mp nd).2.2 t z t (di ..) rfl;rw[show i6 (t::U)=.tup [.int t.1,.int t.2.1,.int t.2.2]::i6 U from rfl];push_cast [l6,bf];refine⟨DO t,rfl,⋯,?_⟩;rw[zI nt];refine ih (acc++[t]) _ (by rw[dt];exact nd) (by simp;right) λs3=>?_;rw[dt];exact h s3
theorem SS{x y:Int}{Q:R->Prop}(hn:(aJ rows).length<=12)(hx:0<=x/\x<(aJ rows).length)(hy:0<=y/\y<(aJ rows).length):∀(i k:Nat) (acc:List Int),k+i=(aJ rows).length->acc.length<=k ->
  Q (.nw (.lst (bO (acc++((Y0 k i).map λz:Nat=>(z:Int)).filter λz=>w4 (aJ rows) U z x y)))) ->
  e9 [.un,.v (c7 C rows),.v (.dit (dO U)),.v (.int x),.v (.int y)] (gN 0) (kE (b8 (nQ C) (a9 (a8 1) (a9 (a8 2) (a9 (a8 0) (a9 (a8 3) (a9 (a8 4) aF))))))) (a8 0) (aW k i) (bO acc) Q:=by
 intro i;induction i with
 |zero=>
  intro k acc _ _ h;rw[bK,fT];simpa using h
 |succ i ih=>
  intro k acc hk ha h;rw[b6];push_cast [bf];refine⟨rows,U,(k:Int),x,y,rfl,hn,⟨⟨⋯,⋯⟩,hx,hy⟩,?_⟩;rw[List.range'_succ,cr] at h;rw[show ((k:Int)+1)=((k+1:Nat):Int) by right];cases e:w4 (aJ rows) U (k:Int) x y with
  |true=>
   rw[vg (p:=λz=>w4 (aJ rows) U z x y) e] at h;push_cast [bf];refine⟨⋯,?_⟩;rw[show bO acc++[Dv.int (k:Int)]=bO (acc++[(k:Int)]) by simp];exact ih (k+1) _ ⋯ (by simp;right) (by rw[dt];exact h)
  |false=>
   rw[vh (p:=λz=>w4 (aJ rows) U z x y) (by rw[e];decide)] at h;ac_nf;exact ih (k+1) acc ⋯ ⋯ h
theorem G0(n:Nat):(Y0 0 n).map (λz:Nat=>(z:Int))=ids n:=by rw[<- List.range_eq_range']
theorem ST{Ψ:yU->Prop}{x3:Sl}(hn:(aJ rows).length<=12):∀(ps:List (Int×Int)) (acc:List Ti) (s5 s6 s7:Sl),(∀p∈ps,p∈eO (aJ rows))->acc.length+ps.length<=1000 ->
  (∀s5 s6 s7,E.nx [.v (c7 C rows),x1,.v (.dit (dO U)),x3,.own b (.lst (lO (acc++ps.map λp=>(p.1,p.2,oI (aJ rows) U p.1 p.2)))),s5,s6,s7]) ->
  aY (gT [5,6]) (iX Ψ C (nQ C) (eV C) (cV C) (jU C XN)) [] (pH ps) E [.v (c7 C rows),x1,.v (.dit (dO U)),x3,.own b (.lst (lO acc)),s5,s6,s7]:=by
 intro ps;induction ps with
 |nil=>
  intro acc s5 s6 s7 _ _ h;rw[show pH []=[] from rfl,aZ];rw[wp,gv] at h;exact⟨λp hp=>by simp at hp,h _ _ _⟩
 |cons p ps ih=>
  intro acc s5 s6 s7 hp hl h;rw[cg] at hl;obtain⟨p0,p1,p2,_⟩:=lB.mp (hp p (di ..));have nx:=λs5 s6 s7=>ih (acc++[(p.1,p.2,oI (aJ rows) U p.1 p.2)]) s5 s6 s7 (λq hq=>hp q (df _ hq)) (by simp;right) λs5 s6 s7=>by rw[dt];exact h s5 s6 s7
  rw[show pH (p::ps)=.tup [.int p.1,.int p.2]::pH ps from rfl,b5];refine⟨λp hp=>by simp at hp,?_⟩;generalize aY (gT [5,6]) (iX Ψ C (nQ C) (eV C) (cV C) (jU C XN)) [] (pH ps) E=G at nx ⊢;push_cast [iX];refine⟨rfl,rows,rfl,?_⟩;ac_nf;refine⟨⋯,?_⟩;rw[bq];refine SS hn ⟨p0,⋯⟩ ⟨⋯,p2⟩ (aJ rows).length 0 [] ⋯ (br _) ?_;rw[gp,G0];push_cast [bf];refine⟨⋯,?_⟩;have e:lO acc++[Dv.tup [Dv.int p.1,Dv.int p.2,Dv.tup (bO (oI (aJ rows) U p.1 p.2))]]=lO (acc++[(p.1,p.2,oI (aJ rows) U p.1 p.2)]):=by simp
  have:=nx (.v (.int p.1)) (.v (.int p.2)) (.v (.lst (bO (oI (aJ rows) U p.1 p.2))));rw[<- e] at this;exact this
theorem BL:∀ds Q Ψ,v9 C XN ds Q Ψ->nN Ψ C (nQ C) (eV C) (cV C) (jU C XN) ↥Q (aM ["sides", "some", "ups", "three", "told", "x", "y", "below"] ds):=by
 rintro ds Q Ψ ⟨rows,U,rfl,hn,nd,ul,kn,q,no⟩;have pl:(eO (aJ rows)).length<=144:=by
  have h1:=rY (aJ rows) (aJ rows).length 0;have sq:(aJ rows).length*(aJ rows).length<=12*12:=nc hn hn;unfold eO;right
 ac_nf;intro a;refine SU U [] _ (by rw[gp];exact nd) (by simp;right) λs3=>?_;rw[gp];ac_nf;push_cast [Cp];refine⟨rows,U,rfl,hn,kn,λok=>?_,no⟩;ac_nf;intro b;refine⟨rfl,rows,rfl,hn,?_⟩;ac_nf;refine ST hn (eO (aJ rows)) [] _ _ _ (λp hp=>hp) (by simp;right) λs5 s6 s7=>?_;rw[gp];ac_nf;exact q ok
end Lw
namespace Lw
open L2 Z
open Sf (Rw crs uR Pre Good aJ bG place many)
open Fl (kd ids Walk eS tls pc aP Pt tm n8)
theorem EU(ks:List Int)(a b x:Int):∀(i c:Nat),(c:Int)<=x->x<(c+i:Nat)->kd ks x≠kd ks b->(a,b,x)∈yE ks a b i c
 |0,c,h1,h2,_=>by right
 |i+1,c,h1,h2,h3=>by
  rw[yE,fj];by_cases e:x=c
  ·subst e;rw[XQ h3];exact .inl (rg _)
  ·exact .inr (EU ks a b x i (c+1) ⋯ ⋯ h3)
variable {a b:Int}
theorem DG{c:Int}(h0:0<=a)(ab:a<b)(bc:b<c)(cn:c<ks.length)(k1:kd ks a≠kd ks b)(k2:kd ks b≠kd ks c):(a,b,c)∈bQ ks:=by
 refine W7.mpr ⟨(a,b),lB.mpr ⟨h0,ab,by show b<_;right,k1⟩,?_⟩;exact EU ks a b c _ _ (by show ((b.toNat+1:Nat):Int)<=c;right) (by show c<((b.toNat+1+(ks.length-(b.toNat+1)):Nat):Int);right) λz=>k2 z.symm
variable {e:List Int}
theorem Mr{fl:List Ti}(w:Walk ks (ids ks.length) row e)(d:eS ks e)(m:gM ks)(f:j9 ks row fl){c:Int}(h0:0<=a)(ab:a<b)(bc:b<c)(cn:c<ks.length)(k:kd ks a≠kd ks c):
  b∈GR fl a c ↔ n8 (tm ks row) a b c:=by
 have mm:=m a c h0 ⋯ cn;have hl:=w.tm_lt d h0 (show a<c by right) cn ⋯;obtain⟨pre,hp,_,hm⟩:=w.under h0 (show a<c by right) cn hl;have hb:=j9.below w f hp;rw[show GR fl a c=Fl.srt pre from hb,(Fl.iZ pre).mem_iff,hm b];unfold n8;constructor
 ·rintro⟨_,_,_,_,q | q⟩
  ·right
  ·exact q.2
 ·intro z;exact⟨⋯,⋯,⋯,⋯,.inr ⟨ab,z⟩⟩
structure UpsOf(ks:List Int)(fl:List Ti)(U:List T3):Prop where
 mem:∀t,t∈U ↔ t∈bQ ks/\t.2.1∈GR fl t.1 t.2.2
theorem qV{fl:List Ti}(w:Walk ks (ids ks.length) row e)(d:eS ks e)(m:gM ks)(f:j9 ks row fl)(u:UpsOf ks fl U){c:Int}(h0:0<=a)(ab:a<b)(bc:b<c)(cn:c<ks.length)(k:kd ks a≠kd ks c):
  cau ks U a b c=decide (n8 (tm ks row) a b c):=by
 refine(w.tms d m).counts h0 ab bc cn k λk1 k2=>?_;rw[u.mem (a,b,c)];have:=Mr w d m f h0 ab bc cn k;constructor
 ·exact λz=>this.mp z.2
 ·exact λz=>⟨DG h0 ab bc cn k1 k2,this.mpr z⟩
theorem RT{fl:List Ti}(w:Walk ks (ids ks.length) row e)(d:eS ks e)(m:gM ks)(f:j9 ks row fl)(u:UpsOf ks fl U):UpsOk ks U:=by
 refine⟨λt ht=>((u.mem t).mp ht).1,λt i4 ha=>?_⟩;obtain⟨h0,ij,jk,kl,hi⟩:=i4;unfold alike at ha;rw[Bool.or_eq_false_iff,decide_eq_false_iff_not,decide_eq_false_iff_not] at ha;obtain⟨k1,k2⟩:=ha;have m1:=m t.1 t.2.1 h0 ⋯ ⋯;have m2:=m t.2.1 t.2.2.1 ⋯ ⋯ ⋯;have m3:=m t.2.2.1 t.2.2.2 ⋯ ⋯ ⋯;have fo:=(w.tms d m).four h0 ij jk kl hi k1 k2;unfold barred;rw[qV w d m f u h0 ij jk ⋯ k1,qV w d m f u h0 ij ⋯ hi ⋯,qV w d m f u h0 ⋯ kl hi ⋯,qV w d m f u ⋯ jk kl hi k2];have ce:∀(p q:Prop) [Decidable p] [Decidable q],chg (decide p) (decide q)=if (p ↔ q) then 0 else 1:=λp q _ _=>by
  unfold chg;by_cases z:p ↔ q
  ·rw[Yh z,Yh (decide_eq_decide.mpr z)]
  ·rw[XQ z,XQ λy=>z (decide_eq_decide.mp y)]
 rw[ce,ce,ce];rcases fo with⟨a,b⟩ | ⟨a,b⟩ | ⟨a,b⟩
 all_goals
  rw[Yh a,Yh b];split<;>rfl
end Lw
namespace Lw
open L2 Z
open Sf (Rw crs uR Pre Good aJ bG place many)
open Fl (kd ids Walk eS tls pc aP Pt tm n8)
variable {e:List Int}{y z:Int}
theorem Bv{fl:List Ti}(w:Walk ks (ids ks.length) row e)(d:eS ks e)(m:gM ks)(f:j9 ks row fl)(u:UpsOf ks fl U){x:Int}(h0:0<=x)(xy:x<y)(yn:y<ks.length)(k:kd ks x≠kd ks y)(z0:0<=z)(zn:z<ks.length):
  w4 ks U z x y=ai ↔ z≠x/\z≠y/\((z<x/\tm ks row x y<tm ks row z x) \/ (x<z/\tm ks row x z<tm ks row x y)):=by
 rw[<- (w.tms d m).isb h0 xy yn k z0 zn];have m1:=m x y h0 ⋯ yn;unfold w4;by_cases e:z<x
 ·have m2:=m z x z0 ⋯ ⋯;rw[Yh e,Yh e,qV w d m f u z0 e xy yn ⋯];simp
 ·rw[XQ e,XQ e];by_cases e2:y<z
  ·have m2:=m y z ⋯ ⋯ zn;rw[Yh e2,Yh e2,qV w d m f u h0 xy e2 zn ⋯];simp
  ·rw[XQ e2,XQ e2];by_cases e3:x<z
   ·by_cases e4:z<y
    ·rw[qV w d m f u h0 e3 e4 yn k];simp[e3,e4]
    ·simp[e3,e4]
   ·simp[e3]
theorem OH(n:Nat):(ids n).Pairwise (· < ·):=by
 rw[iq];exact List.pairwise_lt_range.imp λh=>VM.mpr h
theorem LO:z∈ids n ↔ 0<=z/\z<n:=by
 rw[jg];constructor
 ·rintro⟨k,hk,rfl⟩;have:=xp.mp hk;right
 ·intro h;exact⟨z.toNat,xp.mpr ⋯,⋯⟩
theorem Ja{fl:List Ti}(w:Walk ks (ids ks.length) row e)(d:eS ks e)(m:gM ks)(f:j9 ks row fl)(u:UpsOf ks fl U){x:Int}(h0:0<=x)(xy:x<y)(yn:y<ks.length)(k:kd ks x≠kd ks y):
  oI ks U x y=GR fl x y:=by
 have m1:=m x y h0 ⋯ yn;have hl:=w.tm_lt d h0 xy yn ⋯;obtain⟨pre,hp,nd,hm⟩:=w.under h0 xy yn hl;have hb:=j9.below w f hp;rw[show GR fl x y=Fl.srt pre from hb];have up:=(OH ks.length).sublist (List.filter_sublist (p:=λz=>w4 ks U z x y));refine Fl.jR ((yw (up.imp λh=>Int.ne_of_lt h) nd).mpr λz=>?_) (up.imp λh=>U5 h);show z∈(ids ks.length).filter _ ↔ _;rw[TW,LO,hm z];constructor
 ·rintro⟨hz,q⟩;exact⟨hz.1,hz.2,(Bv w d m f u h0 xy yn k hz.1 hz.2).mp q⟩
 ·rintro⟨z0,zn,q⟩;exact⟨⟨z0,zn⟩,(Bv w d m f u h0 xy yn k z0 zn).mpr q⟩
def Bq(p q:Int×Int):Prop:=p.1<q.1 \/ (p.1=q.1/\p.2<q.2)
theorem Ec(ks:List Int)(a:Int):∀i b,(yF ks a i b).Pairwise Bq /\ ∀t∈yF ks a i b,t.1=a/\(b:Int)<=t.2
 |0,b=>⟨List.Pairwise.nil,λt ht=>by cases ht⟩
 |i+1,b=>by
  obtain⟨h1,h2⟩:=Ec ks a i (b+1);rw[yF];by_cases e:kd ks a=kd ks b
  ·rw[Yh e,gp];exact⟨h1,λt ht=>⟨(h2 t ht).1,by have:=(h2 t ht).2;right⟩⟩
  ·rw[XQ e,wd];refine⟨ix.mpr ⟨λt ht=>?_,h1⟩,λt ht=>?_⟩
   ·have:=h2 t ht;exact .inr ⟨this.1.symm,by show (b:Int)<t.2;right⟩
   ·rcases dj.mp ht with rfl | ht
    ·exact⟨rfl,zw _⟩
    ·have:=h2 t ht;exact⟨this.1,⋯⟩
theorem rX(ks:List Int):∀i a,(lD ks i a).Pairwise Bq /\ ∀t∈lD ks i a,(a:Int)<=t.1
 |0,a=>⟨List.Pairwise.nil,λt ht=>by cases ht⟩
 |i+1,a=>by
  obtain⟨h1,h2⟩:=rX ks i (a+1);obtain⟨g1,g2⟩:=Ec ks a (ks.length-(a+1)) (a+1);rw[lD];refine⟨ou.mpr ⟨g1,h1,λt ht u hu=>.inl ?_⟩,λt ht=>?_⟩
  ·have q1:=(g2 t ht).1;have q2:=h2 u hu;right
  ·rcases fj.mp ht with ht | ht
   ·exact Int.le_of_eq (g2 t ht).1.symm
   ·have:=h2 t ht;right
theorem sY{p q:Int×Int}(h:Bq p q)(k:Bq q p):False:=by
 unfold Bq at h k;right
theorem xW:∀{l m:List (Int×Int)},l.Pairwise Bq->m.Pairwise Bq->(∀t,t∈l ↔ t∈m)->l=m
 | [],[],_,_,_=>rfl
 | [],t::m,_,_,h=>by cases (h t).mpr (di ..)
 |t::l,[],_,_,h=>by cases (h t).mp (di ..)
 |t::l,u::m,hl,hm,h=>by
  obtain⟨l1,l2⟩:=ix.mp hl;obtain⟨m1,m2⟩:=ix.mp hm;have e:t=u:=by
   rcases dj.mp ((h t).mp (di ..)) with z | z
   ·exact z
   ·rcases dj.mp ((h u).mpr (di ..)) with y | y
    ·exact y.symm
    ·exact(sY (m1 t z) (l1 u y)).elim
  subst e;rw[xW l2 m2 λv=>?_];constructor
  ·intro hv;rcases dj.mp ((h v).mp (df _ hv)) with rfl | z
   ·exact(sY (l1 v hv) (l1 v hv)).elim
   ·exact z
  ·intro hv;rcases dj.mp ((h v).mpr (df _ hv)) with rfl | z
   ·exact(sY (m1 v hv) (m1 v hv)).elim
   ·exact z
theorem Ju{fl:List Ti}(w:Walk ks (ids ks.length) row e)(d:eS ks e)(m:gM ks)(f:j9 ks row fl)(s:fl.Pairwise λt u=>Bq (t.1,t.2.1) (u.1,u.2.1))(u:UpsOf ks fl U):r9 ks U=fl:=by
 have cov:=j9.cov w d m f;have key:=j9.keys w f;have rng:∀t∈fl,0<=t.1/\t.1<t.2.1/\t.2.1<ks.length/\kd ks t.1≠kd ks t.2.1:=λt ht=>by
  obtain⟨ts,pm,al⟩:=f;obtain⟨i,hi⟩:=qk.mp (pm.subset ht);have li:=(cf.mp hi).1;have lu:i<(tls (ids ks.length) row).length:=by rw[<- al.1];exact li
  obtain⟨e1,e2,_⟩:=al.2 i t _ hi (av lu);obtain⟨⟨a,b,ab,bn,ea,eb⟩,hk,_⟩:=w.key (Pt.ids _) (fq lu);have bn':b<ks.length:=by simpa using bn
  rw[Fl.kL ⋯] at ea;rw[Fl.kL bn'] at eb;rw[e1,e2];exact⟨⋯,⋯,⋯,⋯⟩
 have pe:eO ks=fl.map λt=>(t.1,t.2.1):=by
  refine xW (rX ks _ _).1 (iq.mpr s) λp=>?_;rw[lB,jg];constructor
  ·rintro⟨a,b,c,k⟩;obtain⟨t,ht,e1,e2⟩:=cov p.1 p.2 a b c k;exact⟨t,ht,Prod.ext e1 e2⟩
  ·rintro⟨t,ht,rfl⟩;exact rng t ht
 unfold r9;rw[pe,ju];refine(uc λt ht=>?_).trans (map_id fl);obtain⟨a,b,c,k⟩:=rng t ht;show (t.1,t.2.1,oI ks U t.1 t.2.1)=t;rw[Ja w d m f u a b c k];obtain⟨v,_,hv,e1,e2,e3⟩:=wB ⟨t,ht,rfl,rfl⟩;rw[e3];have vt:v=t:=by
  obtain⟨i,hi,ei⟩:=cm.mp hv;obtain⟨j,hj,ej⟩:=cm.mp ht;have pw:=da.mp s;rcases sh i j with q | q | q
  ·have:=pw i j hi hj q;rw[ei,ej,e1,e2] at this;exact(sY this this).elim
  ·subst q;rw[<- ei,<- ej]
  ·have:=pw j i hj hi q;rw[ei,ej,e1,e2] at this;exact(sY this this).elim
 rw[vt]
end Lw
namespace Lw
open L2 Z
open Sf (Rw crs uR Pre Good aJ bG place many)
open Fl (kd ids Walk eS tls pc aP Pt tm n8 srt tS g5)
theorem R3(us:List Ti):Al (us.map tS) us:=⟨by rw[bf],λi t u h1 h2=>by
 rw[dg,h2] at h1;cases h1;exact⟨rfl,rfl,rfl⟩⟩
theorem Eh{fl:List Ti}(h:fl.Perm (g5 (ids ks.length) row)):j9 ks row fl:=⟨_,h,R3 _⟩
def Op(t u:Ti):Bool:=decide (t.1<u.1 \/ (t.1=u.1/\t.2.1<=u.2.1))
theorem K4{e:List Int}(w:Walk ks (ids ks.length) row e):∃fl,j9 ks row fl/\fl.Pairwise λt u=>Bq (t.1,t.2.1) (u.1,u.2.1):=by
 have F:j9 ks row ((g5 (ids ks.length) row).mergeSort Op):=Eh (UY _ _);refine⟨_,F,?_⟩;have k:((g5 (ids ks.length) row).mergeSort Op).Pairwise _:=F.keys w;have h:=TN (le:=Op) (λa b c h1 h2=>by simp only[Op,decide_eq_true_eq] at *;right) (λa b=>by simp only[Op,Bool.or_eq_true,decide_eq_true_eq];right) (g5 (ids ks.length) row);refine(h.and k).imp λ{t u} ⟨h1,h2⟩=>?_;unfold Op at h1;rw[decide_eq_true_eq] at h1;unfold Bq;dsimp only;right
theorem QU(ks:List Int)(U:List T3)(z x y:Int):Fl.isb (cau ks U) z x y=w4 ks U z x y:=rfl
theorem Qo(ok:UpsOk ks U):Fl.Cs ks (cau ks U):=by
 refine⟨λa b d _ _ _ _ k=>by unfold cau;rw[Yh k],λa b d _ _ _ _ k1 k2=>by unfold cau;rw[XQ k1,Yh k2],λi j k l h0 ij jk kl hl k1 k2=>?_⟩;have b:=ok.four (i,j,k,l) ⟨h0,ij,jk,kl,hl⟩ (by unfold alike;rw[decide_eq_false k1,decide_eq_false k2];rfl);unfold barred at b;dsimp only at b;revert b;generalize cau ks U i j k=p;generalize cau ks U i j l=q;generalize cau ks U i k l=r;generalize cau ks U j k l=s;cases p<;>cases q<;>cases r<;>cases s<;>simp[Fl.bar,chg]
theorem Qi(m:gM ks)(ok:UpsOk ks U):∃row e,Walk ks (ids ks.length) row e/\eS ks e/\j9 ks row (r9 ks U)/\UpsOf ks (r9 ks U) U/\(r9 ks U).Pairwise λt u=>Bq (t.1,t.2.1) (u.1,u.2.1):=by
 obtain⟨row,e,w,d,f⟩:=Fl.exfit (cau ks U) ks.length ks rfl m (Qo ok);obtain⟨fl,F,so⟩:=K4 w;have key:∀a b c:Int,(a,b,c)∈bQ ks->(b∈GR fl a c ↔ (a,b,c)∈U):=λa b c h=>by
  obtain⟨h0,ab,bc,cn,k1,k2⟩:=uY h;dsimp only at h0 ab bc cn k1 k2;have m1:=m a b h0 ⋯ ⋯;have m2:=m b c ⋯ ⋯ cn;obtain⟨v,hv,e1,e2⟩:=w.all (Fl.Pt.ids _) d (x:=a) (y:=c) ⋯ (Fl.t5 h0 ⋯ cn);obtain⟨j,hj,gj⟩:=cm.mp hv;have hb:=F.below w (k:=j) (v:=v) (by rw[av hj,gj]);rw[e1,e2] at hb;rw[hb];have fi:=f (tS v) (vo hv) b ⋯ ⋯;rw[show (b∈srt v.2.2 ↔ b∈(tS v).2.2) from Iff.rfl,fi,show (tS v).1=a from e1,show (tS v).2.1=c from e2];unfold Fl.isb;rw[XQ ⋯,XQ ⋯,decide_eq_true ab,decide_eq_true bc,sk,sk];unfold cau;rw[XQ k1,XQ k2,decide_eq_true_eq]
 have u:UpsOf ks fl U:=⟨λt=>by
  obtain⟨a,b,c⟩:=t;constructor
  ·exact λh=>⟨ok.known _ h,(key a b c (ok.known _ h)).mpr h⟩
  ·exact λh=>(key a b c h.1).mp h.2⟩
 have te:=Ju w d m F so u;rw[te];exact⟨row,e,w,d,F,u,so⟩
end Lw
namespace Lw
open L2 Z
open Sf (Rw crs uR Pre Good aJ bG place many)
open Fl (kd ids Walk eS tls pc aP Pt tm n8)
def Ms(l:List Ti)(t:Int×Int×Int):Bool:=decide (t.2.1∈GR l t.1 t.2.2)
variable {Q:R->Prop}
theorem RU{fl:List Ti}(cov:Sk ks fl)(mono:gM ks):∀(l acc:List (Int×Int×Int)),(∀t∈l,t∈bQ ks)->acc.length+l.length<=10000->Q (.nw (.lst (i6 (acc++l.filter (Ms fl))))) ->
  e9 [.un,.v (.dit (Jm fl))] (gN 0) (bI (aR Om (aR cR (a8 0) (eC (.int 1))) (aR cR (a8 1) (gH (a9 (aR cR (a8 0) (eC (.int 0))) (a9 (aR cR (a8 0) (eC (.int 2))) aF)))))) (a8 0) (i6 l) (i6 acc) Q:=by
 intro l;induction l with
 |nil=>
  intro acc _ _ h;rw[show i6 []=[] from rfl,fT];simpa using h
 |cons t l ih=>
  intro acc hm hl h;simp only[cg] at hl;obtain⟨m1,m2,m3,m4,m5,m6⟩:=uY (hm t (by simp));have k1:=mono t.1 t.2.1 m1 ⋯ ⋯;have k2:=mono t.2.1 t.2.2 ⋯ ⋯ m4;obtain⟨u,hu,_,_,_,eu⟩:=wB (cov t.1 t.2.2 m1 ⋯ m4 ⋯);rw[show i6 (t::l)=.tup [.int t.1,.int t.2.1,.int t.2.2]::i6 l from rfl];push_cast [LX,hu,XU,Om,MV,bf];refine⟨⟨S0 _ _,tM _ _⟩,?_⟩;rw[<- eu];have e:Ms fl t=decide (t.2.1∈GR fl t.1 t.2.2):=rfl;by_cases z:t.2.1∈GR fl t.1 t.2.2
  ·rw[Yh z];refine⟨⋯,?_⟩;rw[show i6 acc++[Dv.tup [Dv.int t.1,Dv.int t.2.1,Dv.int t.2.2]]=i6 (acc++[t]) by simp];rw[vg (by rw[e];simpa using z)] at h;exact ih _ (λt ht=>hm t (df _ ht)) (by simp;right) (by simpa using h)
  ·rw[XQ z];rw[vh (by rw[e];simpa using z)] at h;exact ih _ (λt ht=>hm t (df _ ht)) ⋯ h
def kU:Fn:=λds Q=>∃(ks:List Int) (fl:List Ti),ds=[.lst (bO ks),.lst (lO fl)]/\1<=ks.length/\ks.length<=12/\fl.length<=1000/\CU fl/\Sk ks fl/\gM ks/\Q (.nw (.lst (i6 ((bQ ks).filter (Ms fl)))))
theorem L8:∀ds Q,kU ds Q->ds.length=2:=by rintro ds Q ⟨_,_,rfl,_⟩;rfl
theorem IF:MonoF kU:=⟨λds Q Q' w z=>by obtain⟨r,e,a,b,c,d,f,g,i,h⟩:=z;exact⟨r,e,a,b,c,d,f,g,i,w _ h⟩⟩
theorem HY:∀ds Q,kU ds Q->v6 oS nO ↥Q (aM ["_law_bands_here", "_law_tiles", "_law_belows_here"] ds):=by
 rintro ds Q ⟨ks,fl,rfl,h1,hn,hl,hk,cov,mono,h⟩;have tl:=tK hn;ac_nf;refine⟨fl,rfl,hl,hk,?_⟩;ac_nf;refine⟨ks,rfl,h1,hn,mono,?_⟩;ac_nf;exact RU cov mono (bQ ks) [] (λt ht=>ht) (by simp;right) h
theorem DS(ks:List Int)(a b:Int):∀i c,(yE ks a b i c).Pairwise (· ≠ ·)
 |0,c=>List.Pairwise.nil
 |i+1,c=>by
  rw[yE];by_cases e:kd ks c=kd ks b
  ·rw[Yh e,gp];exact DS ks a b i (c+1)
  ·rw[XQ e,wd];refine ix.mpr ⟨λt ht z=>?_,DS ks a b i (c+1)⟩;have:=(kK ks a b i (c+1) t ht).2.2.1;rw[<- z] at this;have q:((c+1:Nat):Int)<=c:=this;right
theorem F3(ks:List Int):(bQ ks).Nodup:=by
 unfold bQ eT;refine Ul.mpr ⟨λp _=>DS ks _ _ _ _,(rX ks _ _).1.imp λ{p q} h x hx y hy z=>?_⟩;have h1:=kK ks _ _ _ _ x hx;have h2:=kK ks _ _ _ _ y hy;subst z;unfold Bq at h;right
def l3(t u:T3):Prop:=t.1<u.1 \/ (t.1=u.1/\(t.2.1<u.2.1 \/ (t.2.1=u.2.1/\t.2.2<u.2.2)))
theorem O6{t u:T3}(h:gW [t.1,t.2.1,t.2.2] [u.1,u.2.1,u.2.2]=ai):l3 t u:=by
 unfold l3;simp only[gW] at h;split at h
 ·split at h
  ·split at h
   ·cases h
   ·exact .inr ⟨by assumption,.inr ⟨by assumption,of_decide_eq_true h⟩⟩
  ·exact .inr ⟨by assumption,.inl (of_decide_eq_true h)⟩
 ·exact .inl (of_decide_eq_true h)
theorem z9{α:Type}{R:α->α->Prop}(as:∀a b,R a b->R b a->False):∀{l m:List α},l.Pairwise R->m.Pairwise R->(∀t,t∈l ↔ t∈m)->l=m
 | [],[],_,_,_=>rfl
 | [],b::m,_,_,h=>nomatch (h b).mpr (di ..)
 |a::l,[],_,_,h=>nomatch (h a).mp (di ..)
 |a::l,b::m,h1,h2,h=>by
  obtain⟨a1,a2⟩:=ix.mp h1;obtain⟨b1,b2⟩:=ix.mp h2;have e:a=b:=by
   rcases dj.mp ((h a).mp (di ..)) with z | z
   ·exact z
   ·rcases dj.mp ((h b).mpr (di ..)) with y | y
    ·exact y.symm
    ·exact(as a b (a1 b y) (b1 a z)).elim
  subst e;refine congrArg _ (z9 as a2 b2 λt=>?_);constructor
  ·intro ht;rcases dj.mp ((h t).mp (df _ ht)) with z | z
   ·subst z;exact(as t t (a1 t ht) (a1 t ht)).elim
   ·exact z
  ·intro ht;rcases dj.mp ((h t).mpr (df _ ht)) with z | z
   ·subst z;exact(as t t (b1 t ht) (b1 t ht)).elim
   ·exact z
theorem DT(ks:List Int)(a b:Int):∀i c,(yE ks a b i c).Pairwise l3
 |0,c=>List.Pairwise.nil
 |i+1,c=>by
  rw[yE];by_cases e:kd ks c=kd ks b
  ·rw[Yh e,gp];exact DT ks a b i (c+1)
  ·rw[XQ e,wd];refine ix.mpr ⟨λt ht=>?_,DT ks a b i (c+1)⟩;obtain⟨h1,h2,h3,_⟩:=kK ks a b i (c+1) t ht;unfold l3;exact .inr ⟨h1.symm,.inr ⟨h2.symm,by dsimp only;right⟩⟩
theorem F4(ks:List Int):(bQ ks).Pairwise l3:=by
 unfold bQ eT;refine Ul.mpr ⟨λp _=>DT ks _ _ _ _,(rX ks _ _).1.imp λ{p q} h x hx y hy=>?_⟩;have h1:=kK ks _ _ _ _ x hx;have h2:=kK ks _ _ _ _ y hy;unfold Bq at h;unfold l3;right
theorem LY{fl:List Ti}(u:UpsOf ks fl U)(so:U.Pairwise l3):(bQ ks).filter (Ms fl)=U:=by
 refine z9 (R:=l3) (λa b h1 h2=>by unfold l3 at *;right) ((F4 ks).filter _) so λt=>?_;rw[u.mem t,TW];unfold Ms;rw[decide_eq_true_eq]
abbrev v3(t:T3):List Int:=[t.1,t.2.1,t.2.2]
theorem Cm{M:List T3}(hl:M.length<=1000)(h:∀U:List T3,U.Perm M->U.Pairwise l3->Q (.nw (.lst (i6 U)))):iK [.dit (dO M)] Q:=by
 rw[BO];refine⟨M.map v3,2,by rw[ju,ju];rfl,by rw[bf];right,λl hl=>?_,λls pm pw=>?_⟩
 ·obtain⟨p,_,rfl⟩:=jg.mp hl;rfl
 ·obtain⟨ps,pp,rfl⟩:=oW pm (its:=M) rfl;rw[ju];rw[iq] at pw;exact h ps pp (pw.imp λh=>O6 h)
variable {E:En}
theorem SB(m:gM ks){x:Nat}:∀(i b:Nat) (acc:List (Int×Int)) (s3:Sl),x<b->b+i<=ks.length->acc.length+i<=1000->(∀s3,E.nx [.v (.lst (bO ks)),.own a (.lst (pH (acc++yF ks x i b))),.v (.int x),s3]) ->
  aY (gN 3) iU [] (aW b i) E [.v (.lst (bO ks)),.own a (.lst (pH acc)),.v (.int x),s3]:=by
 intro i;induction i with
 |zero=>
  intro b acc s3 _ _ _ h;rw[bK,aZ];rw[show yF ks x 0 b=[] from rfl,gv] at h;exact⟨λp hp=>by simp at hp,h _⟩
 |succ i ih=>
  intro b acc s3 hb hi hl h;rw[b6,b5];refine⟨λp hp=>by simp at hp,?_⟩;rw[show ((b:Int)+1)=((b+1:Nat):Int) by right];have nx:=λacc s3=>ih (b+1) acc s3 ⋯ ⋯;generalize aY (gN 3) iU [] (aW ((b+1:Nat):Int) i) E=G at nx ⊢;have mo:=m x b ⋯ ⋯ ⋯;rw[yF] at h;push_cast [iU];rw[eR (show x<ks.length by right),eR (show b<ks.length by right)];push_cast [bf];have k1:kd ks (x:Int)=ks.getD x 0:=by unfold kd;rw[bq]
  have k2:kd ks (b:Int)=ks.getD b 0:=by unfold kd;rw[bq]
  rw[k1,k2] at mo;rw[k1,k2] at h;refine nZ (λq=>?_) λq=>?_
  ·refine⟨⋯,?_⟩;rw[show pH acc++[Dv.tup [Dv.int (x:Int),Dv.int (b:Int)]]=pH (acc++[((x:Int),(b:Int))]) by simp];refine nx _ _ (by simp;right) λs3=>?_;rw[XQ ⋯] at h;rw[dt];exact h s3
  ·refine nx _ _ ⋯ λs3=>?_;rw[Yh ⋯,gp] at h;exact h s3
theorem SA(m:gM ks)(hn:ks.length<=12):∀(i x:Nat) (acc:List (Int×Int)) (s2 s3:Sl),x+i=ks.length->acc.length+12*i<=900->(∀s2 s3,E.nx [.v (.lst (bO ks)),.own a (.lst (pH (acc++lD ks i x))),s2,s3]) ->
  aY (gN 2) iT [] (aW x i) E [.v (.lst (bO ks)),.own a (.lst (pH acc)),s2,s3]:=by
 intro i;induction i with
 |zero=>
  intro x acc s2 s3 _ _ h;rw[bK,aZ];rw[show lD ks 0 x=[] from rfl,gv] at h;exact⟨λp hp=>by simp at hp,h _ _⟩
 |succ i ih=>
  intro x acc s2 s3 hi hl h;rw[b6,b5];refine⟨λp hp=>by simp at hp,?_⟩;rw[show ((x:Int)+1)=((x+1:Nat):Int) by right];have nx:=λacc s2 s3=>ih (x+1) acc s2 s3 ⋯;generalize aY (gN 2) iT [] (aW ((x+1:Nat):Int) i) E=G at nx ⊢;rw[lD] at h;have il:=sB ks x (ks.length-(x+1)) (x+1);push_cast [iT,bf];rw[show ((x:Int)+1)=((x+1:Nat):Int) by right];refine⟨⋯,?_⟩;rw[show ((ks.length:Int)-((x+1:Nat):Int)).toNat=ks.length-(x+1) by right];refine SB m _ (x+1) acc _ ⋯ ⋯ ⋯ λs3=>?_;refine nx _ _ _ (by rw[ef];right) λs2 s3=>?_;rw[dt];exact h s2 s3
def sM:Fn:=λds Q=>∃ks:List Int,ds=[.lst (bO ks)]/\ks.length<=12/\gM ks/\Q (.nw (.lst (pH (eO ks))))
theorem LA:∀ds Q,sM ds Q->ds.length=1:=by rintro ds Q ⟨_,rfl,_⟩;rfl
theorem Nz:MonoF sM:=⟨λds Q Q' w z=>by obtain⟨a,b,c,d,e⟩:=z;exact⟨a,b,c,d,w _ e⟩⟩
theorem BH:∀ds Q,sM ds Q->nI ↥Q (aM ["_law_bands_here", "_law_found", "_law_a", "_law_b"] ds):=by
 rintro ds Q ⟨ks,rfl,hn,m,q⟩;push_cast [bf];refine λa=>⟨⋯,?_⟩;rw[bq];refine SA m hn ks.length 0 [] _ _ ⋯ (by simp;right) λs2 s3=>?_;rw[gp];ac_nf;exact q
end Lw
namespace Lw
open L2 Z
open Sf (Rw crs uR Pre Good aJ bG place many)
open Fl (kd ids Walk eS tls pc aP Pt tm n8)
def xQ:Fn:=λds Q=>∃(ks:List Int) (M:List T3) (a b c:Int),ds=[.lst (bO ks),.dit (dO M),.int a,.int b,.int c]/\Os ks.length a b c/\Q (.v (.bl (cau ks M a b c)))
theorem O4:∀ds Q,xQ ds Q->ds.length=5:=by rintro ds Q ⟨_,_,_,_,_,rfl,_⟩;rfl
theorem QF:MonoF xQ:=⟨λds Q Q' w z=>by obtain⟨a,b,c,d,e,f,g,h⟩:=z;exact⟨a,b,c,d,e,f,g,w _ h⟩⟩
theorem zK:∀ds Q,xQ ds Q->lU ↥Q (aM ["_law_bands_here", "_law_marks", "_law_a", "_law_b", "_law_c"] ds):=by
 rintro ds Q ⟨ks,M,a,b,c,rfl,⟨ha,hb,hc⟩,q⟩;unfold cau at q;ac_nf;rw[f7 ha.1 ha.2,f7 hb.1 hb.2];ac_nf;refine nZ (λe=>by rw[Yh e] at q;exact q) λe=>?_;rw[XQ e] at q;rw[f7 hc.1 hc.2];ac_nf;refine nZ (λe2=>by rw[Yh e2] at q;exact q) λe2=>?_;rw[XQ e2] at q;refine⟨DO (a,b,c),rfl,?_⟩;rw[uL];exact q
def lbar(ks:List Int)(M:List T3)(t:T4):Bool:=!alike ks t&&barred ks M t
def mZ:Fn:=λds Q=>∃(ks:List Int) (M:List T3) (t:T4),ds=[.lst (bO ks),.dit (dO M),.int t.1,.int t.2.1,.int t.2.2.1,.int t.2.2.2]/\In4 ks.length t/\Q (.v (.bl (lbar ks M t)))
theorem O5:∀ds Q,mZ ds Q->ds.length=6:=by rintro ds Q ⟨_,_,_,rfl,_⟩;rfl
theorem QH:MonoF mZ:=⟨λds Q Q' w z=>by obtain⟨a,b,c,d,e,h⟩:=z;exact⟨a,b,c,d,e,w _ h⟩⟩
theorem SD{p q r s:Bool}{Q:R->Prop}{x0 x1 x2 x3 x4 x5:Sl}(h:Q (.v (.bl (decide (1<chg p q+chg q r+chg r s))))):
  aY (gN 8) (kA xQ) [] (aW 0 3) { nx:=cM (aR EI (a8 7) (eC (.int 1))) ↥Q,rt:=Q } [x0,x1,x2,x3,x4,x5,.v (.lst [.bl p,.bl q,.bl r,.bl s]),.v (.int 0),.un]:=by
 revert h;cases p<;>cases q<;>cases r<;>cases s
 all_goals
  intro h;rw[show aW 0 3=[.int 0,.int 1,.int 2] from rfl];push_cast [kA]
  repeat (first | exact h | refine⟨⟨rfl,rfl⟩,?_⟩ | rw[Yh rfl])
theorem zN:∀ds Q,mZ ds Q->lW xQ ↥Q (aM ["_law_bands_here", "_law_marks", "_law_a", "_law_b", "_law_c", "_law_d", "_law_row_here", "_law_changes", "_law_k"] ds):=by
 rintro ds Q ⟨ks,M,t,rfl,i4,q⟩;obtain⟨h0,ij,jk,kl,hi⟩:=i4;unfold lbar alike barred at q;ac_nf;rw[f7 (show 0<=t.1 by right) ⋯,f7 (show 0<=t.2.1 by right) ⋯,f7 (show 0<=t.2.2.1 by right) ⋯,f7 (show 0<=t.2.2.2 by right) ⋯];ac_nf;have kn:∀{a b c:Int} {Q:R->Prop},(0<=a/\a<ks.length)->(0<=b/\b<ks.length)->(0<=c/\c<ks.length)->Q (.v (.bl (cau ks M a b c)))->xQ [.lst (bO ks),.dit (dO M),.int a,.int b,.int c] Q:=λha hb hc q=>⟨ks,M,_,_,_,rfl,⟨ha,hb,hc⟩,q⟩;refine nZ (λe=>?_) λe=>nZ (λe2=>?_) λe2=>?_
 ·rw[decide_eq_true e,Xp] at q;exact q
 ·rw[decide_eq_true e2,Bool.or_true] at q;exact q
 rw[decide_eq_false e,decide_eq_false e2,Te,UC,sk] at q;refine kn ⟨⋯,⋯⟩ ⟨⋯,⋯⟩ ⟨⋯,⋯⟩ ?_;ac_nf;refine kn ⟨⋯,⋯⟩ ⟨⋯,⋯⟩ ⟨⋯,⋯⟩ ?_;ac_nf;refine kn ⟨⋯,⋯⟩ ⟨⋯,⋯⟩ ⟨⋯,⋯⟩ ?_;ac_nf;refine kn ⟨⋯,⋯⟩ ⟨⋯,⋯⟩ ⟨⋯,⋯⟩ ?_;ac_nf;exact SD q
variable {j:Nat}
section
variable {M:List T3}{E:En}
theorem SL(yes:∀t,In4 ks.length t->lbar ks M t=ai->E.rt (.v (.bl ai))){k:Nat}(ij:i<j)(jk:j<k):∀(m l:Nat) (s:Sl),k<l->l+m=ks.length ->
  ((∀t,In4 ks.length t->t.1=i->t.2.1=j->t.2.2.1=k->(l:Int)<=t.2.2.2->lbar ks M t=ao) -> ∀s,E.nx [.v (.lst (bO ks)),.v (.dit (dO M)),.v (.int i),.v (.int j),.v (.int k),s]) ->
  aY (gN 5) (fJ mZ) [] (aW l m) E [.v (.lst (bO ks)),.v (.dit (dO M)),.v (.int i),.v (.int j),.v (.int k),s]:=by
 intro m;induction m with
 |zero=>
  intro l s _ ln h;rw[bK,aZ];exact⟨λp hp=>by simp at hp,h (λt i4 _ _ _ z=>by have:=i4.hi;right) s⟩
 |succ m ih=>
  intro l s kl ln h;have i4:In4 ks.length ((i:Int),(j:Int),(k:Int),(l:Int)):=⟨show (0:Int)<=i by right,show (i:Int)<j by right,show (j:Int)<k by right,show (k:Int)<l by right,show (l:Int)<ks.length by right⟩;rw[b6,b5];refine⟨λp hp=>by simp at hp,?_⟩;rw[show ((l:Int)+1)=((l+1:Nat):Int) by right];have nx:=λs=>ih (l+1) s ⋯ ⋯;generalize aY (gN 5) (fJ mZ) [] (aW ((l+1:Nat):Int) m) E=G at nx ⊢;push_cast [fJ];refine⟨ks,M,((i:Int),(j:Int),(k:Int),(l:Int)),rfl,i4,?_⟩;cases e:lbar ks M ((i:Int),(j:Int),(k:Int),(l:Int)) with
  |true=>
   ac_nf;exact yes _ i4 e
  |false=>
   ac_nf;refine nx _ λno=>h λt j4 a b c z=>?_;rcases qv z with z | z
   ·exact no t j4 a b c ⋯
   ·obtain⟨x,y,u,v⟩:=t;dsimp only at a b c z;rw[a,b,c,<- z];exact e
theorem SK(hn:ks.length<=12)(yes:∀t,In4 ks.length t->lbar ks M t=ai->E.rt (.v (.bl ai)))(ij:i<j):∀(m k:Nat) (s u:Sl),j<k->k+m=ks.length ->
  ((∀t,In4 ks.length t->t.1=i->t.2.1=j->(k:Int)<=t.2.2.1->lbar ks M t=ao) -> ∀s u,E.nx [.v (.lst (bO ks)),.v (.dit (dO M)),.v (.int i),.v (.int j),s,u]) ->
  aY (gN 4) (fH mZ) [] (aW k m) E [.v (.lst (bO ks)),.v (.dit (dO M)),.v (.int i),.v (.int j),s,u]:=by
 intro m;induction m with
 |zero=>
  intro k s u _ ln h;rw[bK,aZ];exact⟨λp hp=>by simp at hp,h (λt i4 _ _ z=>by have:=i4.hi;have:=i4.kl;right) s u⟩
 |succ m ih=>
  intro k s u jk ln h;rw[b6,b5];refine⟨λp hp=>by simp at hp,?_⟩;rw[show ((k:Int)+1)=((k+1:Nat):Int) by right];have nx:=λs u=>ih (k+1) s u ⋯ ⋯;generalize aY (gN 4) (fH mZ) [] (aW ((k+1:Nat):Int) m) E=G at nx ⊢;push_cast [fH,bf];refine⟨⋯,?_⟩;rw[show ((ks.length:Int)-((k:Int)+1)).toNat=ks.length-(k+1) by right,show ((k:Int)+1)=((k+1:Nat):Int) by right];refine SL ?_ ij jk (ks.length-(k+1)) (k+1) u ⋯ ⋯ ?_
  ·exact yes
  refine λa s=>nx _ s λb=>h λt i4 x y z=>?_;rcases qv z with z | z
  ·exact b t i4 x y ⋯
  ·exact a t i4 x y z.symm (by have:=i4.kl;right)
theorem SJ(hn:ks.length<=12)(yes:∀t,In4 ks.length t->lbar ks M t=ai->E.rt (.v (.bl ai))):∀(m j:Nat) (s u v:Sl),i<j->j+m=ks.length ->
  ((∀t,In4 ks.length t->t.1=i->(j:Int)<=t.2.1->lbar ks M t=ao) -> ∀s u v,E.nx [.v (.lst (bO ks)),.v (.dit (dO M)),.v (.int i),s,u,v]) ->
  aY (gN 3) (fG mZ) [] (aW j m) E [.v (.lst (bO ks)),.v (.dit (dO M)),.v (.int i),s,u,v]:=by
 intro m;induction m with
 |zero=>
  intro j s u v _ ln h;rw[bK,aZ];exact⟨λp hp=>by simp at hp,h (λt i4 _ z=>by have:=i4.hi;have:=i4.kl;have:=i4.jk;right) s u v⟩
 |succ m ih=>
  intro j s u v ij ln h;rw[b6,b5];refine⟨λp hp=>by simp at hp,?_⟩;rw[show ((j:Int)+1)=((j+1:Nat):Int) by right];have nx:=λs u v=>ih (j+1) s u v ⋯ ⋯;generalize aY (gN 3) (fG mZ) [] (aW ((j+1:Nat):Int) m) E=G at nx ⊢;push_cast [fG,bf];refine⟨⋯,?_⟩;rw[show ((ks.length:Int)-((j:Int)+1)).toNat=ks.length-(j+1) by right,show ((j:Int)+1)=((j+1:Nat):Int) by right];refine SK hn ?_ ij (ks.length-(j+1)) (j+1) u v ⋯ ⋯ ?_
  ·exact yes
  refine λa s u=>nx _ s u λb=>h λt i4 x z=>?_;rcases qv z with z | z
  ·exact b t i4 x ⋯
  ·exact a t i4 x z.symm (by have:=i4.jk;right)
theorem SI(hn:ks.length<=12)(yes:∀t,In4 ks.length t->lbar ks M t=ai->E.rt (.v (.bl ai))):∀(m i:Nat) (s u v x:Sl),i+m=ks.length ->
  ((∀t,In4 ks.length t->(i:Int)<=t.1->lbar ks M t=ao) -> ∀s u v x,E.nx [.v (.lst (bO ks)),.v (.dit (dO M)),s,u,v,x]) ->
  aY (gN 2) (fF mZ) [] (aW i m) E [.v (.lst (bO ks)),.v (.dit (dO M)),s,u,v,x]:=by
 intro m;induction m with
 |zero=>
  intro i s u v x ln h;rw[bK,aZ];exact⟨λp hp=>by simp at hp,h (λt i4 z=>by have:=i4.hi;have:=i4.kl;have:=i4.jk;have:=i4.ij;right) s u v x⟩
 |succ m ih=>
  intro i s u v x ln h;rw[b6,b5];refine⟨λp hp=>by simp at hp,?_⟩;rw[show ((i:Int)+1)=((i+1:Nat):Int) by right];have nx:=λs u v x=>ih (i+1) s u v x ⋯;generalize aY (gN 2) (fF mZ) [] (aW ((i+1:Nat):Int) m) E=G at nx ⊢;push_cast [fF,bf];refine⟨⋯,?_⟩;rw[show ((ks.length:Int)-((i:Int)+1)).toNat=ks.length-(i+1) by right,show ((i:Int)+1)=((i+1:Nat):Int) by right];refine SJ hn ?_ (ks.length-(i+1)) (i+1) u v x ⋯ ⋯ ?_
  ·exact yes
  refine λa s u v=>nx _ s u v λb=>h λt i4 z=>?_;rcases qv z with z | z
  ·exact b t i4 ⋯
  ·exact a t i4 z.symm (by have:=i4.ij;right)
end
def sN:Fn:=λds Q=>∃(ks:List Int) (M:List T3),ds=[.lst (bO ks),.dit (dO M)]/\ks.length<=12/\(∀t,In4 ks.length t->lbar ks M t=ai->Q (.v (.bl ai)))/\((∀t,In4 ks.length t->lbar ks M t=ao)->Q (.v (.bl ao)))
theorem LB:∀ds Q,sN ds Q->ds.length=2:=by rintro ds Q ⟨_,_,rfl,_⟩;rfl
theorem O0:MonoF sN:=⟨λds Q Q' w z=>by obtain⟨a,b,c,d,e,f⟩:=z;exact⟨a,b,c,d,λt x y=>w _ (e t x y),λz=>w _ (f z)⟩⟩
theorem u0:∀ds Q,sN ds Q->jA mZ ↥Q (aM ["_law_bands_here", "_law_marks", "_law_a", "_law_b", "_law_c", "_law_d"] ds):=by
 rintro ds Q ⟨ks,M,rfl,hn,yes,no⟩;push_cast [bf];refine⟨⋯,?_⟩;rw[bq];refine SI hn yes ks.length 0 _ _ _ _ ⋯ λa s u v x=>?_;ac_nf;exact no λt i4=>a t i4 i4.lo
end Lw
namespace Lw
open L2 Z
open Sf (Rw crs uR Pre Good aJ bG place many)
open Fl (kd ids Walk eS tls pc aP Pt Bf srt jR tS g5)
def Dk(l:List Int)(p:Nat):Ti:=(l.getD p 0,l.getD (p+1) 0,srt (l.take p))
theorem JA(l:List Ti)(t:Ti):w9 l t=decide (t∈l):=by
 unfold w9;induction l with
 |nil=>rfl
 |cons u l ih=>
  rw[tw,ih,<- UM];refine decide_eq_decide.mpr ?_;rw[dj];exact⟨λz=>z.imp Eq.symm _root_.id,λz=>z.imp Eq.symm _root_.id⟩
theorem NK{l:List Ti}{t:Ti}(h:t ∉ l):xU l t=l++[t]:=by
 have:=JA l t;rw[decide_eq_false h] at this;unfold xU;unfold w9 at this;rw[this,XQ ∅]
variable {e cur:List Int}
theorem wmore{R S:List Int}(w:Walk ks (ids ks.length) R e)(v:Walk ks (ids ks.length) S cur)(h:S.length<R.length):¬eS ks cur:=λd=>by
 have P:=Pt.ids ks.length;have nd:=w.nodup P;have:=nd.length_le_of_subset (l₂:=(tls (ids ks.length) S).map λt=>(t.1,t.2.1)) λk hk=>by
  obtain⟨t,ht,rfl⟩:=jg.mp hk;obtain⟨h1,h2,_⟩:=w.key P ht;obtain⟨u,hu,e1,e2⟩:=v.all P d h2 h1;exact jg.mpr ⟨u,hu,by rw[e1,e2]⟩
 rw[bf,bf,Fl.i5,Fl.i5] at this;right
variable {E:En}{x1 x6:Sl}
theorem QP{x0 x4 x5 x7:Sl}:∀(l acc:List Ti) (s:Sl),(acc++l).Nodup->acc.length+l.length<=1000->(∀s,E.nx [x0,x1,.own a (.dns (acc++l)),s,x4,x5,x6,x7]) ->
  aY (gN 3) (mX dC) [] (lO l) E [x0,x1,.own a (.dns acc),s,x4,x5,x6,x7]:=by
 intro l;induction l with
 |nil=>
  intro acc s _ _ h;rw[show lO []=[] from rfl,aZ];rw[gv] at h;exact⟨λp hp=>by simp at hp,h _⟩
 |cons t l ih=>
  intro acc s nd hl h;rw[cg] at hl;have nt:t ∉ acc:=λz=>(vn.mp nd).2.2 t z t (di ..) rfl;rw[show lO (t::l)=Jy t::lO l from rfl];push_cast [mX,Aw];refine⟨t,rfl,⋯,?_⟩;rw[NK nt];refine ih (acc++[t]) _ (by rw[dt];exact nd) (by simp;right) λs=>?_;rw[dt];exact h s
theorem QN{fl met:List Ti}(hn:ks.length<=12)(Pc:Pt ks.length cur)(ml:met.length<=100)
  (h:∀q,q+1<cur.length->kd ks (cur.getD q 0)<kd ks (cur.getD (q+1) 0)->Dk cur q∈fl->E.nx [.v (.lst (bO ks)),x1,.own a (.dns fl),.v (Jy (Dk cur q)),.v (.lst (bO (aP cur q))),.own b (.lst (lO (met++[Dk cur q]))),x6,.v (.int (q:Nat))]):
  ∀(i p:Nat) (s3 s7:Sl),p+i+1=cur.length->(∃q,p<=q/\q+1<cur.length/\kd ks (cur.getD q 0)<kd ks (cur.getD (q+1) 0)/\Dk cur q∈fl) ->
  aY (gN 7) (jO dC) [] (aW p i) E [.v (.lst (bO ks)),x1,.own a (.dns fl),s3,.v (.lst (bO cur)),.own b (.lst (lO met)),x6,s7]:=by
 have lc:=Pc.len;intro i;induction i with
 |zero=>
  intro p s3 s7 hp ⟨q,h1,h2,_⟩;right
 |succ i ih=>
  intro p s3 s7 hp ⟨q,h1,h2,h3,h4⟩;rw[b6,b5];refine⟨λp hp=>by simp at hp,?_⟩;rw[show ((p:Int)+1)=((p+1:Nat):Int) by right];have nx:=λs3 s7=>ih (p+1) s3 s7 ⋯;generalize aY (gN 7) (jO dC) [] (aW ((p+1:Nat):Int) i) E=G at nx ⊢;have b1:=Pc.bd p ⋯;have b2:=Pc.bd (p+1) ⋯;push_cast [jO];rw[eR (show p<cur.length by right),show ((p:Int)+1)=((p+1:Nat):Int) by right,eR (show p+1<cur.length by right),DY ⋯,bq,<- VE];ac_nf;refine xY (by simp;right) λms hm hs=>?_;obtain rfl:=jR hm hs;ac_nf;rw[f7 b1.1 b1.2,f7 b2.1 b2.2];ac_nf;refine nZ (λkk=>?_) λkk=>?_
  ·refine(show Hr (Jy (Dk cur p)) (.dns fl) _ from⟨Dk cur p,rfl,?_⟩);rw[JA];by_cases m:Dk cur p∈fl
   ·rw[decide_eq_true m];push_cast [bf];refine⟨⋯,cur,p,rfl,⋯,⋯,?_⟩;ac_nf;have:=h p ⋯ kk m;rw[show lO (met++[Dk cur p])=lO met++[Jy (Dk cur p)] by simp] at this;exact this
   ·rw[decide_eq_false m];ac_nf;refine nx _ _ ⟨q,?_,h2,h3,h4⟩;rcases UJ p q with z | z
    ·right
    ·exact absurd ((show p=q by right) ▸ h4) m
  ·refine nx _ _ ⟨q,?_,h2,h3,h4⟩;rcases UJ p q with z | z
   ·right
   ·exact absurd ((show p=q by right) ▸ h3) kk
theorem QM{fl:List Ti}(h2:2<=ks.length)(hn:ks.length<=12)(w:Walk ks (ids ks.length) row e)(d:eS ks e)(rl:row.length<=60)(pm:fl.Perm (g5 (ids ks.length) row))
  (h:∀S cur s3 s6 s7,Walk ks (ids ks.length) S cur->S.length=row.length->(∀t∈g5 (ids ks.length) S,t∈fl)->E.nx [.v (.lst (bO ks)),.v (.lst (lO fl)),.own a (.dns fl),s3,.v (.lst (bO cur)),.own b (.lst (lO (g5 (ids ks.length) S))),s6,s7]):
  ∀(i k:Nat) (S cur:List Int) (s3 s6 s7:Sl),k+i=row.length->S.length=k->Walk ks (ids ks.length) S cur->(∀t∈g5 (ids ks.length) S,t∈fl) ->
  aY (gN 6) (jN dC) [] (aW k i) E [.v (.lst (bO ks)),.v (.lst (lO fl)),.own a (.dns fl),s3,.v (.lst (bO cur)),.own b (.lst (lO (g5 (ids ks.length) S))),s6,s7]:=by
 have P:=Pt.ids ks.length;intro i;induction i with
 |zero=>
  intro k S cur s3 s6 s7 hk hS v sub;rw[bK,aZ];exact⟨λp hp=>by simp at hp,h S cur s3 s6 s7 v ⋯ sub⟩
 |succ i ih=>
  intro k S cur s3 s6 s7 hk hS v sub;have Pc:=v.pt P;have lc:=Pc.len;rw[b6,b5];refine⟨λp hp=>by simp at hp,?_⟩;rw[show ((k:Int)+1)=((k+1:Nat):Int) by right];have nx:=λS cur s3 s6 s7=>ih (k+1) S cur s3 s6 s7 ⋯;generalize aY (gN 6) (jN dC) [] (aW ((k+1:Nat):Int) i) E=G at nx ⊢;obtain⟨q,hq,u,hu,e1,e2,e3⟩:=Fl.greedy w d v (λt ht=>by
   have m:tS t∈g5 (ids ks.length) row:=pm.mem_iff.mp (sub _ (vo ht));obtain⟨u,hu,e⟩:=jg.mp m;have e':(u.1,u.2.1,srt u.2.2)=(t.1,t.2.1,srt t.2.2):=e;injection e' with a b;injection b with b c;exact⟨u,hu,a,b,(Fl.iZ _).symm.trans (c ▸ Fl.iZ _)⟩) (wmore w v ⋯)
  have mq:Dk cur q∈fl:=pm.mem_iff.mpr (by
   refine jg.mpr ⟨u,hu,?_⟩;unfold tS Dk;rw[e1,e2,Fl.Ck e3])
  have kq:kd ks (cur.getD q 0)<kd ks (cur.getD (q+1) 0):=by
   have:=(w.key P hu).2.1;rwa[e1,e2] at this
  push_cast [jN,bf];refine⟨⋯,?_⟩;rw[show ((cur.length:Int)-1).toNat=cur.length-1 by right];refine QN hn Pc (by rw[g5,bf,Fl.i5];right) (λp hp kk m=>?_) (cur.length-1) 0 _ _ ⋯ ⟨q,⋯,⋯,kq,mq⟩;have te:g5 (ids ks.length) (S++[(p:Int)])=g5 (ids ks.length) S++[Dk cur p]:=by
   rw[Fl.Cd v];rw[show g5 cur [(p:Int)]=[Dk cur p] by unfold g5;rw[tls,tls,bq];rfl]
  have:=nx (S++[(p:Int)]) (aP cur p) (.v (Jy (Dk cur p))) (.v (.int k)) (.v (.int (p:Nat))) (by rw[ef,hS];rfl) (v.snoc ⋯ kk) (λt ht=>by
   rw[te] at ht;rcases fj.mp ht with ht | ht
   ·exact sub t ht
   ·rw[eo.mp ht];exact m)
  rw[te] at this;exact this
def oR:Fn:=λds Q=>∃(ks row e:List Int) (fl:List Ti),ds=[.lst (bO ks),.lst (lO fl)]/\2<=ks.length/\ks.length<=12/\Walk ks (ids ks.length) row e/\eS ks e/\row.length<=60/\j9 ks row fl/\(fl.Pairwise λt u=>Bq (t.1,t.2.1) (u.1,u.2.1))/\Q (.v (.bl ai))
theorem IX:∀ds Q,oR ds Q->ds.length=2:=by rintro ds Q ⟨_,_,_,_,rfl,_⟩;rfl
theorem Kz:MonoF oR:=⟨λds Q Q' w z=>by obtain⟨a,b,c,d,e,f,g,h,i,j,k,m,l⟩:=z;exact⟨a,b,c,d,e,f,g,h,i,j,k,m,w _ l⟩⟩
theorem Ox{ts us:List Ti}(h:Al ts us):ts=us.map tS:=by
 apply qz;intro i;rw[dg];by_cases hi:i<us.length
 ·have hi':i<ts.length:=by rw[h.1];exact hi
  obtain⟨a,b,c⟩:=h.2 i _ _ (av hi') (av hi);rw[av hi',av hi];show aa ts[i]=aa (us[i].1,us[i].2.1,srt us[i].2.2);rw[<- a,<- b,<- c]
 ·rw[lh (by rw[h.1];right),lh ⋯];rfl
theorem Kt{fl:List Ti}(h:j9 ks row fl):fl.Perm (g5 (ids ks.length) row):=by
 obtain⟨ts,p,a⟩:=h;rw[Ox a] at p;exact p
theorem L4{t u:Ti}(h:gW [t.1,t.2.1] [u.1,u.2.1]=ai):Bq (t.1,t.2.1) (u.1,u.2.1):=by
 unfold Bq;simp only[gW] at h;split at h
 ·split at h
  ·cases h
  ·exact .inr ⟨by assumption,of_decide_eq_true h⟩
 ·exact .inl (of_decide_eq_true h)
theorem D6:∀ds Q,oR ds Q->pW dC ↥Q (aM ["_law_bands_here", "_law_tiles", "_law_marks", "_law_tile", "_law_path", "_law_met", "_law_step", "_law_p"] ds):=by
 rintro ds Q ⟨ks,row,e,fl,rfl,h2,hn,w,d,rl,F,so,q⟩;have pm:=Kt F;have L:fl.length=row.length:=by rw[pm.length_eq,g5,bf,Fl.i5]
 have key:=F.keys w;have nd:fl.Nodup:=List.Pairwise.imp (λ{t u} z q=>z (by rw[q];exact⟨rfl,rfl⟩)) key;push_cast [SW];intro a;refine QP fl [] _ (by rw[gp];exact nd) (by simp;right) λs=>?_;rw[gp];push_cast [bf];refine⟨⋯,λb=>⟨⋯,?_⟩⟩;rw[show ((ks.length:Nat):Int).toNat=ks.length by right,vG ks.length,bq];refine QM h2 hn w d rl pm (λS cur s3 s6 s7 v sl sub=>?_) fl.length 0 [] (ids ks.length) _ _ _ ⋯ rfl (.nil _) (λt ht=>nomatch ht);ac_nf;have FS:j9 ks S (g5 (ids ks.length) S):=Eh (.refl _);have ml:(g5 (ids ks.length) S).length=row.length:=by rw[g5,bf,Fl.i5,sl]
 generalize em:g5 (ids ks.length) S=ts at FS ml sub;rw[show lO ts=(ts.map λt=>([t.1,t.2.1],[Dv.tup (bO t.2.2)])).map tI by rw[ju];rfl];refine xX (k:=1) (by simp;right) (λt ht=>?_) ?_ λts' hp hs=>?_
 ·obtain⟨u,_,rfl⟩:=jg.mp ht;rfl
 ·rw[iq];exact(FS.keys v).imp λ{t u} z q=>z (by simpa using q)
 ·obtain⟨gl,hf,rfl⟩:=oW hp rfl;rw[ju];rw[iq] at hs;ac_nf;have ndt:ts.Nodup:=List.Pairwise.imp (λ{t u} z q=>z (by rw[q];exact⟨rfl,rfl⟩)) (FS.keys v);have sub':∀x∈fl,x∈ts:=λx hx=>oq λno=>by
   have:=(yd.mpr ⟨no,ndt⟩).length_le_of_subset (l₂:=fl) λy hy=>by
    rcases dj.mp hy with rfl | hy
    ·exact hx
    ·exact sub y hy
   rw[cg] at this;right
  have e:gl=fl:=z9 (R:=λt u:Ti=>Bq (t.1,t.2.1) (u.1,u.2.1)) (λa b h1 h2=>sY h1 h2) (hs.imp λh=>L4 h) so λt=>⟨λh=>sub t (hf.mem_iff.mp h),λh=>hf.mem_iff.mpr (sub' t h)⟩;subst e;refine(show sI (.lst (lO gl)) (.lst (lO gl)) _ from⟨⟨ML _,ML _⟩,?_⟩);rw[Lb,decide_eq_true rfl];exact q
end Lw
namespace Lw
open L2 Z
open Sf (Rw crs uR Pre Good aJ bG place many)
open Fl (kd ids Walk eS tls pc aP Pt tm n8)
abbrev d3(t:T3):Dv:=.tup [.int t.1,.int t.2.1,.int t.2.2]
variable {l:List T3}
theorem Md{k:Nat}(h:k<l.length):qZ (i6 l) (k:Int)=aa (d3 l[k]):=by
 rw[kQ ⋯ (by simp;right)];simp[h]
theorem Od{i:Int}(h0:0<=i)(h:i<l.length):∃t∈l,qZ (i6 l) i=aa (d3 t):=by
 obtain⟨k,rfl⟩:∃k:Nat,i=k:=⟨i.toNat,⋯⟩;exact⟨_,fq _,Md ⋯⟩
theorem N9{k:Nat}(h:k<1728):((1:Int)*2 ^ ((k:Int)).toNat≠0/\((1:Int)*2 ^ ((k:Int)).toNat).natAbs<2 ^ 4000):=by
 rw[bq,XG,X3];refine⟨λz=>?_,Nat.pow_lt_pow_right ∅ ⋯⟩;have z':=congrArg Int.natAbs z;rw[X3] at z';exact absurd z' (Nat.pos_iff_ne_zero.mp (Nat.pow_pos ∅))
abbrev Sw:cE:=mW nO pZ jT kU
abbrev TF:cE:=mV nO pZ jT kU
abbrev Sv:cE:=mU nO pZ jT kU
variable {E:En}{x0 x2 x7:Sl}
theorem N7{V:List T3}(nd:V.Nodup)(vl:V.length<=1728){c:Int}{x6:Sl}:∀(i k:Nat) (M:List T3) (s:Sl),k+i=V.length->M.Nodup->(∀t∈M,t∈V.take k)->M.length<=k ->
  (∀M s,M.Nodup->(∀t∈M,t∈V)->E.nx [x0,.v (.int c),x2,.v (.lst (i6 V)),.own a (.dit (dO M)),s,x6,x7]) ->
  aY (gN 5) Sw [] (aW k i) E [x0,.v (.int c),x2,.v (.lst (i6 V)),.own a (.dit (dO M)),s,x6,x7]:=by
 intro i;induction i with
 |zero=>
  intro k M s hk nm sub ml h;rw[bK,aZ];exact⟨λp hp=>by simp at hp,h M s nm λt ht=>rn (sub t ht)⟩
 |succ i ih=>
  intro k M s hk nm sub ml h;have hk':k<V.length:=⋯;rw[b6,b5];refine⟨λp hp=>by simp at hp,?_⟩;rw[show ((k:Int)+1)=((k+1:Nat):Int) by right];have nx:=λM s n1 s1 l1=>ih (k+1) M s ⋯ n1 s1 l1 h;generalize aY (gN 5) Sw [] (aW ((k+1:Nat):Int) i) E=G at nx ⊢;push_cast [mW,rW];refine⟨⟨by decide,by decide⟩,⟨⋯,⋯,by decide⟩,N9 ⋯,?_⟩;split
  ·rw[Md hk'];push_cast [bf];have nt:V[k] ∉ M:=λz=>by
    obtain⟨j,hj,e⟩:=cm.mp (sub _ z);have hj':j<k:=by rw[dw] at hj;right
    rw[fk] at e;have:=(VP nd).mp e;right
   refine⟨DO V[k],rfl,⋯,?_⟩;rw[zI nt];refine nx _ _ (vn.mpr ⟨nm,by simp,λx hx y hy=>?_⟩) (λt ht=>?_) (by simp;right)
   ·rw[eo.mp hy];exact λz=>nt (z ▸ hx)
   ·rw[qa hk'];rcases fj.mp ht with ht | ht
    ·exact gq _ (sub t ht)
    ·exact eg _ ht
  ·exact nx _ _ nm (λt ht=>by rw[qa hk'];exact gq _ (sub t ht)) ⋯
variable {x1:Sl}
theorem N6{x3 x5:Sl}:∀(U acc:List T3) (s:Sl),(acc++U).Nodup->acc.length+U.length<=2000->(∀s,E.nx [x0,x1,x2,x3,.own a (.dit (dO (acc++U))),x5,s,x7]) ->
  aY (gN 6) TF [] (i6 U) E [x0,x1,x2,x3,.own a (.dit (dO acc)),x5,s,x7]:=by
 intro U;induction U with
 |nil=>
  intro acc s _ _ h;rw[show i6 []=[] from rfl,aZ];rw[gv] at h;exact⟨λp hp=>by simp at hp,h _⟩
 |cons t U ih=>
  intro acc s nd hl h;rw[cg] at hl;have nt:t ∉ acc:=λz=>(vn.mp nd).2.2 t z t (di ..) rfl;rw[show i6 (t::U)=.tup [.int t.1,.int t.2.1,.int t.2.2]::i6 U from rfl];push_cast [mV,bf];refine⟨DO t,rfl,⋯,?_⟩;rw[zI nt];refine ih (acc++[t]) _ (by rw[dt];exact nd) (by simp;right) λs=>?_;rw[dt];exact h s
theorem N5{V:List T3}(vl:V.length<=1728):∀(i k:Nat) (M:List T3) (r:Int) (s u:Sl),M.Nodup->(∀t∈M,t∈V)->M.length+i<=2000 ->
  (∀M r s u,M.Nodup->(∀t∈M,t∈V)->E.nx [x0,x1,x2,.v (.lst (i6 V)),.own a (.dit (dO M)),s,u,.v (.int r)]) ->
  aY (gN 5) Sv [] (aW k i) E [x0,x1,x2,.v (.lst (i6 V)),.own a (.dit (dO M)),s,u,.v (.int r)]:=by
 intro i;induction i with
 |zero=>
  intro k M r s u nm sub _ h;rw[bK,aZ];exact⟨λp hp=>by simp at hp,h M r s u nm sub⟩
 |succ i ih=>
  intro k M r s u nm sub ml h;rw[b6,b5];refine⟨λp hp=>by simp at hp,?_⟩;rw[show ((k:Int)+1)=((k+1:Nat):Int) by right];have nx:=λM r s u n1 s1 l1=>ih (k+1) M r s u n1 s1 l1 h;generalize aY (gN 5) Sv [] (aW ((k+1:Nat):Int) i) E=G at nx ⊢;push_cast [mU,bf];by_cases v0:0<V.length
  ·rw[Yh ⋯];refine⟨⋯,?_⟩;obtain⟨t,tV,e⟩:=Od (l:=V) (i:=r % (V.length:Int)) (Tb _ ⋯) (vp _ ⋯);rw[e];push_cast [bf];refine⟨DO t,rfl,?_⟩;rw[uL];by_cases m:t∈M
   ·rw[decide_eq_true m];push_cast [Ax,bf];obtain⟨j,hj,ej⟩:=cm.mp m;refine⟨DO t,j,.bl ai,rfl,by rw[dg,av hj,ej];rfl,?_⟩;rw[show (dO M).eraseIdx j=dO (M.eraseIdx j) from uO _ _ _];refine⟨⟨⋯,⋯⟩,?_⟩;exact nx _ _ _ _ (nm.sublist (Ui ..)) (λx hx=>sub x (Th hx)) (by have:=TM M j;right)
   ·rw[decide_eq_false m];push_cast [bf];refine⟨DO t,rfl,⋯,?_⟩;rw[zI m];refine⟨⟨⋯,⋯⟩,?_⟩;refine nx _ _ _ _ (vn.mpr ⟨nm,by simp,λx hx y hy=>?_⟩) (λx hx=>?_) (by simp;right)
    ·rw[eo.mp hy];exact λz=>m (z ▸ hx)
    ·rcases fj.mp hx with hx | hx
     ·exact sub x hx
     ·rw[eo.mp hx];exact tV
  ·rw[XQ ⋯];exact nx _ _ _ _ nm sub ⋯
def oP:Fn:=λds Q=>∃(ks:List Int) (c o:Int),ds=[.lst (bO ks),.int c,.int o]/\2<=ks.length/\ks.length<=12/\gM ks/\pc ks<=60 /\ ∀M:List T3,M.Nodup->(∀t∈M,t∈bQ ks)->Q (.nw (.dit (dO M)))
theorem IS:∀ds Q,oP ds Q->ds.length=3:=by rintro ds Q ⟨_,_,_,rfl,_⟩;rfl
theorem Kv:MonoF oP:=⟨λds Q Q' w z=>by obtain⟨a,b,c,d,e,f,g,i,h⟩:=z;exact⟨a,b,c,d,e,f,g,i,λM x y=>w _ (h M x y)⟩⟩
theorem D1:∀ds Q,oP ds Q->pS nO pZ jT kU ↥Q (aM ["_law_bands_here", "_law_cell", "_law_others", "_law_every", "_law_marks", "_law_k", "_law_three", "_law_rest"] ds):=by
 rintro ds Q ⟨ks,c,o,rfl,h2,hn,m,hp,q⟩;have vl:=tK hn;have nd:=F3 ks;ac_nf;refine⟨ks,rfl,⋯,hn,m,?_⟩;push_cast [bf];intro a;split
 ·refine⟨⋯,?_⟩;rw[bq];refine N7 nd vl (bQ ks).length 0 [] _ ⋯ .nil (λt ht=>nomatch ht) (br _) λM s n1 s1=>?_;ac_nf;exact q M n1 s1
 ·refine⟨ks,_,rfl,h2,hn,hp,λrow e w d rl=>?_⟩;ac_nf;refine⟨ks,row,e,rfl,hn,w,rl,λfl F up=>?_⟩;ac_nf;have fl1:=F.len;refine⟨ks,fl,rfl,⋯,hn,⋯,F.keys w,F.cov w d m,m,?_⟩;ac_nf;have fsub:∀t∈(bQ ks).filter (Ms fl),t∈bQ ks:=λt ht=>(TW.mp ht).1;have flen:((bQ ks).filter (Ms fl)).length<=1728:=ly (wa ..) vl;refine N6 _ [] _ (nd.filter _) (by simp only[uy];right) λs=>?_;rw[gp];ac_nf;have o4:0<=o % 4/\o % 4<4:=⟨⋯,⋯⟩;obtain⟨k,hk⟩:∃k:Nat,o % 4=k:=⟨(o % 4).toNat,⋯⟩;rw[hk];refine⟨⋯,?_⟩;rw[bq];refine N5 vl k 0 _ _ _ _ (nd.filter _) fsub ⋯ λM r s u n1 s1=>?_;ac_nf;exact q M n1 s1
end Lw
namespace Lw
open L2 Z
open Sf (Rw crs uR Pre Good aJ bG place many)
open Fl (kd ids Walk eS tls pc aP Pt tm n8)
def sL(C:ae):Fn:=λds Q=>∃(rows:List Rw) (U:List T3),ds=[c7 C rows,.lst (i6 U)]/\(aJ rows).length<=12/\U.Nodup/\U.length<=2000/\(∀t∈U,t∈bQ (aJ rows)) /\ ¬UpsOk (aJ rows) U/\Q (.v (.bl ai))
theorem L7:∀ds Q,sL C ds Q->ds.length=2:=by rintro ds Q ⟨_,_,rfl,_⟩;rfl
theorem Ny:MonoF (sL C):=⟨λds Q Q' w z=>by obtain⟨a,b,c,d,e,f,g,h,i⟩:=z;exact⟨a,b,c,d,e,f,g,h,w _ i⟩⟩
variable {XT:ae}
theorem wW{XS XF:ae}(ci:ExcI K XT)(k1:rh K (.ref XT) (.ref XT)=aa ai)(k2:rh K (.ref XT) (.type "ValueError")=aa ai)(k3:rh K (.ref XT) (.ref XF)=aa ao):∀ds Q,sL C ds Q->kS K XS XT XF (v9 C XT) ↥Q (aM ["_law_sides_here", "_law_some_here", "_law_refused_here", "e"] ds):=by
 rintro ds Q ⟨rows,U,rfl,hn,nd,ul,kn,no,q⟩;push_cast [NA];refine⟨rows,U,rfl,hn,nd,ul,kn,λok=>absurd ok no,λ_=>⟨rfl,?_⟩⟩;push_cast [El,JN];refine⟨ci,ai,k1,ci,ai,k2,?_⟩;rw[Yh rfl];exact⟨ci,ao,k3,q⟩
theorem y6(ks:List Int):∀i a,a+i=ks.length->2*(lD ks i a).length<=i*i
 |0,_,_=>oj _
 |i+1,a,h=>by
  rw[lD,ef];have h1:=y6 ks i (a+1) ⋯;have h2:=sB ks a (ks.length-(a+1)) (a+1);have h3:(i+1)*(i+1)=i*i+2*i+1:=by rw[Ta,WA];right
  right
theorem uZ(hn:ks.length<=12):(bQ ks).length<=864:=by
 have h1:=y6 ks ks.length 0 ⋯;have h2:=lS ks (eO ks);have sq:ks.length*ks.length<=12*12:=nc hn hn;have h3:(eO ks).length*ks.length<=72*12:=nc (by unfold eO;right) hn;unfold bQ;right
abbrev Cl(C XT:ae):Fn:=λds Q=>v9 C XT ds Q λ_=>False
abbrev B0(C XT:ae):cE:=Eu oQ jJ l8 (jP C) oP sN (sL C) (Cl C XT) sM kU oR
variable {E:En}{x2 x3 x4 x5 x6:Sl}
theorem SG{k:Nat}{tl:cE}(h:∀cs (M U:List T3),Cnt cs->M.Nodup->(∀t∈M,t∈bQ (aQ 0 cs))->U.Perm M->U.Pairwise l3->tl E [.v (.scr ns),.v (.int k),.v (.lst (bO (aQ 0 cs))),.v (c7 C (cY 0 cs)),.v (.dit (dO M)),.v (.lst (i6 U)),x6]):
  (aV (cA 2 (b8 l8 (a9 (b8 jJ (a9 (a8 0) (a9 (a8 1) aF))) (a9 (b8 oQ (a9 (a8 0) (a9 (a8 1) (a9 (eC (.int 8)) aF)))) aF))))
 (aV (cA 3 (b8 (jP C) (a9 (a8 2) aF)))
 (aV (cA 4 (b8 oP (a9 (a8 2) (a9 (b8 jJ (a9 (a8 0) (a9 (aR dD (a8 1) (eC (.int 1))) aF))) (a9 (b8 jJ (a9 (a8 0) (a9 (aR dD (a8 1) (eC (.int 2))) aF))) aF)))))
 (aV (cA 5 (fD iK (a9 (a8 4) aF))) tl)))) E [.v (.scr ns),.v (.int k),x2,x3,x4,x5,x6]:=by
 ac_nf;refine⟨ns,k,rfl,⋯,λc=>?_⟩;ac_nf;refine⟨ns,k,rfl,λm h6 h12=>?_⟩;ac_nf;refine⟨c,m,rfl,h6,h12,λcs hc=>?_⟩;ac_nf;refine⟨cs,rfl,hc,?_⟩;ac_nf;refine⟨ns,(k:Int)+1,rfl,⋯,λc=>?_⟩;ac_nf;refine⟨ns,(k:Int)+2,rfl,⋯,λo=>?_⟩;ac_nf;obtain⟨n2,n12⟩:=AO hc;refine⟨aQ 0 cs,c,o,rfl,n2,n12,wL cs,JV hc,λM nd sub=>?_⟩;ac_nf;have ml:M.length<=864:=ly (nd.length_le_of_subset sub) (uZ n12);refine Cm ⋯ λU pu so=>?_;ac_nf;exact h cs M U hc nd sub pu so
theorem SE{Q:R->Prop}:∀(fl:List Ti) (acc:List (Int×Int)),acc.length+fl.length<=1000->Q (.nw (.lst (pH (acc++fl.map λt=>(t.1,t.2.1))))) ->
  e9 [.un,.un,.un] (gT [0,1,2]) jH (gH (a9 (a8 0) (a9 (a8 1) aF))) (lO fl) (pH acc) Q:=by
 intro fl;induction fl with
 |nil=>
  intro acc _ h;rw[show lO []=[] from rfl,fT];simpa using h
 |cons t fl ih=>
  intro acc hl h;rw[cg] at hl;rw[show lO (t::fl)=Jy t::lO fl from rfl];push_cast [bf];refine⟨⋯,?_⟩;rw[show pH acc++[Dv.tup [Dv.int t.1,Dv.int t.2.1]]=pH (acc++[(t.1,t.2.1)]) by simp];exact ih _ (by simp;right) (by rw[dt];exact h)
theorem IB(l:List (Int×Int)):dR 8 (.lst (pH l))=ai:=oY 7 _ λd hd=>by
 obtain⟨t,_,rfl⟩:=jg.mp hd;exact tM 6 [t.1,t.2]
theorem La(l m:List (Int×Int)):eqD (.lst (pH l)) (.lst (pH m))=decide (l=m):=by
 rw[xa,decide_eq_true_eq];refine wD _ (λt u=>?_) l m;rw[show Dv.tup [Dv.int t.1,Dv.int t.2]=.tup (bO [t.1,t.2]) from rfl,show Dv.tup [Dv.int u.1,Dv.int u.2]=.tup (bO [u.1,u.2]) from rfl,AB,decide_eq_true_eq];obtain⟨a,b⟩:=t;obtain⟨x,y⟩:=u;simp
variable {M:List T3}
theorem Jt(pu:U.Perm M)(sub:∀t∈M,t∈bQ ks):UpsOk ks U ↔ ∀t,In4 ks.length t->lbar ks M t=ao:=by
 have ce:∀a b c,cau ks U a b c=cau ks M a b c:=λa b c=>by
  unfold cau;rw[decide_eq_decide.mpr (pu.mem_iff (a:=(a,b,c)))]
 have be:∀t,barred ks U t=barred ks M t:=λt=>by unfold barred;simp only[ce]
 constructor
 ·intro ok t i4;unfold lbar;cases ha:alike ks t with
  |true=>rfl
  |false=>
   have:=ok.four t i4 ha;rw[be] at this;rw[this];rfl
 ·intro h;refine⟨λt ht=>sub t (pu.mem_iff.mp ht),λt i4 ha=>?_⟩;have:=h t i4;unfold lbar at this;rw[ha] at this;rw[be];simpa using this
variable {x0 x1:Sl}
theorem SF{cs:List Nat}(hc:Cnt cs)(nd:M.Nodup)(sub:∀t∈M,t∈bQ (aQ 0 cs))(pu:U.Perm M)(so:U.Pairwise l3)
  (h:∀x6,E.nx [x0,x1,.v (.lst (bO (aQ 0 cs))),.v (c7 C (cY 0 cs)),.v (.dit (dO M)),.v (.lst (i6 U)),x6]):
  (jI (kE (b8 sN (a9 (a8 2) (a9 (a8 4) aF)))) (jI (o8 (kE (b8 (sL C) (a9 (a8 3) (a9 (fD rV (a9 (a8 5) aF)) aF))))) (cM (eC (.bl ao))) cB) (aV (cA 6 (b8 (Cl C XT) (a9 (a8 3) (a9 (fD rV (a9 (a8 5) aF)) aF))))
 (aV (jI (Le (o8 (kE (AD "list" (a8 6)))) (bI (aR xZ (gD 3 [] (kC (a8 6)) (gT [0,1,2]) jH (gH (a9 (a8 0) (a9 (a8 1) aF)))) (b8 sM (a9 (a8 2) aF))))) (cM (eC (.bl ao))) cB)
 (jI (Le (bI (aR xZ (b8 kU (a9 (a8 2) (a9 (a8 6) aF))) (a8 5))) (o8 (kE (b8 oR (a9 (a8 2) (a9 (a8 6) aF)))))) (cM (eC (.bl ao))) cB)))) E [x0,x1,.v (.lst (bO (aQ 0 cs))),.v (c7 C (cY 0 cs)),.v (.dit (dO M)),.v (.lst (i6 U)),x6]:=by
 obtain⟨n2,n12⟩:=AO hc;have m:=wL cs;have kr:=DP cs;have ml:M.length<=864:=ly (nd.length_le_of_subset sub) (uZ n12);have ul:U.length<=864:=by rw[pu.length_eq];exact ml
 have ndU:U.Nodup:=pu.nodup_iff.mpr nd;have kn:∀t∈U,t∈bQ (aQ 0 cs):=λt ht=>sub t (pu.mem_iff.mp ht);have ub:=Jt pu sub;ac_nf;refine⟨aQ 0 cs,M,rfl,n12,λt i4 hb=>?_,λhb=>?_⟩
 ·ac_nf;have no:¬UpsOk (aJ (cY 0 cs)) U:=λok=>by
   rw[kr] at ok;have:=ub.mp ok t i4;rw[hb] at this;exact nomatch this
  refine⟨cY 0 cs,U,rfl,by rw[kr];exact n12,ndU,⋯,by rw[kr];exact kn,no,?_⟩;ac_nf;exact h _
 ·ac_nf;have ok:=ub.mpr hb;obtain⟨row,e,w,d,F,u,sf⟩:=Qi m ok;have rc:=w.count (by simp);rw[Fl.J8] at rc;have pc60:=JV hc;have fl1:=F.len;have fp:(r9 (aQ 0 cs) U).map (λt=>(t.1,t.2.1))=eO (aQ 0 cs):=by
   unfold r9;rw[ju];exact map_id _
  refine⟨cY 0 cs,U,rfl,by rw[kr];exact n12,ndU,⋯,by rw[kr];exact kn,λ_=>?_,λz=>absurd (by rw[kr];exact ok) z⟩;rw[kr];generalize r9 (aQ 0 cs) U=fl at F u sf fl1 fp;ac_nf;refine⟨rfl,?_⟩;rw[show J3 "list" (Dv.lst (lO fl))=ai from rfl];ac_nf;refine SE fl [] (by simp;right) ?_;rw[gp,fp];ac_nf;refine⟨aQ 0 cs,rfl,n12,m,?_⟩;push_cast [La];refine⟨⟨IB _,IB _⟩,?_⟩;refine⟨aQ 0 cs,fl,rfl,⋯,n12,⋯,F.keys w,F.cov w d m,m,?_⟩;rw[LY u so];push_cast [LZ];refine⟨⟨MK _,MK _⟩,?_⟩;refine⟨aQ 0 cs,row,e,fl,rfl,n2,n12,w,d,⋯,F,sf,?_⟩;ac_nf;exact h _
theorem T9{d:Dv}{Q:List Sl->Prop}(h:Q [x0,.v d,x2,x3,x4,x5,x6]):gN 1 d [x0,x1,x2,x3,x4,x5,x6] Q:=by
 ac_nf;exact h
theorem QQ:∀(ks:List Nat) (s1 s2 s3 s4 s5 s6:Sl),(∀s1 s2 s3 s4 s5 s6,E.nx [.v (.scr ns),s1,s2,s3,s4,s5,s6]) ->
  aY (gN 1) (B0 C XT) [] (ks.map λ(m:Nat)=>Dv.int (m:Int)) E [.v (.scr ns),s1,s2,s3,s4,s5,s6]:=by
 intro ks;induction ks with
 |nil=>
  intro s1 s2 s3 s4 s5 s6 h;rw[wp,aZ];exact⟨λp hp=>by simp at hp,h _ _ _ _ _ _⟩
 |cons k ks ih=>
  intro s1 s2 s3 s4 s5 s6 h;rw[cr,b5];refine⟨λp hp=>by simp at hp,?_⟩;have next:=λs1 s2 s3 s4 s5 s6=>ih s1 s2 s3 s4 s5 s6 h;generalize aY (gN 1) (B0 C XT) [] (ks.map λ(m:Nat)=>Dv.int (m:Int)) E=G at next ⊢;exact T9 (SG λcs M U hc nd sub pu so=>SF hc nd sub pu so λx6=>next _ _ _ _ _ _)
def spLaw:Fn:=λds Q=>∃ns:List Int,ds=[.scr ns]/\ns.length<=63/\Q (.v (.bl ai))
theorem LC:∀ds Q,spLaw ds Q->ds.length=1:=by rintro ds Q ⟨d,rfl,_⟩;rfl
theorem Q3:∀ds Q,spLaw ds Q->Gk oQ jJ l8 (jP C) oP sN (sL C) (Cl C XT) sM kU oR ↥Q (aM ["_law_script", "_law_k", "_law_bands_here", "_law_sides_here", "_law_marks", "_law_some_here", "_law_tiles"] ds):=by
 rintro ds Q ⟨ns,rfl,hl,h⟩;ac_nf;obtain⟨m,hm,m22⟩:∃m:Nat,(if (ns.length:Int)<21 then (ns.length:Int) else 21)+1=m/\m<23:=⟨((if (ns.length:Int)<21 then (ns.length:Int) else 21)+1).toNat,by split<;>right,by split<;>right⟩;rw[hm];have sm:∀m:Nat,m<23->xf 0 (m:Int) 3=ai/\0<=fc 0 (m:Int) 3/\(fc 0 (m:Int) 3).toNat<=23:=by decide +kernel
 obtain⟨q1,q2,q3⟩:=sm m m22;refine⟨⟨by decide,by decide,q1,q2⟩,?_⟩;have e:q9 0 3 (fc 0 (m:Int) 3).toNat=((gx (fc 0 (m:Int) 3).toNat).map λ(k:Nat)=>3*k).map λ(m:Nat)=>Dv.int (m:Int):=by
  unfold q9;rw[ju];apply uc;intro k _;show Dv.int (0+(k:Int)*3)=Dv.int ((3*k:Nat):Int);rw[show 0+(k:Int)*3=((3*k:Nat):Int) by right]
 rw[e];refine QQ _ _ _ _ _ _ _ λs1 s2 s3 s4 s5 s6=>?_;ac_nf;exact h
end Lw
namespace Hd
open PySem PySem.W
def Oo:List jv->Nat->BT->Option (BT×Nat)
 | [],n,t=>aa (t,n)
 |o::r,n,t=>match ((t.ins n o).get n).isSome with
  |true=>Oo r (n+1) (t.ins n o)
  |false=>au
theorem Ba{life:Life}:∀(l:List jv) (n:Nat) (t:BT) {t':BT} {n':Nat},Oo l n t=aa (t',n')->absHeap t' n' life=⟨((absHeap t n life).objs.toList++l).toArray,life⟩
 | [],n,t,t',n',h=>by
  cases h;rw[gv];rfl
 |o::r,n,t,t',n',h=>by
  rw[Oo] at h;cases g:((t.ins n o).get n).isSome with
  |false=>rw[g] at h;cases h
  |true=>
   rw[g] at h;rw[Ba r (n+1) (t.ins n o) h,absHeap_ins g];show Heap.mk _ _=Heap.mk _ _;congr 1;show (((absHeap t n life).objs.push o).toList++r).toArray=_;simp
theorem IC{t:BT}(e:Oo h.objs.toList 0 .nil=aa (t,n)):absHeap t n h.life=h:=by
 rw[Ba (life:=h.life) _ _ _ e];rfl
def uD(st:SharedT->yy->Option (SharedT×yy))(th:yy->Bool)(ok:yy->Bool):Nat->SharedT->yy->Option SharedT
 |0,_,_=>au
 |n+1,s,t=>match th t with
  |true=>aa s
  |false=>match ok t with
   |false=>au
   |true=>match Ye s.toks 1000000 with
    |false=>au
    |true=>match st s t with
     |some (s',t')=>uD st th ok n s' t'
     |none=>au
theorem r8{tb:String->Option su}{p:az}{w:bw}{n₀:Nat}{ann:Option af}:∀(n:Nat) (s:SharedT) (t:yy) {s':SharedT},uD (stepT (Y8 tb) p w) through (stepOk n₀ ann) n s t=aa s'->topRun tb p w n₀ ann n s.abs t=aa s'.abs
 |0,_,_,_,h=>by cases h
 |n+1,s,t,s',h=>by
  unfold uD at h;unfold topRun;cases ht:through t with
  |true=>rw[ht] at h;cases h;rfl
  |false=>
   rw[ht] at h;cases hk:stepOk n₀ ann t with
   |false=>rw[hk] at h;cases h
   |true=>
    rw[hk] at h;dsimp only at h ⊢;cases hb:Ye s.toks 1000000 with
    |false=>rw[hb] at h;cases h
    |true=>
     rw[hb] at h;dsimp only at h;cases hs:stepT (Y8 tb) p w s t with
     |none=>rw[hs] at h;cases h
     |some x=>
      obtain⟨s1,t1⟩:=x;rw[hs] at h;rw[stepT_spec hs];exact r8 n s1 t1 h
def Cr(st:SharedT->yy->Option (SharedT×yy))(th:yy->Bool)(ok:yy->Bool)(M:Nat)(h:dk)(gs:Array Tq)(d:Xa)(k:Nat)(os:Wz)(t:yy):Option SharedT:=
 match Oo h.objs.toList 0 .nil with
 |some (b,n)=>uD st th ok M ⟨b,n,h.life,gs,d,k,os⟩ t
 |none=>au
variable {p:az}{ann:Option af}{M:Nat}
theorem B2{tb:String->Option su}{n₀:Nat}{gs:Array Tq}{d:Xa}{k:Nat}{os:Wz}{t:yy}{s':SharedT}
  (e:Cr (stepT (Y8 tb) p w) through (stepOk n₀ ann) M h gs d k os t=aa s'):topRun tb p w n₀ ann M ⟨h,gs,d,k,os⟩ t=aa s'.abs:=by
 unfold Cr at e;cases q:Oo h.objs.toList 0 .nil with
 |none=>rw[q] at e;cases e
 |some x=>
  obtain⟨b,n⟩:=x;rw[q] at e;have:=r8 M _ _ e;unfold SharedT.abs at this;dsimp only at this;rw[IC q] at this;exact this
theorem LI{q:az}{loose:List bv}{Xt:ah->Bool}{Yf:ah->α}{Ya:bw->α}{N:Nat}{g0:Bool}{HZ:Xo->dk}{gs₀:Array Tq}{d₀:Xa}{k₀:Nat}{m₀:Nat}
  (open_:∀w:bw,(fencedOpening Wb p w N).map (λs=>(s.heap,s.gens,s.drawn,s.toks))=aa (HZ w.params,gs₀,d₀,k₀))
  (size:∀w:bw,((HZ w.params).isNs jo&&gs₀.size==0,(HZ w.params).objs.size,(HZ w.params).nsMap jo "__annotations__")=(ai,m₀,ann)) (le:Ye M N=ai)
  (run:∀(w:bw) (os:Wz),(Cr (stepT (Y8 Wb) p w) through (stepOk m₀ ann) M (HZ w.params) gs₀ d₀ k₀ os (topStub p)).map (λs=>
    ((staticsOk (Uc p.main.body) (HZ w.params) s.abs.heap&&namesBound p s.abs.heap&&gensDone s.abs&&laidKept (HZ w.params) s.abs.heap),openSeen q loose (Uc p.main.body) Xt g0 s.abs,Yf s.abs))=aa (ai,openGood q loose,Ya w)):
  LeftO p q loose Xt Yf Ya N g0:=λw=>by
 obtain⟨⟨h,gs,d,k,os⟩,e,e'⟩:=U7.mp (open_ w);obtain⟨rfl,rfl,rfl,rfl⟩:h=HZ w.params/\gs=gs₀/\d=d₀/\k=k₀:=by simpa using e'
 obtain⟨z1,z2,z3⟩:_/\_/\_:=by simpa only[V6] using size w
 obtain⟨s',r,l⟩:=U7.mp (run w os);obtain⟨l1,l2,l3⟩:_/\_/\_:=by simpa only[V6] using l
 have r:=topRun_mono (N-M) _ _ _ _ (B2 r);rw[show M+(N-M)=N by have:=wb le;right] at r;have t:topFrom Wb p w N ⟨HZ w.params,gs,d,k,os⟩=aa s'.abs:=by
  unfold topFrom;dsimp only;rw[z1,z2,z3,r];show (match staticsOk (Uc p.main.body) (HZ w.params) s'.abs.heap&&namesBound p s'.abs.heap&&gensDone s'.abs&&laidKept (HZ w.params) s'.abs.heap with | true=>_ | false=>_)=_;rw[l1]
 unfold openEnds;rw[e];show (topFrom Wb p w N _).map _=_;rw[t];exact congrArg aa (Prod.ext l2 l3)
end Hd
namespace Lw
open L2 Z
theorem law_start(hl:ns.length<=63)(hO:Jj H)(hS:gJ K H a (ns.map V.int)):low K spLaw [.ref a] H (λv _=>v=.bl ai) (λ_ _ _=>False):=
 F6 (λQ q=>⟨ns,rfl,hl,q⟩) hO (λP q z=>nomatch z.1) hS
theorem TH{us:List af}(h:us.length=1):∃a0,us=[a0]:=by
 cases us with
 |nil=>cases h
 |cons a r=>obtain⟨rfl⟩:=Tw.mp (Nat.succ.inj h);exact⟨a,rfl⟩
theorem Of{fa:ae}(X:K.In h)(G:h.Ns jo mg)(hfa:mg "law" = aa (.ref fa))
  {od0 an0:Option ae} {sl0:Array (Option af)} {oc0 kV0 dc0 pm0 cd0 ct0:af} {f0:ae}
  {dZ:ae}
  {aT:ae}
  {hG:ae}
  (aC:mg "Sides" = aa (.ref C))
  (m1:MF K C "__init__" "Sides.__init__" (g8 (top 28) 0))
  (m2:MF K C "many" "Sides.many" (g8 (top 28) 1))
  (m3:MF K C "kind" "Sides.kind" (g8 (top 28) 2))
  (m4:MF K C "pairs" "Sides.pairs" (g8 (top 28) 4))
  (cl:Cls K C) (mk:VR K C=ai) (kc:qj K (.ref C)=ai)
  (jK:jq K (.ref C) "kinds" = aa au)
  (sT:jq K (.ref C) "vectors" = aa au)
  (m5:DF K mg "threes" "threes" (top 7))
  (m6:DF K mg "counts_as_up" "counts_as_up" (top 8))
  (m7:DF K mg "fours" "fours" (top 9))
  (m8:DF K mg "has_three_alike" "has_three_alike" (top 10))
  (m9:DF K mg "is_barred" "is_barred" (top 11))
  (m10:DF K mg "check_threes" "check_threes" (top 12))
  (m11:DF K mg "is_below" "is_below" (top 13))
  (m12:DF K mg "floor_by" "floor_by" (top 14))
  (m13:DF K mg "is_whole" "is_whole" (top 16))
  (m14:DF K mg "has_three_wholes" "has_three_wholes" (top 22))
  (m15:DF K mg "has_few_figures" "has_few_figures" (top 23))
  (m16:DF K mg "points_up" "points_up" (top 24))
  (m17:DF K mg "lies_left" "lies_left" (top 25))
  (m18:DF K mg "check_direction" "check_direction" (top 26))
  (m19:DF K mg "check_directions" "check_directions" (top 27))
  (m20:DF K mg "_law_cell_at" "_law_cell_at" (top 30))
  (m21:DF K mg "_law_most" "_law_most" (top 33))
  (m22:DF K mg "_law_bands" "_law_bands" (top 34))
  (m23:DF K mg "_law_pick" "_law_pick" (top 35))
  (m24:DF K mg "_law_exchanged" "_law_exchanged" (top 36))
  (m25:DF K mg "_law_row" "_law_row" (top 37))
  (m26:DF K mg "_law_floor" "_law_floor" (top 38))
  (m27:DF K mg "_law_many" "_law_many" (top 39))
  (m28:DF K mg "_law_sides" "_law_sides" (top 40))
  (m29:DF K mg "_law_threes" "_law_threes" (top 41))
  (m30:DF K mg "_law_belows" "_law_belows" (top 42))
  (m31:DF K mg "_law_up" "_law_up" (top 43))
  (m32:DF K mg "_law_some" "_law_some" (top 44))
  (m33:DF K mg "_law_counts" "_law_counts" (top 45))
  (m34:DF K mg "_law_barred" "_law_barred" (top 46))
  (m35:DF K mg "_law_is_barred" "_law_is_barred" (top 47))
  (m36:DF K mg "_law_laid" "_law_laid" (top 48))
  (m37:DF K mg "_law_refused" "_law_refused" (top 49))
  (m38:DF K mg "_law_pairs" "_law_pairs" (top 50))
  (a0:mg "law" = aa (.ref f0))
  (l0:K.lookup f0=aa ⟨oc0,od0,.func (Tc "law" "law" (jM (top 51)) (eF (top 51)) (aI (top 51)) .none kV0 dc0 pm0 an0 cd0 ct0),sl0⟩) (c0:Uv K cd0 "law" = ai) (k0:qj K (.ref f0)=ai)
  (gE:∃t,mg "FEWEST_DIRECTIONS" = aa (.int 2 t))
  (hX:∃t,mg "MOST_DIRECTIONS" = aa (.int 6 t))
  (lR:∃t,mg "MOST_BANDS" = aa (.int 12 t))
  (i0:∃t,mg "LARGEST_PART" = aa (.int 999999999999 t))
  (lQ:mg "ValueError" = au)
  (Df:mg "abs" = au)
  (GV:mg "all" = au)
  (CY:mg "bool" = au)
  (n9:mg "enumerate" = au)
  (GU:mg "int" = au)
  (bF:mg "isinstance" = au)
  (bA:mg "len" = au)
  (fQ:mg "list" = au)
  (xN:mg "min" = au)
  (aS:mg "range" = au)
  (fP:mg "sorted" = au)
  (GT:mg "sum" = au)
  (eE:mg "tuple" = au)
  (xM:mg "zip" = au)
  (mP:mg "SlantError" = aa (.ref dZ))
  (gX:mg "NoThrees" = aa (.ref aT))
  (t8:mg "NoFloor" = aa (.ref hG))
  (rq_NoThrees:Yd K aT [.type "ValueError",.type "Exception",.type "BaseException",.type "object"] "ValueError.__new__" = ai)
  (x_NoThrees_SlantError:VH K (.ref aT) (.ref dZ)=aa ai)
  (ic1:W4 K aT=ai)
  (ic2:jq K (.ref aT) "__getattribute__" = aa (aa (.builtin "BaseException.__getattribute__")))
  (ic7:jq K (.ref aT) "__getattr__" = aa au)
  (ic8:Vt K aT (.type "BaseException")=aa ai)
  (ic3:jq K (.ref aT) "__class__" = aa (aa (.builtin "object.__class__")))
  (ic4:Uu K (.builtin "object.__class__") "__get__" = aa (aa (.builtin "getset_descriptor.__get__")))
  (ic5:VT K (.builtin "object.__class__")=aa ai)
  (ic6:Vt K aT (.type "object")=aa ai)
  (kq_NoThrees:rh K (.ref aT) (.ref aT)=aa ai)
  (kq_NoFloor:rh K (.ref aT) (.ref hG)=aa ao)
  (kq_V:rh K (.ref aT) (.type "ValueError")=aa ai):
  ∃fd:ke,(∀(s:ah) (v:af),Vv s fd ⟨[v],[]⟩ [("_law_script",v)]) /\ ∀base:dk,K.In base->base.Ns jo mg->FnOk P w K mg base Dd 8 fa fd ["_law_script"] ((low K spLaw)):=by
 have e:=hfa.symm.trans a0;cases e;have F0:=A9 (st:=(top 51)) l0 c0 k0;have mB:Dc K aT:=rq_NoThrees;have ci:ExcI K aT:=⟨ic1,ic2,ic7,ic8,ic3,ic4,ic5,ic6⟩;refine⟨Tc "law" "law" (jM (top 51)) (eF (top 51)) (aI (top 51)) .none kV0 dc0 pm0 an0 cd0 ct0,λs v=>.of_eq rfl,λbase _ _=>?_⟩;have mI:IAt K mg "Sides" C "Sides.__init__" (g8 (top 28) 0) ["self", "directions"]:=m1.ini aC mk kc;have AM:=JR P w mg base m7.at aS Fp Kn;have qR:=CD P w mg base m13.at bF GU CY LD D7;have gY:=pM P w mg base m14.at bF eE bA GV qR O1 Fj qB;have iD:=qK P w mg base m15.at Df i0 EV rS;have o9:=AE P w mg base m16.at  EV BE;have oA:=AF P w mg base m17.at  IW BF;have iE:=qL P w mg base m18.at gY ID iD IJ o9 IJ Ia rT;have gZ:=pN P w mg base m19.at bF fQ bA GT xM gE hX lR iE L0 oA Ky LG qC;have AN:=Li P w mg base mI n9 eE cl jK sT gZ O3 Fk Ng;have iL:=Lg P w mg base m2.at bA cl jK IV Nd;have eJ:=Lh P w mg base m3.at cl jK IY Nf;have d6:=uC P w mg base m6.at cl eJ d8 LH vM;have iC:=qJ P w mg base m8.at cl eJ d8 Fu rR;have oG:=AK P w mg base m9.at xM bA d6 IM DN BK;have qS:=CF P w mg base m11.at d6 IM LE D8;have p7:=JQ P w mg base m4.at aS cl iL g7 eJ d8 Fm Km;have wI:=GC P w mg base m5.at aS cl p7 lE iL g7 eJ d8 DK HX;have gQ:=tD P w mg base m10.at cl gX mB wI sU AM vT iC IO oG Fg iL g7 Fs u8;have JS:=gQ.calm;have kN:=AL P w mg base m12.at aS eE cl gQ IL qS O2 p7 lE iL g7 LF BL;have qT:=kN.calm;have dG:=wH P w mg base m20.at bA Ib wX;have qO:=CA P w mg base m21.at dG ET IU D4;have oF:=AJ P w mg base m22.at aS bA xN Ft BJ;have qN:=C9 P w mg base m23.at  IT D3;have cH:=tB P w mg base m24.at  IZ u7;have tE:=DW P w mg base m25.at bA fQ aS qN Kw cH zZ L5 FP;have oE:=AI P w mg base m26.at bA fQ aS fP eE cH zZ Fq BI;have qP:=CB P w mg base m27.at bA Fo D5;have oB:=AG P w mg base m28.at aS qP IH AN IE DL BG;have gA:=xB P w mg base m29.at bA aS L9 zJ;have mR:=xD P w mg base m30.at  DM zM;have lH:=GD P w mg base m31.at mR Ff gA IG L8 HY;have qM:=C8 P w mg base m32.at bA aS gA IG tE Nx oE II lH IF IS D1;have gB:=xC P w mg base m33.at  O4 zK;have mS:=xE P w mg base m34.at aS gB QF O5 zN;have jF:=t9 P w mg base m35.at bA aS mS QH LB u0;have qQ:=CC P w mg base m36.at bA fQ aS fP eE cH zZ IX D6;have kZ:=wG P w mg base m37.at bF lQ mP x_NoThrees_SlantError gX t8 kN IK L7 (wW ci kq_NoThrees kq_V kq_NoFloor);have oC:=AH P w mg base m38.at bA aS LA BH;exact OR P w mg base F0 bA xN aS fP fQ bF qO Kx dG ET oF IN oB Fe qM Kv jF O0 kZ Ny qT IK.calm oC Nz lH IF qQ Kz LC Q3
theorem walk{l:W.OpenLaw}{q:az}{loose:List bv}{XP:(bv->Option af)->dk->Prop}{YP:bw->dk->Prop}{d:DefRec}{K:Xo->ak}(hn:l.most=aa 63)(hdf:d.params.defaults=[])
  (hY:∀(w:bw) (h:dk),YP w h->(K w.params).In h)
  (F:∀(w:bw) (mg:bv->Option af) (fa:ae) (h:dk),(K w.params).In h->h.Ns jo mg->mg d.name=aa (.ref fa) ->
   ∃fd:ke,(∀(s:ah) (u:af),Vv s fd ⟨[u],[]⟩ [("_law_script",u)]) /\ ∀base:dk,(K w.params).In base->base.Ns jo mg->FnOk l.prog w (K w.params) mg base Dd 8 fa fd ["_law_script"] ((low (K w.params) spLaw))):
  W.WalkO q loose XP YP l.row.toRowW d [] (λf vs=>PySem.call f vs):=
 L2.Js (n:=63) (k:=8) (x:="_law_script") (CX:=λ_=>Dd) (sp:=λw=>(low (K w.params) spLaw)) hn ∅ hdf ⟨rfl,by decide,by decide⟩ hY F (λ_ H a ns hl hO hS=>law_start hl hO hS) λ_ _ _ _ _ z=>z
end Lw
def Hd.QV:PySem.Program:=PySem.W.view my [0,2,3,4,5,7,8,9,10,11,12,13,14,16,18,19,20,21,22,23,24,25,26,27,28,30,31,32,33,34,35,36,37,38,39,40,41,42,43,44,45,46,47,48,49,50,51]
open PySem PySem.W PyProof.Rows
local macro_rules | `(tactic| o_head $H)=>`(tactic| refine holds_open (q:=Hd.QV) (loose:=[]) (Xt:=λs=>xlAt Hd.QV [] s&&recOk (RowW.records (OpenRow.toRowW (OpenLaw.row PySem.Challenge.rw_slantfloor_k43_whole_sets_of_threes))) s) (XP:=XL Hd.QV []) (Yf:=Hook.obs $H) (Ya:=Hook.val $H) (YP:=Hook.says $H) (N:=5078) ?hl (Hook.of $H) (Hook.keeps $H) (λs e=>xl_of s (Bool.and_eq_true_iff.mp e).1) XL.keeps (by rfl) (by rfl) (by rfl) (λs e=>recFacts_of (Bool.and_eq_true_iff.mp e).2) (by rfl) (by first | assumption | decide +kernel) (by decide +kernel) ⟨rfl,rfl,rfl,rfl,rfl,by decide +kernel⟩ ?hw ?hc)
set_option maxRecDepth 100000 in
set_option maxHeartbeats 0 in
theorem PySem.Challenge.cw_slantfloor_k43_whole_sets_of_threes_holds : PySem.Challenge.rw_slantfloor_k43_whole_sets_of_threes.Holds := by
 w_on;o_law;k_head
 (case hl=>exact Hd.LI (HZ:=boot_heap) (gs₀:=Array.mk []) (d₀:=boot_drawn) (k₀:=boot_toks) (m₀:=11) (ann:=aa (.ref 6)) (M:=5078) (boot_open (by kernel_rfl) rfl (λs=>by kernel_rfl)) (λw=>by kernel_rfl) rfl (λw os=>by rw[V7,V8,V9,Vl,Vm];kernel_rfl))
 (case hw=>w_witness2)
 k_fill
 refine Lw.walk (l:=ng) rfl rfl (λw h Y=>by first | exact PySem.W.kIn_of Y | exact PySem.W.km_in_of Y) ?F
 case F=>
  intro w mg fa h KX G hmg;apply Lw.Of KX G hmg
  any_goals first | refine' Z.DF.mk (mg_of KX G ?_) ?_ ?_ ?_ | refine' Z.MF.mk ?_ ?_ ?_ ?_ ?_ | refine' mg_none_of KX G ?_ | refine' mg_of KX G ?_ | refine' Z.TB (mg_of KX G ?_) | refine' Z.exS (mg_of KX G ?_) | refine' L2.Cls.mk ?_ ?_ ?_ ?_
  any_goals k_is
  (case rq_NoThrees=>k_exc)
  (case x_NoThrees_SlantError=>kts_exm)
  (case kq_NoThrees=>kit_is)
  (case kq_NoFloor=>kit_is)
  (case kq_V=>kit_is)

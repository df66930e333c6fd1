import PyProof.Rows.All
import Lean
import Wide.FinOn
import OpenK.KOwn
import KE.KNest
import KE.RegKIsAll
import KE.RegKTryMore
import PyProof.EqAt
import PyProof.EqKinds
import PyProof.TupleCall
import PyProof.NeKinds
import PyProof.NeData
import PyProof.EqLayable
import PyProof.ZipIter
import PyProof.EnumMake
import KE.LcSums
import PyProof.CompFree
import PyProof.ListRange
import PyProof.Rows.Range3
import PyProof.TupleOfSeq
import KE.KSortTup
import PyProof.Rows.TupAdd
import PyProof.DictWalks
import PyProof.AutoListH
import PyProof.StrWalks
import PyProof.SliceStr2
import PyProof.StrBlock2
import PyProof.StrLaws
import PyProof.StrCalls
import PyProof.CallStr
import KE.KIntText
import KE.KDictSum
import PyProof.Rows.SetFrom
import PyProof.SetRoads
import PyProof.Rows.StrInSeq3
import Open.Boot
import Open.Tree
import PySem.Challenge.RW_slantfloor_k53_ways_to_the_low_floor
open Option renaming some->aa,none->aq,map_some->vg,isSome_iff_exists->xa,map_eq_some_iff->zh,isSome_some->Vj
open PySem renaming Value->ae,Addr->af,wpAny_bind->ah,Shared->aj,Program->aw,wpAny_pure->az,starEach->bg,sizeLine->bo,Str->bt,World->bv,wpAny->bz,model->cg,Around->de,Heap->dm,compareOp->dt,eval->fi,wpAny_field->fm,boot_len->fu,wpAny_call_entry->fy,mem_of_lookup->gf,wpAny_truthy_bool->gg,wpAny_callSpecial?_slot->gp,relabel->gw,sysModules->ie,wpAny_mono->ig,foldedSetIterable->im,sizeLine_eq->io,mainGlobals->je,binaryOp->jo,backTo->jv,FuncData->jw,wpAny_newObj_type->kg,swapsWith->kh,Stmt->kx,wpAny_holding->lq,Obj->lv,Pos->ma,cLine->mw,wpAny_passesOwn->nj,wpAny_rule->nv,attributeBase->nz,wpAny_isInstance->oj,bootBuiltins->ph,assignEach->qe,wpAny_attempt->qx,behindInMarks->rg,wpAny_newList->rm,slot_listiter_next->rq,wpAny_Call_Name_kw->sd,tupleKind_room_in1->sh,IsRangeIter->su,keywordEach->sv,sliceBounds->sx,wpAny_seqItems->uc,isSubtype_stop->ue,wpAny_dictEntries->um,pyNext->uu,closureFor->ux,NameKind->vf,wpAny_execs_nil->vk,letOwnedTupleGo->vm,wpAny_setField_rec->we,Thread->wr,Builtin->ww,getMethod->xm,backToKw->xn,noFill_tuple_add->xo,wpAny_pyNext_list_item->yc,standAt->ye,holding->yf,wpAny_pyIter_rangeiter->yg,codeAny->yh,codeAny_mono->yi,call_meets->yq,importedModules->zk,Env->zl,wpAny_pyIter_listiter->zp,Model->zu,field->zv,wpAny_setField->zw,tupleKind->Ut,Keyword->Uu,callerA->Uv,valueAt->Uw,entry_listiter_next->Uy,seq_tuple_add->V5,args_listiter_next->Va,assign->Vd,wpAny_pyIter_range->Ve,IsPart->Vi,Within->Vn,GenState->Vp,wpAny_assign_Name->Vq,BindsTo->Vs,concat_meets->Vu,getItem->Vv,slot_list_getitem->Vw,wpAny_pyIter_enum->Vx,wpAny_pyIter_list->Vy,Sem->VL,wpAny_eqBool_int->VN,wpAny_execs_cons->VO,PassesOwn->VP,lastMarks->VQ,wpAny_pyIter_zip->VV,treeTable->W6,CmpOp->Wa,subscripted->Wc,atKey->Wd,codeAny_builtin->Wu,size_of_entries->Wv,wpAny_dictEpoch->Ww,wpAny_load->WA,firstArgMember->WB,IsPair->WC,builtinsNs->WD,wpAny_Name->WE,recursionLimit->WG,callWith->WH,bindL->WI,bindC->WJ,typeIs_int->WN,ReadsAll->WQ,wpAny_newTuple->WT,checkCount->WV,seqItems?->X5,again->X7,cellsFrom->X9,Reads->Xa,hashInt->Xd,truthy->Xe,rule->Xg,Params->Xi,PyData->Xk,raiseNew->Xs,ZipApart->Xu,intItems->Xv,bindArgs->XE,compPost->XH,rawInt->XT,denote->XZ,IsZip->Y0,Drawn->Y1
open Bool renaming true->ai,false->ap,and_eq_true->eg,false_eq_true->fe,false_ne_true->mf,eq_iff_iff->rn,or_eq_false_iff->vj,not_eq_true'->xi,decide_or->Uq,or_eq_true->Wx,not_true->X4,true_or->Xj
open PySem.W renaming Frag->ak,findIn->oo,emptyDict->oz,kia_one->qb,keepIn->rh,instObj->uv,fnOf->xj,codeIn->Ud,plainGet_of->V4,plainGet->Vh,callWith_K->Vt,makesIn->VR,cellsFrom_some->VT,methodObj->W9,hasDictIn->Wb,methodCall_KW->Wn,lookIn->WF,takerIn->X8,kitOne->XD,isFn->XU
open PySem.Heap renaming get?_push_of_some->ao,lt_size->bf,get?_push_size->cr,get?_update_other->fv,size_update->qj,get?_update_ne->qw,size_push->tw,SameBut->vw,ExtBut->wx
open List renaming getElem?_eq_getElem->ar,replicate->au,getElem?_append_right->ay,getElem?_eq_some_iff->bb,getElem?_append_left->bh,length_map->bi,mem_cons_of_mem->bm,length_cons->bp,mem_cons->bq,length_append->br,pairwise_iff_getElem->cf,mem_cons_self->ci,getElem?_map->cj,append_assoc->cm,map_cons->cp,mem_of_getElem?->cq,getD->dg,getD_eq_getElem?_getD->dh,size_toArray->di,length_take->dj,mem_singleton->dq,mem_append_right->dr,mem_append->dv,eq_of_mem_replicate->dw,mem_iff_getElem->ed,getElem_mem->eh,pairwise_cons->eo,drop_eq_getElem_cons->fc,getElem?_set_ne->ff,mem_append_left->fh,pairwise_append->fj,length_singleton->fk,range->fw,mem_map->fx,getElem?_take_of_lt->fz,pairwise_map->gm,getElem?_set_self->gv,append_nil->ii,not_mem_nil->ip,getElem_take->iq,perm_ext_iff_of_nodup->ir,getElem?_replicate->jf,perm_append_comm->jg,filter_cons->jh,mem_filter->ji,reverse_perm->jl,cons_append->jn,take_append_drop->jt,map_congr_left->jx,filter_eq_nil_iff->ki,map_map->lj,replicate_succ->mh,mem_of_find?_eq_some->ni,take_of_length_le->nk,mem_or_eq_of_mem_set->nr,flatten_replicate_singleton->nu,nil_append->oh,length_replicate->oq,mem_iff_getElem?->ot,ext_getElem?->pi,Nodup->pk,filter_cons_of_pos->pq,filter_cons_of_neg->px,length_filter_le->qk,any_cons->rj,nodup_cons->sf,getElem?_drop->sr,getElem?_cons_zero->sy,flatten_cons->uh,find?_cons_of_pos->ui,find?_cons_of_neg->uj,getElem?_eq_none->uq,pairwise_reverse->ur,getElem?_toArray->ut,mem_range->uw,find?_cons->uy,map_append->uz,filter_append->ve,drop_length->vh,take_append_of_le_length->vi,dropLast_concat_getLast->vn,filterMap_cons->vp,take_succ_cons->vq,map_nil->vx,drop_sublist->wa,find?_eq_none->wp,any_eq_false->wz,take_sublist->xb,all_eq_true->xc,length_eq_zero_iff->xq,pairwise_mergeSort->xx,sum_cons->xz,pairwise_singleton->ya,reverse_cons->yo,foldl->yp,length_nil->yt,toArray->yu,range_succ_eq_map->yz,drop_of_length_le->zd,find?_some->ze,singleton_append->zt,length_drop->Ue,mem_of_mem_take->Ui,mem_of_mem_drop->Uj,perm_middle->Ur,drop_drop->Ux,mergeSort_perm->V0,filter_eq_self->V1,flatMap_append->V2,mem_map_of_mem->V3,mem_filterMap->Vg,filter_filter->Vk,length_range->Vz,zipWith->VA,nodup_append->VE,flatMap_cons->VH,filter_congr->VJ,range'_succ->W0,getElem_map->W1,take_take->W2,zipIdx_cons->W7,lookup_cons->We,nodup_range->Wf,any_eq_true->Wh,range'->Wi,mem_flatMap->Wj,zipIdx_nil->Wl,forIn_cons->Wm,foldl_cons->Wp,range_succ->Wr,of_mem_zip->WK,nodup_nil->WP,map_take->WR,perm_cons->Xc,all_cons->XI,map_drop->XJ,nil_perm->XQ,find?->XS
open PyProof.Rows renaming wpS_bind->av,wpS_pure->be,pendingOf->bx,wpS_forRange->fg,callWith_type1->gh,SortSt->gn,wpS_mono->jq,wpS_modify->ju,kindOf->km,seqObj->kq,slot_tuple_getitem->oi,Keyed->oy,SortKind->qa,IntsAre->qd,getElem?_mirror_all->qv,arrOf->tj,boot_sorted->tu,envOfC->uf,failedOf->uk,wpS_get->ul,boot_list->va,boot_tuple->vb,listUpdate_at->vd,getElem?_bubble->vo,AllBare->wy,sortedAll_old->xk,wpS_lift->xt,subscriptTail_builtinR->yj,listItems_at->yx,sortedAll_at->yy,get?_update_seq->zi,entry_list_sort->zj,seqEpoch_at->Uf,slot_list_sort->Ug,args_list_sort->Uh,subscriptTail->V6,boot_range->Vf,plain_sorted->VB,entry_sorted->VC,args_sorted1->VD,cnt->VM,callWith_builtin1->VU,bubble->VX,kind_sorted->Wg,list_sort_plain->Ws,wpS->Wy,slicePart_none->WL,size_push'->WU,mirror->WW,IsTup->X6,sortedAll->Xb,tuples'->Xn,mergeAt'->XM,gallopOf->XN,setArr->XW,Call_->Y2
open Nat renaming le_refl->bj,add_sub_cancel_left->bu,lt_of_lt_of_le->ef,ne_of_lt->fq,zero_le->lc,le_of_not_lt->lh,min_eq_left->lr,mul_le_mul->ml,le_trans->om,zero_add->ox,not_succ_lt_self->qh,lt_irrefl->qi,lt_or_gt_of_ne->sk,le_succ->tz,lt_trichotomy->vc,add_comm->wj,lt_of_le_of_lt->wl,add_mul_mod_self_right->wq,add_mul->xg,succ_mul->xp,add_zero->xu,le_add_right->yr,add_mul_div_right->zq,le_of_ble_eq_true->zr,mul_le_mul_right->Uo,le_of_lt->Vo,lt_succ_self->VS,min_eq_right->VZ,div_eq_of_lt->W3,mod_eq_of_lt->W4,mul_assoc->W5,mul_add->Wz,lt_trans->WO,zero_mul->WZ,add_assoc->X3,mul_comm->Xh,le_total->Xo,sub_zero->Xp,ne_of_gt->Xz,le_of_eq->XC,log2_lt->XG,lt_or_ge->XO,lt_asymm->XR,mod_lt->XX,ble->Y3
open Int renaming toNat_natCast->bw,lt_or_gt_of_ne->mj,emod_lt_of_pos->ss,le_refl->xf,lt_trichotomy->xh,emod_nonneg->Um,lt_trans->VF,lt_asymm->VG,ofNat_lt->VI,mul_nonneg->WX,mul_le_mul->WY,sub_zero->Xm,le_of_lt->Xq,add_mul->Xw,mul_one->XB,not_lt->XY
open PySem.Builtin.Range renaming rangeSize->df,small->qp
open PySem.PassesOwn renaming never->dk
open Sum renaming inl->ee,inr->yd
open PySem.PyData renaming eqv->gr,eqvAll->iu,depthAll->ko,canLayAll0->nq,canLay0->ou
open PySem.Str renaming ofString->jd
open Option.some renaming injEq->jj
open Pure renaming pure->jm
open PySem.Value renaming none->jr,bool->Vb,type->Vc,float->W8,isStrOf->X2,isInt->Xx,bytes->Xy
open PySem.Challenge renaming pw_slantfloor_k53_ways_to_the_low_floor->jy,rw_slantfloor_k53_ways_to_the_low_floor->ke
open False renaming elim->kj
open List.cons renaming injEq->ku
open Prod.mk renaming injEq->ls
open Array renaming getElem?_toList->mv,length_toList->qz,ext_getElem?->sn,getD_eq_getD_getElem?->vy,perm_iff_toList_perm->wm,getD->wn,toList_inj->VY,toList->Xf
open PySem.Builtin.SmallTypes renaming nextOf->ng,ownedTupleIsFree->qy
open PySem.Builtin.Slice renaming slicePlaces->nh,sliceAdjust->qm,sliceApplied->wg,slicePartIndex->Wo,sliceFields->X0
open True renaming intro->ny
open PySem.Builtin.Tuple renaming tupleExact->oa,tupleHashOf->wt,tupleItemsOf->WM
open PySem.Builtin.List renaming listTooLong->og,listExtendWith->vz,listUpdate->xr
open ForInStep renaming yield->pz
open List.Perm renaming append_left->qc
open PySem.Obj renaming mapSeq->qg,mapFields->X1
open PySem.Calls renaming call_function_entry->qo,Name_function_global->wf,callWith_builtin->yk
open PySem.F renaming args_tuple_add_2->ri,entry_tuple_add->sw,plainAttrs_list->tf,slot_tuple_add->ug,slot_tuple_iterator_next->wc,slot_range_iterator_next->wd,slot_enumerate_next->zo,slot_dict_eq->Ul,slot_zip_next->Wk,slot_int_rmul->Wq
open Classical renaming not_not->uo,byContradiction->wv
open PyProof.Rows.SortSt renaming mk'->wo
open PySem.Builtin.Dict renaming dictSlotArgs->wu,samePairs->zf,showsAll->Xr
open PySem.SeqAt renaming canLay_of_shaped->zg,eqv_refl->Us,eqAt_reads->VW,EqAt->WS,shaped->Xl
open Std.Legacy.Range renaming forIn_eq_forIn_range'->Uk
open PySem.Builtin.Int renaming intBits->Uz
open PySem.W.Fast renaming te10156331382660048174->V7,te11892475500146522536->V8,te14364793385576792824->V9,te6613529449190102663->Vl,te4187177175401517315->Vm
open PySem.Code renaming isFrame->Vr
open StateT renaming run_pure->Wt
open PySem.Data renaming fields->XA
open PySem.SeqAt.Reads renaming unique->XV
noncomputable abbrev XF:=@if_neg
noncomputable abbrev Y4:=@if_pos
local macro_rules | `(tactic| ac_rfl)=>`(tactic| first | lia | omega)
open List (map_id)
open Option (getD_none isSome_map getD_some)
open PySem PySem.Spec PyProof.Rows
noncomputable section
set_option Elab.async false
set_option linter.all false
set_option bootstrap.genMatcherCode false
set_option compiler.extract_closed false
set_option genSizeOf false
set_option genSizeOfSpec false
set_option maxRecDepth 100000
set_option maxHeartbeats 1000000
theorem IT(_:True:=by first | exact .inl rfl | exact .inr rfl | assumption):True:=trivial
theorem pL(_:True:=by decide):True:=trivial
theorem FW(_:True:=by intro _;rfl):True:=trivial
theorem cH(_:True:=by rfl):True:=trivial
theorem Pa(_:True:=by with_unfolding_all rfl):True:=trivial
theorem DI(_:True:=by decide +kernel):True:=trivial
theorem TM(_:True:=by first | exact nomark _ | rfl):True:=trivial
theorem U6(_:True:=by intro _ _;rfl):True:=trivial
variable {i n:Nat}{A:de}{h base:dm}{e tg:Expr}{a C:af}{α:Type}{x:bt}{u:ae}{P prog:aw}{w:bv}{N ps:List bt}{E:ae->aj->Prop}{s:aj}{pj:List (af×lv)}{K:ak}{es:List Expr}{p:ma}{mg:bt->Option ae}{outer:List zl}{Y5:Scope}
namespace L2
noncomputable def u8(o:lv):Prop:=∃us:Array ae,o.data=.fields us/\us[2]?=aa .none
variable {o:lv}
theorem T0{vs:Array ae}{v:ae}(d:o.data=.fields vs):(X1 (·.setIfInBounds i v) o).data=.fields (vs.setIfInBounds i v):=Obj.data_mapFields d _
variable {M:zu}{env:zl}
section
variable {L e:af}
end
noncomputable def Qu(A:de)(h:dm):Prop:=A.handled=aq \/ ∃(a:af) (o:lv),A.handled=aa (.ref a)/\h.get? a=aa o/\u8 o
variable {h':dm}
theorem Qu.keeps(q:Qu A h)(k:∀b o,u8 o->h.get? b=aa o->h'.get? b=aa o):Qu A h':=by
  rcases q with q | ⟨a,o,e,g,m⟩
  . exact .inl q
  . exact .inr ⟨a,o,e,k a o m g,m⟩
theorem xC:entryFor table "proto.unchain" = aa ww.«proto.unchain» := entryFor_of_fast (by kernel_rfl)
variable {Q:ae->aj->Prop}{it l:af}{xs:Array ae}{lo:Int}
theorem yZ{e:ae}(g:s.heap.get? a=aa o)(m:u8 o)(q:Q .none s):bz (cg prog w) A (runValue (.builtin "proto.unchain" ⟨[e,.ref a,.ref a,.bool ap],[]⟩)) Q E s:=by
  obtain⟨us,d,n2⟩:=m;refine runValue_entry xC ?_;unfold ww.«proto.unchain»;dsimp only;refine ah (fm g d n2 ?_);rw[Y4 (by decide)];exact az ⟨_,rfl,q⟩
theorem EU{us:Array ae}{Q:α->aj->Prop}(q:Qu A s.heap)(g:s.heap.get? a=aa o)(d:o.data=.fields us)(hz:2<us.size)(hm:∀v,A.handled=aa v->v ≠ .ref a)
    (h:∀h' o',(∀b u,b≠a->s.heap.get? b=aa u->h'.get? b=aa u)->h'.get? a=aa o'->o'.cls=o.cls->E (.ref a) { s with heap:=h' }):bz (cg prog w) A (Xs (α:=α) (.ref a)) Q E s:=by
  simp only[Xs];refine ah (wpAny_handled ?_);rcases q with q | ⟨b,ob,q,gb,mb⟩
  . rw[q];exact ah (az (wpAny_throw (h s.heap o (λ_ _ _ z=>z) g rfl)))
  . rw[q];have ne:b≠a:=λz=>hm _ q (by rw[z]);dsimp only;rw[Y4 (show (Value.ref b != Value.ref a)=ai by simpa using ne)];refine ah (lq (yZ gb mb (ah ?_)));unfold updateField;refine ah (WA g ?_);rw[d];dsimp only;rw[Y4 hz];refine wpAny_update g (wpAny_throw (h _ (X1 (·.setIfInBounds 2 (.ref b)) o) (λc u hc z=>(fv _ _ (Ne.symm hc)).trans z) (Heap.get?_update_self _ g (Obj.isFreed_of_fields (T0 d))) (Obj.cls_mapFields ..)))
theorem mC{Q:α->aj->Prop}(q:Qu A s.heap)(h:∀h' e,(∀b u,s.heap.get? b=aa u->h'.get? b=aa u)->(∃o,h'.get? e=aa o/\o.cls=.type "StopIteration")->E (.ref e) { s with heap:=h' }):
    bz (cg prog w) A (newExc (.type "StopIteration") [] >>= λe=>Xs (α:=α) e) Q E s:=by
  refine ah ?_;simp only[newExc,newTuple];refine ah (kg (ah (m:=WB _ _) (wpAny_of_eq (a:=jr) (by first | rfl | (simp only[WB];rfl)) (kg ?_ (by size_fits)))) (by size_fits));refine EU (q.keeps λb u _ z=>ao _ (ao _ z)) (cr _ rfl) rfl (by simp;ac_rfl) (λv e z=>?_) λh' o' k g c=>h h' _ (λb u z=>k b u ?_ (ao _ (ao _ z))) ⟨o',g,c⟩
  . subst z;rcases q with q | ⟨b,ob,q,gb,_⟩
    . rw[q] at e;cases e
    . rw[q] at e;cases e;exact qi _ (ef (bf gb) (by rw[tw];exact tz _))
  . intro e;subst e;exact qi _ (ef (bf z) (by rw[tw];exact tz _))
theorem Bp{Q:Option ae->aj->Prop}(q:Qu A s.heap)(t:s.heap.IsListIter it l i)(il:s.heap.IsList l xs)(n:xs[i]?=aq)(h:∀h',wx it s.heap h'->Q aq { s with heap:=h' }):
    bz (cg prog w) A (uu (.ref it)) Q E s:=by
  obtain⟨o,g,c,d⟩:=id t;obtain⟨ol,gl,_,nl,dl⟩:=il;unfold uu;refine ah (qx (gp (name:=jd "__next__") t.typeIs rq (fy rq t.typeIs Uy ?_ (Va _))));refine ah (m:=zv (.ref it) 0) (fm g d (x:=.ref l) rfl ?_);rw[XF (show ¬((Value.ref l==jr)=ai) from λz=>nomatch z)];refine ah (m:=zv (.ref it) 1) (fm g d (x:=.int i 0) rfl (ah (m:=X5 (.ref l)) (uc gl dl ?_)));simp only[bw,n];have ne:∀b u,u8 u->s.heap.get? b=aa u->b≠it:=λb u m gb z=>by
    subst z;rw[g] at gb;cases gb;obtain⟨us,du,z2⟩:=m;rw[d] at du;cases du;simp at z2
  refine ah (nv (ah (zw g d (by simp) (mC (q.keeps λb u m z=>(fv _ _ (Ne.symm (ne b u m z))).trans z) λh' e k ⟨oe,ge,ce⟩=>?_))));refine ah (oj (T:="StopIteration") (b:=ai) ⟨oe,ge,ce⟩ ue (az (h _ λb u hb z=>k b u ((fv _ _ (Ne.symm hb)).trans z))))
theorem FH{Q:Option ae->aj->Prop}(q:Qu A s.heap)(t:s.heap.IsTupleIter it l i)(il:s.heap.IsTuple l xs)(n:xs[i]?=aq)(h:∀h',wx it s.heap h'->Q aq { s with heap:=h' }):
    bz (cg prog w) A (uu (.ref it)) Q E s:=by
  obtain⟨o,g,c,d⟩:=id t;obtain⟨ol,gl,_,nl,dl⟩:=il;unfold uu;refine ah (qx (gp (name:=jd "__next__") t.typeIs wc (fy wc t.typeIs F.entry_tuple_iterator_next ?_ (F.args_tuple_iterator_next_1 _))));refine ah (m:=zv (.ref it) 0) (fm g d (x:=.ref l) rfl ?_);rw[XF (show ¬((Value.ref l==jr)=ai) from λz=>nomatch z)];refine ah (m:=zv (.ref it) 1) (fm g d (x:=.int i 0) rfl (ah (m:=X5 (.ref l)) (uc gl dl ?_)));simp only[bw,n];have ne:∀b u,u8 u->s.heap.get? b=aa u->b≠it:=λb u m gb z=>by
    subst z;rw[g] at gb;cases gb;obtain⟨us,du,z2⟩:=m;rw[d] at du;cases du;simp at z2
  refine ah (nv (ah (zw g d (by simp) (mC (q.keeps λb u m z=>(fv _ _ (Ne.symm (ne b u m z))).trans z) λh' e k ⟨oe,ge,ce⟩=>?_))));refine ah (oj (T:="StopIteration") (b:=ai) ⟨oe,ge,ce⟩ ue (az (h _ λb u hb z=>k b u ((fv _ _ (Ne.symm hb)).trans z))))
theorem yO{x left step:Int}{Q:Option ae->aj->Prop}(q:Qu A s.heap)(t:su s.heap it x left step)(n:left<=0)(h:∀h',wx it s.heap h'->Q aq { s with heap:=h' }):
    bz (cg prog w) A (uu (.ref it)) Q E s:=by
  have ty:s.TypeIs (.ref it) "range_iterator" := ⟨_,t,rfl⟩;unfold uu;refine ah (qx (gp (name:=jd "__next__") ty wd (fy wd ty F.entry_range_iterator_next ?_ (F.args_range_iterator_next_1 _))));refine ah (m:=zv (.ref it) 0) (fm t rfl (x:=XT x) rfl (ah (m:=zv (.ref it) 1) (fm t rfl (x:=XT left) rfl (ah (m:=zv (.ref it) 2) (fm t rfl (x:=XT step) rfl ?_)))));refine(show bz _ _ (ite (left<=0) _ _) _ _ s from ?_);rw[Y4 n];refine ah (nv (ah (mC q λh' e k zz=>?_)));obtain⟨oe,ge,ce⟩:=zz;refine ah (oj (T:="StopIteration") (b:=ai) ⟨oe,ge,ce⟩ ue (az (h _ λb u hb z=>k b u z)))
theorem pZ(q:Qu A s.heap)(t:s.heap.IsListIter it l i)(il:s.heap.IsList l xs)(n:xs[i]?=aq)
    (h:∀h' e,wx it s.heap h'->(∃o,h'.get? e=aa o/\o.cls=.type "StopIteration")->E (.ref e) { s with heap:=h' }):bz (cg prog w) A (ng (.ref it)) Q E s:=by
  obtain⟨o,g,c,d⟩:=id t;obtain⟨ol,gl,_,nl,dl⟩:=il;unfold ng;refine ah (gp (name:=jd "__next__") t.typeIs rq (fy rq t.typeIs Uy ?_ (Va _)));refine ah (m:=zv (.ref it) 0) (fm g d (x:=.ref l) rfl ?_);rw[XF (show ¬((Value.ref l==jr)=ai) from λz=>nomatch z)];refine ah (m:=zv (.ref it) 1) (fm g d (x:=.int i 0) rfl (ah (m:=X5 (.ref l)) (uc gl dl ?_)));simp only[bw,n];have ne:∀b u,u8 u->s.heap.get? b=aa u->b≠it:=λb u m gb z=>by
    subst z;rw[g] at gb;cases gb;obtain⟨us,du,z2⟩:=m;rw[d] at du;cases du;simp at z2
  exact ah (nv (ah (zw g d (by simp) (mC (q.keeps λb u m z=>(fv _ _ (Ne.symm (ne b u m z))).trans z) λh' e k z=>h h' e (λb u hb z=>k b u ((fv _ _ (Ne.symm hb)).trans z)) z))))
theorem Hw{e:af}{old:ae}{Q:Option ae->aj->Prop}(q:Qu A s.heap)(he:IsEnum s.heap e it i old)(t:s.heap.IsListIter it l i)(il:s.heap.IsList l xs)(n:xs[i]?=aq)
    (h:∀h',wx it s.heap h'->Q aq { s with heap:=h' }):bz (cg prog w) A (uu (.ref e)) Q E s:=by
  have ty:s.TypeIs (.ref e) "enumerate" := ⟨_,he,rfl⟩;unfold uu;refine ah (qx (gp (name:=jd "__next__") ty zo (fy zo ty F.entry_enumerate_next ?_ (F.args_enumerate_next_1 _))));refine ah (m:=zv (.ref e) 2) (fm he rfl (x:=.ref it) rfl (ah (pZ q t il n λh' x k zz=>?_)));obtain⟨oe,ge,ce⟩:=zz;exact ah (oj (T:="StopIteration") (b:=ai) ⟨oe,ge,ce⟩ ue (az (h _ k)))
theorem K9{z TI TO i1 i2 l1 l2:af}{k1 k2:Nat}{ys:Array ae}{a b:ae}{Q:Option ae->aj->Prop}(q:Qu A s.heap)(D:Xu z TI TO i1 i2 l1 l2)(hz:Y0 s.heap z TI TO .none)(pI:WC s.heap TI (.ref i1) (.ref i2))(pO:WC s.heap TO a b)
    (t1:s.heap.IsListIter i1 l1 k1) (t2:s.heap.IsListIter i2 l2 k2) (il1:s.heap.IsList l1 xs) (il2:s.heap.IsList l2 ys) (n:xs[k1]?=aq \/ ys[k2]?=aq)
    (h:∀h',(∀c o,c≠z->c≠TO->c≠i1->c≠i2->s.heap.get? c=aa o->h'.get? c=aa o)->Q aq { s with heap:=h' }):bz (cg prog w) A (uu (.ref z)) Q E s:=by
  have ty:s.TypeIs (.ref z) "zip" := ⟨_,hz,rfl⟩;have fin:∀h' e,(∃o,h'.get? e=aa o/\o.cls=.type "StopIteration")->(∀c o,c≠z->c≠TO->c≠i1->c≠i2->s.heap.get? c=aa o->h'.get? c=aa o) ->
      bz (cg prog w) A (isInstance (.ref e) (.type "StopIteration") >>= λy=>if y=ai then jm aq else throw (.ref e)) Q E { s with heap:=h' }:=λh' e ⟨oe,ge,ce⟩ k=>
    ah (oj (T:="StopIteration") (b:=ai) ⟨oe,ge,ce⟩ ue (az (h _ k)))
  have mz:∀f0,¬u8 { cls:=.type "zip",dict:=aq,data:=.fields #[f0,.bool ap,.bool ap,.ref TI,.ref TO],slots:=#[] }:=λf0 zq0=>by
    obtain⟨us,du,z2⟩:=zq0;cases du;simp at z2
  have mi:∀{h1:dm} {i l:af} {k:Nat},h1.IsListIter i l k -> ∀u,u8 u->h1.get? i≠aa u:=λ⟨o,g,_,d⟩ u ⟨us,du,z2⟩ gu=>by
    rw[g] at gu;cases gu;rw[d] at du;cases du;simp at z2
  have mp:∀{h1:dm} {p:af} {x y:ae},WC h1 p x y -> ∀u,u8 u->h1.get? p≠aa u:=λg u ⟨us,du,z2⟩ gu=>by
    rw[g] at gu;cases gu;cases du
  unfold uu;refine ah (qx (gp (name:=jd "__next__") ty Wk (fy Wk ty F.entry_zip_next ?_ (F.args_zip_next_1 _))));refine ah (m:=zv (.ref z) 2) (fm hz rfl (x:=.bool ap) rfl (ah (m:=zv (.ref z) 3) (fm hz rfl (x:=.ref TI) rfl (ah (uc pI rfl ?_)))));refine ah (m:=qy (.ref z)) ?_;unfold qy;refine ah (fm hz rfl (x:=.none) rfl (az ?_));simp only[if_true];refine ah (nv (ah (fm hz rfl (x:=.ref TO) rfl (ah (we hz (by simp) λh1 hz1 s1=>ah ?_)))));replace hz1:Y0 h1 z TI TO .ellipsis:=hz1;have q1:Qu A h1:=q.keeps λc u m g=>s1.extBut c u (λe=>by subst e;rw[hz] at g;cases g;exact mz _ m) g;simp only[W7,Wl,Wm,List.forIn_nil];refine ah (ah (wpAny_onRaise (ah (m:=ng (.ref i1)) ?_)));have t1':=t1.extBut s1.extBut D.i1z;have il1':=il1.extBut s1.extBut D.l1z;cases hx:xs[k1]? with
  |none=>
    refine pZ q1 t1' il1' hx λh2 e s2 zz=>?_;obtain⟨oe,ge,ce⟩:=zz;have hz2:Y0 h2 z TI TO .ellipsis:=s2 _ _ D.i1z.symm hz1;have ne:e≠z:=λy=>by subst y;rw[hz2] at ge;cases ge;simp at ce
    exact we hz2 (by simp) λh3 _ s3=>fin h3 e ⟨oe,s3.extBut _ _ ne ge,ce⟩ λc o c1 _ c3 _ g=>s3.extBut _ _ c1 (s2 _ _ c3 (s1.extBut _ _ c1 g))
  |some x=>
    have hy:ys[k2]?=aq:=n.elim (λy=>by rw[hx] at y;cases y) id;refine wpAny_nextOf_list_item t1' il1' hx λh2 t2' s2=>az ?_;have pO2:WC h2 TO a b:=s2.extBut _ _ D.TOi1 (s1.extBut _ _ D.TOz pO);have q2:Qu A h2:=q1.keeps λc u m g=>s2.extBut c u (λe=>by subst e;exact mi t1' u m g) g;refine ah (uc pO2 rfl (ah (wpAny_updateSeq_pair pO2 λh3 pO3 s3=>ah (wpAny_letGo (az ?_)))));have q3:Qu A h3:=q2.keeps λc u m g=>s3.extBut c u (λe=>by subst e;exact mp pO2 u m g) g;refine ah (ah (wpAny_onRaise (ah (m:=ng (.ref i2)) ?_)));refine pZ q3 (((t2.extBut s1.extBut D.i2z).extBut s2.extBut D.i12.symm).extBut s3.extBut D.TOi2.symm) (((il2.extBut s1.extBut D.l2z).extBut s2.extBut D.l2i1).extBut s3.extBut D.l2TO) hy λh4 e s4 zz=>?_;obtain⟨oe,ge,ce⟩:=zz;have hz4:Y0 h4 z TI TO .ellipsis:=s4 _ _ D.i2z.symm (s3.extBut _ _ D.TOz.symm (s2.extBut _ _ D.i1z.symm hz1));have ne:e≠z:=λy=>by subst y;rw[hz4] at ge;cases ge;simp at ce
    exact we hz4 (by simp) λh5 _ s5=>fin h5 e ⟨oe,s5.extBut _ _ ne ge,ce⟩ λc o c1 c2 c3 c4 g=>s5.extBut _ _ c1 (s4 _ _ c4 (s3.extBut _ _ c2 (s2.extBut _ _ c3 (s1.extBut _ _ c1 g))))
theorem ED(hh:A.handled=aa (.ref a))(m:u8 o)(I ax:af)(hne:ax≠I)(xs:Array ae):
    Walks prog w A I [I,ax,a] [I] xs.size (λi v=>xs[i]?=aa v) (λi h=>(h.IsListIter I ax i/\h.IsList ax xs)/\h.get? a=aa o) where
  sub:=λb hb=>by simp at hb;simp[hb]
  frame:=λ_ _ _ st k=>⟨⟨st.1.1.at λo e=>k I (by simp) o e,st.1.2.at λo e=>k ax (by simp) o e⟩,k a (by simp) _ st.2⟩
  item:=λi s Q E hi st h=>by
    have na:a≠I:=λe=>by
      subst e;obtain⟨o',g,_,d⟩:=st.1.1;obtain⟨us,du,z2⟩:=m;rw[st.2] at g;cases g;rw[d] at du;cases du;simp at z2
    exact yc st.1.1 st.1.2 (x:=xs[i]) (by simp[hi]) λh' t sb=>h _ h' s.toks (by simp[hi]) ⟨⟨t,st.1.2.extBut sb.extBut hne⟩,sb.extBut _ _ na st.2⟩ λb o hb e=>sb.extBut b o (λz=>hb (by simp[z])) e
  done:=λs Q E st h=>Bp (.inr ⟨a,o,hh,st.2,m⟩) st.1.1 st.1.2 (by simp) λh' k=>h h' s.toks λb o hb e=>k b o (λz=>hb (by simp[z])) e
  self:=λ_ _ _ _ st q=>zp st.1.1 q
theorem NL{xs:Array (Int×Tok)}(q:Qu A s.heap)(il:s.heap.IsList l (Xv xs))
    (h:∀h' tk t',(∀b o,s.heap.get? b=aa o->h'.get? b=aa o)->Q (.int (preSum (numAt xs) xs.size) t') { s with heap:=h',toks:=tk }):bz (cg prog w) A (call (.builtin "sum") [.ref l]) Q E s:=by
  rcases q with q | ⟨a,o,q,g,m⟩
  . exact sum_intListG q il h
  . refine call_sum_walkG (iter_intList il λs2 e st fp ne=>?_);subst e;refine⟨_,_,_,_,_,_,numAt xs,rfl,ED (A:=A.in1) q m _ l ne (Xv xs),⟨st,ao _ g⟩,λb hb=>?_,λ_ _=>intItems_at,λh' tk t' k=>?_⟩
    . rcases bq.mp hb with e | hb
      . exact fp b (by simp[e])
      . rcases bq.mp hb with e | hb
        . exact fp b (by simp[e])
        . have e:b=a:=by simpa using hb
          subst e;exact bf (ao _ g)
    . have:=h h' tk t' (old_kept k);simpa [Xv] using this
theorem vZ{c:Int}{Q:Option ae->aj->Prop}(hi:i<n)(t:su s.heap it (lo+(i:Nat)*c) ((n:Int)-(i:Nat)) c)
    (h:∀v h' tk,(∃t,v=.int (lo+i*c) t)->su h' it (lo+((i+1:Nat):Int)*c) ((n:Int)-((i+1:Nat):Int)) c->(∀b o,b ∉ [it]->s.heap.get? b=aa o->h'.get? b=aa o)->Q (aa v) { s with heap:=h',toks:=tk }):
    bz (cg prog w) A (uu (.ref it)) Q E s:=by
  refine wpAny_pyNext_range_item t (by ac_rfl) λh' t' sb=>h _ h' _ ⟨_,rfl⟩ ?_ λb o hb e=>sb.extBut b o (λz=>hb (by simp[z])) e;rw[show ((i+1:Nat):Int)=(i:Int)+1 by simp,show lo+((i:Int)+1)*c=lo+i*c+c by rw[Xw,Int.one_mul,Int.add_assoc],show (n:Int)-((i:Int)+1)=n-i-1 by ac_rfl];exact t'
noncomputable abbrev cE:=Sum Int bt
noncomputable def yI:cE->ae->Bool
  | .inl k,v=>Xx k v
  | .inr x,v=>X2 x v
noncomputable def SG(w:bv):cE->Int
  | .inl k=>Xd k
  | .inr x=>hashStr w x
theorem dU:∀{k:cE} {v:ae},yI k v=ai->(∃i t,k=ee i/\v=Value.int i t) \/ (∃x t,k=yd x/\v=Value.str x t)
  | .inl i,v,h=>by
    obtain⟨t,e⟩:=Value.isInt_shape (k:=i) (v:=v) h;exact .inl ⟨i,t,rfl,e⟩
  | .inr x,v,h=>by
    obtain⟨t,e⟩:=Value.isStrOf_shape (x:=x) (v:=v) h;exact .inr ⟨x,t,rfl,e⟩
theorem F7(i:Int)(t:Tok):yI (.inl i) (.int i t)=ai:=by simp[yI,Xx]
theorem F6(x:bt)(t:Tok):yI (.inr x) (.str x t)=ai:=by simp[yI,X2]
theorem MN(a b:Int):decide ((ee a:cE)=ee b)=(a==b):=by
  by_cases e:a=b
  . subst e;simp
  . have h:¬(ee a:cE)=ee b:=λq=>e (ee.inj q);rw[decide_eq_false h];exact(beq_eq_false_iff_ne.mpr e).symm
theorem MJ(a b:bt):decide ((yd a:cE)=yd b)=decide (a=b):=by
  by_cases e:a=b
  . subst e;simp
  . have h:¬(yd a:cE)=yd b:=λq=>e (yd.inj q);rw[decide_eq_false h,decide_eq_false e]
theorem ML(a:Int)(b:bt):decide ((ee a:cE)=yd b)=ap:=decide_eq_false (λq=>nomatch q)
theorem MK(a:bt)(b:Int):decide ((yd a:cE)=ee b)=ap:=decide_eq_false (λq=>nomatch q)
noncomputable def eW(prog:aw)(w:bv):PySem.KeyKind prog w cE where
  is:=yI
  hash:=SG w
  inj:=λv a b ha hb=>by
    rcases dU ha with⟨i,t,rfl,rfl⟩ | ⟨x,t,rfl,rfl⟩
    . rcases dU hb with⟨j,u,rfl,e⟩ | ⟨y,u,rfl,e⟩
      . injection e with e1 _;rw[e1]
      . exact nomatch e
    . rcases dU hb with⟨j,u,rfl,e⟩ | ⟨y,u,rfl,e⟩
      . exact nomatch e
      . injection e with e1 _;rw[e1]
  byValue:=λk v h=>by
    rcases dU h with⟨i,t,rfl,rfl⟩ | ⟨x,t,rfl,rfl⟩<;>rfl
  pyHash:=λhv h=>by
    rcases dU hv with⟨i,t,rfl,rfl⟩ | ⟨x,t,rfl,rfl⟩
    . exact wpAny_pyHash_int h
    . exact wpAny_pyHash_str h
  eqBool:=λhu hv h=>by
    rcases dU hu with⟨i,t,rfl,rfl⟩ | ⟨x,t,rfl,rfl⟩
    . rcases dU hv with⟨j,u,rfl,rfl⟩ | ⟨y,u,rfl,rfl⟩
      . rw[MN] at h;exact VN h
      . rw[ML] at h;exact SeqAt.EqAt.int_str i t y u _ _ _ _ h
    . rcases dU hv with⟨j,u,rfl,rfl⟩ | ⟨y,u,rfl,rfl⟩
      . rw[MK] at h;exact SeqAt.EqAt.str_int x t j u _ _ _ _ h
      . rw[MJ] at h;exact wpAny_eqBool_str h
  «strs» := λk x t v h=>by
    rcases dU h with⟨i,u,rfl,e⟩ | ⟨y,u,rfl,e⟩
    . exact nomatch e
    . injection e with e1 _;subst e1;cases v<;>rfl
theorem Bc(prog:aw)(w:bv)(i:Int)(t:Tok):(eW prog w).is (.inl i) (.int i t)=ai:=F7 i t
theorem Bb(prog:aw)(w:bv)(x:bt)(t:Tok):(eW prog w).is (.inr x) (.str x t)=ai:=F6 x t
inductive V where
  |non | bl (b:Bool) | int (i:Int) | str (x:bt) | byt (b:Array UInt8) | flt (b:UInt64) | ref (a:af) | ty (n:String)
  deriving DecidableEq
noncomputable def cJ:V->ae->Prop
  | .non,u=>u=jr
  | .bl b,u=>u=Vb b
  | .int i,u=>∃t,u=Value.int i t
  | .str x,u=>∃t,u=Value.str x t
  | .byt b,u=>∃t,u=Xy b t
  | .flt b,u=>∃t,u=W8 b t
  | .ref a,u=>u=Value.ref a
  | .ty n,u=>u=Vc n
noncomputable abbrev bA:List V->List ae->Prop:=Paired cJ
theorem bA.length{xs:List V}{us:List ae}(r:bA xs us):xs.length=us.length:=Paired.length r
theorem bA.get:∀{xs:List V} {us:List ae} {i:Nat} {x:V},bA xs us->xs[i]?=aa x -> ∃u,us[i]?=aa u/\cJ x u
  |_,_,_,_,.nil,e=>by simp at e
  |_,_,0,_,.cons r _,e=>by simp at e;subst e;exact⟨_,rfl,r⟩
  |_,_,i+1,x,.cons _ t,e=>by
    obtain⟨u,h1,h2⟩:=bA.get (i:=i) (x:=x) t (by simpa using e);exact⟨u,by simpa using h1,h2⟩
theorem bA.append:∀{xs ys:List V} {us ws:List ae},bA xs us->bA ys ws->bA (xs++ys) (us++ws)
  |_,_,_,_,.nil,s=>s
  |_,_,_,_,.cons r t,s=>.cons r (bA.append t s)
theorem bA.take:∀{xs:List V} {us:List ae} (n:Nat),bA xs us->bA (xs.take n) (us.take n)
  |_,_,0,_=>.nil
  |_,_,_+1,.nil=>.nil
  |_,_,n+1,.cons r t=>.cons r (bA.take n t)
theorem bA.drop:∀{xs:List V} {us:List ae} (n:Nat),bA xs us->bA (xs.drop n) (us.drop n)
  |_,_,0,r=>r
  |_,_,_+1,.nil=>.nil
  |_,_,n+1,.cons _ t=>bA.drop n t
noncomputable def pE:Option V->Option ae->Prop
  |some v,aa u=>cJ v u
  |none,aq=>True
  |_,_=>False
variable {κ:Type}
noncomputable def KV:List (κ×V)->List (κ×ae)->Prop:=Paired λ(p:κ×V) (q:κ×ae)=>p.1=q.1/\cJ p.2 q.2
noncomputable def kV:cE->V
  | .inl i=>.int i
  | .inr x=>.str x
inductive HO where
  /-- a list -/
  |lst (xs:List V)
  /-- a tuple (never changes) -/
  |tup (xs:List V)
  /-- a dict whose keys are ints and texts;one whose keys are tuples of ints and texts (the empty one is both) -/
  |dK (kvs:List (cE×V)) | dT (ep:Nat) (kvs:List (List cE×V))
  /-- a set of ints: its members,its size -/
  |set (S:Int->Bool) (n:Nat)
  /-- an instance of the class at C,its dict at dx,its attributes -/
  |ins (C dx:af) (fs:List (bt×V))
  /-- the dict of the instance at x -/
  |own (x:af)
  /-- the dict of an exception -/
  |xd (fs:List (bt×V))
  /-- a bound method,f of x -/
  |met (f x:af)
  /-- a range object lo,lo+1,.. below hi -/
  |rng (lo hi:Int)
  /-- a thing that is known to the object (the script;a dict while a loop walks it): read,never written while it is so -/
  |frz (o:lv) (u:HO)
  /-- a code object's table -/
  |tbl (ps:Array ae)
  /-- a code object's table whose lambdas are named q;such a lambda's code -/
  |lam (q:bt) | cod (q:bt)
  /-- any other thing,by what is ai of its one object (a def of one's own: SetO a S n:=HO.ext λh=>..) -/
  |ext (φ:dm->Prop)
noncomputable abbrev Hp:=af->Option HO
noncomputable def upd(H:Hp)(a:af)(o:HO):Hp:=λb=>if b=a then aa o else H b
variable {H:Hp}
theorem c7{o:HO}:upd H a o a=aa o:=by unfold upd;rw[Y4 rfl]
variable {b:af}
theorem bF{o:HO}(h:b≠a):upd H a o b=H b:=by unfold upd;rw[XF h]
theorem OM{o u:HO}(h:H a=aa o)(h':H b=aa u)(d:o≠u):a≠b:=by
  intro e;subst e;rw[h] at h';exact d (Option.some.inj h')
theorem bC{o:HO}(h:H a=aa o)(h':H b=aq):a≠b:=by
  intro e;subst e;rw[h] at h';cases h'
section
variable (P:aw)(w:bv)
noncomputable def d5(H:Hp)(h:dm)(a:af):HO->Prop
  | .lst xs=>xs.length<=bo /\ ∃(its:List ae) (n:Nat),bA xs its/\h.get? a=aa { cls:=.type "list",data:=.seq its.toArray n }
  | .tup xs=>xs.length<=bo /\ ∃its:List ae,bA xs its/\X6 h a its.toArray
  | .dK kvs=>kvs.length<=bo/\(a==ie)=ap /\ ∃vs,KV kvs vs/\h.DictOf (eW P w) a vs
  | .dT ep kvs=>kvs.length<=bo/\(a==ie)=ap /\ ∃xs:List (List cE×af×ae),
      Paired (λ(p:List cE×V) (q:List cE×af×ae)=>p.1=q.1/\H q.2.1=aa (.tup (p.1.map kV))/\cJ p.2 q.2.2) kvs xs /\
      ∃o es,h.get? a=aa o/\o.ExactDict/\o.data=.dict es ep/\es.toList=xs.map (entryOfKey (Ut (eW P w)))/\(xs.map (·.1)).Nodup
  | .set S n=>h.SetOf (intKind P w) a S n
  | .ins C dx fs=>H dx=aa (.own a)/\fs.length<=1000/\dx≠a/\h.get? a=aa (uv C dx) /\
      ∃mA,h.Ns1 dx mA/\(∀f,pE (fs.lookup f) (mA f))/\Vn mA (fs.map (·.1))
  | .own _=>∃o,h.get? a=aa o
  | .xd fs=>∃mA,h.Ns1 a mA /\ ∀f,pE (fs.lookup f) (mA f)
  | .rng lo hi=>∃t u v,h.get? a=aa { cls:=.type "range",data:=.fields #[.int lo t,.int hi u,.int 1 v] }
  | .frz o u=>h.get? a=aa o/\d5 H h a u
  | .tbl ps=>h.get? a=aa { cls:=.none,data:=.fields ps }
  | .lam q=>∃ps:Array ae,h.get? a=aa (W.tabObj ps)/\TriplesOk ps.toList /\ ∀p:ma,codeAmong p ps.toList=aq \/ ∃c,codeAmong p ps.toList=aa (.ref c)/\H c=aa (.cod q)
  | .cod q=>h.CodeRec (.ref a) q
  | .met f x=>h.get? a=aa (W9 (.ref f) (.ref x))
  | .ext φ=>φ h/\(∃o,h.get? a=aa o) /\ ∀h1 h2:dm,φ h1->(∀o,h1.get? a=aa o->h2.get? a=aa o)->φ h2
noncomputable def qV(H:Hp)(h:dm):Prop:=∀a o,H a=aa o->d5 P w H h a o
end
variable {H':Hp}
section
variable {o:HO}
theorem d5.lt(x:d5 P w H h a o):a<h.objs.size:=by
  cases o with
  |lst xs=>obtain⟨_,_,_,_,e⟩:=x;exact bf e
  |tup xs=>obtain⟨_,_,_,p⟩:=x;exact p.lt
  |dK kvs=>obtain⟨_,_,_,_,o,_,_,e,_⟩:=x;exact bf e
  |dT ep kvs=>obtain⟨_,_,_,_,o,_,e,_⟩:=x;exact bf e
  |set S n=>obtain⟨o,_,_,_,e,_⟩:=x;exact bf e
  |ins C dx fs=>obtain⟨_,_,_,e,_⟩:=x;exact bf e
  |own y=>obtain⟨_,e⟩:=x;exact bf e
  |xd fs=>obtain⟨_,⟨_,_,_,e,_⟩,_⟩:=x;exact bf e
  |rng lo hi=>obtain⟨_,_,_,e⟩:=x;exact bf e
  |frz ob u=>obtain⟨e,_⟩:=x;exact bf e
  |tbl ps=>exact bf (show h.get? a=aa _ from x)
  |lam q=>obtain⟨_,e,_⟩:=x;exact bf e
  |cod q=>obtain⟨_,_,_,_,e,e2,_⟩:=x;cases e;exact bf e2
  |met f y=>exact bf (show h.get? a=aa _ from x)
  |ext φ=>obtain⟨_,⟨_,e⟩,_⟩:=x;exact bf e
theorem Paired.mapP{α β:Type}{F G:α->β->Prop}:∀{l₁:List α} {l₂:List β},Paired F l₁ l₂->(∀a b,F a b->G a b)->Paired G l₁ l₂
  |_,_,.nil,_=>.nil
  |_,_,.cons r t,f=>.cons (f _ _ r) (Paired.mapP t f)
theorem d5.stay(x:d5 P w H h a o)(k:∀b u,(b=a \/ H b=aa (.own a))->h.get? b=aa u->h'.get? b=aa u)
    (ho:∀b,H b=aa (.own a)->H' b=aa (.own a)) (ht:∀b xs,H b=aa (.tup xs)->H' b=aa (.tup xs)) (hc:∀b q,H b=aa (.cod q)->H' b=aa (.cod q)):d5 P w H' h' a o:=by
  induction o with
  |lst xs=>obtain⟨z,its,n,r,e⟩:=x;exact⟨z,its,n,r,k _ _ (.inl rfl) e⟩
  |tup xs=>obtain⟨z,its,r,ob,e,c⟩:=x;exact⟨z,its,r,ob,k _ _ (.inl rfl) e,c⟩
  |dK kvs=>obtain⟨z,y,vs,r,ob,es,ep,e,c⟩:=x;exact⟨z,y,vs,r,ob,es,ep,k _ _ (.inl rfl) e,c⟩
  |dT ep kvs=>
    obtain⟨z,y,xs,r,ob,es,e,c⟩:=x;exact⟨z,y,xs,Paired.mapP r λp q z=>⟨z.1,ht _ _ z.2.1,z.2.2⟩,ob,es,k _ _ (.inl rfl) e,c⟩
  |set S n=>obtain⟨ob,es,ep,t,e,c⟩:=x;exact⟨ob,es,ep,t,k _ _ (.inl rfl) e,c⟩
  |ins C dx fs=>
    obtain⟨d,z,ne,e,mA,⟨od,es,ep,e2,c⟩,r⟩:=x;exact⟨ho _ d,z,ne,k _ _ (.inl rfl) e,mA,⟨od,es,ep,k _ _ (.inr d) e2,c⟩,r⟩
  |own y=>obtain⟨ob,e⟩:=x;exact⟨ob,k _ _ (.inl rfl) e⟩
  |xd fs=>obtain⟨mA,⟨od,es,ep,e,c⟩,r⟩:=x;exact⟨mA,⟨od,es,ep,k _ _ (.inl rfl) e,c⟩,r⟩
  |rng lo hi=>obtain⟨t,u,v,e⟩:=x;exact⟨t,u,v,k _ _ (.inl rfl) e⟩
  |frz ob u ih=>obtain⟨e,q⟩:=x;exact⟨k _ _ (.inl rfl) e,ih q⟩
  |tbl ps=>
    have e:h.get? a=aa { cls:=.none,data:=.fields ps }:=x;show h'.get? a=aa { cls:=.none,data:=.fields ps };exact k a _ (.inl rfl) e
  |lam q=>
    obtain⟨ps,e,t,f⟩:=x;exact⟨ps,k _ _ (.inl rfl) e,t,λp=>(f p).imp_right λzq1=>by obtain⟨c,e1,e2⟩:=zq1;exact⟨c,e1,hc _ _ e2⟩⟩
  |cod q=>
    obtain⟨_,o,vs,t,e,e2,e3⟩:=x;cases e;exact⟨a,o,vs,t,rfl,k _ _ (.inl rfl) e2,e3⟩
  |met f y=>
    have e:h.get? a=aa (W9 (.ref f) (.ref y)):=x;show h'.get? a=aa (W9 (.ref f) (.ref y));exact k a _ (.inl rfl) e
  |ext φ=>obtain⟨p,⟨o,e⟩,st⟩:=x;exact⟨st _ _ p λo q=>k _ _ (.inl rfl) q,⟨o,k _ _ (.inl rfl) e⟩,st⟩
theorem qV.lt(x:qV P w H h)(e:H a=aa o):a<h.objs.size:=(x a o e).lt
theorem qV.fresh(x:qV P w H h)(e:h.objs.size<=a):H a=aq:=by
  cases q:H a with
  |none=>rfl
  |some u=>exact absurd (ef (x.lt q) e) (qi _)
theorem qV.kept(x:qV P w H h)(k:∀b u,h.get? b=aa u->h'.get? b=aa u):qV P w H h':=λa o e=>
  (x a o e).stay (λb u _ q=>k b u q) (λ_ q=>q) (λ_ _ q=>q) λ_ _ q=>q
theorem qV.laid(x:qV P w H h)(k:∀b u,h.get? b=aa u->h'.get? b=aa u)(hp:h.objs.size<=a)(new:d5 P w (upd H a o) h' a o):qV P w (upd H a o) h':=λb u e=>by
  have hn:=x.fresh hp;by_cases hb:b=a
  . subst hb;rw[c7] at e;cases e;exact new
  . rw[bF hb] at e;exact(x b u e).stay (λc v _ q=>k c v q) (λc q=>by rw[bF (bC q hn)];exact q) (λc xs q=>by rw[bF (bC q hn)];exact q) λc xs q=>by rw[bF (bC q hn)];exact q
end
noncomputable def Rd(H:Hp)(a:af)(u:HO):Prop:=H a=aa u \/ ∃o,H a=aa (.frz o u)
theorem Rd.ok{u:HO}(r:Rd H a u)(x:qV P w H h):d5 P w H h a u:=by
  rcases r with r | ⟨o,r⟩
  . exact x a u r
  . obtain⟨_,q⟩:=x a _ r;exact q
noncomputable def FV:Option HO->Prop
  |some (.lst _)=>True
  |some (.dK _)=>True
  |some (.dT _ _)=>True
  |some (.set _ _)=>True
  |some (.ins _ _ _)=>True
  |some (.ext _)=>True
  |_=>False
section
variable {x e:af}{o':HO}
theorem qV.write(ok:qV P w H h)(mu:FV (H x))(he:e=x \/ H e=aa (.own x))(k:∀b u,b≠e->h.get? b=aa u->h'.get? b=aa u)(heo:∃u,h'.get? e=aa u)
    (new:d5 P w (upd H x o') h' x o'):qV P w (upd H x o') h':=λb u q=>by
  have nown:∀c y,H c=aa (.own y)->c≠x:=λc y r z=>by subst z;rw[r] at mu;exact mu
  have ntup:∀c xs,H c=aa (.tup xs)->c≠x:=λc xs r z=>by subst z;rw[r] at mu;exact mu
  have ncod:∀c q,H c=aa (.cod q)->c≠x:=λc xs r z=>by subst z;rw[r] at mu;exact mu
  by_cases hb:b=x
  . subst hb;rw[c7] at q;cases q;exact new
  . rw[bF hb] at q;by_cases hbe:b=e
    . have q':H b=aa (.own x):=by
        rcases he with z | z
        . exact absurd (hbe.trans z) hb
        . rw[hbe];exact z
      rw[q] at q';cases q';obtain⟨v,hv⟩:=heo;exact⟨v,by rw[hbe];exact hv⟩
    . refine(ok b u q).stay (λc v hc r=>k c v ?_ r) (λc r=>by rw[bF (nown c b r)];exact r) (λc xs r=>by rw[bF (ntup c xs r)];exact r) λc xs r=>by rw[bF (ncod c xs r)];exact r
      rcases hc with rfl | hc
      . exact hbe
      . rintro rfl;rcases he with z | z
        . exact nown c b hc z
        . rw[hc] at z;cases z;exact hb rfl
end
structure Un(fs ex:List af)(H H':Hp)(h h':dm):Prop where
  keep:∀b o,h.get? b=aa o->H b=aq->b ∉ fs->b ∉ ex->h'.get? b=aa o
  slot:∀b o,h.get? b=aa o->H b=aq->b∈fs->b ∉ ex -> ∃sl,h'.get? b=aa { o with slots:=sl }
  free:∀b o,h.get? b=aa o->H b=aq->b ∉ ex->H' b=aq
  there:∀b o,h.get? b=aa o->b ∉ ex -> ∃o',h'.get? b=aa o'
  tups:∀b xs,H b=aa (.tup xs)->H' b=aa (.tup xs)
  frzs:∀b o u,H b=aa (.frz o u)->H' b=aa (.frz o u)
  tbls:∀b ps,H b=aa (.tbl ps) -> ∃more,H' b=aa (.tbl (ps++more))
section
variable {fs fs' ex ex':List af}{H1 H2:Hp}{h1 h2:dm}{x e:af}{o:HO}
theorem Un.any(u:Un fs ex H H1 h h1){ob:lv}(q:h.get? b=aa ob)(n:H b=aq)(hx:b ∉ ex):∃sl,h1.get? b=aa { ob with slots:=sl }:=by
  by_cases hb:b∈fs
  . exact u.slot b ob q n hb hx
  . exact⟨ob.slots,u.keep b ob q n hb hx⟩
theorem Un.kept(k:∀b u,h.get? b=aa u->h'.get? b=aa u):Un fs ex H H h h':=
  ⟨λb ob q _ _ _=>k b ob q,λb ob q _ _ _=>⟨ob.slots,k b ob q⟩,λ_ _ _ n _=>n,λb ob q _=>⟨ob,k b ob q⟩,λ_ _ q=>q,λ_ _ _ q=>q,λ_ ps q=>⟨#[],by rw[q];simp⟩⟩
theorem Un.refl:Un fs ex H H h h:=Un.kept λ_ _ q=>q
theorem Un.laid(k:∀b u,h.get? b=aa u->h'.get? b=aa u)(hp:h.objs.size<=a)(hn:H a=aq):Un fs ex H (upd H a o) h h' where
  keep:=λb u q _ _ _=>k b u q
  slot:=λb u q _ _ _=>⟨u.slots,k b u q⟩
  free:=λb u q n _=>by rw[bF (fq (ef (bf q) hp))];exact n
  there:=λb u q _=>⟨u,k b u q⟩
  tups:=λb xs q=>by rw[bF (bC q hn)];exact q
  frzs:=λb u xs q=>by rw[bF (bC q hn)];exact q
  tbls:=λb ps q=>⟨#[],by rw[bF (bC q hn),q];simp⟩
theorem Un.write(mu:FV (H x))(he:e=x \/ H e=aa (.own x))(k:∀b u,b≠e->h.get? b=aa u->h'.get? b=aa u)(heo:∃u,h'.get? e=aa u):Un fs ex H (upd H x o) h h':=by
  have hx:∀b,H b=aq->b≠x:=λb n z=>by subst z;rw[n] at mu;exact mu
  have hb:∀b,H b=aq->b≠e:=λb n z=>by
    subst z;rcases he with r | r
    . exact hx b n r
    . rw[n] at r;cases r
  have hm:∀b u,H b=aa u -> ¬FV (aa u)->b≠x:=λb u q nm z=>by subst z;rw[q] at mu;exact nm mu
  refine⟨λb u q n _ _=>k b u (hb b n) q,λb u q n _ _=>⟨u.slots,k b u (hb b n) q⟩,λb u q n _=>by rw[bF (hx b n)];exact n,λb u q _=>?_,
    λb xs q=>by rw[bF (hm b _ q λz=>z)];exact q,λb u xs q=>by rw[bF (hm b _ q λz=>z)];exact q,λb ps q=>⟨#[],by rw[bF (hm b _ q λz=>z),q];simp⟩⟩
  by_cases hbe:b=e
  . subst hbe;exact heo
  . exact⟨u,k b u hbe q⟩
end
noncomputable def trk(h:dm)(H:Hp):List af:=(fw h.objs.size).filter λa=>(H a).isSome
noncomputable def A7(h:dm)(H:Hp):dm:=W.hideAll h (trk h H)
theorem FD(h:dm)(H:Hp):(A7 h H).objs.size=h.objs.size:=W.hideAll_size _ _
theorem Hl(e:h.get? b=aa o)(n:H b=aq):(A7 h H).get? b=aa o:=
  W.hideAll_get _ e λhm=>by
    have q:(H b).isSome=ai:=(ji.mp hm).2;rw[n] at q;simp at q
theorem JR(e:(A7 h H).get? b=aa o):h.get? b=aa o/\H b=aq:=by
  have e':h.get? b=aa o:=W.of_hideAll (trk h H) e;refine⟨e',?_⟩;cases q:H b with
  |none=>rfl
  |some x=>
    have hm:b∈trk h H:=ji.mpr ⟨uw.mpr (bf e'),by simp[q]⟩;have z:(A7 h H).get? b=aq:=W.hideAll_none (trk h H) hm;rw[z] at e;cases e
structure Mod(K:ak)(mg:bt->Option ae)(base:dm):Prop where
  kin:K.In base
  glob:base.Ns je mg
  blt:∃mb,base.Ns WD mb /\ ∀x:bt,x ≠ "__name__" -> mb x=ph x
  nolimit:base.NoLimit
/-- the context: a def's Yj (or a comprehension's block) running. base: fixed through the Yi law;s₀,HZ: the entry;outer: the frames whose slots others may change (a def's callers);stack: all frames that run;
   ex: iterators that were made ahead of the entry and are walked here (a comprehension's);fn: the names whose cells were made at the entry (a def: all;a comprehension's block: its own);calm: not within an except suite;pn: pj that every state bears;xe: what is wanted of an exception that leaves the code -/
structure Cx where
  prog:aw
  w:bv
  K:ak
  mg:bt->Option ae
  base:dm
  A:de
  N:List bt
  s₀:aj
  HZ:Hp
  env:zl
  outer:List zl
  stack:List zl
  ex:List af
  fn:bt->Bool
  calm:Bool
  pn:List (af×lv)
  xe:ae->aj->Prop
  hs:List af
noncomputable def frs(l:List zl):List af:=l.filterMap (·.frame)
noncomputable abbrev Cx.fs(X:Cx):List af:=frs X.outer
noncomputable def Qh(sc:Scope)(x:bt):Prop:=sc.names.lookup x=aa .local \/ sc.names.lookup x=aa .cell \/ sc.names.lookup x=aa .free
noncomputable def IV(sc:Scope)(x:bt):Prop:=sc.names.lookup x=aa .local \/ sc.names.lookup x=aa .cell
noncomputable def TD(env:zl)(h:dm)(m:bt->Option ae)(x:bt)(u:ae):Prop:=
  (env.kindOf x=aa .local/\m x=aa u) \/ ((env.kindOf x=aa .cell \/ env.kindOf x=aa .free) /\ ∃c,env.cells.lookup x=aa c/\h.IsCell c (aa u))
structure Cx.Ok(X:Cx):Prop where
  mod:Mod X.K X.mg X.base
  kind:X.env.scope.kind=.function
  glob:X.env.globals=je
  blt:X.env.builtins=WD
  above:X.s₀.heap.objs.size<=X.env.locals
  inj:∀x y c,X.env.cells.lookup x=aa c->X.env.cells.lookup y=aa c->x=y
  has:∀x,(X.env.kindOf x=aa .cell \/ X.env.kindOf x=aa .free) -> ∃c,X.env.cells.lookup x=aa c
  cab:∀x c,X.fn x=ai->X.env.cells.lookup x=aa c->X.s₀.heap.objs.size<=c
  hd:X.calm=ai->X.A.handled=aq
  frames:X.A.frames=aa X.stack
  stk:X.stack=X.outer \/ (X.stack=X.env::X.outer/\X.env.frame=aa X.env.locals)
  exf:∀b∈X.ex,b≠X.env.locals /\ ∀x c,X.env.cells.lookup x=aa c->c≠b
  bs:∀b o,X.base.get? b=aa o->X.s₀.heap.get? b=aa o/\X.HZ b=aq
  bsz:X.base.objs.size<=X.s₀.heap.objs.size
  noex:∀b o,X.base.get? b=aa o->b ∉ X.ex
  exfs:∀b∈X.ex,b ∉ X.fs
  funs:X.s₀.heap.FunFrames X.base X.outer
  frf:∀b∈X.fs,X.HZ b=aq
  hq:X.A.handled=aq \/ ∃a,a∈X.hs/\X.A.handled=aa (.ref a)
structure Inv(X:Cx)(pj:List (af×lv))(σ:List (Option V))(H:Hp)(s:aj):Prop where
  ok:X.Ok
  os:s.os=X.s₀.os
  bare:wy s.gens
  base:Un X.fs X.ex X.HZ H X.s₀.heap s.heap
  loc:∃m,s.heap.Ns X.env.locals m /\ ∀(i:Nat) (x:bt) (v:V),X.N[i]?=aa x->σ[i]?=aa (aa v)->Qh X.env.scope x -> ∃u,cJ v u/\TD X.env s.heap m x u
  cell:∀x c,X.env.cells.lookup x=aa c -> ∃v,s.heap.IsCell c v
  free:H X.env.locals=aq
  freeC:∀x c,X.env.cells.lookup x=aa c->H c=aq
  pin:∀p∈X.pn++pj,s.heap.get? p.1=aa p.2/\H p.1=aq/\p.1≠X.env.locals/\p.1 ∉ X.fs /\ ∀v,p.2.data ≠ .cell v
  hok:qV X.prog X.w H s.heap
  len:σ.length=X.N.length
  mild:∀a∈X.hs,∃o u,H a=aa (.frz o u)/\u8 o
variable {v:V}{g':Array Vp}{t' j:Nat}{d':Y1}{ch:List af}{s':aj}{X:Cx}
section
variable {σ:List (Option V)}
theorem Cx.Ok.nofr(ok:X.Ok)(e:X.base.get? b=aa o):b ∉ X.fs:=λhb=>by
  have:=(ok.funs.mem hb).1;rw[e] at this;cases this
theorem Inv.bs(I:Inv X pj σ H s):∀b o,X.base.get? b=aa o->s.heap.get? b=aa o/\H b=aq:=λb o e=>
  ⟨I.base.keep b o (I.ok.bs b o e).1 (I.ok.bs b o e).2 (I.ok.nofr e) (I.ok.noex b o e),I.base.free b o (I.ok.bs b o e).1 (I.ok.bs b o e).2 (I.ok.noex b o e)⟩
theorem Inv.qu(I:Inv X pj σ H s):Qu X.A s.heap:=by
  rcases I.ok.hq with e | ⟨a,ha,e⟩
  . exact .inl e
  . obtain⟨o,u,g,m⟩:=I.mild a ha;obtain⟨ho,_⟩:=(show d5 X.prog X.w H s.heap a (.frz o u) from I.hok a _ g);exact .inr ⟨a,o,e,ho,m⟩
theorem Inv.bk(I:Inv X pj σ H s):∀b o,X.base.get? b=aa o->s.heap.get? b=aa o:=λb o e=>(I.bs b o e).1
theorem Inv.mod(I:Inv X pj σ H s):Mod X.K X.mg X.base:=I.ok.mod
theorem Inv.kIn(I:Inv X pj σ H s):X.K.In s.heap:=I.ok.mod.kin.keeps I.bk
theorem Inv.lt(I:Inv X pj σ H s):X.env.locals<s.heap.objs.size:=let ⟨_,hn,_⟩:=I.loc;hn.lt
theorem Inv.sz(I:Inv X pj σ H s):X.s₀.heap.objs.size<=s.heap.objs.size:=om I.ok.above (Vo I.lt)
theorem Inv.nofs(I:Inv X pj σ H s)(h:s.heap.objs.size<=a):a ∉ X.fs:=λhb=>by
  obtain⟨_,o,ho,_⟩:=I.ok.funs.mem hb;exact absurd (ef (bf ho) (om I.sz h)) (qi _)
theorem Inv.cne(I:Inv X pj σ H s):∀x c,X.env.cells.lookup x=aa c->c≠X.env.locals:=λx c e z=>by
  obtain⟨v,o,ho,hd⟩:=I.cell x c e;obtain⟨m,⟨o',es,ep,ho',hd',_⟩,_⟩:=I.loc;rw[z,ho'] at ho;cases ho;rw[hd'] at hd;cases hd
theorem Inv.funs(I:Inv X pj σ H s):s.heap.FunFrames X.base X.outer:=by
  have all:∀(l:List zl),(∀b∈frs l,b∈X.fs)->X.s₀.heap.FunFrames X.base l->s.heap.FunFrames X.base l:=by
    intro l;induction l with
    |nil=>intro _ _;trivial
    |cons env r ih=>
      intro hs hl;obtain⟨hk,⟨L,o,hf,hn,ho,hd⟩,hr⟩:=hl;have hL:L∈X.fs:=hs L (by unfold frs;rw[vp,hf];exact ci);obtain⟨sl,e⟩:=I.base.slot L o ho (I.ok.frf L hL) hL λz=>I.ok.exfs L z hL;exact⟨hk,⟨L,_,hf,hn,e,hd⟩,ih (λb hb=>hs b (by unfold frs;rw[vp,hf];exact bm _ hb)) hr⟩
  exact all X.outer (λ_ hb=>hb) I.ok.funs
theorem Inv.stack(I:Inv X pj σ H s):s.heap.FunFrames X.base X.stack:=by
  rcases I.ok.stk with e | ⟨e,hf⟩
  . rw[e];exact I.funs
  . rw[e];obtain⟨m,hn,_⟩:=I.loc;refine .cons (by rw[I.ok.kind];decide) hf hn ?_ I.funs;exact Heap.get?_none_of_le (om I.ok.bsz I.ok.above)
theorem Inv.stkSub(I:Inv X pj σ H s):∀b∈frs X.stack,b∈X.env.locals::X.fs:=λb hb=>by
  rcases I.ok.stk with e | ⟨e,hf⟩
  . rw[e] at hb;exact bm _ hb
  . rw[e] at hb;unfold frs at hb;rw[vp,hf] at hb;exact hb
theorem Inv.stkFree(I:Inv X pj σ H s):∀b∈frs X.stack,H b=aq:=λb hb=>by
  rcases bq.mp (I.stkSub b hb) with e | hb
  . rw[e];exact I.free
  . obtain⟨_,o,ho,_⟩:=I.ok.funs.mem hb;exact I.base.free b o ho (I.ok.frf b hb) λz=>I.ok.exfs b z hb
theorem Inv.step(I:Inv X pj σ H s)
    (hch:∀b∈ch,(b∈X.ex \/ X.s₀.heap.objs.size<=b)/\b≠X.env.locals/\(∀x c,X.env.cells.lookup x=aa c->c≠b) /\ ∀p∈X.pn++pj,p.1≠b)
    (keep:∀b o,b≠X.env.locals->b ∉ X.fs->b ∉ ch->s.heap.get? b=aa o->H b=aq->h'.get? b=aa o)
    (slot:∀b o,b≠X.env.locals->b∈X.fs->b ∉ ch->s.heap.get? b=aa o->H b=aq -> ∃sl,h'.get? b=aa { o with slots:=sl }) (free:∀b o,b ∉ ch->s.heap.get? b=aa o->H b=aq->H' b=aq)
    (there:∀b o,b ∉ ch->s.heap.get? b=aa o -> ∃o',h'.get? b=aa o')
    (tups:∀b xs,H b=aa (.tup xs)->H' b=aa (.tup xs)) (frzs:∀b o u,H b=aa (.frz o u)->H' b=aa (.frz o u)) (tbls:∀b ps,H b=aa (.tbl ps) -> ∃more,H' b=aa (.tbl (ps++more)))
    (ns:∀m,s.heap.Ns X.env.locals m->h'.Ns X.env.locals m) (hok:qV X.prog X.w H' h') (hg:wy g'):
    Inv X pj σ H' { s with heap:=h',gens:=g',drawn:=d',toks:=t' }:=by
  have neL:∀b o,X.s₀.heap.get? b=aa o->b≠X.env.locals:=λb o e=>fq (ef (bf e) I.ok.above);have neC:∀b o,X.s₀.heap.get? b=aa o->b ∉ X.ex->b ∉ ch:=λb o e hx hb=>by
    rcases(hch b hb).1 with z | z
    . exact hx z
    . exact absurd (ef (bf e) z) (qi _)
  have cellK:∀x c,X.env.cells.lookup x=aa c -> ∀v,s.heap.IsCell c v->h'.IsCell c v:=λx c e v zq2=>by
    obtain⟨o,ho,hd⟩:=zq2;have nch:c ∉ ch:=λz=>(hch c z).2.2.1 x c e rfl;by_cases hc:c∈X.fs
    . obtain⟨sl,q⟩:=slot c o (I.cne x c e) hc nch ho (I.freeC x c e);exact⟨_,q,hd⟩
    . exact⟨o,keep c o (I.cne x c e) hc nch ho (I.freeC x c e),hd⟩
  refine⟨I.ok,I.os,hg,⟨λb o e n hb hx=>?_,λb o e n hb hx=>?_,λb o e n hx=>?_,λb o e hx=>?_,λb xs e=>tups b xs (I.base.tups b xs e),λb o xs e=>frzs b o xs (I.base.frzs b o xs e),λb ps e=>?_⟩,?_,λx c e=>?_,?_,λx c e=>?_,λp hp=>?_,hok,I.len,λa ha=>let ⟨o,u,g,m⟩:=I.mild a ha;⟨o,u,frzs a o u g,m⟩⟩
  . exact keep b o (neL b o e) hb (neC b o e hx) (I.base.keep b o e n hb hx) (I.base.free b o e n hx)
  . obtain⟨sl,e1⟩:=I.base.slot b o e n hb hx;obtain⟨sl',e2⟩:=slot b _ (neL b o e) hb (neC b o e hx) e1 (I.base.free b o e n hx);exact⟨sl',e2⟩
  . obtain⟨o',e1⟩:=I.base.there b o e hx;exact free b o' (neC b o e hx) e1 (I.base.free b o e n hx)
  . obtain⟨o',e1⟩:=I.base.there b o e hx;exact there b o' (neC b o e hx) e1
  . obtain⟨m1,e1⟩:=I.base.tbls b ps e;obtain⟨m2,e2⟩:=tbls b _ e1;exact⟨m1++m2,by rw[e2,Array.append_assoc]⟩
  . obtain⟨m,hn,hl⟩:=I.loc;refine⟨m,ns m hn,λi x v e1 e2 e3=>?_⟩;obtain⟨u,r,l⟩:=hl i x v e1 e2 e3;refine⟨u,r,?_⟩;rcases l with l | ⟨k,c,e,z⟩
    . exact .inl l
    . exact .inr ⟨k,c,e,cellK x c e _ z⟩
  . obtain⟨v,z⟩:=I.cell x c e;exact⟨v,cellK x c e v z⟩
  . obtain⟨m,⟨o,_,_,ho,_⟩,_⟩:=I.loc;exact free _ o (λz=>(hch _ z).2.1 rfl) ho I.free
  . obtain⟨v,o,ho,hd⟩:=I.cell x c e;exact free c o (λz=>(hch c z).2.2.1 x c e rfl) ho (I.freeC x c e)
  . obtain⟨e,n,ne,nf,d⟩:=I.pin p hp;have nch:p.1 ∉ ch:=λz=>(hch p.1 z).2.2.2 p hp rfl;exact⟨keep p.1 p.2 ne nf nch e n,free p.1 p.2 nch e n,ne,nf,d⟩
theorem Inv.un(I:Inv X pj σ H s)(u:Un X.fs [] H H' s.heap h')(hok:qV X.prog X.w H' h'):Inv X pj σ H' { s with heap:=h',toks:=t' }:=by
  obtain⟨m,⟨o,es,ep,ho,r⟩,_⟩:=id I.loc;obtain⟨sl,hL⟩:=u.any ho I.free (by simp);exact I.step (g':=s.gens) (d':=s.drawn) (ch:=[]) (λ_ z=>nomatch z) (λb o _ hb _ e n=>u.keep b o e n hb (by simp)) (λb o _ hb _ e n=>u.slot b o e n hb (by simp)) (λb o _ e n=>u.free b o e n (by simp)) (λb o _ e=>u.there b o e (by simp)) u.tups u.frzs u.tbls (λm' hm=>by
    obtain⟨o',es',ep',ho',r'⟩:=hm;rw[ho] at ho';cases ho';exact⟨_,es',ep',hL,r'⟩) hok I.bare
theorem Inv.call(I:Inv X pj σ H s)(u:Un (frs X.stack) ch H H' s.heap h')(hok:qV X.prog X.w H' h')(hg:wy g')
    (hch:∀b∈ch,(b∈X.ex \/ X.s₀.heap.objs.size<=b)/\b≠X.env.locals/\(∀x c,X.env.cells.lookup x=aa c->c≠b) /\ ∀p∈X.pn++pj,p.1≠b):
    Inv X pj σ H' { s with heap:=h',gens:=g',drawn:=d',toks:=t' }:=by
  obtain⟨m,⟨o,es,ep,ho,r⟩,_⟩:=id I.loc;obtain⟨sl,hL⟩:=u.any ho I.free λz=>(hch _ z).2.1 rfl;exact I.step (ch:=ch) hch (λb o hL hb hc e n=>u.keep b o e n (λz=>(bq.mp (I.stkSub b z)).elim hL hb) hc) (λb o _ _ hc e n=>u.any e n hc) (λb o hc e n=>u.free b o e n hc) (λb o hc e=>u.there b o e hc) u.tups u.frzs u.tbls (λm' hm=>by
    obtain⟨o',es',ep',ho',r'⟩:=hm;rw[ho] at ho';cases ho';exact⟨_,es',ep',hL,r'⟩) hok hg
theorem Inv.turned(I:Inv X pj σ H s)(k:∀b o,b≠it->s.heap.get? b=aa o->h'.get? b=aa o)(hn:H it=aq)(hL:it≠X.env.locals)
    (h1:it∈X.ex \/ X.s₀.heap.objs.size<=it) (h2:∀x c,X.env.cells.lookup x=aa c->c≠it) (h3:∀p∈X.pn++pj,p.1≠it):Inv X pj σ H { s with heap:=h',toks:=t' }:=by
  have nit:∀b u,H b=aa u->b≠it:=λb u e z=>by rw[z,hn] at e;cases e
  refine I.step (g':=s.gens) (d':=s.drawn) (ch:=[it]) (λb hb=>?_) (λb o _ _ hc e _=>k b o (λz=>hc (by simp[z])) e) (λb o _ _ hc e _=>⟨o.slots,k b o (λz=>hc (by simp[z])) e⟩) (λ_ _ _ _ n=>n)
    (λb o hc e=>⟨o,k b o (λz=>hc (by simp[z])) e⟩) (λ_ _ e=>e) (λ_ _ _ e=>e) (λb ps e=>⟨#[],by rw[e];simp⟩) (λm hm=>?_) (λb u e=>?_) I.bare
  . have e:b=it:=by simpa using hb
    subst e;exact⟨h1,hL,h2,h3⟩
  . obtain⟨o,es,ep,ho,r⟩:=hm;exact⟨o,es,ep,k _ o (Ne.symm hL) ho,r⟩
  . refine(I.hok b u e).stay (λc v hc q=>k c v ?_ q) (λ_ q=>q) (λ_ _ q=>q) λ_ _ q=>q;rcases hc with z | z
    . rw[z];exact nit b u e
    . exact nit c _ z
theorem Inv.tok(I:Inv X pj σ H s)(t:Nat):Inv X pj σ H { s with toks:=t }:=I.un (h':=s.heap) (t':=t) Un.refl I.hok
theorem Inv.kept{t':Nat}(I:Inv X pj σ H s)(k:∀b u,s.heap.get? b=aa u->h'.get? b=aa u):Inv X pj σ H { s with heap:=h',toks:=t' }:=I.un (Un.kept k) (I.hok.kept k)
theorem Inv.laid{a:af}{o:HO}{t':Nat}(I:Inv X pj σ H s)(k:∀b u,s.heap.get? b=aa u->h'.get? b=aa u)(hp:s.heap.objs.size<=a)(new:d5 X.prog X.w (upd H a o) h' a o):
    Inv X pj σ (upd H a o) { s with heap:=h',toks:=t' }:=I.un (Un.laid k hp (I.hok.fresh hp)) (I.hok.laid k hp new)
theorem Inv.write{x e:af}{o:HO}{t':Nat}(I:Inv X pj σ H s)(mu:FV (H x))(he:e=x \/ H e=aa (.own x))(k:∀b u,b≠e->s.heap.get? b=aa u->h'.get? b=aa u)(heo:∃u,h'.get? e=aa u)
    (new:d5 X.prog X.w (upd H x o) h' x o):Inv X pj σ (upd H x o) { s with heap:=h',toks:=t' }:=I.un (Un.write mu he k heo) (I.hok.write mu he k heo new)
theorem Inv.pins_of{pins':List (af×lv)}(I:Inv X pj σ H s)(h:∀p∈pins',s.heap.get? p.1=aa p.2/\H p.1=aq/\p.1≠X.env.locals/\p.1 ∉ X.fs /\ ∀v,p.2.data ≠ .cell v):Inv X pins' σ H s:=
  ⟨I.ok,I.os,I.bare,I.base,I.loc,I.cell,I.free,I.freeC,λp hp=>(dv.mp hp).elim (λz=>I.pin p (fh _ z)) (h p),I.hok,I.len,I.mild⟩
theorem BX(hN:N.Nodup)(a:N[i]?=aa x)(b:N[j]?=aa x):i=j:=by
  obtain⟨h1,e1⟩:=bb.mp a;obtain⟨h2,e2⟩:=bb.mp b;exact(List.getElem_inj hN).mp (e1.trans e2.symm)
theorem xS{Q:Unit->aj->Prop}(I:Inv X pj σ H s)(hN:X.N.Nodup)(hi:X.N[i]?=aa x)(hx:IV X.env.scope x)(r:cJ v u)
    (h:∀s',Inv X pj (σ.set i (aa v)) H s'->(∃a,vw a s.heap s'.heap/\(a=X.env.locals \/ X.env.cells.lookup x=aa a))->Q () s') (hf:autoParam (X.fn x=ai \/ X.env.scope.names.lookup x=aa .local) IT._auto_1):bz M A (storeName X.env x u) Q E s:=by
  obtain⟨m,hn,hl⟩:=id I.loc;have hcls:(X.env.scope.kind == .class || (X.env.scope.kind == .module&&X.env.locals != X.env.globals))=ap:=by rw[I.ok.kind];rfl
  have hiσ:i<σ.length:=by rw[I.len];exact(bb.mp hi).1
  have cne:=I.cne;have tracked:∀{a:af} {h':dm},(∃o,s.heap.get? a=aa o/\H a=aq)->vw a s.heap h'->qV X.prog X.w H h':=λ{a h'} ha hs b ob e=>by
    obtain⟨_,_,hfree⟩:=ha;refine(I.hok b ob e).stay (λc w' hc q=>(hs.2 c ?_).trans q) (λ_ q=>q) (λ_ _ q=>q) λ_ _ q=>q;rintro rfl;rcases hc with rfl | hc
    . rw[hfree] at e;cases e
    . rw[hfree] at hc;cases hc
  rcases hx with hk | hk
  . refine wpAny_storeName_local hk hn (λh' hn' hs=>?_) hcls;obtain⟨oL,_,_,hoL,_⟩:=id hn;refine h _ ⟨I.ok,I.os,I.bare,⟨λb o e n hb hx=>?_,λb o e n hb hx=>?_,I.base.free,λb o e hx=>?_,I.base.tups,I.base.frzs,I.base.tbls⟩,⟨_,hn',λj y v' e1 e2 e3=>?_⟩,λy c e=>?_,I.free,I.freeC,λp hp=>?_,tracked ⟨oL,hoL,I.free⟩ hs,by simpa using I.len,I.mild⟩ ⟨_,hs,.inl rfl⟩
    . exact(hs.2 b (fq (ef (bf e) I.ok.above))).trans (I.base.keep b o e n hb hx)
    . obtain⟨sl,e1⟩:=I.base.slot b o e n hb hx;exact⟨sl,(hs.2 b (fq (ef (bf e) I.ok.above))).trans e1⟩
    . obtain⟨o',e1⟩:=I.base.there b o e hx;exact⟨o',(hs.2 b (fq (ef (bf e) I.ok.above))).trans e1⟩
    . by_cases hj:j=i
      . subst hj;rw[hi] at e1;cases e1;rw[gv hiσ] at e2;cases e2;exact⟨u,r,.inl ⟨hk,by simp⟩⟩
      . rw[ff (Ne.symm hj)] at e2;obtain⟨u',r',q⟩:=hl j y v' e1 e2 e3;refine⟨u',r',?_⟩;rcases q with⟨k,e⟩ | ⟨k,c,e,z⟩
        . refine .inl ⟨k,?_⟩;have:y≠x:=λe=>hj (BX hN e1 (e ▸ hi));simp[this,e]
        . exact .inr ⟨k,c,e,z.sameBut hs (cne y c e)⟩
    . obtain⟨w',z⟩:=I.cell y c e;exact⟨w',z.sameBut hs (cne y c e)⟩
    . obtain⟨e,n,ne,nf,d⟩:=I.pin p hp;exact⟨(hs.2 p.1 ne).trans e,n,ne,nf,d⟩
  . have hfn:X.fn x=ai:=by
      rcases hf with z | z
      . exact z
      . rw[z] at hk;cases hk
    obtain⟨c,hc⟩:=I.ok.has x (.inl hk);obtain⟨w',z⟩:=I.cell x c hc;refine wpAny_storeName_cell I.ok.kind hk hc z (λh' hc' hs=>?_);obtain⟨oc,hoc,hocd⟩:=id z;refine h { s with heap:=h' } ⟨I.ok,I.os,I.bare,⟨λb o e n hb hx=>?_,λb o e n hb hx=>?_,I.base.free,λb o e hx=>?_,I.base.tups,I.base.frzs,I.base.tbls⟩,⟨m,hn.sameBut hs (Ne.symm (cne x c hc)),λj y v' e1 e2 e3=>?_⟩,λy c' e=>?_,I.free,I.freeC,λp hp=>?_,tracked ⟨oc,hoc,I.freeC x c hc⟩ hs,by simpa using I.len,I.mild⟩ ⟨c,hs,.inr hc⟩
    . exact(hs.2 b (fq (ef (bf e) (I.ok.cab x c hfn hc)))).trans (I.base.keep b o e n hb hx)
    . obtain⟨sl,e1⟩:=I.base.slot b o e n hb hx;exact⟨sl,(hs.2 b (fq (ef (bf e) (I.ok.cab x c hfn hc)))).trans e1⟩
    . obtain⟨o',e1⟩:=I.base.there b o e hx;exact⟨o',(hs.2 b (fq (ef (bf e) (I.ok.cab x c hfn hc)))).trans e1⟩
    . by_cases hj:j=i
      . subst hj;rw[hi] at e1;cases e1;rw[gv hiσ] at e2;cases e2;exact⟨u,r,.inr ⟨.inl hk,c,hc,hc'⟩⟩
      . rw[ff (Ne.symm hj)] at e2;obtain⟨u',r',q⟩:=hl j y v' e1 e2 e3;refine⟨u',r',?_⟩;rcases q with q | ⟨k,c',e,z'⟩
        . exact .inl q
        . refine .inr ⟨k,c',e,z'.sameBut hs ?_⟩;rintro rfl;exact hj (BX hN e1 (I.ok.inj _ _ _ e hc ▸ hi))
    . by_cases hcc:c'=c
      . subst hcc;exact⟨_,hc'⟩
      . obtain⟨w2,z2⟩:=I.cell y c' e;exact⟨w2,z2.sameBut hs hcc⟩
    . obtain⟨e,n,ne,nf,d⟩:=I.pin p hp;refine⟨(hs.2 p.1 ?_).trans e,n,ne,nf,d⟩;intro q;rw[q,hoc] at e;have q':oc=p.2:=Option.some.inj e;exact d w' (by rw[<- q'];exact hocd)
theorem Ar{Q:Unit->aj->Prop}(I:Inv X pj σ H s)(hN:X.N.Nodup)(hi:X.N[i]?=aa x)(hx:IV X.env.scope x)(r:cJ v u)
    (h:∀s',Inv X pj (σ.set i (aa v)) H s'->Q () s') (hf:autoParam (X.fn x=ai \/ X.env.scope.names.lookup x=aa .local) IT._auto_1):bz M A (storeName X.env x u) Q E s:=
  xS I hN hi hx r (λs' I' _=>h s' I') hf
theorem Inv.call'(I:Inv X pj σ H s)(ho:s'.os=s.os)(u:Un (frs X.stack) ch H H' s.heap s'.heap)(hok:qV X.prog X.w H' s'.heap)(hg:wy s'.gens)
    (hch:∀b∈ch,(b∈X.ex \/ X.s₀.heap.objs.size<=b)/\b≠X.env.locals/\(∀x c,X.env.cells.lookup x=aa c->c≠b) /\ ∀p∈X.pn++pj,p.1≠b):Inv X pj σ H' s':=by
  obtain⟨h',g',d',t',o'⟩:=s';have e:o'=s.os:=ho;subst e;exact I.call (g':=g') (t':=t') (d':=d') u hok hg hch
end
noncomputable abbrev XK:=ae->Option af->Hp->Prop
noncomputable abbrev St:=List (Option V)
noncomputable abbrev VK:=V->Hp->Prop
noncomputable abbrev TE:=St->Hp->VK->Prop
noncomputable abbrev TT:=St->Hp->(Bool->Hp->Prop)->Prop
noncomputable abbrev TA:=St->Hp->(List V->Hp->Prop)->Prop
structure Ends where
  nx:St->Hp->Prop
  rt:VK
  bk:St->Hp->Prop:=λ_ _=>False
  ct:St->Hp->Prop:=λ_ _=>False
noncomputable abbrev TS:=Ends->St->Hp->Prop
inductive EP(X:Cx)(pj:List (af×lv))(σ:St)(Q:VK)(u:ae)(s':aj):Prop
  |mk (v:V) (H':Hp) (I:Inv X pj σ H' s') (r:cJ v u) (q:Q v H')
inductive TP(X:Cx)(pj:List (af×lv))(σ:St)(Q:Bool->Hp->Prop)(b:Bool)(s':aj):Prop
  |mk (H':Hp) (I:Inv X pj σ H' s') (q:Q b H')
inductive AP(X:Cx)(pj:List (af×lv))(σ:St)(Q:List V->Hp->Prop)(us:List ae)(s':aj):Prop
  |mk (vs:List V) (H':Hp) (I:Inv X pj σ H' s') (r:bA vs us) (q:Q vs H')
inductive NP(X:Cx)(pj:List (af×lv))(P:St->Hp->Prop)(s':aj):Prop
  |mk (σ':St) (H':Hp) (I:Inv X pj σ' H' s') (q:P σ' H')
inductive RP(X:Cx)(pj:List (af×lv))(P:VK)(u:ae)(s':aj):Prop
  |mk (v:V) (σ':St) (H':Hp) (I:Inv X pj σ' H' s') (r:cJ v u) (q:P v H')
noncomputable def SP(X:Cx)(pj:List (af×lv))(D:Ends)(f:Flow)(s':aj):Prop:=
  match f with
  | .next=>NP X pj D.nx s'
  | .brk=>NP X pj D.bk s'
  | .cont=>NP X pj D.ct s'
  | .ret u=>RP X pj D.rt u s'
noncomputable def PE(X:Cx)(e:Expr)(t:TE):Prop:=
  ∀(pj:List (af×lv)) (s:aj) (σ:St) (H:Hp) (Q:VK),Inv X pj σ H s->t σ H Q->bz (cg X.prog X.w) X.A (fi e X.env) (EP X pj σ Q) X.xe s
noncomputable def PT(X:Cx)(e:Expr)(t:TT):Prop:=
  ∀(pj:List (af×lv)) (s:aj) (σ:St) (H:Hp) (Q:Bool->Hp->Prop),Inv X pj σ H s->t σ H Q->bz (cg X.prog X.w) X.A (isTrue e X.env (fi e X.env)) (TP X pj σ Q) X.xe s
noncomputable def PW(X:Cx)(e:Expr)(t:TT):Prop:=
  ∀(Yi:VL ae) (pj:List (af×lv)) (s:aj) (σ:St) (H:Hp) (Q:Bool->Hp->Prop),Inv X pj σ H s->t σ H Q->bz (cg X.prog X.w) X.A (isTrue e X.env Yi) (TP X pj σ Q) X.xe s
theorem PW.pt{t:TT}(h:PW X e t):PT X e t:=h _
noncomputable def PA(X:Cx)(es:List Expr)(t:TA):Prop:=
  ∀(pos:ma) (pj:List (af×lv)) (s:aj) (σ:St) (H:Hp) (Q:List V->Hp->Prop),Inv X pj σ H s->t σ H Q->bz (cg X.prog X.w) X.A (spliced (jv pos (bg es X.env))) (AP X pj σ Q) X.xe s
noncomputable def PS(X:Cx)(st:kx)(t:TS):Prop:=
  ∀(pj:List (af×lv)) (s:aj) (σ:St) (H:Hp) (D:Ends),Inv X pj σ H s->t D σ H->bz (cg X.prog X.w) X.A (exec st X.env) (SP X pj D) X.xe s
noncomputable def yV(X:Cx)(st:List kx)(t:TS):Prop:=
  ∀(pj:List (af×lv)) (s:aj) (σ:St) (H:Hp) (D:Ends),Inv X pj σ H s->t D σ H->bz (cg X.prog X.w) X.A (execs st X.env) (SP X pj D) X.xe s
theorem thn{t:VL α}{Q Q':α->aj->Prop}(h:bz M A t Q E s)(hQ:∀a s,Q a s->Q' a s):bz M A t Q' E s:=ig h hQ λ_ _ x=>x
variable {σ:St}{ta:TE}
section
noncomputable def Aq(i:Nat):TE:=λσ H Q=>∃v,σ[i]?=aa (aa v)/\Q v H
noncomputable def tC(v:V):TE:=λ_ H Q=>Q v H
theorem LV{pos:ma}(hN:X.N[i]?=aa x)(hv:Qh X.env.scope x)(hd:autoParam ((x==("__debug__" : bt))=ap) pL._auto_1)(hcd:autoParam ((x==("__classdict__" : bt))=ap) pL._auto_1):PE X (.Name x pos) (Aq i):=by
  intro pj s σ H Q I h;obtain⟨v,e,h⟩:=h;obtain⟨m,hn,hl⟩:=I.loc;obtain⟨u,r,l⟩:=hl i x v hN e hv;have fin:EP X pj σ Q u s:=⟨v,H,I,r,h⟩;rcases l with⟨hk,hm⟩ | ⟨hk,c,hc,Yc⟩
  . exact WE (wpAny_loadName_local I.ok.kind hk hn hm fin) hd
  . rcases hk with hk | hk
    . exact WE (wpAny_loadName_cell I.ok.kind hk hc Yc fin) hd
    . exact WE (wpAny_loadName_free I.ok.kind hk hc Yc fin hcd) hd
theorem Lb{i j pos}:PE X (.Constant (.int i) j pos) (tC (.int i)):=λ_ _ _ H _ I h=>wpAny_Constant_int ⟨.int i,H,I.tok _,⟨_,rfl⟩,h⟩
theorem Nz{b j pos}:PE X (.Constant (.bool b) j pos) (tC (.bl b)):=λ_ _ _ H _ I h=>Constant_bool ⟨.bl b,H,I,rfl,h⟩
theorem LZ{j pos}:PE X (.Constant .none j pos) (tC .non):=λ_ _ _ H _ I h=>Constant_none ⟨.non,H,I,rfl,h⟩
noncomputable def Gl(X:Cx)(x:bt):Prop:=X.env.kindOf x=aa .globalImplicit
theorem zZ{pos:ma}(I:Inv X pj σ H s)(hg:Gl X x)(hm:X.mg x=aa u)(h:Q u s)
    (hd:autoParam ((x==("__debug__" : bt))=ap) pL._auto_1):bz (cg X.prog X.w) X.A (fi (.Name x pos) X.env) Q E s:=
  wf I.ok.kind hg (Calls.loadGlobal_global (by rw[I.ok.glob];exact I.mod.glob.keeps I.bk) hm h) hd
theorem nY{pos:ma}(I:Inv X pj σ H s)(hg:Gl X x)(hm:X.mg x=aq)(hv:ph x=aa u)(h:Q u s)
    (hn:autoParam (x ≠ "__name__") pL._auto_1) (hd:autoParam ((x==("__debug__" : bt))=ap) pL._auto_1):bz (cg X.prog X.w) X.A (fi (.Name x pos) X.env) Q E s:=by
  obtain⟨mb,h1,h2⟩:=I.mod.blt;exact wf I.ok.kind hg (Calls.loadGlobal_builtin (by rw[I.ok.glob];exact I.mod.glob.keeps I.bk) hm (by rw[I.ok.blt];exact h1.keeps I.bk) ((h2 x hn).trans hv) h) hd
theorem JF{pos:ma}(hg:Gl X x)(hm:X.mg x=aa u)(r:cJ v u)(hd:autoParam ((x==("__debug__" : bt))=ap) pL._auto_1):PE X (.Name x pos) (tC v):=
  λ_ _ _ H _ I h=>zZ I hg hm ⟨v,H,I,r,h⟩ hd
theorem kH{pos:ma}(hg:Gl X x)(hm:X.mg x=aq)(hv:ph x=aa u)(r:cJ v u)(hn:autoParam (x ≠ "__name__") pL._auto_1)(hd:autoParam ((x==("__debug__" : bt))=ap) pL._auto_1):PE X (.Name x pos) (tC v):=
  λ_ _ _ H _ I h=>nY I hg hm hv ⟨v,H,I,r,h⟩ hn hd
variable {a b:Expr}{tb:TE}{pos:ma}
noncomputable def tB(t:TE):TT:=λσ H Q=>t σ H λx H1=>∃c,x=.bl c/\Q c H1
theorem LN{t:TE}(h:PE X e t)(he:autoParam (∀Yi,isTrue e X.env Yi=(do let v <- Yi;ye e.pos;yf [v] (Xe v))) FW._auto_1):PT X e (tB t):=by
  intro pj s σ H Q I hw;refine isTrue_plain (thn (h pj s σ H _ I hw) λv s1 ⟨x,H1,I1,r1,q1⟩=>?_) (he _);obtain⟨d,rfl,q⟩:=q1;cases r1;exact gg ⟨H1,I1,q⟩
variable {tA tB':TT}{Y7:List Expr}
noncomputable def R8(t u:TT):TT:=λσ H Q=>t σ H λc H1=>if c=ai then u σ H1 Q else Q ap H1
noncomputable def UA(t u:TT):TT:=λσ H Q=>t σ H λc H1=>if c=ai then Q ai H1 else u σ H1 Q
noncomputable def R0(t:TT):TT:=λσ H Q=>t σ H λc H1=>Q (!c) H1
theorem Iz(ha:PT X a tA):PW X (.BoolOp .And [a] pos) tA:=by
  intro wh pj s σ H Q I h;refine isTrue_and (thn (ha pj s σ H Q I h) λc s1 e=>?_);cases c with
  |true=>exact isTrue_and_nil e
  |false=>exact e
theorem GG(ha:PT X a tA):PW X (.BoolOp .Or [a] pos) tA:=by
  intro wh pj s σ H Q I h;refine isTrue_or (thn (ha pj s σ H Q I h) λc s1 e=>?_);cases c with
  |false=>exact isTrue_or_nil e
  |true=>exact e
theorem LM(ha:PT X a tA)(hb:PW X (.BoolOp .And (b::Y7) pos) tB'):PW X (.BoolOp .And (a::b::Y7) pos) (R8 tA tB'):=by
  intro wh pj s σ H Q I h;refine isTrue_and (thn (ha pj s σ H _ I h) λc s1 zz=>?_);obtain⟨H1,I1,q1⟩:=zz;cases c with
  |true=>exact hb wh pj s1 σ H1 Q I1 q1
  |false=>exact⟨H1,I1,q1⟩
theorem Kg(ha:PT X a tA)(hb:PW X (.BoolOp .Or (b::Y7) pos) tB'):PW X (.BoolOp .Or (a::b::Y7) pos) (UA tA tB'):=by
  intro wh pj s σ H Q I h;refine isTrue_or (thn (ha pj s σ H _ I h) λc s1 zz=>?_);obtain⟨H1,I1,q1⟩:=zz;cases c with
  |true=>exact⟨H1,I1,q1⟩
  |false=>exact hb wh pj s1 σ H1 Q I1 q1
theorem GK(ha:PT X a tA):PT X (.UnaryOp .Not a pos) (R0 tA):=by
  intro pj s σ H Q I h;exact isTrue_not (thn (ha pj s σ H (λc H1=>Q (!c) H1) I h) λc s' z=>by cases z;exact⟨_,by assumption,by assumption⟩)
noncomputable def NJ(ta tb:TE):TE:=λσ H Q=>ta σ H λx H1=>∃c,x=.bl c/\if c=ai then tb σ H1 Q else Q (.bl ap) H1
noncomputable def Qz(ta tb:TE):TE:=λσ H Q=>ta σ H λx H1=>∃c,x=.bl c/\if c=ai then Q (.bl ai) H1 else tb σ H1 Q
noncomputable def NB(ta:TE):TE:=λσ H Q=>ta σ H λx H1=>∃c,x=.bl c/\Q (.bl (!c)) H1
theorem LX{op}{t:TE}(h:PE X a t):PE X (.BoolOp op [a] pos) t:=λpj s σ H Q I hw=>BoolOp_one (h pj s σ H Q I hw)
theorem Le(ha:PE X a ta)(hb:PE X (.BoolOp .And (b::Y7) pos) tb):PE X (.BoolOp .And (a::b::Y7) pos) (NJ ta tb):=by
  intro pj s σ H Q I h;refine BoolOp_and (thn (ha pj s σ H _ I h) λv s1 zz=>?_);obtain⟨x,H1,I1,r1,q1⟩:=zz;obtain⟨c,rfl,q1⟩:=q1;cases r1;refine gg ?_;cases c with
  |true=>exact hb pj s1 σ H1 Q I1 q1
  |false=>exact⟨.bl ap,H1,I1,rfl,q1⟩
theorem Nv(ha:PE X a ta)(hb:PE X (.BoolOp .Or (b::Y7) pos) tb):PE X (.BoolOp .Or (a::b::Y7) pos) (Qz ta tb):=by
  intro pj s σ H Q I h;refine BoolOp_or (thn (ha pj s σ H _ I h) λv s1 zz=>?_);obtain⟨x,H1,I1,r1,q1⟩:=zz;obtain⟨c,rfl,q1⟩:=q1;cases r1;refine gg ?_;cases c with
  |false=>exact hb pj s1 σ H1 Q I1 q1
  |true=>exact⟨.bl ai,H1,I1,rfl,q1⟩
theorem LY(ha:PE X a ta):PE X (.UnaryOp .Not a pos) (NB ta):=by
  intro pj s σ H Q I h;refine UnaryOp_ (thn (ha pj s σ H _ I h) λv s1 zz=>?_);obtain⟨x,H1,I1,r1,q1⟩:=zz;obtain⟨c,rfl,q1⟩:=q1;cases r1;exact not_of (gg ⟨.bl (!c),H1,I1,rfl,q1⟩)
end
noncomputable def fU(K:ak)(H:Hp)(a:af)(xs:List V):Prop:=
  Rd H a (.lst xs) \/
    ∃(o:lv) (its:Array ae) (n:Nat),K.lookup a=aa o/\o.cls=.type "list" /\ o.dict=aq/\o.data=.seq its n/\its.size<=bo/\bA xs its.toList
noncomputable def l6(K:ak)(H:Hp)(a:af)(xs:List V):Prop:=
  Rd H a (.tup xs) \/
    ∃(o:lv) (its:Array ae) (n:Nat),K.lookup a=aa o/\o.cls=.type "tuple" /\ o.data=.seq its n/\its.size<=bo/\bA xs its.toList
noncomputable def T7:ae->Option V
  | .none=>aa .non
  | .bool b=>aa (.bl b)
  | .int i _=>aa (.int i)
  | .str x _=>aa (.str x)
  | .bytes b _=>aa (.byt b)
  | .float b _=>aa (.flt b)
  | .ref a=>aa (.ref a)
  | .type n=>aa (.ty n)
  |_=>aq
theorem cJ.abs{x:V}(r:cJ x u):T7 u=aa x:=by
  cases x with
  |non=>cases r;rfl
  |bl _=>cases r;rfl
  |int _=>obtain⟨t,rfl⟩:=r;rfl
  |str _=>obtain⟨t,rfl⟩:=r;rfl
  |byt _=>obtain⟨t,rfl⟩:=r;rfl
  |flt _=>obtain⟨t,rfl⟩:=r;rfl
  |ref _=>cases r;rfl
  |ty _=>cases r;rfl
theorem cJ.inj{x y:V}{u:ae}(r:cJ x u)(q:cJ y u):x=y:=Option.some.inj (r.abs.symm.trans q.abs)
theorem bA.inj:∀{xs ys:List V} {us:List ae},bA xs us->bA ys us->xs=ys
  |_,_,_,.nil,.nil=>rfl
  |_,_,_,.cons r t,.cons r' t'=>by rw[r.inj r',bA.inj t t']
section
variable {xs ys:List V}
theorem fU.of(h:H a=aa (.lst xs)):fU K H a xs:=.inl (.inl h)
theorem l6.of(h:H a=aa (.tup xs)):l6 K H a xs:=.inl (.inl h)
theorem Inv.list(I:Inv X pj σ H s)(h:fU X.K H a xs):∃its:List ae,bA xs its/\PlainL s.heap a its.toArray/\xs.length<=bo:=by
  rcases h with h | ⟨o,its,n,hk,hc,hd,hs,hz,r⟩
  . obtain⟨z,its,n,r,e⟩:=h.ok I.hok;exact⟨its,r,⟨_,n,e,rfl,rfl,rfl⟩,z⟩
  . refine⟨its.toList,r,⟨o,n,I.kIn a o hk,hc,hd,by simpa using hs⟩,?_⟩;have e:=r.length;simp only[qz] at e;ac_rfl
theorem Inv.tuple(I:Inv X pj σ H s)(h:l6 X.K H a xs):∃its:List ae,bA xs its/\X6 s.heap a its.toArray/\xs.length<=bo:=by
  rcases h with h | ⟨o,its,n,hk,hc,hs,hz,r⟩
  . obtain⟨z,its,r,p⟩:=h.ok I.hok;exact⟨its,r,p,z⟩
  . refine⟨its.toList,r,⟨o,I.kIn a o hk,hc,n,by simpa using hs⟩,?_⟩;have e:=r.length;simp only[qz] at e;ac_rfl
theorem Inv.list_inj(I:Inv X pj σ H s)(h:fU X.K H a xs)(h':fU X.K H a ys):xs=ys:=by
  obtain⟨its,r,⟨o,n,e,_,_,d⟩,_⟩:=I.list h;obtain⟨its',r',⟨o',n',e',_,_,d'⟩,_⟩:=I.list h';rw[e] at e';cases e';rw[d] at d';injection d' with d1 _;have:its=its':=by simpa using congrArg Xf d1
  subst this;exact r.inj r'
theorem Inv.tuple_inj(I:Inv X pj σ H s)(h:l6 X.K H a xs)(h':l6 X.K H a ys):xs=ys:=by
  obtain⟨its,r,⟨o,e,_,n,d⟩,_⟩:=I.tuple h;obtain⟨its',r',⟨o',e',_,n',d'⟩,_⟩:=I.tuple h';rw[e] at e';cases e';rw[d] at d';injection d' with d1 _;have:its=its':=by simpa using congrArg Xf d1
  subst this;exact r.inj r'
end
noncomputable abbrev Cx.wish(X:Cx)(E:ae->aj->Prop):Cx:={ X with xe:=E }
noncomputable abbrev Cx.nox(X:Cx):Cx:=X.wish λ_ _=>False
theorem Cx.Ok.wish{X:Cx}(ok:X.Ok)(E:ae->aj->Prop):(X.wish E).Ok:=
  ⟨ok.mod,ok.kind,ok.glob,ok.blt,ok.above,ok.inj,ok.has,ok.cab,ok.hd,ok.frames,ok.stk,ok.exf,ok.bs,ok.bsz,ok.noex,ok.exfs,ok.funs,ok.frf,ok.hq⟩
theorem Cx.Ok.unwish(ok:(X.wish E).Ok):X.Ok:=
  ⟨ok.mod,ok.kind,ok.glob,ok.blt,ok.above,ok.inj,ok.has,ok.cab,ok.hd,ok.frames,ok.stk,ok.exf,ok.bs,ok.bsz,ok.noex,ok.exfs,ok.funs,ok.frf,ok.hq⟩
theorem Inv.wish(I:Inv X pj σ H s)(E:ae->aj->Prop):Inv (X.wish E) pj σ H s:=⟨I.ok.wish E,I.os,I.bare,I.base,I.loc,I.cell,I.free,I.freeC,I.pin,I.hok,I.len,I.mild⟩
theorem Inv.unwish(I:Inv (X.wish E) pj σ H s):Inv X pj σ H s:=⟨I.ok.unwish,I.os,I.bare,I.base,I.loc,I.cell,I.free,I.freeC,I.pin,I.hok,I.len,I.mild⟩
theorem SP.unwish{D:Ends}{f:Flow}{s':aj}(h:SP (X.wish E) pj D f s'):SP X pj D f s':=by
  cases f with
  |next=>obtain⟨σ',H',I,q⟩:=h;exact⟨σ',H',I.unwish,q⟩
  |brk=>obtain⟨σ',H',I,q⟩:=h;exact⟨σ',H',I.unwish,q⟩
  |cont=>obtain⟨σ',H',I,q⟩:=h;exact⟨σ',H',I.unwish,q⟩
  |ret u=>obtain⟨v,σ',H',I,r,q⟩:=h;exact⟨v,σ',H',I.unwish,r,q⟩
theorem yV.nox{st:List kx}{t:TS}(h:yV X.nox st t):yV X st t:=λpj s σ H D I hw=>
  ig (h pj s σ H D (I.wish _) hw) (λ_ _ q=>q.unwish) λ_ _ z=>kj z
variable {tc:TT}{te:TE}
section
variable {st:kx}{Y7:List kx}{t u:TS}{pos:ma}
noncomputable def ND:TS:=λD σ H=>D.nx σ H
noncomputable def Qx(t u:TS):TS:=λD σ H=>t { D with nx:=u D } σ H
theorem J7:yV X [] ND:=λ_ _ σ H _ I h=>vk ⟨σ,H,I,h⟩
theorem GM(h1:PS X st t)(h2:yV X Y7 u):yV X (st::Y7) (Qx t u):=by
  intro pj s σ H D I h;refine VO (thn (h1 pj s σ H { D with nx:=u D } I h) λf s1 q=>?_);cases f with
  |next=>
    obtain⟨σ',H',I',q⟩:=q;exact h2 pj s1 σ' H' D I' q
  |ret v=>exact q
  |brk=>exact q
  |cont=>exact q
theorem J6(h1:PS X st t):yV X [st] t:=by
  intro pj s σ H D I h;refine VO (thn (h1 pj s σ H D I h) λf s1 q=>?_);cases f with
  |next=>exact vk q
  |ret v=>exact q
  |brk=>exact q
  |cont=>exact q
noncomputable def NG:TS:=λD σ H=>D.ct σ H
theorem B9:PS X (.Continue pos) NG:=λ_ _ σ H _ I h=>wpAny_Continue ⟨σ,H,I,h⟩
theorem Inv.quiet(I:Inv X pj σ H s):interactive X.env=ap:=by simp[interactive,I.ok.kind]
noncomputable def NF(te:TE):TS:=λD σ H=>te σ H λ_ H1=>D.nx σ H1
theorem uH(he:PE X e te)(hs:autoParam (kh e aq pos.line X.env=jm ap) cH._auto_1):PS X (.Expr e pos) (NF te):=by
  intro pj s σ H D I h;exact wpAny_Expr_any (thn (he pj s σ H _ I h) λv s1 zq3=>by obtain⟨x,H1,I1,r1,q1⟩:=zq3;exact⟨σ,H1,I1,q1⟩) I.quiet hs
noncomputable def Qy(te:TE):TS:=λD σ H=>te σ H D.rt
theorem GP(he:PE X e te):PS X (.Return (aa e) pos) (Qy te):=by
  intro pj s σ H D I h;exact wpAny_Return_some (thn (he pj s σ H _ I h) λv s1 zq4=>by obtain⟨x,H1,I1,r1,q1⟩:=zq4;exact⟨x,σ,H1,I1,r1,q1⟩)
noncomputable def R3(c:TT)(t u:TS):TS:=λD σ H=>c σ H λb H1=>if b=ai then t D σ H1 else u D σ H1
theorem Kh{c:Expr}{a b:List kx}(hc:PT X c tc)(ha:yV X a t)(hb:yV X b u):PS X (.If c a b pos) (R3 tc t u):=by
  intro pj s σ H D I h;refine wpAny_If (thn (hc pj s σ H _ I h) λd s1 zz=>?_);obtain⟨H1,I1,q1⟩:=zz;cases d with
  |true=>exact ha pj s1 σ H1 D I1 q1
  |false=>exact hb pj s1 σ H1 D I1 q1
noncomputable def LB:TS:=λ_ _ _=>False
theorem GQ:PS X st LB:=λ_ _ _ _ _ _ h=>h.elim
end
noncomputable abbrev TG:=V->St->Hp->(St->Hp->Prop)->Prop
noncomputable abbrev Kw:=List V->St->Hp->(St->Hp->Prop)->Prop
noncomputable def PG(X:Cx)(target:Expr)(t:TG):Prop:=
  ∀(pj:List (af×lv)) (s:aj) (σ:St) (H:Hp) (v:V) (u:ae) (Q:St->Hp->Prop),Inv X pj σ H s->cJ v u->t v σ H Q ->
    bz (cg X.prog X.w) X.A (Vd target X.env u) (λ_ s'=>∃σ' H',Inv X pj σ' H' s'/\Q σ' H') X.xe s
noncomputable def PU(X:Cx)(ts:List Expr)(t:Kw):Prop:=
  ∀(pj:List (af×lv)) (s:aj) (σ:St) (H:Hp) (vs:List V) (us:List ae) (Q:St->Hp->Prop),Inv X pj σ H s->bA vs us->t vs σ H Q ->
    bz (cg X.prog X.w) X.A (assignInOrder ((qe ts X.env).map (·.2)) us) (λ_ s'=>∃σ' H',Inv X pj σ' H' s'/\Q σ' H') X.xe s
variable {Yt:ma}{Yj:List kx}{tb:TS}
section
variable {pos:ma}
noncomputable def Bj(i:Nat):TG:=λv σ H Q=>Q (σ.set i (aa v)) H
theorem eE(hN:X.N.Nodup)(hi:X.N[i]?=aa x)(hx:IV X.env.scope x)(hf:autoParam (X.fn x=ai \/ X.env.scope.names.lookup x=aa .local) IT._auto_1):PG X (.Name x pos) (Bj i):=by
  intro pj s σ H v u Q I r h;exact Vq (Ar I hN hi hx r (λs' I'=>⟨_,H,I',h⟩) hf)
noncomputable def Om:Kw:=λvs σ H Q=>vs=[]/\Q σ H
noncomputable def Ko(t:TG)(u:Kw):Kw:=λvs σ H Q=>∃v r,vs=v::r/\t v σ H λσ' H'=>u r σ' H' Q
theorem oQ:PU X [] Om:=by
  intro pj s σ H vs us Q I r h;obtain⟨e,h⟩:=h;subst e;cases r;exact assignInOrder_nil ⟨σ,H,I,h⟩
theorem dF{t:TG}{u:Kw}(h1:PG X e t)(h2:PU X es u)
    (hs:autoParam ((qe (e::es) X.env).map (·.2)=Vd e X.env::(qe es X.env).map (·.2)) cH._auto_1):PU X (e::es) (Ko t u):=by
  intro pj s σ H vs us Q I r h;obtain⟨v,vr,e1,h⟩:=h;subst e1;cases r with
  |cons r rr=>
    rw[hs];refine assignInOrder_cons (thn (h1 pj s σ H _ _ _ I r h) λ_ s1 zz=>?_);obtain⟨σ1,H1,I1,q1⟩:=zz;exact h2 pj s1 σ1 H1 _ _ Q I1 rr q1
noncomputable def Sc(K:ak)(n:Nat)(t:Kw):TG:=λv σ H Q=>∃a xs,v=.ref a/\l6 K H a xs/\xs.length=n/\t xs σ H Q
theorem LU{k:Nat}{t:Kw}(hc:X.calm=ai)(h:PU X es t)
    (hn:autoParam ((qe es X.env).length=n) cH._auto_1) (hst:autoParam ((qe es X.env).findIdx? (·.1)=aq) cH._auto_1):PG X (.Tuple es k pos) (Sc X.K n t):=by
  intro pj s σ H v u Q I r hw;obtain⟨a,xs,e1,hq,hl,hw⟩:=hw;subst e1;cases r;obtain⟨its,rv,ht,hz⟩:=I.tuple hq;refine assign_Tuple_tuple (I.ok.hd hc) ht (by simp[hn,<- hl,rv.length]) hst λh' hx=>?_;have I1:Inv X pj σ H { s with heap:=h' }:=I.kept (t':=s.toks) λb o e=>hx b o (fq (bf e)) e;exact h pj _ σ H xs _ Q I1 (by simpa using rv) hw
noncomputable def Ii(te:TE)(g:TG):TS:=λD σ H=>te σ H λx H1=>g x σ H1 D.nx
theorem LQ{g:TG}(he:PE X e te)(hg:PG X tg g)(hs:autoParam (swapsWithSole [tg] e pos.line X.env=jm ap) cH._auto_1)(hw:autoParam (swappedStores [tg] e X.env=jm aq) cH._auto_1)
    (h1:autoParam ((qe [tg] X.env).map (·.2)=[Vd tg X.env]) cH._auto_1):PS X (.Assign [tg] e pos) (Ii te g):=by
  intro pj s σ H D I h;refine wpAny_Assign_stores (thn (he pj s σ H _ I h) λv s1 ⟨x,H1,I1,r1,q1⟩=>?_) hs hw;rw[h1];exact thn (hg pj s1 σ H1 x v _ I1 r1 q1) λ_ s2 q=>by obtain⟨σ',H',I',q⟩:=q;exact⟨σ',H',I',q⟩
theorem GO(hN:X.N.Nodup)(hi:X.N[i]?=aa x)(hx:IV X.env.scope x)(he:PE X e te)(hs:autoParam (kh e (aa (.Name x Yt)) pos.line X.env=jm ap) cH._auto_1)(hf:autoParam (X.fn x=ai \/ X.env.scope.names.lookup x=aa .local) IT._auto_1):
    PS X (.Assign [.Name x Yt] e pos) (Ii te (Bj i)):=by
  intro pj s σ H D I h;refine wpAny_Assign_Name (thn (he pj s σ H _ I h) λv s1 ⟨y,H1,I1,r1,q1⟩=>?_) hs;exact Ar I1 hN hi hx r1 (λs2 I2=>⟨_,H1,I2,q1⟩) hf
noncomputable def LA(c:TT)(tb:TS):TS:=λD σ H=>∃W:Nat->St->Hp->Prop,(∃m,W m σ H) /\ ∀m σ H,W m σ H ->
  c σ H λb H1=>if b=ai then ∃N:St->Hp->Prop,(∀σ' H',N σ' H' -> ∃m',m'<m/\W m' σ' H')/\tb { D with nx:=N,ct:=N,bk:=D.nx } σ H1 else D.nx σ H1
theorem GN{c:Expr}(hp:VP (cg X.prog X.w) X.A X.env X.xe)(hc:PT X c tc)(hb:yV X Yj tb):PS X (.While c Yj [] pos) (LA tc tb):=by
  intro pj s σ H D I h;obtain⟨W,⟨m0,w0⟩,turn⟩:=h;refine wpAny_While (codeAny_whileLoop (λn s'=>∃σ' H',Inv X pj σ' H' s'/\W n σ' H') ?_ m0 ⟨σ,H,I,w0⟩);rintro n s1 ⟨σ1,H1,I1,w1⟩;refine nj hp (thn (hc pj s1 σ1 H1 _ I1 (turn n σ1 H1 w1)) λb s2 zz=>?_);obtain⟨H2,I2,q2⟩:=zz;cases b with
  |true=>
    obtain⟨N,hN,q2⟩:=q2;rw[Y4 rfl];refine nj hp (thn (hb pj s2 σ1 H2 _ I2 q2) λf s3 q3=>?_);cases f with
    |next=>
      obtain⟨σ3,H3,I3,n3⟩:=q3;obtain⟨m',hm,w3⟩:=hN σ3 H3 n3;exact⟨m',hm,σ3,H3,I3,w3⟩
    |cont=>
      obtain⟨σ3,H3,I3,n3⟩:=q3;obtain⟨m',hm,w3⟩:=hN σ3 H3 n3;exact⟨m',hm,σ3,H3,I3,w3⟩
    |brk=>exact q3
    |ret v=>exact q3
  |false=>
    rw[XF mf];exact vk ⟨σ1,H2,I2,q2⟩
end
structure It where
  go:Nat->Hp->Prop
  yld:Nat->Hp->V->Hp->Prop
  stop:Nat->Hp->Prop
noncomputable def wR(X:Cx)(pj:List (af×lv))(H:Hp)(b:af):Prop:=
  H b=aq/\b≠X.env.locals/\b ∉ X.fs/\(b∈X.ex \/ X.s₀.heap.objs.size<=b)/\(∀x c,X.env.cells.lookup x=aa c->c≠b) /\ ∀p∈X.pn++pj,p.1≠b
theorem Inv.fpOk(I:Inv X pj σ H s)(hb:s.heap.objs.size<=b)(hn:H' b=aq):wR X pj H' b:=by
  refine⟨hn,Xz (ef I.lt hb),I.nofs hb,.inr (om I.sz hb),λx c e z=>?_,λp hp z=>?_⟩
  . obtain⟨v,q⟩:=I.cell x c e;exact absurd (ef q.lt (by rw[z];exact hb)) (qi _)
  . exact absurd (ef (bf (I.pin p hp).1) (by rw[z];exact hb)) (qi _)
structure Turn(P:aw)(w:bv)(K:ak)(tg:Expr)(J:It)(fp:List af)(it:af)(tn:Nat->dm->Prop):Prop where
  mem:it∈fp
  obj:∀i h,tn i h -> ∀b∈fp,∃o,h.get? b=aa o /\ ∀v,o.data ≠ .cell v
  keep:∀i h h',tn i h->(∀b∈fp,∀o,h.get? b=aa o->h'.get? b=aa o)->tn i h'
  item:∀(X:Cx),X.prog=P->X.w=w->X.K=K->X.N=X.N -> ∀(i:Nat) (pj:List (af×lv)) (s:aj) (σ:St) (H:Hp) (E:ae->aj->Prop),Inv X pj σ H s->(∀b∈fp,wR X pj H b)->tn i s.heap->J.go i H ->
    bz (cg P w) X.A (uu (.ref it)) (λr s1=>∃u,r=aa u /\
      bz (cg P w) X.A (vm tg (.ref it) u) (λ_ s2=>∃x H',Inv X pj σ H' s2/\cJ x u/\J.yld i H x H'/\tn (i+1) s2.heap /\ ∀b∈fp,H' b=aq) E s1) E s
  done:∀(X:Cx),X.prog=P->X.w=w->X.K=K->X.N=X.N -> ∀(i:Nat) (pj:List (af×lv)) (s:aj) (σ:St) (H:Hp) (E:ae->aj->Prop),Inv X pj σ H s->(∀b∈fp,wR X pj H b)->tn i s.heap->J.stop i H ->
    bz (cg P w) X.A (uu (.ref it)) (λr s1=>r=aq/\Inv X pj σ H s1) E s
  self:∀(A:de) (i:Nat) (s:aj) (Q:ae->aj->Prop) (E:ae->aj->Prop),tn i s.heap->Q (.ref it) s->bz (cg P w) A (pyIter (.ref it)) Q E s
noncomputable abbrev TI:=St->Hp->(It->Hp->Prop)->Prop
noncomputable def U4(X:Cx)(pj:List (af×lv))(σ:St)(tg:Expr)(R:It->Hp->Prop)(itv:ae)(s2:aj):Prop:=
  ∃(it:af) (fp:List af) (tn:Nat->dm->Prop) (J:It) (H':Hp),itv=.ref it/\Inv X pj σ H' s2/\Turn X.prog X.w X.K tg J fp it tn/\tn 0 s2.heap/\(∀b∈fp,wR X pj H' b)/\R J H'
noncomputable def PI(X:Cx)(tg Yb:Expr)(wi:TI):Prop:=
  ∀(pj:List (af×lv)) (s:aj) (σ:St) (H:Hp) (R:It->Hp->Prop),Inv X pj σ H s->wi σ H R ->
    bz (cg X.prog X.w) X.A (fi Yb X.env) (λv s1=>bz (cg X.prog X.w) X.A (pyIter v) (U4 X pj σ tg R) X.xe s1) X.xe s
theorem Dt{n:String}{vs:Array ae}{Q:Unit->aj->Prop}(ho:s.heap.get? it=aa o)(hc:o.cls=.type n)(hd:o.data=.fields vs)
    (hn:["enumerate", "zip", "dict_itemiterator", "dict_reverseitemiterator", "odict_iterator", "itertools.zip_longest", "itertools.pairwise"].contains n=ap) (hQ:Q () s):bz M A (vm tg (.ref it) u) Q E s:=by
  unfold vm;cases tg<;>first
    |exact az hQ
    | (cases u<;>first
        |exact az hQ
        | (refine ah (WA ho ?_)
           rw[hc,hd];show bz M A (if (["enumerate", "zip", "dict_itemiterator", "dict_reverseitemiterator", "odict_iterator", "itertools.zip_longest", "itertools.pairwise"].contains n&&vs[0]?==aa (XT _))=ai then _ else _) Q E s;rw[XF (by intro h;rw[hn,Bool.false_and] at h;cases h)];exact az hQ))
noncomputable def PX(K:ak)(a:af):It:=
  ⟨λi H=>∃xs x,fU K H a xs/\xs[i]?=aa x,λi H x H'=>H'=H /\ ∀xs,fU K H a xs->xs[i]?=aa x,λi H=>∃xs,fU K H a xs/\xs.length<=i⟩
noncomputable def TF(K:ak)(a:af):It:=
  ⟨λi H=>∃xs x,l6 K H a xs/\xs[i]?=aa x,λi H x H'=>H'=H /\ ∀xs,l6 K H a xs->xs[i]?=aa x,λi H=>∃xs,l6 K H a xs/\xs.length<=i⟩
noncomputable def PV(lo:Int)(n:Nat):It:=⟨λi _=>i<n,λi H x H'=>H'=H/\x=.int (lo+i),λi _=>n<=i⟩
theorem EE(a it:af):Turn P w K tg (PX K a) [it] it (λi h=>h.IsListIter it a i) where
  mem:=by simp
  obj:=λi h st b hb=>by
    have e:b=it:=by simpa using hb
    subst e;obtain⟨o,e,c,d⟩:=st;exact⟨o,e,λv z=>by rw[d] at z;cases z⟩
  keep:=λi h h' st k=>st.at λo e=>k it (by simp) o e
  item:=by
    intro X hP hw hK hc i pj s σ H E I hf st hg;subst hP hw hK;obtain⟨xs,x,hq,hx⟩:=hg;obtain⟨its,rv,p,hz⟩:=I.list hq;obtain⟨u,hu,ru⟩:=rv.get hx;obtain⟨f0,f1,f2,f3,f4,f5⟩:=hf it (by simp);refine yc st p.isList (x:=u) (by simpa using hu) λh' st' sb=>?_;have I1:Inv X pj σ H { s with heap:=h' }:=I.turned (t':=s.toks) (λb o hb e=>(sb.2 b hb).trans e) f0 f1 f3 f4 f5;obtain⟨o,e,c,d⟩:=id st';exact⟨u,rfl,Dt (s:={ s with heap:=h' }) e c d (by decide) ⟨x,H,I1,ru,⟨rfl,λys hy=>by rw[I.list_inj hy hq];exact hx⟩,st',λb hb=>(hf b hb).1⟩⟩
  done:=by
    intro X hP hw hK hc i pj s σ H E I hf st hg;subst hP hw hK;obtain⟨xs,hq,hx⟩:=hg;obtain⟨its,rv,p,hz⟩:=I.list hq;obtain⟨f0,f1,f2,f3,f4,f5⟩:=hf it (by simp);have hl:=rv.length;exact Bp I.qu st p.isList (by simp;ac_rfl) λh' eb=>⟨rfl,I.turned (t':=s.toks) (λb o hb e=>eb b o hb e) f0 f1 f3 f4 f5⟩
  self:=λ_ _ _ _ _ st h=>zp st h
theorem CG(a it:af):Turn P w K tg (TF K a) [it] it (λi h=>h.IsTupleIter it a i) where
  mem:=by simp
  obj:=λi h st b hb=>by
    have e:b=it:=by simpa using hb
    subst e;obtain⟨o,e,c,d⟩:=st;exact⟨o,e,λv z=>by rw[d] at z;cases z⟩
  keep:=λi h h' st k=>st.at λo e=>k it (by simp) o e
  item:=by
    intro X hP hw hK hc i pj s σ H E I hf st hg;subst hP hw hK;obtain⟨xs,x,hq,hx⟩:=hg;obtain⟨its,rv,p,hz⟩:=I.tuple hq;obtain⟨u,hu,ru⟩:=rv.get hx;obtain⟨f0,f1,f2,f3,f4,f5⟩:=hf it (by simp);refine wpAny_pyNext_tuple_item st (show s.heap.IsTuple a its.toArray from p) (x:=u) (by simpa using hu) λh' st' sb=>?_;have I1:Inv X pj σ H { s with heap:=h' }:=I.turned (t':=s.toks) (λb o hb e=>(sb.2 b hb).trans e) f0 f1 f3 f4 f5;obtain⟨o,e,c,d⟩:=id st';exact⟨u,rfl,Dt (s:={ s with heap:=h' }) e c d (by decide) ⟨x,H,I1,ru,⟨rfl,λys hy=>by rw[I.tuple_inj hy hq];exact hx⟩,st',λb hb=>(hf b hb).1⟩⟩
  done:=by
    intro X hP hw hK hc i pj s σ H E I hf st hg;subst hP hw hK;obtain⟨xs,hq,hx⟩:=hg;obtain⟨its,rv,p,hz⟩:=I.tuple hq;obtain⟨f0,f1,f2,f3,f4,f5⟩:=hf it (by simp);have hl:=rv.length;exact FH I.qu st (show s.heap.IsTuple a its.toArray from p) (by simp;ac_rfl) λh' eb=>⟨rfl,I.turned (t':=s.toks) (λb o hb e=>eb b o hb e) f0 f1 f3 f4 f5⟩
  self:=λ_ _ _ _ _ st h=>wpAny_pyIter_tupleiter st h
theorem CH(it:af)(lo:Int)(n:Nat):Turn P w K tg (PV lo n) [it] it (λi h=>su h it (lo+(i:Nat)*1) ((n:Int)-(i:Nat)) 1) where
  mem:=by simp
  obj:=λi h st b hb=>by
    have e:b=it:=by simpa using hb
    subst e;exact⟨_,st,λv z=>by
      have z':XA _=Data.cell v:=z;cases z'⟩
  keep:=λi h h' st k=>k it (by simp) _ st
  item:=by
    intro X hP hw hK hc i pj s σ H E I hf st hg;subst hP hw hK;obtain⟨f0,f1,f2,f3,f4,f5⟩:=hf it (by simp);refine vZ hg st λv h' tk hv st' kk=>?_;obtain⟨t,rfl⟩:=hv;have I1:Inv X pj σ H { s with heap:=h',toks:=tk }:=I.turned (λb o hb e=>kk b o (by simpa using hb) e) f0 f1 f3 f4 f5;refine⟨_,rfl,Dt (s:={ s with heap:=h',toks:=tk }) (n:="range_iterator") st' rfl rfl (by decide) ⟨.int (lo+i),H,I1,⟨t,?_⟩,⟨rfl,rfl⟩,st',λb hb=>(hf b hb).1⟩⟩;rw[XB]
  done:=by
    intro X hP hw hK hc i pj s σ H E I hf st hg;subst hP hw hK;obtain⟨f0,f1,f2,f3,f4,f5⟩:=hf it (by simp);exact yO I.qu st (by have:n<=i:=hg;ac_rfl) λh' eb=>⟨rfl,I.turned (t':=s.toks) (λb o hb e=>eb b o hb e) f0 f1 f3 f4 f5⟩
  self:=λ_ _ _ _ _ st h=>yg st h
variable {fp:List af}
theorem B4{R:It->Hp->Prop}{hi:Int}{t u v:Tok}{tk:Nat}(I:Inv X pj σ H s)(h1:-(2 ^ 62)<=lo)(h2:lo<2 ^ 62)(h3:-(2 ^ 62)<=hi)(h4:hi<2 ^ 62)
    (q:R (PV lo (hi-lo).toNat) H):bz (cg X.prog X.w) X.A (pyIter (.ref s.heap.objs.size)) (U4 X pj σ tg R) E { s with heap:=s.heap.push { cls:=.type "range",data:=.fields #[.int lo t,.int hi u,.int 1 v] },toks:=tk }:=by
  refine Ve (IsRange.new ..) (small_one h1 h2 h3 h4) ?_;have I1:Inv X pj σ H { s with heap:=s.heap.push { cls:=.type "range",data:=.fields #[.int lo t,.int hi u,.int 1 v] },toks:=tk }:=I.kept λb o e=>ao _ e;refine⟨(s.heap.push { cls:=.type "range",data:=.fields #[.int lo t,.int hi u,.int 1 v] }).objs.size,[(s.heap.push { cls:=.type "range",data:=.fields #[.int lo t,.int hi u,.int 1 v] }).objs.size],_,_,H,rfl,
    I1.kept (t':=tk) λb o e=>ao _ e,CH _ lo (hi-lo).toNat,?_,λb hb=>?_,q⟩
  . have e1:lo+((0:Nat):Int)*1=lo:=by simp
    have e2:(((hi-lo).toNat:Nat):Int)-((0:Nat):Int)=df lo hi 1:=by rw[rangeSize_one];split<;>ac_rfl
    show su _ _ (lo+((0:Nat):Int)*1) ((((hi-lo).toNat:Nat):Int)-((0:Nat):Int)) 1;rw[e1,e2];exact cr _ rfl
  . have e:b=(s.heap.push { cls:=.type "range",data:=.fields #[.int lo t,.int hi u,.int 1 v] }).objs.size:=by simpa using hb
    subst e;exact I1.fpOk (bj _) (I1.hok.fresh (bj _))
noncomputable def Oh(ta:TA):TI:=λσ H R=>ta σ H λvs H1=>∃j:Int,vs=[.int j] /\ -(2 ^ 62)<=j/\j<2 ^ 62/\R (PV 0 j.toNat) H1
noncomputable def Og(ta:TA):TI:=λσ H R=>ta σ H λvs H1=>∃i j:Int,vs=[.int i,.int j]/\(-(2 ^ 62)<=i/\i<2 ^ 62 /\ -(2 ^ 62)<=j/\j<2 ^ 62)/\R (PV i (j-i).toNat) H1
theorem Eb{a:Expr}{ta:TA}{pos:ma}(hg:Gl X "range")(hm:X.mg "range" = aq)(ha:PA X [a] ta)(hs:autoParam (bg [a] X.env=[(ap,fi a X.env)]) cH._auto_1):PI X tg (.Call (.Name "range" p) [a] [] pos) (Oh ta):=by
  intro pj s σ H R I h;refine Y2 (nY I hg hm Vf (gh (thn (ha pos pj s σ H _ I h) λus s1 ⟨vs,H1,I1,r1,q1⟩=>?_) hs rfl));obtain⟨j,e,q1,q2,q⟩:=q1;subst e;cases r1 with
  |cons r rr=>
    cases rr;obtain⟨t,rfl⟩:=r;exact call_range_1 (B4 I1 (by ac_rfl) (by ac_rfl) q1 q2 (by simpa using q))
theorem Ea{a b:Expr}{ta:TA}{pos:ma}(hg:Gl X "range")(hm:X.mg "range" = aq)(ha:PA X [a,b] ta)(hs:autoParam (bg [a,b] X.env=[(ap,fi a X.env),(ap,fi b X.env)]) cH._auto_1)(hs2:autoParam (bg [b] X.env=[(ap,fi b X.env)]) cH._auto_1):
    PI X tg (.Call (.Name "range" p) [a,b] [] pos) (Og ta):=by
  intro pj s σ H R I h;refine Y2 (nY I hg hm Vf (gh (thn (ha pos pj s σ H _ I h) λus s1 ⟨vs,H1,I1,r1,q1⟩=>?_) (by rw[hs,hs2]) (by rw[hs2];rfl)));obtain⟨i,j,e,⟨q1,q2,q3,q4⟩,q⟩:=q1;subst e;cases r1 with
  |cons r rr=>
    cases rr with
    |cons r' rr=>
      cases rr;obtain⟨t,rfl⟩:=r;obtain⟨t',rfl⟩:=r';exact call_range_2 (B4 I1 q1 q2 q3 q4 q)
noncomputable def R4(wi:TI)(g:TG)(tb:TS):TS:=λD σ H=>wi σ H λJ H1=>∃W:Nat->Nat->St->Hp->Prop,(∃m,W 0 m σ H1) /\ ∀i m σ H,W i m σ H ->
  (J.stop i H/\D.nx σ H) \/ (J.go i H /\ ∃N:St->Hp->Prop,(∀σ' H',N σ' H' -> ∃m',m'<m/\W (i+1) m' σ' H') /\ ∀x H',J.yld i H x H'->g x σ H' λσ2 H2=>tb { D with nx:=N,ct:=N,bk:=D.nx } σ2 H2)
noncomputable def vI(fp:List af)(h:dm):List (af×lv):=fp.filterMap λb=>(h.get? b).map λo=>(b,o)
theorem mJ(hb:b∈fp)(e:h.get? b=aa o):(b,o)∈vI fp h:=Vg.mpr ⟨b,hb,by rw[e];rfl⟩
theorem Ep{p:af×lv}(hp:p∈vI fp h):p.1∈fp/\h.get? p.1=aa p.2:=by
  obtain⟨b,hb,e⟩:=Vg.mp hp;cases q:h.get? b with
  |none=>rw[q] at e;cases e
  |some o=>
    rw[q] at e;have e':(b,o)=p:=Option.some.inj e;subst e';exact⟨hb,q⟩
theorem Inv.pinned(I:Inv X pj σ H s)(hf:∀b∈fp,wR X pj H b)(ho:∀b∈fp,∃o,s.heap.get? b=aa o /\ ∀v,o.data ≠ .cell v):Inv X (pj++vI fp s.heap) σ H s:=
  I.pins_of λp hp=>(dv.mp hp).elim (λz=>I.pin p (dr _ z)) λz=>by
    obtain⟨hb,e⟩:=Ep z;obtain⟨f0,f1,f2,_⟩:=hf p.1 hb;obtain⟨o,e',d⟩:=ho p.1 hb;rw[e] at e';cases e';exact⟨e,f0,f1,f2,d⟩
theorem Inv.unpinned{pl:List (af×lv)}(I:Inv X (pj++pl) σ H s):Inv X pj σ H s:=I.pins_of λp hp=>I.pin p (dr _ (fh _ hp))
theorem LO{Yb:Expr}{wi:TI}{g:TG}{pos:ma}(hp:VP (cg X.prog X.w) X.A X.env X.xe)(hc:X.N=X.N)(hi:PI X tg Yb wi)(hg:PG X tg g)(hb:yV X Yj tb)
    (hs:autoParam (∀x,im Yb X.env x=jm x) FW._auto_1):PS X (.For tg Yb Yj [] pos) (R4 wi g tb):=by
  intro pj s σ H D I h;refine wpAny_For (thn (hi pj s σ H _ I h) λv s1 h1=>thn h1 λitv s2 h2=>?_) hs;obtain⟨it,fp,tn,J,H2,e,I2,T,st2,f2,W,⟨m0,w0⟩,turn⟩:=h2;subst e;have stat:∀{H':Hp},(∀b∈fp,H' b=aq) -> ∀b∈fp,wR X pj H' b:=λhn b hb=>⟨hn b hb,(f2 b hb).2⟩;refine codeAny_forLoop_any (λn s'=>∃i σ' H',Inv X pj σ' H' s'/\tn i s'.heap/\(∀b∈fp,H' b=aq)/\W i n σ' H') ?_ m0 ⟨0,σ,H2,I2,st2,λb hb=>(f2 b hb).1,w0⟩;rintro n s3 ⟨i,σ3,H3,I3,st3,fr3,w3⟩;rcases turn i n σ3 H3 w3 with⟨stop,qn⟩ | ⟨go,N,hN,step⟩
  . refine nj hp (thn (T.done X rfl rfl rfl hc i pj s3 σ3 H3 X.xe I3 (stat fr3) st3 stop) λr s4 zz=>?_);obtain⟨hr,I4⟩:=zz;subst hr;exact vk ⟨σ3,H3,I4,qn⟩
  . refine nj hp (thn (T.item X rfl rfl rfl hc i pj s3 σ3 H3 X.xe I3 (stat fr3) st3 go) λr s4 zz=>?_);obtain⟨u,hr,h4⟩:=zz;subst hr;refine nj hp (thn h4 λ_ s5 zz=>?_);obtain⟨x,H5,I5,r5,y5,st5,fr5⟩:=zz;have I5':=I5.pinned (stat fr5) (T.obj _ _ st5);refine nj hp (thn (hg _ s5 σ3 H5 x u _ I5' r5 (step x H5 y5)) λ_ s6 zz=>?_);obtain⟨σ6,H6,I6,q6⟩:=zz;refine nj hp (thn (hb _ s6 σ6 H6 _ I6 q6) λf s7 q7=>?_);have X7:∀{σ7:St} {H7:Hp},Inv X (pj++vI fp s5.heap) σ7 H7 s7->N σ7 H7 -> ∃m,m<n /\ ∃i σ' H',Inv X pj σ' H' s7/\tn i s7.heap/\(∀b∈fp,H' b=aq)/\W i m σ' H':=λ{σ7 H7} I7 n7=>by
      obtain⟨m',hm,w7⟩:=hN σ7 H7 n7;refine⟨m',hm,i+1,σ7,H7,I7.unpinned,T.keep _ _ _ st5 λb hb o e=>(I7.pin (b,o) (dr _ (dr _ (mJ hb e)))).1,λb hb=>?_,w7⟩;obtain⟨o,e,d⟩:=T.obj _ _ st5 b hb;exact(I7.pin (b,o) (dr _ (dr _ (mJ hb e)))).2.1
    cases f with
    |next=>obtain⟨σ7,H7,I7,n7⟩:=q7;exact X7 I7 n7
    |cont=>obtain⟨σ7,H7,I7,n7⟩:=q7;exact X7 I7 n7
    |brk=>obtain⟨σ7,H7,I7,q7⟩:=q7;exact⟨σ7,H7,I7.unpinned,q7⟩
    |ret v=>obtain⟨x7,σ7,H7,I7,r7,q7⟩:=q7;exact⟨x7,σ7,H7,I7.unpinned,r7,q7⟩
noncomputable abbrev R2:=V->V->Hp->VK->Prop
noncomputable def lM(X:Cx)(f:ae->ae->VL ae)(r:R2):Prop:=
  ∀(pj:List (af×lv)) (s:aj) (σ:St) (H:Hp) (x y:V) (v u:ae) (Q:VK),Inv X pj σ H s->cJ x v->cJ y u->r x y H Q ->
    bz (cg X.prog X.w) X.A (f v u) (EP X pj σ Q) X.xe s
noncomputable def T8(X:Cx)(f:ae->VL ae)(r:V->Hp->VK->Prop):Prop:=
  ∀(pj:List (af×lv)) (s:aj) (σ:St) (H:Hp) (x:V) (v:ae) (Q:VK),Inv X pj σ H s->cJ x v->r x H Q ->
    bz (cg X.prog X.w) X.A (f v) (EP X pj σ Q) X.xe s
noncomputable def fK(X:Cx)(f:ae)(r:List V->Hp->VK->Prop):Prop:=
  ∀(pj:List (af×lv)) (s:aj) (σ:St) (H:Hp) (xs:List V) (us:List ae) (Q:VK),Inv X pj σ H s->bA xs us->r xs H Q ->
    bz (cg X.prog X.w) X.A (call f us) (EP X pj σ Q) X.xe s
noncomputable def T9(X:Cx)(r:V->Hp->(Bool->Hp->Prop)->Prop):Prop:=
  ∀(pj:List (af×lv)) (s:aj) (σ:St) (H:Hp) (x:V) (v:ae) (Q:Bool->Hp->Prop),Inv X pj σ H s->cJ x v->r x H Q ->
    bz (cg X.prog X.w) X.A (Xe v) (TP X pj σ Q) X.xe s
noncomputable def NA(r:R2)(ta tb:TE):TE:=λσ H Q=>ta σ H λx H1=>tb σ H1 λy H2=>r x y H2 Q
noncomputable def U8(r:V->Hp->VK->Prop)(ta:TE):TE:=λσ H Q=>ta σ H λx H1=>r x H1 Q
noncomputable def rI(C:Int->Int->Prop)(g:Int->Int->V):R2:=λx y H Q=>∃i j,x=.int i/\y=.int j/\C i j/\Q (g i j) H
noncomputable def DU(g:Int->Int->V):R2:=λx y H Q=>∃i j,x=.int i/\y=.int j/\Q (g i j) H
noncomputable def rU(g:Int->V):V->Hp->VK->Prop:=λx H Q=>∃i,x=.int i/\Q (g i) H
variable {us:List ae}{op op':Wa}{r r':R2}{y:V}
section
variable {a b c:Expr}{tb tc:TE}{pos:ma}
theorem Ml(ha:PE X a ta)(hb:PE X b tb){R:V->V->Hp->Prop}(I:Inv X pj σ H s)
    (h:ta σ H λx H1=>tb σ H1 λy H2=>R x y H2)  {f:ae->ae->VL ae}
    (hf:∀v u s2 x y H2,Inv X pj σ H2 s2->cJ x v->cJ y u->R x y H2->bz (cg X.prog X.w) X.A (f v u) Q X.xe s2):
    bz (cg X.prog X.w) X.A (fi a X.env) (λv s₁=>bz (cg X.prog X.w) X.A (fi b X.env) (λu s₂=>bz (cg X.prog X.w) X.A (f v u) Q X.xe s₂) X.xe s₁) X.xe s:=by
  refine thn (ha pj s σ H _ I h) λv s1 zz=>?_;obtain⟨x,H1,I1,r1,q1⟩:=zz;refine thn (hb pj s1 σ H1 _ I1 q1) λu s2 zz=>?_;obtain⟨y,H2,I2,r2,q2⟩:=zz;exact hf v u s2 x y H2 I2 r1 r2 q2
theorem Nx{op:Operator}(ho:lM X (jo op) r)(ha:PE X a ta)(hb:PE X b tb):PE X (.BinOp a op b pos) (NA r ta tb):=by
  intro pj s σ H Q I h;exact wpAny_BinOp (Ml ha hb I h λv u s2 x y H2 I2 rx ry q=>ho pj s2 σ H2 x y v u Q I2 rx ry q)
theorem Nu{op:UnaryOp}{r:V->Hp->VK->Prop}(ho:T8 X (unaryOp op) r)(ha:PE X a ta):PE X (.UnaryOp op a pos) (U8 r ta):=by
  intro pj s σ H Q I h;exact UnaryOp_ (thn (ha pj s σ H _ I h) λv s1 zq5=>by obtain⟨x,H1,I1,r1,q1⟩:=zq5;exact ho pj s1 σ H1 x v Q I1 r1 q1)
theorem Rv{f:ae->ae->VL ae}{C:Int->Int->Prop}{g:Int->Int->Int}
    (Xg:∀(i j:Int) (t u:Tok) (s:aj) (Q:ae->aj->Prop) (E:ae->aj->Prop),C i j->Q (.int (g i j) s.toks) { s with toks:=s.toks+1 }->bz (cg X.prog X.w) X.A (f (.int i t) (.int j u)) Q E s):
    lM X f (rI C λi j=>.int (g i j)):=by
  intro pj s σ H x y v u Q I rx ry h;obtain⟨i,j,rfl,rfl,hc,q⟩:=h;obtain⟨t,rfl⟩:=rx;obtain⟨t',rfl⟩:=ry;exact Xg i j t t' s _ _ hc ⟨.int (g i j),H,I.tok _,⟨_,rfl⟩,q⟩
theorem OK{f:ae->ae->VL ae}{g:Int->Int->Int}
    (Xg:∀(i j:Int) (t u:Tok) (s:aj) (Q:ae->aj->Prop) (E:ae->aj->Prop),Q (.int (g i j) s.toks) { s with toks:=s.toks+1 }->bz (cg X.prog X.w) X.A (f (.int i t) (.int j u)) Q E s):
    lM X f (DU λi j=>.int (g i j)):=by
  intro pj s σ H x y v u Q I rx ry h;obtain⟨i,j,rfl,rfl,q⟩:=h;obtain⟨t,rfl⟩:=rx;obtain⟨t',rfl⟩:=ry;exact Xg i j t t' s _ _ ⟨.int (g i j),H,I.tok _,⟨_,rfl⟩,q⟩
theorem Ls{f:ae->ae->VL ae}{g:Int->Int->Bool}
    (Xg:∀(i j:Int) (t u:Tok) (s:aj) (Q:ae->aj->Prop) (E:ae->aj->Prop),Q (.bool (g i j)) s->bz (cg X.prog X.w) X.A (f (.int i t) (.int j u)) Q E s):
    lM X f (DU λi j=>.bl (g i j)):=by
  intro pj s σ H x y v u Q I rx ry h;obtain⟨i,j,rfl,rfl,q⟩:=h;obtain⟨t,rfl⟩:=rx;obtain⟨t',rfl⟩:=ry;exact Xg i j t t' s _ _ ⟨.bl (g i j),H,I,rfl,q⟩
noncomputable def KO(i j:Int):Prop:=0<=j/\j<=1000000/\i.natAbs<2 ^ 64
noncomputable def Mt(i j:Int):Prop:=(-(2 ^ 64)<i/\i<2 ^ 64) \/ (-(2 ^ 64)<j/\j<2 ^ 64)
theorem Mt.ok{i j:Int}(h:Mt i j):IntMulOk i j:=by
  rcases h with⟨h1,h2⟩ | ⟨h1,h2⟩
  . exact .of_left (intBits_le_64 h1 h2)
  . exact .of_right (intBits_le_64 h1 h2)
theorem Lr:lM X (jo .Add) (DU λi j=>.int (i+j)):=OK λ_ _ _ _ _ _ _ q=>add_int q
theorem Li:lM X (jo .Sub) (DU λi j=>.int (i-j)):=OK λ_ _ _ _ _ _ _ q=>sub_int q
theorem Ll:lM X (jo .Mod) (rI (λ_ j=>0<j) λi j=>.int (i % j)):=Rv λi j _ _ _ _ _ hc q=>by
  have h1:(0:Int)<j:=hc;exact mod_int' (by ac_rfl) (by rw[Int.fmod_eq_emod_of_nonneg i (by ac_rfl)];exact q)
theorem U7{f:ae->VL ae}{g:Int->Int}
    (Xg:∀(i:Int) (t:Tok) (s:aj) (Q:ae->aj->Prop) (E:ae->aj->Prop),Q (.int (g i) s.toks) { s with toks:=s.toks+1 }->bz (cg X.prog X.w) X.A (f (.int i t)) Q E s):
    T8 X f (rU λi=>.int (g i)):=by
  intro pj s σ H x v Q I rx h;obtain⟨i,rfl,q⟩:=h;obtain⟨t,rfl⟩:=rx;exact Xg i t s _ _ ⟨.int (g i),H,I.tok _,⟨_,rfl⟩,q⟩
theorem L0:T8 X (unaryOp .USub) (rU λi=>.int (-i)):=U7 λ_ _ _ _ _ q=>neg_int q
theorem Ht{Q:VK}{k k':Bool}(I:Inv X pj σ H s)(q:Q (.bl k) H)(e:k=k'):EP X pj σ Q (.bool k') s:=by
  subst e;exact⟨.bl k,H,I,rfl,q⟩
theorem Go:lM X (dt .Lt) (DU λi j=>.bl (decide (i<j))):=Ls λ_ _ _ _ _ _ _ q=>lt_int q
theorem Gp:lM X (dt .LtE) (DU λi j=>.bl (decide (i<=j))):=Ls λ_ _ _ _ _ _ _ q=>le_int q
theorem OJ:lM X (dt .Gt) (DU λi j=>.bl (decide (j<i))):=Ls λ_ _ _ _ _ _ _ q=>gt_int q
theorem Lm:lM X (dt .Is) (λx y H Q=>y=.non/\Q (.bl (decide (x=.non))) H):=by
  intro pj s σ H x y v u Q I rx ry h;obtain⟨rfl,q⟩:=h;cases ry;refine is_none_gen (Ht I q ?_);cases x<;>first
    | (cases rx;rfl)
    | (obtain⟨t,rfl⟩:=rx;rfl)
theorem JN:lM X (dt .IsNot) (λx y H Q=>y=.non/\Q (.bl (!decide (x=.non))) H):=by
  intro pj s σ H x y v u Q I rx ry h;obtain⟨rfl,q⟩:=h;cases ry;refine isnot_none_gen (Ht I q ?_);cases x<;>first
    | (cases rx;rfl)
    | (obtain⟨t,rfl⟩:=rx;rfl)
theorem lM.or{f:ae->ae->VL ae}(h:lM X f r)(h':lM X f r'):lM X f (λx y H Q=>r x y H Q \/ r' x y H Q):=by
  intro pj s σ H x y v u Q I rx ry q;rcases q with q | q
  . exact h pj s σ H x y v u Q I rx ry q
  . exact h' pj s σ H x y v u Q I rx ry q
theorem nomark(b:Expr)(h:autoParam (op ≠ .In) pL._auto_1)(h2:autoParam (op ≠ .NotIn) pL._auto_1):rg op b=ap:=by
  have e1:(op==CmpOp.In)=ap:=by cases op<;>first | rfl | exact absurd rfl h
  have e2:(op==CmpOp.NotIn)=ap:=by cases op<;>first | rfl | exact absurd rfl h2
  cases b<;>simp[rg,e1,e2]
theorem JG(ho:lM X (dt op) r)(ha:PE X a ta)(hb:PE X b tb)(hm:rg op b=ap):PE X (.Compare a [op] [b] pos) (NA r ta tb):=by
  intro pj s σ H Q I h;exact wpAny_Compare1 (Ml ha hb I h λv u s2 x y H2 I2 rx ry q=>ho pj s2 σ H2 x y v u Q I2 rx ry q) hm
noncomputable def KU(t:TE):TT:=λσ H Q=>t σ H λx H'=>∃k,x=.bl k/\Q k H'
theorem J5(ho:lM X (dt op) r)(ha:PE X a ta)(hb:PE X b tb)(hm:rg op b=ap):PT X (.Compare a [op] [b] pos) (KU (NA r ta tb)):=by
  intro pj s σ H Q I h;refine wpAny_isTrue_Compare1 (thn (ha pj s σ H _ I h) λv s1 ⟨x,H1,I1,r1,q1⟩=>thn (hb pj s1 σ H1 _ I1 q1) λu s2 ⟨y,H2,I2,r2,q2⟩=>
    thn (ho pj s2 σ H2 x y v u _ I2 r1 r2 q2) λc s3 ⟨z,H3,I3,r3,k,e,q3⟩=>?_) hm
  subst e;cases r3;exact gg ⟨H3,I3,q3⟩
noncomputable def CM(r r':R2)(ta tb tc:TE):TE:=λσ H Q=>ta σ H λx H1=>tb σ H1 λy H2=>r x y H2 λz H3=>∃k,z=.bl k /\
  (if k=ai then tc σ H3 λw' H4=>r' y w' H4 Q else Q (.bl ap) H3)
theorem GZ(ho:lM X (dt op) r)(ho':lM X (dt op') r')(ha:PE X a ta)(hb:PE X b tb)(hc:PE X c tc)
    (hm:autoParam (VQ [op,op'] [b,c]=ap) Pa._auto_1):PE X (.Compare a [op,op'] [b,c] pos) (CM r r' ta tb tc):=by
  intro pj s σ H Q I h;refine Compare_chain (thn (ha pj s σ H _ I h) λv s1 ⟨x,H1,I1,r1,q1⟩=>chain_link (thn (hb pj s1 σ H1 _ I1 q1) λu s2 ⟨y,H2,I2,r2,q2⟩=>
    thn (ho pj s2 σ H2 x y v u _ I2 r1 r2 q2) λd s3 ⟨z,H3,I3,r3,k,e,q3⟩=>?_)) hm
  subst e;cases r3;refine gg ?_;cases k with
  |false=>exact ite_ff ⟨.bl ap,H3,I3,rfl,q3⟩
  |true=>exact ite_tt (chain_last (thn (hc pj s3 σ H3 _ I3 q3) λw' s4 ⟨z',H4,I4,r4,q4⟩=>ho' pj s4 σ H4 y z' u w' Q I4 r2 r4 q4))
theorem GL(ho:lM X (dt op) r)(ho':lM X (dt op') r')(ha:PE X a ta)(hb:PE X b tb)(hc:PE X c tc)
    (hm:autoParam (VQ [op,op'] [b,c]=ap) Pa._auto_1):PT X (.Compare a [op,op'] [b,c] pos) (KU (CM r r' ta tb tc)):=by
  intro pj s σ H Q I h;refine isTrue_chain (thn (ha pj s σ H _ I h) λv s1 ⟨x,H1,I1,r1,q1⟩=>test_link (thn (hb pj s1 σ H1 _ I1 q1) λu s2 ⟨y,H2,I2,r2,q2⟩=>
    thn (ho pj s2 σ H2 x y v u _ I2 r1 r2 q2) λd s3 ⟨z,H3,I3,r3,k,e,q3⟩=>?_)) hm
  subst e;cases r3;refine gg ?_;cases k with
  |false=>
    obtain⟨k',e',q'⟩:=q3;cases e';exact ite_ff ⟨H3,I3,q'⟩
  |true=>
    refine ite_tt (test_last (thn (hc pj s3 σ H3 _ I3 q3) λw' s4 ⟨z',H4,I4,r4,q4⟩=>thn (ho' pj s4 σ H4 y z' u w' _ I4 r2 r4 q4) λd' s5 zz=>?_));obtain⟨z2,H5,I5,r5,k2,e2,q5⟩:=zz;subst e2;cases r5;exact gg ⟨H5,I5,q5⟩
noncomputable def PQ(K:ak)(x:V)(H:Hp)(k:Bool):Prop:=
  match x with
  | .non=>k=ap
  | .bl b=>k=b
  | .int i=>k=(i != 0)
  | .str y=>y.length<=bo/\k=((y.length:Int) != 0)
  | .byt y=>y.size<=bo/\k=((y.size:Int) != 0)
  | .ref p=>(∃xs,fU K H p xs/\k = !xs.isEmpty) \/ (∃xs,l6 K H p xs/\k = !xs.isEmpty) \/ ∃kvs,H p=aa (.dK kvs)/\k = !kvs.isEmpty
  |_=>False
theorem Cz{kvs:List (κ×V)}{vs:List (κ×ae)}(r:KV kvs vs):(!vs.isEmpty) = !kvs.isEmpty:=by
  cases r<;>rfl
theorem w4{xs:List V}{its:List ae}(r:bA xs its):(!its.toArray.isEmpty) = !xs.isEmpty:=by
  cases r<;>simp
theorem sX:(bo:Nat)<2 ^ 63:=by rw[io];decide
theorem L4:T9 X (λx H Q=>∃k,PQ X.K x H k/\Q k H):=by
  intro pj s σ H x v Q I rx h;obtain⟨k,e,q⟩:=h;have hl:=sX;have hs:bo=16777216:=io;cases x with
  |non=>
    cases rx;have e':k=ap:=e;subst e';exact truthy_none ⟨H,I,q⟩
  |bl b=>
    cases rx;have e':k=b:=e;subst e';exact gg ⟨H,I,q⟩
  |int i=>
    obtain⟨t,rfl⟩:=rx;have e':k=(i != 0):=e;subst e';exact PySem.P.truthy_int ⟨H,I,q⟩
  |str y=>
    obtain⟨t,rfl⟩:=rx;obtain⟨hy,e'⟩:y.length<=bo/\k=((y.length:Int) != 0):=e;subst e';exact PySem.P.truthy_str (by ac_rfl) ⟨H,I.tok _,q⟩
  |byt y=>
    obtain⟨t,rfl⟩:=rx;obtain⟨hy,e'⟩:y.size<=bo/\k=((y.size:Int) != 0):=e;subst e';exact W.truthy_bytes (by ac_rfl) ⟨H,I.tok _,q⟩
  |ref p=>
    cases rx;have e':(∃xs,fU X.K H p xs/\k = !xs.isEmpty) \/ (∃xs,l6 X.K H p xs/\k = !xs.isEmpty) \/ ∃kvs,H p=aa (.dK kvs)/\k = !kvs.isEmpty:=e;rcases e' with⟨xs,hx,e'⟩ | ⟨xs,hx,e'⟩ | ⟨kvs,hx,e'⟩
    . subst e';obtain⟨its,r,pl,hz⟩:=I.list hx;have hlen:=r.length;exact wpAny_truthy_list pl.isList (by simp only[di];ac_rfl) ⟨H,I.tok _,by rw[w4 r];exact q⟩
    . subst e';obtain⟨its,r,pl,hz⟩:=I.tuple hx;have hlen:=r.length;exact truthy_tuple pl (by simp only[di];ac_rfl) ⟨H,I.tok _,by rw[w4 r];exact q⟩
    . subst e';obtain⟨hz,hS,vs,r,m⟩:kvs.length<=bo/\(p==ie)=ap /\ ∃vs,KV kvs vs/\s.heap.DictOf (eW X.prog X.w) p vs:=I.hok p _ hx;have hlen:kvs.length=vs.length:=Paired.length r;exact wpAny_truthy_dict hS m (by ac_rfl) ⟨H,I.tok _,by rw[Cz r];exact q⟩
  |_=>exact(show False from e).elim
theorem GJ(ha:PE X a ta)(he:∀Yi,isTrue a X.env Yi=(do let v <- Yi;ye a.pos;yf [v] (Xe v))):
    PT X a (λσ H Q=>ta σ H λx H'=>∃k,PQ X.K x H' k/\Q k H'):=by
  intro pj s σ H Q I h;exact isTrue_plain (thn (ha pj s σ H _ I h) λv s1 zq6=>by obtain⟨x,H1,I1,r1,q1⟩:=zq6;exact L4 pj s1 σ H1 x v Q I1 r1 q1) (he _)
theorem Cm:lM X (jo .Add) (λx y H Q=>∃i j,x=.str i/\y=.str j/\i.length+j.length<=bo/\Q (.str (i++j)) H):=by
  intro pj s σ H x y v u Q I rx ry h;obtain⟨i,j,rfl,rfl,hz,q⟩:=h;obtain⟨t,rfl⟩:=rx;obtain⟨t',rfl⟩:=ry;exact add_str (λt' tk=>⟨.str (i++j),H,I.tok _,⟨_,rfl⟩,q⟩) hz
theorem jQ{x:V}(r:bA [x] us):∃u,us=[u]/\cJ x u:=by
  cases r with
  |cons r1 r2=>cases r2;exact⟨_,rfl,r1⟩
theorem Fd{x:V}(r:bA [x,y] us):∃u w',us=[u,w']/\cJ x u/\cJ y w':=by
  cases r with
  |cons r1 r2=>
    cases r2 with
    |cons r3 r4=>cases r4;exact⟨_,_,rfl,r1,r3⟩
theorem IF:fK X (.builtin "abs") (λxs H Q=>∃i,xs=[.int i]/\Q (.int (if i<0 then -i else i)) H):=by
  intro pj s σ H xs us Q I r h;obtain⟨i,rfl,q⟩:=h;obtain⟨u,rfl,t,rfl⟩:=jQ r;exact call_abs_int λu tk=>⟨.int (if i<0 then -i else i),H,I.tok _,⟨_,rfl⟩,q⟩
theorem FT(hc:X.calm=ai):fK X (.builtin "min") (λxs H Q=>∃i j,xs=[.int i,.int j]/\Q (.int (if j<i then j else i)) H):=by
  intro pj s σ H xs us Q I r h;obtain⟨i,j,rfl,q⟩:=h;obtain⟨u,w',rfl,⟨t,rfl⟩,⟨t',rfl⟩⟩:=Fd r;refine min_two_ints (I.ok.hd hc) λh' tk k=>⟨_,H,I.kept k,?_,q⟩;by_cases hj:j<i
  . rw[Y4 hj,Y4 hj];exact⟨_,rfl⟩
  . rw[XF hj,XF hj];exact⟨_,rfl⟩
end
structure ObjM(h:dm)(x dx C:af)(mA:bt->Option ae):Prop where
  obj:h.get? x=aa (uv C dx)
  ns:h.Ns1 dx mA
  ne:dx≠x
variable {dx:af}{mA:bt->Option ae}
theorem Ew(n:h.Ns1 dx mA):∃od,h.get? dx=aa od /\ ∀name,WF name od=aa (mA name):=by
  obtain⟨o,es,ep,ho,hd,hk,_,hm⟩:=n;refine⟨o,ho,λname=>?_⟩;have e:=hm name;unfold nsFind findBy at e;rw[<- Array.find?_toList] at e;unfold WF;rw[hd];dsimp only;split
  . rename_i y q;rw[q] at e;exact congrArg aa e
  . rename_i q;rw[q] at e;have a:es.toList.any (·.refKey)=ap:=by
      rw[wz];intro y hy;obtain⟨z,t,hkey⟩:=hk y (Array.mem_toList_iff.mp hy);simp[DictEntry.refKey,hkey]
    have a':¬es.toList.any (·.refKey)=ai:=by rw[a];exact mf
    rw[XF a'];exact congrArg aa e
theorem ObjM.look{x:af}(I:ObjM h x dx C mA):∃od,W.InstAt h x (uv C dx) C (aa od) /\ ∀name,WF name od=aa (mA name):=
  let ⟨od,ho,hl⟩:=Ew I.ns
  ⟨od,⟨I.obj,rfl,rfl,ho⟩,hl⟩
variable {pl:VL Bool}{f:af}{kw:List (bt×ae)}{name:bt}
section
variable {x:af}{v:ae}
theorem K0{expr:Bool}(X:K.In s.heap)(I:ObjM s.heap x dx C mA)(hg:Vh K C name=ai)(hh:Wb K C=ai)
    (ha:oo K (.ref C) name=aa aq) (hv:mA name=aa v) (hv':W.handedIn v=ai) (h:Q v { s with toks:=s.toks+1 }):
    bz (cg prog w) A (getAttr (.ref x) name expr) Q E s:=by
  obtain⟨od,J,hl⟩:=I.look;exact W.get_value X J (V4 hg).1 (W.findObj_own hh ha rfl (by rw[hl,hv])) hv' h
theorem Hm{Q:ae×List ae->aj->Prop}(X:K.In s.heap)(I:ObjM s.heap x dx C mA)(hg:Vh K C name=ai)
    (hf:oo K (.ref C) name=aa (aa (.ref f))) (ht:XU K (.ref f)=ai) (hv:mA name=aq) (h:Q (.ref f,[.ref x]) s):
    bz (cg prog w) A (xm (.ref x) name pl) Q E s:=by
  obtain⟨od,J,hl⟩:=I.look;exact W.method_fn X J (V4 hg).1 (V4 hg).2 hf (beq_iff_eq.mp ht) (by show (WF name od).map (·.isSome)=aa ap;rw[hl,hv];rfl) h
theorem Im{ns:List bt}{Q:Unit->aj->Prop}(X:K.In s.heap)(I:ObjM s.heap x dx C mA)
    (hs:oo K (.ref C) "__setattr__" = aa (aa (.builtin "object.__setattr__"))) (hp:W.plainOver K C=ai) (ht:X8 K C name=aa aq) (hh:Wb K C=ai)
    (hw:Vn mA ns) (hsz:ns.length<=bo)
    (h:∀h',ObjM h' x dx C (λy=>if y=name then aa v else mA y)->vw dx s.heap h'->Q () { s with heap:=h',toks:=s.toks+2 }):
    bz (cg prog w) A (setAttr (.ref x) name v) Q E s:=by
  obtain⟨od,J,hl⟩:=I.look;refine W.set_plain X J hs (W.osa_open (s:={ s with toks:=s.toks+1 }) (r:=aq) X J hp ht λb=>?_);obtain⟨cd,hc,hd'⟩:=W.any_some hh;have hx:s.heap.get? x=aa ⟨.ref C,aa dx,.plain,#[]⟩:=I.obj;refine ah (az (ah (ah (wpAny_loadPart hx (ah (W.Looks.here (s:={ s with toks:=s.toks+1 }) (W.looks_clsIn X hc) ?_))))));rw[hd'];refine az (a:=aa dx) (ah (az (ah ?_)));refine wpAny_nsSet1 (s:={ s with toks:=s.toks+1 }) I.ns λh' hn2 hs2=>?_;obtain⟨oD,esD,epD,hoD,hdD,hcD⟩:=hn2.count (PySem.Within.cons name v hw);refine ah (wpAny_lookBehind hoD (by rw[hdD];exact pastItsLine_dict (om hcD (by rw[bp];ac_rfl))) ?_);exact az (h _ ⟨(hs2.2 _ (Ne.symm I.ne)).trans I.obj,hn2,I.ne⟩ hs2)
theorem HE{R:Result->aj->Prop}{vs:List ae}(X:K.In s.heap)(hm:VR K C=ai)
    (hi:oo K (.ref C) "__init__" = aa (aa (.ref f))) (hf:W.typeIn K (.ref f)=aa (.type "function"))
    (h:yh (cg prog w) (A.under (.builtin "type.__call__" ⟨.ref C::vs,kw⟩)) (.call (.ref f) ⟨.ref (s.heap.objs.size+1)::vs,kw⟩) (W.InitBack (s.heap.objs.size+1) R)
      { s with heap:=(s.heap.push oz).push (uv C s.heap.objs.size) }):
    yh (cg prog w) A (.call (.ref C) ⟨vs,kw⟩) R s:=by
  obtain⟨hh,g,d,t,os⟩:=s;exact W.make_core (W.makes_of X hm) (W.looks_findIn X hi) (λself=>W.bind_fn X self hf) (.inl rfl) h
end
noncomputable def mE(f:bt)(v:V):List (bt×V)->List (bt×V)
  | []=>[(f,v)]
  | (g,x)::r=>if g=f then (g,v)::r else (g,x)::mE f v r
theorem tL(f g:bt)(v:V):∀fs:List (bt×V),(mE f v fs).lookup g=if g=f then aa v else fs.lookup g
  | []=>by
    show List.lookup g [(f,v)]=_;by_cases h:g=f
    . have hb:(g==f)=ai:=beq_iff_eq.mpr h;simp only[List.lookup,hb,Y4 h]
    . have hb:(g==f)=ap:=beq_eq_false_iff_ne.mpr h;simp only[List.lookup,hb,XF h]
  | (k,x)::r=>by
    have ih:=tL f g v r;rw[show mE f v ((k,x)::r)=(if k=f then (k,v)::r else (k,x)::mE f v r) from rfl];by_cases hk:k=f
    . rw[Y4 hk];by_cases h:g=k
      . have hb:(g==k)=ai:=beq_iff_eq.mpr h;simp only[List.lookup,hb,Y4 (h.trans hk)]
      . have hb:(g==k)=ap:=beq_eq_false_iff_ne.mpr h;simp only[List.lookup,hb,XF (λe:g=f=>h (e.trans hk.symm))]
    . rw[XF hk];by_cases h:g=k
      . have hb:(g==k)=ai:=beq_iff_eq.mpr h;simp only[List.lookup,hb,XF (λe:g=f=>hk (h.symm.trans e))]
      . have hb:(g==k)=ap:=beq_eq_false_iff_ne.mpr h;simp only[List.lookup,hb];exact ih
theorem sZ(f:bt)(v:V):∀fs:List (bt×V),f∈(mE f v fs).map (·.1) /\ ∀g,g∈fs.map (·.1)->g∈(mE f v fs).map (·.1)
  | []=>⟨by simp[mE],λg h=>by simp at h⟩
  | (k,x)::r=>by
    obtain⟨i1,i2⟩:=sZ f v r;rw[show mE f v ((k,x)::r)=(if k=f then (k,v)::r else (k,x)::mE f v r) from rfl];by_cases hk:k=f
    . rw[Y4 hk];subst hk;exact⟨by simp,λg h=>by simpa using h⟩
    . rw[XF hk];refine⟨?_,λg h=>?_⟩
      . rw[cp];exact bm _ i1
      . rw[cp] at h ⊢;rcases bq.mp h with e | e
        . exact bq.mpr (.inl e)
        . exact bm _ (i2 g e)
theorem tN(f:bt)(v:V):∀fs:List (bt×V),(mE f v fs).length<=fs.length+1
  | []=>by simp[mE]
  | (k,x)::r=>by
    have ih:=tN f v r;rw[show mE f v ((k,x)::r)=(if k=f then (k,v)::r else (k,x)::mE f v r) from rfl];by_cases hk:k=f
    . rw[Y4 hk,bp,bp];ac_rfl
    . rw[XF hk,bp,bp];ac_rfl
theorem pE.some_of{o:Option ae}(r:pE (aa v) o):∃u,o=aa u/\cJ v u:=by
  cases o with
  |none=>exact(show False from r).elim
  |some u=>exact⟨u,rfl,r⟩
theorem pE.none_of{o:Option ae}(r:pE aq o):o=aq:=by
  cases o with
  |none=>rfl
  |some u=>exact(show False from r).elim
theorem FE(r:cJ v u):W.handedIn u=ai:=by
  cases v with
  |non=>cases (show u=jr from r);rfl
  |bl b=>cases (show u=Vb b from r);rfl
  |int i=>obtain⟨t,e⟩:=(show ∃t,u=Value.int i t from r);cases e;rfl
  |str x=>obtain⟨t,e⟩:=(show ∃t,u=Value.str x t from r);cases e;rfl
  |byt b=>obtain⟨t,e⟩:=(show ∃t,u=Xy b t from r);cases e;rfl
  |flt b=>obtain⟨t,e⟩:=(show ∃t,u=W8 b t from r);cases e;rfl
  |ref a=>cases (show u=Value.ref a from r);rfl
  |ty n=>cases (show u=Vc n from r);rfl
section
variable {fs fs':List (bt×V)}
theorem uL(hok:qV P w H h)(e:H a=aa (.ins C dx fs)):∃mA,ObjM h a dx C mA/\(∀f,pE (fs.lookup f) (mA f))/\Vn mA (fs.map (·.1))/\fs.length<=1000/\H dx=aa (.own a):=by
  obtain⟨d,z,ne,ob,mA,n,r,q⟩:=(show d5 P w H h a (.ins C dx fs) from hok a _ e);exact⟨mA,⟨ob,n,ne⟩,r,q,z,d⟩
end
structure Cls(K:ak)(C:af):Prop where
  pg:Vh K C Str.empty=ai
  hd:Wb K C=ai
  po:W.plainOver K C=ai
  sa:oo K (.ref C) "__setattr__" = aa (aa (.builtin "object.__setattr__"))
theorem Cls.get(c:Cls K C)(f:bt):Vh K C f=ai:=c.pg
noncomputable def jC(K:ak)(C:af)(f:bt):Prop:=oo K (.ref C) f=aa aq
theorem jC.taker{f:bt}(n:jC K C f):X8 K C f=aa aq:=by
  unfold X8;rw[show oo K (.ref C) f=aa aq from n];rfl
structure Meth(K:ak)(C:af)(m:bt)(f:af):Prop where
  at_:oo K (.ref C) m=aa (aa (.ref f))
  fn:XU K (.ref f)=ai
  kp:rh K (.ref f)=ai
variable {m:bt}
section
variable {fs:List (bt×V)}{f:bt}
theorem D1{b:Bool}(I:Inv X pj σ H s)(e:H a=aa (.ins C dx fs))(c:Cls X.K C)(n:jC X.K C f)(l:fs.lookup f=aa v)
    (h:∀u s',Inv X pj σ H s'->cJ v u->Q u s'):bz (cg X.prog X.w) A (getAttr (.ref a) f b) Q E s:=by
  obtain⟨mA,O,r,_,_,_⟩:=uL I.hok e;obtain⟨u,hu,ru⟩:=pE.some_of (v:=v) (o:=mA f) (by rw[<- l];exact r f);exact K0 I.kIn O (c.get f) c.hd n hu (FE ru) (h u _ (I.tok _) ru)
theorem wA{g:af}{Q:ae×List ae->aj->Prop}(I:Inv X pj σ H s)(e:H a=aa (.ins C dx fs))(c:Cls X.K C)(k:Meth X.K C m g)(l:fs.lookup m=aq)
    (h:Q (.ref g,[.ref a]) s):bz (cg X.prog X.w) A (xm (.ref a) m pl) Q E s:=by
  obtain⟨mA,O,r,_,_,_⟩:=uL I.hok e;have hn:mA m=aq:=pE.none_of (by rw[<- l];exact r m);exact Hm I.kIn O (c.get m) k.at_ k.fn hn h
theorem CQ{Q:Unit->aj->Prop}(I:Inv X pj σ H s)(e:H a=aa (.ins C dx fs))(c:Cls X.K C)(n:jC X.K C f)(hl:fs.length<1000)(ry:cJ y u)
    (h:∀s',Inv X pj σ (upd H a (.ins C dx (mE f y fs))) s'->Q () s'):bz (cg X.prog X.w) A (setAttr (.ref a) f u) Q E s:=by
  obtain⟨mA,O,r,wi,_,ho⟩:=uL I.hok e;have hz:(fs.map (·.1)).length<=bo:=by rw[bi,io];ac_rfl
  refine Im I.kIn O c.sa c.po n.taker c.hd wi hz λh' O' sb=>h _ ?_;have hd:∃o,h'.get? dx=aa o:=let ⟨o,_,_,e',_⟩:=O'.ns;⟨o,e'⟩;refine I.write (x:=a) (e:=dx) (by rw[e];exact ny) (.inr ho) (λb q hb z=>(sb.2 b hb).trans z) hd ?_;refine⟨by rw[bF O.ne];exact ho,?_,O.ne,O'.obj,_,O'.ns,λg=>?_,λg hg=>?_⟩
  . have:=tN f y fs;ac_rfl
  . show pE ((mE f y fs).lookup g) (if g=f then aa u else mA g);rw[tL];by_cases q:g=f
    . rw[Y4 q,Y4 q];exact ry
    . rw[XF q,XF q];exact r g
  . by_cases q:g=f
    . rw[q];exact(sZ f y fs).1
    . refine(sZ f y fs).2 g (wi g λz=>hg ?_);show (if g=f then aa u else mA g)=aq;rw[XF q];exact z
theorem Inv.made(I:Inv X pj σ H s):Inv X pj σ (upd (upd H s.heap.objs.size (.own (s.heap.objs.size+1))) (s.heap.objs.size+1) (.ins C s.heap.objs.size []))
    { s with heap:=(s.heap.push oz).push (uv C s.heap.objs.size) }:=by
  have e1:(s.heap.push oz).get? s.heap.objs.size=aa oz:=cr s.heap rfl;have e2:((s.heap.push oz).push (uv C s.heap.objs.size)).get? (s.heap.objs.size+1)=aa (uv C s.heap.objs.size):=by
    have:=cr (s.heap.push oz) (o:=uv C s.heap.objs.size) rfl;rwa[tw] at this
  have e3:(s.heap.push oz).Ns s.heap.objs.size (λ_=>aq):=⟨oz,#[],_,e1,rfl,(λe he=>absurd he (by simp)),λ_=>rfl⟩;have I1:=I.laid (a:=s.heap.objs.size) (o:=.own (s.heap.objs.size+1)) (h':=s.heap.push oz) (t':=s.toks) (λb u q=>ao _ q) (bj _) ⟨_,e1⟩;refine I1.laid (a:=s.heap.objs.size+1) (o:=.ins C s.heap.objs.size []) (t':=s.toks) (λb u q=>ao _ q) (XC (tw _ _)) ?_;have ne:s.heap.objs.size≠s.heap.objs.size+1:=fq (VS _);refine⟨by rw[bF ne,c7],lc _,ne,e2,λ_=>aq,(Heap.Ns1.of_empty e3).at λo q=>ao _ q,λ_=>ny,λy hy=>absurd rfl hy⟩
theorem KL{f:bt}{pos:ma}(hb:nz e f env (fi e env)=fi e env)
    (h:bz (cg prog w) A (fi e env) (λo s₁=>bz (cg prog w) A (getAttr o f ai) Q E s₁) E s):bz (cg prog w) A (fi (.Attribute e f pos) env) Q E s:=
  Attribute_any_ h (by rw[arm_eval_Attribute,hb])
end
noncomputable def R5(K:ak)(ta:TE)(f:bt):TE:=λσ H Q=>ta σ H λx H1=>∃a C dx fs v,x=.ref a/\H1 a=aa (.ins C dx fs)/\Cls K C/\jC K C f/\fs.lookup f=aa v/\Q v H1
noncomputable def RG(K:ak)(ta tv:TE)(f:bt):TS:=λD σ H=>tv σ H λy H1=>ta σ H1 λx H2=>∃a C dx fs,x=.ref a/\H2 a=aa (.ins C dx fs)/\Cls K C/\jC K C f/\fs.length<1000 /\
  D.nx σ (upd H2 a (.ins C dx (mE f y fs)))
section
variable {o Ye:Expr}{f:bt}{pos tpos:ma}{tv:TE}
theorem Lc(he:PE X e ta)(hb:nz e f X.env (fi e X.env)=fi e X.env):PE X (.Attribute e f pos) (R5 X.K ta f):=by
  intro pj s σ H Q I h;refine KL hb (thn (he pj s σ H _ I h) λu s1 zz=>?_);obtain⟨x,H1,I1,rx,a,C,dx,fs,v,ex,ea,c,n,l,q⟩:=zz;subst ex;obtain rfl:u=Value.ref a:=rx;exact D1 I1 ea c n l λu' s2 I2 ru=>⟨v,H1,I2,ru,q⟩
theorem LP(ha:PE X o ta)(hv:PE X Ye tv)(hs:kh Ye (aa (.Attribute o f Yt)) pos.line X.env=jm ap):PS X (.Assign [.Attribute o f Yt] Ye pos) (RG X.K ta tv f):=by
  intro pj s σ H D I h;refine plainObj_wpAny_Assign_Attribute (thn (hv pj s σ H _ I h) λu s1 ⟨y,H1,I1,ry,q⟩=>thn (ha pj s1 σ H1 _ I1 q) λov s2 ⟨x,H2,I2,rx,a,C,dx,fs,ex,ea,c,n,l,q2⟩=>?_) hs;subst ex;obtain rfl:ov=Value.ref a:=rx;exact CQ I2 ea c n l ry λs3 I3=>⟨σ,_,I3,q2⟩
end
section
variable {c:ae}{b:Bool}
inductive TyOf(K:ak)(H:Hp):V->ae->Prop where
  |non:TyOf K H .non (.type "NoneType")
  |bl (x:Bool):TyOf K H (.bl x) (.type "bool")
  |int (i:Int):TyOf K H (.int i) (.type "int")
  |str (x:bt):TyOf K H (.str x) (.type "str")
  |flt (x:UInt64):TyOf K H (.flt x) (.type "float")
  |lst {a:af} {xs:List V} (e:H a=aa (.lst xs)):TyOf K H (.ref a) (.type "list")
  |frz {a:af} {o:lv} {xs:List V} (e:H a=aa (.frz o (.lst xs))):TyOf K H (.ref a) (.type "list")
  |tup {a:af} {xs:List V} (e:H a=aa (.tup xs)):TyOf K H (.ref a) (.type "tuple")
  |dK {a:af} {kvs:List (cE×V)} (e:H a=aa (.dK kvs)):TyOf K H (.ref a) (.type "dict")
  |dT {a:af} {ep:Nat} {kvs:List (List cE×V)} (e:H a=aa (.dT ep kvs)):TyOf K H (.ref a) (.type "dict")
  |ins {a C dx:af} {fs:List (bt×V)} (e:H a=aa (.ins C dx fs)) (cl:Cls K C) (ha:oo K (.ref C) "__class__" = aa (aa (.builtin "object.__class__")))
      (hn:W.specialIn K (.builtin "object.__class__") "__get__" = aa (aa (.builtin "getset_descriptor.__get__"))) (htk:W.takesIn K (.builtin "object.__class__")=aa ai)
      (hm:W.mroIn K C (.type "object")=aa ai):TyOf K H (.ref a) (.ref C)
theorem F9{x:V}{t:ae}(I:Inv X pj σ H s)(rx:cJ x u)(ty:TyOf X.K H x t)(e:XD X.K t c=aa b)(h:∀tk,Q (.bool b) { s with toks:=tk }):
    bz (cg X.prog X.w) A (call (.builtin "isinstance") [u,c]) Q E s:=by
  cases ty with
  |non=>cases (show u=jr from rx);exact qb W.kitx_none I.kIn ny e (λz=>nomatch z) h
  |bl y=>cases (show u=Vb y from rx);exact qb W.kitx_bool I.kIn ny e (λz=>nomatch z) h
  |int i=>obtain⟨t,q⟩:=(show ∃t,u=Value.int i t from rx);cases q;exact qb W.kitx_int I.kIn ny e (λz=>nomatch z) h
  |str y=>obtain⟨t,q⟩:=(show ∃t,u=Value.str y t from rx);cases q;exact qb W.kitx_str I.kIn ny e (λz=>nomatch z) h
  |flt y=>obtain⟨t,q⟩:=(show ∃t,u=W8 y t from rx);cases q;exact qb W.kitx_float I.kIn ny e (λz=>nomatch z) h
  | @lst a xs ea=>
    cases (show u=Value.ref a from rx);obtain⟨_,_,n,_,h1⟩:=(show d5 X.prog X.w H s.heap a (.lst xs) from I.hok a _ ea);exact qb W.kitx_list I.kIn ⟨_,h1,rfl⟩ e (λz=>nomatch z) h
  | @frz a ob xs ea=>
    cases (show u=Value.ref a from rx);obtain⟨_,_,_,n,_,h1⟩:=(show d5 X.prog X.w H s.heap a (.frz ob (.lst xs)) from I.hok a _ ea);exact qb W.kitx_list I.kIn ⟨_,h1,rfl⟩ e (λz=>nomatch z) h
  | @tup a xs ea=>
    cases (show u=Value.ref a from rx);obtain⟨_,_,_,p⟩:=(show d5 X.prog X.w H s.heap a (.tup xs) from I.hok a _ ea);obtain⟨o,h1,h2,_⟩:=p;exact qb W.kitx_tuple I.kIn ⟨o,h1,h2⟩ e (λz=>nomatch z) h
  | @dK a kvs ea=>
    cases (show u=Value.ref a from rx);obtain⟨_,_,vs,_,p⟩:=(show d5 X.prog X.w H s.heap a (.dK kvs) from I.hok a _ ea);obtain⟨o,es,ep,h1,h2,_⟩:=p;exact qb W.kitx_dict I.kIn ⟨o,h1,h2.1⟩ e (λz=>nomatch z) h
  | @dT a ep kvs ea=>
    cases (show u=Value.ref a from rx);obtain⟨_,_,xs,_,o,es,h1,h2,_⟩:=(show d5 X.prog X.w H s.heap a (.dT ep kvs) from I.hok a _ ea);exact qb W.kitx_dict I.kIn ⟨o,h1,h2.1⟩ e (λz=>nomatch z) h
  | @ins a C dx fs ea cl ha hn htk hm=>
    cases (show u=Value.ref a from rx);obtain⟨mA,O,_⟩:=uL I.hok ea;obtain⟨od,J,_⟩:=O.look;exact qb (W.kitx_own (cl.get _) cl.hd ha hn htk hm) I.kIn J e (λz=>nomatch z) h
end
structure Room(k:Nat)(A:de):Prop where
  hd:A.handled=aq
  dp:A.depth+3*k+5<WG
  un:A.units+16*k+200<mw
theorem Room.mono{k:Nat}(r:Room k A)(h:j<=k):Room j A:=⟨r.hd,by have:=r.dp;ac_rfl,by have:=r.un;ac_rfl⟩
theorem Room.deeper{k:Nat}{A:de}(r:Room (k+1) A)(env:zl):Room k (A.deeper env):=
  ⟨r.hd,by have:=r.dp;show A.depth+1+3*k+5<_;ac_rfl,by have:=r.un;show A.units+3+16*k+200<_;ac_rfl⟩
theorem Cs:(A.under (.builtin "type.__call__" ⟨.ref C::us,kw⟩)).depth=A.depth+1:=by
  first | rfl | simp[Around.under,Code.weight,Code.isCreation,Code.isGuard,Code.isCaller,Code.frames,Vr,guardIds]
theorem Cr:(A.under (.builtin "type.__call__" ⟨.ref C::us,kw⟩)).units=A.units+1:=by
  first | rfl | simp[Around.under,Code.cUnits,Code.frames,Vr]
theorem Room.make{k:Nat}(r:Room (k+1) A)(C:af)(us:List ae)(kw:List (bt×ae)):Room k (A.under (.builtin "type.__call__" ⟨.ref C::us,kw⟩)):=
  ⟨r.hd,by have:=r.dp;rw[Cs];ac_rfl,by have:=r.un;rw[Cr];ac_rfl⟩
theorem Room.depth{k:Nat}{A:de}(r:Room k A):A.depth<WG:=by have:=r.dp;ac_rfl
theorem Room.units{k:Nat}{A:de}(r:Room k A):A.units+64<mw:=by have:=r.un;ac_rfl
noncomputable def NC:TA:=λ_ H Q=>Q [] H
noncomputable def NH(ta:TE)(tr:TA):TA:=λσ H Q=>ta σ H λx H1=>tr σ H1 λxs H2=>Q (x::xs) H2
section
variable {t:TA}{pos:ma}
theorem vJ:PA X [] NC:=λ_ _ _ _ H Q I h=>Calls.spliced_nil ⟨[],H,I,.nil,h⟩
theorem oR(ha:PE X e te)(hr:PA X es t)(hs:autoParam (bg (e::es) X.env=(ap,fi e X.env)::bg es X.env) cH._auto_1):PA X (e::es) (NH te t):=by
  intro pos pj s σ H Q I h;rw[hs];show bz _ _ (spliced ((ap,fi e X.env)::jv pos (bg es X.env))) _ _ s;refine Calls.spliced_cons (thn (ha pj s σ H _ I h) λu s1 zz=>?_);obtain⟨x,H1,I1,r1,q1⟩:=zz;exact thn (hr pos pj s1 σ H1 _ I1 q1) λus s2 zq0=>by obtain⟨xs,H2,I2,r2,q2⟩:=zq0;exact⟨x::xs,H2,I2,.cons r1 r2,q2⟩
noncomputable def Qw(t:TA):TE:=λσ H Q=>t σ H λxs H1=>xs.length<=bo /\ ∀p,H1 p=aq->Q (.ref p) (upd H1 p (.tup xs))
noncomputable def R1(t:TA):TE:=λσ H Q=>t σ H λxs H1=>xs.length<=bo /\ ∀p,H1 p=aq->Q (.ref p) (upd H1 p (.lst xs))
theorem LW{x1}(h:PA X es t):PE X (.Tuple es x1 pos) (Qw t):=by
  intro pj s σ H Q I hq;refine wpAny_Tuple_spliced (thn (h pos pj s σ H _ I hq) λus s1 ⟨xs,H1,I1,r,z,q⟩=>⟨by rw[<- r.length];exact z,?_⟩);have hf:H1 s1.heap.objs.size=aq:=I1.hok.fresh (bj _);refine⟨.ref s1.heap.objs.size,upd H1 s1.heap.objs.size (.tup xs),I1.laid (t':=s1.toks) (λb u e=>ao _ e) (bj _) ?_,rfl,q _ hf⟩;exact⟨z,us,r,⟨_,cr _ rfl,rfl,_,rfl⟩⟩
theorem La(h:PA X es t):PE X (.List es pos) (R1 t):=by
  intro pj s σ H Q I hq;refine wpAny_List_spliced (thn (h pos pj s σ H _ I hq) λus s1 ⟨xs,H1,I1,r,z,q⟩=>⟨by rw[<- r.length];exact z,?_⟩);have hf:H1 s1.heap.objs.size=aq:=I1.hok.fresh (bj _);refine⟨.ref s1.heap.objs.size,upd H1 s1.heap.objs.size (.lst xs),I1.laid (t':=s1.toks) (λb u e=>ao _ e) (bj _) ?_,rfl,q _ hf⟩;exact⟨z,us,0,r,cr _ rfl⟩
end
noncomputable abbrev Sp:=List V->Hp->VK->XK->Prop
noncomputable abbrev IS:=List zl->Hp->aj->XK->ae->aj->Prop
structure Env0(P:aw)(w:bv)(K:ak)(mg:bt->Option ae)(base:dm)(A:de)(outer:List zl)(s:aj)(H:Hp):Prop where
  frames:A.frames=aa outer
  mod:Mod K mg base
  bs:∀b o,base.get? b=aa o->s.heap.get? b=aa o/\H b=aq
  bsz:base.objs.size<=s.heap.objs.size
  funs:s.heap.FunFrames base outer
  frf:∀b∈frs outer,H b=aq
  hok:qV P w H s.heap
  bare:wy s.gens
noncomputable def CE(outer:List zl)(P:aw)(w:bv)(H:Hp)(s:aj)(Q:VK)(u:ae)(s':aj):Prop:=
  ∃v H',s'.os=s.os/\wy s'.gens/\Un (frs outer) [] H H' s.heap s'.heap/\qV P w H' s'.heap/\cJ v u/\Q v H'
noncomputable def CR(CX:IS)(outer:List zl)(P:aw)(w:bv)(H:Hp)(s:aj)(Q:VK)(E:XK)(r:Result)(s':aj):Prop:=
  match r with
  | .ok (.ret u)=>CE outer P w H s Q u s'
  | .ok _=>False
  | .error e=>CX outer H s E e s'
structure FnOk(P:aw)(w:bv)(K:ak)(mg:bt->Option ae)(base:dm)(CX:IS)(k:Nat)(f:af)(fd:jw)(ps:List bt)(sp:Sp):Prop where
  len:∀vs H Q E,sp vs H Q E->vs.length=ps.length
  run:∀(A:de) (outer:List zl) (s:aj) (H:Hp) (args:Args) (us:List ae) (vs:List V) (Q:VK) (E:XK),Room k A->Env0 P w K mg base A outer s H->Vs s fd args (ps.zip us)->bA vs us->sp vs H Q E ->
    yh (cg P w) A (.call (.ref f) args) (CR CX outer P w H s Q E) s
theorem Env0.make(e:Env0 P w K mg base A outer s H)(C:af)(us:List ae)(kw:List (bt×ae)):
    Env0 P w K mg base (A.under (.builtin "type.__call__" ⟨.ref C::us,kw⟩)) outer s H:=⟨by first | exact e.frames | (simpa [Around.under,Code.envs,Vr,pushEnvs] using e.frames),e.mod,e.bs,e.bsz,e.funs,e.frf,e.hok,e.bare⟩
theorem Inv.env0(I:Inv X pj σ H s):Env0 X.prog X.w X.K X.mg X.base X.A X.stack s H:=
  ⟨I.ok.frames,I.ok.mod,I.bs,om I.ok.bsz I.sz,I.stack,I.stkFree,I.hok,I.bare⟩
theorem Inv.after{Q:VK}(I:Inv X pj σ H s)(h:CE X.stack X.prog X.w H s Q u s'):EP X pj σ Q u s':=by
  obtain⟨v,H',os,bare,un,hok,r,q⟩:=h;obtain⟨hh,g,d,t,os'⟩:=s';obtain rfl:os'=s.os:=os;exact⟨v,H',I.call (h':=hh) (g':=g) (d':=d) (t':=t) (ch:=[]) un hok bare (λb z=>absurd z (by simp)),r,q⟩
noncomputable def NI(sp:Sp)(dvs:List V)(E:XK)(t:TA):TE:=λσ H Q=>t σ H λvs H1=>sp (vs++dvs) H1 Q E
noncomputable def KW(C:af)(m:bt)(sp:Sp)(dvs:List V)(E:XK)(ta:TE)(t:TA):TE:=λσ H Q=>ta σ H λx H1=>∃a dx fs,x=.ref a/\H1 a=aa (.ins C dx fs)/\fs.lookup m=aq /\
  t σ H1 λvs H2=>sp (x::(vs++dvs)) H2 Q E
noncomputable def NE(C:af)(sp:Sp)(dvs:List V)(E:XK)(t:TA):TE:=λσ H Q=>t σ H λvs H1=>∀x dx,H1 x=aq->H1 dx=aq->dx≠x ->
  sp (.ref x::(vs++dvs)) (upd (upd H1 dx (.own x)) x (.ins C dx [])) (λv H2=>v=.non/\Q (.ref x) H2) E
noncomputable def k9(K:ak)(fd:jw)(ps:List bt)(ds:List ae):Prop:=
  ∀(s:aj) (us:List ae),K.In s.heap->(us++ds).length=ps.length->Vs s fd ⟨us,[]⟩ (ps.zip (us++ds))
variable {fd:jw}
theorem k9.all(h:∀us:List ae,us.length=ps.length->XE fd ⟨us,[]⟩=jm (ps.zip us)):k9 K fd ps []:=λs us _ hl=>by
  rw[ii] at hl ⊢;exact .of_eq (h us hl)
noncomputable def qU(CX:IS)(X:Cx)(E:XK):Prop:=∀(pj:List (af×lv)) (σ:St) (H:Hp) (s:aj) (e:ae) (s':aj),Inv X pj σ H s->CX X.stack H s E e s'->X.xe e s'
variable {vs:List V}{CX:IS}{sp:Sp}{Yk:ma}
section
variable {k:Nat}{dvs:List V}{ds:List ae}{E:XK}{pos:ma}{o:Expr}{t:TA}
theorem CU{Q:VK}(F:FnOk X.prog X.w X.K X.mg X.base CX k f fd ps sp)(hr:Room k X.A)(hb:k9 X.K fd ps ds)(hd:bA dvs ds)(hx:qU CX X E)
    (I:Inv X pj σ H s) (r:bA vs us) (h:sp (vs++dvs) H Q E):bz (cg X.prog X.w) X.A (call (.ref f) us) (EP X pj σ Q) X.xe s:=by
  have r2:bA (vs++dvs) (us++ds):=r.append hd;have hl:(us++ds).length=ps.length:=by rw[<- r2.length];exact F.len _ _ _ _ h
  refine wpAny_call (yi (F.run X.A X.stack s H ⟨us,[]⟩ (us++ds) (vs++dvs) Q E hr I.env0 (hb s us I.kIn hl) r2 h) λr s' hq=>?_);cases r with
  |error e=>exact hx pj σ H s e s' I hq
  |ok fl=>
    cases fl with
    |ret u=>exact I.after hq
    |next=>exact kj hq
    |brk=>exact kj hq
    |cont=>exact kj hq
theorem Dc(F:FnOk X.prog X.w X.K X.mg X.base CX k f fd ps sp)(hr:Room k X.A)(hg:Gl X x)(hm:X.mg x=aa (.ref f))(hk:rh X.K (.ref f)=ai)(hb:k9 X.K fd ps ds)(hd:bA dvs ds)(hx:qU CX X E)
    (ha:PA X (e::es) t) (hdb:autoParam ((x==("__debug__" : bt))=ap) pL._auto_1) (he:autoParam (bg (e::es) X.env=(ap,fi e X.env)::bg es X.env) cH._auto_1) (hpl:autoParam ((jv pos (bg es X.env)).any (·.1)=ap) cH._auto_1):
    PE X (.Call (.Name x p) (e::es) [] pos) (NI sp dvs E t):=by
  intro pj s σ H Q I h;refine sd (zZ I hg hm ?_ hdb);refine Vt (h₀:=X.base) I.ok.mod.kin hk (thn (ha pos pj s σ H _ I h) λus s1 ⟨vs,H1,I1,r,q⟩=>⟨I1.kIn,?_⟩) he hpl;exact CU F hr hb hd hx I1 r q
theorem JD(he:PE X o ta)(c:Cls X.K C)(hm:Meth X.K C m f)(F:FnOk X.prog X.w X.K X.mg X.base CX k f fd ps sp)(hr:Room k X.A)(hb:k9 X.K fd ps ds)(hd:bA dvs ds)(hx:qU CX X E)(ha:PA X (e::es) t)
    (hst:autoParam (bg (e::es) X.env=(ap,fi e X.env)::bg es X.env) cH._auto_1) (hpl:autoParam ((jv pos (bg es X.env)).any (·.1)=ap) cH._auto_1)
    (ht:autoParam (fi (.Call (.Attribute o m Yk) (e::es) [] pos) X.env=(do
      let ov <- fi o X.env
      ye Yk.atName
      let (f,first) <- yf [ov] (xm ov m pl)
      WH pos f first (jv pos (bg (e::es) X.env)) (xn pos (sv [] X.env)))) cH._auto_1):
    PE X (.Call (.Attribute o m Yk) (e::es) [] pos) (KW C m sp dvs E ta t):=by
  intro pj s σ H Q I h;refine Wn (pl:=pl) (thn (he pj s σ H _ I h) λu s1 ⟨x,H1,I1,rx,a,dx,fs,ex,ea,l,q⟩=>?_) ht;subst ex;obtain rfl:u=Value.ref a:=rx;refine wA I1 ea c hm l ?_;refine Vt (first:=[.ref a]) (h₀:=X.base) I.ok.mod.kin hm.kp (thn (ha pos pj s1 σ H1 _ I1 q) λus s2 ⟨vs,H2,I2,r,q2⟩=>⟨I2.kIn,?_⟩) hst hpl;exact CU (us:=.ref a::us) (vs:=.ref a::vs) F hr hb hd hx I2 (.cons rfl r) q2
theorem GV(he:PE X o ta)(c:Cls X.K C)(hm:Meth X.K C m f)(F:FnOk X.prog X.w X.K X.mg X.base CX k f fd ps sp)(hr:Room k X.A)(hb:k9 X.K fd ps ds)(hd:bA dvs ds)(hx:qU CX X E)
    (ht:autoParam (fi (.Call (.Attribute o m Yk) [] [] pos) X.env=(do
      let ov <- fi o X.env
      ye Yk.atName
      let (f,first) <- yf [ov] (xm ov m pl)
      WH pos f first (jv pos (bg [] X.env)) (xn pos (sv [] X.env)))) cH._auto_1):
    PE X (.Call (.Attribute o m Yk) [] [] pos) (KW C m sp dvs E ta NC):=by
  intro pj s σ H Q I h;refine Wn (pl:=pl) (thn (he pj s σ H _ I h) λu s1 ⟨x,H1,I1,rx,a,dx,fs,ex,ea,l,q⟩=>?_) ht;subst ex;obtain rfl:u=Value.ref a:=rx;refine wA I1 ea c hm l ?_;exact W.callWith_K0 (first:=[.ref a]) I1.kIn hm.kp (CU (us:=[.ref a]) (vs:=[.ref a]) F hr hb hd hx I1 (.cons rfl .nil) q)
structure Mk(K:ak)(C f:af):Prop where
  makes:VR K C=ai
  init:oo K (.ref C) "__init__" = aa (aa (.ref f))
  fn:XU K (.ref f)=ai
  kp:rh K (.ref C)=ai
theorem GA{Q:VK}(M:Mk X.K C f)(F:FnOk X.prog X.w X.K X.mg X.base CX k f fd ps sp)(hr:Room (k+1) X.A)(hb:k9 X.K fd ps ds)(hd:bA dvs ds)
    (hx:qU CX X E) (I:Inv X pj σ H s) (r:bA vs us)
    (h:∀x dx,H x=aq->H dx=aq->dx≠x->sp (.ref x::(vs++dvs)) (upd (upd H dx (.own x)) x (.ins C dx [])) (λv H2=>v=.non/\Q (.ref x) H2) E):
    bz (cg X.prog X.w) X.A (call (.ref C) us) (EP X pj σ Q) X.xe s:=by
  have hq:=h (s.heap.objs.size+1) s.heap.objs.size (I.hok.fresh (tz _)) (I.hok.fresh (bj _)) (fq (VS _));have I2:=Inv.made (C:=C) I;have r2:bA (V.ref (s.heap.objs.size+1)::(vs++dvs)) (Value.ref (s.heap.objs.size+1)::(us++ds)):=.cons rfl (r.append hd);have hl:(Value.ref (s.heap.objs.size+1)::us++ds).length=ps.length:=by
    have e:=r2.length;rw[F.len _ _ _ _ hq] at e;exact e.symm
  refine wpAny_call (HE (f:=f) I.kIn M.makes M.init (beq_iff_eq.mp M.fn) (yi (F.run _ X.stack _ _ ⟨Value.ref (s.heap.objs.size+1)::us,[]⟩ (Value.ref (s.heap.objs.size+1)::(us++ds)) _ _ E (hr.make C us [])
    (I2.env0.make C us []) (hb _ (Value.ref (s.heap.objs.size+1)::us) I2.kIn hl) r2 hq) λr s' hq'=>?_))
  cases r with
  |error e=>exact hx pj σ _ _ e s' I2 hq'
  |ok fl=>
    cases fl with
    |ret u=>
      obtain⟨v,H',I3,rv,ev,q3⟩:=I2.after hq';subst ev;exact⟨rv,⟨V.ref (s.heap.objs.size+1),H',I3,rfl,q3⟩⟩
    |next=>exact kj hq'
    |brk=>exact kj hq'
    |cont=>exact kj hq'
theorem JE(M:Mk X.K C f)(F:FnOk X.prog X.w X.K X.mg X.base CX k f fd ps sp)(hr:Room (k+1) X.A)(hg:Gl X x)(hm:X.mg x=aa (.ref C))(hb:k9 X.K fd ps ds)(hd:bA dvs ds)(hx:qU CX X E)
    (ha:PA X (e::es) t) (hdb:autoParam ((x==("__debug__" : bt))=ap) pL._auto_1) (he:autoParam (bg (e::es) X.env=(ap,fi e X.env)::bg es X.env) cH._auto_1) (hpl:autoParam ((jv pos (bg es X.env)).any (·.1)=ap) cH._auto_1):
    PE X (.Call (.Name x p) (e::es) [] pos) (NE C sp dvs E t):=by
  intro pj s σ H Q I h;refine sd (zZ I hg hm ?_ hdb);refine Vt (h₀:=X.base) I.ok.mod.kin M.kp (thn (ha pos pj s σ H _ I h) λus s1 ⟨vs,H1,I1,r,q⟩=>⟨I1.kIn,?_⟩) he hpl;exact GA M F hr hb hd hx I1 r q
end
section
variable {k:Nat}{ks:List bt}{E:XK}{pos kpos:ma}{o:Expr}{kws:List Uu}{t tk:TA}{nm:Option bt}
variable {g:List ae->List ae->List ae}{gV:List V->List V->List V}
end
structure FnScope(N P:List bt)(sc:Scope):Prop where
  kind:sc.kind=.function
  co:sc.isCoroutine=ap
  gen:sc.isGenerator=ap
  nd:N.Nodup
  pre:N.take P.length=P
  par:∀x∈P,sc.names.lookup x=aa .local \/ sc.names.lookup x=aa .cell
  nofree:∀y∈sc.names,y.2 ≠ .free
theorem yQ{km:bt->Option vf}{x:bt}:∀{binds:List (bt×ae)} {m:bt->Option ae},(∀v,(x,v) ∉ binds)->WI km binds m x=m x
  | [],_,_=>rfl
  | (n,v)::r,m,h=>by
    unfold WI;rw[yQ λw hw=>h w (bm _ hw)];split
    . have:x≠n:=by rintro rfl;exact h v ci
      simp[this]
    . rfl
theorem yS{km:bt->Option vf}{x:bt}:∀{binds:List (bt×ae)} {m:bt->Option ae},(∀v,(x,v) ∉ binds)->WJ km binds m x=m x
  | [],_,_=>rfl
  | (n,v)::r,m,h=>by
    unfold WJ;rw[yS λw hw=>h w (bm _ hw)];split
    . rfl
    . have:x≠n:=by rintro rfl;exact h v ci
      simp[this]
theorem yR{km:bt->Option vf}{x:bt}{v:ae}:∀{P:List bt} {vs:List ae} {i:Nat} {m:bt->Option ae},P.Nodup->P[i]?=aa x->vs[i]?=aa v->km x=aa .local ->
    WI km (P.zip vs) m x=aa v
  | [],_,_,_,_,h,_,_=>by simp at h
  |_::_,[],_,_,_,_,h,_=>by simp at h
  |p::P,w::vs,0,m,nd,h1,h2,hk=>by
    simp at h1 h2;subst h1;subst h2;show WI km ((p,w)::P.zip vs) m p=_;unfold WI;rw[yQ λv hv=>(sf.mp nd).1 (WK hv).1,Y4 hk];simp
  |p::P,w::vs,i+1,m,nd,h1,h2,hk=>by
    show WI km ((p,w)::P.zip vs) m x=_;unfold WI;exact yR (i:=i) (sf.mp nd).2 (by simpa using h1) (by simpa using h2) hk
theorem yT{km:bt->Option vf}{x:bt}{v:ae}:∀{P:List bt} {vs:List ae} {i:Nat} {m:bt->Option ae},P.Nodup->P[i]?=aa x->vs[i]?=aa v->km x≠aa .local ->
    WJ km (P.zip vs) m x=aa v
  | [],_,_,_,_,h,_,_=>by simp at h
  |_::_,[],_,_,_,_,h,_=>by simp at h
  |p::P,w::vs,0,m,nd,h1,h2,hk=>by
    simp at h1 h2;subst h1;subst h2;show WJ km ((p,w)::P.zip vs) m p=_;unfold WJ;rw[yS λv hv=>(sf.mp nd).1 (WK hv).1,XF hk];simp
  |p::P,w::vs,i+1,m,nd,h1,h2,hk=>by
    show WJ km ((p,w)::P.zip vs) m x=_;unfold WJ;exact yT (i:=i) (sf.mp nd).2 (by simpa using h1) (by simpa using h2) hk
noncomputable def start(N:List bt)(vs:List V):St:=vs.map aa++au (N.length-vs.length) aq
noncomputable def Jx(A:de):List af:=match A.handled with
  |some (.ref a)=>[a]
  |_=>[]
theorem FB(h:A.handled=aq):Jx A=[]:=by
  unfold Jx;rw[h]
noncomputable def u7(CX:IS)(P:aw)(w:bv)(K:ak)(mg:bt->Option ae)(base:dm)(N:List bt)(Y8:bt)(Y5:Scope)(f:af)(cd:ae)(A:de)(outer:List zl)(s:aj)(H:Hp)(E:XK):Cx where
  prog:=P
  w:=w
  K:=K
  mg:=mg
  base:=base
  A:=A.deeper (uf Y8 Y5 s.heap.objs.size f cd)
  N:=N
  s₀:=s
  HZ:=H
  env:=uf Y8 Y5 s.heap.objs.size f cd
  outer:=outer
  stack:=uf Y8 Y5 s.heap.objs.size f cd::outer
  ex:=[]
  calm:=ai
  fn:=λ_=>ai
  pn:=[]
  hs:=Jx A
  xe:=λe s'=>bz (cg P w) (A.deeper (uf Y8 Y5 s.heap.objs.size f cd)) (leaving (uf Y8 Y5 s.heap.objs.size f cd) e) (λ_ s''=>CX outer H s E e s'') (λe' s''=>CX outer H s E e' s'') s'
theorem C3{sc:Scope}(h:sc.names.lookup x=aa .cell):∃c,(X9 n sc.names []).lookup x=aa c:=by
  have q:=VT sc.names n [] (.inl h);exact xa.mp q
variable {Y8:bt}
theorem FA{cd:ae}{s1:aj}{E:XK}
    (S:FnScope N ps Y5) (hd:A.handled=aq) (e0:Env0 P w K mg base A outer s H) (hl:vs.length=ps.length) (r:bA vs us)
    (x:InCallC s s.heap.objs.size (WI (uf Y8 Y5 s.heap.objs.size f cd).kindOf (ps.zip us) λ_=>aq) (X9 (s.heap.objs.size+1) Y5.names []) (WJ (uf Y8 Y5 s.heap.objs.size f cd).kindOf (ps.zip us) λ_=>aq) s1):
    Inv (u7 CX P w K mg base N Y8 Y5 f cd A outer s H E) [] (start N vs) H s1:=by
  have hpl:ps.length<=N.length:=by have:=congrArg List.length S.pre;rw[dj] at this;ac_rfl
  obtain⟨h1,tk,rfl,hk⟩:=x.done;have noA:∀b:af,b ∉ (u7 CX P w K mg base N Y8 Y5 f cd A outer s H E).ex:=λb z=>absurd (show b∈([]:List af) from z) (by simp);refine⟨⟨e0.mod,S.kind,rfl,rfl,bj _,λy z c h1 h2=>?_,λy hy=>?_,λy c _ h=>?_,λ_=>hd,Around.frames_deeper e0.frames,.inr ⟨rfl,rfl⟩,λb z=>absurd z (noA b),e0.bs,e0.bsz,λb _ _=>noA b,λb z=>absurd z (noA b),e0.funs,e0.frf,.inl hd⟩,
    rfl,e0.bare,Un.kept hk,⟨_,x.toInCall.ns,λi y v h1 h2 h3=>?_⟩,λy c h=>⟨_,x.cell y c h⟩,e0.hok.fresh (bj _),λy c h=>?_,λp hp=>absurd (show p∈([]:List (af×lv)) from hp) (by simp),e0.hok.kept hk,?_,λa ha=>absurd (show a∈Jx A from ha) (by rw[FB hd];simp)⟩
  . exact name_of_addr x.apart (gf h1) (gf h2)
  . have hy:Y5.names.lookup y=aa .cell \/ Y5.names.lookup y=aa .free:=hy;rcases hy with hy | hy
    . exact C3 hy
    . exact absurd rfl (S.nofree _ (gf hy))
  . exact Vo (x.above y c (gf h))
  . have hi:i<vs.length:=by
      unfold start at h2;by_cases hi:i<vs.length
      . exact hi
      . rw[ay (by simpa using hi)] at h2;rw[jf] at h2;split at h2<;>cases h2
    have ha:vs[i]?=aa v:=by
      unfold start at h2;rw[bh (by simpa using hi),cj] at h2;cases e:vs[i]? with
      |none=>rw[e] at h2;cases h2
      |some a=>rw[e] at h2;cases h2;rfl
    obtain⟨u,hu,rv⟩:=r.get ha;have hp:ps[i]?=aa y:=by
      rw[<- S.pre,fz (by ac_rfl)];exact h1
    have ndP:ps.Nodup:=by rw[<- S.pre];exact S.nd.sublist (xb _ _)
    refine⟨u,rv,?_⟩;rcases S.par y (cq hp) with k | k
    . exact .inl ⟨k,yR ndP hp hu k⟩
    . obtain⟨c,e⟩:=C3 (n:=s.heap.objs.size+1) k;refine .inr ⟨.inl k,c,e,?_⟩;have q:=x.cell y c e;rw[yT ndP hp hu (by show Y5.names.lookup y≠_;rw[k];decide)] at q;exact q
  . exact e0.hok.fresh (Vo (x.above y c (gf h)))
  . unfold start;show _=N.length;rw[br,bi,oq];ac_rfl
theorem Oo{k:Nat}{params:Arguments}{dV kV doc pm cdv ct oc:ae}{an od:Option af}
    {osl:Array (Option ae)}   (lk:K.lookup f=aa ⟨oc,od,.func (xj name Y8 params Yj Y5 dV kV doc pm an cdv ct),osl⟩) (hcd:Ud K cdv Y8=ai) (S:FnScope N ps Y5)
    (len:∀vs H Q E,sp vs H Q E->vs.length=ps.length)
    (Yv:∀(A:de) (outer:List zl) (s:aj) (H:Hp) (vs:List V) (Q:VK) (E:XK),Room k (A.deeper (uf Y8 Y5 s.heap.objs.size f cdv))->sp vs H Q E ->
      ∃t,yV (u7 CX P w K mg base N Y8 Y5 f cdv A outer s H E) Yj t/\t { nx:=λ_ H'=>Q .non H',rt:=Q } (start N vs) H):
    FnOk P w K mg base CX (k+1) f (xj name Y8 params Yj Y5 dV kV doc pm an cdv ct) ps sp:=by
  refine⟨len,λA outer s H args us vs Q E hr e0 hb r hsp=>?_⟩;have hl:=len _ _ _ _ hsp;have KX:K.In s.heap:=e0.mod.kin.keeps λb o e=>(e0.bs b o e).1;have lim:s.heap.NoLimit:=e0.mod.nolimit.keeps λb o e=>(e0.bs b o e).1;have Yg:∀y∈ps.zip us,Y5.names.lookup y.1=aa .local \/ (Y5.names.lookup y.1=aa .cell/\((X9 (s.heap.objs.size+1) Y5.names []).lookup y.1).isSome=ai):=λ⟨n,v⟩ hy=>by
    rcases S.par n (WK hy).1 with q | q
    . exact .inl q
    . exact .inr ⟨q,VT _ _ _ (.inl q)⟩
  refine codeAny_call_function hr.depth (KX _ _ lk) rfl S.co S.gen rfl (W.codeRec_of KX hcd) (hb _ _ _ _ ?_);refine wpAny_newFunctionEnv_cells S.kind Yg λenv he s1 x=>?_;subst he;refine⟨lim.keeps x.toInCall.keep,codeAny_func ?_⟩;obtain⟨t,ht,hq⟩:=Yv A outer s H vs Q E (hr.deeper _) hsp;have I:Inv (u7 CX P w K mg base N Y8 Y5 f cdv A outer s H E) [] (start N vs) H s1:=FA S hr.hd e0 hl r x;refine ig (ht [] s1 (start N vs) H _ I hq) (λfl s' hs=>?_) λe s' hs=>hs;have fin:∀{σ':St} {H':Hp} {v:V} {u:ae},Inv (u7 CX P w K mg base N Y8 Y5 f cdv A outer s H E) [] σ' H' s'->cJ v u->Q v H'->CE outer P w H s Q u s':=
    λ{σ' H' v u} J rv q=>⟨v,H',J.os,J.bare,J.base,J.hok,rv,q⟩
  cases fl with
  |ret u=>
    obtain⟨v,σ',H',J,rv,q⟩:=hs;exact fin J rv q
  |next=>
    obtain⟨σ',H',J,q⟩:=hs;exact fin (v:=V.non) (u:=jr) J rfl q
  |brk=>
    obtain⟨_,_,_,q⟩:=hs;exact kj q
  |cont=>
    obtain⟨_,_,_,q⟩:=hs;exact kj q
section
variable {pos:ma}{t:TA}{id T:String}{r:List V->Hp->VK->Prop}
noncomputable def R6(r:List V->Hp->VK->Prop)(t:TA):TE:=λσ H Q=>t σ H λvs H1=>r vs H1 Q
theorem BA(hc:fK X (.builtin id) r)(hg:Gl X x)(hm:X.mg x=aq)(hv:ph x=aa (.builtin id))(ha:PA X (e::es) t)(hn:autoParam (x ≠ "__name__") pL._auto_1)(hdb:autoParam ((x==("__debug__" : bt))=ap) pL._auto_1)
    (he:autoParam (bg (e::es) X.env=(ap,fi e X.env)::bg es X.env) cH._auto_1) (hpl:autoParam ((jv pos (bg es X.env)).any (·.1)=ap) cH._auto_1):PE X (.Call (.Name x p) (e::es) [] pos) (R6 r t):=by
  intro pj s σ H Q I h;refine sd (nY I hg hm hv ?_ hn hdb);exact VU (thn (ha pos pj s σ H _ I h) λus s1 zq1=>by obtain⟨vs,H1,I1,r1,q1⟩:=zq1;exact hc pj s1 σ H1 vs us Q I1 r1 q1) he hpl
theorem sS(hc:fK X (.type T) r)(hg:Gl X x)(hm:X.mg x=aq)(hv:ph x=aa (.type T))(ha:PA X (e::es) t)(hn:autoParam (x ≠ "__name__") pL._auto_1)(hdb:autoParam ((x==("__debug__" : bt))=ap) pL._auto_1)
    (he:autoParam (bg (e::es) X.env=(ap,fi e X.env)::bg es X.env) cH._auto_1) (hpl:autoParam ((jv pos (bg es X.env)).any (·.1)=ap) cH._auto_1):PE X (.Call (.Name x p) (e::es) [] pos) (R6 r t):=by
  intro pj s σ H Q I h;refine sd (nY I hg hm hv ?_ hn hdb);exact gh (thn (ha pos pj s σ H _ I h) λus s1 zq2=>by obtain⟨vs,H1,I1,r1,q1⟩:=zq2;exact hc pj s1 σ H1 vs us Q I1 r1 q1) he hpl
end
end L2
namespace HT
open PySem PyProof.Rows
section
open PySem.SeqAt
open PySem.AutoSeq1 (wpAny_loadPart')
open PySem.MeetsSeq PySem.MeetsSeq2 PySem.MeetsSeq3
end
variable {Q:ae->aj->Prop}{sl:af}{vl vu:ae}{lo hi:Option Int}
theorem KH{t b:af}{vs ws:List ae}(ht:X6 s.heap t vs.toArray)(hb:X6 s.heap b ws.toArray)(hv:vs≠[])
    (h1:ws=[]->Q (.ref t) s) (h2:ws≠[]->Q (.ref s.heap.objs.size) { s with heap:=s.heap.push { cls:=.type "tuple",data:=.seq (vs++ws).toArray } })
    (hsz:vs.length+ws.length<=bo):bz (cg prog w) A (jo .Add (.ref t) (.ref b)) Q E s:=by
  obtain⟨⟨cls,dd,data,sl⟩,ho,hc,n,hd⟩:=id ht;obtain⟨⟨cls2,dd2,data2,sl2⟩,ho2,hc2,n2,hd2⟩:=id hb;simp only at hc hd hc2 hd2;subst hc hd hc2 hd2;have e:vs.toArray++ws.toArray=(vs++ws).toArray:=by simp
  by_cases hw:ws=[]
  . exact Vu ⟨_,ho,rfl⟩ ⟨_,ho2,rfl⟩ xo V5 ug sw (ri _ _)
      (tuple_addW1 t b vs.toArray ws.toArray n n2 dd dd2 sl sl2 (by simpa using hv) (by simp[hw])) ⟨ho,ho2,h1 hw⟩
  . refine Vu ⟨_,ho,rfl⟩ ⟨_,ho2,rfl⟩ xo V5 ug sw (ri _ _)
      (tuple_addW2 t b vs.toArray ws.toArray n n2 dd dd2 sl sl2 (by simpa using hv) (by simpa using hw) (by rw[di,di];exact hsz)) ⟨ho,ho2,?_⟩
    rw[e];exact h2 hw
noncomputable def gQ(n d:Nat):Option Int->Nat
  |none=>d
  |some v=>if v<0 then (v+(n:Int)).toNat else min v.toNat n
theorem Ay(n d:Nat):gQ n d aq=d:=rfl
theorem LG(n d:Nat)(hd:d<=n)(o:Option Int):gQ n d o<=n:=by
  cases o with
  |none=>exact hd
  |some v=>
    show (if v<0 then (v+(n:Int)).toNat else min v.toNat n)<=n;by_cases hv:v<0
    . rw[Y4 hv];ac_rfl
    . rw[XF hv];exact Nat.min_le_right _ _
theorem E4(v:Int)(n d:Nat):(if v<0 then max (v+(n:Int)) 0 else min v (n:Int))=((gQ n d (aa v):Nat):Int):=by
  show (if v<0 then max (v+(n:Int)) 0 else min v (n:Int))=(((if v<0 then (v+(n:Int)).toNat else min v.toNat n):Nat):Int);by_cases hv:v<0
  . simp only[Y4 hv];ac_rfl
  . simp only[XF hv];ac_rfl
theorem DD(lo hi:Option Int)(n:Nat):qm lo hi 1 (n:Int)=(((gQ n 0 lo:Nat):Int),((gQ n n hi:Nat):Int)):=by
  have h1:¬((1:Int)<0):=(by ac_rfl);unfold qm;simp only[h1,if_false];refine Prod.ext ?_ ?_
  . cases lo with
    |none=>rfl
    |some v=>exact E4 v n 0
  . cases hi with
    |none=>rfl
    |some v=>exact E4 v n n
theorem Cc(i j:Nat):nh (i:Int) (j:Int) 1=j-i:=by
  unfold nh;have h1:(1:Int) > 0:=(by ac_rfl);simp only[h1,if_true,Int.ediv_one];split<;>ac_rfl
theorem v6{v:ae}{o:Option Int}{Q:Option Int->aj->Prop}(p:Vi v o)(h:Q o s):bz (cg prog w) A (Wo v) Q E s:=by
  cases p with
  |none=>exact WL h
  |int i t=>exact slicePart_int h
theorem sO{Q:Int×Int×Nat->aj->Prop}(hs:s.heap.IsSliceOf sl vl vu .none)(pl:Vi vl lo)(pu:Vi vu hi)
    (h:Q (((gQ n 0 lo:Nat):Int),1,gQ n n hi-gQ n 0 lo) s):bz (cg prog w) A (wg (.ref sl) (jm (n:Int))) Q E s:=by
  obtain⟨os,hos,hcs,hds⟩:=id hs;unfold wg X0;refine ah (ah (fm hos hds (x:=vl) rfl (ah (fm hos hds (x:=vu) rfl (ah (fm hos hds (x:=.none) rfl (az ?_)))))));refine ah (WL ?_);show bz _ _ (if ((1:Int)==0)=ai then _ else _) _ _ s;rw[XF (by decide)];refine ah (v6 pl (ah (v6 pu (ah (az ?_)))));show bz _ _ (match qm lo hi 1 (n:Int) with | (lo,hi)=>jm (lo,(1:Int),nh lo hi 1)) _ _ s;rw[DD lo hi n];show bz _ _ (jm (((gQ n 0 lo:Nat):Int),(1:Int),nh ((gQ n 0 lo:Nat):Int) ((gQ n n hi:Nat):Int) 1)) _ _ s;rw[Cc];exact az h
theorem GT(xs:Array ae)(i k:Nat):((fw k).filterMap λ(m:Nat)=>xs[((i:Int)+(m:Int)*1).toNat]?).toArray=((xs.toList.drop i).take k).toArray:=by
  have e:(λ(m:Nat)=>xs[((i:Int)+(m:Int)*1).toNat]?)=λm=>xs[i+m]?:=by
    funext m;have:((i:Int)+(m:Int)*1).toNat=i+m:=(by ac_rfl);rw[this]
  rw[e];have:=pick_run xs i k;rw[List.filterMap_map] at this;have e2:((λx=>xs[x]?) ∘ λx=>i+x)=λm=>xs[i+m]?:=rfl;rw[e2] at this;rw[this]
theorem rX{t:af}{Y9:Array ae}(ht:X6 s.heap t Y9)(hs:s.heap.IsSliceOf sl vl vu .none)(pl:Vi vl lo)(pu:Vi vu hi)
    (hw:¬(gQ Y9.size 0 lo=0/\gQ Y9.size Y9.size hi=Y9.size))
    (h:Q (.ref s.heap.objs.size) { s with heap:=s.heap.push { cls:=.type "tuple",data:=.seq ((Y9.toList.drop (gQ Y9.size 0 lo)).take (gQ Y9.size Y9.size hi-gQ Y9.size 0 lo)).toArray } })
    (hsz:Y9.size<=bo):bz (cg prog w) A (Vv (.ref t) (.ref sl)) Q E s:=by
  have htake:sizeOk (.seq ((Y9.toList.drop (gQ Y9.size 0 lo)).take (gQ Y9.size Y9.size hi-gQ Y9.size 0 lo)).toArray):=by
    show ((Y9.toList.drop (gQ Y9.size 0 lo)).take (gQ Y9.size Y9.size hi-gQ Y9.size 0 lo)).toArray.size<=bo;rw[di,dj,Ue,qz];ac_rfl
  have hj:gQ Y9.size Y9.size hi<=Y9.size:=LG _ _ (bj _) hi;obtain⟨os,hos,hcs,hds⟩:=id hs;have hTs:s.TypeIs (.ref sl) "slice" := ⟨os,hos,hcs⟩;unfold Vv
  try with_reducible refine lq ?_
  first | refine ah (az ?_) | skip
  refine ah (wpAny_sequenceKey ht.typeIs (by decide) ?_);refine ah (gp (name:=jd "__getitem__") ht.typeIs oi
    (fy oi ht.typeIs entry_tuple_getitem ?_ (args_tuple_getitem _ _)))
  show bz _ _ (WM (.ref t) >>= _) _ _ s;refine ah (tupleItemsOf_ ht ?_);refine ah (wpAny_typeOf hTs ?_);rw[Y4 (by decide)];refine ah (sO hs pl pu ?_);have hno:¬((((gQ Y9.size 0 lo:Nat):Int)==0&&(1:Int)==1&&(gQ Y9.size Y9.size hi-gQ Y9.size 0 lo)==Y9.size)=ai):=by
    intro q;rw[eg,eg] at q;have q1:((gQ Y9.size 0 lo:Nat):Int)=0:=eq_of_beq q.1.1;have q2:gQ Y9.size Y9.size hi-gQ Y9.size 0 lo=Y9.size:=eq_of_beq q.2;exact hw ⟨(by ac_rfl),(by ac_rfl)⟩
  show bz _ _ (if (((gQ Y9.size 0 lo:Nat):Int)==0&&(1:Int)==1&&(gQ Y9.size Y9.size hi-gQ Y9.size 0 lo)==Y9.size)=ai then _ else _) _ _ s;rw[XF hno,GT]
  first
    |exact ah (m:=oa _) (kg (az ⟨_,rfl,az h⟩) htake)
    |exact ah (m:=oa _) (kg (ah (az (az ⟨_,rfl,az h⟩))) htake)
    |exact ah (ah (m:=oa _) (kg (az (az ⟨_,rfl,az h⟩)) htake))
    |exact ah (ah (m:=oa _) (kg (az ⟨_,rfl,az h⟩) htake))
end HT
variable {H:L2.Hp}{X:L2.Cx}{σ:L2.St}{ns:List Int}
namespace L2
noncomputable abbrev TO:=St->Hp->(Option Int->Hp->Prop)->Prop
noncomputable def PO(X:Cx)(e:Option Expr)(t:TO):Prop:=
  ∀(pj:List (af×lv)) (s:aj) (σ:St) (H:Hp) (Q:Option Int->Hp->Prop),Inv X pj σ H s->t σ H Q ->
    bz (cg X.prog X.w) X.A (evalPart e X.env) (λu s'=>∃o H',Inv X pj σ H' s'/\Vi u o/\Q o H') X.xe s
noncomputable def Ih:TO:=λ_ H Q=>Q aq H
noncomputable def N9(t:TE):TO:=λσ H Q=>t σ H λx H1=>∃i,x=.int i/\Q (aa i) H1
theorem mL:∀{us:List ae},bA (ns.map V.int) us->qd us ns:=by
  induction ns with
  |nil=>intro us r;rw[vx] at r;cases r;exact .nil
  |cons n ns ih=>
    intro us r;rw[cp] at r;cases r with
    |cons r1 r2=>
      obtain⟨t,e⟩:=r1;subst e;exact .cons n t (ih r2)
variable {r:V->Option Int->Option Int->Hp->VK->Prop}{xs:List V}
section
variable {te:TE}{lo hi:Option Expr}{tl th:TO}{pos p2:ma}
theorem JB:PO X aq Ih:=by
  intro pj s σ H Q I h;rw[evalPart_none];exact az ⟨aq,H,I,.none,h⟩
theorem JA(h:PE X e te):PO X (aa e) (N9 te):=by
  intro pj s σ H Q I hw;rw[evalPart_some];refine thn (h pj s σ H _ I hw) λu s1 zz=>?_;obtain⟨x,H1,I1,r1,q1⟩:=zz;obtain⟨i,rfl,q⟩:=q1;obtain⟨t,rfl⟩:=r1;exact⟨aa i,H1,I1,.int i t,q⟩
noncomputable def Mo(X:Cx)(r:V->Option Int->Option Int->Hp->VK->Prop):Prop:=
  ∀(pj:List (af×lv)) (s:aj) (σ:St) (H:Hp) (x:V) (v vl vu:ae) (lo hi:Option Int) (sl:af) (Q:VK),Inv X pj σ H s->cJ x v->s.heap.IsSliceOf sl vl vu .none->Vi vl lo->Vi vu hi->r x lo hi H Q ->
    ∃T id,typeLookup (.type T) "__getitem__" = jm (aa (.builtin id))/\s.TypeIs v T/\bz (cg X.prog X.w) X.A (Vv v (.ref sl)) (EP X pj σ Q) X.xe s
theorem Mo.or{r':V->Option Int->Option Int->Hp->VK->Prop}(h:Mo X r)(h':Mo X r'):Mo X (λx lo hi H Q=>r x lo hi H Q \/ r' x lo hi H Q):=by
  intro pj s σ H x v vl vu lo hi sl Q I rx hs pl pu q;rcases q with q | q
  . exact h pj s σ H x v vl vu lo hi sl Q I rx hs pl pu q
  . exact h' pj s σ H x v vl vu lo hi sl Q I rx hs pl pu q
noncomputable def U9(r:V->Option Int->Option Int->Hp->VK->Prop)(te:TE)(tl th:TO):TE:=λσ H Q=>te σ H λx H1=>tl σ H1 λl H2=>th σ H2 λu H3=>r x l u H3 Q
theorem GU(hr:Mo X r)(he:PE X e te)(hl:PO X lo tl)(hu:PO X hi th):PE X (.Subscript e (.Slice lo hi aq p2) pos) (U9 r te tl th):=by
  intro pj s σ H Q I h;refine Subscript_ (thn (he pj s σ H _ I h) λv s1 zz=>?_);obtain⟨x,H1,I1,r1,q1⟩:=zz;refine wpAny_Slice (thn (hl pj s1 σ H1 _ I1 q1) λvl s2 ⟨l,H2,I2,pl,q2⟩=>thn (hu pj s2 σ H2 _ I2 q2) λvu s3 zz=>?_);obtain⟨u,H3,I3,pu,q3⟩:=zz;rw[evalPart_none];refine az ?_;have I4:Inv X pj σ H3 { s3 with heap:=s3.heap.push { cls:=.type "slice",data:=.fields #[vl,vu,.none] } }:=I3.kept (t':=s3.toks) λb ob q=>ao _ q;obtain⟨T,id,hT,ht,hg⟩:=hr pj { s3 with heap:=s3.heap.push { cls:=.type "slice",data:=.fields #[vl,vu,.none] } } σ H3 x v vl vu l u s3.heap.objs.size Q I4 r1 (Heap.IsSliceOf.new ..) pl pu q3;show bz (cg X.prog X.w) X.A (V6 e (.Slice lo hi aq p2) v (.ref s3.heap.objs.size)) (EP X pj σ Q) X.xe { s3 with heap:=s3.heap.push { cls:=.type "slice",data:=.fields #[vl,vu,.none] } };exact tail_any (ops:=[.ref s3.heap.objs.size,v]) ht hT hg (by with_unfolding_all rfl)
noncomputable def By(xs:List V)(lo hi:Option Int):List V:=(xs.drop (HT.gQ xs.length 0 lo)).take (HT.gQ xs.length xs.length hi-HT.gQ xs.length 0 lo)
theorem tQ(xs:List V)(lo hi:Option Int):(By xs lo hi).length<=xs.length:=by
  unfold By;rw[dj,Ue];ac_rfl
noncomputable def RM(K:ak):V->Option Int->Option Int->Hp->VK->Prop:=λx lo hi H Q=>∃a xs,x=.ref a/\l6 K H a xs /\
  ¬(HT.gQ xs.length 0 lo=0/\HT.gQ xs.length xs.length hi=xs.length) /\ ∀p,H p=aq->Q (.ref p) (upd H p (.tup (By xs lo hi)))
theorem LD:Mo X (RM X.K):=by
  intro pj s σ H x v vl vu lo hi sl Q I rx hs pl pu h;obtain⟨a,xs,rfl,hx,hw,q⟩:=h;cases rx;obtain⟨its,r,ht,hz⟩:=I.tuple hx;have hlen:its.toArray.size=xs.length:=by rw[di];exact r.length.symm
  refine⟨"tuple",_,oi.lookup,ht.typeIs,?_⟩;refine HT.rX ht hs pl pu (by rw[hlen];exact hw) ?_ (by rw[hlen];exact hz);rw[hlen];refine⟨.ref s.heap.objs.size,_,I.laid (t':=s.toks) (o:=.tup (By xs lo hi)) (λb ob q=>ao _ q) (bj _) ?_,rfl,q _ (I.hok.fresh (bj _))⟩;exact⟨om (tQ xs lo hi) hz,_,(r.drop (HT.gQ xs.length 0 lo)).take (HT.gQ xs.length xs.length hi-HT.gQ xs.length 0 lo),IsTup.new _ _⟩
noncomputable def No(K:ak):R2:=λx y H Q=>∃a b xs ys,x=.ref a/\y=.ref b/\l6 K H a xs/\l6 K H b ys/\xs≠[]/\xs.length+ys.length<=bo /\
  (ys=[]->Q (.ref a) H)/\(ys≠[] -> ∀p,H p=aq->Q (.ref p) (upd H p (.tup (xs++ys))))
theorem bA.nil_iff{us:List ae}(r:bA xs us):us=[] ↔ xs=[]:=by
  cases r with
  |nil=>simp
  |cons _ _=>simp
theorem JQ:lM X (jo .Add) (No X.K):=by
  intro pj s σ H x y v u Q I rx ry h;obtain⟨a,b,xs,ys,rfl,rfl,ha,hb,hx,hz,q1,q2⟩:=h;cases rx;cases ry;obtain⟨its,r1,p1,_⟩:=I.tuple ha;obtain⟨its2,r2,p2,_⟩:=I.tuple hb;refine HT.KH p1 p2 (λz=>hx (r1.nil_iff.mp z)) (λz=>⟨.ref a,H,I,rfl,q1 (r2.nil_iff.mp z)⟩) (λz=>?_) (by rw[<- r1.length,<- r2.length];exact hz);refine⟨.ref s.heap.objs.size,_,I.laid (t':=s.toks) (o:=.tup (xs++ys)) (λb ob q=>ao _ q) (bj _) ?_,rfl,q2 (λw=>z (r2.nil_iff.mpr w)) _ (I.hok.fresh (bj _))⟩;exact⟨by rw[br];exact hz,_,r1.append r2,IsTup.new _ _⟩
end
noncomputable def uK(n:Nat)(i:Int):Option Nat:=if 0<=i then (if i<n then aa i.toNat else aq) else if -(n:Int)<=i then aa (i+n).toNat else aq
noncomputable def sE(xs:List α)(i:Int):Option α:=(uK xs.length i).bind λj=>xs[j]?
variable {i:Int}
theorem Ju{j:Nat}(h:uK n i=aa j):seqIndex? i n=aa j/\j<n /\ -(n:Int)<=i/\i<n:=by
  unfold uK at h;by_cases h0:0<=i
  . rw[Y4 h0] at h;by_cases h1:i<n
    . rw[Y4 h1] at h;have e:i.toNat=j:=Option.some.inj h;exact⟨by rw[seqIndex_of h0 h1,e],(by ac_rfl),(by ac_rfl),h1⟩
    . rw[XF h1] at h;cases h
  . rw[XF h0] at h;by_cases h1:-(n:Int)<=i
    . rw[Y4 h1] at h;have e:(i+n).toNat=j:=Option.some.inj h;exact⟨by rw[seqIndex_neg (by ac_rfl) h1,e],(by ac_rfl),h1,(by ac_rfl)⟩
    . rw[XF h1] at h;cases h
theorem Ab{xs:List α}{v:α}(h:sE xs i=aa v):∃j,seqIndex? i xs.length=aa j/\xs[j]?=aa v/\j<xs.length /\ -(xs.length:Int)<=i/\i<xs.length:=by
  unfold sE at h;cases e:uK xs.length i with
  |none=>rw[e] at h;cases h
  |some j=>
    rw[e] at h;obtain⟨h1,h2,h3,h4⟩:=Ju e;exact⟨j,h1,h,h2,h3,h4⟩
noncomputable def E9(b:Expr):Prop:=∀o i,Wc b ap o i=operate [o,i] (Vv o i)
noncomputable def IW(X:Cx)(r:R2):Prop:=
  ∀(Ye Yo:Expr) (pj:List (af×lv)) (s:aj) (σ:St) (H:Hp) (x y:V) (v u:ae) (Q:VK),Inv X pj σ H s->cJ x v->cJ y u->r x y H Q ->
    Wc Yo ap v u=operate [v,u] (Vv v u)->bz (cg X.prog X.w) X.A (V6 Ye Yo v u) (EP X pj σ Q) X.xe s
noncomputable def TB(X:Cx)(id:String)(r:V->List V->Hp->VK->Prop):Prop:=
  ∀(pj:List (af×lv)) (s:aj) (σ:St) (H:Hp) (x:V) (xs:List V) (v:ae) (us:List ae) (Q:VK),Inv X pj σ H s->cJ x v->bA xs us->r x xs H Q ->
    bz (cg X.prog X.w) X.A (call (.builtin id) (v::us)) (EP X pj σ Q) X.xe s
variable {T:String}
section
variable {a b:Expr}{ta tb:TE}{pos:ma}
theorem IW.or{r r':R2}(h:IW X r)(h':IW X r'):IW X (λx y H Q=>r x y H Q \/ r' x y H Q):=by
  intro Ye Yo pj s σ H x y v u Q I rx ry q hs;rcases q with q | q
  . exact h Ye Yo pj s σ H x y v u Q I rx ry q hs
  . exact h' Ye Yo pj s σ H x y v u Q I rx ry q hs
theorem Ny{r:R2}(hr:IW X r)(ha:PE X a ta)(hb:PE X b tb)(hs:E9 b):PE X (.Subscript a b pos) (NA r ta tb):=by
  intro pj s σ H Q I h;exact Subscript_ (Ml ha hb I h λv u s2 x y H2 I2 rx ry q=>hr a b pj s2 σ H2 x y v u Q I2 rx ry q (hs _ _))
noncomputable def Nl(K:ak):R2:=λx y H Q=>∃p xs i v,x=.ref p/\y=.int i/\fU K H p xs/\sE xs i=aa v/\Q v H
noncomputable def Nj(K:ak):R2:=λx y H Q=>∃p xs i v,x=.ref p/\y=.int i/\l6 K H p xs/\sE xs i=aa v/\Q v H
noncomputable def Nk:R2:=λx y H Q=>∃z i c,x=.str z/\y=.int i/\z.length<=bo/\sE z.cps.toList i=aa c/\Q (.str ⟨#[c]⟩) H
theorem Js:IW X (Nl X.K):=by
  intro Ye Yo pj s σ H x y v u Q I rx ry h hs;obtain⟨p,xs,i,z,rfl,rfl,hq,he,q⟩:=h;cases rx;obtain⟨t,rfl⟩:=ry;obtain⟨its,r,pl,hz⟩:=I.list hq;obtain⟨j,h1,h2,h3,h4,h5⟩:=Ab he;obtain⟨w,ew,rw'⟩:=r.get h2;have hl:=r.length;have hn:=sX;have fin:EP X pj σ Q w s:=⟨z,H,I,rw',q⟩;by_cases h0:0<=i
  . have hj:i.toNat=j:=by
      rw[seqIndex_of h0 h5] at h1;exact Option.some.inj h1
    exact item_listR pl.isList h0 (by ac_rfl) (by rw[hj];simpa using ew) fin hs
  . have hj:(i+(its.toArray.size:Int)).toNat=j:=by
      rw[seqIndex_neg (by ac_rfl) h4] at h1;rw[di,<- hl];exact Option.some.inj h1
    exact yj (x:=w) pl.isList.typeIs Vw.lookup
      (wpAny_getItem_list_neg (Q:=λr s'=>r=w/\EP X pj σ Q r s') pl.isList (by ac_rfl) (by rw[di]<;>ac_rfl) (by ac_rfl) (by rw[hj];simpa using ew) ⟨rfl,fin⟩) hs
theorem MO:IW X (Nj X.K):=by
  intro Ye Yo pj s σ H x y v u Q I rx ry h hs;obtain⟨p,xs,i,z,rfl,rfl,hq,he,q⟩:=h;cases rx;obtain⟨t,rfl⟩:=ry;obtain⟨its,r,pl,hz⟩:=I.tuple hq;obtain⟨j,h1,h2,h3,h4,h5⟩:=Ab he;obtain⟨w,ew,rw'⟩:=r.get h2;have hl:=r.length;have hn:=sX;have fin:EP X pj σ Q w s:=⟨z,H,I,rw',q⟩;exact yj (x:=w) pl.typeIs slot_tuple_getitem.lookup
    (getItem_tuple (j:=j) (Q:=λr s'=>r=w/\EP X pj σ Q r s') pl (by ac_rfl) (by ac_rfl) (by rw[di,<- hl];exact h1) (by simpa using ew) ⟨rfl,fin⟩) hs
theorem MP:IW X Nk:=by
  intro Ye Yo pj s σ H x y v u Q I rx ry h hs;obtain⟨z,i,c,rfl,rfl,hz,he,q⟩:=h;obtain⟨t,rfl⟩:=rx;obtain⟨t',rfl⟩:=ry;obtain⟨j,h1,h2,h3,h4,h5⟩:=Ab he;have hl:z.cps.toList.length=z.length:=by simp[Str.length]
  rw[hl] at h1 h4 h5;have hn:=sX;exact tail_any (typeIs_str s z t) slot_str_getitem.lookup (getItem_str (c:=c) (by
    have e1:decide (i < -(2 ^ 63:Int))=ap:=decide_eq_false (by ac_rfl);have e2:decide (i >= 2 ^ 63)=ap:=decide_eq_false (by ac_rfl);rw[e1,e2,Bool.or_false]) (by rw[h1];simpa using h2) ⟨.str ⟨#[c]⟩,H,I.tok _,⟨_,rfl⟩,q⟩) hs
noncomputable def UC(K:ak):R2:=λx y H Q=>Nl K x y H Q \/ Nj K x y H Q \/ Nk x y H Q
theorem MQ:IW X (UC X.K):=Js.or (MO.or MP)
theorem zE(lo hi:Option Int)(n:Nat):(sx lo hi aq n).1=((HT.gQ n 0 lo:Nat):Int)/\(sx lo hi aq n).2.1=((HT.gQ n n hi:Nat):Int)/\(sx lo hi aq n).2.2=1:=by
  refine⟨?_,?_,rfl⟩
  . cases lo with
    |none=>simp[sx,HT.gQ]
    |some i=>
      simp only[sx,HT.gQ,getD_none,show (1:Int) > 0 by decide,if_true];by_cases h:i<0
      . simp only[h,if_true]<;>ac_rfl
      . simp only[h,if_false]<;>ac_rfl
  . cases hi with
    |none=>simp[sx,HT.gQ]
    |some i=>
      simp only[sx,HT.gQ,getD_none,show (1:Int) > 0 by decide,if_true];by_cases h:i<0
      . simp only[h,if_true]<;>ac_rfl
      . simp only[h,if_false]<;>ac_rfl
theorem wV(its:List ae)(lo hi:Option Int):slicePick its.toArray lo hi aq=((its.drop (HT.gQ its.length 0 lo)).take (HT.gQ its.length its.length hi-HT.gQ its.length 0 lo)).toArray:=by
  obtain⟨h1,h2,h3⟩:=zE lo hi its.toArray.size;unfold slicePick;rw[h1,h2,h3];simp only[sliceRange_one,pick_run,di]<;>rfl
noncomputable def RN(K:ak):V->Option Int->Option Int->Hp->VK->Prop:=λx lo hi H Q=>∃a xs,x=.ref a/\fU K H a xs /\ ∀p,H p=aq->Q (.ref p) (upd H p (.lst (By xs lo hi)))
theorem Ik:Mo X (RN X.K):=by
  intro pj s σ H x v vl vu lo hi sl Q I rx hs pl pu h;obtain⟨a,xs,rfl,hx,q⟩:=h;cases rx;obtain⟨its,r,ht,hz⟩:=I.list hx;have hlen:=r.length;refine⟨"list",_,Vw.lookup,ht.isList.typeIs,?_⟩;refine wpAny_getItem_list_slice ht.isList hs pl pu .none (by simp) ?_ (by rw[di]<;>ac_rfl);rw[wV,<- hlen];refine⟨.ref s.heap.objs.size,_,I.laid (t':=s.toks) (o:=.lst (By xs lo hi)) (λb ob q=>ao _ q) (bj _) ?_,rfl,q _ (I.hok.fresh (bj _))⟩;exact⟨om (tQ xs lo hi) hz,_,0,(r.drop (HT.gQ xs.length 0 lo)).take (HT.gQ xs.length xs.length hi-HT.gQ xs.length 0 lo),cr _ rfl⟩
theorem AY:fK X (.builtin "len") (λxs H Q=>∃p ys,xs=[.ref p]/\(fU X.K H p ys \/ l6 X.K H p ys)/\Q (.int ys.length) H):=by
  intro pj s σ H xs us Q I r h;obtain⟨p,ys,rfl,hq,q⟩:=h;obtain⟨u,rfl,rx⟩:=jQ r;cases rx;have hn:=sX;rcases hq with hq | hq
  . obtain⟨its,r',pl,hz⟩:=I.list hq;have hlen:=r'.length;exact Calls.call_len_list pl.isList (by simp only[di]<;>ac_rfl) ⟨.int ys.length,H,I.tok _,⟨s.toks+1,by rw[di,hlen]⟩,q⟩
  . obtain⟨its,r',pl,hz⟩:=I.tuple hq;have hlen:=r'.length;exact len_tuple pl (by simp only[di]<;>ac_rfl) ⟨.int ys.length,H,I.tok _,⟨s.toks+1,by rw[di,hlen]⟩,q⟩
theorem AX:fK X (.builtin "len") (λxs H Q=>∃z,xs=[.str z]/\z.length<=bo/\Q (.int z.length) H):=by
  intro pj s σ H xs us Q I r h;obtain⟨z,rfl,hz,q⟩:=h;obtain⟨u,rfl,t,rfl⟩:=jQ r;have hn:=sX;exact len_str (by ac_rfl) ⟨.int z.length,H,I.tok _,⟨_,rfl⟩,q⟩
theorem fK.or{f:ae}{r r':List V->Hp->VK->Prop}(h:fK X f r)(h':fK X f r'):fK X f (λxs H Q=>r xs H Q \/ r' xs H Q):=by
  intro pj s σ H xs us Q I rs q;rcases q with q | q
  . exact h pj s σ H xs us Q I rs q
  . exact h' pj s σ H xs us Q I rs q
theorem AW:fK X (.type "list") (λxs H Q=>∃p ys,xs=[.ref p]/\(fU X.K H p ys \/ l6 X.K H p ys) /\ ∀l,H l=aq->Q (.ref l) (upd H l (.lst ys))):=by
  intro pj s σ H xs us Q I r h;obtain⟨p,ys,rfl,hq,q⟩:=h;obtain⟨u,rfl,rx⟩:=jQ r;cases rx;have fin:∀(its:List ae),bA ys its->ys.length<=bo -> ∀(h':dm) (c':Nat),(∀b o',s.heap.get? b=aa o'->h'.get? b=aa o') ->
      h'.get? s.heap.objs.size=aa { cls:=.type "list",dict:=aq,data:=.seq its.toArray c',slots:=#[] }->EP X pj σ Q (.ref s.heap.objs.size) { s with heap:=h' }:=λits r' hz h' c' kp e=>
    ⟨.ref s.heap.objs.size,_,I.laid (t':=s.toks) kp (bj _) (show d5 X.prog X.w _ h' _ (.lst ys) from⟨hz,its,c',r',e⟩),rfl,q _ (I.hok.fresh (bj _))⟩
  rcases hq with hq | hq
  . obtain⟨its,r',pl,hz⟩:=I.list hq;have hlen:=r'.length;obtain⟨o,ho,hc,n,hd⟩:=pl.isList;exact call_list_seq p (.inl rfl) ho hc hd (λh' c' kp e=>fin its r' hz h' c' kp e) (by simp only[di]<;>ac_rfl)
  . obtain⟨its,r',pl,hz⟩:=I.tuple hq;have hlen:=r'.length;obtain⟨o,ho,hc,n,hd⟩:=pl;exact call_list_seq p (.inr rfl) ho hc hd (λh' c' kp e=>fin its r' hz h' c' kp e) (by simp only[di]<;>ac_rfl)
theorem xI:fK X (.type "tuple") (λxs H Q=>∃p ys,xs=[.ref p]/\((fU X.K H p ys /\ ∀l,H l=aq->Q (.ref l) (upd H l (.tup ys))) \/ (l6 X.K H p ys/\Q (.ref p) H))):=by
  intro pj s σ H xs us Q I r h;obtain⟨p,ys,rfl,h⟩:=h;obtain⟨u,rfl,rx⟩:=jQ r;cases rx;rcases h with⟨hq,q⟩ | ⟨hq,q⟩
  . obtain⟨its,r',pl,hz⟩:=I.list hq;have hlen:=r'.length;refine call_tuple_list pl.isList (λh' kp=>?_) (by simp only[di]<;>ac_rfl);have I1:Inv X pj σ H { s with heap:=h' }:=I.kept (t':=s.toks) kp;have I2:Inv X pj σ (upd H h'.objs.size (.tup ys)) { s with heap:=h'.push { cls:=.type "tuple",data:=.seq its.toArray } }:=
      I1.laid (t':=s.toks) (λb o e=>ao _ e) (bj _) (show d5 X.prog X.w _ _ _ (.tup ys) from⟨hz,its,r',IsTup.new _ _⟩)
    exact⟨.ref h'.objs.size,_,I2,rfl,q _ (I1.hok.fresh (bj _))⟩
  . obtain⟨its,r',pl,hz⟩:=I.tuple hq;exact call_tuple_same pl ⟨.ref p,H,I,rfl,q⟩
noncomputable def Qk(K:ak)(T:String)(x:V)(H:Hp):Prop:=match x with
  | .str _=>T = "str"
  | .int _=>T = "int"
  | .ref p=>(T = "list" /\ ∃xs,fU K H p xs) \/ (T = "tuple" /\ ∃o,K.lookup p=aa o/\o.cls=.type "tuple" /\ o.dict=aq) \/
      (T = "dict" /\ ((∃kvs,H p=aa (.dK kvs)) \/ ∃ep kvs,H p=aa (.dT ep kvs))) \/ (T = "set" /\ ∃S n,H p=aa (.set S n))
  |_=>False
theorem Fh{x:V}{v:ae}(I:Inv X pj σ H s)(r:cJ x v)(ty:Qk X.K T x H):
    s.TypeIs v T /\ ∀a,v=.ref a -> ∃ob,s.heap.get? a=aa ob/\ob.dict=aq:=by
  cases x with
  |str z=>
    obtain⟨t,rfl⟩:=r;cases (show T = "str" from ty);exact⟨typeIs_str s z t,λ_ e=>nomatch e⟩
  |int i=>
    obtain⟨t,rfl⟩:=r;cases (show T = "int" from ty);exact⟨WN s i t,λ_ e=>nomatch e⟩
  |ref p=>
    cases r;rcases ty with⟨rfl,xs,hq⟩ | ⟨rfl,o,hk,hc,hd⟩ | ⟨rfl,hk⟩ | ⟨rfl,S,n,hk⟩
    . obtain⟨its,_,pl,_⟩:=I.list hq;refine⟨pl.isList.typeIs,λa e=>?_⟩;cases e;obtain⟨o,n,e,c,hd,_⟩:=pl;exact⟨o,e,hd⟩
    . refine⟨⟨o,I.kIn p o hk,hc⟩,λa e=>?_⟩;cases e;exact⟨o,I.kIn _ o hk,hd⟩
    . have z:∃o,s.heap.get? p=aa o/\o.ExactDict:=by
        rcases hk with⟨kvs,hk⟩ | ⟨ep,kvs,hk⟩
        . obtain⟨_,_,_,_,o,_,_,e,ex,_⟩:=I.hok p _ hk;exact⟨o,e,ex⟩
        . obtain⟨_,_,_,_,o,_,e,ex,_⟩:=I.hok p _ hk;exact⟨o,e,ex⟩
      obtain⟨o,e,ex⟩:=z;refine⟨⟨o,e,ex.1⟩,λa e2=>?_⟩;cases e2;exact⟨o,e,ex.2.1⟩
    . obtain⟨o,_,_,_,e,ex,_⟩:=I.hok p _ hk;refine⟨⟨o,e,ex.1⟩,λa e2=>?_⟩;cases e2;exact⟨o,e,ex.2.1⟩
  |_=>exact kj ty
noncomputable def R7(K:ak)(T:String)(r:V->List V->Hp->VK->Prop)(to:TE):TE:=λσ H Q=>to σ H λx H1=>Qk K T x H1/\r x [] H1 Q
noncomputable def UB(K:ak)(T:String)(r:V->List V->Hp->VK->Prop)(to:TE)(t:TA):TE:=λσ H Q=>to σ H λx H1=>Qk K T x H1/\t σ H1 λxs H2=>r x xs H2 Q
variable {o:Expr}{to:TE}{t:TA}{name:bt}{Yk Yl:ma}{id:String}{r:V->List V->Hp->VK->Prop}
theorem Ld(pa:PlainAttrs T)(slot:Slot T name id)(hty:typeOf (.builtin id)=jm (.type "method_descriptor"))(hm:TB X id r)(ho:PE X o to)
    (Yp:autoParam (nz o name X.env (fi o X.env)=fi o X.env) cH._auto_1) (Yq:autoParam ((Yk.endLine==Yl.line)=ai) cH._auto_1):PE X (.Call (.Attribute o name Yk) [] [] Yl) (R7 X.K T r to):=by
  intro pj s σ H Q I h;refine wpAny_Call_method0_late Yp Yq (thn (ho pj s σ H _ I h) λv s1 zz=>?_);obtain⟨x,H1,I1,r1,ty,q1⟩:=zz;obtain⟨h1,h2⟩:=Fh I1 r1 ty;exact⟨T,id,pa,slot,hty,h1,h2,yk rfl (PySem.evalArgs_none (hm pj s1 σ H1 x [] v [] Q I1 r1 .nil q1))⟩
theorem Ki(pa:PlainAttrs T)(slot:Slot T name id)(hty:typeOf (.builtin id)=jm (.type "method_descriptor"))(hm:TB X id r)(ho:PE X o to)(ha:PA X (e::es) t)
    (Yp:autoParam (nz o name X.env (fi o X.env)=fi o X.env) cH._auto_1)
    (hfew:autoParam (((jv Yl (bg (e::es) X.env)).all (λx=>!x.1)&&(xn Yl (sv [] X.env)).all (λx=>x.1.isSome)
      && decide ((e::es).length+([]:List Uu).length+(if ([]:List Uu).isEmpty then 0 else 1)<30))=ai) cH._auto_1)
    (Yq:autoParam ((Yk.endLine==Yl.line)=ai) cH._auto_1) (hs:autoParam (bg (e::es) X.env=(ap,fi e X.env)::bg es X.env) cH._auto_1) (Yw:autoParam ((jv Yl (bg es X.env)).any (·.1)=ap) cH._auto_1):
    PE X (.Call (.Attribute o name Yk) (e::es) [] Yl) (UB X.K T r to t):=by
  intro pj s σ H Q I h;refine wpAny_Call_method_late Yp hfew Yq rfl (thn (ho pj s σ H _ I h) λv s1 zz=>?_);obtain⟨x,H1,I1,r1,ty,q1⟩:=zz;obtain⟨h1,h2⟩:=Fh I1 r1 ty;refine⟨T,id,pa,slot,hty,h1,h2,?_⟩;have hA:=ha Yl pj s1 σ H1 _ I1 q1;rw[hs] at hA ⊢;refine yk (by show (ap || (jv Yl (bg es X.env)).any (·.1))=ap;rw[Yw]<;>rfl) (Calls.evalArgs_plain ?_);exact thn hA λus s2 zq3=>by obtain⟨vs,H2,I2,r2,q2⟩:=zq3;exact hm pj s2 σ H2 x vs v us Q I2 r1 r2 q2
/- xs.append(e),list.index on a module's tuple .. are TB facts of 06m -/
end
noncomputable def TC(X:Cx)(id:String)(r:V->List V->Hp->VK->Prop):Prop:=
  ∀(pj:List (af×lv)) (s:aj) (σ:St) (H:Hp) (x:V) (xs:List V) (v:ae) (us:List ae) (Q:VK),Inv X pj σ H s->cJ x v->bA xs us->r x xs H Q ->
    bz (cg X.prog X.w) X.A (call (.builtin id) (v::us)) (EP X pj σ Q) X.xe s
theorem bA.one:∀{x:V} {us:List ae},bA [x] us -> ∃u,us=[u]/\cJ x u
  |_,_,.cons r .nil=>⟨_,rfl,r⟩
theorem bA.zero:∀{us:List ae},bA [] us->us=[]
  |_,.nil=>rfl
theorem bA.reverse{xs:List V}{us:List ae}(h:bA xs us):bA xs.reverse us.reverse:=by
  induction h with
  |nil=>exact .nil
  |cons r t ih=>rw[yo,yo];exact bA.append ih (.cons r .nil)
theorem bA.rep{xs:List V}{us:List ae}(h:bA xs us):∀k:Nat,bA (au k xs).flatten (au k us).flatten
  |0=>.nil
  |k+1=>by
    rw[mh,mh,uh,uh];exact bA.append h (bA.rep h k)
theorem yN(its:List ae):∀(k:Nat) (acc:List ae),
    yp (λx1 x2=>x1++x2) acc.toArray (au k its.toArray)=(acc++(au k its).flatten).toArray
  |0,acc=>by simp
  |k+1,acc=>by
    have e:acc.toArray++its.toArray=(acc++its).toArray:=by simp
    have e2:(acc++its)++(au k its).flatten=acc++(au (k+1) its).flatten:=by
      rw[mh,uh,cm]
    rw[<- e2,<- yN its k (acc++its),<- e,mh,Wp]
variable {its:List ae}{t':Nat}
section
variable {l b:af}{ys zs:List V}
theorem Inv.lset{its':List ae}{f:Array ae->Array ae}(I:Inv X pj σ H s)(hH:H l=aa (.lst xs))
    (e:s.heap.get? l=aa { cls:=.type "list",data:=.seq its.toArray n }) (hf:f its.toArray=its'.toArray) (hv:bA ys its') (hz:ys.length<=bo):
    Inv X pj σ (upd H l (.lst ys)) { s with heap:=s.heap.update l (qg f),toks:=t' }:=by
  have q:=PySem.IsL.update e f;rw[hf] at q;refine I.write (x:=l) (e:=l) (by rw[hH];exact trivial) (.inl rfl) (λb' u hb hu=>(fv s.heap (qg f) (Ne.symm hb)).trans hu) ⟨_,q⟩ ?_;exact⟨hz,its',_,hv,q⟩
theorem Inv.lnew(I:Inv X pj σ H s)(hv:bA ys its)(hz:ys.length<=bo):
    Inv X pj σ (upd H s.heap.objs.size (.lst ys)) { s with heap:=s.heap.push { cls:=.type "list",data:=.seq its.toArray },toks:=t' }:=
  I.laid (λ_ _ q=>ao _ q) (bj _) ⟨hz,its,0,hv,cr _ rfl⟩
theorem Inv.fresh(I:Inv X pj σ H s):H s.heap.objs.size=aq:=I.hok.fresh (bj _)
theorem Inv.lstM(I:Inv X pj σ H s)(hH:H l=aa (.lst xs)):xs.length<=bo /\ ∃(its:List ae) (n:Nat),bA xs its/\xs.length=its.length/\s.heap.get? l=aa { cls:=.type "list",data:=.seq its.toArray n }:=by
  obtain⟨z,its,n,r,e⟩:=I.hok l _ hH;exact⟨z,its,n,r,r.length,e⟩
theorem BW(h:n<=bo):og n=ap:=by
  unfold og;exact decide_eq_false (by ac_rfl)
end
noncomputable def Iv:V->List V->Hp->VK->Prop:=λx vs H Q=>∃l xs y,x=.ref l/\vs=[y]/\H l=aa (.lst xs)/\xs.length<bo/\Q .non (upd H l (.lst (xs++[y])))
theorem yE:TC X "list.append" Iv:=by
  intro pj s σ H x vs v us Q I rx rv h;obtain⟨l,xs,y,rfl,rfl,hH,hz,q⟩:=h;cases rx;obtain⟨u,rfl,ru⟩:=rv.one;obtain⟨z,its,n,r,hl,e⟩:=I.lstM hH;refine yq F.slot_list_append ⟨_,e,rfl⟩ F.entry_list_append (F.args_list_append_2 _ _) (PySem.list_append l its.toArray n u (by rw[di];ac_rfl)) ⟨e,?_⟩;refine⟨.non,_,I.lset (its':=its++[u]) hH e (by simp) (r.append (.cons ru .nil)) ?_,rfl,q⟩;rw[br,fk];ac_rfl
noncomputable def Iu:V->List V->Hp->VK->Prop:=λx vs H Q=>∃l b xs zs,x=.ref l/\vs=[.ref b]/\H l=aa (.lst xs)/\H b=aa (.lst zs)/\xs.length+zs.length<=bo/\Q .non (upd H l (.lst (xs++zs)))
theorem Es:TC X "list.extend" Iu:=by
  intro pj s σ H x vs v us Q I rx rv h;obtain⟨l,b,xs,zs,rfl,rfl,hH,hB,hz,q⟩:=h;cases rx;obtain⟨u,rfl,ru⟩:=rv.one;cases ru;obtain⟨z,its,n,r,hl,e⟩:=I.lstM hH;obtain⟨z2,its2,n2,r2,hl2,e2⟩:=I.lstM hB;have hsz:its.toArray.size+its2.toArray.size<=bo:=by rw[di,di];ac_rfl
  have hlong:¬(!its.toArray.isEmpty&&og (its.toArray.size+its2.toArray.size))=ai:=by
    rw[BW hsz,Bool.and_false];exact mf
  refine yq F.slot_list_extend ⟨_,e,rfl⟩ F.entry_list_extend (F.args_list_extend_2 _ _)
    (AutoSeq1.list_extend_list_list_0 l its.toArray n b its2.toArray n2 hlong (by rw[di];ac_rfl) (by ac_rfl)) ⟨e,e2,?_⟩
  refine⟨.non,_,I.lset (its':=its++its2) hH e (by simp) (r.append r2) ?_,rfl,q⟩;rw[br];ac_rfl
noncomputable def GC:V->List V->Hp->VK->Prop:=λx vs H Q=>∃l xs,x=.ref l/\vs=[]/\H l=aa (.lst xs)/\Q .non (upd H l (.lst xs.reverse))
theorem Cn:TC X "list.reverse" GC:=by
  intro pj s σ H x vs v us Q I rx rv h;obtain⟨l,xs,rfl,rfl,hH,q⟩:=h;cases rx;have hus:=rv.zero;subst hus;obtain⟨z,its,n,r,hl,e⟩:=I.lstM hH;refine yq F.slot_list_reverse ⟨_,e,rfl⟩ F.entry_list_reverse (F.args_list_reverse_1 _) (AutoSeq1.list_reverse_list_0 l its.toArray n (by rw[di];ac_rfl)) ⟨e,?_⟩;refine⟨.non,_,I.lset (its':=its.reverse) hH e (by simp) r.reverse ?_,rfl,q⟩;rw[List.length_reverse];ac_rfl
noncomputable def RW:R2:=λx y H Q=>∃l b xs zs,x=.ref l/\y=.ref b/\H l=aa (.lst xs)/\H b=aa (.lst zs)/\xs.length+zs.length<=bo /\ ∀p,H p=aq->Q (.ref p) (upd H p (.lst (xs++zs)))
theorem Lq:lM X (jo .Add) RW:=by
  intro pj s σ H x y v u Q I rx ry h;obtain⟨l,b,xs,zs,rfl,rfl,hH,hB,hz,q⟩:=h;cases rx;cases ry;obtain⟨z,its,n,r,hl,e⟩:=I.lstM hH;obtain⟨z2,its2,n2,r2,hl2,e2⟩:=I.lstM hB;refine PySem.P.add_list e e2 ?_ (by rw[di,di];ac_rfl);have ea:its.toArray++its2.toArray=(its++its2).toArray:=by simp
  rw[ea];exact⟨.ref _,_,I.lnew (t':=s.toks) (r.append r2) (by rw[br];ac_rfl),rfl,q _ I.fresh⟩
noncomputable def RO:R2:=λx y H Q=>∃l k xs,x=.ref l/\y=.int k/\H l=aa (.lst xs) /\ -(2 ^ 63)<=k/\k<2 ^ 63/\xs.length*k.toNat<=bo /\
  ∀p,H p=aq->Q (.ref p) (upd H p (.lst (au k.toNat xs).flatten))
theorem Jh(xs:List α)(k:Nat):(au k xs).flatten.length=k*xs.length:=by
  induction k with
  |zero=>simp
  |succ k ih=>rw[mh,uh,br,ih,xp,wj]
theorem Lj:lM X (jo .Mult) RO:=by
  intro pj s σ H x y v u Q I rx ry h;obtain⟨l,k,xs,rfl,rfl,hH,h1,h2,hz,q⟩:=h;cases rx;obtain⟨t,rfl⟩:=ry;obtain⟨z,its,n,r,hl,e⟩:=I.lstM hH;have hlen:its.toArray.size*k.toNat<=bo:=by rw[di,<- hl];exact hz
  have hcap:¬its.toArray.size*k.toNat > (2 ^ 63-1) / 8:=by
    have:(bo:Nat)<=(2 ^ 63-1) / 8:=by decide
    ac_rfl
  have hfit:¬(!Builtin.List.listFitsIndex k)=ai:=by
    rw[fitsIndex_both h1 h2];exact mf
  have hlong:¬og (its.toArray.size*k.toNat)=ai:=by
    rw[BW hlen];exact mf
  have hnew:yp (λx1 x2=>x1++x2) #[] (au (if its.toArray.isEmpty=ai then 0 else k.toNat) its.toArray)=(au k.toNat its).flatten.toArray:=by
    have f0:∀m:Nat,yp (λx1 x2=>x1++x2) #[] (au m its.toArray)=(au m its).flatten.toArray:=λm=>by
      have:=yN its m [];rw[oh] at this;exact this
    rw[f0];cases its with
    |nil=>simp
    |cons a r'=>rw[XF (by simp)]
  refine wpAny_binaryOp_repeat_ref (T:="list") (U:="int") (by decide) ⟨_,e,rfl⟩ (λs'=>WN s' k t) noFill_list_mul F.fills_int_mul Wq repeat_list F.slot_int_index.lookup
    (yq Wq (WN s k t) F.entry_int_rmul (F.args_int_rmul_2 _ _) (int___rmul___int_list k t l its.toArray n)
      ⟨e,rfl,⟨_,e,rfl⟩,yq F.slot_list_mul ⟨_,e,rfl⟩ F.entry_list_mul (F.args_list_mul_2 _ _) (AutoListH.list___mul___list_int_3 l its.toArray n k t hfit hcap hlong) ⟨e,?_⟩⟩)
  rw[hnew];exact⟨.ref _,_,I.lnew (t':=s.toks) (r.rep k.toNat) (by rw[Jh,Xh];exact hz),rfl,q _ I.fresh⟩
end L2
namespace Att
open PySem PySem.W PySem.Calls PyProof.Rows
variable {P:Xi}
theorem u6:∀(ns:List Int) (vs:List ae),WellAll P h vs (ns.map WData.int)->qd vs ns:=by
  intro ns;induction ns with
  |nil=>
    intro vs w;rw[vx] at w;cases w;exact .nil
  |cons n ns ih=>
    intro vs w;rw[cp] at w;cases w with
    |cons a b=>
      cases a;exact .cons _ _ (ih _ b)
variable {l:OpenLaw}
theorem ER(hn:l.most=aa n){args:List WData}{vals:List ae}
    (hpre:l.row.toRowW.claim.pre args=ai) (hwl:WellAll P h vals args):
    ∃a vs ns,vals=[Value.ref a]/\args=[WData.list (ns.map WData.int)]/\h.get? a=aa { cls:=.type "list",data:=.seq vs.toArray }/\qd vs ns/\ns.length<=n:=by
  have hsh:WShape.hasAll [] args [.list .int]=ai:=(pre_splitW hpre).1;have hc:l.pre.holds [] { args:=args }=ai:=(pre_splitW hpre).2;obtain⟨d,r,rfl,h1,h2⟩:=hasAllW_cons hsh;obtain rfl:=hasAllW_nil h2;obtain⟨xs,rfl,h3⟩:=hasW_list h1;obtain⟨ns,rfl⟩:=items_int h3;have hlen:ns.length<=n:=by
    unfold OpenLaw.pre at hc;have h4:(WTm.not (.lt (.lit (.int (n:Int))) (.len (.arg 0)))).holds [] { args:=[.list (ns.map .int)] }=ai:=by
      have h4:=(holds_andW hc).1;rw[hn] at h4;exact h4
    have h5:=condW_of h4 (w_not (w_lt w_lit (w_len_list (w_arg rfl))));rw[bi] at h5;refine lh λq=>?_;have q':(n:Int)<((ns.length:Nat):Int):=(by ac_rfl)
    first
      | (rw[decide_eq_true q'] at h5;exact absurd h5 (by decide))
      | (simp at h5;ac_rfl)
  cases hwl with
  |cons w1 w2=>
    cases w2;cases w1 with
    |list ho hall=>exact⟨_,_,ns,rfl,rfl,ho,u6 ns _ hall,hlen⟩
theorem EY(l:OpenLaw)(args:List WData):l.row.toRowW.claim.post args (.bool ai) args=ai:=
  postW_of (r:=l.row.toRowW) (X:=(ai==ai))
    (show WShape.has [] (.bool ai) .bool=ai by first | rfl | decide | simp[WShape.has,WShape.arms,WShape.armsAll])
    (show (WTm.eq .res (.lit (.bool ai))).value [] { args:=args,res:=aa (.bool ai),after:=args }=aa (.bool (ai==ai)) from w_eq_bool (w_res rfl) w_lit) rfl
theorem C5{q:aw}{loose:List bt}{XP:(bt->Option ae)->dm->Prop}{YP:bv->dm->Prop}{d:DefRec}
    (hn:l.most=aa n) (hdf:d.params.defaults=[])
    (call:∀(w:bv) (s₀ s₁:aj) (mg mb:bt->Option ae) (fa:af) (o:lv) (pm cd doc:ae) (a:af) (vs:List ae) (ns:List Int),
      Ground q loose [] XP w s₀ mg mb s₁.heap->YP w s₁.heap ->
      s₁.heap.get? fa=aa o->o.data=.func (docDef d.name d.params d.body d.scope pm cd doc)->s₁.heap.CodeRec cd d.name->mg d.name=aa (.ref fa) ->
      s₁.heap.get? a=aa { cls:=.type "list",data:=.seq vs.toArray }->qd vs ns->ns.length<=n->s₁.gens = #[] ->
      yh (cg l.prog w) Uv (.call (.ref fa) ⟨[.ref a],[]⟩) (λr s'=>r=.ok (.ret (.bool ai))/\OldK s₁.heap s'.heap/\s'.os=s₁.os/\wy s'.gens) s₁):
    WalkO q loose XP YP l.row.toRowW d [] (λf vs=>PySem.call f vs):=by
  intro w s₀ s₁ mg mb G Y fa o pm cd doc dV kV ho hd hcd hD hmg hg args vals as hpre hlay hrd hwl hlo;obtain rfl:dV=.none:=Dflts.none hD hdf;obtain rfl:kV=.none:=Dflts.noKw hD;obtain⟨a,vs,ns,rfl,rfl,hobj,hints,hlen⟩:=ER hn hpre hwl;refine enter_call (yi (call w s₀ s₁ mg mb fa o pm cd doc a vs ns G Y ho (fd_plain hd) hcd hmg hobj hints hlen hg) λr s' hq=>?_);obtain⟨rfl,h2,h3,h4⟩:=hq;exact⟨.inl ⟨.bool ai,.bool ai,[],rfl,λ_=>rfl,.bool ai,EY l _,λ_=>⟨List.Pairwise.nil,λ_ hm=>(nomatch hm)⟩⟩,h2,h3,h4⟩
section
variable {K:Frag}
end
end Att
variable {H' H1:L2.Hp}
namespace L2
theorem xP:∀{vs:List ae} {ns:List Int},qd vs ns->bA (ns.map V.int) vs
  |_,_,.nil=>.nil
  |_,_,.cons n t h=>.cons ⟨t,rfl⟩ (xP h)
noncomputable def IQ(H:Hp):Prop:=∀b,H b=aq \/ ∃o xs,H b=aa (.frz o (.lst xs))
variable {fd:jw}{sp:Sp}
theorem HW{mb:bt->Option ae}{CX:IS}{k:Nat}{fa:af}{s₁:aj}{vs:List ae}
    (KX:K.In s₁.heap) (hns:s₁.heap.Ns je mg) (hb:s₁.heap.Ns WD mb) (hbb:∀x:bt,x ≠ "__name__" -> mb x=ph x) (hlim:s₁.heap.NoLimit) (hg:s₁.gens = #[])
    (ha:s₁.heap.get? a=aa { cls:=.type "list",data:=.seq vs.toArray }) (hi:qd vs ns) (hl:ns.length<=bo) (hr:Room k Uv)
    (F:∀base:dm,K.In base->base.Ns je mg->FnOk P w K mg base CX k fa fd [x] sp) (hbind:∀(s:aj) (u:ae),Vs s fd ⟨[u],[]⟩ [(x,u)])
    (hsp:∀H:Hp,IQ H->fU K H a (ns.map V.int)->sp [.ref a] H (λv _=>v=.bl ai) λ_ _ _=>False)
    (hCX:∀H e s',CX [] H s₁ (λ_ _ _=>False) e s'->False):
    yh (cg P w) Uv (.call (.ref fa) ⟨[.ref a],[]⟩) (λr s'=>r=.ok (.ret (.bool ai))/\OldK s₁.heap s'.heap/\s'.os=s₁.os/\wy s'.gens) s₁:=by
  have rv:=xP hi;have lenV:=hi.length;have core:∀H:Hp,IQ H->fU K H a (ns.map V.int)->qV P w H s₁.heap->(∀b,H b≠aq->b=a)->(H a≠aq->K.lookup a=aq) ->
      yh (cg P w) Uv (.call (.ref fa) ⟨[.ref a],[]⟩) (λr s'=>r=.ok (.ret (.bool ai))/\OldK s₁.heap s'.heap/\s'.os=s₁.os/\wy s'.gens) s₁:=by
    intro H hO hS hok hA hK;have base_of:∀{b:af} {o:lv},s₁.heap.get? b=aa o->H b=aq->(A7 s₁.heap H).get? b=aa o:=λe n=>Hl e n;have noA:∀{b:af} {o:lv} {es:Array DictEntry} {ep:Nat},s₁.heap.get? b=aa o->o.data=.dict es ep->H b=aq:=λ{b o es ep} e d=>by
      cases q:H b with
      |none=>rfl
      |some u=>
        have e':b=a:=hA b (by rw[q];simp);subst e';rw[ha] at e;cases e;have d':Data.seq vs.toArray _=Data.dict es ep:=d;cases d'
    have nsK:∀{b:af} {m:bt->Option ae},s₁.heap.Ns b m->(A7 s₁.heap H).Ns b m:=λ{b m} ⟨o,es,ep,e,d,r⟩=>⟨o,es,ep,base_of e (noA e d),d,r⟩;have hKb:K.In (A7 s₁.heap H):=λb o e=>base_of (KX b o e) (by
      cases q:H b with
      |none=>rfl
      |some u=>
        have e':b=a:=hA b (by rw[q];simp);subst e';rw[hK (by rw[q];simp)] at e;cases e)
    have hM:Mod K mg (A7 s₁.heap H):=⟨hKb,nsK hns,⟨mb,nsK hb,hbb⟩,let ⟨mc,h1,h2⟩:=hlim;⟨mc,nsK h1,h2⟩⟩;have e0:Env0 P w K mg (A7 s₁.heap H) Uv [] s₁ H:=⟨rfl,hM,λb o e=>JR e,XC (FD _ _),trivial,λb hb=>absurd (show b∈([]:List af) from hb) (by simp),hok,.of_eq hg⟩;refine yi ((F _ hKb (nsK hns)).run Uv [] s₁ H ⟨[.ref a],[]⟩ [.ref a] [.ref a] _ _ hr e0 (hbind s₁ (.ref a)) (.cons rfl .nil) (hsp H hO hS)) λr s' h=>?_;cases r with
    |error e=>exact(hCX H e s' h).elim
    |ok fl=>
      cases fl with
      |next=>exact kj h
      |brk=>exact kj h
      |cont=>exact kj h
      |ret u=>
        obtain⟨v,H',os,bare,un,hok',r',q⟩:=h;have q':v=.bl ai:=q;subst q';obtain rfl:u=Vb ai:=r';refine⟨rfl,OldK.of_keep λb o e=>?_,os,bare⟩;cases q:H b with
        |none=>exact un.keep b o e q (by intro z;exact absurd (show b∈([]:List af) from z) (by simp)) (by simp)
        |some u=>
          rcases hO b with z | ⟨ob,xs,z⟩
          . rw[q] at z;cases z
          . have z2:=un.frzs b ob _ z;obtain⟨e1,_⟩:=hok b _ z;obtain⟨e2,_⟩:=hok' b _ z2;rw[e] at e1;cases e1;exact e2
  cases hk:K.lookup a with
  |some o=>
    have e:=KX a o hk;rw[ha] at e;cases e;refine core (λ_=>aq) (λ_=>.inl rfl) (.inr ⟨_,vs.toArray,_,hk,rfl,rfl,rfl,by rw[di,lenV];exact hl,by simpa using rv⟩) (λb u z=>by have z':(aq:Option HO)=aa u:=z;cases z') (λb z=>absurd rfl z) λz=>absurd rfl z
  |none=>
    refine core (λb=>if b=a then aa (.frz { cls:=.type "list",data:=.seq vs.toArray } (.lst (ns.map V.int))) else aq) (λb=>?_) (.inl (.inr ⟨{ cls:=.type "list",data:=.seq vs.toArray },Y4 rfl⟩)) (λb u z=>?_) (λb z=>?_) λ_=>hk
    . by_cases hb:b=a
      . exact .inr ⟨_,_,Y4 hb⟩
      . exact .inl (XF hb)
    . by_cases hb:b=a
      . have z':=(Y4 hb).symm.trans z;cases z';subst hb;exact⟨ha,by rw[bi];exact hl,vs,_,rv,ha⟩
      . have z':=(XF hb).symm.trans z;cases z'
    . by_cases hb:b=a
      . exact hb
      . exact absurd (XF hb) z
theorem IZ{l:W.OpenLaw}{k:Nat}{q:aw}{loose:List bt}{XP:(bt->Option ae)->dm->Prop}{YP:bv->dm->Prop}{d:DefRec}{K:Xi->ak}{CX:bv->IS}{sp:bv->Sp}
    (hn:l.most=aa n) (hn2:n<=bo) (hdf:d.params.defaults=[]) (hr:Room k Uv)
    (hY:∀(w:bv) (h:dm),YP w h->(K w.params).In h)
    (F:∀(w:bv) (mg:bt->Option ae) (fa:af) (h:dm),(K w.params).In h->h.Ns je mg->mg d.name=aa (.ref fa) ->
      ∃fd:jw,(∀(s:aj) (u:ae),Vs s fd ⟨[u],[]⟩ [(x,u)]) /\
        ∀base:dm,(K w.params).In base->base.Ns je mg->FnOk l.prog w (K w.params) mg base (CX w) k fa fd [x] (sp w))
    (hsp:∀(w:bv) (H:Hp) (a:af) (ns:List Int),ns.length<=n->IQ H->fU (K w.params) H a (ns.map V.int)->sp w [.ref a] H (λv _=>v=.bl ai) λ_ _ _=>False)
    (hCX:∀(w:bv) (H:Hp) (s:aj) (e:ae) (s':aj),CX w [] H s (λ_ _ _=>False) e s'->False):
    W.WalkO q loose XP YP l.row.toRowW d [] (λf vs=>PySem.call f vs):=by
  refine Att.C5 hn hdf λw s₀ s₁ mg mb fa o pm cd doc a vs ns G Y ho hd hcd hmg hobj hints hlen hg=>?_;have KX:=hY w _ Y;obtain⟨fd,hb,hF⟩:=F w mg fa _ KX G.T.g hmg;exact HW KX G.T.g G.T.b G.T.builtins G.T.nolimit hg hobj hints (om hlen hn2) hr hF hb (λH hO hS=>hsp w H a ns hlen hO hS) λH e s'=>hCX w H s₁ e s'
noncomputable def fR(s:kx)(j:Nat):kx:=match s with
  | .ClassDef _ _ _ Yj _ _ _ _ _ _ _=>Yj.getD j (.Pass ⟨0,0,0,0⟩)
  |_=>.Pass ⟨0,0,0,0⟩
noncomputable def jK(s:kx):Arguments:=match s with
  | .FunctionDef _ a _ _ _ _ _ _ _ _=>a
  |_=>{ posonlyargs:=[],args:=[],vararg:=aq,kwonlyargs:=[],kw_defaults:=[],kwarg:=aq,defaults:=[] }
noncomputable def eG(s:kx):List kx:=match s with
  | .FunctionDef _ _ b _ _ _ _ _ _ _=>b
  |_=>[]
noncomputable def aI(s:kx):Scope:=match s with
  | .FunctionDef _ _ _ _ _ _ sc _ _ _=>sc
  |_=>{ kind:=.function,names:=[],isGenerator:=ap,isCoroutine:=ap }
noncomputable abbrev CC:IS:=λ_ _ _ _ _ _=>False
noncomputable abbrev E0:XK:=λ_ _ _=>False
theorem BC:qU CC X E0:=λ_ _ _ _ _ _ _ h=>h.elim
structure Fun(K:ak)(x qual:bt)(st:kx)(f:af)(fd:jw):Prop where
  ex:∃(oc:ae) (od:Option af) (kV doc pm:ae) (an:Option af) (cdv ct:ae) (osl:Array (Option ae)),
    fd=xj x qual (jK st) (eG st) (aI st) .none kV doc pm an cdv ct/\K.lookup f=aa ⟨oc,od,.func fd,osl⟩/\Ud K cdv qual=ai
  kp:rh K (.ref f)=ai
variable {Y8:bt}{st:kx}{f:af}
theorem Fun.ok{k:Nat}(F:Fun K x Y8 st f fd)(S:FnScope N ps (aI st))(len:∀vs H Q E,sp vs H Q E->vs.length=ps.length)
    (Yv:∀(cdv:ae) (A:de) (outer:List zl) (s:aj) (H:Hp) (vs:List V) (Q:VK) (E:XK),Room k (A.deeper (uf Y8 (aI st) s.heap.objs.size f cdv))->sp vs H Q E ->
      ∃t,yV (u7 CC P w K mg base N Y8 (aI st) f cdv A outer s H E).nox (eG st) t/\t { nx:=λ_ H'=>Q .non H',rt:=Q } (start N vs) H):FnOk P w K mg base CC (k+1) f fd ps sp:=by
  obtain⟨oc,od,kV,doc,pm,an,cdv,ct,osl,rfl,lk,hcd⟩:=F.ex;refine Oo lk hcd S len λA outer s H vs Q E hr hsp=>?_;obtain⟨t,h,q⟩:=Yv cdv A outer s H vs Q E hr hsp;exact⟨t,h.nox,q⟩
theorem Fun.binds(F:Fun K x Y8 st f fd)
    (h:∀(kV doc pm:ae) (an:Option af) (cdv ct:ae) (us:List ae),us.length=ps.length->XE (xj x Y8 (jK st) (eG st) (aI st) .none kV doc pm an cdv ct) ⟨us,[]⟩=jm (ps.zip us)):k9 K fd ps []:=by
  obtain⟨oc,od,kV,doc,pm,an,cdv,ct,osl,rfl,lk,hcd⟩:=F.ex;exact .all (h kV doc pm an cdv ct)
theorem AB{oc:ae}{od an:Option af}{osl:Array (Option ae)}{kV doc pm cdv ct:ae}(l:K.lookup f=aa ⟨oc,od,.func (xj x Y8 (jK st) (eG st) (aI st) .none kV doc pm an cdv ct),osl⟩)
    (c:Ud K cdv Y8=ai) (k:rh K (.ref f)=ai):Fun K x Y8 st f (xj x Y8 (jK st) (eG st) (aI st) .none kV doc pm an cdv ct):=⟨⟨oc,od,kV,doc,pm,an,cdv,ct,osl,rfl,l,c⟩,k⟩
theorem eX{k:Nat}(hr:Room k A):A.units+1<mw:=wl (Nat.add_le_add_left (by decide:1<=64) _) hr.units
theorem EO(h:n<=1000):n<bo:=wl h (by decide)
theorem pv(i:Nat){pos:ma}(hN:autoParam (X.N[i]?=aa x) cH._auto_1)(hv:Qh X.env.scope x:=by first | exact Or.inl rfl | exact Or.inr (.inl rfl) | exact Or.inr (.inr rfl))(hd:autoParam ((x==("__debug__" : bt))=ap) pL._auto_1)
    (hcd:autoParam ((x==("__classdict__" : bt))=ap) pL._auto_1):PE X (.Name x pos) (Aq i):=LV hN hv hd hcd
variable {B:Prop}
theorem pA{A:Prop}(h:B):if ap=ai then A else B:=by
  rw[XF mf];exact h
theorem mZ{A:Prop}(h:A):if ai=ai then A else B:=by
  rw[Y4 rfl];exact h
theorem MR{c A:Prop}[Decidable c](h1:c->A)(h2:¬c->B):if c then A else B:=by
  by_cases h:c
  . rw[Y4 h];exact h1 h
  . rw[XF h];exact h2 h
noncomputable def aS(H H':Hp):Prop:=∀b o,H b=aa o->H' b=aa o
theorem aS.refl(H:Hp):aS H H:=λ_ _ h=>h
theorem aS.trans{H2:Hp}(a:aS H H1)(b:aS H1 H2):aS H H2:=λc o h=>b c o (a c o h)
theorem aS.free(e:aS H H'){l:af}(h:H' l=aq):H l=aq:=by
  cases q:H l with
  |none=>rfl
  |some o=>
    rw[e l o q] at h;cases h
end L2
set_option maxHeartbeats 4000000
variable {ifs:List Expr}{kvs:List (List L2.cE×L2.V)}
namespace L2
noncomputable def PZ(i j:Int):Prop:=0<j/\j<2 ^ 200
theorem Gq:lM X (jo .FloorDiv) (rI PZ λi j=>.int (i / j)):=Rv λi j _ _ _ _ _ hc q=>by
  have p1:(0:Int)<j:=hc.1;have p2:j<2 ^ 200:=hc.2;have p3:j.natAbs<2 ^ 200:=(by ac_rfl);have p4:j.natAbs.log2<200:=(XG (by ac_rfl)).mpr p3;refine floordiv_int (by ac_rfl) ?_ (.inl (PyProof.noPylong_of_log2 (by ac_rfl)));rw[Int.fdiv_eq_ediv_of_nonneg i (by ac_rfl)];exact q
theorem GW{n:Int}{pos:ma}(hm:∃t,X.mg x=aa (.int n t))(hg:autoParam (Gl X x) cH._auto_1)(hd:autoParam ((x==("__debug__" : bt))=ap) pL._auto_1):PE X (.Name x pos) (tC (.int n)):=by
  obtain⟨t,h⟩:=hm;exact JF hg h ⟨t,rfl⟩ hd
variable {t':Nat}{fp:List af}{ob:HO}{h':dm}
theorem Inv.turnedL(I:Inv X pj σ H s)(hf:∀b∈fp,wR X pj H b)(k:∀b o,b ∉ fp->s.heap.get? b=aa o->h'.get? b=aa o):Inv X pj σ H { s with heap:=h',toks:=t' }:=by
  have nf:∀b u,H b=aa u->b ∉ fp:=λb u e z=>by have:=(hf b z).1;rw[e] at this;cases this
  refine I.step (g':=s.gens) (d':=s.drawn) (ch:=fp) (λb hb=>?_) (λb o _ _ hc e _=>k b o hc e) (λb o _ _ hc e _=>⟨o.slots,k b o hc e⟩) (λ_ _ _ _ n=>n) (λb o hc e=>⟨o,k b o hc e⟩) (λ_ _ e=>e) (λ_ _ _ e=>e)
    (λb ps e=>⟨#[],by rw[e];simp⟩) (λm hm=>?_) (λb u e=>?_) I.bare
  . obtain⟨_,f1,_,f3,f4,f5⟩:=hf b hb;exact⟨f3,f1,f4,f5⟩
  . obtain⟨o,es,ep,ho,r⟩:=hm;exact⟨o,es,ep,k _ o (λz=>(hf _ z).2.1 rfl) ho,r⟩
  . refine(I.hok b u e).stay (λc v hc q=>k c v ?_ q) (λ_ q=>q) (λ_ _ q=>q) λ_ _ q=>q;rcases hc with z | z
    . rw[z];exact nf b u e
    . exact nf c _ z
theorem Inv.turnedN{T:af}(I:Inv X pj σ H s)(hf:∀b∈fp,wR X pj H b)(k:∀b o,b ∉ fp->s.heap.get? b=aa o->h'.get? b=aa o)(hT:s.heap.objs.size<=T)
    (new:d5 X.prog X.w (upd H T ob) h' T ob):Inv X pj σ (upd H T ob) { s with heap:=h',toks:=t' }:=by
  have hn:H T=aq:=I.hok.fresh hT;have nf:∀b u,H b=aa u->b ∉ fp:=λb u e z=>by have:=(hf b z).1;rw[e] at this;cases this
  have nT:∀b o,s.heap.get? b=aa o->b≠T:=λb o e=>fq (ef (bf e) hT);refine I.step (g':=s.gens) (d':=s.drawn) (ch:=fp) (λb hb=>?_) (λb o _ _ hc e _=>k b o hc e) (λb o _ _ hc e _=>⟨o.slots,k b o hc e⟩) (λb o _ e n=>by rw[bF (nT b o e)];exact n) (λb o hc e=>⟨o,k b o hc e⟩)
    (λb xs e=>by rw[bF (bC e hn)];exact e) (λb _ _ e=>by rw[bF (bC e hn)];exact e)
    (λb ps e=>⟨#[],by rw[bF (bC e hn),e];simp⟩) (λm hm=>?_) (λb u e=>?_) I.bare
  . obtain⟨_,f1,_,f3,f4,f5⟩:=hf b hb;exact⟨f3,f1,f4,f5⟩
  . obtain⟨o,es,ep,ho,r⟩:=hm;exact⟨o,es,ep,k _ o (λz=>(hf _ z).2.1 rfl) ho,r⟩
  . by_cases hb:b=T
    . subst hb;rw[c7] at e;cases e;exact new
    . rw[bF hb] at e;refine(I.hok b u e).stay (λc v hc q=>k c v ?_ q) (λc q=>by rw[bF (bC q hn)];exact q) (λc xs q=>by rw[bF (bC q hn)];exact q) λc xs q=>by rw[bF (bC q hn)];exact q
      rcases hc with z | z
      . rw[z];exact nf b u e
      . exact nf c _ z
noncomputable def Qi(K:ak)(a:af):It:=
  ⟨λi H=>∃xs x,fU K H a xs/\xs[i]?=aa x,λi H v H'=>∃T x,H T=aq/\v=.ref T/\H'=upd H T (.tup [.int i,x]) /\ ∀xs,fU K H a xs->xs[i]?=aa x,λi H=>∃xs,fU K H a xs/\xs.length<=i⟩
variable {elts:List Expr}{x1:Nat}
theorem EF{pos:ma}(a e it:af)(hne:e≠it):
    Turn P w K (.Tuple elts x1 pos) (Qi K a) [e,it] e (λi h=>(∃old,IsEnum h e it (i:Nat) old)/\h.IsListIter it a i) where
  mem:=by simp
  obj:=λi h st b hb=>by
    obtain⟨⟨old,he⟩,o,ho,c,d⟩:=st;rcases bq.mp hb with rfl | hb
    . exact⟨_,he,λv z=>by cases z⟩
    . rw[dq.mp hb];exact⟨o,ho,λv z=>by rw[d] at z;cases z⟩
  keep:=λi h h' st k=>⟨let ⟨old,he⟩:=st.1;⟨old,k e (by simp) _ he⟩,st.2.at λo q=>k it (by simp) o q⟩
  item:=by
    intro X hP hw hK hc i pj s σ H E I hf st hg;subst hP hw hK;obtain⟨xs,x,hq,hx⟩:=hg;obtain⟨its,rv,p,hz⟩:=I.list hq;obtain⟨u,hu,ru⟩:=rv.get hx;obtain⟨⟨old,he⟩,hit⟩:=st;refine wpAny_pyNext_enum_item he hit p.isList (x:=u) (by simpa using hu) hne λh1 heo hit1 ht hsz hk=>⟨_,rfl,?_⟩;refine wpAny_letOwnedTupleGo_enum heo λh2 he2 hs2=>?_;have heL:e<s.heap.objs.size:=bf he;have hn:H s.heap.objs.size=aq:=I.hok.fresh (bj _);have k2:∀b o,b ∉ [e,it]->s.heap.get? b=aa o->h2.get? b=aa o:=λb o hb q=>by
      have b1:b≠e:=λz=>hb (by simp[z]);have b2:b≠it:=λz=>hb (by simp[z]);exact(hs2.2 b b1).trans (hk b o b1 b2 q)
    have tt:h2.get? s.heap.objs.size=aa { cls:=.type "tuple",data:=.seq #[.int i s.toks,u] }:=(hs2.2 _ (Xz heL)).trans ht;refine⟨.ref s.heap.objs.size,_,I.turnedN (ob:=.tup [.int i,x]) (T:=s.heap.objs.size) (t':=s.toks+1) hf k2 (bj _) ?_,rfl,⟨_,x,hn,rfl,rfl,λys hy=>by rw[I.list_inj hy hq];exact hx⟩,⟨⟨u,?_⟩,hit1.extBut hs2.extBut (Ne.symm hne)⟩,λb hb=>?_⟩
    . exact⟨(by decide:2<=bo),[.int i s.toks,u],.cons ⟨_,rfl⟩ (.cons ru .nil),_,tt,rfl,_,rfl⟩
    . have:((i+1:Nat):Int)=(i:Int)+1:=(by ac_rfl);rw[this];exact he2
    . have hb1:=(hf b hb).1;rw[bF ?_]
      . exact hb1
      . rintro rfl;obtain⟨o,ho,_⟩:=id hit;rcases bq.mp hb with z | z
        . exact absurd heL (by rw[<- z];exact qi _)
        . have:=bf ho;rw[<- dq.mp z] at this;exact qi _ this
  done:=by
    intro X hP hw hK hc i pj s σ H E I hf st hg;subst hP hw hK;obtain⟨xs,hq,hx⟩:=hg;obtain⟨its,rv,p,hz⟩:=I.list hq;obtain⟨⟨old,he⟩,hit⟩:=st;have hl:=rv.length;exact Hw I.qu he hit p.isList (by simp;ac_rfl) λh1 eb=>⟨rfl,I.turnedL (t':=s.toks) hf λb o hb q=>eb b o (λz=>hb (by simp[z])) q⟩
  self:=λ_ _ _ _ _ st h=>by
    obtain⟨⟨old,he⟩,_⟩:=st;exact Vx he h
variable {tp:ma}{ta:TA}
noncomputable def Oj(K:ak)(ta:TA):TI:=λσ H R=>ta σ H λvs H1=>∃a,vs=[.ref a]/\(∃xs,fU K H1 a xs)/\R (Qi K a) H1
theorem JC{a:Expr}{pos:ma}(hg:Gl X "enumerate")(hm:X.mg "enumerate" = aq)(ha:PA X [a] ta)(hs:autoParam (bg [a] X.env=[(ap,fi a X.env)]) cH._auto_1):
    PI X (.Tuple elts x1 tp) (.Call (.Name "enumerate" p) [a] [] pos) (Oj X.K ta):=by
  intro pj s σ H R I h;refine Y2 (nY I hg hm boot_enumerate (gh (thn (ha pos pj s σ H _ I h) λus s1 ⟨vs,H1,I1,r1,q1⟩=>?_) hs rfl));obtain⟨l,e,⟨xs,hq⟩,q⟩:=q1;subst e;obtain⟨u,rfl,ru⟩:=jQ r1;cases ru;obtain⟨its,rv,pl,hz⟩:=I1.list hq;refine call_enumerate_list pl.isList λh1 he hit hsz hk=>Vx he ?_;have I2:Inv X pj σ H1 { s1 with heap:=h1 }:=I1.kept (t':=s1.toks) hk;refine⟨s1.heap.objs.size+1,[s1.heap.objs.size+1,s1.heap.objs.size],_,_,H1,rfl,I2,EF l _ _ (Nat.succ_ne_self _),⟨⟨_,he⟩,hit⟩,λb hb=>?_,q⟩;refine I1.fpOk ?_ (I1.hok.fresh ?_)
  all_goals
    rcases bq.mp hb with z | z
    . rw[z];exact tz _
    . rw[dq.mp z];exact bj _
noncomputable def TH(a b:af):It:=
  ⟨λi H=>∃xs ys x y,H a=aa (.lst xs)/\H b=aa (.lst ys)/\xs[i]?=aa x/\ys[i]?=aa y,
   λi H v H'=>∃T x y,H T=aq/\v=.ref T/\H'=upd H T (.tup [x,y])/\(∀xs,H a=aa (.lst xs)->xs[i]?=aa x) /\ ∀ys,H b=aa (.lst ys)->ys[i]?=aa y,
   λi H=>∃xs ys,H a=aa (.lst xs)/\H b=aa (.lst ys)/\(xs.length<=i \/ ys.length<=i)⟩
structure ZApart(z TI TO i1 i2:af):Prop where
  a:TI≠z
  b:TO≠z
  c:i1≠z
  d:i2≠z
  e:TI≠TO
  f:TI≠i1
  g:TI≠i2
  h:TO≠i1
  i:TO≠i2
  j:i1≠i2
theorem Fi{pos:ma}(a b z TI TO i1 i2:af)(Z:ZApart z TI TO i1 i2):
    Turn P w K (.Tuple elts x1 pos) (TH a b) [z,TI,TO,i1,i2] z (λi h=>Y0 h z TI TO .none/\WC h TI (.ref i1) (.ref i2)/\(∃p q,WC h TO p q)/\h.IsListIter i1 a i/\h.IsListIter i2 b i) where
  mem:=by simp
  obj:=λi h st c hc=>by
    obtain⟨hz,hI,⟨p,q,hO⟩,⟨o1,h1,_,d1⟩,⟨o2,h2,_,d2⟩⟩:=st;simp only[bq,ip,or_false] at hc;rcases hc with rfl | rfl | rfl | rfl | rfl
    . exact⟨_,hz,λv y=>by cases y⟩
    . exact⟨_,hI,λv y=>by cases y⟩
    . exact⟨_,hO,λv y=>by cases y⟩
    . exact⟨_,h1,λv y=>by rw[d1] at y;cases y⟩
    . exact⟨_,h2,λv y=>by rw[d2] at y;cases y⟩
  keep:=λi h h' st k=>by
    obtain⟨hz,hI,⟨p,q,hO⟩,h1,h2⟩:=st;exact⟨k z (by simp) _ hz,k TI (by simp) _ hI,⟨p,q,k TO (by simp) _ hO⟩,h1.at λo y=>k i1 (by simp) o y,h2.at λo y=>k i2 (by simp) o y⟩
  item:=by
    intro X hP hw hK hc i pj s σ H E I hf st hg;subst hP hw hK;obtain⟨xs,ys,x,y,ha,hb,hx,hy⟩:=hg;obtain⟨its,rv,pl,hz1⟩:=I.list (fU.of ha);obtain⟨its2,rv2,pl2,hz2⟩:=I.list (fU.of hb);obtain⟨u,hu,ru⟩:=rv.get hx;obtain⟨u2,hu2,ru2⟩:=rv2.get hy;obtain⟨hz,hI,⟨p,q,hO⟩,h1,h2⟩:=st;have na:∀c∈[z,TI,TO,i1,i2],a≠c:=λc hc=>bC ha (hf c hc).1;have nb:∀c∈[z,TI,TO,i1,i2],b≠c:=λc hc=>bC hb (hf c hc).1;have D:Xu z TI TO i1 i2 a b:=⟨Z.a,Z.b,Z.c,Z.d,Z.e,Z.f,Z.g,Z.h,Z.i,Z.j,na z (by simp),na TO (by simp),na i1 (by simp),na i2 (by simp),nb z (by simp),nb TO (by simp),nb i1 (by simp),nb i2 (by simp)⟩;refine wpAny_pyNext_zip_item D hz hI hO h1 h2 pl.isList pl2.isList (x:=u) (y:=u2) (by simpa using hu) (by simpa using hu2) λg a1 a2 a3 a4 a5 a6 hk=>⟨_,rfl,?_⟩;refine wpAny_letOwnedTupleGo_zip a1 λg2 hz2 hs2=>?_;have hn:H s.heap.objs.size=aq:=I.hok.fresh (bj _);have zL:z<s.heap.objs.size:=bf hz;have lt:∀{c:af} {o:lv},s.heap.get? c=aa o->c≠s.heap.objs.size:=λe=>fq (bf e);have k2:∀c o,c ∉ [z,TI,TO,i1,i2]->s.heap.get? c=aa o->g2.get? c=aa o:=λc o hc e=>by
      simp only[bq,ip,or_false,not_or] at hc;exact(hs2.2 c hc.1).trans (hk c o hc.1 hc.2.2.1 hc.2.2.2.1 hc.2.2.2.2 e)
    have tt:g2.get? s.heap.objs.size=aa { cls:=.type "tuple",data:=.seq #[u,u2] }:=(hs2.2 _ (Xz zL)).trans a5;refine⟨.ref s.heap.objs.size,_,I.turnedN (ob:=.tup [x,y]) (T:=s.heap.objs.size) (t':=s.toks) hf k2 (bj _) ?_,rfl,
      ⟨_,x,y,hn,rfl,rfl,λzs hzs=>by rw[ha] at hzs;cases hzs;exact hx,λzs hzs=>by rw[hb] at hzs;cases hzs;exact hy⟩,
      ⟨hz2,hs2.extBut _ _ Z.a (hk _ _ Z.a Z.e Z.f Z.g hI),⟨_,_,hs2.extBut _ _ Z.b a2⟩,a3.extBut hs2.extBut Z.c,a4.extBut hs2.extBut Z.d⟩,λc hc=>?_⟩
    . exact⟨(by decide:2<=bo),[u,u2],.cons ru (.cons ru2 .nil),_,tt,rfl,_,rfl⟩
    . have hc1:=(hf c hc).1;have:c≠s.heap.objs.size:=by
        simp only[bq,ip,or_false] at hc;rcases hc with rfl | rfl | rfl | rfl | rfl
        . exact lt hz
        . exact lt hI
        . exact lt hO
        . obtain⟨o,e,_⟩:=h1;exact lt e
        . obtain⟨o,e,_⟩:=h2;exact lt e
      rw[bF this];exact hc1
  done:=by
    intro X hP hw hK hc i pj s σ H E I hf st hg;subst hP hw hK;obtain⟨xs,ys,ha,hb,hor⟩:=hg;obtain⟨its,rv,pl,hz1⟩:=I.list (fU.of ha);obtain⟨its2,rv2,pl2,hz2⟩:=I.list (fU.of hb);obtain⟨hz,hI,⟨p,q,hO⟩,h1,h2⟩:=st;have na:∀c∈[z,TI,TO,i1,i2],a≠c:=λc hc=>bC ha (hf c hc).1;have nb:∀c∈[z,TI,TO,i1,i2],b≠c:=λc hc=>bC hb (hf c hc).1;have D:Xu z TI TO i1 i2 a b:=⟨Z.a,Z.b,Z.c,Z.d,Z.e,Z.f,Z.g,Z.h,Z.i,Z.j,na z (by simp),na TO (by simp),na i1 (by simp),na i2 (by simp),nb z (by simp),nb TO (by simp),nb i1 (by simp),nb i2 (by simp)⟩;have l1:=rv.length;have l2:=rv2.length;refine K9 I.qu D hz hI hO h1 h2 pl.isList pl2.isList ?_ λg hk=>⟨rfl,I.turnedL (t':=s.toks) hf λc o hc e=>?_⟩
    . rcases hor with h | h
      . exact .inl (by simp;ac_rfl)
      . exact .inr (by simp;ac_rfl)
    . simp only[bq,ip,or_false,not_or] at hc;exact hk c o hc.1 hc.2.2.1 hc.2.2.2.1 hc.2.2.2.2 e
  self:=λ_ _ _ _ _ st h=>VV st.1 h
theorem zapart(n:Nat):ZApart (n+4) (n+2) (n+3) n (n+1):=
  ⟨λe=>by have e':(n+2:Nat)=n+4:=e;ac_rfl,λe=>by have e':(n+3:Nat)=n+4:=e;ac_rfl,λe=>by have e':(n:Nat)=n+4:=e;ac_rfl,λe=>by have e':(n+1:Nat)=n+4:=e;ac_rfl,
   λe=>by have e':(n+2:Nat)=n+3:=e;ac_rfl,λe=>by have e':(n+2:Nat)=n:=e;ac_rfl,λe=>by have e':(n+2:Nat)=n+1:=e;ac_rfl,λe=>by have e':(n+3:Nat)=n:=e;ac_rfl,
   λe=>by have e':(n+3:Nat)=n+1:=e;ac_rfl,λe=>by have e':(n:Nat)=n+1:=e;ac_rfl⟩
noncomputable def SZ(ta:TA):TI:=λσ H R=>ta σ H λvs H1=>∃a b,vs=[.ref a,.ref b]/\(∃xs,H1 a=aa (.lst xs))/\(∃ys,H1 b=aa (.lst ys))/\R (TH a b) H1
theorem LR{a b:Expr}{pos:ma}(hg:Gl X "zip")(hm:X.mg "zip" = aq)(ha:PA X [a,b] ta)
    (hs:autoParam (bg [a,b] X.env=[(ap,fi a X.env),(ap,fi b X.env)]) cH._auto_1) (hs2:autoParam (bg [b] X.env=[(ap,fi b X.env)]) cH._auto_1):
    PI X (.Tuple elts x1 tp) (.Call (.Name "zip" p) [a,b] [] pos) (SZ ta):=by
  intro pj s σ H R I h;refine Y2 (nY I hg hm boot_zip (gh (thn (ha pos pj s σ H _ I h) λus s1 ⟨vs,H1,I1,r1,q1⟩=>?_) (by rw[hs,hs2]) (by rw[hs2];rfl)));obtain⟨l,l2,e,⟨xs,hl⟩,⟨ys,hl2⟩,q⟩:=q1;subst e;obtain⟨u,u2,rfl,ru,ru2⟩:=Fd r1;cases ru;cases ru2;obtain⟨its,rv,pl,hz⟩:=I1.list (fU.of hl);obtain⟨its2,rv2,pl2,hz2⟩:=I1.list (fU.of hl2);refine call_zip_2 pl.isList pl2.isList λh1 hz hI hO i1 i2 hsz hk=>VV hz ?_;have I2:Inv X pj σ H1 { s1 with heap:=h1 }:=I1.kept (t':=s1.toks) hk;refine⟨s1.heap.objs.size+4,[s1.heap.objs.size+4,s1.heap.objs.size+2,s1.heap.objs.size+3,s1.heap.objs.size,s1.heap.objs.size+1],_,_,H1,rfl,I2,
    Fi l l2 _ _ _ _ _ (zapart s1.heap.objs.size),⟨hz,hI,⟨_,_,hO⟩,i1,i2⟩,λb hb=>?_,q⟩
  have hle:s1.heap.objs.size<=b:=by
    simp only[bq,ip,or_false] at hb;rcases hb with rfl | rfl | rfl | rfl | rfl
    . exact yr _ _
    . exact yr _ _
    . exact yr _ _
    . exact bj _
    . exact yr _ _
  exact I1.fpOk hle (I1.hok.fresh hle)
noncomputable def RS(K:ak):List V->Hp->VK->Prop:=λxs H Q=>∃x T t b,xs=[x,.ty T]/\TyOf K H x t/\XD K t (.type T)=aa b/\Q (.bl b) H
theorem IE:fK X (.builtin "isinstance") (RS X.K):=by
  intro pj s σ H xs us Q I r h;obtain⟨x,T,t,b,rfl,ty,k,q⟩:=h;obtain⟨u,u2,rfl,ru,ru2⟩:=Fd r;cases ru2;exact F9 I ru ty k λtk=>⟨.bl b,H,I.tok tk,rfl,q⟩
theorem uS:∀{bs:List Bool} {us:List ae},bA (bs.map V.bl) us->LSm.BoolsAre us bs
  | [],_,.nil=>.nil
  |_::_,_,.cons r t=>by cases r;exact .cons _ (uS t)
theorem uR:∀{ns:List Int} {us:List ae},bA (ns.map V.int) us->qd us ns
  | [],_,.nil=>.nil
  |_::_,_,.cons r t=>by obtain⟨t',rfl⟩:=r;exact .cons _ _ (uR t)
noncomputable def RX(K:ak):List V->Hp->VK->Prop:=λxs H Q=>∃(a:af) (bs:List Bool),xs=[.ref a]/\fU K H a (bs.map V.bl)/\Q (.bl (bs.all id)) H
theorem FU(hc:X.calm=ai):fK X (.builtin "all") (RX X.K):=by
  intro pj s σ H xs us Q I r h;obtain⟨a,bs,rfl,hq,q⟩:=h;obtain⟨u,rfl,ru⟩:=jQ r;cases ru;obtain⟨its,rv,pl,hz⟩:=I.list hq;have ba:=uS rv;have lt:a<s.heap.objs.size:=by obtain⟨_,e,_⟩:=pl.isList;exact bf e
  refine call_all_walk (Vy pl.isList ⟨s.heap.objs.size,[s.heap.objs.size,a],[s.heap.objs.size],its.toArray.size,_,_,λi=>(bs[i]?).getD ai,rfl,
    Walks.list (A:=X.A.in1) (I.ok.hd hc) _ a (fq lt) its.toArray,⟨⟨_,cr _ rfl,rfl,rfl⟩,pl.isList.push _⟩,λi v s' Q' E' hP hQ=>?_,λh' tk hk=>?_⟩)
  . obtain⟨b,e,rfl⟩:=ba.get i v (by simpa using hP);have hQ':Q' ((bs[i]?).getD ai) s':=hQ;rw[e] at hQ';exact gg hQ'
  . have e:((fw its.toArray.size).all λi=>(bs[i]?).getD ai)=bs.all id:=by
      have:=LSm.range_all bs;rw[<- ba.length] at this;simpa using this
    rw[e];exact⟨.bl _,H,I.kept (LSm.kept_iter hk),rfl,q⟩
noncomputable def RL(K:ak):List V->Hp->VK->Prop:=λxs H Q=>∃(a:af) (ns:List Int),xs=[.ref a]/\fU K H a (ns.map V.int)/\Q (.int ns.sum) H
theorem FR(hc:X.N=X.N):fK X (.builtin "sum") (RL X.K):=by
  intro pj s σ H xs us Q I r h;obtain⟨a,ns,rfl,hq,q⟩:=h;obtain⟨u,rfl,ru⟩:=jQ r;cases ru;obtain⟨its,rv,pl,hz⟩:=I.list hq;have ia:=uR rv;obtain⟨ys,hy⟩:=ia.allInts.items;have e1:=nums_intItems ys;rw[<- hy,show numsOf its.toArray.toList=ns from ia.numsOf] at e1;refine NL I.qu (hy ▸ pl.isList) λh' tk t' hk=>⟨.int ns.sum,H,I.kept hk,⟨t',?_⟩,q⟩;rw[preSum_eq,e1,nk (by simp)]
noncomputable def pick(js:List Nat)(σ:St):St:=js.map λj=>(σ[j]?).join
noncomputable def qN(X:Cx)(Y5:Scope)(cl:List (bt×af))(fp:List af)(N:List bt)(s:aj)(H:Hp):Cx where
  prog:=X.prog
  w:=X.w
  K:=X.K
  mg:=X.mg
  base:=X.base
  A:=X.A
  N:=N
  s₀:=s
  HZ:=H
  env:=compEnvC Y5 cl s.heap.objs.size X.env
  outer:=X.stack
  stack:=X.stack
  ex:=fp
  fn:=λ_=>ap
  calm:=X.calm
  pn:=[]
  xe:=λ_ _=>False
  hs:=X.hs
noncomputable def Mp(X:Cx)(ifs:List Expr)(t:TT):Prop:=
  ∀(pj:List (af×lv)) (s:aj) (σ:St) (H:Hp) (Q:Bool->Hp->Prop),Inv X pj σ H s->t σ H Q ->
    bz (cg X.prog X.w) X.A (forIn ifs ai λc r=>if r=ai then do let ok <- isTrue c X.env (fi c X.env);jm (pz ok) else jm (pz r)) (TP X pj σ Q) X.xe s
theorem J3:Mp X [] (λ_ H Q=>Q ai H):=λpj s σ H Q I h=>wpAny_tests_nil ⟨H,I,h⟩
theorem J2{c:Expr}{t:TT}(h:PT X c t):Mp X [c] t:=λpj s σ H Q I q=>wpAny_tests_one (h pj s σ H Q I q)
noncomputable def zA(wi:TI)(k:Nat)(js:List Nat)(g:TG)(tt:TT)(te:TE):TE:=λσ H Q=>wi σ H λJ H1=>∀D,H1 D=aq -> ∃W:Nat->Nat->List V->Hp->Prop,(∃m,W 0 m [] (upd H1 D (.lst []))) /\ ∀i m acc H2,W i m acc H2->H2 D=aa (.lst acc) ->
  (J.stop i H2/\Q (.ref D) H2) \/ (J.go i H2 /\ ∀y H3,J.yld i H2 y H3 -> ∀old:St,old.length=k->g y (old++pick js σ) H3 λσ4 H4=>(∃new:St,new.length=k/\σ4=new++pick js σ)/\tt σ4 H4 λb H5=>
    if b=ai then te σ4 H5 λv H6=>H6 D=aa (.lst acc)/\acc.length<bo /\ ∃m',m'<m/\W (i+1) m' (acc++[v]) (upd H6 D (.lst (acc++[v])))
    else H5 D=aa (.lst acc) /\ ∃m',m'<m/\W (i+1) m' acc H5)
variable {elt tgt Yb:Expr}
theorem xH{R:Result->aj->Prop}{pos:ma}{it acc:ae}{env:zl}(J:Nat->aj->Prop)
    (turn:∀n s,J n s->bz (cg prog w) A (uu it) (λr s1=>match r with
      |none=>R (.ok .next) s1
      |some v=>bz (cg prog w) A (vm tgt it v) (λ_ s2=>bz (cg prog w) A (Vd tgt env v) (λ_ s3=>
          bz (cg prog w) A (forIn ifs ai λc r=>if r=ai then do let ok <- isTrue c env (fi c env);jm (pz ok) else jm (pz r)) (λb s3'=>
          if b=ai then bz (cg prog w) A (fi elt env) (λy s4=>bz (cg prog w) A (call (.builtin "list.append") [acc,y]) (λ_ s5=>∃m,m<n/\J m s5) (λ_ _=>False) s4) (λ_ _=>False) s3'
          else ∃m,m<n/\J m s3') (λ_ _=>False) s3) (λ_ _=>False) s2) (λ_ _=>False) s1) (λ_ _=>False) s)
    (n:Nat) (h:J n s):yh (cg prog w) A (.compLoop (.ListComp elt [⟨tgt,Yb,ifs,0⟩] Y5 pos) 0 it acc env) R s:=by
  refine codeAny_loop rfl J (λn' s' hJ=>?_) n h;show bz _ _ ((compTurn (.ListComp elt [⟨tgt,Yb,ifs,0⟩] Y5 pos) 0 it acc env).onRaise (λz=>do noteFrame z env;theTreesLotGoes z)) _ _ s';refine wpAny_noted ?_;rw[compTurn_list];have nope:∀{α:Type} {t:VL α} {Q:α->aj->Prop} {E:ae->aj->Prop} {q:aj},bz (cg prog w) A t Q (λ_ _=>False) q->bz (cg prog w) A t Q E q:=λh=>ig h (λ_ _ z=>z) λ_ _ z=>z.elim;refine ah (wpAny_standAt (ah (ig (nope (turn n' s' hJ)) (λr s1 h1=>?_) λ_ _ z=>z)));cases r with
  |none=>exact az h1
  |some v=>
    refine ah (ig (nope h1) (λ_ s2 h2=>?_) λ_ _ z=>z);refine ah (ig (nope h2) (λ_ s3 h3=>?_) λ_ _ z=>z);refine ah (ig (nope h3) (λb s4 h4=>?_) λ_ _ z=>z);cases b with
    |true=>
      have h4':=(show bz _ _ _ _ _ s4 by simpa using h4);simp only[if_true];refine ah (ah (ig (nope h4') (λy s5 h5=>?_) λ_ _ z=>z));refine ah (ig (nope h5) (λ_ s6 h6=>?_) λ_ _ z=>z);exact az (az ⟨rfl,h6⟩)
    |false=>
      have h4':∃m,m<n'/\J m s4:=by simpa using h4
      simp only[fe,if_false];exact ah (az (az ⟨rfl,h4'⟩))
variable {js:List Nat}{v:V}{cl:List (bt×af)}{tgs ns:List bt}{wi:TI}{te:TE}
theorem GS(h:(pick js σ)[i]?=aa (aa v)):∃j,js[i]?=aa j/\σ[j]?=aa (aa v):=by
  unfold pick at h;rw[cj] at h;cases e:js[i]? with
  |none=>rw[e] at h;cases h
  |some j=>
    rw[e] at h;have h':(σ[j]?).join=aa v:=Option.some.inj h;refine⟨j,rfl,?_⟩;cases q:σ[j]? with
    |none=>rw[q] at h';cases h'
    |some o=>rw[q] at h';exact congrArg aa h'
theorem yP{pos:ma}{g:TG}{tt:TT}(hc:X.N=X.N)
    (hi:PI X tgt Yb wi) (hg:∀(fp:List af) (s:aj) (H:Hp),PG (qN X Y5 cl fp (tgs++ns) s H) tgt g) (ht:∀(fp:List af) (s:aj) (H:Hp),Mp (qN X Y5 cl fp (tgs++ns) s H) ifs tt)
    (he:∀(fp:List af) (s:aj) (H:Hp),PE (qN X Y5 cl fp (tgs++ns) s H) elt te)
    (Yr:ux Y5 X.env=jm cl) (Ym:∀x c,cl.lookup x=aa c->X.env.cells.lookup x=aa c)
    (Yx:∀x,((gw Y5 X.env).names.lookup x=aa .cell \/ (gw Y5 X.env).names.lookup x=aa .free) -> ∃c,cl.lookup x=aa c)
    (hjs:js.map (λj=>X.N[j]?)=ns.map aa) (hin:∀y∈ns,(gw Y5 X.env).names.lookup y=aa .cell \/ (gw Y5 X.env).names.lookup y=aa .free)
    (Ys:∀y∈ns,X.env.kindOf y=aa .cell \/ X.env.kindOf y=aa .free)
    (Yc:autoParam (∀y∈Y5.names,y.2 ≠ .cell) DI._auto_1) (Yg:autoParam (Y5.kind=.function) cH._auto_1)
    (Yd:autoParam (∀y∈Y5.names,y.2=.local->Y5.names.lookup y.1=aa .local) DI._auto_1)
    (hs:autoParam (∀z,im Yb X.env z=jm z) FW._auto_1):
    ∀(pos0:ma) (pj:List (af×lv)) (s:aj) (σ:St) (H:Hp) (Q:VK) (I:Inv X pj σ H s) (h:zA wi tgs.length js g tt te σ H Q) (use:Option (ae->VL Unit)) (R:ae->aj->Prop)
      (hfin:∀(D C:af) (H':Hp) (s':aj),Q (.ref D) H'->wR X pj H' C->(∃m,s'.heap.Ns C m)->(∀h',vw C s'.heap h'->Inv X pj σ H' { s' with heap:=h' })->XH (cg X.prog X.w) X.A X.xe use R (.ref D) C (.ok .next) s'),
      bz (cg X.prog X.w) X.A (comprehension (.ListComp elt [⟨tgt,Yb,ifs,0⟩] Y5 pos) Y5 X.env pos0 (newList []) ap (fi Yb X.env) use) R X.xe s:=by
  intro pos0 pj s σ H Q I h use R hfin;refine wpAny_comprehension_free (use:=use) rfl hs Yr Yg Yd (thn (hi pj s σ H _ I h) λv s1 h1=>thn h1 λitv s2 h2=>?_);obtain⟨it,fp,tn,J,H2,rfl,I2,T,st2,f2,Yj⟩:=h2;have hD:H2 s2.heap.objs.size=aq:=I2.hok.fresh (bj _);obtain⟨W,⟨m0,w0⟩,step⟩:=Yj _ hD;refine kg (wpAny_newFunctionEnv Yc (by intro y hy;simp at hy) (λg1 hns hsb=>?_) Yg) (by size_fits);dsimp only at hns hsb ⊢;have I3:Inv X pj σ (upd H2 s2.heap.objs.size (.lst [])) { s2 with heap:=s2.heap.push { cls:=.type "list",dict:=aq,data:=.seq ([]:List ae).toArray } }:=I2.lnew (t':=s2.toks) .nil (by simp);generalize hD':s2.heap.objs.size=D at *;generalize hH3:upd H2 D (.lst [])=H3 at *;generalize hS3:s2.heap.push { cls:=.type "list",dict:=aq,data:=.seq ([]:List ae).toArray }=g3 at *;have zs:g3.objs.size=D+1:=by rw[<- hS3,tw,hD']
  have f3:∀b∈fp,wR X pj H3 b:=λb hb=>by
    obtain⟨o,ho,_⟩:=T.obj _ _ st2 b hb;have lt:=bf ho;refine⟨?_,(f2 b hb).2⟩;rw[<- hH3,bF (fq (hD' ▸ lt))];exact(f2 b hb).1
  have ltf:∀b∈fp,b<g3.objs.size:=λb hb=>by
    obtain⟨o,ho,_⟩:=T.obj _ _ st2 b hb;rw[zs];exact Nat.lt_succ_of_lt (hD' ▸ bf ho)
  have kept:∀b o,g3.get? b=aa o->g1.get? b=aa o:=λb o e=>hsb.extBut b o (fq (bf e)) (ao _ e);have cne:∀x c,cl.lookup x=aa c->c≠g3.objs.size:=λx c e=>by
    obtain⟨v,q⟩:=I3.cell x c (Ym x c e);exact fq q.lt
  have ok:(qN X Y5 cl fp (tgs++ns) { s2 with heap:=g3 } H3).Ok:=by
    refine⟨I.ok.mod,Yg,I.ok.glob,I.ok.blt,bj _,λy z c e1 e2=>I.ok.inj y z c (Ym y c e1) (Ym z c e2),λy hy=>Yx y hy,λy c e=>(nomatch e),I.ok.hd,I.ok.frames,.inl rfl,
      λb hb=>⟨fq (ltf b hb),λy c e=>(f3 b hb).2.2.2.2.1 y c (Ym y c e)⟩,I3.bs,om I.ok.bsz I3.sz,λb o e hb=>?_,λb hb=>?_,I3.stack,I3.stkFree,I.ok.hq⟩
    . rcases(f3 b hb).2.2.2.1 with q | q
      . exact I.ok.noex b o e q
      . exact absurd (ef (bf (I.ok.bs b o e).1) q) (qi _)
    . intro z;rcases bq.mp (I3.stkSub b z) with q | q
      . exact(f3 b hb).2.1 q
      . exact(f3 b hb).2.2.1 q
  have cells1:∀x c,cl.lookup x=aa c -> ∃v,g1.IsCell c v:=λx c e=>by
    obtain⟨v,o,ho,hd⟩:=I3.cell x c (Ym x c e);exact⟨v,o,kept _ _ ho,hd⟩
  have J4:Inv (qN X Y5 cl fp (tgs++ns) { s2 with heap:=g3 } H3) [] (au tgs.length aq++pick js σ) H3 { s2 with heap:=g1,toks:=s2.toks+([]:List (bt×ae)).length }:=by
    refine⟨ok,rfl,I3.bare,Un.kept kept,⟨_,hns,λi y v e1 e2 e3=>?_⟩,λy c e=>cells1 y c e,I3.hok.fresh (bj _),λy c e=>I3.freeC y c (Ym y c e),λp hp=>absurd (show p∈([]:List (af×lv)) from hp) (by simp),I3.hok.kept kept,?_,I3.mild⟩
    . have hi2:tgs.length<=i:=by
        by_cases hlt:i<tgs.length
        . rw[bh (by simpa using hlt),jf,Y4 hlt] at e2;cases e2
        . ac_rfl
      rw[ay (by simpa using hi2),oq] at e2;have e1':(tgs++ns)[i]?=aa y:=e1;rw[ay hi2] at e1';obtain⟨j,hj,hσ⟩:=GS e2;have hNj:X.N[j]?=aa y:=by
        have:=congrArg (λl=>l[i-tgs.length]?) hjs;simp only[cj,hj,e1',vg] at this;exact Option.some.inj this
      have ym:y∈ns:=cq e1';obtain⟨m,hm,hl⟩:=I3.loc;have vis:Qh X.env.scope y:=by
        rcases Ys y ym with q | q
        . exact .inr (.inl q)
        . exact .inr (.inr q)
      obtain⟨u,ru,lk⟩:=hl j y v hNj hσ vis;refine⟨u,ru,?_⟩;rcases lk with⟨q,_⟩ | ⟨_,c,hc1,hc2⟩
      . rcases Ys y ym with z | z
        . rw[z] at q;cases q
        . rw[z] at q;cases q
      . obtain⟨c',hc'⟩:=Yx y (hin y ym);have:=Ym y c' hc';rw[hc1] at this;cases this;obtain⟨o,ho,hd⟩:=hc2;exact .inr ⟨hin y ym,c,hc',o,kept _ _ ho,hd⟩
    . show _=(tgs++ns).length;have:=congrArg List.length hjs;simp only[bi] at this;simp[pick,this]
  have st4:tn 0 g1:=T.keep 0 _ _ st2 λb hb o e=>kept b o (by rw[<- hS3];exact ao _ e);have fin:∀(H':Hp) (σ':St) (s':aj),Inv (qN X Y5 cl fp (tgs++ns) { s2 with heap:=g3 } H3) [] σ' H' s'->Q (.ref D) H'->XH (cg X.prog X.w) X.A X.xe use R (.ref D) g3.objs.size (.ok .next) s':=by
    intro H' σ' s' K q;obtain⟨m,hm,_⟩:=K.loc;refine hfin D g3.objs.size H' s' q (I3.fpOk (bj _) K.free) ⟨m,hm⟩ λh' hsb'=>?_;have ne:∀b o,g3.get? b=aa o->b≠g3.objs.size:=λb o e=>fq (bf e);have B:Un (frs X.stack) fp H3 H' g3 s'.heap:=K.base;refine I3.call' (s':={ s' with heap:=h' }) (ch:=fp) K.os ⟨λb o e n hb hx=>(hsb'.2 b (ne b o e)).trans (B.keep b o e n hb hx),λb o e n hb hx=>?_,B.free,λb o e hx=>?_,B.tups,B.frzs,B.tbls⟩ (λb u e=>?_) K.bare (λb hb=>?_)
    . obtain⟨sl,e1⟩:=B.slot b o e n hb hx;exact⟨sl,(hsb'.2 b (ne b o e)).trans e1⟩
    . obtain⟨o',e1⟩:=B.there b o e hx;exact⟨o',(hsb'.2 b (ne b o e)).trans e1⟩
    . have nC:∀c v,H' c=aa v->c≠g3.objs.size:=λc v e z=>by
        have:H' g3.objs.size=aq:=K.free;rw[z,this] at e;cases e
      refine(K.hok b u e).stay (λc v hc q=>(hsb'.2 c ?_).trans q) (λ_ q=>q) (λ_ _ q=>q) λ_ _ q=>q;rcases hc with z | z
      . rw[z];exact nC b u e
      . exact nC c _ z
    . obtain⟨_,q1,_,q3,q4,q5⟩:=f3 b hb;exact⟨q3,q1,q4,q5⟩
  have loop:yh (cg X.prog X.w) X.A (.compLoop (.ListComp elt [⟨tgt,Yb,ifs,0⟩] Y5 pos) 0 (.ref it) (.ref D) (compEnvC Y5 cl g3.objs.size X.env))
      (XH (cg X.prog X.w) X.A X.xe use R (.ref D) g3.objs.size) { s2 with heap:=g1,toks:=s2.toks+([]:List (bt×ae)).length }:=by
    refine xH (λn s'=>∃i acc old H',Inv (qN X Y5 cl fp (tgs++ns) { s2 with heap:=g3 } H3) [] (old++pick js σ) H' s'/\old.length=tgs.length/\tn i s'.heap/\(∀b∈fp,H' b=aq)/\H' D=aa (.lst acc)/\W i n acc H') ?_ m0
      ⟨0,[],au tgs.length aq,H3,J4,by simp,st4,λb hb=>(f3 b hb).1,by rw[<- hH3];exact c7,w0⟩
    rintro n s' ⟨i,acc,old,H',K,lo,st,fr,hDl,w⟩;have fpk:∀{H'':Hp},(∀b∈fp,H'' b=aq) -> ∀b∈fp,wR (qN X Y5 cl fp (tgs++ns) { s2 with heap:=g3 } H3) [] H'' b:=λhn b hb=>
      ⟨hn b hb,fq (ltf b hb),λz=>ok.exfs b hb z,.inl hb,λy c e=>(f3 b hb).2.2.2.2.1 y c (Ym y c e),λp hp=>absurd (show p∈([]:List (af×lv)) from hp) (by simp)⟩
    rcases step i n acc H' w hDl with⟨stop,q⟩ | ⟨go,next⟩
    . refine thn (T.done (qN X Y5 cl fp (tgs++ns) { s2 with heap:=g3 } H3) rfl rfl rfl rfl i [] s' _ H' _ K (fpk fr) st stop) λr s1 zz=>?_;obtain⟨hr,K1⟩:=zz;subst hr;exact fin H' _ s1 K1 q
    . refine thn (T.item (qN X Y5 cl fp (tgs++ns) { s2 with heap:=g3 } H3) rfl rfl rfl rfl i [] s' _ H' _ K (fpk fr) st go) λr s1 zz=>?_;obtain⟨u,hr,h4⟩:=zz;subst hr;refine thn h4 λ_ s5 zz=>?_;obtain⟨y,H5,K5,r5,y5,st5,fr5⟩:=zz;have K5':=K5.pinned (fpk fr5) (T.obj _ _ st5);refine thn (hg fp { s2 with heap:=g3 } H3 _ s5 _ H5 y u _ K5' r5 (next y H5 y5 old lo)) λ_ s6 ⟨σ6,H6,K6,⟨new,hnew,e6⟩,q6⟩=>?_;subst e6;refine thn (ht fp { s2 with heap:=g3 } H3 _ s6 _ H6 _ K6 q6) λb s6' zz=>?_;obtain⟨H6',K6',q6'⟩:=zz;have X7:∀{s8:aj} {H8:Hp} {acc':List V} {m':Nat},Inv (qN X Y5 cl fp (tgs++ns) { s2 with heap:=g3 } H3) ([]++vI fp s5.heap) (new++pick js σ) H8 s8->H8 D=aa (.lst acc')->m'<n->W (i+1) m' acc' H8 ->
          ∃m,m<n /\ ∃i acc old H',Inv (qN X Y5 cl fp (tgs++ns) { s2 with heap:=g3 } H3) [] (old++pick js σ) H' s8/\old.length=tgs.length/\tn i s8.heap/\(∀b∈fp,H' b=aq)/\H' D=aa (.lst acc)/\W i m acc H':=by
        intro s8 H8 acc' m' K8 h8 hm' w8;refine⟨m',hm',i+1,acc',new,H8,K8.unpinned,hnew,T.keep _ _ _ st5 λb hb o e=>(K8.pin (b,o) (dr _ (dr _ (mJ hb e)))).1,λb hb=>?_,h8,w8⟩;obtain⟨o,e,d⟩:=T.obj _ _ st5 b hb;exact(K8.pin (b,o) (dr _ (dr _ (mJ hb e)))).2.1
      cases b with
      |true=>
        refine mZ ?_;rw[Y4 rfl] at q6';refine thn (he fp { s2 with heap:=g3 } H3 _ s6' _ H6' _ K6' q6') λvv s7 zz=>?_;obtain⟨v,H7,K7,r7,hD7,hlen,m',hm',w7⟩:=zz;refine thn (yE (X:=qN X Y5 cl fp (tgs++ns) { s2 with heap:=g3 } H3) _ s7 _ H7 (.ref D) [v] (.ref D) [vv] (λ_ H8=>H8=upd H7 D (.lst (acc++[v]))) K7 rfl (.cons r7 .nil) ⟨D,acc,v,rfl,rfl,hD7,hlen,rfl⟩) λ_ s8 zz=>?_;obtain⟨_,H8,K8,_,e8⟩:=zz;subst e8;exact X7 K8 c7 hm' w7
      |false=>
        refine pA ?_;have q6f:H6' D=aa (.lst acc) /\ ∃m',m'<n/\W (i+1) m' acc H6':=by simpa using q6'
        obtain⟨hD7,m',hm',w7⟩:=q6f;exact X7 K6' hD7 hm' w7
  exact codeAny_compStart_list loop (T.self _ 0 _ _ _ st4 loop)
theorem GY{pos:ma}{g:TG}{tt:TT}(hc:X.N=X.N)
    (hi:PI X tgt Yb wi) (hg:∀(fp:List af) (s:aj) (H:Hp),PG (qN X Y5 cl fp (tgs++ns) s H) tgt g) (ht:∀(fp:List af) (s:aj) (H:Hp),Mp (qN X Y5 cl fp (tgs++ns) s H) ifs tt)
    (he:∀(fp:List af) (s:aj) (H:Hp),PE (qN X Y5 cl fp (tgs++ns) s H) elt te)
    (Yr:ux Y5 X.env=jm cl) (Ym:∀x c,cl.lookup x=aa c->X.env.cells.lookup x=aa c)
    (Yx:∀x,((gw Y5 X.env).names.lookup x=aa .cell \/ (gw Y5 X.env).names.lookup x=aa .free) -> ∃c,cl.lookup x=aa c)
    (hjs:js.map (λj=>X.N[j]?)=ns.map aa) (hin:∀y∈ns,(gw Y5 X.env).names.lookup y=aa .cell \/ (gw Y5 X.env).names.lookup y=aa .free)
    (Ys:∀y∈ns,X.env.kindOf y=aa .cell \/ X.env.kindOf y=aa .free)
    (Yc:autoParam (∀y∈Y5.names,y.2 ≠ .cell) DI._auto_1) (Yg:autoParam (Y5.kind=.function) cH._auto_1)
    (Yd:autoParam (∀y∈Y5.names,y.2=.local->Y5.names.lookup y.1=aa .local) DI._auto_1)
    (hs:autoParam (∀z,im Yb X.env z=jm z) FW._auto_1):
    PE X (.ListComp elt [⟨tgt,Yb,ifs,0⟩] Y5 pos) (zA wi tgs.length js g tt te):=by
  intro pj s σ H Q I h;rw[eval_ListComp];refine yP hc hi hg ht he Yr Ym Yx hjs hin Ys Yc Yg Yd hs _ pj s σ H Q I h aq _ ?_;intro D C H' s' q fp hm inv;obtain⟨m,hm⟩:=hm;exact⟨m,hm,λh' hs'=>⟨.ref D,H',inv h' hs',rfl,q⟩⟩
theorem GR{y:bt}{py spos:ma}{iy:Nat}{pos:ma}{g:TG}{tt:TT}(hN:X.N.Nodup)(hi2:X.N[iy]?=aa y)(hx2:IV X.env.scope y)(hc:X.N=X.N)
    (hi:PI X tgt Yb wi) (hg:∀(fp:List af) (s:aj) (H:Hp),PG (qN X Y5 cl fp (tgs++ns) s H) tgt g) (ht:∀(fp:List af) (s:aj) (H:Hp),Mp (qN X Y5 cl fp (tgs++ns) s H) ifs tt)
    (he:∀(fp:List af) (s:aj) (H:Hp),PE (qN X Y5 cl fp (tgs++ns) s H) elt te)
    (Yr:ux Y5 X.env=jm cl) (Ym:∀x c,cl.lookup x=aa c->X.env.cells.lookup x=aa c)
    (Yx:∀x,((gw Y5 X.env).names.lookup x=aa .cell \/ (gw Y5 X.env).names.lookup x=aa .free) -> ∃c,cl.lookup x=aa c)
    (hjs:js.map (λj=>X.N[j]?)=ns.map aa) (hin:∀y∈ns,(gw Y5 X.env).names.lookup y=aa .cell \/ (gw Y5 X.env).names.lookup y=aa .free)
    (Ys:∀y∈ns,X.env.kindOf y=aa .cell \/ X.env.kindOf y=aa .free)
    (Yc:autoParam (∀y∈Y5.names,y.2 ≠ .cell) DI._auto_1) (Yg:autoParam (Y5.kind=.function) cH._auto_1)
    (Yd:autoParam (∀y∈Y5.names,y.2=.local->Y5.names.lookup y.1=aa .local) DI._auto_1)
    (hs:autoParam (∀z,im Yb X.env z=jm z) FW._auto_1)
    (hsw:autoParam (kh (.ListComp elt [⟨tgt,Yb,ifs,0⟩] Y5 pos) (aa (.Name y py)) spos.line X.env=jm ai) cH._auto_1) (hf:autoParam (X.fn y=ai \/ X.env.scope.names.lookup y=aa .local) IT._auto_1):
    PS X (.Assign [.Name y py] (.ListComp elt [⟨tgt,Yb,ifs,0⟩] Y5 pos) spos) (Ii (zA wi tgs.length js g tt te) (Bj iy)):=by
  intro pj s σ H D I h;rw[exec_Assign_Name_used _ _ _ _ hsw];refine ah (wpAny_standAt (ah ?_));show bz _ X.A (do let _ <- comprehension (.ListComp elt [⟨tgt,Yb,ifs,0⟩] Y5 pos) Y5 X.env _ (newList []) ap (fi Yb X.env) (aa (Vd (.Name y py) X.env))) _ _ s;refine ah (ig (yP hc hi hg ht he Yr Ym Yx hjs hin Ys Yc Yg Yd hs _ pj s σ H _ I h (aa (Vd (.Name y py) X.env)) (λ_ s'=>SP X pj D .next s') ?_) (λ_ s' hq=>az (az hq)) λ_ _ e=>e);intro E C H' s' q fp ⟨m,hm⟩ inv;have I1:Inv X pj σ H' s':=inv s'.heap ⟨rfl,λ_ _=>rfl⟩;show bz _ X.A (Vd (.Name y py) X.env (.ref E)) _ _ _;refine Vq (xS I1 hN hi2 hx2 (v:=.ref E) rfl (λs2 I2 hsb=>?_) hf);obtain⟨a,hsb,ha⟩:=hsb;have aC:a≠C:=by
    rcases ha with ha | ha
    . rw[ha];exact Ne.symm fp.2.1
    . exact fp.2.2.2.2.1 _ _ ha
  refine⟨m,hm.sameBut hsb (Ne.symm aC),λh' hs'=>⟨_,H',?_,q⟩⟩;refine I2.call' (s':={ s2 with heap:=h' }) (ch:=[C]) rfl ⟨λb o e n hb hx=>?_,λb o e n hb hx=>?_,λb o e n hx=>n,λb o e hx=>?_,λ_ _ e=>e,λ_ _ _ e=>e,λb ps e=>⟨#[],by simpa using e⟩⟩ ?_ I2.bare ?_
  . exact hs'.extBut b o (by simpa using hx) e
  . exact⟨o.slots,hs'.extBut b o (by simpa using hx) e⟩
  . exact⟨o,hs'.extBut b o (by simpa using hx) e⟩
  . have nC:∀c v,H' c=aa v->c≠C:=λc v e z=>by
      rw[z,fp.1] at e;cases e
    intro b u e;refine(I2.hok b u e).stay (λc v hc q=>(hs'.2 c ?_).trans q) (λ_ q=>q) (λ_ _ q=>q) λ_ _ q=>q;rcases hc with z | z
    . rw[z];exact nC b u e
    . exact nC c _ z
  . intro b hb;obtain rfl:b=C:=by simpa using hb
    exact⟨fp.2.2.2.1,fp.2.1,fp.2.2.2.2.1,fp.2.2.2.2.2⟩
variable {y:V}{o:Option V}{κ:Type}
section
variable [DecidableEq κ]
noncomputable def n8(kvs:List (κ×V))(k:κ):Option V:=(kvs.find? λkv=>decide (kv.1=k)).map (·.2)
noncomputable def rN(kvs:List (κ×V))(k:κ)(v:V):List (κ×V):=
  if (kvs.any λkv=>decide (kv.1=k))=ai then kvs.map (λkv=>if kv.1=k then (kv.1,v) else kv) else kvs++[(k,v)]
theorem qW{p:κ×V}{r:List (κ×V)}{k:κ}(e:p.1=k):n8 (p::r) k=aa p.2:=by simp[n8,uy,e]
theorem qX{p:κ×V}{r:List (κ×V)}{k:κ}(e:¬p.1=k):n8 (p::r) k=n8 r k:=by simp[n8,uy,e]
theorem Aj(k:κ):∀kvs:List (κ×V),(kvs.any λkv=>decide (kv.1=k))=(n8 kvs k).isSome
  | []=>rfl
  |p::r=>by
    rw[rj];by_cases e:p.1=k
    . simp only[qW e,decide_eq_true e,Xj,Vj]
    . rw[qX e,decide_eq_false e,Bool.false_or];exact Aj k r
theorem tM(kvs:List (κ×V))(k:κ)(v:V):(rN kvs k v).length<=kvs.length+1:=by
  unfold rN;split
  . rw[bi];ac_rfl
  . rw[br,bp,yt];ac_rfl
theorem pE.isSome_eq{u:Option ae}(r:pE o u):o.isSome=u.isSome:=by
  cases o with
  |none=>cases u with
    |none=>rfl
    |some _=>exact(show False from r).elim
  |some _=>cases u with
    |none=>exact(show False from r).elim
    |some _=>rfl
theorem KV.val{kvs:List (κ×V)}{vs:List (κ×ae)}(r:KV kvs vs)(k:κ):pE (n8 kvs k) (Uw vs k):=by
  unfold KV at r;induction r with
  |nil=>exact ny
  | @cons p q ps qs h t ih=>
    obtain⟨h1,h2⟩:=h;by_cases e:p.1=k
    . have e':q.1=k:=h1.symm.trans e;have b:Uw (q::qs) k=aa q.2:=by simp[Uw,uy,e']
      rw[qW e,b];exact h2
    . have e':¬q.1=k:=λz=>e (h1.trans z);have b:Uw (q::qs) k=Uw qs k:=by simp[Uw,uy,e']
      rw[qX e,b];exact ih
theorem KV.any{kvs:List (κ×V)}{vs:List (κ×ae)}(r:KV kvs vs)(k:κ):(kvs.any λkv=>decide (kv.1=k))=vs.any λkv=>decide (kv.1=k):=by
  unfold KV at r;induction r with
  |nil=>rfl
  |cons h t ih=>rw[rj,rj,ih,h.1]
theorem KV.repl{kvs:List (κ×V)}{vs:List (κ×ae)}(r:KV kvs vs)(k:κ)(ry:cJ y u):
    KV (kvs.map λkv=>if kv.1=k then (kv.1,y) else kv) (vs.map λkv=>if kv.1=k then (kv.1,u) else kv):=by
  unfold KV at r ⊢;induction r with
  |nil=>exact .nil
  | @cons p q ps qs h t ih=>
    rw[cp,cp];refine .cons ?_ ih;obtain⟨h1,h2⟩:=h;by_cases e:p.1=k
    . rw[Y4 e,Y4 (h1.symm.trans e)];exact⟨h1,ry⟩
    . rw[XF e,XF (λz=>e (h1.trans z))];exact⟨h1,h2⟩
theorem KV.put{kvs:List (κ×V)}{vs:List (κ×ae)}(r:KV kvs vs)(k:κ)(ry:cJ y u):KV (rN kvs k y) (stored vs k u):=by
  unfold rN stored;rw[r.any k];by_cases e:(vs.any λkv=>decide (kv.1=k))=ai
  . rw[Y4 e,Y4 e];exact r.repl k ry
  . rw[XF e,XF e];exact Paired.snoc r ⟨rfl,ry⟩
theorem KV.length{kvs:List (κ×V)}{vs:List (κ×ae)}(r:KV kvs vs):kvs.length=vs.length:=Paired.length r
end
theorem Dm{k:cE}(r:cJ (kV k) u):(eW P w).is k u=ai:=by
  cases k with
  |inl i=>obtain⟨t,e⟩:=(show ∃t,u=Value.int i t from r);subst e;exact Bc P w i t
  |inr x=>obtain⟨t,e⟩:=(show ∃t,u=Value.str x t from r);subst e;exact Bb P w x t
theorem yK{P:aw}{w:bv}:∀{ks:List cE} {us:List ae},bA (ks.map kV) us->ItemsAre (eW P w) ks us
  | [],_,r=>by rw[vx] at r;cases r;exact .nil
  |k::ks,_,r=>by
    rw[cp] at r;cases r with
    |cons h t=>exact .cons (Dm h) (yK t)
noncomputable abbrev KT(H:Hp):List (List cE×V)->List (List cE×af×ae)->Prop:=Paired λp q=>p.1=q.1/\H q.2.1=aa (.tup (p.1.map kV))/\cJ p.2 q.2.2
variable {xs:List (List cE×af×ae)}
theorem KT.val(r:KT H kvs xs)(k:List cE):pE (n8 kvs k) ((Wd xs k).map (·.2)):=by
  induction r with
  |nil=>exact ny
  | @cons p q ps qs h t ih=>
    obtain⟨h1,_,h2⟩:=h;by_cases e:p.1=k
    . have e':q.1=k:=h1.symm.trans e;have b:Wd (q::qs) k=aa q.2:=by simp[Wd,uy,e']
      rw[qW e,b];exact h2
    . have e':¬q.1=k:=λz=>e (h1.trans z);have b:Wd (q::qs) k=Wd qs k:=by simp[Wd,uy,e']
      rw[qX e,b];exact ih
theorem KT.repl(r:KT H kvs xs)(k:List cE)(ry:cJ y u):
    KT H (kvs.map λkv=>if kv.1=k then (kv.1,y) else kv) (xs.map (putAt k u)):=by
  induction r with
  |nil=>exact .nil
  | @cons p q ps qs h t ih=>
    rw[cp,cp];refine .cons ?_ ih;obtain⟨h1,h2,h3⟩:=h;unfold putAt;by_cases e:p.1=k
    . rw[Y4 e,Y4 (h1.symm.trans e)];exact⟨h1,h2,ry⟩
    . rw[XF e,XF (λz=>e (h1.trans z))];exact⟨h1,h2,h3⟩
variable {b:af}
theorem KT.put(r:KT H kvs xs)(k:List cE)(hb:H b=aa (.tup (k.map kV)))(ry:cJ y u):
    KT H (rN kvs k y) (storedH xs k b u):=by
  have e:(kvs.any λkv=>decide (kv.1=k))=(Wd xs k).isSome:=by
    rw[Aj,(r.val k).isSome_eq,isSome_map]
  unfold rN storedH;rw[e];by_cases q:(Wd xs k).isSome=ai
  . rw[Y4 q,Y4 q];exact r.repl k ry
  . rw[XF q,XF q];exact Paired.snoc r ⟨rfl,hb,ry⟩
theorem KT.keeps(r:KT H kvs xs)(ht:∀b ys,H b=aa (.tup ys)->H' b=aa (.tup ys)):KT H' kvs xs:=
  Paired.mapP r λ_ _ z=>⟨z.1,ht _ _ z.2.1,z.2.2⟩
variable {ep:Nat}
theorem Kc{u:HO}(ok:qV P w H h)(e:Rd H a u):d5 P w H h a u:=e.ok ok
theorem Bv{kvs:List (cE×V)}(ok:qV P w H h)(e:Rd H a (.dK kvs)):kvs.length<=bo/\(a==ie)=ap /\ ∃vs,KV kvs vs/\h.DictOf (eW P w) a vs:=
  show d5 P w H h a (.dK kvs) from Kc ok e
theorem P6{kvs:List (cE×V)}(ok:qV P w H h)(e:H a=aa (.dK kvs)):kvs.length<=bo/\(a==ie)=ap /\ ∃vs,KV kvs vs/\h.DictOf (eW P w) a vs:=Bv ok (.inl e)
theorem A0{ks:List cE}(ok:qV P w H h)(e:H a=aa (.tup (ks.map kV))):(Ut (eW P w)).is h ks a:=by
  obtain⟨_,its,r,o,h1,h2,n,h3⟩:=(show d5 P w H h a (.tup (ks.map kV)) from ok a _ e);exact⟨o,its.toArray,n,h1,h2,h3,by simpa using yK r⟩
theorem Dz(ok:qV P w H h)(e:Rd H a (.dT ep kvs)):kvs.length<=bo/\(a==ie)=ap /\
    ∃xs,KT H kvs xs/\h.DictOfH (Ut (eW P w)) a xs:=by
  obtain⟨z,y,xs,r,o,es,h1,h2,h3,h4,h5⟩:=(show d5 P w H h a (.dT ep kvs) from Kc ok e);refine⟨z,y,xs,r,o,es,ep,h1,h2,h3,h4,λx hx=>?_,h5⟩;have all:∀{l:List (List cE×V)} {m:List (List cE×af×ae)},KT H l m -> ∀x∈m,(Ut (eW P w)).is h x.1 x.2.1:=by
    intro l m q;induction q with
    |nil=>intro x hx;exact nomatch hx
    | @cons p q ps qs hq t ih=>
      intro x hx;rcases bq.mp hx with e | hx
      . subst e;exact A0 ok (by rw[<- hq.1];exact hq.2.1)
      . exact ih x hx
  exact all r x hx
theorem Hz(ok:qV P w H h)(e:H a=aa (.dT ep kvs)):kvs.length<=bo/\(a==ie)=ap /\
    ∃xs,KT H kvs xs/\h.DictOfH (Ut (eW P w)) a xs:=Dz ok (.inl e)
noncomputable def wS(H:Hp)(a:af)(y:V)(r:Option V):Prop:=
  (∃kvs k,Rd H a (.dK kvs)/\y=kV k/\r=n8 kvs k) \/ ∃ep kvs k b,Rd H a (.dT ep kvs)/\y=.ref b/\H b=aa (.tup (k.map kV))/\r=n8 kvs k
noncomputable def IR(H:Hp)(a:af)(y v:V)(R:Hp->Prop):Prop:=
  (∃kvs k,H a=aa (.dK kvs)/\y=kV k/\kvs.length<bo/\R (upd H a (.dK (rN kvs k v)))) \/
  ∃ep kvs k b,H a=aa (.dT ep kvs)/\y=.ref b/\H b=aa (.tup (k.map kV))/\kvs.length<bo /\ ∀ep',R (upd H a (.dT ep' (rN kvs k v)))
theorem wS.k{H:Hp}{a:af}{kvs:List (cE×V)}{k:cE}(e:H a=aa (.dK kvs)):wS H a (kV k) (n8 kvs k):=.inl ⟨kvs,k,.inl e,rfl,rfl⟩
theorem wS.t{k:List cE}(e:H a=aa (.dT ep kvs))(eb:H b=aa (.tup (k.map kV))):wS H a (.ref b) (n8 kvs k):=.inr ⟨ep,kvs,k,b,.inl e,rfl,eb,rfl⟩
theorem IR.t{k:List cE}{R:Hp->Prop}(e:H a=aa (.dT ep kvs))(eb:H b=aa (.tup (k.map kV)))(hl:kvs.length<bo)(r:∀ep',R (upd H a (.dT ep' (rN kvs k v)))):IR H a (.ref b) v R:=.inr ⟨ep,kvs,k,b,e,rfl,eb,hl,r⟩
variable {Q:ae->aj->Prop}{r:ae}
theorem Inv.big(I:Inv X pj σ H s):ie<s.heap.objs.size:=by
  have h:je<s.heap.objs.size:=(I.mod.glob.keeps I.bk).lt;exact WO (by decide) h
theorem FP(hu:A.units+1<mw)(I:Inv X pj σ H s)(g:wS H a y (aa v))(ry:cJ y u)(h:∀w' s',Inv X pj σ H s'->cJ v w'->Q w' s'):
    bz (cg X.prog X.w) A (Vv (.ref a) u) Q E s:=by
  rcases g with⟨kvs,k,e,ey,l⟩ | ⟨_,kvs,k,b,e,ey,eb,l⟩
  . subst ey;obtain⟨z,hd,vs,rel,dd⟩:=Bv I.hok e;obtain⟨w',hw,rw'⟩:=pE.some_of (v:=v) (o:=Uw vs k) (by rw[l];exact rel.val k);exact wpAny_getItem_of (Dm ry) dd.mapOf hw (h w' _ (I.tok _) rw')
  . subst ey;cases (show u=Value.ref b from ry);obtain⟨z,hd,xs,rel,dd⟩:=Dz I.hok e;obtain⟨w',hw,rw'⟩:=pE.some_of (v:=v) (o:=(Wd xs k).map (·.2)) (by rw[l];exact rel.val k);obtain⟨p,hp,hp2⟩:=zh.mp hw;refine wpAny_getItem_heap (sh hu) (A0 I.hok eb) dd hp ?_;rw[hp2];exact h w' _ (I.tok _) rw'
theorem KF(hu:A.units+1<mw)(I:Inv X pj σ H s)(g:wS H a y o)(ry:cJ y u)(h:∀s',Inv X pj σ H s'->Q (.bool (!o.isSome)) s'):
    bz (cg X.prog X.w) A (dt .NotIn u (.ref a)) Q E s:=by
  rcases g with⟨kvs,k,e,ey,l⟩ | ⟨_,kvs,k,b,e,ey,eb,l⟩
  . subst ey;obtain⟨z,hd,vs,rel,dd⟩:=Bv I.hok e;refine wpAny_notIn_of (Dm ry) hd dd.mapOf ?_;rw[<- (rel.val k).isSome_eq,<- l];exact h _ (I.tok _)
  . subst ey;cases (show u=Value.ref b from ry);obtain⟨z,hd,xs,rel,dd⟩:=Dz I.hok e;refine wpAny_notIn_heap (sh hu) (A0 I.hok eb) hd dd ?_;have q:=(rel.val k).isSome_eq;rw[isSome_map] at q;rw[<- q,<- l];exact h _ (I.tok _)
theorem E1(I:Inv X pj σ H s)(mu:FV (H a))(hs:vw a s.heap h')(he:∃q,h'.get? a=aa q)(new:d5 X.prog X.w (upd H a ob) h' a ob):
    Inv X pj σ (upd H a ob) { s with heap:=h',toks:=t' }:=
  I.write (x:=a) (e:=a) mu (.inl rfl) (λb q hb z=>(hs.2 b hb).trans z) he new
theorem Me{kvs:List (cE×V)}{vs:List (cE×ae)}(z:kvs.length<=bo)(hd:(a==ie)=ap)(rel:KV kvs vs)(dd:h'.DictOf (eW P w) a vs):
    d5 P w H' h' a (.dK kvs):=⟨z,hd,vs,rel,dd⟩
theorem FN{R:Hp->Prop}{Q:Unit->aj->Prop}(hu:A.units+1<mw)(I:Inv X pj σ H s)(g:IR H a y v R)(ry:cJ y u)(rv:cJ v r)(h:∀H' s',R H'->Inv X pj σ H' s'->Q () s'):
    bz (cg X.prog X.w) A (setItem (.ref a) u r) Q E s:=by
  rcases g with⟨kvs,k,e,ey,l,eH⟩ | ⟨ep0,kvs,k,b,e,ey,eb,l,eH⟩
  . subst ey;obtain⟨z,hd,vs,rel,dd⟩:=P6 I.hok e;have hz:vs.length<=bo:=by rw[<- rel.length];exact z
    have hl:(rN kvs k v).length<=bo:=by have:=tM kvs k v;ac_rfl
    refine wpAny_setItem_pairs (hsz:=hz) (Dm ry) dd λh' dd' hs=>h _ _ eH ?_;have he:∃q,h'.get? a=aa q:=let ⟨q,_,_,hq,_⟩:=dd';⟨q,hq⟩;exact E1 I (by rw[e];exact ny) hs he (Me hl hd (rel.put k rv) dd')
  . subst ey;cases (show u=Value.ref b from ry);obtain⟨z,hd,xs,rel,dd⟩:=Hz I.hok e;have hz:xs.length<=bo:=by rw[<- Paired.length rel];exact z
    have hl:(rN kvs k v).length<=bo:=by have:=tM kvs k v;ac_rfl
    refine wpAny_setItem_heap (hsz:=hz) (sh hu) (A0 I.hok eb) dd λh' dd' hs=>?_;obtain⟨q,es,ep,hq,h2,h3,h4,_,h5⟩:=dd';refine h _ _ (eH ep) ?_;refine E1 I (by rw[e];exact ny) hs ⟨q,hq⟩ ⟨hl,hd,_,(rel.put k eb rv).keeps λc ys ec=>?_,q,es,hq,h2,h3,h4,h5⟩;rw[bF (OM ec e (λz=>nomatch z))];exact ec
section
variable {kvs:List (cE×V)}{k:cE}
theorem PC(I:Inv X pj σ H s)(e:Rd H a (.dK kvs))(h:∀t s',Inv X pj σ H s'->Q (.int kvs.length t) s'):bz (cg X.prog X.w) A (call (.builtin "len") [.ref a]) Q E s:=by
  obtain⟨z,hd,vs,rel,dd⟩:=Bv I.hok e;refine call_len_dict hd dd (by rw[<- rel.length];rw[io] at z;ac_rfl) ?_;rw[<- rel.length];exact h _ _ (I.tok _)
end
theorem Bw(I:Inv X pj σ H s)(g:wS H a y o):s.TypeIs (.ref a) "dict" := by
  rcases g with⟨kvs,k,e,_,_⟩ | ⟨_,kvs,k,b,e,_,_,_⟩
  . obtain⟨_,_,vs,_,dd⟩:=Bv I.hok e;exact dd.typeIs
  . obtain⟨_,_,xs,_,dd⟩:=Dz I.hok e;exact dd.typeIs
noncomputable def NU(td ty tv:TE):TS:=λD σ H=>tv σ H λv H1=>td σ H1 λx H2=>ty σ H2 λy H3=>∃a,x=.ref a/\IR H3 a y v (D.nx σ)
variable {Ye:Expr}{Yt:ma}{td tv:TE}
section
variable {o i:Expr}{pos tpos:ma}{ty:TE}
theorem J8(hu:X.A.units+1<mw)(ho:PE X o td)(hi:PE X i ty)(hv:PE X Ye tv)(hs:kh Ye (aa (.Subscript o i Yt)) pos.line X.env=jm ap):
    PS X (.Assign [.Subscript o i Yt] Ye pos) (NU td ty tv):=by
  intro pj s σ H D I h;refine wpAny_Assign_Subscript (thn (hv pj s σ H _ I h) λr s1 ⟨v,H1,I1,rv,q1⟩=>thn (ho pj s1 σ H1 _ I1 q1) λu s2 ⟨x,H2,I2,rx,q2⟩=>thn (hi pj s2 σ H2 _ I2 q2) λiv s3 ⟨y,H3,I3,ry,a,ex,g⟩=>?_) hs;subst ex;obtain rfl:u=Value.ref a:=rx;exact FN hu I3 g ry rv λH4 s4 q3 I4=>⟨σ,H4,I4,q3⟩
end
theorem I8(h:dm)(hb:ie<h.objs.size):d5 P w H (h.push { cls:=.type "dict",data:=.dict #[] }) h.objs.size (.dT 0 []):=
  ⟨lc _,beq_eq_false_iff_ne.mpr (Ne.symm (fq hb)),[],.nil,_,#[],cr _ rfl,⟨rfl,rfl,rfl⟩,rfl,rfl,WP⟩
noncomputable def LC:TE:=λ_ H Q=>∀p,H p=aq->Q (.ref p) (upd H p (.dT 0 []))
section
variable {pos:ma}
theorem GX:PE X (.Dict [] [] pos) LC:=λpj s σ H Q I h=>
  wpAny_Dict_empty ⟨.ref s.heap.objs.size,_,I.laid (a:=s.heap.objs.size) (o:=.dT 0 []) (t':=s.toks) (λ_ _ q=>ao _ q) (bj _) (I8 s.heap I.big),rfl,h _ (I.hok.fresh (bj _))⟩
end
section
variable {d:V}
end
section
variable {o f:Expr}{Yk Yl:ma}{ty tx:TE}
end
section
variable {kvs:List (cE×V)}
end
theorem N4:fK X (.builtin "len") (λxs H Q=>∃a kvs,xs=[V.ref a]/\H a=aa (.dK kvs)/\Q (.int kvs.length) H):=by
  intro pj s σ H xs us Q I r h;obtain⟨a,kvs,rfl,ha,q⟩:=h;obtain⟨u,rfl,ru⟩:=jQ r;cases ru;exact PC I (.inl ha) λt s' I'=>⟨.int kvs.length,H,I',⟨t,rfl⟩,q⟩
section
variable [DecidableEq κ]
end
noncomputable abbrev Tk:=Int×Int×List Int
noncomputable def Fm(k:Tk):Int:=reduceHash (wt [Xd k.1,Xd k.2.1,reduceHash (wt (k.2.2.map Xd))])
noncomputable abbrev Si(x:Tk×af):DictEntry:=⟨Fm x.1,.ref x.2,.bool ai⟩
noncomputable def ndict(a:af)(xs:List (Tk×af)):dm->Prop:=λh=>xs.length<=bo/\(a==ie)=ap /\ ∃o es ep,h.get? a=aa o/\o.ExactDict/\o.data=.dict es ep/\es.toList=xs.map Si/\(xs.map (·.1)).Nodup
noncomputable abbrev HO.dN(a:af)(xs:List (Tk×af)):HO:=.ext (ndict a xs)
noncomputable def TileAt(H:Hp)(k:Tk)(b:af):Prop:=∃c,H b=aa (.tup [.int k.1,.int k.2.1,.ref c])/\H c=aa (.tup (k.2.2.map V.int))
section
variable {xs:List (Tk×af)}{k:Tk}
end
section
variable {pos:ma}{o i:Expr}{ty:TE}
end
end L2
variable {xs:List (List L2.cE×L2.V)}{M F:af->Prop}
namespace Z
open L2
noncomputable abbrev St:=L2.St
inductive Dv where
 |non
 |bl (b:Bool)
 |int (i:Int)
 |str (x:bt)
 |tup (xs:List Dv)
 |lst (xs:List Dv)
 |dit (kvs:List (List cE×Dv))
 |obj (C:af) (fs:List (bt×Dv))
 |scr (ns:List Int)
 /-- an exception that was caught,of the class at C -/
 |exc (C:af) (p:Option Int)
 /-- a dict by tiles whose values are True -/
 |dns (ks:List Tk)
noncomputable def lF:Dv->Bool
 | .lst _=>ap
 | .dit _=>ap
 | .obj _ _=>ap
 | .dns _=>ap
 | .tup xs=>flatDs xs
 |_=>ai
where flatDs:List Dv->Bool
 | []=>ai
 |d::r=>lF d&&flatDs r
noncomputable abbrev flatDs:=lF.flatDs
noncomputable def KN(K:ak)(H:Hp)(a:af)(ns:List Int):Prop:=
 (∃o,H a=aa (.frz o (.lst (ns.map V.int)))) \/
  ∃(o:lv) (its:Array ae) (n:Nat),K.lookup a=aa o/\o.cls=.type "list" /\ o.dict=aq/\o.data=.seq its n/\its.size<=bo/\bA (ns.map V.int) its.toList
theorem KN.sq(h:KN K H a ns):fU K H a (ns.map V.int):=by
 rcases h with⟨o,h⟩ | h
 ·exact .inl (.inr ⟨o,h⟩)
 ·exact .inr h
noncomputable def EA(H:Hp):Option Int->Option af->Prop
 |none,aq=>True
 |some n,aa d=>∃od,H d=aa (.frz od (.xd [("step",.int n)]))
 |_,_=>False
theorem EA.gen(h:∀a o u,H a=aa (.frz o u)->H' a=aa (.frz o u)):∀{p:Option Int} {d:Option af},EA H p d->EA H' p d
 |none,aq,z=>z
 |some _,aa _,⟨od,z⟩=>⟨od,h _ _ _ z⟩
 |none,aa _,z=>z.elim
 |some _,aq,z=>z.elim
noncomputable def PY(H:Hp)(a C:af)(p:Option Int):Prop:=∃o u,H a=aa (.frz o u)/\o.cls=.ref C/\EA H p o.dict/\u8 o
noncomputable def U5(H:Hp)(a:af)(ks:List Tk):Prop:=∃xs,H a=aa (.dN a xs)/\ks=xs.map (·.1) /\ ∀x∈xs,TileAt H x.1 x.2
mutual
inductive Rep(K:ak)(M:af->Prop)(H:Hp):V->Dv->Prop
 |non:Rep K M H .non .non
 |bl (b:Bool):Rep K M H (.bl b) (.bl b)
 |int (i:Int):Rep K M H (.int i) (.int i)
 |str (x:bt):Rep K M H (.str x) (.str x)
 |tup {a:af} {xs:List V} {ds:List Dv}:H a=aa (.tup xs)->Reps K M H xs ds->Rep K M H (.ref a) (.tup ds)
 |lst {a:af} {xs:List V} {ds:List Dv}:H a=aa (.lst xs) -> ¬M a->Reps K M H xs ds->Rep K M H (.ref a) (.lst ds)
 |dit {a:af} {ep:Nat} {kvs:List (List cE×V)} {ds:List (List cE×Dv)}:H a=aa (.dT ep kvs) -> ¬M a->RepT K M H kvs ds->Rep K M H (.ref a) (.dit ds)
 |obj {a C dx:af} {fs:List (bt×V)} {ds:List (bt×Dv)}:H a=aa (.ins C dx fs) -> ¬M a->RepF K M H fs ds->Rep K M H (.ref a) (.obj C ds)
 |scr {a:af} {ns:List Int}:KN K H a ns->Rep K M H (.ref a) (.scr ns)
 |exc {a C:af} {p:Option Int}:PY H a C p->Rep K M H (.ref a) (.exc C p)
 |dns {a:af} {ks:List Tk}:U5 H a ks -> ¬M a->Rep K M H (.ref a) (.dns ks)
inductive Reps(K:ak)(M:af->Prop)(H:Hp):List V->List Dv->Prop
 |nil:Reps K M H [] []
 |cons {x:V} {d:Dv} {xs:List V} {ds:List Dv}:Rep K M H x d->Reps K M H xs ds->Reps K M H (x::xs) (d::ds)
inductive RepT(K:ak)(M:af->Prop)(H:Hp):List (List cE×V)->List (List cE×Dv)->Prop
 |nil:RepT K M H [] []
 |cons {k:List cE} {x:V} {d:Dv} {xs:List (List cE×V)} {ds:List (List cE×Dv)}:Rep K M H x d->RepT K M H xs ds->RepT K M H ((k,x)::xs) ((k,d)::ds)
inductive RepF(K:ak)(M:af->Prop)(H:Hp):List (bt×V)->List (bt×Dv)->Prop
 |nil:RepF K M H [] []
 |cons {k:bt} {x:V} {d:Dv} {xs:List (bt×V)} {ds:List (bt×Dv)}:Rep K M H x d->RepF K M H xs ds->RepF K M H ((k,x)::xs) ((k,d)::ds)
end
structure Gen(K:ak)(M M':af->Prop)(H H':Hp):Prop where
 l:∀a o,H a=aa o->FV (aa o) -> ¬M a->H' a=aa o /\ ¬M' a
 t:∀a xs,H a=aa (.tup xs)->H' a=aa (.tup xs)
 s:∀a ns,KN K H a ns->KN K H' a ns
 x:∀a o u,H a=aa (.frz o u)->H' a=aa (.frz o u)
variable {ds:List Dv}{b:af}{o:HO}{M':af->Prop}{H'':Hp}
section
variable {M'':af->Prop}
theorem Reps.ind{P:List V->List Dv->Prop}(h0:P [] [])(h1:∀(x:V) (d:Dv) (xs:List V) (ds:List Dv),Rep K M H x d->Reps K M H xs ds->P xs ds->P (x::xs) (d::ds)){xs:List V}(r:Reps K M H xs ds):P xs ds:=
 Reps.rec (motive_1:=λ_ _ _=>True) (motive_2:=λxs ds _=>P xs ds) (motive_3:=λ_ _ _=>True) (motive_4:=λ_ _ _=>True) trivial (λ_=>trivial) (λ_=>trivial) (λ_=>trivial) (λ_ _ _=>trivial) (λ_ _ _ _=>trivial) (λ_ _ _ _=>trivial) (λ_ _ _ _=>trivial) (λ_=>trivial) (λ_=>trivial) (λ_ _=>trivial) h0 (λa r _ ih=>h1 _ _ _ _ a r ih) trivial (λ_ _ _ _=>trivial) trivial (λ_ _ _ _=>trivial) r
theorem RepT.ind{P:List (List cE×V)->List (List cE×Dv)->Prop}(h0:P [] [])(h1:∀(k:List cE) (x:V) (d:Dv) (xs:List (List cE×V)) (ds:List (List cE×Dv)),Rep K M H x d->RepT K M H xs ds->P xs ds->P ((k,x)::xs) ((k,d)::ds)){ds:List (List cE×Dv)}(r:RepT K M H xs ds):P xs ds:=
 RepT.rec (motive_1:=λ_ _ _=>True) (motive_2:=λ_ _ _=>True) (motive_3:=λxs ds _=>P xs ds) (motive_4:=λ_ _ _=>True) trivial (λ_=>trivial) (λ_=>trivial) (λ_=>trivial) (λ_ _ _=>trivial) (λ_ _ _ _=>trivial) (λ_ _ _ _=>trivial) (λ_ _ _ _=>trivial) (λ_=>trivial) (λ_=>trivial) (λ_ _=>trivial) trivial (λ_ _ _ _=>trivial) h0 (λa r _ ih=>h1 _ _ _ _ _ a r ih) trivial (λ_ _ _ _=>trivial) r
theorem RepF.ind{P:List (bt×V)->List (bt×Dv)->Prop}(h0:P [] [])(h1:∀(k:bt) (x:V) (d:Dv) (xs:List (bt×V)) (ds:List (bt×Dv)),Rep K M H x d->RepF K M H xs ds->P xs ds->P ((k,x)::xs) ((k,d)::ds)){xs:List (bt×V)}{ds:List (bt×Dv)}(r:RepF K M H xs ds):P xs ds:=
 RepF.rec (motive_1:=λ_ _ _=>True) (motive_2:=λ_ _ _=>True) (motive_3:=λ_ _ _=>True) (motive_4:=λxs ds _=>P xs ds) trivial (λ_=>trivial) (λ_=>trivial) (λ_=>trivial) (λ_ _ _=>trivial) (λ_ _ _ _=>trivial) (λ_ _ _ _=>trivial) (λ_ _ _ _=>trivial) (λ_=>trivial) (λ_=>trivial) (λ_ _=>trivial) trivial (λ_ _ _ _=>trivial) trivial (λ_ _ _ _=>trivial) h0 (λa r _ ih=>h1 _ _ _ _ _ a r ih) r
theorem _root_.L2.TileAt.gen{k:Tk}(t:TileAt H k b)(ht:∀a xs,H a=aa (.tup xs)->H' a=aa (.tup xs)):TileAt H' k b:=let ⟨c,e1,e2⟩:=t;⟨c,ht _ _ e1,ht _ _ e2⟩
theorem Rep.gen(G:Gen K M M' H H'){x:V}{d:Dv}(r:Rep K M H x d):Rep K M' H' x d:=
 Rep.rec (motive_1:=λx d _=>Rep K M' H' x d) (motive_2:=λxs ds _=>Reps K M' H' xs ds) (motive_3:=λxs ds _=>RepT K M' H' xs ds) (motive_4:=λxs ds _=>RepF K M' H' xs ds)
  .non .bl .int .str (λh _ r=>.tup (G.t _ _ h) r) (λh m _ r=>.lst (G.l _ _ h trivial m).1 (G.l _ _ h trivial m).2 r) (λh m _ r=>.dit (G.l _ _ h trivial m).1 (G.l _ _ h trivial m).2 r) (λh m _ r=>.obj (G.l _ _ h trivial m).1 (G.l _ _ h trivial m).2 r) (λh=>.scr (G.s _ _ h)) (λzq4=>by obtain⟨o,u,h,z,y,m⟩:=zq4;exact .exc ⟨o,u,G.x _ _ _ h,z,y.gen G.x,m⟩) (λ⟨xs,h,e,t⟩ m=>.dns ⟨xs,(G.l _ _ h trivial m).1,e,λx hx=>(t x hx).gen G.t⟩ (G.l _ _ h trivial m).2) .nil (λ_ _ a r=>.cons a r) .nil (λ_ _ a r=>.cons a r) .nil (λ_ _ a r=>.cons a r) r
theorem Reps.gen(G:Gen K M M' H H'){xs:List V}{ds:List Dv}(r:Reps K M H xs ds):Reps K M' H' xs ds:=r.ind .nil λ_ _ _ _ a _ ih=>.cons (a.gen G) ih
theorem RepT.gen(G:Gen K M M' H H'){xs:List (List cE×V)}{ds:List (List cE×Dv)}(r:RepT K M H xs ds):RepT K M' H' xs ds:=r.ind .nil λ_ _ _ _ _ a _ ih=>.cons (a.gen G) ih
theorem RepF.gen(G:Gen K M M' H H'){xs:List (bt×V)}{ds:List (bt×Dv)}(r:RepF K M H xs ds):RepF K M' H' xs ds:=r.ind .nil λ_ _ _ _ _ a _ ih=>.cons (a.gen G) ih
theorem aS.scr(S:aS H H')(h:KN K H a ns):KN K H' a ns:=by
 rcases h with⟨o,h⟩ | h
 ·exact .inl ⟨o,S _ _ h⟩
 ·exact .inr h
theorem Gen.mono(S:aS H H'):Gen K M M H H':=⟨λa o h _ m=>⟨S _ _ h,m⟩,λ_ _ h=>S _ _ h,λ_ _ h=>aS.scr S h,λ_ _ _ h=>S _ _ h⟩
theorem Gen.weak(h:∀a,M' a->M a):Gen K M M' H H:=⟨λa o e _ m=>⟨e,λz=>m (h a z)⟩,λ_ _ h=>h,λ_ _ h=>h,λ_ _ _ h=>h⟩
theorem Gen.fresh{p:af}(hp:H p=aq):Gen K M (λb=>M b \/ b=p) H H:=
 ⟨λa o e _ m=>⟨e,λz=>z.elim m λz=>by rw[z,hp] at e;cases e⟩,λ_ _ h=>h,λ_ _ h=>h,λ_ _ _ h=>h⟩
theorem Gen.trans(a:Gen K M M' H H')(b:Gen K M' M'' H' H''):Gen K M M'' H H'':=
 ⟨λc o e mu m=>b.l c o (a.l c o e mu m).1 mu (a.l c o e mu m).2,λc xs h=>b.t c xs (a.t c xs h),λc ns h=>b.s c ns (a.s c ns h),λc o u h=>b.x c o u (a.x c o u h)⟩
theorem qA{p:af}{u:HO}(mu:FV (H p))(e:H a=aa u)(n:¬FV (aa u)):a≠p:=λz=>by
 subst z;rw[e] at mu;exact n mu
theorem Gen.write{p:af}(hM:M p)(mu:FV (H p)):Gen K M M H (upd H p o):=by
 refine⟨λa u e _ m=>⟨?_,m⟩,λa xs h=>?_,λa ns h=>?_,λa o u h=>by rw[bF (qA mu h λz=>z)];exact h⟩
 ·rw[bF λz=>m (by rw[z];exact hM)];exact e
 ·rw[bF (qA mu h λz=>z)];exact h
 ·rcases h with⟨u,h⟩ | h
  ·exact .inl ⟨u,by rw[bF (qA mu h λz=>z)];exact h⟩
  ·exact .inr h
end
theorem Rep.mono{x:V}{d:Dv}(S:aS H H')(h:Rep K M H x d):Rep K M H' x d:=h.gen (.mono S)
theorem Rep.weak{x:V}{d:Dv}(w:∀a,M' a->M a)(h:Rep K M H x d):Rep K M' H x d:=h.gen (.weak w)
theorem Reps.mono{xs:List V}{ds:List Dv}(S:aS H H')(h:Reps K M H xs ds):Reps K M H' xs ds:=h.gen (.mono S)
theorem Reps.weak{xs:List V}{ds:List Dv}(w:∀a,M' a->M a)(h:Reps K M H xs ds):Reps K M' H xs ds:=h.gen (.weak w)
theorem gL{d:Dv}(f:flatDs (d::ds)=ai):lF d=ai/\flatDs ds=ai:=by
 have f':(lF d&&flatDs ds)=ai:=f;rwa[eg] at f'
theorem Rep.flat{x:V}{d:Dv}(f:lF d=ai)(r:Rep K M H x d):Rep K M' H x d:=
 Rep.rec (motive_1:=λx d _=>lF d=ai->Rep K M' H x d) (motive_2:=λxs ds _=>flatDs ds=ai->Reps K M' H xs ds) (motive_3:=λ_ _ _=>True) (motive_4:=λ_ _ _=>True)
  (λ_=>.non) (λb _=>.bl b) (λi _=>.int i) (λx _=>.str x) (λh _ ih f=>.tup h (ih (by rw[lF] at f;exact f))) (λ_ _ _ _ f=>by simp[lF] at f) (λ_ _ _ _ f=>by simp[lF] at f)
  (λ_ _ _ _ f=>by simp[lF] at f) (λh _=>.scr h) (λh _=>.exc h) (λ_ _ f=>by simp[lF] at f) (λ_=>.nil) (λ_ _ a r f=>.cons (a (gL f).1) (r (gL f).2)) trivial (λ_ _ _ _=>trivial) trivial (λ_ _ _ _=>trivial) r f
theorem Reps.flat{xs:List V}{ds:List Dv}(f:flatDs ds=ai)(r:Reps K M H xs ds):Reps K M' H xs ds:=
 r.ind (P:=λxs ds=>flatDs ds=ai->Reps K M' H xs ds) (λ_=>.nil) (λ_ _ _ _ a _ ih f=>.cons (a.flat (gL f).1) (ih (gL f).2)) f
theorem RepF.flat{xs:List (bt×V)}{ds:List (bt×Dv)}(f:flatDs (ds.map (·.2))=ai)(r:RepF K M H xs ds):RepF K M' H xs ds:=
 r.ind (P:=λxs ds=>flatDs (ds.map (·.2))=ai->RepF K M' H xs ds) (λ_=>.nil) (λ_ _ _ _ _ a _ ih f=>.cons (a.flat (gL f).1) (ih (gL f).2)) f
theorem RepT.flat{xs:List (List cE×V)}{ds:List (List cE×Dv)}(f:flatDs (ds.map (·.2))=ai)(r:RepT K M H xs ds):RepT K M' H xs ds:=
 r.ind (P:=λxs ds=>flatDs (ds.map (·.2))=ai->RepT K M' H xs ds) (λ_=>.nil) (λ_ _ _ _ _ a _ ih f=>.cons (a.flat (gL f).1) (ih (gL f).2)) f
theorem Reps.length{xs:List V}{ds:List Dv}(r:Reps K M H xs ds):xs.length=ds.length:=r.ind (P:=λxs ds=>xs.length=ds.length) rfl λ_ _ _ _ _ _ ih=>congrArg (· + 1) ih
theorem Reps.append{xs ys:List V}{es:List Dv}(r:Reps K M H xs ds)(s:Reps K M H ys es):Reps K M H (xs++ys) (ds++es):=r.ind (P:=λxs ds=>Reps K M H (xs++ys) (ds++es)) s λ_ _ _ _ a _ ih=>.cons a ih
theorem Reps.get{xs:List V}{d:Dv}(r:Reps K M H xs ds)(e:ds[i]?=aa d):∃x,xs[i]?=aa x/\Rep K M H x d:=
 r.ind (P:=λxs ds=>∀i,ds[i]?=aa d -> ∃x,xs[i]?=aa x/\Rep K M H x d) (λi e=>by rw[List.getElem?_nil] at e;cases e) (λx y xs ys a _ ih i e=>by
  cases i with
  |zero=>rw[sy] at e;cases e;exact⟨x,rfl,a⟩
  |succ i=>exact ih i e) i e
theorem Reps.take{xs:List V}{ds:List Dv}(n:Nat)(r:Reps K M H xs ds):Reps K M H (xs.take n) (ds.take n):=
 r.ind (P:=λxs ds=>∀n,Reps K M H (xs.take n) (ds.take n)) (λn=>by cases n<;>exact .nil) (λ_ _ _ _ a r ih n=>by cases n with
  |zero=>exact .nil
  |succ n=>exact .cons a (ih n)) n
theorem Reps.drop{xs:List V}{ds:List Dv}(n:Nat)(r:Reps K M H xs ds):Reps K M H (xs.drop n) (ds.drop n):=
 r.ind (P:=λxs ds=>∀n,Reps K M H (xs.drop n) (ds.drop n)) (λn=>by cases n<;>exact .nil) (λ_ _ _ _ a r ih n=>by cases n with
  |zero=>exact .cons a r
  |succ n=>exact ih n) n
theorem Reps.reverse{xs:List V}{ds:List Dv}(r:Reps K M H xs ds):Reps K M H xs.reverse ds.reverse:=
 r.ind (P:=λxs ds=>Reps K M H xs.reverse ds.reverse) .nil λ_ _ _ _ a _ ih=>by
  rw[yo,yo];exact ih.append (.cons a .nil)
theorem Reps.repl{xs:List V}{ds:List Dv}(h:Reps K M H xs ds):∀n:Nat,Reps K M H (au n xs).flatten (au n ds).flatten
 |0=>.nil
 |n+1=>by
  rw[mh,mh,uh,uh];exact h.append (Reps.repl h n)
theorem Reps.ints:∀ns:List Int,Reps K M H (ns.map V.int) (ns.map Dv.int)
 | []=>.nil
 |n::r=>.cons (.int n) (Reps.ints r)
noncomputable def e7(K:ak)(M:af->Prop)(H:Hp)(a:af):Dv->Prop
 | .lst ds=>∃xs,H a=aa (.lst xs)/\Reps K M H xs ds
 | .dit ds=>∃ep kvs,H a=aa (.dT ep kvs)/\RepT K M H kvs ds
 | .obj C ds=>∃dx fs,H a=aa (.ins C dx fs)/\RepF K M H fs ds
 | .dns ks=>U5 H a ks
 |_=>False
noncomputable def Hr:Dv->Bool
 | .lst ds=>flatDs ds
 | .dit ds=>flatDs (ds.map (·.2))
 | .obj _ ds=>flatDs (ds.map (·.2))
 | .dns _=>ai
 |_=>ap
theorem e7.gen{d:Dv}(G:Gen K M M' H H')(ha:∀o,H a=aa o->H' a=aa o)(h:e7 K M H a d):e7 K M' H' a d:=by
 cases d with
 |lst ds=>obtain⟨xs,e,r⟩:=h;exact⟨xs,ha _ e,r.gen G⟩
 |dit ds=>obtain⟨ep,xs,e,r⟩:=h;exact⟨ep,xs,ha _ e,r.gen G⟩
 |obj C ds=>obtain⟨dx,fs,e,r⟩:=h;exact⟨dx,fs,ha _ e,r.gen G⟩
 |dns ks=>obtain⟨xs,e,k,t⟩:=h;exact⟨xs,ha _ e,k,λx hx=>(t x hx).gen G.t⟩
 |_=>exact h.elim
theorem e7.mono{d:Dv}(S:aS H H')(h:e7 K M H a d):e7 K M H' a d:=h.gen (.mono S) λo e=>S _ _ e
theorem e7.weak{d:Dv}(w:∀a,M' a->M a)(h:e7 K M H a d):e7 K M' H a d:=h.gen (.weak w) λ_ e=>e
theorem e7.flat{d:Dv}(f:Hr d=ai)(h:e7 K M H a d):e7 K M' H a d:=by
 cases d with
 |lst ds=>obtain⟨xs,e,r⟩:=h;exact⟨xs,e,r.flat f⟩
 |dit ds=>obtain⟨ep,xs,e,r⟩:=h;exact⟨ep,xs,e,r.flat f⟩
 |obj C ds=>obtain⟨dx,fs,e,r⟩:=h;exact⟨dx,fs,e,r.flat f⟩
 |dns ks=>exact h
 |_=>exact h.elim
theorem e7.mut{d:Dv}(h:e7 K M H a d):∃o,H a=aa o/\FV (aa o):=by
 cases d with
 |lst ds=>obtain⟨xs,e,r⟩:=h;exact⟨_,e,trivial⟩
 |dit ds=>obtain⟨ep,xs,e,r⟩:=h;exact⟨_,e,trivial⟩
 |obj C ds=>obtain⟨dx,fs,e,r⟩:=h;exact⟨_,e,trivial⟩
 |dns ks=>obtain⟨xs,e,_⟩:=h;exact⟨_,e,trivial⟩
 |_=>exact h.elim
theorem e7.rep{d:Dv}(h:e7 K M H a d)(m:¬M a):Rep K M H (.ref a) d:=by
 cases d with
 |lst ds=>obtain⟨xs,e,r⟩:=h;exact .lst e m r
 |dit ds=>obtain⟨ep,xs,e,r⟩:=h;exact .dit e m r
 |obj C ds=>obtain⟨dx,fs,e,r⟩:=h;exact .obj e m r
 |dns ks=>exact .dns h m
 |_=>exact h.elim
inductive Sl where
 |un
 |v (d:Dv)
 |own (a:af) (d:Dv)
noncomputable def MM(F:af->Prop)(ρ:List Sl):af->Prop:=λa=>F a \/ ∃d,Sl.own a d∈ρ
noncomputable def xK(K:ak)(M:af->Prop)(H:Hp)(o:Option (Option V)):Sl->Prop
 | .un=>True
 | .v d=>∃x,o=aa (aa x)/\Rep K M H x d
 | .own a d=>o=aa (aa (.ref a))/\e7 K M H a d
noncomputable abbrev Oa:Bool:=ap
noncomputable def Mq(K:ak)(P:af)(q:bt):Prop:=Oa=ai /\ ∃(C f:af) (o:ae) (od:Option af) (fd:jw) (sl:Array (Option ae)) (c:af) (oc:ae) (odc:Option af) (vs:Array ae) (slc:Array (Option ae)),
 W.nsIn K je "Sides" = aa (aa (.ref C))/\oo K (.ref C) "last" = aa (aa (.ref f))/\K.lookup f=aa ⟨o,od,.func fd,sl⟩/\fd.code=.ref c/\K.lookup c=aa ⟨oc,odc,.fields vs,slc⟩/\vs[11]?=aa (.ref P) /\
 q = "Sides.last" ++ ".<locals>." ++ "<lambda>"
noncomputable def tR(K:ak)(H:Hp):Prop:=∀P q,Mq K P q->H P=aa (.lam q)
structure OldF(K:ak)(F:af->Prop)(HZ:Hp):Prop where
 f:∀a,F a->HZ a≠aq
 t:tR K HZ
theorem tR.mono(t:tR K H)(S:aS H H'):tR K H':=λP q z=>S _ _ (t P q z)
structure Fr(K:ak)(HZ:Hp)(F:af->Prop)(σ:St)(H:Hp)(ρ:List Sl):Prop where
 len:σ.length=ρ.length
 sl:∀(i:Nat) (s:Sl),ρ[i]?=aa s->xK K (MM F ρ) H σ[i]? s
 nd:∀(i j:Nat) (a:af) (d d':Dv),ρ[i]?=aa (.own a d)->ρ[j]?=aa (.own a d')->i=j
 new:∀(a:af) (d:Dv),Sl.own a d∈ρ->HZ a=aq
 same:aS HZ H
 old:OldF K F HZ
variable {HZ:Hp}{σ:St}{ρ:List Sl}
theorem xK.mono{o:Option (Option V)}{s:Sl}(S:aS H H')(h:xK K M H o s):xK K M H' o s:=by
 cases s with
 |un=>trivial
 |v d=>obtain⟨x,e,r⟩:=h;exact⟨x,e,r.mono S⟩
 |own a d=>exact⟨h.1,h.2.mono S⟩
theorem xK.weak{o:Option (Option V)}{s:Sl}(w:∀a,M' a->M a)(h:xK K M H o s):xK K M' H o s:=by
 cases s with
 |un=>trivial
 |v d=>obtain⟨x,e,r⟩:=h;exact⟨x,e,r.weak w⟩
 |own a d=>exact⟨h.1,h.2.weak w⟩
theorem Fr.tab(fr:Fr K HZ F σ H ρ):tR K H:=fr.old.t.mono fr.same
theorem Fr.mono(fr:Fr K HZ F σ H ρ)(S:aS H H'):Fr K HZ F σ H' ρ:=⟨fr.len,λi s e=>(fr.sl i s e).mono S,fr.nd,fr.new,fr.same.trans S,fr.old⟩
theorem Fr.at_own(fr:Fr K HZ F σ H ρ){d:Dv}(h:Sl.own a d∈ρ):∃i:Nat,ρ[i]?=aa (.own a d)/\σ[i]?=aa (aa (.ref a))/\e7 K (MM F ρ) H a d:=by
 obtain⟨i,e⟩:=ot.mp h;have:=fr.sl i _ e;exact⟨i,e,this.1,this.2⟩
theorem Fr.dom(fr:Fr K HZ F σ H ρ)(m:MM F ρ a):H a≠aq:=by
 rcases m with m | ⟨d,m⟩
 ·intro e;exact fr.old.f a m (fr.same.free e)
 ·obtain⟨_,_,_,o⟩:=fr.at_own m;obtain⟨u,e,_⟩:=o.mut;rw[e];simp
theorem Fr.fresh(fr:Fr K HZ F σ H ρ)(e:H a=aq):¬MM F ρ a:=λm=>fr.dom m e
inductive R where
 |v (d:Dv)
 |ow (a:af) (d:Dv)
 |nw (d:Dv)
noncomputable def R.d:R->Dv
 | .v d=>d
 | .ow _ d=>d
 | .nw d=>d
noncomputable def R.free:R->Bool
 | .ow _ _=>ap
 |_=>ai
noncomputable def Ag(ρ:List Sl):af->Dv->Prop:=λa d=>Sl.own a d∈ρ
noncomputable def CA:af->Dv->Prop:=λ_ _=>False
noncomputable def eD(K:ak)(M:af->Prop)(O:af->Dv->Prop)(H:Hp)(x:V)(r:R)(H':Hp):Prop:=match r with
 | .v d=>Rep K M H' x d
 | .ow a d=>x=.ref a/\O a d/\e7 K M H' a d
 | .nw d=>∃a,x=.ref a/\H a=aq/\e7 K (λb=>M b \/ b=a) H' a d
noncomputable def eB(K:ak)(M:af->Prop)(H:Hp)(x:V)(d:Dv):Prop:=Rep K M H x d \/ ∃a,x=.ref a/\e7 K M H a d
section
variable {K:ak}{M M':af->Prop}{O:af->Dv->Prop}{H H' H'':Hp}{x:V}{r:R}
theorem eD.mono(h:eD K M O H x r H')(S:aS H' H''):eD K M O H x r H'':=by
 cases r with
 |v d=>exact Rep.mono S h
 |ow a d=>exact⟨h.1,h.2.1,h.2.2.mono S⟩
 |nw d=>obtain⟨a,e,n,o⟩:=h;exact⟨a,e,n,o.mono S⟩
theorem eD.ahead(h:eD K M O H1 x r H')(S:aS H H1):eD K M O H x r H':=by
 cases r with
 |v d=>exact h
 |ow a d=>exact h
 |nw d=>obtain⟨a,e,n,o⟩:=h;exact⟨a,e,S.free n,o⟩
theorem eD.c(h:eD K M O H x r H'):eB K M H' x r.d:=by
 cases r with
 |v d=>exact .inl h
 |ow a d=>exact .inr ⟨a,h.1,h.2.2⟩
 |nw d=>obtain⟨a,e,n,o⟩:=h;exact .inr ⟨a,e,o.weak λb z=>.inl z⟩
theorem eD.rep(h:eD K M O H x r H')(hM:∀a,M a->H a≠aq)(f:r.free=ai):Rep K M H' x r.d:=by
 cases r with
 |v d=>exact h
 |ow a d=>simp[R.free] at f
 |nw d=>
  obtain⟨a,e,n,o⟩:=h;subst e;exact(o.weak λb z=>.inl z).rep λz=>hM a z n
theorem eB.lst{ds:List Dv}(h:eB K M H x (.lst ds)):∃a xs,x=.ref a/\H a=aa (.lst xs)/\Reps K M H xs ds:=by
 rcases h with h | ⟨a,e,xs,h1,h2⟩
 ·cases h with
  |lst h1 _ h2=>exact⟨_,_,rfl,h1,h2⟩
 ·exact⟨a,xs,e,h1,h2⟩
theorem eB.tup{ds:List Dv}(h:eB K M H x (.tup ds)):∃a xs,x=.ref a/\H a=aa (.tup xs)/\Reps K M H xs ds:=by
 rcases h with h | ⟨a,e,o⟩
 ·cases h with
  |tup h1 h2=>exact⟨_,_,rfl,h1,h2⟩
 ·exact o.elim
theorem eB.int{i:Int}(h:eB K M H x (.int i)):x=.int i:=by
 rcases h with h | ⟨a,e,o⟩
 ·cases h;rfl
 ·exact o.elim
theorem eB.bl{b:Bool}(h:eB K M H x (.bl b)):x=.bl b:=by
 rcases h with h | ⟨a,e,o⟩
 ·cases h;rfl
 ·exact o.elim
theorem eB.non(h:eB K M H x .non):x=.non:=by
 rcases h with h | ⟨a,e,o⟩
 ·cases h;rfl
 ·exact o.elim
theorem eB.str{s:bt}(h:eB K M H x (.str s)):x=.str s:=by
 rcases h with h | ⟨a,e,o⟩
 ·cases h;rfl
 ·exact o.elim
theorem eB.scr{ns:List Int}(h:eB K M H x (.scr ns)):∃a,x=.ref a/\KN K H a ns:=by
 rcases h with h | ⟨a,e,o⟩
 ·cases h with
  |scr h=>exact⟨_,rfl,h⟩
 ·exact o.elim
theorem eB.dit{ds:List (List cE×Dv)}(h:eB K M H x (.dit ds)):∃a ep kvs,x=.ref a/\H a=aa (.dT ep kvs)/\RepT K M H kvs ds:=by
 rcases h with h | ⟨a,e,ep0,xs,h1,h2⟩
 ·cases h with
  |dit h1 _ h2=>exact⟨_,_,_,rfl,h1,h2⟩
 ·exact⟨a,ep0,xs,e,h1,h2⟩
theorem eB.obj{C:af}{ds:List (bt×Dv)}(h:eB K M H x (.obj C ds)):∃a dx fs,x=.ref a/\H a=aa (.ins C dx fs)/\RepF K M H fs ds:=by
 rcases h with h | ⟨a,e,dx,fs,h1,h2⟩
 ·cases h with
  |obj h1 _ h2=>exact⟨_,_,_,rfl,h1,h2⟩
 ·exact⟨a,dx,fs,e,h1,h2⟩
end
noncomputable abbrev dZ:=List Sl->(R->Prop)->Prop
noncomputable abbrev n5:=List Sl->(List R->Prop)->Prop
noncomputable abbrev lN:=List Sl->(Bool->Prop)->Prop
noncomputable def lL(K:ak)(M:af->Prop)(O:af->Dv->Prop)(H:Hp)(xs:List V)(rs:List R)(H':Hp):Prop:=Paired (λx r=>eD K M O H x r H') xs rs
noncomputable def yX(K:ak)(M:af->Prop)(H:Hp):List V->List Dv->Prop:=Paired (eB K M H)
variable {O:af->Dv->Prop}
theorem lL.ahead{xs:List V}{rs:List R}(h:lL K M O H1 xs rs H')(S:aS H H1):lL K M O H xs rs H':=Paired.mapP h λ_ _ q=>q.ahead S
theorem lL.c:∀{xs:List V} {rs:List R},lL K M O H xs rs H'->yX K M H' xs (rs.map R.d)
 |_,_,.nil=>.nil
 |_,_,.cons a t=>.cons a.c (lL.c t)
theorem lL.reps(hM:∀a,M a->H a≠aq):∀{xs:List V} {rs:List R},lL K M O H xs rs H'->rs.all R.free=ai->Reps K M H' xs (rs.map R.d)
 |_,_,.nil,_=>.nil
 |_,_,.cons a t,f=>by
  rw[XI,eg] at f;exact .cons (a.rep hM f.1) (lL.reps hM t f.2)
inductive lift(K:ak)(HZ:Hp)(F:af->Prop)(t:dZ)(σ:St)(H:Hp)(Q:VK):Prop
 |mk (ρ:List Sl) (fr:Fr K HZ F σ H ρ) (h:t ρ λr=>∀x H',aS H H'->eD K (MM F ρ) (Ag ρ) H x r H'->Q x H')
inductive liftA(K:ak)(HZ:Hp)(F:af->Prop)(t:n5)(σ:St)(H:Hp)(Q:List V->Hp->Prop):Prop
 |mk (ρ:List Sl) (fr:Fr K HZ F σ H ρ) (h:t ρ λrs=>∀xs H',aS H H'->lL K (MM F ρ) (Ag ρ) H xs rs H'->Q xs H')
inductive liftT(K:ak)(HZ:Hp)(F:af->Prop)(t:lN)(σ:St)(H:Hp)(Q:Bool->Hp->Prop):Prop
 |mk (ρ:List Sl) (fr:Fr K HZ F σ H ρ) (h:t ρ λb=>∀H',aS H H'->Q b H')
structure QE(X:Cx)(e:Expr)(t:dZ):Prop where
 mono:∀(ρ:List Sl) (Q Q':R->Prop),(∀r,Q r->Q' r)->t ρ Q->t ρ Q'
 run:∀(HZ:Hp) (F:af->Prop),PE X e (lift X.K HZ F t)
structure QA(X:Cx)(es:List Expr)(t:n5):Prop where
 mono:∀(ρ:List Sl) (Q Q':List R->Prop),(∀r,Q r->Q' r)->t ρ Q->t ρ Q'
 run:∀(HZ:Hp) (F:af->Prop),PA X es (liftA X.K HZ F t)
structure QT(X:Cx)(e:Expr)(t:lN):Prop where
 mono:∀(ρ:List Sl) (Q Q':Bool->Prop),(∀r,Q r->Q' r)->t ρ Q->t ρ Q'
 run:∀(HZ:Hp) (F:af->Prop),PT X e (liftT X.K HZ F t)
structure QW(X:Cx)(e:Expr)(t:lN):Prop where
 mono:∀(ρ:List Sl) (Q Q':Bool->Prop),(∀r,Q r->Q' r)->t ρ Q->t ρ Q'
 run:∀(HZ:Hp) (F:af->Prop),PW X e (liftT X.K HZ F t)
variable {t':TT}{op:Wa}{Y7:List Expr}{ta te:dZ}{ts:n5}
section
variable {a b c:Expr}{tb tc:dZ}{pos:ma}
theorem dA{t t':TE}(h:PE X e t)(w:∀σ H Q,t' σ H Q->t σ H Q):PE X e t':=λpj s σ H Q I q=>h pj s σ H Q I (w σ H Q q)
theorem IP{t t':TA}(h:PA X es t)(w:∀σ H Q,t' σ H Q->t σ H Q):PA X es t':=λpos pj s σ H Q I q=>h pos pj s σ H Q I (w σ H Q q)
theorem Ae{t:TT}(h:PT X e t)(w:∀σ H Q,t' σ H Q->t σ H Q):PT X e t':=λpj s σ H Q I q=>h pj s σ H Q I (w σ H Q q)
theorem IM{t:TT}(h:PW X e t)(w:∀σ H Q,t' σ H Q->t σ H Q):PW X e t':=λwh pj s σ H Q I q=>h wh pj s σ H Q I (w σ H Q q)
theorem QW.qt{t:lN}(h:QW X e t):QT X e t:=⟨h.mono,λHZ F=>(h.run HZ F).pt⟩
theorem QE.step{Q:R->Prop}{Q':VK}(h:QE X e te)(fr:Fr X.K HZ F σ H ρ)(q:te ρ Q)
  (k:∀r x H',Q r->aS H H'->eD X.K (MM F ρ) (Ag ρ) H x r H'->Q' x H'):lift X.K HZ F te σ H Q':=⟨ρ,fr,h.mono _ _ _ (λr qr x H' S rx=>k r x H' qr S rx) q⟩
theorem QA.step{Q:List R->Prop}{Q':List V->Hp->Prop}(h:QA X es ts)(fr:Fr X.K HZ F σ H ρ)(q:ts ρ Q)
  (k:∀rs xs H',Q rs->aS H H'->lL X.K (MM F ρ) (Ag ρ) H xs rs H'->Q' xs H'):liftA X.K HZ F ts σ H Q':=⟨ρ,fr,h.mono _ _ _ (λr qr x H' S rx=>k r x H' qr S rx) q⟩
theorem QT.step{t:lN}{Q:Bool->Prop}{Q':Bool->Hp->Prop}(h:QT X e t)(fr:Fr X.K HZ F σ H ρ)(q:t ρ Q)
  (k:∀b H',Q b->aS H H'->Q' b H'):liftT X.K HZ F t σ H Q':=⟨ρ,fr,h.mono _ _ _ (λr qr H' S=>k r H' qr S) q⟩
noncomputable def a8(i:Nat):dZ:=λρ Q=>match ρ[i]? with
 |some (.v d)=>Q (.v d)
 |some (.own a d)=>Q (.ow a d)
 |_=>False
theorem a9(i:Nat)(h:PE X (.Name x pos) (Aq i)):QE X (.Name x pos) (a8 i):=by
 refine⟨λρ Q Q' w h=>?_,λHZ F=>dA h λσ H Q ⟨ρ,fr,q⟩=>?_⟩
 ·unfold a8 at *;split at h
  ·exact w _ h
  ·exact w _ h
  ·exact h
 ·unfold a8 at q;split at q
  ·rename_i d e;obtain⟨x,hx,r⟩:=fr.sl i _ e;exact⟨x,hx,q x H (aS.refl _) r⟩
  ·rename_i a d e;obtain⟨hx,r⟩:=fr.sl i _ e;exact⟨.ref a,hx,q _ H (aS.refl _) ⟨rfl,cq e,r⟩⟩
  ·exact q.elim
noncomputable def eC(d:Dv):dZ:=λ_ Q=>Q (.v d)
theorem Po{v:V}{d:Dv}(h:PE X e (tC v))(r:∀M H,Rep X.K M H v d):QE X e (eC d):=
 ⟨λ_ _ _ w q=>w _ q,λHZ F=>dA h λσ H Q zq5=>by obtain⟨ρ,fr,q⟩:=zq5;exact q v H (aS.refl _) (r _ _)⟩
theorem aU{i j pos}:QE X (.Constant (.int i) j pos) (eC (.int i)):=Po Lb λ_ _=>.int i
theorem nP{b j pos}:QE X (.Constant (.bool b) j pos) (eC (.bl b)):=Po Nz λ_ _=>.bl b
theorem y7{j pos}:QE X (.Constant .none j pos) (eC .non):=Po LZ λ_ _=>.non
theorem rM{n:Int}(hm:∃t,X.mg x=aa (.int n t))(hg:autoParam (Gl X x) cH._auto_1)(hd:autoParam ((x==("__debug__" : bt))=ap) pL._auto_1):QE X (.Name x pos) (eC (.int n)):=Po (GW hm hg hd) λ_ _=>.int n
noncomputable def aF:n5:=λ_ Q=>Q []
noncomputable def a7(te:dZ)(ts:n5):n5:=λρ Q=>te ρ λr=>ts ρ λrs=>Q (r::rs)
theorem aE:QA X [] aF:=⟨λ_ _ _ w q=>w _ q,λHZ F=>IP vJ λσ H Q zq6=>by obtain⟨ρ,fr,q⟩:=zq6;exact q [] H (aS.refl _) .nil⟩
theorem aD(ha:QE X e te)(hr:QA X es ts)(hs:autoParam (bg (e::es) X.env=(ap,fi e X.env)::bg es X.env) cH._auto_1):QA X (e::es) (a7 te ts):=by
 refine⟨λρ Q Q' w h=>ha.mono _ _ _ (λr q=>hr.mono _ _ _ (λrs q=>w _ q) q) h,λHZ F=>IP (oR (ha.run HZ F) (hr.run HZ F) hs) λσ H Q zz=>?_⟩;obtain⟨ρ,fr,q⟩:=zz;refine ha.step fr q λr x H1 q1 S1 r1=>?_;refine hr.step (fr.mono S1) q1 λrs xs H2 q2 S2 r2=>?_;exact q2 _ H2 (S1.trans S2) (.cons (r1.mono S2) (r2.ahead S1))
noncomputable def xL(X:Cx)(f:ae->ae->VL ae)(p:Dv->Dv->(R->Prop)->Prop):Prop:=
 (∀dx dy (Q Q':R->Prop),(∀r,Q r->Q' r)->p dx dy Q->p dx dy Q') /\ ∃r:R2,lM X f r /\ ∀(M:af->Prop) (O:af->Dv->Prop) (H:Hp) (x y:V) (dx dy:Dv) (Q:VK),eB X.K M H x dx->eB X.K M H y dy ->
  p dx dy (λrr=>∀z H',aS H H'->eD X.K M O H z rr H'->Q z H')->r x y H Q
noncomputable def aQ(p:Dv->Dv->(R->Prop)->Prop)(ta tb:dZ):dZ:=λρ Q=>ta ρ λx=>tb ρ λy=>p x.d y.d Q
theorem uP{p:Dv->Dv->(R->Prop)->Prop}{r:R2}(ha:QE X a ta)(hb:QE X b tb) (hr:∀(M:af->Prop) (O:af->Dv->Prop) (H:Hp) (x y:V) (dx dy:Dv) (Q:VK),eB X.K M H x dx->eB X.K M H y dy ->
  p dx dy (λrr=>∀z H',aS H H'->eD X.K M O H z rr H'->Q z H')->r x y H Q) (mo:∀dx dy (Q Q':R->Prop),(∀r,Q r->Q' r)->p dx dy Q->p dx dy Q') (HZ:Hp) (F:af->Prop) (σ:St) (H:Hp) (Q:VK)
  (h:lift X.K HZ F (aQ p ta tb) σ H Q):NA r (lift X.K HZ F ta) (lift X.K HZ F tb) σ H Q:=by
 obtain⟨ρ,fr,q⟩:=h;refine ha.step fr q λrx x H1 q1 S1 r1=>?_;refine hb.step (fr.mono S1) q1 λry y H2 q2 S2 r2=>?_;refine hr (MM F ρ) (Ag ρ) H2 x y _ _ Q (r1.mono S2).c r2.c (mo _ _ _ _ (λrr k z H' S rz=>?_) q2);exact k z H' ((S1.trans S2).trans S) (rz.ahead (S1.trans S2))
theorem rZ{p:Dv->Dv->(R->Prop)->Prop}(ha:QE X a ta)(hb:QE X b tb)(mo:∀dx dy (Q Q':R->Prop),(∀r,Q r->Q' r)->p dx dy Q->p dx dy Q')(ρ:List Sl)(Q Q':R->Prop)(w:∀r,Q r->Q' r)(h:aQ p ta tb ρ Q):aQ p ta tb ρ Q':=
 ha.mono _ _ _ (λrx h=>hb.mono _ _ _ (λry h=>mo _ _ _ _ w h) h) h
theorem bS{op:Operator}{p:Dv->Dv->(R->Prop)->Prop}(ho:xL X (jo op) p)(ha:QE X a ta)(hb:QE X b tb):QE X (.BinOp a op b pos) (aQ p ta tb):=by
 obtain⟨mo,r,hR,hr⟩:=ho;exact⟨rZ ha hb mo,λHZ F=>dA (Nx hR (ha.run HZ F) (hb.run HZ F)) (uP ha hb hr mo HZ F)⟩
theorem vF{p:Dv->Dv->(R->Prop)->Prop}(ho:xL X (dt op) p)(ha:QE X a ta)(hb:QE X b tb)(hm:autoParam (rg op b=ap) TM._auto_1):QE X (.Compare a [op] [b] pos) (aQ p ta tb):=by
 obtain⟨mo,r,hR,hr⟩:=ho;exact⟨rZ ha hb mo,λHZ F=>dA (JG hR (ha.run HZ F) (hb.run HZ F) hm) (uP ha hb hr mo HZ F)⟩
noncomputable def aW(te:dZ):lN:=λρ Q=>te ρ λr=>match r.d with
 | .bl c=>Q c
 |_=>False
theorem wD(mo:∀(ρ:List Sl) (Q Q':R->Prop),(∀r,Q r->Q' r)->te ρ Q->te ρ Q')(ρ:List Sl)(Q Q':Bool->Prop)(w:∀r,Q r->Q' r)(h:aW te ρ Q):aW te ρ Q':=by
 refine mo _ _ _ (λr q=>?_) h;split at q
 ·exact w _ q
 ·exact q.elim
theorem Hx{Q:Bool->Hp->Prop}(mo:∀(ρ:List Sl) (Q Q':R->Prop),(∀r,Q r->Q' r)->te ρ Q->te ρ Q')(h:liftT X.K HZ F (aW te) σ H Q):lift X.K HZ F te σ H λx H'=>∃k,x=.bl k/\Q k H':=by
 obtain⟨ρ,fr,q⟩:=h;refine⟨ρ,fr,mo _ _ _ (λr q x H' S rx=>?_) q⟩;split at q
 ·rename_i c e;have:=rx.c;rw[e] at this;exact⟨c,this.bl,q H' S⟩
 ·exact q.elim
theorem bB{p:Dv->Dv->(R->Prop)->Prop}(ho:xL X (dt op) p)(ha:QE X a ta)(hb:QE X b tb)(hm:autoParam (rg op b=ap) TM._auto_1):QT X (.Compare a [op] [b] pos) (aW (aQ p ta tb)):=by
 obtain⟨mo,r,hR,hr⟩:=ho;have m1:=rZ ha hb mo;exact⟨wD m1,λHZ F=>Ae (J5 hR (ha.run HZ F) (hb.run HZ F) hm) λσ H Q h=>uP ha hb hr mo HZ F σ H _ (Hx m1 h)⟩
noncomputable def qG(t u:lN):lN:=λρ Q=>t ρ λc=>if c=ai then u ρ Q else Q ap
noncomputable def FI(t u:lN):lN:=λρ Q=>t ρ λc=>if c=ai then Q ai else u ρ Q
noncomputable def mP(t:lN):lN:=λρ Q=>t ρ λc=>Q (!c)
theorem oM{t:lN}(h:QT X a t):QW X (.BoolOp .And [a] pos) t:=⟨h.mono,λHZ F=>Iz (h.run HZ F)⟩
theorem sP{t:lN}(h:QT X a t):QW X (.BoolOp .Or [a] pos) t:=⟨h.mono,λHZ F=>GG (h.run HZ F)⟩
theorem nO{t u:lN}(h:QT X a t)(k:QW X (.BoolOp .And (b::Y7) pos) u):QW X (.BoolOp .And (a::b::Y7) pos) (qG t u):=by
 refine⟨λρ Q Q' w q=>h.mono _ _ _ (λc q=>?_) q,λHZ F=>IM (LM (h.run HZ F) (k.run HZ F)) λσ H Q ⟨ρ,fr,q⟩=>?_⟩
 ·split at q
  ·rw[Y4 ‹_›];exact k.mono _ _ _ w q
  ·rw[XF ‹_›];exact w _ q
 ·refine h.step fr q λc H1 q1 S1=>?_;cases c with
  |true=>
   simp only[if_true] at q1;exact mZ ⟨ρ,fr.mono S1,k.mono _ _ _ (λb q H' S=>q H' (S1.trans S)) q1⟩
  |false=>
   simp only[fe,if_false] at q1;exact pA (q1 H1 S1)
theorem y6{t u:lN}(h:QT X a t)(k:QW X (.BoolOp .Or (b::Y7) pos) u):QW X (.BoolOp .Or (a::b::Y7) pos) (FI t u):=by
 refine⟨λρ Q Q' w q=>h.mono _ _ _ (λc q=>?_) q,λHZ F=>IM (Kg (h.run HZ F) (k.run HZ F)) λσ H Q ⟨ρ,fr,q⟩=>?_⟩
 ·split at q
  ·rw[Y4 ‹_›];exact w _ q
  ·rw[XF ‹_›];exact k.mono _ _ _ w q
 ·refine h.step fr q λc H1 q1 S1=>?_;cases c with
  |true=>
   simp only[if_true] at q1;exact mZ (q1 H1 S1)
  |false=>
   simp only[fe,if_false] at q1;exact pA ⟨ρ,fr.mono S1,k.mono _ _ _ (λb q H' S=>q H' (S1.trans S)) q1⟩
theorem gZ{t:lN}(h:QT X a t):QT X (.UnaryOp .Not a pos) (mP t):=
 ⟨λρ Q Q' w q=>h.mono _ _ _ (λc q=>w _ q) q,λHZ F=>Ae (GK (h.run HZ F)) λσ H Q zq0=>by obtain⟨ρ,fr,q⟩:=zq0;exact h.step fr q λc H1 q1 S1=>q1 H1 S1⟩
noncomputable def wF(ta tb:dZ):dZ:=λρ Q=>ta ρ λr=>match r.d with
 | .bl c=>if c=ai then tb ρ Q else Q (.v (.bl ap))
 |_=>False
noncomputable def KA(ta tb:dZ):dZ:=λρ Q=>ta ρ λr=>match r.d with
 | .bl c=>if c=ai then Q (.v (.bl ai)) else tb ρ Q
 |_=>False
noncomputable def Bq(ta:dZ):dZ:=λρ Q=>ta ρ λr=>match r.d with
 | .bl c=>Q (.v (.bl (!c)))
 |_=>False
theorem B7{op}(h:QE X a ta):QE X (.BoolOp op [a] pos) ta:=⟨h.mono,λHZ F=>LX (h.run HZ F)⟩
theorem DY(h:QE X a ta)(k:QE X (.BoolOp .And (b::Y7) pos) tb):QE X (.BoolOp .And (a::b::Y7) pos) (wF ta tb):=by
 refine⟨λρ Q Q' w q=>h.mono _ _ _ (λc q=>?_) q,λHZ F=>dA (Le (h.run HZ F) (k.run HZ F)) λσ H Q ⟨ρ,fr,q⟩=>?_⟩
 ·split at q
  ·split at q
   ·rw[Y4 ‹_›];exact k.mono _ _ _ w q
   ·rw[XF ‹_›];exact w _ q
  ·exact q
 ·refine h.step fr q λr x H1 q1 S1 r1=>?_;split at q1
  ·rename_i c e;have rc:=r1.c;rw[e] at rc;refine⟨c,rc.bl,?_⟩;cases c with
   |true=>
    simp only[if_true] at q1;exact mZ ⟨ρ,fr.mono S1,k.mono _ _ _ (λb q z H' S rz=>q z H' (S1.trans S) (rz.ahead S1)) q1⟩
   |false=>
    simp only[fe,if_false] at q1;exact pA (q1 _ H1 S1 (Rep.bl ap))
  ·exact q1.elim
theorem RY(h:QE X a ta)(k:QE X (.BoolOp .Or (b::Y7) pos) tb):QE X (.BoolOp .Or (a::b::Y7) pos) (KA ta tb):=by
 refine⟨λρ Q Q' w q=>h.mono _ _ _ (λc q=>?_) q,λHZ F=>dA (Nv (h.run HZ F) (k.run HZ F)) λσ H Q ⟨ρ,fr,q⟩=>?_⟩
 ·split at q
  ·split at q
   ·rw[Y4 ‹_›];exact w _ q
   ·rw[XF ‹_›];exact k.mono _ _ _ w q
  ·exact q
 ·refine h.step fr q λr x H1 q1 S1 r1=>?_;split at q1
  ·rename_i c e;have rc:=r1.c;rw[e] at rc;refine⟨c,rc.bl,?_⟩;cases c with
   |true=>
    simp only[if_true] at q1;exact mZ (q1 _ H1 S1 (Rep.bl ai))
   |false=>
    simp only[fe,if_false] at q1;exact pA ⟨ρ,fr.mono S1,k.mono _ _ _ (λb q z H' S rz=>q z H' (S1.trans S) (rz.ahead S1)) q1⟩
  ·exact q1.elim
theorem Kd(h:QE X a ta):QE X (.UnaryOp .Not a pos) (Bq ta):=by
 refine⟨λρ Q Q' w q=>h.mono _ _ _ (λc q=>?_) q,λHZ F=>dA (LY (h.run HZ F)) λσ H Q ⟨ρ,fr,q⟩=>?_⟩
 ·split at q
  ·exact w _ q
  ·exact q
 ·refine h.step fr q λr x H1 q1 S1 r1=>?_;split at q1
  ·rename_i c e;have rc:=r1.c;rw[e] at rc;exact⟨c,rc.bl,q1 _ H1 S1 (Rep.bl _)⟩
  ·exact q1.elim
noncomputable def Tr(t:lN)(ta tb:dZ):dZ:=λρ Q=>t ρ λc=>if c=ai then ta ρ Q else tb ρ Q
noncomputable def bQ(ts:n5):dZ:=λρ Q=>ts ρ λrs=>rs.all R.free=ai/\rs.length<=1000/\Q (.v (.tup (rs.map R.d)))
noncomputable def i7(ts:n5):dZ:=λρ Q=>ts ρ λrs=>rs.all R.free=ai/\rs.length<=1000/\Q (.nw (.lst (rs.map R.d)))
theorem tG(h:n<=1000):n<=bo:=Vo (EO h)
theorem aS.new'{l:af}(hl:H l=aq):aS H (upd H l o):=λb q e=>by rw[bF (bC e hl)];exact e
theorem cG{x1}(h:QA X es ts):QE X (.Tuple es x1 pos) (bQ ts):=by
 refine⟨λρ Q Q' w q=>h.mono _ _ _ (λrs q=>⟨q.1,q.2.1,w _ q.2.2⟩) q,λHZ F=>dA (LW (h.run HZ F)) λσ H Q zz=>?_⟩;obtain⟨ρ,fr,q⟩:=zz;refine h.step fr q λrs xs H1 ⟨q1,q2,q3⟩ S1 r1=>?_;have hl:xs.length=rs.length:=Paired.length r1;refine⟨tG (by ac_rfl),λp hp=>q3 _ _ (S1.trans (aS.new' hp)) ?_⟩;exact .tup c7 ((r1.reps (λa m=>fr.dom m) q1).mono (aS.new' hp))
theorem gJ(h:QA X es ts):QE X (.List es pos) (i7 ts):=by
 refine⟨λρ Q Q' w q=>h.mono _ _ _ (λrs q=>⟨q.1,q.2.1,w _ q.2.2⟩) q,λHZ F=>dA (La (h.run HZ F)) λσ H Q zz=>?_⟩;obtain⟨ρ,fr,q⟩:=zz;refine h.step fr q λrs xs H1 ⟨q1,q2,q3⟩ S1 r1=>?_;have hl:xs.length=rs.length:=Paired.length r1;refine⟨tG (by ac_rfl),λp hp=>q3 _ _ (S1.trans (aS.new' hp)) ?_⟩;exact⟨p,rfl,S1.free hp,xs,c7,((r1.reps (λa m=>fr.dom m) q1).gen (.fresh hp)).mono (aS.new' hp)⟩
end
noncomputable abbrev Ah:Nat:=1000000
theorem iX(h:n<=Ah):n<=bo:=om h (by rw[io];decide)
theorem jA{p:af}{xs:List V}(hp:H p=aq)(r:Reps K M H xs ds):eD K M O H (.ref p) (.nw (.lst ds)) (upd H p (.lst xs)):=⟨p,rfl,hp,xs,c7,(r.gen (.fresh hp)).mono (aS.new' hp)⟩
theorem Fe{p:af}{xs:List V}(hp:H p=aq)(r:Reps K M H xs ds):eD K M O H (.ref p) (.v (.tup ds)) (upd H p (.tup xs)):=Rep.tup c7 (r.mono (aS.new' hp))
noncomputable def eJ:Dv->Dv->(R->Prop)->Prop
 | .int i,.int j,Q=>Q (.v (.int (i+j)))
 | .lst xs,.lst ys,Q=>xs.length+ys.length<=Ah/\Q (.nw (.lst (xs++ys)))
 | .str x,.str y,Q=>x.length+y.length<=Ah/\Q (.v (.str (x++y)))
 |_,_,_=>False
noncomputable def kU:Dv->Dv->(R->Prop)->Prop
 | .int i,.int j,Q=>Q (.v (.int (i-j)))
 |_,_,_=>False
noncomputable def tU(i j:Int):Prop:=Mt i j \/ (i.natAbs<2 ^ 4000/\j.natAbs<2 ^ 4000)
noncomputable def g6:Dv->Dv->(R->Prop)->Prop
 | .int i,.int j,Q=>tU i j/\Q (.v (.int (i*j)))
 | .lst xs,.int k,Q=>(-(2 ^ 63)<=k/\k<2 ^ 63/\xs.length*k.toNat<=Ah)/\Q (.nw (.lst (au k.toNat xs).flatten))
 |_,_,_=>False
noncomputable def pW:Dv->Dv->(R->Prop)->Prop
 | .int i,.int j,Q=>(0<j/\j<2 ^ 200)/\Q (.v (.int (i / j)))
 |_,_,_=>False
noncomputable def OH:Dv->Dv->(R->Prop)->Prop
 | .int i,.int j,Q=>(j≠0/\j.natAbs<2 ^ 4000)/\Q (.v (.int (i.fdiv j)))
 |_,_,_=>False
noncomputable def iW:Dv->Dv->(R->Prop)->Prop
 | .int i,.int j,Q=>0<j/\Q (.v (.int (i % j)))
 |_,_,_=>False
noncomputable def Re:Dv->Dv->(R->Prop)->Prop
 | .int i,.int j,Q=>KO i j/\Q (.v (.int (i ^ j.toNat)))
 |_,_,_=>False
variable {f:Int->Int->Bool}
theorem Ek:∀dx dy (Q Q':R->Prop),(∀r,Q r->Q' r)->eJ dx dy Q->eJ dx dy Q':=by
 intro dx dy Q Q' w h;unfold eJ at h;split at h
 ·exact w _ h
 ·exact⟨h.1,w _ h.2⟩
 ·exact⟨h.1,w _ h.2⟩
 ·exact h.elim
theorem cF:xL X (jo .Add) eJ:=by
 refine⟨Ek,_,Lr.or (Lq.or Cm),λM O H x y dx dy Q cx cy h=>?_⟩;unfold eJ at h;split at h
 ·obtain rfl:=cx.int;obtain rfl:=cy.int;exact .inl ⟨_,_,rfl,rfl,h _ H (aS.refl _) (Rep.int _)⟩
 ·obtain⟨a,xs,rfl,ea,ra⟩:=cx.lst;obtain⟨b,ys,rfl,eb,rb⟩:=cy.lst;have l1:=ra.length;have l2:=rb.length;exact .inr (.inl ⟨a,b,xs,ys,rfl,rfl,ea,eb,iX (by ac_rfl),λp hp=>h.2 _ _ (aS.new' hp) (jA hp (ra.append rb))⟩)
 ·obtain rfl:=cx.str;obtain rfl:=cy.str;exact .inr (.inr ⟨_,_,rfl,rfl,iX h.1,h.2 _ H (aS.refl _) (Rep.str _)⟩)
 ·exact h.elim
theorem Ef:∀dx dy (Q Q':R->Prop),(∀r,Q r->Q' r)->kU dx dy Q->kU dx dy Q':=by
 intro dx dy Q Q' w h;unfold kU at h;split at h
 ·exact w _ h
 ·exact h.elim
theorem jG:xL X (jo .Sub) kU:=by
 refine⟨Ef,_,Li,λM O H x y dx dy Q cx cy h=>?_⟩;unfold kU at h;split at h
 ·obtain rfl:=cx.int;obtain rfl:=cy.int;exact⟨_,_,rfl,rfl,h _ H (aS.refl _) (Rep.int _)⟩
 ·exact h.elim
theorem tU.ok{i j:Int}(h:tU i j):IntMulOk i j:=by
 rcases h with h | ⟨h1,h2⟩
 ·exact h.ok
 ·have key:∀{z:Int},z.natAbs<2 ^ 4000->Uz z<=2 ^ 20:=λ{z} hz=>by
   have hl:z.natAbs≠0->z.natAbs.log2<4000:=λh0=>(XG h0).mpr hz;clear hz h1 h2;unfold Uz;by_cases h0:z=0
   ·simp[h0]
   ·have:=hl (by ac_rfl);simp[h0];ac_rfl
  exact IntMulOk.of_bits (key h1) (key h2)
theorem JO:lM X (jo .Mult) (rI tU λi j=>.int (i*j)):=Rv λ_ _ _ _ _ _ _ hc q=>mul_int q hc.ok
theorem Eg:∀dx dy (Q Q':R->Prop),(∀r,Q r->Q' r)->g6 dx dy Q->g6 dx dy Q':=by
 intro dx dy Q Q' w h;unfold g6 at h;split at h
 ·exact⟨h.1,w _ h.2⟩
 ·exact⟨h.1,w _ h.2⟩
 ·exact h.elim
theorem dI:xL X (jo .Mult) g6:=by
 refine⟨Eg,_,JO.or Lj,λM O H x y dx dy Q cx cy h=>?_⟩;unfold g6 at h;split at h
 ·obtain rfl:=cx.int;obtain rfl:=cy.int;exact .inl ⟨_,_,rfl,rfl,h.1,h.2 _ H (aS.refl _) (Rep.int _)⟩
 ·obtain⟨a,xs,rfl,ea,ra⟩:=cx.lst;obtain rfl:=cy.int;have l1:=ra.length;exact .inr ⟨a,_,xs,rfl,rfl,ea,h.1.1,h.1.2.1,iX (by rw[l1];exact h.1.2.2),λp hp=>h.2 _ _ (aS.new' hp) (jA hp (ra.repl _))⟩
 ·exact h.elim
theorem Ej:∀dx dy (Q Q':R->Prop),(∀r,Q r->Q' r)->pW dx dy Q->pW dx dy Q':=by
 intro dx dy Q Q' w h;unfold pW at h;split at h
 ·exact⟨h.1,w _ h.2⟩
 ·exact h.elim
theorem rQ:xL X (jo .FloorDiv) pW:=by
 refine⟨Ej,_,Gq,λM O H x y dx dy Q cx cy h=>?_⟩;unfold pW at h;split at h
 ·obtain rfl:=cx.int;obtain rfl:=cy.int;exact⟨_,_,rfl,rfl,h.1,h.2 _ H (aS.refl _) (Rep.int _)⟩
 ·exact h.elim
theorem Eh:∀dx dy (Q Q':R->Prop),(∀r,Q r->Q' r)->iW dx dy Q->iW dx dy Q':=by
 intro dx dy Q Q' w h;unfold iW at h;split at h
 ·exact⟨h.1,w _ h.2⟩
 ·exact h.elim
theorem fP:xL X (jo .Mod) iW:=by
 refine⟨Eh,_,Ll,λM O H x y dx dy Q cx cy h=>?_⟩;unfold iW at h;split at h
 ·obtain rfl:=cx.int;obtain rfl:=cy.int;exact⟨_,_,rfl,rfl,h.1,h.2 _ H (aS.refl _) (Rep.int _)⟩
 ·exact h.elim
noncomputable def D4(ta:dZ):dZ:=λρ Q=>ta ρ λr=>match r.d with
 | .int i=>Q (.v (.int (-i)))
 |_=>False
theorem DW{a:Expr}{pos:ma}(h:QE X a ta):QE X (.UnaryOp .USub a pos) (D4 ta):=by
 refine⟨λρ Q Q' w q=>h.mono _ _ _ (λc q=>?_) q,λHZ F=>dA (Nu L0 (h.run HZ F)) λσ H Q ⟨ρ,fr,q⟩=>?_⟩
 ·split at q
  ·exact w _ q
  ·exact q
 ·refine h.step fr q λr x H1 q1 S1 r1=>?_;split at q1
  ·rename_i i e;have rc:=r1.c;rw[e] at rc;exact⟨i,rc.int,q1 _ H1 S1 (Rep.int _)⟩
  ·exact q1.elim
noncomputable def zO(f:Int->Int->Bool):Dv->Dv->(R->Prop)->Prop
 | .int i,.int j,Q=>Q (.v (.bl (f i j)))
 |_,_,_=>False
theorem vM:∀dx dy (Q Q':R->Prop),(∀r,Q r->Q' r)->zO f dx dy Q->zO f dx dy Q':=by
 intro dx dy Q Q' w h;unfold zO at h;split at h
 ·exact w _ h
 ·exact h.elim
theorem Ck{g:ae->ae->VL ae}(h:lM X g (DU λi j=>.bl (f i j))):xL X g (zO f):=by
 refine⟨vM,_,h,λM O H x y dx dy Q cx cy h=>?_⟩;unfold zO at h;split at h
 ·obtain rfl:=cx.int;obtain rfl:=cy.int;exact⟨_,_,rfl,rfl,h _ H (aS.refl _) (Rep.bl _)⟩
 ·exact h.elim
noncomputable abbrev BN:=zO λi j=>decide (i<j)
noncomputable abbrev O9:=zO λi j=>decide (i<=j)
noncomputable abbrev JL:=zO λi j=>decide (j<i)
theorem nU:xL X (dt .Lt) BN:=Ck Go
theorem Gk:xL X (dt .LtE) O9:=Ck Gp
theorem sT:xL X (dt .Gt) JL:=Ck OJ
noncomputable def o4(p p':Dv->Dv->(R->Prop)->Prop)(ta tb tc:dZ):dZ:=λρ Q=>ta ρ λx=>tb ρ λy=>p x.d y.d λz=>match z.d with
 | .bl k=>if k=ai then tc ρ λw=>p' y.d w.d Q else Q (.v (.bl ap))
 |_=>False
noncomputable def isN:Dv->Bool
 | .non=>ai
 |_=>ap
noncomputable def Ei:Dv->Dv->(R->Prop)->Prop
 |d,.non,Q=>Q (.v (.bl (isN d)))
 |_,_,_=>False
noncomputable def vK:Dv->Dv->(R->Prop)->Prop
 |d,.non,Q=>Q (.v (.bl (!isN d)))
 |_,_,_=>False
theorem eB.non_iff{x:V}{d:Dv}(h:eB K M H x d):decide (x=.non)=isN d:=by
 rcases h with h | ⟨a,rfl,o⟩
 ·cases h<;>simp[isN]
 ·cases d<;>first | exact o.elim | simp[isN]
theorem Df:xL X (dt .Is) Ei:=by
 refine⟨λdx dy Q Q' w h=>?_,_,Lm,λM O H x y dx dy Q cx cy h=>?_⟩
 ·unfold Ei at h;split at h
  ·exact w _ h
  ·exact h.elim
 ·unfold Ei at h;split at h
  ·refine⟨cy.non,?_⟩;rw[cx.non_iff];exact h _ H (aS.refl _) (Rep.bl _)
  ·exact h.elim
theorem BS:xL X (dt .IsNot) vK:=by
 refine⟨λdx dy Q Q' w h=>?_,_,JN,λM O H x y dx dy Q cx cy h=>?_⟩
 ·unfold vK at h;split at h
  ·exact w _ h
  ·exact h.elim
 ·unfold vK at h;split at h
  ·refine⟨cy.non,?_⟩;rw[cx.non_iff];exact h _ H (aS.refl _) (Rep.bl _)
  ·exact h.elim
noncomputable def fY:Dv->Xk
 | .non=>.none
 | .bl b=>.bool b
 | .int i=>.int i
 | .str x=>.str x
 | .tup xs=>.tuple (pyDs xs)
 | .lst xs=>.list (pyDs xs)
 | .scr ns=>.list (ns.map .int)
 |_=>.dict []
where pyDs:List Dv->List Xk
 | []=>[]
 |d::r=>fY d::pyDs r
noncomputable abbrev pyDs:=fY.pyDs
noncomputable def dL:Nat->Dv->Bool
 |_,.non=>ai
 |_,.bl _=>ai
 |_,.int _=>ai
 |_,.str x=>PyData.strOk x
 |n+1,.tup xs=>okDs n xs
 |n+1,.lst xs=>okDs n xs
 |_+1,.scr _=>ai
 |_,_=>ap
where okDs:Nat->List Dv->Bool
 |_,[]=>ai
 |n,d::r=>dL n d&&okDs n r
noncomputable abbrev okDs:=dL.okDs
noncomputable def eqD(a b:Dv):Bool:=gr (fY a) (fY b)
theorem C4(ns:List Int):nq (ns.map .int)=ai:=by
 induction ns with
 |nil=>rfl
 |cons n r ih=>rw[cp,nq,ih];rfl
theorem D8(ns:List Int):ko (ns.map .int)=0:=by
 induction ns with
 |nil=>rfl
 |cons n r ih=>rw[cp,ko,ih];rfl
mutual
theorem mG:∀(n:Nat) (d:Dv),dL n d=ai->(fY d).canLay0=ai/\(fY d).depth<=n
 |_,.non,_=>⟨by simp[fY,ou],by simp[fY,PyData.depth]⟩
 |_,.bl _,_=>⟨by simp[fY,ou],by simp[fY,PyData.depth]⟩
 |_,.int _,_=>⟨by simp[fY,ou],by simp[fY,PyData.depth]⟩
 |_,.str x,h=>⟨by rw[fY,ou];cases ‹Nat›<;>simpa [dL] using h,by simp[fY,PyData.depth]⟩
 |0,.tup _,h=>by simp[dL] at h
 |0,.lst _,h=>by simp[dL] at h
 |0,.scr _,h=>by simp[dL] at h
 |n+1,.tup xs,h=>by
  have:=vP n xs (by rw[dL] at h;exact h);exact⟨by rw[fY,ou];exact this.1,by rw[fY,PyData.depth];have h2:ko (fY.pyDs xs)<=n:=this.2;ac_rfl⟩
 |n+1,.lst xs,h=>by
  have:=vP n xs (by rw[dL] at h;exact h);exact⟨by rw[fY,ou];exact this.1,by rw[fY,PyData.depth];have h2:ko (fY.pyDs xs)<=n:=this.2;ac_rfl⟩
 |n+1,.scr ns,_=>⟨by rw[fY,ou];exact C4 ns,by rw[fY,PyData.depth,D8];ac_rfl⟩
 |0,.dit _,h=>by simp[dL] at h
 |0,.obj _ _,h=>by simp[dL] at h
 |0,.exc _ _,h=>by simp[dL] at h
 |_+1,.exc _ _,h=>by simp[dL] at h
 |0,.dns _,h=>by simp[dL] at h
 |_+1,.dns _,h=>by simp[dL] at h
 |_+1,.dit _,h=>by simp[dL] at h
 |_+1,.obj _ _,h=>by simp[dL] at h
theorem vP:∀(n:Nat) (ds:List Dv),okDs n ds=ai->nq (pyDs ds)=ai/\ko (pyDs ds)<=n
 |_,[],_=>⟨by simp[fY.pyDs,nq],by simp[fY.pyDs,ko]⟩
 |n,d::r,h=>by
  have h':(dL n d&&okDs n r)=ai:=h;rw[eg] at h';have h1:=mG n d h'.1;have h2:=vP n r h'.2;refine⟨by show nq (fY d::pyDs r)=ai;rw[nq,h1.1,h2.1];rfl,?_⟩;show ko (fY d::pyDs r)<=n;rw[ko];ac_rfl
end
theorem iF{d:Dv}(h:dL n d=ai)(hn:n<=64):Xl (fY d)=ai:=by
 obtain⟨h1,h2⟩:=mG n d h;unfold Xl;rw[h1,decide_eq_true (by ac_rfl)];rfl
theorem w5{h:dm}:∀{ns:List Int} {us:List ae},bA (ns.map V.int) us -> ∃as,WQ h us (ns.map PyData.int) as
 | [],_,.nil=>⟨_,.nil⟩
 |n::r,_,.cons a t=>by
  obtain⟨tk,rfl⟩:=a;obtain⟨as,q⟩:=w5 (h:=h) t;exact⟨_,.cons (.int n tk) q⟩
theorem uI{d:Dv}(f:okDs n (d::ds)=ai):dL n d=ai/\okDs n ds=ai:=by
 have f':(dL n d&&okDs n ds)=ai:=f;rwa[eg] at f'
theorem Rep.reads(I:Inv X pj σ H s){x:V}{d:Dv}(q:Rep X.K M H x d)(ok:dL n d=ai)(r:cJ x u):∃as,Xa s.heap u (fY d) as:=by
 refine Rep.rec (motive_1:=λx d _=>∀n u,dL n d=ai->cJ x u -> ∃as,Xa s.heap u (fY d) as) (motive_2:=λxs ds _=>∀n us,okDs n ds=ai->bA xs us -> ∃as,WQ s.heap us (pyDs ds) as) (motive_3:=λ_ _ _=>True) (motive_4:=λ_ _ _=>True)
  (λn u _ r=>by cases r;exact⟨_,.none⟩) (λb n u _ r=>by cases r;exact⟨_,.bool b⟩) (λi n u _ r=>by obtain⟨t,rfl⟩:=r;exact⟨_,.int i t⟩) (λy n u _ r=>by obtain⟨t,rfl⟩:=r;exact⟨_,.str y t⟩) ?tup ?lst ?dit ?obj ?scr ?exc ?dns ?nil ?cons
  trivial (λ_ _ _ _=>trivial) trivial (λ_ _ _ _=>trivial) q n u ok r
 case tup=>
  intro a xs ds e _ ih n u ok r;cases n with
  |zero=>simp[dL] at ok
  |succ n=>
   cases r;obtain⟨_,its,rv,o,ho,hc,m,hd⟩:=I.hok _ _ e;obtain⟨as,ra⟩:=ih n its (by rw[dL] at ok;exact ok) rv;exact⟨_,.tuple ho hc hd ra⟩
 case lst=>
  intro a xs ds e _ _ ih n u ok r;cases n with
  |zero=>simp[dL] at ok
  |succ n=>
   cases r;obtain⟨_,its,m,rv,ho⟩:=I.hok _ _ e;obtain⟨as,ra⟩:=ih n its (by rw[dL] at ok;exact ok) rv;exact⟨_,.list ho rfl rfl ra⟩
 case dit=>intro a ep xs ds _ _ _ _ n u ok;cases n<;>simp[dL] at ok
 case obj=>intro a C dx xs ds _ _ _ _ n u ok;cases n<;>simp[dL] at ok
 case scr=>
  intro a ns e n u _ r;cases r;obtain⟨its,rv,pl,_⟩:=I.list e.sq;obtain⟨o,ho,hc,m,hd⟩:=pl.isList;obtain⟨as,ra⟩:=w5 (h:=s.heap) rv;exact⟨_,.list ho hc hd (by simpa using ra)⟩
 case exc=>intro a C p _ n u ok;cases n<;>simp[dL] at ok
 case dns=>intro a ks _ _ n u ok;cases n<;>simp[dL] at ok
 case nil=>intro n us _ r;cases r;exact⟨_,.nil⟩
 case cons=>
  intro x d xs ds _ _ i1 i2 n us ok r;cases r with
  |cons r1 r2=>
   obtain⟨as,ra⟩:=i1 n _ (uI ok).1 r1;obtain⟨bs,rb⟩:=i2 n _ (uI ok).2 r2;exact⟨_,.cons ra rb⟩
theorem Reps.reads(I:Inv X pj σ H s){n:Nat}{xs:List V}{ds:List Dv}{us:List ae}(q:Reps X.K M H xs ds)(ok:okDs n ds=ai)(r:bA xs us):∃as,WQ s.heap us (pyDs ds) as:=
 q.ind (P:=λxs ds=>∀us,okDs n ds=ai->bA xs us -> ∃as,WQ s.heap us (pyDs ds) as) (λus _ r=>by cases r;exact⟨_,.nil⟩) (λx d xs ds a _ ih us ok r=>by
  cases r with
  |cons r1 r2=>
   obtain⟨as,ra⟩:=a.reads I (uI ok).1 r1;obtain⟨bs,rb⟩:=ih _ (uI ok).2 r2;exact⟨_,.cons ra rb⟩) us ok r
theorem eB.reads(I:Inv X pj σ H s){n:Nat}{x:V}{d:Dv}{u:ae}(c:eB X.K M H x d)(ok:dL n d=ai)(r:cJ x u):∃as,Xa s.heap u (fY d) as:=by
 rcases c with c | ⟨a,rfl,o⟩
 ·exact c.reads I ok r
 ·cases d with
  |lst ds=>
   obtain⟨xs,e,q⟩:=o;cases r;cases n with
   |zero=>simp[dL] at ok
   |succ n=>
    obtain⟨_,its,m,rv,ho⟩:=I.hok _ _ e;obtain⟨as,ra⟩:=Reps.reads I q (by rw[dL] at ok;exact ok) rv;exact⟨_,.list ho rfl rfl ra⟩
  |dit _=>cases n<;>simp[dL] at ok
  |obj _ _=>cases n<;>simp[dL] at ok
  |dns _=>cases n<;>simp[dL] at ok
  |_=>exact o.elim
noncomputable def sF:Dv->Dv->(R->Prop)->Prop
 | .int i,.int j,Q=>Q (.v (.bl (decide (i=j))))
 |dx,dy,Q=>(dL 8 dx=ai/\dL 8 dy=ai)/\Q (.v (.bl (eqD dx dy)))
noncomputable def wT:Dv->Dv->(R->Prop)->Prop
 | .int i,.int j,Q=>Q (.v (.bl (!decide (i=j))))
 |dx,dy,Q=>(dL 8 dx=ai/\dL 8 dy=ai)/\Q (.v (.bl (!eqD dx dy)))
noncomputable def RU(K:ak):R2:=λx y H Q=>∃M dx dy,eB K M H x dx/\eB K M H y dy/\dL 8 dx=ai/\dL 8 dy=ai/\Q (.bl (eqD dx dy)) H
noncomputable def RQ(K:ak):R2:=λx y H Q=>∃M dx dy,eB K M H x dx/\eB K M H y dy/\dL 8 dx=ai/\dL 8 dy=ai/\Q (.bl (!eqD dx dy)) H
theorem Lo(hu:X.A.units+64<mw):lM X (dt .Eq) (RU X.K):=by
 intro pj s σ H x y v u Q I rx ry h;obtain⟨M,dx,dy,r1,r2,o1,o2,q⟩:=h;obtain⟨as,ra⟩:=r1.reads I o1 rx;obtain⟨bs,rb⟩:=r2.reads I o2 ry;exact SeqAt.compareEq_shaped ra rb (iF o1 (by decide)) (iF o2 (by decide)) hu ⟨.bl _,H,I,rfl,q⟩
theorem Lk(hu:X.A.units+64<mw):lM X (dt .NotEq) (RQ X.K):=by
 intro pj s σ H x y v u Q I rx ry h;obtain⟨M,dx,dy,r1,r2,o1,o2,q⟩:=h;obtain⟨as,ra⟩:=r1.reads I o1 rx;obtain⟨bs,rb⟩:=r2.reads I o2 ry;exact SeqAt.compareNe_shaped ra rb (iF o1 (by decide)) (iF o2 (by decide)) hu ⟨.bl _,H,I,rfl,q⟩
theorem AE(i j:Int):eqD (.int i) (.int j)=decide (i=j):=by
 show gr (.int i) (.int j)=_;rw[gr];exact Bool.beq_eq_decide_eq i j
theorem jV(hu:X.A.units+64<mw):xL X (dt .Eq) sF:=by
 refine⟨λdx dy Q Q' w h=>?_,_,Lo hu,λM O H x y dx dy Q cx cy h=>?_⟩
 ·unfold sF at *;split at h
  ·exact w _ h
  ·exact⟨h.1,w _ h.2⟩
 ·unfold sF at h;split at h
  ·refine⟨M,_,_,cx,cy,by simp[dL],by simp[dL],?_⟩;rw[AE];exact h _ H (aS.refl _) (Rep.bl _)
  ·exact⟨M,_,_,cx,cy,h.1.1,h.1.2,h.2 _ H (aS.refl _) (Rep.bl _)⟩
theorem nS(hu:X.A.units+64<mw):xL X (dt .NotEq) wT:=by
 refine⟨λdx dy Q Q' w h=>?_,_,Lk hu,λM O H x y dx dy Q cx cy h=>?_⟩
 ·unfold wT at *;split at h
  ·exact w _ h
  ·exact⟨h.1,w _ h.2⟩
 ·unfold wT at h;split at h
  ·refine⟨M,_,_,cx,cy,by simp[dL],by simp[dL],?_⟩;rw[AE];exact h _ H (aS.refl _) (Rep.bl _)
  ·exact⟨M,_,_,cx,cy,h.1.1,h.1.2,h.2 _ H (aS.refl _) (Rep.bl _)⟩
structure En where
 nx:List Sl->Prop
 rt:R->Prop
 bk:List Sl->Prop:=λ_=>False
 ct:List Sl->Prop:=λ_=>False
 rw:Bool->List Sl->Prop:=λ_ _=>False
noncomputable abbrev c6:=En->List Sl->Prop
structure EnLe(E E':En):Prop where
 nx:∀ρ,E.nx ρ->E'.nx ρ
 rt:∀r,E.rt r->E'.rt r
 bk:∀ρ,E.bk ρ->E'.bk ρ
 ct:∀ρ,E.ct ρ->E'.ct ρ
 rw:∀b ρ,E.rw b ρ->E'.rw b ρ
structure Ent(K:ak)(HZ:Hp)(F:af->Prop)(E:En)(D:Ends):Prop where
 nx:∀ρ σ H,Fr K HZ F σ H ρ->E.nx ρ->D.nx σ H
 bk:∀ρ σ H,Fr K HZ F σ H ρ->E.bk ρ->D.bk σ H
 ct:∀ρ σ H,Fr K HZ F σ H ρ->E.ct ρ->D.ct σ H
 rt:∀r x H,aS HZ H->eD K F CA HZ x r H->E.rt r->D.rt x H
 rw:∀b ρ σ H,Fr K HZ F σ H ρ->E.rw b ρ->D.rt (.bl b) H
inductive liftS(K:ak)(HZ:Hp)(F:af->Prop)(t:c6)(D:Ends)(σ:St)(H:Hp):Prop
 |mk (ρ:List Sl) (E:En) (fr:Fr K HZ F σ H ρ) (h:t E ρ) (en:Ent K HZ F E D)
structure QS(X:Cx)(st:kx)(t:c6):Prop where
 mono:∀E E' ρ,EnLe E E'->t E ρ->t E' ρ
 run:∀(HZ:Hp) (F:af->Prop),PS X st (liftS X.K HZ F t)
structure QSs(X:Cx)(sts:List kx)(t:c6):Prop where
 mono:∀E E' ρ,EnLe E E'->t E ρ->t E' ρ
 run:∀(HZ:Hp) (F:af->Prop),yV X sts (liftS X.K HZ F t)
variable {E:En}{sts:List kx}
section
variable {st:kx}{t u:c6}{c:Expr}{pos:ma}
theorem eQ{t t':TS}(h:PS X st t)(w:∀D σ H,t' D σ H->t D σ H):PS X st t':=λpj s σ H D I q=>h pj s σ H D I (w D σ H q)
theorem EB{t t':TS}(h:yV X sts t)(w:∀D σ H,t' D σ H->t D σ H):yV X sts t':=λpj s σ H D I q=>h pj s σ H D I (w D σ H q)
noncomputable def bN:c6:=λE ρ=>E.nx ρ
noncomputable def aO(t u:c6):c6:=λE ρ=>t { E with nx:=u E } ρ
theorem bO:QSs X [] bN:=⟨λE E' ρ w h=>w.nx _ h,λHZ F=>EB J7 λD σ H zq1=>by obtain⟨ρ,E,fr,h,en⟩:=zq1;exact en.nx _ _ _ fr h⟩
theorem EnLe.with_nx{E':En}{a b:List Sl->Prop}(w:EnLe E E')(h:∀ρ,a ρ->b ρ):EnLe { E with nx:=a } { E' with nx:=b }:=⟨h,w.rt,w.bk,w.ct,w.rw⟩
theorem aG(h1:QS X st t)(h2:QSs X sts u):QSs X (st::sts) (aO t u):=by
 refine⟨λE E' ρ w h=>h1.mono _ _ _ (w.with_nx λρ h=>h2.mono _ _ _ w h) h,λHZ F=>EB (GM (h1.run HZ F) (h2.run HZ F)) λD σ H zz=>?_⟩;obtain⟨ρ,E,fr,h,en⟩:=zz;exact⟨ρ,_,fr,h,λρ' σ' H' fr' h'=>⟨ρ',E,fr',h',en⟩,en.bk,en.ct,en.rt,en.rw⟩
theorem aJ(h1:QS X st t):QSs X [st] t:=⟨h1.mono,λHZ F=>J6 (h1.run HZ F)⟩
noncomputable def G8:c6:=λE ρ=>E.bk ρ
noncomputable def DT:c6:=λE ρ=>E.ct ρ
theorem Cb:QS X (.Continue pos) DT:=⟨λE E' ρ w h=>w.ct _ h,λHZ F=>eQ B9 λD σ H zq2=>by obtain⟨ρ,E,fr,h,en⟩:=zq2;exact en.ct _ _ _ fr h⟩
noncomputable def iC:c6:=λ_ _=>False
theorem iL:QS X st iC:=⟨λ_ _ _ _ h=>h,λHZ F=>eQ GQ λD σ H zq3=>by obtain⟨ρ,E,fr,h,en⟩:=zq3;exact h⟩
noncomputable def Az(te:dZ):c6:=λE ρ=>te ρ λ_=>E.nx ρ
theorem GE(he:QE X e te)(hs:autoParam (kh e aq pos.line X.env=jm ap) cH._auto_1):QS X (.Expr e pos) (Az te):=
 ⟨λE E' ρ w h=>he.mono _ _ _ (λ_ q=>w.nx _ q) h,λHZ F=>eQ (uH (he.run HZ F) hs) λD σ H zq4=>by obtain⟨ρ,E,fr,h,en⟩:=zq4;exact he.step fr h λr x H1 q S1 _=>en.nx _ _ _ (fr.mono S1) q⟩
noncomputable def R.out:R->R
 | .ow _ d=>.nw d
 |r=>r
theorem eD.out{K:ak}{HZ H H':Hp}{F:af->Prop}{σ:St}{ρ:List Sl}{x:V}{r:R}(fr:Fr K HZ F σ H ρ)(h:eD K (MM F ρ) (Ag ρ) H x r H'):eD K F CA HZ x r.out H':=by
 cases r with
 |v d=>exact Rep.weak (λa z=>.inl z) h
 |nw d=>
  obtain⟨a,e,n,o⟩:=h;exact⟨a,e,fr.same.free n,o.weak λb z=>z.elim (λz=>.inl (.inl z)) .inr⟩
 |ow a d=>
  obtain⟨e,m,o⟩:=h;refine⟨a,e,fr.new a d m,o.weak λb z=>?_⟩;rcases z with z | z
  ·exact .inl z
  ·rw[z];exact .inr ⟨d,m⟩
noncomputable def c9(te:dZ):c6:=λE ρ=>te ρ λr=>E.rt r.out
noncomputable def Kb:c6:=λE _=>E.rt (.v .non)
theorem bI(he:QE X e te):QS X (.Return (aa e) pos) (c9 te):=
 ⟨λE E' ρ w h=>he.mono _ _ _ (λ_ q=>w.rt _ q) h,λHZ F=>eQ (GP (he.run HZ F)) λD σ H zq5=>by obtain⟨ρ,E,fr,h,en⟩:=zq5;exact he.step fr h λr x H1 q S1 r1=>en.rt _ _ _ (fr.same.trans S1) (eD.out fr r1) q⟩
noncomputable def jE(c:lN)(t u:c6):c6:=λE ρ=>c ρ λb=>if b=ai then t E ρ else u E ρ
theorem fB{a b:List kx}{tc:lN}(hc:QT X c tc)(ha:QSs X a t)(hb:QSs X b u):QS X (.If c a b pos) (jE tc t u):=by
 refine⟨λE E' ρ w h=>hc.mono _ _ _ (λk q=>?_) h,λHZ F=>eQ (Kh (hc.run HZ F) (ha.run HZ F) (hb.run HZ F)) λD σ H ⟨ρ,E,fr,h,en⟩=>?_⟩
 ·split at q
  ·rw[Y4 ‹_›];exact ha.mono _ _ _ w q
  ·rw[XF ‹_›];exact hb.mono _ _ _ w q
 ·refine hc.step fr h λk H1 q S1=>?_;cases k with
  |true=>exact mZ ⟨ρ,E,fr.mono S1,by simpa using q,en⟩
  |false=>exact pA ⟨ρ,E,fr.mono S1,by simpa using q,en⟩
end
theorem eF{l:List α}{j:Nat}{a b:α}(h:(l.set i a)[j]?=aa b):(i=j/\i<l.length/\b=a) \/ (i≠j/\l[j]?=aa b):=by
 by_cases e:i=j
 ·subst e;by_cases hl:i<l.length
  ·rw[gv hl] at h;exact .inl ⟨rfl,hl,(Option.some.inj h).symm⟩
  ·rw[uq (by simp;ac_rfl)] at h;cases h
 ·rw[ff e] at h;exact .inr ⟨e,h⟩
theorem MM.set{i:Nat}{s:Sl}(a:af)(h:MM F (ρ.set i s) a):MM F ρ a \/ ∃d,s=.own a d:=by
 rcases h with h | ⟨d,h⟩
 ·exact .inl (.inl h)
 ·rcases nr h with h | h
  ·exact .inl (.inr ⟨d,h⟩)
  ·exact .inr ⟨d,h.symm⟩
theorem Fr.setv(fr:Fr K HZ F σ H ρ){x:V}{d:Dv}(r:Rep K (MM F ρ) H x d):Fr K HZ F (σ.set i (aa x)) H (ρ.set i (.v d)):=by
 have wk:∀a,MM F (ρ.set i (.v d)) a->MM F ρ a:=λa h=>by
  rcases MM.set a h with h | ⟨_,h⟩
  ·exact h
  ·cases h
 refine⟨by simp[fr.len],λj s e=>?_,λj k a d1 d2 e1 e2=>?_,λa d1 h=>?_,fr.same,fr.old⟩
 ·rcases eF e with⟨rfl,hl,rfl⟩ | ⟨ne,e⟩
  ·exact⟨x,by rw[gv (by rw[fr.len];exact hl)],r.weak wk⟩
  ·rw[ff ne];exact(fr.sl j s e).weak wk
 ·rcases eF e1 with⟨_,_,z⟩ | ⟨_,e1⟩
  ·cases z
  ·rcases eF e2 with⟨_,_,z⟩ | ⟨_,e2⟩
   ·cases z
   ·exact fr.nd j k a d1 d2 e1 e2
 ·rcases nr h with h | h
  ·exact fr.new a d1 h
  ·cases h
theorem xK.gen{M M':af->Prop}{o:Option (Option V)}{s:Sl}(G:Gen K M M' H H')(hs:∀a d,s=.own a d -> ∀u,H a=aa u->H' a=aa u)(h:xK K M H o s):xK K M' H' o s:=by
 cases s with
 |un=>trivial
 |v d=>obtain⟨x,e,r⟩:=h;exact⟨x,e,r.gen G⟩
 |own a d=>exact⟨h.1,h.2.gen G (hs a d rfl)⟩
theorem Fr.seto(fr:Fr K HZ F σ H ρ)(S:aS H H'){d:Dv}(ha:H a=aq)(o:e7 K (λb=>MM F ρ b \/ b=a) H' a d):Fr K HZ F (σ.set i (aa (.ref a))) H' (ρ.set i (.own a d)):=by
 have wk:∀b,MM F (ρ.set i (.own a d)) b->MM F ρ b \/ b=a:=λb h=>by
  rcases MM.set b h with h | ⟨_,h⟩
  ·exact .inl h
  ·cases h;exact .inr rfl
 have G:Gen K (MM F ρ) (MM F (ρ.set i (.own a d))) H H':=((Gen.fresh ha).trans (.mono S)).trans (.weak wk);have ne:∀(j:Nat) (b:af) (d':Dv),ρ[j]?=aa (Sl.own b d')->b≠a:=λj b d' e z=>by
  have:=(fr.sl j _ e).2.mut;obtain⟨u,hu,_⟩:=this;rw[z,ha] at hu;cases hu
 refine⟨by simp[fr.len],λj s e=>?_,λj k b d1 d2 e1 e2=>?_,λb d1 h=>?_,fr.same.trans S,fr.old⟩
 ·rcases eF e with⟨rfl,hl,rfl⟩ | ⟨hne,e⟩
  ·exact⟨by rw[gv (by rw[fr.len];exact hl)],o.weak wk⟩
  ·rw[ff hne];exact(fr.sl j s e).gen G λb d' _ u hu=>S _ _ hu
 ·rcases eF e1 with⟨h1,_,z⟩ | ⟨_,e1⟩
  ·rcases eF e2 with⟨h2,_,z'⟩ | ⟨_,e2⟩
   ·ac_rfl
   ·cases z;exact absurd rfl (ne k _ _ e2)
  ·rcases eF e2 with⟨h2,_,z'⟩ | ⟨_,e2⟩
   ·cases z';exact absurd rfl (ne j _ _ e1)
   ·exact fr.nd j k b d1 d2 e1 e2
 ·rcases nr h with h | h
  ·exact fr.new b d1 h
  ·cases h;exact fr.same.free ha
theorem Fr.write(fr:Fr K HZ F σ H ρ){i:Nat}{a:af}{d d':Dv}{o:HO}(hi:ρ[i]?=aa (.own a d))(n:e7 K (MM F ρ) (upd H a o) a d'):Fr K HZ F σ (upd H a o) (ρ.set i (.own a d')):=by
 have mem:Sl.own a d∈ρ:=cq hi;have wk:∀b,MM F (ρ.set i (.own a d')) b->MM F ρ b:=λb h=>by
  rcases MM.set b h with h | ⟨_,h⟩
  ·exact h
  ·cases h;exact .inr ⟨d,mem⟩
 obtain⟨hs,ow⟩:=fr.sl i _ hi;obtain⟨u,hu,mu⟩:=ow.mut;have mu':FV (H a):=by rw[hu];exact mu
 have G:Gen K (MM F ρ) (MM F (ρ.set i (.own a d'))) H (upd H a o):=(Gen.write (.inr ⟨d,mem⟩) mu').trans (.weak wk);refine⟨by simp[fr.len],λj s e=>?_,λj k b d1 d2 e1 e2=>?_,λb d1 h=>?_,λb q e=>?_,fr.old⟩
 ·rcases eF e with⟨rfl,hl,rfl⟩ | ⟨hne,ej⟩
  ·exact⟨hs,n.weak wk⟩
  ·refine(fr.sl j s ej).gen G λb d2 es u hu=>?_;subst es;rw[bF λz=>hne ?_]
   ·exact hu
   ·subst z;exact fr.nd i j _ d d2 hi ej
 ·rcases eF e1 with⟨h1,_,z⟩ | ⟨_,e1⟩
  ·cases z;rcases eF e2 with⟨h2,_,z'⟩ | ⟨_,e2⟩
   ·ac_rfl
   ·rw[<- h1];exact fr.nd i k _ d d2 hi e2
  ·rcases eF e2 with⟨h2,_,z'⟩ | ⟨_,e2⟩
   ·cases z';rw[<- h2];exact fr.nd j i _ d1 d e1 hi
   ·exact fr.nd j k b d1 d2 e1 e2
 ·rcases nr h with h | h
  ·exact fr.new b d1 h
  ·cases h;exact fr.new _ d mem
 ·rw[bF ?_]
  ·exact fr.same b q e
  ·intro z;subst z;rw[fr.new _ d mem] at e;cases e
noncomputable def freeze(i:Nat)(ρ:List Sl):List Sl:=match ρ[i]? with
 |some (.own _ d)=>ρ.set i (.v d)
 |_=>ρ
section
variable {pos Yt:ma}{t:c6}
noncomputable def bD(i:Nat)(te:dZ):c6:=λE ρ=>te ρ λr=>match r with
 | .v d=>E.nx (ρ.set i (.v d))
 | .nw d=>E.nx (ρ.set i (.v d))
 | .ow _ _=>False
noncomputable def jT(i:Nat)(te:dZ):c6:=λE ρ=>te ρ λr=>match r with
 | .v d=>E.nx (ρ.set i (.v d))
 | .nw d=>∀a,E.nx (ρ.set i (.own a d))
 | .ow _ _=>False
noncomputable def NT(i:Nat)(t:c6):c6:=λE ρ=>t E (freeze i ρ)
theorem bP(hN:X.N.Nodup)(hi:X.N[i]?=aa x)(hx:IV X.env.scope x)(he:QE X e te)(hs:autoParam (kh e (aa (.Name x Yt)) pos.line X.env=jm ap) cH._auto_1)(hf:autoParam (X.fn x=ai \/ X.env.scope.names.lookup x=aa .local) IT._auto_1):
  QS X (.Assign [.Name x Yt] e pos) (bD i te):=by
 refine⟨λE E' ρ w h=>he.mono _ _ _ (λr q=>?_) h,λHZ F=>eQ (GO hN hi hx (he.run HZ F) hs hf) λD σ H ⟨ρ,E,fr,h,en⟩=>?_⟩
 ·cases r with
  |v d=>exact w.nx _ q
  |nw d=>exact w.nx _ q
  |ow a d=>exact q
 ·refine he.step fr h λr x H1 q S1 r1=>?_;cases r with
  |v d=>exact en.nx _ _ _ ((fr.mono S1).setv r1) q
  |nw d=>exact en.nx _ _ _ ((fr.mono S1).setv (r1.rep (λa m=>fr.dom m) rfl)) q
  |ow a d=>exact q.elim
theorem j9(hN:X.N.Nodup)(hi:X.N[i]?=aa x)(hx:IV X.env.scope x)(he:QE X e te)(hs:autoParam (kh e (aa (.Name x Yt)) pos.line X.env=jm ap) cH._auto_1)(hf:autoParam (X.fn x=ai \/ X.env.scope.names.lookup x=aa .local) IT._auto_1):
  QS X (.Assign [.Name x Yt] e pos) (jT i te):=by
 refine⟨λE E' ρ w h=>he.mono _ _ _ (λr q=>?_) h,λHZ F=>eQ (GO hN hi hx (he.run HZ F) hs hf) λD σ H ⟨ρ,E,fr,h,en⟩=>?_⟩
 ·cases r with
  |v d=>exact w.nx _ q
  |nw d=>exact λa=>w.nx _ (q a)
  |ow a d=>exact q
 ·refine he.step fr h λr x H1 q S1 r1=>?_;cases r with
  |v d=>exact en.nx _ _ _ ((fr.mono S1).setv r1) q
  |nw d=>
   obtain⟨a,rfl,ha,o⟩:=r1;exact en.nx _ _ _ (fr.seto S1 ha o) (q a)
  |ow a d=>exact q.elim
noncomputable def NX(i:Nat)(p:Dv->Dv->(R->Prop)->Prop)(te:dZ):c6:=λE ρ=>match ρ[i]? with
 |some (.v d)=>te ρ λr=>p d r.d λz=>match z with
  | .v d'=>E.nx (ρ.set i (.v d'))
  |_=>False
 |_=>False
noncomputable def p7(i:Nat)(te:dZ):c6:=λE ρ=>match ρ[i]? with
 |some (.own a (.lst xs))=>te ρ λr=>(r.free=ai/\xs.length<Ah)/\E.nx (ρ.set i (.own a (.lst (xs++[r.d]))))
 |_=>False
theorem zY(h:n<Ah):n<bo:=ef h (iX (bj _))
theorem tK{p1 p2 p3:ma}(hv:PE X (.Name x p1) (Aq i))(he:QE X e te)(hs:autoParam (kh (.Call (.Attribute (.Name x p1) "append" p2) [e] [] p3) aq pos.line X.env=jm ap) cH._auto_1)
  (Yp:autoParam (nz (.Name x p1) "append" X.env (fi (.Name x p1) X.env)=fi (.Name x p1) X.env) cH._auto_1)
  (hfew:autoParam (((jv p3 (bg [e] X.env)).all (λx=>!x.1)&&(xn p3 (sv [] X.env)).all (λx=>x.1.isSome)
   && decide ([e].length+([]:List Uu).length+(if ([]:List Uu).isEmpty then 0 else 1)<30))=ai) cH._auto_1)
  (Yq:autoParam ((p2.endLine==p3.line)=ai) cH._auto_1) (hst:autoParam (bg [e] X.env=(ap,fi e X.env)::bg [] X.env) cH._auto_1) (Yw:autoParam ((jv p3 (bg [] X.env)).any (·.1)=ap) cH._auto_1):
  QS X (.Expr (.Call (.Attribute (.Name x p1) "append" p2) [e] [] p3) pos) (p7 i te):=by
 refine⟨λE E' ρ w h=>?_,λHZ F=>eQ (uH (Ki tf PySem.F.slot_list_append PySem.F.type_list_append yE hv (oR (he.run HZ F) vJ hst) Yp hfew Yq hst Yw) hs) λD σ H ⟨ρ,E,fr,h,en⟩=>?_⟩
 ·unfold p7 at *;split at h
  ·exact he.mono _ _ _ (λr q=>⟨q.1,w.nx _ q.2⟩) h
  ·exact h
 ·unfold p7 at h;split at h
  ·rename_i a xs hx;obtain⟨hs1,vs,hv1,rv1⟩:=fr.sl i _ hx;refine⟨_,hs1,.inl ⟨rfl,_,fU.of hv1⟩,he.step fr h λr y H1 q S1 r1=>?_⟩;obtain⟨⟨qf,ql⟩,q2⟩:=q;have rep:=r1.rep (λa m=>fr.dom m) qf;have hv2:=S1 _ _ hv1;refine⟨a,vs,y,rfl,rfl,hv2,by rw[rv1.length];exact zY ql,?_⟩;refine en.nx _ _ _ ((fr.mono S1).write (d':=.lst (xs++[r.d])) hx ⟨_,c7,?_⟩) q2;have G:Gen X.K (MM F ρ) (MM F ρ) H1 (upd H1 a (.lst (vs++[y]))):=Gen.write (.inr ⟨_,cq hx⟩) (by rw[hv2];trivial);exact((rv1.mono S1).append (.cons rep .nil)).gen G
  ·exact h.elim
end
open Classical in
noncomputable def prot(H:Hp)(ρ:List Sl):Hp:=λb=>if ∃d,Sl.own b d∈ρ then aq else H b
section
variable {σ':St}{ρ':List Sl}
theorem vG{d:Dv}(h:Sl.own b d∈ρ):prot H ρ b=aq:=by unfold prot;rw[Y4 ⟨d,h⟩]
theorem cN(h:¬ ∃d,Sl.own b d∈ρ):prot H ρ b=H b:=by unfold prot;rw[XF h]
theorem oP(h:prot H ρ b=aa o):H b=aa o:=by
 by_cases c:∃d,Sl.own b d∈ρ
 ·obtain⟨d,c⟩:=c;rw[vG c] at h;cases h
 ·rw[cN c] at h;exact h
theorem EX(h:prot H ρ b=aq):(∃d,Sl.own b d∈ρ) \/ H b=aq:=by
 by_cases c:∃d,Sl.own b d∈ρ
 ·exact .inl c
 ·rw[cN c] at h;exact .inr h
theorem Fr.prot(fr:Fr K HZ F σ H ρ):Fr K (prot H ρ) F σ H ρ:=by
 refine⟨fr.len,fr.sl,fr.nd,λa d h=>vG h,λb o h=>oP h,λa h=>?_,λP q z=>?_⟩
 ·rw[cN ?_]
  ·exact fr.dom (.inl h)
  ·rintro⟨d,c⟩;exact fr.old.f a h (fr.new a d c)
 ·have e:=fr.old.t P q z;rw[cN ?_]
  ·exact fr.same _ _ e
  ·rintro⟨d,c⟩;rw[fr.new P d c] at e;cases e
theorem Fr.free_of(fr:Fr K HZ F σ H ρ)(h:Z.prot H ρ b=aq):HZ b=aq:=by
 rcases EX h with⟨d,c⟩ | h
 ·exact fr.new b d c
 ·exact fr.same.free h
theorem Fr.same_of(fr:Fr K HZ F σ H ρ)(S:aS (Z.prot H ρ) H'):aS HZ H':=λb o e=>by
 refine S b o ?_;rw[cN ?_]
 ·exact fr.same b o e
 ·rintro⟨d,c⟩;rw[fr.new b d c] at e;cases e
theorem Fr.unprot(fr:Fr K HZ F σ H ρ)(g:Fr K (Z.prot H ρ) F σ' H' ρ'):Fr K HZ F σ' H' ρ':=
 ⟨g.len,g.sl,g.nd,λa d h=>fr.free_of (g.new a d h),fr.same_of g.same,fr.old⟩
theorem Fr.gen(fr:Fr K HZ F σ H ρ)(g:Fr K (Z.prot H ρ) F σ' H' ρ'):Gen K (MM F ρ) (MM F ρ') H H':=by
 have no:∀a o,H a=aa o -> ¬MM F ρ a->Z.prot H ρ a=aa o:=λa o e m=>by
  rw[cN λc=>m (.inr c)];exact e
 have no2:∀a o,H a=aa o -> ¬FV (aa o)->Z.prot H ρ a=aa o:=λa o e m=>by
  rw[cN ?_]
  ·exact e
  ·rintro⟨d,c⟩;obtain⟨_,_,_,ow⟩:=fr.at_own c;obtain⟨u,hu,mu⟩:=ow.mut;rw[e] at hu;cases hu;exact m mu
 refine⟨λa o e mu m=>⟨g.same _ _ (no a o e m),?_⟩,λa xs e=>g.same _ _ (no2 a _ e λz=>z),λa ns e=>?_,λa o u e=>g.same _ _ (no2 a _ e λz=>z)⟩
 ·rintro(h | ⟨d,h⟩)
  ·exact m (.inl h)
  ·have:=g.new a d h;rw[no a o e m] at this;cases this
 ·rcases e with⟨o,e⟩ | e
  ·exact .inl ⟨o,g.same _ _ (no2 a _ e λz=>z)⟩
  ·exact .inr e
theorem Ent.prot{E:En}{D:Ends}(fr:Fr K HZ F σ H ρ)(en:Ent K HZ F E D):Ent K (Z.prot H ρ) F E D:=by
 refine⟨λρ' σ' H' g h=>en.nx _ _ _ (fr.unprot g) h,λρ' σ' H' g h=>en.bk _ _ _ (fr.unprot g) h,λρ' σ' H' g h=>en.ct _ _ _ (fr.unprot g) h,λr x H' S rr h=>en.rt r x H' (fr.same_of S) ?_ h,λb ρ' σ' H' g h=>en.rw _ _ _ _ (fr.unprot g) h⟩;cases r with
 |v d=>exact rr
 |ow a d=>exact rr
 |nw d=>obtain⟨a,e,n,o⟩:=rr;exact⟨a,e,fr.free_of n,o⟩
end
noncomputable abbrev DE:=List Sl->(List Dv->List (af×List Dv)->Prop)->Prop
noncomputable def guard(ogs:List (af×List Dv))(ρ:List Sl):Prop:=∀p∈ogs,Sl.own p.1 (.lst p.2)∈ρ
noncomputable def xM(K:ak)(P:Hp)(M:af->Prop)(H1:Hp)(J:It)(ds:List Dv)(ogs:List (af×List Dv)):Prop:=
 ∀(i:Nat) (H':Hp) (M':af->Prop),aS P H'->Gen K M M' H1 H'->(∀p∈ogs,e7 K M' H' p.1 (.lst p.2)) ->
  (∀d,ds[i]?=aa d->J.go i H' /\ ∀y H'',J.yld i H' y H''->aS H' H''/\Rep K M' H'' y d)/\(ds.length<=i->J.stop i H')
structure QI(X:Cx)(tg iter:Expr)(ti:DE):Prop where
 mono:∀(ρ:List Sl) (Q Q':List Dv->List (af×List Dv)->Prop),(∀ds g,Q ds g->Q' ds g)->ti ρ Q->ti ρ Q'
 run:∀(HZ:Hp) (F:af->Prop),∃wi,PI X tg iter wi /\ ∀(σ:St) (H:Hp) (ρ:List Sl) (R:It->Hp->Prop),Fr X.K HZ F σ H ρ ->
  ti ρ (λds ogs=>∀J H1,aS H H1->guard ogs ρ->xM X.K (prot H1 ρ) (MM F ρ) H1 J ds ogs->R J H1)->wi σ H R
variable {P:Hp}{l:Expr}{lo:Int}
section
variable {tl:dZ}
noncomputable def Oe(K:ak)(tl:TE):TI:=λσ H R=>tl σ H λx H1=>∃a,x=.ref a/\(((∃xs,fU K H1 a xs)/\R (PX K a) H1) \/ ((∃xs,l6 K H1 a xs)/\R (TF K a) H1))
theorem LS{tl:TE}(hl:PE X l tl):PI X tg l (Oe X.K tl):=by
 intro pj s σ H R I h;refine thn (hl pj s σ H _ I h) λv s1 zz=>?_;obtain⟨x,H1,I1,r1,q1⟩:=zz;obtain⟨a,e,q1⟩:=q1;subst e;cases r1;rcases q1 with⟨⟨xs,hq⟩,q⟩ | ⟨⟨xs,hq⟩,q⟩
 ·obtain⟨its,rv,p,hz⟩:=I1.list hq;refine Vy p.isList ?_;refine⟨s1.heap.objs.size,[s1.heap.objs.size],_,_,H1,rfl,I1.kept (t':=s1.toks) λb o e=>ao _ e,EE a _,⟨_,cr _ rfl,rfl,rfl⟩,λb hb=>?_,q⟩;have e:b=s1.heap.objs.size:=by simpa using hb
  subst e;exact I1.fpOk (bj _) (I1.hok.fresh (bj _))
 ·obtain⟨its,rv,p,hz⟩:=I1.tuple hq;refine wpAny_pyIter_tuple (show s1.heap.IsTuple a its.toArray from p) ?_;refine⟨s1.heap.objs.size,[s1.heap.objs.size],_,_,H1,rfl,I1.kept (t':=s1.toks) λb o e=>ao _ e,CG a _,⟨_,cr _ rfl,rfl,rfl⟩,λb hb=>?_,q⟩;have e:b=s1.heap.objs.size:=by simpa using hb
  subst e;exact I1.fpOk (bj _) (I1.hok.fresh (bj _))
noncomputable def kB(tl:dZ):DE:=λρ Q=>tl ρ λr=>match r with
 | .v (.lst ds)=>Q ds []
 | .nw (.lst ds)=>Q ds []
 | .ow a (.lst ds)=>Q ds [(a,ds)]
 | .v (.tup ds)=>Q ds []
 | .v (.scr ns)=>Q (ns.map .int) []
 |_=>False
theorem yJ{xs:List V}(hP:P a=aa (.lst xs))(r:Reps K M H1 xs ds):xM K P M H1 (PX K a) ds []:=by
 intro i H' M' S G _;have h':=S _ _ hP;refine⟨λd e=>?_,λh=>⟨xs,fU.of h',by rw[r.length];exact h⟩⟩;obtain⟨x,hx,rx⟩:=r.get e;refine⟨⟨xs,x,fU.of h',hx⟩,λy H'' zz=>?_⟩;obtain⟨e1,e2⟩:=zz;subst e1;have:=e2 xs (fU.of h');rw[hx] at this;cases this;exact⟨aS.refl _,rx.gen G⟩
theorem Hc:xM K P M H1 (PX K a) ds [(a,ds)]:=by
 intro i H' M' S G ow;obtain⟨xs,h',r⟩:=ow (a,ds) (by simp);refine⟨λd e=>?_,λh=>⟨xs,fU.of h',by rw[r.length];exact h⟩⟩;obtain⟨x,hx,rx⟩:=r.get e;refine⟨⟨xs,x,fU.of h',hx⟩,λy H'' zz=>?_⟩;obtain⟨e1,e2⟩:=zz;subst e1;have:=e2 xs (fU.of h');rw[hx] at this;cases this;exact⟨aS.refl _,rx⟩
theorem Ha{xs:List V}(hP:P a=aa (.tup xs))(r:Reps K M H1 xs ds):xM K P M H1 (TF K a) ds []:=by
 intro i H' M' S G _;have h':=S _ _ hP;refine⟨λd e=>?_,λh=>⟨xs,l6.of h',by rw[r.length];exact h⟩⟩;obtain⟨x,hx,rx⟩:=r.get e;refine⟨⟨xs,x,l6.of h',hx⟩,λy H'' zz=>?_⟩;obtain⟨e1,e2⟩:=zz;subst e1;have:=e2 xs (l6.of h');rw[hx] at this;cases this;exact⟨aS.refl _,rx.gen G⟩
theorem Hb(hP:KN K P a ns):xM K P M H1 (PX K a) (ns.map .int) []:=by
 intro i H' M' S G _;have h':=(aS.scr S hP).sq;refine⟨λd e=>?_,λh=>⟨_,h',by simpa using h⟩⟩;have r:Reps K M' H' (ns.map V.int) (ns.map .int):=Reps.ints ns;obtain⟨x,hx,rx⟩:=r.get e;refine⟨⟨_,x,h',hx⟩,λy H'' zz=>?_⟩;obtain⟨e1,e2⟩:=zz;subst e1;have:=e2 _ h';rw[hx] at this;cases this;exact⟨aS.refl _,rx⟩
theorem Dh(fr:Fr K HZ F σ H ρ)(e:H a=aa o)(m:¬FV (aa o)):¬ ∃d,Sl.own a d∈ρ:=by
 rintro⟨d,c⟩;obtain⟨_,_,_,ow⟩:=fr.at_own c;obtain⟨u,hu,mu⟩:=ow.mut;rw[e] at hu;cases hu;exact m mu
theorem fD(h:QE X l tl):QI X tg l (kB tl):=by
 refine⟨λρ Q Q' w q=>h.mono _ _ _ (λr q=>?_) q,λHZ F=>⟨_,LS (h.run HZ F),λσ H ρ R fr q=>?_⟩⟩
 ·unfold kB at *;split at q<;>first | exact w _ _ q | exact q
 ·refine h.step fr q λr x H1 q S1 r1=>?_;have fr1:=fr.mono S1;split at q
  ·rename_i ds;cases r1 with
   |lst e m rs=>
    exact⟨_,rfl,.inl ⟨⟨_,fU.of e⟩,q _ H1 S1 (by intro p hp;simp at hp) (yJ (by rw[cN λc=>m (.inr c)];exact e) rs)⟩⟩
  ·rename_i ds;obtain⟨a,rfl,n,xs,e,rs⟩:=r1;exact⟨_,rfl,.inl ⟨⟨_,fU.of e⟩,q _ H1 S1 (by intro p hp;simp at hp) (yJ (by rw[cN λc=>fr.fresh n (.inr c)];exact e) (rs.weak λb z=>.inl z))⟩⟩
  ·rename_i a ds;obtain⟨rfl,m,xs,e,rs⟩:=r1;exact⟨_,rfl,.inl ⟨⟨_,fU.of e⟩,q _ H1 S1 (by intro p hp;simp at hp;subst hp;exact m) Hc⟩⟩
  ·rename_i ds;cases r1 with
   |tup e rs=>exact⟨_,rfl,.inr ⟨⟨_,l6.of e⟩,q _ H1 S1 (by intro p hp;simp at hp) (Ha (by rw[cN (Dh fr1 e λz=>z)];exact e) rs)⟩⟩
  ·rename_i ns;cases r1 with
   |scr e=>
    refine⟨_,rfl,.inl ⟨⟨_,e.sq⟩,q _ H1 S1 (by intro p hp;simp at hp) (Hb ?_)⟩⟩;rcases e with⟨o,e⟩ | e
    ·exact .inl ⟨o,by rw[cN (Dh fr1 e λz=>z)];exact e⟩
    ·exact .inr e
  ·exact q.elim
noncomputable def bX(lo:Int)(n:Nat):List Dv:=(fw n).map λ(k:Nat)=>Dv.int (lo+(k:Int))
theorem CY{d:Dv}(h:(bX lo n)[i]?=aa d):i<n/\d=.int (lo+i):=by
 unfold bX at h;rw[cj] at h;cases e:(fw n)[i]? with
 |none=>rw[e] at h;cases h
 |some k=>
  rw[e] at h;obtain⟨h1,h2⟩:=bb.mp e;simp at h1 h2;subst h2;exact⟨h1,(Option.some.inj h).symm⟩
theorem vY:xM K P M H1 (PV lo n) (bX lo n) []:=by
 intro i H' M' S G _;refine⟨λd e=>?_,λh=>(show n<=i by simpa [bX] using h)⟩;obtain⟨h1,h2⟩:=CY e;subst h2;refine⟨h1,λy H'' zz=>?_⟩;obtain⟨e1,e2⟩:=zz;subst e1 e2;exact⟨aS.refl _,.int _⟩
noncomputable def iN(ts:n5):DE:=λρ Q=>ts ρ λrs=>match rs.map R.d with
 | [.int j]=>(-(2 ^ 62)<=j/\j<2 ^ 62)/\Q (bX 0 j.toNat) []
 |_=>False
noncomputable def rW(ts:n5):DE:=λρ Q=>ts ρ λrs=>match rs.map R.d with
 | [.int i,.int j]=>(-(2 ^ 62)<=i/\i<2 ^ 62 /\ -(2 ^ 62)<=j/\j<2 ^ 62)/\Q (bX i (j-i).toNat) []
 |_=>False
theorem eU{xs:List V}{d:Dv}(h:yX K M H xs [d]):∃x,xs=[x]/\eB K M H x d:=by
 cases h with
 |cons a t=>cases t;exact⟨_,rfl,a⟩
theorem D9{xs:List V}{d d':Dv}(h:yX K M H xs [d,d']):∃x y,xs=[x,y]/\eB K M H x d/\eB K M H y d':=by
 cases h with
 |cons a t=>
  obtain⟨y,rfl,b⟩:=eU t;exact⟨_,_,rfl,a,b⟩
theorem jO{a:Expr}{pos:ma}(hg:Gl X "range")(hm:X.mg "range" = aq)(ha:QA X [a] ts)(hs:autoParam (bg [a] X.env=[(ap,fi a X.env)]) cH._auto_1):QI X tg (.Call (.Name "range" p) [a] [] pos) (iN ts):=by
 refine⟨λρ Q Q' w q=>ha.mono _ _ _ (λr q=>?_) q,λHZ F=>⟨_,Eb hg hm (ha.run HZ F) hs,λσ H ρ R fr q=>?_⟩⟩
 ·split at q
  ·exact⟨q.1,w _ _ q.2⟩
  ·exact q
 ·refine ha.step fr q λrs xs H1 q S1 r1=>?_;split at q
  ·rename_i j e;have c:=r1.c;rw[e] at c;obtain⟨x,rfl,cx⟩:=eU c;obtain rfl:=cx.int;exact⟨j,rfl,q.1.1,q.1.2,q.2 _ H1 S1 (by intro p hp;simp at hp) vY⟩
  ·exact q.elim
theorem y9{a b:Expr}{pos:ma}(hg:Gl X "range")(hm:X.mg "range" = aq)(ha:QA X [a,b] ts)(hs:autoParam (bg [a,b] X.env=[(ap,fi a X.env),(ap,fi b X.env)]) cH._auto_1)(hs2:autoParam (bg [b] X.env=[(ap,fi b X.env)]) cH._auto_1):
  QI X tg (.Call (.Name "range" p) [a,b] [] pos) (rW ts):=by
 refine⟨λρ Q Q' w q=>ha.mono _ _ _ (λr q=>?_) q,λHZ F=>⟨_,Ea hg hm (ha.run HZ F) hs hs2,λσ H ρ R fr q=>?_⟩⟩
 ·split at q
  ·exact⟨q.1,w _ _ q.2⟩
  ·exact q
 ·refine ha.step fr q λrs xs H1 q S1 r1=>?_;split at q
  ·rename_i i j e;have c:=r1.c;rw[e] at c;obtain⟨x,y,rfl,cx,cy⟩:=D9 c;obtain rfl:=cx.int;obtain rfl:=cy.int;exact⟨i,j,rfl,q.1,q.2 _ H1 S1 (by intro p hp;simp at hp) vY⟩
  ·exact q.elim
end
noncomputable abbrev Ad:=Dv->List Sl->(List Sl->Prop)->Prop
structure QG(X:Cx)(tg:Expr)(k:Nat)(g:Ad):Prop where
 mono:∀d ρ (Q Q':List Sl->Prop),(∀ρ,Q ρ->Q' ρ)->g d ρ Q->g d ρ Q'
 agree:∀d ρ (Q:List Sl->Prop),g d ρ Q->g d ρ λρ1=>Q ρ1/\ρ1.length=ρ.length /\ ∀j,k<=j->ρ1[j]?=ρ[j]?
 run:∃t,PG X tg t /\ ∀(HZ:Hp) (F:af->Prop) (v:V) (d:Dv) (σ:St) (H:Hp) (ρ:List Sl) (Q:St->Hp->Prop),Fr X.K HZ F σ H ρ->Rep X.K (MM F ρ) H v d ->
  g d ρ (λρ1=>∀σ1,Fr X.K HZ F σ1 H ρ1->(∀j,k<=j->σ1[j]?=σ[j]?)->Q σ1 H)->t v σ H Q
noncomputable def gN(i:Nat):Ad:=λd ρ Q=>Q (ρ.set i (.v d))
noncomputable def nM:List Nat->List Dv->List Sl->List Sl
 |i::is,d::ds,ρ=>nM is ds (ρ.set i (.v d))
 |_,_,ρ=>ρ
noncomputable def gT(is:List Nat):Ad:=λd ρ Q=>match d with
 | .tup ds=>ds.length=is.length/\Q (nM is ds ρ)
 |_=>False
noncomputable def Sb:List Nat->Kw
 | []=>Om
 |i::is=>Ko (Bj i) (Sb is)
theorem v7:∀(is:List Nat) (ds:List Dv) (ρ:List Sl),(nM is ds ρ).length=ρ.length
 | [],_,_=>rfl
 |_::_,[],_=>rfl
 |i::is,d::ds,ρ=>by rw[nM,v7 is ds];simp
theorem vA{k:Nat}:∀(is:List Nat) (ds:List Dv) (ρ:List Sl),(∀i∈is,i<k) -> ∀j,k<=j->(nM is ds ρ)[j]?=ρ[j]?
 | [],_,_,_,_,_=>rfl
 |_::_,[],_,_,_,_=>rfl
 |i::is,d::ds,ρ,h,j,hj=>by
  have:=h i (by simp);rw[nM,vA is ds _ (λi hi=>h i (by simp[hi])) j hj,ff (by ac_rfl)]
section
variable {pos:ma}
theorem jF{k:Nat}(hN:X.N.Nodup)(hi:X.N[i]?=aa x)(hx:IV X.env.scope x)(hk:autoParam (i<k) pL._auto_1)(hf:autoParam (X.fn x=ai \/ X.env.scope.names.lookup x=aa .local) IT._auto_1):QG X (.Name x pos) k (gN i):=by
 refine⟨λd ρ Q Q' w q=>w _ q,λd ρ Q q=>⟨q,by simp,λj hj=>by rw[ff (by ac_rfl)]⟩,_,eE hN hi hx hf,λHZ F v d σ H ρ Q fr r q=>?_⟩;exact q _ (fr.setv r) λj hj=>by rw[ff (by ac_rfl)]
theorem Ds{K:ak}{HZ:Hp}{F:af->Prop}{H:Hp}{k:Nat}:∀(is:List Nat) (ds:List Dv) (vs:List V) (σ:St) (ρ:List Sl) (Q:St->Hp->Prop),(∀i∈is,i<k)->ds.length=is.length->Fr K HZ F σ H ρ->Reps K (MM F ρ) H vs ds ->
  (∀σ1,Fr K HZ F σ1 H (nM is ds ρ)->(∀j,k<=j->σ1[j]?=σ[j]?)->Q σ1 H)->Sb is vs σ H Q
 | [],[],_,σ,ρ,Q,_,_,fr,.nil,q=>⟨rfl,q σ fr λ_ _=>rfl⟩
 |i::is,d::ds,_,σ,ρ,Q,hk,hl,fr,.cons (x:=x) a r,q=>by
  refine⟨x,_,rfl,?_⟩;have wk:∀b,MM F (ρ.set i (.v d)) b->MM F ρ b:=λb h=>by
   rcases MM.set b h with h | ⟨_,h⟩
   ·exact h
   ·cases h
  refine Ds is ds _ _ (ρ.set i (.v d)) Q (λi hi=>hk i (by simp[hi])) (by simpa using hl) (fr.setv a) (r.weak wk) λσ1 f1 e1=>q σ1 f1 λj hj=>?_;have:=hk i (by simp);rw[e1 j hj,ff (by ac_rfl)]
theorem EW{x1 k:Nat}{is:List Nat}(hc:X.calm=ai)(h:PU X es (Sb is))(hk:autoParam (∀i∈is,i<k) pL._auto_1)(hl:autoParam (is.length=n) cH._auto_1)
  (hn:autoParam ((qe es X.env).length=n) cH._auto_1) (hst:autoParam ((qe es X.env).findIdx? (·.1)=aq) cH._auto_1):QG X (.Tuple es x1 pos) k (gT is):=by
 refine⟨λd ρ Q Q' w q=>?_,λd ρ Q q=>?_,_,LU hc h hn hst,λHZ F v d σ H ρ Q fr r q=>?_⟩
 ·unfold gT at *;split at q
  ·exact⟨q.1,w _ q.2⟩
  ·exact q
 ·unfold gT at *;split at q
  ·exact⟨q.1,q.2,v7 _ _ _,vA _ _ _ hk⟩
  ·exact q
 ·unfold gT at q;split at q
  ·cases r with
   |tup e rs=>exact⟨_,_,rfl,l6.of e,by rw[rs.length,q.1,hl],Ds is _ _ σ ρ Q hk q.1 fr rs q.2⟩
  ·exact q.elim
end
noncomputable def bM(g:Ad)(tb:c6)(ogs:List (af×List Dv)):List Dv->c6
 | []=>λE ρ=>guard ogs ρ/\E.nx ρ
 |d::r=>λE ρ=>guard ogs ρ/\g d ρ λρ1=>tb { E with nx:=bM g tb ogs r E,ct:=bM g tb ogs r E,bk:=E.nx } ρ1
noncomputable def kA(ti:DE)(g:Ad)(tb:c6):c6:=λE ρ=>ti ρ λds ogs=>bM g tb ogs ds E ρ
section
variable {Yb c:Expr}{ti:DE}{g:Ad}{tb:c6}{Yj:List kx}{pos:ma}{k:Nat}
theorem qF(mg:∀d ρ (Q Q':List Sl->Prop),(∀ρ,Q ρ->Q' ρ)->g d ρ Q->g d ρ Q')(mb:∀E E' ρ,EnLe E E'->tb E ρ->tb E' ρ)(ogs:List (af×List Dv)):∀(ds:List Dv) (E E':En) (ρ:List Sl),EnLe E E'->bM g tb ogs ds E ρ->bM g tb ogs ds E' ρ
 | [],E,E',ρ,w,h=>⟨h.1,w.nx _ h.2⟩
 |d::r,E,E',ρ,w,h=>by
  have w2:EnLe { E with nx:=bM g tb ogs r E,ct:=bM g tb ogs r E,bk:=E.nx } { E' with nx:=bM g tb ogs r E',ct:=bM g tb ogs r E',bk:=E'.nx }:=
   ⟨λρ h=>qF mg mb ogs r E E' ρ w h,w.rt,w.nx,λρ h=>qF mg mb ogs r E E' ρ w h,w.rw⟩
  exact⟨h.1,mg _ _ _ _ (λρ1 h=>mb _ _ _ w2 h) h.2⟩
theorem cI(ogs:List (af×List Dv))(E:En)(ρ:List Sl):bM g tb ogs [] E ρ=(guard ogs ρ/\E.nx ρ):=rfl
theorem cO(ogs:List (af×List Dv))(d:Dv)(r:List Dv)(E:En)(ρ:List Sl):bM g tb ogs (d::r) E ρ=(guard ogs ρ/\g d ρ λρ1=>tb { E with nx:=bM g tb ogs r E,ct:=bM g tb ogs r E,bk:=E.nx } ρ1):=rfl
theorem Bk{ogs:List (af×List Dv)}:∀{ds:List Dv},bM g tb ogs ds E ρ->guard ogs ρ
 | [],h=>by rw[cI] at h;exact h.1
 |_::_,h=>by rw[cO] at h;exact h.1
theorem h9(hp:VP (cg X.prog X.w) X.A X.env X.xe)(hc:X.N=X.N)(hi:QI X tg Yb ti)(hg:QG X tg k g)(hb:QSs X Yj tb)(hs:autoParam (∀x,im Yb X.env x=jm x) FW._auto_1):QS X (.For tg Yb Yj [] pos) (kA ti g tb):=by
 refine⟨λE E' ρ w h=>hi.mono _ _ _ (λds ogs h=>qF hg.mono hb.mono ogs ds E E' ρ w h) h,λHZ F=>?_⟩;obtain⟨wi,hwi,wiq⟩:=hi.run HZ F;obtain⟨tt,htt,ttq⟩:=hg.run;have hb':yV X Yj (λD σ H=>∃P,liftS X.K P F tb D σ H):=λpj s σ H D I zq6=>by obtain⟨P,q⟩:=zq6;exact hb.run P F pj s σ H D I q
 refine eQ (LO hp hc hwi htt hb' hs) λD σ H zz=>?_;obtain⟨ρ,E,fr,h,en⟩:=zz;refine wiq σ H ρ _ fr (hi.mono _ _ _ (λds ogs q J H2 S2 _ ok=>?_) h);have fr2:=fr.mono S2;have en2:Ent X.K (prot H2 ρ) F E D:=en.prot fr2;refine⟨λi m σ' H'=>m=ds.length-i/\i<=ds.length /\ ∃ρ',Fr X.K (prot H2 ρ) F σ' H' ρ'/\bM g tb ogs (ds.drop i) E ρ',⟨ds.length,by simp,lc _,ρ,fr2.prot,by simpa using q⟩,?_⟩;rintro i m σ' H' ⟨rfl,hil,ρ',fr',q'⟩;have gd:guard ogs ρ':=Bk q';have Gn:=fr2.gen fr';have oks:=ok i H' (MM F ρ') fr'.same Gn λp hp=>let ⟨_,_,_,h⟩:=fr'.at_own (gd p hp);h;by_cases hlt:i<ds.length
 ·have hd:ds[i]?=aa ds[i]:=by simp[hlt]
  have hdr:ds.drop i=ds[i]::ds.drop (i+1):=fc hlt;rw[hdr,cO] at q';obtain⟨go,yld⟩:=oks.1 _ hd;refine .inr ⟨go,λσ2 H2'=>∃ρ2,Fr X.K (prot H2 ρ) F σ2 H2' ρ2/\bM g tb ogs (ds.drop (i+1)) E ρ2,λσ2 H2' zq0=>by obtain⟨ρ2,f2',q2⟩:=zq0;exact⟨ds.length-(i+1),(by ac_rfl),rfl,hlt,ρ2,f2',q2⟩,λy H3 hy=>?_⟩;obtain⟨S3,ry⟩:=yld y H3 hy;refine ttq _ F y _ σ' H3 ρ' _ (fr'.mono S3) ry (hg.mono _ _ _ _ (λρ1 q1 σ1 f1 _=>?_) q'.2);exact⟨_,ρ1,_,f1,q1,λρ3 σ3 H3' f3 q3=>⟨ρ3,f3,q3⟩,en2.nx,λρ3 σ3 H3' f3 q3=>⟨ρ3,f3,q3⟩,en2.rt,en2.rw⟩
 ·have e:i=ds.length:=(by ac_rfl);subst e;rw[vh,cI] at q';exact .inl ⟨oks.2 (bj _),en2.nx _ _ _ fr' q'.2⟩
end
end Z
variable {Q:Z.R->Prop}{te:Z.dZ}{ds:List Z.Dv}{ρ:List Z.Sl}
namespace Z
open L2
noncomputable def CT(tc:lN)(tb:c6):c6:=λE ρ=>∃I:Nat->List Sl->Prop,(∃m,I m ρ) /\ ∀m ρ,I m ρ->tc ρ λb=>
 if b=ai then tb { E with nx:=λρ'=>∃m',m'<m/\I m' ρ',ct:=λρ'=>∃m',m'<m/\I m' ρ',bk:=E.nx } ρ else E.nx ρ
variable {js:List Nat}{σ:St}{j:Nat}{HZ:Hp}{elt Yb:Expr}{ti:DE}{ts:n5}
section
variable {c:Expr}{g:Ad}{tb:c6}{Yj:List kx}{pos:ma}{k:Nat}{tc:lN}
theorem DV(hp:VP (cg X.prog X.w) X.A X.env X.xe)(hc:QT X c tc)(hb:QSs X Yj tb):QS X (.While c Yj [] pos) (CT tc tb):=by
 refine⟨λE E' ρ w h=>?_,λHZ F=>eQ (GN hp (hc.run HZ F) (hb.run HZ F)) λD σ H ⟨ρ,E,fr,h,en⟩=>?_⟩
 ·obtain⟨I,i0,step⟩:=h;refine⟨I,i0,λm ρ hI=>hc.mono _ _ _ (λb q=>?_) (step m ρ hI)⟩;have w2:EnLe { E with nx:=λρ'=>∃m',m'<m/\I m' ρ',ct:=λρ'=>∃m',m'<m/\I m' ρ',bk:=E.nx } { E' with nx:=λρ'=>∃m',m'<m/\I m' ρ',ct:=λρ'=>∃m',m'<m/\I m' ρ',bk:=E'.nx }:=
   ⟨λ_ h=>h,w.rt,w.nx,λ_ h=>h,w.rw⟩
  split at q
  ·rw[Y4 ‹_›];exact hb.mono _ _ _ w2 q
  ·rw[XF ‹_›];exact w.nx _ q
 ·obtain⟨I,⟨m0,i0⟩,step⟩:=h;refine⟨λm σ H=>∃ρ,Fr X.K HZ F σ H ρ/\I m ρ,⟨m0,ρ,fr,i0⟩,?_⟩;rintro m σ H ⟨ρ,fr,hI⟩;refine hc.step fr (step m ρ hI) λb H1 q S1=>?_;cases b with
  |true=>
   simp only[if_true] at q;refine mZ ⟨λσ' H'=>∃m',m'<m /\ ∃ρ',Fr X.K HZ F σ' H' ρ'/\I m' ρ',λσ' H' zq1=>by obtain⟨m',l,h⟩:=zq1;exact⟨m',l,h⟩,ρ,_,fr.mono S1,q,?_,en.nx,?_,en.rt,en.rw⟩
   ·rintro ρ' σ' H' fr' ⟨m',l,h⟩;exact⟨m',l,ρ',fr',h⟩
   ·rintro ρ' σ' H' fr' ⟨m',l,h⟩;exact⟨m',l,ρ',fr',h⟩
  |false=>exact pA (en.nx _ _ _ (fr.mono S1) (by simpa using q))
noncomputable def eS(js:List Nat)(ρ:List Sl):List Sl:=js.map λj=>(ρ[j]?).getD .un
noncomputable def d8(ρ0:List Sl)(g:Ad)(tt:lN)(te:dZ):List Dv->List Dv->(R->Prop)->Prop
 | [],acc,Q=>Q (.nw (.lst acc))
 |d::r,acc,Q=>g d ρ0 λρ1=>tt ρ1 λb=>if b=ai then te ρ1 λv=>(v.free=ai/\acc.length<Ah)/\d8 ρ0 g tt te r (acc++[v.d]) Q else d8 ρ0 g tt te r acc Q
noncomputable def gM(k:Nat)(js:List Nat)(ti:DE)(g:Ad)(tt:lN)(te:dZ):dZ:=λρ Q=>ti ρ λds _=>d8 (au k .un++eS js ρ) g tt te ds [] Q
structure QTs(X:Cx)(ifs:List Expr)(t:lN):Prop where
 mono:∀(ρ:List Sl) (Q Q':Bool->Prop),(∀r,Q r->Q' r)->t ρ Q->t ρ Q'
 run:∀(HZ:Hp) (F:af->Prop),Mp X ifs (liftT X.K HZ F t)
noncomputable def mV:lN:=λ_ Q=>Q ai
theorem uC:QTs X [] mV:=⟨λ_ _ _ w q=>w _ q,λHZ F pj s σ H Q I zq2=>by obtain⟨ρ,fr,q⟩:=zq2;exact J3 pj s σ H Q I (q H (aS.refl _))⟩
theorem oN{t:lN}(h:QT X c t):QTs X [c] t:=⟨h.mono,λHZ F=>J2 (h.run HZ F)⟩
theorem lB{s:Sl}(h:(eS js ρ)[i]?=aa s)(hs:s ≠ .un):∃j,js[i]?=aa j/\ρ[j]?=aa s:=by
 unfold eS at h;rw[cj] at h;cases e:js[i]? with
 |none=>rw[e] at h;cases h
 |some j=>
  rw[e] at h;refine⟨j,rfl,?_⟩;have h':(ρ[j]?).getD .un=s:=Option.some.inj h;cases q:ρ[j]? with
  |none=>rw[q] at h';exact absurd h'.symm hs
  |some o=>rw[q] at h';exact congrArg aa h'
theorem Da{x:V}(hj:js[i]?=aa j)(h:σ[j]?=aa (aa x)):(pick js σ)[i]?=aa (aa x):=by
 unfold pick;rw[cj,hj,vg,h];rfl
theorem kN{ρ0:List Sl}{tt:lN}(mg:∀d ρ (Q Q':List Sl->Prop),(∀ρ,Q ρ->Q' ρ)->g d ρ Q->g d ρ Q')(mt:∀(ρ:List Sl) (Q Q':Bool->Prop),(∀r,Q r->Q' r)->tt ρ Q->tt ρ Q')(me:∀(ρ:List Sl) (Q Q':R->Prop),(∀r,Q r->Q' r)->te ρ Q->te ρ Q'):
  ∀(ds acc:List Dv) (Q Q':R->Prop),(∀r,Q r->Q' r)->d8 ρ0 g tt te ds acc Q->d8 ρ0 g tt te ds acc Q'
 | [],acc,Q,Q',w,h=>w _ h
 |d::r,acc,Q,Q',w,h=>by
  refine mg _ _ _ _ (λρ1 h=>mt _ _ _ (λb h=>?_) h) h;split at h
  ·rw[Y4 ‹_›];exact me _ _ _ (λv h=>⟨h.1,kN mg mt me r _ Q Q' w h.2⟩) h
  ·rw[XF ‹_›];exact kN mg mt me r _ Q Q' w h
theorem Er{l:List Nat}(hN:l.Nodup){x:Nat}(a:l[i]?=aa x)(b:l[j]?=aa x):i=j:=by
 obtain⟨h1,e1⟩:=bb.mp a;obtain⟨h2,e2⟩:=bb.mp b;have P:=cf.mp hN;rcases vc i j with h | h | h
 ·exact absurd (e1.trans e2.symm) (P i j h1 h2 h)
 ·exact h
 ·exact absurd (e2.trans e1.symm) (P j i h2 h1 h)
theorem Fr.block{H2:Hp}{k:Nat}{D:af}{old:St}(fr:Fr K HZ F σ H ρ)(S:aS H H2)(hD:H D=aq)(hD2:H2 D≠aq)(nd:js.Nodup)(lo:old.length=k):
  ∃(P:Hp) (F':af->Prop),Fr K P F' (old++pick js σ) H2 (au k .un++eS js ρ)/\(∀a,MM F' (au k .un++eS js ρ) a ↔ MM F ρ a \/ a=D)/\(∀a,F' a ↔ (MM F ρ a \/ a=D) /\ ¬ ∃d,Sl.own a d∈eS js ρ):=by
 have mem:∀{a:af} {d:Dv},Sl.own a d∈au k Sl.un++eS js ρ->Sl.own a d∈eS js ρ:=λh=>by
  rcases dv.mp h with h | h
  ·cases dw h
  ·exact h
 have sub:∀{a:af} {d:Dv},Sl.own a d∈eS js ρ->Sl.own a d∈ρ:=λh=>by
  obtain⟨i,e⟩:=ot.mp h;obtain⟨j,_,e2⟩:=lB e (by intro z;cases z);exact cq e2
 refine⟨Z.prot H2 (eS js ρ),λa=>(MM F ρ a \/ a=D) /\ ¬ ∃d,Sl.own a d∈eS js ρ,?_,λa=>⟨λh=>?_,λh=>?_⟩,λa=>Iff.rfl⟩
 ·have iff:∀a,MM (λa=>(MM F ρ a \/ a=D) /\ ¬ ∃d,Sl.own a d∈eS js ρ) (au k .un++eS js ρ) a->MM F ρ a \/ a=D:=λa h=>by
   rcases h with h | ⟨d,h⟩
   ·exact h.1
   ·exact .inl (.inr ⟨d,sub (mem h)⟩)
  have G:Gen K (MM F ρ) (MM (λa=>(MM F ρ a \/ a=D) /\ ¬ ∃d,Sl.own a d∈eS js ρ) (au k .un++eS js ρ)) H H2:=((Gen.fresh hD).trans (.mono S)).trans (.weak iff);refine⟨by simp[pick,eS,lo],λi s e=>?_,λi j a d d' e1 e2=>?_,λa d h=>vG (mem h),λb o h=>oP h,λa h=>?_,λPt q z=>?_⟩
  ·by_cases hi:i<k
   ·rw[bh (by simpa using hi),jf,Y4 hi] at e;cases e;trivial
   ·rw[ay (by simpa using lh hi),oq] at e;rw[ay (by rw[lo];exact lh hi),lo];cases s with
    |un=>trivial
    |v d=>
     obtain⟨j,hj,e2⟩:=lB e (by intro z;cases z);obtain⟨x,hx,r⟩:=fr.sl j _ e2;exact⟨x,Da hj hx,r.gen G⟩
    |own a d=>
     obtain⟨j,hj,e2⟩:=lB e (by intro z;cases z);obtain⟨hx,r⟩:=fr.sl j _ e2;exact⟨Da hj hx,r.gen G λo e=>S _ _ e⟩
  ·have ge:∀{i:Nat} {d:Dv},(au k Sl.un++eS js ρ)[i]?=aa (.own a d)->k<=i/\(eS js ρ)[i-k]?=aa (.own a d):=λ{i d} e=>by
    by_cases hi:i<k
    ·rw[bh (by simpa using hi),jf,Y4 hi] at e;cases e
    ·rw[ay (by simpa using lh hi),oq] at e;exact⟨lh hi,e⟩
   obtain⟨k1,e1⟩:=ge e1;obtain⟨k2,e2⟩:=ge e2;obtain⟨j1,hj1,e1⟩:=lB e1 (by intro z;cases z);obtain⟨j2,hj2,e2⟩:=lB e2 (by intro z;cases z);have:=fr.nd j1 j2 a d d' e1 e2;subst this;have:=Er nd hj1 hj2;ac_rfl
  ·rw[cN h.2];rcases h.1 with m | m
   ·intro z;exact fr.dom m (S.free z)
   ·rw[m];exact hD2
  ·have e:=fr.old.t Pt q z;rw[cN ?_]
   ·exact S _ _ (fr.same _ _ e)
   ·rintro⟨d,c⟩;rw[fr.new Pt d (sub c)] at e;cases e
 ·rcases h with h | ⟨d,h⟩
  ·exact h.1
  ·exact .inl (.inr ⟨d,sub (mem h)⟩)
 ·by_cases c:∃d,Sl.own a d∈eS js ρ
  ·obtain⟨d,c⟩:=c;exact .inr ⟨d,dr _ c⟩
  ·exact .inl ⟨h,c⟩
end
inductive liftG(K:ak)(k:Nat)(g:Ad)(v:V)(σ:St)(H:Hp)(Q:St->Hp->Prop):Prop
 |mk (d:Dv) (HZ:Hp) (F:af->Prop) (ρ:List Sl) (fr:Fr K HZ F σ H ρ) (r:Rep K (MM F ρ) H v d) (h:g d ρ (λρ1=>∀σ1,Fr K HZ F σ1 H ρ1->(∀j,k<=j->σ1[j]?=σ[j]?)->Q σ1 H))
theorem QG.pg{k:Nat}{g:Ad}(h:QG X tg k g):PG X tg (liftG X.K k g):=by
 obtain⟨t,ht,tq⟩:=h.run;intro pj s σ H v u Q I r ⟨d,HZ,F,ρ,fr,rv,q⟩;exact ht pj s σ H v u Q I r (tq HZ F v d σ H ρ Q fr rv q)
theorem QE.pe(h:QE X e te):PE X e (λσ H Q=>∃HZ F,lift X.K HZ F te σ H Q):=λpj s σ H Q I zq3=>by obtain⟨HZ,F,q⟩:=zq3;exact h.run HZ F pj s σ H Q I q
theorem QTs.pt{tt:lN}(h:QTs X ifs tt):Mp X ifs (λσ H Q=>∃HZ F,liftT X.K HZ F tt σ H Q):=λpj s σ H Q I zq4=>by obtain⟨HZ,F,q⟩:=zq4;exact h.run HZ F pj s σ H Q I q
theorem As{l a b:List α}{k:Nat}(ha:a.length=k)(hl:l.length=k+b.length)(h:∀j,k<=j->l[j]?=(a++b)[j]?):l=l.take k++b:=by
 refine pi λj=>?_;by_cases hj:j<k
 ·rw[bh (by rw[dj];ac_rfl),fz hj]
 ·rw[h j (by ac_rfl),ay (by ac_rfl),ay (by rw[dj];ac_rfl),ha,dj,lr (by ac_rfl)]
section
variable {pos:ma}
theorem LL{tgt:Expr}{cl:List (bt×af)}{tgs ns:List bt}{k:Nat}{g:Ad}{tt:lN}(hc:X.N=X.N)(hk:tgs.length=k)
  (hi:QI X tgt Yb ti) (hg:∀(fp:List af) (s:aj) (H:Hp),QG (qN X Y5 cl fp (tgs++ns) s H) tgt k g) (ht:∀(fp:List af) (s:aj) (H:Hp),QTs (qN X Y5 cl fp (tgs++ns) s H) ifs tt)
  (he:∀(fp:List af) (s:aj) (H:Hp),QE (qN X Y5 cl fp (tgs++ns) s H) elt te)
  (Yr:ux Y5 X.env=jm cl) (Ym:∀x c,cl.lookup x=aa c->X.env.cells.lookup x=aa c)
  (Yx:∀x,((gw Y5 X.env).names.lookup x=aa .cell \/ (gw Y5 X.env).names.lookup x=aa .free) -> ∃c,cl.lookup x=aa c)
  (hjs:js.map (λj=>X.N[j]?)=ns.map aa) (hin:∀y∈ns,(gw Y5 X.env).names.lookup y=aa .cell \/ (gw Y5 X.env).names.lookup y=aa .free)
  (Ys:∀y∈ns,X.env.kindOf y=aa .cell \/ X.env.kindOf y=aa .free) (nd:js.Nodup)
  (Yc:autoParam (∀y∈Y5.names,y.2 ≠ .cell) DI._auto_1) (Yg:autoParam (Y5.kind=.function) cH._auto_1)
  (Yd:autoParam (∀y∈Y5.names,y.2=.local->Y5.names.lookup y.1=aa .local) DI._auto_1)
  (hs:autoParam (∀z,im Yb X.env z=jm z) FW._auto_1):
  QE X (.ListComp elt [⟨tgt,Yb,ifs,0⟩] Y5 pos) (gM k js ti g tt te):=by
 have mg:=(hg [] X.s₀ λ_=>aq).mono;have ag:=(hg [] X.s₀ λ_=>aq).agree;have mt:=(ht [] X.s₀ λ_=>aq).mono;have me:=(he [] X.s₀ λ_=>aq).mono;refine⟨λρ Q Q' w h=>hi.mono _ _ _ (λds ogs h=>kN mg mt me ds [] Q Q' w h) h,λHZ F=>?_⟩;obtain⟨wi,hwi,wiq⟩:=hi.run HZ F;refine dA (GY (tgs:=tgs) (ns:=ns) (js:=js) (g:=liftG X.K k g) (tt:=λσ H Q=>∃HZ F,liftT X.K HZ F tt σ H Q) (te:=λσ H Q=>∃HZ F,lift X.K HZ F te σ H Q) hc hwi (λfp s H=>(hg fp s H).pg) (λfp s H=>(ht fp s H).pt) (λfp s H=>(he fp s H).pe) Yr Ym Yx hjs hin Ys Yc Yg Yd hs) λσ H Q zz=>?_;obtain⟨ρ,fr,h⟩:=zz;subst hk;refine wiq σ H ρ _ fr (hi.mono _ _ _ (λds ogs q J H1 S1 gd ok=>?_) h);intro D hD;have fr1:=fr.mono S1;refine⟨λi m acc H2=>m=ds.length-i/\i<=ds.length/\aS H1 H2 /\ ∃accD,Reps X.K (λa=>MM F ρ a \/ a=D) H2 acc accD /\
  d8 (au tgs.length .un++eS js ρ) g tt te (ds.drop i) accD (λr=>∀x H',aS H H'->eD X.K (MM F ρ) (Ag ρ) H x r H'->Q x H'),
  ⟨ds.length,by simp,lc _,aS.new' hD,[],.nil,by simpa using q⟩,?_⟩
 rintro i m acc H2 ⟨rfl,hil,S2,accD,ra,q⟩ hDl;have G2:Gen X.K (MM F ρ) (λa=>MM F ρ a \/ a=D) H1 H2:=(Gen.fresh hD).trans (.mono S2);have oks:=ok i H2 (λa=>MM F ρ a \/ a=D) (λb o e=>S2 _ _ (oP e)) G2 λp hp=>by
  obtain⟨_,_,_,ow⟩:=fr1.at_own (gd p hp);exact ow.gen G2 λo e=>S2 _ _ e
 by_cases hlt:i<ds.length
 ·have hd:ds[i]?=aa ds[i]:=by simp[hlt]
  rw[fc hlt] at q;obtain⟨go,yld⟩:=oks.1 _ hd;refine .inr ⟨go,λy H3 hy old lo=>?_⟩;obtain⟨S3,ry⟩:=yld y H3 hy;have hD3:=S3 _ _ hDl;obtain⟨P,F',fr',iff,iffF⟩:=fr1.block (js:=js) (old:=old) (S2.trans S3) hD (by rw[hD3];simp) nd lo;refine⟨_,P,F',_,fr',ry.weak λa z=>(iff a).mp z,mg _ _ _ _ (λρ1 q1 σ1 f1 a1=>?_) (ag _ _ _ q)⟩;obtain⟨q1,l1,b1⟩:=q1;have up:∀a,MM F ρ a \/ a=D->MM F' ρ1 a:=λa z=>by
   rcases(iff a).mpr z with z | ⟨d,z⟩
   ·exact .inl z
   ·refine .inr ⟨d,?_⟩;obtain⟨j,e⟩:=ot.mp z;have hj:tgs.length<=j:=by
     by_cases hj:j<tgs.length
     ·rw[bh (by simpa using hj),jf,Y4 hj] at e;cases e
     ·ac_rfl
    rw[<- b1 j hj] at e;exact cq e
  have hlen:σ1.length=tgs.length+(pick js σ).length:=by
   have:=f1.len;rw[l1] at this;simp[pick,eS] at this ⊢;ac_rfl
  refine⟨⟨σ1.take tgs.length,by rw[dj];ac_rfl,As lo hlen a1⟩,P,F',ρ1,f1,mt _ _ _ (λb q5 H5 S5=>?_) q1⟩;have S25:=(S2.trans S3).trans S5;cases b with
  |true=>
   simp only[if_true] at q5;refine mZ ⟨P,F',ρ1,f1.mono S5,me _ _ _ (λr q6 x H6 S6 rx=>?_) q5⟩;have hD6:=S6 _ _ (S5 _ _ hD3);obtain⟨⟨rf,rl⟩,q6⟩:=q6;have rep:=(rx.rep (λa z=>(f1.mono S5).dom z) rf).weak up;refine⟨hD6,by rw[ra.length];exact zY rl,ds.length-(i+1),(by ac_rfl),rfl,hlt,λb o e=>?_,_,?_,q6⟩
   ·rw[bF (bC e hD)];exact S6 _ _ (S25 _ _ e)
   ·have G6:Gen X.K (λa=>MM F ρ a \/ a=D) (λa=>MM F ρ a \/ a=D) H6 (upd H6 D (.lst (acc++[x]))):=Gen.write (.inr rfl) (by rw[hD6];trivial);exact((ra.mono ((S3.trans S5).trans S6)).append (.cons rep .nil)).gen G6
  |false=>
   simp only[fe,if_false] at q5;exact pA ⟨S5 _ _ hD3,ds.length-(i+1),(by ac_rfl),rfl,hlt,S25,accD,ra.mono (S3.trans S5),q5⟩
 ·have e:i=ds.length:=(by ac_rfl);subst e;rw[vh] at q;exact .inl ⟨oks.2 (bj _),q (.ref D) H2 (S1.trans S2) ⟨D,rfl,S1.free hD,acc,hDl,ra⟩⟩
end
noncomputable def mY(X:Cx)(f:ae)(p:List Dv->(R->Prop)->Prop):Prop:=
 (∀ds (Q Q':R->Prop),(∀r,Q r->Q' r)->p ds Q->p ds Q') /\ ∃r:List V->Hp->VK->Prop,fK X f r /\ ∀(M:af->Prop) (O:af->Dv->Prop) (H:Hp) (xs:List V) (ds:List Dv) (Q:VK),yX X.K M H xs ds ->
  p ds (λrr=>∀z H',aS H H'->eD X.K M O H z rr H'->Q z H')->r xs H Q
noncomputable def eY(p:List Dv->(R->Prop)->Prop)(ts:n5):dZ:=λρ Q=>ts ρ λrs=>p (rs.map R.d) Q
variable {T:String}{p2:ma}
section
variable {pos:ma}{id:String}{pp:List Dv->(R->Prop)->Prop}
theorem Dy{r:List V->Hp->VK->Prop}(ha:QA X es ts)(mo:∀ds (Q Q':R->Prop),(∀r,Q r->Q' r)->pp ds Q->pp ds Q')
  (hr:∀(M:af->Prop) (O:af->Dv->Prop) (H:Hp) (xs:List V) (ds:List Dv) (Q:VK),yX X.K M H xs ds->pp ds (λrr=>∀z H',aS H H'->eD X.K M O H z rr H'->Q z H')->r xs H Q)
  (HZ:Hp) (F:af->Prop) (σ:St) (H:Hp) (Q:VK) (h:lift X.K HZ F (eY pp ts) σ H Q):R6 r (liftA X.K HZ F ts) σ H Q:=by
 obtain⟨ρ,fr,h⟩:=h;refine ha.step fr h λrs xs H1 q S1 r1=>?_;exact hr (MM F ρ) (Ag ρ) H1 xs _ Q r1.c (mo _ _ _ (λrr k z H' S rz=>k z H' (S1.trans S) (rz.ahead S1)) q)
theorem b7(hc:mY X (.builtin id) pp)(hg:Gl X x)(hm:X.mg x=aq)(hv:ph x=aa (.builtin id))(ha:QA X (e::es) ts)(hn:autoParam (x ≠ "__name__") pL._auto_1)(hdb:autoParam ((x==("__debug__" : bt))=ap) pL._auto_1)
  (he:autoParam (bg (e::es) X.env=(ap,fi e X.env)::bg es X.env) cH._auto_1) (hpl:autoParam ((jv pos (bg es X.env)).any (·.1)=ap) cH._auto_1):QE X (.Call (.Name x p) (e::es) [] pos) (eY pp ts):=by
 obtain⟨mo,r,hR,hr⟩:=hc;exact⟨λρ Q Q' w q=>ha.mono _ _ _ (λrs q=>mo _ _ _ w q) q,λHZ F=>dA (BA hR hg hm hv (ha.run HZ F) hn hdb he hpl) (Dy ha mo hr HZ F)⟩
theorem g5(hc:mY X (.type T) pp)(hg:Gl X x)(hm:X.mg x=aq)(hv:ph x=aa (.type T))(ha:QA X (e::es) ts)(hn:autoParam (x ≠ "__name__") pL._auto_1)(hdb:autoParam ((x==("__debug__" : bt))=ap) pL._auto_1)
  (he:autoParam (bg (e::es) X.env=(ap,fi e X.env)::bg es X.env) cH._auto_1) (hpl:autoParam ((jv pos (bg es X.env)).any (·.1)=ap) cH._auto_1):QE X (.Call (.Name x p) (e::es) [] pos) (eY pp ts):=by
 obtain⟨mo,r,hR,hr⟩:=hc;exact⟨λρ Q Q' w q=>ha.mono _ _ _ (λrs q=>mo _ _ _ w q) q,λHZ F=>dA (sS hR hg hm hv (ha.run HZ F) hn hdb he hpl) (Dy ha mo hr HZ F)⟩
noncomputable def e9:List Dv->(R->Prop)->Prop
 | [.lst xs],Q=>Q (.v (.int xs.length))
 | [.tup xs],Q=>Q (.v (.int xs.length))
 | [.scr ns],Q=>Q (.v (.int ns.length))
 | [.str y],Q=>y.length<=Ah/\Q (.v (.int y.length))
 |_,_=>False
theorem cP:mY X (.builtin "len") e9:=by
 refine⟨λds Q Q' w h=>?_,_,AY.or AX,λM O H xs ds Q c h=>?_⟩
 ·unfold e9 at *;split at h<;>first | exact w _ h | exact⟨h.1,w _ h.2⟩ | exact h
 ·unfold e9 at h;split at h
  ·obtain⟨x,rfl,cx⟩:=eU c;obtain⟨a,ys,rfl,ea,ra⟩:=cx.lst;refine .inl ⟨a,ys,rfl,.inl (fU.of ea),?_⟩;rw[ra.length];exact h _ H (aS.refl _) (Rep.int _)
  ·obtain⟨x,rfl,cx⟩:=eU c;obtain⟨a,ys,rfl,ea,ra⟩:=cx.tup;refine .inl ⟨a,ys,rfl,.inr (l6.of ea),?_⟩;rw[ra.length];exact h _ H (aS.refl _) (Rep.int _)
  ·obtain⟨x,rfl,cx⟩:=eU c;obtain⟨a,rfl,ea⟩:=cx.scr;refine .inl ⟨a,_,rfl,.inl ea.sq,?_⟩;rw[bi];exact h _ H (aS.refl _) (Rep.int _)
  ·obtain⟨x,rfl,cx⟩:=eU c;obtain rfl:=cx.str;exact .inr ⟨_,rfl,iX h.1,h.2 _ H (aS.refl _) (Rep.int _)⟩
  ·exact h.elim
noncomputable def El:List Dv->(R->Prop)->Prop
 | [.int i],Q=>Q (.v (.int (if i<0 then -i else i)))
 |_,_=>False
theorem ID:mY X (.builtin "abs") El:=by
 refine⟨λds Q Q' w h=>?_,_,IF,λM O H xs ds Q c h=>?_⟩
 ·unfold El at *;split at h<;>first | exact w _ h | exact h
 ·unfold El at h;split at h
  ·obtain⟨x,rfl,cx⟩:=eU c;obtain rfl:=cx.int;exact⟨_,rfl,h _ H (aS.refl _) (Rep.int _)⟩
  ·exact h.elim
noncomputable def vL:List Dv->(R->Prop)->Prop
 | [.int i,.int j],Q=>Q (.v (.int (if j<i then j else i)))
 |_,_=>False
noncomputable def O8:List Dv->(R->Prop)->Prop
 | [.int i,.int j],Q=>Q (.v (.int (if j > i then j else i)))
 |_,_=>False
theorem E5(hc:X.calm=ai):mY X (.builtin "min") vL:=by
 refine⟨λds Q Q' w h=>?_,_,FT hc,λM O H xs ds Q c h=>?_⟩
 ·unfold vL at *;split at h<;>first | exact w _ h | exact h
 ·unfold vL at h;split at h
  ·obtain⟨x,y,rfl,cx,cy⟩:=D9 c;obtain rfl:=cx.int;obtain rfl:=cy.int;exact⟨_,_,rfl,h _ H (aS.refl _) (Rep.int _)⟩
  ·exact h.elim
noncomputable def Gf:List Dv->(R->Prop)->Prop
 | [.lst ds],Q=>∃ns:List Int,ds=ns.map .int/\Q (.v (.int ns.sum))
 |_,_=>False
noncomputable def Gj:List Dv->(R->Prop)->Prop
 | [.lst ds],Q=>∃bs:List Bool,ds=bs.map .bl/\Q (.v (.bl (bs.all _root_.id)))
 |_,_=>False
theorem Reps.of_ints{K:ak}{M:af->Prop}{H:Hp}:∀{xs:List V} {ns:List Int},Reps K M H xs (ns.map .int)->xs=ns.map V.int
 |_,[],.nil=>rfl
 |_,n::r,.cons a t=>by cases a;rw[Reps.of_ints t];rfl
theorem Reps.of_bls{K:ak}{M:af->Prop}{H:Hp}:∀{xs:List V} {ns:List Bool},Reps K M H xs (ns.map .bl)->xs=ns.map V.bl
 |_,[],.nil=>rfl
 |_,n::r,.cons a t=>by cases a;rw[Reps.of_bls t];rfl
theorem Mh(hc:X.N=X.N):mY X (.builtin "sum") Gf:=by
 refine⟨λds Q Q' w h=>?_,_,FR hc,λM O H xs ds Q c h=>?_⟩
 ·unfold Gf at *;split at h
  ·obtain⟨ns,e,h⟩:=h;exact⟨ns,e,w _ h⟩
  ·exact h
 ·unfold Gf at h;split at h
  ·obtain⟨ns,rfl,h⟩:=h;obtain⟨x,rfl,cx⟩:=eU c;obtain⟨a,ys,rfl,ea,ra⟩:=cx.lst;obtain rfl:=ra.of_ints;exact⟨a,ns,rfl,fU.of ea,h _ H (aS.refl _) (Rep.int _)⟩
  ·exact h.elim
theorem Mi(hc:X.calm=ai):mY X (.builtin "all") Gj:=by
 refine⟨λds Q Q' w h=>?_,_,FU hc,λM O H xs ds Q c h=>?_⟩
 ·unfold Gj at *;split at h
  ·obtain⟨ns,e,h⟩:=h;exact⟨ns,e,w _ h⟩
  ·exact h
 ·unfold Gj at h;split at h
  ·obtain⟨ns,rfl,h⟩:=h;obtain⟨x,rfl,cx⟩:=eU c;obtain⟨a,ys,rfl,ea,ra⟩:=cx.lst;obtain rfl:=ra.of_bls;exact⟨a,ns,rfl,fU.of ea,h _ H (aS.refl _) (Rep.bl _)⟩
  ·exact h.elim
noncomputable def kI:List Dv->(R->Prop)->Prop
 | [.lst ds],Q=>Q (.nw (.lst ds))
 | [.tup ds],Q=>Q (.nw (.lst ds))
 | [.scr ns],Q=>Q (.nw (.lst (ns.map .int)))
 |_,_=>False
theorem sB:mY X (.type "list") kI:=by
 refine⟨λds Q Q' w h=>?_,_,AW,λM O H xs ds Q c h=>?_⟩
 ·unfold kI at *;split at h<;>first | exact w _ h | exact h
 ·unfold kI at h;split at h
  ·obtain⟨x,rfl,cx⟩:=eU c;obtain⟨a,ys,rfl,ea,ra⟩:=cx.lst;exact⟨a,ys,rfl,.inl (fU.of ea),λl hl=>h _ _ (aS.new' hl) (jA hl ra)⟩
  ·obtain⟨x,rfl,cx⟩:=eU c;obtain⟨a,ys,rfl,ea,ra⟩:=cx.tup;exact⟨a,ys,rfl,.inr (l6.of ea),λl hl=>h _ _ (aS.new' hl) (jA hl ra)⟩
  ·obtain⟨x,rfl,cx⟩:=eU c;obtain⟨a,rfl,ea⟩:=cx.scr;exact⟨a,_,rfl,.inl ea.sq,λl hl=>h _ _ (aS.new' hl) (jA hl (Reps.ints _))⟩
  ·exact h.elim
noncomputable def jU:List Dv->(R->Prop)->Prop
 | [.lst ds],Q=>Q (.v (.tup ds))
 | [.tup ds],Q=>Q (.v (.tup ds))
 |_,_=>False
theorem oE:mY X (.type "tuple") jU:=by
 refine⟨λds Q Q' w h=>?_,_,xI,λM O H xs ds Q c h=>?_⟩
 ·unfold jU at *;split at h<;>first | exact w _ h | exact h
 ·unfold jU at h;split at h
  ·obtain⟨x,rfl,cx⟩:=eU c;obtain⟨a,ys,rfl,ea,ra⟩:=cx.lst;exact⟨a,ys,rfl,.inl ⟨fU.of ea,λl hl=>h _ _ (aS.new' hl) (Fe hl ra)⟩⟩
  ·obtain⟨x,rfl,cx⟩:=eU c;obtain⟨a,ys,rfl,ea,ra⟩:=cx.tup;exact⟨a,ys,rfl,.inr ⟨l6.of ea,h _ H (aS.refl _) (Rep.tup ea ra)⟩⟩
  ·exact h.elim
noncomputable def Pc:Dv->String
 | .non=>"NoneType"
 | .bl _=>"bool"
 | .int _=>"int"
 | .str _=>"str"
 | .tup _=>"tuple"
 | .lst _=>"list"
 | .scr _=>"list"
 | .dit _=>"dict"
 | .obj _ _=>""
 | .exc _ _=>""
 | .dns _=>""
noncomputable def Hf(T:String)(d:Dv):Bool:=Pc d==T || (T == "int" && Pc d == "bool")
noncomputable def Am:Dv->Bool
 | .obj _ _=>ap
 | .exc _ _=>ap
 | .dns _=>ap
 | .scr _=>ap
 |_=>ai
noncomputable def wE(T:String)(te:dZ):dZ:=λρ Q=>te ρ λr=>Am r.d=ai/\Q (.v (.bl (Hf T r.d)))
theorem Jr(hT:T = "int" \/ T = "bool" \/ T = "tuple" \/ T = "list" \/ T = "str")(d:Dv)(ho:Am d=ai):XD K (.type (Pc d)) (.type T)=aa (Hf T d):=by
 rcases hT with rfl | rfl | rfl | rfl | rfl<;>cases d<;>first | (simp[Am] at ho;done) | with_unfolding_all rfl
theorem eB.ty{x:V}{d:Dv}(c:eB K M H x d)(ho:Am d=ai):TyOf K H x (.type (Pc d)):=by
 cases d with
 |non=>obtain rfl:=c.non;exact .non
 |bl b=>obtain rfl:=c.bl;exact .bl b
 |int i=>obtain rfl:=c.int;exact .int i
 |str y=>obtain rfl:=c.str;exact .str y
 |tup ds=>obtain⟨a,xs,rfl,e,_⟩:=c.tup;exact .tup e
 |lst ds=>obtain⟨a,xs,rfl,e,_⟩:=c.lst;exact .lst e
 |dit ds=>obtain⟨a,ep,xs,rfl,e,_⟩:=c.dit;exact .dT e
 |obj C fs=>simp[Am] at ho
 |scr ns=>simp[Am] at ho
 |exc C p=>simp[Am] at ho
 |dns ks=>simp[Am] at ho
theorem tJ(hT:T = "int" \/ T = "bool" \/ T = "tuple" \/ T = "list" \/ T = "str")(hg:Gl X "isinstance")(hm:X.mg "isinstance" = aq)(ha:QE X e te)(hty:PE X (.Name x p2) (tC (.ty T)))
  (he:autoParam (bg [e,.Name x p2] X.env=(ap,fi e X.env)::bg [.Name x p2] X.env) cH._auto_1) (he2:autoParam (bg [Expr.Name x p2] X.env=(ap,fi (.Name x p2) X.env)::bg [] X.env) cH._auto_1) (hpl:autoParam ((jv pos (bg [.Name x p2] X.env)).any (·.1)=ap) cH._auto_1):
  QE X (.Call (.Name "isinstance" p) [e,.Name x p2] [] pos) (wE T te):=by
 refine⟨λρ Q Q' w q=>ha.mono _ _ _ (λr q=>⟨q.1,w _ q.2⟩) q,λHZ F=>dA (BA IE hg hm boot_isinstance (oR (ha.run HZ F) (oR hty vJ he2) he) (by decide) (by decide) he hpl) λσ H Q zz=>?_⟩;obtain⟨ρ,fr,h⟩:=zz;refine ha.step fr h λr x H1 q S1 r1=>?_;exact⟨x,T,_,_,rfl,r1.c.ty q.1,Jr hT _ q.1,q.2 _ H1 S1 (Rep.bl _)⟩
end
noncomputable def kD:cE->Dv
 | .inl i=>.int i
 | .inr x=>.str x
noncomputable def cA:Dv->Dv->(R->Prop)->Prop
 | .lst xs,.int i,Q=>match sE xs i with
  |some d=>Q (.v d)
  |none=>False
 | .tup xs,.int i,Q=>match sE xs i with
  |some d=>Q (.v d)
  |none=>False
 | .scr ns,.int i,Q=>match sE ns i with
  |some n=>Q (.v (.int n))
  |none=>False
 | .str z,.int i,Q=>z.length<=Ah/\match sE z.cps.toList i with
  |some c=>Q (.v (.str ⟨#[c]⟩))
  |none=>False
 | .dit kvs,.tup ds,Q=>∃k:List cE,ds=k.map kD/\match kvs.find? (λkv=>decide (kv.1=k)) with
  |some kv=>Q (.v kv.2)
  |none=>False
 |_,_,_=>False
variable {tb ta:dZ}{a b:Expr}
section
variable {pos:ma}
theorem Reps.at{K:ak}{M:af->Prop}{H:Hp}{xs:List V}{ds:List Dv}{i:Int}{d:Dv}(r:Reps K M H xs ds)(h:sE ds i=aa d):∃x,sE xs i=aa x/\Rep K M H x d:=by
 unfold sE at *;rw[r.length];cases e:uK ds.length i with
 |none=>rw[e] at h;cases h
 |some j=>
  rw[e] at h;obtain⟨x,hx,rx⟩:=r.get (i:=j) h;exact⟨x,hx,rx⟩
theorem KM{β:Type}{f:α->β}{l:List α}{i:Int}:sE (l.map f) i=(sE l i).map f:=by
 unfold sE;rw[bi];cases uK l.length i with
 |none=>rfl
 |some j=>simp
theorem RepT.val{k:List cE}{ds:List (List cE×Dv)}(r:RepT K M H xs ds):(∀kv,ds.find? (λkv=>decide (kv.1=k))=aa kv -> ∃x,n8 xs k=aa x/\Rep K M H x kv.2)/\(ds.find? (λkv=>decide (kv.1=k))=aq->n8 xs k=aq):=
 r.ind (P:=λxs ds=>(∀kv,ds.find? (λkv=>decide (kv.1=k))=aa kv -> ∃x,n8 xs k=aa x/\Rep K M H x kv.2)/\(ds.find? (λkv=>decide (kv.1=k))=aq->n8 xs k=aq)) ⟨λ_ h=>(by cases h),λ_=>rfl⟩ λk' x d xs ds a _ ih=>by
  by_cases e:k'=k
  ·rw[ui (by simpa using e),qW e];exact⟨λkv h=>by cases h;exact⟨x,rfl,a⟩,λh=>by cases h⟩
  ·rw[uj (by simpa using e),qX e];exact ih
theorem Reps.keys{K:ak}{M:af->Prop}{H:Hp}:∀{xs:List V} {k:List cE},Reps K M H xs (k.map kD)->xs=k.map kV
 |_,[],.nil=>rfl
 |_,.inl i::r,.cons a t=>by cases a;rw[Reps.keys t];rfl
 |_,.inr x::r,.cons a t=>by cases a;rw[Reps.keys t];rfl
noncomputable def RR:R2:=λx y H Q=>∃a v,x=.ref a/\wS H a y (aa v)/\Q v H
theorem Jt(hu:X.A.units+1<mw):IW X RR:=by
 intro Ye Yo pj s σ H x y v u Q I rx ry h hs;obtain⟨a,z,rfl,g,q⟩:=h;cases rx;have hT:=Bw I g;unfold V6;refine ah ?_;rw[getitemInPython_of_ne hT.not_modules];refine ah (wpAny_specialOf hT PySem.F.slot_dict_getitem.lookup ?_);have fin:bz (cg X.prog X.w) X.A (Wc Yo ap (.ref a) u) (λr s₃=>bz (cg X.prog X.w) X.A (letTemporaryGo Ye (.ref a) r >>= λ_=>jm r) (EP X pj σ Q) X.xe s₃) X.xe s:=by
  rw[hs];exact wpAny_operating (ig (FP hu I g ry λw' s' I' rw'=>show EP X pj σ Q w' s' from⟨z,H,I',rw',q⟩) (λr s₃ h₃=>ah (wpAny_letTemporaryGo (az h₃))) λ_ _ x=>x)
 first
  |exact az (ah fin)
  |exact ah (az (ah fin))
  |exact ah fin
theorem BO:∀dx dy (Q Q':R->Prop),(∀r,Q r->Q' r)->cA dx dy Q->cA dx dy Q':=by
 intro dx dy Q Q' w h;unfold cA at *;split at h
 ·split at h
  ·exact w _ h
  ·exact h
 ·split at h
  ·exact w _ h
  ·exact h
 ·split at h
  ·exact w _ h
  ·exact h
 ·refine⟨h.1,?_⟩;have h2:=h.2;split at h2
  ·exact w _ h2
  ·exact h2
 ·obtain⟨k,e,h⟩:=h;refine⟨k,e,?_⟩;split at h
  ·exact w _ h
  ·exact h
 ·exact h
theorem bW(hu:X.A.units+1<mw)(ha:QE X a ta)(hb:QE X b tb)(hs:autoParam (E9 b) U6._auto_1):QE X (.Subscript a b pos) (aQ cA ta tb):=by
 refine⟨rZ ha hb BO,λHZ F=>dA (Ny (MQ.or (Jt hu)) (ha.run HZ F) (hb.run HZ F) hs) (uP ha hb (λM O H x y dx dy Q cx cy h=>?_) BO HZ F)⟩;unfold cA at h;split at h
 ·rename_i xs i;split at h
  ·rename_i d hd;obtain⟨p,vs,rfl,ea,ra⟩:=cx.lst;obtain rfl:=cy.int;obtain⟨z,hz,rz⟩:=ra.at hd;exact .inl (.inl ⟨p,vs,i,z,rfl,rfl,fU.of ea,hz,h _ H (aS.refl _) rz⟩)
  ·exact h.elim
 ·rename_i xs i;split at h
  ·rename_i d hd;obtain⟨p,vs,rfl,ea,ra⟩:=cx.tup;obtain rfl:=cy.int;obtain⟨z,hz,rz⟩:=ra.at hd;exact .inl (.inr (.inl ⟨p,vs,i,z,rfl,rfl,l6.of ea,hz,h _ H (aS.refl _) rz⟩))
  ·exact h.elim
 ·rename_i ns i;split at h
  ·rename_i n hn;obtain⟨p,rfl,ea⟩:=cx.scr;obtain rfl:=cy.int;refine .inl (.inl ⟨p,_,i,.int n,rfl,rfl,ea.sq,?_,h _ H (aS.refl _) (Rep.int _)⟩);rw[KM,hn];rfl
  ·exact h.elim
 ·rename_i z i;obtain⟨hl,h⟩:=h;split at h
  ·rename_i c hc;obtain rfl:=cx.str;obtain rfl:=cy.int;exact .inl (.inr (.inr ⟨z,i,c,rfl,rfl,iX hl,hc,h _ H (aS.refl _) (Rep.str _)⟩))
  ·exact h.elim
 ·obtain⟨k,rfl,h⟩:=h;split at h
  ·rename_i kv hk;obtain⟨p,ep,kvs,rfl,ea,ra⟩:=cx.dit;obtain⟨b,ys,rfl,eb,rb⟩:=cy.tup;obtain rfl:=rb.keys;obtain⟨z,hz,rz⟩:=ra.val.1 kv hk;exact .inr ⟨p,z,rfl,by rw[<- hz];exact wS.t ea eb,h _ H (aS.refl _) rz⟩
  ·exact h.elim
 ·exact h.elim
noncomputable abbrev PR:=List Sl->(Option Int->Prop)->Prop
structure QO(X:Cx)(e:Option Expr)(t:PR):Prop where
 mono:∀(ρ:List Sl) (Q Q':Option Int->Prop),(∀r,Q r->Q' r)->t ρ Q->t ρ Q'
 run:∀(HZ:Hp) (F:af->Prop),PO X e (λσ H Q=>∃ρ,Fr X.K HZ F σ H ρ/\t ρ λo=>∀H',aS H H'->Q o H')
noncomputable def iO:PR:=λ_ Q=>Q aq
noncomputable def pJ(te:dZ):PR:=λρ Q=>te ρ λr=>match r.d with
 | .int i=>Q (aa i)
 |_=>False
theorem IN{e:Option Expr}{t t':TO}(h:PO X e t)(w:∀σ H Q,t' σ H Q->t σ H Q):PO X e t':=λpj s σ H Q I q=>h pj s σ H Q I (w σ H Q q)
theorem uE:QO X aq iO:=⟨λ_ _ _ w q=>w _ q,λHZ F=>IN JB λσ H Q zq5=>by obtain⟨ρ,fr,q⟩:=zq5;exact q H (aS.refl _)⟩
theorem uD(h:QE X e te):QO X (aa e) (pJ te):=by
 refine⟨λρ Q Q' w q=>h.mono _ _ _ (λr q=>?_) q,λHZ F=>IN (JA (h.run HZ F)) λσ H Q ⟨ρ,fr,q⟩=>?_⟩
 ·split at q
  ·exact w _ q
  ·exact q
 ·refine h.step fr q λr x H1 q S1 r1=>?_;split at q
  ·rename_i i e;have c:=r1.c;rw[e] at c;exact⟨i,c.int,q H1 S1⟩
  ·exact q.elim
noncomputable def cut(xs:List α)(lo hi:Option Int):List α:=(xs.drop (HT.gQ xs.length 0 lo)).take (HT.gQ xs.length xs.length hi-HT.gQ xs.length 0 lo)
noncomputable def Kk:Dv->Option Int->Option Int->(R->Prop)->Prop
 | .lst xs,lo,hi,Q=>Q (.nw (.lst (cut xs lo hi)))
 | .scr ns,lo,hi,Q=>Q (.nw (.lst ((cut ns lo hi).map .int)))
 | .tup xs,lo,hi,Q=>¬(HT.gQ xs.length 0 lo=0/\HT.gQ xs.length xs.length hi=xs.length)/\Q (.v (.tup (cut xs lo hi)))
 |_,_,_,_=>False
noncomputable def IU(te:dZ)(tl th:PR):dZ:=λρ Q=>te ρ λr=>tl ρ λlo=>th ρ λhi=>Kk r.d lo hi Q
theorem Gg:∀d lo hi (Q Q':R->Prop),(∀r,Q r->Q' r)->Kk d lo hi Q->Kk d lo hi Q':=by
 intro d lo hi Q Q' w h;unfold Kk at *;split at h<;>first | exact w _ h | exact⟨h.1,w _ h.2⟩ | exact h
theorem Reps.cut{K:ak}{M:af->Prop}{H:Hp}{xs:List V}{ds:List Dv}(r:Reps K M H xs ds)(lo hi:Option Int):Reps K M H (By xs lo hi) (Z.cut ds lo hi):=by
 unfold By Z.cut;rw[r.length];exact(r.drop _).take _
theorem uF{lo hi:Option Expr}{tl th:PR}(he:QE X e te)(hl:QO X lo tl)(hh:QO X hi th):QE X (.Subscript e (.Slice lo hi aq p2) pos) (IU te tl th):=by
 refine⟨λρ Q Q' w q=>he.mono _ _ _ (λr q=>hl.mono _ _ _ (λl q=>hh.mono _ _ _ (λu q=>Gg _ _ _ _ _ w q) q) q) q,λHZ F=>dA (GU (Ik.or LD) (he.run HZ F) (hl.run HZ F) (hh.run HZ F)) λσ H Q zz=>?_⟩;obtain⟨ρ,fr,q⟩:=zz;refine he.step fr q λr x H1 q S1 r1=>?_;refine⟨ρ,fr.mono S1,hl.mono _ _ _ (λl q H2 S2=>?_) q⟩;refine⟨ρ,(fr.mono S1).mono S2,hh.mono _ _ _ (λu q H3 S3=>?_) q⟩;have S13:=(S1.trans S2).trans S3;have c:=(r1.mono (S2.trans S3)).c;generalize r.d=d at q c;unfold Kk at q;split at q
 ·obtain⟨a,xs,rfl,ea,ra⟩:=c.lst;exact .inl ⟨a,xs,rfl,fU.of ea,λp hp=>q _ _ (S13.trans (aS.new' hp)) ((jA hp (ra.cut _ _)).ahead S13)⟩
 ·obtain⟨a,rfl,ea⟩:=c.scr;refine .inl ⟨a,_,rfl,ea.sq,λp hp=>q _ _ (S13.trans (aS.new' hp)) (eD.ahead (jA hp ?_) S13)⟩;have:∀(ns:List Int) l u,(Z.cut ns l u).map Dv.int=Z.cut (ns.map Dv.int) l u:=λns l u=>by
   unfold Z.cut;simp[WR,XJ]
  rw[this];exact(Reps.ints _).cut _ _
 ·obtain⟨a,xs,rfl,ea,ra⟩:=c.tup;exact .inr ⟨a,xs,rfl,l6.of ea,by rw[ra.length];exact q.1,λp hp=>q.2 _ _ (S13.trans (aS.new' hp)) (eD.ahead (Fe hp (ra.cut _ _)) S13)⟩
 ·exact q.elim
end
section
variable {c:Expr}{tc:dZ}{pos:ma}
theorem Iy{op op':Wa}{f f':Int->Int->Bool}(ho:lM X (dt op) (DU λi j=>.bl (f i j)))(ho':lM X (dt op') (DU λi j=>.bl (f' i j)))(ha:QE X a ta)(hb:QE X b tb)(hc:QE X c tc)
  (hm:autoParam (VQ [op,op'] [b,c]=ap) Pa._auto_1):QE X (.Compare a [op,op'] [b,c] pos) (o4 (zO f) (zO f') ta tb tc):=by
 refine⟨λρ Q Q' w q=>ha.mono _ _ _ (λrx q=>hb.mono _ _ _ (λry q=>vM _ _ _ _ (λz q=>?_) q) q) q,λHZ F=>dA (GZ ho ho' (ha.run HZ F) (hb.run HZ F) (hc.run HZ F) hm) λσ H Q ⟨ρ,fr,q⟩=>?_⟩
 ·split at q
  ·split at q
   ·rw[Y4 ‹_›];exact hc.mono _ _ _ (λw' q=>vM _ _ _ _ w q) q
   ·rw[XF ‹_›];exact w _ q
  ·exact q
 ·refine ha.step fr q λrx x H1 q1 S1 r1=>?_;refine hb.step (fr.mono S1) q1 λry y H2 q2 S2 r2=>?_;have cx:=(r1.mono S2).c;have cy:=r2.c;generalize rx.d=dx at q2 cx;generalize ry.d=dy at q2 cy;unfold zO at q2;split at q2
  ·rename_i Q2 i j;obtain rfl:=cx.int;obtain rfl:=cy.int;refine⟨_,_,rfl,rfl,f i j,rfl,?_⟩;have S12:=S1.trans S2;replace q2:=(show (if f i j=ai then tc ρ (λw=>zO f' (.int j) w.d (λr=>∀x H',aS H H'->eD X.K (MM F ρ) (Z.Ag ρ) H x r H'->Q x H')) else (∀x H',aS H H'->eD X.K (MM F ρ) (Z.Ag ρ) H x (.v (.bl ap)) H'->Q x H')) from q2);cases h:f i j with
   |true=>
    rw[h] at q2;simp only[if_true] at q2;refine mZ (hc.step ((fr.mono S1).mono S2) q2 λrw' z H3 q3 S3 r3=>?_);have cz:=r3.c;generalize rw'.d=dz at q3 cz;cases dz with
    |int l=>
     obtain rfl:=cz.int;exact⟨_,_,rfl,rfl,q3 _ H3 (S12.trans S3) (Rep.bl _)⟩
    |_=>exact(show False from q3).elim
   |false=>
    rw[h] at q2;simp only[fe,if_false] at q2;exact pA (q2 _ H2 S12 (Rep.bl _))
  ·exact q2.elim
noncomputable def qZ:Dv->Option Bool
 | .non=>aa ap
 | .bl b=>aa b
 | .int i=>aa (i != 0)
 | .lst xs=>aa (!xs.isEmpty)
 | .tup xs=>aa (!xs.isEmpty)
 | .scr xs=>aa (!xs.isEmpty)
 |_=>aq
noncomputable def mO(te:dZ):lN:=λρ Q=>te ρ λr=>match qZ r.d with
 |some k=>Q k
 |none=>False
theorem Reps.empty{xs:List V}(r:Reps K M H xs ds):xs.isEmpty=ds.isEmpty:=by cases r<;>rfl
theorem iE(h:QE X e te)(he:autoParam (∀Yi,isTrue e X.env Yi=(do let v <- Yi;ye e.pos;yf [v] (Xe v))) FW._auto_1):QT X e (mO te):=by
 refine⟨λρ Q Q' w q=>h.mono _ _ _ (λr q=>?_) q,λHZ F=>Ae (GJ (h.run HZ F) he) λσ H Q ⟨ρ,fr,q⟩=>?_⟩
 ·split at q
  ·exact w _ q
  ·exact q
 ·refine h.step fr q λr x H1 q S1 r1=>?_;have cx:=r1.c;generalize r.d=d at q cx;split at q
  ·rename_i k hk;refine⟨k,?_,q H1 S1⟩;cases d with
   |non=>obtain rfl:=cx.non;simp only[qZ,jj] at hk;subst hk;rfl
   |bl b=>obtain rfl:=cx.bl;simp only[qZ,jj] at hk;exact hk.symm
   |int i=>obtain rfl:=cx.int;simp only[qZ,jj] at hk;exact hk.symm
   |lst ds=>
    obtain⟨a,xs,rfl,ea,ra⟩:=cx.lst;simp only[qZ,jj] at hk;exact .inl ⟨xs,fU.of ea,by rw[ra.empty];exact hk.symm⟩
   |tup ds=>
    obtain⟨a,xs,rfl,ea,ra⟩:=cx.tup;simp only[qZ,jj] at hk;exact .inr (.inl ⟨xs,l6.of ea,by rw[ra.empty];exact hk.symm⟩)
   |scr ns=>
    obtain⟨a,rfl,ea⟩:=cx.scr;simp only[qZ,jj] at hk;exact .inl ⟨_,ea.sq,by rw[<- hk];cases ns<;>rfl⟩
   |_=>simp[qZ] at hk
  ·exact q.elim
end
noncomputable abbrev Fn:=List Dv->(R->Prop)->Prop
inductive low(K:ak)(sp:Fn)(vs:List V)(H:Hp)(Q:VK)(E:XK):Prop
 |mk (F:af->Prop) (ds:List Dv) (hF:OldF K F H) (r:Reps K F H vs ds) (q:sp ds (λr=>∀x H',aS H H'->eD K F CA H x r H'->Q x H'))
structure MonoF(sp:Fn):Prop where
 mo:∀ds (Q Q':R->Prop),(∀r,Q r->Q' r)->sp ds Q->sp ds Q'
structure Def(P:aw)(w:bv)(K:ak)(mg:bt->Option ae)(base:dm)(k:Nat)(x:bt)(ps:List bt)(sp:Sp):Prop where
 ex:∃f fd,mg x=aa (.ref f)/\rh K (.ref f)=ai/\k9 K fd ps []/\FnOk P w K mg base CC k f fd ps sp
structure At(K:ak)(mg:bt->Option ae)(x nm:bt)(st:kx)(ps:List bt):Prop where
 ex:∃f fd,mg x=aa (.ref f)/\Fun K nm nm st f fd/\k9 K fd ps []
structure MDef(P:aw)(w:bv)(K:ak)(mg:bt->Option ae)(base:dm)(k:Nat)(C:af)(m:bt)(ps:List bt)(sp:Sp):Prop where
 ex:∃f fd,Meth K C m f/\k9 K fd ps []/\FnOk P w K mg base CC k f fd ps sp
structure MAt(K:ak)(C:af)(m qual:bt)(st:kx)(ps:List bt):Prop where
 ex:∃f fd,Meth K C m f/\Fun K m qual st f fd/\k9 K fd ps []
theorem At.ok{P:aw}{w:bv}{K:ak}{mg:bt->Option ae}{base:dm}{k:Nat}{x nm:bt}{st:kx}{ps N:List bt}{sp:Sp}(a:At K mg x nm st ps)(S:FnScope N ps (aI st))(len:∀vs H Q E,sp vs H Q E->vs.length=ps.length)
  (Yv:∀(f:af) (cdv:ae) (A:de) (outer:List zl) (s:aj) (H:Hp) (vs:List V) (Q:VK) (E:XK),Room k (A.deeper (uf nm (aI st) s.heap.objs.size f cdv))->sp vs H Q E ->
   ∃t,yV (u7 CC P w K mg base N nm (aI st) f cdv A outer s H E).nox (eG st) t/\t { nx:=λ_ H'=>Q .non H',rt:=Q } (start N vs) H):Def P w K mg base (k+1) x ps sp:=by
 obtain⟨f,fd,hm,F,hb⟩:=a.ex;exact⟨f,fd,hm,F.kp,hb,F.ok S len (Yv f)⟩
theorem MAt.ok{P:aw}{w:bv}{K:ak}{mg:bt->Option ae}{base:dm}{k:Nat}{C:af}{m Y8:bt}{st:kx}{ps N:List bt}{sp:Sp}(a:MAt K C m Y8 st ps)(S:FnScope N ps (aI st))(len:∀vs H Q E,sp vs H Q E->vs.length=ps.length)
  (Yv:∀(f:af) (cdv:ae) (A:de) (outer:List zl) (s:aj) (H:Hp) (vs:List V) (Q:VK) (E:XK),Room k (A.deeper (uf Y8 (aI st) s.heap.objs.size f cdv))->sp vs H Q E ->
   ∃t,yV (u7 CC P w K mg base N Y8 (aI st) f cdv A outer s H E).nox (eG st) t/\t { nx:=λ_ H'=>Q .non H',rt:=Q } (start N vs) H):MDef P w K mg base (k+1) C m ps sp:=by
 obtain⟨f,fd,hm,F,hb⟩:=a.ex;exact⟨f,fd,hm,hb,F.ok S len (Yv f)⟩
noncomputable def aN(N:List bt)(ds:List Dv):List Sl:=ds.map .v++au (N.length-ds.length) .un
variable {vs:List V}
theorem Fw(hF:OldF K F H)(r:Reps K F H vs ds):Fr K H F (start N vs) H (aN N ds):=by
 have no:∀{a:af} {d:Dv},Sl.own a d∈aN N ds->False:=λ{a d} h=>by
  rcases dv.mp h with h | h
  ·obtain⟨z,_,e⟩:=fx.mp h;cases e
  ·cases dw h
 have wk:∀a,MM F (aN N ds) a->F a:=λa h=>by
  rcases h with h | ⟨d,h⟩
  ·exact h
  ·exact(no h).elim
 have hl:=r.length;refine⟨by simp[L2.start,aN,hl],λi s e=>?_,λi j a d d' e _=>(no (cq e)).elim,λa d h=>(no h).elim,aS.refl _,hF⟩;unfold aN at e;by_cases hi:i<ds.length
 ·rw[bh (by simpa using hi),cj] at e;cases q:ds[i]? with
  |none=>rw[q] at e;cases e
  |some d=>
   rw[q] at e;cases e;obtain⟨x,hx,rx⟩:=r.get q;refine⟨x,?_,rx.weak wk⟩;unfold L2.start;rw[bh (by simpa using(bb.mp hx).1),cj,hx];rfl
 ·rw[ay (by simpa using lh hi)] at e;have:=cq e;cases dw this;trivial
variable {E:XK}{sp:Fn}
theorem AZ{sts:List kx}{t:c6}{Q:VK}(h:QSs X sts t)(hsp:∀ds Q,sp ds Q->t ({ nx:=λ_=>Q (.v .non),rt:=Q }) (aN N ds))(q:low X.K sp vs H Q E):
  ∃t',yV X sts t'/\t' { nx:=λ_ H'=>Q .non H',rt:=Q } (start N vs) H:=by
 obtain⟨F,ds,hF,r,q⟩:=q;exact⟨_,h.run H F,aN N ds,_,Fw hF r,hsp ds _ q,λρ σ H' fr q=>q .non H' fr.same Rep.non,λ_ _ _ _ z=>z.elim,λ_ _ _ _ z=>z.elim,λrr x H' S rx q=>q x H' S rx,λ_ _ _ _ _ z=>z.elim⟩
theorem zX(h:∀ds Q,sp ds Q->ds.length=n):∀vs H Q E,low K sp vs H Q E->vs.length=n:=λvs H Q E zq6=>by obtain⟨F,ds,_,r,q⟩:=zq6;(rw[r.length];exact h _ _ q)
variable {st:kx}
theorem At.okP{k:Nat}{nm:bt}{t:c6}(a:At K mg x nm st ps)(S:FnScope N ps (aI st))
  (hq:∀(f:af) (cdv:ae) (A:de) (outer:List zl) (s:aj) (H:Hp) (E:XK),Room k (A.deeper (uf nm (aI st) s.heap.objs.size f cdv))->QSs (u7 CC P w K mg base N nm (aI st) f cdv A outer s H E).nox (eG st) t)
  (len:∀ds Q,sp ds Q->ds.length=ps.length) (hsp:∀ds Q,sp ds Q->t ({ nx:=λ_=>Q (.v .non),rt:=Q }) (aN N ds)):Def P w K mg base (k+1) x ps (low K sp):=
 a.ok S (zX len) λf cdv A outer s H vs Q E hr q=>AZ (hq f cdv A outer s H E hr) hsp q
variable {m:bt}
theorem MAt.okP{k:Nat}{Y8:bt}{t:c6}(a:MAt K C m Y8 st ps)(S:FnScope N ps (aI st))
  (hq:∀(f:af) (cdv:ae) (A:de) (outer:List zl) (s:aj) (H:Hp) (E:XK),Room k (A.deeper (uf Y8 (aI st) s.heap.objs.size f cdv))->QSs (u7 CC P w K mg base N Y8 (aI st) f cdv A outer s H E).nox (eG st) t)
  (len:∀ds Q,sp ds Q->ds.length=ps.length) (hsp:∀ds Q,sp ds Q->t ({ nx:=λ_=>Q (.v .non),rt:=Q }) (aN N ds)):MDef P w K mg base (k+1) C m ps (low K sp):=
 a.ok S (zX len) λf cdv A outer s H vs Q E hr q=>AZ (hq f cdv A outer s H E hr) hsp q
noncomputable def R.flat:R->Bool
 | .v d=>lF d
 | .nw d=>Hr d
 | .ow _ _=>ap
noncomputable def back(rs:List R)(Q:R->Prop):R->Prop:=λr=>(rs.all R.free=ai \/ r.flat=ai)/\Q r
noncomputable def aR(sp:Fn)(ts:n5):dZ:=λρ Q=>ts ρ λrs=>sp (rs.map R.d) (back rs Q)
variable {rs:List R}
noncomputable def lent(M:af->Prop)(rs:List R):af->Prop:=λa=>M a /\ ∀d,R.ow a d ∉ rs
theorem sY(fr:Fr K HZ F σ H ρ){all:List R}:∀{xs:List V} {rs:List R},(∀r∈rs,r∈all)->Paired (λx r=>eD K (MM F ρ) (Z.Ag ρ) H x r H1) xs rs->Reps K (lent (MM F ρ) all) H1 xs (rs.map R.d)
 |_,_,_,.nil=>.nil
 |_,r::_,hs,.cons a t=>by
  refine .cons ?_ (sY fr (λr hr=>hs r (by simp[hr])) t);have wk:∀a,lent (MM F ρ) all a->MM F ρ a:=λa z=>z.1;cases r with
  |v d=>exact Rep.weak wk a
  |nw d=>exact(eD.rep a (λa m=>fr.dom m) rfl).weak wk
  |ow b d=>
   obtain⟨rfl,_,o⟩:=a;exact(o.weak wk).rep λz=>z.2 d (hs _ (by simp))
theorem IK(h:rs.all R.free=ai)(a:af)(d:Dv):R.ow a d ∉ rs:=λz=>by
 have:=xc.mp h _ z;simp[R.free] at this
theorem yH{x:V}{r:R}{O:af->Dv->Prop}(fr:Fr K HZ F σ H ρ)(S1:aS H H1)(h:eD K (lent (MM F ρ) rs) CA H1 x r H')(f:rs.all R.free=ai \/ r.flat=ai):eD K (MM F ρ) O H x r H':=by
 rcases f with f | f
 ·have wk:∀a,MM F ρ a->lent (MM F ρ) rs a:=λa z=>⟨z,λd=>IK f a d⟩;cases r with
  |v d=>exact Rep.weak wk h
  |ow a d=>exact h.2.1.elim
  |nw d=>
   obtain⟨a,e,n,o⟩:=h;exact⟨a,e,S1.free n,o.weak λb z=>z.elim (λz=>.inl (wk b z)) .inr⟩
 ·cases r with
  |v d=>exact Rep.flat f h
  |ow a d=>exact h.2.1.elim
  |nw d=>
   obtain⟨a,e,n,o⟩:=h;exact⟨a,e,S1.free n,o.flat f⟩
variable {Q':R->Prop}{pl:VL Bool}
section
variable {k:Nat}{o:Expr}{to:dZ}{pos Yk:ma}
theorem wM{xs:List V}{Q:VK}(mo:MonoF sp)(fr:Fr X.K HZ F σ H ρ)(S1:aS H H1)(r1:lL X.K (MM F ρ) (Z.Ag ρ) H xs rs H1)(q:sp (rs.map R.d) (back rs Q'))
  (w:∀r,Q' r -> ∀x H',aS H H'->eD X.K (MM F ρ) (Z.Ag ρ) H x r H'->Q x H'):low X.K sp xs H1 Q E:=by
 refine⟨lent (MM F ρ) rs,_,⟨λa z=>(fr.mono S1).dom z.1,(fr.mono S1).tab⟩,sY fr (λ_ h=>h) r1,mo.mo _ _ _ (λr q x H' S rx=>?_) q⟩;exact w r q.2 x H' (S1.trans S) (yH fr S1 rx q.1)
theorem p6(w:∀r,Q r->Q' r):∀r,back rs Q r->back rs Q' r:=λr h=>⟨h.1,w r h.2⟩
theorem aV(d:Def X.prog X.w X.K X.mg X.base k x ps (low X.K sp))(mo:MonoF sp)(hr:Room k X.A)(ha:QA X (e::es) ts)(hg:autoParam (Gl X x) cH._auto_1)
  (hdb:autoParam ((x==("__debug__" : bt))=ap) pL._auto_1) (he:autoParam (bg (e::es) X.env=(ap,fi e X.env)::bg es X.env) cH._auto_1) (hpl:autoParam ((jv pos (bg es X.env)).any (·.1)=ap) cH._auto_1):
  QE X (.Call (.Name x p) (e::es) [] pos) (aR sp ts):=by
 obtain⟨f,fd,hm,hk,hb,FO⟩:=d.ex;refine⟨λρ Q Q' w q=>ha.mono _ _ _ (λrs q=>mo.mo _ _ _ (p6 w) q) q,λHZ F=>dA (Dc FO hr hg hm hk hb .nil BC (ha.run HZ F) hdb he hpl) λσ H Q zz=>?_⟩;obtain⟨ρ,fr,h⟩:=zz;refine ha.step fr h λrs xs H1 q S1 r1=>?_;rw[ii];exact wM mo fr S1 r1 q λr z=>z
noncomputable def mW(C:af)(m:bt)(sp:Fn)(to:dZ)(ts:n5):dZ:=λρ Q=>to ρ λro=>match ro.d with
 | .obj C' fs=>(C'=C/\fs.lookup m=aq)/\ts ρ λrs=>sp (ro.d::rs.map R.d) (back (ro::rs) Q)
 |_=>False
theorem RepF.lookup{K:ak}{M:af->Prop}{H:Hp}{f:bt}{xs:List (bt×V)}{ds:List (bt×Dv)}(r:RepF K M H xs ds):(ds.lookup f=aq->xs.lookup f=aq) /\ ∀d,ds.lookup f=aa d -> ∃x,xs.lookup f=aa x/\Rep K M H x d:=
 r.ind (P:=λxs ds=>(ds.lookup f=aq->xs.lookup f=aq) /\ ∀d,ds.lookup f=aa d -> ∃x,xs.lookup f=aa x/\Rep K M H x d) ⟨λ_=>rfl,λd h=>by cases h⟩ λk x d xs ds a _ ih=>by
  rw[We,We];cases h:f==k with
  |true=>
   refine⟨λz=>?_,λd' z=>?_⟩
   ·cases z
   ·cases z;exact⟨x,rfl,a⟩
  |false=>exact ih
theorem zH(c:Cls X.K C)(d:MDef X.prog X.w X.K X.mg X.base k C m ps (low X.K sp))(mo:MonoF sp)(hr:Room k X.A)(ho:QE X o to)(ha:QA X (e::es) ts)
  (hst:autoParam (bg (e::es) X.env=(ap,fi e X.env)::bg es X.env) cH._auto_1) (hpl:autoParam ((jv pos (bg es X.env)).any (·.1)=ap) cH._auto_1)
  (ht:autoParam (fi (.Call (.Attribute o m Yk) (e::es) [] pos) X.env=(do
   let ov <- fi o X.env
   ye Yk.atName
   let (f,first) <- yf [ov] (xm ov m pl)
   WH pos f first (jv pos (bg (e::es) X.env)) (xn pos (sv [] X.env)))) cH._auto_1):
  QE X (.Call (.Attribute o m Yk) (e::es) [] pos) (mW C m sp to ts):=by
 obtain⟨f,fd,hm,hb,FO⟩:=d.ex;refine⟨λρ Q Q' w q=>ho.mono _ _ _ (λro q=>?_) q,λHZ F=>dA (JD (pl:=pl) (ho.run HZ F) c hm FO hr hb .nil BC (ha.run HZ F) hst hpl ht) λσ H Q ⟨ρ,fr,h⟩=>?_⟩
 ·split at q
  ·exact⟨q.1,ha.mono _ _ _ (λrs q=>mo.mo _ _ _ (p6 w) q) q.2⟩
  ·exact q
 ·refine ho.step fr h λro x H1 q S1 r1=>?_;split at q
  ·rename_i C' fs e;obtain⟨⟨rfl,hl⟩,q⟩:=q;have cx:=r1.c;rw[e] at cx;obtain⟨a,dx,fs',rfl,ea,ra⟩:=cx.obj;refine⟨a,dx,fs',rfl,ea,ra.lookup.1 hl,ha.step (fr.mono S1) q λrs xs H2 q S2 r2=>?_⟩;rw[ii];exact wM (rs:=ro::rs) (xs:=.ref a::xs) mo fr (S1.trans S2) (.cons (r1.mono S2) (r2.ahead S1)) q λr z=>z
  ·exact q.elim
theorem uG(c:Cls X.K C)(d:MDef X.prog X.w X.K X.mg X.base k C m ps (low X.K sp))(mo:MonoF sp)(hr:Room k X.A)(ho:QE X o to)
  (ht:autoParam (fi (.Call (.Attribute o m Yk) [] [] pos) X.env=(do
   let ov <- fi o X.env
   ye Yk.atName
   let (f,first) <- yf [ov] (xm ov m pl)
   WH pos f first (jv pos (bg [] X.env)) (xn pos (sv [] X.env)))) cH._auto_1):
  QE X (.Call (.Attribute o m Yk) [] [] pos) (mW C m sp to aF):=by
 obtain⟨f,fd,hm,hb,FO⟩:=d.ex;refine⟨λρ Q Q' w q=>ho.mono _ _ _ (λro q=>?_) q,λHZ F=>dA (GV (pl:=pl) (ho.run HZ F) c hm FO hr hb .nil BC ht) λσ H Q ⟨ρ,fr,h⟩=>?_⟩
 ·split at q
  ·exact⟨q.1,mo.mo _ _ _ (p6 w) q.2⟩
  ·exact q
 ·refine ho.step fr h λro x H1 q S1 r1=>?_;split at q
  ·rename_i C' fs e;obtain⟨⟨rfl,hl⟩,q⟩:=q;have cx:=r1.c;rw[e] at cx;obtain⟨a,dx,fs',rfl,ea,ra⟩:=cx.obj;refine⟨a,dx,fs',rfl,ea,ra.lookup.1 hl,?_⟩;exact wM (rs:=[ro]) (xs:=[.ref a]) (E:=E0) mo fr S1 (.cons r1 .nil) q λr z=>z
  ·exact q.elim
noncomputable def Hy(C:af)(f:bt)(to:dZ):dZ:=λρ Q=>to ρ λro=>match ro.d with
 | .obj C' fs=>C'=C/\match fs.lookup f with
  |some d=>Q (.v d)
  |none=>False
 |_=>False
theorem Kf{f:bt}(c:Cls X.K C)(n:jC X.K C f)(ho:QE X o to)(hb:autoParam (nz o f X.env (fi o X.env)=fi o X.env) cH._auto_1):QE X (.Attribute o f pos) (Hy C f to):=by
 refine⟨λρ Q Q' w q=>ho.mono _ _ _ (λro q=>?_) q,λHZ F=>dA (Lc (ho.run HZ F) hb) λσ H Q ⟨ρ,fr,h⟩=>?_⟩
 ·split at q
  ·refine⟨q.1,?_⟩;have q2:=q.2;split at q2
   ·exact w _ q2
   ·exact q2
  ·exact q
 ·refine ho.step fr h λro x H1 q S1 r1=>?_;split at q
  ·rename_i C' fs e;obtain⟨rfl,q⟩:=q;have cx:=r1.c;rw[e] at cx;obtain⟨a,dx,fs',rfl,ea,ra⟩:=cx.obj;split at q
   ·rename_i d hd;obtain⟨z,hz,rz⟩:=ra.lookup.2 d hd;exact⟨a,_,dx,fs',z,rfl,ea,c,n,hz,q _ H1 S1 rz⟩
   ·exact q.elim
  ·exact q.elim
end
end Z
namespace L2
noncomputable def Mr(lo c:Int)(n:Nat):It:=⟨λi _=>i<n,λi H x H'=>H'=H/\x=.int (lo+i*c),λi _=>n<=i⟩
theorem An(it:af)(lo c:Int)(n:Nat):Turn P w K tg (Mr lo c n) [it] it (λi h=>su h it (lo+(i:Nat)*c) ((n:Int)-(i:Nat)) c) where
 mem:=by simp
 obj:=λi h st b hb=>by
  have e:b=it:=by simpa using hb
  subst e;exact⟨_,st,λv z=>by
   have z':XA _=Data.cell v:=z;cases z'⟩
 keep:=λi h h' st k=>k it (by simp) _ st
 item:=by
  intro X hP hw hK hc i pj s σ H E I hf st hg;subst hP hw hK;obtain⟨f0,f1,f2,f3,f4,f5⟩:=hf it (by simp);refine vZ hg st λv h' tk hv st' kk=>?_;obtain⟨t,rfl⟩:=hv;have I1:Inv X pj σ H { s with heap:=h',toks:=tk }:=I.turned (λb o hb e=>kk b o (by simpa using hb) e) f0 f1 f3 f4 f5;exact⟨_,rfl,Dt (s:={ s with heap:=h',toks:=tk }) (n:="range_iterator") st' rfl rfl (by decide) ⟨.int (lo+i*c),H,I1,⟨t,rfl⟩,⟨rfl,rfl⟩,st',λb hb=>(hf b hb).1⟩⟩
 done:=by
  intro X hP hw hK hc i pj s σ H E I hf st hg;subst hP hw hK;obtain⟨f0,f1,f2,f3,f4,f5⟩:=hf it (by simp);exact yO I.qu st (by have:n<=i:=hg;ac_rfl) λh' eb=>⟨rfl,I.turned (t':=s.toks) (λb o hb e=>eb b o hb e) f0 f1 f3 f4 f5⟩
 self:=λ_ _ _ _ _ st h=>yg st h
noncomputable def Of(ta:TA):TI:=λσ H R=>ta σ H λvs H1=>∃i j c:Int,vs=[.int i,.int j,.int c]/\c≠0/\c.natAbs<1000/\qp i j c=ai/\0<=df i j c/\R (Mr i c (df i j c).toNat) H1
theorem EZ{a b c:Expr}{ta:TA}{pos:ma}(hg:Gl X "range")(hm:X.mg "range" = aq)(ha:PA X [a,b,c] ta)(hs:autoParam (bg [a,b,c] X.env=[(ap,fi a X.env),(ap,fi b X.env),(ap,fi c X.env)]) cH._auto_1)
  (hs2:autoParam (bg [b,c] X.env=[(ap,fi b X.env),(ap,fi c X.env)]) cH._auto_1):PI X tg (.Call (.Name "range" p) [a,b,c] [] pos) (Of ta):=by
 intro pj s σ H R I h;refine Y2 (nY I hg hm Vf (gh (thn (ha pos pj s σ H _ I h) λus s1 ⟨vs,H1,I1,r1,q1⟩=>?_) (by rw[hs,hs2]) (by rw[hs2];rfl)));obtain⟨i,j,c,e,q0,qs,q1,q2,q⟩:=q1;subst e;cases r1 with
 |cons r rr=>
  cases rr with
  |cons r' rr=>
   cases rr with
   |cons r'' rr=>
    cases rr;obtain⟨t,rfl⟩:=r;obtain⟨t',rfl⟩:=r';obtain⟨t'',rfl⟩:=r'';refine call_range_3 q0 ?_ (.inl (PyProof.noPylong_small (by ac_rfl)));refine Ve (IsRange.new ..) q1 ?_;have I2:Inv X pj σ H1 { s1 with heap:=s1.heap.push { cls:=.type "range",data:=.fields #[.int i t,.int j t',.int c t''] },toks:=s1.toks }:=I1.kept λb o e=>ao _ e;refine⟨_,[_],_,_,H1,rfl,I2.kept (t':=s1.toks) λb o e=>ao _ e,An _ i c (df i j c).toNat,?_,λb hb=>?_,q⟩
    ·show su _ _ (i+((0:Nat):Int)*c) ((((df i j c).toNat:Nat):Int)-((0:Nat):Int)) c;have e1:i+((0:Nat):Int)*c=i:=by simp
     have e2:(((df i j c).toNat:Nat):Int)-((0:Nat):Int)=df i j c:=(by ac_rfl);rw[e1,e2];exact cr _ rfl
    ·have e:b=_:=dq.mp hb;subst e;exact I2.fpOk (bj _) (I2.hok.fresh (bj _))
noncomputable def tO(lo:Int)(n:Nat):List V:=(fw n).map λ(k:Nat)=>V.int (lo+(k:Int))
theorem FS:fK X (.type "range") (λxs H Q=>∃j:Int,xs=[.int j] /\ ∀p,H p=aq->Q (.ref p) (upd H p (.rng 0 j))):=by
 intro pj s σ H xs us Q I r h;obtain⟨j,rfl,q⟩:=h;obtain⟨u,rfl,ru⟩:=jQ r;obtain⟨t,rfl⟩:=ru;exact call_range_1 ⟨.ref s.heap.objs.size,_,I.laid (o:=.rng 0 j) (λb o e=>ao _ e) (bj _) ⟨_,_,_,cr _ rfl⟩,rfl,q _ (I.hok.fresh (bj _))⟩
theorem xJ(hc:X.calm=ai):fK X (.type "list") (λxs H Q=>∃p lo hi,xs=[.ref p]/\H p=aa (.rng lo hi)/\(-(2 ^ 62)<=lo/\lo<2 ^ 62 /\ -(2 ^ 62)<=hi/\hi<2 ^ 62)/\(hi-lo).toNat<=1000000 /\ ∀l,H l=aq->Q (.ref l) (upd H l (.lst (tO lo (hi-lo).toNat)))):=by
 intro pj s σ H xs us Q I r h;obtain⟨p,lo,hi,rfl,hp,⟨b1,b2,b3,b4⟩,hn,q⟩:=h;obtain⟨u,rfl,ru⟩:=jQ r;cases ru;obtain⟨t,t2,t3,e⟩:=I.hok _ _ hp;refine call_list_range (n:=(hi-lo).toNat) (I.ok.hd hc) e (small_one b1 b2 b3 b4) (by rw[rangeSize_one];split<;>ac_rfl) (by ac_rfl) λh' tk acc c' hk hS hacc=>?_;refine⟨.ref s.heap.objs.size,_,I.laid (o:=.lst (tO lo (hi-lo).toNat)) hk (bj _) ?_,rfl,q _ (I.hok.fresh (bj _))⟩;have hl:acc.size=(hi-lo).toNat:=hacc.1;refine⟨by simp only[tO,bi,Vz];rw[io];ac_rfl,acc.toList,c',?_,by simpa using hS⟩;have key:∀(n:Nat) (l:List ae),l.length=n->(∀(i:Nat) (v:ae),l[i]?=aa v -> ∃t,v=Value.int (lo+(i:Int)*1) t)->bA (tO lo n) l:=by
  intro n;induction n with
  |zero=>intro l hl _;rw[xq.mp hl];exact .nil
  |succ n ih=>
   intro l hl hi;have hne:l≠[]:=by intro z;rw[z] at hl;cases hl
   have e1:l=l.dropLast++[l.getLast hne]:=(vn hne).symm;rw[e1];unfold tO;rw[Wr,uz];have l1:l.dropLast.length=n:=by simp[hl]
   refine bA.append (ih l.dropLast l1 λi v hv=>hi i v ?_) (.cons ?_ .nil)
   ·have hlt:i<l.dropLast.length:=(bb.mp hv).1;rw[e1,bh hlt];exact hv
   ·obtain⟨t,ht⟩:=hi n (l.getLast hne) (by simp[List.getLast_eq_getElem,hl]);rw[ht,XB];exact⟨t,rfl⟩
 refine key _ _ (by simpa using hl) λi v hv=>?_;exact hacc.2 i v (by simpa using hv)
end L2
namespace Z
open L2
variable {lo:Int}{P:Hp}{σ:St}{elts:List Expr}{x1:Nat}{tp:ma}
section
variable {a b c:Expr}{ta tb:dZ}{ts:n5}{pos p2:ma}
noncomputable def iD(lo c:Int)(n:Nat):List Dv:=(fw n).map λ(k:Nat)=>Dv.int (lo+(k:Int)*c)
noncomputable def rV(ts:n5):DE:=λρ Q=>ts ρ λrs=>match rs.map R.d with
 | [.int i,.int j,.int c]=>(c≠0/\c.natAbs<1000/\qp i j c=ai/\0<=df i j c)/\Q (iD i c (df i j c).toNat) []
 |_=>False
theorem CZ{c:Int}{d:Dv}(h:(iD lo c n)[i]?=aa d):i<n/\d=.int (lo+i*c):=by
 unfold iD at h;rw[cj] at h;cases e:(fw n)[i]? with
 |none=>rw[e] at h;cases h
 |some k=>
  rw[e] at h;obtain⟨h1,h2⟩:=bb.mp e;simp at h1 h2;subst h2;exact⟨h1,(Option.some.inj h).symm⟩
theorem Be{c:Int}:xM K P M H1 (Mr lo c n) (iD lo c n) []:=by
 intro i H' M' S G _;refine⟨λd e=>?_,λh=>(show n<=i by simpa [iD] using h)⟩;obtain⟨h1,h2⟩:=CZ e;subst h2;refine⟨h1,λy H'' zz=>?_⟩;obtain⟨e1,e2⟩:=zz;subst e1 e2;exact⟨aS.refl _,.int _⟩
theorem Mf{xs:List V}{d d' d'':Dv}(h:yX K M H xs [d,d',d'']):∃x y z,xs=[x,y,z]/\eB K M H x d/\eB K M H y d'/\eB K M H z d'':=by
 cases h with
 |cons a t=>
  obtain⟨y,z,rfl,b,c⟩:=D9 t;exact⟨_,_,_,rfl,a,b,c⟩
theorem y8(hg:Gl X "range")(hm:X.mg "range" = aq)(ha:QA X [a,b,c] ts)(hs:autoParam (bg [a,b,c] X.env=[(ap,fi a X.env),(ap,fi b X.env),(ap,fi c X.env)]) cH._auto_1)
  (hs2:autoParam (bg [b,c] X.env=[(ap,fi b X.env),(ap,fi c X.env)]) cH._auto_1):QI X tg (.Call (.Name "range" p) [a,b,c] [] pos) (rV ts):=by
 refine⟨λρ Q Q' w q=>ha.mono _ _ _ (λr q=>?_) q,λHZ F=>⟨_,EZ hg hm (ha.run HZ F) hs hs2,λσ H ρ R fr q=>?_⟩⟩
 ·split at q
  ·exact⟨q.1,w _ _ q.2⟩
  ·exact q
 ·refine ha.step fr q λrs xs H1 q S1 r1=>?_;split at q
  ·rename_i i j c e;have cc:=r1.c;rw[e] at cc;obtain⟨x,y,z,rfl,cx,cy,cz⟩:=Mf cc;obtain rfl:=cx.int;obtain rfl:=cy.int;obtain rfl:=cz.int;exact⟨i,j,c,rfl,q.1.1,q.1.2.1,q.1.2.2.1,q.1.2.2.2,q.2 _ H1 S1 (by intro p hp;simp at hp) Be⟩
  ·exact q.elim
noncomputable def FJ(ts:n5):dZ:=λρ Q=>ts ρ λrs=>match rs.map R.d with
 | [.int j]=>(-(2 ^ 62)<=j/\j<2 ^ 62/\j.toNat<=1000000)/\Q (.nw (.lst (bX 0 j.toNat)))
 |_=>False
noncomputable def Ow(ts:n5):dZ:=λρ Q=>ts ρ λrs=>match rs.map R.d with
 | [.int i,.int j]=>((-(2 ^ 62)<=i/\i<2 ^ 62 /\ -(2 ^ 62)<=j/\j<2 ^ 62)/\(j-i).toNat<=1000000)/\Q (.nw (.lst (bX i (j-i).toNat)))
 |_=>False
theorem CW(lo:Int)(n:Nat):Reps K M H (tO lo n) (bX lo n):=by
 unfold tO bX;induction (fw n) with
 |nil=>exact .nil
 |cons k r ih=>exact .cons (.int _) ih
theorem mD{pos2:ma}(hc:X.calm=ai)(hg:Gl X "list")(hm:X.mg "list" = aq)(hg2:Gl X "range")(hm2:X.mg "range" = aq)(ha:QA X [a] ts)
  (h1:autoParam (bg [.Call (.Name "range" p2) [a] [] pos2] X.env=(ap,fi (.Call (.Name "range" p2) [a] [] pos2) X.env)::bg [] X.env) cH._auto_1) (h2:autoParam ((jv pos (bg [] X.env)).any (·.1)=ap) cH._auto_1)
  (h3:autoParam (bg [a] X.env=(ap,fi a X.env)::bg [] X.env) cH._auto_1) (h4:autoParam ((jv pos2 (bg [] X.env)).any (·.1)=ap) cH._auto_1):
  QE X (.Call (.Name "list" p) [.Call (.Name "range" p2) [a] [] pos2] [] pos) (FJ ts):=by
 refine⟨λρ Q Q' w q=>ha.mono _ _ _ (λr q=>?_) q,λHZ F=>dA (sS (xJ hc) hg hm va (oR (sS FS hg2 hm2 Vf (ha.run HZ F) (by decide) (by decide) h3 h4) vJ h1) (by decide) (by decide) h1 h2) λσ H Q ⟨ρ,fr,q⟩=>?_⟩
 ·split at q
  ·exact⟨q.1,w _ q.2⟩
  ·exact q
 ·refine ha.step fr q λrs xs H1 q S1 r1=>?_;split at q
  ·rename_i j e;have cc:=r1.c;rw[e] at cc;obtain⟨x,rfl,cx⟩:=eU cc;obtain rfl:=cx.int;obtain⟨⟨b1,b2,b3⟩,q⟩:=q;refine⟨j,rfl,λr hr=>⟨r,0,j,rfl,c7,⟨(by ac_rfl),(by ac_rfl),b1,b2⟩,by rw[Xm];exact b3,λl hl=>?_⟩⟩;have S2:aS H (upd (upd H1 r (.rng 0 j)) l (.lst (tO 0 (j-0).toNat))):=(S1.trans (aS.new' hr)).trans (aS.new' hl);rw[Xm] at S2 ⊢;exact q _ _ S2 (eD.ahead (jA hl (CW 0 _)) (S1.trans (aS.new' hr)))
  ·exact q.elim
noncomputable def tP(ds:List Dv):List Dv:=(ds.zipIdx).map λq=>.tup [.int (q.2:Int),q.1]
theorem FG{d:Dv}(h:(tP ds)[i]?=aa d):∃d0,ds[i]?=aa d0/\d=.tup [.int i,d0]:=by
 unfold tP at h;rw[cj,List.getElem?_zipIdx] at h;cases e:ds[i]? with
 |none=>rw[e] at h;cases h
 |some d0=>
  rw[e] at h;refine⟨d0,rfl,?_⟩;simp at h;exact h.symm
noncomputable def A6(ts:n5):DE:=λρ Q=>ts ρ λrs=>match rs with
 | [.v (.lst ds)]=>Q (tP ds) []
 | [.nw (.lst ds)]=>Q (tP ds) []
 | [.ow a (.lst ds)]=>Q (tP ds) [(a,ds)]
 |_=>False
structure Walked(K:ak)(P:Hp)(M:af->Prop)(H1:Hp)(a:af)(ds:List Dv)(ogs:List (af×List Dv)):Prop where
 at_:∀(H':Hp) (M':af->Prop),aS P H'->Gen K M M' H1 H'->(∀p∈ogs,e7 K M' H' p.1 (.lst p.2)) -> ∃xs,H' a=aa (.lst xs)/\Reps K M' H' xs ds
noncomputable def pG:R->List (af×List Dv)
 | .ow a (.lst ds)=>[(a,ds)]
 |_=>[]
theorem walked{HZ:Hp}{x:V}{r:R}(fr:Fr K HZ F σ H ρ)(S1:aS H H1)(r1:eD K (MM F ρ) (Z.Ag ρ) H x r H1)(hd:r.d=.lst ds):
  ∃a xs,x=.ref a/\H1 a=aa (.lst xs)/\guard (pG r) ρ/\Walked K (prot H1 ρ) (MM F ρ) H1 a ds (pG r):=by
 cases r with
 |v d=>
  have e:d=.lst ds:=hd;subst e;cases r1 with
  |lst e m rs=>
   refine⟨_,_,rfl,e,by intro p hp;simp[pG] at hp,⟨λH' M' S G _=>⟨_,S _ _ (by rw[cN λc=>m (.inr c)];exact e),rs.gen G⟩⟩⟩
 |nw d=>
  have e:d=.lst ds:=hd;subst e;obtain⟨a,rfl,n,xs,e,rs⟩:=r1;exact⟨_,_,rfl,e,by intro p hp;simp[pG] at hp,⟨λH' M' S G _=>⟨_,S _ _ (by rw[cN λc=>fr.fresh n (.inr c)];exact e),(rs.weak λb z=>.inl z).gen G⟩⟩⟩
 |ow a d=>
  have e:d=.lst ds:=hd;subst e;obtain⟨rfl,m,xs,e,rs⟩:=r1;refine⟨_,_,rfl,e,by intro p hp;simp[pG] at hp;subst hp;exact m,⟨λH' M' S G ow=>?_⟩⟩;exact ow (a,ds) (by simp[pG])
theorem F8{a:af}{ogs:List (af×List Dv)}(w:Walked K P M H1 a ds ogs):xM K P M H1 (Qi K a) (tP ds) ogs:=by
 intro i H' M' S G ow;obtain⟨xs,h',r⟩:=w.at_ H' M' S G ow;refine⟨λd e=>?_,λh=>⟨xs,fU.of h',by rw[r.length];simpa [tP] using h⟩⟩;obtain⟨d0,e0,rfl⟩:=FG e;obtain⟨x,hx,rx⟩:=r.get e0;refine⟨⟨xs,x,fU.of h',hx⟩,λy H'' zz=>?_⟩;obtain⟨T,z,hT,e1,e2,hz⟩:=zz;subst e1 e2;have:=hz xs (fU.of h');rw[hx] at this;cases this;exact⟨aS.new' hT,.tup c7 (.cons (.int _) (.cons (rx.mono (aS.new' hT)) .nil))⟩
theorem Iw(hg:Gl X "enumerate")(hm:X.mg "enumerate" = aq)(ha:QA X [a] ts)(hs:autoParam (bg [a] X.env=[(ap,fi a X.env)]) cH._auto_1):QI X (.Tuple elts x1 tp) (.Call (.Name "enumerate" p) [a] [] pos) (A6 ts):=by
 refine⟨λρ Q Q' w q=>ha.mono _ _ _ (λr q=>?_) q,λHZ F=>⟨_,JC hg hm (ha.run HZ F) hs,λσ H ρ R fr q=>?_⟩⟩
 ·split at q<;>first | exact w _ _ q | exact q
 ·refine ha.step fr q λrs xs H1 q S1 r1=>?_;have one:∀{r:Z.R} {ds:List Dv},rs=[r]->r.d=.lst ds->(∀J H1',aS H H1'->guard (pG r) ρ->xM X.K (prot H1' ρ) (MM F ρ) H1' J (tP ds) (pG r)->R J H1') -> ∃a,xs=[V.ref a]/\(∃xs,fU X.K H1 a xs)/\R (Qi X.K a) H1:=by
   intro r ds e hd k;subst e;cases r1 with
   |cons a1 t1=>
    cases t1;obtain⟨a,ys,rfl,ea,gd,wk⟩:=walked fr S1 a1 hd;exact⟨a,rfl,⟨ys,fU.of ea⟩,k _ H1 S1 gd (F8 wk)⟩
  split at q
  ·exact one rfl rfl q
  ·exact one rfl rfl q
  ·exact one rfl rfl q
  ·exact q.elim
noncomputable def Ai(xs ys:List Dv):List Dv:=VA (λx y=>.tup [x,y]) xs ys
noncomputable def Bh(ts:n5):DE:=λρ Q=>ts ρ λrs=>match rs with
 | [r,r']=>match r.d,r'.d with
  | .lst xs,.lst ys=>Q (Ai xs ys) (pG r++pG r')
  |_,_=>False
 |_=>False
theorem HY{a b:af}{es:List Dv}{o1 o2:List (af×List Dv)}(w1:Walked K P M H1 a ds o1)(w2:Walked K P M H1 b es o2):xM K P M H1 (TH a b) (Ai ds es) (o1++o2):=by
 intro i H' M' S G ow;obtain⟨xs,h1,r1⟩:=w1.at_ H' M' S G λp hp=>ow p (fh _ hp);obtain⟨ys,h2,r2⟩:=w2.at_ H' M' S G λp hp=>ow p (dr _ hp);refine⟨λd e=>?_,λh=>⟨xs,ys,h1,h2,?_⟩⟩
 ·unfold Ai at e;rw[List.getElem?_zipWith] at e;cases e1:ds[i]? with
  |none=>rw[e1] at e;cases e
  |some d1=>
   cases e2:es[i]? with
   |none=>rw[e1,e2] at e;cases e
   |some d2=>
    rw[e1,e2] at e;cases e;obtain⟨x,hx,rx⟩:=r1.get e1;obtain⟨y,hy,ry⟩:=r2.get e2;refine⟨⟨xs,ys,x,y,h1,h2,hx,hy⟩,λz H'' zz=>?_⟩;obtain⟨T,z1,z2,hT,e3,e4,k1,k2⟩:=zz;subst e3 e4;have q1:=k1 xs h1;have q2:=k2 ys h2;rw[hx] at q1;rw[hy] at q2;cases q1;cases q2;exact⟨aS.new' hT,.tup c7 (.cons (rx.mono (aS.new' hT)) (.cons (ry.mono (aS.new' hT)) .nil))⟩
 ·rw[r1.length,r2.length];simp only[Ai,List.length_zipWith] at h;ac_rfl
theorem LK(hg:Gl X "zip")(hm:X.mg "zip" = aq)(ha:QA X [a,b] ts)(hs:autoParam (bg [a,b] X.env=[(ap,fi a X.env),(ap,fi b X.env)]) cH._auto_1)(hs2:autoParam (bg [b] X.env=[(ap,fi b X.env)]) cH._auto_1):
  QI X (.Tuple elts x1 tp) (.Call (.Name "zip" p) [a,b] [] pos) (Bh ts):=by
 refine⟨λρ Q Q' w q=>ha.mono _ _ _ (λr q=>?_) q,λHZ F=>⟨_,LR hg hm (ha.run HZ F) hs hs2,λσ H ρ R fr q=>?_⟩⟩
 ·split at q
  ·split at q
   ·exact w _ _ q
   ·exact q
  ·exact q
 ·refine ha.step fr q λrs xs H1 q S1 r1=>?_;split at q
  ·rename_i r r';split at q
   ·rename_i ds es h1 h2;cases r1 with
    |cons a1 t1=>
     cases t1 with
     |cons a2 t2=>
      cases t2;obtain⟨a,ys,rfl,ea,gd,wk⟩:=walked fr S1 a1 h1;obtain⟨b,zs,rfl,eb,gd2,wk2⟩:=walked fr S1 a2 h2;refine⟨a,b,rfl,⟨ys,ea⟩,⟨zs,eb⟩,q _ H1 S1 (λp hp=>?_) (HY wk wk2)⟩;rcases dv.mp hp with h | h
      ·exact gd p h
      ·exact gd2 p h
   ·exact q.elim
  ·exact q.elim
end
noncomputable def eV(env:zl):List (bt×vf)->List (bt×af)->List (bt×af)
 | [],acc=>acc
 | (n,k)::r,acc=>if (k == .free)=ai then (match env.cells.lookup n with | some c=>eV env r ((n,c)::acc) | none=>eV env r acc) else eV env r acc
variable {env:zl}
theorem pK(h:(Y5.names.all λy=>!(y.2 == .free) || (env.cells.lookup y.1).isSome)=ai):ux Y5 env=jm (eV env Y5.names []):=by
 unfold ux;have key:∀(l:List (bt×vf)) (acc:List (bt×af)),(l.all λy=>!(y.2 == .free) || (env.cells.lookup y.1).isSome)=ai ->
   (forIn (m:=VL) l acc λx r=>(match x with | (name,kind)=>if (kind==NameKind.free)=ai then (do let c <- cellOf env name;jm (pz ((name,c)::r))) else jm (pz r)))=jm (eV env l acc):=by
  intro l;induction l with
  |nil=>intro acc _;rfl
  |cons y r ih=>
   intro acc hl;obtain⟨n,k⟩:=y;rw[XI,eg] at hl;rw[Wm];unfold eV;by_cases hk:(k==NameKind.free)=ai
   ·rw[Y4 hk];have h1:(env.cells.lookup n).isSome=ai:=by
     have:=hl.1;simpa [hk] using this
    obtain⟨c,hc⟩:=xa.mp h1;have e:cellOf env n=jm c:=by unfold cellOf;rw[hc]
    simp only[hk,if_true,e,hc];exact ih _ hl.2
   ·rw[XF hk];simp only[hk];exact ih _ hl.2
 dsimp only;have h2:=key Y5.names [] h;refine Eq.trans (congrArg (λt:VL (List (bt×af))=>t >>= λr=>jm r) h2) ?_;rfl
theorem lI{env:zl}:∀(l:List (bt×vf)) (acc:List (bt×af)),(∀q∈acc,env.cells.lookup q.1=aa q.2) -> ∀q∈eV env l acc,env.cells.lookup q.1=aa q.2
 | [],acc,h,q,hq=>h q hq
 | (n,k)::r,acc,h,q,hq=>by
  unfold eV at hq;split at hq
  ·split at hq
   ·rename_i c hc;refine lI r _ (λq' hq'=>?_) q hq;rcases bq.mp hq' with e | e
    ·rw[e];exact hc
    ·exact h q' e
   ·exact lI r acc h q hq
  ·exact lI r acc h q hq
theorem mS{env:zl}:∀(l:List (bt×vf)) (acc:List (bt×af)),∀q∈acc,q∈eV env l acc
 | [],acc,q,hq=>hq
 | (n,k)::r,acc,q,hq=>by
  unfold eV;split
  ·split
   ·exact mS r _ q (bm _ hq)
   ·exact mS r acc q hq
  ·exact mS r acc q hq
theorem jY{env:zl}{x:bt}:∀(l:List (bt×vf)) (acc:List (bt×af)),(l.all λy=>!(y.2 == .free) || (env.cells.lookup y.1).isSome)=ai->(x,NameKind.free)∈l -> ∃c,(x,c)∈eV env l acc
 | [],_,_,h=>by simp at h
 | (n,k)::r,acc,hl,h=>by
  rw[XI,eg] at hl;unfold eV;rcases bq.mp h with e | e
  ·cases e;rw[Y4 (by rfl)];have h1:(env.cells.lookup x).isSome=ai:=by simpa using hl.1
   obtain⟨c,hc⟩:=xa.mp h1;rw[hc];exact⟨c,mS r _ _ (by simp)⟩
  ·split
   ·split
    ·exact jY r _ hl.2 e
    ·exact jY r _ hl.2 e
   ·exact jY r _ hl.2 e
theorem kW{α:Type}{x:bt}{c:α}:∀{l:List (bt×α)},(x,c)∈l -> ∃c',l.lookup x=aa c'
 | (n,d)::r,h=>by
  rw[We];cases e:x==n with
  |true=>exact⟨d,rfl⟩
  |false=>
   rcases bq.mp h with z | z
   ·cases z;simp at e
   ·exact kW z
theorem rL(Yc:∀y∈Y5.names,y.2 ≠ .cell)(h:(gw Y5 env).names.lookup x=aa .cell \/ (gw Y5 env).names.lookup x=aa .free):(x,NameKind.free)∈Y5.names:=by
 have:(x,NameKind.cell)∈(gw Y5 env).names \/ (x,NameKind.free)∈(gw Y5 env).names:=h.imp gf gf;rcases this with h | h
 ·obtain⟨⟨n,k⟩,hm,e⟩:=fx.mp h;dsimp only at e;split at e
  ·rename_i hc;rw[eg,eg,beq_iff_eq] at hc;cases e;rw[hc.1.1] at hm;exact hm
  ·cases e;exact absurd rfl (Yc _ hm)
 ·obtain⟨⟨n,k⟩,hm,e⟩:=fx.mp h;dsimp only at e;split at e
  ·cases e
  ·cases e;exact hm
section
variable {pos:ma}
theorem B8{elt Yb tgt:Expr}(tgs ns:List bt)(js:List Nat){k:Nat}{ti:DE}{g:Ad}{tt:lN}(hc:X.N=X.N)(hi:QI X tgt Yb ti)
  (hg:∀(fp:List af) (s:aj) (H:Hp),QG (qN X Y5 (eV X.env Y5.names []) fp (tgs++ns) s H) tgt k g) (ht:∀(fp:List af) (s:aj) (H:Hp),QTs (qN X Y5 (eV X.env Y5.names []) fp (tgs++ns) s H) ifs tt)
  (he:∀(fp:List af) (s:aj) (H:Hp),QE (qN X Y5 (eV X.env Y5.names []) fp (tgs++ns) s H) elt te) (hk:autoParam (tgs.length=k) cH._auto_1)
  (hall:autoParam ((Y5.names.all λy=>!(y.2 == .free) || (X.env.cells.lookup y.1).isSome)=ai) cH._auto_1) (hjs:autoParam (js.map (λj=>X.N[j]?)=ns.map aa) cH._auto_1)
  (hin:autoParam ((ns.all λy=>(gw Y5 X.env).names.lookup y==aa .cell || (gw Y5 X.env).names.lookup y==aa .free)=ai) cH._auto_1) (Ys:autoParam ((ns.all λy=>X.env.kindOf y==aa .cell || X.env.kindOf y==aa .free)=ai) cH._auto_1)
  (nd:autoParam (js.Nodup) pL._auto_1) (Yc:autoParam (∀y∈Y5.names,y.2 ≠ .cell) DI._auto_1) (Yg:autoParam (Y5.kind=.function) cH._auto_1)
  (Yd:autoParam (∀y∈Y5.names,y.2=.local->Y5.names.lookup y.1=aa .local) DI._auto_1) (hs:autoParam (∀z,im Yb X.env z=jm z) FW._auto_1):
  QE X (.ListComp elt [⟨tgt,Yb,ifs,0⟩] Y5 pos) (gM k js ti g tt te):=by
 refine LL hc hk hi hg ht he (pK hall) (λx c e=>lI Y5.names [] (by simp) (x,c) (gf e)) (λx h=>?_) hjs (λy hy=>?_) (λy hy=>?_) nd Yc Yg Yd hs
 ·obtain⟨c,hc⟩:=jY Y5.names [] hall (rL Yc h);exact kW hc
 ·have:=xc.mp hin y hy;simpa using this
 ·have:=xc.mp Ys y hy;simpa using this
end
open Classical in
noncomputable def pB(h:dm)(db:Xk)(u:ae):Bool:=if q:∃d as,Xa h u d as then gr (choose q) db else ap
theorem Du{db d:Xk}{as:List af}(ok:d.canLay0=ai)(r:Xa h u d as):pB h db u=gr d db:=by
 unfold pB;have q:∃d as,Xa h u d as:=⟨d,as,r⟩;rw[dif_pos q];obtain⟨as',r'⟩:=Classical.choose_spec q;rw[XV d _ u as as' ok r r']
theorem oI(I:Inv X pj σ H s){db:Xk}{dx:Dv}(hb:db=fY dx):∀{xs:List V} {ds:List Dv} {us:List ae},Reps X.K M H xs ds->okDs 8 ds=ai->bA xs us->us.any (pB s.heap db)=ds.any λd=>eqD d dx
 |_,_,_,.nil,_,r=>by cases r;rfl
 |_,_,_,.cons a q,ok,r=>by
  have ok':(dL 8 _&&okDs 8 _)=ai:=ok;rw[eg] at ok';cases r with
  |cons r1 r2=>
   obtain⟨as,ra⟩:=Rep.reads I a ok'.1 r1;rw[rj,rj,oI I hb q ok'.2 r2,Du (mG 8 _ ok'.1).1 ra,hb];rfl
theorem nX(I:Inv X pj σ H s){A:de}{v:ae}{dx:Dv}{bs:List af}(rb:Xa s.heap v (fY dx) bs)(ob:dL 8 dx=ai)(hu:A.units+64<mw):∀{xs:List V} {ds:List Dv} {us:List ae},Reps X.K M H xs ds->okDs 8 ds=ai->bA xs us -> ∀u∈us,WS A s u v (pB s.heap (fY dx) u)
 |_,_,_,.nil,_,r,u,hm=>by cases r;simp at hm
 |_,_,_,.cons a q,ok,r,u,hm=>by
  have ok':(dL 8 _&&okDs 8 _)=ai:=ok;rw[eg] at ok';cases r with
  |cons r1 r2=>
   rcases bq.mp hm with e | hm
   ·subst e;obtain⟨as,ra⟩:=Rep.reads I a ok'.1 r1;obtain⟨l1,l2⟩:=mG 8 _ ok'.1;obtain⟨m1,m2⟩:=mG 8 _ ob;rw[Du l1 ra];exact VW _ _ A s u v as bs ra rb l1 m1 (by ac_rfl)
   ·exact nX I rb ob hu q ok'.2 r2 u hm
noncomputable def Nm(K:ak)(neg:Bool):R2:=λx y H Q=>∃M dx ds p xs,eB K M H x dx/\y=.ref p/\(fU K H p xs \/ l6 K H p xs)/\Reps K M H xs ds/\dL 8 dx=ai/\okDs 8 ds=ai /\
 Q (.bl (if neg then !(ds.any λd=>eqD d dx) else ds.any λd=>eqD d dx)) H
theorem oV(h:A.units+65<mw):A.in1.units+64<mw:=by
 have:A.in1.units<=A.units+1:=by unfold Around.in1;simp[Around.units]
 ac_rfl
theorem Ln(hu:X.A.units+65<mw):lM X (dt .In) (Nm X.K ap):=by
 intro pj s σ H x y v u Q I rx ry h;obtain⟨M,dx,ds,p,xs,cx,rfl,hq,rs,o1,o2,q⟩:=h;cases ry;obtain⟨bs,rb⟩:=cx.reads I o1 rx;rcases hq with hq | hq
 ·obtain⟨its,r,pl,hz⟩:=I.list hq;refine SeqAt.in_listAt (pB s.heap (fY dx)) pl.isList (λw hw=>nX I rb o1 (oV hu) rs o2 r w (by simpa using hw)) ⟨.bl _,H,I,rfl,?_⟩;rw[show its.toArray.any (pB s.heap (fY dx))=its.any (pB s.heap (fY dx)) by simp,oI I rfl rs o2 r];exact q
 ·obtain⟨its,r,pl,hz⟩:=I.tuple hq;refine SeqAt.in_tupleAt (pB s.heap (fY dx)) pl (λw hw=>nX I rb o1 (oV hu) rs o2 r w (by simpa using hw)) ⟨.bl _,H,I,rfl,?_⟩;rw[show its.toArray.any (pB s.heap (fY dx))=its.any (pB s.heap (fY dx)) by simp,oI I rfl rs o2 r];exact q
theorem Em(hu:X.A.units+65<mw):lM X (dt .NotIn) (Nm X.K ai):=by
 intro pj s σ H x y v u Q I rx ry h;obtain⟨M,dx,ds,p,xs,cx,rfl,hq,rs,o1,o2,q⟩:=h;cases ry;obtain⟨bs,rb⟩:=cx.reads I o1 rx;rcases hq with hq | hq
 ·obtain⟨its,r,pl,hz⟩:=I.list hq;refine SeqAt.notIn_listAt (pB s.heap (fY dx)) pl.isList (λw hw=>nX I rb o1 (oV hu) rs o2 r w (by simpa using hw)) ⟨.bl _,H,I,rfl,?_⟩;rw[show its.toArray.any (pB s.heap (fY dx))=its.any (pB s.heap (fY dx)) by simp,oI I rfl rs o2 r];exact q
 ·obtain⟨its,r,pl,hz⟩:=I.tuple hq;refine SeqAt.notIn_tupleAt (pB s.heap (fY dx)) pl (λw hw=>nX I rb o1 (oV hu) rs o2 r w (by simpa using hw)) ⟨.bl _,H,I,rfl,?_⟩;rw[show its.toArray.any (pB s.heap (fY dx))=its.any (pB s.heap (fY dx)) by simp,oI I rfl rs o2 r];exact q
end Z
variable {sp:Z.Fn}
namespace Z
open L2
theorem u9{k:Nat}(r:Room k A):A.units+65<mw:=by have:=r.un;ac_rfl
noncomputable def O7:Dv->Dv->(R->Prop)->Prop
 | .int i,.int j,Q=>j≠0/\Q (.v (.int (i.fmod j)))
 |_,_,_=>False
noncomputable def isB(b:Bool):Dv->Bool
 | .bl c=>c==b
 |_=>ap
noncomputable def Rp:Dv->Dv->(R->Prop)->Prop
 |d,.bl b,Q=>Q (.v (.bl (isB b d)))
 |_,_,_=>False
noncomputable def O5:Dv->Dv->(R->Prop)->Prop
 |d,.bl b,Q=>Q (.v (.bl (!isB b d)))
 |_,_,_=>False
noncomputable def Ka(i:Nat)(tk tv:dZ):c6:=λE ρ=>match ρ[i]? with
 |some (.own a (.lst xs))=>tv ρ λr=>tk ρ λk=>match k.d with
  | .int n=>match uK xs.length n with
   |some j=>r.free=ai/\E.nx (ρ.set i (.own a (.lst (xs.set j r.d))))
   |none=>False
  |_=>False
 |_=>False
noncomputable def inD(d:Dv)(ds:List Dv):Bool:=ds.any λe=>eqD e d
noncomputable def JK:Dv->Dv->(R->Prop)->Prop
 |d,.lst ds,Q=>(dL 8 d=ai/\okDs 8 ds=ai)/\Q (.v (.bl (inD d ds)))
 |d,.tup ds,Q=>(dL 8 d=ai/\okDs 8 ds=ai)/\Q (.v (.bl (inD d ds)))
 |_,_,_=>False
noncomputable def fE:Dv->Dv->(R->Prop)->Prop
 |d,.lst ds,Q=>(dL 8 d=ai/\okDs 8 ds=ai)/\Q (.v (.bl (!inD d ds)))
 |d,.tup ds,Q=>(dL 8 d=ai/\okDs 8 ds=ai)/\Q (.v (.bl (!inD d ds)))
 |_,_,_=>False
theorem Cj(hu:X.A.units+65<mw)(_hu1:X.A.units+1<mw):xL X (dt .In) JK:=by
 refine⟨λdx dy Q Q' w h=>?_,_,Ln hu,λM O H x y dx dy Q cx cy h=>?_⟩
 ·unfold JK at h;split at h
  ·exact⟨h.1,w _ h.2⟩
  ·exact⟨h.1,w _ h.2⟩
  ·exact h.elim
 ·unfold JK at h;split at h
  ·obtain⟨a,xs,rfl,ea,ra⟩:=cy.lst;exact⟨M,_,_,a,xs,cx,rfl,.inl (fU.of ea),ra,h.1.1,h.1.2,h.2 _ H (aS.refl _) (Rep.bl _)⟩
  ·obtain⟨a,xs,rfl,ea,ra⟩:=cy.tup;exact⟨M,_,_,a,xs,cx,rfl,.inr (l6.of ea),ra,h.1.1,h.1.2,h.2 _ H (aS.refl _) (Rep.bl _)⟩
  ·exact h.elim
theorem oT(hu:X.A.units+65<mw)(_hu1:X.A.units+1<mw):xL X (dt .NotIn) fE:=by
 refine⟨λdx dy Q Q' w h=>?_,_,Em hu,λM O H x y dx dy Q cx cy h=>?_⟩
 ·unfold fE at h;split at h
  ·exact⟨h.1,w _ h.2⟩
  ·exact⟨h.1,w _ h.2⟩
  ·exact h.elim
 ·unfold fE at h;split at h
  ·obtain⟨a,xs,rfl,ea,ra⟩:=cy.lst;exact⟨M,_,_,a,xs,cx,rfl,.inl (fU.of ea),ra,h.1.1,h.1.2,h.2 _ H (aS.refl _) (Rep.bl _)⟩
  ·obtain⟨a,xs,rfl,ea,ra⟩:=cy.tup;exact⟨M,_,_,a,xs,cx,rfl,.inr (l6.of ea),ra,h.1.1,h.1.2,h.2 _ H (aS.refl _) (Rep.bl _)⟩
  ·exact h.elim
structure QX(X:Cx)(st:kx)(i:Nat)(te:dZ):Prop where
 mono:∀(ρ:List Sl) (Q Q':R->Prop),(∀r,Q r->Q' r)->te ρ Q->te ρ Q'
 run:∀(HZ:Hp) (F:af->Prop),PS X st (Ii (lift X.K HZ F te) (Bj i))
variable {HZ:Hp}{σ:St}{st:kx}
section
variable {pos:ma}
theorem QX.step{Q':VK}(h:QX X st i te)(fr:Fr X.K HZ F σ H ρ)(q:te ρ Q)
  (k:∀r x H',Q r->aS H H'->eD X.K (MM F ρ) (Ag ρ) H x r H'->Q' x H'):lift X.K HZ F te σ H Q':=⟨ρ,fr,h.mono _ _ _ (λr qr x H' S rx=>k r x H' qr S rx) q⟩
theorem GD(he:QX X st i te):QS X st (bD i te):=by
 refine⟨λE E' ρ w h=>he.mono _ _ _ (λr q=>?_) h,λHZ F=>eQ (he.run HZ F) λD σ H ⟨ρ,E,fr,h,en⟩=>?_⟩
 ·cases r with
  |v d=>exact w.nx _ q
  |nw d=>exact w.nx _ q
  |ow a d=>exact q
 ·refine he.step fr h λr x H1 q S1 r1=>?_;cases r with
  |v d=>exact en.nx _ _ _ ((fr.mono S1).setv r1) q
  |nw d=>exact en.nx _ _ _ ((fr.mono S1).setv (r1.rep (λa m=>fr.dom m) rfl)) q
  |ow a d=>exact q.elim
end
variable {y:bt}{py spos:ma}{iy:Nat}{elt Yb tgt:Expr}{ti:DE}
section
variable {pos:ma}
theorem Ix{cl:List (bt×af)}{tgs ns:List bt}{js:List Nat}{k:Nat}{g:Ad}{tt:lN}(hN:X.N.Nodup)(hi2:X.N[iy]?=aa y)(hx2:IV X.env.scope y)(hc:X.N=X.N)(hk:tgs.length=k)
  (hi:QI X tgt Yb ti) (hg:∀(fp:List af) (s:aj) (H:Hp),QG (qN X Y5 cl fp (tgs++ns) s H) tgt k g) (ht:∀(fp:List af) (s:aj) (H:Hp),QTs (qN X Y5 cl fp (tgs++ns) s H) ifs tt)
  (he:∀(fp:List af) (s:aj) (H:Hp),QE (qN X Y5 cl fp (tgs++ns) s H) elt te)
  (Yr:ux Y5 X.env=jm cl) (Ym:∀x c,cl.lookup x=aa c->X.env.cells.lookup x=aa c)
  (Yx:∀x,((gw Y5 X.env).names.lookup x=aa .cell \/ (gw Y5 X.env).names.lookup x=aa .free) -> ∃c,cl.lookup x=aa c)
  (hjs:js.map (λj=>X.N[j]?)=ns.map aa) (hin:∀y∈ns,(gw Y5 X.env).names.lookup y=aa .cell \/ (gw Y5 X.env).names.lookup y=aa .free)
  (Ys:∀y∈ns,X.env.kindOf y=aa .cell \/ X.env.kindOf y=aa .free) (nd:js.Nodup)
  (Yc:autoParam (∀y∈Y5.names,y.2 ≠ .cell) DI._auto_1) (Yg:autoParam (Y5.kind=.function) cH._auto_1)
  (Yd:autoParam (∀y∈Y5.names,y.2=.local->Y5.names.lookup y.1=aa .local) DI._auto_1)
  (hs:autoParam (∀z,im Yb X.env z=jm z) FW._auto_1)
  (hsw:autoParam (kh (.ListComp elt [⟨tgt,Yb,ifs,0⟩] Y5 pos) (aa (.Name y py)) spos.line X.env=jm ai) cH._auto_1) (hf:autoParam (X.fn y=ai \/ X.env.scope.names.lookup y=aa .local) IT._auto_1):
  QX X (.Assign [.Name y py] (.ListComp elt [⟨tgt,Yb,ifs,0⟩] Y5 pos) spos) iy (gM k js ti g tt te):=by
 have mg:=(hg [] X.s₀ λ_=>aq).mono;have ag:=(hg [] X.s₀ λ_=>aq).agree;have mt:=(ht [] X.s₀ λ_=>aq).mono;have me:=(he [] X.s₀ λ_=>aq).mono;refine⟨λρ Q Q' w h=>hi.mono _ _ _ (λds ogs h=>kN mg mt me ds [] Q Q' w h) h,λHZ F=>?_⟩;obtain⟨wi,hwi,wiq⟩:=hi.run HZ F
 suffices key:∀σ H Q,lift X.K HZ F (gM k js ti g tt te) σ H Q->zA wi tgs.length js (liftG X.K k g) (λσ H Q=>∃HZ F,liftT X.K HZ F tt σ H Q) (λσ H Q=>∃HZ F,lift X.K HZ F te σ H Q) σ H Q from
  eQ (GR (tgs:=tgs) (ns:=ns) (js:=js) (g:=liftG X.K k g) (tt:=λσ H Q=>∃HZ F,liftT X.K HZ F tt σ H Q) (te:=λσ H Q=>∃HZ F,lift X.K HZ F te σ H Q) hN hi2 hx2 hc hwi (λfp s H=>(hg fp s H).pg) (λfp s H=>(ht fp s H).pt) (λfp s H=>(he fp s H).pe) Yr Ym Yx hjs hin Ys Yc Yg Yd hs hsw hf) λD σ H h=>key σ H _ h
 intro σ H Q ⟨ρ,fr,h⟩;subst hk;refine wiq σ H ρ _ fr (hi.mono _ _ _ (λds ogs q J H1 S1 gd ok=>?_) h);intro D hD;have fr1:=fr.mono S1;refine⟨λi m acc H2=>m=ds.length-i/\i<=ds.length/\aS H1 H2 /\ ∃accD,Reps X.K (λa=>MM F ρ a \/ a=D) H2 acc accD /\
  d8 (au tgs.length .un++eS js ρ) g tt te (ds.drop i) accD (λr=>∀x H',aS H H'->eD X.K (MM F ρ) (Ag ρ) H x r H'->Q x H'),
  ⟨ds.length,by simp,lc _,aS.new' hD,[],.nil,by simpa using q⟩,?_⟩
 rintro i m acc H2 ⟨rfl,hil,S2,accD,ra,q⟩ hDl;have G2:Gen X.K (MM F ρ) (λa=>MM F ρ a \/ a=D) H1 H2:=(Gen.fresh hD).trans (.mono S2);have oks:=ok i H2 (λa=>MM F ρ a \/ a=D) (λb o e=>S2 _ _ (oP e)) G2 λp hp=>by
  obtain⟨_,_,_,ow⟩:=fr1.at_own (gd p hp);exact ow.gen G2 λo e=>S2 _ _ e
 by_cases hlt:i<ds.length
 ·have hd:ds[i]?=aa ds[i]:=by simp[hlt]
  rw[fc hlt] at q;obtain⟨go,yld⟩:=oks.1 _ hd;refine .inr ⟨go,λy H3 hy old lo=>?_⟩;obtain⟨S3,ry⟩:=yld y H3 hy;have hD3:=S3 _ _ hDl;obtain⟨P,F',fr',iff,iffF⟩:=fr1.block (js:=js) (old:=old) (S2.trans S3) hD (by rw[hD3];simp) nd lo;refine⟨_,P,F',_,fr',ry.weak λa z=>(iff a).mp z,mg _ _ _ _ (λρ1 q1 σ1 f1 a1=>?_) (ag _ _ _ q)⟩;obtain⟨q1,l1,b1⟩:=q1;have up:∀a,MM F ρ a \/ a=D->MM F' ρ1 a:=λa z=>by
   rcases(iff a).mpr z with z | ⟨d,z⟩
   ·exact .inl z
   ·refine .inr ⟨d,?_⟩;obtain⟨j,e⟩:=ot.mp z;have hj:tgs.length<=j:=by
     by_cases hj:j<tgs.length
     ·rw[bh (by simpa using hj),jf,Y4 hj] at e;cases e
     ·ac_rfl
    rw[<- b1 j hj] at e;exact cq e
  have hlen:σ1.length=tgs.length+(pick js σ).length:=by
   have:=f1.len;rw[l1] at this;simp[pick,eS] at this ⊢;ac_rfl
  refine⟨⟨σ1.take tgs.length,by rw[dj];ac_rfl,As lo hlen a1⟩,P,F',ρ1,f1,mt _ _ _ (λb q5 H5 S5=>?_) q1⟩;have S25:=(S2.trans S3).trans S5;cases b with
  |true=>
   simp only[if_true] at q5;refine mZ ⟨P,F',ρ1,f1.mono S5,me _ _ _ (λr q6 x H6 S6 rx=>?_) q5⟩;have hD6:=S6 _ _ (S5 _ _ hD3);obtain⟨⟨rf,rl⟩,q6⟩:=q6;have rep:=(rx.rep (λa z=>(f1.mono S5).dom z) rf).weak up;refine⟨hD6,by rw[ra.length];exact zY rl,ds.length-(i+1),(by ac_rfl),rfl,hlt,λb o e=>?_,_,?_,q6⟩
   ·rw[bF (bC e hD)];exact S6 _ _ (S25 _ _ e)
   ·have G6:Gen X.K (λa=>MM F ρ a \/ a=D) (λa=>MM F ρ a \/ a=D) H6 (upd H6 D (.lst (acc++[x]))):=Gen.write (.inr rfl) (by rw[hD6];trivial);exact((ra.mono ((S3.trans S5).trans S6)).append (.cons rep .nil)).gen G6
  |false=>
   simp only[fe,if_false] at q5;exact pA ⟨S5 _ _ hD3,ds.length-(i+1),(by ac_rfl),rfl,hlt,S25,accD,ra.mono (S3.trans S5),q5⟩
 ·have e:i=ds.length:=(by ac_rfl);subst e;rw[vh] at q;exact .inl ⟨oks.2 (bj _),q (.ref D) H2 (S1.trans S2) ⟨D,rfl,S1.free hD,acc,hDl,ra⟩⟩
theorem Ke(tgs ns:List bt)(js:List Nat){k:Nat}{g:Ad}{tt:lN}(hN:X.N.Nodup)(hi2:X.N[iy]?=aa y)(hx2:IV X.env.scope y)(hc:X.N=X.N)(hi:QI X tgt Yb ti)
  (hg:∀(fp:List af) (s:aj) (H:Hp),QG (qN X Y5 (eV X.env Y5.names []) fp (tgs++ns) s H) tgt k g) (ht:∀(fp:List af) (s:aj) (H:Hp),QTs (qN X Y5 (eV X.env Y5.names []) fp (tgs++ns) s H) ifs tt)
  (he:∀(fp:List af) (s:aj) (H:Hp),QE (qN X Y5 (eV X.env Y5.names []) fp (tgs++ns) s H) elt te) (hk:autoParam (tgs.length=k) cH._auto_1)
  (hall:autoParam ((Y5.names.all λy=>!(y.2 == .free) || (X.env.cells.lookup y.1).isSome)=ai) cH._auto_1) (hjs:autoParam (js.map (λj=>X.N[j]?)=ns.map aa) cH._auto_1)
  (hin:autoParam ((ns.all λy=>(gw Y5 X.env).names.lookup y==aa .cell || (gw Y5 X.env).names.lookup y==aa .free)=ai) cH._auto_1) (Ys:autoParam ((ns.all λy=>X.env.kindOf y==aa .cell || X.env.kindOf y==aa .free)=ai) cH._auto_1)
  (nd:autoParam (js.Nodup) pL._auto_1) (Yc:autoParam (∀y∈Y5.names,y.2 ≠ .cell) DI._auto_1) (Yg:autoParam (Y5.kind=.function) cH._auto_1)
  (Yd:autoParam (∀y∈Y5.names,y.2=.local->Y5.names.lookup y.1=aa .local) DI._auto_1) (hs:autoParam (∀z,im Yb X.env z=jm z) FW._auto_1)
  (hsw:autoParam (kh (.ListComp elt [⟨tgt,Yb,ifs,0⟩] Y5 pos) (aa (.Name y py)) spos.line X.env=jm ai) cH._auto_1) (hf:autoParam (X.fn y=ai \/ X.env.scope.names.lookup y=aa .local) IT._auto_1):
  QX X (.Assign [.Name y py] (.ListComp elt [⟨tgt,Yb,ifs,0⟩] Y5 pos) spos) iy (gM k js ti g tt te):=by
 refine Ix hN hi2 hx2 hc hk hi hg ht he (pK hall) (λx c e=>lI Y5.names [] (by simp) (x,c) (gf e)) (λx h=>?_) hjs (λy hy=>?_) (λy hy=>?_) nd Yc Yg Yd hs hsw hf
 ·obtain⟨c,hc⟩:=jY Y5.names [] hall (rL Yc h);exact kW hc
 ·have:=xc.mp hin y hy;simpa using this
 ·have:=xc.mp Ys y hy;simpa using this
end
noncomputable def OF:Dv->Dv->(R->Prop)->Prop
 | .int i,.int j,Q=>Q (.v (.int (i+j)))
 | .str x,.str y,Q=>x.length+y.length<=Ah/\Q (.v (.str (x++y)))
 |_,_,_=>False
noncomputable def OB:Dv->Dv->(R->Prop)->Prop
 | .int i,.int j,Q=>Q (.v (.int (i-j)))
 |_,_,_=>False
noncomputable def OD:Dv->Dv->(R->Prop)->Prop
 | .int i,.int j,Q=>tU i j/\Q (.v (.int (i*j)))
 |_,_,_=>False
noncomputable def G9(te:dZ)(g:Ad):c6:=λE ρ=>te ρ λr=>r.free=ai/\g r.d ρ E.nx
theorem Nr{g:Ad}{k:Nat}{pos:ma}(he:QE X e te)(hg:QG X tg k g)(hs:autoParam (swapsWithSole [tg] e pos.line X.env=jm ap) cH._auto_1)(hw:autoParam (swappedStores [tg] e X.env=jm aq) cH._auto_1)
  (h1:autoParam ((qe [tg] X.env).map (·.2)=[Vd tg X.env]) cH._auto_1):QS X (.Assign [tg] e pos) (G9 te g):=by
 obtain⟨t,ht,hr⟩:=hg.run;refine⟨λE E' ρ w h=>he.mono _ _ _ (λr q=>⟨q.1,hg.mono _ _ _ _ (λρ q=>w.nx _ q) q.2⟩) h,λHZ F=>eQ (LQ (he.run HZ F) ht hs hw h1) λD σ H zz=>?_⟩;obtain⟨ρ,E,fr,h,en⟩:=zz;refine he.step fr h λr x H1 q S1 r1=>?_;have rep:=r1.rep (λa m=>fr.dom m) q.1;exact hr HZ F x r.d σ H1 ρ _ (fr.mono S1) rep (hg.mono _ _ _ _ (λρ1 q σ1 fr1 _=>en.nx _ _ _ fr1 q) q.2)
theorem B6{a b c:Expr}{ta tb tc:dZ}{pos:ma}{op op':Wa}{f f':Int->Int->Bool}(ho:lM X (dt op) (DU λi j=>.bl (f i j)))(ho':lM X (dt op') (DU λi j=>.bl (f' i j)))(ha:QE X a ta)(hb:QE X b tb)(hc:QE X c tc)
  (hm:autoParam (VQ [op,op'] [b,c]=ap) Pa._auto_1):QT X (.Compare a [op,op'] [b,c] pos) (aW (o4 (zO f) (zO f') ta tb tc)):=by
 have Q0:=Iy (pos:=pos) ho ho' ha hb hc hm;have low:∀(HZ:Hp) (F:af->Prop) (σ:St) (H:Hp) (Q:VK),lift X.K HZ F (o4 (zO f) (zO f') ta tb tc) σ H Q->CM (DU λi j=>.bl (f i j)) (DU λi j=>.bl (f' i j)) (lift X.K HZ F ta) (lift X.K HZ F tb) (lift X.K HZ F tc) σ H Q:=by
  rintro HZ F σ H Q ⟨ρ,fr,q⟩;refine ha.step fr q λrx x H1 q1 S1 r1=>?_;refine hb.step (fr.mono S1) q1 λry y H2 q2 S2 r2=>?_;have cx:=(r1.mono S2).c;have cy:=r2.c;generalize rx.d=dx at q2 cx;generalize ry.d=dy at q2 cy;unfold zO at q2;split at q2
  ·rename_i Q2 i j;obtain rfl:=cx.int;obtain rfl:=cy.int;refine⟨_,_,rfl,rfl,f i j,rfl,?_⟩;have S12:=S1.trans S2;replace q2:=(show (if f i j=ai then tc ρ (λw=>zO f' (.int j) w.d (λr=>∀x H',aS H H'->eD X.K (MM F ρ) (Z.Ag ρ) H x r H'->Q x H')) else (∀x H',aS H H'->eD X.K (MM F ρ) (Z.Ag ρ) H x (.v (.bl ap)) H'->Q x H')) from q2);cases h:f i j with
   |true=>
    rw[h] at q2;simp only[if_true] at q2;refine mZ (hc.step ((fr.mono S1).mono S2) q2 λrw' z H3 q3 S3 r3=>?_);have cz:=r3.c;generalize rw'.d=dz at q3 cz;cases dz with
    |int l=>
     obtain rfl:=cz.int;exact⟨_,_,rfl,rfl,q3 _ H3 (S12.trans S3) (Rep.bl _)⟩
    |_=>exact(show False from q3).elim
   |false=>
    rw[h] at q2;simp only[fe,if_false] at q2;exact pA (q2 _ H2 S12 (Rep.bl _))
  ·exact q2.elim
 refine⟨λρ Q Q' w q=>wD Q0.mono ρ Q Q' w q,λHZ F=>Ae (GL ho ho' (ha.run HZ F) (hb.run HZ F) (hc.run HZ F) hm) λσ H Q zz=>?_⟩;obtain⟨ρ,fr,q⟩:=zz;refine low HZ F σ H _ (Q0.step fr q λr x H1 q S1 r1=>?_);have cx:=r1.c;generalize r.d=d at q cx;split at q
 ·obtain rfl:=cx.bl;exact⟨_,rfl,q H1 S1⟩
 ·exact q.elim
variable {f:bt}{p1 p2:ma}
section
variable {pos:ma}
noncomputable def ES(i:Nat)(te:dZ):c6:=λE ρ=>match ρ[i]? with
 |some (.own a (.lst xs))=>te ρ λr=>match r.d with
  | .lst ys=>xs.length+ys.length<=Ah/\E.nx (ρ.set i (.own a (.lst (xs++ys))))
  |_=>False
 |_=>False
theorem Nq{p3:ma}(hv:PE X (.Name x p1) (Aq i))(he:QE X e te)(hs:autoParam (kh (.Call (.Attribute (.Name x p1) "extend" p2) [e] [] p3) aq pos.line X.env=jm ap) cH._auto_1)
  (Yp:autoParam (nz (.Name x p1) "extend" X.env (fi (.Name x p1) X.env)=fi (.Name x p1) X.env) cH._auto_1)
  (hfew:autoParam (((jv p3 (bg [e] X.env)).all (λx=>!x.1)&&(xn p3 (sv [] X.env)).all (λx=>x.1.isSome)
   && decide ([e].length+([]:List Uu).length+(if ([]:List Uu).isEmpty then 0 else 1)<30))=ai) cH._auto_1)
  (Yq:autoParam ((p2.endLine==p3.line)=ai) cH._auto_1) (hst:autoParam (bg [e] X.env=(ap,fi e X.env)::bg [] X.env) cH._auto_1) (Yw:autoParam ((jv p3 (bg [] X.env)).any (·.1)=ap) cH._auto_1):
  QS X (.Expr (.Call (.Attribute (.Name x p1) "extend" p2) [e] [] p3) pos) (ES i te):=by
 refine⟨λE E' ρ w h=>?_,λHZ F=>eQ (uH (Ki tf PySem.F.slot_list_extend PySem.F.type_list_extend Es hv (oR (he.run HZ F) vJ hst) Yp hfew Yq hst Yw) hs) λD σ H ⟨ρ,E,fr,h,en⟩=>?_⟩
 ·unfold ES at *;split at h
  ·refine he.mono _ _ _ (λr q=>?_) h;split at q
   ·exact⟨q.1,w.nx _ q.2⟩
   ·exact q
  ·exact h
 ·unfold ES at h;split at h
  ·rename_i a xs hx;obtain⟨hs1,vs,hv1,rv1⟩:=fr.sl i _ hx;refine⟨_,hs1,.inl ⟨rfl,_,fU.of hv1⟩,he.step fr h λr y H1 q S1 r1=>?_⟩;have cy:=r1.c;generalize r.d=d at q cy;split at q
   ·rename_i ys;obtain⟨b,zs,rfl,eb,rb⟩:=cy.lst;obtain⟨ql,q2⟩:=q;have hv2:=S1 _ _ hv1;refine⟨a,b,vs,zs,rfl,rfl,hv2,eb,iX (by rw[rv1.length,rb.length];exact ql),?_⟩;refine en.nx _ _ _ ((fr.mono S1).write (d':=.lst (xs++ys)) hx ⟨_,c7,?_⟩) q2;have G:Gen X.K (MM F ρ) (MM F ρ) H1 (upd H1 a (.lst (vs++zs))):=Gen.write (.inr ⟨_,cq hx⟩) (by rw[hv2];trivial);exact((rv1.mono S1).append rb).gen G
   ·exact q.elim
  ·exact h.elim
noncomputable def GI(f:bt)(d:Dv):List (bt×Dv)->List (bt×Dv)
 | []=>[(f,d)]
 | (g,x)::r=>if g=f then (g,d)::r else (g,x)::GI f d r
theorem RepF.put{x:V}{d:Dv}(a:Rep K M H x d){xs:List (bt×V)}{ds:List (bt×Dv)}(r:RepF K M H xs ds):RepF K M H (mE f x xs) (GI f d ds):=
 r.ind (P:=λxs ds=>RepF K M H (mE f x xs) (GI f d ds)) (.cons a .nil) λk _ _ _ _ b r ih=>by
  show RepF K M H (if k=f then _ else _) (if k=f then _ else _);split
  ·exact .cons a r
  ·exact .cons b ih
theorem RepF.length{K:ak}{M:af->Prop}{H:Hp}{xs:List (bt×V)}{ds:List (bt×Dv)}(r:RepF K M H xs ds):xs.length=ds.length:=r.ind (P:=λxs ds=>xs.length=ds.length) rfl λ_ _ _ _ _ _ _ ih=>congrArg (· + 1) ih
noncomputable def vB(C:af)(i:Nat)(f:bt)(te:dZ):c6:=λE ρ=>match ρ[i]? with
 |some (.own a (.obj C' fs))=>te ρ λr=>(C'=C/\r.free=ai/\fs.length<1000)/\E.nx (ρ.set i (.own a (.obj C' (GI f r.d fs))))
 |_=>False
theorem GF(c:Cls X.K C)(n:jC X.K C f)(hv:PE X (.Name x p1) (Aq i))(he:QE X e te)
  (hs:autoParam (kh e (aa (.Attribute (.Name x p1) f p2)) pos.line X.env=jm ap) cH._auto_1):QS X (.Assign [.Attribute (.Name x p1) f p2] e pos) (vB C i f te):=by
 refine⟨λE E' ρ w h=>?_,λHZ F=>eQ (LP hv he.pe hs) λD σ H ⟨ρ,E,fr,h,en⟩=>?_⟩
 ·unfold vB at *;split at h
  ·exact he.mono _ _ _ (λr q=>⟨q.1,w.nx _ q.2⟩) h
  ·exact h
 ·unfold vB at h;split at h
  ·rename_i a C' fs hx;refine⟨HZ,F,he.step fr h λr y H1 q S1 r1=>?_⟩;obtain⟨⟨rfl,qf,ql⟩,q2⟩:=q;have fr1:=fr.mono S1;obtain⟨hs1,dx,fs1,hv1,rv1⟩:=fr1.sl i _ hx;have rep:=r1.rep (λa m=>fr.dom m) qf;refine⟨_,hs1,a,C',dx,fs1,rfl,hv1,c,n,by rw[rv1.length];exact ql,?_⟩;refine en.nx _ _ _ (fr1.write (d':=.obj C' (GI f r.d fs)) hx ⟨dx,_,c7,?_⟩) q2;have G:Gen X.K (MM F ρ) (MM F ρ) H1 (upd H1 a (.ins C' dx (mE f y fs1))):=Gen.write (.inr ⟨_,cq hx⟩) (by rw[hv1];trivial);exact(RepF.put rep rv1).gen G
  ·exact h.elim
end
noncomputable def SB(K:ak)(C:af)(sp:Fn):Sp:=λvs H Q _=>∃(x dx:af) (vs':List V) (H0:Hp) (F:af->Prop) (ds:List Dv),vs=.ref x::vs'/\H=upd (upd H0 dx (.own x)) x (.ins C dx [])/\H0 x=aq/\H0 dx=aq/\dx≠x/\OldF K F H0/\Reps K F H0 vs' ds /\
 sp ds (λr=>∀H',aS H0 H'->eD K F CA H0 (.ref x) r H'->Q .non H')
structure IDef(P:aw)(w:bv)(K:ak)(mg:bt->Option ae)(base:dm)(k:Nat)(x:bt)(C:af)(ps:List bt)(sp:Fn):Prop where
 ex:∃f fd,Mk K C f/\mg x=aa (.ref C)/\k9 K fd ps []/\FnOk P w K mg base CC k f fd ps (SB K C sp)
structure IAt(K:ak)(mg:bt->Option ae)(x:bt)(C:af)(qual:bt)(st:kx)(ps:List bt):Prop where
 ex:∃f fd,Mk K C f/\mg x=aa (.ref C)/\Fun K "__init__" qual st f fd/\k9 K fd ps []
noncomputable def j8(C a:af)(N:List bt)(ds:List Dv):List Sl:=.own a (.obj C [])::(ds.map .v++au (N.length-(ds.length+1)) .un)
variable {H0:Hp}{dx:af}{o:HO}
theorem G5{x:af}{o':HO}(hx:H0 x=aq)(hd:H0 dx=aq):aS H0 (upd (upd H0 dx o) x o'):=λb q e=>by
 rw[bF (bC e hx),bF (bC e hd)];exact e
variable {vs:List V}
theorem EL{x:af}(hx:H0 x=aq)(hd:H0 dx=aq)(hF:OldF K F H0)(r:Reps K F H0 vs ds):
  Fr K H0 F (start N (.ref x::vs)) (upd (upd H0 dx (.own x)) x (.ins C dx [])) (j8 C x N ds):=by
 have S:aS H0 (upd (upd H0 dx (.own x)) x (.ins C dx [])):=G5 hx hd;have only:∀{a:af} {d:Dv},Sl.own a d∈j8 C x N ds->a=x:=λ{a d} h=>by
  rcases bq.mp h with h | h
  ·cases h;rfl
  ·rcases dv.mp h with h | h
   ·obtain⟨z,_,e⟩:=fx.mp h;cases e
   ·cases dw h
 have wk:∀a,MM F (j8 C x N ds) a->F a \/ a=x:=λa h=>by
  rcases h with h | ⟨d,h⟩
  ·exact .inl h
  ·exact .inr (only h)
 have G:Gen K F (MM F (j8 C x N ds)) H0 (upd (upd H0 dx (.own x)) x (.ins C dx [])):=((Gen.fresh hx).trans (.mono S)).trans (.weak wk);have hl:=r.length;have r':=r.gen G;have zero:∀(i:Nat) (a:af) (d:Dv),(j8 C x N ds)[i]?=aa (.own a d)->i=0:=λi a d e=>by
  cases i with
  |zero=>rfl
  |succ i=>
   have e':(ds.map Sl.v++au (N.length-(ds.length+1)) Sl.un)[i]?=aa (.own a d):=e;have:=cq e';rcases dv.mp this with h | h
   ·obtain⟨z,_,e⟩:=fx.mp h;cases e
   ·cases dw h
 refine⟨by simp[L2.start,j8,hl],λi s e=>?_,λi j a d d' e1 e2=>?_,λa d h=>by rw[only h];exact hx,S,hF⟩
 ·cases i with
  |zero=>
   cases e;exact⟨rfl,dx,[],c7,.nil⟩
  |succ i=>
   have e':(ds.map Sl.v++au (N.length-(ds.length+1)) Sl.un)[i]?=aa s:=e;have es:(start N (.ref x::vs))[i+1]?=(vs.map aa++au (N.length-(vs.length+1)) aq)[i]?:=by simp[L2.start]
   rw[es];by_cases hi:i<ds.length
   ·rw[bh (by simpa using hi),cj] at e';cases q:ds[i]? with
    |none=>rw[q] at e';cases e'
    |some d=>
     rw[q] at e';cases e';obtain⟨y,hy,ry⟩:=r'.get q;refine⟨y,?_,ry⟩;rw[bh (by simpa using(bb.mp hy).1),cj,hy];rfl
   ·rw[ay (by simpa using lh hi)] at e';have:=cq e';cases dw this;trivial
 ·rw[zero i a d e1,zero j a d' e2]
theorem IAt.okP{k:Nat}{Y8:bt}{t:c6}(m:IAt K mg x C Y8 st ps)(S:FnScope N ps (aI st))
  (hq:∀(f:af) (cdv:ae) (A:de) (outer:List zl) (s:aj) (H:Hp) (E:XK),Room k (A.deeper (uf Y8 (aI st) s.heap.objs.size f cdv))->QSs (u7 CC P w K mg base N Y8 (aI st) f cdv A outer s H E).nox (eG st) t)
  (len:∀ds Q,sp ds Q->ds.length+1=ps.length) (hsp:∀ds Q,sp ds Q -> ∀a,t { nx:=λρ=>∃d,ρ[0]?=aa (.own a d)/\Q (.nw d),rt:=λ_=>False } (j8 C a N ds)):IDef P w K mg base (k+1) x C ps sp:=by
 obtain⟨f,fd,M,hm,FF,hb⟩:=m.ex;refine⟨f,fd,M,hm,hb,FF.ok S (λvs H Q E zz=>?_) λcdv A outer s H vs Q E hr q=>?_⟩
 ·obtain⟨a,dx,vs',H0,F,ds,e,_,_,_,_,_,r,q⟩:=zz;rw[e,bp,r.length];exact len _ _ q
 ·obtain⟨a,dx,vs',H0,F,ds,rfl,rfl,hx,hd,hn,hF,r,q⟩:=q;refine⟨_,(hq f cdv A outer s _ E hr).run H0 F,j8 C a N ds,_,EL hx hd hF r,hsp ds _ q a,?_,λ_ _ _ _ z=>z.elim,λ_ _ _ _ z=>z.elim,λ_ _ _ _ _ z=>z.elim,λ_ _ _ _ _ z=>z.elim⟩;rintro ρ σ H' fr ⟨d,hd',q⟩;have mem:Sl.own a d∈ρ:=cq hd';exact q H' fr.same ⟨a,rfl,hx,(fr.sl 0 _ hd').2.weak λb z=>z.elim .inl λz=>.inr ⟨d,by rw[z];exact mem⟩⟩
noncomputable def Dx(sp:Fn)(ts:n5):dZ:=λρ Q=>ts ρ λrs=>sp (rs.map R.d) (back rs Q)
variable {ts:n5}
section
variable {k:Nat}{pos:ma}
theorem LJ(d:IDef X.prog X.w X.K X.mg X.base k x C ps sp)(mo:MonoF sp)(hr:Room (k+1) X.A)(ha:QA X (e::es) ts)(hg:autoParam (Gl X x) cH._auto_1)
  (hdb:autoParam ((x==("__debug__" : bt))=ap) pL._auto_1) (he:autoParam (bg (e::es) X.env=(ap,fi e X.env)::bg es X.env) cH._auto_1) (hpl:autoParam ((jv pos (bg es X.env)).any (·.1)=ap) cH._auto_1):
  QE X (.Call (.Name x p) (e::es) [] pos) (Dx sp ts):=by
 obtain⟨f,fd,M,hm,hb,FO⟩:=d.ex;refine⟨λρ Q Q' w q=>ha.mono _ _ _ (λrs q=>mo.mo _ _ _ (p6 w) q) q,λHZ F=>dA (JE M FO hr hg hm hb .nil BC (ha.run HZ F) hdb he hpl) λσ H Q zz=>?_⟩;obtain⟨ρ,fr,h⟩:=zz;refine ha.step fr h λrs xs H1 q S1 r1=>?_;intro a dx hx hd hn;rw[ii];refine⟨a,dx,xs,H1,lent (MM F ρ) rs,rs.map R.d,rfl,rfl,hx,hd,hn,⟨λb z=>(fr.mono S1).dom z.1,(fr.mono S1).tab⟩,sY fr (λ_ h=>h) r1,mo.mo _ _ _ (λr q H' S rx=>?_) q⟩;exact⟨rfl,q.2 _ H' (S1.trans S) (yH fr S1 rx q.1)⟩
end
open Classical in
noncomputable def hide(H:Hp)(a:af):Hp:=λb=>if b=a then aq else H b
section
variable {b:af}
theorem yM:hide H1 a a=aq:=by unfold hide;rw[Y4 rfl]
theorem oW{c:af}(h:c≠a):hide H1 a c=H1 c:=by unfold hide;rw[XF h]
theorem FC{c:af}(h:hide H1 a c=aa o):H1 c=aa o/\c≠a:=by
 unfold hide at h;split at h
 ·cases h
 ·exact⟨h,‹_›⟩
theorem Fr.move{d d':Dv}(fr:Fr K HZ F σ H1 ρ)(hi:ρ[i]?=aa (.own a d))(S:aS (hide H1 a) H')(hb:hide H1 a b=aq)(o:e7 K (λc=>(MM F ρ c/\c≠a) \/ c=b) H' b d'):Fr K HZ F (σ.set i (aa (.ref b))) H' (ρ.set i (.own b d')):=by
 have mem:Sl.own a d∈ρ:=cq hi;have h0:HZ a=aq:=fr.new a d mem;obtain⟨hsa,owa⟩:=fr.sl i _ hi;obtain⟨ua,hua,mua⟩:=owa.mut;have wk:∀c,MM F (ρ.set i (.own b d')) c->(MM F ρ c/\c≠a) \/ c=b:=λc h=>by
  by_cases cb:c=b
  ·exact .inr cb
  ·refine .inl ⟨?_,λca=>?_⟩
   ·rcases MM.set c h with h | ⟨_,h⟩
    ·exact h
    ·cases h;exact absurd rfl cb
   ·subst ca;rcases h with h | ⟨d2,h⟩
    ·exact fr.old.f _ h h0
    ·obtain⟨j,e⟩:=ot.mp h;rcases eF e with⟨_,_,z⟩ | ⟨ne,e⟩
     ·cases z;exact cb rfl
     ·exact ne (fr.nd i j _ d d2 hi e)
 have keep:∀c u,H1 c=aa u->c≠a->H' c=aa u:=λc u e n=>S c u (by rw[oW n];exact e);have G:Gen K (MM F ρ) (MM F (ρ.set i (.own b d'))) H1 H':=by
  refine⟨λc u e mu m=>?_,λc xs e=>?_,λc ns h=>?_,λc o u e=>keep c _ e (qA (by rw[hua];exact mua) e λz=>z)⟩
  ·have ca:c≠a:=λz=>m (by rw[z];exact .inr ⟨d,mem⟩);refine⟨keep c u e ca,λz=>?_⟩;rcases wk c z with z | z
   ·exact m z.1
   ·rw[<- z,oW ca,e] at hb;cases hb
  ·exact keep c _ e (qA (by rw[hua];exact mua) e λz=>z)
  ·rcases h with⟨u,h⟩ | h
   ·exact .inl ⟨u,keep c _ h (qA (by rw[hua];exact mua) h λz=>z)⟩
   ·exact .inr h
 have oth:∀(j:Nat) (c:af) (d2:Dv),i≠j->ρ[j]?=aa (.own c d2)->c≠a/\c≠b:=λj c d2 ne e=>by
  have ca:c≠a:=λz=>by subst z;exact ne (fr.nd i j _ d d2 hi e)
  refine⟨ca,λz=>?_⟩;obtain⟨u,hu,_⟩:=(fr.sl j _ e).2.mut;rw[<- z,oW ca,hu] at hb;cases hb
 refine⟨by simp[fr.len],λj s e=>?_,λj k c d1 d2 e1 e2=>?_,λc d1 h=>?_,λc u e=>?_,fr.old⟩
 ·rcases eF e with⟨rfl,hl,rfl⟩ | ⟨hne,e⟩
  ·exact⟨by rw[gv (by rw[fr.len];exact hl)],o.weak wk⟩
  ·rw[ff hne];refine(fr.sl j s e).gen G λc d2 es u hu=>?_;subst es;exact keep c u hu (oth j c d2 hne e).1
 ·rcases eF e1 with⟨h1,_,z⟩ | ⟨n1,e1⟩
  ·rcases eF e2 with⟨h2,_,_⟩ | ⟨n2,e2⟩
   ·ac_rfl
   ·cases z;exact absurd rfl (oth k _ d2 n2 e2).2
  ·rcases eF e2 with⟨h2,_,z⟩ | ⟨n2,e2⟩
   ·cases z;exact absurd rfl (oth j _ d1 n1 e1).2
   ·exact fr.nd j k c d1 d2 e1 e2
 ·rcases nr h with h | h
  ·exact fr.new c d1 h
  ·cases h;by_cases ca:b=a
   ·rw[ca];exact h0
   ·rw[oW ca] at hb;exact fr.same.free hb
 ·exact keep c u (fr.same c u e) λz=>by rw[z,h0] at e;cases e
end
noncomputable def jR(a:af)(N:List bt):List Dv->List Sl
 | []=>[]
 |d::ds=>.own a d::(ds.map .v++au (N.length-(ds.length+1)) .un)
theorem EK{d:Dv}(hF:(∀b,F b->H b≠aq/\b≠a)/\tR K H)(ow:e7 K (λb=>F b \/ b=a) H a d)(r:Reps K (λb=>F b \/ b=a) H vs ds):
  Fr K (hide H a) F (start N (.ref a::vs)) H (jR a N (d::ds)):=by
 have only:∀{c:af} {e:Dv},Sl.own c e∈jR a N (d::ds)->c=a:=λ{c e} h=>by
  rcases bq.mp h with h | h
  ·cases h;rfl
  ·rcases dv.mp h with h | h
   ·obtain⟨z,_,e⟩:=fx.mp h;cases e
   ·cases dw h
 have wk:∀c,MM F (jR a N (d::ds)) c->F c \/ c=a:=λc h=>by
  rcases h with h | ⟨d,h⟩
  ·exact .inl h
  ·exact .inr (only h)
 have hl:=r.length;have r':=r.weak wk;have zero:∀(i:Nat) (c:af) (e:Dv),(jR a N (d::ds))[i]?=aa (.own c e)->i=0:=λi c e h=>by
  cases i with
  |zero=>rfl
  |succ i=>
   have e':(ds.map Sl.v++au (N.length-(ds.length+1)) Sl.un)[i]?=aa (.own c e):=h;have:=cq e';rcases dv.mp this with h | h
   ·obtain⟨z,_,e⟩:=fx.mp h;cases e
   ·cases dw h
 refine⟨by simp[L2.start,jR,hl],λi s e=>?_,λi j c e1 e2 h1 h2=>?_,λc e h=>by rw[only h];exact yM,λc u e=>(FC e).1,λc h=>by rw[oW (hF.1 c h).2];exact(hF.1 c h).1,λP q z=>?_⟩
 ·cases i with
  |zero=>
   cases e;exact⟨rfl,ow.weak wk⟩
  |succ i=>
   have e':(ds.map Sl.v++au (N.length-(ds.length+1)) Sl.un)[i]?=aa s:=e;have es:(start N (.ref a::vs))[i+1]?=(vs.map aa++au (N.length-(vs.length+1)) aq)[i]?:=by simp[L2.start]
   rw[es];by_cases hi:i<ds.length
   ·rw[bh (by simpa using hi),cj] at e';cases q:ds[i]? with
    |none=>rw[q] at e';cases e'
    |some d=>
     rw[q] at e';cases e';obtain⟨y,hy,ry⟩:=r'.get q;refine⟨y,?_,ry⟩;rw[bh (by simpa using(bb.mp hy).1),cj,hy];rfl
   ·rw[ay (by simpa using lh hi)] at e';have:=cq e';cases dw this;trivial
 ·rw[zero i c e1 h1,zero j c e2 h2]
 ·have e:=hF.2 P q z;obtain⟨u,hu,mu⟩:=ow.mut;rw[oW (qA (by rw[hu];exact mu) e λz=>z)];exact e
noncomputable def NS(i:Nat)(sp:Fn)(ts:n5):c6:=λE ρ=>ts ρ λrs=>match rs with
 | .ow a d::Y7=>ρ[i]?=aa (.own a d)/\Y7.all R.free=ai/\sp (d::Y7.map R.d) (λr=>match r with | .nw d'=>∀b,E.nx (ρ.set i (.own b d')) | _=>False)
 |_=>False
section
variable {k:Nat}{pos pos2:ma}
end
end Z
namespace Z
open L2
noncomputable def Rc:Dv->Dv->(R->Prop)->Prop
 | .int i,.int j,Q=>KO i j/\Q (.v (.int (i*2 ^ j.toNat)))
 |_,_,_=>False
end Z
variable {b:Int}
namespace L2
open AutoSeq1
section
variable {r:af}{a c:Int}{t u v:Tok}
end
end L2
namespace L2
end L2
namespace Z
open L2
section
variable {a:Expr}{ts:n5}{p2 pos:ma}
noncomputable def Ov(ts:n5):dZ:=λρ Q=>ts ρ λrs=>match rs.map R.d with
 | [.int j]=>(-(2 ^ 62)<=j/\j<2 ^ 62/\j.toNat<=1000000)/\Q (.v (.tup (bX 0 j.toNat)))
 |_=>False
end
end Z
namespace Tim
open PySem PySem.W PyProof.Rows
noncomputable def ask(lt:Nat->Nat->Bool)(N:Nat){α:Type}:KasT α->(α->Prop)->Prop
 | .ret a,Q=>Q a
 | .ask i j k,Q=>(i<N/\j<N/\i≠j)/\ask lt N (k (lt i j)) Q
theorem lK{lt:Nat->Nat->Bool}{N:Nat}{α β:Type}{f:α->KasT β}{Q:β->Prop}:∀(t:KasT α),ask lt N t (λa=>ask lt N (f a) Q)->ask lt N (t.bind f) Q
 | .ret _,h=>h
 | .ask i j k,h=>⟨h.1,lK (k (lt i j)) h.2⟩
theorem IJ{lt:Nat->Nat->Bool}{N:Nat}{α:Type}{cmp:Nat->Nat->(Bool->aj->Prop)->aj->Prop}{s:aj}(hc:∀i j C,i<N->j<N->i≠j->C (lt i j) s->cmp i j C s){Q:α->aj->Prop}:
  ∀(t:KasT α),ask lt N t (λa=>Q a s)->t.kasWp cmp Q s
 | .ret _,h=>h
 | .ask i j k,h=>hc i j _ h.1.1 h.1.2.1 h.1.2.2 (IJ hc (k (lt i j)) h.2)
structure Weak(lt:Nat->Nat->Bool):Prop where
 irr:∀a,lt a a=ap
 tr:∀a b c,lt a b=ai->lt b c=ai->lt a c=ai
 nt:∀a b c,lt a c=ai->lt a b=ai \/ lt b c=ai
noncomputable def cU(p:Array Nat)(k:Nat):Nat:=p.getD k 0
variable {p:Array Nat}{j:Nat}
theorem C6{q:Array Nat}(h:p[i]?=q[j]?):cU p i=cU q j:=by
 unfold cU;rw[vy,vy,h]
theorem kZ(hj:j<=p.size)(k:Nat):cU (kas_rev p i j) k=if i<=k/\k<j then cU p (i+j-1-k) else cU p k:=by
 have e:=qv (i:=i) hj k;split
 ·rename_i h;rw[Y4 h] at e;exact C6 e
 ·rename_i h;rw[XF h] at e;exact C6 e
theorem Mm{k d:Nat}(hs:k<p.size)(hd:d<=k)(u:Nat):cU (VX p k d) u=if u=k-d then cU p k else if k-d<u/\u<=k then cU p (u-1) else cU p u:=by
 have e:=vo hs d hd u;by_cases h1:u=k-d
 ·rw[Y4 h1] at e ⊢;exact C6 e
 ·rw[XF h1] at e ⊢;by_cases h2:k-d<u/\u<=k
  ·rw[Y4 h2] at e ⊢;exact C6 e
  ·rw[XF h2] at e ⊢;exact C6 e
noncomputable def Pm(N:Nat)(p:Array Nat):Prop:=p.Perm (yu (fw N))
variable {q a b:Nat}{Q:Nat×Array Nat->Prop}
section
variable {lt:Nat->Nat->Bool}{N:Nat}{p:Array Nat}
theorem Pm.size(h:Pm N p):p.size=N:=by
 have:=Array.Perm.size_eq h;simpa using this
theorem Pm.list(h:Pm N p):p.toList.Perm (fw N):=by
 have:=wm.mp h;simpa using this
theorem qS{k:Nat}(hk:k<p.size):cU p k=p.toList[k]'(by simpa using hk):=by
 unfold cU;simp[wn,hk]
theorem Pm.ltN(h:Pm N p){k:Nat}(hk:k<N):cU p k<N:=by
 have hs:k<p.size:=by rw[h.size];exact hk
 rw[qS hs];exact uw.mp (h.list.mem_iff.mp (eh _))
theorem Pm.ne(h:Pm N p)(hi:i<N)(hj:j<N)(n:i≠j):cU p i≠cU p j:=by
 have nd:p.toList.Nodup:=h.list.nodup_iff.mpr Wf;rw[qS (by rw[h.size];exact hi),qS (by rw[h.size];exact hj)];intro e;rcases sk n with z | z
 ·exact cf.mp nd i j _ _ z e
 ·exact cf.mp nd j i _ _ z e.symm
theorem Pm.rev(h:Pm N p)(i j:Nat):Pm N (kas_rev p i j):=Array.Perm.trans (mirror_perm _ _ _ _) h
theorem Pm.bub(h:Pm N p)(i j:Nat):Pm N (VX p i j):=Array.Perm.trans (bubble_perm _ _ _) h
noncomputable def Tl(N:Nat)(p:Array Nat)(k:Nat):Prop:=∀i,k<=i->i<N->cU p i=i
theorem Tl.up{k m:Nat}(h:Tl N p k)(hm:k<=m):Tl N p m:=λi hi hn=>h i (om hm hi) hn
theorem Tl.below{k:Nat}(h:Tl N p k)(P:Pm N p)(hk:i<k)(hn:i<N):cU p i<k:=by
 have:=P.ltN hn;apply Nat.lt_of_not_le;intro z;have e:=h _ z this;exact P.ne hn this (by ac_rfl) e.symm
theorem Tl.rev{k:Nat}(h:Tl N p k)(P:Pm N p)(hj:j<=k)(hN:j<=N):Tl N (kas_rev p i j) k:=λu hu hn=>by
 rw[kZ (by rw[P.size];exact hN),XF (by ac_rfl)];exact h u hu hn
noncomputable def EC(lt:Nat->Nat->Bool)(a b:Nat):Prop:=lt b a=ap/\(lt a b=ai \/ a<b)
theorem EC.trans(W:Weak lt){c:Nat}(h:EC lt a b)(k:EC lt b c):EC lt a c:=by
 have n1:lt c a=ap:=by
  cases e:lt c a with
  |false=>rfl
  |true=>
   rcases W.nt c b a e with z | z
   ·rw[k.1] at z;cases z
   ·rw[h.1] at z;cases z
 refine⟨n1,?_⟩;rcases h.2 with x | x
 ·rcases W.nt a c b x with z | z
  ·exact .inl z
  ·rw[k.1] at z;cases z
 ·rcases k.2 with y | y
  ·rcases W.nt b a c y with z | z
   ·rw[h.1] at z;cases z
   ·exact .inl z
  ·exact .inr (WO x y)
theorem Weak.asym(W:Weak lt)(h:lt a b=ai):lt b a=ap:=by
 cases e:lt b a with
 |false=>rfl
 |true=>have:=W.tr _ _ _ h e;rw[W.irr] at this;cases this
theorem EC.of(W:Weak lt)(h:lt a b=ai):EC lt a b:=⟨W.asym h,.inl h⟩
noncomputable def Up(lt:Nat->Nat->Bool)(p:Array Nat)(k:Nat):Prop:=∀u v,u<v->v<k->EC lt (cU p u) (cU p v)
noncomputable def Dn(lt:Nat->Nat->Bool)(p:Array Nat)(k:Nat):Prop:=∀u v,u<v->v<k->EC lt (cU p v) (cU p u)
theorem Up.rev{k:Nat}(h:Up lt p k)(hk:k<=p.size):Dn lt (kas_rev p 0 k) k:=λu v huv hv=>by
 rw[kZ hk,kZ hk,Y4 (by omega),Y4 (by omega)];exact h _ _ (by omega) (by omega)
theorem Dn.rev{k:Nat}(h:Dn lt p k)(hk:k<=p.size):Up lt (kas_rev p 0 k) k:=λu v huv hv=>by
 rw[kZ hk,kZ hk,Y4 (by ac_rfl),Y4 (by ac_rfl)];exact h _ _ (by ac_rfl) (by ac_rfl)
theorem Up.snoc(W:Weak lt){k:Nat}(h:Up lt p k)(t:Tl N p k)(P:Pm N p)(h1:1<=k)(hk:k<N)(n:lt (cU p k) (cU p (k-1))=ap):Up lt p (k+1):=λu v huv hv=>by
 by_cases e:v=k
 ·subst e;have one:EC lt (cU p (v-1)) (cU p v):=⟨n,.inr (by rw[t v (bj _) hk];exact t.below P (by ac_rfl) (by ac_rfl))⟩;by_cases e2:u=v-1
  ·rw[e2];exact one
  ·exact(h u (v-1) (by ac_rfl) (by ac_rfl)).trans W one
 ·exact h u v huv (by ac_rfl)
theorem Ac(W:Weak lt)(P:Pm N p){Q:Nat->Prop}:∀(f n:Nat),1<=n->n+f<=N->Up lt p n->Tl N p n ->
  (∀m,n<=m->m<=n+f->Up lt p m->(m=n+f \/ m<N/\lt (cU p m) (cU p (m-1))=ai)->Q m)->ask lt N (kas_asc p f n) Q
 |0,n,_,hn,u,t,k=>k n (bj _) (bj _) u (.inl rfl)
 |f+1,n,h1,hn,u,t,k=>by
  refine⟨⟨P.ltN (by ac_rfl),P.ltN (by ac_rfl),P.ne (by ac_rfl) (by ac_rfl) (by ac_rfl)⟩,?_⟩;show ask lt N (if lt (cU p n) (cU p (n-1))=ai then KasT.ret n else kas_asc p f (n+1)) Q;cases e:lt (cU p n) (cU p (n-1)) with
  |true=>
   rw[Y4 rfl];exact k n (bj _) (by ac_rfl) u (.inr ⟨(by ac_rfl),e⟩)
  |false=>
   rw[XF (by simp)];exact Ac W P f (n+1) (by ac_rfl) (by ac_rfl) (u.snoc W t P h1 (by ac_rfl) e) (t.up (by ac_rfl)) λm a b c d=>k m (by ac_rfl) (by ac_rfl) c (d.elim (λz=>.inl (by ac_rfl)) .inr)
structure Run(lt:Nat->Nat->Bool)(N:Nat)(p:Array Nat)(n q:Nat):Prop where
 pm:Pm N p
 tl:Tl N p n
 le:q+1<=n
 hi:n<=N
 dn:Dn lt p (n-(q+1))
 same:∀u v,n-(q+1)<=u->u<v->v<n->lt (cU p u) (cU p v)=ap/\lt (cU p v) (cU p u)=ap/\cU p u<cU p v
 less:∀u v,u<n-(q+1)->n-(q+1)<=v->v<n->lt (cU p v) (cU p u)=ai
theorem Run.turn(W:Weak lt)(h:Run lt N p n q):Dn lt (kas_rev p (n-(q+1)) n) n:=λu v huv hv=>by
 have hs:n<=p.size:=by rw[h.pm.size];exact h.hi
 have hl:=h.le;rw[kZ hs,kZ hs];by_cases c:n-(q+1)<=v
 ·rw[Y4 ⟨c,hv⟩];by_cases d:n-(q+1)<=u
  ·rw[Y4 ⟨d,by omega⟩];obtain⟨a,b,e⟩:=h.same (n-(q+1)+n-1-v) (n-(q+1)+n-1-u) (by omega) (by omega) (by omega);exact⟨b,.inr e⟩
  ·rw[XF (by omega)];exact EC.of W (h.less u _ (by omega) (by omega) (by omega))
 ·rw[XF (by omega),XF (by omega)];exact h.dn u v huv (by omega)
theorem Run.flat(W:Weak lt)(h:Run lt N p n 0):Dn lt p n:=λu v huv hv=>by
 by_cases c:n-1<=v
 ·exact EC.of W (h.less u v (by ac_rfl) (by ac_rfl) hv)
 ·exact h.dn u v huv (by ac_rfl)
theorem Run.done(W:Weak lt)(h:Run lt N p n q):∃p',(if q > 0 then kas_rev p (n-(q+1)) n else p)=p'/\Pm N p'/\Tl N p' n/\Dn lt p' n /\ ∀u,u<n -> ∃w,w<n/\cU p' u=cU p w:=by
 by_cases c:q > 0
 ·refine⟨_,Y4 c,h.pm.rev _ _,h.tl.rev h.pm (bj _) h.hi,h.turn W,λu hu=>?_⟩;have hl:=h.le;rw[kZ (by rw[h.pm.size];exact h.hi)];split
  ·exact⟨_,(by ac_rfl),rfl⟩
  ·exact⟨u,hu,rfl⟩
 ·have:q=0:=(by ac_rfl);subst this;exact⟨_,XF c,h.pm,h.tl,h.flat W,λu hu=>⟨u,hu,rfl⟩⟩
theorem Run.next(W:Weak lt)(h:Run lt N p n q)(hn:n<N)(e:lt (cU p n) (cU p (n-1))=ai):Run lt N (if q > 0 then kas_rev p (n-(q+1)) n else p) (n+1) 0:=by
 have hl:=h.le;have all:∀w,w<n->lt (cU p n) (cU p w)=ai:=λw hw=>by
  by_cases c:w=n-1
  ·rw[c];exact e
  ·by_cases d:w<n-(q+1)
   ·exact W.tr _ _ _ e (h.less w (n-1) d (by ac_rfl) (by ac_rfl))
   ·rcases W.nt _ (cU p w) _ e with z | z
    ·exact z
    ·rw[(h.same w (n-1) (by ac_rfl) (by ac_rfl) (by ac_rfl)).1] at z;cases z
 obtain⟨p',ep,P,T,D,A⟩:=h.done W;rw[ep];have en:cU p' n=cU p n:=by rw[T n (bj _) hn,h.tl n (bj _) hn]
 refine⟨P,T.up (by ac_rfl),(by ac_rfl),hn,by simpa using D,λu v a b c=>by ac_rfl,λu v a b c=>?_⟩;have:v=n:=(by ac_rfl);subst this;obtain⟨w,hw,ew⟩:=A u (by ac_rfl);rw[en,ew];exact all w hw
theorem Run.more(W:Weak lt)(h:Run lt N p n q)(hn:n<N)(e:lt (cU p n) (cU p (n-1))=ap)(d:lt (cU p (n-1)) (cU p n)=ap):Run lt N p (n+1) (q+1):=by
 have hl:=h.le;have en:=h.tl n (bj _) hn;have sz:n+1-(q+1+1)=n-(q+1):=(by ac_rfl);refine⟨h.pm,h.tl.up (by ac_rfl),(by ac_rfl),hn,by rw[sz];exact h.dn,λu v a b c=>?_,λu v a b c=>?_⟩
 ·rw[sz] at a;by_cases z:v=n
  ·subst z;have lw:cU p u<cU p v:=by rw[en];exact h.tl.below h.pm b (by ac_rfl)
   by_cases y:u=v-1
   ·subst y;exact⟨d,e,lw⟩
   ·obtain⟨s1,s2,_⟩:=h.same u (v-1) a (by ac_rfl) (by ac_rfl);refine⟨?_,?_,lw⟩
    ·cases q1:lt (cU p u) (cU p v) with
     |false=>rfl
     |true=>
      rcases W.nt _ (cU p (v-1)) _ q1 with x | x
      ·rw[s1] at x;cases x
      ·rw[d] at x;cases x
    ·cases q1:lt (cU p v) (cU p u) with
     |false=>rfl
     |true=>
      rcases W.nt _ (cU p (v-1)) _ q1 with x | x
      ·rw[e] at x;cases x
      ·rw[s2] at x;cases x
  ·exact h.same u v a b (by ac_rfl)
 ·rw[sz] at a b;by_cases z:v=n
  ·subst z;rcases W.nt _ (cU p v) _ (h.less u (v-1) a (by ac_rfl) (by ac_rfl)) with x | x
   ·rw[d] at x;cases x
   ·exact x
  ·exact h.less u v a b (by ac_rfl)
theorem sA(W:Weak lt){Q:Array Nat×Nat×Nat->Prop}:∀(f:Nat) (p:Array Nat) (n q:Nat),n+f<=N->Run lt N p n q->(∀p' n' q',n<=n'->n'<=n+f->Run lt N p' n' q'->Q (p',n',q'))->ask lt N (kas_desc f p n q) Q
 |0,p,n,q,hn,r,k=>k p n q (bj _) (bj _) r
 |f+1,p,n,q,hn,r,k=>by
  have hl:=r.le;refine⟨⟨r.pm.ltN (by ac_rfl),r.pm.ltN (by ac_rfl),r.pm.ne (by ac_rfl) (by ac_rfl) (by ac_rfl)⟩,?_⟩;show ask lt N (if lt (cU p n) (cU p (n-1))=ai then (if q > 0 then kas_desc f (kas_rev p (n-(q+1)) n) (n+1) 0 else kas_desc f p (n+1) 0)
   else .ask (p.getD (n-1) 0) (p.getD n 0) λd=>if d=ai then .ret (p,n,q) else kas_desc f p (n+1) (q+1)) Q
  cases e:lt (cU p n) (cU p (n-1)) with
  |true=>
   rw[Y4 rfl];have r':=r.next W (by ac_rfl) e;by_cases c:q > 0
   ·rw[Y4 c] at r' ⊢;exact sA W f _ (n+1) 0 (by ac_rfl) r' λp' n' q' a b c=>k p' n' q' (by ac_rfl) (by ac_rfl) c
   ·rw[XF c] at r' ⊢;exact sA W f _ (n+1) 0 (by ac_rfl) r' λp' n' q' a b c=>k p' n' q' (by ac_rfl) (by ac_rfl) c
  |false=>
   rw[XF (by simp)];refine⟨⟨r.pm.ltN (by ac_rfl),r.pm.ltN (by ac_rfl),r.pm.ne (by ac_rfl) (by ac_rfl) (by ac_rfl)⟩,?_⟩;show ask lt N (if lt (cU p (n-1)) (cU p n)=ai then .ret (p,n,q) else kas_desc f p (n+1) (q+1)) Q;cases d:lt (cU p (n-1)) (cU p n) with
   |true=>
    rw[Y4 rfl];exact k p n q (bj _) (by ac_rfl) r
   |false=>
    rw[XF (by simp)];exact sA W f _ (n+1) (q+1) (by ac_rfl) (r.more W (by ac_rfl) e d) λp' n' q' a b c=>k p' n' q' (by ac_rfl) (by ac_rfl) c
noncomputable def TJ(lt:Nat->Nat->Bool)(N:Nat)(r:Nat×Array Nat):Prop:=1<=r.1/\r.1<=N/\Pm N r.2/\Up lt r.2 r.1/\Tl N r.2 r.1
theorem Ap(W:Weak lt)(P:Pm N p)(h1:1<=n)(hn:n<=N)(D:Dn lt p n)(T:Tl N p n)(k:∀r,TJ lt N r->Q r):ask lt N (kas_tail3 n N p) Q:=by
 unfold kas_tail3;have P':=P.rev 0 n;have T':Tl N (kas_rev p 0 n) n:=T.rev P (bj _) hn;refine lK _ (Ac W P' (N-n) n h1 (by ac_rfl) (D.rev (by rw[P.size];exact hn)) T' λm a b c d=>?_);exact k _ ⟨by show 1<=m;ac_rfl,by show m<=N;ac_rfl,P',c,T'.up a⟩
theorem BD(W:Weak lt)(P:Pm N p)(h1:1<=n)(hn:n<N)(D:Dn lt p n)(T:Tl N p n)(e:∀w,w<n->lt (cU p n) (cU p w)=ai)(k:∀r,TJ lt N r->Q r):ask lt N (kas_descPart n N p) Q:=by
 unfold kas_descPart;have r0:Run lt N p (n+1) 0:=⟨P,T.up (by ac_rfl),(by ac_rfl),hn,by simpa using D,λu v a b c=>by ac_rfl,λu v a b c=>by
  have:v=n:=(by ac_rfl);subst this;exact e u (by ac_rfl)⟩
 refine lK _ (sA W _ p (n+1) 0 (by ac_rfl) r0 λp' n' q' a b r=>?_);obtain⟨p2,ep,P2,T2,D2,_⟩:=r.done W;show ask lt N (if q' > 0 then kas_tail3 n' N (kas_rev p' (n'-(q'+1)) n') else kas_tail3 n' N p') Q;by_cases c:q' > 0
 ·rw[Y4 c] at ep ⊢;rw[ep];exact Ap W P2 (by ac_rfl) (by ac_rfl) D2 T2 k
 ·rw[XF c] at ep ⊢;rw[ep];exact Ap W P2 (by ac_rfl) (by ac_rfl) D2 T2 k
theorem FQ(W:Weak lt)(P:Pm N p)(h1:1<=N)(T:Tl N p 0)(k:∀r,TJ lt N r->Q r):ask lt N (kas_count N p) Q:=by
 unfold kas_count;refine lK _ (Ac W P (N-1) 1 (bj _) (by ac_rfl) (λu v a b=>by ac_rfl) (T.up (by ac_rfl)) λm a b c d=>?_);by_cases z:m=N
 ·rw[Y4 (by simpa using z)];exact k _ ⟨a,by show m<=N;ac_rfl,P,c,T.up (by ac_rfl)⟩
 ·rw[XF (by simpa using z)];have hm:m<N/\lt (cU p m) (cU p (m-1))=ai:=d.resolve_left (by ac_rfl);by_cases y:m > 1
  ·rw[Y4 y];refine⟨⟨P.ltN (by ac_rfl),P.ltN (by ac_rfl),P.ne (by ac_rfl) (by ac_rfl) (by ac_rfl)⟩,?_⟩;show ask lt N (if lt (cU p 0) (cU p (m-1))=ai then .ret (m,p) else kas_descPart m N (kas_rev p 0 m)) Q;cases e:lt (cU p 0) (cU p (m-1)) with
   |true=>
    rw[Y4 rfl];exact k _ ⟨a,by show m<=N;ac_rfl,P,c,T.up (by ac_rfl)⟩
   |false=>
    rw[XF (by simp)];have hs:m<=p.size:=by rw[P.size];ac_rfl
    refine BD W (P.rev _ _) a hm.1 (c.rev hs) ((T.up (lc m)).rev P (bj _) (by ac_rfl)) (λw hw=>?_) k;rw[kZ hs,kZ hs,XF (by ac_rfl),Y4 (by ac_rfl)];have m0:lt (cU p m) (cU p 0)=ai:=by
     rcases W.nt _ (cU p 0) _ hm.2 with x | x
     ·exact x
     ·rw[e] at x;cases x
    by_cases w0:0+m-1-w=0
    ·rw[w0];exact m0
    ·rcases W.nt _ (cU p (0+m-1-w)) _ m0 with x | x
     ·exact x
     ·rw[(c 0 (0+m-1-w) (by ac_rfl) (by ac_rfl)).1] at x;cases x
  ·rw[XF y];have:m=1:=(by ac_rfl);subst this;refine BD W P a hm.1 (λu v a b=>by ac_rfl) (T.up (by ac_rfl)) (λw hw=>?_) k;have:w=0:=(by ac_rfl);subst this;exact hm.2
theorem sR(W:Weak lt)(P:Pm N p){k:Nat}(hk:k<N)(U:Up lt p k){Q:Nat->Prop}:∀(f l r:Nat),l<=r->r<=k->r-l<=f->(∀u,u<l->lt (cU p k) (cU p u)=ap)->(∀u,r<=u->u<k->lt (cU p k) (cU p u)=ai) ->
  (∀l',l'<=k->(∀u,u<l'->lt (cU p k) (cU p u)=ap)->(∀u,l'<=u->u<k->lt (cU p k) (cU p u)=ai)->Q l')->ask lt N (kas_place p k f l r) Q
 |0,l,r,hl,hr,hf,a,b,g=>by
  have:r=l:=(by ac_rfl);subst this;exact g r hr a b
 |f+1,l,r,hl,hr,hf,a,b,g=>by
  unfold kas_place;by_cases c:l >= r
  ·rw[Y4 c];have:r=l:=(by ac_rfl);subst this;exact g r hr a b
  ·rw[XF c];have hm:(l+r) / 2<r:=(by ac_rfl);have hm2:l<=(l+r) / 2:=(by ac_rfl);generalize (l+r) / 2=mid at *;refine⟨⟨P.ltN hk,P.ltN (by ac_rfl),P.ne hk (by ac_rfl) (by ac_rfl)⟩,?_⟩;show ask lt N (if lt (cU p k) (cU p mid)=ai then kas_place p k f l mid else kas_place p k f (mid+1) r) Q;cases e:lt (cU p k) (cU p mid) with
   |true=>
    rw[Y4 rfl];refine sR W P hk U f l mid hm2 (by ac_rfl) (by ac_rfl) a (λu h1 h2=>?_) g;by_cases z:u=mid
    ·rw[z];exact e
    ·rcases W.nt _ (cU p u) _ e with x | x
     ·exact x
     ·rw[(U mid u (by ac_rfl) h2).1] at x;cases x
   |false=>
    rw[XF (by simp)];refine sR W P hk U f (mid+1) r (by ac_rfl) hr (by ac_rfl) (λu hu=>?_) b g;by_cases z:u=mid
    ·rw[z];exact e
    ·cases q:lt (cU p k) (cU p u) with
     |false=>rfl
     |true=>
      rcases W.nt _ (cU p mid) _ q with x | x
      ·rw[e] at x;cases x
      ·rw[(U u mid (by ac_rfl) (by ac_rfl)).1] at x;cases x
theorem E6(W:Weak lt){Q:Array Nat->Prop}:∀(f:Nat) (p:Array Nat) (k:Nat),k+f=N->Pm N p->Up lt p k->Tl N p k->(∀p',Pm N p'->Up lt p' N->Q p')->ask lt N (kas_bin f p k) Q
 |0,p,k,hk,P,U,T,g=>by
  have:k=N:=(by ac_rfl);subst this;exact g p P U
 |f+1,p,k,hk,P,U,T,g=>by
  refine lK _ (sR W P (by ac_rfl) U k 0 k (lc _) (bj _) (by ac_rfl) (λu h=>by ac_rfl) (λu h1 h2=>by ac_rfl) λl hl a b=>?_);have hs:k<p.size:=by rw[P.size];ac_rfl
  have e:∀u,cU (VX p k (k-l)) u=if u=l then cU p k else if l<u/\u<=k then cU p (u-1) else cU p u:=λu=>by
   rw[Mm hs (by ac_rfl) u,show k-(k-l)=l by ac_rfl]
  refine E6 W f _ (k+1) (by ac_rfl) (P.bub _ _) (λu v huv hv=>?_) (λi hi hn=>?_) g
  ·have tk:=T k (bj _) (by ac_rfl);rw[e u,e v];by_cases u1:u=l
   ·rw[Y4 u1,XF (by ac_rfl),Y4 (by ac_rfl)];exact EC.of W (b (v-1) (by ac_rfl) (by ac_rfl))
   ·rw[XF u1];by_cases v1:v=l
    ·rw[Y4 v1,XF (by ac_rfl)];exact⟨a u (by ac_rfl),.inr (by rw[tk];exact T.below P (by ac_rfl) (by ac_rfl))⟩
    ·rw[XF v1];by_cases u2:l<u
     ·rw[Y4 (by ac_rfl),Y4 (by ac_rfl)];exact U _ _ (by ac_rfl) (by ac_rfl)
     ·rw[XF (by ac_rfl)];by_cases v2:l<v
      ·rw[Y4 (by ac_rfl)];exact U _ _ (by ac_rfl) (by ac_rfl)
      ·rw[XF (by ac_rfl)];exact U _ _ (by ac_rfl) (by ac_rfl)
  ·rw[e i,XF (by ac_rfl),XF (by ac_rfl)];exact T i (by ac_rfl) hn
theorem Fz(W:Weak lt)(h1:1<=N){Q:Array Nat->Prop}(k:∀p',Pm N p'->Up lt p' N->Q p'):ask lt N (kas_sort N) Q:=by
 unfold kas_sort;refine lK _ (FQ W (Array.Perm.refl _) h1 (λi _ hi=>by simp[cU,wn,hi]) λr g=>?_);obtain⟨a,b,c,d,e⟩:=g;by_cases z:r.1<N
 ·rw[Y4 z];have:max r.1 1=r.1:=(by ac_rfl);rw[this];exact E6 W _ r.2 r.1 (by ac_rfl) c d e k
 ·rw[XF z];have:r.1=N:=(by ac_rfl);rw[this] at d;exact k _ c d
end
end Tim
namespace L2
open PySem PySem.Spec PySem.W PyProof.Rows Tim
noncomputable abbrev picked(vs:List ae)(p:Array Nat):List ae:=p.toList.map λi=>vs.getD i jr
structure Cmp(prog:aw)(w:bv)(s:aj)(a:af)(vs:List ae)(lt:Nat->Nat->Bool)(κ:qa):Prop where
 wk:Weak lt
 kind:∀(A:de) (h:dm) (Q:qa->aj->Prop),(∀b o,b≠a->s.heap.get? b=aa o->h.get? b=aa o)->Q κ { s with heap:=h }->bz (cg prog w) A (keyKind' vs.toArray) Q (λ_ _=>False) { s with heap:=h }
 less:∀(A:de) (h:dm) (i j:Nat) (C:Bool->aj->Prop),(∀b o,b≠a->s.heap.get? b=aa o->h.get? b=aa o)->i<vs.length->j<vs.length->i≠j->C (lt i j) { s with heap:=h } ->
  bz (cg prog w) A (keyLt' κ (vs.getD i jr) (vs.getD j jr)) C (λ_ _=>False) { s with heap:=h }
variable {vs:List ae}{κ:qa}
theorem yA(vs:List ae):picked vs (yu (fw vs.length))=vs:=by
 apply pi;intro i;by_cases h:i<vs.length
 ·simp[picked,h]
 ·simp[picked,h]
theorem EN{lt:Nat->Nat->Bool}{P:Fin->aj->Prop}(ho:s.heap.get? a=aa (kq "list" vs.toArray n))(h64:vs.length<64)(c:2<=vs.length->Cmp prog w s a vs lt κ)
  (k:∀p,Pm vs.length p->Up lt p vs.length->P (.done (.ret .none)) { s with heap:=sortedHeap s.heap a vs (picked vs p).toArray }):bz (cg prog w) A (ww.«list.sort» ⟨[.ref a],[]⟩) P E s:=by
 have la:a<s.heap.objs.size:=bf ho
 let h1:=s.heap.update a (qg λ_=>#[])
 let h2:=h1.push (kq "tuple" vs.toArray 0)
 let h3:=h2.push (kq "list" #[] 0)
 obtain⟨m,g1⟩:∃m,h1.get? a=aa (kq "list" #[] m):=⟨_,zi ho λ_=>#[]⟩;have sz1:h1.objs.size=s.heap.objs.size:=qj ..;have keep:∀b o,b≠a->s.heap.get? b=aa o->h3.get? b=aa o:=λb o hb e=>
  ao _ (ao _ ((qw _ _ _ _ hb).trans e))
 have g3:h3.get? a=aa (kq "list" #[] m):=ao _ (ao _ g1);have Yn:vs.length<=bo:=by rw[io];ac_rfl
 have fin:∀p,Pm vs.length p->Up lt p vs.length->bz (cg prog w) A (do
   let touched:=(<- seqEpoch a) != m
   xr (.ref a) λ_=>(picked vs p).toArray
   if touched then Xg "list.sort.modified";raiseError "ValueError" "list modified during sort"
   ret .none) P E { s with heap:=h3 }:=λp pm up=>by
  have sz:(picked vs p).toArray.size=vs.length:=by simp[picked,pm.size]
  refine ah (Uf g3 rfl (ah (vd g3 rfl ?_ (lc _) (by rw[sz];ac_rfl))));rw[show (m != m)=ap by simp];exact az (k p pm up)
 rw[Ws];refine ah (yx ho rfl (ah (vd ho rfl ?_ (by simpa using Yn) (lc _))));refine ah (Uf g1 rfl (ah (WT (ah (rm (lq ?_) (lc _))) (by simpa using Yn))));show bz (cg prog w) A _ P E { s with heap:=h3 };dsimp only;by_cases two:2<=vs.length
 ·have big:¬vs.toArray.size<2:=by simpa using two
  rw[XF big,XF big];have cc:=c two;refine ah (ig (cc.kind A h3 (λx s'=>x=κ/\s'={ s with heap:=h3 }) keep ⟨rfl,rfl⟩) (λx s' e=>?_) λ_ _ z=>z.elim);obtain⟨rfl,rfl⟩:=e;have tree:(kas_sort vs.length).kasWp (kas_ask prog w A x vs) (λp s'=>(Pm vs.length p/\Up lt p vs.length)/\s'={ s with heap:=h3 }) { s with heap:=h3 }:=
   IJ (lt:=lt) (N:=vs.length) (λi j C hi hj hn q=>cc.less A h3 i j C keep hi hj hn q) _ (Fz cc.wk (by ac_rfl) λp a b=>⟨⟨a,b⟩,rfl⟩)
  refine ah (ig (kat_run (E:=E) (Q:=λst' s'=>∃p,(Pm vs.length p/\Up lt p vs.length)/\tj st'=p.map (kas_item (vs.toArray.zip vs.toArray))/\uk st'=aq/\s'={ s with heap:=h3 })
   rfl two h64 (λp st' s' _ a b q=>⟨p,q.1,a,b,q.2⟩) tree) (λr s' q=>?_) λ_ _ z=>z)
  obtain⟨⟨⟩,st'⟩:=r;obtain⟨p,⟨pm,up⟩,e1,e2,rfl⟩:=q;dsimp only at e1 e2 ⊢;rw[kat_snds rfl e1,e2];exact fin p pm up
 ·have few:vs.toArray.size<2:=by simp;ac_rfl
  rw[Y4 few,Y4 few];refine ah (az ?_);rw[Wt];refine ah (az ?_);dsimp only;have e:((tj (wo general' (vs.toArray.zip vs.toArray) #[] 7 aq)).map λx=>x.2)=(picked vs (yu (fw vs.length))).toArray:=by
   rw[yA];apply VY.mp;show ((vs.toArray.zip vs.toArray).map λx=>x.2).toList=_;simp;apply pi;intro i;by_cases hi:i<vs.length
   ·simp[hi]
   ·simp[hi]
  rw[e];exact fin _ (Array.Perm.refl _) λu v h1 h2=>by ac_rfl
theorem EM{l:af}{lt:Nat->Nat->Bool}{Q:ae->aj->Prop}(hl:s.heap.IsList l vs.toArray)(h64:vs.length<64)(c:2<=vs.length->Cmp prog w s s.heap.objs.size vs lt κ)
  (k:∀p,Pm vs.length p->Up lt p vs.length->Q (.ref (s.heap.objs.size+1)) { s with heap:=Xb s.heap vs (picked vs p).toArray }):bz (cg prog w) A (call (.builtin "sorted") [.ref l]) Q E s:=by
 have Yn:vs.length<=bo:=by rw[io];ac_rfl
 let h1:=(s.heap.push (kq "list" #[] 0)).update s.heap.objs.size (qg (· ++ vs.toArray))
 let h2:=h1.push (kq "list" vs.toArray 0)
 have sz:h1.objs.size=s.heap.objs.size+1:=(qj ..).trans (WU _ _);have old:∀b o,s.heap.get? b=aa o->h2.get? b=aa o:=λb o e=>
  ao _ ((qw _ _ _ _ (fq (bf e))).trans (ao _ e))
 have mine:h2.get? (s.heap.objs.size+1)=aa (kq "list" vs.toArray 0):=sz ▸ cr h1 rfl;refine qo Wg VB VC (VD _) ?_;unfold ww.«sorted»;refine ah (m:=WV "sorted" 1 1 _) (az (ah (collect_list hl (ah (rm ?_ Yn)) Yn)));show bz _ _ _ _ _ { s with heap:=h2 };rw[show ((s.heap.push (kq "list" #[] 0)).update s.heap.objs.size (qg (· ++ vs.toArray))).objs.size=s.heap.objs.size+1 from sz];refine ah (lq (fy Ug ⟨_,mine,rfl⟩ zj ?_ (Uh _)));refine EN (s:={ s with heap:=h2 }) (lt:=lt) (κ:=κ) mine h64 (λtwo=>?_) λp a b=>⟨_,rfl,az ⟨_,rfl,k p a b⟩⟩
 ·have cc:=c two;exact⟨cc.wk,λA h Q hk q=>cc.kind A h Q (λb o hb e=>hk b o (λz=>by have y:=bf e;rw[z] at y;exact qh y) (old b o e)) q,
   λA h i j C hk hi hj hn q=>cc.less A h i j C (λb o hb e=>hk b o (λz=>by have y:=bf e;rw[z] at y;exact qh y) (old b o e)) hi hj hn q⟩
noncomputable def lexB:List Int->List Int->Bool
 | [],[]=>ap
 | [],_::_=>ai
 |_::_,[]=>ap
 |a::r,b::t=>if a=b then lexB r t else decide (a<b)
theorem g8:∀a,lexB a a=ap
 | []=>rfl
 |a::r=>by rw[lexB,Y4 rfl];exact g8 r
theorem mK:∀a b c,lexB a b=ai->lexB b c=ai->lexB a c=ai
 | [],[],_,h,_=>by cases h
 | [],_::_,[],_,k=>by cases k
 | [],_::_,_::_,_,_=>rfl
 |_::_,[],_,h,_=>by cases h
 |_::_,_::_,[],_,k=>by cases k
 |a::r,b::t,c::u,h,k=>by
  unfold lexB at h k ⊢;by_cases e:a=b
  ·rw[Y4 e] at h;subst e;by_cases e2:a=c
   ·rw[Y4 e2] at k ⊢;exact mK r t u h k
   ·rw[XF e2] at k ⊢;exact k
  ·rw[XF e] at h;have h1:=of_decide_eq_true h;by_cases e2:b=c
   ·subst e2;rw[XF e];exact h
   ·rw[XF e2] at k;have h2:=of_decide_eq_true k;rw[XF (by ac_rfl)];exact decide_eq_true (by ac_rfl)
theorem jX:∀a b,a≠b->lexB a b=ai \/ lexB b a=ai
 | [],[],h=>absurd rfl h
 | [],_::_,_=>.inl rfl
 |_::_,[],_=>.inr rfl
 |a::r,b::t,h=>by
  unfold lexB;by_cases e:a=b
  ·subst e;rw[Y4 rfl,Y4 rfl];exact jX r t λz=>h (by rw[z])
  ·rw[XF e,XF (Ne.symm e)];rcases mj e with z | z
   ·exact .inl (decide_eq_true z)
   ·exact .inr (decide_eq_true z)
theorem yG(f:Nat->List Int):Weak λi j=>lexB (f i) (f j):=by
 refine⟨λa=>g8 _,λa b c=>mK _ _ _,λa b c h=>?_⟩;by_cases e:f a=f b
 ·exact .inr (by rw[<- e];exact h)
 ·rcases jX _ _ e with z | z
  ·exact .inl z
  ·exact .inr (mK _ _ _ z h)
section
variable {C:Bool->aj->Prop}{fin:Bool}
theorem vW:∀(ns ms:List Int) (us vs ru rv:List ae) (i:Nat),qd us ns->qd vs ms->ns.length=ms.length->ns≠ms->C (lexB ns ms) s->KatLex prog w A ai fin C ((us++ru).zip (vs++rv)) i s
 | [],[],_,_,_,_,_,_,_,_,n,_=>absurd rfl n
 | [],_::_,_,_,_,_,_,_,_,l,_,_=>by cases l
 |_::_,[],_,_,_,_,_,_,_,l,_,_=>by cases l
 |a::r,b::t,_,_,ru,rv,i,.cons _ x hu,.cons _ y hv,l,n,q=>by
  unfold lexB at q;refine kat_cons (VN (kat_go (λe=>kat_yes ?_) λe=>kat_no ?_))
  ·have e':a=b:=by simpa using e
   rw[Y4 e'] at q;exact vW r t _ _ ru rv (i+1) hu hv (by simpa using l) (λz=>n (by rw[e',z])) q
  ·have e':¬a=b:=by simpa using e
   rw[XF e'] at q;by_cases z:i=0
   ·rw[show (ai&&i==0)=ai by simp[z]];exact oneLt_int q
   ·rw[show (ai&&i==0)=ap by simp[z]];exact kat_one _ _ (lt_int q)
end
variable {N:Nat}{p:Array Nat}
noncomputable abbrev FY:=af×List Int×List V
theorem Db(P:Pm N p)(xs:List α)(hl:xs.length=N)(d:α):(p.toList.map λi=>xs.getD i d).Perm xs:=by
 have e:(fw N).map (λi=>xs.getD i d)=xs:=by
  apply pi;intro i;by_cases h:i<N
  ·simp[h,hl]
  ·simp[h,hl]
 have:=P.list.map λi=>xs.getD i d;rwa[e] at this
theorem tF{lt:Nat->Nat->Bool}(P:Pm N p)(U:Up lt p N)(xs:List α)(d:α)(Rel:α->α->Prop)(hR:∀i j,i<N->j<N->EC lt i j->Rel (xs.getD i d) (xs.getD j d)):
  (p.toList.map λi=>xs.getD i d).Pairwise Rel:=by
 rw[gm];rw[cf];intro i j hi hj hij;have si:i<p.size:=by simpa using hi
 have sj:j<p.size:=by simpa using hj
 have b:=U i j hij (by rw[<- P.size];exact sj);rw[qS si,qS sj] at b;have:=P.ltN (k:=i) (by rw[<- P.size];exact si);have:=P.ltN (k:=j) (by rw[<- P.size];exact sj);rw[qS si] at *;rw[qS sj] at *;exact hR _ _ (by assumption) (by assumption) b
theorem AT:fK X (.builtin "sorted") (λxs H Q=>∃(p:af) (its:List FY) (k:Nat),xs=[.ref p]/\fU X.K H p (its.map λt=>V.ref t.1)/\its.length<64/\(∀t∈its,l6 X.K H t.1 (t.2.1.map V.int++t.2.2)/\t.2.1.length=k+1) /\
  its.Pairwise (λt u=>t.2.1≠u.2.1) /\ ∀its':List FY,its'.Perm its->its'.Pairwise (λt u=>lexB t.2.1 u.2.1=ai) -> ∀l,H l=aq->Q (.ref l) (upd H l (.lst (its'.map λt=>V.ref t.1)))):=by
 intro pj s σ H xs us Q I r h;obtain⟨p,its,k,rfl,hl,h64,hits,hd,q⟩:=h;obtain⟨u,rfl,ru⟩:=jQ r;cases ru;obtain⟨vs,rv,pl,hz⟩:=I.list hl;have ev:vs=its.map λt=>Value.ref t.1:=by
  clear hl hz h64 hits hd q pl;induction its generalizing vs with
  |nil=>cases rv;rfl
  |cons t r ih=>
   cases rv with
   |cons a b=>rw[cp,<- ih _ b];cases a;rfl
 subst ev;have len:(its.map λt=>Value.ref t.1).length=its.length:=by simp
 let num:Nat->List Int:=λi=>(its.getD i (0,[],[])).2.1
 have get:∀i,i<its.length->(its.map λt=>Value.ref t.1).getD i jr=Value.ref (its.getD i (0,[],[])).1:=λi hi=>by simp[hi]
 have mem:∀i,i<its.length->its.getD i (0,[],[])∈its:=λi hi=>by
  rw[dh,ar hi];exact eh hi
 have ne:∀i j,i<its.length->j<its.length->i≠j->num i≠num j:=λi j hi hj n=>by
  have e:∀i,i<its.length->num i=(its[i]!).2.1:=λi hi=>by simp[num,hi]
  have pw:=cf.mp hd;have ei:its.getD i (0,[],[])=its[i]:=by simp[hi]
  have ej:its.getD j (0,[],[])=its[j]:=by simp[hj]
  show (its.getD i (0,[],[])).2.1≠(its.getD j (0,[],[])).2.1;rw[ei,ej];rcases sk n with z | z
  ·exact pw i j hi hj z
  ·exact(pw j i hj hi z).symm
 have tup:∀t∈its,∃(o:lv) (a b:List ae) (n:Nat),s.heap.get? t.1=aa o/\o.cls=.type "tuple" /\ o.data=.seq (a++b).toArray n/\qd a t.2.1:=λt ht=>by
  obtain⟨z,r',⟨o,ho,hc,n,hd'⟩,_⟩:=I.tuple (hits t ht).1;obtain⟨a,b,rfl,ra,rb⟩:∃a b,z=a++b/\bA (t.2.1.map V.int) a/\bA t.2.2 b:=by
   clear hd' ho hc;generalize t.2.1.map V.int=m at r';induction m generalizing z with
   |nil=>exact⟨[],z,rfl,.nil,r'⟩
   |cons x y ih=>
    cases r' with
    |cons x1 x2=>
     obtain⟨a,b,rfl,ra,rb⟩:=ih _ x2;exact⟨_::a,b,rfl,.cons x1 ra,rb⟩
  exact⟨o,a,b,n,ho,hc,hd',mL ra⟩
 have cmp:2<=(its.map λt=>Value.ref t.1).length->Cmp X.prog X.w s s.heap.objs.size (its.map λt=>Value.ref t.1) (λi j=>lexB (num i) (num j)) (Xn ai):=λtwo=>by
  have far:∀{b o},s.heap.get? b=aa o->b≠s.heap.objs.size:=λe=>fq (bf e);refine⟨yG num,λA h Q' hk q'=>?_,λA h i j C hk hi hj hn q'=>?_⟩
  ·have go:∀l:List FY,(∀t∈l,t∈its) -> ∃fs:List ae,KatTups h (l.map λt=>Value.ref t.1) fs/\fs.length=l.length /\ ∀v∈fs,∃x y,v=Value.int x y:=by
    intro l;induction l with
    |nil=>intro _;exact⟨[],.nil,rfl,λv hv=>by cases hv⟩
    |cons t r ih=>
     intro hm;obtain⟨fs,kt,e,al⟩:=ih λu hu=>hm u (bm _ hu);have ht:=hm t (ci ..);obtain⟨o,a,b,n,ho,hc,hd',ia⟩:=tup t ht;obtain⟨x,Y7,ex⟩:∃x Y7,t.2.1=x::Y7:=by
      have:=(hits t ht).2;cases e':t.2.1 with
      |nil=>rw[e'] at this;cases this
      |cons x Y7=>exact⟨x,Y7,rfl⟩
     rw[ex] at ia;cases ia with
     |cons _ y ia'=>
      refine⟨Value.int x y::fs,KatTups.cons (hk _ _ (far ho) ho) hc hd' (by simp) kt,by simp[e],λv hv=>?_⟩;rcases bq.mp hv with rfl | hv
      ·exact⟨x,y,rfl⟩
      ·exact al v hv
   obtain⟨fs,kt,e,al⟩:=go its λ_ h=>h;refine kat_kind (s:={ s with heap:=h }) (T:=.type "int") kt (by rw[e];simp at two;ac_rfl) (λv hv=>?_) (by decide) q';obtain⟨x,y,rfl⟩:=al v hv;exact Looks.of_pure rfl
  ·rw[len] at hi hj;rw[get i hi,get j hj];obtain⟨o,a,b,n,ho,hc,hd',ia⟩:=tup _ (mem i hi);obtain⟨o2,a2,b2,n2,ho2,hc2,hd2,ia2⟩:=tup _ (mem j hj);refine kat_lt (s:={ s with heap:=h }) (hk _ _ (far ho) ho) hd' (hk _ _ (far ho2) ho2) hd2 ?_;exact vW _ _ a a2 b b2 0 ia ia2 (by rw[(hits _ (mem i hi)).2,(hits _ (mem j hj)).2]) (ne i j hi hj hn) q'
 refine EM (lt:=λi j=>lexB (num i) (num j)) (κ:=Xn ai) pl.isList (by rw[len];exact h64) cmp λp' pm up=>?_;rw[len] at pm up
 let its':=p'.toList.map λi=>its.getD i (0,[],[])
 have perm:its'.Perm its:=Db pm its rfl _;have pw:its'.Pairwise (λt u=>lexB t.2.1 u.2.1=ai):=tF pm up its _ _ λi j hi hj b=>by
  rcases b.2 with z | z
  ·exact z
  ·rcases jX _ _ (ne i j hi hj (fq z)) with y | y
   ·exact y
   ·have b1:lexB (num j) (num i)=ap:=b.1;rw[b1] at y;cases y
 have ep:picked (its.map λt=>Value.ref t.1) p'=its'.map λt=>Value.ref t.1:=by
  unfold picked;rw[lj];apply jx;intro i hi;exact get i (uw.mp (pm.list.mem_iff.mp hi))
 rw[ep];obtain⟨c,at1⟩:=yy s.heap (its.map λt=>Value.ref t.1) (its'.map λt=>Value.ref t.1).toArray;have rel:∀l:List FY,bA (l.map λt=>V.ref t.1) (l.map λt=>Value.ref t.1):=λl=>by
  induction l with
  |nil=>exact .nil
  |cons t r ih=>exact .cons rfl ih
 have hle:(its'.map λt=>V.ref t.1).length<=bo:=by rw[io,bi,perm.length_eq];ac_rfl
 exact⟨.ref (s.heap.objs.size+1),_,I.laid (t':=s.toks) (λb o e=>xk e) (tz _) (show d5 X.prog X.w _ _ _ (.lst _) from⟨hle,_,c,rel its',at1⟩),rfl,q its' perm pw _ (I.hok.fresh (tz _))⟩
theorem AV:fK X (.builtin "sorted") (λxs H Q=>∃(p:af) (ns:List Int),xs=[.ref p]/\fU X.K H p (ns.map V.int)/\ns.length<64 /\ ∀ms:List Int,ms.Perm ns->ms.Pairwise (· <= ·) -> ∀l,H l=aq->Q (.ref l) (upd H l (.lst (ms.map V.int)))):=by
 intro pj s σ H xs us Q I r h;obtain⟨p,ns,rfl,hl,h64,q⟩:=h;obtain⟨u,rfl,ru⟩:=jQ r;cases ru;obtain⟨vs,rv,pl,hz⟩:=I.list hl;have ia:=mL rv;refine sorted_ints pl.isList ia (by rw[ia.length];exact h64) λout ms hi hp hs=>?_;obtain⟨c,at1⟩:=yy s.heap vs out;have back:∀{us:List ae} {ns:List Int},qd us ns->bA (ns.map V.int) us:=λh=>by
  induction h with
  |nil=>exact .nil
  |cons a t _ ih=>exact .cons ⟨t,rfl⟩ ih
 have ea:out.toList.toArray=out:=by cases out;rfl
 have hle:(ms.map V.int).length<=bo:=by rw[io,bi,hp.length_eq];ac_rfl
 exact⟨.ref (s.heap.objs.size+1),_,I.laid (t':=s.toks) (λb o e=>xk e) (tz _) (show d5 X.prog X.w _ _ _ (.lst _) from⟨hle,out.toList,c,back hi,by rw[ea];exact at1⟩),rfl,q ms hp hs _ (I.hok.fresh (tz _))⟩
end L2
namespace Z
open L2
variable {p1 p2:ma}
section
variable {X:Cx}{e:Expr}{te:dZ}{pos:ma}
noncomputable def Ox:dZ:=λ_ Q=>Q (.nw (.dit []))
theorem DX:QE X (.Dict [] [] pos) Ox:=
 ⟨λρ Q Q' w q=>w _ q,λHZ F=>dA GX λσ H Q ⟨ρ,fr,q⟩ p hp=>q _ _ (aS.new' hp) ⟨p,rfl,hp,0,[],c7,.nil⟩⟩
noncomputable def wW(kvs:List (List cE×Dv))(k:List cE)(d:Dv):List (List cE×Dv):=
 if kvs.any (λkv=>decide (kv.1=k)) then kvs.map (λkv=>if kv.1=k then (kv.1,d) else kv) else kvs++[(k,d)]
theorem RepT.any{K:ak}{M:af->Prop}{H:Hp}{k:List cE}{xs:List (List cE×V)}{ds:List (List cE×Dv)}(r:RepT K M H xs ds):xs.any (λkv=>decide (kv.1=k))=ds.any (λkv=>decide (kv.1=k)):=
 r.ind (P:=λxs ds=>xs.any (λkv=>decide (kv.1=k))=ds.any (λkv=>decide (kv.1=k))) rfl λ_ _ _ _ _ _ _ ih=>by rw[rj,rj,ih]
theorem RepT.len{ds:List (List cE×Dv)}(r:RepT K M H xs ds):xs.length=ds.length:=r.ind (P:=λxs ds=>xs.length=ds.length) rfl λ_ _ _ _ _ _ _ ih=>congrArg (· + 1) ih
theorem RepT.snoc{K:ak}{M:af->Prop}{H:Hp}{k:List cE}{x:V}{d:Dv}(a:Rep K M H x d){xs:List (List cE×V)}{ds:List (List cE×Dv)}(r:RepT K M H xs ds):RepT K M H (xs++[(k,x)]) (ds++[(k,d)]):=
 r.ind (P:=λxs ds=>RepT K M H (xs++[(k,x)]) (ds++[(k,d)])) (.cons a .nil) λ_ _ _ _ _ b _ ih=>.cons b ih
theorem RepT.repl{k:List cE}{x:V}{d:Dv}(a:Rep K M H x d){ds:List (List cE×Dv)}(r:RepT K M H xs ds):
  RepT K M H (xs.map λkv=>if kv.1=k then (kv.1,x) else kv) (ds.map λkv=>if kv.1=k then (kv.1,d) else kv):=
 r.ind (P:=λxs ds=>RepT K M H (xs.map λkv=>if kv.1=k then (kv.1,x) else kv) (ds.map λkv=>if kv.1=k then (kv.1,d) else kv)) .nil λk' _ _ _ _ b _ ih=>by
  rw[cp,cp];by_cases e:k'=k
  ·rw[Y4 e,Y4 e];exact .cons a ih
  ·rw[XF e,XF e];exact .cons b ih
theorem RepT.put{k:List cE}{x:V}{d:Dv}{ds:List (List cE×Dv)}(r:RepT K M H xs ds)(a:Rep K M H x d):RepT K M H (rN xs k x) (wW ds k d):=by
 unfold rN wW;rw[r.any (k:=k)];split
 ·exact r.repl a
 ·exact r.snoc a
noncomputable def mB(i:Nat)(tk tv:dZ):c6:=λE ρ=>match ρ[i]? with
 |some (.own a (.dit kvs))=>tv ρ λr=>tk ρ λkk=>∃k:List cE,kk.d=.tup (k.map kD)/\(r.free=ai/\kvs.length<Ah)/\E.nx (ρ.set i (.own a (.dit (wW kvs k r.d))))
 |_=>False
theorem tH{k:Expr}{tk:dZ}(hu:X.A.units+1<mw)(hv:PE X (.Name x p1) (Aq i))(hk:QE X k tk)(he:QE X e te)
  (hs:autoParam (kh e (aa (.Subscript (.Name x p1) k p2)) pos.line X.env=jm ap) cH._auto_1):QS X (.Assign [.Subscript (.Name x p1) k p2] e pos) (mB i tk te):=by
 refine⟨λE E' ρ w h=>?_,λHZ F=>eQ (J8 hu hv (hk.run HZ F) (he.run HZ F) hs) λD σ H ⟨ρ,E,fr,h,en⟩=>?_⟩
 ·unfold mB at *;split at h
  ·exact he.mono _ _ _ (λr q=>hk.mono _ _ _ (λkk zq0=>by obtain⟨k,a,b,c⟩:=zq0;exact⟨k,a,b,w.nx _ c⟩) q) h
  ·exact h
 ·unfold mB at h;split at h
  ·rename_i a kvs hx;refine he.step fr h λr y H1 q S1 r1=>?_;have fr1:=fr.mono S1;obtain⟨hs1,ep,vs,hv1,rv1⟩:=fr1.sl i _ hx;refine⟨_,hs1,hk.step fr1 q λkk z H2 q S2 rk=>?_⟩;obtain⟨ks,ek,⟨qf,ql⟩,q2⟩:=q;have ck:=rk.c;rw[ek] at ck;obtain⟨b,zs,rfl,eb,rb⟩:=ck.tup;have ez:zs=ks.map kV:=rb.keys;have rep:=(r1.rep (λa m=>fr.dom m) qf).mono S2;have hv2:=S2 _ _ hv1;refine⟨a,rfl,IR.t hv2 (ez ▸ eb) (by rw[rv1.len];exact zY ql) λep2=>?_⟩;refine en.nx _ _ _ ((fr1.mono S2).write (d':=.dit (wW kvs ks r.d)) hx ⟨_,_,c7,?_⟩) q2;have G:Gen X.K (MM F ρ) (MM F ρ) H2 (upd H2 a (.dT ep2 (rN vs ks y))):=Gen.write (.inr ⟨_,cq hx⟩) (by rw[hv2];trivial);exact((rv1.gen (.mono S2)).put rep).gen G
  ·exact h.elim
noncomputable def G7(i:Nat):c6:=λE ρ=>match ρ[i]? with
 |some (.own a (.lst _))=>E.nx (ρ.set i (.own a (.lst [])))
 |_=>False
noncomputable def lA(i:Nat):c6:=λE ρ=>match ρ[i]? with
 |some (.own a (.lst xs))=>E.nx (ρ.set i (.own a (.lst xs.reverse)))
 |_=>False
theorem EV{p3:ma}(hv:PE X (.Name x p1) (Aq i))(hs:autoParam (kh (.Call (.Attribute (.Name x p1) "reverse" p2) [] [] p3) aq pos.line X.env=jm ap) cH._auto_1)
  (Yp:autoParam (nz (.Name x p1) "reverse" X.env (fi (.Name x p1) X.env)=fi (.Name x p1) X.env) cH._auto_1) (Yq:autoParam ((p2.endLine==p3.line)=ai) cH._auto_1):
  QS X (.Expr (.Call (.Attribute (.Name x p1) "reverse" p2) [] [] p3) pos) (lA i):=by
 refine⟨λE E' ρ w h=>?_,λHZ F=>eQ (uH (Ld tf PySem.F.slot_list_reverse PySem.F.type_list_reverse Cn hv Yp Yq) hs) λD σ H ⟨ρ,E,fr,h,en⟩=>?_⟩
 ·unfold lA at *;split at h
  ·exact w.nx _ h
  ·exact h
 ·unfold lA at h;split at h
  ·rename_i a xs hx;obtain⟨hs1,vs,hv1,rv1⟩:=fr.sl i _ hx;refine⟨_,hs1,.inl ⟨rfl,_,fU.of hv1⟩,a,vs,rfl,rfl,hv1,?_⟩;refine en.nx _ _ _ (fr.write (d':=.lst xs.reverse) hx ⟨_,c7,?_⟩) h;have G:Gen X.K (MM F ρ) (MM F ρ) H (upd H a (.lst vs.reverse)):=Gen.write (.inr ⟨_,cq hx⟩) (by rw[hv1];trivial);exact rv1.reverse.gen G
  ·exact h.elim
noncomputable abbrev tI(t:List Int×List Dv):Dv:=.tup (t.1.map .int++t.2)
noncomputable def hU:List Dv->(R->Prop)->Prop
 | [.lst xs],Q=>(∃ns:List Int,xs=ns.map .int/\ns.length<64 /\ ∀ms:List Int,ms.Perm ns->ms.Pairwise (· <= ·)->Q (.nw (.lst (ms.map .int)))) \/
  ∃(ts:List (List Int×List Dv)) (k:Nat),xs=ts.map tI/\ts.length<64/\(∀t∈ts,t.1.length=k+1)/\ts.Pairwise (λt u=>t.1≠u.1) /\ ∀ts':List (List Int×List Dv),ts'.Perm ts->ts'.Pairwise (λt u=>lexB t.1 u.1=ai)->Q (.nw (.lst (ts'.map tI)))
 |_,_=>False
theorem Reps.fore{K:ak}{M:af->Prop}{H:Hp}:∀{ns:List Int} {xs:List V} {ds:List Dv},Reps K M H xs (ns.map .int++ds) -> ∃ys,xs=ns.map V.int++ys/\Reps K M H ys ds
 | [],xs,ds,r=>⟨xs,rfl,r⟩
 |n::ns,_,ds,.cons a r=>by
  obtain⟨ys,e,r'⟩:=Reps.fore (ns:=ns) r;cases a;exact⟨ys,by rw[e];rfl,r'⟩
theorem lC{β:Type}{f:α->β}{zs ws:List β}(hp:zs.Perm ws):∀{its:List α},its.map f=ws -> ∃jts:List α,jts.Perm its/\zs=jts.map f:=by
 induction hp with
 |nil=>intro its hz;exact⟨its,.refl _,hz.symm⟩
 |cons x p ih=>
  intro its hz;cases its with
  |nil=>cases hz
  |cons t r=>
   rw[cp] at hz;injection hz with h1 h2;obtain⟨j,hj,e⟩:=ih h2;exact⟨t::j,hj.cons t,by rw[cp,h1,e]⟩
 |swap x y l=>
  intro its hz
  match its,hz with
  |t::u::r,hz=>
   simp only[cp,ku] at hz;obtain⟨h1,h2,h3⟩:=hz;exact⟨u::t::r,.swap _ _ _,by simp only[cp,h1,h2,h3]⟩
 |trans p1 p2 ih1 ih2=>
  intro its hz;obtain⟨j,hj,e⟩:=ih2 hz;obtain⟨j2,hj2,e2⟩:=ih1 e.symm;exact⟨j2,hj2.trans hj,e2⟩
theorem oY:mY X (.builtin "sorted") hU:=by
 refine⟨λds Q Q' w h=>?_,_,AV.or AT,λM O H xs ds Q c h=>?_⟩
 ·unfold hU at *;split at h
  ·rcases h with⟨ns,a,b,q⟩ | ⟨ts,k,a,b,c,d,q⟩
   ·exact .inl ⟨ns,a,b,λms x y=>w _ (q ms x y)⟩
   ·exact .inr ⟨ts,k,a,b,c,d,λts' x y=>w _ (q ts' x y)⟩
  ·exact h
 ·unfold hU at h;split at h
  ·obtain⟨x,rfl,cx⟩:=eU c;obtain⟨a,ys,rfl,ea,ra⟩:=cx.lst;rcases h with⟨ns,rfl,hl,q⟩ | ⟨ts,k,rfl,hl,hk,hd,q⟩
   ·have ey:ys=ns.map V.int:=by
     have ra':Reps X.K M H ys (ns.map .int++[]):=by simpa using ra
     obtain⟨zs,e,r'⟩:=ra'.fore;cases r';simpa using e
    subst ey;exact .inl ⟨a,ns,rfl,fU.of ea,hl,λms hp hs l hl=>q ms hp hs _ _ (aS.new' hl) (jA hl (Reps.ints _))⟩
   ·-- what each item is,by its place
    have go:∀{ys:List V} {ts:List (List Int×List Dv)},Reps X.K M H ys (ts.map tI) -> ∃its:List (FY×List Dv),ys=its.map (λt=>V.ref t.1.1)/\ts=its.map (λt=>(t.1.2.1,t.2)) /\
      ∀t∈its,H t.1.1=aa (.tup (t.1.2.1.map V.int++t.1.2.2))/\Reps X.K M H t.1.2.2 t.2:=by
     intro ys ts r;induction ts generalizing ys with
     |nil=>cases r;exact⟨[],rfl,rfl,λt ht=>by cases ht⟩
     |cons t ts ih=>
      cases r with
      |cons u r=>
       obtain⟨its,e1,e2,e3⟩:=ih r;cases u with
       |tup hb rb=>
        obtain⟨zs,e,rz⟩:=rb.fore;subst e;refine⟨((_,t.1,zs),t.2)::its,by rw[e1];rfl,by rw[e2];rfl,λy hy=>?_⟩;rcases bq.mp hy with rfl | hy
        ·exact⟨hb,rz⟩
        ·exact e3 y hy
    obtain⟨its,rfl,rfl,al⟩:=go ra;refine .inr ⟨a,its.map (·.1),k,rfl,by rw[lj];exact fU.of ea,by simpa using hl,λt ht=>?_,?_,λits' hp hs l hl=>?_⟩
    ·obtain⟨u,hu,rfl⟩:=fx.mp ht;exact⟨l6.of (al u hu).1,hk _ (fx.mpr ⟨u,hu,rfl⟩)⟩
    ·rw[gm] at hd ⊢;exact hd
    ·-- bring the plain parts along
     obtain⟨jts,hj,rfl⟩:=lC hp rfl;have rr:∀jts:List (FY×List Dv),(∀t∈jts,t∈its)->Reps X.K M H (jts.map λt=>V.ref t.1.1) ((jts.map λt=>(t.1.2.1,t.2)).map tI):=by
      intro jts;induction jts with
      |nil=>intro _;exact .nil
      |cons t r ih=>
       intro hm;have ht:=al t (hm t (ci ..));have one:Reps X.K M H (t.1.2.1.map V.int++t.1.2.2) (t.1.2.1.map .int++t.2):=(Reps.ints _).append ht.2;exact .cons (.tup ht.1 one) (ih λu hu=>hm u (bm _ hu))
     rw[lj];show Q _ (upd H l (.lst (jts.map λt=>V.ref t.1.1)));refine q (jts.map λt=>(t.1.2.1,t.2)) (hj.map _) ?_ _ _ (aS.new' hl) (jA hl (rr jts λt ht=>hj.mem_iff.mp ht));rw[gm] at hs ⊢;exact hs
  ·exact h.elim
end
variable {j:Int}
theorem QH{i:Int}:(eJ (.int i) (.int j) Q)=(Q (.v (.int (i+j)))):=rfl
theorem Pq{i:Int}:(kU (.int i) (.int j) Q)=(Q (.v (.int (i-j)))):=rfl
theorem Q3{i:Int}:(g6 (.int i) (.int j) Q)=(tU i j/\Q (.v (.int (i*j)))):=rfl
theorem QC{i:Int}:(pW (.int i) (.int j) Q)=((0<j/\j<2 ^ 200)/\Q (.v (.int (i / j)))):=rfl
theorem OG{i:Int}:(OH (.int i) (.int j) Q)=((j≠0/\j.natAbs<2 ^ 4000)/\Q (.v (.int (i.fdiv j)))):=rfl
theorem Q4{i:Int}:(iW (.int i) (.int j) Q)=(0<j/\Q (.v (.int (i % j)))):=rfl
theorem O6{i:Int}:(O7 (.int i) (.int j) Q)=(j≠0/\Q (.v (.int (i.fmod j)))):=rfl
theorem Ps{i:Int}:(Re (.int i) (.int j) Q)=(KO i j/\Q (.v (.int (i ^ j.toNat)))):=rfl
theorem QF{xs ys:List Dv}:(eJ (.lst xs) (.lst ys) Q)=((xs.length+ys.length<=Ah/\Q (.nw (.lst (xs++ys))))):=rfl
theorem QD{y:bt}:(eJ (.str x) (.str y) Q)=((x.length+y.length<=Ah/\Q (.v (.str (x++y))))):=rfl
theorem Q1{xs:List Dv}{k:Int}:(g6 (.lst xs) (.int k) Q)=(((-(2 ^ 63)<=k/\k<2 ^ 63/\xs.length*k.toNat<=Ah)/\Q (.nw (.lst (au k.toNat xs).flatten)))):=rfl
theorem Rq{f:Int->Int->Bool}{i:Int}:(zO f (.int i) (.int j) Q)=(Q (.v (.bl (f i j)))):=rfl
theorem Rn{d:Dv}:(Ei d .non Q)=(Q (.v (.bl (isN d)))):=rfl
theorem Pu{d:Dv}:(vK d .non Q)=(Q (.v (.bl (!isN d)))):=rfl
theorem Ro{d:Dv}{b:Bool}:(Rp d (.bl b) Q)=(Q (.v (.bl (isB b d)))):=rfl
theorem Pv{d:Dv}{b:Bool}:(O5 d (.bl b) Q)=(Q (.v (.bl (!isB b d)))):=rfl
theorem Rr{i:Int}:(sF (.int i) (.int j) Q)=(Q (.v (.bl (decide (i=j))))):=rfl
theorem Rf{i:Int}:(wT (.int i) (.int j) Q)=(Q (.v (.bl (!decide (i=j))))):=rfl
theorem Rs{x:Bool}{d:Dv}:(sF (.bl x) d Q)=(((dL 8 (.bl x)=ai/\dL 8 d=ai)/\Q (.v (.bl (eqD (.bl x) d))))):=rfl
theorem Rg{x:Bool}{d:Dv}:(wT (.bl x) d Q)=(((dL 8 (.bl x)=ai/\dL 8 d=ai)/\Q (.v (.bl (!eqD (.bl x) d))))):=rfl
theorem Q7{x:List Dv}{d:Dv}:(sF (.tup x) d Q)=(((dL 8 (.tup x)=ai/\dL 8 d=ai)/\Q (.v (.bl (eqD (.tup x) d))))):=rfl
theorem Pw{x:List Dv}{d:Dv}:(wT (.tup x) d Q)=(((dL 8 (.tup x)=ai/\dL 8 d=ai)/\Q (.v (.bl (!eqD (.tup x) d))))):=rfl
theorem QB{x:List Dv}{d:Dv}:(sF (.lst x) d Q)=(((dL 8 (.lst x)=ai/\dL 8 d=ai)/\Q (.v (.bl (eqD (.lst x) d))))):=rfl
theorem Pz{x:List Dv}{d:Dv}:(wT (.lst x) d Q)=(((dL 8 (.lst x)=ai/\dL 8 d=ai)/\Q (.v (.bl (!eqD (.lst x) d))))):=rfl
theorem Q8{d:Dv}:(sF (.str x) d Q)=(((dL 8 (.str x)=ai/\dL 8 d=ai)/\Q (.v (.bl (eqD (.str x) d))))):=rfl
theorem Px{d:Dv}:(wT (.str x) d Q)=(((dL 8 (.str x)=ai/\dL 8 d=ai)/\Q (.v (.bl (!eqD (.str x) d))))):=rfl
theorem Q9{x:List Int}{d:Dv}:(sF (.scr x) d Q)=(((dL 8 (.scr x)=ai/\dL 8 d=ai)/\Q (.v (.bl (eqD (.scr x) d))))):=rfl
theorem Py{x:List Int}{d:Dv}:(wT (.scr x) d Q)=(((dL 8 (.scr x)=ai/\dL 8 d=ai)/\Q (.v (.bl (!eqD (.scr x) d))))):=rfl
theorem TY{xs:List Dv}{i:Int}:(cA (.lst xs) (.int i) Q)=((match sE xs i with | some d=>Q (.v d) | none=>False)):=rfl
theorem TW{xs:List Dv}{i:Int}:(cA (.tup xs) (.int i) Q)=((match sE xs i with | some d=>Q (.v d) | none=>False)):=rfl
theorem TX{i:Int}:(cA (.scr ns) (.int i) Q)=((match sE ns i with | some n=>Q (.v (.int n)) | none=>False)):=rfl
variable {lo hi:Option Int}
theorem TV{xs:List Dv}:(Kk (.lst xs) lo hi Q)=(Q (.nw (.lst (cut xs lo hi)))):=rfl
theorem TU:(Kk (.scr ns) lo hi Q)=(Q (.nw (.lst ((cut ns lo hi).map .int)))):=rfl
theorem TR{xs:List Dv}:(Kk (.tup xs) lo hi Q)=((¬(HT.gQ xs.length 0 lo=0/\HT.gQ xs.length xs.length hi=xs.length)/\Q (.v (.tup (cut xs lo hi))))):=rfl
theorem Rl{xs:List Dv}:(e9 [(.lst xs)] Q)=(Q (.v (.int xs.length))):=rfl
theorem Rj{xs:List Dv}:(e9 [(.tup xs)] Q)=(Q (.v (.int xs.length))):=rfl
theorem Rk:(e9 [.scr ns] Q)=(Q (.v (.int ns.length))):=rfl
theorem Ru{i:Int}:(El [.int i] Q)=(Q (.v (.int (if i<0 then -i else i)))):=rfl
theorem Rh{i:Int}:(vL [.int i,.int j] Q)=(Q (.v (.int (if j<i then j else i)))):=rfl
theorem Ri{i:Int}:(O8 [.int i,.int j] Q)=(Q (.v (.int (if j > i then j else i)))):=rfl
theorem O4{xs:List Dv}:(jU [.lst xs] Q)=(Q (.v (.tup xs))):=rfl
theorem O3{xs:List Dv}:(jU [.tup xs] Q)=(Q (.v (.tup xs))):=rfl
theorem Q6{xs:List Dv}:(kI [.lst xs] Q)=(Q (.nw (.lst xs))):=rfl
theorem Q5{xs:List Dv}:(kI [.tup xs] Q)=(Q (.nw (.lst xs))):=rfl
theorem Rt:(Gj [.lst ds] Q)=((∃bs:List Bool,ds=bs.map .bl/\Q (.v (.bl (bs.all _root_.id))))):=rfl
theorem Rb:(Gf [.lst ds] Q)=((∃ns:List Int,ds=ns.map .int/\Q (.v (.int ns.sum)))):=rfl
theorem UX{d:Dv}:(R.d (.v d))=(d):=rfl
theorem UZ{d:Dv}:(R.d (.nw d))=(d):=rfl
theorem UY{d:Dv}:(R.d (.ow a d))=(d):=rfl
theorem UO{d:Dv}:(R.out (.v d))=(.v d):=rfl
theorem UQ{d:Dv}:(R.out (.nw d))=(.nw d):=rfl
theorem UP{d:Dv}:(R.out (.ow a d))=(.nw d):=rfl
theorem UU{d:Dv}:(R.free (.v d))=(ai):=rfl
theorem UW{d:Dv}:(R.free (.nw d))=(ai):=rfl
theorem UV{d:Dv}:(R.free (.ow a d))=(ap):=rfl
theorem UR{d:Dv}:(R.flat (.v d))=(lF d):=rfl
theorem UT{d:Dv}:(R.flat (.nw d))=(Hr d):=rfl
theorem US{d:Dv}:(R.flat (.ow a d))=(ap):=rfl
theorem Sh{a b:Bool}:(eqD (.bl a) (.bl b))=((a==b)):=by cases a<;>cases b<;>simp[eqD,fY,gr]
variable {ρ0:List Sl}{acc:List Dv}
theorem fH{g:Ad}{tt:lN}:(d8 ρ0 g tt te [] acc Q)=(Q (.nw (.lst acc))):=rfl
theorem C1{g:Ad}{tt:lN}{d:Dv}{r:List Dv}:(d8 ρ0 g tt te (d::r) acc Q)=((g d ρ0 λρ1=>tt ρ1 λb=>if b=ai then te ρ1 λv=>(v.free=ai/\acc.length<Ah)/\d8 ρ0 g tt te r (acc++[v.d]) Q else d8 ρ0 g tt te r acc Q)):=rfl
theorem mU{xs:List α}{i:Int}(h0:0<=i)(h1:i<xs.length):sE xs i=xs[i.toNat]?:=by
 unfold sE uK;rw[Y4 h0,Y4 h1];rfl
theorem U3{x:α}{r:List α}:sE (x::r) 0=aa x:=by rw[mU (by decide) (by simp<;>ac_rfl)];rfl
theorem U2{x y:α}{r:List α}:sE (x::y::r) 1=aa y:=by rw[mU (by decide) (by simp<;>ac_rfl)];rfl
theorem U1{x y z:α}{r:List α}:sE (x::y::z::r) 2=aa z:=by rw[mU (by decide) (by simp<;>ac_rfl)];rfl
theorem Tz{x y z w:α}{r:List α}:sE (x::y::z::w::r) 3=aa w:=by rw[mU (by decide) (by simp<;>ac_rfl)];rfl
theorem Tx{x y z w v:α}{r:List α}:sE (x::y::z::w::v::r) 4=aa v:=by rw[mU (by decide) (by simp<;>ac_rfl)];rfl
theorem SY{b c:Bool}:isB b (.bl c)=(c==b):=rfl
theorem QQ{b:Bool}{i:Int}:isB b (.int i)=ap:=rfl
theorem Te:isN .non=ai:=rfl
theorem Tj{b:Bool}:isN (.bl b)=ap:=rfl
theorem Tg{i:Int}:isN (.int i)=ap:=rfl
theorem Tc{i:bt}:isN (.str i)=ap:=rfl
theorem Tb{i:List Dv}:isN (.tup i)=ap:=rfl
theorem Tf{i:List Dv}:isN (.lst i)=ap:=rfl
theorem Td{i:List (bt×Dv)}:isN (.obj C i)=ap:=rfl
theorem Qq{b:Bool}:qZ (.bl b)=aa b:=rfl
theorem Qn:qZ .non=aa ap:=rfl
theorem Qp{i:Int}:qZ (.int i)=aa (i != 0):=rfl
theorem Qo{xs:List Dv}:qZ (.lst xs)=aa (!xs.isEmpty):=rfl
theorem Ql{xs:List Dv}:qZ (.tup xs)=aa (!xs.isEmpty):=rfl
theorem Qm{xs:List Int}:qZ (.scr xs)=aa (!xs.isEmpty):=rfl
theorem SX:uK 1 0=aa 0:=rfl
theorem SW:uK 2 0=aa 0:=rfl
theorem SV:uK 2 1=aa 1:=rfl
theorem SU:uK 3 0=aa 0:=rfl
theorem SS:uK 3 1=aa 1:=rfl
theorem SR:uK 3 2=aa 2:=rfl
theorem SQ:uK 4 0=aa 0:=rfl
theorem SO:uK 4 1=aa 1:=rfl
theorem SN:uK 4 2=aa 2:=rfl
theorem SM:uK 4 3=aa 3:=rfl
theorem SL:uK 5 0=aa 0:=rfl
theorem SK:uK 5 1=aa 1:=rfl
theorem SJ:uK 5 2=aa 2:=rfl
theorem SI:uK 5 3=aa 3:=rfl
theorem SH:uK 5 4=aa 4:=rfl
theorem fA{lo:Int}:bX lo 0=[]:=rfl
theorem dS{lo:Int}:bX lo (n+1)=.int lo::bX (lo+1) n:=by
 unfold bX;rw[yz,cp,lj];congr 1
 ·simp
 ·apply jx;intro k _;show Dv.int _=Dv.int _;congr 1;show lo+((k+1:Nat):Int)=lo+1+k;ac_rfl
theorem OE{i:Int}:(OF (.int i) (.int j) Q)=(Q (.v (.int (i+j)))):=rfl
theorem OA{i:Int}:(OB (.int i) (.int j) Q)=(Q (.v (.int (i-j)))):=rfl
theorem OC{i:Int}:(OD (.int i) (.int j) Q)=(tU i j/\Q (.v (.int (i*j)))):=rfl
theorem Bx{xs:List α}{k:Int}(h0:0<=k):cut xs (aa k) aq=xs.drop k.toNat:=by
 unfold cut;have e:HT.gQ xs.length 0 (aa k)=min k.toNat xs.length:=by show (if k<0 then _ else _)=_;rw[XF (by ac_rfl)]
 rw[e,HT.Ay];rcases Xo k.toNat xs.length with h | h
 ·rw[lr h];exact nk (by rw[Ue];exact bj _)
 ·rw[VZ h,zd (bj _),zd h,List.take_nil]
theorem IB{xs:List α}{k:Int}(h0:0<=k):cut xs aq (aa k)=xs.take k.toNat:=by
 unfold cut;have e:HT.gQ xs.length xs.length (aa k)=min k.toNat xs.length:=by show (if k<0 then _ else _)=_;rw[XF (by ac_rfl)]
 rw[e,HT.Ay,List.drop_zero,Xp];rcases Xo k.toNat xs.length with h | h
 ·rw[lr h]
 ·rw[VZ h,nk (bj _),nk h]
theorem NN{d:Dv}:jR a N (d::ds)=.own a d::(ds.map .v++au (N.length-(ds.length+1)) .un):=rfl
theorem Pr{i:Int}:(Rc (.int i) (.int j) Q)=(KO i j/\Q (.v (.int (i*2 ^ j.toNat)))):=rfl
theorem yD(h:ns.length<64)(q:∀ms:List Int,ms.Perm ns->ms.Pairwise (· <= ·)->Q (.nw (.lst (ms.map .int)))):hU [.lst (ns.map .int)] Q:=.inl ⟨ns,rfl,h,q⟩
theorem yC{ts:List (List Int×List Dv)}{k:Nat}(h:ts.length<64)(hk:∀t∈ts,t.1.length=k+1)(hd:ts.Pairwise (λt u=>t.1≠u.1))
  (q:∀ts':List (List Int×List Dv),ts'.Perm ts->ts'.Pairwise (λt u=>lexB t.1 u.1=ai)->Q (.nw (.lst (ts'.map tI)))):hU [.lst (ts.map tI)] Q:=.inr ⟨ts,k,rfl,h,hk,hd,q⟩
theorem HX:∀{a b:List cE},a.map kD=b.map kD->a=b
 | [],[],_=>rfl
 | [],_::_,h=>by cases h
 |_::_,[],h=>by cases h
 |a::r,b::t,h=>by
  rw[cp,cp] at h;injection h with h1 h2;have e:a=b:=by cases a<;>cases b<;>first | (injection h1 with h1;rw[h1]) | cases h1
  rw[e,HX h2]
theorem Rm{kvs:List (List cE×Dv)}{a:Int}:(cA (.dit kvs) (.tup [.int a,.int b]) Q)=(match kvs.find? (λkv=>decide (kv.1=[ee a,ee b])) with | some kv=>Q (.v kv.2) | none=>False):=by
 apply propext;constructor
 ·rintro⟨k,e,h⟩;have:k=[ee a,ee b]:=HX (e.symm.trans rfl);subst this;exact h
 ·exact λh=>⟨[ee a,ee b],rfl,h⟩
end Z
namespace Sf
structure Rw where
 x:Int
 y:Int
 m:Int
noncomputable def Rw.up(r:Rw):Prop:=0<r.y \/ (r.y=0/\0<r.x)
noncomputable def crs(a b:Rw):Int:=a.x*b.y-b.x*a.y
noncomputable def place(v:Rw)(rows:List Rw):Nat:=rows.countP λr=>decide (0<crs r v)
noncomputable def qT(rows:List Rw):Prop:=rows.Pairwise λa b=>0<crs a b
structure Pre(s:Int)(rows:List Rw):Prop where
 srt:qT rows
 ok:∀r∈rows,r.up /\ -s<=r.x/\r.x<=s/\r.y<=s/\1<=r.m
noncomputable def many(rows:List Rw):Int:=(rows.map (·.m)).sum
structure Good(rows:List Rw):Prop where
 lo:2<=rows.length
 hi:rows.length<=6
 srt:qT rows
 ok:∀r∈rows,r.up /\ -999999999999<=r.x/\r.x<=999999999999/\r.y<=999999999999/\1<=r.m
 tot:many rows<=12
noncomputable def aY:Nat->List Rw->List Int
 |_,[]=>[]
 |k,r::rs=>au r.m.toNat (k:Int)++aY (k+1) rs
noncomputable abbrev aH(rows:List Rw):List Int:=aY 0 rows
end Sf
namespace L2
section
variable {D:Ends}{Q:VK}{t u:TS}{te ta tb tc:TE}{g:TG}
end
end L2
namespace Z
open L2
theorem EJ(h:∀Q:R->Prop,Q (.v (.bl ai))->sp [.scr ns] Q)(hO:IQ H)(hT:tR K H)(hS:fU K H a (ns.map V.int)):low K sp [.ref a] H (λv _=>v=.bl ai) (λ_ _ _=>False):=by
 refine⟨λ_=>False,[.scr ns],⟨λ_ z=>z.elim,hT⟩,.cons (.scr ?_) .nil,h _ λx H' S r=>?_⟩
 ·rcases hS with(h | h) | h
  ·rcases hO a with z | ⟨o,xs,z⟩
   ·rw[z] at h;cases h
   ·rw[z] at h;cases h
  ·exact .inl h
  ·exact .inr h
 ·have r':Rep K (λ_=>False) H' x (.bl ai):=r;cases r';rfl
end Z
variable {ks:List Int}
namespace L2
variable {xs:List ae}
noncomputable abbrev grown(h:dm)(xs:List ae):dm:=(h.push (kq "list" #[] 0)).update h.objs.size (qg (· ++ xs.toArray))
theorem C2{t:af}{P:List ae->aj->Prop}(ht:X6 s.heap t xs.toArray)(Yn:xs.length<=bo)(k:P xs { s with heap:=grown s.heap xs }):bz (cg prog w) A (collect (.ref t)) P E s:=by
 obtain⟨ob,get,cl,m,dat⟩:=ht;have new:(s.heap.push (kq "list" #[] 0)).get? s.heap.objs.size=aa (kq "list" #[] 0):=cr s.heap rfl;have old:=ao (kq "list" #[] 0) get;have room:((#[]:Array ae)++xs.toArray).size<=bo+1:=by
  rw[Array.size_append,di];exact om (XC (ox _)) (Nat.le_succ_of_le Yn)
 have Yi:((#[]:Array ae)++xs.toArray).toList=xs:=by simp
 have tuple:(Vc "tuple" == Vc "tuple")=ai:=rfl;unfold collect;apply ah;apply wpAny_runValue;apply Wu entry_proto_collect';show bz _ _ (newList [] >>= λacc=>X7 (.builtin "list.__iadd__" ⟨[acc,.ref t],[]⟩)) _ _ s;apply ah;refine rm ?_ (lc _);apply az;refine⟨Code.quiet_builtin _ (by decide +kernel),?_⟩;apply Wu entry_list_iadd';show bz _ _ (vz (Value.ref s.heap.objs.size) (Value.ref t) (Value.ref s.heap.objs.size)) _ _ ({ s with heap:=s.heap.push (kq "list" #[] 0) }:aj)
 delta vz
 apply ah;refine wpAny_typeOf (T:="tuple") ⟨ob,old,cl⟩ ?_;rw[Y4 (by simp[tuple])];apply ah;refine yx old dat ?_;apply ah;refine yx new rfl ?_;rw[XF (λz=>by simp at z)];apply ah;refine vd new rfl ?_ (lc _) room;apply az;show bz (cg prog w) A (load s.heap.objs.size >>= λo=>match o.data with
  | .seq ys _=>jm ys.toList
  |_=>unsupported "internal:collect") P E ({ s with heap:=grown s.heap xs }:aj)
 apply ah;refine WA (zi new (· ++ xs.toArray)) ?_;apply az;rw[Yi];exact k
theorem Ax{t:af}{P:ae->aj->Prop}(ht:X6 s.heap t xs.toArray)(num:qd xs ks)(few:xs.length<64)
  (k:∀(ys:Array ae) (ms:List Int),qd ys.toList ms->ms.Perm ks->ms.Pairwise (· <= ·)->P (.ref (s.heap.objs.size+1)) { s with heap:=Xb s.heap xs ys }):
  bz (cg prog w) A (call (Value.builtin "sorted") [Value.ref t]) P E s:=by
 have Yn:xs.length<=bo:=om (Vo few) (by rw[io];decide);have sz:(grown s.heap xs).objs.size=s.heap.objs.size+1:=(qj ..).trans (WU _ _);have mine:((grown s.heap xs).push (kq "list" xs.toArray 0)).get? (s.heap.objs.size+1)=aa (kq "list" xs.toArray 0):=sz ▸ cr (grown s.heap xs) rfl;apply qo Wg VB VC (VD _)
 delta ww.«sorted»
 refine ah (m:=WV "sorted" 1 1 _) (az (ah (C2 ht Yn (ah (rm ?_ Yn)))));show bz _ _ _ _ _ ({ s with heap:=(grown s.heap xs).push (kq "list" xs.toArray 0) }:aj);rw[sz];refine ah (lq (fy Ug ⟨_,mine,rfl⟩ zj (list_sort_tree mine num few λys ms b1 b2 b3=>?_) (Uh _)));exact⟨_,rfl,az ⟨_,rfl,k ys ms b1 b2 b3⟩⟩
theorem AS:fK X (.builtin "sorted") (λxs H Q=>∃(p:af) (ns:List Int),xs=[.ref p]/\l6 X.K H p (ns.map V.int)/\ns.length<64 /\ ∀ms:List Int,ms.Perm ns->ms.Pairwise (· <= ·) -> ∀l,H l=aq->Q (.ref l) (upd H l (.lst (ms.map V.int)))):=by
 intro pj s σ H xs us Q I r h;obtain⟨p,ns,rfl,hl,h64,q⟩:=h;obtain⟨u,rfl,ru⟩:=jQ r;cases ru;obtain⟨vs,rv,pl,hz⟩:=I.tuple hl;have ia:=mL rv;refine Ax pl ia (by rw[ia.length];exact h64) λout ms hi hp hs=>?_;obtain⟨c,at1⟩:=yy s.heap vs out;have back:∀{us:List ae} {ns:List Int},qd us ns->bA (ns.map V.int) us:=λh=>by
  induction h with
  |nil=>exact .nil
  |cons a t _ ih=>exact .cons ⟨t,rfl⟩ ih
 have ea:out.toList.toArray=out:=by cases out;rfl
 have hle:(ms.map V.int).length<=bo:=by rw[io,bi,hp.length_eq];ac_rfl
 exact⟨.ref (s.heap.objs.size+1),_,I.laid (t':=s.toks) (λb o e=>xk e) (tz _) (show d5 X.prog X.w _ _ _ (.lst _) from⟨hle,out.toList,c,back hi,by rw[ea];exact at1⟩),rfl,q ms hp hs _ (I.hok.fresh (tz _))⟩
noncomputable def Nn(K:ak):R2:=λx y H Q=>∃a b xs ys,x=.ref a/\y=.ref b/\l6 K H a xs/\l6 K H b ys/\xs.length+ys.length<=bo /\
 (xs=[]->Q (.ref b) H)/\(xs≠[]->ys=[]->Q (.ref a) H)/\(xs≠[]->ys≠[] -> ∀p,H p=aq->Q (.ref p) (upd H p (.tup (xs++ys))))
theorem JP:lM X (jo .Add) (Nn X.K):=by
 intro pj s σ H x y v u Q I rx ry h;obtain⟨a,b,xs,ys,rfl,rfl,ha,hb,hz,q0,q1,q2⟩:=h;by_cases hx:xs=[]
 ·cases rx;cases ry;obtain⟨its,r1,p1,_⟩:=I.tuple ha;obtain⟨its2,r2,p2,_⟩:=I.tuple hb;have hv:=r1.nil_iff.mpr hx;obtain⟨⟨cls,dd,data,sl⟩,ho,hc,n,hd⟩:=id p1;obtain⟨⟨cls2,dd2,data2,sl2⟩,ho2,hc2,n2,hd2⟩:=id p2;simp only at hc hd hc2 hd2;subst hc hd hc2 hd2;exact Vu ⟨_,ho,rfl⟩ ⟨_,ho2,rfl⟩ xo V5 ug sw (ri _ _)
   (tuple_addW0 a b its.toArray its2.toArray n n2 dd dd2 sl sl2 (by simp[hv])) ⟨ho,ho2,.ref b,H,I,rfl,q0 hx⟩
 ·exact JQ pj s σ H _ _ v u Q I rx ry ⟨a,b,xs,ys,rfl,rfl,ha,hb,hx,hz,q1 hx,q2 hx⟩
end L2
namespace Z
open L2
noncomputable def nR:List Dv->(R->Prop)->Prop
 | [.tup xs],Q=>∃ns:List Int,xs=ns.map .int/\ns.length<64 /\ ∀ms:List Int,ms.Perm ns->ms.Pairwise (· <= ·)->Q (.nw (.lst (ms.map .int)))
 |_,_=>False
theorem DB:mY X (.builtin "sorted") nR:=by
 refine⟨λds Q Q' w h=>?_,_,AS,λM O H xs ds Q c h=>?_⟩
 ·unfold nR at *;split at h
  ·obtain⟨ns,a,b,q⟩:=h;exact⟨ns,a,b,λms x y=>w _ (q ms x y)⟩
  ·exact h
 ·unfold nR at h;split at h
  ·obtain⟨x,rfl,cx⟩:=eU c;obtain⟨a,ys,rfl,ea,ra⟩:=cx.tup;obtain⟨ns,rfl,hl,q⟩:=h;have ey:ys=ns.map V.int:=by
    have ra':Reps X.K M H ys (ns.map .int++[]):=by simpa using ra
    obtain⟨zs,e,r'⟩:=ra'.fore;cases r';simpa using e
   subst ey;exact⟨a,ns,rfl,l6.of ea,hl,λms hp hs l hl=>q ms hp hs _ _ (aS.new' hl) (jA hl (Reps.ints _))⟩
  ·exact h.elim
theorem Ch(h:ns.length<64)(q:∀ms:List Int,ms.Perm ns->ms.Pairwise (· <= ·)->Q (.nw (.lst (ms.map .int)))):nR [.tup (ns.map .int)] Q:=⟨ns,rfl,h,q⟩
noncomputable def BP:Dv->Dv->(R->Prop)->Prop
 | .tup xs,.tup ys,Q=>xs.length+ys.length<=Ah/\Q (.v (.tup (xs++ys)))
 |_,_,_=>False
theorem Gi{xs ys:List Dv}:BP (.tup xs) (.tup ys) Q=(xs.length+ys.length<=Ah/\Q (.v (.tup (xs++ys)))):=rfl
theorem Gm:xL X (jo .Add) BP:=by
 refine⟨λdx dy Q Q' w h=>?_,_,JP,λM O H x y dx dy Q cx cy h=>?_⟩
 ·unfold BP at *;split at h
  ·exact⟨h.1,w _ h.2⟩
  ·exact h
 ·unfold BP at h;split at h
  ·obtain⟨a,xs,rfl,ea,ra⟩:=cx.tup;obtain⟨b,ys,rfl,eb,rb⟩:=cy.tup;have l1:=ra.length;have l2:=rb.length;refine⟨a,b,xs,ys,rfl,rfl,l6.of ea,l6.of eb,iX (by ac_rfl),λe=>?_,λ_ e=>?_,λ_ _ p hp=>h.2 _ _ (aS.new' hp) (Fe hp (ra.append rb))⟩
   ·subst e;cases ra;exact h.2 _ H (aS.refl _) (Rep.tup eb rb)
   ·subst e;cases rb;refine h.2 _ H (aS.refl _) ?_;rw[ii];exact Rep.tup ea ra
  ·exact h.elim
end Z
namespace L2
end L2
namespace Z
open L2
section
variable {l:Expr}{tl:dZ}
noncomputable def hasT(kvs:List (List cE×Dv))(k:List cE):Bool:=kvs.any λkv=>decide (kv.1=k)
noncomputable def RT(neg:Bool):R2:=λx y H Q=>∃a o,y=.ref a/\wS H a x o/\Q (.bl (if neg then !o.isSome else o.isSome)) H
theorem Eo(hu:X.A.units+1<mw):lM X (dt .NotIn) (RT ai):=by
 intro pj s σ H x y v u Q I rx ry h;obtain⟨a,o,rfl,g,q⟩:=h;cases ry;exact KF hu I g rx λs' I'=>⟨.bl (!o.isSome),H,I',rfl,q⟩
theorem RepT.has{k:List cE}{ds:List (List cE×Dv)}(r:RepT K M H xs ds):(n8 xs k).isSome=hasT ds k:=by
 have h:=r.val (k:=k);unfold hasT;cases e:ds.find? (λkv=>decide (kv.1=k)) with
 |none=>
  rw[h.2 e];have:=wp.mp e;symm;rw[Option.isSome_none,wz];exact this
 |some kv=>
  obtain⟨x,hx,_⟩:=h.1 kv e;rw[hx];symm;rw[Vj,Wh];exact⟨kv,ni e,by have:=ze (p:=λkv:List cE×Dv=>decide (kv.1=k)) e;exact this⟩
end
end Z
namespace HT
open PySem PyProof.Rows
section
open PySem.SeqAt
open PySem.AutoSeq1 (wpAny_loadPart')
open PySem.MeetsSeq PySem.MeetsSeq2 PySem.MeetsSeq3
end
end HT
namespace L2
end L2
namespace Z
open L2
section
variable {o:Expr}{to:dZ}{Yk Yl:ma}
end
end Z
namespace L2
end L2
namespace Z
open L2
section
variable {o:Expr}{to tg tp:dZ}{Yk Yl:ma}
end
end Z
namespace L2
section
variable {h':dm}
end
section
variable {fs:List af}{h0 h1 h2 B:dm}
end
variable {f:af}
section
variable {Y8:bt}{cd:ae}{s0:aj}{H0:Hp}{E:XK}
end
variable {Yl:ma}
section
variable {t:TA}{np pos:ma}
end
section
variable {s1 s2:aj}{E:XK}{e:ae}{D:Ends}
end
variable {fd:jw}{sp:Sp}
section
variable {k:Nat}{epos pos:ma}{t:TA}
end
section
open PySem.Calls PySem.Builtin PySem.Builtin.ObjectAttr PySem.Builtin.Getset_descriptor
variable {M:zu}{x:af}
end
section
variable {k:Nat}{E:XK}{pos:ma}{t:TA}
end
end L2
namespace Z
open L2
section
variable {HZ:Hp}{st:kx}{sts a b:List kx}{t u:c6}{c:Expr}{tc:lN}{pos:ma}
end
section
variable {Y8:bt}{f:af}{cd:ae}{s0:aj}{H0:Hp}{E:XK}
end
variable {ts:n5}
section
variable {k:Nat}{sp:FnX}{Yl epos pos:ma}
end
section
variable {k:Nat}{pos:ma}
end
end Z
namespace L2
end L2
namespace Z
open L2
section
variable {l o:Expr}{tl to:dZ}{pos Yk Yl:ma}
end
end Z
namespace L2
open PySem PySem.Spec PySem.W PyProof.Rows Tim
end L2
namespace L2
end L2
namespace Z
open L2
section
variable {a b c d:Expr}{ta tb tc td:dZ}{pos:ma}
end
end Z
namespace L2
end L2
namespace Z
open L2
section
variable {a b c d:Expr}{ta tb tc td:dZ}{pos:ma}
end
section
variable {pos:ma}
end
end Z
namespace L2
section
variable {r:ae}
end
end L2
namespace L2
open PySem.MeetsSeq PySem.SeqAt
end L2
namespace Z
open L2
end Z
namespace L2
open PySem.W
noncomputable def gal:Bool->oy->Array oy->Nat->Nat->Nat->StateT gn VL (Option Nat):=sortPriv% PySem.Builtin.gallop
noncomputable def OU:Array oy->Array oy->StateT gn VL (Array oy):=sortPriv% PySem.Builtin.mergeLo
noncomputable def OV:Array oy->Array oy->StateT gn VL (Array oy):=sortPriv% PySem.Builtin.mergeHi
variable {arr:Array oy}{x N:Nat}{st:gn}{Q:Option Nat->gn->Prop}{it:Nat->oy}{κ:qa}{left:Bool}{M:zu}
structure Tm(M:zu)(A:de)(E:ae->aj->Prop)(s:aj)(N:Nat)(lt:Nat->Nat->Bool)(it:Nat->oy)(κ:qa):Prop where
 cmp:∀i j,i<N->j<N->i≠j -> ∀(st:gn) (Q:Option Bool->gn->Prop),km st=κ->Q (aa (lt i j)) st->Wy M A E s (lt' (it i) (it j)) Q st
 tot:∀i j,i<N->j<N->i≠j->lt i j = !lt j i
 tr:∀i j k,i<N->j<N->k<N->lt i j=ai->lt j k=ai->lt i k=ai
theorem dE{x:oy}{Q:oy->gn->Prop}(h:arr[i]?=aa x)(q:Q x st):Wy M A E s (elem' arr i) Q st:=by
 rw[elem'_eq,h];exact be q
theorem AA{lt:Nat->Nat->Bool}(T:Tm M A E s N lt it κ){base Yh:Nat}{f:Nat->Nat}(hk:km st=κ)(hx:x<N)
  (ha:∀i,i<n->arr[base+i]?=aa (it (f i))) (hf:∀i,i<n->f i<N/\f i≠x) (up:∀i j,i<j->j<n->lt (f i) (f j)=ai) (hh:Yh<n)
  (q:∀k,k<=n->(∀i,i<k->lt (f i) x=ai)->(∀i,k<=i->i<n->lt x (f i)=ai)->Q (aa k) st):Wy M A E s (gal left (it x) arr base n Yh) Q st:=by
 have b1:∀i (Q:Option Bool->gn->Prop),i<n->Q (aa (lt (f i) x)) st->Wy M A E s (do
   let y <- elem' arr (base+i)
   if left=ai then lt' y (it x) else do
    let r <- lt' (it x) y
    jm (r.map λb=>!b)) Q st:=λi Q hi q=>by
  obtain⟨h1,h2⟩:=hf i hi;refine av (dE (ha i hi) ?_);cases left with
  |true=>exact T.cmp _ _ h1 hx h2 st Q hk q
  |false=>
   refine av (T.cmp _ _ hx h1 (Ne.symm h2) st _ hk (be ?_));rw[T.tot _ _ hx h1 (Ne.symm h2)];simpa using q
 have mon:∀i j,i<=j->j<n->lt (f j) x=ai->lt (f i) x=ai:=λi j hij hj z=>by
  by_cases e:i=j
  ·rw[e];exact z
  ·exact T.tr _ _ _ (hf i (by omega)).1 (hf j hj).1 hx (up i j (by omega) hj) z
 show Wy M A E s (gal left (it x) arr base n Yh) Q st;unfold gal;refine av (b1 Yh _ hh ?_);dsimp only;cases y0:lt (f Yh) x with
 |true=>
  rw[Y4 rfl];refine av (jq (fg (I:=λi c st'=>st=st' /\ ∃l o,c=(aq,l,o)/\l<o/\i+1<=o/\Yh+l<n/\lt (f (Yh+l)) x=ai)
   (Q:=λc st'=>st=st' /\ ∃l o,c=(aq,l,o)/\l<o/\Yh+l<n/\lt (f (Yh+l)) x=ai/\(Yh+o<n->lt (f (Yh+o)) x=ap)) ?_ ?_ ?_) ?_)
  ·rintro i c st' _ hi ⟨rfl,l,o,rfl,l1,l2,l3,l4⟩;dsimp only;by_cases z:o >= n-Yh
   ·rw[Y4 z];exact be ⟨rfl,l,o,rfl,l1,l3,l4,λh=>by omega⟩
   ·rw[XF z];refine av (b1 (Yh+o) _ (by omega) ?_);cases y:lt (f (Yh+o)) x with
    |true=>
     dsimp only;rw[XF (by decide)];exact be ⟨rfl,_,_,rfl,by omega,by omega,by omega,y⟩
    |false=>
     dsimp only;rw[Y4 (by decide)];exact be ⟨rfl,l,o,rfl,l1,l3,l4,λ_=>y⟩
  ·rintro c st' ⟨rfl,l,o,rfl,l1,l2,l3,l4⟩;exact⟨rfl,l,o,rfl,l1,l3,l4,λh=>by omega⟩
  ·exact⟨rfl,0,1,rfl,by omega,by omega,by omega,y0⟩
  rintro c st' ⟨rfl,l,o,rfl,l1,l3,l4,l5⟩;dsimp only;refine av (jq (fg (I:=λi c st'=>st=st' /\ ∃lo hi,c=(aq,lo,hi)/\lo<=hi/\hi<=n/\hi-lo+i<=n/\(∀i,i<lo->lt (f i) x=ai)/\(∀i,hi<=i->i<n->lt (f i) x=ap))
   (Q:=λc st'=>st=st' /\ ∃k,c=(aq,k,k)/\k<=n/\(∀i,i<k->lt (f i) x=ai)/\(∀i,k<=i->i<n->lt (f i) x=ap)) ?_ ?_ ?_) ?_)
  ·rintro i c st' _ hi ⟨rfl,lo,h,rfl,l1,l2,l3,l4,l5⟩;dsimp only;by_cases z:lo >= h
   ·rw[Y4 z];have e:lo=h:=by omega
    subst e;exact be ⟨rfl,lo,rfl,l2,l4,l5⟩
   ·rw[XF z];refine av (b1 (lo+(h-lo) / 2) _ (by omega) ?_);cases y:lt (f (lo+(h-lo) / 2)) x with
    |true=>
     dsimp only;rw[Y4 rfl];exact be ⟨rfl,_,_,rfl,by omega,by omega,by omega,λj hj=>mon j _ (by omega) (by omega) y,l5⟩
    |false=>
     dsimp only;rw[XF (by decide)];refine be ⟨rfl,_,_,rfl,by omega,by omega,by omega,l4,λj hj hn=>?_⟩;cases y2:lt (f j) x with
     |false=>rfl
     |true=>rw[mon _ j hj hn y2] at y;cases y
  ·rintro c st' ⟨rfl,lo,h,rfl,l1,l2,l3,l4,l5⟩;have e:lo=h:=by omega
   subst e;exact⟨rfl,lo,rfl,l2,l4,l5⟩
  ·exact⟨rfl,_,_,rfl,by omega,by omega,by omega,λj hj=>mon j _ (by omega) l3 l4,λj hj hn=>by
    cases y2:lt (f j) x with
    |false=>rfl
    |true=>have z:=mon (Yh+o) j (by omega) hn y2;rw[l5 (by omega)] at z;cases z⟩
  ·rintro c st' ⟨rfl,k,rfl,l2,l4,l5⟩;exact be (q k l2 l4 λi hi hn=>by rw[T.tot _ _ hx (hf i hn).1 (Ne.symm (hf i hn).2),l5 i hi hn];rfl)
 |false=>
  rw[XF (by decide)];refine av (jq (fg (I:=λi c st'=>st=st' /\ ∃l o,c=(aq,l,o)/\l<o/\i+1<=o/\l<=Yh/\lt (f (Yh-l)) x=ap)
   (Q:=λc st'=>st=st' /\ ∃l o,c=(aq,l,o)/\l<o/\l<=Yh/\lt (f (Yh-l)) x=ap/\(o<=Yh->lt (f (Yh-o)) x=ai)) ?_ ?_ ?_) ?_)
  ·rintro i c st' _ hi ⟨rfl,l,o,rfl,l1,l2,l3,l4⟩;dsimp only;by_cases z:o >= Yh+1
   ·rw[Y4 z];exact be ⟨rfl,l,o,rfl,l1,l3,l4,λh=>by omega⟩
   ·rw[XF z];refine av (b1 (Yh-o) _ (by omega) ?_);cases y:lt (f (Yh-o)) x with
    |true=>
     dsimp only;rw[Y4 rfl];exact be ⟨rfl,l,o,rfl,l1,l3,l4,λ_=>y⟩
    |false=>
     dsimp only;rw[XF (by decide)];exact be ⟨rfl,_,_,rfl,by omega,by omega,by omega,y⟩
  ·rintro c st' ⟨rfl,l,o,rfl,l1,l2,l3,l4⟩;exact⟨rfl,l,o,rfl,l1,l3,l4,λh=>by omega⟩
  ·exact⟨rfl,0,1,rfl,by omega,by omega,by omega,y0⟩
  rintro c st' ⟨rfl,l,o,rfl,l1,l3,l4,l5⟩;dsimp only;refine av (jq (fg (I:=λi c st'=>st=st' /\ ∃lo hi,c=(aq,lo,hi)/\lo<=hi/\hi<=n/\hi-lo+i<=n/\(∀i,i<lo->lt (f i) x=ai)/\(∀i,hi<=i->i<n->lt (f i) x=ap))
   (Q:=λc st'=>st=st' /\ ∃k,c=(aq,k,k)/\k<=n/\(∀i,i<k->lt (f i) x=ai)/\(∀i,k<=i->i<n->lt (f i) x=ap)) ?_ ?_ ?_) ?_)
  ·rintro i c st' _ hi ⟨rfl,lo,h,rfl,l1,l2,l3,l4,l5⟩;dsimp only;by_cases z:lo >= h
   ·rw[Y4 z];have e:lo=h:=by omega
    subst e;exact be ⟨rfl,lo,rfl,l2,l4,l5⟩
   ·rw[XF z];refine av (b1 (lo+(h-lo) / 2) _ (by omega) ?_);cases y:lt (f (lo+(h-lo) / 2)) x with
    |true=>
     dsimp only;rw[Y4 rfl];exact be ⟨rfl,_,_,rfl,by omega,by omega,by omega,λj hj=>mon j _ (by omega) (by omega) y,l5⟩
    |false=>
     dsimp only;rw[XF (by decide)];refine be ⟨rfl,_,_,rfl,by omega,by omega,by omega,l4,λj hj hn=>?_⟩;cases y2:lt (f j) x with
     |false=>rfl
     |true=>rw[mon _ j hj hn y2] at y;cases y
  ·rintro c st' ⟨rfl,lo,h,rfl,l1,l2,l3,l4,l5⟩;have e:lo=h:=by omega
   subst e;exact⟨rfl,lo,rfl,l2,l4,l5⟩
  ·exact⟨rfl,_,_,rfl,by omega,by omega,by omega,λj hj=>mon j (Yh-o) (by omega) (by omega) (l5 (by omega)),λj hj hn=>by
    cases y2:lt (f j) x with
    |false=>rfl
    |true=>have z:=mon (Yh-l) j (by omega) hn y2;rw[l4] at z;cases z⟩
  ·rintro c st' ⟨rfl,k,rfl,l2,l4,l5⟩;exact be (q k l2 l4 λi hi hn=>by rw[T.tot _ _ hx (hf i hn).1 (Ne.symm (hf i hn).2),l5 i hi hn];rfl)
structure Mg(lt:Nat->Nat->Bool)(la lb lo:List Nat)(ia ib:Nat):Prop where
 pm:(lo++(la.drop ia++lb.drop ib)).Perm (la++lb)
 up:lo.Pairwise λx y=>lt x y=ai
 lo:∀o∈lo,∀r∈la.drop ia++lb.drop ib,lt o r=ai
structure Two(N:Nat)(lt:Nat->Nat->Bool)(la lb:List Nat):Prop where
 ua:la.Pairwise λx y=>lt x y=ai
 ub:lb.Pairwise λx y=>lt x y=ai
 nd:(la++lb).Nodup
 bd:∀x∈la++lb,x<N
variable {l la lb:List Nat}{ia ib:Nat}
section
variable {lt:Nat->Nat->Bool}{lo:List Nat}
theorem Two.symm(T:Two N lt la lb):Two N lt lb la:=⟨T.ub,T.ua,(jg.nodup_iff).mp T.nd,λx hx=>T.bd x (jg.mem_iff.mp hx)⟩
theorem Mg.symm(m:Mg lt la lb lo ia ib):Mg lt lb la lo ib ia:=
 ⟨((jg (l₁:=lb.drop ib) (l₂:=la.drop ia)).append_left lo).trans (m.pm.trans jg),m.up,λo ho r hr=>m.lo o ho r (jg.mem_iff.mp hr)⟩
theorem Mg.takeA(T:Two N lt la lb)(m:Mg lt la lb lo ia ib)(k:Nat)(h:∀x∈(la.drop ia).take k,∀r∈lb.drop ib,lt x r=ai):Mg lt la lb (lo++(la.drop ia).take k) (ia+k) ib:=by
 have e:(la.drop ia).take k++la.drop (ia+k)=la.drop ia:=by rw[<- Ux,jt]
 have ud:(la.drop ia).Pairwise λx y=>lt x y=ai:=T.ua.sublist (wa _ _);rw[<- e] at ud;have ud2:=fj.mp ud;refine⟨?_,fj.mpr ⟨m.up,ud2.1,λo ho x hx=>m.lo o ho x ?_⟩,λo ho r hr=>?_⟩
 ·have:=m.pm;rw[<- e] at this;simpa [cm] using this
 ·exact fh _ (Ui hx)
 ·rcases dv.mp ho with ho | ho
  ·refine m.lo o ho r ?_;rcases dv.mp hr with hr | hr
   ·exact fh _ (by rw[<- e];exact dr _ hr)
   ·exact dr _ hr
  ·rcases dv.mp hr with hr | hr
   ·exact ud2.2.2 o ho r hr
   ·exact h o ho r hr
theorem Mg.takeB(T:Two N lt la lb)(m:Mg lt la lb lo ia ib)(k:Nat)(h:∀x∈(lb.drop ib).take k,∀r∈la.drop ia,lt x r=ai):Mg lt la lb (lo++(lb.drop ib).take k) ia (ib+k):=
 (m.symm.takeA T.symm k h).symm
noncomputable def Af(lt:Nat->Nat->Bool)(la lb l:List Nat):Prop:=l.Perm (la++lb)/\l.Pairwise λx y=>lt x y=ai
theorem Mg.endA(T:Two N lt la lb)(m:Mg lt la lb lo ia ib)(h:∀x∈la.drop ia,∀r∈lb.drop ib,lt x r=ai):Af lt la lb (lo++la.drop ia++lb.drop ib):=by
 refine⟨by rw[cm];exact m.pm,?_⟩;rw[cm];refine fj.mpr ⟨m.up,fj.mpr ⟨T.ua.sublist (wa _ _),T.ub.sublist (wa _ _),h⟩,m.lo⟩
theorem Mg.endB(T:Two N lt la lb)(m:Mg lt la lb lo ia ib)(h:∀x∈lb.drop ib,∀r∈la.drop ia,lt x r=ai):Af lt la lb (lo++lb.drop ib++la.drop ia):=by
 have:=m.symm.endA T.symm h;exact⟨this.1.trans jg,this.2⟩
theorem s9(h:i<l.length):l.drop i=l.getD i 0::l.drop (i+1):=by
 rw[fc h];simp[dg,h]
theorem Two.headA(T:Two N lt la lb)(tr:∀i j k,i<N->j<N->k<N->lt i j=ai->lt j k=ai->lt i k=ai)(hx:x<N)(hi:ia<la.length)(h:lt x (la.getD ia 0)=ai):∀r∈la.drop ia,lt x r=ai:=λr hr=>by
 rw[s9 hi] at hr;rcases bq.mp hr with e | hr
 ·rw[e];exact h
 ·have ud:(la.drop ia).Pairwise λx y=>lt x y=ai:=T.ua.sublist (wa _ _);rw[s9 hi] at ud;have b1:la.getD ia 0<N:=T.bd _ (fh _ (by rw[dh,ar hi];exact eh hi));have b2:r<N:=T.bd r (fh _ (Uj hr));exact tr _ _ _ hx b1 b2 h ((eo.mp ud).1 r hr)
end
variable {j:Nat}{G:Prop}{σ:Type}
section
variable {lt:Nat->Nat->Bool}
structure SEq(st st':gn):Prop where
 k:km st'=km st
 a:tj st'=tj st
 p:bx st'=bx st
 f:uk st'=uk st
theorem SEq.refl(st:gn):SEq st st:=⟨rfl,rfl,rfl,rfl⟩
noncomputable abbrev dJ(it:Nat->oy)(l:List Nat):Array oy:=(l.map it).toArray
theorem bV(h:i<l.length):(dJ it l)[i]?=aa (it (l.getD i 0)):=by
 simp[dg,h]
theorem aX:(dJ it l).push (it x)=dJ it (l++[x]):=by simp[dJ]
theorem b5{m:List Nat}:dJ it l++dJ it m=dJ it (l++m):=by simp[dJ]
theorem oH:(dJ it l).size=l.length:=by simp[dJ]
theorem aZ:(dJ it l).extract i j=dJ it ((l.drop i).take (j-i)):=by
 simp[dJ,WR,XJ]
theorem bY:(dJ it l).extract i l.length=dJ it (l.drop i):=by
 rw[aZ,nk (by simp)]
theorem Two.neAB(W:Two N lt la lb)(hi:i<la.length)(hj:j<lb.length):la.getD i 0≠lb.getD j 0:=by
 have e1:la.getD i 0=la[i]:=by simp[dg,hi]
 have e2:lb.getD j 0=lb[j]:=by simp[dg,hj]
 rw[e1,e2];exact(VE.mp W.nd).2.2 _ (eh hi) _ (eh hj)
theorem Two.ltA(W:Two N lt la lb)(hi:i<la.length):la.getD i 0<N:=W.bd _ (fh _ (by rw[dh,ar hi];exact eh hi))
theorem Two.upA(W:Two N lt la lb)(hij:i<j)(hj:j<la.length):lt (la.getD i 0) (la.getD j 0)=ai:=by
 have e1:la.getD i 0=la[i]'(by ac_rfl):=by simp[dg,show i<la.length by ac_rfl]
 have e2:la.getD j 0=la[j]:=by simp[dg,hj]
 rw[e1,e2];exact cf.mp W.ua i j (by ac_rfl) hj hij
variable {lo:List Nat}
structure Trn(N:Nat)(lt:Nat->Nat->Bool):Prop where
 tr:∀i j k,i<N->j<N->k<N->lt i j=ai->lt j k=ai->lt i k=ai
theorem _root_.L2.Tm.trn(T:Tm M A E s N lt it κ):Trn N lt:=⟨T.tr⟩
theorem Mg.stepB(T:Trn N lt)(W:Two N lt la lb)(m:Mg lt la lb lo ia ib)(hi:ia<la.length)(hj:ib<lb.length)(h:lt (lb.getD ib 0) (la.getD ia 0)=ai):Mg lt la lb (lo++[lb.getD ib 0]) ia (ib+1):=by
 have e:(lb.drop ib).take 1=[lb.getD ib 0]:=by rw[s9 hj];rfl
 have:=m.takeB W 1 (by
  rw[e];intro x hx;rw[dq.mp hx];exact W.headA T.tr (W.symm.ltA hj) hi h)
 rwa[e] at this
theorem Mg.stepA(T:Trn N lt)(W:Two N lt la lb)(m:Mg lt la lb lo ia ib)(hi:ia<la.length)(hj:ib<lb.length)(h:lt (la.getD ia 0) (lb.getD ib 0)=ai):Mg lt la lb (lo++[la.getD ia 0]) (ia+1) ib:=(m.symm.stepB T W.symm hj hi h).symm
theorem Mg.galA(T:Trn N lt)(W:Two N lt la lb)(m:Mg lt la lb lo ia ib){k:Nat}(hj:ib<lb.length)(hk:k<=la.length-ia)(h:∀i,i<k->lt (la.getD (ia+i) 0) (lb.getD ib 0)=ai):Mg lt la lb (lo++(la.drop ia).take k) (ia+k) ib:=
 m.takeA W k λx hx r hr=>by
  obtain⟨i,hi,e⟩:=ed.mp hx;simp at hi;have e2:x=la.getD (ia+i) 0:=by
   rw[<- e];simp[dg,show ia+i<la.length by ac_rfl]
  subst e2;exact W.symm.headA T.tr (W.ltA (by ac_rfl)) hj (h i (by ac_rfl)) r hr
theorem Mg.galB(T:Trn N lt)(W:Two N lt la lb)(m:Mg lt la lb lo ia ib){k:Nat}(hi:ia<la.length)(hk:k<=lb.length-ib)(h:∀i,i<k->lt (lb.getD (ib+i) 0) (la.getD ia 0)=ai):Mg lt la lb (lo++(lb.drop ib).take k) ia (ib+k):=
 (m.symm.galA T W.symm hi hk h).symm
theorem Mg.doneA(W:Two N lt la lb)(m:Mg lt la lb lo ia ib)(h:ia=la.length \/ ib=lb.length):Af lt la lb (lo++la.drop ia++lb.drop ib):=m.endA W λx hx r hr=>by
 rcases h with h | h
 ·rw[h,vh] at hx;cases hx
 ·rw[h,vh] at hr;cases hr
theorem Mg.lastA(W:Two N lt la lb)(m:Mg lt la lb lo ia ib)(hz:∀r∈lb,lt r (la.getD (la.length-1) 0)=ai)(h:ia+1=la.length):Af lt la lb (lo++lb.drop ib++la.drop ia):=m.endB W λx hx r hr=>by
 rw[s9 (by ac_rfl),h,vh] at hr;rw[dq.mp hr,show ia=la.length-1 by ac_rfl];exact hz x (Uj hx)
theorem Hn(T:Tm M A E s N lt it κ)(W:Two N lt la lb)(hk:km st=κ)(hi:ia<la.length)(hj:ib<lb.length)
  (q:∀k,k<=la.length-ia->(∀i,i<k->lt (la.getD (ia+i) 0) (lb.getD ib 0)=ai)->(∀i,k<=i->i<la.length-ia->lt (lb.getD ib 0) (la.getD (ia+i) 0)=ai)->Q (aa k) st):
  Wy M A E s (gal left (it (lb.getD ib 0)) (dJ it la) ia (la.length-ia) 0) Q st:=
 AA T (f:=λi=>la.getD (ia+i) 0) hk (W.symm.ltA hj) (λi h=>bV (by ac_rfl)) (λi h=>⟨W.ltA (by ac_rfl),W.neAB (by ac_rfl) hj⟩) (λi j h h2=>W.upA (by ac_rfl) (by ac_rfl)) (by ac_rfl) q
theorem Fj{c1 c2:Prop}[Decidable c1][Decidable c2]{p1 p2:Array oy}{k:gn->StateT gn VL (Array oy)}{Q:Array oy->gn->Prop}(h1:c1->Q p1 st)(h2:¬c1->c2->Q p2 st)(h3:¬c1 -> ¬c2->Wy M A E s (k st) Q st):
  Wy M A E s (if c1 then jm p1 else if c2 then jm p2 else bind get k) Q st:=by
 by_cases z1:c1
 ·rw[Y4 z1];exact be (h1 z1)
 ·rw[XF z1];by_cases z2:c2
  ·rw[Y4 z2];exact be (h2 z1 z2)
  ·rw[XF z2];exact av (ul (h3 z1 z2))
theorem Kn{P:Nat->Prop}(main:(∀g,P g)->G)(key:∀g,P g):G:=main key
theorem Do{P F:List Nat->Nat->Prop}(main:(∀lo ia,F lo ia->P lo ia)->G)(key:∀lo ia,F lo ia->P lo ia):G:=main key
theorem gA{c:Prop}[hc:Decidable c]{a b:StateT σ VL α}{Q:α->σ->Prop}{st:σ}(h:c)(H:Wy M A E s a Q st):Wy M A E s (if c then a else b) Q st:=by rw[Y4 h];exact H
theorem gB{c:Prop}[hc:Decidable c]{a b:StateT σ VL α}{Q:α->σ->Prop}{st:σ}(h:¬c)(H:Wy M A E s b Q st):Wy M A E s (if c then a else b) Q st:=by rw[XF h];exact H
theorem Ja(T:Tm M A E s N lt it κ)(W:Two N lt la lb){Q:Array oy->gn->Prop}(hk:km st=κ)(ha:0<la.length)(hb:0<lb.length)(h0:lt (lb.getD 0 0) (la.getD 0 0)=ai)(hz:∀r∈lb,lt r (la.getD (la.length-1) 0)=ai)
  (q:∀l st',Af lt la lb l->SEq st st'->Q (dJ it l) st'):Wy M A E s (OU (dJ it la) (dJ it lb)) Q st:=by
 have m0:Mg lt la lb [] 0 0:=⟨by simp,.nil,λo ho=>by cases ho⟩;have m1:=m0.stepB T.trn W ha hb h0;have sa:(dJ it la).size=la.length:=oH;have sb:(dJ it lb).size=lb.length:=oH;unfold OU;refine av (xt (nv ⟨rfl,?_⟩));refine av (dE (bV hb) ?_);refine Fj (λc1=>?_) (λc1 c2=>?_) λc1 c2=>?_
 ·simp only[sa,sb,bY,beq_iff_eq] at c1 ⊢;rw[show #[it (lb.getD 0 0)]=dJ it ([]++[lb.getD 0 0]) from rfl];simp only[b5];exact q _ _ (by have:=m1.doneA W (.inr c1);simpa using this) (.refl st)
 ·simp only[sa,sb,bY,beq_iff_eq] at c2 ⊢;rw[show #[it (lb.getD 0 0)]=dJ it ([]++[lb.getD 0 0]) from rfl];simp only[b5];exact q _ _ (by have:=m1.lastA W hz c2;simpa using this) (.refl st)
 simp only[sa,sb,beq_iff_eq] at c1 c2;refine av (jq (fg
  (I:=λx c st'=>SEq st st' /\ ∃X lo ia ib g,c=(aq,X,ia,ib,g)/\X=dJ it lo/\Mg lt la lb lo ia ib/\ia+1<la.length/\ib<lb.length/\x+1<=ia+ib)
  (Q:=λc st'=>SEq st st' /\ ∃X l c',c=(aa X,c')/\X=dJ it l/\Af lt la lb l) ?step ?fin ?init) ?post)
 case fin=>
  rintro c st' ⟨_,_,lo,ia,ib,g,rfl,rfl,m,h1,h2,h3⟩;ac_rfl
 case init=>exact⟨.refl st,_,_,_,_,_,rfl,by first | rfl | ((try simp only[bY]);simp only[aX,b5,aZ,bu]),m1,(by ac_rfl),(by ac_rfl),(by ac_rfl)⟩
 case post=>
  rintro c st' ⟨e,_,l,c',rfl,rfl,d⟩;exact be (q l st' d e)
 case step=>
  rintro x c st' _ hx ⟨e,_,lo,ia,ib,g,rfl,rfl,m,h1,h2,h3⟩;dsimp only;generalize (dJ it la).size=na at sa hx ⊢;generalize (dJ it lb).size=nb at sb hx ⊢;subst sa sb;refine av (jq (fg
   (I:=λy c st'=>SEq st st' /\ ∃X lo ia' ib' ac bc,c=(aq,X,ia',ib',ac,bc)/\X=dJ it lo/\Mg lt la lb lo ia' ib'/\ia'+1<la.length/\ib'<lb.length/\ia+ib+y<=ia'+ib')
   (Q:=λc st'=>SEq st st'/\((∃X l c',c=(aa X,c')/\X=dJ it l/\Af lt la lb l) \/ ∃X lo ia' ib' ac bc,c=(aq,X,ia',ib',ac,bc)/\X=dJ it lo/\Mg lt la lb lo ia' ib'/\ia'+1<la.length/\ib'<lb.length/\ia+ib+1<=ia'+ib')) ?s1 ?f1 ?i1) ?p1)
  case i1=>exact⟨e,_,_,_,_,_,_,rfl,by first | rfl | ((try simp only[bY]);simp only[aX,b5,aZ,bu]),m,h1,h2,bj _⟩
  case f1=>
   rintro c st2 ⟨e2,_,lo2,ia2,ib2,ac,bc,rfl,rfl,m2,a1,a2,a3⟩;exact⟨e2,.inr ⟨_,_,_,_,_,_,rfl,by first | rfl | ((try simp only[bY]);simp only[aX,b5,aZ,bu]),m2,a1,a2,(by ac_rfl)⟩⟩
  case s1=>
   rintro y c st2 _ hy ⟨e2,_,lo2,ia2,ib2,ac,bc,rfl,rfl,m2,a1,a2,a3⟩;dsimp only;refine av (dE (bV a2) (av (dE (bV (by ac_rfl)) (av (T.cmp _ _ (W.symm.ltA a2) (W.ltA (by ac_rfl)) (Ne.symm (W.neAB (by ac_rfl) a2)) _ _ (e2.k.trans hk) ?_)))));cases y0:lt (lb.getD ib2 0) (la.getD ia2 0) with
   |true=>
    dsimp only;refine gA rfl ?_;refine av (dE (bV a2) ?_);have m3:=m2.stepB T.trn W (by ac_rfl) a2 y0;by_cases z:ib2+1=lb.length
    ·refine gA (beq_iff_eq.mpr z) ?_;exact be ⟨e2,.inl ⟨_,_,_,rfl,by first | rfl | ((try simp only[bY]);simp only[aX,b5,aZ,bu]),m3.doneA W (.inr z)⟩⟩
    ·refine gB (λh=>z (beq_iff_eq.mp h)) ?_;split
     ·exact be ⟨e2,.inr ⟨_,_,_,_,_,_,rfl,by first | rfl | ((try simp only[bY]);simp only[aX,b5,aZ,bu]),m3,a1,(by ac_rfl),(by ac_rfl)⟩⟩
     ·exact be ⟨e2,_,_,_,_,_,_,rfl,by first | rfl | ((try simp only[bY]);simp only[aX,b5,aZ,bu]),m3,a1,(by ac_rfl),(by ac_rfl)⟩
   |false=>
    dsimp only;refine gB (by decide) ?_;refine av (dE (bV (by ac_rfl)) ?_);have y1:lt (la.getD ia2 0) (lb.getD ib2 0)=ai:=by rw[T.tot _ _ (W.ltA (by ac_rfl)) (W.symm.ltA a2) (W.neAB (by ac_rfl) a2),y0];rfl
    have m3:=m2.stepA T.trn W (by ac_rfl) a2 y1;by_cases z:ia2+1+1=la.length
    ·refine gA (beq_iff_eq.mpr z) ?_;exact be ⟨e2,.inl ⟨_,_,_,rfl,by first | rfl | ((try simp only[bY]);simp only[aX,b5,aZ,bu]),m3.lastA W hz z⟩⟩
    ·refine gB (λh=>z (beq_iff_eq.mp h)) ?_;split
     ·exact be ⟨e2,.inr ⟨_,_,_,_,_,_,rfl,by first | rfl | ((try simp only[bY]);simp only[aX,b5,aZ,bu]),m3,(by ac_rfl),a2,(by ac_rfl)⟩⟩
     ·exact be ⟨e2,_,_,_,_,_,_,rfl,by first | rfl | ((try simp only[bY]);simp only[aX,b5,aZ,bu]),m3,(by ac_rfl),a2,(by ac_rfl)⟩
  case p1=>
   rintro c st2 ⟨e2,⟨_,l,c',rfl,rfl,d⟩ | ⟨_,lo2,ia2,ib2,ac,bc,rfl,rfl,m2,a1,a2,a3⟩⟩
   ·exact be ⟨e2,_,l,_,rfl,rfl,d⟩
   dsimp only;refine av (xt (nv ⟨rfl,?_⟩));refine av (jq (fg
    (I:=λy c st'=>SEq st st' /\ ∃X lo ia' ib' g' ac bc,c=(aq,X,ia',ib',g',ac,bc)/\X=dJ it lo/\Mg lt la lb lo ia' ib'/\ia'+1<la.length/\ib'<lb.length/\ia2+ib2+y<=ia'+ib')
    (Q:=λc st'=>SEq st st'/\((∃X l c',c=(aa X,c')/\X=dJ it l/\Af lt la lb l) \/ ∃X lo ia' ib' g' ac bc,c=(aq,X,ia',ib',g',ac,bc)/\X=dJ it lo/\Mg lt la lb lo ia' ib'/\ia'+1<la.length/\ib'<lb.length/\ia2+ib2<=ia'+ib')) ?s2 ?f2 ?i2) ?p2)
   case i2=>exact⟨e2,_,_,_,_,_,_,_,rfl,by first | rfl | ((try simp only[bY]);simp only[aX,b5,aZ,bu]),m2,a1,a2,bj _⟩
   case f2=>
    rintro c st3 ⟨e3,_,lo3,ia3,ib3,g3,ac3,bc3,rfl,rfl,m3,b1,b2,b3⟩;exact⟨e3,.inr ⟨_,_,_,_,_,_,_,rfl,by first | rfl | ((try simp only[bY]);simp only[aX,b5,aZ,bu]),m3,b1,b2,(by ac_rfl)⟩⟩
   case p2=>
    rintro c st3 ⟨e3,⟨_,l,c',rfl,rfl,d⟩ | ⟨_,lo3,ia3,ib3,g3,ac3,bc3,rfl,rfl,m3,b1,b2,b3⟩⟩
    ·exact be ⟨e3,_,l,_,rfl,rfl,d⟩
    dsimp only;refine av (ju ?_);exact be ⟨⟨e3.k,e3.a,e3.p,e3.f⟩,_,_,_,_,_,rfl,by first | rfl | ((try simp only[bY]);simp only[aX,b5,aZ,bu]),m3,b1,b2,(by ac_rfl)⟩
   case s2=>
    rintro y c st3 _ hy ⟨e3,_,lo3,ia3,ib3,g3,ac3,bc3,rfl,rfl,m3,b1,b2,b3⟩;dsimp only;refine' Kn (λkey=>?mn1) ?ky1
    case mn1=>
     by_cases hg:g3 > 1
     ·refine gA hg ?_;generalize g3-1=g;exact key g
     ·refine gB hg ?_;exact key g3
    case ky1=>
     intro g;refine av (ju ?_);refine av (dE (bV b2) ?_);refine av (Hn (left:=ap) (ia:=ia3) (ib:=ib3) T W (e3.k.trans hk) (by ac_rfl) b2 λk k1 k2 k3=>?_);dsimp only;refine' Do (F:=λlo ia=>Mg lt la lb lo ia ib3/\ia+1<la.length/\ia3<=ia/\lt (lb.getD ib3 0) (la.getD ia 0)=ai) (λkey=>?mn2) ?ky2
     case mn2=>
      by_cases kz:k > 0
      ·refine gA kz ?_;have m4:=m3.galA T.trn W b2 k1 k2;by_cases z1:ia3+k+1=la.length
       ·refine gA (beq_iff_eq.mpr z1) ?_;exact be ⟨⟨e3.k,e3.a,e3.p,e3.f⟩,.inl ⟨_,_,_,rfl,by first | rfl | ((try simp only[bY]);simp only[aX,b5,aZ,bu]),m4.lastA W hz z1⟩⟩
       refine gB (λh=>z1 (beq_iff_eq.mp h)) ?_;by_cases z2:ia3+k=la.length
       ·refine gA (beq_iff_eq.mpr z2) ?_;exact be ⟨⟨e3.k,e3.a,e3.p,e3.f⟩,.inl ⟨_,_,_,rfl,by first | rfl | ((try simp only[bY]);simp only[aX,b5,aZ,bu]),m4.doneA W (.inl z2)⟩⟩
       refine gB (λh=>z2 (beq_iff_eq.mp h)) ?_;have hl:=k3 k (bj _) (by ac_rfl);have c1:ia3+k+1<la.length:=(by ac_rfl);have c2:ia3<=ia3+k:=(by ac_rfl);rw[show dJ it lo3++(dJ it la).extract ia3 (ia3+k)=dJ it (lo3++(la.drop ia3).take k) by rw[aZ,b5,bu]];generalize lo3++(la.drop ia3).take k=lo at m4 ⊢;generalize ia3+k=ia at m4 hl c1 c2 ⊢;exact key lo ia ⟨m4,c1,c2,hl⟩
      ·refine gB kz ?_;have hl:=k3 0 (by ac_rfl) (by ac_rfl);rw[xu] at hl;exact key lo3 ia3 ⟨m3,b1,bj _,hl⟩
     case ky2=>
      rintro lo ia ⟨m4,c1,c2,hl⟩;refine av (dE (bV b2) ?_);have m5:=m4.stepB T.trn W (by ac_rfl) b2 hl;by_cases z1:ib3+1=lb.length
      ·refine gA (beq_iff_eq.mpr z1) ?_;exact be ⟨⟨e3.k,e3.a,e3.p,e3.f⟩,.inl ⟨_,_,_,rfl,by first | rfl | ((try simp only[bY]);simp only[aX,b5,aZ,bu]),m5.doneA W (.inr z1)⟩⟩
      refine gB (λh=>z1 (beq_iff_eq.mp h)) ?_;refine av (dE (bV (by ac_rfl)) ?_);refine av (Hn (left:=ai) (ia:=ib3+1) (ib:=ia) T W.symm (e3.k.trans hk) (by ac_rfl) (by ac_rfl) λj j1 j2 j3=>?_);dsimp only;rw[aX];generalize lo++[lb.getD ib3 0]=lo' at m5 ⊢;refine' Do (F:=λlo ib=>Mg lt la lb lo ia ib/\ib<lb.length/\ib3+1<=ib/\lt (la.getD ia 0) (lb.getD ib 0)=ai) (λkey=>?mn3) ?ky3
      case mn3=>
       by_cases jz:j > 0
       ·refine gA jz ?_;have m6:=m5.galB T.trn W (by ac_rfl) j1 j2;by_cases z4:ib3+1+j=lb.length
        ·refine gA (beq_iff_eq.mpr z4) ?_;exact be ⟨⟨e3.k,e3.a,e3.p,e3.f⟩,.inl ⟨_,_,_,rfl,by first | rfl | ((try simp only[bY]);simp only[aX,b5,aZ,bu]),m6.doneA W (.inr z4)⟩⟩
        refine gB (λh=>z4 (beq_iff_eq.mp h)) ?_;have hl2:=j3 j (bj _) (by ac_rfl);have d1:ib3+1+j<lb.length:=(by ac_rfl);have d2:ib3+1<=ib3+1+j:=(by ac_rfl);rw[show dJ it lo'++(dJ it lb).extract (ib3+1) (ib3+1+j)=dJ it (lo'++(lb.drop (ib3+1)).take j) by rw[aZ,b5,bu]];generalize lo'++(lb.drop (ib3+1)).take j=lo at m6 ⊢;generalize ib3+1+j=ib at m6 hl2 d1 d2 ⊢;exact key lo ib ⟨m6,d1,d2,hl2⟩
       ·refine gB jz ?_;have hl2:=j3 0 (by ac_rfl) (by ac_rfl);rw[xu] at hl2;exact key lo' (ib3+1) ⟨m5,(by ac_rfl),bj _,hl2⟩
      case ky3=>
       rintro lo ib ⟨m6,d1,d2,hl2⟩;have m7:=m6.stepA T.trn W (by ac_rfl) d1 hl2;refine av (dE (bV (by ac_rfl)) ?_);by_cases z3:ia+1+1=la.length
       ·refine gA (beq_iff_eq.mpr z3) ?_;exact be ⟨⟨e3.k,e3.a,e3.p,e3.f⟩,.inl ⟨_,_,_,rfl,by first | rfl | ((try simp only[bY]);simp only[aX,b5,aZ,bu]),m7.lastA W hz z3⟩⟩
       refine gB (λh=>z3 (beq_iff_eq.mp h)) ?_;by_cases z5:(decide (k<7)&&decide (j<7))=ai
       ·refine gA z5 ?_;exact be ⟨⟨e3.k,e3.a,e3.p,e3.f⟩,.inr ⟨_,_,_,_,_,_,_,rfl,by first | rfl | ((try simp only[bY]);simp only[aX,b5,aZ,bu]),m7,(by ac_rfl),d1,(by ac_rfl)⟩⟩
       ·refine gB z5 ?_;exact be ⟨⟨e3.k,e3.a,e3.p,e3.f⟩,_,_,_,_,_,_,_,rfl,by first | rfl | ((try simp only[bY]);simp only[aX,b5,aZ,bu]),m7,(by ac_rfl),d1,(by ac_rfl)⟩
end
noncomputable abbrev fl(lt:Nat->Nat->Bool):Nat->Nat->Bool:=λx y=>lt y x
variable {na nb:Nat}
section
variable {lt:Nat->Nat->Bool}{lo:List Nat}
theorem Trn.fl(T:Trn N lt):Trn N (fl lt):=⟨λi j k a b c h1 h2=>T.tr k j i c b a h2 h1⟩
theorem Two.fl(W:Two N lt la lb):Two N (fl lt) la.reverse lb.reverse where
 ua:=ur.mpr W.ua
 ub:=ur.mpr W.ub
 nd:=by
  have:=W.nd;refine(List.Perm.nodup_iff ?_).mp this;exact(jl la).symm.append (jl lb).symm
 bd:=λx hx=>W.bd x (by simpa using hx)
structure Hg(lt:Nat->Nat->Bool)(la lb lo:List Nat)(na nb:Nat):Prop where
 m:Mg (fl lt) la.reverse lb.reverse lo (la.length-na) (lb.length-nb)
 a:na<=la.length
 b:nb<=lb.length
theorem rK(h0:0<n)(h:n<=l.length):l.reverse.getD (l.length-n) 0=l.getD (n-1) 0:=by
 simp only[dh];rw[List.getElem?_reverse (by ac_rfl)];congr 2;ac_rfl
theorem nN(h:n<=l.length):l.reverse.drop (l.length-n)=(l.take n).reverse:=by
 rw[List.drop_reverse];congr 2;ac_rfl
theorem Iq{t:Nat}(h1:t<=n)(h:n<=l.length):(l.reverse.drop (l.length-n)).take (n-t)=((l.drop t).take (n-t)).reverse:=by
 rw[nN h,List.take_reverse,dj,lr h];congr 1;rw[show n-(n-t)=t by ac_rfl,List.drop_take]
theorem Hg.symm(h:Hg lt la lb lo na nb):Hg lt lb la lo nb na:=⟨h.m.symm,h.b,h.a⟩
theorem Hg.stepA(T:Trn N lt)(W:Two N lt la lb)(h:Hg lt la lb lo na nb)(h1:0<na)(h2:0<nb)(z:lt (lb.getD (nb-1) 0) (la.getD (na-1) 0)=ai):Hg lt la lb (lo++[la.getD (na-1) 0]) (na-1) nb:=by
 have a:=h.a;have b:=h.b;have:=h.m.stepA T.fl W.fl (by simp;ac_rfl) (by simp;ac_rfl) (by rw[rK h1 h.a,rK h2 h.b];exact z);rw[rK h1 h.a,show la.length-na+1=la.length-(na-1) by ac_rfl] at this;exact⟨this,(by ac_rfl),h.b⟩
theorem Hg.stepB(T:Trn N lt)(W:Two N lt la lb)(h:Hg lt la lb lo na nb)(h1:0<na)(h2:0<nb)(z:lt (la.getD (na-1) 0) (lb.getD (nb-1) 0)=ai):Hg lt la lb (lo++[lb.getD (nb-1) 0]) na (nb-1):=(h.symm.stepA T W.symm h2 h1 z).symm
theorem Hg.galA(T:Trn N lt)(W:Two N lt la lb)(h:Hg lt la lb lo na nb){t:Nat}(h2:0<nb)(ht:t<=na)(z:∀i,t<=i->i<na->lt (lb.getD (nb-1) 0) (la.getD i 0)=ai):Hg lt la lb (lo++((la.drop t).take (na-t)).reverse) t nb:=by
 have a:=h.a;have b:=h.b;have:=h.m.galA T.fl W.fl (k:=na-t) (by simp;ac_rfl) (by simp;ac_rfl) (λi hi=>by
  rw[rK h2 h.b,show la.length-na+i=la.length-(na-i) by ac_rfl,rK (by ac_rfl) (by ac_rfl)];exact z (na-i-1) (by ac_rfl) (by ac_rfl))
 rw[Iq ht h.a,show la.length-na+(na-t)=la.length-t by ac_rfl] at this;exact⟨this,(by ac_rfl),h.b⟩
theorem Hg.galB(T:Trn N lt)(W:Two N lt la lb)(h:Hg lt la lb lo na nb){t:Nat}(h1:0<na)(ht:t<=nb)(z:∀i,t<=i->i<nb->lt (la.getD (na-1) 0) (lb.getD i 0)=ai):Hg lt la lb (lo++((lb.drop t).take (nb-t)).reverse) na t:=(h.symm.galA T W.symm h1 ht z).symm
theorem Af.rev(d:Af (fl lt) la.reverse lb.reverse l):Af lt la lb l.reverse:=
 ⟨(jl l).trans (d.1.trans ((jl la).append (jl lb))),ur.mpr d.2⟩
theorem Hg.first(W:Two N lt la lb)(h:Hg lt la lb lo na nb)(z:∀x∈la.take na,∀r∈lb.take nb,lt r x=ai):Af lt la lb (lb.take nb++la.take na++lo.reverse):=by
 have:=(h.m.endA W.fl (by rw[nN h.a,nN h.b];intro x hx r hr;exact z x (by simpa using hx) r (by simpa using hr))).rev;rw[nN h.a,nN h.b] at this;simpa using this
theorem Hg.done(W:Two N lt la lb)(h:Hg lt la lb lo na nb)(z:na=0 \/ nb=0):Af lt la lb (la.take na++lb.take nb++lo.reverse):=by
 have:=h.first W (λx hx r hr=>by rcases z with z | z<;>subst z<;>first | (simp at hx;done) | (simp at hr;done));rcases z with z | z
 ·subst z;simpa using this
 ·subst z;simpa using this
theorem cM:(dJ it l).reverse=dJ it l.reverse:=by simp[dJ]
theorem cD:(dJ it l).extract 0 n=dJ it (l.take n):=by rw[aZ];simp
theorem Ho(T:Tm M A E s N lt it κ)(W:Two N lt la lb)(hk:km st=κ)(h1:0<na)(ha:na<=la.length)(h2:0<nb)(hb:nb<=lb.length)
  (q:∀t,t<=na->(∀i,i<t->lt (la.getD i 0) (lb.getD (nb-1) 0)=ai)->(∀i,t<=i->i<na->lt (lb.getD (nb-1) 0) (la.getD i 0)=ai)->Q (aa t) st):
  Wy M A E s (gal left (it (lb.getD (nb-1) 0)) (dJ it la) 0 na (na-1)) Q st:=
 AA T (f:=λi=>la.getD i 0) hk (W.symm.ltA (by ac_rfl)) (λi h=>by rw[ox];exact bV (by ac_rfl)) (λi h=>⟨W.ltA (by ac_rfl),W.neAB (by ac_rfl) (by ac_rfl)⟩) (λi j h h2=>W.upA h (by ac_rfl)) (by ac_rfl) q
theorem Jb(T:Tm M A E s N lt it κ)(W:Two N lt la lb){Q:Array oy->gn->Prop}(hk:km st=κ)(ha:0<la.length)(hb:0<lb.length)(h0:∀x∈la,lt (lb.getD 0 0) x=ai)(hz:lt (lb.getD (lb.length-1) 0) (la.getD (la.length-1) 0)=ai)
  (q:∀l st',Af lt la lb l->SEq st st'->Q (dJ it l) st'):Wy M A E s (OV (dJ it la) (dJ it lb)) Q st:=by
 have m0:Hg lt la lb [] la.length lb.length:=⟨⟨by simpa using(jl la).append (jl lb) |>.trans (List.Perm.refl _) |>.symm.symm.trans ((jl la).append (jl lb)).symm,.nil,λo ho=>by cases ho⟩,bj _,bj _⟩;have m1:=m0.stepA T.trn W ha hb hz;have fst:∀{lo na nb},Hg lt la lb lo na nb->nb=1->Af lt la lb (lb.take nb++la.take na++lo.reverse):=λ{lo na nb} m e=>m.first W λx hx r hr=>by
  subst e;have er:r=lb.getD 0 0:=by
   cases lb with
   |nil=>simp at hb
   |cons b l=>simpa using hr
  rw[er];exact h0 x (Ui hx)
 have sa:(dJ it la).size=la.length:=oH;have sb:(dJ it lb).size=lb.length:=oH;unfold OV;refine av (xt (nv ⟨rfl,?_⟩));refine av (dE (x:=it (la.getD (la.length-1) 0)) (by rw[sa];exact bV (by ac_rfl)) ?_);refine Fj (λc1=>?_) (λc1 c2=>?_) λc1 c2=>?_
 ·simp only[sa,sb,cD,beq_iff_eq] at c1 ⊢;rw[show #[it (la.getD (la.length-1) 0)]=dJ it ([]++[la.getD (la.length-1) 0]) from rfl];simp only[cM,b5];exact q _ _ (m1.done W (.inl c1)) (.refl st)
 ·simp only[sa,sb,cD,beq_iff_eq] at c2 ⊢;rw[show #[it (la.getD (la.length-1) 0)]=dJ it ([]++[la.getD (la.length-1) 0]) from rfl];simp only[cM,b5];exact q _ _ (fst m1 c2) (.refl st)
 simp only[sa,sb,beq_iff_eq] at c1 c2;refine av (jq (fg
  (I:=λx c st'=>SEq st st' /\ ∃X lo na nb g,c=(aq,na,nb,X,g)/\X=dJ it lo/\Hg lt la lb lo na nb/\0<na/\1<nb/\na+nb+x+1<=la.length+lb.length)
  (Q:=λc st'=>SEq st st' /\ ∃X l c',c=(aa X,c')/\X=dJ it l/\Af lt la lb l) ?step ?fin ?init) ?post)
 case fin=>
  rintro c st' ⟨_,_,lo,na,nb,g,rfl,rfl,m,h1,h2,h3⟩;ac_rfl
 case init=>exact⟨.refl st,_,[]++[la.getD (la.length-1) 0],_,_,_,rfl,rfl,by rw[sa,sb];exact m1,(by ac_rfl),(by ac_rfl),(by ac_rfl)⟩
 case post=>
  rintro c st' ⟨e,_,l,c',rfl,rfl,d⟩;exact be (q l st' d e)
 case step=>
  rintro x c st' _ hx ⟨e,_,lo,na,nb,g,rfl,rfl,m,h1,h2,h3⟩;dsimp only;generalize (dJ it la).size=sza at sa hx ⊢;generalize (dJ it lb).size=szb at sb hx ⊢;subst sa sb;refine av (jq (fg
   (I:=λy c st'=>SEq st st' /\ ∃X lo na' nb' ac bc,c=(aq,na',nb',X,ac,bc)/\X=dJ it lo/\Hg lt la lb lo na' nb'/\0<na'/\1<nb'/\na'+nb'+y<=na+nb)
   (Q:=λc st'=>SEq st st'/\((∃X l c',c=(aa X,c')/\X=dJ it l/\Af lt la lb l) \/ ∃X lo na' nb' ac bc,c=(aq,na',nb',X,ac,bc)/\X=dJ it lo/\Hg lt la lb lo na' nb'/\0<na'/\1<nb'/\na'+nb'+1<=na+nb)) ?s1 ?f1 ?i1) ?p1)
  case i1=>exact⟨e,_,_,_,_,_,_,rfl,by first | rfl | ((try simp only[cD]);simp only[aX,b5,aZ,cM]),m,h1,h2,bj _⟩
  case f1=>
   rintro c st2 ⟨e2,_,lo2,na2,nb2,ac,bc,rfl,rfl,m2,a1,a2,a3⟩;exact⟨e2,.inr ⟨_,_,_,_,_,_,rfl,by first | rfl | ((try simp only[cD]);simp only[aX,b5,aZ,cM]),m2,a1,a2,(by ac_rfl)⟩⟩
  case s1=>
   rintro y c st2 _ hy ⟨e2,_,lo2,na2,nb2,ac,bc,rfl,rfl,m2,a1,a2,a3⟩;have pa:=m2.a;have pb:=m2.b;dsimp only;refine av (dE (bV (by ac_rfl)) (av (dE (bV (by ac_rfl)) (av (T.cmp _ _ (W.symm.ltA (by ac_rfl)) (W.ltA (by ac_rfl)) (Ne.symm (W.neAB (by ac_rfl) (by ac_rfl))) _ _ (e2.k.trans hk) ?_)))));cases y0:lt (lb.getD (nb2-1) 0) (la.getD (na2-1) 0) with
   |true=>
    dsimp only;rw[Y4 rfl];refine av (dE (bV (by ac_rfl)) ?_);have m3:=m2.stepA T.trn W a1 (by ac_rfl) y0;by_cases z:na2-1=0
    ·rw[Y4 (beq_iff_eq.mpr z)];exact be ⟨e2,.inl ⟨_,_,_,rfl,by first | rfl | ((try simp only[cD]);simp only[aX,b5,aZ,cM]),m3.done W (.inl z)⟩⟩
    ·rw[XF (λh=>z (beq_iff_eq.mp h))];split
     ·exact be ⟨e2,.inr ⟨_,_,_,_,_,_,rfl,by first | rfl | ((try simp only[cD]);simp only[aX,b5,aZ,cM]),m3,(by ac_rfl),a2,(by ac_rfl)⟩⟩
     ·exact be ⟨e2,_,_,_,_,_,_,rfl,by first | rfl | ((try simp only[cD]);simp only[aX,b5,aZ,cM]),m3,(by ac_rfl),a2,(by ac_rfl)⟩
   |false=>
    dsimp only;rw[XF (by decide)];refine av (dE (bV (by ac_rfl)) ?_);have y1:lt (la.getD (na2-1) 0) (lb.getD (nb2-1) 0)=ai:=by rw[T.tot _ _ (W.ltA (by ac_rfl)) (W.symm.ltA (by ac_rfl)) (W.neAB (by ac_rfl) (by ac_rfl)),y0];rfl
    have m3:=m2.stepB T.trn W a1 (by ac_rfl) y1;by_cases z:nb2-1=1
    ·rw[Y4 (beq_iff_eq.mpr z)];exact be ⟨e2,.inl ⟨_,_,_,rfl,by first | rfl | ((try simp only[cD]);simp only[aX,b5,aZ,cM]),fst m3 z⟩⟩
    ·rw[XF (λh=>z (beq_iff_eq.mp h))];split
     ·exact be ⟨e2,.inr ⟨_,_,_,_,_,_,rfl,by first | rfl | ((try simp only[cD]);simp only[aX,b5,aZ,cM]),m3,a1,(by ac_rfl),(by ac_rfl)⟩⟩
     ·exact be ⟨e2,_,_,_,_,_,_,rfl,by first | rfl | ((try simp only[cD]);simp only[aX,b5,aZ,cM]),m3,a1,(by ac_rfl),(by ac_rfl)⟩
  case p1=>
   rintro c st2 ⟨e2,⟨_,l,c',rfl,rfl,d⟩ | ⟨_,lo2,na2,nb2,ac,bc,rfl,rfl,m2,a1,a2,a3⟩⟩
   ·exact be ⟨e2,_,l,_,rfl,rfl,d⟩
   dsimp only;refine av (xt (nv ⟨rfl,?_⟩));refine av (jq (fg
    (I:=λy c st'=>SEq st st' /\ ∃X lo na' nb' g' ac bc,c=(aq,na',nb',X,g',ac,bc)/\X=dJ it lo/\Hg lt la lb lo na' nb'/\0<na'/\1<nb'/\na'+nb'+y<=na2+nb2)
    (Q:=λc st'=>SEq st st'/\((∃X l c',c=(aa X,c')/\X=dJ it l/\Af lt la lb l) \/ ∃X lo na' nb' g' ac bc,c=(aq,na',nb',X,g',ac,bc)/\X=dJ it lo/\Hg lt la lb lo na' nb'/\0<na'/\1<nb'/\na'+nb'<=na2+nb2)) ?s2 ?f2 ?i2) ?p2)
   case i2=>exact⟨e2,_,_,_,_,_,_,_,rfl,by first | rfl | ((try simp only[cD]);simp only[aX,b5,aZ,cM]),m2,a1,a2,bj _⟩
   case f2=>
    rintro c st3 ⟨e3,_,lo3,na3,nb3,g3,ac3,bc3,rfl,rfl,m3,b1,b2,b3⟩;exact⟨e3,.inr ⟨_,_,_,_,_,_,_,rfl,by first | rfl | ((try simp only[cD]);simp only[aX,b5,aZ,cM]),m3,b1,b2,(by ac_rfl)⟩⟩
   case p2=>
    rintro c st3 ⟨e3,⟨_,l,c',rfl,rfl,d⟩ | ⟨_,lo3,na3,nb3,g3,ac3,bc3,rfl,rfl,m3,b1,b2,b3⟩⟩
    ·exact be ⟨e3,_,l,_,rfl,rfl,d⟩
    dsimp only;refine av (ju ?_);exact be ⟨⟨e3.k,e3.a,e3.p,e3.f⟩,_,_,_,_,_,rfl,by first | rfl | ((try simp only[cD]);simp only[aX,b5,aZ,cM]),m3,b1,b2,(by ac_rfl)⟩
   case s2=>
    rintro y c st3 _ hy ⟨e3,_,lo3,na3,nb3,g3,ac3,bc3,rfl,rfl,m3,b1,b2,b3⟩;have pa:=m3.a;have pb:=m3.b;dsimp only;refine' Kn (λkey=>?mn1) ?ky1
    case mn1=>
     by_cases hg:g3 > 1
     ·rw[Y4 hg];generalize g3-1=g;exact key g
     ·rw[XF hg];exact key g3
    case ky1=>
     intro g;refine av (ju ?_);refine av (dE (bV (by ac_rfl)) ?_);refine av (Ho (left:=ap) (na:=na3) (nb:=nb3) T W (e3.k.trans hk) b1 pa (by ac_rfl) pb λt k1 k2 k3=>?_);dsimp only;refine' Do (F:=λlo na=>Hg lt la lb lo na nb3/\0<na/\na<=na3/\lt (la.getD (na-1) 0) (lb.getD (nb3-1) 0)=ai) (λkey=>?mn2) ?ky2
     case mn2=>
      by_cases kz:na3-t > 0
      ·rw[Y4 kz];have m4:=m3.galA T.trn W (by ac_rfl) k1 k3;by_cases z0:t=0
       ·rw[Y4 (beq_iff_eq.mpr z0)];exact be ⟨⟨e3.k,e3.a,e3.p,e3.f⟩,.inl ⟨_,_,_,rfl,by first | rfl | ((try simp only[cD]);simp only[aX,b5,aZ,cM]),m4.done W (.inl z0)⟩⟩
       rw[XF (λh=>z0 (beq_iff_eq.mp h))];have hl:=k2 (t-1) (by ac_rfl);have c1:0<t:=(by ac_rfl);have k1':=k1;obtain⟨t',ht'⟩:∃t',t'=t:=⟨t,rfl⟩;rw[<- ht'] at m4 hl c1 k1' ⊢;rw[show dJ it lo3++((dJ it la).extract t' na3).reverse=dJ it (lo3++((la.drop t').take (na3-t')).reverse) by rw[aZ,cM,b5]];generalize lo3++((la.drop t').take (na3-t')).reverse=lo at m4 ⊢;exact key lo t' ⟨m4,c1,k1',hl⟩
      ·rw[XF kz];have et:t=na3:=(by ac_rfl);have hl:=k2 (na3-1) (by ac_rfl);subst et;exact key lo3 _ ⟨m3,b1,bj _,hl⟩
     case ky2=>
      rintro lo na ⟨m4,c1,c2,hl⟩;refine av (dE (bV (by ac_rfl)) ?_);have m5:=m4.stepB T.trn W c1 (by ac_rfl) hl;by_cases z1:nb3-1=1
      ·rw[Y4 (beq_iff_eq.mpr z1)];exact be ⟨⟨e3.k,e3.a,e3.p,e3.f⟩,.inl ⟨_,_,_,rfl,by first | rfl | ((try simp only[cD]);simp only[aX,b5,aZ,cM]),fst m5 z1⟩⟩
      rw[XF (λh=>z1 (beq_iff_eq.mp h))];refine av (dE (bV (by ac_rfl)) ?_);refine av (Ho (left:=ai) (na:=nb3-1) (nb:=na) T W.symm (e3.k.trans hk) (by ac_rfl) (by ac_rfl) (by ac_rfl) (by ac_rfl) λu j1 j2 j3=>?_);dsimp only;rw[aX];generalize lo++[lb.getD (nb3-1) 0]=lo' at m5 ⊢;refine' Do (F:=λlo nb=>Hg lt la lb lo na nb/\1<nb/\nb<=nb3-1/\lt (lb.getD (nb-1) 0) (la.getD (na-1) 0)=ai) (λkey=>?mn3) ?ky3
      case mn3=>
       by_cases jz:nb3-1-u > 0
       ·rw[Y4 jz];have m6:=m5.galB T.trn W c1 j1 j3;by_cases z4:u=1
        ·rw[Y4 (beq_iff_eq.mpr z4)];exact be ⟨⟨e3.k,e3.a,e3.p,e3.f⟩,.inl ⟨_,_,_,rfl,by first | rfl | ((try simp only[cD]);simp only[aX,b5,aZ,cM]),fst m6 z4⟩⟩
        rw[XF (λh=>z4 (beq_iff_eq.mp h))];by_cases z6:u=0
        ·rw[Y4 (beq_iff_eq.mpr z6)];exact be ⟨⟨e3.k,e3.a,e3.p,e3.f⟩,.inl ⟨_,_,_,rfl,by first | rfl | ((try simp only[cD]);simp only[aX,b5,aZ,cM]),m6.done W (.inr z6)⟩⟩
        rw[XF (λh=>z6 (beq_iff_eq.mp h))];have hl2:=j2 (u-1) (by ac_rfl);have d1:1<u:=(by ac_rfl);have j1':=j1;obtain⟨u',hu'⟩:∃u',u'=u:=⟨u,rfl⟩;rw[<- hu'] at m6 hl2 d1 j1' ⊢;rw[show dJ it lo'++((dJ it lb).extract u' (nb3-1)).reverse=dJ it (lo'++((lb.drop u').take (nb3-1-u')).reverse) by rw[aZ,cM,b5]];generalize lo'++((lb.drop u').take (nb3-1-u')).reverse=lo2 at m6 ⊢;exact key lo2 u' ⟨m6,d1,j1',hl2⟩
       ·rw[XF jz];have eu:u=nb3-1:=(by ac_rfl);have hl2:=j2 (nb3-1-1) (by ac_rfl);subst eu;exact key lo' _ ⟨m5,(by ac_rfl),bj _,hl2⟩
      case ky3=>
       rintro lo nb ⟨m6,d1,d2,hl2⟩;have m7:=m6.stepA T.trn W c1 (by ac_rfl) hl2;refine av (dE (bV (by ac_rfl)) ?_);by_cases z3:na-1=0
       ·rw[Y4 (beq_iff_eq.mpr z3)];exact be ⟨⟨e3.k,e3.a,e3.p,e3.f⟩,.inl ⟨_,_,_,rfl,by first | rfl | ((try simp only[cD]);simp only[aX,b5,aZ,cM]),m7.done W (.inl z3)⟩⟩
       rw[XF (λh=>z3 (beq_iff_eq.mp h))];by_cases z5:(decide (na3-na<7)&&decide (nb3-1-nb<7))=ai
       ·rw[Y4 z5];exact be ⟨⟨e3.k,e3.a,e3.p,e3.f⟩,.inr ⟨_,_,_,_,_,_,_,rfl,by first | rfl | ((try simp only[cD]);simp only[aX,b5,aZ,cM]),m7,(by ac_rfl),d1,(by ac_rfl)⟩⟩
       ·rw[XF z5];exact be ⟨⟨e3.k,e3.a,e3.p,e3.f⟩,_,_,_,_,_,_,_,rfl,by first | rfl | ((try simp only[cD]);simp only[aX,b5,aZ,cM]),m7,(by ac_rfl),d1,(by ac_rfl)⟩
end
variable {u v lo:Nat}{p p':List Nat}
section
variable {lt:Nat->Nat->Bool}
noncomputable abbrev g(p:List Nat)(u:Nat):Nat:=p.getD u 0
structure Sp1(it:Nat->oy)(κ:qa)(st:gn)(p:List Nat):Prop where
 k:km st=κ
 a:tj st=dJ it p
 f:uk st=aq
noncomputable abbrev t9(N:Nat)(p:List Nat):Prop:=p.Perm (fw N)
theorem nQ(h:t9 N p):p.length=N:=by rw[h.length_eq,Vz]
theorem cT(h:t9 N p)(hu:u<N):g p u<N:=by
 have hl:=nQ h;have e:g p u=p[u]'(by ac_rfl):=by simp[g,dg,show u<p.length by ac_rfl]
 rw[e];exact uw.mp (h.mem_iff.mp (eh _))
theorem vH(h:t9 N p)(hu:u<N)(hv:v<N)(n:u≠v):g p u≠g p v:=by
 have hl:=nQ h;have nd:p.Nodup:=h.nodup_iff.mpr Wf;have e1:g p u=p[u]'(by ac_rfl):=by simp[g,dg,show u<p.length by ac_rfl]
 have e2:g p v=p[v]'(by ac_rfl):=by simp[g,dg,show v<p.length by ac_rfl]
 rw[e1,e2];rcases sk n with z | z
 ·exact cf.mp nd u v (by ac_rfl) (by ac_rfl) z
 ·exact Ne.symm (cf.mp nd v u (by ac_rfl) (by ac_rfl) z)
noncomputable def Sg(lt:Nat->Nat->Bool)(p:List Nat)(lo hi:Nat):Prop:=∀u v,lo<=u->u<v->v<hi->lt (g p u) (g p v)=ai
noncomputable def Ou(p p':List Nat)(lo hi:Nat):Prop:=∀u,(u<lo \/ hi<=u)->g p' u=g p u
theorem sG(T:Tm M A E s N lt it κ){Q:Option Bool->gn->Prop}(S:Sp1 it κ st p)(P:t9 N p)(hi:i<N)(hj:j<N)(hn:i≠j)(q:Q (aa (lt (g p i) (g p j))) st):Wy M A E s (ltAt' i j) Q st:=by
 have hl:=nQ P;unfold ltAt';refine av (ul ?_);refine av (dE (x:=it (g p i)) (by rw[show (sortPriv% PySem.Builtin.SortState.a) st=dJ it p from S.a];exact bV (by ac_rfl)) (av (dE (x:=it (g p j)) (by rw[show (sortPriv% PySem.Builtin.SortState.a) st=dJ it p from S.a];exact bV (by ac_rfl)) ?_)));exact T.cmp _ _ (cT P hi) (cT P hj) (vH P hi hj hn) st Q S.k q
theorem nZ{q:Array Nat}(h:q[u]?=p[v]?):g q.toList u=g p v:=by
 unfold g;rw[dh,dh,mv,h]
theorem Ir(hj:j<=p.length):∃p',WW (dJ it p) i j ((j-i) / 2)=dJ it p'/\p'.Perm p /\ ∀u,g p' u=if i<=u/\u<j then g p (i+j-1-u) else g p u:=by
 refine⟨(WW p.toArray i j ((j-i) / 2)).toList,?_,?_,λu=>?_⟩
 ·apply sn;intro u;rw[qv (by simpa using hj)];simp only[dJ,ut,cj,mv];rw[qv (by simpa using hj)];split<;>simp
 ·have:=mirror_perm p.toArray i j ((j-i) / 2);simpa using this.toList
 ·have e:=qv (xs:=p.toArray) (i:=i) (j:=j) (by simpa using hj) u;split
  ·rename_i h;rw[Y4 h] at e;exact nZ (by rw[e];simp)
  ·rename_i h;rw[XF h] at e;exact nZ (by rw[e];simp)
theorem KI{src d:Nat}(hs:src<p.length)(hd:d<=src):∃p',VX (dJ it p) src d=dJ it p'/\p'.Perm p /\ ∀u,g p' u=if u=src-d then g p src else if src-d<u/\u<=src then g p (u-1) else g p u:=by
 refine⟨(VX p.toArray src d).toList,?_,?_,λu=>?_⟩
 ·apply sn;intro u;rw[vo (by simpa using hs) d hd];simp only[dJ,ut,cj,mv];rw[vo (by simpa using hs) d hd]
  repeat' split
  all_goals simp
 ·have:=bubble_perm p.toArray src d;simpa using this.toList
 ·have e:=vo (xs:=p.toArray) (src:=src) (by simpa using hs) d hd u;by_cases h1:u=src-d
  ·rw[Y4 h1] at e ⊢;exact nZ (by rw[e];simp)
  ·rw[XF h1] at e ⊢;by_cases h2:src-d<u/\u<=src
   ·rw[Y4 h2] at e ⊢;exact nZ (by rw[e];simp)
   ·rw[XF h2] at e ⊢;exact nZ (by rw[e];simp)
theorem IC(T:Tm M A E s N lt it κ)(S:Sp1 it κ st p)(P:t9 N p)(h1:0<n)(hn:lo+n<=N)
  (q:∀m st' p',1<=m->m<=n->Sp1 it κ st' p'->bx st'=bx st->t9 N p'->Sg lt p' lo (lo+m)->Ou p p' lo (lo+m)->Q (aa m) st'):Wy M A E s (countRun' lo n) Q st:=by
 have grow:∀{p:List Nat} {m:Nat},t9 N p->1<=m->lo+m<N->Sg lt p lo (lo+m)->lt (g p (lo+m)) (g p (lo+m-1))=ap->Sg lt p lo (lo+(m+1)):=λ{p m} P hm hN sg z u v hu huv hv=>by
  have last:lt (g p (lo+m-1)) (g p (lo+m))=ai:=by rw[T.tot _ _ (cT P (by ac_rfl)) (cT P (by ac_rfl)) (vH P (by ac_rfl) (by ac_rfl) (by ac_rfl)),z];rfl
  by_cases e:v=lo+m
  ·subst e;by_cases e2:u=lo+m-1
   ·rw[e2];exact last
   ·exact T.tr _ _ _ (cT P (by ac_rfl)) (cT P (by ac_rfl)) (cT P (by ac_rfl)) (sg u (lo+m-1) hu (by ac_rfl) (by ac_rfl)) last
  ·exact sg u v hu huv (by ac_rfl)
 unfold countRun';refine av (jq (fg
  (I:=λx c st'=>st=st'/\c=(aq,x)/\Sg lt p lo (lo+x))
  (Q:=λc st'=>st=st' /\ ∃m,c=(aq,m)/\1<=m/\m<=n/\Sg lt p lo (lo+m)/\(m<n->lt (g p (lo+m)) (g p (lo+m-1))=ai)) ?s1 ?f1 ?i1) ?p1)
 case i1=>exact⟨rfl,rfl,λu v a b c=>by ac_rfl⟩
 case f1=>
  rintro c st' ⟨rfl,rfl,sg⟩;exact⟨rfl,_,rfl,(by ac_rfl),(by ac_rfl),by rw[show max 1 n=n by ac_rfl] at sg ⊢;exact sg,λh=>by ac_rfl⟩
 case s1=>
  rintro x c st' hx1 hx ⟨rfl,rfl,sg⟩;dsimp only;refine av (sG T S P (by ac_rfl) (by ac_rfl) (by ac_rfl) ?_);cases y:lt (g p (lo+x)) (g p (lo+x-1)) with
  |true=>
   dsimp only;rw[Y4 rfl];exact be ⟨rfl,x,rfl,hx1,(by ac_rfl),sg,λ_=>y⟩
  |false=>
   dsimp only;rw[XF (by decide)];exact be ⟨rfl,rfl,grow P hx1 (by ac_rfl) sg y⟩
 case p1=>
  rintro c st' ⟨rfl,m,rfl,m1,m2,sg,fall⟩;dsimp only;by_cases z:m=n
  ·rw[Y4 (by simpa using z)];exact be (q m st p m1 m2 S rfl P sg λu h=>rfl)
  rw[XF (by simpa using z)];have fa:=fall (by ac_rfl);by_cases z2:m > 1
  ·rw[Y4 z2];refine av (sG T S P (by ac_rfl) (by ac_rfl) (by ac_rfl) ?_);rw[sg lo (lo+m-1) (bj _) (by ac_rfl) (by ac_rfl)];dsimp only;rw[Y4 rfl];exact be (q m st p m1 m2 S rfl P sg λu h=>rfl)
  rw[XF z2];obtain rfl:m=1:=(by ac_rfl);refine av (xt (nv ⟨rfl,?_⟩));refine av (jq (fg
   (I:=λx c st'=>st=st'/\c=(aq,x,0) /\ ∀u v,lo<=u->u<v->v<lo+x->lt (g p v) (g p u)=ai)
   (Q:=λc st'=>st=st' /\ ∃k,c=(aq,k,0)/\2<=k/\k<=n /\ ∀u v,lo<=u->u<v->v<lo+k->lt (g p v) (g p u)=ai) ?s2 ?f2 ?i2) ?p2)
  case i2=>
   refine⟨rfl,rfl,λu v a b c=>?_⟩;rw[show u=lo by ac_rfl,show v=lo+1 by ac_rfl];exact fa
  case f2=>
   rintro c st' ⟨rfl,rfl,d⟩;exact⟨rfl,_,rfl,(by ac_rfl),(by ac_rfl),d⟩
  case s2=>
   rintro x c st' hx1 hx ⟨rfl,rfl,d⟩;dsimp only;refine av (sG T S P (by ac_rfl) (by ac_rfl) (by ac_rfl) ?_);cases y:lt (g p (lo+x)) (g p (lo+x-1)) with
   |true=>
    dsimp only;rw[Y4 rfl,XF (by decide)];refine be ⟨rfl,rfl,λu v hu huv hv=>?_⟩;by_cases e:v=lo+x
    ·subst e;by_cases e2:u=lo+x-1
     ·rw[e2];exact y
     ·exact T.tr _ _ _ (cT P (by ac_rfl)) (cT P (by ac_rfl)) (cT P (by ac_rfl)) y (d u (lo+x-1) hu (by ac_rfl) (by ac_rfl))
    ·exact d u v hu huv (by ac_rfl)
   |false=>
    dsimp only;rw[XF (by decide)];refine av (sG T S P (by ac_rfl) (by ac_rfl) (by ac_rfl) ?_);rw[show lt (g p (lo+x-1)) (g p (lo+x))=ai by rw[T.tot _ _ (cT P (by ac_rfl)) (cT P (by ac_rfl)) (vH P (by ac_rfl) (by ac_rfl) (by ac_rfl)),y];rfl];dsimp only;rw[Y4 rfl];exact be ⟨rfl,x,rfl,hx1,(by ac_rfl),d⟩
  case p2=>
   rintro c st' ⟨rfl,k,rfl,k1,k2,d⟩;dsimp only;rw[XF (by decide)];have hl:=nQ P;obtain⟨p2,e2,pp2,gp2⟩:=Ir (it:=it) (p:=p) (i:=lo) (j:=lo+k) (by ac_rfl);have S2:Sp1 it κ (XW st (WW (tj st) lo (lo+k) ((lo+k-lo) / 2))) p2:=⟨S.k,by show WW (tj st) lo (lo+k) ((lo+k-lo) / 2)=_;rw[S.a];exact e2,S.f⟩;have P2:t9 N p2:=pp2.trans P;have sg2:Sg lt p2 lo (lo+k):=λu v hu huv hv=>by
    rw[gp2 u,gp2 v,Y4 (by ac_rfl),Y4 (by ac_rfl)];exact d _ _ (by ac_rfl) (by ac_rfl) (by ac_rfl)
   refine av (ju ?_);show Wy M A E s _ Q (XW st (WW (tj st) lo (lo+k) ((lo+k-lo) / 2)));generalize hst:XW st (WW (tj st) lo (lo+k) ((lo+k-lo) / 2))=st2 at S2 ⊢;have pe:bx st2=bx st:=by rw[<- hst]
   refine av (jq (fg
    (I:=λx c st'=>st2=st'/\c=(aq,x)/\Sg lt p2 lo (lo+x))
    (Q:=λc st'=>st2=st' /\ ∃m,c=(aq,m)/\k<=m/\m<=n/\Sg lt p2 lo (lo+m)) ?s3 ?f3 ?i3) ?p3)
   case i3=>exact⟨rfl,rfl,sg2⟩
   case f3=>
    rintro c st' ⟨rfl,rfl,sg3⟩;exact⟨rfl,_,rfl,(by ac_rfl),(by ac_rfl),sg3⟩
   case s3=>
    rintro x c st' hx1 hx ⟨rfl,rfl,sg3⟩;dsimp only;refine av (sG T S2 P2 (by ac_rfl) (by ac_rfl) (by ac_rfl) ?_);cases y:lt (g p2 (lo+x)) (g p2 (lo+x-1)) with
    |true=>
     dsimp only;rw[Y4 rfl];exact be ⟨rfl,x,rfl,hx1,(by ac_rfl),sg3⟩
    |false=>
     dsimp only;rw[XF (by decide)];exact be ⟨rfl,rfl,grow P2 (by ac_rfl) (by ac_rfl) sg3 y⟩
   case p3=>
    rintro c st' ⟨rfl,m,rfl,m1,m2,sg3⟩;exact be (q m st2 p2 (by ac_rfl) m2 S2 pe P2 sg3 λu h=>by rw[gp2 u,XF (by ac_rfl)])
theorem Mj(T:Tm M A E s N lt it κ){ok:Nat}{Q:Bool->gn->Prop}(S:Sp1 it κ st p)(P:t9 N p)(h1:1<=ok)(ho:ok<=n)(hn:lo+n<=N)(sg:Sg lt p lo (lo+ok))
  (q:∀st' p',Sp1 it κ st' p'->bx st'=bx st->t9 N p'->Sg lt p' lo (lo+n)->Ou p p' lo (lo+n)->Q ai st'):Wy M A E s (binarySort' lo n ok) Q st:=by
 unfold binarySort';refine av (jq (fg
  (I:=λk c st'=>c=(aq,()) /\ ∃p',Sp1 it κ st' p'/\bx st'=bx st/\t9 N p'/\Sg lt p' lo (lo+k)/\Ou p p' lo (lo+n))
  (Q:=λc st'=>c=(aq,()) /\ ∃p',Sp1 it κ st' p'/\bx st'=bx st/\t9 N p'/\Sg lt p' lo (lo+n)/\Ou p p' lo (lo+n)) ?s1 ?f1 ?i1) ?p1)
 case i1=>exact⟨rfl,p,S,rfl,P,by rw[show max ok 1=ok by ac_rfl];exact sg,λu h=>rfl⟩
 case f1=>
  rintro c st' ⟨rfl,p',S',e,P',sg',o⟩;exact⟨rfl,p',S',e,P',by rw[show max (max ok 1) n=n by ac_rfl] at sg';exact sg',o⟩
 case p1=>
  rintro c st' ⟨rfl,p',S',e,P',sg',o⟩;exact be (q st' p' S' e P' sg' o)
 case s1=>
  rintro k c st' hk1 hk ⟨rfl,p',S',e,P',sg',o⟩;dsimp only;refine av (jq (fg
   (I:=λx c st2=>st'=st2 /\ ∃l r,c=(aq,l,r)/\l<=r/\r<=k/\r-l+x<=k/\(∀u,u<l->lt (g p' (lo+u)) (g p' (lo+k))=ai) /\ ∀u,r<=u->u<k->lt (g p' (lo+k)) (g p' (lo+u))=ai)
   (Q:=λc st2=>st'=st2 /\ ∃l,c=(aq,l,l)/\l<=k/\(∀u,u<l->lt (g p' (lo+u)) (g p' (lo+k))=ai) /\ ∀u,l<=u->u<k->lt (g p' (lo+k)) (g p' (lo+u))=ai) ?s2 ?f2 ?i2) ?p2)
  case i2=>exact⟨rfl,0,k,rfl,(by ac_rfl),(by ac_rfl),(by ac_rfl),λu h=>by ac_rfl,λu h h2=>by ac_rfl⟩
  case f2=>
   rintro c st2 ⟨rfl,l,r,rfl,l1,l2,l3,l4,l5⟩;obtain rfl:l=r:=(by ac_rfl);exact⟨rfl,l,rfl,l2,l4,l5⟩
  case s2=>
   rintro x c st2 _ hx ⟨rfl,l,r,rfl,l1,l2,l3,l4,l5⟩;dsimp only;by_cases z:l >= r
   ·rw[Y4 z];obtain rfl:l=r:=(by ac_rfl);exact be ⟨rfl,l,rfl,l2,l4,l5⟩
   rw[XF z];refine av (sG T S' P' (by ac_rfl) (by ac_rfl) (by ac_rfl) ?_);cases y:lt (g p' (lo+k)) (g p' (lo+(l+r) / 2)) with
   |true=>
    dsimp only;rw[Y4 rfl];refine be ⟨rfl,_,_,rfl,(by ac_rfl),(by ac_rfl),(by ac_rfl),l4,λu hu hk2=>?_⟩;by_cases e2:u=(l+r) / 2
    ·rw[e2];exact y
    ·exact T.tr _ _ _ (cT P' (by ac_rfl)) (cT P' (by ac_rfl)) (cT P' (by ac_rfl)) y (sg' _ _ (by ac_rfl) (by ac_rfl) (by ac_rfl))
   |false=>
    dsimp only;rw[XF (by decide)];have y1:lt (g p' (lo+(l+r) / 2)) (g p' (lo+k))=ai:=by rw[T.tot _ _ (cT P' (by ac_rfl)) (cT P' (by ac_rfl)) (vH P' (by ac_rfl) (by ac_rfl) (by ac_rfl)),y];rfl
    refine be ⟨rfl,_,_,rfl,(by ac_rfl),(by ac_rfl),(by ac_rfl),λu hu=>?_,l5⟩;by_cases e2:u=(l+r) / 2
    ·rw[e2];exact y1
    ·exact T.tr _ _ _ (cT P' (by ac_rfl)) (cT P' (by ac_rfl)) (cT P' (by ac_rfl)) (sg' _ _ (by ac_rfl) (by ac_rfl) (by ac_rfl)) y1
  case p2=>
   rintro c st2 ⟨rfl,l,rfl,l2,l4,l5⟩;dsimp only;have hl:=nQ P';obtain⟨p2,e2,pp2,gp2⟩:=KI (it:=it) (p:=p') (src:=lo+k) (d:=lo+k-(lo+l)) (by ac_rfl) (by ac_rfl);have S2:Sp1 it κ (XW st' (VX (tj st') (lo+k) (lo+k-(lo+l)))) p2:=⟨S'.k,by show VX (tj st') (lo+k) (lo+k-(lo+l))=_;rw[S'.a];exact e2,S'.f⟩;refine av (ju ?_);refine be ⟨rfl,p2,S2,e,pp2.trans P',λu v hu huv hv=>?_,λu h=>?_⟩
   ·rw[gp2 u,gp2 v];by_cases c1:u=lo+k-(lo+k-(lo+l))
    ·rw[Y4 c1,XF (by ac_rfl),Y4 (by ac_rfl)];have:=l5 (v-1-lo) (by ac_rfl) (by ac_rfl);rw[show lo+(v-1-lo)=v-1 by ac_rfl] at this;exact this
    ·rw[XF c1];by_cases c2:v=lo+k-(lo+k-(lo+l))
     ·rw[Y4 c2,XF (by ac_rfl)];have:=l4 (u-lo) (by ac_rfl);rw[show lo+(u-lo)=u by ac_rfl] at this;exact this
     ·rw[XF c2];split
      ·split
       ·exact sg' _ _ (by ac_rfl) (by ac_rfl) (by ac_rfl)
       ·ac_rfl
      ·split
       ·exact sg' _ _ (by ac_rfl) (by ac_rfl) (by ac_rfl)
       ·exact sg' _ _ (by ac_rfl) (by ac_rfl) (by ac_rfl)
   ·rw[gp2 u,XF (by ac_rfl),XF (by ac_rfl)];exact o u h
end
variable {b:Nat}
theorem Hq:∀(l:List α) (j0:Nat) (xs:Array α),b+j0+l.length<=xs.size -> ∀u,((l.zipIdx j0).foldl (λa (q:α×Nat)=>a.setIfInBounds (b+q.2) q.1) xs)[u]?=if b+j0<=u/\u<b+j0+l.length then l[u-(b+j0)]? else xs[u]?:=by
 intro l;induction l with
 |nil=>
  intro j0 xs h u;rw[XF (by simp only[yt];ac_rfl)];rfl
 |cons x l ih=>
  intro j0 xs h u;simp only[bp] at h ⊢;rw[W7,Wp,ih (j0+1) _ (by simp;ac_rfl) u];by_cases c:u=b+j0
  ·subst c;rw[XF (by ac_rfl),Y4 (by ac_rfl)];simp[show b+j0<xs.size by ac_rfl]
  ·by_cases c2:b+(j0+1)<=u/\u<b+(j0+1)+l.length
   ·rw[Y4 c2,Y4 (by ac_rfl),show u-(b+j0)=u-(b+(j0+1))+1 by ac_rfl];rfl
   ·rw[XF c2,XF (by ac_rfl),Array.getElem?_setIfInBounds_ne (by ac_rfl)]
section
variable {lt:Nat->Nat->Bool}
theorem J1(h:b+l.length<=p.length):((dJ it l).toList.zipIdx.foldl (λa (q:oy×Nat)=>a.setIfInBounds (b+q.2) q.1) (dJ it p))=dJ it (p.take b++l++p.drop (b+l.length)):=by
 apply sn;intro u;have:=Hq (b:=b) (dJ it l).toList 0 (dJ it p) (by simpa [dJ] using h) u;rw[this];simp only[dJ,List.toList_toArray,bi,xu,ut,cj];by_cases c:b<=u/\u<b+l.length
 ·rw[Y4 c,cm,ay (by simp;ac_rfl),bh (by simp;ac_rfl)];simp[dj,lr (show b<=p.length by ac_rfl)]
 ·rw[XF c];by_cases c2:u<b
  ·rw[cm,bh (by simp;ac_rfl),fz c2]
  ·rw[ay (by simp;ac_rfl)];simp only[br,dj,sr];congr 2;ac_rfl
theorem A9(h:b+l.length<=p.length):g (p.take b++l++p.drop (b+l.length)) u=if u<b then g p u else if u<b+l.length then g l (u-b) else g p u:=by
 unfold g;simp only[dh];by_cases c2:u<b
 ·rw[Y4 c2,cm,bh (by simp;ac_rfl),fz c2]
 ·rw[XF c2];by_cases c:u<b+l.length
  ·rw[Y4 c,cm,ay (by simp;ac_rfl),bh (by simp;ac_rfl)];simp[dj,lr (show b<=p.length by ac_rfl)]
  ·rw[XF c,ay (by simp;ac_rfl)];simp only[br,dj,sr];congr 2;ac_rfl
theorem uB(h:b+n<=p.length)(hx:x∈(p.drop b).take n):∃u,b<=u/\u<b+n/\x=g p u:=by
 obtain⟨i,hi,e⟩:=ed.mp hx;simp at hi;refine⟨b+i,(by ac_rfl),(by ac_rfl),?_⟩;rw[<- e];simp[g,dg,show b+i<p.length by ac_rfl]
theorem zF(hi:i<n)(h:b+n<=p.length):((p.drop b).take n).getD i 0=g p (b+i):=by
 unfold g;simp only[dh];rw[fz hi,sr]
theorem G4(h:b+n<=p.length)(sg:Sg lt p b (b+n)):((p.drop b).take n).Pairwise λx y=>lt x y=ai:=by
 rw[cf];intro i j hi hj hij;simp at hi hj;have e1:((p.drop b).take n)[i]'(by simp;ac_rfl)=g p (b+i):=by simp[g,dg,show b+i<p.length by ac_rfl]
 have e2:((p.drop b).take n)[j]'(by simp;ac_rfl)=g p (b+j):=by simp[g,dg,show b+j<p.length by ac_rfl]
 rw[e1,e2];exact sg _ _ (by ac_rfl) (by ac_rfl) (by ac_rfl)
theorem EQ{a m:Nat}:(p.drop a).take m++(p.drop (a+m)).take b=(p.drop a).take (m+b):=by
 rw[List.take_add,Ux]
theorem GH(h:b+n<=p.length)(d:l.Perm ((p.drop b).take n)):(p.take b++l++p.drop (b+l.length)).Perm p:=by
 have el:l.length=n:=by rw[d.length_eq];simp;ac_rfl
 rw[el];have e:p.take b++(p.drop b).take n++p.drop (b+n)=p:=by
  rw[cm,<- Ux,jt,jt]
 refine List.Perm.trans ?_ (List.Perm.of_eq e);exact(d.append_left _).append_right _
theorem IY{a:σ}{Q:PUnit->σ->Prop}{st:σ}(h:Q ⟨⟩ a):Wy M A E s (set a:StateT σ VL PUnit) Q st:=by
 unfold Wy;rw[StateT.run_set];exact az ⟨rfl,h⟩
theorem PN(T:Tm M A E s N lt it κ){sa sb pw:Nat}{Q:Bool->gn->Prop}(S:Sp1 it κ st p)(P:t9 N p)(e1:(bx st)[i]?=aa (sa,na,pw))(e2:(bx st)[i+1]?=aa (sb,nb,x))(hs:sb=sa+na)(ha:0<na)(hb:0<nb)(hN:sb+nb<=N)
  (ga:Sg lt p sa (sa+na)) (gb:Sg lt p sb (sb+nb))
  (q:∀st' p',Sp1 it κ st' p'->bx st'=((bx st).setIfInBounds i (sa,na+nb,pw)).eraseIdxIfInBounds (i+1)->t9 N p'->Sg lt p' sa (sa+(na+nb))->Ou p p' sa (sa+(na+nb))->Q ai st'):Wy M A E s (XM i) Q st:=by
 have hl:=nQ P;subst hs;unfold XM;refine av (ul ?_);have e1':((sortPriv% PySem.Builtin.SortState.pending) st)[i]?=aa (sa,na,pw):=e1;have e2':((sortPriv% PySem.Builtin.SortState.pending) st)[i+1]?=aa (sa+na,nb,x):=e2;have ea:(sortPriv% PySem.Builtin.SortState.a) st=dJ it p:=S.a;dsimp only;rw[e1',e2'];dsimp only;refine av (IY ?_);have S1:Sp1 it κ (wo (km st) (tj st) (((bx st).setIfInBounds i (sa,na+nb,pw)).eraseIdxIfInBounds (i+1)) (XN st) (uk st)) p:=⟨S.k,S.a,S.f⟩;show Wy M A E s _ Q (wo (km st) (tj st) (((bx st).setIfInBounds i (sa,na+nb,pw)).eraseIdxIfInBounds (i+1)) (XN st) (uk st));generalize hst:wo (km st) (tj st) (((bx st).setIfInBounds i (sa,na+nb,pw)).eraseIdxIfInBounds (i+1)) (XN st) (uk st)=st1 at S1 ⊢;have hp1:bx st1=((bx st).setIfInBounds i (sa,na+nb,pw)).eraseIdxIfInBounds (i+1):=by rw[<- hst]
 rw[ea];refine av (dE (bV (by ac_rfl)) ?_);refine av (AA T (left:=ap) (f:=λi=>g p (sa+i)) S1.k (cT P (by ac_rfl)) (λi h=>bV (by ac_rfl)) (λi h=>⟨cT P (by ac_rfl),vH P (by ac_rfl) (by ac_rfl) (by ac_rfl)⟩) (λi j h h2=>ga _ _ (by ac_rfl) (by ac_rfl) (by ac_rfl)) (by ac_rfl) λk k1 k2 k3=>?_);have bAll:∀v,sa+na<=v->v<sa+na+nb -> ∀y,y<N->lt y (g p (sa+na))=ai->lt y (g p v)=ai:=λv h1 h2 y hy z=>by
  by_cases c:v=sa+na
  ·rw[c];exact z
  ·exact T.tr _ _ _ hy (cT P (by ac_rfl)) (cT P (by ac_rfl)) z (gb _ _ (by ac_rfl) (by ac_rfl) (by ac_rfl))
 dsimp only;by_cases z:na-k=0
 ·rw[Y4 (by simpa using z)];refine be (q st1 p S1 hp1 P (λu v hu huv hv=>?_) λu h=>rfl);by_cases c:v<sa+na
  ·exact ga u v hu huv c
  ·by_cases c2:sa+na<=u
   ·exact gb u v c2 huv (by ac_rfl)
   ·refine bAll v (by ac_rfl) (by ac_rfl) _ (cT P (by ac_rfl)) ?_;have:=k2 (u-sa) (by ac_rfl);rw[show sa+(u-sa)=u by ac_rfl] at this;exact this
 rw[XF (by simpa using z),show sa+k+(na-k)-1=sa+na-1 by ac_rfl];refine av (dE (bV (by ac_rfl)) ?_);refine av (AA T (left:=ai) (f:=λi=>g p (sa+na+i)) S1.k (cT P (by ac_rfl)) (λi h=>bV (by ac_rfl)) (λi h=>⟨cT P (by ac_rfl),vH P (by ac_rfl) (by ac_rfl) (by ac_rfl)⟩) (λi j h h2=>gb _ _ (by ac_rfl) (by ac_rfl) (by ac_rfl)) (by ac_rfl) λm j1 j2 j3=>?_);dsimp only;have z2:m≠0:=λc=>by
  have y1:=j3 0 (by ac_rfl) (by ac_rfl);have y2:=k3 (na-1) (by ac_rfl) (by ac_rfl);rw[show sa+(na-1)=sa+na-1 by ac_rfl] at y2;have y3:lt (g p (sa+na)) (g p (sa+na-1))=ai:=y2;have y4:lt (g p (sa+na-1)) (g p (sa+na))=ai:=y1;rw[T.tot _ _ (cT P (by ac_rfl)) (cT P (by ac_rfl)) (vH P (by ac_rfl) (by ac_rfl) (by ac_rfl)),y3] at y4;cases y4
 rw[XF (by simpa using z2),aZ,aZ,show sa+na-(sa+k)=na-k by ac_rfl,show sa+na+m-(sa+na)=m by ac_rfl];have wh:(p.drop (sa+k)).take (na-k)++(p.drop (sa+na)).take m=(p.drop (sa+k)).take (na-k+m):=by
  have:=EQ (p:=p) (a:=sa+k) (m:=na-k) (b:=m);rw[show sa+k+(na-k)=sa+na by ac_rfl] at this;exact this
 have nd:p.Nodup:=P.nodup_iff.mpr Wf;have W:Two N lt ((p.drop (sa+k)).take (na-k)) ((p.drop (sa+na)).take m):=by
  refine⟨G4 (by ac_rfl) λu v a b c=>ga u v (by ac_rfl) b (by ac_rfl),G4 (by ac_rfl) λu v a b c=>gb u v (by ac_rfl) b (by ac_rfl),?_,λy hy=>?_⟩
  ·rw[wh];exact nd.sublist ((xb _ _).trans (wa _ _))
  ·rw[wh] at hy;obtain⟨u,h1,h2,rfl⟩:=uB (by ac_rfl) hy;exact cT P (by ac_rfl)
 have la0:0<((p.drop (sa+k)).take (na-k)).length:=by simp;ac_rfl
 have lb0:0<((p.drop (sa+na)).take m).length:=by simp;ac_rfl
 have ll:((p.drop (sa+k)).take (na-k)).length=na-k:=by simp;ac_rfl
 have lm:((p.drop (sa+na)).take m).length=m:=by simp;ac_rfl
 have fin:∀l,Af lt ((p.drop (sa+k)).take (na-k)) ((p.drop (sa+na)).take m) l -> ∃p2,(dJ it l).toList.zipIdx.foldl (λa (q:oy×Nat)=>a.setIfInBounds (sa+k+q.2) q.1) (dJ it p)=dJ it p2/\t9 N p2/\Sg lt p2 sa (sa+(na+nb))/\Ou p p2 sa (sa+(na+nb)):=λl d=>by
  have d1:=d.1;rw[wh] at d1;have el:l.length=na-k+m:=by rw[d1.length_eq];simp;ac_rfl
  have mem:∀y∈l,∃u,sa+k<=u/\u<sa+na+m/\y=g p u:=λy hy=>by
   obtain⟨u,h1,h2,h3⟩:=uB (by ac_rfl) (d1.mem_iff.mp hy);exact⟨u,h1,(by ac_rfl),h3⟩
  have lg:∀u,u<l.length->g l u∈l:=λu hu=>by
   have e:g l u=l[u]:=by simp[g,dg,hu]
   rw[e];exact eh hu
  refine⟨_,J1 (by ac_rfl),(GH (n:=na-k+m) (by ac_rfl) d1).trans P,λu v hu huv hv=>?_,λu h=>?_⟩
  ·have A1:∀u,sa<=u->u<sa+k->lt (g p u) (g p (sa+na))=ai:=λu h1 h2=>by
    have:=k2 (u-sa) (by ac_rfl);rw[show sa+(u-sa)=u by ac_rfl] at this;exact this
   have B1:∀w,sa+na+m<=w->w<sa+na+nb->lt (g p (sa+na-1)) (g p w)=ai:=λw h1 h2=>by
    have:=j3 (w-(sa+na)) (by ac_rfl) (by ac_rfl);rw[show sa+na+(w-(sa+na))=w by ac_rfl] at this;exact this
   rw[A9 (by ac_rfl),A9 (by ac_rfl)];by_cases cu:u<sa+k
   ·rw[Y4 cu];by_cases cv:v<sa+k
    ·rw[Y4 cv];exact ga u v hu huv (by ac_rfl)
    ·rw[XF cv];by_cases cv2:v<sa+k+l.length
     ·rw[Y4 cv2];obtain⟨w,w1,w2,w3⟩:=mem _ (lg (v-(sa+k)) (by ac_rfl));rw[w3];by_cases cw:w<sa+na
      ·exact ga u w hu (by ac_rfl) cw
      ·exact bAll w (by ac_rfl) (by ac_rfl) _ (cT P (by ac_rfl)) (A1 u hu cu)
     ·rw[XF cv2];exact bAll v (by ac_rfl) (by ac_rfl) _ (cT P (by ac_rfl)) (A1 u hu cu)
   ·rw[XF cu,XF (by ac_rfl:¬v<sa+k)];by_cases cu2:u<sa+k+l.length
    ·rw[Y4 cu2];by_cases cv2:v<sa+k+l.length
     ·rw[Y4 cv2];have e1:g l (u-(sa+k))=l[u-(sa+k)]'(by ac_rfl):=by simp[g,dg,show u-(sa+k)<l.length by ac_rfl]
      have e2:g l (v-(sa+k))=l[v-(sa+k)]'(by ac_rfl):=by simp[g,dg,show v-(sa+k)<l.length by ac_rfl]
      rw[e1,e2];exact cf.mp d.2 _ _ (by ac_rfl) (by ac_rfl) (by ac_rfl)
     ·rw[XF cv2];obtain⟨w,w1,w2,w3⟩:=mem _ (lg (u-(sa+k)) (by ac_rfl));rw[w3];by_cases cw:w<sa+na
      ·by_cases c3:w=sa+na-1
       ·rw[c3];exact B1 v (by ac_rfl) (by ac_rfl)
       ·exact T.tr _ _ _ (cT P (by ac_rfl)) (cT P (by ac_rfl)) (cT P (by ac_rfl)) (ga w (sa+na-1) (by ac_rfl) (by ac_rfl) (by ac_rfl)) (B1 v (by ac_rfl) (by ac_rfl))
      ·exact gb w v (by ac_rfl) (by ac_rfl) (by ac_rfl)
    ·rw[XF cu2,XF (by ac_rfl)];exact gb u v (by ac_rfl) huv (by ac_rfl)
  ·rw[A9 (by ac_rfl)];by_cases cu:u<sa+k
   ·rw[Y4 cu]
   ·rw[XF cu,XF (by ac_rfl)]
 have xl:∀y∈(p.drop (sa+k)).take (na-k),lt (g p (sa+na)) y=ai:=λy hy=>by
  obtain⟨u,h1,h2,rfl⟩:=uB (by ac_rfl) hy;have:=k3 (u-sa) (by ac_rfl) (by ac_rfl);rw[show sa+(u-sa)=u by ac_rfl] at this;exact this
 have yl:∀y∈(p.drop (sa+na)).take m,lt y (g p (sa+na-1))=ai:=λy hy=>by
  obtain⟨u,h1,h2,rfl⟩:=uB (by ac_rfl) hy;have:=j2 (u-(sa+na)) (by ac_rfl);rw[show sa+na+(u-(sa+na))=u by ac_rfl] at this;exact this
 have b0:((p.drop (sa+na)).take m).getD 0 0=g p (sa+na):=zF (by ac_rfl) (by ac_rfl);have a0:((p.drop (sa+k)).take (na-k)).getD 0 0=g p (sa+k):=zF (by ac_rfl) (by ac_rfl);have aL:((p.drop (sa+k)).take (na-k)).getD (((p.drop (sa+k)).take (na-k)).length-1) 0=g p (sa+na-1):=by
  rw[ll,zF (by ac_rfl) (by ac_rfl)];congr 1;ac_rfl
 split
 ·refine av (Ja T W S1.k la0 lb0 (by rw[b0];exact xl _ (by rw[a0,<- a0,dh,ar la0];exact eh la0)) (by rw[aL];exact yl) λl st' d se=>?_);obtain⟨p2,f1,f2,f3,f4⟩:=fin l d;refine av (ju (av (ul ?_)));have hf:(uk st').isNone=ai:=by rw[se.f,S1.f];rfl
  have S2:tj st'=dJ it p:=by rw[se.a,S1.a]
  refine be ?_;refine(congrArg (λb=>Q b _) hf).mpr (q _ p2 ⟨se.k.trans S1.k,?_,se.f.trans S1.f⟩ (se.p.trans hp1) f2 f3 f4);show yp _ (tj st') _=_;rw[S2];exact f1
 ·refine av (Jb T W S1.k la0 lb0 (by rw[b0];exact xl) (by rw[aL];exact yl _ (by rw[dh,ar (by ac_rfl)];exact eh _)) λl st' d se=>?_);obtain⟨p2,f1,f2,f3,f4⟩:=fin l d;refine av (ju (av (ul ?_)));have hf:(uk st').isNone=ai:=by rw[se.f,S1.f];rfl
  have S2:tj st'=dJ it p:=by rw[se.a,S1.a]
  refine be ?_;refine(congrArg (λb=>Q b _) hf).mpr (q _ p2 ⟨se.k.trans S1.k,?_,se.f.trans S1.f⟩ (se.p.trans hp1) f2 f3 f4);show yp _ (tj st') _=_;rw[S2];exact f1
noncomputable def oJ(lt:Nat->Nat->Bool)(p:List Nat):Nat->List (Nat×Nat×Nat)->Nat->Prop
 |b,[],e=>b=e
 |b,(a,n,_)::r,e=>a=b/\0<n/\Sg lt p b (b+n)/\oJ lt p (b+n) r e
theorem oJ.le:∀{r:List (Nat×Nat×Nat)} {b e:Nat},oJ lt p b r e->b+r.length<=e
 | [],b,e,h=>by have:b=e:=h;simp;ac_rfl
 | (a,n,w)::r,b,e,h=>by
  have:=h.2.2.2.le;have:=h.2.1;simp;ac_rfl
theorem oJ.split:∀{xs ys:List (Nat×Nat×Nat)} {b e:Nat},oJ lt p b (xs++ys) e -> ∃m,oJ lt p b xs m/\oJ lt p m ys e
 | [],ys,b,e,h=>⟨b,rfl,h⟩
 | (a,n,w)::xs,ys,b,e,h=>by
  obtain⟨m,h1,h2⟩:=oJ.split (xs:=xs) h.2.2.2;exact⟨m,⟨h.1,h.2.1,h.2.2.1,h1⟩,h2⟩
theorem oJ.join:∀{xs ys:List (Nat×Nat×Nat)} {b m e:Nat},oJ lt p b xs m->oJ lt p m ys e->oJ lt p b (xs++ys) e
 | [],ys,b,m,e,h1,h2=>by have z:b=m:=h1;subst z;exact h2
 | (a,n,w)::xs,ys,b,m,e,h1,h2=>⟨h1.1,h1.2.1,h1.2.2.1,h1.2.2.2.join h2⟩
theorem oJ.same:∀{xs:List (Nat×Nat×Nat)} {b e:Nat},oJ lt p b xs e->(∀u,b<=u->u<e->g p' u=g p u)->oJ lt p' b xs e
 | [],b,e,h,_=>h
 | (a,n,w)::xs,b,e,h,z=>by
  have l:=h.2.2.2.le;refine⟨h.1,h.2.1,λu v hu huv hv=>?_,h.2.2.2.same λu h1 h2=>z u (by ac_rfl) h2⟩;rw[z u hu (by ac_rfl),z v (by ac_rfl) (by ac_rfl)];exact h.2.2.1 u v hu huv hv
theorem HH{l:List α}(h:i+1<l.length):∃xs x y ys,l=xs++x::y::ys/\xs.length=i:=
 ⟨l.take i,l[i]'(by ac_rfl),l[i+1],l.drop (i+2),by
  rw[<- fc h,<- fc (by ac_rfl:i<l.length),jt],by simp;ac_rfl⟩
theorem Co(T:Tm M A E s N lt it κ){Q:Bool->gn->Prop}(S:Sp1 it κ st p)(P:t9 N p)(hi:i+1<(bx st).size)(hN:lo<=N)(c:oJ lt p 0 (bx st).toList lo)
  (q:∀st' p',Sp1 it κ st' p'->t9 N p'->oJ lt p' 0 (bx st').toList lo->(bx st').size+1=(bx st).size->Ou p p' 0 lo->Q ai st'):Wy M A E s (XM i) Q st:=by
 obtain⟨xs,⟨a,n,w⟩,⟨b,m,x⟩,ys,e,el⟩:=HH (l:=(bx st).toList) (i:=i) (by simpa using hi);rw[e] at c;obtain⟨k,c1,c2⟩:=c.split;obtain⟨rfl,n0,sg,rfl,m0,sg2,c3⟩:=c2;have l1:=c1.le;have l3:=c3.le;have e1:(bx st)[i]?=aa (a,n,w):=by rw[<- mv,e,ay (by ac_rfl),el];simp
 have e2:(bx st)[i+1]?=aa (a+n,m,x):=by rw[<- mv,e,ay (by ac_rfl),el];simp
 refine PN T S P e1 e2 rfl n0 m0 (by ac_rfl) sg sg2 λst' p' S' hp P' sg' o=>?_;have ep:(bx st').toList=xs++(a,n+m,w)::ys:=by
  rw[hp];simp only[Array.toList_eraseIdxIfInBounds,Array.toList_setIfInBounds,e];rw[List.set_append_right _ _ (by ac_rfl),el,Nat.sub_self,List.set_cons_zero,List.eraseIdx_append_of_length_le (by ac_rfl),el];simp
 refine q st' p' S' P' ?_ ?_ λu h=>o u (by ac_rfl)
 ·rw[ep];exact(c1.same λu h1 h2=>o u (.inl h2)).join ⟨rfl,(by ac_rfl),sg',by
   rw[<- X3];exact c3.same λu h1 h2=>o u (.inr (by ac_rfl))⟩
 ·rw[<- qz,ep,<- qz,e];simp;ac_rfl
theorem oJ.power{pd:Array (Nat×Nat×Nat)}{e w:Nat}(c:oJ lt p b pd.toList e):oJ lt p b (pd.modify i λx=>(x.1,x.2.1,w)).toList e:=by
 rw[Array.toList_modify];generalize pd.toList=l at c;induction l generalizing i b with
 |nil=>cases i<;>exact c
 |cons x l ih=>
  obtain⟨a,n,v⟩:=x;cases i with
  |zero=>exact c
  |succ i=>exact⟨c.1,c.2.1,c.2.2.1,ih c.2.2.2⟩
theorem oJ.push{pd:Array (Nat×Nat×Nat)}{lo n:Nat}(c:oJ lt p 0 pd.toList lo)(h:0<n)(sg:Sg lt p lo (lo+n)):oJ lt p 0 (pd.push (lo,n,0)).toList (lo+n):=by
 rw[Array.toList_push];exact c.join ⟨rfl,h,sg,rfl⟩
theorem L7(T:Tm M A E s N lt it κ){Q:Unit->gn->Prop}(S:Sp1 it κ st p)(P:t9 N p)(hp:bx st = #[])
  (q:∀st' p',Sp1 it κ st' p'->t9 N p'->Sg lt p' 0 N->Q () st'):Wy M A E s sortRuns' Q st:=by
 have hl:=nQ P;rw[sortRuns'_eq];refine av (ul ?_);dsimp only;have hsz:(tj st).size=N:=by rw[S.a,oH,hl]
 simp only[hsz];generalize minRun' N N 0=mr;refine av (jq (fg
  (I:=λx c st'=>∃lo p',c=(aq,lo)/\Sp1 it κ st' p'/\t9 N p'/\oJ lt p' 0 (bx st').toList lo/\lo<=N/\x<=lo)
  (Q:=λc st'=>∃p',c=(aq,N)/\Sp1 it κ st' p'/\t9 N p'/\oJ lt p' 0 (bx st').toList N) ?step ?fin ?init) ?post)
 case init=>exact⟨0,p,rfl,S,P,by rw[hp];rfl,(by ac_rfl),(by ac_rfl)⟩
 case fin=>
  rintro c st' ⟨lo,p',rfl,S',P',c',h1,h2⟩;obtain rfl:lo=N:=(by ac_rfl);exact⟨p',rfl,S',P',c'⟩
 case post=>
  rintro c st' ⟨p',rfl,S',P',c'⟩;dsimp only;have cl:=c'.le;refine av (jq (fg
   (I:=λx c st2=>c=(aq,()) /\ ∃p2,Sp1 it κ st2 p2/\t9 N p2/\oJ lt p2 0 (bx st2).toList N/\(bx st2).size+x<=N)
   (Q:=λc st2=>c=(aq,()) /\ ∃p2,Sp1 it κ st2 p2/\t9 N p2/\oJ lt p2 0 (bx st2).toList N/\(bx st2).size<=1) ?s2 ?f2 ?i2) ?p2)
  case i2=>exact⟨rfl,p',S',P',c',by rw[<- qz];ac_rfl⟩
  case f2=>
   rintro c st2 ⟨rfl,p2,S2,P2,c2,h⟩;exact⟨rfl,p2,S2,P2,c2,(by ac_rfl)⟩
  case s2=>
   rintro x c st2 _ hx ⟨rfl,p2,S2,P2,c2,h⟩;refine av (ul ?_);by_cases z:(bx st2).size<=1
   ·rw[Y4 z];exact be ⟨rfl,p2,S2,P2,c2,z⟩
   rw[XF z];refine av (Co T S2 P2 ?hj (bj _) c2 λst3 p3 S3 P3 c3 h3 _=>?_)
   case hj=>
    repeat' split
    all_goals ac_rfl
   rw[XF (by decide)];exact be ⟨rfl,p3,S3,P3,c3,(by ac_rfl)⟩
  case p2=>
   rintro c st2 ⟨rfl,p2,S2,P2,c2,h⟩;refine be (q st2 p2 S2 P2 ?_);have:(bx st2).toList.length=(bx st2).size:=by simp
   match hl2:(bx st2).toList,c2 with
   | [],c2=>
    have z:0=N:=c2;intro u v a b c;ac_rfl
   | [(a,n,w)],c2=>
    obtain⟨rfl,n0,sg,z⟩:=c2;have z':0+n=N:=z;rw[<- z'];exact sg
   |_::_::_,_=>
    rw[hl2] at this;simp at this;ac_rfl
 case step=>
  rintro x c st' _ hx ⟨lo,p',rfl,S',P',c',h1,h2⟩;dsimp only;by_cases z:lo >= N
  ·rw[Y4 z];obtain rfl:lo=N:=(by ac_rfl);exact be ⟨p',rfl,S',P',c'⟩
  rw[XF z];refine av (IC T S' P' (by ac_rfl) (by ac_rfl) λm st2 p2 m1 m2 S2 e2 P2 sg2 o2=>?_);have c2:oJ lt p2 0 (bx st2).toList lo:=by rw[e2];exact c'.same λu a b=>o2 u (.inl b)
  dsimp only;by_cases zm:m<mr
  ·rw[Y4 zm];refine av (xt (nv ⟨rfl,?_⟩));have hf:min (N-lo) mr<=N-lo:=Nat.min_le_left _ _;have hf2:m<=min (N-lo) mr:=(by ac_rfl);refine av (Mj T S2 P2 m1 hf2 (by ac_rfl) sg2 λst3 p3 S3 e3 P3 sg3 o3=>?_);have c3:oJ lt p3 0 (bx st3).toList lo:=by rw[e3];exact c2.same λu a b=>o3 u (.inl b)
   generalize min (N-lo) mr=fo at *;rw[XF (by decide)];refine av (ul ?_);cases hb:(bx st3).back? with
   |none=>
    dsimp only;exact av (ju (be ⟨lo+fo,p3,rfl,⟨S3.k,S3.a,S3.f⟩,P3,c3.push (by ac_rfl) sg3,(by ac_rfl),(by ac_rfl)⟩))
   |some t=>
    obtain⟨s1,n1,w1⟩:=t;dsimp only;refine av (jq (fg
     (I:=λy c st4=>c=(aq,()) /\ ∃p4,Sp1 it κ st4 p4/\t9 N p4/\oJ lt p4 0 (bx st4).toList lo/\Sg lt p4 lo (lo+fo))
     (Q:=λc st4=>c=(aq,()) /\ ∃p4,Sp1 it κ st4 p4/\t9 N p4/\oJ lt p4 0 (bx st4).toList lo/\Sg lt p4 lo (lo+fo)) ?_ (λ_ _ h=>h) ⟨rfl,p3,S3,P3,c3,sg3⟩) ?_)
    ·rintro y c st4 _ hy ⟨rfl,p4,S4,P4,c4,sg4⟩;refine av (ul ?_);by_cases zz:(bx st4).size > 1
     ·rw[Y4 zz];cases ho:(bx st4)[(bx st4).size-2]? with
      |none=>exact be ⟨rfl,p4,S4,P4,c4,sg4⟩
      |some t=>
       obtain⟨t1,t2,older⟩:=t;dsimp only;split
       ·exact be ⟨rfl,p4,S4,P4,c4,sg4⟩
       ·refine av (Co T S4 P4 (by ac_rfl) (by ac_rfl) c4 λst5 p5 S5 P5 c5 h5 o5=>?_);rw[XF (by decide)];exact be ⟨rfl,p5,S5,P5,c5,λu v hu huv hv=>by rw[o5 u (.inr hu),o5 v (.inr (by ac_rfl))];exact sg4 u v hu huv hv⟩
     ·rw[XF zz];exact be ⟨rfl,p4,S4,P4,c4,sg4⟩
    ·rintro c st4 ⟨rfl,p4,S4,P4,c4,sg4⟩;dsimp only;exact av (ju (av (ju (be ⟨lo+fo,p4,rfl,⟨S4.k,S4.a,S4.f⟩,P4,(oJ.power c4).push (by ac_rfl) sg4,(by ac_rfl),(by ac_rfl)⟩))))
  ·rw[XF zm];refine av (ul ?_);cases hb:(bx st2).back? with
   |none=>
    dsimp only;exact av (ju (be ⟨lo+m,p2,rfl,⟨S2.k,S2.a,S2.f⟩,P2,c2.push (by ac_rfl) sg2,(by ac_rfl),(by ac_rfl)⟩))
   |some t=>
    obtain⟨s1,n1,w1⟩:=t;dsimp only;refine av (jq (fg
     (I:=λy c st4=>c=(aq,()) /\ ∃p4,Sp1 it κ st4 p4/\t9 N p4/\oJ lt p4 0 (bx st4).toList lo/\Sg lt p4 lo (lo+m))
     (Q:=λc st4=>c=(aq,()) /\ ∃p4,Sp1 it κ st4 p4/\t9 N p4/\oJ lt p4 0 (bx st4).toList lo/\Sg lt p4 lo (lo+m)) ?_ (λ_ _ h=>h) ⟨rfl,p2,S2,P2,c2,sg2⟩) ?_)
    ·rintro y c st4 _ hy ⟨rfl,p4,S4,P4,c4,sg4⟩;refine av (ul ?_);by_cases zz:(bx st4).size > 1
     ·rw[Y4 zz];cases ho:(bx st4)[(bx st4).size-2]? with
      |none=>exact be ⟨rfl,p4,S4,P4,c4,sg4⟩
      |some t=>
       obtain⟨t1,t2,older⟩:=t;dsimp only;split
       ·exact be ⟨rfl,p4,S4,P4,c4,sg4⟩
       ·refine av (Co T S4 P4 (by ac_rfl) (by ac_rfl) c4 λst5 p5 S5 P5 c5 h5 o5=>?_);rw[XF (by decide)];exact be ⟨rfl,p5,S5,P5,c5,λu v hu huv hv=>by rw[o5 u (.inr hu),o5 v (.inr (by ac_rfl))];exact sg4 u v hu huv hv⟩
     ·rw[XF zz];exact be ⟨rfl,p4,S4,P4,c4,sg4⟩
    ·rintro c st4 ⟨rfl,p4,S4,P4,c4,sg4⟩;dsimp only;exact av (ju (av (ju (be ⟨lo+m,p4,rfl,⟨S4.k,S4.a,S4.f⟩,P4,(oJ.power c4).push (by ac_rfl) sg4,(by ac_rfl),(by ac_rfl)⟩))))
end
end L2
namespace L2
open PySem PySem.Spec PySem.W PyProof.Rows Tim
variable {vs:List ae}{κ:qa}
theorem CP{lt:Nat->Nat->Bool}{P:Fin->aj->Prop}(ho:s.heap.get? a=aa (kq "list" vs.toArray n))(h64:vs.length<=1000)(ht:∀i j,i<vs.length->j<vs.length->i≠j->lt i j=ai \/ lt j i=ai)(c:2<=vs.length->Cmp prog w s a vs lt κ)
  (k:∀p,Pm vs.length p->Up lt p vs.length->P (.done (.ret .none)) { s with heap:=sortedHeap s.heap a vs (picked vs p).toArray }):bz (cg prog w) A (ww.«list.sort» ⟨[.ref a],[]⟩) P E s:=by
 have la:a<s.heap.objs.size:=bf ho
 let h1:=s.heap.update a (qg λ_=>#[])
 let h2:=h1.push (kq "tuple" vs.toArray 0)
 let h3:=h2.push (kq "list" #[] 0)
 obtain⟨m,g1⟩:∃m,h1.get? a=aa (kq "list" #[] m):=⟨_,zi ho λ_=>#[]⟩;have sz1:h1.objs.size=s.heap.objs.size:=qj ..;have keep:∀b o,b≠a->s.heap.get? b=aa o->h3.get? b=aa o:=λb o hb e=>
  ao _ (ao _ ((qw _ _ _ _ hb).trans e))
 have g3:h3.get? a=aa (kq "list" #[] m):=ao _ (ao _ g1);have Yn:vs.length<=bo:=by rw[io];ac_rfl
 have fin:∀p,Pm vs.length p->Up lt p vs.length->bz (cg prog w) A (do
   let touched:=(<- seqEpoch a) != m
   xr (.ref a) λ_=>(picked vs p).toArray
   if touched then Xg "list.sort.modified";raiseError "ValueError" "list modified during sort"
   ret .none) P E { s with heap:=h3 }:=λp pm up=>by
  have sz:(picked vs p).toArray.size=vs.length:=by simp[picked,pm.size]
  refine ah (Uf g3 rfl (ah (vd g3 rfl ?_ (lc _) (by rw[sz];ac_rfl))));rw[show (m != m)=ap by simp];exact az (k p pm up)
 rw[Ws];refine ah (yx ho rfl (ah (vd ho rfl ?_ (by simpa using Yn) (lc _))));refine ah (Uf g1 rfl (ah (WT (ah (rm (lq ?_) (lc _))) (by simpa using Yn))));show bz (cg prog w) A _ P E { s with heap:=h3 };dsimp only;by_cases two:2<=vs.length
 ·have big:¬vs.toArray.size<2:=by simpa using two
  rw[XF big,XF big];have cc:=c two;refine ah (ig (cc.kind A h3 (λx s'=>x=κ/\s'={ s with heap:=h3 }) keep ⟨rfl,rfl⟩) (λx s' e=>?_) λ_ _ z=>z.elim);obtain⟨rfl,rfl⟩:=e;have W:=cc.wk;have T:Tm (cg prog w) A E { s with heap:=h3 } vs.length lt (kas_item (vs.toArray.zip vs.toArray)) x:=by
   have tot:∀i j,i<vs.length->j<vs.length->i≠j->lt i j = !lt j i:=λi j hi hj n=>by
    rcases ht i j hi hj n with z | z
    ·rw[z,W.asym z];rfl
    ·rw[z,W.asym z];rfl
   refine⟨λi j hi hj hn st Q hk q=>?_,tot,λi j k _ _ _=>W.tr i j k⟩;have it1:∀i,i<vs.length->(kas_item (vs.toArray.zip vs.toArray) i).1=vs.getD i jr:=λi hi=>by simp[kas_item,wn,hi]
   rw[lt'_eq];refine av (ul ?_);refine av (xt (qx (ig (?_:bz (cg prog w) A _ (λb s'=>s'={ s with heap:=h3 }/\b=lt i j) (λ_ _=>False) _) (λb s' z=>?_) λ_ _ z=>z.elim)))
   ·rw[hk,it1 i hi,it1 j hj];exact cc.less A h3 i j _ keep hi hj hn ⟨rfl,rfl⟩
   ·obtain⟨rfl,rfl⟩:=z;exact⟨rfl,be q⟩
  have est:vs.toArray.zip vs.toArray=dJ (kas_item (vs.toArray.zip vs.toArray)) (fw vs.length):=by
   apply sn;intro u;by_cases hu:u<vs.length
   ·simp[dJ,kas_item,wn,hu]
   ·simp[dJ,hu]
  have run:=L7 T (st:=wo x (vs.toArray.zip vs.toArray) #[] 7 aq) (p:=fw vs.length) (Q:=λ_ st'=>∃p,(Pm vs.length p/\Up lt p vs.length)/\tj st'=p.map (kas_item (vs.toArray.zip vs.toArray))/\uk st'=aq) ⟨rfl,est,rfl⟩ (List.Perm.refl _) rfl λst' p' S P sg=>by
   have hlp:=nQ P;have ag:∀u,cU p'.toArray u=g p' u:=λu=>by
    by_cases hu:u<p'.length
    ·simp[cU,g,dg,wn,hu]
    ·simp[cU,g,dg,wn,hu]
   refine⟨p'.toArray,⟨?_,λu v huv hv=>?_⟩,by rw[S.a];simp[dJ],S.f⟩
   ·exact wm.mpr (by simpa using P)
   ·rw[ag,ag];exact EC.of W (sg u v (lc _) huv hv)
  refine ah (ig run (λr s' q=>?_) λ_ _ z=>z);obtain⟨⟨⟩,st'⟩:=r;obtain⟨rfl,p,⟨pm,up⟩,e1,e2⟩:=q;dsimp only at e1 e2 ⊢;rw[kat_snds rfl e1,e2];exact fin p pm up
 ·have few:vs.toArray.size<2:=by simp;ac_rfl
  rw[Y4 few,Y4 few];refine ah (az ?_);rw[Wt];refine ah (az ?_);dsimp only;have e:((tj (wo general' (vs.toArray.zip vs.toArray) #[] 7 aq)).map λx=>x.2)=(picked vs (yu (fw vs.length))).toArray:=by
   rw[yA];apply VY.mp;show ((vs.toArray.zip vs.toArray).map λx=>x.2).toList=_;simp;apply pi;intro i;by_cases hi:i<vs.length
   ·simp[hi]
   ·simp[hi]
  rw[e];exact fin _ (Array.Perm.refl _) λu v h1 h2=>by ac_rfl
theorem CO{l:af}{lt:Nat->Nat->Bool}{Q:ae->aj->Prop}(hl:s.heap.IsList l vs.toArray)(h64:vs.length<=1000)(ht:∀i j,i<vs.length->j<vs.length->i≠j->lt i j=ai \/ lt j i=ai)(c:2<=vs.length->Cmp prog w s s.heap.objs.size vs lt κ)
  (k:∀p,Pm vs.length p->Up lt p vs.length->Q (.ref (s.heap.objs.size+1)) { s with heap:=Xb s.heap vs (picked vs p).toArray }):bz (cg prog w) A (call (.builtin "sorted") [.ref l]) Q E s:=by
 have Yn:vs.length<=bo:=by rw[io];ac_rfl
 let h1:=(s.heap.push (kq "list" #[] 0)).update s.heap.objs.size (qg (· ++ vs.toArray))
 let h2:=h1.push (kq "list" vs.toArray 0)
 have sz:h1.objs.size=s.heap.objs.size+1:=(qj ..).trans (WU _ _);have old:∀b o,s.heap.get? b=aa o->h2.get? b=aa o:=λb o e=>
  ao _ ((qw _ _ _ _ (fq (bf e))).trans (ao _ e))
 have mine:h2.get? (s.heap.objs.size+1)=aa (kq "list" vs.toArray 0):=sz ▸ cr h1 rfl;refine qo Wg VB VC (VD _) ?_;unfold ww.«sorted»;refine ah (m:=WV "sorted" 1 1 _) (az (ah (collect_list hl (ah (rm ?_ Yn)) Yn)));show bz _ _ _ _ _ { s with heap:=h2 };rw[show ((s.heap.push (kq "list" #[] 0)).update s.heap.objs.size (qg (· ++ vs.toArray))).objs.size=s.heap.objs.size+1 from sz];refine ah (lq (fy Ug ⟨_,mine,rfl⟩ zj ?_ (Uh _)));refine CP (s:={ s with heap:=h2 }) (lt:=lt) (κ:=κ) mine h64 ht (λtwo=>?_) λp a b=>⟨_,rfl,az ⟨_,rfl,k p a b⟩⟩
 ·have cc:=c two;exact⟨cc.wk,λA h Q hk q=>cc.kind A h Q (λb o hb e=>hk b o (λz=>by have y:=bf e;rw[z] at y;exact qh y) (old b o e)) q,
   λA h i j C hk hi hj hn q=>cc.less A h i j C (λb o hb e=>hk b o (λz=>by have y:=bf e;rw[z] at y;exact qh y) (old b o e)) hi hj hn q⟩
theorem AU:fK X (.builtin "sorted") (λxs H Q=>∃(p:af) (its:List FY) (k:Nat),xs=[.ref p]/\fU X.K H p (its.map λt=>V.ref t.1)/\its.length<=1000/\(∀t∈its,l6 X.K H t.1 (t.2.1.map V.int++t.2.2)/\t.2.1.length=k+1) /\
  its.Pairwise (λt u=>t.2.1≠u.2.1) /\ ∀its':List FY,its'.Perm its->its'.Pairwise (λt u=>lexB t.2.1 u.2.1=ai) -> ∀l,H l=aq->Q (.ref l) (upd H l (.lst (its'.map λt=>V.ref t.1)))):=by
 intro pj s σ H xs us Q I r h;obtain⟨p,its,k,rfl,hl,h64,hits,hd,q⟩:=h;obtain⟨u,rfl,ru⟩:=jQ r;cases ru;obtain⟨vs,rv,pl,hz⟩:=I.list hl;have ev:vs=its.map λt=>Value.ref t.1:=by
  clear hl hz h64 hits hd q pl;induction its generalizing vs with
  |nil=>cases rv;rfl
  |cons t r ih=>
   cases rv with
   |cons a b=>rw[cp,<- ih _ b];cases a;rfl
 subst ev;have len:(its.map λt=>Value.ref t.1).length=its.length:=by simp
 let num:Nat->List Int:=λi=>(its.getD i (0,[],[])).2.1
 have get:∀i,i<its.length->(its.map λt=>Value.ref t.1).getD i jr=Value.ref (its.getD i (0,[],[])).1:=λi hi=>by simp[hi]
 have mem:∀i,i<its.length->its.getD i (0,[],[])∈its:=λi hi=>by
  rw[dh,ar hi];exact eh hi
 have ne:∀i j,i<its.length->j<its.length->i≠j->num i≠num j:=λi j hi hj n=>by
  have e:∀i,i<its.length->num i=(its[i]!).2.1:=λi hi=>by simp[num,hi]
  have pw:=cf.mp hd;have ei:its.getD i (0,[],[])=its[i]:=by simp[hi]
  have ej:its.getD j (0,[],[])=its[j]:=by simp[hj]
  show (its.getD i (0,[],[])).2.1≠(its.getD j (0,[],[])).2.1;rw[ei,ej];rcases sk n with z | z
  ·exact pw i j hi hj z
  ·exact(pw j i hj hi z).symm
 have tup:∀t∈its,∃(o:lv) (a b:List ae) (n:Nat),s.heap.get? t.1=aa o/\o.cls=.type "tuple" /\ o.data=.seq (a++b).toArray n/\qd a t.2.1:=λt ht=>by
  obtain⟨z,r',⟨o,ho,hc,n,hd'⟩,_⟩:=I.tuple (hits t ht).1;obtain⟨a,b,rfl,ra,rb⟩:∃a b,z=a++b/\bA (t.2.1.map V.int) a/\bA t.2.2 b:=by
   clear hd' ho hc;generalize t.2.1.map V.int=m at r';induction m generalizing z with
   |nil=>exact⟨[],z,rfl,.nil,r'⟩
   |cons x y ih=>
    cases r' with
    |cons x1 x2=>
     obtain⟨a,b,rfl,ra,rb⟩:=ih _ x2;exact⟨_::a,b,rfl,.cons x1 ra,rb⟩
  exact⟨o,a,b,n,ho,hc,hd',mL ra⟩
 have cmp:2<=(its.map λt=>Value.ref t.1).length->Cmp X.prog X.w s s.heap.objs.size (its.map λt=>Value.ref t.1) (λi j=>lexB (num i) (num j)) (Xn ai):=λtwo=>by
  have far:∀{b o},s.heap.get? b=aa o->b≠s.heap.objs.size:=λe=>fq (bf e);refine⟨yG num,λA h Q' hk q'=>?_,λA h i j C hk hi hj hn q'=>?_⟩
  ·have go:∀l:List FY,(∀t∈l,t∈its) -> ∃fs:List ae,KatTups h (l.map λt=>Value.ref t.1) fs/\fs.length=l.length /\ ∀v∈fs,∃x y,v=Value.int x y:=by
    intro l;induction l with
    |nil=>intro _;exact⟨[],.nil,rfl,λv hv=>by cases hv⟩
    |cons t r ih=>
     intro hm;obtain⟨fs,kt,e,al⟩:=ih λu hu=>hm u (bm _ hu);have ht:=hm t (ci ..);obtain⟨o,a,b,n,ho,hc,hd',ia⟩:=tup t ht;obtain⟨x,Y7,ex⟩:∃x Y7,t.2.1=x::Y7:=by
      have:=(hits t ht).2;cases e':t.2.1 with
      |nil=>rw[e'] at this;cases this
      |cons x Y7=>exact⟨x,Y7,rfl⟩
     rw[ex] at ia;cases ia with
     |cons _ y ia'=>
      refine⟨Value.int x y::fs,KatTups.cons (hk _ _ (far ho) ho) hc hd' (by simp) kt,by simp[e],λv hv=>?_⟩;rcases bq.mp hv with rfl | hv
      ·exact⟨x,y,rfl⟩
      ·exact al v hv
   obtain⟨fs,kt,e,al⟩:=go its λ_ h=>h;refine kat_kind (s:={ s with heap:=h }) (T:=.type "int") kt (by rw[e];simp at two;ac_rfl) (λv hv=>?_) (by decide) q';obtain⟨x,y,rfl⟩:=al v hv;exact Looks.of_pure rfl
  ·rw[len] at hi hj;rw[get i hi,get j hj];obtain⟨o,a,b,n,ho,hc,hd',ia⟩:=tup _ (mem i hi);obtain⟨o2,a2,b2,n2,ho2,hc2,hd2,ia2⟩:=tup _ (mem j hj);refine kat_lt (s:={ s with heap:=h }) (hk _ _ (far ho) ho) hd' (hk _ _ (far ho2) ho2) hd2 ?_;exact vW _ _ a a2 b b2 0 ia ia2 (by rw[(hits _ (mem i hi)).2,(hits _ (mem j hj)).2]) (ne i j hi hj hn) q'
 refine CO (lt:=λi j=>lexB (num i) (num j)) (κ:=Xn ai) pl.isList (by rw[len];exact h64) (λi j hi hj n=>by rw[len] at hi hj;exact jX _ _ (ne i j hi hj n)) cmp λp' pm up=>?_;rw[len] at pm up
 let its':=p'.toList.map λi=>its.getD i (0,[],[])
 have perm:its'.Perm its:=Db pm its rfl _;have pw:its'.Pairwise (λt u=>lexB t.2.1 u.2.1=ai):=tF pm up its _ _ λi j hi hj b=>by
  rcases b.2 with z | z
  ·exact z
  ·rcases jX _ _ (ne i j hi hj (fq z)) with y | y
   ·exact y
   ·have b1:lexB (num j) (num i)=ap:=b.1;rw[b1] at y;cases y
 have ep:picked (its.map λt=>Value.ref t.1) p'=its'.map λt=>Value.ref t.1:=by
  unfold picked;rw[lj];apply jx;intro i hi;exact get i (uw.mp (pm.list.mem_iff.mp hi))
 rw[ep];obtain⟨c,at1⟩:=yy s.heap (its.map λt=>Value.ref t.1) (its'.map λt=>Value.ref t.1).toArray;have rel:∀l:List FY,bA (l.map λt=>V.ref t.1) (l.map λt=>Value.ref t.1):=λl=>by
  induction l with
  |nil=>exact .nil
  |cons t r ih=>exact .cons rfl ih
 have hle:(its'.map λt=>V.ref t.1).length<=bo:=by rw[io,bi,perm.length_eq];ac_rfl
 exact⟨.ref (s.heap.objs.size+1),_,I.laid (t':=s.toks) (λb o e=>xk e) (tz _) (show d5 X.prog X.w _ _ _ (.lst _) from⟨hle,_,c,rel its',at1⟩),rfl,q its' perm pw _ (I.hok.fresh (tz _))⟩
end L2
namespace Z
open L2
noncomputable def hG:List Dv->(R->Prop)->Prop
 | [.lst xs],Q=>∃(ts:List (List Int×List Dv)) (k:Nat),xs=ts.map tI/\ts.length<=1000/\(∀t∈ts,t.1.length=k+1)/\ts.Pairwise (λt u=>t.1≠u.1) /\ ∀ts':List (List Int×List Dv),ts'.Perm ts->ts'.Pairwise (λt u=>lexB t.1 u.1=ai)->Q (.nw (.lst (ts'.map tI)))
 |_,_=>False
theorem Ci{ts:List (List Int×List Dv)}{k:Nat}(h:ts.length<=1000)(hk:∀t∈ts,t.1.length=k+1)(hd:ts.Pairwise (λt u=>t.1≠u.1))
  (q:∀ts':List (List Int×List Dv),ts'.Perm ts->ts'.Pairwise (λt u=>lexB t.1 u.1=ai)->Q (.nw (.lst (ts'.map tI)))):hG [.lst (ts.map tI)] Q:=⟨ts,k,rfl,h,hk,hd,q⟩
theorem wL:mY X (.builtin "sorted") hG:=by
 refine⟨λds Q Q' w h=>?_,_,AU,λM O H xs ds Q c h=>?_⟩
 ·unfold hG at *;split at h
  ·obtain⟨ts,k,a,b,c,d,q⟩:=h;exact⟨ts,k,a,b,c,d,λts' x y=>w _ (q ts' x y)⟩
  ·exact h
 ·unfold hG at h;split at h
  ·obtain⟨x,rfl,cx⟩:=eU c;obtain⟨a,ys,rfl,ea,ra⟩:=cx.lst;obtain⟨ts,k,rfl,hl,hk,hd,q⟩:=h;have go:∀{ys:List V} {ts:List (List Int×List Dv)},Reps X.K M H ys (ts.map tI) -> ∃its:List (FY×List Dv),ys=its.map (λt=>V.ref t.1.1)/\ts=its.map (λt=>(t.1.2.1,t.2)) /\
     ∀t∈its,H t.1.1=aa (.tup (t.1.2.1.map V.int++t.1.2.2))/\Reps X.K M H t.1.2.2 t.2:=by
    intro ys ts r;induction ts generalizing ys with
    |nil=>cases r;exact⟨[],rfl,rfl,λt ht=>by cases ht⟩
    |cons t ts ih=>
     cases r with
     |cons u r=>
      obtain⟨its,e1,e2,e3⟩:=ih r;cases u with
      |tup hb rb=>
       obtain⟨zs,e,rz⟩:=rb.fore;subst e;refine⟨((_,t.1,zs),t.2)::its,by rw[e1];rfl,by rw[e2];rfl,λy hy=>?_⟩;rcases bq.mp hy with rfl | hy
       ·exact⟨hb,rz⟩
       ·exact e3 y hy
   obtain⟨its,rfl,rfl,al⟩:=go ra;refine⟨a,its.map (·.1),k,rfl,by rw[lj];exact fU.of ea,by simpa using hl,λt ht=>?_,?_,λits' hp hs l hl=>?_⟩
   ·obtain⟨u,hu,rfl⟩:=fx.mp ht;exact⟨l6.of (al u hu).1,hk _ (fx.mpr ⟨u,hu,rfl⟩)⟩
   ·rw[gm] at hd ⊢;exact hd
   ·-- bring the plain parts along
    obtain⟨jts,hj,rfl⟩:=lC hp rfl;have rr:∀jts:List (FY×List Dv),(∀t∈jts,t∈its)->Reps X.K M H (jts.map λt=>V.ref t.1.1) ((jts.map λt=>(t.1.2.1,t.2)).map tI):=by
     intro jts;induction jts with
     |nil=>intro _;exact .nil
     |cons t r ih=>
      intro hm;have ht:=al t (hm t (ci ..));have one:Reps X.K M H (t.1.2.1.map V.int++t.1.2.2) (t.1.2.1.map .int++t.2):=(Reps.ints _).append ht.2;exact .cons (.tup ht.1 one) (ih λu hu=>hm u (bm _ hu))
    rw[lj];show Q _ (upd H l (.lst (jts.map λt=>V.ref t.1.1)));refine q (jts.map λt=>(t.1.2.1,t.2)) (hj.map _) ?_ _ _ (aS.new' hl) (jA hl (rr jts λt ht=>hj.mem_iff.mp ht));rw[gm] at hs ⊢;exact hs
  ·exact h.elim
end Z
namespace L2
variable {K:Type}
theorem Lu{xs:List (K×α)}(hn:(xs.map (·.1)).Nodup){k:K}{p q:α}{j:Nat}(hj:xs[j]?=aa (k,p))(m:(k,q)∈xs):p=q:=by
 obtain⟨i,hi,e⟩:=ed.mp m;have hj':=(bb.mp hj).1;have:i=j:=(List.getElem?_inj (by rw[bi];exact hi) hn).mp (by rw[cj,cj,hj,ar hi,e];rfl);subst this;rw[ar hi,e] at hj;cases hj;rfl
section
variable [DecidableEq K]{knd:HeapKind prog w K}{b:af}{xs ys:List (K×af×ae)}
theorem CS{nm:String}{Q:Bool->aj->Prop}(hu:knd.room A)(ha:(a==ie)=ap)(hb:(b==ie)=ap)(da:s.heap.DictOfH knd a xs)(db:s.heap.DictOfH knd b ys)(hl:xs.length=ys.length)
  (hit:∀k p,(k,p)∈xs -> ∃q,(k,q)∈ys/\WS A s p.2 q.2 ai) (h:Q ai s):bz (cg prog w) A (zf nm a b) Q E s:=by
 obtain⟨o,es,ep,ho,hc,hd,he,his,hn⟩:=da;obtain⟨o',es',ep',ho',hc',hd',he',his',hn'⟩:=db;have z:=Wv he;have z':=Wv he';have na:¬(a==ie)=ai:=by simp[ha]
 have nb:¬(b==ie)=ai:=by simp[hb]
 unfold zf Xr;rw[XF na,XF nb];refine ah (az (ah (az (ah (um ho hd ?_)))));dsimp only;refine ah (um ho' hd' ?_);rw[XF (by rw[z,z',hl];simp)];refine ah (Ww ho hd (ah ?_));rw[Uk];simp only[Std.Legacy.Range.size,Xp,Nat.add_sub_cancel,Nat.div_one];refine wpAny_forIn_list _ (λY7 q t=>t=s/\q=(aq,()) /\ ∃i,Y7=Wi i (es.size-i)/\i<=es.size) _ ?_ ?_ _ _ ⟨rfl,rfl,0,by simp,lc _⟩
 ·rintro x Y7 q t ⟨rfl,rfl,i,hr,hi⟩;have lt:i<es.size:=by
   rcases XO i es.size with g | g
   ·exact g
   ·rw[Nat.sub_eq_zero_of_le g] at hr;cases hr
  have e1:es.size-i=(es.size-(i+1))+1:=(by ac_rfl);rw[e1,W0] at hr;injection hr with hx hr;subst hx;have lx:x<xs.length:=(by ac_rfl);refine ah (um ho hd ?_);have ex:es[x]?=aa (entryOfKey knd xs[x]):=by rw[entry_at he x,ar lx];rfl
  rw[ex];have mx:xs[x]∈xs:=eh lx;obtain⟨q,mq,eq⟩:=hit xs[x].1 xs[x].2 mx;refine ah (lq (ah (wpAny_dictFind_heap (knd:=knd) hu (his _ mx) ho' hd' he' his' hn' (λno=>?_) λj p hj=>?_)))
  ·obtain⟨j,hj,e⟩:=ed.mp mq;exact absurd (by rw[ar hj,e]) (no j q)
  ·have:=Lu hn' hj mq;subst this;refine ah (um ho' hd' ?_);rw[entry_at he' j,hj];refine lq (eq prog w _ _ ?_);show bz _ _ (if (!true)=ai then _ else _) _ _ _;rw[XF (by decide)];refine ah (Ww ho hd ?_);rw[XF (by simp)];exact az ⟨rfl,rfl,x+1,hr,lt⟩
 ·rintro q t ⟨rfl,rfl,i,hr,hi⟩;exact az h
theorem UK{Q:ae->aj->Prop}(hr:knd.room A.in1)(hu:A.units<mw)(ha:(a==ie)=ap)(hb:(b==ie)=ap)(da:s.heap.DictOfH knd a xs)(db:s.heap.DictOfH knd b ys)(hl:xs.length=ys.length)
  (hit:∀k p,(k,p)∈xs -> ∃q,(k,q)∈ys/\WS A.in1 s p.2 q.2 ai) (h:Q (.bool ai) s):bz (cg prog w) A (dt .Eq (.ref a) (.ref b)) Q E s:=by
 refine wpAny_richCompare_same_room (op:=.Eq) da.typeIs db.typeIs Ul (fy Ul da.typeIs PySem.F.entry_dict_eq ?_ (PySem.F.args_dict_eq_2 _ _)) hu;show bz _ _ (wu "__eq__" ⟨[.ref a,.ref b],[]⟩ >>= _) _ _ s;refine ah ?_;unfold wu;refine ah (wpAny_notOrdered_dict da.typeIs (show bz _ _ (jm (Value.ref a,Value.ref b)) _ _ s from az (ah (oj (T:="dict") db.typeIs PySem.F.sub_dict_dict ?_))));simp only[X4,fe,if_false];refine ah (az (ah (az (ah (CS hr ha hb da db hl hit (az ⟨_,rfl,(λx=>nomatch x),?_⟩))))));simpa using h
end
end L2
namespace Z
open L2
theorem KT.ex{xs:List (List cE×af×ae)}(r:KT H kvs xs):∀{k:List cE} {p:af×ae},(k,p)∈xs -> ∃x,(k,x)∈kvs/\cJ x p.2:=by
 induction r with
 |nil=>intro k p m;cases m
 | @cons q r' ps qs hq t ih=>
  intro k p m;rcases bq.mp m with e | m
  ·subst e;exact⟨q.2,by rw[show k=q.1 from hq.1.symm];exact ci ..,hq.2.2⟩
  ·obtain⟨x,m,e⟩:=ih m;exact⟨x,bm _ m,e⟩
theorem KT.xe{xs:List (List cE×af×ae)}(r:KT H kvs xs):∀{k:List cE} {x:V},(k,x)∈kvs -> ∃p,(k,p)∈xs/\cJ x p.2:=by
 induction r with
 |nil=>intro k p m;cases m
 | @cons q r' ps qs hq t ih=>
  intro k x m;rcases bq.mp m with e | m
  ·cases e;exact⟨r'.2,by rw[show k=r'.1 from hq.1];exact ci ..,hq.2.2⟩
  ·obtain⟨x,m,e⟩:=ih m;exact⟨x,bm _ m,e⟩
variable {ds:List (List cE×Dv)}
theorem RepT.ex(r:RepT K M H xs ds):∀{k:List cE} {x:V},(k,x)∈xs -> ∃d,(k,d)∈ds/\Rep K M H x d:=by
 refine RepT.ind (P:=λxs ds=>∀{k:List cE} {x:V},(k,x)∈xs -> ∃d,(k,d)∈ds/\Rep K M H x d) (λm=>by cases m) (λk0 x0 d0 xs0 ds0 a _ ih k x m=>?_) r;rcases bq.mp m with e | m
 ·cases e;exact⟨_,ci ..,a⟩
 ·obtain⟨d,m,r⟩:=ih m;exact⟨d,bm _ m,r⟩
theorem RepT.xe(r:RepT K M H xs ds):∀{k:List cE} {d:Dv},(k,d)∈ds -> ∃x,(k,x)∈xs/\Rep K M H x d:=by
 refine RepT.ind (P:=λxs ds=>∀{k:List cE} {d:Dv},(k,d)∈ds -> ∃x,(k,x)∈xs/\Rep K M H x d) (λm=>by cases m) (λk0 x0 d0 xs0 ds0 a _ ih k x m=>?_) r;rcases bq.mp m with e | m
 ·cases e;exact⟨_,ci ..,a⟩
 ·obtain⟨d,m,r⟩:=ih m;exact⟨d,bm _ m,r⟩
theorem RepT.lenT(r:RepT K M H xs ds):xs.length=ds.length:=
 RepT.ind (P:=λxs ds=>xs.length=ds.length) rfl (λ_ _ _ _ _ _ _ ih=>by rw[bp,bp,ih]) r
noncomputable def IL(ds es:List (List cE×Dv)):Prop:=ds.length=es.length /\ ∀k d,(k,d)∈ds -> ∃e,(k,e)∈es/\dL 8 d=ai/\dL 8 e=ai/\eqD d e=ai
noncomputable def Gh:Dv->Dv->(R->Prop)->Prop
 | .dit ds,.dit es,Q=>IL ds es/\Q (.v (.bl ai))
 |_,_,_=>False
noncomputable def RV(K:ak):R2:=λx y H Q=>∃M ds es,eB K M H x (.dit ds)/\eB K M H y (.dit es)/\IL ds es/\Q (.bl ai) H
theorem Lp(hu:X.A.units+66<mw):lM X (dt .Eq) (RV X.K):=by
 intro pj s σ H x y v u Q I rx ry h;obtain⟨M,ds,es,r1,r2,⟨hl,hit⟩,q⟩:=h;obtain⟨a,ep,kvs,rfl,ea,ra⟩:=r1.dit;obtain⟨b,ep',kvs',rfl,eb,rb⟩:=r2.dit;cases (show v=Value.ref a from rx);cases (show u=Value.ref b from ry);obtain⟨z,hd,xs,rel,dd⟩:=Hz I.hok ea;obtain⟨z',hd',ys,rel',dd'⟩:=Hz I.hok eb;refine UK (sh (by ac_rfl)) (by ac_rfl) hd hd' dd dd' ?_ (λk p m=>?_) ⟨.bl ai,H,I,rfl,q⟩
 ·rw[<- rel.length,<- rel'.length,RepT.lenT ra,RepT.lenT rb,hl]
 ·obtain⟨x,mx,rx⟩:=KT.ex rel m;obtain⟨d,md,rd⟩:=RepT.ex ra mx;obtain⟨e,me,o1,o2,eq⟩:=hit k d md;obtain⟨y,my,re⟩:=RepT.xe rb me;obtain⟨q,mq,ry⟩:=KT.xe rel' my;obtain⟨as,r1⟩:=rd.reads I o1 rx;obtain⟨bs,r2⟩:=re.reads I o2 ry;have s1:=iF o1 (by decide);have s2:=iF o2 (by decide);have:=VW _ _ X.A.in1 s _ _ as bs r1 r2 (zg s1) (zg s2) (SeqAt.room_of_shaped s1 (show X.A.units+1+64<mw by ac_rfl));rw[show gr (fY d) (fY e)=ai from eq] at this;exact⟨q,mq,this⟩
theorem JM(hu:X.A.units+66<mw):xL X (dt .Eq) Gh:=by
 refine⟨λdx dy Q Q' w h=>?_,_,Lp hu,λM O H x y dx dy Q cx cy h=>?_⟩
 ·unfold Gh at *;split at h
  ·exact⟨h.1,w _ h.2⟩
  ·exact h
 ·unfold Gh at h;split at h
  ·exact⟨M,_,_,cx,cy,h.1,h.2 _ H (aS.refl _) (Rep.bl _)⟩
  ·exact h.elim
theorem Jw{k:Nat}(r:Room k A):A.units+66<mw:=by have:=r.un;ac_rfl
noncomputable def oS:Dv->Dv->(R->Prop)->Prop
 | .tup ds,.dit kvs,Q=>∃k:List cE,ds=k.map kD/\Q (.v (.bl (!hasT kvs k)))
 |_,_,_=>False
theorem pX(hu:X.A.units+1<mw):xL X (dt .NotIn) oS:=by
 refine⟨λdx dy Q Q' w h=>?_,_,Eo hu,λM O H x y dx dy Q cx cy h=>?_⟩
 ·unfold oS at *;split at h
  ·exact⟨h.choose,h.choose_spec.1,w _ h.choose_spec.2⟩
  ·exact h
 ·unfold oS at h;split at h
  ·obtain⟨k,rfl,q⟩:=h;obtain⟨b,ys,rfl,eb,rb⟩:=cx.tup;obtain rfl:=rb.keys;obtain⟨a,ep,kvs,rfl,ea,ra⟩:=cy.dit;refine⟨a,_,rfl,wS.t ea eb,?_⟩;rw[Y4 (by decide),ra.has];exact q _ H (aS.refl _) (Rep.bl _)
  ·exact h.elim
noncomputable def rH(te:dZ):c6:=λE ρ=>te ρ λr=>match r with
 | .v (.bl b)=>E.rw b ρ
 |_=>False
section
variable {pos:ma}
theorem Ca(he:QE X e te):QS X (.Return (aa e) pos) (rH te):=by
 refine⟨λE E' ρ w h=>he.mono _ _ _ (λr q=>?_) h,λHZ F=>eQ (GP (he.run HZ F)) λD σ H ⟨ρ,E,fr,h,en⟩=>he.step fr h λr x H1 q S1 r1=>?_⟩
 ·split at q
  ·exact w.rw _ _ q
  ·exact q
 ·split at q
  ·rename_i b;cases (show Rep _ _ _ x (.bl b) from r1);exact en.rw _ _ _ _ (fr.mono S1) q
  ·exact q.elim
end
noncomputable abbrev IX:=List Dv->(Bool->Dv->Prop)->Prop
structure MonoW(sp:IX):Prop where
 mo:∀ds (Q Q':Bool->Dv->Prop),(∀b d,Q b d->Q' b d)->sp ds Q->sp ds Q'
noncomputable def Je(K:ak)(sp:IX):Sp:=λvs H Q _=>∃(a:af) (d:Dv) (vs':List V) (F:af->Prop) (ds:List Dv),vs=.ref a::vs'/\((∀b,F b->H b≠aq/\b≠a)/\tR K H)/\e7 K (λb=>F b \/ b=a) H a d/\Reps K (λb=>F b \/ b=a) H vs' ds /\
 sp (d::ds) (λr d'=>∀H',aS (hide H a) H'->e7 K (λc=>F c \/ c=a) H' a d'->Q (.bl r) H')
variable {nm:bt}{st:kx}{sp:IX}
theorem At.okW{k:Nat}{t:c6}(m:At K mg x nm st ps)(S:FnScope N ps (aI st))
  (hq:∀(f:af) (cdv:ae) (A:de) (outer:List zl) (s:aj) (H:Hp) (E:XK),Room k (A.deeper (uf nm (aI st) s.heap.objs.size f cdv))->QSs (u7 CC P w K mg base N nm (aI st) f cdv A outer s H E).nox (eG st) t)
  (len:∀ds Q,sp ds Q->ds.length=ps.length) (hsp:∀ds Q,sp ds Q -> ∀a,t { nx:=λ_=>False,rt:=λ_=>False,rw:=λb ρ=>∃d',ρ[0]?=aa (.own a d')/\Q b d' } (jR a N ds)):Def P w K mg base (k+1) x ps (Je K sp):=by
 refine m.ok S (λvs H Q E zz=>?_) λf cdv A outer s H vs Q E hr q=>?_
 ·obtain⟨a,d,vs',F,ds,e,_,_,r,q⟩:=zz;rw[e,bp,r.length];exact len _ _ q
 ·obtain⟨a,d,vs',F,ds,rfl,hF,ow,r,q⟩:=q;refine⟨_,(hq f cdv A outer s _ E hr).run (hide H a) F,jR a N (d::ds),_,EK hF ow r,hsp _ _ q a,λ_ _ _ _ z=>z.elim,λ_ _ _ _ z=>z.elim,λ_ _ _ _ z=>z.elim,λ_ _ _ _ _ z=>z.elim,λb ρ σ H' fr ⟨d',e,q⟩=>q H' fr.same ?_⟩;refine(fr.sl 0 _ e).2.weak λc z=>?_;rcases z with z | rfl
  ·exact .inl z
  ·exact .inr ⟨d',cq e⟩
noncomputable def LH(i:Nat)(ta:lN)(sp:IX)(ts:n5)(t:c6):c6:=λE ρ=>ta ρ λc=>if c=ai then t E ρ else ts ρ λrs=>match rs with
 | .ow a d::Y7=>ρ[i]?=aa (.own a d)/\Y7.all R.free=ai/\sp (d::Y7.map R.d) (λb d'=>if b=ai then E.nx (ρ.set i (.own a d')) else t E (ρ.set i (.own a d')))
 |_=>False
section
variable {k:Nat}{c:Expr}{ts:n5}{ta:lN}{t:c6}{Yj:List kx}{pos pos2 pos3 pos4:ma}
theorem Np(d:Def X.prog X.w X.K X.mg X.base k x ps (Je X.K sp))(mo:MonoW sp)(hr:Room k X.A)(hc:QT X c ta)(ha:QA X (e::es) ts)(hb:QSs X Yj t)(hg:autoParam (Gl X x) cH._auto_1)
  (hdb:autoParam ((x==("__debug__" : bt))=ap) pL._auto_1) (he:autoParam (bg (e::es) X.env=(ap,fi e X.env)::bg es X.env) cH._auto_1) (hpl:autoParam ((jv pos (bg es X.env)).any (·.1)=ap) cH._auto_1)
  (hi:autoParam (∀Yi,isTrue (.Call (.Name x p) (e::es) [] pos) X.env Yi=(do let v <- Yi;ye (Expr.Call (.Name x p) (e::es) [] pos).pos;yf [v] (Xe v))) FW._auto_1):
  QS X (.If (.BoolOp .Or [c,.UnaryOp .Not (.Call (.Name x p) (e::es) [] pos) pos2] pos3) Yj [] pos4) (LH i ta sp ts t):=by
 obtain⟨f,fd,hm,hk,hbd,FO⟩:=d.ex;refine⟨λE E' ρ w h=>hc.mono _ _ _ (λc q=>?_) h,λHZ F=>eQ (Kh (Kg (hc.run HZ F) (GG (GK (LN (Dc FO hr hg hm hk hbd .nil BC (ha.run HZ F) hdb he hpl) hi)))).pt (hb.run HZ F) (bO.run HZ F)) λD σ H ⟨ρ,E,fr,h,en⟩=>?_⟩
 ·split at q
  ·rw[Y4 ‹_›];exact hb.mono _ _ _ w q
  ·rw[XF ‹_›];refine ha.mono _ _ _ (λrs q=>?_) q;split at q
   ·refine⟨q.1,q.2.1,mo.mo _ _ _ (λb d q=>?_) q.2.2⟩;split at q
    ·rw[Y4 ‹_›];exact w.nx _ q
    ·rw[XF ‹_›];exact hb.mono _ _ _ w q
   ·exact q
 ·refine hc.step fr h λc H1 q S1=>?_;cases c with
  |true=>exact mZ (mZ ⟨ρ,E,fr.mono S1,by simpa using q,en⟩)
  |false=>
   refine pA ?_;have fr1:=fr.mono S1;refine ha.step fr1 (show ts ρ _ from by rw[XF (by decide)] at q;exact q) λrs xs H2 q S2 r1=>?_;split at q
   ·rename_i a d Y7;obtain⟨hi2,fre,q⟩:=q;cases r1 with
    |cons ra rr=>
     obtain⟨rfl,_,ow⟩:=ra;have fr2:=fr1.mono S2;have wk:∀b,(MM F ρ b/\b≠a) \/ b=a->MM F ρ b:=λb z=>z.elim (λz=>z.1) λz=>by rw[z];exact .inr ⟨d,cq hi2⟩
     rw[ii];refine⟨a,d,_,λb=>MM F ρ b/\b≠a,Y7.map R.d,rfl,⟨λb z=>⟨fr2.dom z.1,z.2⟩,fr2.tab⟩,ow.weak wk,(lL.reps (λa m=>fr1.dom m) rr fre).weak wk,mo.mo _ _ _ (λb d' q H' S o=>⟨b,rfl,?_⟩) q⟩;have fr3:Fr X.K HZ F _ H' (ρ.set i (.own a d')):=fr2.move hi2 S yM (o.weak λc z=>z);have es:σ.set i (aa (.ref a))=σ:=by
      have h1:σ[i]?=aa (aa (.ref a)):=(fr2.sl i _ hi2).1;refine pi λj=>?_;by_cases ij:i=j
      ·subst ij;rw[gv (bb.mp h1).1,h1]
      ·rw[ff ij]
     rw[es] at fr3;cases b with
     |true=>exact pA ⟨_,_,fr3,show E.nx _ by simpa using q,en⟩
     |false=>exact mZ ⟨_,_,fr3,by simpa using q,en⟩
   ·exact q.elim
end
inductive DF(K:ak)(mg:bt->Option ae)(x nm:bt)(st:kx):Prop
 |mk {f:af} {od an:Option af} {sl:Array (Option ae)} {oc kV dc pm cd ct:ae} (a:mg x=aa (.ref f))
  (l:K.lookup f=aa ⟨oc,od,.func (xj nm nm (jK st) (eG st) (aI st) .none kV dc pm an cd ct),sl⟩) (c:Ud K cd nm=ai) (k:rh K (.ref f)=ai)
inductive MF(K:ak)(C:af)(m qual:bt)(st:kx):Prop
 |mk {f:af} {od an:Option af} {sl:Array (Option ae)} {oc kV dc pm cd ct:ae} (a:oo K (.ref C) m=aa (aa (.ref f))) (i:XU K (.ref f)=ai)
  (l:K.lookup f=aa ⟨oc,od,.func (xj m qual (jK st) (eG st) (aI st) .none kV dc pm an cd ct),sl⟩) (c:Ud K cd qual=ai) (k:rh K (.ref f)=ai)
noncomputable abbrev DH(x Y8:bt)(st:kx)(ps:List bt):Prop:=∀(kV doc pm:ae) (an:Option af) (cdv ct:ae) (us:List ae),us.length=ps.length->XE (xj x Y8 (jK st) (eG st) (aI st) .none kV doc pm an cdv ct) ⟨us,[]⟩=jm (ps.zip us)
theorem T5{p:List ae->Prop}(h:∀(a:ae) (us:List ae),us.length=n->p (a::us)):∀us:List ae,us.length=n+1->p us
 | [],e=>by cases e
 |a::us,e=>h a us (Nat.succ.inj e)
theorem T6{p:List ae->Prop}(h:p []):∀us:List ae,us.length=0->p us
 | [],_=>h
 |_::_,e=>by cases e
theorem DF.at(d:DF K mg x nm st)(h:DH nm nm st ps:=by intro _ _ _ _ _ _;(repeat refine Z.T5 λ_=>?_);exact Z.T6 rfl):At K mg x nm st ps:=by
 obtain⟨a,l,c,k⟩:=d;have F:=AB l c k;exact⟨_,_,a,F,F.binds h⟩
variable {Y8:bt}
theorem MF.at{m:bt}(d:MF K C m Y8 st)(h:DH m Y8 st ps:=by intro _ _ _ _ _ _;(repeat refine Z.T5 λ_=>?_);exact Z.T6 rfl):MAt K C m Y8 st ps:=by
 obtain⟨a,i,l,c,k⟩:=d;have F:=AB l c k;exact⟨_,_,⟨a,i,k⟩,F,F.binds h⟩
theorem MF.ini(d:MF K C "__init__" Y8 st)(e:mg x=aa (.ref C))(mk:VR K C=ai)(kc:rh K (.ref C)=ai)
  (h:DH "__init__" Y8 st ps:=by intro _ _ _ _ _ _;(repeat refine Z.T5 λ_=>?_);exact Z.T6 rfl):IAt K mg x C Y8 st ps:=by
 obtain⟨a,i,l,c,k⟩:=d;have F:=AB l c k;exact⟨_,_,⟨mk,a,i,kc⟩,e,F,F.binds h⟩
theorem UJ{n:Int}{t:Tok}(h:mg x=aa (.int n t)):∃t,mg x=aa (.int n t):=⟨_,h⟩
end Z
namespace Z
theorem Ts:type_of% @Ox.eq_1:=@Ox.eq_1
theorem RC:type_of% @mB.eq_1:=@mB.eq_1
theorem NV:type_of% @G7.eq_1:=@G7.eq_1
theorem LF:type_of% @lA.eq_1:=@lA.eq_1
theorem Sn:type_of% @Ov.eq_1:=@Ov.eq_1
theorem RH:type_of% @ES.eq_1:=@ES.eq_1
theorem Pn:type_of% @vB.eq_1:=@vB.eq_1
theorem Qc:type_of% @Dx.eq_1:=@Dx.eq_1
theorem RD:type_of% @NS.eq_1:=@NS.eq_1
theorem Qb:type_of% @mW.eq_1:=@mW.eq_1
theorem Sy:type_of% @Hy.eq_1:=@Hy.eq_1
theorem NO:type_of% @j8.eq_1:=@j8.eq_1
theorem RJ:type_of% @G9.eq_1:=@G9.eq_1
theorem N0:type_of% @rV.eq_1:=@rV.eq_1
theorem Oi:type_of% @A6.eq_1:=@A6.eq_1
theorem QR:type_of% @Bh.eq_1:=@Bh.eq_1
theorem Sw:type_of% @FJ.eq_1:=@FJ.eq_1
theorem Sv:type_of% @Ow.eq_1:=@Ow.eq_1
theorem RA:type_of% @aO.eq_1:=@aO.eq_1
theorem Pj:type_of% @bN.eq_1:=@bN.eq_1
theorem NW:type_of% @G8.eq_1:=@G8.eq_1
theorem Pl:type_of% @DT.eq_1:=@DT.eq_1
theorem NR:type_of% @iC.eq_1:=@iC.eq_1
theorem Pk:type_of% @Az.eq_1:=@Az.eq_1
theorem RB:type_of% @c9.eq_1:=@c9.eq_1
theorem Pi:type_of% @Kb.eq_1:=@Kb.eq_1
theorem TN:type_of% @jE.eq_1:=@jE.eq_1
theorem R9:type_of% @bD.eq_1:=@bD.eq_1
theorem Pg:type_of% @jT.eq_1:=@jT.eq_1
theorem RE:type_of% @NT.eq_1:=@NT.eq_1
theorem On:type_of% @freeze.eq_1:=@freeze.eq_1
theorem RI:type_of% @NX.eq_1:=@NX.eq_1
theorem RK:type_of% @p7.eq_1:=@p7.eq_1
theorem Ph:type_of% @Ka.eq_1:=@Ka.eq_1
theorem RF:type_of% @kA.eq_1:=@kA.eq_1
theorem Sj:type_of% @a8.eq_1:=@a8.eq_1
theorem UL:type_of% @eC.eq_1:=@eC.eq_1
theorem Qd:type_of% @a7.eq_1:=@a7.eq_1
theorem Sr:type_of% @aF.eq_1:=@aF.eq_1
theorem Tp:type_of% @aQ.eq_1:=@aQ.eq_1
theorem QY:type_of% @aW.eq_1:=@aW.eq_1
theorem Sz:type_of% @qG.eq_1:=@qG.eq_1
theorem To:type_of% @FI.eq_1:=@FI.eq_1
theorem Sq:type_of% @mP.eq_1:=@mP.eq_1
theorem Qg:type_of% @wF.eq_1:=@wF.eq_1
theorem So:type_of% @KA.eq_1:=@KA.eq_1
theorem Qa:type_of% @Bq.eq_1:=@Bq.eq_1
theorem Tq:type_of% @Tr.eq_1:=@Tr.eq_1
theorem Sk:type_of% @bQ.eq_1:=@bQ.eq_1
theorem Su:type_of% @i7.eq_1:=@i7.eq_1
theorem Ss:type_of% @D4.eq_1:=@D4.eq_1
theorem Sm:type_of% @mO.eq_1:=@mO.eq_1
theorem Qf:type_of% @aR.eq_1:=@aR.eq_1
theorem T1:type_of% @back.eq_1:=@back.eq_1
theorem Tt:type_of% @eY.eq_1:=@eY.eq_1
theorem Sx:type_of% @wE.eq_1:=@wE.eq_1
theorem Qe:type_of% @gM.eq_1:=@gM.eq_1
theorem Pd:type_of% @mV.eq_1:=@mV.eq_1
theorem Tn:type_of% @IU.eq_1:=@IU.eq_1
theorem QZ:type_of% @pJ.eq_1:=@pJ.eq_1
theorem N3:type_of% @iO.eq_1:=@iO.eq_1
theorem Sa:type_of% @kB.eq_1:=@kB.eq_1
theorem N2:type_of% @iN.eq_1:=@iN.eq_1
theorem N1:type_of% @rW.eq_1:=@rW.eq_1
theorem UF:type_of% @gN.eq_1:=@gN.eq_1
theorem UE:type_of% @gT.eq_1:=@gT.eq_1
theorem NM:type_of% @aN.eq_1:=@aN.eq_1
theorem Oy:type_of% @o4.eq_1:=@o4.eq_1
theorem Pp:type_of% @eS.eq_1:=@eS.eq_1
end Z
local macro_rules | `(tactic| push_cast [$xs,*])=>do
  let a:Array (Lean.TSyntax `Lean.Parser.Tactic.simpLemma) <- (("Ts RC NV LF Rm Sn Pr RH Pn Qc RD Qb Sy NO NN RJ OE OA OC N0 Oi QR Sw Sv RA Pj NW Pl NR Pk RB Pi TN R9 Pg RE On RI RK Ph RF Sj UL Qd Sr Tp QY Sz To Sq Qg So Qa Tq Sk Su Ss Sm Qf T1 Tt Sx Qe Pd Tn QZ N3 Sa N2 N1 UF UE NM Oy QH Pq Q3 QC OG Q4 O6 Ps QF QD Q1 Rq Rn Pu Ro Pv Rr Rf Rs Rg Q7 Pw QB Pz Q8 Px Q9 Py TY TW TX TV TU TR Rl Rj Rk Ru Rh Ri O4 O3 Q6 Q5 Rt Rb fH C1 Pp reduceIte".splitOn " ").toArray.mapM λn=>`(Lean.Parser.Tactic.simpLemma| ↓ $(Lean.mkIdent n.toName):term))
  let b:Array (Lean.TSyntax `Lean.Parser.Tactic.simpLemma) <- (("UX UZ UY UO UQ UP UU UW UV UR UT US Sh cI cO SY QQ Te Tj Tg Tc Tb Tf Td Qq Qn Qp Qo Ql Qm U3 U2 U1 Tz Tx SX SW SV SU SS SR SQ SO SN SM SL SK SJ SI SH beq_self_eq_true List.getElem?_cons_zero List.getElem?_cons_succ List.set_cons_zero List.set_cons_succ List.map_cons List.map_nil List.cons_append List.nil_append List.append_nil List.length_cons List.length_nil List.replicate_succ List.replicate_zero List.all_cons List.all_nil Option.getD_some Bool.and_true Bool.true_and if_true Bool.false_eq_true if_false true_and and_true true_or decide_eq_true_eq decide_true decide_false Bool.not_true Bool.not_false List.not_mem_nil false_imp_iff implies_true nM Nat.reduceSub Nat.reduceAdd Int.reduceEq Int.reduceMul Int.reduceAdd Int.reduceSub Int.reduceNeg Z.guard Int.reduceLT Int.reduceLE Int.reduceToNat Int.reducePow Nat.reduceLT Nat.reduceLeDiff Nat.reducePow Ah".splitOn " ").toArray.mapM λn=>`(Lean.Parser.Tactic.simpLemma| $(Lean.mkIdent n.toName):term))
  `(tactic| simp only[$a,*,$b,*,$xs,*])
namespace Lw
open L2 Z
noncomputable def top(i:Nat):kx:=jy.main.body.getD i (.Pass ⟨0,0,0,0⟩)
noncomputable abbrev nA:c6:=
 (c9 (eY jU (a7 (eY nR (a7 (aQ BP (a8 0) (bQ (a7 (a8 1) aF))) aF)) aF)))
variable {bU dM dH cC cB b9 n4 aM bE:Fn}
section
local macro_rules | `(tactic| norm_cast)=>`(tactic| exact⟨rfl,rfl,rfl,by decide +kernel,rfl,by decide +kernel,by decide +kernel⟩)
theorem AG(P:aw)(w:bv)(mg:bt->Option ae)(base:dm)(m:At K mg "with_band" "with_band" (top 6) ["below", "band"])(cS:mg "sorted" = aq)(d6:mg "tuple" = aq)(len:∀ds Q,sp ds Q->ds.length=2)(hsp:∀ds Q,sp ds Q->nA  ({ nx:=λ_=>Q (.v .non),rt:=Q }) (aN ["below", "band"] ds)):Def P w K mg base 1 "with_band" ["below", "band"] (low K sp):=by
 have sc:FnScope ["below", "band"] ["below", "band"] (aI (top 6)):=by norm_cast
 refine m.okP (k:=0) (t:=nA ) sc (λf cdv A outer s H E hr=>?_) len hsp
 ·
  exact(aJ (bI (g5 oE rfl d6 vb (aD (b7 DB rfl cS tu (aD (bS Gm (a9 0 (pv 0)) (cG (aD (a9 1 (pv 1)) aE))) aE)) aE))))
noncomputable abbrev qR:c6:=
 (mB 1 (bQ (a7 (a8 2) (a7 (a8 3) aF))) (a8 4))
noncomputable abbrev uX:c6:=
 (aO (jT 1 Ox)
 (aO (kA (kB (a8 0)) (gT [2,3,4]) qR)
 (c9 (a8 1))))
theorem FM(P:aw)(w:bv)(mg:bt->Option ae)(base:dm)(m:At K mg "belows" "belows" (top 7) ["floor"])(len:∀ds Q,sp ds Q->ds.length=1)(hsp:∀ds Q,sp ds Q->uX  ({ nx:=λ_=>Q (.v .non),rt:=Q }) (aN ["floor", "told", "a", "b", "below"] ds)):Def P w K mg base 1 "belows" ["floor"] (low K sp):=by
 have sc:FnScope ["floor", "told", "a", "b", "below"] ["floor"] (aI (top 7)):=by norm_cast
 refine m.okP (k:=0) (t:=uX ) sc (λf cdv A outer s H E hr=>?_) len hsp
 ·
  have hu1:=eX hr;exact(aG (j9 (i:=1) sc.nd rfl (.inl rfl) DX)
 (aG (h9 dk rfl (fD (a9 0 (pv 0))) (EW (k:=5) (is:=[2,3,4]) rfl (dF (eE (i:=2) sc.nd rfl (.inl rfl)) (dF (eE (i:=3) sc.nd rfl (.inl rfl)) (dF (eE (i:=4) sc.nd rfl (.inl rfl)) oQ)))) (aJ (tH hu1 (i:=1) (pv 1) (cG (aD (a9 2 (pv 2)) (aD (a9 3 (pv 3)) aE))) (a9 4 (pv 4)))))
 (aJ (bI (a9 1 (pv 1))))))
noncomputable abbrev kQ(bU:Fn):c6:=
 (c9 (i7 (a7 (bQ (a7 (a8 0) (a7 (a8 1) (a7 (a8 3) aF)))) (a7 (bQ (a7 (a8 0) (a7 (a8 2) (a7 (aR bU (a7 (a8 3) (a7 (a8 1) aF))) aF)))) (a7 (bQ (a7 (a8 1) (a7 (a8 2) (a7 (a8 3) aF)))) aF)))))
theorem wG(P:aw)(w:bv)(mg:bt->Option ae)(base:dm)(m:At K mg "standing_up" "standing_up" (top 12) ["a", "b", "c", "some"])(fF:Def P w K mg base 1 "with_band" ["below", "band"] (low K bU))(jI:MonoF bU)(len:∀ds Q,sp ds Q->ds.length=4)(hsp:∀ds Q,sp ds Q->kQ bU ({ nx:=λ_=>Q (.v .non),rt:=Q }) (aN ["a", "b", "c", "some"] ds)):Def P w K mg base 2 "standing_up" ["a", "b", "c", "some"] (low K sp):=by
 have sc:FnScope ["a", "b", "c", "some"] ["a", "b", "c", "some"] (aI (top 12)):=by norm_cast
 refine m.okP (k:=1) (t:=kQ bU) sc (λf cdv A outer s H E hr=>?_) len hsp
 ·
  exact(aJ (bI (gJ (aD (cG (aD (a9 0 (pv 0)) (aD (a9 1 (pv 1)) (aD (a9 3 (pv 3)) aE)))) (aD (cG (aD (a9 0 (pv 0)) (aD (a9 2 (pv 2)) (aD (aV fF jI (hr.mono (by decide)) (aD (a9 3 (pv 3)) (aD (a9 1 (pv 1)) aE))) aE)))) (aD (cG (aD (a9 1 (pv 1)) (aD (a9 2 (pv 2)) (aD (a9 3 (pv 3)) aE)))) aE))))))
noncomputable abbrev j5(bU:Fn):c6:=
 (c9 (i7 (a7 (bQ (a7 (a8 0) (a7 (a8 1) (a7 (aR bU (a7 (a8 3) (a7 (a8 2) aF))) aF)))) (a7 (bQ (a7 (a8 0) (a7 (a8 2) (a7 (a8 3) aF)))) (a7 (bQ (a7 (a8 1) (a7 (a8 2) (a7 (aR bU (a7 (a8 3) (a7 (a8 0) aF))) aF)))) aF)))))
theorem t5(P:aw)(w:bv)(mg:bt->Option ae)(base:dm)(m:At K mg "standing_down" "standing_down" (top 13) ["a", "b", "c", "some"])(fF:Def P w K mg base 1 "with_band" ["below", "band"] (low K bU))(jI:MonoF bU)(len:∀ds Q,sp ds Q->ds.length=4)(hsp:∀ds Q,sp ds Q->j5 bU ({ nx:=λ_=>Q (.v .non),rt:=Q }) (aN ["a", "b", "c", "some"] ds)):Def P w K mg base 2 "standing_down" ["a", "b", "c", "some"] (low K sp):=by
 have sc:FnScope ["a", "b", "c", "some"] ["a", "b", "c", "some"] (aI (top 13)):=by norm_cast
 refine m.okP (k:=1) (t:=j5 bU) sc (λf cdv A outer s H E hr=>?_) len hsp
 ·
  exact(aJ (bI (gJ (aD (cG (aD (a9 0 (pv 0)) (aD (a9 1 (pv 1)) (aD (aV fF jI (hr.mono (by decide)) (aD (a9 3 (pv 3)) (aD (a9 2 (pv 2)) aE))) aE)))) (aD (cG (aD (a9 0 (pv 0)) (aD (a9 2 (pv 2)) (aD (a9 3 (pv 3)) aE)))) (aD (cG (aD (a9 1 (pv 1)) (aD (a9 2 (pv 2)) (aD (aV fF jI (hr.mono (by decide)) (aD (a9 3 (pv 3)) (aD (a9 0 (pv 0)) aE))) aE)))) aE))))))
noncomputable abbrev j4(eA cY:Fn):c6:=
 (aO (bD 2 (aQ cA (a8 1) (eC (.int 0))))
 (aO (bD 3 (aQ cA (a8 1) (eC (.int 1))))
 (aO (bD 4 (aQ cA (a8 1) (eC (.int 2))))
 (aO (bD 5 (i7 (a7 (bQ (a7 (a8 2) (a7 (a8 3) (a7 (aQ cA (a8 0) (bQ (a7 (a8 2) (a7 (a8 3) aF)))) aF)))) (a7 (bQ (a7 (a8 2) (a7 (a8 4) (a7 (aQ cA (a8 0) (bQ (a7 (a8 2) (a7 (a8 4) aF)))) aF)))) (a7 (bQ (a7 (a8 3) (a7 (a8 4) (a7 (aQ cA (a8 0) (bQ (a7 (a8 3) (a7 (a8 4) aF)))) aF)))) aF)))))
 (aO (jE (aW (aQ sF (a8 5) (aR eA (a7 (a8 2) (a7 (a8 3) (a7 (a8 4) (a7 (aQ cA (a8 0) (bQ (a7 (a8 2) (a7 (a8 3) aF)))) aF))))))) (c9 (aR cY (a7 (a8 2) (a7 (a8 3) (a7 (a8 4) (a7 (aQ cA (a8 0) (bQ (a7 (a8 2) (a7 (a8 3) aF)))) aF)))))) bN)
 (aO (jE (aW (aQ sF (a8 5) (aR cY (a7 (a8 2) (a7 (a8 3) (a7 (a8 4) (a7 (aQ cA (a8 0) (bQ (a7 (a8 2) (a7 (a8 4) aF)))) aF))))))) (c9 (aR eA (a7 (a8 2) (a7 (a8 3) (a7 (a8 4) (a7 (aQ cA (a8 0) (bQ (a7 (a8 2) (a7 (a8 4) aF)))) aF)))))) bN)
 (c9 (eC .non))))))))
theorem t4(P:aw)(w:bv)(mg:bt->Option ae)(base:dm){eA cY:Fn}(m:At K mg "tiles_by_flip" "tiles_by_flip" (top 14) ["below", "three"])(iP:Def P w K mg base 2 "standing_up" ["a", "b", "c", "some"] (low K eA))(nV:MonoF eA)(gC:Def P w K mg base 2 "standing_down" ["a", "b", "c", "some"] (low K cY))(lE:MonoF cY)(len:∀ds Q,sp ds Q->ds.length=2)(hsp:∀ds Q,sp ds Q->j4 eA cY ({ nx:=λ_=>Q (.v .non),rt:=Q }) (aN ["below", "three", "a", "b", "c", "tiles"] ds)):Def P w K mg base 3 "tiles_by_flip" ["below", "three"] (low K sp):=by
 have sc:FnScope ["below", "three", "a", "b", "c", "tiles"] ["below", "three"] (aI (top 14)):=by norm_cast
 refine m.okP (k:=2) (t:=j4 eA cY) sc (λf cdv A outer s H E hr=>?_) len hsp
 ·
  have hu:=hr.units;have hu1:=eX hr;exact(aG (bP (i:=2) sc.nd rfl (.inl rfl) (bW hu1 (a9 1 (pv 1)) aU))
 (aG (bP (i:=3) sc.nd rfl (.inl rfl) (bW hu1 (a9 1 (pv 1)) aU))
 (aG (bP (i:=4) sc.nd rfl (.inl rfl) (bW hu1 (a9 1 (pv 1)) aU))
 (aG (bP (i:=5) sc.nd rfl (.inl rfl) (gJ (aD (cG (aD (a9 2 (pv 2)) (aD (a9 3 (pv 3)) (aD (bW hu1 (a9 0 (pv 0)) (cG (aD (a9 2 (pv 2)) (aD (a9 3 (pv 3)) aE)))) aE)))) (aD (cG (aD (a9 2 (pv 2)) (aD (a9 4 (pv 4)) (aD (bW hu1 (a9 0 (pv 0)) (cG (aD (a9 2 (pv 2)) (aD (a9 4 (pv 4)) aE)))) aE)))) (aD (cG (aD (a9 3 (pv 3)) (aD (a9 4 (pv 4)) (aD (bW hu1 (a9 0 (pv 0)) (cG (aD (a9 3 (pv 3)) (aD (a9 4 (pv 4)) aE)))) aE)))) aE)))))
 (aG (fB (bB (jV hu) (a9 5 (pv 5)) (aV iP nV (hr.mono (by decide)) (aD (a9 2 (pv 2)) (aD (a9 3 (pv 3)) (aD (a9 4 (pv 4)) (aD (bW hu1 (a9 0 (pv 0)) (cG (aD (a9 2 (pv 2)) (aD (a9 3 (pv 3)) aE)))) aE)))))) (aJ (bI (aV gC lE (hr.mono (by decide)) (aD (a9 2 (pv 2)) (aD (a9 3 (pv 3)) (aD (a9 4 (pv 4)) (aD (bW hu1 (a9 0 (pv 0)) (cG (aD (a9 2 (pv 2)) (aD (a9 3 (pv 3)) aE)))) aE))))))) bO)
 (aG (fB (bB (jV hu) (a9 5 (pv 5)) (aV gC lE (hr.mono (by decide)) (aD (a9 2 (pv 2)) (aD (a9 3 (pv 3)) (aD (a9 4 (pv 4)) (aD (bW hu1 (a9 0 (pv 0)) (cG (aD (a9 2 (pv 2)) (aD (a9 4 (pv 4)) aE)))) aE)))))) (aJ (bI (aV iP nV (hr.mono (by decide)) (aD (a9 2 (pv 2)) (aD (a9 3 (pv 3)) (aD (a9 4 (pv 4)) (aD (bW hu1 (a9 0 (pv 0)) (cG (aD (a9 2 (pv 2)) (aD (a9 4 (pv 4)) aE)))) aE))))))) bO)
 (aJ (bI y7))))))))
noncomputable abbrev pR:c6:=
 (c9 (wF (wE "int" (a8 0)) (Bq (wE "bool" (a8 0)))))
theorem Bu(P:aw)(w:bv)(mg:bt->Option ae)(base:dm)(m:At K mg "is_whole" "is_whole" (top 21) ["thing"])(b6:mg "isinstance" = aq)(xO:mg "int" = aq)(sH:mg "bool" = aq)(len:∀ds Q,sp ds Q->ds.length=1)(hsp:∀ds Q,sp ds Q->pR  ({ nx:=λ_=>Q (.v .non),rt:=Q }) (aN ["thing"] ds)):Def P w K mg base 1 "is_whole" ["thing"] (low K sp):=by
 have sc:FnScope ["thing"] ["thing"] (aI (top 21)):=by norm_cast
 refine m.okP (k:=0) (t:=pR ) sc (λf cdv A outer s H E hr=>?_) len hsp
 ·
  exact(aJ (bI (DY (tJ (.inl rfl) rfl b6 (a9 0 (pv 0)) (kH (v:=.ty "int") rfl xO boot_int rfl)) (B7 (Kd (tJ (.inr (.inl rfl)) rfl b6 (a9 0 (pv 0)) (kH (v:=.ty "bool") rfl sH boot_bool rfl)))))))
noncomputable abbrev gE(iJ:Fn):c6:=
 (aO (jE (FI (mP (mO (wE "tuple" (a8 0)))) (aW (aQ wT (eY e9 (a7 (a8 0) aF)) (eC (.int 3))))) (c9 (eC (.bl ap))) bN)
 (c9 (eY Gj (a7 (gM 1 [] (kB (a8 0)) (gN 0) mV (aR iJ (a7 (a8 0) aF))) aF))))
theorem pC(P:aw)(w:bv)(mg:bt->Option ae)(base:dm){iJ:Fn}(m:At K mg "has_three_wholes" "has_three_wholes" (top 27) ["direction"])(b6:mg "isinstance" = aq)(d6:mg "tuple" = aq)(bK:mg "len" = aq)(Fc:mg "all" = aq)(qM:Def P w K mg base 1 "is_whole" ["thing"] (low K iJ))(Ba:MonoF iJ)(len:∀ds Q,sp ds Q->ds.length=1)(hsp:∀ds Q,sp ds Q->gE iJ ({ nx:=λ_=>Q (.v .non),rt:=Q }) (aN ["direction"] ds)):Def P w K mg base 2 "has_three_wholes" ["direction"] (low K sp):=by
 have sc:FnScope ["direction"] ["direction"] (aI (top 27)):=by norm_cast
 refine m.okP (k:=1) (t:=gE iJ) sc (λf cdv A outer s H E hr=>?_) len hsp
 ·
  have hu:=hr.units;exact(aG (fB (QW.qt (y6 (gZ (iE (tJ (.inr (.inr (.inl rfl))) rfl b6 (a9 0 (pv 0)) (kH (v:=.ty "tuple") rfl d6 vb rfl)))) (sP (bB (nS hu) (b7 cP rfl bK fu (aD (a9 0 (pv 0)) aE)) aU)))) (aJ (bI nP)) bO)
 (aJ (bI (b7 (Mi rfl) rfl Fc boot_all (aD (B8 ["part"] [] [] rfl (fD (a9 0 (pv 0))) (λfp s H=>(jF (i:=0) (k:=1) (show pk (["part"]:List bt) by decide +kernel) rfl (.inl rfl))) (λfp s H=>uC) (λfp s H=>(aV qM Ba (hr.mono (by decide)) (aD (a9 0 (pv 0)) aE)))) aE)))))
noncomputable abbrev gX:c6:=
 (c9 (wF (aQ O9 (eY El (a7 (aQ cA (a8 0) (eC (.int 0))) aF)) (eC (.int 999999999999))) (aQ O9 (eY El (a7 (aQ cA (a8 0) (eC (.int 1))) aF)) (eC (.int 999999999999)))))
theorem qH(P:aw)(w:bv)(mg:bt->Option ae)(base:dm)(m:At K mg "has_few_figures" "has_few_figures" (top 28) ["direction"])(DJ:mg "abs" = aq)(gU:∃t,mg "LARGEST_PART" = aa (.int 999999999999 t))(len:∀ds Q,sp ds Q->ds.length=1)(hsp:∀ds Q,sp ds Q->gX  ({ nx:=λ_=>Q (.v .non),rt:=Q }) (aN ["direction"] ds)):Def P w K mg base 1 "has_few_figures" ["direction"] (low K sp):=by
 have sc:FnScope ["direction"] ["direction"] (aI (top 28)):=by norm_cast
 refine m.okP (k:=0) (t:=gX ) sc (λf cdv A outer s H E hr=>?_) len hsp
 ·
  have hu1:=eX hr;exact(aJ (bI (DY (vF Gk (b7 ID rfl DJ boot_abs (aD (bW hu1 (a9 0 (pv 0)) aU) aE)) (rM gU)) (B7 (vF Gk (b7 ID rfl DJ boot_abs (aD (bW hu1 (a9 0 (pv 0)) aU) aE)) (rM gU))))))
noncomputable abbrev nB:c6:=
 (c9 (KA (aQ JL (aQ cA (a8 0) (eC (.int 1))) (eC (.int 0))) (wF (aQ sF (aQ cA (a8 0) (eC (.int 1))) (eC (.int 0))) (aQ JL (aQ cA (a8 0) (eC (.int 0))) (eC (.int 0))))))
theorem AH(P:aw)(w:bv)(mg:bt->Option ae)(base:dm)(m:At K mg "points_up" "points_up" (top 29) ["direction"])(len:∀ds Q,sp ds Q->ds.length=1)(hsp:∀ds Q,sp ds Q->nB  ({ nx:=λ_=>Q (.v .non),rt:=Q }) (aN ["direction"] ds)):Def P w K mg base 1 "points_up" ["direction"] (low K sp):=by
 have sc:FnScope ["direction"] ["direction"] (aI (top 29)):=by norm_cast
 refine m.okP (k:=0) (t:=nB ) sc (λf cdv A outer s H E hr=>?_) len hsp
 ·
  have hu:=hr.units;have hu1:=eX hr;exact(aJ (bI (RY (vF sT (bW hu1 (a9 0 (pv 0)) aU) aU) (B7 (DY (vF (jV hu) (bW hu1 (a9 0 (pv 0)) aU) aU) (B7 (vF sT (bW hu1 (a9 0 (pv 0)) aU) aU)))))))
noncomputable abbrev nD:c6:=
 (c9 (aQ JL (aQ kU (aQ g6 (aQ cA (a8 1) (eC (.int 0))) (aQ cA (a8 0) (eC (.int 1)))) (aQ g6 (aQ cA (a8 0) (eC (.int 0))) (aQ cA (a8 1) (eC (.int 1))))) (eC (.int 0))))
theorem AI(P:aw)(w:bv)(mg:bt->Option ae)(base:dm)(m:At K mg "lies_left" "lies_left" (top 30) ["direction", "ahead"])(len:∀ds Q,sp ds Q->ds.length=2)(hsp:∀ds Q,sp ds Q->nD  ({ nx:=λ_=>Q (.v .non),rt:=Q }) (aN ["direction", "ahead"] ds)):Def P w K mg base 1 "lies_left" ["direction", "ahead"] (low K sp):=by
 have sc:FnScope ["direction", "ahead"] ["direction", "ahead"] (aI (top 30)):=by norm_cast
 refine m.okP (k:=0) (t:=nD ) sc (λf cdv A outer s H E hr=>?_) len hsp
 ·
  have hu1:=eX hr;exact(aJ (bI (vF sT (bS jG (bS dI (bW hu1 (a9 1 (pv 1)) aU) (bW hu1 (a9 0 (pv 0)) aU)) (bS dI (bW hu1 (a9 0 (pv 0)) aU) (bW hu1 (a9 1 (pv 1)) aU))) aU)))
noncomputable abbrev gY(cQ cW gO:Fn):c6:=
 (aO (jE (mP (mO (aR cQ (a7 (a8 0) aF)))) iC bN)
 (aO (jE (mP (mO (aR cW (a7 (a8 0) aF)))) iC bN)
 (aO (jE (mP (mO (aR gO (a7 (a8 0) aF)))) iC bN)
 (jE (aW (aQ BN (aQ cA (a8 0) (eC (.int 2))) (eC (.int 1)))) iC bN))))
theorem qI(P:aw)(w:bv)(mg:bt->Option ae)(base:dm){cQ cW gO:Fn}(m:At K mg "check_direction" "check_direction" (top 31) ["direction"])(gG:Def P w K mg base 2 "has_three_wholes" ["direction"] (low K cQ))(p8:MonoF cQ)(hW:Def P w K mg base 1 "has_few_figures" ["direction"] (low K cW))(qB:MonoF cW)(o6:Def P w K mg base 1 "points_up" ["direction"] (low K gO))(zR:MonoF gO)(len:∀ds Q,sp ds Q->ds.length=1)(hsp:∀ds Q,sp ds Q->gY cQ cW gO ({ nx:=λ_=>Q (.v .non),rt:=Q }) (aN ["direction"] ds)):Def P w K mg base 3 "check_direction" ["direction"] (low K sp):=by
 have sc:FnScope ["direction"] ["direction"] (aI (top 31)):=by norm_cast
 refine m.okP (k:=2) (t:=gY cQ cW gO) sc (λf cdv A outer s H E hr=>?_) len hsp
 ·
  have hu1:=eX hr;exact(aG (fB (gZ (iE (aV gG p8 (hr.mono (by decide)) (aD (a9 0 (pv 0)) aE)))) (aJ iL) bO)
 (aG (fB (gZ (iE (aV hW qB (hr.mono (by decide)) (aD (a9 0 (pv 0)) aE)))) (aJ iL) bO)
 (aG (fB (gZ (iE (aV o6 zR (hr.mono (by decide)) (aD (a9 0 (pv 0)) aE)))) (aJ iL) bO)
 (aJ (fB (bB nU (bW hu1 (a9 0 (pv 0)) aU) aU) (aJ iL) bO)))))
noncomputable abbrev iY(bG dB:Fn):c6:=
 (Az (aR bG (a7 (a8 1) aF)))
noncomputable abbrev fJ(bG dB:Fn):c6:=
 (jE (mP (mO (aR dB (a7 (a8 1) (a7 (a8 2) aF))))) iC bN)
noncomputable abbrev gF(bG dB:Fn):c6:=
 (aO (jE (mP (mO (wE "list" (a8 0)))) iC bN)
 (aO (jE (mP (aW (o4 O9 O9 (eC (.int 2)) (eY e9 (a7 (a8 0) aF)) (eC (.int 6))))) iC bN)
 (aO (kA (kB (a8 0)) (gN 1) (iY bG dB))
 (aO (jE (aW (aQ JL (eY Gf (a7 (gM 1 [] (kB (a8 0)) (gN 0) mV (aQ cA (a8 0) (eC (.int 2)))) aF)) (eC (.int 12)))) iC bN)
 (kA (Bh (a7 (a8 0) (a7 (IU (a8 0) (pJ (eC (.int 1))) iO) aF))) (gT [2,1]) (fJ bG dB))))))
theorem pD(P:aw)(w:bv)(mg:bt->Option ae)(base:dm){bG dB:Fn}(m:At K mg "check_directions" "check_directions" (top 32) ["directions"])(b6:mg "isinstance" = aq)(d7:mg "list" = aq)(bK:mg "len" = aq)(Fb:mg "sum" = aq)(Fa:mg "zip" = aq)(fW:∃t,mg "FEWEST_DIRECTIONS" = aa (.int 2 t))(gR:∃t,mg "MOST_DIRECTIONS" = aa (.int 6 t))(lO:∃t,mg "MOST_BANDS" = aa (.int 12 t))(hX:Def P w K mg base 3 "check_direction" ["direction"] (low K bG))(qD:MonoF bG)(o7:Def P w K mg base 1 "lies_left" ["direction", "ahead"] (low K dB))(zS:MonoF dB)(len:∀ds Q,sp ds Q->ds.length=1)(hsp:∀ds Q,sp ds Q->gF bG dB ({ nx:=λ_=>Q (.v .non),rt:=Q }) (aN ["directions", "direction", "ahead"] ds)):Def P w K mg base 4 "check_directions" ["directions"] (low K sp):=by
 have sc:FnScope ["directions", "direction", "ahead"] ["directions"] (aI (top 32)):=by norm_cast
 refine m.okP (k:=3) (t:=gF bG dB) sc (λf cdv A outer s H E hr=>?_) len hsp
 ·
  have hu1:=eX hr;exact(aG (fB (gZ (iE (tJ (.inr (.inr (.inr (.inl rfl)))) rfl b6 (a9 0 (pv 0)) (kH (v:=.ty "list") rfl d7 va rfl)))) (aJ iL) bO)
 (aG (fB (gZ (B6 Gp Gp (rM fW) (b7 cP rfl bK fu (aD (a9 0 (pv 0)) aE)) (rM gR))) (aJ iL) bO)
 (aG (h9 dk rfl (fD (a9 0 (pv 0))) (jF (i:=1) (k:=3) sc.nd rfl (.inl rfl)) (aJ (GE (aV hX qD (hr.mono (by decide)) (aD (a9 1 (pv 1)) aE)))))
 (aG (fB (bB sT (b7 (Mh rfl) rfl Fb boot_sum (aD (B8 ["direction"] [] [] rfl (fD (a9 0 (pv 0))) (λfp s H=>(jF (i:=0) (k:=1) (show pk (["direction"]:List bt) by decide +kernel) rfl (.inl rfl))) (λfp s H=>uC) (λfp s H=>(bW hu1 (a9 0 (pv 0)) aU))) aE)) (rM lO)) (aJ iL) bO)
 (aJ (h9 dk rfl (LK rfl Fa (aD (a9 0 (pv 0)) (aD (uF (a9 0 (pv 0)) (uD aU) uE) aE))) (EW (k:=3) (is:=[2,1]) rfl (dF (eE (i:=2) sc.nd rfl (.inl rfl)) (dF (eE (i:=1) sc.nd rfl (.inl rfl)) oQ))) (aJ (fB (gZ (iE (aV o7 zS (hr.mono (by decide)) (aD (a9 1 (pv 1)) (aD (a9 2 (pv 2)) aE))))) (aJ iL) bO))))))))
noncomputable abbrev sD(C:af)(bR:Fn):c6:=
 (ES 2 (aQ g6 (i7 (a7 (a8 3) aF)) (aQ cA (a8 4) (eC (.int 2)))))
noncomputable abbrev CL(C:af)(bR:Fn):c6:=
 (aO (Az (aR bR (a7 (a8 1) aF)))
 (aO (jT 2 (i7 aF))
 (aO (kA (A6 (a7 (a8 1) aF)) (gT [3,4]) (sD C bR))
 (aO (vB C 0 "kinds" (eY jU (a7 (a8 2) aF)))
 (vB C 0 "vectors" (eY jU (a7 (gM 1 [] (kB (a8 1)) (gN 0) mV (bQ (a7 (aQ cA (a8 0) (eC (.int 0))) (a7 (aQ cA (a8 0) (eC (.int 1))) aF)))) aF)))))))
theorem KD(P:aw)(w:bv)(mg:bt->Option ae)(base:dm){bR:Fn}(m:IAt K mg "Sides" C "Sides.__init__" (fR (top 33) 0) ["self", "directions"])(n6:mg "enumerate" = aq)(d6:mg "tuple" = aq)(cl:Cls K C)(jH:jC K C "kinds")(sU:jC K C "vectors")(gH:Def P w K mg base 4 "check_directions" ["directions"] (low K bR))(p9:MonoF bR)(len:∀ds Q,sp ds Q->ds.length+1=2)(hsp:∀ds Q,sp ds Q -> ∀a,CL C bR { nx:=λρ=>∃d,ρ[0]?=aa (.own a d)/\Q (.nw d),rt:=λ_=>False } (j8 C a ["self", "directions", "kinds", "number", "direction"] ds)):IDef P w K mg base 5 "Sides" C ["self", "directions"] sp:=by
 have sc:FnScope ["self", "directions", "kinds", "number", "direction"] ["self", "directions"] (aI (fR (top 33) 0)):=by norm_cast
 refine m.okP (k:=4) (t:=CL C bR) sc (λf cdv A outer s H E hr=>?_) len hsp
 ·
  have hu1:=eX hr;exact(aG (GE (aV gH p9 (hr.mono (by decide)) (aD (a9 1 (pv 1)) aE)))
 (aG (j9 (i:=2) sc.nd rfl (.inl rfl) (gJ aE))
 (aG (h9 dk rfl (Iw rfl n6 (aD (a9 1 (pv 1)) aE)) (EW (k:=5) (is:=[3,4]) rfl (dF (eE (i:=3) sc.nd rfl (.inl rfl)) (dF (eE (i:=4) sc.nd rfl (.inl rfl)) oQ))) (aJ (Nq (i:=2) (pv 2) (bS dI (gJ (aD (a9 3 (pv 3)) aE)) (bW hu1 (a9 4 (pv 4)) aU)))))
 (aG (GF (i:=0) cl jH (pv 0) (g5 oE rfl d6 vb (aD (a9 2 (pv 2)) aE)))
 (aJ (GF (i:=0) cl sU (pv 0) (g5 oE rfl d6 vb (aD (B8 ["direction"] [] [] rfl (fD (a9 1 (pv 1))) (λfp s H=>(jF (i:=0) (k:=1) (show pk (["direction"]:List bt) by decide +kernel) rfl (.inl rfl))) (λfp s H=>uC) (λfp s H=>(cG (aD (bW hu1 (a9 0 (pv 0)) aU) (aD (bW hu1 (a9 0 (pv 0)) aU) aE))))) aE))))))))
noncomputable abbrev CJ(C:af):c6:=
 (c9 (eY e9 (a7 (Hy C "kinds" (a8 0)) aF)))
theorem KB(P:aw)(w:bv)(mg:bt->Option ae)(base:dm)(m:MAt K C "many" "Sides.many" (fR (top 33) 1) ["self"])(bK:mg "len" = aq)(cl:Cls K C)(jH:jC K C "kinds")(len:∀ds Q,sp ds Q->ds.length=1)(hsp:∀ds Q,sp ds Q->CJ C  ({ nx:=λ_=>Q (.v .non),rt:=Q }) (aN ["self"] ds)):MDef P w K mg base 1 C "many" ["self"] (low K sp):=by
 have sc:FnScope ["self"] ["self"] (aI (fR (top 33) 1)):=by norm_cast
 refine m.okP (k:=0) (t:=CJ C ) sc (λf cdv A outer s H E hr=>?_) len hsp
 ·
  exact(aJ (bI (b7 cP rfl bK fu (aD (Kf cl jH (a9 0 (pv 0))) aE))))
noncomputable abbrev CK(C:af):c6:=
 (c9 (aQ cA (Hy C "kinds" (a8 0)) (a8 1)))
theorem KC(P:aw)(w:bv)(mg:bt->Option ae)(base:dm)(m:MAt K C "kind" "Sides.kind" (fR (top 33) 2) ["self", "band"])(cl:Cls K C)(jH:jC K C "kinds")(len:∀ds Q,sp ds Q->ds.length=2)(hsp:∀ds Q,sp ds Q->CK C  ({ nx:=λ_=>Q (.v .non),rt:=Q }) (aN ["self", "band"] ds)):MDef P w K mg base 1 C "kind" ["self", "band"] (low K sp):=by
 have sc:FnScope ["self", "band"] ["self", "band"] (aI (fR (top 33) 2)):=by norm_cast
 refine m.okP (k:=0) (t:=CK C ) sc (λf cdv A outer s H E hr=>?_) len hsp
 ·
  have hu1:=eX hr;exact(aJ (bI (bW hu1 (Kf cl jH (a9 0 (pv 0))) (a9 1 (pv 1)))))
noncomputable abbrev yU(C:af)(dM dH:Fn):c6:=
 (jE (aW (aQ wT (mW C "kind" dH (a8 0) (a7 (a8 2) aF)) (mW C "kind" dH (a8 0) (a7 (a8 3) aF)))) (p7 1 (bQ (a7 (a8 2) (a7 (a8 3) aF)))) bN)
noncomputable abbrev lJ(C:af)(dM dH:Fn):c6:=
 (kA (rW (a7 (aQ eJ (a8 2) (eC (.int 1))) (a7 (mW C "many" dM (a8 0) aF) aF))) (gN 3) (yU C dM dH))
noncomputable abbrev z9(C:af)(dM dH:Fn):c6:=
 (aO (jT 1 (i7 aF))
 (aO (kA (iN (a7 (mW C "many" dM (a8 0) aF) aF)) (gN 2) (lJ C dM dH))
 (c9 (a8 1))))
theorem I9(P:aw)(w:bv)(mg:bt->Option ae)(base:dm)(m:MAt K C "pairs" "Sides.pairs" (fR (top 33) 4) ["self"])(bJ:mg "range" = aq)(cl:Cls K C)(qJ:MDef P w K mg base 1 C "many" ["self"] (low K dM))(mH:MonoF dM)(oB:MDef P w K mg base 1 C "kind" ["self", "band"] (low K dH))(kJ:MonoF dH)(len:∀ds Q,sp ds Q->ds.length=1)(hsp:∀ds Q,sp ds Q->z9 C dM dH ({ nx:=λ_=>Q (.v .non),rt:=Q }) (aN ["self", "found", "a", "b"] ds)):MDef P w K mg base 2 C "pairs" ["self"] (low K sp):=by
 have sc:FnScope ["self", "found", "a", "b"] ["self"] (aI (fR (top 33) 4)):=by norm_cast
 refine m.okP (k:=1) (t:=z9 C dM dH) sc (λf cdv A outer s H E hr=>?_) len hsp
 ·
  have hu:=hr.units;exact(aG (j9 (i:=1) sc.nd rfl (.inl rfl) (gJ aE))
 (aG (h9 dk rfl (jO rfl bJ (aD (uG cl qJ mH (hr.mono (by decide)) (a9 0 (pv 0))) aE)) (jF (i:=2) (k:=4) sc.nd rfl (.inl rfl)) (aJ (h9 dk rfl (y9 rfl bJ (aD (bS cF (a9 2 (pv 2)) aU) (aD (uG cl qJ mH (hr.mono (by decide)) (a9 0 (pv 0))) aE))) (jF (i:=3) (k:=4) sc.nd rfl (.inl rfl)) (aJ (fB (bB (nS hu) (zH cl oB kJ (hr.mono (by decide)) (a9 0 (pv 0)) (aD (a9 2 (pv 2)) aE)) (zH cl oB kJ (hr.mono (by decide)) (a9 0 (pv 0)) (aD (a9 3 (pv 3)) aE))) (aJ (tK (i:=1) (pv 1) (cG (aD (a9 2 (pv 2)) (aD (a9 3 (pv 3)) aE))))) bO)))))
 (aJ (bI (a9 1 (pv 1))))))
noncomputable abbrev wO(C:af)(iR dM dH:Fn):c6:=
 (jE (aW (aQ wT (mW C "kind" dH (a8 0) (a7 (a8 4) aF)) (mW C "kind" dH (a8 0) (a7 (a8 3) aF)))) (p7 1 (bQ (a7 (a8 2) (a7 (a8 3) (a7 (a8 4) aF))))) bN)
noncomputable abbrev jZ(C:af)(iR dM dH:Fn):c6:=
 (kA (rW (a7 (aQ eJ (a8 3) (eC (.int 1))) (a7 (mW C "many" dM (a8 0) aF) aF))) (gN 4) (wO C iR dM dH))
noncomputable abbrev uV(C:af)(iR dM dH:Fn):c6:=
 (aO (jT 1 (i7 aF))
 (aO (kA (kB (mW C "pairs" iR (a8 0) aF)) (gT [2,3]) (jZ C iR dM dH))
 (c9 (a8 1))))
theorem FK(P:aw)(w:bv)(mg:bt->Option ae)(base:dm){iR:Fn}(m:At K mg "threes" "threes" (top 9) ["sides"])(bJ:mg "range" = aq)(cl:Cls K C)(AO:MDef P w K mg base 2 C "pairs" ["self"] (low K iR))(vR:MonoF iR)(qJ:MDef P w K mg base 1 C "many" ["self"] (low K dM))(mH:MonoF dM)(oB:MDef P w K mg base 1 C "kind" ["self", "band"] (low K dH))(kJ:MonoF dH)(len:∀ds Q,sp ds Q->ds.length=1)(hsp:∀ds Q,sp ds Q->uV C iR dM dH ({ nx:=λ_=>Q (.v .non),rt:=Q }) (aN ["sides", "told", "a", "b", "c"] ds)):Def P w K mg base 3 "threes" ["sides"] (low K sp):=by
 have sc:FnScope ["sides", "told", "a", "b", "c"] ["sides"] (aI (top 9)):=by norm_cast
 refine m.okP (k:=2) (t:=uV C iR dM dH) sc (λf cdv A outer s H E hr=>?_) len hsp
 ·
  have hu:=hr.units;exact(aG (j9 (i:=1) sc.nd rfl (.inl rfl) (gJ aE))
 (aG (h9 dk rfl (fD (uG cl AO vR (hr.mono (by decide)) (a9 0 (pv 0)))) (EW (k:=5) (is:=[2,3]) rfl (dF (eE (i:=2) sc.nd rfl (.inl rfl)) (dF (eE (i:=3) sc.nd rfl (.inl rfl)) oQ))) (aJ (h9 dk rfl (y9 rfl bJ (aD (bS cF (a9 3 (pv 3)) aU) (aD (uG cl qJ mH (hr.mono (by decide)) (a9 0 (pv 0))) aE))) (jF (i:=4) (k:=5) sc.nd rfl (.inl rfl)) (aJ (fB (bB (nS hu) (zH cl oB kJ (hr.mono (by decide)) (a9 0 (pv 0)) (aD (a9 4 (pv 4)) aE)) (zH cl oB kJ (hr.mono (by decide)) (a9 0 (pv 0)) (aD (a9 3 (pv 3)) aE))) (aJ (tK (i:=1) (pv 1) (cG (aD (a9 2 (pv 2)) (aD (a9 3 (pv 3)) (aD (a9 4 (pv 4)) aE)))))) bO)))))
 (aJ (bI (a9 1 (pv 1))))))
noncomputable abbrev L9(cC cB:Fn):c6:=
 (aO (bD 2 (aR cC (a7 (a8 1) aF)))
 (c9 (gM 1 [2] (kB (aR cB (a7 (a8 0) aF))) (gN 0) (aW (aQ JK (aQ cA (a8 0) (eC (.int 1))) (aQ cA (a8 1) (bQ (a7 (aQ cA (a8 0) (eC (.int 0))) (a7 (aQ cA (a8 0) (eC (.int 2))) aF)))))) (a8 0))))
theorem Oz(P:aw)(w:bv)(mg:bt->Option ae)(base:dm)(m:At K mg "up" "up" (top 10) ["sides", "floor"])(hZ:Def P w K mg base 1 "belows" ["floor"] (low K cC))(eL:MonoF cC)(hV:Def P w K mg base 3 "threes" ["sides"] (low K cB))(fQ:MonoF cB)(len:∀ds Q,sp ds Q->ds.length=2)(hsp:∀ds Q,sp ds Q->L9 cC cB ({ nx:=λ_=>Q (.v .non),rt:=Q }) (aN ["sides", "floor", "below"] ds)):Def P w K mg base 4 "up" ["sides", "floor"] (low K sp):=by
 have sc:FnScope ["sides", "floor", "below"] ["sides", "floor"] (aI (top 10)):=by norm_cast
 refine m.okP (k:=3) (t:=L9 cC cB) sc (λf cdv A outer s H E hr=>?_) len hsp
 ·
  have hu1:=eX hr;have hu65:=u9 hr;exact(aG (bP (i:=2) sc.nd rfl (.inr rfl) (aV hZ eL (hr.mono (by decide)) (aD (a9 1 (pv 1)) aE)))
 (aJ (bI (B8 ["three"] ["below"] [2] rfl (fD (aV hV fQ (hr.mono (by decide)) (aD (a9 0 (pv 0)) aE))) (λfp s H=>(jF (i:=0) (k:=1) (show pk (["three", "below"]:List bt) by decide +kernel) rfl (.inl rfl))) (λfp s H=>(oN (bB (Cj hu65 hu1) (bW hu1 (a9 0 (pv 0)) aU) (bW hu1 (a9 1 (pv 1)) (cG (aD (bW hu1 (a9 0 (pv 0)) aU) (aD (bW hu1 (a9 0 (pv 0)) aU) aE))))))) (λfp s H=>(a9 0 (pv 0)))))))
noncomputable abbrev nI(cC cB b9:Fn):c6:=
 (aO (bD 2 (aR cC (a7 (a8 1) aF)))
 (c9 (gM 1 [2] (kB (aR cB (a7 (a8 0) aF))) (gN 0) (aW (aQ vK (aR b9 (a7 (a8 1) (a7 (a8 0) aF))) (eC .non))) (a8 0))))
theorem AN(P:aw)(w:bv)(mg:bt->Option ae)(base:dm)(m:At K mg "flippable" "flippable" (top 15) ["sides", "floor"])(hZ:Def P w K mg base 1 "belows" ["floor"] (low K cC))(eL:MonoF cC)(hV:Def P w K mg base 3 "threes" ["sides"] (low K cB))(fQ:MonoF cB)(dO:Def P w K mg base 3 "tiles_by_flip" ["below", "three"] (low K b9))(iG:MonoF b9)(len:∀ds Q,sp ds Q->ds.length=2)(hsp:∀ds Q,sp ds Q->nI cC cB b9 ({ nx:=λ_=>Q (.v .non),rt:=Q }) (aN ["sides", "floor", "below"] ds)):Def P w K mg base 4 "flippable" ["sides", "floor"] (low K sp):=by
 have sc:FnScope ["sides", "floor", "below"] ["sides", "floor"] (aI (top 15)):=by norm_cast
 refine m.okP (k:=3) (t:=nI cC cB b9) sc (λf cdv A outer s H E hr=>?_) len hsp
 ·
  exact(aG (bP (i:=2) sc.nd rfl (.inr rfl) (aV hZ eL (hr.mono (by decide)) (aD (a9 1 (pv 1)) aE)))
 (aJ (bI (B8 ["three"] ["below"] [2] rfl (fD (aV hV fQ (hr.mono (by decide)) (aD (a9 0 (pv 0)) aE))) (λfp s H=>(jF (i:=0) (k:=1) (show pk (["three", "below"]:List bt) by decide +kernel) rfl (.inl rfl))) (λfp s H=>(oN (bB BS (aV dO iG (hr.mono (by decide)) (aD (a9 1 (pv 1)) (aD (a9 0 (pv 0)) aE))) y7))) (λfp s H=>(a9 0 (pv 0)))))))
noncomputable abbrev sJ(cB cC b9:Fn):c6:=
 (aO (jE (aW (aQ fE (a8 2) (aR cB (a7 (a8 0) aF)))) iC bN)
 (aO (bD 3 (aR b9 (a7 (aR cC (a7 (a8 1) aF)) (a7 (a8 2) aF))))
 (aO (jE (aW (aQ Ei (a8 3) (eC .non))) iC bN)
 (aO (bD 4 (gM 1 [2] (kB (a8 1)) (gN 0) (FI (aW (aQ fE (aQ cA (a8 0) (eC (.int 0))) (a8 1))) (aW (aQ fE (aQ cA (a8 0) (eC (.int 1))) (a8 1)))) (a8 0)))
 (c9 (eY hU (a7 (aQ eJ (a8 4) (a8 3)) aF)))))))
theorem D6(P:aw)(w:bv)(mg:bt->Option ae)(base:dm)(m:At K mg "flipped" "flipped" (top 16) ["sides", "floor", "three"])(cS:mg "sorted" = aq)(hV:Def P w K mg base 3 "threes" ["sides"] (low K cB))(fQ:MonoF cB)(hZ:Def P w K mg base 1 "belows" ["floor"] (low K cC))(eL:MonoF cC)(dO:Def P w K mg base 3 "tiles_by_flip" ["below", "three"] (low K b9))(iG:MonoF b9)(len:∀ds Q,sp ds Q->ds.length=3)(hsp:∀ds Q,sp ds Q->sJ cB cC b9 ({ nx:=λ_=>Q (.v .non),rt:=Q }) (aN ["sides", "floor", "three", "tiles", "others"] ds)):Def P w K mg base 4 "flipped" ["sides", "floor", "three"] (low K sp):=by
 have sc:FnScope ["sides", "floor", "three", "tiles", "others"] ["sides", "floor", "three"] (aI (top 16)):=by norm_cast
 refine m.okP (k:=3) (t:=sJ cB cC b9) sc (λf cdv A outer s H E hr=>?_) len hsp
 ·
  have hu1:=eX hr;have hu65:=u9 hr;exact(aG (fB (bB (oT hu65 hu1) (a9 2 (pv 2)) (aV hV fQ (hr.mono (by decide)) (aD (a9 0 (pv 0)) aE))) (aJ iL) bO)
 (aG (bP (i:=3) sc.nd rfl (.inl rfl) (aV dO iG (hr.mono (by decide)) (aD (aV hZ eL (hr.mono (by decide)) (aD (a9 1 (pv 1)) aE)) (aD (a9 2 (pv 2)) aE))))
 (aG (fB (bB Df (a9 3 (pv 3)) y7) (aJ iL) bO)
 (aG (GD (Ke (iy:=4) ["tile"] ["three"] [2] sc.nd rfl (.inl rfl) rfl (fD (a9 1 (pv 1))) (λfp s H=>(jF (i:=0) (k:=1) (show pk (["tile", "three"]:List bt) by decide +kernel) rfl (.inl rfl))) (λfp s H=>(oN (QW.qt (y6 (bB (oT hu65 hu1) (bW hu1 (a9 0 (pv 0)) aU) (a9 1 (pv 1))) (sP (bB (oT hu65 hu1) (bW hu1 (a9 0 (pv 0)) aU) (a9 1 (pv 1)))))))) (λfp s H=>(a9 0 (pv 0)))))
 (aJ (bI (b7 oY rfl cS tu (aD (bS cF (a9 4 (pv 4)) (a9 3 (pv 3))) aE))))))))
noncomputable abbrev kP(n4 eO:Fn):c6:=
 (jE (qG (aW (aQ JK (a8 4) (a8 3))) (aW (aQ fE (a8 4) (a8 2)))) (c9 (a8 4)) bN)
noncomputable abbrev sK(n4 eO:Fn):c6:=
 (aO (bD 3 (aR n4 (a7 (a8 0) (a7 (a8 1) aF))))
 (aO (kA (kB (aR eO (a7 (a8 0) (a7 (a8 1) aF)))) (gN 4) (kP n4 eO))
 (c9 (eC .non))))
theorem D7(P:aw)(w:bv)(mg:bt->Option ae)(base:dm){eO:Fn}(m:At K mg "falling" "falling" (top 18) ["sides", "floor", "spared"])(d_up:Def P w K mg base 4 "up" ["sides", "floor"] (low K n4))(vQ:MonoF n4)(oC:Def P w K mg base 4 "flippable" ["sides", "floor"] (low K eO))(zV:MonoF eO)(len:∀ds Q,sp ds Q->ds.length=3)(hsp:∀ds Q,sp ds Q->sK n4 eO ({ nx:=λ_=>Q (.v .non),rt:=Q }) (aN ["sides", "floor", "spared", "ups", "three"] ds)):Def P w K mg base 5 "falling" ["sides", "floor", "spared"] (low K sp):=by
 have sc:FnScope ["sides", "floor", "spared", "ups", "three"] ["sides", "floor", "spared"] (aI (top 18)):=by norm_cast
 refine m.okP (k:=4) (t:=sK n4 eO) sc (λf cdv A outer s H E hr=>?_) len hsp
 ·
  have hu1:=eX hr;have hu65:=u9 hr;exact(aG (bP (i:=3) sc.nd rfl (.inl rfl) (aV d_up vQ (hr.mono (by decide)) (aD (a9 0 (pv 0)) (aD (a9 1 (pv 1)) aE))))
 (aG (h9 dk rfl (fD (aV oC zV (hr.mono (by decide)) (aD (a9 0 (pv 0)) (aD (a9 1 (pv 1)) aE)))) (jF (i:=4) (k:=5) sc.nd rfl (.inl rfl)) (aJ (fB (QW.qt (nO (bB (Cj hu65 hu1) (a9 4 (pv 4)) (a9 3 (pv 3))) (oM (bB (oT hu65 hu1) (a9 4 (pv 4)) (a9 2 (pv 2)))))) (aJ (bI (a9 4 (pv 4)))) bO)))
 (aJ (bI y7))))
noncomputable abbrev uQ(n4 eT fT:Fn):c6:=
 (aO (bD 5 (aR eT (a7 (a8 0) (a7 (a8 1) (a7 (aR n4 (a7 (a8 0) (a7 (a8 2) aF))) aF)))))
 (aO (jE (aW (aQ Ei (a8 5) (eC .non))) (aO (bD 5 (aR eT (a7 (a8 0) (a7 (a8 2) (a7 (aR n4 (a7 (a8 0) (a7 (a8 1) aF))) aF)))))
 (aO (jE (aW (aQ vK (a8 5) (eC .non))) (aO (p7 4 (a8 5))
 (aO (bD 2 (aR fT (a7 (a8 0) (a7 (a8 2) (a7 (a8 5) aF)))))
 DT)) bN)
 (bD 5 (aR eT (a7 (a8 0) (a7 (a8 1) (a7 (i7 aF) aF))))))) bN)
 (aO (p7 3 (a8 5))
 (bD 1 (aR fT (a7 (a8 0) (a7 (a8 1) (a7 (a8 5) aF))))))))
noncomputable abbrev Fu(n4 eT fT:Fn):c6:=
 (aO (jT 3 (i7 aF))
 (aO (jT 4 (i7 aF))
 (aO (CT (aW (aQ wT (a8 1) (a8 2))) (uQ n4 eT fT))
 (aO (lA 4)
 (c9 (aQ eJ (a8 3) (a8 4)))))))
theorem Mc(P:aw)(w:bv)(mg:bt->Option ae)(base:dm){eT fT:Fn}(m:At K mg "way" "way" (top 19) ["sides", "one", "other"])(d_up:Def P w K mg base 4 "up" ["sides", "floor"] (low K n4))(vQ:MonoF n4)(lH:Def P w K mg base 5 "falling" ["sides", "floor", "spared"] (low K eT))(qC:MonoF eT)(oX:Def P w K mg base 4 "flipped" ["sides", "floor", "three"] (low K fT))(vU:MonoF fT)(len:∀ds Q,sp ds Q->ds.length=3)(hsp:∀ds Q,sp ds Q->Fu n4 eT fT ({ nx:=λ_=>Q (.v .non),rt:=Q }) (aN ["sides", "one", "other", "there", "back", "three"] ds)):Def P w K mg base 6 "way" ["sides", "one", "other"] (low K sp):=by
 have sc:FnScope ["sides", "one", "other", "there", "back", "three"] ["sides", "one", "other"] (aI (top 19)):=by norm_cast
 refine m.okP (k:=5) (t:=Fu n4 eT fT) sc (λf cdv A outer s H E hr=>?_) len hsp
 ·
  have hu:=hr.units;exact(aG (j9 (i:=3) sc.nd rfl (.inl rfl) (gJ aE))
 (aG (j9 (i:=4) sc.nd rfl (.inl rfl) (gJ aE))
 (aG (DV dk (bB (nS hu) (a9 1 (pv 1)) (a9 2 (pv 2))) (aG (bP (i:=5) sc.nd rfl (.inl rfl) (aV lH qC (hr.mono (by decide)) (aD (a9 0 (pv 0)) (aD (a9 1 (pv 1)) (aD (aV d_up vQ (hr.mono (by decide)) (aD (a9 0 (pv 0)) (aD (a9 2 (pv 2)) aE))) aE)))))
 (aG (fB (bB Df (a9 5 (pv 5)) y7) (aG (bP (i:=5) sc.nd rfl (.inl rfl) (aV lH qC (hr.mono (by decide)) (aD (a9 0 (pv 0)) (aD (a9 2 (pv 2)) (aD (aV d_up vQ (hr.mono (by decide)) (aD (a9 0 (pv 0)) (aD (a9 1 (pv 1)) aE))) aE)))))
 (aG (fB (bB BS (a9 5 (pv 5)) y7) (aG (tK (i:=4) (pv 4) (a9 5 (pv 5)))
 (aG (bP (i:=2) sc.nd rfl (.inl rfl) (aV oX vU (hr.mono (by decide)) (aD (a9 0 (pv 0)) (aD (a9 2 (pv 2)) (aD (a9 5 (pv 5)) aE)))))
 (aJ Cb))) bO)
 (aJ (bP (i:=5) sc.nd rfl (.inl rfl) (aV lH qC (hr.mono (by decide)) (aD (a9 0 (pv 0)) (aD (a9 1 (pv 1)) (aD (gJ aE) aE)))))))) bO)
 (aG (tK (i:=3) (pv 3) (a9 5 (pv 5)))
 (aJ (bP (i:=1) sc.nd rfl (.inl rfl) (aV oX vU (hr.mono (by decide)) (aD (a9 0 (pv 0)) (aD (a9 1 (pv 1)) (aD (a9 5 (pv 5)) aE))))))))))
 (aG (EV (i:=4) (pv 4))
 (aJ (bI (bS cF (a9 3 (pv 3)) (a9 4 (pv 4)))))))))
noncomputable abbrev kT:c6:=
 (aO (jE (aW (aQ BN (a8 1) (eY e9 (a7 (a8 0) aF)))) (c9 (aQ cA (a8 0) (a8 1))) bN)
 (c9 (eC (.int 5))))
theorem wJ(P:aw)(w:bv)(mg:bt->Option ae)(base:dm)(m:At K mg "_law_cell_at" "_law_cell_at" (top 35) ["_law_script", "_law_k"])(bK:mg "len" = aq)(len:∀ds Q,sp ds Q->ds.length=2)(hsp:∀ds Q,sp ds Q->kT  ({ nx:=λ_=>Q (.v .non),rt:=Q }) (aN ["_law_script", "_law_k"] ds)):Def P w K mg base 1 "_law_cell_at" ["_law_script", "_law_k"] (low K sp):=by
 have sc:FnScope ["_law_script", "_law_k"] ["_law_script", "_law_k"] (aI (top 35)):=by norm_cast
 refine m.okP (k:=0) (t:=kT ) sc (λf cdv A outer s H E hr=>?_) len hsp
 ·
  have hu1:=eX hr;exact(aG (fB (bB nU (a9 1 (pv 1)) (b7 cP rfl bK fu (aD (a9 0 (pv 0)) aE))) (aJ (bI (bW hu1 (a9 0 (pv 0)) (a9 1 (pv 1))))) bO)
 (aJ (bI aU)))
noncomputable abbrev nE:c6:=
 (c9 (wF (wE "int" (a8 0)) (Bq (wE "bool" (a8 0)))))
theorem AJ(P:aw)(w:bv)(mg:bt->Option ae)(base:dm)(m:At K mg "_law_whole" "_law_whole" (top 36) ["_law_found"])(b6:mg "isinstance" = aq)(xO:mg "int" = aq)(sH:mg "bool" = aq)(len:∀ds Q,sp ds Q->ds.length=1)(hsp:∀ds Q,sp ds Q->nE  ({ nx:=λ_=>Q (.v .non),rt:=Q }) (aN ["_law_found"] ds)):Def P w K mg base 1 "_law_whole" ["_law_found"] (low K sp):=by
 have sc:FnScope ["_law_found"] ["_law_found"] (aI (top 36)):=by norm_cast
 refine m.okP (k:=0) (t:=nE ) sc (λf cdv A outer s H E hr=>?_) len hsp
 ·
  exact(aJ (bI (DY (tJ (.inl rfl) rfl b6 (a9 0 (pv 0)) (kH (v:=.ty "int") rfl xO boot_int rfl)) (B7 (Kd (tJ (.inr (.inl rfl)) rfl b6 (a9 0 (pv 0)) (kH (v:=.ty "bool") rfl sH boot_bool rfl)))))))
noncomputable abbrev oF(eM:Fn):c6:=
 (jE (mP (mO (aR eM (a7 (a8 1) aF)))) (c9 (eC (.bl ap))) bN)
noncomputable abbrev lQ(eM:Fn):c6:=
 (aO (jE (mP (mO (wE "tuple" (a8 0)))) (c9 (eC (.bl ap))) bN)
 (aO (kA (kB (a8 0)) (gN 1) (oF eM))
 (c9 (eC (.bl ai)))))
theorem xD(P:aw)(w:bv)(mg:bt->Option ae)(base:dm){eM:Fn}(m:At K mg "_law_wholes" "_law_wholes" (top 37) ["_law_found"])(b6:mg "isinstance" = aq)(d6:mg "tuple" = aq)(o8:Def P w K mg base 1 "_law_whole" ["_law_found"] (low K eM))(zT:MonoF eM)(len:∀ds Q,sp ds Q->ds.length=1)(hsp:∀ds Q,sp ds Q->lQ eM ({ nx:=λ_=>Q (.v .non),rt:=Q }) (aN ["_law_found", "_law_number"] ds)):Def P w K mg base 2 "_law_wholes" ["_law_found"] (low K sp):=by
 have sc:FnScope ["_law_found", "_law_number"] ["_law_found"] (aI (top 37)):=by norm_cast
 refine m.okP (k:=1) (t:=lQ eM) sc (λf cdv A outer s H E hr=>?_) len hsp
 ·
  exact(aG (fB (gZ (iE (tJ (.inr (.inr (.inl rfl))) rfl b6 (a9 0 (pv 0)) (kH (v:=.ty "tuple") rfl d6 vb rfl)))) (aJ (bI nP)) bO)
 (aG (h9 dk rfl (fD (a9 0 (pv 0))) (jF (i:=1) (k:=2) sc.nd rfl (.inl rfl)) (aJ (fB (gZ (iE (aV o8 zT (hr.mono (by decide)) (aD (a9 1 (pv 1)) aE)))) (aJ (bI nP)) bO)))
 (aJ (bI nP))))
noncomputable abbrev iT:c6:=
 (aO (bD 6 (aQ kU (aQ kU (a8 1) (eY e9 (a7 (a8 4) aF))) (aQ kU (aQ kU (a8 2) (a8 5)) (eC (.int 1)))))
 (aO (bD 7 (aQ eJ (eC (.int 1)) (aQ iW (aQ iW (aQ g6 (aQ iW (aQ g6 (aQ eJ (a8 0) (aQ g6 (eC (.int 31)) (a8 5))) (eC (.int 48271))) (eC (.int 2147483647))) (aQ eJ (aQ g6 (a8 5) (a8 5)) (eC (.int 17)))) (eC (.int 99991))) (eY vL (a7 (a8 6) (a7 (eC (.int 3)) aF))))))
 (aO (jE (aW (aQ JL (a8 3) (eC (.int 1)))) (aO (bD 7 (aQ eJ (eC (.int 1)) (aQ iW (a8 3) (a8 6))))
 (bD 3 (aQ pW (a8 3) (a8 6)))) bN)
 (bD 4 (aQ eJ (a8 4) (aQ g6 (i7 (a7 (a8 5) aF)) (a8 7)))))))
noncomputable abbrev nH:c6:=
 (aO (bD 2 (aQ eJ (eC (.int 2)) (aQ iW (a8 0) (eC (.int 5)))))
 (aO (bD 3 (aQ pW (a8 0) (eC (.int 5))))
 (aO (bD 4 (i7 aF))
 (aO (kA (iN (a7 (a8 2) aF)) (gN 5) iT)
 (c9 (a8 4))))))
theorem AM(P:aw)(w:bv)(mg:bt->Option ae)(base:dm)(m:At K mg "_law_bands" "_law_bands" (top 38) ["_law_cell", "_law_most"])(bJ:mg "range" = aq)(bK:mg "len" = aq)(xN:mg "min" = aq)(len:∀ds Q,sp ds Q->ds.length=2)(hsp:∀ds Q,sp ds Q->nH  ({ nx:=λ_=>Q (.v .non),rt:=Q }) (aN ["_law_cell", "_law_most", "_law_kinds", "_law_rest", "_law_bands_here", "_law_k", "_law_spare", "_law_count"] ds)):Def P w K mg base 1 "_law_bands" ["_law_cell", "_law_most"] (low K sp):=by
 have sc:FnScope ["_law_cell", "_law_most", "_law_kinds", "_law_rest", "_law_bands_here", "_law_k", "_law_spare", "_law_count"] ["_law_cell", "_law_most"] (aI (top 38)):=by norm_cast
 refine m.okP (k:=0) (t:=nH ) sc (λf cdv A outer s H E hr=>?_) len hsp
 ·
  exact(aG (bP (i:=2) sc.nd rfl (.inl rfl) (bS cF aU (bS fP (a9 0 (pv 0)) aU)))
 (aG (bP (i:=3) sc.nd rfl (.inl rfl) (bS rQ (a9 0 (pv 0)) aU))
 (aG (bP (i:=4) sc.nd rfl (.inl rfl) (gJ aE))
 (aG (h9 dk rfl (jO rfl bJ (aD (a9 2 (pv 2)) aE)) (jF (i:=5) (k:=8) sc.nd rfl (.inl rfl)) (aG (bP (i:=6) sc.nd rfl (.inl rfl) (bS jG (bS jG (a9 1 (pv 1)) (b7 cP rfl bK fu (aD (a9 4 (pv 4)) aE))) (bS jG (bS jG (a9 2 (pv 2)) (a9 5 (pv 5))) aU)))
 (aG (bP (i:=7) sc.nd rfl (.inl rfl) (bS cF aU (bS fP (bS fP (bS dI (bS fP (bS dI (bS cF (a9 0 (pv 0)) (bS dI aU (a9 5 (pv 5)))) aU) aU) (bS cF (bS dI (a9 5 (pv 5)) (a9 5 (pv 5))) aU)) aU) (b7 (E5 rfl) rfl xN boot_min (aD (a9 6 (pv 6)) (aD aU aE))))))
 (aG (fB (bB sT (a9 3 (pv 3)) aU) (aG (bP (i:=7) sc.nd rfl (.inl rfl) (bS cF aU (bS fP (a9 3 (pv 3)) (a9 6 (pv 6)))))
 (aJ (bP (i:=3) sc.nd rfl (.inl rfl) (bS rQ (a9 3 (pv 3)) (a9 6 (pv 6)))))) bO)
 (aJ (bP (i:=4) sc.nd rfl (.inl rfl) (bS cF (a9 4 (pv 4)) (bS dI (gJ (aD (a9 5 (pv 5)) aE)) (a9 7 (pv 7))))))))))
 (aJ (bI (a9 4 (pv 4))))))))
noncomputable abbrev pP:c6:=
 (c9 (aQ iW (aQ iW (aQ g6 (aQ iW (aQ g6 (aQ eJ (a8 0) (aQ g6 (eC (.int 31)) (a8 1))) (eC (.int 48271))) (eC (.int 2147483647))) (aQ eJ (aQ g6 (a8 1) (a8 1)) (eC (.int 17)))) (eC (.int 99991))) (a8 2)))
theorem Bs(P:aw)(w:bv)(mg:bt->Option ae)(base:dm)(m:At K mg "_law_pick" "_law_pick" (top 39) ["_law_cell", "_law_step", "_law_many_here"])(len:∀ds Q,sp ds Q->ds.length=3)(hsp:∀ds Q,sp ds Q->pP  ({ nx:=λ_=>Q (.v .non),rt:=Q }) (aN ["_law_cell", "_law_step", "_law_many_here"] ds)):Def P w K mg base 1 "_law_pick" ["_law_cell", "_law_step", "_law_many_here"] (low K sp):=by
 have sc:FnScope ["_law_cell", "_law_step", "_law_many_here"] ["_law_cell", "_law_step", "_law_many_here"] (aI (top 39)):=by norm_cast
 refine m.okP (k:=0) (t:=pP ) sc (λf cdv A outer s H E hr=>?_) len hsp
 ·
  exact(aJ (bI (bS fP (bS fP (bS dI (bS fP (bS dI (bS cF (a9 0 (pv 0)) (bS dI aU (a9 1 (pv 1)))) aU) aU) (bS cF (bS dI (a9 1 (pv 1)) (a9 1 (pv 1))) aU)) aU) (a9 2 (pv 2)))))
noncomputable abbrev j7:c6:=
 (c9 (aQ eJ (aQ eJ (IU (a8 0) iO (pJ (a8 1))) (i7 (a7 (aQ cA (a8 0) (aQ eJ (a8 1) (eC (.int 1)))) (a7 (aQ cA (a8 0) (a8 1)) aF)))) (IU (a8 0) (pJ (aQ eJ (a8 1) (eC (.int 2)))) iO)))
theorem t7(P:aw)(w:bv)(mg:bt->Option ae)(base:dm)(m:At K mg "_law_exchanged" "_law_exchanged" (top 40) ["_law_path", "_law_p"])(len:∀ds Q,sp ds Q->ds.length=2)(hsp:∀ds Q,sp ds Q->j7  ({ nx:=λ_=>Q (.v .non),rt:=Q }) (aN ["_law_path", "_law_p"] ds)):Def P w K mg base 1 "_law_exchanged" ["_law_path", "_law_p"] (low K sp):=by
 have sc:FnScope ["_law_path", "_law_p"] ["_law_path", "_law_p"] (aI (top 40)):=by norm_cast
 refine m.okP (k:=0) (t:=j7 ) sc (λf cdv A outer s H E hr=>?_) len hsp
 ·
  have hu1:=eX hr;exact(aJ (bI (bS cF (bS cF (uF (a9 0 (pv 0)) uE (uD (a9 1 (pv 1)))) (gJ (aD (bW hu1 (a9 0 (pv 0)) (bS cF (a9 1 (pv 1)) aU)) (aD (bW hu1 (a9 0 (pv 0)) (a9 1 (pv 1))) aE)))) (uF (a9 0 (pv 0)) (uD (bS cF (a9 1 (pv 1)) aU)) uE))))
noncomputable abbrev kO(fI aM:Fn):c6:=
 (aO (bD 6 (aQ kU (eY e9 (a7 (a8 2) aF)) (eC (.int 1))))
 (aO (bD 7 (gM 1 [0,2] (iN (a7 (a8 6) aF)) (gN 0) (aW (aQ BN (aQ cA (a8 1) (aQ cA (a8 2) (a8 0))) (aQ cA (a8 1) (aQ cA (a8 2) (aQ eJ (a8 0) (eC (.int 1))))))) (a8 0)))
 (aO (jE (aW (aQ sF (a8 7) (i7 aF))) (c9 (a8 3)) bN)
 (aO (bD 8 (aR fI (a7 (a8 1) (a7 (a8 5) (a7 (eY e9 (a7 (a8 7) aF)) aF)))))
 (aO (jE (aW (aQ JL (a8 4) (eC (.int 1)))) (aO (bD 8 (aQ iW (a8 4) (eY e9 (a7 (a8 7) aF))))
 (bD 4 (aQ pW (a8 4) (eY e9 (a7 (a8 7) aF))))) bN)
 (aO (p7 3 (aQ cA (a8 7) (a8 8)))
 (bD 2 (aR aM (a7 (a8 2) (a7 (aQ cA (a8 7) (a8 8)) aF))))))))))
noncomputable abbrev sI(fI aM:Fn):c6:=
 (aO (bD 2 (FJ (a7 (eY e9 (a7 (a8 0) aF)) aF)))
 (aO (jT 3 (i7 aF))
 (aO (bD 4 (a8 1))
 (aO (kA (iN (a7 (aQ g6 (eY e9 (a7 (a8 0) aF)) (eY e9 (a7 (a8 0) aF))) aF)) (gN 5) (kO fI aM))
 (c9 (a8 3))))))
theorem D5(P:aw)(w:bv)(mg:bt->Option ae)(base:dm){fI:Fn}(m:At K mg "_law_row" "_law_row" (top 41) ["_law_bands_here", "_law_cell"])(bK:mg "len" = aq)(d7:mg "list" = aq)(bJ:mg "range" = aq)(qK:Def P w K mg base 1 "_law_pick" ["_law_cell", "_law_step", "_law_many_here"] (low K fI))(BY:MonoF fI)(bZ:Def P w K mg base 1 "_law_exchanged" ["_law_path", "_law_p"] (low K aM))(eK:MonoF aM)(len:∀ds Q,sp ds Q->ds.length=2)(hsp:∀ds Q,sp ds Q->sI fI aM ({ nx:=λ_=>Q (.v .non),rt:=Q }) (aN ["_law_bands_here", "_law_cell", "_law_path", "_law_row_here", "_law_rest", "_law_step", "_law_last", "_law_spots", "_law_pick_here"] ds)):Def P w K mg base 2 "_law_row" ["_law_bands_here", "_law_cell"] (low K sp):=by
 have sc:FnScope ["_law_bands_here", "_law_cell", "_law_path", "_law_row_here", "_law_rest", "_law_step", "_law_last", "_law_spots", "_law_pick_here"] ["_law_bands_here", "_law_cell"] (aI (top 41)):=by norm_cast
 refine m.okP (k:=1) (t:=sI fI aM) sc (λf cdv A outer s H E hr=>?_) len hsp
 ·
  have hu:=hr.units;have hu1:=eX hr;exact(aG (bP (i:=2) sc.nd rfl (.inr rfl) (mD rfl rfl d7 rfl bJ (aD (b7 cP rfl bK fu (aD (a9 0 (pv 0)) aE)) aE)))
 (aG (j9 (i:=3) sc.nd rfl (.inl rfl) (gJ aE))
 (aG (bP (i:=4) sc.nd rfl (.inl rfl) (a9 1 (pv 1)))
 (aG (h9 dk rfl (jO rfl bJ (aD (bS dI (b7 cP rfl bK fu (aD (a9 0 (pv 0)) aE)) (b7 cP rfl bK fu (aD (a9 0 (pv 0)) aE))) aE)) (jF (i:=5) (k:=9) sc.nd rfl (.inl rfl)) (aG (bP (i:=6) sc.nd rfl (.inl rfl) (bS jG (b7 cP rfl bK fu (aD (a9 2 (pv 2)) aE)) aU))
 (aG (GD (Ke (iy:=7) ["_law_p"] ["_law_bands_here", "_law_path"] [0,2] sc.nd rfl (.inl rfl) rfl (jO rfl bJ (aD (a9 6 (pv 6)) aE)) (λfp s H=>(jF (i:=0) (k:=1) (show pk (["_law_p", "_law_bands_here", "_law_path"]:List bt) by decide +kernel) rfl (.inl rfl))) (λfp s H=>(oN (bB nU (bW hu1 (a9 1 (pv 1)) (bW hu1 (a9 2 (pv 2)) (a9 0 (pv 0)))) (bW hu1 (a9 1 (pv 1)) (bW hu1 (a9 2 (pv 2)) (bS cF (a9 0 (pv 0)) aU)))))) (λfp s H=>(a9 0 (pv 0)))))
 (aG (fB (bB (jV hu) (a9 7 (pv 7)) (gJ aE)) (aJ (bI (a9 3 (pv 3)))) bO)
 (aG (bP (i:=8) sc.nd rfl (.inl rfl) (aV qK BY (hr.mono (by decide)) (aD (a9 1 (pv 1)) (aD (a9 5 (pv 5)) (aD (b7 cP rfl bK fu (aD (a9 7 (pv 7)) aE)) aE)))))
 (aG (fB (bB sT (a9 4 (pv 4)) aU) (aG (bP (i:=8) sc.nd rfl (.inl rfl) (bS fP (a9 4 (pv 4)) (b7 cP rfl bK fu (aD (a9 7 (pv 7)) aE))))
 (aJ (bP (i:=4) sc.nd rfl (.inl rfl) (bS rQ (a9 4 (pv 4)) (b7 cP rfl bK fu (aD (a9 7 (pv 7)) aE)))))) bO)
 (aG (tK (i:=3) (pv 3) (bW hu1 (a9 7 (pv 7)) (a9 8 (pv 8))))
 (aJ (bP (i:=2) sc.nd rfl (.inr rfl) (aV bZ eK (hr.mono (by decide)) (aD (a9 2 (pv 2)) (aD (bW hu1 (a9 7 (pv 7)) (a9 8 (pv 8))) aE))))))))))))
 (aJ (bI (a9 3 (pv 3))))))))
noncomputable abbrev iS(aM:Fn):c6:=
 (aO (p7 3 (bQ (a7 (aQ cA (a8 2) (a8 4)) (a7 (aQ cA (a8 2) (aQ eJ (a8 4) (eC (.int 1)))) (a7 (eY jU (a7 (eY hU (a7 (IU (a8 2) iO (pJ (a8 4))) aF)) aF)) aF)))))
 (bD 2 (aR aM (a7 (a8 2) (a7 (a8 4) aF)))))
noncomputable abbrev nG(aM:Fn):c6:=
 (aO (bD 2 (FJ (a7 (eY e9 (a7 (a8 0) aF)) aF)))
 (aO (jT 3 (i7 aF))
 (aO (kA (kB (a8 1)) (gN 4) (iS aM))
 (c9 (eY hU (a7 (a8 3) aF))))))
theorem AL(P:aw)(w:bv)(mg:bt->Option ae)(base:dm)(m:At K mg "_law_floor" "_law_floor" (top 42) ["_law_bands_here", "_law_row_here"])(bK:mg "len" = aq)(d7:mg "list" = aq)(bJ:mg "range" = aq)(cS:mg "sorted" = aq)(d6:mg "tuple" = aq)(bZ:Def P w K mg base 1 "_law_exchanged" ["_law_path", "_law_p"] (low K aM))(eK:MonoF aM)(len:∀ds Q,sp ds Q->ds.length=2)(hsp:∀ds Q,sp ds Q->nG aM ({ nx:=λ_=>Q (.v .non),rt:=Q }) (aN ["_law_bands_here", "_law_row_here", "_law_path", "_law_tiles", "_law_p"] ds)):Def P w K mg base 2 "_law_floor" ["_law_bands_here", "_law_row_here"] (low K sp):=by
 have sc:FnScope ["_law_bands_here", "_law_row_here", "_law_path", "_law_tiles", "_law_p"] ["_law_bands_here", "_law_row_here"] (aI (top 42)):=by norm_cast
 refine m.okP (k:=1) (t:=nG aM) sc (λf cdv A outer s H E hr=>?_) len hsp
 ·
  have hu1:=eX hr;exact(aG (bP (i:=2) sc.nd rfl (.inl rfl) (mD rfl rfl d7 rfl bJ (aD (b7 cP rfl bK fu (aD (a9 0 (pv 0)) aE)) aE)))
 (aG (j9 (i:=3) sc.nd rfl (.inl rfl) (gJ aE))
 (aG (h9 dk rfl (fD (a9 1 (pv 1))) (jF (i:=4) (k:=5) sc.nd rfl (.inl rfl)) (aG (tK (i:=3) (pv 3) (cG (aD (bW hu1 (a9 2 (pv 2)) (a9 4 (pv 4))) (aD (bW hu1 (a9 2 (pv 2)) (bS cF (a9 4 (pv 4)) aU)) (aD (g5 oE rfl d6 vb (aD (b7 oY rfl cS tu (aD (uF (a9 2 (pv 2)) uE (uD (a9 4 (pv 4)))) aE)) aE)) aE)))))
 (aJ (bP (i:=2) sc.nd rfl (.inl rfl) (aV bZ eK (hr.mono (by decide)) (aD (a9 2 (pv 2)) (aD (a9 4 (pv 4)) aE)))))))
 (aJ (bI (b7 oY rfl cS tu (aD (a9 3 (pv 3)) aE)))))))
noncomputable abbrev pQ:c6:=
 (c9 (eY e9 (a7 (gM 1 [1] (kB (a8 0)) (gN 0) (aW (aQ sF (a8 0) (a8 1))) (a8 0)) aF)))
theorem Bt(P:aw)(w:bv)(mg:bt->Option ae)(base:dm)(m:At K mg "_law_many" "_law_many" (top 43) ["_law_bands_here", "_law_kind"])(bK:mg "len" = aq)(len:∀ds Q,sp ds Q->ds.length=2)(hsp:∀ds Q,sp ds Q->pQ  ({ nx:=λ_=>Q (.v .non),rt:=Q }) (aN ["_law_bands_here", "_law_kind"] ds)):Def P w K mg base 1 "_law_many" ["_law_bands_here", "_law_kind"] (low K sp):=by
 have sc:FnScope ["_law_bands_here", "_law_kind"] ["_law_bands_here", "_law_kind"] (aI (top 43)):=by norm_cast
 refine m.okP (k:=0) (t:=pQ ) sc (λf cdv A outer s H E hr=>?_) len hsp
 ·
  have hu:=hr.units;exact(aJ (bI (b7 cP rfl bK fu (aD (B8 ["_law_band"] ["_law_kind"] [1] rfl (fD (a9 0 (pv 0))) (λfp s H=>(jF (i:=0) (k:=1) (show pk (["_law_band", "_law_kind"]:List bt) by decide +kernel) rfl (.inl rfl))) (λfp s H=>(oN (bB (jV hu) (a9 0 (pv 0)) (a9 1 (pv 1))))) (λfp s H=>(a9 0 (pv 0)))) aE))))
noncomputable abbrev nF(iI oZ:Fn):c6:=
 (c9 (Dx oZ (a7 (gM 1 [0] (iN (a7 (aQ eJ (aQ cA (a8 0) (D4 (eC (.int 1)))) (eC (.int 1))) aF)) (gN 0) mV (bQ (a7 (aQ kU (eC (.int 6)) (aQ g6 (eC (.int 2)) (a8 0))) (a7 (eC (.int 1)) (a7 (aR iI (a7 (a8 1) (a7 (a8 0) aF))) aF))))) aF)))
theorem AK(P:aw)(w:bv)(mg:bt->Option ae)(base:dm){iI oZ:Fn}(m:At K mg "_law_sides" "_law_sides" (top 44) ["_law_bands_here"])(bJ:mg "range" = aq)(qL:Def P w K mg base 1 "_law_many" ["_law_bands_here", "_law_kind"] (low K iI))(BZ:MonoF iI)(AQ:IDef P w K mg base 5 "Sides" C ["self", "directions"] oZ)(HC:MonoF oZ)(len:∀ds Q,sp ds Q->ds.length=1)(hsp:∀ds Q,sp ds Q->nF iI oZ ({ nx:=λ_=>Q (.v .non),rt:=Q }) (aN ["_law_bands_here"] ds)):Def P w K mg base 7 "_law_sides" ["_law_bands_here"] (low K sp):=by
 have sc:FnScope ["_law_bands_here"] ["_law_bands_here"] (aI (top 44)):=by norm_cast
 refine m.okP (k:=6) (t:=nF iI oZ) sc (λf cdv A outer s H E hr=>?_) len hsp
 ·
  have hu1:=eX hr;exact(aJ (bI (LJ AQ HC (hr.mono (by decide)) (aD (B8 ["_law_k"] ["_law_bands_here"] [0] rfl (jO rfl bJ (aD (bS cF (bW hu1 (a9 0 (pv 0)) (DW aU)) aU) aE)) (λfp s H=>(jF (i:=0) (k:=1) (show pk (["_law_k", "_law_bands_here"]:List bt) by decide +kernel) rfl (.inl rfl))) (λfp s H=>uC) (λfp s H=>(cG (aD (bS jG aU (bS dI aU (a9 0 (pv 0)))) (aD aU (aD (aV qL BZ (hr.mono (by decide)) (aD (a9 1 (pv 1)) (aD (a9 0 (pv 0)) aE))) aE)))))) aE))))
noncomputable abbrev oG:c6:=
 (aO (bD 3 (aQ pW (a8 2) (aQ g6 (eY e9 (a7 (a8 0) aF)) (eY e9 (a7 (a8 0) aF)))))
 (aO (bD 4 (aQ iW (aQ pW (a8 2) (eY e9 (a7 (a8 0) aF))) (eY e9 (a7 (a8 0) aF))))
 (aO (bD 5 (aQ iW (a8 2) (eY e9 (a7 (a8 0) aF))))
 (jE (qG (aW (o4 BN BN (a8 3) (a8 4) (a8 5))) (qG (aW (aQ BN (aQ cA (a8 0) (a8 3)) (aQ cA (a8 0) (a8 4)))) (aW (aQ BN (aQ cA (a8 0) (a8 4)) (aQ cA (a8 0) (a8 5)))))) (p7 1 (bQ (a7 (a8 3) (a7 (a8 4) (a7 (a8 5) aF))))) bN))))
noncomputable abbrev lS:c6:=
 (aO (jT 1 (i7 aF))
 (aO (kA (iN (a7 (aQ g6 (aQ g6 (eY e9 (a7 (a8 0) aF)) (eY e9 (a7 (a8 0) aF))) (eY e9 (a7 (a8 0) aF))) aF)) (gN 2) oG)
 (c9 (a8 1))))
theorem xF(P:aw)(w:bv)(mg:bt->Option ae)(base:dm)(m:At K mg "_law_threes" "_law_threes" (top 45) ["_law_bands_here"])(bK:mg "len" = aq)(bJ:mg "range" = aq)(len:∀ds Q,sp ds Q->ds.length=1)(hsp:∀ds Q,sp ds Q->lS  ({ nx:=λ_=>Q (.v .non),rt:=Q }) (aN ["_law_bands_here", "_law_found", "_law_k", "_law_a", "_law_b", "_law_c"] ds)):Def P w K mg base 1 "_law_threes" ["_law_bands_here"] (low K sp):=by
 have sc:FnScope ["_law_bands_here", "_law_found", "_law_k", "_law_a", "_law_b", "_law_c"] ["_law_bands_here"] (aI (top 45)):=by norm_cast
 refine m.okP (k:=0) (t:=lS ) sc (λf cdv A outer s H E hr=>?_) len hsp
 ·
  have hu1:=eX hr;exact(aG (j9 (i:=1) sc.nd rfl (.inl rfl) (gJ aE))
 (aG (h9 dk rfl (jO rfl bJ (aD (bS dI (bS dI (b7 cP rfl bK fu (aD (a9 0 (pv 0)) aE)) (b7 cP rfl bK fu (aD (a9 0 (pv 0)) aE))) (b7 cP rfl bK fu (aD (a9 0 (pv 0)) aE))) aE)) (jF (i:=2) (k:=6) sc.nd rfl (.inl rfl)) (aG (bP (i:=3) sc.nd rfl (.inl rfl) (bS rQ (a9 2 (pv 2)) (bS dI (b7 cP rfl bK fu (aD (a9 0 (pv 0)) aE)) (b7 cP rfl bK fu (aD (a9 0 (pv 0)) aE)))))
 (aG (bP (i:=4) sc.nd rfl (.inl rfl) (bS fP (bS rQ (a9 2 (pv 2)) (b7 cP rfl bK fu (aD (a9 0 (pv 0)) aE))) (b7 cP rfl bK fu (aD (a9 0 (pv 0)) aE))))
 (aG (bP (i:=5) sc.nd rfl (.inl rfl) (bS fP (a9 2 (pv 2)) (b7 cP rfl bK fu (aD (a9 0 (pv 0)) aE))))
 (aJ (fB (QW.qt (nO (B6 Go Go (a9 3 (pv 3)) (a9 4 (pv 4)) (a9 5 (pv 5))) (nO (bB nU (bW hu1 (a9 0 (pv 0)) (a9 3 (pv 3))) (bW hu1 (a9 0 (pv 0)) (a9 4 (pv 4)))) (oM (bB nU (bW hu1 (a9 0 (pv 0)) (a9 4 (pv 4))) (bW hu1 (a9 0 (pv 0)) (a9 5 (pv 5)))))))) (aJ (tK (i:=1) (pv 1) (cG (aD (a9 3 (pv 3)) (aD (a9 4 (pv 4)) (aD (a9 5 (pv 5)) aE)))))) bO))))))
 (aJ (bI (a9 1 (pv 1))))))
noncomputable abbrev wP:c6:=
 (mB 1 (bQ (a7 (a8 2) (a7 (a8 3) aF))) (a8 4))
noncomputable abbrev lT:c6:=
 (aO (jT 1 Ox)
 (aO (kA (kB (a8 0)) (gT [2,3,4]) wP)
 (c9 (a8 1))))
theorem xG(P:aw)(w:bv)(mg:bt->Option ae)(base:dm)(m:At K mg "_law_belows" "_law_belows" (top 46) ["_law_tiles"])(len:∀ds Q,sp ds Q->ds.length=1)(hsp:∀ds Q,sp ds Q->lT  ({ nx:=λ_=>Q (.v .non),rt:=Q }) (aN ["_law_tiles", "_law_belows_here", "_law_a", "_law_b", "_law_below"] ds)):Def P w K mg base 1 "_law_belows" ["_law_tiles"] (low K sp):=by
 have sc:FnScope ["_law_tiles", "_law_belows_here", "_law_a", "_law_b", "_law_below"] ["_law_tiles"] (aI (top 46)):=by norm_cast
 refine m.okP (k:=0) (t:=lT ) sc (λf cdv A outer s H E hr=>?_) len hsp
 ·
  have hu1:=eX hr;exact(aG (j9 (i:=1) sc.nd rfl (.inl rfl) DX)
 (aG (h9 dk rfl (fD (a9 0 (pv 0))) (EW (k:=5) (is:=[2,3,4]) rfl (dF (eE (i:=2) sc.nd rfl (.inl rfl)) (dF (eE (i:=3) sc.nd rfl (.inl rfl)) (dF (eE (i:=4) sc.nd rfl (.inl rfl)) oQ)))) (aJ (tH hu1 (i:=1) (pv 1) (cG (aD (a9 2 (pv 2)) (aD (a9 3 (pv 3)) aE))) (a9 4 (pv 4)))))
 (aJ (bI (a9 1 (pv 1))))))
noncomputable abbrev uW(bE fS:Fn):c6:=
 (aO (bD 2 (aR bE (a7 (a8 1) aF)))
 (c9 (gM 1 [2] (kB (aR fS (a7 (a8 0) aF))) (gN 0) (aW (aQ JK (aQ cA (a8 0) (eC (.int 1))) (aQ cA (a8 1) (bQ (a7 (aQ cA (a8 0) (eC (.int 0))) (a7 (aQ cA (a8 0) (eC (.int 2))) aF)))))) (a8 0))))
theorem FL(P:aw)(w:bv)(mg:bt->Option ae)(base:dm){fS:Fn}(m:At K mg "_law_up" "_law_up" (top 47) ["_law_bands_here", "_law_tiles"])(eP:Def P w K mg base 1 "_law_belows" ["_law_tiles"] (low K bE))(iM:MonoF bE)(mR:Def P w K mg base 1 "_law_threes" ["_law_bands_here"] (low K fS))(xB:MonoF fS)(len:∀ds Q,sp ds Q->ds.length=2)(hsp:∀ds Q,sp ds Q->uW bE fS ({ nx:=λ_=>Q (.v .non),rt:=Q }) (aN ["_law_bands_here", "_law_tiles", "_law_belows_here"] ds)):Def P w K mg base 2 "_law_up" ["_law_bands_here", "_law_tiles"] (low K sp):=by
 have sc:FnScope ["_law_bands_here", "_law_tiles", "_law_belows_here"] ["_law_bands_here", "_law_tiles"] (aI (top 47)):=by norm_cast
 refine m.okP (k:=1) (t:=uW bE fS) sc (λf cdv A outer s H E hr=>?_) len hsp
 ·
  have hu1:=eX hr;have hu65:=u9 hr;exact(aG (bP (i:=2) sc.nd rfl (.inr rfl) (aV eP iM (hr.mono (by decide)) (aD (a9 1 (pv 1)) aE)))
 (aJ (bI (B8 ["_law_three"] ["_law_belows_here"] [2] rfl (fD (aV mR xB (hr.mono (by decide)) (aD (a9 0 (pv 0)) aE))) (λfp s H=>(jF (i:=0) (k:=1) (show pk (["_law_three", "_law_belows_here"]:List bt) by decide +kernel) rfl (.inl rfl))) (λfp s H=>(oN (bB (Cj hu65 hu1) (bW hu1 (a9 0 (pv 0)) aU) (bW hu1 (a9 1 (pv 1)) (cG (aD (bW hu1 (a9 0 (pv 0)) aU) (aD (bW hu1 (a9 0 (pv 0)) aU) aE))))))) (λfp s H=>(a9 0 (pv 0)))))))
noncomputable abbrev eZ(dW:Fn):c6:=
 (jE (FI (mP (mO (aR dW (a7 (a8 1) aF)))) (aW (aQ wT (eY e9 (a7 (a8 1) aF)) (eC (.int 3))))) (c9 (eC (.bl ap))) bN)
noncomputable abbrev j6(dW:Fn):c6:=
 (aO (jE (mP (mO (wE "list" (a8 0)))) (c9 (eC (.bl ap))) bN)
 (aO (kA (kB (a8 0)) (gN 1) (eZ dW))
 (c9 (eC (.bl ai)))))
theorem t6(P:aw)(w:bv)(mg:bt->Option ae)(base:dm){dW:Fn}(m:At K mg "_law_is_threes" "_law_is_threes" (top 48) ["_law_found"])(b6:mg "isinstance" = aq)(d7:mg "list" = aq)(bK:mg "len" = aq)(mQ:Def P w K mg base 2 "_law_wholes" ["_law_found"] (low K dW))(xA:MonoF dW)(len:∀ds Q,sp ds Q->ds.length=1)(hsp:∀ds Q,sp ds Q->j6 dW ({ nx:=λ_=>Q (.v .non),rt:=Q }) (aN ["_law_found", "_law_three"] ds)):Def P w K mg base 3 "_law_is_threes" ["_law_found"] (low K sp):=by
 have sc:FnScope ["_law_found", "_law_three"] ["_law_found"] (aI (top 48)):=by norm_cast
 refine m.okP (k:=2) (t:=j6 dW) sc (λf cdv A outer s H E hr=>?_) len hsp
 ·
  have hu:=hr.units;exact(aG (fB (gZ (iE (tJ (.inr (.inr (.inr (.inl rfl)))) rfl b6 (a9 0 (pv 0)) (kH (v:=.ty "list") rfl d7 va rfl)))) (aJ (bI nP)) bO)
 (aG (h9 dk rfl (fD (a9 0 (pv 0))) (jF (i:=1) (k:=2) sc.nd rfl (.inl rfl)) (aJ (fB (QW.qt (y6 (gZ (iE (aV mQ xA (hr.mono (by decide)) (aD (a9 1 (pv 1)) aE)))) (sP (bB (nS hu) (b7 cP rfl bK fu (aD (a9 1 (pv 1)) aE)) aU)))) (aJ (bI nP)) bO)))
 (aJ (bI nP))))
noncomputable abbrev pN:c6:=
 (c9 (eY jU (a7 (eY hU (a7 (aQ eJ (eY kI (a7 (a8 0) aF)) (i7 (a7 (a8 1) aF))) aF)) aF)))
theorem Br(P:aw)(w:bv)(mg:bt->Option ae)(base:dm)(m:At K mg "_law_with" "_law_with" (top 49) ["_law_below", "_law_band"])(d7:mg "list" = aq)(cS:mg "sorted" = aq)(d6:mg "tuple" = aq)(len:∀ds Q,sp ds Q->ds.length=2)(hsp:∀ds Q,sp ds Q->pN  ({ nx:=λ_=>Q (.v .non),rt:=Q }) (aN ["_law_below", "_law_band"] ds)):Def P w K mg base 1 "_law_with" ["_law_below", "_law_band"] (low K sp):=by
 have sc:FnScope ["_law_below", "_law_band"] ["_law_below", "_law_band"] (aI (top 49)):=by norm_cast
 refine m.okP (k:=0) (t:=pN ) sc (λf cdv A outer s H E hr=>?_) len hsp
 ·
  exact(aJ (bI (g5 oE rfl d6 vb (aD (b7 oY rfl cS tu (aD (bS cF (g5 sB rfl d7 va (aD (a9 0 (pv 0)) aE)) (gJ (aD (a9 1 (pv 1)) aE))) aE)) aE))))
noncomputable abbrev kS(dG:Fn):c6:=
 (aO (G9 (a8 1) (gT [2,3,4]))
 (aO (bD 5 (aQ cA (a8 0) (bQ (a7 (a8 2) (a7 (a8 3) aF)))))
 (aO (bD 6 (aQ cA (a8 0) (bQ (a7 (a8 2) (a7 (a8 4) aF)))))
 (aO (jE (qG (aW (aQ sF (aQ cA (a8 0) (bQ (a7 (a8 3) (a7 (a8 4) aF)))) (a8 5))) (aW (aQ sF (a8 6) (aR dG (a7 (a8 5) (a7 (a8 3) aF)))))) (aO (mB 0 (bQ (a7 (a8 2) (a7 (a8 3) aF))) (aR dG (a7 (a8 5) (a7 (a8 4) aF))))
 (aO (mB 0 (bQ (a7 (a8 2) (a7 (a8 4) aF))) (a8 5))
 (aO (mB 0 (bQ (a7 (a8 3) (a7 (a8 4) aF))) (aR dG (a7 (a8 5) (a7 (a8 2) aF))))
 (rH (eC (.bl ai)))))) bN)
 (aO (jE (qG (aW (aQ sF (a8 5) (aR dG (a7 (a8 6) (a7 (a8 4) aF))))) (aW (aQ sF (aQ cA (a8 0) (bQ (a7 (a8 3) (a7 (a8 4) aF)))) (aR dG (a7 (a8 6) (a7 (a8 2) aF)))))) (aO (mB 0 (bQ (a7 (a8 2) (a7 (a8 3) aF))) (a8 6))
 (aO (mB 0 (bQ (a7 (a8 2) (a7 (a8 4) aF))) (aR dG (a7 (a8 6) (a7 (a8 3) aF))))
 (aO (mB 0 (bQ (a7 (a8 3) (a7 (a8 4) aF))) (a8 6))
 (rH (eC (.bl ai)))))) bN)
 (rH (eC (.bl ap))))))))
theorem wI(P:aw)(w:bv)(mg:bt->Option ae)(base:dm){dG:Fn}{sp:IX}(m:At K mg "_law_flipped" "_law_flipped" (top 50) ["_law_belows_here", "_law_three"])(fG:Def P w K mg base 1 "_law_with" ["_law_below", "_law_band"] (low K dG))(gK:MonoF dG)(len:∀ds Q,sp ds Q->ds.length=2)(hsp:∀ds Q,sp ds Q -> ∀a,kS dG { nx:=λ_=>False,rt:=λ_=>False,rw:=λb ρ=>∃d,ρ[0]?=aa (.own a d)/\Q b d } (jR a ["_law_belows_here", "_law_three", "_law_a", "_law_b", "_law_c", "_law_one", "_law_two"] ds)):Def P w K mg base 2 "_law_flipped" ["_law_belows_here", "_law_three"] (Je K sp):=by
 have sc:FnScope ["_law_belows_here", "_law_three", "_law_a", "_law_b", "_law_c", "_law_one", "_law_two"] ["_law_belows_here", "_law_three"] (aI (top 50)):=by norm_cast
 refine m.okW (k:=1) (t:=kS dG) sc (λf cdv A outer s H E hr=>?_) len hsp
 ·
  have hu:=hr.units;have hu1:=eX hr;exact(aG (Nr (a9 1 (pv 1)) (EW (k:=7) (is:=[2,3,4]) rfl (dF (eE (i:=2) sc.nd rfl (.inl rfl)) (dF (eE (i:=3) sc.nd rfl (.inl rfl)) (dF (eE (i:=4) sc.nd rfl (.inl rfl)) oQ)))))
 (aG (bP (i:=5) sc.nd rfl (.inl rfl) (bW hu1 (a9 0 (pv 0)) (cG (aD (a9 2 (pv 2)) (aD (a9 3 (pv 3)) aE)))))
 (aG (bP (i:=6) sc.nd rfl (.inl rfl) (bW hu1 (a9 0 (pv 0)) (cG (aD (a9 2 (pv 2)) (aD (a9 4 (pv 4)) aE)))))
 (aG (fB (QW.qt (nO (bB (jV hu) (bW hu1 (a9 0 (pv 0)) (cG (aD (a9 3 (pv 3)) (aD (a9 4 (pv 4)) aE)))) (a9 5 (pv 5))) (oM (bB (jV hu) (a9 6 (pv 6)) (aV fG gK (hr.mono (by decide)) (aD (a9 5 (pv 5)) (aD (a9 3 (pv 3)) aE))))))) (aG (tH hu1 (i:=0) (pv 0) (cG (aD (a9 2 (pv 2)) (aD (a9 3 (pv 3)) aE))) (aV fG gK (hr.mono (by decide)) (aD (a9 5 (pv 5)) (aD (a9 4 (pv 4)) aE))))
 (aG (tH hu1 (i:=0) (pv 0) (cG (aD (a9 2 (pv 2)) (aD (a9 4 (pv 4)) aE))) (a9 5 (pv 5)))
 (aG (tH hu1 (i:=0) (pv 0) (cG (aD (a9 3 (pv 3)) (aD (a9 4 (pv 4)) aE))) (aV fG gK (hr.mono (by decide)) (aD (a9 5 (pv 5)) (aD (a9 2 (pv 2)) aE))))
 (aJ (Ca nP))))) bO)
 (aG (fB (QW.qt (nO (bB (jV hu) (a9 5 (pv 5)) (aV fG gK (hr.mono (by decide)) (aD (a9 6 (pv 6)) (aD (a9 4 (pv 4)) aE)))) (oM (bB (jV hu) (bW hu1 (a9 0 (pv 0)) (cG (aD (a9 3 (pv 3)) (aD (a9 4 (pv 4)) aE)))) (aV fG gK (hr.mono (by decide)) (aD (a9 6 (pv 6)) (aD (a9 2 (pv 2)) aE))))))) (aG (tH hu1 (i:=0) (pv 0) (cG (aD (a9 2 (pv 2)) (aD (a9 3 (pv 3)) aE))) (a9 6 (pv 6)))
 (aG (tH hu1 (i:=0) (pv 0) (cG (aD (a9 2 (pv 2)) (aD (a9 4 (pv 4)) aE))) (aV fG gK (hr.mono (by decide)) (aD (a9 6 (pv 6)) (aD (a9 3 (pv 3)) aE))))
 (aG (tH hu1 (i:=0) (pv 0) (cG (aD (a9 3 (pv 3)) (aD (a9 4 (pv 4)) aE))) (a9 6 (pv 6)))
 (aJ (Ca nP))))) bO)
 (aJ (Ca nP)))))))
noncomputable abbrev gD(aM:Fn):c6:=
 (aO (p7 2 (a8 4))
 (aO (bD 1 (aR aM (a7 (a8 1) (a7 (a8 4) aF))))
 (bD 4 (aQ eJ (a8 4) (eC (.int 1))))))
noncomputable abbrev dP(aM:Fn):c6:=
 (aO (bD 4 (a8 3))
 (CT (qG (aW (aQ BN (a8 4) (aQ kU (eY e9 (a7 (a8 1) aF)) (eC (.int 1))))) (aW (aQ BN (aQ cA (a8 0) (aQ cA (a8 1) (a8 4))) (aQ cA (a8 0) (aQ cA (a8 1) (aQ eJ (a8 4) (eC (.int 1)))))))) (gD aM)))
noncomputable abbrev kR(aM:Fn):c6:=
 (aO (bD 1 (FJ (a7 (eY e9 (a7 (a8 0) aF)) aF)))
 (aO (jT 2 (i7 aF))
 (aO (kA (rV (a7 (aQ kU (eY e9 (a7 (a8 0) aF)) (eC (.int 1))) (a7 (D4 (eC (.int 1))) (a7 (D4 (eC (.int 1))) aF)))) (gN 3) (dP aM))
 (c9 (a8 2)))))
theorem wH(P:aw)(w:bv)(mg:bt->Option ae)(base:dm)(m:At K mg "_law_low_row" "_law_low_row" (top 51) ["_law_bands_here"])(bK:mg "len" = aq)(d7:mg "list" = aq)(bJ:mg "range" = aq)(bZ:Def P w K mg base 1 "_law_exchanged" ["_law_path", "_law_p"] (low K aM))(eK:MonoF aM)(len:∀ds Q,sp ds Q->ds.length=1)(hsp:∀ds Q,sp ds Q->kR aM ({ nx:=λ_=>Q (.v .non),rt:=Q }) (aN ["_law_bands_here", "_law_path", "_law_row_here", "_law_k", "_law_p"] ds)):Def P w K mg base 2 "_law_low_row" ["_law_bands_here"] (low K sp):=by
 have sc:FnScope ["_law_bands_here", "_law_path", "_law_row_here", "_law_k", "_law_p"] ["_law_bands_here"] (aI (top 51)):=by norm_cast
 refine m.okP (k:=1) (t:=kR aM) sc (λf cdv A outer s H E hr=>?_) len hsp
 ·
  have hu1:=eX hr;exact(aG (bP (i:=1) sc.nd rfl (.inl rfl) (mD rfl rfl d7 rfl bJ (aD (b7 cP rfl bK fu (aD (a9 0 (pv 0)) aE)) aE)))
 (aG (j9 (i:=2) sc.nd rfl (.inl rfl) (gJ aE))
 (aG (h9 dk rfl (y8 rfl bJ (aD (bS jG (b7 cP rfl bK fu (aD (a9 0 (pv 0)) aE)) aU) (aD (DW aU) (aD (DW aU) aE)))) (jF (i:=3) (k:=5) sc.nd rfl (.inl rfl)) (aG (bP (i:=4) sc.nd rfl (.inl rfl) (a9 3 (pv 3)))
 (aJ (DV dk (QW.qt (nO (bB nU (a9 4 (pv 4)) (bS jG (b7 cP rfl bK fu (aD (a9 1 (pv 1)) aE)) aU)) (oM (bB nU (bW hu1 (a9 0 (pv 0)) (bW hu1 (a9 1 (pv 1)) (a9 4 (pv 4)))) (bW hu1 (a9 0 (pv 0)) (bW hu1 (a9 1 (pv 1)) (bS cF (a9 4 (pv 4)) aU))))))) (aG (tK (i:=2) (pv 2) (a9 4 (pv 4)))
 (aG (bP (i:=1) sc.nd rfl (.inl rfl) (aV bZ eK (hr.mono (by decide)) (aD (a9 1 (pv 1)) (aD (a9 4 (pv 4)) aE))))
 (aJ (bP (i:=4) sc.nd rfl (.inl rfl) (bS cF (a9 4 (pv 4)) aU)))))))))
 (aJ (bI (a9 2 (pv 2)))))))
noncomputable abbrev i5(cK bE:Fn)(dD:IX):c6:=
 (aO (jE (FI (aW (aQ oS (bQ (a7 (aQ cA (a8 4) (eC (.int 0))) (a7 (aQ cA (a8 4) (eC (.int 2))) aF))) (a8 3))) (aW (aQ oS (bQ (a7 (aQ cA (a8 4) (eC (.int 0))) (a7 (aQ cA (a8 4) (eC (.int 1))) aF))) (a8 3)))) (c9 (eC (.bl ap))) bN)
 (LH 3 (aW (aQ oS (bQ (a7 (aQ cA (a8 4) (eC (.int 1))) (a7 (aQ cA (a8 4) (eC (.int 2))) aF))) (a8 3))) dD (a7 (a8 3) (a7 (a8 4) aF)) (c9 (eC (.bl ap)))))
noncomputable abbrev lR(cK bE:Fn)(dD:IX):c6:=
 (aO (jE (mP (mO (aR cK (a7 (a8 2) aF)))) (c9 (eC (.bl ap))) bN)
 (aO (jT 3 (aR bE (a7 (a8 0) aF)))
 (aO (kA (kB (a8 2)) (gN 4) (i5 cK bE dD))
 (c9 (aQ Gh (a8 3) (aR bE (a7 (a8 1) aF)))))))
theorem xE(P:aw)(w:bv)(mg:bt->Option ae)(base:dm){cK:Fn}{dD:IX}(m:At K mg "_law_walked" "_law_walked" (top 52) ["_law_one", "_law_other", "_law_flips"])(jB:Def P w K mg base 3 "_law_is_threes" ["_law_found"] (low K cK))(sW:MonoF cK)(eP:Def P w K mg base 1 "_law_belows" ["_law_tiles"] (low K bE))(iM:MonoF bE)(kY:Def P w K mg base 2 "_law_flipped" ["_law_belows_here", "_law_three"] (Je K dD))(vT:MonoW dD)(len:∀ds Q,sp ds Q->ds.length=3)(hsp:∀ds Q,sp ds Q->lR cK bE dD ({ nx:=λ_=>Q (.v .non),rt:=Q }) (aN ["_law_one", "_law_other", "_law_flips", "_law_belows_here", "_law_three"] ds)):Def P w K mg base 4 "_law_walked" ["_law_one", "_law_other", "_law_flips"] (low K sp):=by
 have sc:FnScope ["_law_one", "_law_other", "_law_flips", "_law_belows_here", "_law_three"] ["_law_one", "_law_other", "_law_flips"] (aI (top 52)):=by norm_cast
 refine m.okP (k:=3) (t:=lR cK bE dD) sc (λf cdv A outer s H E hr=>?_) len hsp
 ·
  have hu1:=eX hr;exact(aG (fB (gZ (iE (aV jB sW (hr.mono (by decide)) (aD (a9 2 (pv 2)) aE)))) (aJ (bI nP)) bO)
 (aG (j9 (i:=3) sc.nd rfl (.inl rfl) (aV eP iM (hr.mono (by decide)) (aD (a9 0 (pv 0)) aE)))
 (aG (h9 dk rfl (fD (a9 2 (pv 2))) (jF (i:=4) (k:=5) sc.nd rfl (.inl rfl)) (aG (fB (QW.qt (y6 (bB (pX hu1) (cG (aD (bW hu1 (a9 4 (pv 4)) aU) (aD (bW hu1 (a9 4 (pv 4)) aU) aE))) (a9 3 (pv 3))) (sP (bB (pX hu1) (cG (aD (bW hu1 (a9 4 (pv 4)) aU) (aD (bW hu1 (a9 4 (pv 4)) aU) aE))) (a9 3 (pv 3)))))) (aJ (bI nP)) bO)
 (aJ (Np kY vT (hr.mono (by decide)) (bB (pX hu1) (cG (aD (bW hu1 (a9 4 (pv 4)) aU) (aD (bW hu1 (a9 4 (pv 4)) aU) aE))) (a9 3 (pv 3))) (aD (a9 3 (pv 3)) (aD (a9 4 (pv 4)) aE)) (aJ (bI nP))))))
 (aJ (bI (vF (JM (Jw hr)) (a9 3 (pv 3)) (aV eP iM (hr.mono (by decide)) (aD (a9 1 (pv 1)) aE))))))))
noncomputable abbrev Aa(cR dY eN gP dX dC g9 sC d9:Fn):c6:=
 (aO (bD 2 (aR cR (a7 (a8 0) (a7 (a8 1) aF))))
 (aO (bD 3 (aR dY (a7 (a8 2) (a7 (eC (.int 8)) aF))))
 (aO (jE (qG (aW (aQ sF (a8 1) (eC (.int 0)))) (qG (aW (aQ BN (aQ cA (a8 3) (D4 (eC (.int 1)))) (eC (.int 4)))) (aW (aQ sF (aQ iW (aQ iW (aQ g6 (a8 2) (eC (.int 48271))) (eC (.int 2147483647))) (eC (.int 4))) (eC (.int 1)))))) (bD 3 (aR dY (a7 (a8 2) (a7 (eC (.int 12)) aF)))) bN)
 (aO (bD 4 (aR eN (a7 (a8 3) aF)))
 (aO (bD 5 (aR dX (a7 (a8 3) (a7 (aR gP (a7 (a8 3) (a7 (aR cR (a7 (a8 0) (a7 (aQ eJ (a8 1) (eC (.int 1))) aF))) aF))) aF))))
 (aO (bD 6 (aR dX (a7 (a8 3) (a7 (aR dC (a7 (a8 3) aF)) aF))))
 (aO (jE (aW (aQ wT (aR g9 (a7 (a8 3) (a7 (a8 6) aF))) (i7 aF))) (c9 (eC (.bl ap))) bN)
 (aO (bD 7 (aR sC (a7 (a8 4) (a7 (eY kI (a7 (a8 5) aF)) (a7 (eY kI (a7 (a8 6) aF)) aF)))))
 (aO (jE (FI (mP (mO (aR d9 (a7 (a8 5) (a7 (a8 6) (a7 (a8 7) aF)))))) (aW (aQ wT (eY hG (a7 (a8 7) aF)) (aR g9 (a7 (a8 3) (a7 (a8 5) aF)))))) (c9 (eC (.bl ap))) bN)
 (aO (bD 8 (aR sC (a7 (a8 4) (a7 (eY kI (a7 (a8 6) aF)) (a7 (eY kI (a7 (a8 5) aF)) aF)))))
 (jE (FI (mP (mO (aR d9 (a7 (a8 6) (a7 (a8 5) (a7 (a8 8) aF)))))) (aW (aQ wT (eY hG (a7 (a8 8) aF)) (aR g9 (a7 (a8 3) (a7 (a8 5) aF)))))) (c9 (eC (.bl ap))) bN)))))))))))
noncomputable abbrev Fv(cR dY eN gP dX dC g9 sC d9:Fn):c6:=
 (aO (kA (rV (a7 (eC (.int 0)) (a7 (aQ eJ (eY vL (a7 (eC (.int 10)) (a7 (eY e9 (a7 (a8 0) aF)) aF))) (eC (.int 1))) (a7 (eC (.int 2)) aF)))) (gN 1) (Aa cR dY eN gP dX dC g9 sC d9))
 (c9 (eC (.bl ai))))
theorem Md(P:aw)(w:bv)(mg:bt->Option ae)(base:dm){cR dY eN gP dX dC g9 sC d9:Fn}{fL:af}{fdL:jw}(F:Fun K "law" "law" (top 53) fL fdL)(bK:mg "len" = aq)(xN:mg "min" = aq)(bJ:mg "range" = aq)(d7:mg "list" = aq)(cS:mg "sorted" = aq)(iQ:Def P w K mg base 1 "_law_cell_at" ["_law_script", "_law_k"] (low K cR))(nW:MonoF cR)(kM:Def P w K mg base 1 "_law_bands" ["_law_cell", "_law_most"] (low K dY))(rS:MonoF dY)(oA:Def P w K mg base 7 "_law_sides" ["_law_bands_here"] (low K eN))(zU:MonoF eN)(t8:Def P w K mg base 2 "_law_row" ["_law_bands_here", "_law_cell"] (low K gP))(Cp:MonoF gP)(kL:Def P w K mg base 2 "_law_floor" ["_law_bands_here", "_law_row_here"] (low K dX))(rR:MonoF dX)(kX:Def P w K mg base 2 "_law_low_row" ["_law_bands_here"] (low K dC))(vS:MonoF dC)(o9:Def P w K mg base 2 "_law_up" ["_law_bands_here", "_law_tiles"] (low K g9))(sV:MonoF g9)(E2:Def P w K mg base 6 "way" ["sides", "one", "other"] (low K sC))(zQ:MonoF sC)(jL:Def P w K mg base 4 "_law_walked" ["_law_one", "_law_other", "_law_flips"] (low K d9))(pH:MonoF d9)(len:∀ds Q,sp ds Q->ds.length=1)(hsp:∀ds Q,sp ds Q->Fv cR dY eN gP dX dC g9 sC d9 ({ nx:=λ_=>Q (.v .non),rt:=Q }) (aN ["_law_script", "_law_k", "_law_cell", "_law_bands_here", "_law_sides_here", "_law_tiles", "_law_lowest", "_law_there", "_law_back"] ds)):FnOk P w K mg base CC 8 fL fdL ["_law_script"] (low K sp):=by
 have sc:FnScope ["_law_script", "_law_k", "_law_cell", "_law_bands_here", "_law_sides_here", "_law_tiles", "_law_lowest", "_law_there", "_law_back"] ["_law_script"] (aI (top 53)):=by norm_cast
 refine F.ok (k:=7) sc (zX len) λcdv A outer s H vs Q E hr qq=>AZ (N:=["_law_script", "_law_k", "_law_cell", "_law_bands_here", "_law_sides_here", "_law_tiles", "_law_lowest", "_law_there", "_law_back"]) (t:=Fv cR dY eN gP dX dC g9 sC d9) ?_ hsp qq
 ·
  have hu:=hr.units;have hu1:=eX hr;exact(aG (h9 dk rfl (y8 rfl bJ (aD aU (aD (bS cF (b7 (E5 rfl) rfl xN boot_min (aD aU (aD (b7 cP rfl bK fu (aD (a9 0 (pv 0)) aE)) aE))) aU) (aD aU aE)))) (jF (i:=1) (k:=9) sc.nd rfl (.inl rfl)) (aG (bP (i:=2) sc.nd rfl (.inl rfl) (aV iQ nW (hr.mono (by decide)) (aD (a9 0 (pv 0)) (aD (a9 1 (pv 1)) aE))))
 (aG (bP (i:=3) sc.nd rfl (.inl rfl) (aV kM rS (hr.mono (by decide)) (aD (a9 2 (pv 2)) (aD aU aE))))
 (aG (fB (QW.qt (nO (bB (jV hu) (a9 1 (pv 1)) aU) (nO (bB nU (bW hu1 (a9 3 (pv 3)) (DW aU)) aU) (oM (bB (jV hu) (bS fP (bS fP (bS dI (a9 2 (pv 2)) aU) aU) aU) aU))))) (aJ (bP (i:=3) sc.nd rfl (.inl rfl) (aV kM rS (hr.mono (by decide)) (aD (a9 2 (pv 2)) (aD aU aE))))) bO)
 (aG (bP (i:=4) sc.nd rfl (.inl rfl) (aV oA zU (hr.mono (by decide)) (aD (a9 3 (pv 3)) aE)))
 (aG (bP (i:=5) sc.nd rfl (.inl rfl) (aV kL rR (hr.mono (by decide)) (aD (a9 3 (pv 3)) (aD (aV t8 Cp (hr.mono (by decide)) (aD (a9 3 (pv 3)) (aD (aV iQ nW (hr.mono (by decide)) (aD (a9 0 (pv 0)) (aD (bS cF (a9 1 (pv 1)) aU) aE))) aE))) aE))))
 (aG (bP (i:=6) sc.nd rfl (.inl rfl) (aV kL rR (hr.mono (by decide)) (aD (a9 3 (pv 3)) (aD (aV kX vS (hr.mono (by decide)) (aD (a9 3 (pv 3)) aE)) aE))))
 (aG (fB (bB (nS hu) (aV o9 sV (hr.mono (by decide)) (aD (a9 3 (pv 3)) (aD (a9 6 (pv 6)) aE))) (gJ aE)) (aJ (bI nP)) bO)
 (aG (bP (i:=7) sc.nd rfl (.inl rfl) (aV E2 zQ (hr.mono (by decide)) (aD (a9 4 (pv 4)) (aD (g5 sB rfl d7 va (aD (a9 5 (pv 5)) aE)) (aD (g5 sB rfl d7 va (aD (a9 6 (pv 6)) aE)) aE)))))
 (aG (fB (QW.qt (y6 (gZ (iE (aV jL pH (hr.mono (by decide)) (aD (a9 5 (pv 5)) (aD (a9 6 (pv 6)) (aD (a9 7 (pv 7)) aE)))))) (sP (bB (nS hu) (b7 wL rfl cS tu (aD (a9 7 (pv 7)) aE)) (aV o9 sV (hr.mono (by decide)) (aD (a9 3 (pv 3)) (aD (a9 5 (pv 5)) aE))))))) (aJ (bI nP)) bO)
 (aG (bP (i:=8) sc.nd rfl (.inl rfl) (aV E2 zQ (hr.mono (by decide)) (aD (a9 4 (pv 4)) (aD (g5 sB rfl d7 va (aD (a9 6 (pv 6)) aE)) (aD (g5 sB rfl d7 va (aD (a9 5 (pv 5)) aE)) aE)))))
 (aJ (fB (QW.qt (y6 (gZ (iE (aV jL pH (hr.mono (by decide)) (aD (a9 6 (pv 6)) (aD (a9 5 (pv 5)) (aD (a9 8 (pv 8)) aE)))))) (sP (bB (nS hu) (b7 wL rfl cS tu (aD (a9 8 (pv 8)) aE)) (aV o9 sV (hr.mono (by decide)) (aD (a9 3 (pv 3)) (aD (a9 5 (pv 5)) aE))))))) (aJ (bI nP)) bO)))))))))))))
 (aJ (bI nP)))
end
end Lw
variable {l:List Int}
namespace Fl
noncomputable def aK(l:List Int)(p:Nat):List Int:=l.take p++[l.getD (p+1) 0,l.getD p 0]++l.drop (p+2)
variable {p:Nat}
theorem f7(hp:p+1<l.length):(aK l p).length=l.length:=by unfold aK;simp;ac_rfl
theorem bL{k:Nat}(hp:p+1<l.length)(hk:k<l.length):(aK l p).getD k 0=if k=p+1 then l.getD p 0 else if k=p then l.getD (p+1) 0 else l.getD k 0:=by
 unfold aK;simp only[dg,cm];by_cases h1:k<p
 ·rw[bh (by simp;ac_rfl),fz h1,XF (by ac_rfl),XF (by ac_rfl)]
 ·rw[ay (by simp;ac_rfl),dj,lr (by ac_rfl)];by_cases h2:k=p
  ·subst h2;rw[XF (by ac_rfl),Y4 rfl];simp
  ·by_cases h3:k=p+1
   ·subst h3;rw[Y4 rfl,show p+1-p=1 by ac_rfl];simp
   ·rw[XF h3,XF h2,ay (by simp;ac_rfl)];simp only[bp,yt,sr];rw[show p+2+(k-p-(0+1+1))=k by ac_rfl]
noncomputable def sg(p i:Nat):Nat:=if i=p then p+1 else if i=p+1 then p else i
theorem DS(p i:Nat):sg p (sg p i)=i:=by unfold sg;split<;>split<;>first | ac_rfl | (split<;>ac_rfl)
theorem rG(hp:p+1<n)(hi:i<n):sg p i<n:=by unfold sg;split<;>first | ac_rfl | (split<;>ac_rfl)
theorem rB(hp:p+1<l.length)(hi:i<l.length):(aK l p).getD (sg p i) 0=l.getD i 0:=by
 rw[bL hp (rG hp hi)];unfold sg;by_cases h:i=p
 ·rw[Y4 h,Y4 rfl,h]
 ·rw[XF h];by_cases h2:i=p+1
  ·rw[Y4 h2,XF (by ac_rfl),Y4 rfl,h2]
  ·rw[XF h2,XF h2,XF h]
structure Pt(n:Nat)(l:List Int):Prop where
 len:l.length=n
 bd:∀i,i<n->0<=l.getD i 0/\l.getD i 0<n
 inj:∀i j,i<n->j<n->l.getD i 0=l.getD j 0->i=j
 sur:∀x:Int,0<=x->x<n -> ∃i,i<n/\l.getD i 0=x
noncomputable abbrev ids(n:Nat):List Int:=(fw n).map λ(k:Nat)=>(k:Int)
theorem jJ(h:i<n):(ids n).getD i 0=i:=by simp[ids,dg,h]
theorem Pt.ids(n:Nat):Pt n (ids n):=by
 refine⟨by simp[Fl.ids],λi hi=>by rw[jJ hi];ac_rfl,λi j hi hj e=>by rw[jJ hi,jJ hj] at e;ac_rfl,λx h0 h1=>⟨x.toNat,(by ac_rfl),by rw[jJ (by ac_rfl)];ac_rfl⟩⟩
theorem Pt.swap(h:Pt n l)(hp:p+1<n):Pt n (aK l p):=by
 have hl:=h.len;have g:∀i,i<n->(aK l p).getD i 0=l.getD (sg p i) 0:=λi hi=>by
  have:=rB (l:=l) (p:=p) (i:=sg p i) (by ac_rfl) (by rw[hl];exact rG hp hi);rwa[DS] at this
 refine⟨by rw[f7 (by ac_rfl)];exact hl,λi hi=>by rw[g i hi];exact h.bd _ (rG hp hi),λi j hi hj e=>?_,λx h0 h1=>?_⟩
 ·rw[g i hi,g j hj] at e;have:=h.inj _ _ (rG hp hi) (rG hp hj) e;have:=congrArg (sg p) this;rwa[DS,DS] at this
 ·obtain⟨i,hi,e⟩:=h.sur x h0 h1;exact⟨sg p i,rG hp hi,by rw[rB (by ac_rfl) (by ac_rfl)];exact e⟩
noncomputable def Bf(l:List Int)(x y:Int):Prop:=∃i j,i<j/\j<l.length/\l.getD i 0=x/\l.getD j 0=y
variable {x y:Int}
theorem Bf.anti(P:Pt n l)(h:Bf l x y)(k:Bf l y x):False:=by
 obtain⟨i,j,a,b,c,d⟩:=h;obtain⟨i',j',a',b',c',d'⟩:=k;have hl:=P.len;have:=P.inj i j' (by ac_rfl) (by ac_rfl) (c.trans d'.symm);have:=P.inj j i' (by ac_rfl) (by ac_rfl) (d.trans c'.symm);ac_rfl
theorem Bf.tot(P:Pt n l)(hx:0<=x)(hx':x<n)(hy:0<=y)(hy':y<n)(ne:x≠y):Bf l x y \/ Bf l y x:=by
 obtain⟨i,hi,ei⟩:=P.sur x hx hx';obtain⟨j,hj,ej⟩:=P.sur y hy hy';have hl:=P.len;rcases vc i j with h | h | h
 ·exact .inl ⟨i,j,h,(by ac_rfl),ei,ej⟩
 ·subst h;exact absurd (ei.symm.trans ej) ne
 ·exact .inr ⟨j,i,h,(by ac_rfl),ej,ei⟩
theorem Bf.swap(P:Pt n l)(hp:p+1<n)(h:Bf l x y)(ne:¬(x=l.getD p 0/\y=l.getD (p+1) 0)):Bf (aK l p) x y:=by
 obtain⟨i,j,a,b,c,d⟩:=h;have hl:=P.len;refine⟨sg p i,sg p j,?_,by rw[f7 (by ac_rfl),hl];exact rG hp (by ac_rfl),by rw[rB (by ac_rfl) (by ac_rfl)];exact c,by rw[rB (by ac_rfl) (by ac_rfl)];exact d⟩;by_cases z:i=p/\j=p+1
 ·exact absurd ⟨by rw[<- c,z.1],by rw[<- d,z.2]⟩ ne
 ·unfold sg;split<;>split<;>first | ac_rfl | (split<;>first | ac_rfl | (split<;>ac_rfl))
theorem Bf.new(hp:p+1<l.length):Bf (aK l p) (l.getD (p+1) 0) (l.getD p 0):=
 ⟨p,p+1,(by ac_rfl),by rw[f7 hp];exact hp,by rw[bL hp (by ac_rfl),XF (by ac_rfl),Y4 rfl],by rw[bL hp hp,Y4 rfl]⟩
theorem Bf.back(P:Pt n l)(hp:p+1<n)(h:Bf (aK l p) x y):Bf l x y \/ (x=l.getD (p+1) 0/\y=l.getD p 0):=by
 have hl:=P.len;by_cases z:x=l.getD (p+1) 0/\y=l.getD p 0
 ·exact .inr z
 ·have P':=P.swap hp;obtain⟨i,j,a,b,c,d⟩:=h;rw[f7 (by ac_rfl)] at b;have g:∀i,i<n->(aK l p).getD i 0=l.getD (sg p i) 0:=λi hi=>by
   have:=rB (l:=l) (p:=p) (i:=sg p i) (by ac_rfl) (by rw[hl];exact rG hp hi);rwa[DS] at this
  rw[g i (by ac_rfl)] at c;rw[g j (by ac_rfl)] at d;refine .inl ⟨sg p i,sg p j,?_,by rw[hl];exact rG hp (by ac_rfl),c,d⟩;by_cases w:i=p/\j=p+1
  ·exfalso;apply z;obtain⟨rfl,rfl⟩:=w;refine⟨?_,?_⟩
   ·rw[<- c];unfold sg;rw[Y4 rfl]
   ·rw[<- d];unfold sg;rw[XF (by ac_rfl),Y4 rfl]
  ·unfold sg;split<;>split<;>first | ac_rfl | (split<;>first | ac_rfl | (split<;>ac_rfl))
theorem Bf.near(hp:p+1<l.length):Bf l (l.getD p 0) (l.getD (p+1) 0):=⟨p,p+1,(by ac_rfl),hp,rfl,rfl⟩
theorem w9(h0:0<=x)(h:x<y)(h1:y<n):Bf (ids n) x y:=
 ⟨x.toNat,y.toNat,(by ac_rfl),by simp[ids];ac_rfl,by rw[jJ (by ac_rfl)];ac_rfl,by rw[jJ (by ac_rfl)];ac_rfl⟩
noncomputable abbrev kd(ks:List Int)(x:Int):Int:=ks.getD x.toNat 0
inductive Walk(ks:List Int):List Int->List Int->List Int->Prop
 |nil (l:List Int):Walk ks l [] l
 |cons {l e r:List Int} {p:Nat}:p+1<ks.length->kd ks (l.getD p 0)<kd ks (l.getD (p+1) 0)->Walk ks (aK l p) r e->Walk ks l ((p:Int)::r) e
noncomputable def tls:List Int->List Int->List (Int×Int×List Int)
 |_,[]=>[]
 |l,p::r=>(l.getD p.toNat 0,l.getD (p.toNat+1) 0,l.take p.toNat)::tls (aK l p.toNat) r
theorem jD:∀(r l:List Int),(tls l r).length=r.length
 | [],_=>rfl
 |p::r,l=>by rw[tls,bp,bp,jD r]
variable {m:List Int}
section
variable {ks l e r:List Int}{x y:Int}
theorem Walk.snoc{p:Nat}(w:Walk ks l r e)(hp:p+1<ks.length)(h:kd ks (e.getD p 0)<kd ks (e.getD (p+1) 0)):Walk ks l (r++[(p:Int)]) (aK e p):=by
 induction w with
 |nil l=>exact .cons hp h (.nil _)
 |cons a b _ ih=>exact .cons a b (ih h)
theorem Walk.pt(w:Walk ks l r e)(P:Pt ks.length l):Pt ks.length e:=by
 induction w with
 |nil l=>exact P
 |cons a b _ ih=>exact ih (P.swap a)
theorem Walk.append{e2 r2:List Int}(w:Walk ks l r m)(w2:Walk ks m r2 e2):Walk ks l (r++r2) e2:=by
 induction w with
 |nil l=>exact w2
 |cons a b _ ih=>exact .cons a b (ih w2)
theorem Walk.stay(w:Walk ks l r e)(P:Pt ks.length l)(k:kd ks x<=kd ks y)(h:Bf l y x):Bf e y x:=by
 induction w with
 |nil l=>exact h
 |cons a b w ih=>
  refine ih (P.swap a) (h.swap P a λz=>?_);rw[z.1,z.2] at k;ac_rfl
theorem Walk.key(w:Walk ks l r e)(P:Pt ks.length l){t:Int×Int×List Int}(h:t∈tls l r):Bf l t.1 t.2.1/\kd ks t.1<kd ks t.2.1/\Bf e t.2.1 t.1:=by
 induction w with
 |nil l=>cases h
 | @cons l e r p a b w ih=>
  have hl:=P.len;rw[tls,bw] at h;rcases bq.mp h with rfl | h
  ·exact⟨Bf.near (by ac_rfl),b,w.stay (P.swap a) (Xq b) (Bf.new (by ac_rfl))⟩
  ·obtain⟨h1,h2,h3⟩:=ih (P.swap a) h;refine⟨?_,h2,h3⟩;rcases h1.back P a with z | z
   ·exact z
   ·rw[z.1,z.2] at h2;ac_rfl
theorem Walk.nodup(w:Walk ks l r e)(P:Pt ks.length l):((tls l r).map λt=>(t.1,t.2.1)).Nodup:=by
 induction w with
 |nil l=>exact WP
 | @cons l e r p a b w ih=>
  have hl:=P.len;rw[tls,bw,cp];refine sf.mpr ⟨λh=>?_,ih (P.swap a)⟩;obtain⟨t,ht,et⟩:=fx.mp h;obtain⟨h1,_,_⟩:=w.key (P.swap a) ht;simp only[ls] at et;rw[et.1,et.2] at h1;exact h1.anti (P.swap a) (Bf.new (by ac_rfl))
theorem Walk.or(w:Walk ks l r e)(P:Pt ks.length l)(h:Bf l x y):(∃t∈tls l r,t.1=x/\t.2.1=y) \/ Bf e x y:=by
 induction w with
 |nil l=>exact .inr h
 | @cons l e r p a b w ih=>
  have hl:=P.len;rw[tls,bw];by_cases z:x=l.getD p 0/\y=l.getD (p+1) 0
  ·exact .inl ⟨_,ci ..,z.1.symm,z.2.symm⟩
  ·rcases ih (P.swap a) (h.swap P a z) with⟨t,ht,et⟩ | q
   ·exact .inl ⟨t,bm _ ht,et⟩
   ·exact .inr q
noncomputable def cZ(ks e:List Int):Prop:=∀p,p+1<ks.length->kd ks (e.getD (p+1) 0)<=kd ks (e.getD p 0)
theorem cZ.le(d:cZ ks e)(P:Pt ks.length e):∀(k i:Nat),i+k<ks.length->kd ks (e.getD (i+k) 0)<=kd ks (e.getD i 0)
 |0,i,_=>xf _
 |k+1,i,h=>Int.le_trans (d (i+k) (by ac_rfl)) (d.le P k i (by ac_rfl))
theorem Walk.all(w:Walk ks l r e)(P:Pt ks.length l)(d:cZ ks e)(k:kd ks x<kd ks y)(h:Bf l x y):∃t∈tls l r,t.1=x/\t.2.1=y:=by
 rcases w.or P h with q | ⟨i,j,a,b,c,f⟩
 ·exact q
 ·have P':=w.pt P;have hl:=P'.len;have:=d.le P' (j-i) i (by ac_rfl);rw[show i+(j-i)=j by ac_rfl,c,f] at this;ac_rfl
end
noncomputable def pc:List Int->Nat
 | []=>0
 |x::r=>(r.filter λy=>decide (x<y)).length+pc r
theorem Dd{a b:Int}(h:a<b)(v:List Int):∀u:List Int,pc (u++a::b::v)=pc (u++b::a::v)+1
 | []=>by
  have h':¬b<a:=(by ac_rfl);simp only[oh,pc,jh,h,h',decide_true,decide_false,if_true,fe,if_false,bp];ac_rfl
 |x::u=>by
  have e:((u++a::b::v).filter λy=>decide (x<y)).length=((u++b::a::v).filter λy=>decide (x<y)).length:=by
   simp only[ve,jh,br];split<;>split<;>simp
  rw[jn,jn,pc,pc,Dd h v u,e];ac_rfl
theorem Kj:∀l:List Int,pc l<=l.length*l.length
 | []=>bj _
 |x::r=>by
  have h1:=Kj r;have h2:=qk (λy=>decide (x<y)) r;rw[pc,bp,xg,Wz];ac_rfl
theorem O0(h:1<=l.length):pc l<l.length*l.length:=by
 cases l with
 |nil=>simp at h
 |cons x r=>
  have h1:=Kj r;have h2:=qk (λy=>decide (x<y)) r;rw[pc,bp,xg,Wz];ac_rfl
theorem pS(hp:p+1<l.length):l=l.take p++l.getD p 0::l.getD (p+1) 0::l.drop (p+2):=by
 have e1:l.drop p=l.getD p 0::l.drop (p+1):=by
  rw[fc (show p<l.length by ac_rfl)];simp[dg,show p<l.length by ac_rfl]
 have e2:l.drop (p+1)=l.getD (p+1) 0::l.drop (p+2):=by
  rw[fc hp];simp[dg,hp]
 rw[<- e2,<- e1,jt]
variable {r e:List Int}
theorem Walk.count(w:Walk ks l r e)(hl:l.length=ks.length):pc (l.map (kd ks))=r.length+pc (e.map (kd ks)):=by
 induction w with
 |nil l=>simp
 | @cons l e r p a b w ih=>
  have h1:=ih (by rw[f7 (by ac_rfl)];exact hl);have h2:pc (l.map (kd ks))=pc ((aK l p).map (kd ks))+1:=by
   have e1:=congrArg (List.map (kd ks)) (pS (l:=l) (p:=p) (by ac_rfl));rw[uz,cp,cp] at e1;rw[e1,Dd b];congr 2;unfold aK;simp
  rw[h2,h1,bp];ac_rfl
theorem D0(ks:List Int):(ids ks.length).map (kd ks)=ks:=by
 apply pi;intro i;by_cases h:i<ks.length
 ·simp[ids,kd,h]
 ·simp[ids,h]
theorem n9:∀(r l:List Int) (k:Nat),(tls l r).take k=tls l (r.take k)
 | [],l,k=>by simp[tls]
 |p::r,l,0=>rfl
 |p::r,l,k+1=>by rw[tls,vq,vq,tls,n9 r]
theorem Walk.at(w:Walk ks l r e):∀{k:Nat} {t:Int×Int×List Int},(tls l r)[k]?=aa t -> ∃(m:List Int) (p:Nat),Walk ks l (r.take k) m/\p+1<ks.length/\t=(m.getD p 0,m.getD (p+1) 0,m.take p):=by
 induction w with
 |nil l=>intro k t h;simp[tls] at h
 | @cons l e r p a b w ih=>
  intro k t h;rw[tls,bw] at h;cases k with
  |zero=>
   simp only[sy,jj] at h;exact⟨l,p,.nil _,a,h.symm⟩
  |succ k=>
   rw[List.getElem?_cons_succ] at h;obtain⟨m,q,w1,hq,et⟩:=ih h;exact⟨m,q,.cons a b w1,hq,et⟩
theorem E7(P:Pt n m)(hp:p+1<n):b∈m.take p ↔ Bf m b (m.getD p 0):=by
 have hl:=P.len;constructor
 ·intro h;obtain⟨i,hi,e⟩:=ed.mp h;rw[dj] at hi;refine⟨i,p,(by ac_rfl),(by ac_rfl),?_,rfl⟩;rw[iq] at e;simp[dg,show i<m.length by ac_rfl,e]
 ·rintro⟨i,j,a,b',c,d⟩;have:=P.inj j p (by ac_rfl) (by ac_rfl) d;subst this;refine ed.mpr ⟨i,by rw[dj];ac_rfl,?_⟩;rw[iq];simpa [dg,show i<m.length by ac_rfl] using c
theorem Walk.three(w:Walk ks (ids ks.length) r e)(d:cZ ks e){a c:Int}(ha:0<=a)(hab:a<b)(hbc:b<c)(hc:c<ks.length)(k1:kd ks a<kd ks b)(k2:kd ks b<kd ks c)
  {j k:Nat} {t u v:Int×Int×List Int} (hi:(tls (ids ks.length) r)[i]?=aa t) (ht:t.1=a/\t.2.1=b) (hj:(tls (ids ks.length) r)[j]?=aa u) (hu:u.1=b/\u.2.1=c)
  (hk:(tls (ids ks.length) r)[k]?=aa v) (hv:v.1=a/\v.2.1=c):b∈v.2.2 ↔ i<j:=by
 have P:=Pt.ids ks.length;obtain⟨m,p,w1,hp,ev⟩:=w.at hk;have P1:=w1.pt P;have hl:=P1.len;have ea:m.getD p 0=a:=by rw[<- hv.1,ev]
 have ec:m.getD (p+1) 0=c:=by rw[<- hv.2,ev]
 have nd:=w.nodup P;have uniq:∀{x y:Nat} {s q:Int×Int×List Int},(tls (ids ks.length) r)[x]?=aa s->(tls (ids ks.length) r)[y]?=aa q->s.1=q.1->s.2.1=q.2.1->x=y:=by
  intro x y s q hx hy e1 e2;have nd':=cf.mp nd;obtain⟨lx,gx⟩:=bb.mp hx;obtain⟨ly,gy⟩:=bb.mp hy;rcases vc x y with z | z | z
  ·exact(nd' x y (by simpa using lx) (by simpa using ly) z (by simp only[W1,gx,gy,e1,e2])).elim
  ·exact z
  ·exact(nd' y x (by simpa using ly) (by simpa using lx) z (by simp only[W1,gx,gy,e1,e2])).elim
 have early:∀{x y:Int} {z:Nat} {s:Int×Int×List Int},(tls (ids ks.length) r)[z]?=aa s->s.1=x->s.2.1=y->Bf (ids ks.length) x y->Bf m y x->z<k:=by
  intro x y z s hz e1 e2 h0 h1;rcases w1.or P h0 with⟨s',hs',e1',e2'⟩ | q
  ·rw[<- n9] at hs';obtain⟨q,hq,gq⟩:=ed.mp hs';rw[dj] at hq;have:(tls (ids ks.length) r)[q]?=aa s':=by
    rw[iq] at gq;rw[<- gq];exact ar (by ac_rfl)
   have:=uniq hz this (e1.trans e1'.symm) (e2.trans e2'.symm);ac_rfl
  ·exact(q.anti P1 h1).elim
 have late:∀{x y:Int} {z:Nat} {s:Int×Int×List Int},(tls (ids ks.length) r)[z]?=aa s->s.1=x->s.2.1=y->Bf m x y -> ¬z<k:=by
  intro x y z s hz e1 e2 h1 hlt;have:s∈tls (ids ks.length) (r.take k):=by
   rw[<- n9];obtain⟨lz,gz⟩:=bb.mp hz;exact ed.mpr ⟨z,by rw[dj];ac_rfl,by rw[iq];exact gz⟩
  have:=(w1.key P this).2.2;rw[e1,e2] at this;exact h1.anti P1 this
 have iab:=w9 (n:=ks.length) ha hab (by ac_rfl);have ibc:=w9 (n:=ks.length) (x:=b) (y:=c) (by ac_rfl) hbc hc;have inb:b∈v.2.2 ↔ Bf m b a:=by rw[ev,<- ea];exact E7 P1 hp
 have jk:j≠k:=λz=>by
  subst z;rw[hj] at hk;cases hk;have:=hu.1.symm.trans hv.1;ac_rfl
 have ik:i≠k:=λz=>by
  subst z;rw[hi] at hk;cases hk;have:=ht.2.symm.trans hv.2;ac_rfl
 have near:Bf m a c:=by rw[<- ea,<- ec];exact Bf.near (by ac_rfl)
 rw[inb];constructor
 ·intro h;have h1:=early hi ht.1 ht.2 iab h;have bc:Bf m b c:=by
   obtain⟨x1,x2,q1,q2,q3,q4⟩:=h;obtain⟨y1,y2,p1,p2,p3,p4⟩:=near;have:=P1.inj x2 y1 (by ac_rfl) (by ac_rfl) (q4.trans p3.symm);exact⟨x1,y2,(by ac_rfl),p2,q3,p4⟩
  have h2:=late hj hu.1 hu.2 bc;ac_rfl
 ·intro hij;rcases Bf.tot P1 (x:=b) (y:=a) (by ac_rfl) (by ac_rfl) ha (by ac_rfl) (by ac_rfl) with h | h
  ·exact h
  ·exfalso;have cb:Bf m c b:=by
    obtain⟨x1,x2,q1,q2,q3,q4⟩:=h;have z1:=P1.inj x1 p (by ac_rfl) (by ac_rfl) (q3.trans ea.symm);have z2:x2≠p+1:=λz=>by rw[z,ec] at q4;ac_rfl
    exact⟨p+1,x2,(by ac_rfl),q2,ec,q4⟩
   have h1:=early hj hu.1 hu.2 ibc cb;have h2:=late hi ht.1 ht.2 h;ac_rfl
end Fl
set_option maxHeartbeats 8000000
variable {row:List Int}
namespace Fl
variable {x y v a:Int}{m r e:List Int}
noncomputable def tm(ks r:List Int)(x y:Int):Nat:=(tls (ids ks.length) r).findIdx λt=>decide (t.1=x/\t.2.1=y)
noncomputable def k8(ks:List Int):Prop:=∀a b:Int,0<=a->a<=b->b<ks.length->kd ks a<=kd ks b
theorem N7(x y:Int):tm ks r x y<=r.length:=by
 have:=List.findIdx_le_length (p:=λt:Int×Int×List Int=>decide (t.1=x/\t.2.1=y)) (xs:=tls (ids ks.length) r);rwa[jD] at this
theorem Ao(h:tm ks r x y<r.length):∃t,(tls (ids ks.length) r)[tm ks r x y]?=aa t/\t.1=x/\t.2.1=y:=by
 have hl:tm ks r x y<(tls (ids ks.length) r).length:=by rw[jD];exact h
 have:=List.findIdx_getElem (w:=hl);exact⟨_,ar hl,(of_decide_eq_true this).1,(of_decide_eq_true this).2⟩
theorem L5{t:Int×Int×List Int}(h:t∈tls (ids ks.length) r)(e1:t.1=x)(e2:t.2.1=y):tm ks r x y<r.length:=by
 have:=List.findIdx_lt_length_of_exists (p:=λt:Int×Int×List Int=>decide (t.1=x/\t.2.1=y)) ⟨t,h,decide_eq_true ⟨e1,e2⟩⟩;rwa[jD] at this
theorem Walk.sw_iff(w:Walk ks (ids ks.length) r e){k:Nat}(w1:Walk ks (ids ks.length) (r.take k) m)(hk:k<=r.length){u:Int}(h0:0<=u)(huv:u<v)(hv:v<ks.length):Bf m v u ↔ tm ks r u v<k:=by
 have P:=Pt.ids ks.length;have P1:=w1.pt P;constructor
 ·intro h;rcases w1.or P (w9 h0 huv hv) with⟨t,ht,e1,e2⟩ | q
  ·rw[<- n9] at ht;obtain⟨i,hi,gi⟩:=ed.mp ht;rw[dj] at hi;have hi2:i<(tls (ids ks.length) r).length:=(by ac_rfl);rw[iq] at gi;apply wl _ (show i<k by ac_rfl);apply lh;intro z;have:=List.not_of_lt_findIdx z;rw[gi] at this;rw[decide_eq_true (show t.1=u/\t.2.1=v from⟨e1,e2⟩)] at this;cases this
  ·exact(q.anti P1 h).elim
 ·intro h;obtain⟨t,ht,e1,e2⟩:=Ao (ks:=ks) (r:=r) (x:=u) (y:=v) (by ac_rfl);have hm:t∈tls (ids ks.length) (r.take k):=by
   rw[<- n9];obtain⟨lz,gz⟩:=bb.mp ht;exact ed.mpr ⟨tm ks r u v,by rw[dj];ac_rfl,by rw[iq];exact gz⟩
  have:=(w1.key P hm).2.2;rwa[e1,e2] at this
theorem Walk.tm_lt(w:Walk ks (ids ks.length) r e)(d:cZ ks e)(h0:0<=x)(hxy:x<y)(hy:y<ks.length)(hk:kd ks x<kd ks y):tm ks r x y<r.length:=by
 obtain⟨t,ht,e1,e2⟩:=w.all (Pt.ids _) d hk (w9 h0 hxy hy);exact L5 ht e1 e2
theorem Walk.tm_alike(w:Walk ks (ids ks.length) r e)(hk:¬kd ks x<kd ks y):tm ks r x y=r.length:=by
 apply Nat.le_antisymm (N7 x y);apply lh;intro z;obtain⟨t,ht,e1,e2⟩:=Ao z;have:=(w.key (Pt.ids _) (cq ht)).2.1;rw[e1,e2] at this;exact hk this
theorem DN{u:Int}(h:tm ks r x y<r.length)(e:tm ks r x y=tm ks r u v):x=u/\y=v:=by
 obtain⟨t,ht,e1,e2⟩:=Ao h;obtain⟨t',ht',e1',e2'⟩:=Ao (ks:=ks) (r:=r) (x:=u) (y:=v) (by ac_rfl);rw[e,ht'] at ht;cases ht;exact⟨e1.symm.trans e1',e2.symm.trans e2'⟩
theorem Walk.tile(w:Walk ks (ids ks.length) r e)(h:tm ks r x y<r.length):∃(m:List Int) (p:Nat),Walk ks (ids ks.length) (r.take (tm ks r x y)) m/\Pt ks.length m/\p+1<ks.length/\m.getD p 0=x/\m.getD (p+1) 0=y/\(tls (ids ks.length) r)[tm ks r x y]?=aa (x,y,m.take p):=by
 obtain⟨t,ht,e1,e2⟩:=Ao h;obtain⟨m,p,w1,hp,et⟩:=w.at ht;subst et;dsimp only at e1 e2;exact⟨m,p,w1,w1.pt (Pt.ids _),hp,e1,e2,by rw[ht,e1,e2]⟩
theorem Walk.tri(w:Walk ks (ids ks.length) r e)(d:cZ ks e)(mo:k8 ks){c:Int}(h0:0<=a)(hab:a<b)(hbc:b<c)(hc:c<ks.length)(hk:kd ks a≠kd ks c):
  (tm ks r a b<tm ks r a c/\tm ks r a c<tm ks r b c) \/ (tm ks r b c<tm ks r a c/\tm ks r a c<tm ks r a b):=by
 have m1:=mo a c h0 (by ac_rfl) hc;have hl:=w.tm_lt d h0 (show a<c by ac_rfl) hc (by ac_rfl);obtain⟨m,p,w1,P1,hp,ea,ec,_⟩:=w.tile hl;have lm:=P1.len;have near:Bf m a c:=by rw[<- ea,<- ec];exact Bf.near (by ac_rfl)
 have n1:tm ks r a b≠tm ks r a c:=λz=>by have:=DN hl z.symm;ac_rfl
 have n2:tm ks r b c≠tm ks r a c:=λz=>by have:=DN hl z.symm;ac_rfl
 rcases Bf.tot P1 (x:=b) (y:=a) (by ac_rfl) (by ac_rfl) h0 (by ac_rfl) (by ac_rfl) with h | h
 ·have i1:=(w.sw_iff w1 (by ac_rfl) h0 hab (by ac_rfl)).mp h;have bc:Bf m b c:=by
   obtain⟨x1,x2,q1,q2,q3,q4⟩:=h;obtain⟨y1,y2,p1,p2,p3,p4⟩:=near;have:=P1.inj x2 y1 (by ac_rfl) (by ac_rfl) (q4.trans p3.symm);exact⟨x1,y2,(by ac_rfl),p2,q3,p4⟩
  have i2:¬tm ks r b c<tm ks r a c:=λz=>bc.anti P1 ((w.sw_iff w1 (by ac_rfl) (by ac_rfl) hbc hc).mpr z);exact .inl ⟨i1,(by ac_rfl)⟩
 ·have cb:Bf m c b:=by
   obtain⟨x1,x2,q1,q2,q3,q4⟩:=h;have z1:=P1.inj x1 p (by ac_rfl) (by ac_rfl) (q3.trans ea.symm);have z2:x2≠p+1:=λz=>by rw[z,ec] at q4;ac_rfl
   exact⟨p+1,x2,(by ac_rfl),q2,ec,q4⟩
  have i1:=(w.sw_iff w1 (by ac_rfl) (by ac_rfl) hbc hc).mp cb;have i2:¬tm ks r a b<tm ks r a c:=λz=>h.anti P1 ((w.sw_iff w1 (by ac_rfl) h0 hab (by ac_rfl)).mpr z);exact .inr ⟨i1,(by ac_rfl)⟩
theorem Walk.under(w:Walk ks (ids ks.length) r e)(h0:0<=x)(hxy:x<y)(hy:y<ks.length)(h:tm ks r x y<r.length):∃pre:List Int,(tls (ids ks.length) r)[tm ks r x y]?=aa (x,y,pre)/\pre.Nodup /\
  ∀z:Int,z∈pre ↔ 0<=z/\z<ks.length/\z≠x/\z≠y/\((z<x/\tm ks r x y<tm ks r z x) \/ (x<z/\tm ks r x z<tm ks r x y)):=by
 obtain⟨m,p,w1,P1,hp,ea,ec,g⟩:=w.tile h;have lm:=P1.len;have nd:m.Nodup:=cf.mpr λi j hi hj hij z=>by
  have:=P1.inj i j (by ac_rfl) (by ac_rfl) (by simp only[dg,ar hi,ar hj,getD_some];exact z);ac_rfl
 refine⟨m.take p,g,nd.sublist (xb _ _),λz=>?_⟩;rw[E7 P1 hp,ea];constructor
 ·intro hb;obtain⟨i,j,q1,q2,q3,q4⟩:=id hb;have hi:=P1.bd i (by ac_rfl);rw[q3] at hi;have zx:z≠x:=λe=>by
   have:=P1.inj i j (by ac_rfl) (by ac_rfl) (by rw[q3,q4];exact e);ac_rfl
  have jp:=P1.inj j p (by ac_rfl) (by ac_rfl) (by rw[q4,ea]);have zy:z≠y:=λe=>by
   have:=P1.inj i (p+1) (by ac_rfl) (by ac_rfl) (by rw[q3,ec];exact e);ac_rfl
  refine⟨hi.1,(by ac_rfl),zx,zy,?_⟩;rcases mj zx with q | q
  ·refine .inl ⟨q,?_⟩;have n1:¬tm ks r z x<tm ks r x y:=λc=>hb.anti P1 ((w.sw_iff w1 (by ac_rfl) hi.1 q (by ac_rfl)).mpr c);have n2:tm ks r z x≠tm ks r x y:=λc=>by have:=DN h c.symm;ac_rfl
   ac_rfl
  ·exact .inr ⟨q,(w.sw_iff w1 (by ac_rfl) h0 q (by ac_rfl)).mp hb⟩
 ·rintro⟨z0,zn,zx,zy,q | q⟩
  ·rcases Bf.tot P1 (x:=z) (y:=x) z0 (by ac_rfl) h0 (by ac_rfl) zx with c | c
   ·exact c
   ·have:=(w.sw_iff w1 (by ac_rfl) z0 q.1 (by ac_rfl)).mp c;ac_rfl
  ·exact(w.sw_iff w1 (by ac_rfl) h0 q.1 (by ac_rfl)).mpr q.2
structure Tms(n:Nat)(kk:Int->Int)(T:Int->Int->Nat)(L:Nat):Prop where
 mono:∀a b:Int,0<=a->a<=b->b<n->kk a<=kk b
 lt:∀a b:Int,0<=a->a<b->b<n->kk a<kk b->T a b<L
 al:∀a b:Int,¬kk a<kk b->T a b=L
 ne:∀a b c d:Int,T a b<L->T a b=T c d->a=c/\b=d
 tri:∀a b c:Int,0<=a->a<b->b<c->c<n->kk a≠kk c->(T a b<T a c/\T a c<T b c) \/ (T b c<T a c/\T a c<T a b)
theorem Walk.tms(w:Walk ks (ids ks.length) r e)(d:cZ ks e)(mo:k8 ks):Tms ks.length (kd ks) (tm ks r) r.length:=
 ⟨mo,λa b h0 h1 h2 h3=>w.tm_lt d h0 h1 h2 h3,λa b h=>w.tm_alike h,λa b c d h e=>DN h e,λa b c h0 h1 h2 h3 h4=>w.tri d mo h0 h1 h2 h3 h4⟩
variable {w:Int}
section
variable {L:Nat}{kk:Int->Int}{T:Int->Int->Nat}
noncomputable def tt(T:Int->Int->Nat)(x y:Int):Nat:=if x<y then T x y else T y x
theorem i8(h:x<y):tt T x y=T x y:=Y4 h
theorem gW(h:x≠y):tt T x y=tt T y x:=by
 unfold tt;rcases mj h with z | z
 ·rw[Y4 z,XF (by ac_rfl)]
 ·rw[XF (by ac_rfl),Y4 z]
noncomputable def btw(t u v:Nat):Prop:=(u<t/\t<v) \/ (v<t/\t<u)
noncomputable instance (t u v:Nat):Decidable (btw t u v):=by unfold btw;exact inferInstance
structure In(n:Nat)(x:Int):Prop where
 lo:0<=x
 hi:x<n
theorem Tms.med(h:Tms n kk T L){c:Int}(ha:In n a)(hc:In n c)(hab:a<b)(hbc:b<c)(hk:kk a≠kk c):btw (tt T a c) (tt T a b) (tt T b c):=by
 rw[i8 hab,i8 hbc,i8 (show a<c by ac_rfl)];exact h.tri a b c ha.lo hab hbc hc.hi hk
noncomputable def Pb(T:Int->Int->Nat)(x y v:Int):Prop:=(v<x/\tt T x y<tt T x v) \/ (x<v/\tt T x v<tt T x y)
theorem Tms.pbl(h:Tms n kk T L)(hx:In n x)(hy:In n y)(hv:In n v)(xy:x<y)(xv:x≠v)(yv:y≠v)(k1:kk x≠kk y):Pb T x y v ↔ Pb T y x v:=by
 have mo:∀p q:Int,In n p->In n q->p<q->kk p<=kk q:=λp q hp hq hpq=>h.mono p q hp.lo (by ac_rfl) hq.hi;have m0:=mo x y hx hy xy;unfold Pb;rw[gW (T:=T) (show y≠x by ac_rfl)];rcases mj xv with c | c
 ·rcases mj yv with b | b
  ·have m1:=mo y v hy hv b;have t:=h.med hx hv xy b (by ac_rfl);unfold btw at t;ac_rfl
  ·have t:=h.med hx hy c b k1;rw[gW (T:=T) (show v≠y by ac_rfl)] at t;unfold btw at t;ac_rfl
 ·have m1:=mo v x hv hx c;have t:=h.med hv hy c xy (by ac_rfl);rw[gW (T:=T) (show v≠y by ac_rfl),gW (T:=T) (show v≠x by ac_rfl)] at t;unfold btw at t;ac_rfl
theorem Tms.pb(h:Tms n kk T L)(hx:In n x)(hy:In n y)(hv:In n v)(xy:x≠y)(xv:x≠v)(yv:y≠v)(k1:kk x≠kk y):Pb T x y v ↔ Pb T y x v:=by
 rcases mj xy with c | c
 ·exact h.pbl hx hy hv c xv yv k1
 ·exact(h.pbl hy hx hv c yv xv k1.symm).symm
theorem Tms.dif(h:Tms n kk T L)(hx:In n x)(hy:In n y)(xy:x≠y)(xv:x≠v)(yv:y≠v)(k:kk x≠kk y):tt T x v≠tt T x y:=by
 intro z;unfold tt at z;rcases mj xy with c | c
 ·have lt:=h.lt x y hx.lo c hy.hi (by have:=h.mono x y hx.lo (by ac_rfl) hy.hi;ac_rfl);rw[Y4 c] at z;split at z
  ·exact yv (h.ne _ _ _ _ lt z.symm).2
  ·have:=(h.ne _ _ _ _ lt z.symm);ac_rfl
 ·have lt:=h.lt y x hy.lo c hx.hi (by have:=h.mono y x hy.lo (by ac_rfl) hx.hi;ac_rfl);rw[XF (show ¬x<y by ac_rfl)] at z;split at z
  ·have:=(h.ne _ _ _ _ lt z.symm);ac_rfl
  ·exact yv (h.ne _ _ _ _ lt z.symm).1
theorem Ga(xv:x≠v)(d1:tt T x v≠tt T x y)(d2:tt T x v≠tt T x w):btw (tt T x v) (tt T x y) (tt T x w) ↔ ¬(Pb T x y v ↔ Pb T x w v):=by
 unfold btw Pb;rcases mj xv with c | c<;>ac_rfl
structure Th(n:Nat)(kk:Int->Int)(x y w:Int):Prop where
 ix:In n x
 iy:In n y
 iw:In n w
 xy:kk x≠kk y
 xw:kk x≠kk w
 yw:kk y≠kk w
theorem Th.ne(h:Th n kk x y w):x≠y/\x≠w/\y≠w:=⟨λz=>h.xy (by rw[z]),λz=>h.xw (by rw[z]),λz=>h.yw (by rw[z])⟩
end
noncomputable def srt(l:List Int):List Int:=l.mergeSort λa b=>decide (a<=b)
theorem dR(l:List Int):(srt l).Perm l:=V0 l _
theorem Fx(l:List Int):(srt l).Pairwise (· <= ·):=by
 have:=xx (le:=λa b:Int=>decide (a<=b)) (λa b c h1 h2=>by simp at *;ac_rfl) (λa b=>by simp;ac_rfl) l;exact this.imp λh=>of_decide_eq_true h
theorem DL:∀{l m:List Int},l.Perm m->l.Pairwise (· <= ·)->m.Pairwise (· <= ·)->l=m
 | [],m,p,_,_=>(XQ.mp p).symm
 |x::l,[],p,_,_=>by have:=p.length_eq;simp at this
 |x::l,y::m,p,h1,h2=>by
  obtain⟨a1,a2⟩:=eo.mp h1;obtain⟨b1,b2⟩:=eo.mp h2;have e:x=y:=by
   have i1:x∈y::m:=p.mem_iff.mp (ci ..);have i2:y∈x::l:=p.mem_iff.mpr (ci ..);rcases bq.mp i1 with z | z
   ·exact z
   ·rcases bq.mp i2 with q | q
    ·exact q.symm
    ·have:=b1 x z;have:=a1 y q;ac_rfl
  subst e;rw[DL (Xc _ |>.mp p) a2 b2]
theorem c8(p:m.Perm l)(h:m.Pairwise (· <= ·)):m=srt l:=DL (p.trans (dR l).symm) h (Fx l)
theorem nJ(p:l.Perm m):srt l=srt m:=c8 ((dR l).trans p) (Fx l)
theorem dQ(l:List Int)(x:Int):srt (srt l++[x])=srt (l++[x]):=nJ ((dR l).append_right _)
theorem iK(l:List Int):(srt l).length=l.length:=(dR l).length_eq
theorem Walk.underP(w:Walk ks (ids ks.length) r e)(h0:0<=x)(hxy:x<y)(hy:y<ks.length)(h:tm ks r x y<r.length):∃pre:List Int,(tls (ids ks.length) r)[tm ks r x y]?=aa (x,y,pre)/\pre.Nodup /\
  ∀z:Int,z∈pre ↔ In ks.length z/\z≠x/\z≠y/\Pb (tm ks r) x y z:=by
 obtain⟨pre,g,nd,u⟩:=w.under h0 hxy hy h;refine⟨pre,g,nd,λz=>(u z).trans ⟨λ⟨a,b,c,d,q⟩=>⟨⟨a,b⟩,c,d,?_⟩,λ⟨⟨a,b⟩,c,d,q⟩=>⟨a,b,c,d,?_⟩⟩⟩
 ·unfold Pb;rw[i8 hxy];rcases q with q | q
  ·left;rw[gW (Ne.symm c),i8 q.1];exact q
  ·right;rw[i8 q.1];exact q
 ·unfold Pb at q;rw[i8 hxy] at q;rcases q with q | q
  ·left;rw[gW (Ne.symm c),i8 q.1] at q;exact q
  ·right;rw[i8 q.1] at q;exact q
structure Emp(ks r:List Int)(x y w:Int):Prop where
 th:Th ks.length (kd ks) x y w
 no:∀z,In ks.length z->z≠x->z≠y->z≠w -> ¬btw (tt (tm ks r) x z) (tt (tm ks r) x y) (tt (tm ks r) x w) /\ ¬btw (tt (tm ks r) y z) (tt (tm ks r) y x) (tt (tm ks r) y w) /\ ¬btw (tt (tm ks r) w z) (tt (tm ks r) w x) (tt (tm ks r) w y)
noncomputable def yW(s1 s2 s3:List Int)(a b c:Int):Prop:=(s3=s1/\s2=srt (s1++[b])) \/ (s1=srt (s2++[c])/\s3=srt (s2++[a]))
noncomputable instance (s1 s2 s3:List Int) (a b c:Int):Decidable (yW s1 s2 s3 a b c):=by unfold yW;exact inferInstance
variable {p:Nat}{S:List Int}
section
variable {R cur:List Int}
theorem Bf.mem(h:Bf l x y)(hy:p<l.length)(ey:l.getD p 0=y)(P:Pt n l):x∈l.take p:=by
 obtain⟨i,j,a,b,c,d⟩:=h;have hl:=P.len;have:=P.inj j p (by ac_rfl) (by ac_rfl) (d.trans ey.symm);subst this;rw[ed];refine⟨i,by rw[dj];ac_rfl,?_⟩;rw[iq,<- c];simp[dg,show i<l.length by ac_rfl]
theorem HD(hp:p<l.length)(h:x∈l.take p):Bf l x (l.getD p 0):=by
 obtain⟨i,hi,e⟩:=ed.mp h;rw[dj] at hi;rw[iq] at e;exact⟨i,p,(by ac_rfl),hp,by rw[<- e];simp[dg,show i<l.length by ac_rfl],rfl⟩
end
noncomputable abbrev Ti:=Int×Int×List Int
noncomputable def tS(t:Ti):Ti:=(t.1,t.2.1,srt t.2.2)
noncomputable def fV(l row:List Int):List Ti:=(tls l row).map tS
noncomputable abbrev pos(t:Ti):Int:=t.2.2.length
theorem J9(w:Walk ks l r e)(P:Pt ks.length l):(fV l r).map pos=r:=by
 induction w with
 |nil l=>rfl
 | @cons l e r p a b w ih=>
  have hl:=P.len;unfold fV at ih ⊢;rw[tls,cp,cp,bw,ih (P.swap a)];show ((srt (l.take p)).length:Int)::r=_;rw[iK,dj,lr (by ac_rfl)]
theorem Bd(h:l.length=m.length)(k:∀i,i<l.length->l.getD i 0=m.getD i 0):l=m:=by
 apply List.ext_getElem h;intro i h1 h2;have:=k i h1;simpa [dg,h1,h2] using this
theorem rY(hp:p+1<l.length)(hi:i<l.length)(h1:i≠p)(h2:i≠p+1):(aK l p).getD i 0=l.getD i 0:=by
 rw[Fl.bL hp hi,XF h2,XF h1]
variable {q:Nat}
theorem Bm(hp:p+1<l.length)(hq:q+1<l.length)(h:p+2<=q \/ q+2<=p):aK (aK l p) q=aK (aK l q) p:=by
 have e1:=Fl.f7 hp;have e2:=Fl.f7 hq;have e3:=Fl.f7 (l:=aK l p) (p:=q) (by ac_rfl);have e4:=Fl.f7 (l:=aK l q) (p:=p) (by ac_rfl);refine Bd (by ac_rfl) λi hi=>?_;rw[Fl.bL (by ac_rfl) (by ac_rfl),Fl.bL (l:=aK l q) (by ac_rfl) (by ac_rfl),Fl.bL hp (by ac_rfl),Fl.bL hp (by ac_rfl),Fl.bL hp (by ac_rfl),Fl.bL hq (by ac_rfl),Fl.bL hq (by ac_rfl),Fl.bL hq (by ac_rfl)]
 (repeat' split)<;>first | rfl | ac_rfl
theorem EI(hp:p+1<l.length):(aK l p).Perm l:=by
 have e:=Fl.pS hp;have q:(l.take p++(l.getD (p+1) 0::l.getD p 0::l.drop (p+2))).Perm (l.take p++(l.getD p 0::l.getD (p+1) 0::l.drop (p+2))):=(List.Perm.swap _ _ _).append_left _;rw[<- e] at q;unfold aK;simpa using q
theorem Bl(hp:p+1<l.length)(hq:q+1<l.length)(h:p+2<=q \/ q+2<=p):srt ((aK l p).take q)=srt (l.take q):=by
 rcases h with h | h
 ·have:(aK l p).take q=aK (l.take q) p:=by
   have e1:=Fl.f7 hp;have e2:(l.take q).length=q:=by simp;ac_rfl
   have e3:=Fl.f7 (l:=l.take q) (p:=p) (by ac_rfl);have gt:∀(m:List Int) i,i<q->(m.take q).getD i 0=m.getD i 0:=λm i hi=>by simp[dg,fz hi]
   refine Bd (by simp;ac_rfl) λi hi=>?_;have hi':i<q:=by simp at hi;ac_rfl
   rw[gt _ _ hi',Fl.bL hp (by ac_rfl),Fl.bL (by ac_rfl) (by ac_rfl),gt _ _ (by ac_rfl),gt _ _ (by ac_rfl),gt _ _ hi']
  rw[this];exact nJ (EI (by simp;ac_rfl))
 ·have:(aK l p).take q=l.take q:=by
   unfold aK;rw[cm,vi (by simp;ac_rfl),W2,lr (by ac_rfl)]
  rw[this]
theorem PD{p q:Int}(w:Walk ks l (p::q::r) e)(P:Pt ks.length l)(h:p+2<=q \/ q+2<=p):
  Walk ks l (q::p::r) e /\ ∃t u B,fV l (p::q::r)=t::u::B/\fV l (q::p::r)=u::t::B:=by
 have hl:=P.len;cases w with
 | @cons _ _ _ p a b w=>
  cases w with
  | @cons _ _ _ q a' b' w=>
   have f:p+2<=q \/ q+2<=p:=(by ac_rfl);have f':q+2<=p \/ p+2<=q:=(by ac_rfl);have g1:=rY (l:=l) (p:=p) (i:=q) (by ac_rfl) (by ac_rfl) (by ac_rfl) (by ac_rfl);have g2:=rY (l:=l) (p:=p) (i:=q+1) (by ac_rfl) (by ac_rfl) (by ac_rfl) (by ac_rfl);have g3:=rY (l:=l) (p:=q) (i:=p) (by ac_rfl) (by ac_rfl) (by ac_rfl) (by ac_rfl);have g4:=rY (l:=l) (p:=q) (i:=p+1) (by ac_rfl) (by ac_rfl) (by ac_rfl) (by ac_rfl);rw[Bm (by ac_rfl) (by ac_rfl) f] at w;rw[g1,g2] at b';refine⟨.cons a' b' (.cons a (by rw[g3,g4];exact b) w),tS (l.getD p 0,l.getD (p+1) 0,l.take p),tS (l.getD q 0,l.getD (q+1) 0,l.take q),fV (aK (aK l q) p) r,?_,?_⟩
   ·unfold fV;simp only[tls,bw,cp,g1,g2,tS,Bl (l:=l) (p:=p) (q:=q) (by ac_rfl) (by ac_rfl) f,Bm (l:=l) (p:=p) (q:=q) (by ac_rfl) (by ac_rfl) f]
   ·unfold fV;simp only[tls,bw,cp,g3,g4,tS,Bl (l:=l) (p:=q) (q:=p) (by ac_rfl) (by ac_rfl) f']
theorem Ks:∀(A:List Ti) {u t:Ti} {B:List Ti} {l r e:List Int},Walk ks l r e->Pt ks.length l->fV l r=A++u::t::B->(pos u+2<=pos t \/ pos t+2<=pos u) -> ∃r',Walk ks l r' e/\fV l r'=A++t::u::B:=by
 intro A;induction A with
 |nil=>
  intro u t B l r e w P h f;have pr:=J9 w P;rw[h] at pr;simp only[oh,cp] at pr h;rw[<- pr] at w h;obtain⟨w',x,y,B',e1,e2⟩:=PD w P f;rw[h] at e1;injection e1 with e3 e4;injection e4 with e4 e5;subst e3 e4 e5;exact⟨_,w',e2⟩
 |cons a A ih=>
  intro u t B l r e w P h f;cases w with
  |nil l=>simp[fV,tls] at h
  | @cons l e r p a1 b1 w=>
   unfold fV at h;rw[tls,cp,jn] at h;injection h with h1 h2;rw[bw] at h2;obtain⟨r',w',e'⟩:=ih w (P.swap a1) h2 f;refine⟨(p:Int)::r',.cons a1 b1 w',?_⟩;unfold fV at e' ⊢;rw[tls,cp,bw,e',<- h1,bw];rfl
theorem Dj:x∈srt l ↔ x∈l:=(dR l).mem_iff
theorem eR(X:List Int)(a b:Int)(Y:List Int):aK (X++a::b::Y) X.length=X++b::a::Y:=by
 unfold aK;simp[dg]
theorem Jz(X:List Int)(a:Int)(Y:List Int):(X++a::Y).getD X.length 0=a:=by simp[dg]
theorem Bi(X:List Int)(a b:Int)(Y:List Int):(X++a::b::Y).getD (X.length+1) 0=b:=by simp[dg]
theorem Bz:∀(A:List Ti) {B:List Ti} {l r e:List Int},Walk ks l r e->Pt ks.length l->fV l r=A++B -> ∃m r1 r2,Walk ks l r1 m/\Walk ks m r2 e/\Pt ks.length m/\fV l r1=A/\fV m r2=B:=by
 intro A;induction A with
 |nil=>exact λ{B l r e} w P h=>⟨l,[],r,.nil _,w,P,rfl,h⟩
 |cons a A ih=>
  intro B l r e w P h;cases w with
  |nil l=>simp[fV,tls] at h
  | @cons l e r p a1 b1 w=>
   unfold fV at h;rw[tls,cp,jn] at h;injection h with h1 h2;rw[bw] at h2;obtain⟨m,r1,r2,w1,w2,Pm,e1,e2⟩:=ih w (P.swap a1) h2;refine⟨m,(p:Int)::r1,r2,.cons a1 b1 w1,w2,Pm,?_,e2⟩;unfold fV at e1 ⊢;rw[tls,cp,h1,bw,e1]
theorem z7{r1:List Int}(w:Walk ks l r1 m)(r2:List Int):fV l (r1++r2)=fV l r1++fV m r2:=by
 induction w with
 |nil l=>rfl
 | @cons l e r p a b w ih=>
  unfold fV at ih ⊢;rw[jn,tls,tls,cp,cp,bw,ih,jn]
variable {u:Ti}
theorem G0(P:Pt ks.length l):∀(B A:List Ti) {X:List Ti} {r:List Int},Walk ks l r e->fV l r=A++u::(B++X)->(∀t∈B,pos u+2<=pos t \/ pos t+2<=pos u) -> ∃r',Walk ks l r' e/\fV l r'=A++(B++u::X):=by
 intro B;induction B with
 |nil=>exact λA {X r} w h _=>⟨r,w,h⟩
 |cons t B ih=>
  intro A X r w h f;obtain⟨r1,w1,h1⟩:=Ks A w P (B:=B++X) (by rw[h];rfl) (f t (ci ..));obtain⟨r2,w2,h2⟩:=ih (A++[t]) (X:=X) w1 (by rw[h1];simp) λx hx=>f x (bm _ hx);exact⟨r2,w2,by rw[h2];simp⟩
theorem G3(P:Pt ks.length l):∀(C:List Ti) {A X:List Ti} {r:List Int},Walk ks l r e->fV l r=A++(C++u::X)->(∀t∈C,pos u+2<=pos t \/ pos t+2<=pos u) -> ∃r',Walk ks l r' e/\fV l r'=A++u::(C++X):=by
 intro C;induction C with
 |nil=>exact λ{A X r} w h _=>⟨r,w,h⟩
 |cons t C ih=>
  intro A X r w h f;obtain⟨r1,w1,h1⟩:=ih (A:=A++[t]) (X:=X) w (by rw[h];simp) λx hx=>f x (bm _ hx);obtain⟨r2,w2,h2⟩:=Ks A w1 P (u:=t) (t:=u) (B:=C++X) (by rw[h1];simp) ((f t (ci ..)).symm);exact⟨r2,w2,h2⟩
theorem still(w:Walk ks l r e)(P:Pt ks.length l)(hi:i<ks.length)(hx:l.getD i 0=x)(no:∀t∈fV l r,t.1≠x/\t.2.1≠x):e.getD i 0=x /\ ∀t∈fV l r,pos t≠i/\pos t+1≠i:=by
 induction w with
 |nil l=>exact⟨hx,λt ht=>nomatch ht⟩
 | @cons l e r p a b w ih=>
  have hl:=P.len;unfold fV at ih no ⊢;rw[tls,cp,bw] at no ⊢;have h0:=no _ (ci ..);have n1:i≠p:=λz=>h0.1 (by rw[<- z];exact hx);have n2:i≠p+1:=λz=>h0.2 (by show l.getD (p+1) 0=x;rw[<- z];exact hx);obtain⟨h1,h2⟩:=ih (P.swap a) (by rw[rY (by ac_rfl) (by ac_rfl) n1 n2];exact hx) λt ht=>no t (bm _ ht);refine⟨h1,λt ht=>?_⟩;rcases bq.mp ht with rfl | ht
  ·have:pos (tS (l.getD p 0,l.getD (p+1) 0,l.take p))=p:=by
    show ((srt (l.take p)).length:Int)=p;rw[iK,dj];ac_rfl
   rw[this];ac_rfl
  ·exact h2 t ht
theorem pin{j:Nat}(w:Walk ks l r e)(P:Pt ks.length l)(hi:i<ks.length)(hj:j<ks.length)(hx:l.getD i 0=x)(hx':e.getD j 0=x)(hs:srt (l.take i)=srt (e.take j)):∀t∈fV l r,t.1≠x/\t.2.1≠x:=by
 have Pe:=w.pt P;have le:=Pe.len;have ll:=P.len;intro t ht;obtain⟨u,hu,rfl⟩:=fx.mp ht;obtain⟨k1,_,k3⟩:=w.key P hu;have mem:∀z,z∈l.take i ↔ z∈e.take j:=λz=>by rw[<- Dj,hs,Dj]
 refine⟨λz=>?_,λz=>?_⟩
 ·have z1:u.1=x:=z;rw[z1] at k1 k3;have h1:=(mem _).mpr (k3.mem (by ac_rfl) hx' Pe);have h2:=HD (by ac_rfl) h1;rw[hx] at h2;exact h2.anti P k1
 ·have z1:u.2.1=x:=z;rw[z1] at k1 k3;have h1:=(mem _).mp (k1.mem (by ac_rfl) hx P);have h2:=HD (by ac_rfl) h1;rw[hx'] at h2;exact h2.anti Pe k3
theorem FX{Y:List Ti}(w:Walk ks l r e)(P:Pt ks.length l)(h:fV l r=u::Y):∃(p:Nat) (r':List Int),r=(p:Int)::r'/\p+1<ks.length/\kd ks u.1<kd ks u.2.1/\l.getD p 0=u.1/\l.getD (p+1) 0=u.2.1/\srt (l.take p)=u.2.2/\p=u.2.2.length/\Walk ks (aK l p) r' e/\Pt ks.length (aK l p)/\fV (aK l p) r'=Y:=by
 have hl:=P.len;cases w with
 |nil l=>simp[fV,tls] at h
 | @cons l e r p a b w=>
  unfold fV at h;rw[tls,cp,bw] at h;injection h with h1 h2;subst h1;refine⟨p,r,rfl,a,b,rfl,rfl,rfl,?_,w,P.swap a,h2⟩;show p=(srt (l.take p)).length;rw[iK,dj];ac_rfl
theorem iB(hp:p+1<l.length):(aK l p).take p=l.take p:=by
 unfold aK;rw[cm,vi (by simp;ac_rfl),W2,Nat.min_self]
theorem iA(hp:p<l.length):l.take (p+1)=l.take p++[l.getD p 0]:=by
 rw[List.take_succ_eq_append_getElem hp];simp[dg,hp]
theorem Fy(hp:p+2<l.length):∃X Y,l=X++l.getD p 0::l.getD (p+1) 0::l.getD (p+2) 0::Y/\X.length=p/\X=l.take p:=by
 refine⟨l.take p,l.drop (p+3),?_,by simp;ac_rfl,rfl⟩;have e:=pS (l:=l) (p:=p) (by ac_rfl);have e2:l.drop (p+2)=l.getD (p+2) 0::l.drop (p+3):=by
  rw[fc hp];simp[dg,hp]
 rw[e2] at e;exact e
theorem fZ(X:List Int)(x:Int)(L:List Int):X++x::L=(X++[x])++L:=by simp
theorem braid{X Y:List Int}{c:Int}(P:Pt ks.length (X++a::b::c::Y))(w:Walk ks (X++c::b::a::Y) r e)(k1:kd ks a<kd ks b)(k2:kd ks b<kd ks c):
  (∃r',Walk ks (X++a::b::c::Y) r' e/\fV (X++a::b::c::Y) r'=(b,c,srt (X++[a]))::(a,c,srt X)::(a,b,srt (X++[c]))::fV (X++c::b::a::Y) r) /\
  (∃r',Walk ks (X++a::b::c::Y) r' e/\fV (X++a::b::c::Y) r'=(a,b,srt X)::(a,c,srt (X++[b]))::(b,c,srt X)::fV (X++c::b::a::Y) r):=by
 have hl:=P.len;simp only[br,bp] at hl;have s1:∀(x y:Int) (L:List Int),aK (X++x::y::L) X.length=X++y::x::L:=λx y L=>eR X x y L;have s2:∀(x y z:Int) (L:List Int),aK (X++x::y::z::L) (X.length+1)=X++x::z::y::L:=λx y z L=>by
  rw[fZ X x (y::z::L),fZ X x (z::y::L)];have:=eR (X++[x]) y z L;rw[br,fk] at this;exact this
 have g0:∀(x:Int) (L:List Int),(X++x::L).getD X.length 0=x:=λx L=>Jz X x L;have g1:∀(x y:Int) (L:List Int),(X++x::y::L).getD (X.length+1) 0=y:=λx y L=>Bi X x y L;have g2:∀(x y z:Int) (L:List Int),(X++x::y::z::L).getD (X.length+1+1) 0=z:=λx y z L=>by
  rw[fZ X x];have:=Bi (X++[x]) y z L;rw[br,fk] at this;exact this
 have t0:∀L:List Int,(X++L).take X.length=X:=λL=>by simp
 have t1:∀(x:Int) (L:List Int),(X++x::L).take (X.length+1)=X++[x]:=λx L=>by
  rw[fZ X x L,show X.length+1=(X++[x]).length by simp,List.take_left]
 refine⟨⟨((X.length+1:Nat):Int)::(X.length:Int)::((X.length+1:Nat):Int)::r,?_,?_⟩,⟨(X.length:Int)::((X.length+1:Nat):Int)::(X.length:Int)::r,?_,?_⟩⟩
 ·refine .cons (by ac_rfl) (by rw[g1,g2];exact k2) ?_;rw[s2];refine .cons (by ac_rfl) (by rw[g0,g1];ac_rfl) ?_;rw[s1];refine .cons (by ac_rfl) (by rw[g1,g2];exact k1) ?_;rw[s2];exact w
 ·simp only[fV,tls,bw,cp,tS,g0,g1,g2,s1,s2,t0,t1]
 ·refine .cons (by ac_rfl) (by rw[g0,g1];exact k1) ?_;rw[s1];refine .cons (by ac_rfl) (by rw[g1,g2];ac_rfl) ?_;rw[s2];refine .cons (by ac_rfl) (by rw[g0,g1];exact k2) ?_;rw[s1];exact w
 ·simp only[fV,tls,bw,cp,tS,g0,g1,g2,s1,s2,t0,t1]
theorem AC{s:Nat}{q:Int}(h1:q≠s/\q+1≠s)(h2:q≠((s+1:Nat):Int)/\q+1≠((s+1:Nat):Int)):(s:Int)+2<=q \/ q+2<=s:=(by ac_rfl)
variable {A B C D:List Ti}
theorem K3{c:Int}(w:Walk ks l row e)(P:Pt ks.length l)(h:fV l row=A++(a,b,S)::(B++(a,c,srt (S++[b]))::(C++(b,c,S)::D))):
  ∃Yu,Walk ks l Yu e/\fV l Yu=(A++B)++(b,c,srt (S++[a]))::(a,c,S)::(a,b,srt (S++[c]))::(C++D):=by
 obtain⟨m0,r0,q0,w0,v0,P0,e0,f0⟩:=Bz A w P h;obtain⟨s,q1,rfl,hs,k1,ga,gb,gS,sl,v1,P1,f1⟩:=FX v0 P0 f0;obtain⟨m2,r1,q2,w1,v2,P2,e1,f2⟩:=Bz B v1 P1 f1;obtain⟨s',q3,rfl,hs',k2,ga2,gc2,gS2,sl2,v3,P3,f3⟩:=FX v2 P2 f2;obtain⟨m4,r3,q4,w3,v4,P4,e3,f4⟩:=Bz C v3 P3 f3;obtain⟨s'',q5,rfl,hs'',k3,gb4,gc4,gS4,sl4,v5,P5,f5⟩:=FX v4 P4 f4;simp only at k1 k2 k3 ga gb gS sl ga2 gc2 gS2 sl2 gb4 gc4 gS4 sl4;rw[iK,br,fk,<- sl] at sl2;rw[<- sl] at sl4;subst sl2 sl4;have l0:=P0.len;have l1:=P1.len;have l2:=P2.len;have l3:=P3.len;have l4:=P4.len;have b1:(aK m0 s'').getD s'' 0=b:=by rw[bL (by ac_rfl) (by ac_rfl),XF (by ac_rfl),Y4 rfl];exact gb
 have a1:(aK m0 s'').getD (s''+1) 0=a:=by rw[bL (by ac_rfl) (by ac_rfl),Y4 rfl];exact ga
 have wb:=pin (w1.append (.cons hs' (by rw[ga2,gc2];exact k2) w3)) P1 (i:=s'') (j:=s'') (by ac_rfl) (by ac_rfl) b1 gb4 (by rw[iB (by ac_rfl),gS,gS4]);rw[z7 w1] at wb;have nb:=λt ht=>wb t (fh _ ht);have sb:=still w1 P1 (i:=s'') (by ac_rfl) b1 nb;have sa:=still w1 P1 (i:=s''+1) (by ac_rfl) a1 (pin w1 P1 (by ac_rfl) (by ac_rfl) a1 ga2 (by
  rw[iA (by ac_rfl),iB (by ac_rfl),b1,gS2,<- dQ,gS]))
 have c3:(aK m2 (s''+1)).getD (s''+1) 0=c:=by rw[bL (by ac_rfl) (by ac_rfl),XF (by ac_rfl),Y4 rfl];exact gc2
 have b3:(aK m2 (s''+1)).getD s'' 0=b:=by rw[bL (by ac_rfl) (by ac_rfl),XF (by ac_rfl),XF (by ac_rfl)];exact sb.1
 have sc:=still w3 P3 (i:=s''+1) (by ac_rfl) c3 (pin w3 P3 (by ac_rfl) (by ac_rfl) c3 gc4 (by
  rw[iB (by ac_rfl),gS2,iA (by ac_rfl),gb4,<- dQ (m4.take s''),gS4]))
 have sb3:=still w3 P3 (i:=s'') (by ac_rfl) b3 λt ht=>wb t (by
  refine dr _ ?_;unfold fV at ht ⊢;rw[tls,cp,bw];exact bm _ ht)
 have pu:pos ((a,b,S):Ti)=(s'':Int):=by show ((S.length:Nat):Int)=_;rw[<- sl]
 have pw:pos ((b,c,S):Ti)=(s'':Int):=by show ((S.length:Nat):Int)=_;rw[<- sl]
 obtain⟨r6,w6,h6⟩:=G0 P B A w h λt ht=>by
  rw[pu];rw[e1] at sb sa;exact AC (sb.2 t ht) (sa.2 t ht)
 obtain⟨r7,w7,h7⟩:=G3 P (u:=(b,c,S)) C (A:=A++(B++[(a,b,S),(a,c,srt (S++[b]))])) (X:=D) w6 (by rw[h6];simp) λt ht=>by
  rw[pw];rw[e3] at sb3 sc;exact AC (sb3.2 t ht) (sc.2 t ht)
 obtain⟨m,r8,q8,w8,v8,P8,e8,f8⟩:=Bz (A++B) (B:=(a,b,S)::(a,c,srt (S++[b]))::(b,c,S)::(C++D)) w7 P (by rw[h7];simp);obtain⟨t1,q9,rfl,ht1,_,ja,jb,jS,tl1,v9,P9,f9⟩:=FX v8 P8 f8;obtain⟨t2,q10,rfl,ht2,_,ja2,jc2,jS2,tl2,v10,P10,f10⟩:=FX v9 P9 f9;obtain⟨t3,q11,rfl,ht3,_,jb3,jc3,jS3,tl3,v11,P11,f11⟩:=FX v10 P10 f10;simp only at ja jb jS tl1 ja2 jc2 jS2 tl2 jb3 jc3 jS3 tl3;rw[iK,br,fk,<- tl1] at tl2;rw[<- tl1] at tl3;subst tl2 tl3;have l8:=P8.len;have jc:m.getD (t3+2) 0=c:=by
  rw[bL (by ac_rfl) (by ac_rfl),XF (by ac_rfl),XF (by ac_rfl)] at jc2;exact jc2
 obtain⟨X,Y,em,xl,xe⟩:=Fy (l:=m) (p:=t3) (by ac_rfl);rw[ja,jb,jc] at em;rw[<- xe] at jS;subst xl;have fin:aK (aK (aK m X.length) (X.length+1)) X.length=X++c::b::a::Y:=by
  rw[em,eR,fZ X b,show X.length+1=(X++[b]).length by simp,eR,<- fZ,eR]
 rw[fin] at v11 f11;rw[em] at P8 w8;obtain⟨⟨r',w',h'⟩,_⟩:=braid P8 v11 k1 k3;refine⟨r8++r',w8.append w',?_⟩;rw[z7 w8,e8,h',f11,<- dQ X a,<- dQ X c,jS]
theorem K4{c:Int}(w:Walk ks l row e)(P:Pt ks.length l)(h:fV l row=A++(b,c,srt (S++[a]))::(B++(a,c,S)::(C++(a,b,srt (S++[c]))::D))):
  ∃Yu,Walk ks l Yu e/\fV l Yu=(A++B)++(a,b,S)::(a,c,srt (S++[b]))::(b,c,S)::(C++D):=by
 obtain⟨m0,r0,q0,w0,v0,P0,e0,f0⟩:=Bz A w P h;obtain⟨s,q1,rfl,hs,k1,gb,gc,gS,sl,v1,P1,f1⟩:=FX v0 P0 f0;obtain⟨m2,r1,q2,w1,v2,P2,e1,f2⟩:=Bz B v1 P1 f1;obtain⟨s',q3,rfl,hs',k2,ga2,gc2,gS2,sl2,v3,P3,f3⟩:=FX v2 P2 f2;obtain⟨m4,r3,q4,w3,v4,P4,e3,f4⟩:=Bz C v3 P3 f3;obtain⟨s'',q5,rfl,hs'',k3,ga4,gb4,gS4,sl4,v5,P5,f5⟩:=FX v4 P4 f4;simp only at k1 k2 k3 gb gc gS sl ga2 gc2 gS2 sl2 ga4 gb4 gS4 sl4;rw[iK,br,fk,<- sl2] at sl sl4;subst sl sl4;have l0:=P0.len;have l1:=P1.len;have l2:=P2.len;have l3:=P3.len;have l4:=P4.len;have c1:(aK m0 (s'+1)).getD (s'+1) 0=c:=by rw[bL (by ac_rfl) (by ac_rfl),XF (by ac_rfl),Y4 rfl];exact gc
 have b1:(aK m0 (s'+1)).getD (s'+2) 0=b:=by rw[bL (by ac_rfl) (by ac_rfl),Y4 rfl];exact gb
 have wb:=pin (w1.append (.cons hs' (by rw[ga2,gc2];exact k2) w3)) P1 (i:=s'+2) (j:=s'+2) (by ac_rfl) (by ac_rfl) b1 gb4 (by
  rw[iA (by ac_rfl),iB (by ac_rfl),c1,iA (l:=m4) (by ac_rfl),ga4,<- dQ (m0.take (s'+1)),<- dQ (m4.take (s'+1)),gS,gS4,dQ,dQ];refine nJ ?_;rw[cm,cm];exact(List.Perm.swap _ _ _).append_left _)
 rw[z7 w1] at wb;have nb:=λt ht=>wb t (fh _ ht);have sb:=still w1 P1 (i:=s'+2) (by ac_rfl) b1 nb;have sc:=still w1 P1 (i:=s'+1) (by ac_rfl) c1 (pin w1 P1 (by ac_rfl) (by ac_rfl) c1 gc2 (by
  rw[iB (by ac_rfl),gS,iA (by ac_rfl),ga2,<- dQ (m2.take s'),gS2]))
 have a3:(aK m2 s').getD (s'+1) 0=a:=by rw[bL (by ac_rfl) (by ac_rfl),Y4 rfl];exact ga2
 have c3:(aK m2 s').getD s' 0=c:=by rw[bL (by ac_rfl) (by ac_rfl),XF (by ac_rfl),Y4 rfl];exact gc2
 have b3:(aK m2 s').getD (s'+2) 0=b:=by rw[bL (by ac_rfl) (by ac_rfl),XF (by ac_rfl),XF (by ac_rfl)];exact sb.1
 have sa:=still w3 P3 (i:=s'+1) (by ac_rfl) a3 (pin w3 P3 (by ac_rfl) (by ac_rfl) a3 ga4 (by
  rw[iA (by ac_rfl),iB (by ac_rfl),c3,gS4,<- dQ (m2.take s'),gS2]))
 have sb3:=still w3 P3 (i:=s'+2) (by ac_rfl) b3 λt ht=>wb t (by
  refine dr _ ?_;unfold fV at ht ⊢;rw[tls,cp,bw];exact bm _ ht)
 have pu:pos ((b,c,srt (S++[a])):Ti)=((s'+1:Nat):Int):=by show (((srt (S++[a])).length:Nat):Int)=_;rw[iK,br,fk,<- sl2]
 have pw:pos ((a,b,srt (S++[c])):Ti)=((s'+1:Nat):Int):=by show (((srt (S++[c])).length:Nat):Int)=_;rw[iK,br,fk,<- sl2]
 obtain⟨r6,w6,h6⟩:=G0 P B A w h λt ht=>by
  rw[pu];rw[e1] at sb sc;exact AC (sc.2 t ht) (sb.2 t ht)
 obtain⟨r7,w7,h7⟩:=G3 P (u:=(a,b,srt (S++[c]))) C (A:=A++(B++[(b,c,srt (S++[a])),(a,c,S)])) (X:=D) w6 (by rw[h6];simp) λt ht=>by
  rw[pw];rw[e3] at sb3 sa;exact AC (sa.2 t ht) (sb3.2 t ht)
 obtain⟨m,r8,q8,w8,v8,P8,e8,f8⟩:=Bz (A++B) (B:=(b,c,srt (S++[a]))::(a,c,S)::(a,b,srt (S++[c]))::(C++D)) w7 P (by rw[h7];simp);obtain⟨t1,q9,rfl,ht1,_,jb,jc,jS,tl1,v9,P9,f9⟩:=FX v8 P8 f8;obtain⟨t2,q10,rfl,ht2,_,ja2,jc2,jS2,tl2,v10,P10,f10⟩:=FX v9 P9 f9;obtain⟨t3,q11,rfl,ht3,_,ja3,jb3,jS3,tl3,v11,P11,f11⟩:=FX v10 P10 f10;simp only at jb jc jS tl1 ja2 jc2 jS2 tl2 ja3 jb3 jS3 tl3;rw[iK,br,fk,<- tl2] at tl1 tl3;subst tl1 tl3;have l8:=P8.len;have ja:m.getD t2 0=a:=by
  rw[bL (by ac_rfl) (by ac_rfl),XF (by ac_rfl),XF (by ac_rfl)] at ja2;exact ja2
 have tk:(aK m (t2+1)).take t2=m.take t2:=by
  have:=iB (l:=m) (p:=t2+1) (by ac_rfl);have:=congrArg (List.take t2) this;rw[W2,W2,lr (by ac_rfl)] at this;exact this
 rw[tk] at jS2;obtain⟨X,Y,em,xl,xe⟩:=Fy (l:=m) (p:=t2) (by ac_rfl);rw[ja,jb,jc] at em;rw[<- xe] at jS2;subst xl;have fin:aK (aK (aK m (X.length+1)) X.length) (X.length+1)=X++c::b::a::Y:=by
  rw[em,fZ X a,show X.length+1=(X++[a]).length by simp,eR,<- fZ,eR,fZ X c,show (X++[a]).length=(X++[c]).length by simp,eR,<- fZ]
 rw[fin] at v11 f11;rw[em] at P8 w8;obtain⟨_,⟨r',w',h'⟩⟩:=braid P8 v11 k3 k1;refine⟨r8++r',w8.append w',?_⟩;rw[z7 w8,e8,h',f11,<- dQ X b,jS2]
theorem Emp.hex(w:Walk ks (ids ks.length) r e)(d:cZ ks e)(mo:k8 ks){c:Int}(em:Emp ks r a b c)(hab:a<b)(hbc:b<c):
  ∃s1 s2 s3:List Int,(tls (ids ks.length) r)[tm ks r a b]?=aa (a,b,s1)/\(tls (ids ks.length) r)[tm ks r a c]?=aa (a,c,s2)/\(tls (ids ks.length) r)[tm ks r b c]?=aa (b,c,s3)/\yW (srt s1) (srt s2) (srt s3) a b c:=by
 have T:=w.tms d mo;have ia:=em.th.ix;have ib:=em.th.iy;have ic:=em.th.iw;have h0:=ia.lo;have hc:=ic.hi;have k1:=mo a b h0 (by ac_rfl) (by ac_rfl);have k2:=mo b c (by ac_rfl) (by ac_rfl) hc;have e1:=em.th.xy;have e2:=em.th.xw;have e3:=em.th.yw;have l1:=w.tm_lt d h0 hab (by ac_rfl) (by ac_rfl);have l2:=w.tm_lt d h0 (show a<c by ac_rfl) hc (by ac_rfl);have l3:=w.tm_lt d (show 0<=b by ac_rfl) hbc hc (by ac_rfl);obtain⟨s1,g1,d1,u1⟩:=w.underP h0 hab (by ac_rfl) l1;obtain⟨s2,g2,d2,u2⟩:=w.underP h0 (show a<c by ac_rfl) hc l2;obtain⟨s3,g3,d3,u3⟩:=w.underP (show 0<=b by ac_rfl) hbc hc l3;refine⟨s1,s2,s3,g1,g2,g3,?_⟩;have tr:=w.tri d mo h0 hab hbc hc e2;have y1:=i8 (T:=tm ks r) hab;have y2:=i8 (T:=tm ks r) (VF hab hbc);have y3:=i8 (T:=tm ks r) hbc;obtain⟨nab,nac,nbc⟩:=em.th.ne;have p12:∀z,In ks.length z->z≠a->z≠b->z≠c->(Pb (tm ks r) a b z ↔ Pb (tm ks r) a c z):=λz iz za zb zc=>by
  have no:=(em.no z iz za zb zc).1;rw[Ga (Ne.symm za) (T.dif ia ib nab (Ne.symm za) (Ne.symm zb) e1) (T.dif ia ic nac (Ne.symm za) (Ne.symm zc) e2)] at no;exact uo.mp no
 have p13:∀z,In ks.length z->z≠a->z≠b->z≠c->(Pb (tm ks r) a b z ↔ Pb (tm ks r) b c z):=λz iz za zb zc=>by
  have no:=(em.no z iz za zb zc).2.1;rw[Ga (Ne.symm zb) (T.dif ib ia nab.symm (Ne.symm zb) (Ne.symm za) e1.symm) (T.dif ib ic nbc (Ne.symm zb) (Ne.symm zc) e3)] at no;exact(T.pb ia ib iz nab (Ne.symm za) (Ne.symm zb) e1).trans (uo.mp no)
 have z12:∀z,z≠a->z≠b->z≠c->(z∈s1 ↔ z∈s2):=λz za zb zc=>by
  rw[u1,u2];exact⟨λq=>⟨q.1,za,zc,(p12 z q.1 za zb zc).mp q.2.2.2⟩,λq=>⟨q.1,za,zb,(p12 z q.1 za zb zc).mpr q.2.2.2⟩⟩
 have z13:∀z,z≠a->z≠b->z≠c->(z∈s1 ↔ z∈s3):=λz za zb zc=>by
  rw[u1,u3];exact⟨λq=>⟨q.1,zb,zc,(p13 z q.1 za zb zc).mp q.2.2.2⟩,λq=>⟨q.1,za,zb,(p13 z q.1 za zb zc).mpr q.2.2.2⟩⟩
 have a1:a ∉ s1:=λq=>((u1 a).mp q).2.1 rfl;have b1:b ∉ s1:=λq=>((u1 b).mp q).2.2.1 rfl;have a2:a ∉ s2:=λq=>((u2 a).mp q).2.1 rfl;have c2:c ∉ s2:=λq=>((u2 c).mp q).2.2.1 rfl;have b3:b ∉ s3:=λq=>((u3 b).mp q).2.1 rfl;have c3:c ∉ s3:=λq=>((u3 c).mp q).2.2.1 rfl;have one:∀{l:List Int} {x:Int},l.Nodup->x ∉ l->(l++[x]).Nodup:=λ{l x} h hx=>by
  rw[VE];exact⟨h,by simp,λp hp q hq=>by rw[dq.mp hq];exact λz=>hx (z ▸ hp)⟩
 rcases tr with⟨t1,t2⟩ | ⟨t1,t2⟩
 ·have c1:c ∉ s1:=λq=>by
   rcases((u1 c).mp q).2.2.2 with z | z
   ·exact VG z.1 (VF hab hbc)
   ·rw[y1,y2] at z;exact XR z.2 t1
  have a3:a ∉ s3:=λq=>by
   rcases((u3 a).mp q).2.2.2 with z | z
   ·rw[gW nab.symm,y1,y3] at z;exact XR z.2 (WO t1 t2)
   ·exact VG z.1 hab
  have m2:b∈s2:=(u2 b).mpr ⟨ib,nab.symm,nbc,.inr ⟨hab,by rw[y1,y2];exact t1⟩⟩;refine .inl ⟨nJ ((ir d3 d1).mpr λz=>?_),?_⟩
  ·by_cases za:z=a
   ·subst za;exact⟨λq=>absurd q a3,λq=>absurd q a1⟩
   by_cases zb:z=b
   ·subst zb;exact⟨λq=>absurd q b3,λq=>absurd q b1⟩
   by_cases zc:z=c
   ·subst zc;exact⟨λq=>absurd q c3,λq=>absurd q c1⟩
   exact(z13 z za zb zc).symm
  ·rw[dQ];refine nJ ((ir d2 (one d1 b1)).mpr λz=>?_);rw[dv,dq];by_cases zb:z=b
   ·subst zb;exact⟨λ_=>.inr rfl,λ_=>m2⟩
   by_cases za:z=a
   ·subst za;exact⟨λq=>absurd q a2,λq=>q.elim (λq=>absurd q a1) λq=>absurd q zb⟩
   by_cases zc:z=c
   ·subst zc;exact⟨λq=>absurd q c2,λq=>q.elim (λq=>absurd q c1) λq=>absurd q zb⟩
   exact⟨λq=>.inl ((z12 z za zb zc).mpr q),λq=>q.elim (λq=>(z12 z za zb zc).mp q) λq=>absurd q zb⟩
 ·have b2:b ∉ s2:=λq=>by
   rcases((u2 b).mp q).2.2.2 with z | z
   ·exact VG z.1 hab
   ·rw[y1,y2] at z;exact XR z.2 t2
  have m1:c∈s1:=(u1 c).mpr ⟨ic,nac.symm,nbc.symm,.inr ⟨VF hab hbc,by rw[y1,y2];exact t2⟩⟩;have m3:a∈s3:=(u3 a).mpr ⟨ia,nab,nac,.inl ⟨hab,by rw[gW nab.symm,y1,y3];exact WO t1 t2⟩⟩;refine .inr ⟨?_,?_⟩
  ·rw[dQ];refine nJ ((ir d1 (one d2 c2)).mpr λz=>?_);rw[dv,dq];by_cases zc:z=c
   ·subst zc;exact⟨λ_=>.inr rfl,λ_=>m1⟩
   by_cases za:z=a
   ·subst za;exact⟨λq=>absurd q a1,λq=>q.elim (λq=>absurd q a2) λq=>absurd q zc⟩
   by_cases zb:z=b
   ·subst zb;exact⟨λq=>absurd q b1,λq=>q.elim (λq=>absurd q b2) λq=>absurd q zc⟩
   exact⟨λq=>.inl ((z12 z za zb zc).mp q),λq=>q.elim (λq=>(z12 z za zb zc).mpr q) λq=>absurd q zc⟩
  ·rw[dQ];refine nJ ((ir d3 (one d2 a2)).mpr λz=>?_);rw[dv,dq];by_cases za:z=a
   ·subst za;exact⟨λ_=>.inr rfl,λ_=>m3⟩
   by_cases zb:z=b
   ·subst zb;exact⟨λq=>absurd q b3,λq=>q.elim (λq=>absurd q b2) λq=>absurd q za⟩
   by_cases zc:z=c
   ·subst zc;exact⟨λq=>absurd q c3,λq=>q.elim (λq=>absurd q c2) λq=>absurd q za⟩
   exact⟨λq=>.inl ((z12 z za zb zc).mp ((z13 z za zb zc).mpr q)),λq=>q.elim (λq=>(z13 z za zb zc).mp ((z12 z za zb zc).mpr q)) λq=>absurd q za⟩
structure UpT(ks r:List Int)(a b c:Int):Prop where
 a0:0<=a
 ab:a<b
 bc:b<c
 cn:c<ks.length
 t1:tm ks r a b<tm ks r a c
 t2:tm ks r a c<tm ks r b c
 t3:tm ks r b c<r.length
theorem upmin(w:Walk ks (ids ks.length) r e)(d:cZ ks e)(mo:k8 ks):∀(m:Nat) (a b c:Int),UpT ks r a b c->tm ks r b c<=tm ks r a b+m -> ∃a b c,UpT ks r a b c/\Emp ks r a b c:=by
 have kn:∀{x y:Int},tm ks r x y<r.length->kd ks x<kd ks y:=λ{x y} h=>by
  apply wv;intro z;have:=w.tm_alike (x:=x) (y:=y) z;ac_rfl
 have tri:=λ(i j k:Int) (h0:0<=i) (h1:i<j) (h2:j<k) (h3:k<ks.length) (hk:kd ks i≠kd ks k)=>w.tri d mo h0 h1 h2 h3 hk;intro m;induction m with
 |zero=>
  intro a b c u h;have:=u.t1;have:=u.t2;ac_rfl
 |succ m ih=>
  intro a b c u h;obtain⟨a0,ab,bc,cn,t1,t2,t3⟩:=u;have k1:=kn (show tm ks r a b<r.length by ac_rfl);have k2:=kn t3;by_cases q:∃z,In ks.length z/\z≠a/\z≠b/\z≠c/\(btw (tt (tm ks r) a z) (tm ks r a b) (tm ks r a c) \/ btw (tt (tm ks r) b z) (tm ks r a b) (tm ks r b c) \/ btw (tt (tm ks r) c z) (tm ks r a c) (tm ks r b c))
  ·obtain⟨z,iz,za,zb,zc,h3⟩:=q;have z0:=iz.lo;have zn:=iz.hi;unfold btw at h3;have go:∀x y v:Int,UpT ks r x y v->tm ks r y v<tm ks r a b+(m+1)+(tm ks r x y-tm ks r a b)/\tm ks r a b<=tm ks r x y -> ∃a b c,UpT ks r a b c/\Emp ks r a b c:=λx y v U hh=>ih x y v U (by ac_rfl);rcases xh z a with p | p | p
   ·have y1:tt (tm ks r) a z=tm ks r z a:=by unfold tt;rw[XF (by ac_rfl)]
    have y2:tt (tm ks r) b z=tm ks r z b:=by unfold tt;rw[XF (by ac_rfl)]
    have y3:tt (tm ks r) c z=tm ks r z c:=by unfold tt;rw[XF (by ac_rfl)]
    rw[y1,y2,y3] at h3;have m0:=mo z a z0 (by ac_rfl) (by ac_rfl);have r1:=tri z a b z0 p ab (by ac_rfl) (by ac_rfl);have r2:=tri z a c z0 p (by ac_rfl) cn (by ac_rfl);have r3:=tri z b c z0 (by ac_rfl) bc cn (by ac_rfl);by_cases f:tm ks r z b<tm ks r z c/\tm ks r z c<tm ks r b c/\tm ks r a b<tm ks r z b
    ·exact go z b c ⟨z0,(by ac_rfl),bc,cn,(by ac_rfl),(by ac_rfl),(by ac_rfl)⟩ (by ac_rfl)
    ·exact go z a c ⟨z0,(by ac_rfl),(by ac_rfl),cn,(by ac_rfl),(by ac_rfl),(by ac_rfl)⟩ (by ac_rfl)
   ·exact absurd p za
   ·rcases xh z b with p' | p' | p'
    ·have y1:tt (tm ks r) a z=tm ks r a z:=by unfold tt;rw[Y4 (by ac_rfl)]
     have y2:tt (tm ks r) b z=tm ks r z b:=by unfold tt;rw[XF (by ac_rfl)]
     have y3:tt (tm ks r) c z=tm ks r z c:=by unfold tt;rw[XF (by ac_rfl)]
     rw[y1,y2,y3] at h3;have m0:=mo a z a0 (by ac_rfl) (by ac_rfl);have m1:=mo z b z0 (by ac_rfl) (by ac_rfl);have r1:=tri a z b a0 p p' (by ac_rfl) (by ac_rfl);have r2:=tri a z c a0 p (by ac_rfl) cn (by ac_rfl);have r3:=tri z b c z0 p' bc cn (by ac_rfl);by_cases f:tm ks r z b<tm ks r z c/\tm ks r z c<tm ks r b c/\tm ks r a b<tm ks r z b
     ·exact go z b c ⟨z0,(by ac_rfl),bc,cn,(by ac_rfl),(by ac_rfl),(by ac_rfl)⟩ (by ac_rfl)
     ·exact go a z c ⟨a0,(by ac_rfl),(by ac_rfl),cn,(by ac_rfl),(by ac_rfl),(by ac_rfl)⟩ (by ac_rfl)
    ·exact absurd p' zb
    ·rcases xh z c with p'' | p'' | p''
     ·have y1:tt (tm ks r) a z=tm ks r a z:=by unfold tt;rw[Y4 (by ac_rfl)]
      have y2:tt (tm ks r) b z=tm ks r b z:=by unfold tt;rw[Y4 (by ac_rfl)]
      have y3:tt (tm ks r) c z=tm ks r z c:=by unfold tt;rw[XF (by ac_rfl)]
      rw[y1,y2,y3] at h3;have m0:=mo b z (by ac_rfl) (by ac_rfl) (by ac_rfl);have m1:=mo z c z0 (by ac_rfl) (by ac_rfl);have r1:=tri a b z a0 ab p' (by ac_rfl) (by ac_rfl);have r2:=tri a z c a0 (by ac_rfl) p'' cn (by ac_rfl);have r3:=tri b z c (by ac_rfl) p' p'' cn (by ac_rfl);by_cases f:tm ks r a b<tm ks r a z/\tm ks r a z<tm ks r b z/\tm ks r b z<tm ks r b c
      ·exact go a b z ⟨a0,(by ac_rfl),(by ac_rfl),(by ac_rfl),(by ac_rfl),(by ac_rfl),(by ac_rfl)⟩ (by ac_rfl)
      ·exact go a z c ⟨a0,(by ac_rfl),(by ac_rfl),cn,(by ac_rfl),(by ac_rfl),(by ac_rfl)⟩ (by ac_rfl)
     ·exact absurd p'' zc
     ·have y1:tt (tm ks r) a z=tm ks r a z:=by unfold tt;rw[Y4 (by ac_rfl)]
      have y2:tt (tm ks r) b z=tm ks r b z:=by unfold tt;rw[Y4 (by ac_rfl)]
      have y3:tt (tm ks r) c z=tm ks r c z:=by unfold tt;rw[Y4 (by ac_rfl)]
      rw[y1,y2,y3] at h3;have m0:=mo c z (by ac_rfl) (by ac_rfl) (by ac_rfl);have r1:=tri a b z a0 ab p' (by ac_rfl) (by ac_rfl);have r2:=tri a c z a0 (by ac_rfl) p'' (by ac_rfl) (by ac_rfl);have r3:=tri b c z (by ac_rfl) bc p'' (by ac_rfl) (by ac_rfl);exact go a b z ⟨a0,(by ac_rfl),(by ac_rfl),(by ac_rfl),(by ac_rfl),(by ac_rfl),(by ac_rfl)⟩ (by ac_rfl)
  ·refine⟨a,b,c,⟨a0,ab,bc,cn,t1,t2,t3⟩,⟨⟨⟨a0,(by ac_rfl)⟩,⟨(by ac_rfl),(by ac_rfl)⟩,⟨(by ac_rfl),cn⟩,(by ac_rfl),(by ac_rfl),(by ac_rfl)⟩,λz iz za zb zc=>⟨λf=>?_,λf=>?_,λf=>?_⟩⟩⟩
   ·rw[i8 ab,i8 (show a<c by ac_rfl)] at f;exact q ⟨z,iz,za,zb,zc,.inl f⟩
   ·rw[gW (show b≠a by ac_rfl),i8 ab,i8 bc] at f;exact q ⟨z,iz,za,zb,zc,.inr (.inl f)⟩
   ·rw[gW (show c≠a by ac_rfl),i8 (show a<c by ac_rfl),gW (show c≠b by ac_rfl),i8 bc] at f;exact q ⟨z,iz,za,zb,zc,.inr (.inr f)⟩
end Fl
variable {rows:List Sf.Rw}
namespace Lw
open L2 Z
open Sf (Rw crs qT Pre Good aH aY)
noncomputable abbrev rD(r:Rw):Dv:=.tup [.int r.x,.int r.y,.int r.m]
noncomputable abbrev CB(rows:List Rw):List Dv:=rows.map rD
noncomputable abbrev b8(r:List Int):List Dv:=r.map Dv.int
noncomputable abbrev CD(rows:List Rw):List Dv:=rows.map λr=>.tup [.int r.x,.int r.y]
noncomputable abbrev bH(C:af)(rows:List Rw):Dv:=.obj C [("kinds",.tup (b8 (aH rows))),("vectors",.tup (CD rows))]
noncomputable abbrev Uc:Int:=999999999999
noncomputable def Mu(r:Rw):Prop:=r.up /\ -999999999999<=r.x/\r.x<=999999999999/\r.y<=999999999999/\1<=r.m
noncomputable def zC:Fn:=λds Q=>∃n:Int,ds=[.int n]/\Q (.v (.bl ai))
noncomputable def rE:Fn:=λds Q=>∃r:Rw,ds=[rD r]/\Q (.v (.bl ai))
noncomputable def sM:Fn:=λds Q=>∃r:Rw,ds=[rD r]/\Mu r/\Q (.v (.bl ai))
noncomputable def lW:Fn:=λds Q=>∃r a:Rw,ds=[rD r,rD a]/\Mu r/\Mu a/\0<crs a r/\Q (.v (.bl ai))
noncomputable def lY:Fn:=λds Q=>∃r:Rw,ds=[rD r]/\Mu r/\Q (.v .non)
noncomputable def sN:Fn:=λds Q=>∃rows:List Rw,ds=[.lst (CB rows)]/\Good rows/\Q (.v .non)
noncomputable def rF(C:af):Fn:=λds Q=>∃rows:List Rw,ds=[.lst (CB rows)]/\Good rows/\Q (.nw (bH C rows))
theorem Jl:∀ds Q,zC ds Q->ds.length=1:=by rintro ds Q ⟨_,rfl,_⟩;rfl
theorem Ex:∀ds Q,rE ds Q->ds.length=1:=by rintro ds Q ⟨_,rfl,_⟩;rfl
theorem Dl:∀ds Q,sM ds Q->ds.length=1:=by rintro ds Q ⟨_,rfl,_⟩;rfl
theorem HN:∀ds Q,lW ds Q->ds.length=2:=by rintro ds Q ⟨_,_,rfl,_⟩;rfl
theorem HU:∀ds Q,lY ds Q->ds.length=1:=by rintro ds Q ⟨_,rfl,_⟩;rfl
theorem Jn:∀ds Q,sN ds Q->ds.length=1:=by rintro ds Q ⟨_,rfl,_⟩;rfl
theorem Ey:∀ds Q,rF C ds Q->ds.length+1=2:=by rintro ds Q ⟨_,rfl,_⟩;rfl
theorem M0:MonoF zC:=⟨λds Q Q' w z=>by obtain⟨r,e,h⟩:=z;exact⟨r,e,w _ h⟩⟩
theorem Gx:MonoF rE:=⟨λds Q Q' w z=>by obtain⟨r,e,h⟩:=z;exact⟨r,e,w _ h⟩⟩
theorem HA:MonoF sM:=⟨λds Q Q' w z=>by obtain⟨r,e,a,h⟩:=z;exact⟨r,e,a,w _ h⟩⟩
theorem JV:MonoF lW:=⟨λds Q Q' w z=>by obtain⟨r,e,a,b,c,d,h⟩:=z;exact⟨r,e,a,b,c,d,w _ h⟩⟩
theorem JY:MonoF lY:=⟨λds Q Q' w z=>by obtain⟨r,e,a,h⟩:=z;exact⟨r,e,a,w _ h⟩⟩
theorem M2:MonoF sN:=⟨λds Q Q' w z=>by obtain⟨r,e,a,h⟩:=z;exact⟨r,e,a,w _ h⟩⟩
theorem Gy:MonoF (rF C):=⟨λds Q Q' w z=>by obtain⟨r,e,a,h⟩:=z;exact⟨r,e,a,w _ h⟩⟩
theorem Cg:∀ds Q,zC ds Q->pR ({ nx:=λ_=>Q (.v .non),rt:=Q }) (aN ["thing"] ds):=by
 rintro ds Q ⟨n,rfl,q⟩;push_cast [Z.nM];exact⟨rfl,rfl,q⟩
theorem pU:∀ds Q,rE ds Q->gE zC ({ nx:=λ_=>Q (.v .non),rt:=Q }) (aN ["direction"] ds):=by
 rintro ds Q ⟨r,rfl,q⟩;push_cast [Z.nM];refine⟨rfl,?_⟩;rw[show Hf "tuple" (rD r)=ai from rfl];push_cast [Z.nM];rw[show (!decide (((0+1+1+1:Nat):Int)=3))=ap from rfl];push_cast [Z.nM];refine⟨_,rfl,?_⟩;push_cast [Z.nM];refine⟨_,rfl,?_⟩;push_cast [Z.nM];refine⟨_,rfl,?_⟩;push_cast [Z.nM];exact⟨[ai,ai,ai],rfl,q⟩
theorem rO:∀ds Q,sM ds Q->gX ({ nx:=λ_=>Q (.v .non),rt:=Q }) (aN ["direction"] ds):=by
 rintro ds Q ⟨r,rfl,⟨hu,h1,h2,h3,_⟩,q⟩;have hy:0<=r.y:=by rcases hu with h | h<;>ac_rfl
 push_cast [Z.nM];rw[Y4 (show (if r.x<0 then -r.x else r.x)<=999999999999 by split<;>ac_rfl),decide_eq_true (show (if r.y<0 then -r.y else r.y)<=999999999999 by split<;>ac_rfl)];exact q
theorem BF:∀ds Q,sM ds Q->nB ({ nx:=λ_=>Q (.v .non),rt:=Q }) (aN ["direction"] ds):=by
 rintro ds Q ⟨r,rfl,⟨hu,h1,h2,h3,_⟩,q⟩;push_cast [Z.nM];rcases hu with h | ⟨h,h'⟩
 ·rw[Y4 h];exact q
 ·rw[XF (by ac_rfl),Y4 h,decide_eq_true h'];exact q
theorem BG:∀ds Q,lW ds Q->nD ({ nx:=λ_=>Q (.v .non),rt:=Q }) (aN ["direction", "ahead"] ds):=by
 rintro ds Q ⟨r,a,rfl,⟨hu,h1,h2,h3,_⟩,⟨gu,g1,g2,g3,_⟩,hc,q⟩;push_cast [Z.nM];refine⟨.inl (.inl ⟨(by ac_rfl),(by ac_rfl)⟩),.inl (.inl ⟨(by ac_rfl),(by ac_rfl)⟩),?_⟩;rw[decide_eq_true (show 0<a.x*r.y-r.x*a.y from hc)];exact q
theorem rP:∀ds Q,lY ds Q->gY rE sM sM ({ nx:=λ_=>Q (.v .non),rt:=Q }) (aN ["direction"] ds):=by
 rintro ds Q ⟨r,rfl,ok,q⟩;push_cast [Z.nM];refine⟨r,rfl,?_⟩;push_cast [Z.nM];refine⟨r,rfl,ok,?_⟩;push_cast [Z.nM];refine⟨r,rfl,ok,?_⟩;push_cast [Z.nM];rw[XF (by have:=ok.2.2.2.2;ac_rfl)];exact q
variable {x:Sl}{E:En}
theorem PJ:∀(rows:List Rw) (s t:Sl),(∀r∈rows,Mu r)->(∀s,E.nx [x,s,t])->bM (gN 1) (iY lY lW) [] (CB rows) E [x,s,t]:=by
 intro rows;induction rows with
 |nil=>
  intro s t _ h;push_cast [Z.nM];exact h s
 |cons r rs ih=>
  intro s t ok h;push_cast [Z.nM];refine⟨r,rfl,ok r (by simp),?_⟩;push_cast [Z.nM];exact ih _ _ (λr hr=>ok r (by simp[hr])) h
theorem PF:∀(rows:List Rw) (acc:List Int),acc.length+rows.length<=100->Q (.nw (.lst (b8 (acc++rows.map (·.m)))))->d8 [.un] (gN 0) mV (aQ cA (a8 0) (eC (.int 2))) (CB rows) (b8 acc) Q:=by
 intro rows;induction rows with
 |nil=>
  intro acc _ h;push_cast [Z.nM];simpa using h
 |cons r rs ih=>
  intro acc hl h;simp only[bp] at hl;push_cast [bi];refine⟨(by ac_rfl),?_⟩;rw[show b8 acc++[Dv.int r.m]=b8 (acc++[r.m]) by simp];exact ih _ (by simp;ac_rfl) (by simpa using h)
theorem PH:∀(rows:List Rw) (s t:Sl),qT rows->(∀r∈rows,Mu r)->(∀s t,E.nx [x,s,t])->bM (gT [2,1]) (fJ lY lW) [] (Ai (CB rows) (CB (rows.drop 1))) E [x,s,t]:=by
 intro rows;induction rows with
 |nil=>
  intro s t _ _ h;push_cast [Ai,List.zipWith_nil_left];exact h s t
 |cons a rs ih=>
  intro s t srt ok h;cases rs with
  |nil=>
   push_cast [Ai,List.drop,VA];exact h s t
  |cons b rs=>
   push_cast [Ai,List.drop,VA];refine⟨b,a,rfl,ok b (by simp),ok a (by simp),?_,?_⟩
   ·exact(eo.mp srt).1 b (by simp)
   ·push_cast [Z.nM];exact ih _ _ (eo.mp srt).2 (λr hr=>ok r (by simp at hr ⊢;exact .inr hr)) h
theorem pV:∀ds Q,sN ds Q->gF lY lW ({ nx:=λ_=>Q (.v .non),rt:=Q }) (aN ["directions", "direction", "ahead"] ds):=by
 rintro ds Q ⟨rows,rfl,G,q⟩;have lo:=G.lo;have hi:=G.hi;push_cast [bi];refine⟨rfl,?_⟩;rw[show Hf "list" (.lst (CB rows))=ai from rfl];push_cast [Z.nM];rw[Y4 (by ac_rfl),decide_eq_true (show (rows.length:Int)<=6 by ac_rfl)];push_cast [Z.nM];refine PJ rows _ _ G.ok λs=>?_;push_cast [Z.nM];refine PF rows [] (by simp;ac_rfl) ?_;refine⟨rows.map (·.m),by simp,?_⟩;push_cast [Z.nM];rw[XF (by have:=G.tot;unfold Sf.many at this;ac_rfl)];show bM (gT [2,1]) (fJ lY lW) [] _ _ _;rw[Bx (by decide),show (CB rows).drop (Int.toNat 1)=CB (rows.drop 1) by simp[CB]];exact PH rows _ _ G.srt G.ok λs t=>q
theorem Ev(h:∀r∈rows,1<=r.m):∀k,Sf.many (rows.take k)<=Sf.many rows:=by
 induction rows with
 |nil=>intro k;simp
 |cons r rs ih=>
  intro k;cases k with
  |zero=>
   have:=ih (λr hr=>h r (by simp[hr])) 0;have hm:=h r (by simp);simp only[Sf.many,List.take_zero,vx,List.sum_nil,cp,xz] at *;ac_rfl
  |succ k=>
   have:=ih (λr hr=>h r (by simp[hr])) k;simp only[Sf.many,vq,cp,xz] at *;ac_rfl
theorem MT{y:Sl}:∀(rs:List Rw) (k:Nat) (ks:List Int) (s t:Sl),(∀r∈rs,1<=r.m)->(ks.length:Int)+Sf.many rs<=12->(∀s t,E.nx [x,y,.own a (.lst (b8 (ks++aY k rs))),s,t]) ->
  bM (gT [3,4]) (sD C sN) [] (((CB rs).zipIdx k).map λq=>.tup [.int (q.2:Int),q.1]) E [x,y,.own a (.lst (b8 ks)),s,t]:=by
 intro rs;induction rs with
 |nil=>
  intro k ks s t _ _ h;push_cast [Wl];simpa [aY] using h s t
 |cons r rs ih=>
  intro k ks s t ok hb h;have hm:=ok r (by simp);have hp:0<=Sf.many rs:=by
   have:=Ev (λr hr=>ok r (by simp[hr])) (rows:=rs) 0;simpa [Sf.many] using this
  have hb':(ks.length:Int)+(r.m+Sf.many rs)<=12:=by simpa [Sf.many] using hb
  push_cast [W7,sD,bi];refine⟨⟨(by ac_rfl),(by ac_rfl),(by ac_rfl)⟩,?_⟩;have e:(au r.m.toNat [Dv.int (k:Int)]).flatten=b8 (au r.m.toNat (k:Int)):=by
   rw[nu];simp
  rw[e];refine⟨by simp;ac_rfl,?_⟩;rw[show b8 ks++b8 (au r.m.toNat (k:Int))=b8 (ks++au r.m.toNat (k:Int)) by simp];refine ih (k+1) _ _ _ (λr hr=>ok r (by simp[hr])) (by simp;ac_rfl) λs t=>?_;rw[cm];exact h s t
theorem MS:∀(rows:List Rw) (acc:List Rw),acc.length+rows.length<=100->Q (.nw (.lst (CD (acc++rows))))->d8 [.un] (gN 0) mV (bQ (a7 (aQ cA (a8 0) (eC (.int 0))) (a7 (aQ cA (a8 0) (eC (.int 1))) aF))) (CB rows) (CD acc) Q:=by
 intro rows;induction rows with
 |nil=>
  intro acc _ h;push_cast [Z.nM];simpa using h
 |cons r rs ih=>
  intro acc hl h;simp only[bp] at hl;push_cast [bi];refine⟨(by ac_rfl),?_⟩;rw[show CD acc++[Dv.tup [Dv.int r.x,Dv.int r.y]]=CD (acc++[r]) by simp];exact ih _ (by simp;ac_rfl) (by simpa using h)
theorem Lh:∀ds Q,rF C ds Q -> ∀a,CL C sN { nx:=λρ=>∃d,ρ[0]?=aa (.own a d)/\Q (.nw d),rt:=λ_=>False } (j8 C a ["self", "directions", "kinds", "number", "direction"] ds):=by
 rintro ds Q ⟨rows,rfl,G,q⟩ a;have hi:=G.hi;push_cast [Z.nM];refine⟨rows,rfl,G,?_⟩;push_cast [Z.nM];intro b;show bM (gT [3,4]) (sD C sN) [] (((CB rows).zipIdx 0).map λq=>.tup [.int (q.2:Int),q.1]) _ [_,_,.own b (.lst (b8 [])),_,_];refine MT rows 0 [] _ _ (λr hr=>(G.ok r hr).2.2.2.2) (by simpa using G.tot) λs t=>?_;push_cast [Z.nM];refine MS rows [] (by simp;ac_rfl) ?_;push_cast [Z.nM];exact⟨(by decide:1<1000),_,rfl,q⟩
end Lw
namespace Lw
open L2 Z
open Sf (Rw crs qT Pre Good aH aY place many)
open Fl (kd ids)
variable {r:List Int}
theorem i6{k:Nat}(h:k<r.length):sE (b8 r) (k:Int)=aa (.int (r.getD k 0)):=by
 rw[mU (by ac_rfl) (by simp;ac_rfl)];simp[dg,h]
theorem k7{i:Int}(h0:0<=i)(h:i<r.length):sE (b8 r) i=aa (.int (r.getD i.toNat 0)):=by
 obtain⟨k,rfl⟩:∃k:Nat,i=k:=⟨i.toNat,(by ac_rfl)⟩;rw[i6 (by ac_rfl),bw]
theorem vE(n:Nat):bX 0 n=b8 (ids n):=by unfold bX;simp
noncomputable def fO(C:af):Fn:=λds Q=>∃(rows:List Rw) (b:Nat),ds=[bH C rows,.int b]/\b<(aH rows).length/\Q (.v (.int ((aH rows).getD b 0)))
theorem HP:∀ds Q,fO C ds Q->ds.length=2:=by rintro ds Q ⟨_,_,rfl,_⟩;rfl
theorem kJ:MonoF (fO C):=⟨λds Q Q' w z=>by obtain⟨r,b,e,a,h⟩:=z;exact⟨r,b,e,a,w _ h⟩⟩
theorem Lg:∀ds Q,fO C ds Q->CK C ({ nx:=λ_=>Q (.v .non),rt:=Q }) (aN ["self", "band"] ds):=by
 rintro ds Q ⟨rows,b,rfl,hb,h⟩;push_cast [Z.nM];rw[show List.lookup (jd "kinds") [(jd "kinds",Dv.tup (b8 (aH rows))),(jd "vectors",Dv.tup (CD rows))]=aa (Dv.tup (b8 (aH rows))) from rfl];push_cast [Z.nM];rw[i6 hb];exact h
noncomputable def fN(C:af):Fn:=λds Q=>∃rows:List Rw,ds=[bH C rows]/\Q (.v (.int (aH rows).length))
theorem HL:∀ds Q,fN C ds Q->ds.length=1:=by rintro ds Q ⟨_,rfl,_⟩;rfl
theorem mH:MonoF (fN C):=⟨λds Q Q' w z=>by obtain⟨r,e,h⟩:=z;exact⟨r,e,w _ h⟩⟩
theorem Lf:∀ds Q,fN C ds Q->CJ C ({ nx:=λ_=>Q (.v .non),rt:=Q }) (aN ["self"] ds):=by
 rintro ds Q ⟨rows,rfl,h⟩;push_cast [Z.nM];rw[show List.lookup (jd "kinds") [(jd "kinds",Dv.tup (b8 (aH rows))),(jd "vectors",Dv.tup (CD rows))]=aa (Dv.tup (b8 (aH rows))) from rfl];push_cast [bi];exact h
noncomputable abbrev DZ(l:List (Int×Int)):List Dv:=l.map λt=>.tup [.int t.1,.int t.2]
noncomputable abbrev cX(l:List (Int×Int×Int)):List Dv:=l.map λt=>.tup [.int t.1,.int t.2.1,.int t.2.2]
noncomputable def A5(ks:List Int)(a:Int):Nat->Nat->List (Int×Int)
 |0,_=>[]
 |i+1,b=>(if kd ks a=kd ks b then [] else [(a,(b:Int))])++A5 ks a i (b+1)
noncomputable def mF(ks:List Int):Nat->Nat->List (Int×Int)
 |0,_=>[]
 |i+1,a=>A5 ks a (ks.length-(a+1)) (a+1)++mF ks i (a+1)
noncomputable def hC(ks:List Int):List (Int×Int):=mF ks ks.length 0
noncomputable def yL(ks:List Int)(a b:Int):Nat->Nat->List (Int×Int×Int)
 |0,_=>[]
 |i+1,c=>(if kd ks c=kd ks b then [] else [(a,b,(c:Int))])++yL ks a b i (c+1)
noncomputable def f6(ks:List Int)(l:List (Int×Int)):List (Int×Int×Int):=l.flatMap λt=>yL ks t.1 t.2 (ks.length-(t.2.toNat+1)) (t.2.toNat+1)
noncomputable def aP(ks:List Int):List (Int×Int×Int):=f6 ks (hC ks)
theorem uN(ks:List Int)(a:Int):∀i b,(A5 ks a i b).length<=i
 |0,_=>bj _
 |i+1,b=>by rw[A5,br];have:=uN ks a i (b+1);split<;>simp<;>ac_rfl
theorem vO(ks:List Int):∀i a,(mF ks i a).length<=i*ks.length
 |0,_=>lc _
 |i+1,a=>by rw[mF,br,xg];have:=vO ks i (a+1);have:=uN ks a (ks.length-(a+1)) (a+1);ac_rfl
theorem A4(ks:List Int)(a b:Int):∀i c,(yL ks a b i c).length<=i
 |0,_=>bj _
 |i+1,c=>by rw[yL,br];have:=A4 ks a b i (c+1);split<;>simp<;>ac_rfl
theorem lP(ks:List Int):∀l,(f6 ks l).length<=l.length*ks.length
 | []=>lc _
 |t::l=>by
  have h1:=lP ks l;have h2:=A4 ks t.1 t.2 (ks.length-(t.2.toNat+1)) (t.2.toNat+1);unfold f6 at h1 ⊢;rw[VH,br,bp,xg];ac_rfl
theorem uM(ks:List Int)(a:Int):∀(i b:Nat) (t:Int×Int),t∈A5 ks a i b ↔ t.1=a/\(b:Int)<=t.2/\t.2<(b+i:Nat)/\kd ks a≠kd ks t.2
 |0,b,t=>by simp[A5];intro _ h1 h2;ac_rfl
 |i+1,b,t=>by
  rw[A5,dv,uM ks a i (b+1) t];obtain⟨x,y⟩:=t;by_cases e:kd ks a=kd ks (b:Int)
  ·rw[Y4 e];constructor
   ·rintro(h | ⟨h1,h2,h3,h4⟩)
    ·cases h
    ·exact⟨h1,(by ac_rfl),(by ac_rfl),h4⟩
   ·rintro⟨h1,h2,h3,h4⟩;have:y≠(b:Int):=λz=>h4 (by rw[z];exact e);exact .inr ⟨h1,by dsimp only at *;ac_rfl,by dsimp only at *;ac_rfl,h4⟩
  ·rw[XF e];constructor
   ·rintro(h | ⟨h1,h2,h3,h4⟩)
    ·rw[dq] at h;cases h;exact⟨rfl,xf _,by dsimp only;ac_rfl,e⟩
    ·exact⟨h1,(by ac_rfl),(by ac_rfl),h4⟩
   ·rintro⟨h1,h2,h3,h4⟩;by_cases z:y=(b:Int)
    ·exact .inl (by rw[dq,z];dsimp only at h1;rw[h1])
    ·exact .inr ⟨h1,by dsimp only at *;ac_rfl,by dsimp only at *;ac_rfl,h4⟩
theorem vN(ks:List Int):∀(i a:Nat) (t:Int×Int),a+i=ks.length->(t∈mF ks i a ↔ (a:Int)<=t.1/\t.1<t.2/\t.2<ks.length/\kd ks t.1≠kd ks t.2)
 |0,a,t,h=>by simp[mF];intro h1 h2 h3;ac_rfl
 |i+1,a,t,h=>by
  rw[mF,dv,uM,vN ks i (a+1) t (by ac_rfl)];constructor
  ·rintro(⟨h1,h2,h3,h4⟩ | ⟨h1,h2,h3,h4⟩)
   ·exact⟨(by ac_rfl),(by ac_rfl),(by ac_rfl),by rw[h1];exact h4⟩
   ·exact⟨(by ac_rfl),h2,h3,h4⟩
  ·rintro⟨h1,h2,h3,h4⟩;by_cases z:t.1=(a:Int)
   ·exact .inl ⟨z,(by ac_rfl),(by ac_rfl),by rw[<- z];exact h4⟩
   ·exact .inr ⟨(by ac_rfl),h2,h3,h4⟩
theorem lD{t:Int×Int}:t∈hC ks ↔ 0<=t.1/\t.1<t.2/\t.2<ks.length/\kd ks t.1≠kd ks t.2:=vN ks ks.length 0 t (by ac_rfl)
theorem rT(ks:List Int)(a b:Int):∀(i c:Nat) (t:Int×Int×Int),t∈yL ks a b i c->t.1=a/\t.2.1=b/\(c:Int)<=t.2.2/\t.2.2<(c+i:Nat)/\kd ks t.2.2≠kd ks b
 |0,c,t,h=>by cases h
 |i+1,c,t,h=>by
  rw[yL,dv] at h;rcases h with h | h
  ·split at h
   ·cases h
   ·rename_i e;rw[dq] at h;cases h;exact⟨rfl,rfl,xf _,by dsimp only;ac_rfl,e⟩
  ·obtain⟨h1,h2,h3,h4,h5⟩:=rT ks a b i (c+1) t h;exact⟨h1,h2,(by ac_rfl),(by ac_rfl),h5⟩
theorem i9{t:Int×Int×Int}(h:t∈aP ks):0<=t.1/\t.1<t.2.1/\t.2.1<t.2.2/\t.2.2<ks.length/\kd ks t.1≠kd ks t.2.1/\kd ks t.2.1≠kd ks t.2.2:=by
 obtain⟨u,hu,ht⟩:=Wj.mp h;obtain⟨a1,a2,a3,a4⟩:=lD.mp hu;obtain⟨h1,h2,h3,h4,h5⟩:=rT ks u.1 u.2 _ _ t ht;exact⟨(by ac_rfl),(by ac_rfl),(by ac_rfl),(by ac_rfl),by rw[h1,h2];exact a4,by rw[h2];exact λz=>h5 z.symm⟩
noncomputable def iU(C:af):Fn:=λds Q=>∃rows:List Rw,ds=[bH C rows]/\(aH rows).length<=12/\Q (.nw (.lst (DZ (hC (aH rows)))))
theorem Ez:∀ds Q,iU C ds Q->ds.length=1:=by rintro ds Q ⟨_,rfl,_⟩;rfl
theorem vR:MonoF (iU C):=⟨λds Q Q' w z=>by obtain⟨r,e,a,h⟩:=z;exact⟨r,e,a,w _ h⟩⟩
variable {l:af}{E:En}
theorem JI{a:Nat}(ha:a<(aH rows).length):∀(i b:Nat) (acc:List (Int×Int)) (s:Sl),b+i=(aH rows).length->acc.length+i<=1000 ->
  (∀s,E.nx [.v (bH C rows),.own l (.lst (DZ (acc++A5 (aH rows) a i b))),.v (.int a),s]) ->
  bM (gN 3) (yU C (fN C) (fO C)) [] (bX b i) E [.v (bH C rows),.own l (.lst (DZ acc)),.v (.int a),s]:=by
 intro i;induction i with
 |zero=>
  intro b acc s _ _ h;rw[fA,cI];exact⟨λp hp=>by simp at hp,by simpa [A5] using h s⟩
 |succ i ih=>
  intro b acc s hb hl h;push_cast [dS,bi];refine⟨rfl,rows,a,rfl,ha,?_⟩;push_cast [Z.nM];refine⟨rfl,rows,b,rfl,(by ac_rfl),?_⟩;push_cast [Z.nM];rw[show ((b:Int)+1)=((b+1:Nat):Int) by ac_rfl];by_cases e:(aH rows).getD a 0=(aH rows).getD b 0
  ·rw[decide_eq_true e];push_cast [Z.nM];refine ih (b+1) acc _ (by ac_rfl) (by ac_rfl) λs=>?_;have:=h s;rw[A5,Y4 (by simpa [kd] using e)] at this;exact this
  ·rw[decide_eq_false e];push_cast [Z.nM];refine⟨(by ac_rfl),?_⟩;rw[show DZ acc++[Dv.tup [Dv.int a,Dv.int b]]=DZ (acc++[((a:Int),(b:Int))]) by simp];refine ih (b+1) _ _ (by ac_rfl) (by simp;ac_rfl) λs=>?_;have:=h s;rw[A5,XF (by simpa [kd] using e)] at this;simpa using this
theorem JH(hn:(aH rows).length<=12):∀(i a:Nat) (acc:List (Int×Int)) (s t:Sl),a+i=(aH rows).length->acc.length+i*12<=500 ->
  (∀s t,E.nx [.v (bH C rows),.own l (.lst (DZ (acc++mF (aH rows) i a))),s,t]) ->
  bM (gN 2) (lJ C (fN C) (fO C)) [] (bX a i) E [.v (bH C rows),.own l (.lst (DZ acc)),s,t]:=by
 intro i;induction i with
 |zero=>
  intro a acc s t _ _ h;rw[fA,cI];exact⟨λp hp=>by simp at hp,by simpa [mF] using h s t⟩
 |succ i ih=>
  intro a acc s t ha hl h;rw[dS,cO];refine⟨λp hp=>by simp at hp,?_⟩;have nx:∀s t,bM (gN 2) (lJ C (fN C) (fO C)) [] (bX ((a:Int)+1) i) E [.v (bH C rows),.own l (.lst (DZ (acc++A5 (aH rows) a ((aH rows).length-(a+1)) (a+1)))),s,t]:=λs t=>by
   have il:=uN (aH rows) a ((aH rows).length-(a+1)) (a+1);refine ih (a+1) _ s t (by ac_rfl) (by simp;ac_rfl) λs t=>?_;have:=h s t;rw[mF] at this;simpa using this
  generalize bM (gN 2) (lJ C (fN C) (fO C)) [] (bX ((a:Int)+1) i) E=G at nx ⊢;push_cast [lJ];refine⟨rfl,rows,rfl,?_⟩;push_cast [Z.nM];refine⟨⟨(by ac_rfl),(by ac_rfl),(by ac_rfl)⟩,?_⟩;rw[show ((aH rows).length-((a:Int)+1)).toNat=(aH rows).length-(a+1) by ac_rfl,show ((a:Int)+1)=((a+1:Nat):Int) by ac_rfl];exact JI (by ac_rfl) _ (a+1) acc _ (by ac_rfl) (by ac_rfl) λs=>nx _ s
theorem JJ:∀ds Q,iU C ds Q->z9 C (fN C) (fO C) ({ nx:=λ_=>Q (.v .non),rt:=Q }) (aN ["self", "found", "a", "b"] ds):=by
 rintro ds Q ⟨rows,rfl,hn,h⟩;push_cast [Z.nM];intro l;refine⟨rfl,rows,rfl,?_⟩;push_cast [Z.nM];refine⟨(by ac_rfl),?_⟩;rw[show ((aH rows).length:Int).toNat=(aH rows).length by ac_rfl];refine JH hn _ 0 [] _ _ (by ac_rfl) (by simp;ac_rfl) λs t=>?_;push_cast [Z.nM];exact h
end Lw
namespace Lw
open L2 Z
open Sf (Rw crs qT Pre Good aH aY place many)
open Fl (kd ids)
noncomputable def jN(C:af):Fn:=λds Q=>∃rows:List Rw,ds=[bH C rows]/\(aH rows).length<=12/\Q (.nw (.lst (cX (aP (aH rows)))))
theorem Cv:∀ds Q,jN C ds Q->ds.length=1:=by rintro ds Q ⟨_,rfl,_⟩;rfl
theorem fQ:MonoF (jN C):=⟨λds Q Q' w z=>by obtain⟨r,e,a,h⟩:=z;exact⟨r,e,a,w _ h⟩⟩
variable {l:af}{E:En}
theorem Fq{a:Int}(hb:0<=b/\b<(aH rows).length):∀(i c:Nat) (acc:List (Int×Int×Int)) (s:Sl),c+i=(aH rows).length->acc.length+i<=10000 ->
  (∀s,E.nx [.v (bH C rows),.own l (.lst (cX (acc++yL (aH rows) a b i c))),.v (.int a),.v (.int b),s]) ->
  bM (gN 4) (wO C (iU C) (fN C) (fO C)) [] (bX c i) E [.v (bH C rows),.own l (.lst (cX acc)),.v (.int a),.v (.int b),s]:=by
 intro i;induction i with
 |zero=>
  intro c acc s _ _ h;rw[fA,cI];exact⟨λp hp=>by simp at hp,by simpa [yL] using h s⟩
 |succ i ih=>
  intro c acc s hc hl h;push_cast [dS,bi];refine⟨rfl,rows,c,rfl,(by ac_rfl),?_⟩;push_cast [Z.nM];refine⟨rfl,rows,b.toNat,by rw[Int.toNat_of_nonneg hb.1],(by ac_rfl),?_⟩;push_cast [Z.nM];rw[show ((c:Int)+1)=((c+1:Nat):Int) by ac_rfl];by_cases e:(aH rows).getD c 0=(aH rows).getD b.toNat 0
  ·rw[decide_eq_true e];push_cast [Z.nM];refine ih (c+1) acc _ (by ac_rfl) (by ac_rfl) λs=>?_;have:=h s;rw[yL,Y4 (by simpa [kd] using e)] at this;exact this
  ·rw[decide_eq_false e];push_cast [Z.nM];refine⟨(by ac_rfl),?_⟩;rw[show cX acc++[Dv.tup [Dv.int a,Dv.int b,Dv.int c]]=cX (acc++[(a,b,(c:Int))]) by simp];refine ih (c+1) _ _ (by ac_rfl) (by simp;ac_rfl) λs=>?_;have:=h s;rw[yL,XF (by simpa [kd] using e)] at this;simpa using this
theorem Fp(hn:(aH rows).length<=12):∀(ps:List (Int×Int)) (acc:List (Int×Int×Int)) (s t u:Sl),(∀t∈ps,0<=t.2/\t.2<(aH rows).length)->acc.length+ps.length*12<=5000 ->
  (∀s t u,E.nx [.v (bH C rows),.own l (.lst (cX (acc++f6 (aH rows) ps))),s,t,u]) ->
  bM (gT [2,3]) (jZ C (iU C) (fN C) (fO C)) [] (DZ ps) E [.v (bH C rows),.own l (.lst (cX acc)),s,t,u]:=by
 intro ps;induction ps with
 |nil=>
  intro acc s t u _ _ h;rw[show DZ []=[] from rfl,cI];exact⟨λp hp=>by simp at hp,by simpa [f6] using h s t u⟩
 |cons p ps ih=>
  intro acc s t u hp hl h;have h0:=hp p (by simp);rw[show DZ (p::ps)=.tup [.int p.1,.int p.2]::DZ ps from rfl,cO];refine⟨λp hp=>by simp at hp,?_⟩;have il:=A4 (aH rows) p.1 p.2 ((aH rows).length-(p.2.toNat+1)) (p.2.toNat+1);have nx:∀s t u,bM (gT [2,3]) (jZ C (iU C) (fN C) (fO C)) [] (DZ ps) E [.v (bH C rows),.own l (.lst (cX (acc++yL (aH rows) p.1 p.2 ((aH rows).length-(p.2.toNat+1)) (p.2.toNat+1)))),s,t,u]:=λs t u=>by
   simp only[bp] at hl;refine ih _ s t u (λt ht=>hp t (bm _ ht)) (by simp;ac_rfl) λs t u=>?_;have:=h s t u;unfold f6 at this ⊢;rw[VH] at this;simpa using this
  generalize bM (gT [2,3]) (jZ C (iU C) (fN C) (fO C)) [] (DZ ps) E=G at nx ⊢;push_cast [jZ];refine⟨rfl,rows,rfl,?_⟩;push_cast [Z.nM];refine⟨⟨(by ac_rfl),(by ac_rfl),(by ac_rfl)⟩,?_⟩;rw[show ((aH rows).length-(p.2+1)).toNat=(aH rows).length-(p.2.toNat+1) by ac_rfl,show (p.2+1)=((p.2.toNat+1:Nat):Int) by ac_rfl];simp only[bp] at hl;exact Fq h0 _ (p.2.toNat+1) acc _ (by ac_rfl) (by ac_rfl) λs=>nx _ _ s
theorem Gc:∀ds Q,jN C ds Q->uV C (iU C) (fN C) (fO C) ({ nx:=λ_=>Q (.v .non),rt:=Q }) (aN ["sides", "told", "a", "b", "c"] ds):=by
 rintro ds Q ⟨rows,rfl,hn,h⟩;have pl:=vO (aH rows) (aH rows).length 0;have sq:(aH rows).length*(aH rows).length<=12*12:=ml hn hn;push_cast [Z.nM];intro l;refine⟨rfl,rows,rfl,hn,?_⟩;push_cast [Z.nM];refine Fp hn (hC (aH rows)) [] _ _ _ (λt ht=>?_) (by unfold hC;simp;ac_rfl) λs t u=>?_
 ·obtain⟨a1,a2,a3,a4⟩:=lD.mp ht;exact⟨(by ac_rfl),a3⟩
 push_cast [Z.nM];exact h
noncomputable abbrev Ti:=Int×Int×List Int
noncomputable abbrev Fo(t:Ti):Dv:=.tup [.int t.1,.int t.2.1,.tup (b8 t.2.2)]
noncomputable abbrev fM(l:List Ti):List Dv:=l.map Fo
noncomputable abbrev u5(t:Ti):List cE:=[ee t.1,ee t.2.1]
noncomputable abbrev mX(l:List Ti):List (List cE×Dv):=l.map λt=>(u5 t,.tup (b8 t.2.2))
noncomputable def tD(l:List Ti):Prop:=l.Pairwise λt u=>¬(t.1=u.1/\t.2.1=u.2.1)
noncomputable def eI:Fn:=λds Q=>∃fl:List Ti,ds=[.lst (fM fl)]/\fl.length<=1000/\tD fl/\Q (.nw (.dit (mX fl)))
theorem vX:∀ds Q,eI ds Q->ds.length=1:=by rintro ds Q ⟨_,rfl,_⟩;rfl
theorem eL:MonoF eI:=⟨λds Q Q' w z=>by obtain⟨r,e,a,b,h⟩:=z;exact⟨r,e,a,b,w _ h⟩⟩
theorem J0{l:List Ti}{t:Ti}(h:∀u∈l,¬(u.1=t.1/\u.2.1=t.2.1)):wW (mX l) (u5 t) (.tup (b8 t.2.2))=mX (l++[t]):=by
 unfold wW;have e:(mX l).any (λkv=>decide (kv.1=u5 t))=ap:=by
  rw[wz];intro kv hkv;obtain⟨u,hu,rfl⟩:=fx.mp hkv;have:=h u hu;simp only[decide_eq_true_eq];intro z;apply this;simp only[u5,ku,ee.injEq,and_true] at z;exact z
 rw[e];simp
theorem IG{x:Sl}:∀(fl acc:List Ti) (s t u:Sl),tD (acc++fl)->acc.length+fl.length<=1000->(∀s t u,E.nx [x,.own a (.dit (mX (acc++fl))),s,t,u]) ->
  bM (gT [2,3,4]) qR [] (fM fl) E [x,.own a (.dit (mX acc)),s,t,u]:=by
 intro fl;induction fl with
 |nil=>
  intro acc s t u _ _ h;rw[show fM []=[] from rfl,cI];exact⟨λp hp=>by simp at hp,by simpa using h s t u⟩
 |cons p fl ih=>
  intro acc s t u hk hl h;simp only[bp] at hl;rw[show fM (p::fl)=.tup [.int p.1,.int p.2.1,.tup (b8 p.2.2)]::fM fl from rfl];push_cast [qR,bi];refine⟨u5 p,rfl,(by ac_rfl),?_⟩;rw[J0 λu hu=>(fj.mp hk).2.2 u hu p (by simp)];exact ih _ _ _ _ (by simpa using hk) (by simp;ac_rfl) (by simpa using h)
theorem BM:∀ds Q,eI ds Q->uX ({ nx:=λ_=>Q (.v .non),rt:=Q }) (aN ["floor", "told", "a", "b", "below"] ds):=by
 rintro ds Q ⟨fl,rfl,hl,hk,h⟩;push_cast [Z.nM];intro a;refine IG fl [] _ _ _ (by simpa using hk) (by simp;ac_rfl) λs t u=>?_;push_cast [Z.nM];exact h
noncomputable def bT(l:List Ti)(a c:Int):List Int:=((l.find? λt=>decide (t.1=a/\t.2.1=c)).map λt=>t.2.2).getD []
noncomputable def TK(ks:List Int)(l:List Ti):Prop:=∀a c:Int,0<=a->a<c->c<ks.length->kd ks a≠kd ks c -> ∃t∈l,t.1=a/\t.2.1=c
theorem mM(l:List Ti)(a c:Int):(mX l).find? (λkv=>decide (kv.1=[ee a,ee c]))=(l.find? λt=>decide (t.1=a/\t.2.1=c)).map λt=>(u5 t,.tup (b8 t.2.2)):=by
 induction l with
 |nil=>rfl
 |cons t l ih=>
  rw[show mX (t::l)=(u5 t,.tup (b8 t.2.2))::mX l from rfl];by_cases e:t.1=a/\t.2.1=c
  ·rw[ui (by simpa using e),ui (by simpa using e)];rfl
  ·rw[uj (by simpa using e),uj (by simpa using e)];exact ih
theorem o0{l:List Ti}{a c:Int}(h:∃t∈l,t.1=a/\t.2.1=c):∃t,(l.find? λt=>decide (t.1=a/\t.2.1=c))=aa t/\t∈l/\t.1=a/\t.2.1=c/\bT l a c=t.2.2:=by
 obtain⟨t,ht,e⟩:=h;cases q:l.find? λt=>decide (t.1=a/\t.2.1=c) with
 |none=>exact absurd (decide_eq_true e) (wp.mp q t ht)
 |some u=>
  have:=ze q;refine⟨u,rfl,ni q,(of_decide_eq_true this).1,(of_decide_eq_true this).2,?_⟩;unfold bT;rw[q];rfl
noncomputable def k8(ks:List Int):Prop:=∀a b:Int,0<=a->a<=b->b<ks.length->kd ks a<=kd ks b
theorem Rx(n:Nat)(i:Int):dL n (.int i)=ai:=by cases n<;>rfl
theorem pF(n:Nat):∀l:List Int,okDs n (b8 l)=ai
 | []=>rfl
 |i::r=>by
  show (dL n (.int i)&&okDs n (b8 r))=ai;rw[pF n r];cases n<;>rfl
theorem kE(hn:ks.length<=12):(aP ks).length<=1728:=by
 have h1:=vO ks ks.length 0;have h2:=lP ks (hC ks);have sq:ks.length*ks.length<=12*12:=ml hn hn;have h3:(hC ks).length*ks.length<=144*12:=ml (by unfold hC;ac_rfl) hn;unfold aP;ac_rfl
end Lw
variable {tl:Z.c6}
namespace Lw
open L2 Z
open Sf (Rw crs qT Pre Good aH aY place many)
open Fl (kd ids Walk cZ tls pc aK Pt)
theorem tV{u k:Int}(h0:-1000000<k)(hk:k<1000000):tU u k:=.inl (.inr ⟨(by ac_rfl),(by ac_rfl)⟩)
noncomputable def lZ:Fn:=λds Q=>∃(ns:List Int) (k:Int),ds=[.scr ns,.int k]/\0<=k /\ ∀c:Int,Q (.v (.int c))
theorem HV:∀ds Q,lZ ds Q->ds.length=2:=by rintro ds Q ⟨_,_,rfl,_⟩;rfl
theorem JZ:MonoF lZ:=⟨λds Q Q' w z=>by obtain⟨r,e,a,b,h⟩:=z;exact⟨r,e,a,b,λc=>w _ (h c)⟩⟩
theorem x9:∀ds Q,lZ ds Q->kT ({ nx:=λ_=>Q (.v .non),rt:=Q }) (aN ["_law_script", "_law_k"] ds):=by
 rintro ds Q ⟨ns,k,rfl,h0,h⟩;push_cast [Z.nM];by_cases hk:k<(ns.length:Int)
 ·rw[Y4 hk,mU h0 hk,ar (by ac_rfl)];exact h _
 ·rw[XF hk];exact h 5
noncomputable def Au:Fn:=λds Q=>∃n:Int,ds=[.int n]/\Q (.v (.bl ai))
theorem MC:∀ds Q,Au ds Q->ds.length=1:=by rintro ds Q ⟨_,rfl,_⟩;rfl
theorem OP:MonoF Au:=⟨λds Q Q' w z=>by obtain⟨r,e,h⟩:=z;exact⟨r,e,w _ h⟩⟩
theorem BH:∀ds Q,Au ds Q->nE ({ nx:=λ_=>Q (.v .non),rt:=Q }) (aN ["_law_found"] ds):=by
 rintro ds Q ⟨n,rfl,q⟩;push_cast [Z.nM];exact⟨rfl,rfl,q⟩
noncomputable def jM:Fn:=λds Q=>∃l:List Int,ds=[.tup (b8 l)]/\Q (.v (.bl ai))
theorem Cu:∀ds Q,jM ds Q->ds.length=1:=by rintro ds Q ⟨_,rfl,_⟩;rfl
theorem Et:MonoF jM:=⟨λds Q Q' w z=>by obtain⟨r,e,h⟩:=z;exact⟨r,e,w _ h⟩⟩
variable {E:En}
theorem FZ{x:Sl}:∀(l:List Int) (s:Sl),(∀s,E.nx [x,s])->bM (gN 1) (oF Au) [] (b8 l) E [x,s]:=by
 intro l;induction l with
 |nil=>
  intro s h;rw[show b8 []=[] from rfl,cI];exact⟨λp hp=>by simp at hp,h s⟩
 |cons i l ih=>
  intro s h;push_cast [Z.nM];refine⟨i,rfl,?_⟩;push_cast [Z.nM];exact ih _ h
theorem zJ:∀ds Q,jM ds Q->lQ Au ({ nx:=λ_=>Q (.v .non),rt:=Q }) (aN ["_law_found", "_law_number"] ds):=by
 rintro ds Q ⟨l,rfl,q⟩;push_cast [Z.nM];refine⟨rfl,?_⟩;rw[show Hf "tuple" (.tup (b8 l))=ai from rfl];push_cast [Z.nM];exact FZ l _ λs=>q
noncomputable def kG:Fn:=λds Q=>∃(c step m:Int),ds=[.int c,.int step,.int m]/\0<=step/\step<=500/\0<m /\ ∀q:Int,0<=q->q<m->Q (.v (.int q))
theorem HK:∀ds Q,kG ds Q->ds.length=3:=by rintro ds Q ⟨_,_,_,rfl,_⟩;rfl
theorem JT:MonoF kG:=⟨λds Q Q' w z=>by obtain⟨r,e,a,b,c,d,f,h⟩:=z;exact⟨r,e,a,b,c,d,f,λm x y=>w _ (h m x y)⟩⟩
theorem Ce:∀ds Q,kG ds Q->pP ({ nx:=λ_=>Q (.v .non),rt:=Q }) (aN ["_law_cell", "_law_step", "_law_many_here"] ds):=by
 rintro ds Q ⟨c,k,m,rfl,h0,h1,hm,h⟩;have hkk:0<=k*k/\k*k<=500*500:=⟨WX h0 h0,WY h1 h1 h0 (by ac_rfl)⟩;push_cast [Z.nM];refine⟨.inl (.inl ⟨by decide,by decide⟩),tV (by decide) (by decide),tV (by ac_rfl) (by ac_rfl),tV (by ac_rfl) (by ac_rfl),hm,?_⟩;exact h _ (Um _ (by ac_rfl)) (ss _ hm)
theorem NK{p:Nat}:b8 (l.take p)++[.int (l.getD (p+1) 0),.int (l.getD p 0)]++b8 (l.drop (p+2))=b8 (aK l p):=by unfold aK;simp
noncomputable def cV:Fn:=λds Q=>∃(Y6:List Int) (p:Nat),ds=[.lst (b8 Y6),.int p]/\Y6.length<=100/\p+1<Y6.length/\Q (.nw (.lst (b8 (aK Y6 p))))
theorem HS:∀ds Q,cV ds Q->ds.length=2:=by rintro ds Q ⟨_,_,rfl,_⟩;rfl
theorem zW:MonoF cV:=⟨λds Q Q' w z=>by obtain⟨a,b,c,d,e,h⟩:=z;exact⟨a,b,c,d,e,w _ h⟩⟩
theorem tZ:∀ds Q,cV ds Q->j7 ({ nx:=λ_=>Q (.v .non),rt:=Q }) (aN ["_law_path", "_law_p"] ds):=by
 rintro ds Q ⟨Y6,p,rfl,hn,hp,h⟩;have e1:((p:Int)+1)=((p+1:Nat):Int):=(by ac_rfl);have e2:((p:Int)+2)=((p+2:Nat):Int):=(by ac_rfl);push_cast [Z.nM];rw[e1,e2,i6 (by ac_rfl),i6 (by ac_rfl),IB (by ac_rfl),Bx (by ac_rfl)];simp only[bw,<- WR,<- XJ];push_cast [bi,dj,Ue,br];refine⟨(by ac_rfl),(by ac_rfl),?_⟩;have:=NK (l:=Y6) (p:=p);simp only[cm,jn,oh] at this ⊢;rw[this];exact h
noncomputable def aT:Nat->List Nat->List Int
 |_,[]=>[]
 |k,c::cs=>au c (k:Int)++aT (k+1) cs
theorem qP:∀(k:Nat) (cs:List Nat) (c:Nat),aT k (cs++[c])=aT k cs++au c ((k+cs.length:Nat):Int)
 |_,[],_=>by simp[aT]
 |k,a::rs,c=>by
  simp only[jn,aT,qP (k+1) rs c,cm,bp];congr 3;ac_rfl
theorem p0:∀(k:Nat) (cs:List Nat),(aT k cs).length=cs.sum
 |_,[]=>rfl
 |k,c::cs=>by simp[aT,p0 (k+1) cs]
structure Cnt(cs:List Nat):Prop where
 lo:2<=cs.length
 hi:cs.length<=6
 ok:∀c∈cs,1<=c
 tot:cs.sum<=12
variable {M Y7:Int}{x6 x7:Sl}
theorem PM{c:Int}{k:Nat}(hk:k<=10)(sp:Int)(hs:M-(l.length:Int)-((n:Int)-(k:Int)-1)=sp)(h1:1<=sp)(h2:sp<=12)
  (h:∀VM:Int,1<=VM->VM<=sp->tl E [.v (.int c),.v (.int M),.v (.int n),.v (.int Y7),.v (.lst (b8 l)),.v (.int k),.v (.int sp),.v (.int VM)]):
  aO (bD 6 (aQ kU (aQ kU (a8 1) (eY e9 (a7 (a8 4) aF))) (aQ kU (aQ kU (a8 2) (a8 5)) (eC (.int 1)))))
 (aO (bD 7 (aQ eJ (eC (.int 1)) (aQ iW (aQ iW (aQ g6 (aQ iW (aQ g6 (aQ eJ (a8 0) (aQ g6 (eC (.int 31)) (a8 5))) (eC (.int 48271))) (eC (.int 2147483647))) (aQ eJ (aQ g6 (a8 5) (a8 5)) (eC (.int 17)))) (eC (.int 99991))) (eY vL (a7 (a8 6) (a7 (eC (.int 3)) aF)))))) tl) E [.v (.int c),.v (.int M),.v (.int n),.v (.int Y7),.v (.lst (b8 l)),.v (.int k),x6,x7]:=by
 push_cast [bi,hs];generalize hm:(if 3<sp then 3 else sp)=mn;have hmn:1<=mn/\mn<=sp:=by rw[<- hm];split<;>ac_rfl
 have kk:(k:Int)*k<=10*10:=WY (by ac_rfl) (by ac_rfl) (by ac_rfl) (by ac_rfl);have kk0:0<=(k:Int)*k:=WX (by ac_rfl) (by ac_rfl);refine⟨.inl (.inl ⟨by decide,by decide⟩),tV (by decide) (by decide),tV (by ac_rfl) (by ac_rfl),tV (by ac_rfl) (by ac_rfl),(by ac_rfl),?_⟩;generalize (c+31*(k:Int))*48271 % 2147483647*((k:Int)*k+17) % 99991=q;have a1:=Um q (show mn≠0 by ac_rfl);have a2:=ss q (show 0<mn by ac_rfl);exact h _ (by ac_rfl) (by ac_rfl)
variable {x0 x1 x2:Sl}
theorem PL{sp VM k:Int}(h1:1<=sp)(h2:sp<=12)(c1:1<=VM)(c2:VM<=sp)(ll:l.length<=100)
  (h:∀Y7 VM:Int,1<=VM->VM<=sp->E.nx [x0,x1,x2,.v (.int Y7),.v (.lst (b8 l++(au VM.toNat [Dv.int k]).flatten)),.v (.int k),.v (.int sp),.v (.int VM)]):
  aO (jE (aW (aQ JL (a8 3) (eC (.int 1)))) (aO (bD 7 (aQ eJ (eC (.int 1)) (aQ iW (a8 3) (a8 6))))
 (bD 3 (aQ pW (a8 3) (a8 6)))) bN)
 (bD 4 (aQ eJ (a8 4) (aQ g6 (i7 (a7 (a8 5) aF)) (a8 7)))) E [x0,x1,x2,.v (.int Y7),.v (.lst (b8 l)),.v (.int k),.v (.int sp),.v (.int VM)]:=by
 have fl:∀m:Nat,(au m [Dv.int k]).flatten.length=m:=λm=>by rw[nu];simp
 push_cast [bi,fl];split
 ·have a1:=Um Y7 (show sp≠0 by ac_rfl);have a2:=ss Y7 (show 0<sp by ac_rfl);exact⟨(by ac_rfl),(by ac_rfl),(by ac_rfl),(by ac_rfl),h _ _ (by ac_rfl) (by ac_rfl)⟩
 ·exact⟨(by ac_rfl),(by ac_rfl),h _ _ c1 c2⟩
theorem Sd{d:Dv}{x3 x4 x5:Sl}{Q:List Sl->Prop}(h:Q [x0,x1,x2,x3,x4,.v d,x6,x7]):gN 5 d [x0,x1,x2,x3,x4,x5,x6,x7] Q:=by
 push_cast [Z.nM];exact h
theorem KJ{c:Int}(hn:n<=6)(hM:M<=12):∀(i k:Nat) (Y7:Int) (cs:List Nat) (s5 s6 s7:Sl),k+i=n->cs.length=k->(∀x∈cs,1<=x)->(cs.sum:Int)+i<=M ->
  (∀(Y7:Int) (cs:List Nat) (s5 s6 s7:Sl),cs.length=n->(∀x∈cs,1<=x)->(cs.sum:Int)<=M->E.nx [.v (.int c),.v (.int M),.v (.int n),.v (.int Y7),.v (.lst (b8 (aT 0 cs))),s5,s6,s7]) ->
  bM (gN 5) iT [] (bX k i) E [.v (.int c),.v (.int M),.v (.int n),.v (.int Y7),.v (.lst (b8 (aT 0 cs))),s5,s6,s7]:=by
 intro i;induction i with
 |zero=>
  intro k Y7 cs s5 s6 s7 hk hl ok ht h;rw[fA,cI];exact⟨λp hp=>by simp at hp,h _ _ _ _ _ (by ac_rfl) ok (by ac_rfl)⟩
 |succ i ih=>
  intro k Y7 cs s5 s6 s7 hk hl ok ht h;rw[dS,cO];refine⟨λp hp=>by simp at hp,?_⟩;have next:∀(Y7 VM:Int) (s5 s6 s7:Sl),1<=VM->VM+cs.sum+i<=M->bM (gN 5) iT [] (bX ((k:Int)+1) i) E [.v (.int c),.v (.int M),.v (.int n),.v (.int Y7),.v (.lst (b8 (aT 0 cs)++(au VM.toNat [Dv.int (k:Int)]).flatten)),s5,s6,s7]:=λY7 VM s5 s6 s7 c1 c2=>by
   have e2:(au VM.toNat [Dv.int (k:Int)]).flatten=b8 (au VM.toNat (k:Int)):=by
    rw[nu];simp
   have e3:b8 (aT 0 cs)++b8 (au VM.toNat (k:Int))=b8 (aT 0 (cs++[VM.toNat])):=by
    rw[qP,hl,ox];simp
   rw[e2,e3];exact ih (k+1) Y7 (cs++[VM.toNat]) s5 s6 s7 (by ac_rfl) (by simp;ac_rfl) (λx hx=>by
    rcases dv.mp hx with hx | hx
    ·exact ok x hx
    ·rw[dq.mp hx];ac_rfl) (by simp;ac_rfl) h
  generalize bM (gN 5) iT [] (bX ((k:Int)+1) i) E=nx at *;have bl:=p0 0 cs;exact Sd (PM (by ac_rfl) _ rfl (by ac_rfl) (by ac_rfl) λVM c1 c2=>PL (by ac_rfl) (by ac_rfl) c1 c2 (by ac_rfl) λY7 VM d1 d2=>next Y7 VM _ _ _ d1 (by ac_rfl))
noncomputable def l9:Fn:=λds Q=>∃c M:Int,ds=[.int c,.int M]/\6<=M/\M<=12 /\ ∀cs,Cnt cs->Q (.v (.lst (b8 (aT 0 cs))))
theorem F4:∀ds Q,l9 ds Q->ds.length=2:=by rintro ds Q ⟨_,_,rfl,_⟩;rfl
theorem HB:MonoF l9:=⟨λds Q Q' w z=>by obtain⟨c,M,e,a,b,h⟩:=z;exact⟨c,M,e,a,b,λr g=>w _ (h r g)⟩⟩
theorem BK:∀ds Q,l9 ds Q->nH ({ nx:=λ_=>Q (.v .non),rt:=Q }) (aN ["_law_cell", "_law_most", "_law_kinds", "_law_rest", "_law_bands_here", "_law_k", "_law_spare", "_law_count"] ds):=by
 rintro ds Q ⟨c,M,rfl,M6,M12,h⟩;push_cast [Z.nM];obtain⟨n,hn,h2,h6⟩:∃n:Nat,2+c % 5=(n:Int)/\2<=n/\n<=6:=⟨(2+c % 5).toNat,(by ac_rfl),(by ac_rfl),(by ac_rfl)⟩;rw[hn];refine⟨(by ac_rfl),?_⟩;rw[bw];refine KJ h6 M12 n 0 _ [] _ _ _ (by ac_rfl) rfl (λx hx=>by simp at hx) (by simp;ac_rfl) λY7 cs s5 s6 s7 l ok t=>?_;push_cast [Z.nM];exact h cs ⟨(by ac_rfl),(by ac_rfl),ok,(by ac_rfl)⟩
theorem qQ(k:Nat)(cs:List Nat):(aT k cs).Pairwise (· <= ·) /\ ∀x∈aT k cs,(k:Int)<=x:=by
 induction cs generalizing k with
 |nil=>exact⟨List.Pairwise.nil,λx hx=>by cases hx⟩
 |cons c cs ih=>
  obtain⟨i1,i2⟩:=ih (k+1);rw[aT];refine⟨fj.mpr ⟨?_,i1,λa ha b hb=>?_⟩,λx hx=>?_⟩
  ·rw[cf];intro i j hi hj _;simp
  ·rw[dw ha];have:=i2 b hb;ac_rfl
  ·rcases dv.mp hx with hx | hx
   ·rw[dw hx];exact xf _
   ·have:=i2 x hx;ac_rfl
theorem mT(cs:List Nat):k8 (aT 0 cs):=λa b h0 hab hb=>by
 have pw:=cf.mp (qQ 0 cs).1;show (aT 0 cs).getD a.toNat 0<=(aT 0 cs).getD b.toNat 0;have e1:(aT 0 cs).getD a.toNat 0=(aT 0 cs)[a.toNat]'(by ac_rfl):=by simp[dg,show a.toNat<(aT 0 cs).length by ac_rfl]
 have e2:(aT 0 cs).getD b.toNat 0=(aT 0 cs)[b.toNat]'(by ac_rfl):=by simp[dg,show b.toNat<(aT 0 cs).length by ac_rfl]
 rw[e1,e2];rcases XO a.toNat b.toNat with h | h
 ·exact pw _ _ _ _ h
 ·have:a.toNat=b.toNat:=(by ac_rfl);simp[this]
noncomputable def wK:List Nat->Nat
 | []=>0
 |c::cs=>c*cs.sum+wK cs
noncomputable def NQ:List Nat->Nat
 | []=>0
 |c::cs=>c*c+NQ cs
theorem BB:∀(k:Nat) (cs:List Nat),pc (aT k cs)=wK cs
 |_,[]=>rfl
 |k,c::cs=>by
  rw[aT,wK,<- BB (k+1) cs,<- p0 (k+1) cs];have hi:=(qQ (k+1) cs).2;generalize aT (k+1) cs=B at hi;induction c with
  |zero=>simp
  |succ c ih=>
   rw[mh,jn,pc,ih,ve];have e1:(au c (k:Int)).filter (λy=>decide ((k:Int)<y))=[]:=ki.mpr λx hx=>by rw[dw hx];simp
   have e2:B.filter (λy=>decide ((k:Int)<y))=B:=V1.mpr λx hx=>by have:=hi x hx;simp;ac_rfl
   rw[e1,e2,xg];simp;ac_rfl
theorem C0:∀cs:List Nat,2*wK cs+NQ cs=cs.sum*cs.sum
 | []=>rfl
 |c::cs=>by
  have ih:=C0 cs;rw[wK,NQ,xz,xg,Wz c,Wz cs.sum,<- ih,Xh cs.sum c];ac_rfl
theorem DP:∀cs:List Nat,4*cs.sum<=NQ cs+4*cs.length
 | []=>bj _
 |c::cs=>by
  have ih:=DP cs;have h:4*c<=c*c+4:=by
   rcases XO c 4 with z | z
   ·have:c=0 \/ c=1 \/ c=2 \/ c=3:=(by ac_rfl);rcases this with rfl | rfl | rfl | rfl<;>decide
   ·have:=Uo c z;ac_rfl
  rw[NQ,xz,bp];ac_rfl
variable {cs:List Nat}
theorem DA(C:Cnt cs):pc (aT 0 cs)<=60:=by
 rw[BB];have h1:=C0 cs;have h2:=DP cs;have h3:=C.tot;have h4:=C.hi;generalize cs.sum=S at *;have h5:S*S<=12*S:=Uo S h3;ac_rfl
theorem AR(C:Cnt cs):2<=(aT 0 cs).length/\(aT 0 cs).length<=12:=by
 rw[p0];have h:∀cs:List Nat,(∀c∈cs,1<=c)->cs.length<=cs.sum:=by
  intro cs;induction cs with
  |nil=>intro _;simp
  |cons c cs ih=>
   intro h;have h1:=h c (by simp);have h2:=ih λx hx=>h x (by simp[hx]);simp only[bp,xz];ac_rfl
 have:=h cs C.ok;have:=C.lo;have:=C.tot;ac_rfl
end Lw
namespace Lw
open L2 Z
open Sf (Rw crs qT Pre Good aH aY place many)
open Fl (kd ids Walk cZ tls pc aK Pt)
noncomputable def ascs(ks Y6:List Int):Nat->Nat->List Int
 |0,_=>[]
 |m+1,j=>(if kd ks (Y6.getD j 0)<kd ks (Y6.getD (j+1) 0) then [(j:Int)] else [])++ascs ks Y6 m (j+1)
theorem C8(ks Y6:List Int):∀(m j:Nat) (x:Int),x∈ascs ks Y6 m j -> ∃p:Nat,x=p/\p<j+m/\kd ks (Y6.getD p 0)<kd ks (Y6.getD (p+1) 0)
 |0,_,_,h=>by cases h
 |m+1,j,x,h=>by
  rw[ascs,dv] at h;rcases h with h | h
  ·split at h
   ·rw[dq] at h;exact⟨j,h,(by ac_rfl),by assumption⟩
   ·cases h
  ·obtain⟨p,e,l,k⟩:=C8 ks Y6 m (j+1) x h;exact⟨p,e,(by ac_rfl),k⟩
theorem C7(ks Y6:List Int):∀(m j:Nat),ascs ks Y6 m j=[] -> ∀p,j<=p->p<j+m->kd ks (Y6.getD (p+1) 0)<=kd ks (Y6.getD p 0)
 |0,_,_,p,h1,h2=>by ac_rfl
 |m+1,j,h,p,h1,h2=>by
  rw[ascs,List.append_eq_nil_iff] at h;by_cases e:p=j
  ·subst e;have:=h.1;split at this
   ·cases this
   ·ac_rfl
  ·exact C7 ks Y6 m (j+1) h.2 p (by ac_rfl) (by ac_rfl)
theorem C9(ks Y6:List Int):∀(m j:Nat),(ascs ks Y6 m j).length<=m
 |0,_=>bj _
 |m+1,j=>by rw[ascs,br];have:=C9 ks Y6 m (j+1);split<;>simp<;>ac_rfl
variable {Y6:List Int}
theorem Na(hn:ks.length<=12)(P:Pt ks.length Y6):∀(m j:Nat) (acc:List Int),j+m+1=ks.length->acc.length+m<=100->Q (.nw (.lst (b8 (acc++ascs ks Y6 m j)))) ->
  d8 [.un,.v (.lst (b8 ks)),.v (.lst (b8 Y6))] (gN 0) (aW (aQ BN (aQ cA (a8 1) (aQ cA (a8 2) (a8 0))) (aQ cA (a8 1) (aQ cA (a8 2) (aQ eJ (a8 0) (eC (.int 1))))))) (a8 0) (bX j m) (b8 acc) Q:=by
 have hl:=P.len;intro m;induction m with
 |zero=>
  intro j acc _ ha h;push_cast [fA];simpa [ascs] using h
 |succ m ih=>
  intro j acc hj ha h;have b1:=P.bd j (by ac_rfl);have b2:=P.bd (j+1) (by ac_rfl);push_cast [dS,i6 (show j<Y6.length by ac_rfl),show ((j:Int)+1)=((j+1:Nat):Int) by ac_rfl,i6 (show j+1<Y6.length by ac_rfl),k7 b1.1 (show Y6.getD j 0<ks.length by ac_rfl),k7 b2.1 (show Y6.getD (j+1) 0<ks.length by ac_rfl),bi];rw[ascs] at h;by_cases e:kd ks (Y6.getD j 0)<kd ks (Y6.getD (j+1) 0)
  ·rw[Y4 e];rw[Y4 e] at h;refine⟨(by ac_rfl),?_⟩;rw[show b8 acc++[Dv.int (j:Int)]=b8 (acc++[(j:Int)]) by simp];exact ih (j+1) _ (by ac_rfl) (by simp;ac_rfl) (by simpa using h)
  ·rw[XF e];rw[XF e] at h;exact ih (j+1) _ (by ac_rfl) (by ac_rfl) (by simpa using h)
theorem Mb:∀l:List Int,eqD (.lst (b8 l)) (.lst [])=l.isEmpty
 | []=>by simp[eqD,fY,fY.pyDs,gr,iu]
 |i::l=>by simp[eqD,fY,fY.pyDs,gr,iu]
theorem UD(l:List Int):dL 8 (.lst (b8 l))=ai:=pF 7 l
noncomputable def pT:Fn:=λds Q=>∃(ks:List Int) (c:Int),ds=[.lst (b8 ks),.int c]/\2<=ks.length/\ks.length<=12/\pc ks<=60 /\ ∀row e,Walk ks (ids ks.length) row e->cZ ks e->row.length<=60->Q (.nw (.lst (b8 row)))
theorem Jg:∀ds Q,pT ds Q->ds.length=2:=by rintro ds Q ⟨_,_,rfl,_⟩;rfl
theorem Lx:MonoF pT:=⟨λds Q Q' w z=>by obtain⟨a,b,c,d,e,f,h⟩:=z;exact⟨a,b,c,d,e,f,λr x y z u=>w _ (h r x y z u)⟩⟩
variable {E:En}{x0 x1 x3 x4 x5 x6 x7 x8:Sl}
theorem Nh(hl:Y6.length=ks.length)(h:tl E [x0,x1,.v (.lst (b8 Y6)),x3,x4,x5,.v (.int ((ks.length:Int)-1)),x7,x8]):
  aO (bD 6 (aQ kU (eY e9 (a7 (a8 2) aF)) (eC (.int 1)))) tl E [x0,x1,.v (.lst (b8 Y6)),x3,x4,x5,x6,x7,x8]:=by
 push_cast [bi,hl];exact h
theorem Ng(h2:2<=ks.length)(hn:ks.length<=12)(P:Pt ks.length Y6)(h:tl E [.v (.lst (b8 ks)),x1,.v (.lst (b8 Y6)),x3,x4,x5,.v (.int ((ks.length:Int)-1)),.v (.lst (b8 (ascs ks Y6 (ks.length-1) 0))),x8]):
  aO (bD 7 (gM 1 [0,2] (iN (a7 (a8 6) aF)) (gN 0) (aW (aQ BN (aQ cA (a8 1) (aQ cA (a8 2) (a8 0))) (aQ cA (a8 1) (aQ cA (a8 2) (aQ eJ (a8 0) (eC (.int 1))))))) (a8 0))) tl E [.v (.lst (b8 ks)),x1,.v (.lst (b8 Y6)),x3,x4,x5,.v (.int ((ks.length:Int)-1)),x7,x8]:=by
 push_cast [Z.nM];refine⟨(by ac_rfl),?_⟩;rw[show ((ks.length:Int)-1).toNat=ks.length-1 by ac_rfl];exact Na hn P (ks.length-1) 0 [] (by ac_rfl) (by simp;ac_rfl) h
variable {x2:Sl}
theorem Nf(h0:l=[]->E.rt (.nw (.lst (b8 row))))(h1:l≠[]->tl E [x0,x1,x2,.own a (.lst (b8 row)),x4,x5,x6,.v (.lst (b8 l)),x8]):
  aO (jE (aW (aQ sF (a8 7) (i7 aF))) (c9 (a8 3)) bN) tl E [x0,x1,x2,.own a (.lst (b8 row)),x4,x5,x6,.v (.lst (b8 l)),x8]:=by
 push_cast [Mb,UD];refine⟨rfl,?_⟩;cases l with
 |nil=>exact h0 rfl
 |cons i l=>exact h1 (by simp)
theorem Nd{c k:Int}(hl:l≠[])(hk:0<=k/\k<=500)(h:∀q:Int,0<=q->q<l.length->tl E [x0,.v (.int c),x2,x3,x4,.v (.int k),x6,.v (.lst (b8 l)),.v (.int q)]):
  aO (bD 8 (aR kG (a7 (a8 1) (a7 (a8 5) (a7 (eY e9 (a7 (a8 7) aF)) aF))))) tl E [x0,.v (.int c),x2,x3,x4,.v (.int k),x6,.v (.lst (b8 l)),x8]:=by
 have hpos:(0:Int)<l.length:=by cases l with | nil=>exact absurd rfl hl | cons=>simp<;>ac_rfl
 push_cast [bi];refine⟨c,k,l.length,rfl,hk.1,hk.2,hpos,λq q0 q1=>?_⟩;push_cast [Z.nM];exact h q q0 q1
variable {q:Int}
theorem Nc{Y7:Int}(hl:l≠[])(ll:l.length<=100)(q0:0<=q)(q1:q<l.length)(h:∀Y7 q:Int,0<=q->q<l.length->tl E [x0,x1,x2,x3,.v (.int Y7),x5,x6,.v (.lst (b8 l)),.v (.int q)]):
  aO (jE (aW (aQ JL (a8 4) (eC (.int 1)))) (aO (bD 8 (aQ iW (a8 4) (eY e9 (a7 (a8 7) aF)))) (bD 4 (aQ pW (a8 4) (eY e9 (a7 (a8 7) aF))))) bN) tl E [x0,x1,x2,x3,.v (.int Y7),x5,x6,.v (.lst (b8 l)),.v (.int q)]:=by
 have hpos:(0:Int)<l.length:=by cases l with | nil=>exact absurd rfl hl | cons=>simp<;>ac_rfl
 push_cast [bi];split
 ·exact⟨hpos,⟨hpos,(by ac_rfl)⟩,h _ _ (Um Y7 (by ac_rfl)) (ss Y7 hpos)⟩
 ·exact h _ _ q0 q1
theorem Nb{p:Nat}(q0:0<=q)(q1:q<l.length)(ep:l.getD q.toNat 0=p)(hp:p+1<Y6.length)(pl:Y6.length<=100)(rl:row.length<=200)(h:E.nx [x0,x1,.v (.lst (b8 (aK Y6 p))),.own a (.lst (b8 row++[Dv.int (p:Int)])),x4,x5,x6,.v (.lst (b8 l)),.v (.int q)]):
  aO (p7 3 (aQ cA (a8 7) (a8 8))) (bD 2 (aR cV (a7 (a8 2) (a7 (aQ cA (a8 7) (a8 8)) aF)))) E [x0,x1,.v (.lst (b8 Y6)),.own a (.lst (b8 row)),x4,x5,x6,.v (.lst (b8 l)),.v (.int q)]:=by
 push_cast [k7 q0 q1,ep,bi];refine⟨(by ac_rfl),Y6,p,rfl,pl,hp,?_⟩;push_cast [Z.nM];exact h
theorem UG{d:Dv}{Q:List Sl->Prop}(h:Q [x0,x1,x2,x3,x4,.v d,x6,x7,x8]):gN 5 d [x0,x1,x2,x3,x4,x5,x6,x7,x8] Q:=by
 push_cast [Z.nM];exact h
theorem Ni{c:Int}(h2:2<=ks.length)(hn:ks.length<=12)(hp:pc ks<=60)(hQ:∀row e,Walk ks (ids ks.length) row e->cZ ks e->row.length<=60->Q (.nw (.lst (b8 row))))(hE:E.rt=Q):
  ∀(i k:Nat) (Y7:Int) (Y6 row:List Int) (s5 s6 s7 s8:Sl),k+i=ks.length*ks.length->row.length=k->Walk ks (ids ks.length) row Y6 ->
  bM (gN 5) (kO kG cV) [] (bX k i) E [.v (.lst (b8 ks)),.v (.int c),.v (.lst (b8 Y6)),.own a (.lst (b8 row)),.v (.int Y7),s5,s6,s7,s8]:=by
 have sq:ks.length*ks.length<=12*12:=ml hn hn;have pl:=Fl.O0 (l:=ks) (by ac_rfl);have VM:∀{row Y6},Walk ks (ids ks.length) row Y6->row.length<=pc ks:=λw=>by
  have:=w.count (by simp);rw[Fl.D0] at this;ac_rfl
 intro i;induction i with
 |zero=>
  intro k Y7 Y6 row s5 s6 s7 s8 hk rl w;have:=VM w;ac_rfl
 |succ i ih=>
  intro k Y7 Y6 row s5 s6 s7 s8 hk rl w;rw[dS,cO];refine⟨λp hp=>by simp at hp,?_⟩;have P:=w.pt (Pt.ids _);have hl:=P.len;have rw60:=VM w;have next:∀(Y7:Int) (p:Nat) (s5 s6 s7 s8:Sl),p+1<ks.length->kd ks (Y6.getD p 0)<kd ks (Y6.getD (p+1) 0) ->
    bM (gN 5) (kO kG cV) [] (bX ((k:Int)+1) i) E [.v (.lst (b8 ks)),.v (.int c),.v (.lst (b8 (aK Y6 p))),.own a (.lst (b8 row++[Dv.int (p:Int)])),.v (.int Y7),s5,s6,s7,s8]:=λY7 p s5 s6 s7 s8 hp hk'=>by
   have:=ih (k+1) Y7 (aK Y6 p) (row++[(p:Int)]) s5 s6 s7 s8 (by ac_rfl) (by simp[rl]) (w.snoc hp hk');rw[show (((k+1:Nat)):Int)=(k:Int)+1 by ac_rfl] at this;simpa using this
  generalize bM (gN 5) (kO kG cV) [] (bX ((k:Int)+1) i) E=G at next ⊢;have am:=C8 ks Y6 (ks.length-1) 0;have an:=C7 ks Y6 (ks.length-1) 0;have al:=C9 ks Y6 (ks.length-1) 0;refine UG (Nh hl (Ng h2 hn P ?_));generalize ascs ks Y6 (ks.length-1) 0=l at am an al;refine Nf (λle=>?_) λle=>Nd le (by ac_rfl) λq q0 q1=>Nc le (by ac_rfl) q0 q1 λY7 q q0 q1=>?_
  ·show E.rt _;rw[hE];exact hQ row Y6 w (λp hp=>an le p (by ac_rfl) (by ac_rfl)) (by ac_rfl)
  ·have hin:l.getD q.toNat 0∈l:=by
    have hk:q.toNat<l.length:=(by ac_rfl);simp only[dg,ar hk,getD_some];exact eh hk
   obtain⟨p,ep,lp,kp⟩:=am _ hin;exact Nb q0 q1 ep (by ac_rfl) (by ac_rfl) (by ac_rfl) (next Y7 p _ _ _ _ (by ac_rfl) kp)
theorem Ec:∀ds Q,pT ds Q->sI kG cV ({ nx:=λ_=>Q (.v .non),rt:=Q }) (aN ["_law_bands_here", "_law_cell", "_law_path", "_law_row_here", "_law_rest", "_law_step", "_law_last", "_law_spots", "_law_pick_here"] ds):=by
 rintro ds Q ⟨ks,c,rfl,h2,hn,hp,h⟩;have sq:ks.length*ks.length<=12*12:=ml hn hn;push_cast [bi];refine⟨(by ac_rfl),?_⟩;intro a;rw[show ((ks.length:Nat):Int).toNat=ks.length by ac_rfl,vE ks.length];have e:(ks.length:Int)*(ks.length:Int)=((ks.length*ks.length:Nat):Int):=by simp
 refine⟨tV (by ac_rfl) (by ac_rfl),by rw[e];ac_rfl,?_⟩;rw[e,bw];exact Ni (Q:=Q) h2 hn hp h rfl (ks.length*ks.length) 0 c _ [] _ _ _ _ (by ac_rfl) rfl (.nil _)
end Lw
namespace Lw
open L2 Z
open Sf (Rw crs qT Pre Good aH aY place many)
open Fl (kd ids Walk cZ tls pc aK Pt)
noncomputable def Al(ts us:List Ti):Prop:=ts.length=us.length /\ ∀(i:Nat) (t u:Ti),ts[i]?=aa t->us[i]?=aa u->t.1=u.1/\t.2.1=u.2.1/\t.2.2=Fl.srt u.2.2
theorem Al.nil:Al [] []:=⟨rfl,λi t u h=>by simp at h⟩
theorem Al.snoc{ts us:List Ti}{t u:Ti}(h:Al ts us)(e1:t.1=u.1)(e2:t.2.1=u.2.1)(e3:t.2.2=Fl.srt u.2.2):Al (ts++[t]) (us++[u]):=by
 refine⟨by simp[h.1],λi x y hx hy=>?_⟩;by_cases hi:i<ts.length
 ·rw[bh hi] at hx;rw[bh (by rw[<- h.1];exact hi)] at hy;exact h.2 i x y hx hy
 ·rw[ay (by ac_rfl)] at hx;rw[ay (by rw[<- h.1];ac_rfl)] at hy;have:i-ts.length=0:=by
   have:=(bb.mp hx).1;simp at this;ac_rfl
  rw[this] at hx;rw[<- h.1,this] at hy;simp only[sy,jj] at hx hy;subst hx hy;exact⟨e1,e2,e3⟩
noncomputable def iZ(ks row:List Int)(fl:List Ti):Prop:=∃ts,fl.Perm ts/\Al ts (tls (ids ks.length) row)
variable {e:List Int}
theorem Al.keys{ts:List Ti}(w:Walk ks (ids ks.length) row e)(h:Al ts (tls (ids ks.length) row)):tD ts:=by
 have nd:=w.nodup (Pt.ids _);rw[List.nodup_iff_pairwise_ne,gm] at nd;have pw:=cf.mp nd;refine cf.mpr λi j hi hj hij z=>?_;have hi':i<(tls (ids ks.length) row).length:=by rw[<- h.1];exact hi
 have hj':j<(tls (ids ks.length) row).length:=by rw[<- h.1];exact hj
 obtain⟨a1,a2,_⟩:=h.2 i _ _ (ar hi) (ar hi');obtain⟨b1,b2,_⟩:=h.2 j _ _ (ar hj) (ar hj');exact pw i j hi' hj' hij (by rw[<- a1,<- a2,<- b1,<- b2,z.1,z.2])
theorem tD.perm{a b:List Ti}(h:tD a)(p:a.Perm b):tD b:=(p.pairwise_iff (λ{x y} h z=>h ⟨z.1.symm,z.2.symm⟩)).mp h
theorem iZ.keys{ks row e:List Int}{fl:List Ti}(w:Walk ks (ids ks.length) row e)(h:iZ ks row fl):tD fl:=by
 obtain⟨ts,p,a⟩:=h;exact(a.keys w).perm p.symm
theorem iZ.len{fl:List Ti}(h:iZ ks row fl):fl.length=row.length:=by
 obtain⟨ts,p,a⟩:=h;rw[p.length_eq,a.1,Fl.jD]
theorem iZ.cov{fl:List Ti}(w:Walk ks (ids ks.length) row e)(d:cZ ks e)(m:k8 ks)(h:iZ ks row fl):TK ks fl:=by
 obtain⟨ts,p,al⟩:=h;intro a c h0 hac hc hk;have:=m a c h0 (by ac_rfl) hc;obtain⟨t,ht,e1,e2⟩:=w.all (Pt.ids _) d (x:=a) (y:=c) (by ac_rfl) (Fl.w9 h0 hac hc);obtain⟨i,hi,gi⟩:=ed.mp ht;have hi':i<ts.length:=by rw[al.1];exact hi
 obtain⟨a1,a2,_⟩:=al.2 i _ _ (ar hi') (ar hi);exact⟨ts[i],p.mem_iff.mpr (eh hi'),by rw[a1,gi,e1],by rw[a2,gi,e2]⟩
theorem iZ.below{fl:List Ti}(w:Walk ks (ids ks.length) row e)(h:iZ ks row fl){k:Nat}{v:Ti}(hk:(tls (ids ks.length) row)[k]?=aa v):bT fl v.1 v.2.1=Fl.srt v.2.2:=by
 have ky:=h.keys w;obtain⟨ts,p,al⟩:=h;obtain⟨hk',gk⟩:=bb.mp hk;have hi':k<ts.length:=by rw[al.1];exact hk'
 obtain⟨a1,a2,a3⟩:=al.2 k _ _ (ar hi') hk;have hm:ts[k]∈fl:=p.mem_iff.mpr (eh hi');obtain⟨u,hu,mu,u1,u2,eu⟩:=o0 (l:=fl) (a:=v.1) (c:=v.2.1) ⟨ts[k],hm,a1,a2⟩;have:u=ts[k]:=by
  obtain⟨i,hi,gi⟩:=ed.mp mu;obtain⟨j,hj,gj⟩:=ed.mp hm;have pw:=cf.mp ky;rcases vc i j with z | z | z
  ·exact(pw i j hi hj z ⟨by rw[gi,gj,u1,a1],by rw[gi,gj,u2,a2]⟩).elim
  ·subst z;rw[<- gi,gj]
  ·exact(pw j i hj hi z ⟨by rw[gi,gj,u1,a1],by rw[gi,gj,u2,a2]⟩).elim
 rw[eu,this];exact a3
theorem Fk{r:List Int}(w:Walk ks l r e)(p:Nat):tls l (r++[(p:Int)])=tls l r++[(e.getD p 0,e.getD (p+1) 0,e.take p)]:=by
 induction w with
 |nil l=>simp[tls]
 | @cons l e r q a b w ih=>rw[jn,tls,tls,bw,ih,jn]
noncomputable def UN(fl:List Ti):Prop:=fl.Pairwise λt u=>lexB [t.1,t.2.1] [u.1,u.2.1]=ai
noncomputable def iV:Fn:=λds Q=>∃(ks row e:List Int),ds=[.lst (b8 ks),.lst (b8 row)]/\ks.length<=12/\Walk ks (ids ks.length) row e/\row.length<=60 /\ ∀fl,iZ ks row fl->UN fl->Q (.nw (.lst (fM fl)))
theorem F3:∀ds Q,iV ds Q->ds.length=2:=by rintro ds Q ⟨_,_,_,rfl,_⟩;rfl
theorem H9:MonoF iV:=⟨λds Q Q' w z=>by obtain⟨a,b,c,d,e,f,g,h⟩:=z;exact⟨a,b,c,d,e,f,g,λr x y=>w _ (h r x y)⟩⟩
variable {Y6:List Int}{p:Nat}{E:En}{x0 x1:Sl}
theorem Oq{ms:List Int}{l:List Dv}(hp:p+1<Y6.length)(pl:Y6.length<=20)(ll:l.length<=200)(h:∀ms:List Int,ms=Fl.srt (Y6.take p)->tl E [x0,x1,.v (.lst (b8 Y6)),.own a (.lst (l++[Dv.tup [Dv.int (Y6.getD p 0),Dv.int (Y6.getD (p+1) 0),Dv.tup (b8 ms)]])),.v (.int p)]):
  aO (p7 3 (bQ (a7 (aQ cA (a8 2) (a8 4)) (a7 (aQ cA (a8 2) (aQ eJ (a8 4) (eC (.int 1)))) (a7 (eY jU (a7 (eY hU (a7 (IU (a8 2) iO (pJ (a8 4))) aF)) aF)) aF))))) tl E [x0,x1,.v (.lst (b8 Y6)),.own a (.lst l),.v (.int p)]:=by
 push_cast [i6 (show p<Y6.length by ac_rfl),show ((p:Int)+1)=((p+1:Nat):Int) by ac_rfl,i6 hp,IB (show (0:Int)<=p by ac_rfl),bw,<- WR];refine yD (by rw[dj];ac_rfl) λms hm hs=>?_;push_cast [Z.nM];exact⟨(by ac_rfl),h ms (Fl.c8 hm hs)⟩
variable {x3:Sl}
theorem Op(hp:p+1<Y6.length)(pl:Y6.length<=20)(h:E.nx [x0,x1,.v (.lst (b8 (aK Y6 p))),x3,.v (.int p)]):bD 2 (aR cV (a7 (a8 2) (a7 (a8 4) aF))) E [x0,x1,.v (.lst (b8 Y6)),x3,.v (.int p)]:=by
 push_cast [Z.nM];refine⟨Y6,p,rfl,(by ac_rfl),hp,?_⟩;push_cast [Z.nM];exact h
theorem UH{d:Dv}{x2 x4:Sl}{Q:List Sl->Prop}(h:Q [x0,x1,x2,x3,.v d]):gN 4 d [x0,x1,x2,x3,x4] Q:=by
 push_cast [Z.nM];exact h
theorem K2{x y:Sl}(hn:ks.length<=12):∀(r done Y6 e:List Int) (ts:List Ti) (s:Sl),Walk ks (ids ks.length) done Y6->Walk ks Y6 r e->Al ts (tls (ids ks.length) done)->ts.length+r.length<=100 ->
  (∀Y6 ts s,Al ts (tls (ids ks.length) (done++r))->E.nx [x,y,.v (.lst (b8 Y6)),.own a (.lst (fM ts)),s]) ->
  bM (gN 4) (iS cV) [] (b8 r) E [x,y,.v (.lst (b8 Y6)),.own a (.lst (fM ts)),s]:=by
 intro r;induction r with
 |nil=>
  intro done Y6 e ts s w1 w2 al hl h;rw[show b8 []=[] from rfl,cI];exact⟨λp hp=>by simp at hp,h Y6 ts s (by simpa using al)⟩
 |cons p r ih=>
  intro done Y6 e ts s w1 w2 al hl h;obtain⟨p,rfl,hp,hk,w2'⟩:∃q:Nat,p=q/\q+1<ks.length/\kd ks (Y6.getD q 0)<kd ks (Y6.getD (q+1) 0)/\Walk ks (aK Y6 q) r e:=by
   cases w2 with
   |cons a b w=>exact⟨_,rfl,a,b,w⟩
  have P:=w1.pt (Pt.ids _);have pl:=P.len;simp only[bp] at hl;rw[show b8 ((p:Int)::r)=.int p::b8 r from rfl,cO];refine⟨λp hp=>by simp at hp,?_⟩;have next:∀ms:List Int,ms=Fl.srt (Y6.take p)->bM (gN 4) (iS cV) [] (b8 r) E [x,y,.v (.lst (b8 (aK Y6 p))),.own a (.lst (fM ts++[Dv.tup [Dv.int (Y6.getD p 0),Dv.int (Y6.getD (p+1) 0),Dv.tup (b8 ms)]])),.v (.int p)]:=λms hm=>by
   have al':Al (ts++[(Y6.getD p 0,Y6.getD (p+1) 0,ms)]) (tls (ids ks.length) (done++[(p:Int)])):=by
    rw[Fk w1];exact al.snoc rfl rfl hm
   have:=ih (done++[(p:Int)]) (aK Y6 p) e (ts++[(Y6.getD p 0,Y6.getD (p+1) 0,ms)]) (.v (.int p)) (w1.snoc hp hk) w2' al' (by simp;ac_rfl) (by simpa using h);simpa using this
  generalize bM (gN 4) (iS cV) [] (b8 r) E=G at next ⊢;exact UH (Oq (ms:=[]) (by ac_rfl) (by ac_rfl) (by simp;ac_rfl) λms hm=>Op (by ac_rfl) (by ac_rfl) (next ms hm))
theorem BJ:∀ds Q,iV ds Q->nG cV ({ nx:=λ_=>Q (.v .non),rt:=Q }) (aN ["_law_bands_here", "_law_row_here", "_law_path", "_law_tiles", "_law_p"] ds):=by
 rintro ds Q ⟨ks,row,e,rfl,hn,w,rl,h⟩;push_cast [bi];refine⟨(by ac_rfl),?_⟩;intro a;rw[show ((ks.length:Nat):Int).toNat=ks.length by ac_rfl,vE ks.length];refine K2 hn row [] (ids ks.length) e [] _ (.nil _) w Al.nil (by simp;ac_rfl) λY6 ts s al=>?_;push_cast [Z.nM];rw[oh] at al;have tl:ts.length=row.length:=by rw[al.1,Fl.jD]
 rw[show fM ts=(ts.map λt=>([t.1,t.2.1],[Dv.tup (b8 t.2.2)])).map tI by rw[lj];rfl];refine yC (k:=1) (by simp;ac_rfl) (λt ht=>?_) ?_ λts' hp hs=>?_
 ·obtain⟨u,_,rfl⟩:=fx.mp ht;rfl
 ·rw[gm];exact(al.keys w).imp λ{t u} z q=>z (by simpa using q)
 ·obtain⟨fl,hf,rfl⟩:=lC hp rfl;rw[lj];rw[gm] at hs;push_cast [Z.nM];exact h fl ⟨ts,hf,al⟩ hs
noncomputable def nL:Fn:=λds Q=>∃(l:List Int) (k:Int),ds=[.lst (b8 l),.int k]/\l.length<=100/\Q (.v (.int ((l.filter λb=>decide (b=k)).length)))
theorem F2:∀ds Q,nL ds Q->ds.length=2:=by rintro ds Q ⟨_,_,rfl,_⟩;rfl
theorem Gz:MonoF nL:=⟨λds Q Q' w z=>by obtain⟨a,b,c,d,h⟩:=z;exact⟨a,b,c,d,w _ h⟩⟩
theorem MX{k:Int}:∀(l acc:List Int),acc.length+l.length<=100->Q (.nw (.lst (b8 (acc++l.filter λb=>decide (b=k))))) ->
  d8 [.un,.v (.int k)] (gN 0) (aW (aQ sF (a8 0) (a8 1))) (a8 0) (b8 l) (b8 acc) Q:=by
 intro l;induction l with
 |nil=>
  intro acc _ h;push_cast [Z.nM];simpa using h
 |cons b l ih=>
  intro acc hl h;simp only[bp] at hl;push_cast [bi];by_cases e:b=k
  ·rw[Y4 e];refine⟨(by ac_rfl),?_⟩;rw[show b8 acc++[Dv.int b]=b8 (acc++[b]) by simp];refine ih _ (by simp;ac_rfl) ?_;rw[pq (by simpa using e)] at h;simpa using h
  ·rw[XF e];refine ih _ (by ac_rfl) ?_;rw[px (by simpa using e)] at h;exact h
theorem Cf:∀ds Q,nL ds Q->pQ ({ nx:=λ_=>Q (.v .non),rt:=Q }) (aN ["_law_bands_here", "_law_kind"] ds):=by
 rintro ds Q ⟨l,k,rfl,hl,h⟩;push_cast [Z.nM];refine MX l [] (by simp;ac_rfl) ?_;push_cast [bi];exact h
theorem wC:∀(j:Nat) (cs:List Nat) (i:Nat),((aT j cs).filter λb=>decide (b=((j+i:Nat):Int))).length=cs.getD i 0
 |_,[],i=>by simp[aT]
 |j,c::cs,0=>by
  have key:∀(k:Nat) (cs:List Nat),j<k->(aT k cs).filter (λb=>decide (b=((j+0:Nat):Int)))=[]:=by
   intro k cs hk;apply ki.mpr;intro x hx;have:=(qQ k cs).2 x hx;simp;ac_rfl
  rw[aT,ve,key (j+1) cs (by ac_rfl),ii,V1.mpr (λx hx=>by rw[dw hx];simp)];simp
 |j,c::cs,i+1=>by
  have e:=wC (j+1) cs i;rw[aT,ve,br];have z:(au c (j:Int)).filter (λb=>decide (b=((j+(i+1):Nat):Int)))=[]:=by
   apply ki.mpr;intro x hx;rw[dw hx];simp;ac_rfl
  rw[z,show j+(i+1)=j+1+i by ac_rfl,e];simp
variable {cs:List Nat}
theorem wN(C:Cnt cs):sE (b8 (aT 0 cs)) (-1)=aa (.int ((cs.length:Int)-1)):=by
 have hne:cs≠[]:=by intro z;have:=C.lo;rw[z] at this;simp at this
 have e:cs=cs.dropLast++[cs.getLast hne]:=(vn hne).symm;have h1:=C.ok _ (List.getLast_mem hne);have lo:=C.lo;generalize cs.getLast hne=c at *;generalize cs.dropLast=ds at *;subst e;obtain⟨c,rfl⟩:∃k,c=k+1:=⟨c-1,(by ac_rfl)⟩;rw[qP,ox];unfold sE uK;rw[XF (by decide),Y4 (by simp;ac_rfl)];simp only[bi,br,oq,Option.bind_some];rw[show (-1+(((aT 0 ds).length+(c+1):Nat):Int)).toNat=(aT 0 ds).length+c by ac_rfl];simp
noncomputable def GB(k:Nat)(c:Nat):Rw:=⟨6-2*(k:Int),1,(c:Int)⟩
noncomputable def cL:Nat->List Nat->List Rw
 |_,[]=>[]
 |k,c::cs=>GB k c::cL (k+1) cs
theorem rJ:∀(k:Nat) (cs:List Nat),(cL k cs).length=cs.length
 |_,[]=>rfl
 |k,c::cs=>by rw[cL,bp,bp,rJ]
theorem vD:∀(k:Nat) (cs:List Nat),aY k (cL k cs)=aT k cs
 |_,[]=>rfl
 |k,c::cs=>by
  rw[cL,aY,aT,vD (k+1) cs];rfl
theorem vC:∀(k:Nat) (cs:List Nat) (r:Rw),r∈cL k cs -> ∃(j c:Nat),r=GB j c/\k<=j/\j<k+cs.length/\c∈cs
 |_,[],r,h=>by cases h
 |k,c::cs,r,h=>by
  rcases bq.mp h with rfl | h
  ·exact⟨k,c,rfl,bj _,by simp,by simp⟩
  ·obtain⟨j,d,e,h1,h2,h3⟩:=vC (k+1) cs r h;exact⟨j,d,e,(by ac_rfl),by simp;ac_rfl,by simp[h3]⟩
theorem B3:∀(k:Nat) (cs:List Nat),qT (cL k cs)
 |_,[]=>List.Pairwise.nil
 |k,c::cs=>by
  refine eo.mpr ⟨λr hr=>?_,B3 (k+1) cs⟩;obtain⟨j,d,rfl,h1,_,_⟩:=vC (k+1) cs r hr;show 0<(6-2*(k:Int))*1-(6-2*(j:Int))*1;ac_rfl
theorem xZ:∀(k:Nat) (cs:List Nat),many (cL k cs)=(cs.sum:Int)
 |_,[]=>rfl
 |k,c::cs=>by
  have:=xZ (k+1) cs;unfold many at this ⊢;rw[cL,cp,xz,this,xz];show (c:Int)+_=_;ac_rfl
theorem ET(C:Cnt cs):Good (cL 0 cs):=by
 have lo:=C.lo;have hi:=C.hi;have tt:=C.tot;refine⟨by rw[rJ];ac_rfl,by rw[rJ];ac_rfl,B3 0 cs,λr hr=>?_,by rw[xZ];ac_rfl⟩;obtain⟨j,c,rfl,_,h2,h3⟩:=vC 0 cs r hr;have:=C.ok c h3;refine⟨.inl (by show (0:Int)<1;decide),?_,?_,?_,?_⟩
 ·show -999999999999<=6-2*(j:Int);ac_rfl
 ·show 6-2*(j:Int)<=999999999999;ac_rfl
 ·show (1:Int)<=999999999999;decide
 ·show (1:Int)<=(c:Int);ac_rfl
noncomputable def gI(C:af):Fn:=λds Q=>∃cs:List Nat,ds=[.lst (b8 (aT 0 cs))]/\Cnt cs/\Q (.nw (bH C (cL 0 cs)))
theorem Cw:∀ds Q,gI C ds Q->ds.length=1:=by rintro ds Q ⟨_,rfl,_⟩;rfl
theorem Eu:MonoF (gI C):=⟨λds Q Q' w z=>by obtain⟨a,b,c,h⟩:=z;exact⟨a,b,c,w _ h⟩⟩
theorem xY:∀(k:Nat) (cs:List Nat) (c:Nat),cL k (cs++[c])=cL k cs++[GB (k+cs.length) c]
 |_,[],_=>by simp[cL]
 |k,a::cs,c=>by
  rw[jn,cL,cL,xY (k+1) cs c,jn,bp,show k+1+cs.length=k+(cs.length+1) by ac_rfl]
theorem Il(C:Cnt cs):∀(m k:Nat),k+m=cs.length->Q (.nw (.lst (CB (cL 0 cs)))) ->
  d8 [.un,.v (.lst (b8 (aT 0 cs)))] (gN 0) mV (bQ (a7 (aQ kU (eC (.int 6)) (aQ g6 (eC (.int 2)) (a8 0))) (a7 (eC (.int 1)) (a7 (aR nL (a7 (a8 1) (a7 (a8 0) aF))) aF)))) (bX k m) (CB (cL 0 (cs.take k))) Q:=by
 intro m;have hi:=C.hi;have bl:=(AR C).2;induction m with
 |zero=>
  intro k hk h;rw[fA,fH,nk (by ac_rfl)];exact h
 |succ m ih=>
  intro k hk h;have hlt:k<cs.length:=(by ac_rfl);have rl:=rJ 0 (cs.take k);rw[dj] at rl;push_cast [dS];refine⟨tV (by ac_rfl) (by ac_rfl),aT 0 cs,k,rfl,(by ac_rfl),?_⟩;have fb:=wC 0 cs k;rw[ox] at fb;push_cast [fb,bi];refine⟨(by ac_rfl),?_⟩;have:=ih (k+1) (by ac_rfl) h;rw[List.take_add_one,ar hlt] at this;simp only[Option.toList_some] at this;rw[xY,ox,dj,lr (by ac_rfl),show (((k+1:Nat)):Int)=(k:Int)+1 by ac_rfl] at this;unfold CB at this ⊢;rw[uz] at this;have ec:cs.getD k 0=cs[k]:=by simp[dg,hlt]
  rw[ec];exact this
theorem BI:∀ds Q,gI C ds Q->nF nL (rF C) ({ nx:=λ_=>Q (.v .non),rt:=Q }) (aN ["_law_bands_here"] ds):=by
 rintro ds Q ⟨cs,rfl,C',h⟩;have hi:=C'.hi;have lo:=C'.lo;push_cast [wN C'];refine⟨(by ac_rfl),?_⟩;rw[show ((cs.length:Int)-1+1).toNat=cs.length by ac_rfl];refine Il C' cs.length 0 (by ac_rfl) ?_;refine⟨cL 0 cs,rfl,ET C',?_⟩;push_cast [Z.nM];exact h
theorem Cy(cs:List Nat):aH (cL 0 cs)=aT 0 cs:=vD 0 cs
end Lw
namespace Lw
open L2 Z
open Sf (Rw crs qT Pre Good aH aY place many)
open Fl (kd ids Walk cZ tls pc aK Pt srt c8 yW)
theorem AD{α:Type}(f:α->Dv)(hf:∀a b,eqD (f a) (f b)=ai ↔ a=b):∀l m:List α,iu (pyDs (l.map f)) (pyDs (m.map f))=ai ↔ l=m
 | [],[]=>by simp[fY.pyDs,iu]
 | [],_::_=>by simp[fY.pyDs,iu]
 |_::_,[]=>by simp[fY.pyDs,iu]
 |a::l,b::m=>by
  show iu (fY (f a)::pyDs (l.map f)) (fY (f b)::pyDs (m.map f))=ai ↔ _;have h:=hf a b;unfold eqD at h;rw[iu,eg,AD f hf l m,h,ku]
theorem Bo(f:α->Dv)(hf:∀a b,eqD (f a) (f b)=ai ↔ a=b)(l m:List α):eqD (.lst (l.map f)) (.lst (m.map f))=ai ↔ l=m:=by
 unfold eqD;show gr (.list (pyDs _)) (.list (pyDs _))=ai ↔ _;rw[gr];exact AD f hf l m
theorem Bn(f:α->Dv)(hf:∀a b,eqD (f a) (f b)=ai ↔ a=b)(l m:List α):eqD (.tup (l.map f)) (.tup (m.map f))=ai ↔ l=m:=by
 unfold eqD;show gr (.tuple (pyDs _)) (.tuple (pyDs _))=ai ↔ _;rw[gr];exact AD f hf l m
theorem Dw(a b:Int):eqD (.int a) (.int b)=ai ↔ a=b:=by rw[Z.AE,decide_eq_true_eq]
theorem uO(l m:List Int):eqD (.tup (b8 l)) (.tup (b8 m))=decide (l=m):=by
 rw[rn,decide_eq_true_eq];exact Bn _ Dw l m
theorem Hv(t u:Ti):eqD (Fo t) (Fo u)=ai ↔ t=u:=by
 have h1:=Dw t.1 u.1;have h2:=Dw t.2.1 u.2.1;have h3:=Bn Dv.int Dw t.2.2 u.2.2;unfold eqD at h1 h2 h3 ⊢;show gr (.tuple [fY (.int t.1),fY (.int t.2.1),fY (.tup (b8 t.2.2))]) (.tuple [fY (.int u.1),fY (.int u.2.1),fY (.tup (b8 u.2.2))])=ai ↔ _;rw[gr,iu,iu,iu,iu,eg,eg,eg,h1,h2,h3];obtain⟨a,b,c⟩:=t;obtain⟨x,y,z⟩:=u;simp
theorem AF(l m:List Ti):eqD (.lst (fM l)) (.lst (fM m))=decide (l=m):=by
 rw[rn,decide_eq_true_eq];exact Bo _ Hv l m
theorem QU(l m:List (Int×Int×Int)):eqD (.lst (cX l)) (.lst (cX m))=decide (l=m):=by
 rw[rn,decide_eq_true_eq];refine Bo _ (λt u=>?_) l m;rw[show Dv.tup [Dv.int t.1,Dv.int t.2.1,Dv.int t.2.2]=.tup (b8 [t.1,t.2.1,t.2.2]) from rfl,show Dv.tup [Dv.int u.1,Dv.int u.2.1,Dv.int u.2.2]=.tup (b8 [u.1,u.2.1,u.2.2]) from rfl,uO,decide_eq_true_eq];obtain⟨a,b,c⟩:=t;obtain⟨x,y,z⟩:=u;simp
theorem oU(n:Nat):∀l:List Dv,(∀d∈l,dL n d=ai)->okDs n l=ai
 | [],_=>rfl
 |d::r,h=>by
  show (dL n d&&okDs n r)=ai;rw[h d (by simp),oU n r λx hx=>h x (by simp[hx])];rfl
theorem BU(l:List (Int×Int×Int)):dL 8 (.lst (cX l))=ai:=oU 7 _ λd hd=>by
 obtain⟨t,_,rfl⟩:=fx.mp hd;exact pF 6 [t.1,t.2.1,t.2.2]
theorem Gr(l:List Ti):dL 8 (.lst (fM l))=ai:=oU 7 _ λd hd=>by
 obtain⟨t,_,rfl⟩:=fx.mp hd;refine oU 6 _ λd hd=>?_;simp only[bq,ip,or_false] at hd;rcases hd with rfl | rfl | rfl
 ·rfl
 ·rfl
 ·exact pF 5 _
theorem jW(l:List Int):dL 8 (.tup (b8 l))=ai:=pF 7 l
theorem KZ(l:List Int)(b:Int):b8 l++[Dv.int b]=b8 (l++[b]):=by simp
noncomputable def l7:Fn:=λds Q=>∃(l:List Int) (b:Int),ds=[.tup (b8 l),.int b]/\l.length<=30/\Q (.v (.tup (b8 (srt (l++[b])))))
theorem HI:∀ds Q,l7 ds Q->ds.length=2:=by rintro ds Q ⟨_,_,rfl,_⟩;rfl
theorem Gw:MonoF l7:=⟨λds Q Q' w z=>by obtain⟨a,b,c,d,h⟩:=z;exact⟨a,b,c,d,w _ h⟩⟩
theorem BE:∀ds Q,l7 ds Q->nA ({ nx:=λ_=>Q (.v .non),rt:=Q }) (aN ["below", "band"] ds):=by
 rintro ds Q ⟨l,b,rfl,hl,h⟩;push_cast [Gi,bi];refine⟨(by ac_rfl),?_⟩;rw[KZ];refine Ch (by simp;ac_rfl) λms hm hs=>?_;obtain rfl:=c8 hm hs;push_cast [Z.nM];exact h
noncomputable def Fg(a b c:Int)(l:List Int):List Ti:=[(a,b,l),(a,c,srt (l++[b])),(b,c,l)]
noncomputable def IA(a b c:Int)(l:List Int):List Ti:=[(a,b,srt (l++[c])),(a,c,l),(b,c,srt (l++[a]))]
noncomputable def xU:Fn:=λds Q=>∃(a b c:Int) (l:List Int),ds=[.int a,.int b,.int c,.tup (b8 l)]/\l.length<=30/\Q (.nw (.lst (fM (Fg a b c l))))
theorem MA:∀ds Q,xU ds Q->ds.length=4:=by rintro ds Q ⟨_,_,_,_,rfl,_⟩;rfl
theorem ON:MonoF xU:=⟨λds Q Q' w z=>by obtain⟨a,b,c,d,e,f,h⟩:=z;exact⟨a,b,c,d,e,f,w _ h⟩⟩
theorem wX:∀ds Q,xU ds Q->kQ l7 ({ nx:=λ_=>Q (.v .non),rt:=Q }) (aN ["a", "b", "c", "some"] ds):=by
 rintro ds Q ⟨a,b,c,l,rfl,hl,h⟩;push_cast [Z.nM];refine⟨l,b,rfl,hl,?_⟩;push_cast [Z.nM];exact h
noncomputable def xV:Fn:=λds Q=>∃(a b c:Int) (l:List Int),ds=[.int a,.int b,.int c,.tup (b8 l)]/\l.length<=30/\Q (.nw (.lst (fM (IA a b c l))))
theorem MB:∀ds Q,xV ds Q->ds.length=4:=by rintro ds Q ⟨_,_,_,_,rfl,_⟩;rfl
theorem OO:MonoF xV:=⟨λds Q Q' w z=>by obtain⟨a,b,c,d,e,f,h⟩:=z;exact⟨a,b,c,d,e,f,w _ h⟩⟩
theorem tX:∀ds Q,xV ds Q->j5 l7 ({ nx:=λ_=>Q (.v .non),rt:=Q }) (aN ["a", "b", "c", "some"] ds):=by
 rintro ds Q ⟨a,b,c,l,rfl,hl,h⟩;push_cast [Z.nM];refine⟨l,c,rfl,hl,?_⟩;push_cast [Z.nM];refine⟨l,a,rfl,hl,?_⟩;push_cast [Z.nM];exact h
noncomputable def DG(fl:List Ti)(a c:Int):Prop:=∃u,(fl.find? λt=>decide (t.1=a/\t.2.1=c))=aa u/\u.2.2=bT fl a c/\u.2.2.length<=30
noncomputable def kC(fl:List Ti)(t:Int×Int×Int):Prop:=yW (bT fl t.1 t.2.1) (bT fl t.1 t.2.2) (bT fl t.2.1 t.2.2) t.1 t.2.1 t.2.2
noncomputable instance (fl:List Ti) (t:Int×Int×Int):Decidable (kC fl t):=by unfold kC;exact inferInstance
noncomputable def E8(fl:List Ti)(t:Int×Int×Int):Prop:=bT fl t.2.1 t.2.2=bT fl t.1 t.2.1/\bT fl t.1 t.2.2=srt (bT fl t.1 t.2.1++[t.2.1])
noncomputable def Ms(fl:List Ti)(t:Int×Int×Int):Prop:=bT fl t.1 t.2.1=srt (bT fl t.1 t.2.2++[t.2.2])/\bT fl t.2.1 t.2.2=srt (bT fl t.1 t.2.2++[t.1])
noncomputable instance (fl:List Ti) (t:Int×Int×Int):Decidable (E8 fl t):=by unfold E8;exact inferInstance
noncomputable def pY(fl:List Ti)(t:Int×Int×Int):List Ti:=if E8 fl t then IA t.1 t.2.1 t.2.2 (bT fl t.1 t.2.1) else Fg t.1 t.2.1 t.2.2 (bT fl t.1 t.2.2)
noncomputable def xT:Fn:=λds Q=>∃(fl:List Ti) (a b c:Int),ds=[.dit (mX fl),.tup [.int a,.int b,.int c]]/\DG fl a b/\DG fl a c/\DG fl b c/\(kC fl (a,b,c)->Q (.nw (.lst (fM (pY fl (a,b,c))))))/\(¬kC fl (a,b,c)->Q (.v .non))
theorem M9:∀ds Q,xT ds Q->ds.length=2:=by rintro ds Q ⟨_,_,_,_,rfl,_⟩;rfl
theorem Kl:MonoF xT:=⟨λds Q Q' w z=>by obtain⟨a,b,c,d,e,f,g,h,i,j⟩:=z;exact⟨a,b,c,d,e,f,g,h,λx=>w _ (i x),λx=>w _ (j x)⟩⟩
variable {a:Int}{E:En}{x5:Sl}
theorem Qv{c:Int}{x0 x2 x3 x4:Sl}(h:tl E [x0,.v (.tup [.int a,.int b,.int c]),.v (.int a),.v (.int b),.v (.int c),x5]):
  aO (bD 2 (aQ cA (a8 1) (eC (.int 0)))) (aO (bD 3 (aQ cA (a8 1) (eC (.int 1)))) (aO (bD 4 (aQ cA (a8 1) (eC (.int 2)))) tl)) E [x0,.v (.tup [.int a,.int b,.int c]),x2,x3,x4,x5]:=by
 push_cast [Z.nM];exact h
variable {u1 u2:Ti}{x1:Sl}
theorem Qt{fl:List Ti}{c:Int}{u3:Ti}(h1:(fl.find? λt=>decide (t.1=a/\t.2.1=b))=aa u1)(h2:(fl.find? λt=>decide (t.1=a/\t.2.1=c))=aa u2)(h3:(fl.find? λt=>decide (t.1=b/\t.2.1=c))=aa u3)
     (h:tl E [.v (.dit (mX fl)),x1,.v (.int a),.v (.int b),.v (.int c),.v (.lst (fM [(a,b,u1.2.2),(a,c,u2.2.2),(b,c,u3.2.2)]))]):
  aO (bD 5 (i7 (a7 (bQ (a7 (a8 2) (a7 (a8 3) (a7 (aQ cA (a8 0) (bQ (a7 (a8 2) (a7 (a8 3) aF)))) aF)))) (a7 (bQ (a7 (a8 2) (a7 (a8 4) (a7 (aQ cA (a8 0) (bQ (a7 (a8 2) (a7 (a8 4) aF)))) aF)))) (a7 (bQ (a7 (a8 3) (a7 (a8 4) (a7 (aQ cA (a8 0) (bQ (a7 (a8 3) (a7 (a8 4) aF)))) aF)))) aF))))) tl E [.v (.dit (mX fl)),x1,.v (.int a),.v (.int b),.v (.int c),x5]:=by
 push_cast [mM,h1,h2,h3,vg];exact h
variable {ts:List Ti}
theorem Qs{fl:List Ti}{c:Int}(h1:(fl.find? λt=>decide (t.1=a/\t.2.1=b))=aa u1)(l1:u1.2.2.length<=30)
  (y:ts=Fg a b c u1.2.2->E.rt (.nw (.lst (fM (IA a b c u1.2.2))))) (n:ts≠Fg a b c u1.2.2->tl E [.v (.dit (mX fl)),x1,.v (.int a),.v (.int b),.v (.int c),.v (.lst (fM ts))]):
  aO (jE (aW (aQ sF (a8 5) (aR xU (a7 (a8 2) (a7 (a8 3) (a7 (a8 4) (a7 (aQ cA (a8 0) (bQ (a7 (a8 2) (a7 (a8 3) aF)))) aF))))))) (c9 (aR xV (a7 (a8 2) (a7 (a8 3) (a7 (a8 4) (a7 (aQ cA (a8 0) (bQ (a7 (a8 2) (a7 (a8 3) aF)))) aF)))))) bN) tl E [.v (.dit (mX fl)),x1,.v (.int a),.v (.int b),.v (.int c),.v (.lst (fM ts))]:=by
 push_cast [mM,h1,vg];refine⟨a,b,c,u1.2.2,rfl,l1,?_⟩;push_cast [AF,Gr,and_self,true_and,decide_eq_true_eq];by_cases q1:ts=Fg a b c u1.2.2
 ·rw[Y4 q1];refine⟨a,b,c,u1.2.2,rfl,l1,?_⟩;push_cast [Z.nM];exact y q1
 ·rw[XF q1];exact n q1
theorem Qr{fl:List Ti}{c:Int}(h2:(fl.find? λt=>decide (t.1=a/\t.2.1=c))=aa u2)(l2:u2.2.2.length<=30)
  (y:ts=IA a b c u2.2.2->E.rt (.nw (.lst (fM (Fg a b c u2.2.2))))) (n:ts≠IA a b c u2.2.2->tl E [.v (.dit (mX fl)),x1,.v (.int a),.v (.int b),.v (.int c),.v (.lst (fM ts))]):
  aO (jE (aW (aQ sF (a8 5) (aR xV (a7 (a8 2) (a7 (a8 3) (a7 (a8 4) (a7 (aQ cA (a8 0) (bQ (a7 (a8 2) (a7 (a8 4) aF)))) aF))))))) (c9 (aR xU (a7 (a8 2) (a7 (a8 3) (a7 (a8 4) (a7 (aQ cA (a8 0) (bQ (a7 (a8 2) (a7 (a8 4) aF)))) aF)))))) bN) tl E [.v (.dit (mX fl)),x1,.v (.int a),.v (.int b),.v (.int c),.v (.lst (fM ts))]:=by
 push_cast [mM,h2,vg];refine⟨a,b,c,u2.2.2,rfl,l2,?_⟩;push_cast [AF,Gr,and_self,true_and,decide_eq_true_eq];by_cases q1:ts=IA a b c u2.2.2
 ·rw[Y4 q1];refine⟨a,b,c,u2.2.2,rfl,l2,?_⟩;push_cast [Z.nM];exact y q1
 ·rw[XF q1];exact n q1
theorem tW:∀ds Q,xT ds Q->j4 xU xV ({ nx:=λ_=>Q (.v .non),rt:=Q }) (aN ["below", "three", "a", "b", "c", "tiles"] ds):=by
 rintro ds Q ⟨fl,a,b,c,rfl,⟨u1,h1,e1,l1⟩,⟨u2,h2,e2,l2⟩,⟨u3,h3,e3,l3⟩,y,no⟩;unfold pY at y;refine Qv (Qt h1 h2 h3 (Qs h1 l1 (λq=>?_) λq1=>Qr h2 l2 (λq=>?_) λq2=>?_))
 ·simp only[Fg,ku,ls,true_and,and_true] at q;rw[e1,e2,e3] at q;have z:E8 fl (a,b,c):=⟨q.2,q.1⟩;rw[Y4 z] at y;rw[e1];exact y (.inl z)
 ·simp only[IA,ku,ls,true_and,and_true] at q;rw[e1,e2,e3] at q;have z:Ms fl (a,b,c):=q;rw[XF (show ¬E8 fl (a,b,c) from λz=>q1 (by rw[e1,e2,e3];have z1:=z.1;have z2:=z.2;simp only at z1 z2;rw[z1,z2];rfl))] at y;rw[e2];exact y (.inr z)
 ·refine no λz=>?_;rcases(show E8 fl (a,b,c) \/ Ms fl (a,b,c) from z) with z | z
  ·exact q1 (by rw[e1,e2,e3];have z1:=z.1;have z2:=z.2;simp only at z1 z2;rw[z1,z2];rfl)
  ·exact q2 (by rw[e1,e2,e3];have z1:=z.1;have z2:=z.2;simp only at z1 z2;rw[z1,z2];rfl)
noncomputable def uY(C:af):Fn:=λds Q=>∃(rows:List Rw) (fl:List Ti),ds=[bH C rows,.lst (fM fl)]/\(aH rows).length<=12/\fl.length<=1000/\tD fl/\(∀t∈aP (aH rows),DG fl t.1 t.2.1/\DG fl t.1 t.2.2/\DG fl t.2.1 t.2.2)/\Q (.nw (.lst (cX ((aP (aH rows)).filter λt=>decide (kC fl t)))))
theorem ME:∀ds Q,uY C ds Q->ds.length=2:=by rintro ds Q ⟨_,_,rfl,_⟩;rfl
theorem OR:MonoF (uY C):=⟨λds Q Q' w z=>by obtain⟨a,b,c,d,e,f,g,h⟩:=z;exact⟨a,b,c,d,e,f,g,w _ h⟩⟩
theorem Ol{fl:List Ti}:∀(l acc:List (Int×Int×Int)),(∀t∈l,DG fl t.1 t.2.1/\DG fl t.1 t.2.2/\DG fl t.2.1 t.2.2)->acc.length+l.length<=10000->Q (.nw (.lst (cX (acc++l.filter λt=>decide (kC fl t))))) ->
  d8 [.un,.v (.dit (mX fl))] (gN 0) (aW (aQ vK (aR xT (a7 (a8 1) (a7 (a8 0) aF))) (eC .non))) (a8 0) (cX l) (cX acc) Q:=by
 intro l;induction l with
 |nil=>
  intro acc _ _ h;rw[show cX []=[] from rfl,fH];simpa using h
 |cons t l ih=>
  intro acc hm hl h;simp only[bp] at hl;obtain⟨c1,c2,c3⟩:=hm t (by simp);rw[show cX (t::l)=.tup [.int t.1,.int t.2.1,.int t.2.2]::cX l from rfl];push_cast [Z.nM];refine⟨fl,t.1,t.2.1,t.2.2,rfl,c1,c2,c3,λq=>?_,λq=>?_⟩
  ·push_cast [bi];refine⟨(by ac_rfl),?_⟩;rw[show cX acc++[Dv.tup [Dv.int t.1,Dv.int t.2.1,Dv.int t.2.2]]=cX (acc++[t]) by simp];rw[pq (by simpa using q)] at h;exact ih _ (λt ht=>hm t (bm _ ht)) (by simp;ac_rfl) (by simpa using h)
  ·push_cast [Z.nM];rw[px (by simpa using q)] at h;exact ih _ (λt ht=>hm t (bm _ ht)) (by ac_rfl) h
theorem BL:∀ds Q,uY C ds Q->nI eI (jN C) xT ({ nx:=λ_=>Q (.v .non),rt:=Q }) (aN ["sides", "floor", "below"] ds):=by
 rintro ds Q ⟨rows,fl,rfl,hn,hl,hk,cov,h⟩;have tl:=kE hn;push_cast [Z.nM];refine⟨fl,rfl,hl,hk,?_⟩;push_cast [Z.nM];refine⟨rows,rfl,hn,?_⟩;push_cast [Z.nM];exact Ol (aP (aH rows)) [] cov (by simp;ac_rfl) h
end Lw
namespace Lw
open L2 Z
open Sf (Rw crs qT Pre Good aH aY place many)
open Fl (kd ids Walk cZ tls pc aK Pt srt c8 yW)
noncomputable def aC(ks:List Int)(a b:Int):Nat->Nat->List (Int×Int×Int)
 |0,_=>[]
 |i+1,c=>(if kd ks a<kd ks b/\kd ks b<kd ks c then [(a,b,(c:Int))] else [])++aC ks a b i (c+1)
noncomputable def aB(ks:List Int)(a:Int):Nat->Nat->List (Int×Int×Int)
 |0,_=>[]
 |i+1,b=>aC ks a b (ks.length-(b+1)) (b+1)++aB ks a i (b+1)
noncomputable def aA(ks:List Int):Nat->Nat->List (Int×Int×Int)
 |0,_=>[]
 |i+1,a=>aB ks a (ks.length-(a+1)) (a+1)++aA ks i (a+1)
theorem Kt{ks:List Int}(m:k8 ks){a b:Int}(h0:0<=a)(hab:a<b)(hb:b<ks.length):∀(i c:Nat),b<c->c+i<=ks.length->aC ks a b i c=if kd ks a=kd ks b then [] else yL ks a b i c
 |0,c,_,_=>by simp[aC,yL]
 |i+1,c,h1,h2=>by
  have m1:=m a b h0 (by ac_rfl) (by ac_rfl);have m2:=m b c (by ac_rfl) (by ac_rfl) (by ac_rfl);rw[aC,Kt m h0 hab hb i (c+1) (by ac_rfl) (by ac_rfl)];by_cases e:kd ks a=kd ks b
  ·rw[Y4 e,Y4 e,XF (by ac_rfl)];rfl
  ·rw[XF e,XF e,yL];by_cases e2:kd ks (c:Int)=kd ks b
   ·rw[Y4 e2,XF (by ac_rfl)]
   ·rw[XF e2,Y4 (by ac_rfl)]
theorem Ku{ks:List Int}(m:k8 ks){a:Nat}:∀(i b:Nat),a<b->b+i=ks.length->aB ks a i b=f6 ks (A5 ks a i b)
 |0,b,_,_=>rfl
 |i+1,b,h1,h2=>by
  rw[aB,Kt m (by ac_rfl) (by ac_rfl) (by ac_rfl) _ _ (by ac_rfl) (by ac_rfl),Ku m i (b+1) (by ac_rfl) (by ac_rfl),A5];unfold f6;rw[V2];by_cases e:kd ks (a:Int)=kd ks (b:Int)
  ·rw[Y4 e,Y4 e];rfl
  ·rw[XF e,XF e];simp
theorem Kv{ks:List Int}(m:k8 ks):∀(i a:Nat),a+i=ks.length->aA ks i a=f6 ks (mF ks i a)
 |0,a,_=>rfl
 |i+1,a,h=>by
  rw[aA,Ku m _ _ (by ac_rfl) (by ac_rfl),Kv m i (a+1) (by ac_rfl),mF];unfold f6;rw[V2]
noncomputable def wU(ks:List Int):Nat->Nat->List (Int×Int×Int)
 |0,_=>[]
 |i+1,k=>(if k / (ks.length*ks.length)<k / ks.length % ks.length/\k / ks.length % ks.length<k % ks.length/\kd ks (k / (ks.length*ks.length):Nat)<kd ks (k / ks.length % ks.length:Nat)/\kd ks (k / ks.length % ks.length:Nat)<kd ks (k % ks.length:Nat) then [(((k / (ks.length*ks.length):Nat):Int),((k / ks.length % ks.length:Nat):Int),((k % ks.length:Nat):Int))] else [])++wU ks i (k+1)
theorem Ie(ks:List Int):∀i k,(wU ks i k).length<=i
 |0,_=>bj _
 |i+1,k=>by rw[wU,br];have:=Ie ks i (k+1);split<;>simp<;>ac_rfl
theorem rA(ks:List Int):∀i j k,wU ks (i+j) k=wU ks i k++wU ks j (k+i)
 |0,j,k=>by rw[ox,xu];rfl
 |i+1,j,k=>by
  rw[show i+1+j=(i+j)+1 by ac_rfl,wU,rA ks i j (k+1),wU,cm,show k+1+i=k+(i+1) by ac_rfl]
noncomputable def fC(ks:List Int)(a b:Nat):Nat->Nat->List (Int×Int×Int)
 |0,_=>[]
 |i+1,c=>(if a<b/\b<c/\kd ks (a:Nat)<kd ks (b:Nat)/\kd ks (b:Nat)<kd ks (c:Nat) then [((a:Int),(b:Int),(c:Int))] else [])++fC ks a b i (c+1)
variable {a b:Nat}
theorem digits{c:Nat}(hb:b<n)(hc:c<n):((a*n+b)*n+c) / (n*n)=a/\((a*n+b)*n+c) / n % n=b/\((a*n+b)*n+c) % n=c:=by
 have hn:0<n:=(by ac_rfl);have e1:((a*n+b)*n+c) / n=a*n+b:=by
  rw[wj,zq _ _ hn,W3 hc,ox]
 refine⟨?_,?_,?_⟩
 ·rw[<- Nat.div_div_eq_div_mul,e1,wj,zq _ _ hn,W3 hb,ox]
 ·rw[e1,wj,wq,W4 hb]
 ·rw[wj,wq,W4 hc]
theorem KR{ks:List Int}{a b:Nat}(hb:b<ks.length):∀(i c:Nat),c+i<=ks.length->wU ks i ((a*ks.length+b)*ks.length+c)=fC ks a b i c
 |0,_,_=>rfl
 |i+1,c,h=>by
  obtain⟨d1,d2,d3⟩:=digits (a:=a) hb (show c<ks.length by ac_rfl);rw[wU,fC,d1,d2,d3,X3,KR hb i (c+1) (by ac_rfl)]
theorem Kq{ks:List Int}{a b:Nat}:∀(i c:Nat),c+i<=b+1->fC ks a b i c=[]
 |0,_,_=>rfl
 |i+1,c,h=>by
  rw[fC,XF (by ac_rfl),Kq i (c+1) (by ac_rfl)];rfl
theorem Hu(ks:List Int)(a b:Nat):∀i j c,fC ks a b (i+j) c=fC ks a b i c++fC ks a b j (c+i)
 |0,j,c=>by rw[ox,xu];rfl
 |i+1,j,c=>by
  rw[show i+1+j=(i+j)+1 by ac_rfl,fC,Hu ks a b i j (c+1),fC,cm,show c+1+i=c+(i+1) by ac_rfl]
theorem Kr{ks:List Int}{a b:Nat}(hab:a<b):∀(i c:Nat),b<c->fC ks a b i c=aC ks a b i c
 |0,_,_=>rfl
 |i+1,c,h=>by
  rw[fC,aC,Kr hab i (c+1) (by ac_rfl)];congr 1;by_cases e:kd ks (a:Nat)<kd ks (b:Nat)/\kd ks (b:Nat)<kd ks (c:Nat)
  ·rw[Y4 e,Y4 ⟨hab,h,e⟩]
  ·rw[XF e,XF λz=>e z.2.2]
theorem Kp{ks:List Int}{a b:Nat}(hab:¬a<b):∀(i c:Nat),fC ks a b i c=[]
 |0,_=>rfl
 |i+1,c=>by
  rw[fC,XF λz=>hab z.1,Kp hab i (c+1)];rfl
theorem DO(hb:b<ks.length):wU ks ks.length ((a*ks.length+b)*ks.length)=if a<b then aC ks a b (ks.length-(b+1)) (b+1) else []:=by
 have h:=KR (ks:=ks) (a:=a) hb ks.length 0 (by ac_rfl);rw[xu] at h;rw[h];by_cases hab:a<b
 ·rw[Y4 hab,show ks.length=(b+1)+(ks.length-(b+1)) by ac_rfl,Hu,Kq _ _ (by ac_rfl),oh,ox,show b+1+(ks.length-(b+1))-(b+1)=ks.length-(b+1) by ac_rfl,Kr hab _ _ (by ac_rfl)]
 ·rw[XF hab,Kp hab]
theorem Fs{ks:List Int}{a:Nat}:∀(j b:Nat),b+j<=a+1->b+j<=ks.length->wU ks (j*ks.length) ((a*ks.length+b)*ks.length)=[]
 |0,b,_,_=>by rw[WZ];rfl
 |j+1,b,h,h2=>by
  rw[xp,wj,rA,DO (by ac_rfl),XF (by ac_rfl),oh,show (a*ks.length+b)*ks.length+ks.length=(a*ks.length+(b+1))*ks.length by rw[<- xp];rfl];exact Fs j (b+1) (by ac_rfl) (by ac_rfl)
theorem Ft{ks:List Int}{a:Nat}:∀(j b:Nat),a<b->b+j<=ks.length->wU ks (j*ks.length) ((a*ks.length+b)*ks.length)=aB ks a j b
 |0,b,_,_=>by rw[WZ];rfl
 |j+1,b,h,h2=>by
  rw[xp,wj,rA,DO (by ac_rfl),Y4 h,show (a*ks.length+b)*ks.length+ks.length=(a*ks.length+(b+1))*ks.length by rw[<- xp];rfl,Ft j (b+1) (by ac_rfl) (by ac_rfl)];rfl
theorem Ic(ha:a<ks.length):wU ks (ks.length*ks.length) (a*(ks.length*ks.length))=aB ks a (ks.length-(a+1)) (a+1):=by
 have l:=Fs (ks:=ks) (a:=a) (a+1) 0 (by ac_rfl) (by ac_rfl);have h:=Ft (ks:=ks) (a:=a) (ks.length-(a+1)) (a+1) (by ac_rfl) (by ac_rfl);rw[show (a*ks.length+0)*ks.length=a*(ks.length*ks.length) by rw[xu,W5]] at l;have e:ks.length*ks.length=(a+1)*ks.length+(ks.length-(a+1))*ks.length:=by
  rw[<- xg,show a+1+(ks.length-(a+1))=ks.length by ac_rfl]
 rw[show wU ks (ks.length*ks.length) (a*(ks.length*ks.length))=wU ks ((a+1)*ks.length+(ks.length-(a+1))*ks.length) (a*(ks.length*ks.length)) by rw[<- e],rA,l,oh,<- h];congr 1;rw[xg (a*ks.length),W5]
theorem KS{ks:List Int}:∀(j a:Nat),a+j=ks.length->wU ks (j*(ks.length*ks.length)) (a*(ks.length*ks.length))=aA ks j a
 |0,a,_=>by rw[WZ];rfl
 |j+1,a,h=>by
  rw[xp,wj,rA,Ic (by ac_rfl),<- xp,KS j (a+1) (by ac_rfl)];rfl
theorem Ig(m:k8 ks):wU ks (ks.length*ks.length*ks.length) 0=aP ks:=by
 have h:=KS (ks:=ks) ks.length 0 (by ac_rfl);rw[WZ,<- W5] at h;rw[h,Kv m _ _ (by ac_rfl)];rfl
noncomputable def zB:Fn:=λds Q=>∃ks:List Int,ds=[.lst (b8 ks)]/\1<=ks.length/\ks.length<=12/\k8 ks/\Q (.nw (.lst (cX (aP ks))))
theorem Jj:∀ds Q,zB ds Q->ds.length=1:=by rintro ds Q ⟨_,rfl,_⟩;rfl
theorem Lz:MonoF zB:=⟨λds Q Q' w z=>by obtain⟨a,b,c,d,e,h⟩:=z;exact⟨a,b,c,d,e,w _ h⟩⟩
variable {E:En}{x1 x3 x4 x5:Sl}
theorem SA{k:Nat}(h1:1<=ks.length)(hn:ks.length<=12)
  (h:tl E [.v (.lst (b8 ks)),x1,.v (.int k),.v (.int (k / (ks.length*ks.length):Nat)),.v (.int (k / ks.length % ks.length:Nat)),.v (.int (k % ks.length:Nat))]):
  aO (bD 3 (aQ pW (a8 2) (aQ g6 (eY e9 (a7 (a8 0) aF)) (eY e9 (a7 (a8 0) aF))))) (aO (bD 4 (aQ iW (aQ pW (a8 2) (eY e9 (a7 (a8 0) aF))) (eY e9 (a7 (a8 0) aF)))) (aO (bD 5 (aQ iW (a8 2) (eY e9 (a7 (a8 0) aF)))) tl)) E [.v (.lst (b8 ks)),x1,.v (.int k),x3,x4,x5]:=by
 have sq:ks.length*ks.length<=12*12:=ml hn hn;have sq1:1*1<=ks.length*ks.length:=ml h1 h1;have nn:(ks.length:Int)*(ks.length:Int)=((ks.length*ks.length:Nat):Int):=by norm_cast
 have ea:(k:Int) / ((ks.length*ks.length:Nat):Int)=((k / (ks.length*ks.length):Nat):Int):=by norm_cast
 have eb:(k:Int) / (ks.length:Int) % (ks.length:Int)=((k / ks.length % ks.length:Nat):Int):=by norm_cast
 have ec:(k:Int) % (ks.length:Int)=((k % ks.length:Nat):Int):=by norm_cast
 push_cast [bi,nn,ea,eb,ec];exact⟨tV (by ac_rfl) (by ac_rfl),⟨(by ac_rfl),(by ac_rfl)⟩,⟨(by ac_rfl),(by ac_rfl)⟩,(by ac_rfl),(by ac_rfl),h⟩
variable {l:af}{x2:Sl}
theorem S9{c:Nat}(ha:a<ks.length)(hb:b<ks.length)(hc:c<ks.length){acc:List (Int×Int×Int)}(hl:acc.length<=10000)
  (h:E.nx [.v (.lst (b8 ks)),.own l (.lst (cX (acc++(if a<b/\b<c/\kd ks (a:Nat)<kd ks (b:Nat)/\kd ks (b:Nat)<kd ks (c:Nat) then [((a:Int),(b:Int),(c:Int))] else [])))),x2,.v (.int a),.v (.int b),.v (.int c)]):
  jE (qG (aW (o4 BN BN (a8 3) (a8 4) (a8 5))) (qG (aW (aQ BN (aQ cA (a8 0) (a8 3)) (aQ cA (a8 0) (a8 4)))) (aW (aQ BN (aQ cA (a8 0) (a8 4)) (aQ cA (a8 0) (a8 5)))))) (p7 1 (bQ (a7 (a8 3) (a7 (a8 4) (a7 (a8 5) aF))))) bN E [.v (.lst (b8 ks)),.own l (.lst (cX acc)),x2,.v (.int a),.v (.int b),.v (.int c)]:=by
 have no:¬(a<b/\b<c/\kd ks (a:Nat)<kd ks (b:Nat)/\kd ks (b:Nat)<kd ks (c:Nat))->E.nx [.v (.lst (b8 ks)),.own l (.lst (cX acc)),x2,.v (.int a),.v (.int b),.v (.int c)]:=λz=>by
  rw[XF z,ii] at h;exact h
 have ka:kd ks (a:Nat)=ks.getD a 0:=by unfold kd;rw[bw]
 have kb:kd ks (b:Nat)=ks.getD b 0:=by unfold kd;rw[bw]
 have kc:kd ks (c:Nat)=ks.getD c 0:=by unfold kd;rw[bw]
 rw[ka,kb,kc] at no h;push_cast [bi,i6 ha,i6 hb,i6 hc];by_cases e1:a<b
 ·rw[Y4 (VI.mpr e1)];by_cases e2:b<c
  ·rw[Y4 (VI.mpr e2)];by_cases e3:ks.getD a 0<ks.getD b 0
   ·rw[Y4 e3];by_cases e4:ks.getD b 0<ks.getD c 0
    ·rw[Y4 e4];refine⟨(by ac_rfl),?_⟩;rw[Y4 ⟨e1,e2,e3,e4⟩,show cX (acc++[((a:Int),(b:Int),(c:Int))])=cX acc++[Dv.tup [Dv.int a,Dv.int b,Dv.int c]] from uz] at h;exact h
    ·rw[XF e4];exact no λz=>e4 z.2.2.2
   ·rw[XF e3];exact no λz=>e3 z.2.2.1
  ·rw[XF λz=>e2 (VI.mp z)];exact no λz=>e2 z.2.1
 ·rw[XF λz=>e1 (VI.mp z)];exact no λz=>e1 z.1
theorem Se{d:Dv}{x0:Sl}{Q:List Sl->Prop}(h:Q [x0,x1,.v d,x3,x4,x5]):gN 2 d [x0,x1,x2,x3,x4,x5] Q:=by
 push_cast [Z.nM];exact h
theorem OW(h1:1<=ks.length)(hn:ks.length<=12):∀(i k:Nat) (acc:List (Int×Int×Int)) (s t u v:Sl),k+i=ks.length*ks.length*ks.length->acc.length+i<=10000 ->
  (∀s t u v,E.nx [.v (.lst (b8 ks)),.own l (.lst (cX (acc++wU ks i k))),s,t,u,v]) ->
  bM (gN 2) oG [] (bX k i) E [.v (.lst (b8 ks)),.own l (.lst (cX acc)),s,t,u,v]:=by
 intro i;induction i with
 |zero=>
  intro k acc s t u v _ _ h;rw[fA,cI];exact⟨λp hp=>by simp at hp,by simpa [wU] using h s t u v⟩
 |succ i ih=>
  intro k acc s t u v hk hl h;have sq1:1*1<=ks.length*ks.length:=ml h1 h1;have ha:k / (ks.length*ks.length)<ks.length:=by rw[Nat.div_lt_iff_lt_mul (by ac_rfl),<- W5];ac_rfl
  rw[dS,cO];refine⟨λp hp=>by simp at hp,?_⟩;rw[show ((k:Int)+1)=((k+1:Nat):Int) by ac_rfl];refine Se (SA h1 hn (S9 ha (XX _ (by ac_rfl)) (XX _ (by ac_rfl)) (by ac_rfl) ?_));refine ih (k+1) _ _ _ _ _ (by ac_rfl) (by rw[br];split<;>simp<;>ac_rfl) λs t u v=>?_;have:=h s t u v;rw[wU,<- cm] at this;exact this
theorem zM:∀ds Q,zB ds Q->lS ({ nx:=λ_=>Q (.v .non),rt:=Q }) (aN ["_law_bands_here", "_law_found", "_law_k", "_law_a", "_law_b", "_law_c"] ds):=by
 rintro ds Q ⟨ks,rfl,h1,hn,m,h⟩;have sq:ks.length*ks.length<=12*12:=ml hn hn;have cb:ks.length*ks.length*ks.length<=144*12:=ml sq hn;have nn:(ks.length:Int)*(ks.length:Int)=((ks.length*ks.length:Nat):Int):=by norm_cast
 have nnn:((ks.length*ks.length:Nat):Int)*(ks.length:Int)=((ks.length*ks.length*ks.length:Nat):Int):=by norm_cast
 push_cast [bi,nn,nnn];intro l;refine⟨tV (by ac_rfl) (by ac_rfl),tV (by ac_rfl) (by ac_rfl),(by ac_rfl),?_⟩;rw[bw];refine OW h1 hn _ 0 [] _ _ _ _ (by ac_rfl) (by simp;ac_rfl) λs t u v=>?_;push_cast [Z.nM];rw[Ig m];exact h
theorem zN:∀ds Q,eI ds Q->lT ({ nx:=λ_=>Q (.v .non),rt:=Q }) (aN ["_law_tiles", "_law_belows_here", "_law_a", "_law_b", "_law_below"] ds):=BM
end Lw
namespace Lw
open L2 Z
open Sf (Rw crs qT Pre Good aH aY place many)
open Fl (kd ids Walk cZ tls pc aK Pt srt c8 yW tS)
theorem Dq(i:Int):∀l:List Int,inD (.int i) (b8 l)=decide (i∈l)
 | []=>rfl
 |j::l=>by
  have ih:=Dq i l;unfold inD at ih ⊢;rw[show b8 (j::l)=.int j::b8 l from rfl,rj,ih];by_cases e:i=j
  ·subst e;simp[eqD,fY,gr]
  ·have:eqD (.int i) (.int j)=ap:=by simp[eqD,fY,gr,e]
   have:eqD (.int j) (.int i)=ap:=by simp[eqD,fY,gr,Ne.symm e]
   simp[*]
theorem Dp(t:Int×Int×Int):∀l:List (Int×Int×Int),inD (.tup [.int t.1,.int t.2.1,.int t.2.2]) (cX l)=decide (t∈l)
 | []=>rfl
 |u::l=>by
  have ih:=Dp t l;unfold inD at ih ⊢;have e:=uO [u.1,u.2.1,u.2.2] [t.1,t.2.1,t.2.2];rw[show cX (u::l)=.tup (b8 [u.1,u.2.1,u.2.2])::cX l from rfl,rj,ih,show Dv.tup [Dv.int t.1,Dv.int t.2.1,Dv.int t.2.2]=.tup (b8 [t.1,t.2.1,t.2.2]) from rfl,e,<- Uq];refine decide_eq_decide.mpr ?_;obtain⟨a,b,c⟩:=t;obtain⟨x,y,z⟩:=u;simp only[ku,and_true,bq,ls];constructor
  ·rintro(⟨p,q,r⟩ | h)
   ·exact .inl ⟨p.symm,q.symm,r.symm⟩
   ·exact .inr h
  ·rintro(⟨p,q,r⟩ | h)
   ·exact .inl ⟨p.symm,q.symm,r.symm⟩
   ·exact .inr h
theorem uJ(l:List (Int×Int×Int)):okDs 8 (cX l)=ai:=oU 8 _ λd hd=>by
 obtain⟨t,_,rfl⟩:=fx.mp hd;exact pF 7 [t.1,t.2.1,t.2.2]
noncomputable abbrev Ob(x t:Ti):Bool:=decide (t.1=x.1/\t.2.1=x.2.1)
noncomputable def rp(ts:List Ti)(x:Ti):Ti:=(ts.find? (Ob x)).getD x
noncomputable def iH(fl:List Ti)(t:Int×Int×Int):List Ti:=fl.map (rp (pY fl t))
end Lw
namespace Lw
open L2 Z
open Sf (Rw crs qT Pre Good aH aY place many)
open Fl (kd ids Walk cZ tls pc aK Pt srt c8 yW tS)
noncomputable def yF(t u:Ti):Prop:=lexB [t.1,t.2.1] [u.1,u.2.1]=ai
theorem yY:∀{l m:List Ti},l.Perm m->l.Pairwise yF->m.Pairwise yF->l=m
 | [],m,p,_,_=>(XQ.mp p).symm
 |t::l,[],p,_,_=>nomatch p.length_eq
 |t::l,u::m,p,h1,h2=>by
  have e:t=u:=by
   rcases bq.mp (p.mem_iff.mp (ci ..)) with h | h
   ·exact h
   ·rcases bq.mp (p.mem_iff.mpr (ci (a:=u))) with h' | h'
    ·exact h'.symm
    ·have a:=(eo.mp h1).1 u h';have b:=(eo.mp h2).1 t h;have c:=mK _ _ _ a b;rw[g8] at c;cases c
  subst e;rw[yY (Xc t |>.mp p) (eo.mp h1).2 (eo.mp h2).2]
theorem HF{t u:Ti}(h:yF t u):t≠u:=λz=>by
 subst z;unfold yF at h;rw[g8] at h;cases h
theorem Os{l m:List Ti}(h1:l.Pairwise yF)(h2:m.Pairwise yF)(h:∀x,x∈l ↔ x∈m):l=m:=
 yY ((ir (h1.imp HF) (h2.imp HF)).mpr h) h1 h2
variable {a:Int}
theorem Ct{c d:Int}{x y:List Int}(h:a<c \/ a=c/\b<d):yF (a,b,x) (c,d,y):=by
 unfold yF;simp only[lexB];rcases h with h | ⟨h,h2⟩
 ·rw[XF (by ac_rfl)];exact decide_eq_true h
 ·rw[Y4 h,XF (by ac_rfl)];exact decide_eq_true h2
structure Fl5(ks:List Int)(fl:List Ti):Prop where
 n12:ks.length<=12
 len:fl.length<=60
 key:tD fl
 up:fl.Pairwise yF
 ord:∀x∈fl,x.1<x.2.1
 has:∀t∈aP ks,DG fl t.1 t.2.1/\DG fl t.1 t.2.2/\DG fl t.2.1 t.2.2
 so:∀x∈fl,srt x.2.2=x.2.2
theorem DG.mem{fl:List Ti}{c:Int}(h:DG fl a c):(a,c,bT fl a c)∈fl/\(bT fl a c).length<=30:=by
 obtain⟨u,f,e,l⟩:=h;have m:=ni f;have k:u.1=a/\u.2.1=c:=by
  have:=ze f;exact of_decide_eq_true this
 rw[<- e];refine⟨?_,l⟩;rw[<- k.1,<- k.2];exact m
variable {x:Ti}
theorem tD.one{fl:List Ti}(h:tD fl){y:Ti}(hx:x∈fl)(hy:y∈fl)(e:x.1=y.1/\x.2.1=y.2.1):x=y:=by
 induction fl with
 |nil=>cases hx
 |cons z fl ih=>
  obtain⟨h1,h2⟩:=eo.mp h;rcases bq.mp hx with ex | mx
  ·rcases bq.mp hy with ey | my
   ·rw[ex,ey]
   ·rw[ex] at e;exact absurd e (h1 y my)
  ·rcases bq.mp hy with ey | my
   ·rw[ey] at e;exact absurd ⟨e.1.symm,e.2.symm⟩ (h1 x mx)
   ·exact ih h2 mx my
noncomputable def othB(t:Int×Int×Int)(x:Ti):Bool:=decide (x.1 ∉ [t.1,t.2.1,t.2.2]) || decide (x.2.1 ∉ [t.1,t.2.1,t.2.2])
theorem Gv(fl:List Ti)(t:Int×Int×Int):(pY fl t).length=3:=by unfold pY;split<;>rfl
theorem zP(fl:List Ti)(t:Int×Int×Int):(pY fl t).map (λx=>(x.1,x.2.1))=[(t.1,t.2.1),(t.1,t.2.2),(t.2.1,t.2.2)]:=by unfold pY;split<;>rfl
theorem zG(ts:List Ti)(x:Ti):(rp ts x).1=x.1/\(rp ts x).2.1=x.2.1:=by
 unfold rp;cases h:ts.find? (Ob x) with
 |none=>exact⟨rfl,rfl⟩
 |some u=>
  have:=ze h;exact of_decide_eq_true this
theorem D3{fl:List Ti}{t:Int×Int×Int}(h:fl.Pairwise yF):(iH fl t).Pairwise yF:=by
 unfold iH;rw[gm];refine h.imp λ{x y} z=>?_;unfold yF at z ⊢;rw[(zG _ x).1,(zG _ x).2,(zG _ y).1,(zG _ y).2];exact z
theorem LI{fl:List Ti}{t:Int×Int×Int}(h:othB t x=ai):rp (pY fl t) x=x:=by
 unfold rp;rw[show (pY fl t).find? (Ob x)=aq by
  rw[wp];intro u hu z;have k:=of_decide_eq_true z;have m:(u.1,u.2.1)∈(pY fl t).map (λx=>(x.1,x.2.1)):=V3 hu;rw[zP,k.1,k.2] at m;simp only[bq,ip,or_false,ls] at m;unfold othB at h;simp only[Wx,decide_eq_true_eq,bq,ip,or_false,not_or] at h;ac_rfl]
 rfl
theorem uU{fl:List Ti}(F:Fl5 ks fl){c:Int}(hab:a<b)(hbc:b<c)(h:(a,b,c)∈aP ks):fl.filter (λx=>!othB (a,b,c) x)=[(a,b,bT fl a b),(a,c,bT fl a c),(b,c,bT fl b c)]:=by
 obtain⟨h1,h2,h3⟩:=F.has _ h;have m1:=h1.mem.1;have m2:=h2.mem.1;have m3:=h3.mem.1;simp only at m1 m2 m3;refine Os (F.up.filter _) ?_ λx=>?_
 ·refine eo.mpr ⟨λy hy=>?_,eo.mpr ⟨λy hy=>?_,ya _ _⟩⟩
  ·simp only[bq,ip,or_false] at hy;rcases hy with rfl | rfl
   ·exact Ct (.inr ⟨rfl,hbc⟩)
   ·exact Ct (.inl hab)
  ·rw[dq.mp hy];exact Ct (.inl hab)
 ·rw[ji];constructor
  ·rintro⟨hx,z⟩;have o:=F.ord x hx;unfold othB at z;simp only[xi,vj,decide_eq_false_iff_not,bq,ip,or_false,uo] at z;have k:(x.1=a/\x.2.1=b) \/ (x.1=a/\x.2.1=c) \/ (x.1=b/\x.2.1=c):=(by ac_rfl);rcases k with k | k | k
   ·rw[F.key.one hx m1 k];simp
   ·rw[F.key.one hx m2 k];simp
   ·rw[F.key.one hx m3 k];simp
  ·intro hx;simp only[bq,ip,or_false] at hx;rcases hx with rfl | rfl | rfl
   ·exact⟨m1,by simp[othB]⟩
   ·exact⟨m2,by simp[othB]⟩
   ·exact⟨m3,by simp[othB]⟩
theorem mN{α:Type}(p:α->Bool):∀l:List α,(l.filter p++l.filter λx=>!p x).Perm l
 | []=>.nil
 |x::l=>by
  have ih:=mN p l;cases h:p x
  ·simp only[jh,h,Bool.not_false,if_true,fe,if_false];exact Ur.trans (.cons _ ih)
  ·simp only[jh,h,X4,if_true,fe,if_false];exact .cons _ ih
theorem NZ{fl:List Ti}{c:Int}(hab:a<b)(hbc:b<c)(x y z:List Int):[(a,b,x),(a,c,y),(b,c,z)].map (rp (pY fl (a,b,c)))=pY fl (a,b,c):=by
 have k:=zP fl (a,b,c);have l:=Gv fl (a,b,c);generalize pY fl (a,b,c)=ts at k l
 match ts,l with
 | [u,v,w],_=>
  simp only[cp,vx,ku,ls,and_true] at k;obtain⟨⟨k1,k2⟩,⟨k3,k4⟩,k5,k6⟩:=k;simp only[cp,vx,rp,Ob,uy,k1,k2,k3,k4,k5,k6];have e1:decide (b=c)=ap:=decide_eq_false (by ac_rfl);have e2:decide (a=b)=ap:=decide_eq_false (by ac_rfl);simp[show ¬b=c by ac_rfl,show ¬a=b by ac_rfl]
theorem lG{fl:List Ti}(F:Fl5 ks fl){c:Int}(hab:a<b)(hbc:b<c)(h:(a,b,c)∈aP ks):(iH fl (a,b,c)).Perm (fl.filter (othB (a,b,c))++pY fl (a,b,c)):=by
 have p:=(mN (othB (a,b,c)) fl).map (rp (pY fl (a,b,c)));rw[uz,uU F hab hbc h,NZ hab hbc] at p;rw[show (fl.filter (othB (a,b,c))).map (rp (pY fl (a,b,c)))=fl.filter (othB (a,b,c)) by
  conv=>rhs;rw[<- map_id (fl.filter (othB (a,b,c)))]
  refine jx λx hx=>?_;exact LI (ji.mp hx).2] at p
 exact p.symm
theorem OI{c:Int}:∀(l acc:List Ti),acc.length+l.length<=1000->Q (.nw (.lst (fM (acc++l.filter (othB (a,b,c)))))) ->
  d8 [.un,.v (.tup [.int a,.int b,.int c])] (gN 0) (FI (aW (aQ fE (aQ cA (a8 0) (eC (.int 0))) (a8 1))) (aW (aQ fE (aQ cA (a8 0) (eC (.int 1))) (a8 1)))) (a8 0) (fM l) (fM acc) Q:=by
 intro l;induction l with
 |nil=>
  intro acc _ h;rw[show fM []=[] from rfl,fH];rw[List.filter_nil,ii] at h;exact h
 |cons x l ih=>
  intro acc hl h;rw[bp] at hl;rw[show fM (x::l)=Fo x::fM l from rfl,C1];have nx:=λacc=>ih acc;generalize d8 [.un,.v (.tup [.int a,.int b,.int c])] (gN 0) (FI (aW (aQ fE (aQ cA (a8 0) (eC (.int 0))) (a8 1))) (aW (aQ fE (aQ cA (a8 0) (eC (.int 1))) (a8 1)))) (a8 0) (fM l)=G at nx ⊢;push_cast [Z.nM];have n1:inD (.int x.1) [.int a,.int b,.int c]=decide (x.1∈[a,b,c]):=Dq x.1 [a,b,c];have n2:inD (.int x.2.1) [.int a,.int b,.int c]=decide (x.2.1∈[a,b,c]):=Dq x.2.1 [a,b,c];have o3:okDs 8 [.int a,.int b,.int c]=ai:=pF 8 [a,b,c];have yes:othB (a,b,c) x=ai->(fM acc).length<1000000/\G (fM acc++[Fo x]) Q:=λz=>by
   refine⟨by rw[bi];ac_rfl,?_⟩;rw[show fM acc++[Fo x]=fM (acc++[x]) by simp];refine nx _ (by simp;ac_rfl) ?_;rw[jh,Y4 z] at h;rw[cm];exact h
  refine(show fE _ (.tup _) _ from⟨⟨rfl,o3⟩,?_⟩);rw[n1];by_cases m1:x.1∈[a,b,c]
  ·rw[decide_eq_true m1];refine pA (show fE _ (.tup _) _ from⟨⟨rfl,o3⟩,?_⟩);rw[n2];by_cases m2:x.2.1∈[a,b,c]
   ·rw[decide_eq_true m2];refine pA (nx acc (by ac_rfl) ?_);rw[jh,XF (by unfold othB;simp only[m1,m2,not_true,decide_false,Bool.or_self];decide)] at h;exact h
   ·rw[decide_eq_false m2];exact mZ (yes (by unfold othB;simp only[m2,not_false_iff,decide_true,Bool.or_true]))
  ·rw[decide_eq_false m1];exact mZ (yes (by unfold othB;simp only[m1,not_false_iff,decide_true,Xj]))
noncomputable def lX(C:af):Fn:=λds Q=>∃(rows:List Rw) (fl:List Ti) (a b c:Int),ds=[bH C rows,.lst (fM fl),.tup [.int a,.int b,.int c]]/\Fl5 (aH rows) fl/\a<b/\b<c/\(a,b,c)∈aP (aH rows)/\kC fl (a,b,c)/\Q (.nw (.lst (fM (iH fl (a,b,c)))))
theorem HQ:∀ds Q,lX C ds Q->ds.length=3:=by rintro ds Q ⟨_,_,_,_,_,rfl,_⟩;rfl
theorem JW:MonoF (lX C):=⟨λds Q Q' w z=>by obtain⟨a,b,c,d,e,f,g,h,i,j,k,l⟩:=z;exact⟨a,b,c,d,e,f,g,h,i,j,k,w _ l⟩⟩
theorem MW{fl:List Ti}(F:Fl5 ks fl){c:Int}(hab:a<b)(hbc:b<c)(h:(a,b,c)∈aP ks)(q:Q (.nw (.lst (fM (iH fl (a,b,c)))))):hU [.lst (fM (fl.filter (othB (a,b,c))++pY fl (a,b,c)))] Q:=by
 have P:=lG F hab hbc h;have U:=D3 (t:=(a,b,c)) F.up;have L:(fl.filter (othB (a,b,c))++pY fl (a,b,c)).length<=60:=by rw[<- P.length_eq,iH,bi];exact F.len
 generalize fl.filter (othB (a,b,c))++pY fl (a,b,c)=l at P L;rw[show fM l=(l.map λt:Ti=>(([t.1,t.2.1],[Dv.tup (b8 t.2.2)]):List Int×List Dv)).map tI by rw[lj];rfl];refine yC (k:=1) (by simp;ac_rfl) (λt ht=>?_) ?_ λts' hp hs=>?_
 ·obtain⟨u,_,rfl⟩:=fx.mp ht;rfl
 ·rw[gm];have nd:l.Pairwise λt u=>yF t u \/ yF u t:=by
   have:(iH fl (a,b,c)).Pairwise λt u=>yF t u \/ yF u t:=U.imp λh=>.inl h;exact(P.pairwise_iff λ{x y} h=>h.symm).mp this
  refine nd.imp λ{x y} z e=>?_;simp only at e;rcases z with z | z <;>
  ·unfold yF at z
   first | rw[e,g8] at z | rw[<- e,g8] at z
   cases z
 ·obtain⟨ps,pp,rfl⟩:=lC hp (its:=l) rfl;rw[gm] at hs;rw[yY (P.trans pp.symm) U hs] at q;rw[lj];exact q
theorem Ed:∀ds Q,lX C ds Q->sJ (jN C) eI xT ({ nx:=λ_=>Q (.v .non),rt:=Q }) (aN ["sides", "floor", "three", "tiles", "others"] ds):=by
 rintro ds Q ⟨rows,fl,a,b,c,rfl,F,hab,hbc,h3,hx,q⟩;obtain⟨g1,g2,g3⟩:=F.has _ h3;have fl60:=F.len;push_cast [Z.nM];refine⟨rows,rfl,F.n12,?_⟩;push_cast [Z.nM];refine(show fE _ (.lst _) _ from⟨⟨pF 7 [a,b,c],uJ _⟩,?_⟩);rw[show inD (.tup [.int a,.int b,.int c]) (cX (aP (aH rows)))=decide ((a,b,c)∈aP (aH rows)) from Dp (a,b,c) _,decide_eq_true h3];refine pA ?_;refine⟨fl,rfl,(by ac_rfl),F.key,?_⟩;push_cast [Z.nM];refine⟨fl,a,b,c,rfl,g1,g2,g3,λ_=>?_,λz=>absurd hx z⟩;push_cast [Z.nM];refine OI fl [] (by simp;ac_rfl) ?_;push_cast [Z.nM];have nl:=Gv fl (a,b,c);have fll:=qk (othB (a,b,c)) fl;refine⟨by rw[bi,bi,nl];ac_rfl,?_⟩;rw[<- uz];exact MW F hab hbc h3 q
end Lw
namespace Lw
open L2 Z
open Sf (Rw crs qT Pre Good aH aY place many)
open Fl (kd ids Walk cZ tls pc aK Pt Bf srt c8 yW tS fV)
theorem Od(t:Ti):∀l:List Ti,inD (Fo t) (fM l)=decide (t∈l)
 | []=>rfl
 |u::l=>by
  have ih:=Od t l;unfold inD at ih ⊢;have e:eqD (Fo u) (Fo t)=decide (u=t):=by
   rw[rn,decide_eq_true_eq];exact Hv u t
  rw[show fM (u::l)=Fo u::fM l from rfl,rj,ih,e,<- Uq];refine decide_eq_decide.mpr ?_;rw[bq];exact⟨λz=>z.imp Eq.symm _root_.id,λz=>z.imp Eq.symm _root_.id⟩
theorem OL(n:Nat)(t:Ti):dL (n+2) (Fo t)=ai:=by
 show (dL (n+1) (.int t.1)&&(dL (n+1) (.int t.2.1)&&(dL (n+1) (.tup (b8 t.2.2))&&ai)))=ai;rw[show dL (n+1) (.tup (b8 t.2.2))=ai from pF n _];rfl
theorem QJ(l:List Ti):okDs 8 (fM l)=ai:=oU 8 _ λd hd=>by
 obtain⟨t,_,rfl⟩:=fx.mp hd;exact OL 6 t
noncomputable def Ub(l:List Int)(p:Nat):Ti:=(l.getD p 0,l.getD (p+1) 0,srt (l.take p))
theorem Hs{t:Ti}:∀lf:List Ti,t∈lf -> ∃j,lf[j]?=aa t/\(∀m e,m<j->lf[m]?=aa e->e≠t)/\(t::lf.eraseIdx j).Perm lf
 |u::lf,h=>by
  by_cases e:u=t
  ·subst e;exact⟨0,rfl,λm e h=>by ac_rfl,.refl _⟩
  ·have h':t∈lf:=(bq.mp h).resolve_left λz=>e z.symm;obtain⟨j,h1,h2,h3⟩:=Hs lf h';refine⟨j+1,h1,λm v hm hv=>?_,(List.Perm.swap _ _ _).trans (.cons _ h3)⟩;cases m with
   |zero=>cases hv;exact e
   |succ m=>exact h2 m v (by ac_rfl) hv
theorem Ma{α β:Type}(f:α->β):∀(l:List α) (j:Nat),(l.map f).eraseIdx j=(l.eraseIdx j).map f
 | [],_=>rfl
 |x::l,0=>rfl
 |x::l,j+1=>by
  show f x::(l.map f).eraseIdx j=f x::(l.eraseIdx j).map f;rw[Ma f l j]
theorem wmore{R e S cur:List Int}(w:Walk ks (ids ks.length) R e)(v:Walk ks (ids ks.length) S cur)(h:S.length<R.length):¬cZ ks cur:=λd=>by
 have P:=Pt.ids ks.length;have nd:=w.nodup P;have:=nd.length_le_of_subset (l₂:=(tls (ids ks.length) S).map λt=>(t.1,t.2.1)) λk hk=>by
  obtain⟨t,ht,rfl⟩:=fx.mp hk;obtain⟨h1,h2,_⟩:=w.key P ht;obtain⟨u,hu,e1,e2⟩:=v.all P d h2 h1;exact fx.mpr ⟨u,hu,by rw[e1,e2]⟩
 rw[bi,bi,Fl.jD,Fl.jD] at this;ac_rfl
noncomputable def DQ:Fn:=λds Q=>∃(ks row e:List Int) (fl:List Ti),ds=[.lst (b8 ks),.lst (fM fl)]/\2<=ks.length/\ks.length<=12/\Walk ks (ids ks.length) row e/\cZ ks e/\row.length<=60/\fl.Perm (fV (ids ks.length) row)/\Q (.v (.bl ai))
theorem OX:∀ds Q,DQ ds Q->ds.length=2:=by rintro ds Q ⟨_,_,_,_,rfl,_⟩;rfl
theorem QK:MonoF DQ:=⟨λds Q Q' w z=>by obtain⟨a,b,c,d,e,f,g,h,i,j,k,l⟩:=z;exact⟨a,b,c,d,e,f,g,h,i,j,k,w _ l⟩⟩
end Lw
namespace Lw
open L2 Z
open Sf (Rw crs qT Pre Good aH aY place many)
open Fl (kd ids Walk cZ tls pc aK Pt Bf srt c8 yW tS fV tm)
theorem Hi(ks:List Int)(a b:Int):∀(i c:Nat) (z:Int),(c:Int)<=z->z<(c+i:Nat)->kd ks z≠kd ks b->(a,b,z)∈yL ks a b i c
 |0,c,z,h1,h2,_=>by ac_rfl
 |i+1,c,z,h1,h2,h3=>by
  rw[yL,dv];by_cases e:z=(c:Int)
  ·left;rw[XF (by rw[<- e];exact h3),e];exact dq.mpr rfl
  ·exact .inr (Hi ks a b i (c+1) z (by ac_rfl) (by ac_rfl) h3)
variable {a:Int}
theorem EG{c:Int}(h0:0<=a)(hab:a<b)(hbc:b<c)(hc:c<ks.length)(k1:kd ks a≠kd ks b)(k2:kd ks b≠kd ks c):(a,b,c)∈aP ks:=
 Wj.mpr ⟨(a,b),lD.mpr ⟨h0,hab,by show b<_;ac_rfl,k1⟩,Hi ks a b _ _ c (by dsimp only;ac_rfl) (by dsimp only;ac_rfl) (Ne.symm k2)⟩
variable {e:List Int}
theorem iZ.has{fl:List Ti}(w:Walk ks (ids ks.length) row e)(d:cZ ks e)(m:k8 ks)(hn:ks.length<=12)(F:iZ ks row fl){c:Int}(h0:0<=a)(hac:a<c)(hc:c<ks.length)(hk:kd ks a≠kd ks c):DG fl a c:=by
 obtain⟨u,hu,_,_,_,eu⟩:=o0 (F.cov w d m a c h0 hac hc hk);have k1:=m a c h0 (by ac_rfl) hc;obtain⟨p,q,_,P1,_,_,_,g⟩:=w.tile (w.tm_lt d h0 hac hc (by ac_rfl));have b:=F.below w g;refine⟨u,hu,eu.symm,?_⟩;rw[<- eu,b,Fl.iK];have:=P1.len;show (p.take q).length<=30;rw[dj];ac_rfl
structure IsF(ks:List Int)(fl:List Ti):Prop where
 n2:2<=ks.length
 n12:ks.length<=12
 mo:k8 ks
 up:fl.Pairwise yF
 row:∃row e,Walk ks (ids ks.length) row e/\cZ ks e/\row.length<=60/\fl.Perm (fV (ids ks.length) row)
theorem PP(us:List Ti):Al (us.map tS) us:=⟨by rw[bi],λi t u h1 h2=>by
 rw[cj,h2] at h1;cases h1;exact⟨rfl,rfl,rfl⟩⟩
theorem N8{ts us:List Ti}(h:Al ts us):ts=us.map tS:=by
 apply pi;intro i;rw[cj];by_cases hi:i<us.length
 ·have hi':i<ts.length:=by rw[h.1];exact hi
  obtain⟨a,b,c⟩:=h.2 i _ _ (ar hi') (ar hi);rw[ar hi',ar hi];show aa ts[i]=aa (us[i].1,us[i].2.1,srt us[i].2.2);rw[<- a,<- b,<- c]
 ·rw[uq (by rw[h.1];ac_rfl),uq (by ac_rfl)];rfl
theorem kK{fl:List Ti}(h:fl.Perm (fV (ids ks.length) row)):iZ ks row fl:=⟨_,h,PP _⟩
theorem Dg{fl:List Ti}(h:iZ ks row fl):fl.Perm (fV (ids ks.length) row):=by
 obtain⟨ts,p,a⟩:=h;rw[N8 a] at p;exact p
theorem Ij(l:List Int):srt (srt l)=srt l:=Fl.nJ (Fl.dR l)
theorem IsF.key{fl:List Ti}(F:IsF ks fl):tD fl:=by
 obtain⟨row,e,w,d,rl,p⟩:=F.row;exact(kK p).keys w
theorem IsF.len{ks:List Int}{fl:List Ti}(F:IsF ks fl):fl.length<=60:=by
 obtain⟨row,e,w,d,rl,p⟩:=F.row;rw[(kK p).len];exact rl
variable {x y:Int}
theorem MV(h:Bf (ids n) x y):x<y:=by
 obtain⟨i,j,h1,h2,h3,h4⟩:=h;have ln:(ids n).length=n:=by simp
 rw[Fl.jJ (by ac_rfl)] at h3 h4;ac_rfl
theorem IsF.fl5{fl:List Ti}(F:IsF ks fl):Fl5 ks fl:=by
 have m:=F.mo;have n12:=F.n12;have kf:=F.key;have lf:=F.len;obtain⟨row,e,w,d,rl,p⟩:=F.row;have FO:=kK p;refine⟨n12,lf,kf,F.up,λx hx=>?_,λt ht=>?_,λx hx=>?_⟩
 ·obtain⟨u,hu,rfl⟩:=fx.mp (p.mem_iff.mp hx);exact MV (w.key (Pt.ids _) hu).1
 ·obtain⟨m1,m2,m3,m4,m5,m6⟩:=i9 ht;have k1:=m t.1 t.2.1 m1 (by ac_rfl) (by ac_rfl);have k2:=m t.2.1 t.2.2 (by ac_rfl) (by ac_rfl) m4;exact⟨FO.has w d m n12 m1 m2 (by ac_rfl) m5,FO.has w d m n12 m1 (by ac_rfl) m4 (by ac_rfl),FO.has w d m n12 (by ac_rfl) m3 m4 m6⟩
 ·obtain⟨u,hu,rfl⟩:=fx.mp (p.mem_iff.mp hx);exact Ij u.2.2
theorem PB{L:List α}{j k:Nat}{u v w:α}(hi:L[i]?=aa u)(hj:L[j]?=aa v)(hk:L[k]?=aa w)(ij:i<j)(jk:j<k):∃A B C D,L=A++u::(B++v::(C++w::D)):=by
 obtain⟨h1,e1⟩:=bb.mp hi;obtain⟨h2,e2⟩:=bb.mp hj;obtain⟨h3,e3⟩:=bb.mp hk;refine⟨L.take i,(L.drop (i+1)).take (j-i-1),(L.drop (j+1)).take (k-j-1),L.drop (k+1),?_⟩;have s1:L=L.take i++u::L.drop (i+1):=by rw[<- e1,<- fc h1,jt]
 have s2:L.drop (i+1)=(L.drop (i+1)).take (j-i-1)++v::L.drop (j+1):=by
  conv=>lhs;rw[<- jt (j-i-1) (L.drop (i+1))]
  rw[Ux,show i+1+(j-i-1)=j by ac_rfl,fc h2,e2]
 have s3:L.drop (j+1)=(L.drop (j+1)).take (k-j-1)++w::L.drop (k+1):=by
  conv=>lhs;rw[<- jt (k-j-1) (L.drop (j+1))]
  rw[Ux,show j+1+(k-j-1)=k by ac_rfl,fc h3,e3]
 rw[<- s3,<- s2,<- s1]
theorem uT{fl:List Ti}(w:Walk ks (ids ks.length) row e)(FO:iZ ks row fl)(h:tm ks row x y<row.length):∃pre,(tls (ids ks.length) row)[tm ks row x y]?=aa (x,y,pre)/\bT fl x y=srt pre/\x ∉ bT fl x y/\y ∉ bT fl x y:=by
 obtain⟨m,p,w1,P1,hp,ea,ec,g⟩:=w.tile h;have lm:=P1.len;have b:=FO.below w g;have no:∀(i:Nat) (z:Int),i<ks.length->p<=i->m.getD i 0=z->z ∉ m.take p:=λi z hi hpi hz hm=>by
  obtain⟨q,hq,eq⟩:=ed.mp hm;rw[dj] at hq;rw[iq] at eq;have:=P1.inj q i (by ac_rfl) hi (by rw[hz,<- eq];simp[dg,show q<m.length by ac_rfl]);ac_rfl
 have eb:bT fl x y=srt (m.take p):=b;refine⟨m.take p,g,eb,λz=>?_,λz=>?_⟩
 ·rw[eb] at z;exact no p x (by ac_rfl) (bj _) ea ((Fl.dR _).mem_iff.mp z)
 ·rw[eb] at z;exact no (p+1) y hp (by ac_rfl) ec ((Fl.dR _).mem_iff.mp z)
theorem Nt(A B C D:List α)(u v w:α):(A++u::(B++v::(C++w::D))).Perm ((A++B)++(C++D)++[u,v,w]):=by
 rw[cm (A++B)];have e1:(A++u::(B++v::(C++w::D))).Perm (u::(A++(B++v::(C++w::D)))):=Ur;have e2:(A++(B++v::(C++w::D))).Perm (v::(A++B++(C++w::D))):=by rw[<- cm];exact Ur
 have e3:(A++B++(C++w::D)).Perm (w::(A++B++C++D)):=by rw[<- cm];exact Ur
 have e4:(u::v::w::(A++B++C++D)).Perm ((A++B++C++D)++[u,v,w]):=(jg (l₁:=[u,v,w]));refine e1.trans ((List.Perm.cons _ (e2.trans (.cons _ e3))).trans (e4.trans ?_));simp
structure Three(ks:List Int)(fl:List Ti)(a b c:Int):Prop where
 t:(a,b,c)∈aP ks
 ab:a<b
 bc:b<c
 a1:a ∉ bT fl a b
 b1:b ∉ bT fl a b
 a2:a ∉ bT fl a c
 c2:c ∉ bT fl a c
 b3:b ∉ bT fl b c
 c3:c ∉ bT fl b c
theorem IsF.flip{fl:List Ti}(F:IsF ks fl){c:Int}(t3:(a,b,c)∈aP ks)(hx:kC fl (a,b,c)):IsF ks (iH fl (a,b,c))/\Three ks fl a b c:=by
 have m:=F.mo;have n12:=F.n12;have F5:=F.fl5;obtain⟨row,e,w,d,rl,p⟩:=F.row;have FO:=kK p;obtain⟨m1,m2,m3,m4,m5,m6⟩:=i9 t3;simp only at m1 m2 m3 m4 m5 m6;have k1:=m a b m1 (by ac_rfl) (by ac_rfl);have k2:=m b c (by ac_rfl) (by ac_rfl) m4;have i1:=w.tm_lt d m1 m2 (by ac_rfl) (by ac_rfl);have i2:=w.tm_lt d m1 (show a<c by ac_rfl) m4 (by ac_rfl);have i3:=w.tm_lt d (show 0<=b by ac_rfl) m3 m4 (by ac_rfl);obtain⟨p1,g1,e1,n1,n1'⟩:=uT w FO i1;obtain⟨p2,g2,e2,n2,n2'⟩:=uT w FO i2;obtain⟨p3,g3,e3,n3,n3'⟩:=uT w FO i3;have T:Three ks fl a b c:=⟨t3,m2,m3,n1,n1',n2,n2',n3,n3'⟩;refine⟨?_,T⟩;have tr:=w.tri d m m1 m2 m3 m4 (by ac_rfl);have th:=w.three d m1 m2 m3 m4 (by ac_rfl) (by ac_rfl) g1 ⟨rfl,rfl⟩ g3 ⟨rfl,rfl⟩ g2 ⟨rfl,rfl⟩;have G:∀{i:Nat} {x y:Int} {pre:List Int},(tls (ids ks.length) row)[i]?=aa (x,y,pre)->bT fl x y=srt pre->(fV (ids ks.length) row)[i]?=aa (x,y,bT fl x y):=λh he=>by
  unfold fV;rw[cj,h,he];rfl
 have L1:=G g1 e1;have L2:=G g2 e2;have L3:=G g3 e3;have pf:=lG F5 m2 m3 t3;have po:∀{A B C D:List Ti} {u v x:Ti},fV (ids ks.length) row=A++u::(B++v::(C++x::D))->([u,v,x].Perm [(a,b,bT fl a b),(a,c,bT fl a c),(b,c,bT fl b c)])->(fl.filter (othB (a,b,c))).Perm ((A++B)++(C++D)):=λ{A B C D u v x} h hp=>by
  have q1:=mN (othB (a,b,c)) fl;rw[uU F5 m2 m3 t3] at q1;have q2:=(q1.trans p);rw[h] at q2;have q3:=q2.trans ((Nt A B C D u v x).trans (hp.append_left _));exact(List.perm_append_right_iff _).mp q3
 have fin:∀{Yu:List Int} {A B C D:List Ti},Walk ks (ids ks.length) Yu e->(fl.filter (othB (a,b,c))).Perm ((A++B)++(C++D))->(fV (ids ks.length) Yu).Perm ((A++B)++(C++D)++pY fl (a,b,c))->IsF ks (iH fl (a,b,c)):=λ{Yu A B C D} w' h1 h2=>by
  have P:=pf.trans ((h1.append_right _).trans h2.symm);refine⟨F.n2,n12,m,D3 F.up,Yu,e,w',d,?_,P⟩;have:=P.length_eq;rw[iH,bi,fV,bi,Fl.jD] at this;have:=F.len;ac_rfl
 by_cases u:E8 fl (a,b,c)
 ·have u1:bT fl b c=bT fl a b:=u.1;have u2:bT fl a c=srt (bT fl a b++[b]):=u.2;have hb:b∈p2:=by
   have:b∈bT fl a c:=by rw[u2];exact(Fl.dR _).mem_iff.mpr (by simp)
   rw[e2] at this;exact(Fl.dR _).mem_iff.mp this
  have o13:=th.mp hb;have o:tm ks row a b<tm ks row a c/\tm ks row a c<tm ks row b c:=(by ac_rfl);obtain⟨A,B,C,D,hd⟩:=PB L1 L2 L3 o.1 o.2;have hd':=hd;rw[u1,u2] at hd';obtain⟨Yu,w',h'⟩:=Fl.K3 w (Pt.ids _) hd';refine fin (A:=A) (B:=B) (C:=C) (D:=D) w' (po hd (.refl _)) ?_;rw[h',pY,Y4 u];show ((A++B)++([(b,c,srt (bT fl a b++[a])),(a,c,bT fl a b),(a,b,srt (bT fl a b++[c]))]++(C++D))).Perm _;rw[cm (A++B) (C++D)];refine qc _ (jg.trans (qc _ ?_));show ([(b,c,srt (bT fl a b++[a])),(a,c,bT fl a b),(a,b,srt (bT fl a b++[c]))]:List Ti).Perm [(a,b,srt (bT fl a b++[c])),(a,c,bT fl a b),(b,c,srt (bT fl a b++[a]))];exact jl [(a,b,srt (bT fl a b++[c])),(a,c,bT fl a b),(b,c,srt (bT fl a b++[a]))]
 ·have dn:Ms fl (a,b,c):=(show E8 fl (a,b,c) \/ Ms fl (a,b,c) from hx).resolve_left u;have u1:bT fl a b=srt (bT fl a c++[c]):=dn.1;have u3:bT fl b c=srt (bT fl a c++[a]):=dn.2;have hb:b ∉ p2:=λz=>n1' (by
   rw[u1];refine(Fl.dR _).mem_iff.mpr (fh _ ?_);rw[e2];exact(Fl.dR _).mem_iff.mpr z)
  have o13:¬tm ks row a b<tm ks row b c:=λz=>hb (th.mpr z);have o:tm ks row b c<tm ks row a c/\tm ks row a c<tm ks row a b:=(by ac_rfl);obtain⟨A,B,C,D,hd⟩:=PB L3 L2 L1 o.1 o.2;have hd':=hd;rw[u1,u3] at hd';obtain⟨Yu,w',h'⟩:=Fl.K4 w (Pt.ids _) hd';refine fin (A:=A) (B:=B) (C:=C) (D:=D) w' (po hd (jl [(a,b,bT fl a b),(a,c,bT fl a c),(b,c,bT fl b c)])) ?_;rw[h',pY,XF u];show ((A++B)++([(a,b,bT fl a c),(a,c,srt (bT fl a c++[b])),(b,c,bT fl a c)]++(C++D))).Perm _;rw[cm (A++B) (C++D)];exact qc _ (jg.trans (qc _ (.refl _)))
end Lw
namespace Lw
open L2 Z
open Sf (Rw crs qT Pre Good aH aY place many)
open Fl (kd ids Walk cZ tls pc aK Pt Bf srt c8 yW tS fV tm)
noncomputable def QM(t u:Int×Int):Prop:=t.1<u.1 \/ (t.1=u.1/\t.2<u.2)
theorem Hj(ks:List Int)(a:Int):∀i b,(A5 ks a i b).Pairwise QM
 |0,_=>.nil
 |i+1,b=>by
  rw[A5];refine fj.mpr ⟨?_,Hj ks a i (b+1),λt ht u hu=>?_⟩
  ·split
   ·exact .nil
   ·exact ya _ _
  ·have h2:=(uM ks a i (b+1) u).mp hu;split at ht
   ·cases ht
   ·rw[dq] at ht;subst ht;exact .inr ⟨h2.1.symm,by have:=h2.2.1;dsimp only;ac_rfl⟩
theorem De(ks:List Int):∀i a,a+i=ks.length->(mF ks i a).Pairwise QM
 |0,_,_=>.nil
 |i+1,a,h=>by
  rw[mF];refine fj.mpr ⟨Hj ..,De ks i (a+1) (by ac_rfl),λt ht u hu=>.inl ?_⟩;have h1:=((uM ks a _ _ t).mp ht).1;have h2:=((vN ks i (a+1) u (by ac_rfl)).mp hu).1;ac_rfl
theorem Gb(ks:List Int):(hC ks).Pairwise QM:=De ks ks.length 0 (by ac_rfl)
noncomputable abbrev Th:=Int×Int×Int
noncomputable abbrev k3(t:Th):List Int:=[t.1,t.2.1,t.2.2]
theorem Hh(ks:List Int)(a b:Int):∀(i c:Nat),(yL ks a b i c).Pairwise λt u=>lexB (k3 t) (k3 u)=ai
 |0,c=>.nil
 |i+1,c=>by
  rw[yL];refine fj.mpr ⟨by split<;>simp,Hh ks a b i (c+1),λt ht u hu=>?_⟩;obtain⟨e1,e2,e3,_⟩:=rT _ _ _ _ _ _ hu;split at ht
  ·cases ht
  ·rw[dq.mp ht];simp[lexB,e1,e2];ac_rfl
theorem xR(ks:List Int):(aP ks).Pairwise λt u=>lexB (k3 t) (k3 u)=ai:=by
 unfold aP f6;rw[List.pairwise_flatMap];refine⟨λt _=>Hh _ _ _ _ _,(Gb ks).imp λ{a b} h x hx y hy=>?_⟩;obtain⟨e1,e2,_⟩:=rT _ _ _ _ _ _ hx;obtain⟨f1,f2,_⟩:=rT _ _ _ _ _ _ hy;unfold QM at h;simp only[lexB,e1,e2,f1,f2];rcases h with h | ⟨h,h2⟩
 ·rw[XF (by ac_rfl)];exact decide_eq_true h
 ·rw[Y4 h,XF (by ac_rfl)];exact decide_eq_true h2
theorem TZ{B:List Th}:∀(l acc:List Th),acc.length+l.length<=10000->Q (.nw (.lst (cX (acc++l.filter λt=>!decide (t∈B))))) ->
  d8 [.un,.v (.lst (cX B))] (gN 0) (aW (aQ fE (a8 0) (a8 1))) (a8 0) (cX l) (cX acc) Q:=by
 intro l;induction l with
 |nil=>
  intro acc _ h;rw[show cX []=[] from rfl,fH];simpa using h
 |cons t l ih=>
  intro acc hl h;simp only[bp] at hl;rw[show cX (t::l)=.tup [.int t.1,.int t.2.1,.int t.2.2]::cX l from rfl];push_cast [fE,Dp,bi];refine⟨⟨rfl,uJ B⟩,?_⟩;by_cases z:t∈B
  ·rw[decide_eq_true z,XF (by decide)];rw[px (by simpa using z)] at h;exact ih _ (by ac_rfl) h
  ·rw[decide_eq_false z,Y4 (by decide)];refine⟨(by ac_rfl),?_⟩;rw[show cX acc++[Dv.tup [Dv.int t.1,Dv.int t.2.1,Dv.int t.2.2]]=cX (acc++[t]) by simp];rw[pq (by simpa using z)] at h;exact ih _ (by simp;ac_rfl) (by simpa using h)
theorem L8(l:List Th):cX l=(l.map λt=>(k3 t,([]:List Dv))).map tI:=by rw[lj];rfl
noncomputable def upB(l:List Ti)(t:Int×Int×Int):Bool:=decide (t.2.1∈bT l t.1 t.2.2)
theorem N6{fl:List Ti}(cov:TK ks fl)(mono:k8 ks):∀(l acc:List (Int×Int×Int)),(∀t∈l,t∈aP ks)->acc.length+l.length<=10000->Q (.nw (.lst (cX (acc++l.filter (upB fl))))) ->
  d8 [.un,.v (.dit (mX fl))] (gN 0) (aW (aQ JK (aQ cA (a8 0) (eC (.int 1))) (aQ cA (a8 1) (bQ (a7 (aQ cA (a8 0) (eC (.int 0))) (a7 (aQ cA (a8 0) (eC (.int 2))) aF)))))) (a8 0) (cX l) (cX acc) Q:=by
 intro l;induction l with
 |nil=>
  intro acc _ _ h;rw[show cX []=[] from rfl,fH];simpa using h
 |cons t l ih=>
  intro acc hm hl h;simp only[bp] at hl;obtain⟨m1,m2,m3,m4,m5,m6⟩:=i9 (hm t (by simp));have k1:=mono t.1 t.2.1 m1 (by ac_rfl) (by ac_rfl);have k2:=mono t.2.1 t.2.2 (by ac_rfl) (by ac_rfl) m4;obtain⟨u,hu,_,_,_,eu⟩:=o0 (cov t.1 t.2.2 m1 (by ac_rfl) m4 (by ac_rfl));rw[show cX (t::l)=.tup [.int t.1,.int t.2.1,.int t.2.2]::cX l from rfl];push_cast [mM,hu,vg,JK,Dq,bi];refine⟨⟨Rx _ _,pF _ _⟩,?_⟩;rw[<- eu];have e:upB fl t=decide (t.2.1∈bT fl t.1 t.2.2):=rfl;by_cases z:t.2.1∈bT fl t.1 t.2.2
  ·rw[Y4 z];refine⟨(by ac_rfl),?_⟩;rw[show cX acc++[Dv.tup [Dv.int t.1,Dv.int t.2.1,Dv.int t.2.2]]=cX (acc++[t]) by simp];rw[pq (by rw[e];simpa using z)] at h;exact ih _ (λt ht=>hm t (bm _ ht)) (by simp;ac_rfl) (by simpa using h)
  ·rw[XF z];rw[px (by rw[e];simpa using z)] at h;exact ih _ (λt ht=>hm t (bm _ ht)) (by ac_rfl) h
variable {x:Int}
theorem qE{l:List Ti}(k:tD l){y:Int}{z:List Int}(h:(x,y,z)∈l):bT l x y=z:=by
 obtain⟨t,_,ht,e1,e2,e3⟩:=o0 (l:=l) (a:=x) (c:=y) ⟨_,h,rfl,rfl⟩;have:=k.one ht h ⟨e1,e2⟩;rw[e3,this]
theorem Lv{fl:List Ti}{t:Int×Int×Int}:(pY fl t).filter (othB t)=[]:=by
 rw[ki];intro u hu;have m:(u.1,u.2.1)∈(pY fl t).map (λx=>(x.1,x.2.1)):=V3 hu;rw[zP] at m;simp only[bq,ip,or_false,ls] at m;unfold othB;simp only[Wx,decide_eq_true_eq,bq,ip,or_false,not_or];ac_rfl
theorem g7:x∈srt l ↔ x∈l:=(Fl.dR l).mem_iff
structure Nw(fl:List Ti)(a b c:Int)(S:List Int)(u:Bool):Prop where
 o1:bT fl a b=if u then S else srt (S++[c])
 o2:bT fl a c=if u then srt (S++[b]) else S
 o3:bT fl b c=if u then S else srt (S++[a])
 n1:bT (iH fl (a,b,c)) a b=if u then srt (S++[c]) else S
 n2:bT (iH fl (a,b,c)) a c=if u then S else srt (S++[b])
 n3:bT (iH fl (a,b,c)) b c=if u then srt (S++[a]) else S
 na:a ∉ S
 nb:b ∉ S
 nc:c ∉ S
variable {a:Int}
theorem Gu{fl:List Ti}(F:IsF ks fl){c:Int}(t3:(a,b,c)∈aP ks)(hx:kC fl (a,b,c)):∃S u,Nw fl a b c S u:=by
 obtain⟨F',T⟩:=F.flip t3 hx;have K:=F'.key;have P:=lG F.fl5 T.ab T.bc t3;have mem:∀x∈pY fl (a,b,c),x∈iH fl (a,b,c):=λx hx=>P.mem_iff.mpr (dr _ hx);by_cases u:E8 fl (a,b,c)
 ·have u1:bT fl b c=bT fl a b:=u.1;have u2:bT fl a c=srt (bT fl a b++[b]):=u.2;rw[pY,Y4 u] at mem;refine⟨bT fl a b,ai,rfl,u2,u1,?_,?_,?_,T.a1,T.b1,u1 ▸ T.c3⟩
  ·exact qE K (mem (a,b,srt (bT fl a b++[c])) (by simp[IA]))
  ·exact qE K (mem (a,c,bT fl a b) (by simp[IA]))
  ·exact qE K (mem (b,c,srt (bT fl a b++[a])) (by simp[IA]))
 ·have dn:Ms fl (a,b,c):=(show E8 fl (a,b,c) \/ Ms fl (a,b,c) from hx).resolve_left u;have u1:bT fl a b=srt (bT fl a c++[c]):=dn.1;have u3:bT fl b c=srt (bT fl a c++[a]):=dn.2;rw[pY,XF u] at mem;refine⟨bT fl a c,ap,u1,rfl,u3,?_,?_,?_,T.a2,λz=>T.b1 (by rw[u1,g7];exact fh _ z),T.c2⟩
  ·exact qE K (mem (a,b,bT fl a c) (by simp[Fg]))
  ·exact qE K (mem (a,c,srt (bT fl a c++[b])) (by simp[Fg]))
  ·exact qE K (mem (b,c,bT fl a c) (by simp[Fg]))
theorem IsF.back{fl:List Ti}(F:IsF ks fl){c:Int}(t3:(a,b,c)∈aP ks)(hx:kC fl (a,b,c)):kC (iH fl (a,b,c)) (a,b,c)/\iH (iH fl (a,b,c)) (a,b,c)=fl:=by
 obtain⟨F',T⟩:=F.flip t3 hx;obtain⟨S,u,N⟩:=Gu F t3 hx;have fo:((iH fl (a,b,c)).filter (othB (a,b,c))).Perm (fl.filter (othB (a,b,c))):=by
  have:=(lG F.fl5 T.ab T.bc t3).filter (othB (a,b,c));rw[ve,Lv,ii,Vk] at this;simpa using this
 have bk:pY (iH fl (a,b,c)) (a,b,c)=[(a,b,bT fl a b),(a,c,bT fl a c),(b,c,bT fl b c)]->iH (iH fl (a,b,c)) (a,b,c)=fl:=λh=>by
  have p1:=lG F'.fl5 T.ab T.bc t3;rw[h] at p1;have p2:=mN (othB (a,b,c)) fl;rw[uU F.fl5 T.ab T.bc t3] at p2;exact yY (p1.trans ((fo.append_right _).trans p2)) (D3 F'.up) F.up
 cases u with
 |true=>
  have o1:bT fl a b=S:=N.o1;have o2:bT fl a c=srt (S++[b]):=N.o2;have o3:bT fl b c=S:=N.o3;have n1:bT (iH fl (a,b,c)) a b=srt (S++[c]):=N.n1;have n2:bT (iH fl (a,b,c)) a c=S:=N.n2;have n3:bT (iH fl (a,b,c)) b c=srt (S++[a]):=N.n3;have no:¬E8 (iH fl (a,b,c)) (a,b,c):=λz=>by
   have z1:bT (iH fl (a,b,c)) b c=bT (iH fl (a,b,c)) a b:=z.1;rw[n3,n1] at z1;have:c∈srt (S++[a]):=by rw[z1,g7];simp
   rw[g7,dv,dq] at this;have hab:=T.ab;have hbc:=T.bc;rcases this with h | h
   ·exact N.nc h
   ·ac_rfl
  refine⟨.inr ⟨?_,?_⟩,bk ?_⟩
  ·show bT (iH fl (a,b,c)) a b=srt (bT (iH fl (a,b,c)) a c++[c]);rw[n1,n2]
  ·show bT (iH fl (a,b,c)) b c=srt (bT (iH fl (a,b,c)) a c++[a]);rw[n3,n2]
  ·rw[pY,XF no,o1,o2,o3];show Fg a b c (bT (iH fl (a,b,c)) a c)=_;rw[n2];rfl
 |false=>
  have o1:bT fl a b=srt (S++[c]):=N.o1;have o2:bT fl a c=S:=N.o2;have o3:bT fl b c=srt (S++[a]):=N.o3;have n1:bT (iH fl (a,b,c)) a b=S:=N.n1;have n2:bT (iH fl (a,b,c)) a c=srt (S++[b]):=N.n2;have n3:bT (iH fl (a,b,c)) b c=S:=N.n3;have yes:E8 (iH fl (a,b,c)) (a,b,c):=by
   refine⟨?_,?_⟩
   ·show bT (iH fl (a,b,c)) b c=bT (iH fl (a,b,c)) a b;rw[n3,n1]
   ·show bT (iH fl (a,b,c)) a c=srt (bT (iH fl (a,b,c)) a b++[b]);rw[n2,n1]
  refine⟨.inl yes,bk ?_⟩;rw[pY,Y4 yes,o1,o2,o3];show IA a b c (bT (iH fl (a,b,c)) a b)=_;rw[n1];rfl
theorem Ff{fl:List Ti}(F:IsF ks fl){c:Int}(t3:(a,b,c)∈aP ks)(hx:kC fl (a,b,c)):upB (iH fl (a,b,c)) (a,b,c) = !upB fl (a,b,c):=by
 obtain⟨S,u,N⟩:=Gu F t3 hx;have nb:=N.nb;show decide (b∈bT (iH fl (a,b,c)) a c) = !decide (b∈bT fl a c);rw[N.n2,N.o2];cases u with
 |true=>simp[g7,nb]
 |false=>simp[g7,nb]
theorem CF{fl:List Ti}(F:IsF ks fl){c:Int}(t3:(a,b,c)∈aP ks)(hx:kC fl (a,b,c)){t:Int×Int×Int}(ht:t∈aP ks)(ne:t≠(a,b,c)):upB (iH fl (a,b,c)) t=upB fl t:=by
 obtain⟨F',T⟩:=F.flip t3 hx;obtain⟨S,u,N⟩:=Gu F t3 hx;obtain⟨x,y,z⟩:=t;obtain⟨m1,m2,m3,m4,m5,m6⟩:=i9 ht;simp only at m1 m2 m3 m4 m5 m6;have hab:=T.ab;have hbc:=T.bc;have h2:=(F.fl5.has _ ht).2.1.mem.1;simp only at h2;show decide (y∈bT (iH fl (a,b,c)) x z)=decide (y∈bT fl x z);refine decide_eq_decide.mpr ?_;cases o:othB (a,b,c) (x,z,bT fl x z) with
 |true=>
  have:(x,z,bT fl x z)∈iH fl (a,b,c):=(lG F.fl5 T.ab T.bc t3).mem_iff.mpr (fh _ (ji.mpr ⟨h2,o⟩));rw[qE F'.key this]
 |false=>
  unfold othB at o;simp only[vj,decide_eq_false_iff_not,bq,ip,or_false,uo] at o;have k:(x=a/\z=b) \/ (x=a/\z=c) \/ (x=b/\z=c):=(by ac_rfl);have yb:¬(x=a/\y=b/\z=c):=λq=>ne (by rw[q.1,q.2.1,q.2.2]);rcases k with⟨rfl,rfl⟩ | ⟨rfl,rfl⟩ | ⟨rfl,rfl⟩
  ·rw[N.n1,N.o1];cases u<;>simp[g7]<;>ac_rfl
  ·rw[N.n2,N.o2];cases u<;>simp[g7]<;>ac_rfl
  ·rw[N.n3,N.o3];cases u<;>simp[g7]<;>ac_rfl
theorem z8(ks:List Int):(aP ks).Nodup:=(xR ks).imp λ{t u} h z=>by
 rw[z,g8] at h;cases h
theorem wB{α:Type}{f:α->Bool}{t:α}:∀{l:List α},l.Nodup->t∈l->(∀x∈l,x≠t->f x=ap)->f t=ai->l.filter f=[t]
 |x::l,nd,h,a,b=>by
  obtain⟨n1,n2⟩:=sf.mp nd;by_cases e:x=t
  ·subst e;rw[jh,Y4 b,show l.filter f=[] by
    rw[ki];intro y hy z;rw[a y (bm _ hy) λq=>n1 (q ▸ hy)] at z;cases z]
  ·rw[jh,XF (by rw[a x (ci ..) e];decide)];exact wB n2 ((bq.mp h).resolve_left λz=>e z.symm) (λy hy=>a y (bm _ hy)) b
theorem P7{p q:Int×Int×Int->Bool}{t:Int×Int×Int}(ht:t∈aP ks)(h1:q t = !p t)(h2:∀x∈aP ks,x≠t->q x=p x):
  (((aP ks).filter p).filter λx=>!decide (x∈(aP ks).filter q))++(((aP ks).filter q).filter λx=>!decide (x∈(aP ks).filter p))=[t]:=by
 have f:∀(p q:Int×Int×Int->Bool),((aP ks).filter p).filter (λx=>!decide (x∈(aP ks).filter q))=(aP ks).filter λx=>p x && !q x:=λp q=>by
  rw[Vk];refine VJ λx hx=>?_;rw[show decide (x∈(aP ks).filter q)=q x by rw[rn,decide_eq_true_eq,ji];exact⟨λz=>z.2,λz=>⟨hx,z⟩⟩,Bool.and_comm]
 rw[f,f];have no:∀(p q:Int×Int×Int->Bool),(p t && !q t)=ap->(∀x∈aP ks,x≠t->q x=p x)->(aP ks).filter (λx=>p x && !q x)=[]:=λp q a b=>by
  rw[ki];intro x hx z;by_cases e:x=t
  ·rw[e,a] at z;cases z
  ·rw[b x hx e] at z;cases h:p x<;>rw[h] at z<;>cases z
 cases hp:p t with
 |true=>
  rw[hp] at h1;rw[wB (f:=λx=>p x && !q x) (z8 ks) ht (λx hx e=>by show (p x && !q x)=ap;rw[h2 x hx e];cases p x<;>rfl) (by show (p t && !q t)=ai;rw[hp,h1];rfl),no q p (by rw[h1];rfl) λx hx e=>(h2 x hx e).symm];rfl
 |false=>
  rw[hp] at h1;rw[no p q (by rw[hp];rfl) h2,wB (f:=λx=>q x && !p x) (z8 ks) ht (λx hx e=>by show (q x && !p x)=ap;rw[h2 x hx e];cases p x<;>rfl) (by show (q t && !p t)=ai;rw[hp,h1];rfl)];rfl
end Lw
namespace Fl
section
variable {L:Nat}{kk:Int->Int}{T:Int->Int->Nat}
noncomputable def pM(T:Int->Int->Nat)(a b c:Int):Prop:=T a b<T a c
noncomputable instance (T:Int->Int->Nat) (a b c:Int):Decidable (pM T a b c):=by unfold pM;exact inferInstance
theorem Tms.four(h:Tms n kk T L){i j k l:Int}(h0:0<=i)(ij:i<j)(jk:j<k)(kl:k<l)(ln:l<n)(k1:kk i≠kk k)(k2:kk j≠kk l):
  (pM T i j k ↔ pM T i j l)/\(pM T i j l ↔ pM T i k l) \/ (pM T i j k ↔ pM T i j l)/\(pM T i k l ↔ pM T j k l) \/ (pM T i j l ↔ pM T i k l)/\(pM T i k l ↔ pM T j k l):=by
 have m1:=h.mono i j h0 (by ac_rfl) (by ac_rfl);have m2:=h.mono j k (by ac_rfl) (by ac_rfl) (by ac_rfl);have m3:=h.mono k l (by ac_rfl) (by ac_rfl) (by ac_rfl);have a:=h.tri i j k h0 ij jk (by ac_rfl) k1;have b:=h.tri i j l h0 ij (by ac_rfl) ln (by ac_rfl);have c:=h.tri i k l h0 (by ac_rfl) kl ln (by ac_rfl);have d:=h.tri j k l (by ac_rfl) jk kl ln k2;unfold pM;ac_rfl
theorem Tms.counts(h:Tms n kk T L){a c:Int}{u:Prop}[Decidable u](h0:0<=a)(ab:a<b)(bc:b<c)(cn:c<n)(k:kk a≠kk c)(hu:kk a≠kk b->kk b≠kk c->(u ↔ pM T a b c)):
  (if kk a=kk b then ap else if kk b=kk c then ai else decide u)=decide (pM T a b c):=by
 have m1:=h.mono a b h0 (by ac_rfl) (by ac_rfl);have m2:=h.mono b c (by ac_rfl) (by ac_rfl) cn;have t:=h.tri a b c h0 ab bc cn k;have l:=h.lt a c h0 (by ac_rfl) cn (by ac_rfl);unfold pM at *;by_cases e:kk a=kk b
 ·rw[Y4 e];have:=h.al a b (by ac_rfl);exact(decide_eq_false (by ac_rfl)).symm
 ·rw[XF e];by_cases e2:kk b=kk c
  ·rw[Y4 e2];have:=h.al b c (by ac_rfl);exact(decide_eq_true (by ac_rfl)).symm
  ·rw[XF e2];exact decide_eq_decide.mpr (hu e e2)
theorem Tms.isb(h:Tms n kk T L){x y z:Int}(h0:0<=x)(xy:x<y)(yn:y<n)(k:kk x≠kk y)(z0:0<=z)(zn:z<n):
  (if z<x then ¬pM T z x y else if y<z then ¬pM T x y z else x<z/\z<y/\pM T x z y) ↔ z≠x/\z≠y/\((z<x/\T x y<T z x) \/ (x<z/\T x z<T x y)):=by
 have m1:=h.mono x y h0 (by ac_rfl) yn;unfold pM;by_cases e:z<x
 ·rw[Y4 e];have m2:=h.mono z x z0 (by ac_rfl) (by ac_rfl);have t:=h.tri z x y z0 e xy yn (by ac_rfl);ac_rfl
 ·rw[XF e];by_cases e2:y<z
  ·rw[Y4 e2];have m2:=h.mono y z (by ac_rfl) (by ac_rfl) (by ac_rfl);have t:=h.tri x y z h0 xy e2 zn (by ac_rfl);ac_rfl
  ·rw[XF e2];ac_rfl
end
end Fl
namespace Lw
open L2 Z
open Sf (Rw crs qT Pre Good aH aY place many)
open Fl (kd ids Walk cZ tls pc aK Pt tm pM)
noncomputable abbrev T3:=Int×Int×Int
noncomputable abbrev MI(t:T3):List cE:=[ee t.1,ee t.2.1,ee t.2.2]
noncomputable abbrev qY(U:List T3):List (List cE×Dv):=U.map λt=>(MI t,.bl ai)
theorem Jy(U:List T3)(t:T3):hasT (qY U) (MI t)=decide (t∈U):=by
 induction U with
 |nil=>rfl
 |cons u U ih=>
  unfold hasT at ih ⊢;rw[show qY (u::U)=(MI u,.bl ai)::qY U from rfl,rj,ih];have e:(MI u=MI t) ↔ t=u:=by
   constructor
   ·intro z;injection z with z1 z2;injection z2 with z2 z3;injection z3 with z3 _;injection z1 with z1;injection z2 with z2;injection z3 with z3;exact Prod.ext z1.symm (Prod.ext z2.symm z3.symm)
   ·rintro rfl;rfl
  rw[decide_eq_decide.mpr e,<- Uq];exact decide_eq_decide.mpr bq.symm
noncomputable def cau(ks:List Int)(U:List T3)(a b c:Int):Bool:=if kd ks a=kd ks b then ap else if kd ks b=kd ks c then ai else decide ((a,b,c)∈U)
noncomputable def Qj(n:Nat)(a b c:Int):Prop:=(0<=a/\a<n)/\(0<=b/\b<n)/\(0<=c/\c<n)
noncomputable def zD(C:af):Fn:=λds Q=>∃(rows:List Rw) (U:List T3) (a b c:Int),ds=[bH C rows,.dit (qY U),.tup [.int a,.int b,.int c]]/\(aH rows).length<=12/\Qj (aH rows).length a b c/\Q (.v (.bl (cau (aH rows) U a b c)))
theorem QP:∀ds Q,zD C ds Q->ds.length=3:=by rintro ds Q ⟨_,_,_,_,_,rfl,_⟩;rfl
theorem Rz:MonoF (zD C):=⟨λds Q Q' w z=>by obtain⟨a,b,c,d,e,f,g,i,h⟩:=z;exact⟨a,b,c,d,e,f,g,i,w _ h⟩⟩
noncomputable abbrev T4:=Int×Int×Int×Int
noncomputable abbrev d4(t:T4):Dv:=.tup [.int t.1,.int t.2.1,.int t.2.2.1,.int t.2.2.2]
structure In4(n:Nat)(t:T4):Prop where
 lo:0<=t.1
 ij:t.1<t.2.1
 jk:t.2.1<t.2.2.1
 kl:t.2.2.1<t.2.2.2
 hi:t.2.2.2<n
noncomputable def alike(ks:List Int)(t:T4):Bool:=decide (kd ks t.1=kd ks t.2.2.1) || decide (kd ks t.2.1=kd ks t.2.2.2)
noncomputable def Aw(C:af):Fn:=λds Q=>∃(rows:List Rw) (t:T4),ds=[bH C rows,d4 t]/\In4 (aH rows).length t/\Q (.v (.bl (alike (aH rows) t)))
theorem My:∀ds Q,Aw C ds Q->ds.length=2:=by rintro ds Q ⟨_,_,rfl,_⟩;rfl
theorem OT:MonoF (Aw C):=⟨λds Q Q' w z=>by obtain⟨a,b,c,d,h⟩:=z;exact⟨a,b,c,d,w _ h⟩⟩
noncomputable def A3(ks:List Int)(U:List T3)(z x y:Int):Bool:=if z<x then !cau ks U z x y else if y<z then !cau ks U x y z else (decide (x<z)&&decide (z<y))&&cau ks U x z y
noncomputable def CN(C:af):Fn:=λds Q=>∃(rows:List Rw) (U:List T3) (z x y:Int),ds=[bH C rows,.dit (qY U),.int z,.int x,.int y]/\(aH rows).length<=12/\Qj (aH rows).length z x y/\Q (.v (.bl (A3 (aH rows) U z x y)))
theorem QN:∀ds Q,CN C ds Q->ds.length=5:=by rintro ds Q ⟨_,_,_,_,_,rfl,_⟩;rfl
theorem Ry:MonoF (CN C):=⟨λds Q Q' w z=>by obtain⟨a,b,c,d,e,f,g,i,h⟩:=z;exact⟨a,b,c,d,e,f,g,i,w _ h⟩⟩
noncomputable def chg(a b:Bool):Nat:=if a=b then 0 else 1
noncomputable def barred(ks:List Int)(U:List T3)(t:T4):Bool:=
 decide (1<chg (cau ks U t.1 t.2.1 t.2.2.1) (cau ks U t.1 t.2.1 t.2.2.2)+chg (cau ks U t.1 t.2.1 t.2.2.2) (cau ks U t.1 t.2.2.1 t.2.2.2)+chg (cau ks U t.1 t.2.2.1 t.2.2.2) (cau ks U t.2.1 t.2.2.1 t.2.2.2))
noncomputable def xX(C:af):Fn:=λds Q=>∃(rows:List Rw) (U:List T3) (t:T4),ds=[bH C rows,.dit (qY U),d4 t]/\(aH rows).length<=12/\In4 (aH rows).length t/\Q (.v (.bl (barred (aH rows) U t)))
theorem MG:∀ds Q,xX C ds Q->ds.length=3:=by rintro ds Q ⟨_,_,_,rfl,_⟩;rfl
theorem Mw:MonoF (xX C):=⟨λds Q Q' w z=>by obtain⟨a,b,c,d,e,f,h⟩:=z;exact⟨a,b,c,d,e,f,w _ h⟩⟩
noncomputable def chgs:List (Bool×Bool)->Nat
 | []=>0
 |p::r=>chg p.1 p.2+chgs r
theorem KG:∀l:List (Bool×Bool),chgs l<=l.length
 | []=>bj _
 |p::r=>by have:=KG r;rw[chgs,chg,bp];split<;>ac_rfl
theorem II:∀(l:List (Bool×Bool)) (k:Nat),k+l.length<=100->Q (.nw (.lst (au (k+chgs l) (.int 1)))) ->
  d8 [.un,.un] (gT [0,1]) (aW (aQ wT (a8 0) (a8 1))) (eC (.int 1)) (l.map λp=>.tup [.bl p.1,.bl p.2]) (au k (.int 1)) Q:=by
 intro l;induction l with
 |nil=>
  intro k _ h;rw[vx,fH];exact h
 |cons p l ih=>
  intro k hk h;rw[bp] at hk;rw[chgs,chg] at h;push_cast [cp,oq];refine⟨⟨rfl,rfl⟩,?_⟩;by_cases e:p.1=p.2
  ·rw[Y4 e,ox] at h;rw[XF (by simp[e])];exact ih k (by ac_rfl) h
  ·rw[XF e] at h;rw[Y4 (by simp[e]),<- List.replicate_succ'];exact⟨(by ac_rfl),ih (k+1) (by ac_rfl) (by rw[show k+1+chgs l=k+(1+chgs l) by ac_rfl];exact h)⟩
noncomputable abbrev Pf(t:T3):Dv:=.tup [.int t.1,.int t.2.1,.int t.2.2]
variable {x3 x4 x5:Sl}{E:En}
theorem Tw{y0 y1:Sl}{t:T4}(h:tl E [y0,y1,.v (d4 t),.v (.lst ([(t.1,t.2.1,t.2.2.1),(t.1,t.2.1,t.2.2.2),(t.1,t.2.2.1,t.2.2.2),t.2].map Pf)),x4,x5]):
  aO (bD 3 (i7 (a7 (bQ (a7 (aQ cA (a8 2) (eC (.int 0))) (a7 (aQ cA (a8 2) (eC (.int 1))) (a7 (aQ cA (a8 2) (eC (.int 2))) aF)))) (a7 (bQ (a7 (aQ cA (a8 2) (eC (.int 0))) (a7 (aQ cA (a8 2) (eC (.int 1))) (a7 (aQ cA (a8 2) (eC (.int 3))) aF)))) (a7 (bQ (a7 (aQ cA (a8 2) (eC (.int 0))) (a7 (aQ cA (a8 2) (eC (.int 2))) (a7 (aQ cA (a8 2) (eC (.int 3))) aF)))) (a7 (IU (a8 2) (pJ (eC (.int 1))) iO) aF)))))) tl E
   [y0,y1,.v (d4 t),x3,x4,x5]:=by
 push_cast [Z.nM];exact⟨by decide,h⟩
variable {U:List T3}
theorem PK(hn:(aH rows).length<=12):∀(l:List T3) (acc:List Dv),(∀t∈l,Qj (aH rows).length t.1 t.2.1 t.2.2)->acc.length+l.length<=100 ->
  Q (.nw (.lst (acc++l.map λt=>.bl (cau (aH rows) U t.1 t.2.1 t.2.2))))->d8 [.un,.v (bH C rows),.v (.dit (qY U))] (gN 0) mV (aR (zD C) (a7 (a8 1) (a7 (a8 2) (a7 (a8 0) aF)))) (l.map Pf) acc Q:=by
 intro l;induction l with
 |nil=>
  intro acc _ _ h;rw[vx,ii] at h;rw[vx,fH];exact h
 |cons t l ih=>
  intro acc hi hk h;rw[bp] at hk;push_cast [cp];refine⟨rows,U,_,_,_,rfl,hn,hi t ci,?_⟩;refine⟨.inl rfl,⟨rfl,(by ac_rfl)⟩,ih _ (λu hu=>hi u (bm _ hu)) ?_ ?_⟩
  ·rw[br,bp,yt];ac_rfl
  ·rw[cm];exact h
variable {x2:Sl}
theorem Tv{l:List T3}(hn:(aH rows).length<=12)(hi:∀t∈l,Qj (aH rows).length t.1 t.2.1 t.2.2)(hl:l.length<=100)
  (h:tl E [.v (bH C rows),.v (.dit (qY U)),x2,.v (.lst (l.map Pf)),.v (.lst (l.map λt=>.bl (cau (aH rows) U t.1 t.2.1 t.2.2))),x5]):
  aO (bD 4 (gM 1 [0,1] (kB (a8 3)) (gN 0) mV (aR (zD C) (a7 (a8 1) (a7 (a8 2) (a7 (a8 0) aF)))))) tl E
   [.v (bH C rows),.v (.dit (qY U)),x2,.v (.lst (l.map Pf)),x4,x5]:=by
 push_cast [Z.nM];exact PK hn l [] hi (by rw[yt,ox];exact hl) h
theorem Tu{x0 x1:Sl}{u1 u2 u3 u4:Bool}(h:tl E [x0,x1,x2,x3,.v (.lst [.bl u1,.bl u2,.bl u3,.bl u4]),.v (.lst (au (chgs [(u1,u2),(u2,u3),(u3,u4)]) (.int 1)))]):
  aO (bD 5 (gM 2 [] (Bh (a7 (a8 4) (a7 (IU (a8 4) (pJ (eC (.int 1))) iO) aF))) (gT [0,1]) (aW (aQ wT (a8 0) (a8 1))) (eC (.int 1)))) tl E
   [x0,x1,x2,x3,.v (.lst [.bl u1,.bl u2,.bl u3,.bl u4]),x5]:=by
 push_cast [Z.nM];refine II [(u1,u2),(u2,u3),(u3,u4)] 0 (zr rfl) ?_;rw[ox];exact h
end Lw
namespace Lw
open L2 Z
open Sf (Rw crs qT Pre Good aH aY place many)
open Fl (kd ids Walk cZ tls pc aK Pt tm pM)
noncomputable def KP(n:Nat)(l:List T4):Prop:=∀t∈l,In4 n t
theorem KP.snoc{n:Nat}{l:List T4}{t:T4}(h:KP n l)(k:In4 n t):KP n (l++[t]):=λu hu=>by
 rcases dv.mp hu with z | z
 ·exact h u z
 ·rw[dq.mp z];exact k
noncomputable abbrev UM(l:List T4):List Dv:=l.map d4
noncomputable def Av:Fn:=λds Q=>∃n:Nat,ds=[.int n]/\n<=12 /\ ∀l:List T4,KP n l->Q (.nw (.lst (UM l)))
theorem Mx:∀ds Q,Av ds Q->ds.length=1:=by rintro ds Q ⟨_,rfl,_⟩;rfl
theorem OS:MonoF Av:=⟨λds Q Q' w z=>by obtain⟨a,b,c,h⟩:=z;exact⟨a,b,c,λl z=>w _ (h l z)⟩⟩
end Lw
namespace Lw
open L2 Z
open Sf (Rw crs qT Pre Good aH aY place many)
open Fl (kd ids Walk cZ tls pc aK Pt tm pM)
structure UpsOk(ks:List Int)(U:List T3):Prop where
 known:∀t∈U,t∈aP ks
 four:∀t,In4 ks.length t->alike ks t=ap->barred ks U t=ap
noncomputable def DR(C:af):Fn:=λds Q=>∃(rows:List Rw) (U:List T3),ds=[bH C rows,.dit (qY U)]/\(aH rows).length<=12/\UpsOk (aH rows) U/\Q (.v .non)
theorem OY:∀ds Q,DR C ds Q->ds.length=2:=by rintro ds Q ⟨_,_,rfl,_⟩;rfl
theorem QL:MonoF (DR C):=⟨λds Q Q' w z=>by obtain⟨a,b,c,d,e,h⟩:=z;exact⟨a,b,c,d,e,w _ h⟩⟩
end Lw
namespace Lw
open L2 Z
open Sf (Rw crs qT Pre Good aH aY place many)
open Fl (kd ids Walk cZ tls pc aK Pt tm pM)
noncomputable def DC(ks:List Int)(U:List T3)(x y:Int):List Int:=(ids ks.length).filter λz=>A3 ks U z x y
noncomputable def DM(ks:List Int)(U:List T3):List Ti:=(hC ks).map λp=>(p.1,p.2,DC ks U p.1 p.2)
noncomputable def KY(C:af):Fn:=λds Q=>∃(rows:List Rw) (U:List T3),ds=[bH C rows,.lst (cX U)]/\(aH rows).length<=12/\U.Nodup/\U.length<=2000/\UpsOk (aH rows) U/\Q (.nw (.lst (fM (DM (aH rows) U))))
theorem SF:∀ds Q,KY C ds Q->ds.length=2:=by rintro ds Q ⟨_,_,rfl,_⟩;rfl
theorem Ta:MonoF (KY C):=⟨λds Q Q' w z=>by obtain⟨a,b,c,d,e,f,g,h⟩:=z;exact⟨a,b,c,d,e,f,g,w _ h⟩⟩
variable {U:List T3}
theorem RZ{t:T3}(h:t ∉ U):wW (qY U) (MI t) (.bl ai)=qY (U++[t]):=by
 have:=Jy U t;rw[decide_eq_false h] at this;unfold wW;rw[show (qY U).any (λkv=>decide (kv.1=MI t))=ap from this,XF (by decide)];simp
theorem UI{x y:Int}(hn:(aH rows).length<=12)(hx:0<=x/\x<(aH rows).length)(hy:0<=y/\y<(aH rows).length):∀(i k:Nat) (acc:List Int),k+i=(aH rows).length->acc.length<=k ->
  Q (.nw (.lst (b8 (acc++((Wi k i).map λz:Nat=>(z:Int)).filter λz=>A3 (aH rows) U z x y)))) ->
  d8 [.un,.v (bH C rows),.v (.dit (qY U)),.v (.int x),.v (.int y)] (gN 0) (mO (aR (CN C) (a7 (a8 1) (a7 (a8 2) (a7 (a8 0) (a7 (a8 3) (a7 (a8 4) aF))))))) (a8 0) (bX k i) (b8 acc) Q:=by
 intro i;induction i with
 |zero=>
  intro k acc _ _ h;rw[fA,fH];simpa using h
 |succ i ih=>
  intro k acc hk ha h;rw[dS];push_cast [bi];refine⟨rows,U,(k:Int),x,y,rfl,hn,⟨⟨(by ac_rfl),(by ac_rfl)⟩,hx,hy⟩,?_⟩;rw[W0,cp] at h;rw[show ((k:Int)+1)=((k+1:Nat):Int) by ac_rfl];cases e:A3 (aH rows) U (k:Int) x y with
  |true=>
   rw[pq (p:=λz=>A3 (aH rows) U z x y) e] at h;push_cast [bi];refine⟨(by ac_rfl),?_⟩;rw[show b8 acc++[Dv.int (k:Int)]=b8 (acc++[(k:Int)]) by simp];exact ih (k+1) _ (by ac_rfl) (by simp;ac_rfl) (by rw[cm];exact h)
  |false=>
   rw[px (p:=λz=>A3 (aH rows) U z x y) (by rw[e];decide)] at h;push_cast [Z.nM];exact ih (k+1) acc (by ac_rfl) (by ac_rfl) h
theorem Mz(n:Nat):(Wi 0 n).map (λz:Nat=>(z:Int))=ids n:=by rw[<- List.range_eq_range']
end Lw
namespace Lw
open L2 Z
open Sf (Rw crs qT Pre Good aH aY place many)
open Fl (kd ids Walk cZ tls pc aK Pt tm pM)
theorem Dk(ks:List Int)(a b x:Int):∀(i c:Nat),(c:Int)<=x->x<(c+i:Nat)->kd ks x≠kd ks b->(a,b,x)∈yL ks a b i c
 |0,c,h1,h2,_=>by ac_rfl
 |i+1,c,h1,h2,h3=>by
  rw[yL,dv];by_cases e:x=c
  ·subst e;rw[XF h3];exact .inl (List.mem_singleton_self _)
  ·exact .inr (Dk ks a b x i (c+1) (by ac_rfl) (by ac_rfl) h3)
variable {a:Int}
theorem Cq{c:Int}(h0:0<=a)(ab:a<b)(bc:b<c)(cn:c<ks.length)(k1:kd ks a≠kd ks b)(k2:kd ks b≠kd ks c):(a,b,c)∈aP ks:=by
 refine Wj.mpr ⟨(a,b),lD.mpr ⟨h0,ab,by show b<_;ac_rfl,k1⟩,?_⟩;exact Dk ks a b c _ _ (by show ((b.toNat+1:Nat):Int)<=c;ac_rfl) (by show c<((b.toNat+1+(ks.length-(b.toNat+1)):Nat):Int);ac_rfl) λz=>k2 z.symm
variable {e:List Int}
theorem Kz{fl:List Ti}(w:Walk ks (ids ks.length) row e)(d:cZ ks e)(m:k8 ks)(f:iZ ks row fl){c:Int}(h0:0<=a)(ab:a<b)(bc:b<c)(cn:c<ks.length)(k:kd ks a≠kd ks c):
  b∈bT fl a c ↔ pM (tm ks row) a b c:=by
 have mm:=m a c h0 (by ac_rfl) cn;have hl:=w.tm_lt d h0 (show a<c by ac_rfl) cn (by ac_rfl);obtain⟨pre,hp,_,hm⟩:=w.under h0 (show a<c by ac_rfl) cn hl;have hb:=iZ.below w f hp;rw[show bT fl a c=Fl.srt pre from hb,(Fl.dR pre).mem_iff,hm b];unfold pM;constructor
 ·rintro⟨_,_,_,_,q | q⟩
  ·ac_rfl
  ·exact q.2
 ·intro z;exact⟨(by ac_rfl),(by ac_rfl),(by ac_rfl),(by ac_rfl),.inr ⟨ab,z⟩⟩
structure UpsOf(ks:List Int)(fl:List Ti)(U:List T3):Prop where
 mem:∀t,t∈U ↔ t∈aP ks/\t.2.1∈bT fl t.1 t.2.2
variable {U:List T3}
theorem qO{fl:List Ti}(w:Walk ks (ids ks.length) row e)(d:cZ ks e)(m:k8 ks)(f:iZ ks row fl)(u:UpsOf ks fl U){c:Int}(h0:0<=a)(ab:a<b)(bc:b<c)(cn:c<ks.length)(k:kd ks a≠kd ks c):
  cau ks U a b c=decide (pM (tm ks row) a b c):=by
 refine(w.tms d m).counts h0 ab bc cn k λk1 k2=>?_;rw[u.mem (a,b,c)];have:=Kz w d m f h0 ab bc cn k;constructor
 ·exact λz=>this.mp z.2
 ·exact λz=>⟨Cq h0 ab bc cn k1 k2,this.mpr z⟩
theorem Ky{fl:List Ti}(w:Walk ks (ids ks.length) row e)(d:cZ ks e)(m:k8 ks)(f:iZ ks row fl)(u:UpsOf ks fl U):UpsOk ks U:=by
 refine⟨λt ht=>((u.mem t).mp ht).1,λt i4 ha=>?_⟩;obtain⟨h0,ij,jk,kl,hi⟩:=i4;unfold alike at ha;rw[vj,decide_eq_false_iff_not,decide_eq_false_iff_not] at ha;obtain⟨k1,k2⟩:=ha;have m1:=m t.1 t.2.1 h0 (by ac_rfl) (by ac_rfl);have m2:=m t.2.1 t.2.2.1 (by ac_rfl) (by ac_rfl) (by ac_rfl);have m3:=m t.2.2.1 t.2.2.2 (by ac_rfl) (by ac_rfl) (by ac_rfl);have fo:=(w.tms d m).four h0 ij jk kl hi k1 k2;unfold barred;rw[qO w d m f u h0 ij jk (by ac_rfl) k1,qO w d m f u h0 ij (by ac_rfl) hi (by ac_rfl),qO w d m f u h0 (by ac_rfl) kl hi (by ac_rfl),qO w d m f u (by ac_rfl) jk kl hi k2];have ce:∀(p q:Prop) [Decidable p] [Decidable q],chg (decide p) (decide q)=if (p ↔ q) then 0 else 1:=λp q _ _=>by
  unfold chg;by_cases z:p ↔ q
  ·rw[Y4 z,Y4 (decide_eq_decide.mpr z)]
  ·rw[XF z,XF λy=>z (decide_eq_decide.mp y)]
 rw[ce,ce,ce];rcases fo with⟨a,b⟩ | ⟨a,b⟩ | ⟨a,b⟩
 all_goals
  rw[Y4 a,Y4 b];split<;>rfl
end Lw
namespace Lw
open L2 Z
open Sf (Rw crs qT Pre Good aH aY place many)
open Fl (kd ids Walk cZ tls pc aK Pt tm pM)
variable {e:List Int}{U:List T3}{x y z:Int}
theorem Bg{fl:List Ti}(w:Walk ks (ids ks.length) row e)(d:cZ ks e)(m:k8 ks)(f:iZ ks row fl)(u:UpsOf ks fl U)(h0:0<=x)(xy:x<y)(yn:y<ks.length)(k:kd ks x≠kd ks y)(z0:0<=z)(zn:z<ks.length):
  A3 ks U z x y=ai ↔ z≠x/\z≠y/\((z<x/\tm ks row x y<tm ks row z x) \/ (x<z/\tm ks row x z<tm ks row x y)):=by
 rw[<- (w.tms d m).isb h0 xy yn k z0 zn];have m1:=m x y h0 (by ac_rfl) yn;unfold A3;by_cases e:z<x
 ·have m2:=m z x z0 (by ac_rfl) (by ac_rfl);rw[Y4 e,Y4 e,qO w d m f u z0 e xy yn (by ac_rfl)];simp
 ·rw[XF e,XF e];by_cases e2:y<z
  ·have m2:=m y z (by ac_rfl) (by ac_rfl) zn;rw[Y4 e2,Y4 e2,qO w d m f u h0 xy e2 zn (by ac_rfl)];simp
  ·rw[XF e2,XF e2];by_cases e3:x<z
   ·by_cases e4:z<y
    ·rw[qO w d m f u h0 e3 e4 yn k];simp[e3,e4]
    ·simp[e3,e4]
   ·simp[e3]
theorem MU(n:Nat):(ids n).Pairwise (· < ·):=by
 rw[gm];exact List.pairwise_lt_range.imp λh=>VI.mpr h
theorem Jv:z∈ids n ↔ 0<=z/\z<n:=by
 rw[fx];constructor
 ·rintro⟨k,hk,rfl⟩;have:=uw.mp hk;ac_rfl
 ·intro h;exact⟨z.toNat,uw.mpr (by ac_rfl),(by ac_rfl)⟩
theorem IH{fl:List Ti}(w:Walk ks (ids ks.length) row e)(d:cZ ks e)(m:k8 ks)(f:iZ ks row fl)(u:UpsOf ks fl U)(h0:0<=x)(xy:x<y)(yn:y<ks.length)(k:kd ks x≠kd ks y):
  DC ks U x y=bT fl x y:=by
 have m1:=m x y h0 (by ac_rfl) yn;have hl:=w.tm_lt d h0 xy yn (by ac_rfl);obtain⟨pre,hp,nd,hm⟩:=w.under h0 xy yn hl;have hb:=iZ.below w f hp;rw[show bT fl x y=Fl.srt pre from hb];have up:=(MU ks.length).sublist (List.filter_sublist (p:=λz=>A3 ks U z x y));refine Fl.c8 ((ir (up.imp λh=>Int.ne_of_lt h) nd).mpr λz=>?_) (up.imp λh=>Xq h);show z∈(ids ks.length).filter _ ↔ _;rw[ji,Jv,hm z];constructor
 ·rintro⟨hz,q⟩;exact⟨hz.1,hz.2,(Bg w d m f u h0 xy yn k hz.1 hz.2).mp q⟩
 ·rintro⟨z0,zn,q⟩;exact⟨⟨z0,zn⟩,(Bg w d m f u h0 xy yn k z0 zn).mpr q⟩
noncomputable def Km(p q:Int×Int):Prop:=p.1<q.1 \/ (p.1=q.1/\p.2<q.2)
theorem Dr(ks:List Int)(a:Int):∀i b,(A5 ks a i b).Pairwise Km /\ ∀t∈A5 ks a i b,t.1=a/\(b:Int)<=t.2
 |0,b=>⟨List.Pairwise.nil,λt ht=>by cases ht⟩
 |i+1,b=>by
  obtain⟨h1,h2⟩:=Dr ks a i (b+1);rw[A5];by_cases e:kd ks a=kd ks b
  ·rw[Y4 e,oh];exact⟨h1,λt ht=>⟨(h2 t ht).1,by have:=(h2 t ht).2;ac_rfl⟩⟩
  ·rw[XF e,zt];refine⟨eo.mpr ⟨λt ht=>?_,h1⟩,λt ht=>?_⟩
   ·have:=h2 t ht;exact .inr ⟨this.1.symm,by show (b:Int)<t.2;ac_rfl⟩
   ·rcases bq.mp ht with rfl | ht
    ·exact⟨rfl,xf _⟩
    ·have:=h2 t ht;exact⟨this.1,(by ac_rfl)⟩
theorem BQ(ks:List Int):∀i a,(mF ks i a).Pairwise Km /\ ∀t∈mF ks i a,(a:Int)<=t.1
 |0,a=>⟨List.Pairwise.nil,λt ht=>by cases ht⟩
 |i+1,a=>by
  obtain⟨h1,h2⟩:=BQ ks i (a+1);obtain⟨g1,g2⟩:=Dr ks a (ks.length-(a+1)) (a+1);rw[mF];refine⟨fj.mpr ⟨g1,h1,λt ht u hu=>.inl ?_⟩,λt ht=>?_⟩
  ·have q1:=(g2 t ht).1;have q2:=h2 u hu;ac_rfl
  ·rcases dv.mp ht with ht | ht
   ·exact Int.le_of_eq (g2 t ht).1.symm
   ·have:=h2 t ht;ac_rfl
theorem vV{p q:Int×Int}(h:Km p q)(k:Km q p):False:=by
 unfold Km at h k;ac_rfl
theorem yB:∀{l m:List (Int×Int)},l.Pairwise Km->m.Pairwise Km->(∀t,t∈l ↔ t∈m)->l=m
 | [],[],_,_,_=>rfl
 | [],t::m,_,_,h=>by cases (h t).mpr (ci ..)
 |t::l,[],_,_,h=>by cases (h t).mp (ci ..)
 |t::l,u::m,hl,hm,h=>by
  obtain⟨l1,l2⟩:=eo.mp hl;obtain⟨m1,m2⟩:=eo.mp hm;have e:t=u:=by
   rcases bq.mp ((h t).mp (ci ..)) with z | z
   ·exact z
   ·rcases bq.mp ((h u).mpr (ci ..)) with y | y
    ·exact y.symm
    ·exact(vV (m1 t z) (l1 u y)).elim
  subst e;rw[yB l2 m2 λv=>?_];constructor
  ·intro hv;rcases bq.mp ((h v).mp (bm _ hv)) with rfl | z
   ·exact(vV (l1 v hv) (l1 v hv)).elim
   ·exact z
  ·intro hv;rcases bq.mp ((h v).mpr (bm _ hv)) with rfl | z
   ·exact(vV (m1 v hv) (m1 v hv)).elim
   ·exact z
theorem Ib{fl:List Ti}(w:Walk ks (ids ks.length) row e)(d:cZ ks e)(m:k8 ks)(f:iZ ks row fl)(s:fl.Pairwise λt u=>Km (t.1,t.2.1) (u.1,u.2.1))(u:UpsOf ks fl U):DM ks U=fl:=by
 have cov:=iZ.cov w d m f;have key:=iZ.keys w f;have rng:∀t∈fl,0<=t.1/\t.1<t.2.1/\t.2.1<ks.length/\kd ks t.1≠kd ks t.2.1:=λt ht=>by
  obtain⟨ts,pm,al⟩:=f;obtain⟨i,hi⟩:=ot.mp (pm.subset ht);have li:=(bb.mp hi).1;have lu:i<(tls (ids ks.length) row).length:=by rw[<- al.1];exact li
  obtain⟨e1,e2,_⟩:=al.2 i t _ hi (ar lu);obtain⟨⟨a,b,ab,bn,ea,eb⟩,hk,_⟩:=w.key (Pt.ids _) (eh lu);have bn':b<ks.length:=by simpa using bn
  rw[Fl.jJ (by ac_rfl)] at ea;rw[Fl.jJ bn'] at eb;rw[e1,e2];exact⟨(by ac_rfl),(by ac_rfl),(by ac_rfl),(by ac_rfl)⟩
 have pe:hC ks=fl.map λt=>(t.1,t.2.1):=by
  refine yB (BQ ks _ _).1 (gm.mpr s) λp=>?_;rw[lD,fx];constructor
  ·rintro⟨a,b,c,k⟩;obtain⟨t,ht,e1,e2⟩:=cov p.1 p.2 a b c k;exact⟨t,ht,Prod.ext e1 e2⟩
  ·rintro⟨t,ht,rfl⟩;exact rng t ht
 unfold DM;rw[pe,lj];refine(jx λt ht=>?_).trans (map_id fl);obtain⟨a,b,c,k⟩:=rng t ht;show (t.1,t.2.1,DC ks U t.1 t.2.1)=t;rw[IH w d m f u a b c k];obtain⟨v,_,hv,e1,e2,e3⟩:=o0 ⟨t,ht,rfl,rfl⟩;rw[e3];have vt:v=t:=by
  obtain⟨i,hi,ei⟩:=ed.mp hv;obtain⟨j,hj,ej⟩:=ed.mp ht;have pw:=cf.mp s;rcases vc i j with q | q | q
  ·have:=pw i j hi hj q;rw[ei,ej,e1,e2] at this;exact(vV this this).elim
  ·subst q;rw[<- ei,<- ej]
  ·have:=pw j i hj hi q;rw[ei,ej,e1,e2] at this;exact(vV this this).elim
 rw[vt]
end Lw
namespace Lw
open L2 Z
open Sf (Rw crs qT Pre Good aH aY place many)
open Fl (kd ids Walk cZ tls pc aK Pt Bf srt c8 yW tS fV tm UpT)
noncomputable abbrev fX(ks:List Int)(fl:List Ti):List (Int×Int×Int):=(aP ks).filter (upB fl)
variable {a:Int}
theorem KQ{e:List Int}{fl:List Ti}(w:Walk ks (ids ks.length) row e)(d:cZ ks e)(m:k8 ks)(FO:iZ ks row fl){c:Int}(t3:(a,b,c)∈aP ks):upB fl (a,b,c)=ai ↔ UpT ks row a b c:=by
 obtain⟨m1,m2,m3,m4,m5,m6⟩:=i9 t3;simp only at m1 m2 m3 m4 m5 m6;have k1:=m a b m1 (by ac_rfl) (by ac_rfl);have k2:=m b c (by ac_rfl) (by ac_rfl) m4;have i1:=w.tm_lt d m1 m2 (by ac_rfl) (by ac_rfl);have i2:=w.tm_lt d m1 (show a<c by ac_rfl) m4 (by ac_rfl);have i3:=w.tm_lt d (show 0<=b by ac_rfl) m3 m4 (by ac_rfl);obtain⟨p1,g1,e1,_⟩:=uT w FO i1;obtain⟨p2,g2,e2,_⟩:=uT w FO i2;obtain⟨p3,g3,e3,_⟩:=uT w FO i3;have tr:=w.tri d m m1 m2 m3 m4 (by ac_rfl);have th:=w.three d m1 m2 m3 m4 (by ac_rfl) (by ac_rfl) g1 ⟨rfl,rfl⟩ g3 ⟨rfl,rfl⟩ g2 ⟨rfl,rfl⟩;show decide (b∈bT fl a c)=ai ↔ _;rw[decide_eq_true_eq,e2,g7];rw[show (b∈p2 ↔ tm ks row a b<tm ks row b c) from th];exact⟨λh=>⟨m1,m2,m3,m4,(by ac_rfl),(by ac_rfl),i3⟩,λu=>by have:=u.t1;have:=u.t2;ac_rfl⟩
theorem IsF.down{fl:List Ti}(F:IsF ks fl)(h:fX ks fl≠[]):∃t∈aP ks,kC fl t/\upB fl t=ai:=by
 have m:=F.mo;obtain⟨row,e,w,d,rl,p⟩:=F.row;have FO:=kK p;obtain⟨t,ht⟩:=List.exists_mem_of_ne_nil _ h;obtain⟨t1,t2⟩:=ji.mp ht;obtain⟨a,b,c⟩:=t;have U:=(KQ w d m FO t1).mp t2;obtain⟨a,b,c,U,E⟩:=Fl.upmin w d m _ a b c U (Nat.le_add_left _ _);obtain⟨s1,s2,s3,g1,g2,g3,hx⟩:=E.hex w d m U.ab U.bc;have k:∀{x y:Int},tm ks row x y<row.length->kd ks x≠kd ks y:=λ{x y} q z=>by
  have:=w.tm_alike (x:=x) (y:=y) (by ac_rfl);ac_rfl
 have u1:=U.t1;have u2:=U.t2;have u3:=U.t3;have t3:(a,b,c)∈aP ks:=EG U.a0 U.ab U.bc U.cn (k (by ac_rfl)) (k u3);refine⟨(a,b,c),t3,?_,(KQ w d m FO t3).mpr U⟩;show yW (bT fl a b) (bT fl a c) (bT fl b c) a b c;have f1:bT fl a b=srt s1:=FO.below w g1;have f2:bT fl a c=srt s2:=FO.below w g2;have f3:bT fl b c=srt s3:=FO.below w g3;rw[f1,f2,f3];exact hx
theorem E3{α:Type}{p q:α->Bool}{t:α}:∀{l:List α},l.Nodup->t∈l->p t=ai->q t=ap->(∀x∈l,x≠t->q x=p x)->(l.filter p).length=(l.filter q).length+1
 |x::l,nd,h,a,b,e=>by
  obtain⟨n1,n2⟩:=sf.mp nd;by_cases z:x=t
  ·subst z;rw[jh,Y4 a,jh,XF (by rw[b];decide),bp];rw[VJ λy hy=>(e y (bm _ hy) λw=>n1 (w ▸ hy)).symm]
  ·have ih:=E3 n2 ((bq.mp h).resolve_left λw=>z w.symm) a b λy hy=>e y (bm _ hy);have ex:=e x (ci ..) z;cases hp:p x
   ·rw[jh,XF (by rw[hp];decide),jh,XF (by rw[ex,hp];decide)];exact ih
   ·rw[jh,Y4 hp,jh,Y4 (by rw[ex,hp]),bp,bp,ih]
theorem IsF.less{fl:List Ti}(F:IsF ks fl){c:Int}(t3:(a,b,c)∈aP ks)(hx:kC fl (a,b,c))(u:upB fl (a,b,c)=ai):(fX ks fl).length=(fX ks (iH fl (a,b,c))).length+1:=
 E3 (z8 ks) t3 u (by rw[Ff F t3 hx,u];rfl) λx hx' e=>CF F t3 hx hx' e
theorem M7{ks:List Int}:∀(m:Nat) (fl:List Ti),IsF ks fl->(fX ks fl).length<=m -> ∃fl0,IsF ks fl0/\fX ks fl0=[]
 |0,fl,F,h=>⟨fl,F,List.eq_nil_of_length_eq_zero (by ac_rfl)⟩
 |m+1,fl,F,h=>by
  by_cases z:fX ks fl=[]
  ·exact⟨fl,F,z⟩
  ·obtain⟨⟨a,b,c⟩,t3,hx,u⟩:=F.down z;have:=F.less t3 hx u;exact M7 m _ (F.flip t3 hx).1 (by ac_rfl)
theorem xQ{fl:List Ti}(h:fX ks fl=[]):UpsOf ks fl []:=by
 refine⟨λt=>⟨λz=>(ip z).elim,λz=>?_⟩⟩;rw[<- h];exact ji.mpr ⟨z.1,decide_eq_true z.2⟩
theorem HG{fl:List Ti}(F:IsF ks fl)(h:fX ks fl=[]):DM ks []=fl/\UpsOk ks []:=by
 obtain⟨row,e,w,d,rl,p⟩:=F.row;have FO:=kK p;refine⟨Ib w d F.mo FO (F.up.imp λ{t u} z=>?_) (xQ h),Ky w d F.mo FO (xQ h)⟩;unfold yF at z;simp only[lexB] at z;split at z
 ·rename_i e1;split at z
  ·cases z
  ·exact .inr ⟨e1,of_decide_eq_true z⟩
 ·exact .inl (of_decide_eq_true z)
theorem MZ:∀(m:Nat) (Y6:List Int),Pt ks.length Y6->pc (Y6.map (kd ks))<=m -> ∃row e,Walk ks Y6 row e/\cZ ks e:=by
 intro m;induction m with
 |zero=>
  intro Y6 P h;refine⟨[],Y6,.nil _,λp hp=>XY.mp λq=>?_⟩;have w:Walk ks Y6 [(p:Int)] (aK Y6 p):=.cons hp q (.nil _);have:=w.count P.len;rw[fk] at this;ac_rfl
 |succ m ih=>
  intro Y6 P h;by_cases d:cZ ks Y6
  ·exact⟨[],Y6,.nil _,d⟩
  ·obtain⟨p,hp,q⟩:∃p,p+1<ks.length/\kd ks (Y6.getD p 0)<kd ks (Y6.getD (p+1) 0):=by
    apply wv;intro z;exact d λp hp=>XY.mp λq=>z ⟨p,hp,q⟩
   have w:Walk ks Y6 [(p:Int)] (aK Y6 p):=.cons hp q (.nil _);have ct:=w.count P.len;rw[fk] at ct;obtain⟨row,e,w2,d2⟩:=ih (aK Y6 p) (P.swap hp) (by ac_rfl);exact⟨_,e,.cons hp q w2,d2⟩
noncomputable def Jq(t u:Ti):Bool:=!lexB [u.1,u.2.1] [t.1,t.2.1]
theorem MH(a b c:Ti)(h1:Jq a b=ai)(h2:Jq b c=ai):Jq a c=ai:=by
 unfold Jq at *;rw[xi] at *;rw[Bool.eq_false_iff];intro z;by_cases e:[a.1,a.2.1]=[b.1,b.2.1]
 ·rw[e,h2] at z;cases z
 ·rcases jX _ _ e with q | q
  ·rw[mK _ _ _ z q] at h2;cases h2
  ·rw[q] at h1;cases h1
theorem Jp(a b:Ti):(Jq a b || Jq b a)=ai:=by
 unfold Jq;cases h:lexB [b.1,b.2.1] [a.1,a.2.1]
 ·rfl
 ·cases h2:lexB [a.1,a.2.1] [b.1,b.2.1]
  ·rfl
  ·have:=mK _ _ _ h h2;rw[g8] at this;cases this
theorem Ot{cs:List Nat}(C:Cnt cs):∃fl,IsF (aT 0 cs) fl:=by
 obtain⟨n2,n12⟩:=AR C;obtain⟨row,e,w,d⟩:=MZ (ks:=aT 0 cs) _ (ids (aT 0 cs).length) (Pt.ids _) (bj _);have ct:=w.count (by simp);rw[Fl.D0] at ct;have p60:=DA C;have pm:=V0 (fV (ids (aT 0 cs).length) row) Jq;have ky:=(kK (ks:=aT 0 cs) (row:=row) pm).keys w;have pw:=xx MH Jp (fV (ids (aT 0 cs).length) row);refine⟨_,n2,n12,mT cs,(pw.and ky).imp λ{t u} z=>?_,row,e,w,d,(by ac_rfl),pm⟩;unfold yF;have h1:=z.1;unfold Jq at h1;rw[xi] at h1;rcases jX [t.1,t.2.1] [u.1,u.2.1] (λq=>z.2 (by simp only[ku,and_true] at q;exact q)) with q | q
 ·exact q
 ·rw[q] at h1;cases h1
end Lw
namespace Lw
open L2 Z
open Sf (Rw crs qT Pre Good aH aY place many)
open Fl (kd ids Walk cZ tls pc aK Pt Bf srt c8 yW tS fV tm)
theorem IsF.cov{ks:List Int}{fl:List Ti}(F:IsF ks fl):TK ks fl:=by
 obtain⟨row,e,w,d,rl,p⟩:=F.row;exact(kK p).cov w d F.mo
theorem flp{fl:List Ti}{a c:Int}(F:IsF (aH rows) fl)(t3:(a,b,c)∈aP (aH rows))(hx:kC fl (a,b,c))(q:Q (.nw (.lst (fM (iH fl (a,b,c)))))):lX C [bH C rows,.lst (fM fl),.tup [.int a,.int b,.int c]] Q:=
 ⟨rows,fl,a,b,c,rfl,F.fl5,(F.flip t3 hx).2.ab,(F.flip t3 hx).2.bc,t3,hx,q⟩
theorem fpp{fl:List Ti}(F:IsF (aH rows) fl)(q:Q (.nw (.lst (cX ((aP (aH rows)).filter λt=>decide (kC fl t)))))):uY C [bH C rows,.lst (fM fl)] Q:=
 ⟨rows,fl,rfl,F.n12,by have:=F.len;ac_rfl,F.key,F.fl5.has,q⟩
noncomputable def lU:Fn:=λds Q=>∃(ks:List Int) (fl:List Ti),ds=[.lst (b8 ks),.lst (fM fl)]/\IsF ks fl/\Q (.nw (.lst (cX (fX ks fl))))
theorem Ji:∀ds Q,lU ds Q->ds.length=2:=by rintro ds Q ⟨_,_,rfl,_⟩;rfl
theorem Ly:MonoF lU:=⟨λds Q Q' w z=>by obtain⟨a,b,c,d,e⟩:=z;exact⟨a,b,c,d,w _ e⟩⟩
theorem Ge:∀ds Q,lU ds Q->uW eI zB ({ nx:=λ_=>Q (.v .non),rt:=Q }) (aN ["_law_bands_here", "_law_tiles", "_law_belows_here"] ds):=by
 rintro ds Q ⟨ks,fl,rfl,F,q⟩;have tl:=kE F.n12;have fl6:=F.len;have n2:=F.n2;push_cast [Z.nM];refine⟨fl,rfl,(by ac_rfl),F.key,?_⟩;push_cast [Z.nM];refine⟨ks,rfl,(by ac_rfl),F.n12,F.mo,?_⟩;push_cast [Z.nM];exact N6 F.cov F.mo (aP ks) [] (λt ht=>ht) (by simp;ac_rfl) q
noncomputable def rC(C:af):Fn:=λds Q=>∃(rows:List Rw) (fl:List Ti),ds=[bH C rows,.lst (fM fl)]/\IsF (aH rows) fl/\Q (.nw (.lst (cX (fX (aH rows) fl))))
theorem M8:∀ds Q,rC C ds Q->ds.length=2:=by rintro ds Q ⟨_,_,rfl,_⟩;rfl
theorem vQ:MonoF (rC C):=⟨λds Q Q' w z=>by obtain⟨a,b,c,d,e⟩:=z;exact⟨a,b,c,d,w _ e⟩⟩
theorem Ra:∀ds Q,rC C ds Q->L9 eI (jN C) ({ nx:=λ_=>Q (.v .non),rt:=Q }) (aN ["sides", "floor", "below"] ds):=by
 rintro ds Q ⟨rows,fl,rfl,F,q⟩;have tl:=kE F.n12;have fl6:=F.len;push_cast [Z.nM];refine⟨fl,rfl,(by ac_rfl),F.key,?_⟩;push_cast [Z.nM];refine⟨rows,rfl,F.n12,?_⟩;push_cast [Z.nM];exact N6 F.cov F.mo (aP (aH rows)) [] (λt ht=>ht) (by simp;ac_rfl) q
noncomputable abbrev EH(t:Th):Dv:=.tup [.int t.1,.int t.2.1,.int t.2.2]
noncomputable abbrev tE(ks:List Int)(fl:List Ti)(t:Th):Prop:=t∈aP ks/\kC fl t/\upB fl t=ai
noncomputable def oK(C:af):Fn:=λds Q=>∃(rows:List Rw) (fl:List Ti) (S:List Th),ds=[bH C rows,.lst (fM fl),.lst (cX S)]/\IsF (aH rows) fl/\(∀t,tE (aH rows) fl t->t ∉ S->Q (.v (EH t)))/\((∀t,tE (aH rows) fl t->t∈S)->Q (.v .non))
theorem HR:∀ds Q,oK C ds Q->ds.length=3:=by rintro ds Q ⟨_,_,_,rfl,_⟩;rfl
theorem JX:MonoF (oK C):=⟨λds Q Q' w z=>by obtain⟨a,b,c,d,e,f,g⟩:=z;exact⟨a,b,c,d,e,λt h n=>w _ (f t h n),λh=>w _ (g h)⟩⟩
theorem MY{x0 x1:Sl}{U S:List Th}{E:En}:∀(l:List Th) (s:Sl),(∀t∈l,t∈U->t ∉ S->E.rt (.v (EH t)))->((∀t∈l,t∈U->t∈S) -> ∀s,E.nx [x0,x1,.v (.lst (cX S)),.v (.lst (cX U)),s]) ->
  bM (gN 4) (kP (rC C) (uY C)) [] (cX l) E [x0,x1,.v (.lst (cX S)),.v (.lst (cX U)),s]:=by
 intro l;induction l with
 |nil=>
  intro s _ h;rw[show cX []=[] from rfl,cI];exact⟨λp hp=>by simp at hp,h (λt ht=>by cases ht) _⟩
 |cons t l ih=>
  intro s h1 h2;rw[show cX (t::l)=EH t::cX l from rfl,cO];refine⟨λp hp=>by simp at hp,?_⟩;have nx:=λs=>ih s (λt ht=>h1 t (bm _ ht));generalize bM (gN 4) (kP (rC C) (uY C)) [] (cX l) E=G at nx ⊢;push_cast [kP,JK,fE,Dp];refine⟨⟨rfl,uJ U⟩,?_⟩;by_cases u:t∈U
  ·rw[Y4 u];refine⟨⟨rfl,uJ S⟩,?_⟩;by_cases z:t∈S
   ·rw[decide_eq_true z];exact nx _ λh s=>h2 (λx hx=>by rcases bq.mp hx with rfl | hx;exact λ_=>z;exact h x hx) s
   ·rw[decide_eq_false z];exact h1 t (ci ..) u z
  ·rw[XF u];exact nx _ λh s=>h2 (λx hx=>by rcases bq.mp hx with rfl | hx;exact λk=>absurd k u;exact h x hx) s
theorem Ee:∀ds Q,oK C ds Q->sK (rC C) (uY C) ({ nx:=λ_=>Q (.v .non),rt:=Q }) (aN ["sides", "floor", "spared", "ups", "three"] ds):=by
 rintro ds Q ⟨rows,fl,S,rfl,F,q1,q2⟩;push_cast [Z.nM];refine⟨rows,fl,rfl,F,?_⟩;push_cast [Z.nM];refine fpp F ?_;push_cast [Z.nM];have mem:∀t,(t∈(aP (aH rows)).filter λt=>decide (kC fl t)) ↔ t∈aP (aH rows)/\kC fl t:=λt=>by rw[ji,decide_eq_true_eq]
 refine MY _ _ ?_ ?_
 ·exact λt ht hu hn=>q1 t ⟨((mem t).mp ht).1,((mem t).mp ht).2,(ji.mp hu).2⟩ hn
 intro h s;push_cast [Z.nM];exact q2 λt ht=>h t ((mem t).mpr ⟨ht.1,ht.2.1⟩) (ji.mpr ⟨ht.1,ht.2.2⟩)
end Lw
namespace Lw
open L2 Z
open Sf (Rw crs qT Pre Good aH aY place many)
open Fl (kd ids Walk cZ tls pc aK Pt Bf srt c8 yW tS fV tm)
inductive Falls(ks:List Int)(fl:List Ti):List Th->List Ti->Prop
 |nil:Falls ks fl [] fl
 |snoc {ts:List Th} {f:List Ti} {t:Th}:Falls ks fl ts f->tE ks f t->Falls ks fl (ts++[t]) (iH f t)
variable {f:List Ti}{ts:List Th}
theorem Falls.isF{fl:List Ti}(F:IsF ks fl)(h:Falls ks fl ts f):IsF ks f/\ts.length+(fX ks f).length=(fX ks fl).length:=by
 induction h with
 |nil=>exact⟨F,by simp⟩
 | @snoc ts f t h a ih=>
  obtain⟨a1,a2,a3⟩:=a;obtain⟨x,y,z⟩:=t;refine⟨(ih.1.flip a1 a2).1,?_⟩;have:=ih.1.less a1 a2 a3;have:=ih.2;rw[br,fk];ac_rfl
theorem Di(F:IsF ks f)(h:∀t,tE ks f t->t∈([]:List Th)):fX ks f=[]:=by
 by_cases z:fX ks f=[]
 ·exact z
 ·obtain⟨t,a,b,c⟩:=F.down z;cases h t ⟨a,b,c⟩
theorem Jd{g:List Ti}(F:IsF ks f)(G:IsF ks g)(u:fX ks f=[])(v:fX ks g=[]):f=g:=by
 rw[<- (HG F u).1,(HG G v).1]
theorem DK(F:IsF ks f):(fX ks f).length<=1728:=by
 have:=kE F.n12;have:(fX ks f).length<=(aP ks).length:=qk (upB f) (aP ks);ac_rfl
noncomputable def nK(C:af):Fn:=λds Q=>∃(rows:List Rw) (fl gl:List Ti),ds=[bH C rows,.lst (fM fl),.lst (fM gl)]/\IsF (aH rows) fl/\IsF (aH rows) gl /\ ∀ts bs f,Falls (aH rows) fl ts f->Falls (aH rows) gl bs f->Q (.nw (.lst (cX (ts++bs.reverse))))
theorem Jf:∀ds Q,nK C ds Q->ds.length=3:=by rintro ds Q ⟨_,_,_,rfl,_⟩;rfl
theorem zQ:MonoF (nK C):=⟨λds Q Q' w z=>by obtain⟨a,b,c,d,e,f,g⟩:=z;exact⟨a,b,c,d,e,f,λx y z h k=>w _ (g x y z h k)⟩⟩
theorem N5{g:List Ti}{bs:List Th}{a3 a4:af}{x5:Sl}{E:En}(F:IsF (aH rows) f)(G:IsF (aH rows) g)(ne:f≠g)(lt:ts.length<=2000)(lb:bs.length<=2000)
  (h1:∀t s,tE (aH rows) f t->E.nx [.v (bH C rows),.v (.lst (fM (iH f t))),.v (.lst (fM g)),.own a3 (.lst (cX (ts++[t]))),.own a4 (.lst (cX bs)),s])
  (h2:∀t s,tE (aH rows) g t->E.ct [.v (bH C rows),.v (.lst (fM f)),.v (.lst (fM (iH g t))),.own a3 (.lst (cX ts)),.own a4 (.lst (cX (bs++[t]))),s]):
  uQ (rC C) (oK C) (lX C) E [.v (bH C rows),.v (.lst (fM f)),.v (.lst (fM g)),.own a3 (.lst (cX ts)),.own a4 (.lst (cX bs)),x5]:=by
 push_cast [uQ];refine⟨rows,g,rfl,G,?_⟩;push_cast [Z.nM];refine⟨rows,f,fX (aH rows) g,rfl,F,λt ft nt=>?_,λall=>?_⟩
 ·push_cast [Z.nM];obtain⟨x,y,z⟩:=t;refine⟨by simp;ac_rfl,flp F ft.1 ft.2.1 ?_⟩;push_cast [Z.nM];rw[show cX ts++[EH (x,y,z)]=cX (ts++[(x,y,z)]) by simp];exact h1 _ _ ft
 ·push_cast [Z.nM];refine⟨rows,f,rfl,F,?_⟩;push_cast [Z.nM];refine⟨rows,g,fX (aH rows) f,rfl,G,λt ft nt=>?_,λall2=>?_⟩
  ·obtain⟨x,y,z⟩:=t;push_cast [Z.nM];refine⟨by simp;ac_rfl,flp G ft.1 ft.2.1 ?_⟩;push_cast [Z.nM];rw[show cX bs++[EH (x,y,z)]=cX (bs++[(x,y,z)]) by simp];exact h2 _ _ ft
  ·push_cast [Z.nM];refine⟨rows,f,[],rfl,F,λt ft nt=>?_,λall3=>?_⟩
   ·obtain⟨x,y,z⟩:=t;push_cast [Z.nM];refine⟨by simp;ac_rfl,flp F ft.1 ft.2.1 ?_⟩;push_cast [Z.nM];rw[show cX ts++[EH (x,y,z)]=cX (ts++[(x,y,z)]) by simp];exact h1 _ _ ft
   ·have u:=Di F all3;rw[u] at all2;exact absurd (Jd F G u (Di G all2)) ne
theorem O1:∀ds Q,nK C ds Q->Fu (rC C) (oK C) (lX C) ({ nx:=λ_=>Q (.v .non),rt:=Q }) (aN ["sides", "one", "other", "there", "back", "three"] ds):=by
 rintro ds Q ⟨rows,fl,gl,rfl,F,G,q⟩;push_cast [Z.nM];intro a3 a4;refine⟨λm ρ=>∃f g ts bs x5,Falls (aH rows) fl ts f/\Falls (aH rows) gl bs g/\m=(fX (aH rows) f).length+(fX (aH rows) g).length/\ρ=[.v (bH C rows),.v (.lst (fM f)),.v (.lst (fM g)),.own a3 (.lst (cX ts)),.own a4 (.lst (cX bs)),x5],⟨_,fl,gl,[],[],_,.nil,.nil,rfl,rfl⟩,?_⟩;rintro m ρ ⟨f,g,ts,bs,x5,hf,hg,rfl,rfl⟩;obtain⟨F1,l1⟩:=hf.isF F;obtain⟨G1,l2⟩:=hg.isF G;have b1:=DK F;have b2:=DK G;have W:=λ(ne:f≠g) (E:En)=>N5 (C:=C) (a3:=a3) (a4:=a4) (x5:=x5) (E:=E) F1 G1 ne (show ts.length<=2000 by ac_rfl) (show bs.length<=2000 by ac_rfl);generalize uQ (rC C) (oK C) (lX C)=B at W ⊢;push_cast [AF,Gr,and_self,true_and];by_cases e:f=g
 ·subst e;rw[decide_eq_true rfl];push_cast [Z.nM];refine⟨by simp;ac_rfl,?_⟩;rw[show cX ts++(cX bs).reverse=cX (ts++bs.reverse) by simp];exact q _ _ _ hf hg
 ·rw[decide_eq_false e];refine mZ (W e _ (λt s ft=>?_) λt s ft=>?_)
  ·obtain⟨x,y,z⟩:=t;have:=F1.less ft.1 ft.2.1 ft.2.2;exact⟨_,(by ac_rfl),_,_,_,_,_,hf.snoc ft,hg,rfl,rfl⟩
  ·obtain⟨x,y,z⟩:=t;have:=G1.less ft.1 ft.2.1 ft.2.2;exact⟨_,(by ac_rfl),_,_,_,_,_,hf,hg.snoc ft,rfl,rfl⟩
end Lw
namespace Lw
open L2 Z
open Sf (Rw crs qT Pre Good aH aY place many)
open Fl (kd ids Walk cZ tls pc aK Pt Bf srt c8 yW tS fV tm)
noncomputable def pt(l:List Ti)(a b:Int)(m:List Int):List Ti:=l.map λx=>if x.1=a/\x.2.1=b then (x.1,x.2.1,m) else x
noncomputable abbrev wQ(l:List Ti)(a b:Int):Prop:=∃u∈l,u.1=a/\u.2.1=b
variable {a:Int}{m:List Int}
theorem sQ{l:List Ti}{c d:Int}(h:wQ l a b):wQ (pt l c d m) a b:=by
 obtain⟨u,hu,e1,e2⟩:=h;refine⟨_,fx.mpr ⟨u,hu,rfl⟩,?_⟩;split<;>exact⟨e1,e2⟩
theorem zI{l:List Ti}:(pt l a b m).length=l.length:=bi ..
theorem oO{l:List Ti}(h:wQ l a b):wW (mX l) [ee a,ee b] (.tup (b8 m))=mX (pt l a b m):=by
 obtain⟨u,hu,e1,e2⟩:=h;unfold wW;have e:(mX l).any (λkv=>decide (kv.1=[ee a,ee b]))=ai:=by
  rw[Wh];exact⟨_,fx.mpr ⟨u,hu,rfl⟩,by simp[u5,e1,e2]⟩
 rw[e,Y4 rfl,lj,pt,mX,lj];refine jx λx _=>?_;dsimp only[Function.comp];by_cases z:x.1=a/\x.2.1=b
 ·rw[Y4 (show u5 x=_ by simp[u5,z]),Y4 z]
 ·rw[XF (by simpa [u5] using z),XF z]
theorem TQ{l:List Ti}{c:Int}(ab:a<b)(bc:b<c)(m1 m2 m3:List Int):pt (pt (pt l a b m1) a c m2) b c m3=l.map (rp [(a,b,m1),(a,c,m2),(b,c,m3)]):=by
 unfold pt;rw[lj,lj];refine jx λx _=>?_;obtain⟨x,y,z⟩:=x;show (if _ then _ else _)=_;unfold rp Ob;by_cases e1:x=a
 ·subst e1;by_cases e2:y=b
  ·subst e2;simp[XS,show x≠y by ac_rfl,show y≠c by ac_rfl]
  ·by_cases e3:y=c
   ·subst e3;simp[XS,show x≠b by ac_rfl,e2,show b≠y by ac_rfl]
   ·simp[XS,e2,e3,show x≠b by ac_rfl,Ne.symm e2,Ne.symm e3]
 ·by_cases e4:x=b
  ·subst e4;by_cases e3:y=c
   ·subst e3;simp[XS,e1,Ne.symm e1]
   ·simp[XS,e1,Ne.symm e1,e3,Ne.symm e3]
  ·simp[XS,e1,e4,Ne.symm e1,Ne.symm e4]
theorem jP{l:List Ti}{u:Ti}(h:(l.find? λt=>decide (t.1=a/\t.2.1=b))=aa u):wQ l a b:=
 ⟨u,ni h,by simpa using ze h⟩
theorem A2{A B:Prop}{i:Decidable (eqD (.tup (b8 l)) (.tup (b8 m))=ai)}(h1:l=m->A)(h2:l≠m->B):@ite Prop (eqD (.tup (b8 l)) (.tup (b8 m))=ai) i A B:=by
 by_cases e:l=m
 ·rw[Y4 (by rw[uO];simpa using e)];exact h1 e
 ·rw[XF (by rw[uO];simpa using e)];exact h2 e
variable {u1 u2 u3:Ti}{E:En}{ad:af}{x1:Sl}
theorem SD{fl:List Ti}{c:Int}(f3:(fl.find? λt=>decide (t.1=b/\t.2.1=c))=aa u3)(k1:wQ fl a b)(k2:wQ fl a c)(k3:wQ fl b c)(l1:u1.2.2.length<=30)(ll:fl.length<=1000)
  (h1:u3.2.2=u1.2.2->u2.2.2=srt (u1.2.2++[b])->E.rw ai [.own ad (.dit (mX (pt (pt (pt fl a b (srt (u1.2.2++[c]))) a c u1.2.2) b c (srt (u1.2.2++[a]))))),x1,.v (.int a),.v (.int b),.v (.int c),.v (.tup (b8 u1.2.2)),.v (.tup (b8 u2.2.2))])
  (h2:¬(u3.2.2=u1.2.2/\u2.2.2=srt (u1.2.2++[b]))->tl E [.own ad (.dit (mX fl)),x1,.v (.int a),.v (.int b),.v (.int c),.v (.tup (b8 u1.2.2)),.v (.tup (b8 u2.2.2))]):
  aO (jE (qG (aW (aQ sF (aQ cA (a8 0) (bQ (a7 (a8 3) (a7 (a8 4) aF)))) (a8 5))) (aW (aQ sF (a8 6) (aR l7 (a7 (a8 5) (a7 (a8 3) aF)))))) (aO (mB 0 (bQ (a7 (a8 2) (a7 (a8 3) aF))) (aR l7 (a7 (a8 5) (a7 (a8 4) aF))))
 (aO (mB 0 (bQ (a7 (a8 2) (a7 (a8 4) aF))) (a8 5))
 (aO (mB 0 (bQ (a7 (a8 3) (a7 (a8 4) aF))) (aR l7 (a7 (a8 5) (a7 (a8 2) aF))))
 (rH (eC (.bl ai)))))) bN) tl E [.own ad (.dit (mX fl)),x1,.v (.int a),.v (.int b),.v (.int c),.v (.tup (b8 u1.2.2)),.v (.tup (b8 u2.2.2))]:=by
 push_cast [mM,f3,vg,rH];refine⟨⟨jW _,jW _⟩,A2 (λc1=>?_) λc1=>h2 λz=>c1 z.1⟩;refine⟨_,_,rfl,l1,?_⟩;push_cast [Z.nM];refine⟨⟨jW _,jW _⟩,A2 (λc2=>?_) λc2=>h2 λz=>c2 z.2⟩;refine⟨_,_,rfl,l1,?_⟩;push_cast [Z.nM];refine⟨[ee a,ee b],rfl,by simp;ac_rfl,[ee a,ee c],rfl,?_⟩;rw[oO k1,oO (sQ k2)];refine⟨by simp[zI];ac_rfl,_,_,rfl,l1,?_⟩;push_cast [Z.nM];refine⟨[ee b,ee c],rfl,by simp[zI];ac_rfl,?_⟩;rw[oO (sQ (sQ k3))];exact h1 c1 c2
theorem SC{fl:List Ti}{c:Int}(f3:(fl.find? λt=>decide (t.1=b/\t.2.1=c))=aa u3)(k1:wQ fl a b)(k2:wQ fl a c)(k3:wQ fl b c)(l2:u2.2.2.length<=30)(ll:fl.length<=1000)
  (c1:u1.2.2=srt (u2.2.2++[c])) (c2:u3.2.2=srt (u2.2.2++[a])) (h1:E.rw ai [.own ad (.dit (mX (pt (pt (pt fl a b u2.2.2) a c (srt (u2.2.2++[b]))) b c u2.2.2))),x1,.v (.int a),.v (.int b),.v (.int c),.v (.tup (b8 u1.2.2)),.v (.tup (b8 u2.2.2))]):
  aO (jE (qG (aW (aQ sF (a8 5) (aR l7 (a7 (a8 6) (a7 (a8 4) aF))))) (aW (aQ sF (aQ cA (a8 0) (bQ (a7 (a8 3) (a7 (a8 4) aF)))) (aR l7 (a7 (a8 6) (a7 (a8 2) aF)))))) (aO (mB 0 (bQ (a7 (a8 2) (a7 (a8 3) aF))) (a8 6))
 (aO (mB 0 (bQ (a7 (a8 2) (a7 (a8 4) aF))) (aR l7 (a7 (a8 6) (a7 (a8 3) aF))))
 (aO (mB 0 (bQ (a7 (a8 3) (a7 (a8 4) aF))) (a8 6))
 (rH (eC (.bl ai)))))) bN) (rH (eC (.bl ap))) E [.own ad (.dit (mX fl)),x1,.v (.int a),.v (.int b),.v (.int c),.v (.tup (b8 u1.2.2)),.v (.tup (b8 u2.2.2))]:=by
 push_cast [rH];refine⟨_,_,rfl,l2,?_⟩;push_cast [Z.nM];refine⟨⟨jW _,jW _⟩,A2 (λ_=>?_) λn=>absurd c1 n⟩;push_cast [mM,f3,vg];refine⟨_,_,rfl,l2,?_⟩;push_cast [Z.nM];refine⟨⟨jW _,jW _⟩,A2 (λ_=>?_) λn=>absurd c2 n⟩;refine⟨[ee a,ee b],rfl,by simp;ac_rfl,?_⟩;rw[oO k1];refine⟨_,_,rfl,l2,?_⟩;push_cast [Z.nM];refine⟨[ee a,ee c],rfl,by simp[zI];ac_rfl,[ee b,ee c],rfl,?_⟩;rw[oO (sQ k2)];refine⟨by simp[zI];ac_rfl,?_⟩;rw[oO (sQ (sQ k3))];exact h1
theorem SE{fl:List Ti}{c:Int}(f1:(fl.find? λt=>decide (t.1=a/\t.2.1=b))=aa u1)(f2:(fl.find? λt=>decide (t.1=a/\t.2.1=c))=aa u2)
  (h:tl E [.own ad (.dit (mX fl)),.v (EH (a,b,c)),.v (.int a),.v (.int b),.v (.int c),.v (.tup (b8 u1.2.2)),.v (.tup (b8 u2.2.2))]):
  aO (G9 (a8 1) (gT [2,3,4])) (aO (bD 5 (aQ cA (a8 0) (bQ (a7 (a8 2) (a7 (a8 3) aF))))) (aO (bD 6 (aQ cA (a8 0) (bQ (a7 (a8 2) (a7 (a8 4) aF))))) tl)) E [.own ad (.dit (mX fl)),.v (EH (a,b,c)),.un,.un,.un,.un,.un]:=by
 push_cast [mM,f1,f2,vg];exact h
noncomputable def xW:IX:=λds Q=>∃(ks:List Int) (fl:List Ti) (t:Th),ds=[.dit (mX fl),EH t]/\IsF ks fl/\t∈aP ks/\kC fl t/\Q ai (.dit (mX (iH fl t)))
theorem MD:∀ds Q,xW ds Q->ds.length=2:=by rintro ds Q ⟨_,_,_,rfl,_⟩;rfl
theorem OQ:MonoW xW:=⟨λds Q Q' w z=>by obtain⟨a,b,c,d,e,f,g,h⟩:=z;exact⟨a,b,c,d,e,f,g,w _ _ h⟩⟩
theorem wZ:∀ds Q,xW ds Q -> ∀a,kS l7 { nx:=λ_=>False,rt:=λ_=>False,rw:=λb ρ=>∃d,ρ[0]?=aa (.own a d)/\Q b d } (jR a ["_law_belows_here", "_law_three", "_law_a", "_law_b", "_law_c", "_law_one", "_law_two"] ds):=by
 rintro ds Q ⟨ks,fl,t,rfl,F,t3,hx,q⟩ ad;obtain⟨a,b,c⟩:=t;have T:=(F.flip t3 hx).2;obtain⟨⟨u1,f1,e1,l1⟩,⟨u2,f2,e2,l2⟩,⟨u3,f3,e3,l3⟩⟩:=F.fl5.has _ t3;dsimp only at f1 f2 f3 e1 e2 e3;have k1:=jP f1;have k2:=jP f2;have k3:=jP f3;have ll:=F.len;rw[show jR ad ["_law_belows_here", "_law_three", "_law_a", "_law_b", "_law_c", "_law_one", "_law_two"] [.dit (mX fl),EH (a,b,c)]=[.own ad (.dit (mX fl)),.v (EH (a,b,c)),.un,.un,.un,.un,.un] from rfl];unfold iH pY at q;refine SE f1 f2 (SD f3 k1 k2 k3 l1 (by ac_rfl) (λc1 c2=>?_) λn=>?_)
 ·refine⟨_,rfl,?_⟩;rw[Y4 (show E8 fl (a,b,c) from⟨by rw[<- e1,<- e3];exact c1,by rw[<- e1,<- e2];exact c2⟩)] at q;rw[TQ T.ab T.bc,e1];exact q
 ·have d:Ms fl (a,b,c):=by
   rcases hx with h | h
   ·exact absurd ⟨by rw[e1,e3];exact h.1,by rw[e1,e2];exact h.2⟩ n
   ·exact h
  rw[XF (show ¬E8 fl (a,b,c) from λh=>n ⟨by rw[e1,e3];exact h.1,by rw[e1,e2];exact h.2⟩)] at q;refine SC f3 k1 k2 k3 l2 (by ac_rfl) (by rw[e1,e2];exact d.1) (by rw[e2,e3];exact d.2) ⟨_,rfl,?_⟩;rw[TQ T.ab T.bc,e2];exact q
end Lw
namespace Lw
open L2 Z
open Sf (Rw crs qT Pre Good aH aY place many)
open Fl (kd ids Walk cZ tls pc aK Pt Bf srt c8 yW tS fV tm)
theorem Cd:∀ds Q,l7 ds Q->pN ({ nx:=λ_=>Q (.v .non),rt:=Q }) (aN ["_law_below", "_law_band"] ds):=by
 rintro ds Q ⟨l,b,rfl,hl,h⟩;push_cast [bi];refine⟨(by ac_rfl),?_⟩;rw[KZ];refine yD (by simp;ac_rfl) λms hm hs=>?_;obtain rfl:=c8 hm hs;push_cast [Z.nM];exact h
noncomputable def sL:Fn:=λds Q=>∃l:List Th,ds=[.lst (cX l)]/\Q (.v (.bl ai))
theorem Jm:∀ds Q,sL ds Q->ds.length=1:=by rintro ds Q ⟨_,rfl,_⟩;rfl
theorem M1:MonoF sL:=⟨λds Q Q' w z=>by obtain⟨a,b,c⟩:=z;exact⟨a,b,w _ c⟩⟩
variable {x0:Sl}{E:En}
theorem Oc(h:∀s,E.nx [x0,s]):∀(l:List Th) (s:Sl),bM (gN 1) (eZ jM) [] (cX l) E [x0,s]:=by
 intro l;induction l with
 |nil=>
  intro s;rw[show cX []=[] from rfl,cI];exact⟨λp hp=>by simp at hp,h _⟩
 |cons t l ih=>
  intro s;rw[show cX (t::l)=EH t::cX l from rfl,cO];refine⟨λp hp=>by simp at hp,?_⟩;have nx:=λs=>ih s;generalize bM (gN 1) (eZ jM) [] (cX l) E=G at nx ⊢;push_cast [eZ];refine⟨[t.1,t.2.1,t.2.2],rfl,?_⟩;push_cast [Z.nM];exact nx _
theorem tY:∀ds Q,sL ds Q->j6 jM ({ nx:=λ_=>Q (.v .non),rt:=Q }) (aN ["_law_found", "_law_three"] ds):=by
 rintro ds Q ⟨l,rfl,q⟩;push_cast [Z.nM];refine⟨rfl,Oc (λs=>?_) l _⟩;push_cast [Z.nM];exact q
noncomputable def tT(ks:List Int):List Ti->List Th->List Ti->Prop
 |f,[],g=>f=g
 |f,t::ts,g=>t∈aP ks/\kC f t/\tT ks (iH f t) ts g
noncomputable def kF:Fn:=λds Q=>∃(ks:List Int) (fl gl:List Ti) (ts:List Th),ds=[.lst (fM fl),.lst (fM gl),.lst (cX ts)]/\IsF ks fl/\IsF ks gl/\tT ks fl ts gl/\Q (.v (.bl ai))
theorem HJ:∀ds Q,kF ds Q->ds.length=3:=by rintro ds Q ⟨_,_,_,_,rfl,_⟩;rfl
theorem JS:MonoF kF:=⟨λds Q Q' w z=>by obtain⟨a,b,c,d,e,f,g,h,i⟩:=z;exact⟨a,b,c,d,e,f,g,h,w _ i⟩⟩
theorem A8{l:List Ti}{a:Int}(h:wQ l a b):hasT (mX l) [ee a,ee b]=ai:=by
 obtain⟨u,hu,e1,e2⟩:=h;unfold hasT;rw[Wh];exact⟨_,fx.mpr ⟨u,hu,rfl⟩,by simp[u5,e1,e2]⟩
theorem Kx{x1 x2:Sl}{g:List Ti}(h:∀s,E.nx [x0,x1,x2,.own a (.dit (mX g)),s]):∀(ts:List Th) (f:List Ti) (s:Sl),IsF ks f->tT ks f ts g ->
  bM (gN 4) (i5 sL eI xW) [] (cX ts) E [x0,x1,x2,.own a (.dit (mX f)),s]:=by
 intro ts;induction ts with
 |nil=>
  intro f s _ e;rw[show cX []=[] from rfl,cI];rw[show f=g from e];exact⟨λp hp=>by simp at hp,h _⟩
 |cons t ts ih=>
  rintro f s F ⟨t3,hx,st⟩;rw[show cX (t::ts)=EH t::cX ts from rfl,cO];refine⟨λp hp=>by simp at hp,?_⟩;obtain⟨x,y,z⟩:=t;have nx:=λs=>ih (iH f (x,y,z)) s (F.flip t3 hx).1 st;obtain⟨⟨u1,f1,e1,l1⟩,⟨u2,f2,e2,l2⟩,⟨u3,f3,e3,l3⟩⟩:=F.fl5.has _ t3;dsimp only at f1 f2 f3;generalize bM (gN 4) (i5 sL eI xW) [] (cX ts) E=G at nx ⊢;push_cast [i5];refine⟨[ee x,ee z],rfl,?_⟩;rw[A8 (jP f2)];push_cast [Z.nM];refine⟨[ee x,ee y],rfl,?_⟩;rw[A8 (jP f1)];push_cast [LH];refine⟨[ee y,ee z],rfl,?_⟩;rw[A8 (jP f3)];push_cast [Z.nM];exact⟨ks,f,(x,y,z),rfl,F,t3,hx,mZ (nx _)⟩
theorem Io(l:List Ti):IL (mX l) (mX l):=⟨rfl,λk d m=>by
 obtain⟨u,hu,e⟩:=fx.mp m;cases e;exact⟨_,m,jW _,jW _,Us _ (mG 8 _ (jW _)).1⟩⟩
theorem zK:∀ds Q,kF ds Q->lR sL eI xW ({ nx:=λ_=>Q (.v .non),rt:=Q }) (aN ["_law_one", "_law_other", "_law_flips", "_law_belows_here", "_law_three"] ds):=by
 rintro ds Q ⟨ks,fl,gl,ts,rfl,F,G,st,q⟩;have l1:=F.len;have l2:=G.len;push_cast [Z.nM];refine⟨ts,rfl,?_⟩;push_cast [Z.nM];refine⟨fl,rfl,(by ac_rfl),F.key,?_⟩;push_cast [Z.nM];intro a;refine Kx (g:=gl) (λs=>?_) ts fl _ F st;push_cast [Z.nM];refine⟨gl,rfl,(by ac_rfl),G.key,?_⟩;push_cast [Gh];exact⟨Io gl,q⟩
variable {f:List Ti}{ts:List Th}
theorem Falls.steps{fl:List Ti}(h:Falls ks fl ts f):∀{us:List Th} {g:List Ti},tT ks f us g->tT ks fl (ts++us) g:=by
 induction h with
 |nil=>exact λst=>st
 | @snoc ts f t h a ih=>
  intro us g st;rw[cm];exact ih ⟨a.1,a.2.1,st⟩
theorem Falls.back{ks:List Int}{fl f:List Ti}{ts:List Th}(F:IsF ks fl)(h:Falls ks fl ts f):tT ks f ts.reverse fl:=by
 suffices k:∀{us:List Th} {g:List Ti},tT ks fl us g->tT ks f (ts.reverse++us) g by
  have:=@k [] fl rfl;rwa[ii] at this
 induction h with
 |nil=>exact λst=>st
 | @snoc ts f t h a ih=>
  intro us g st;obtain⟨F1,_⟩:=h.isF F;obtain⟨x,y,z⟩:=t;obtain⟨hb,eb⟩:=F1.back a.1 a.2.1;rw[List.reverse_append,List.reverse_singleton];exact⟨a.1,hb,by rw[eb];exact ih st⟩
theorem Falls.ups{fl:List Ti}(F:IsF ks fl)(h:Falls ks fl ts f):(fX ks fl).Perm (ts++fX ks f):=by
 induction h with
 |nil=>exact .refl _
 | @snoc ts f t h a ih=>
  obtain⟨F1,_⟩:=h.isF F;obtain⟨x,y,z⟩:=t;refine ih.trans ?_;rw[cm];refine .append (.refl _) ?_;have nd:=z8 ks;refine(ir (nd.filter _) ?_).mpr λu=>?_
  ·refine sf.mpr ⟨λm=>?_,nd.filter _⟩;have:=(ji.mp m).2;rw[Ff F1 a.1 a.2.1,a.2.2] at this;cases this
  ·rw[zt,bq,ji,ji];constructor
   ·intro m;by_cases e:u=(x,y,z)
    ·exact .inl e
    ·exact .inr ⟨m.1,by rw[CF F1 a.1 a.2.1 m.1 e];exact m.2⟩
   ·rintro(rfl | m)
    ·exact⟨a.1,a.2.2⟩
    ·by_cases e:u=(x,y,z)
     ·subst e;exact⟨a.1,a.2.2⟩
     ·exact⟨m.1,by rw[<- CF F1 a.1 a.2.1 m.1 e];exact m.2⟩
end Lw
namespace Lw
open L2 Z
open Sf (Rw crs qT Pre Good aH aY place many)
open Fl (kd ids Walk cZ tls pc aK Pt Bf srt c8 yW tS fV tm eR)
noncomputable def Gd(ks:List Int)(t:Ti):Prop:=∀b∈t.2.2,t.1<b->kd ks t.2.1<=kd ks b
variable {e:List Int}
theorem L6{r:List Int}(w:Walk ks l r e)(p:Nat):tls l (r++[(p:Int)])=tls l r++[(e.getD p 0,e.getD (p+1) 0,e.take p)]:=by
 induction w with
 |nil l=>rfl
 | @cons l e r q _ _ _ ih=>
  show _::tls _ (r++[(p:Int)])=_::(tls _ r++_);rw[bw,ih]
theorem Jc{fl:List Ti}(w:Walk ks (ids ks.length) row e)(d:cZ ks e)(m:k8 ks)(FO:iZ ks row fl)(g:∀t∈tls (ids ks.length) row,Gd ks t):fX ks fl=[]:=by
 refine ki.mpr λt ht u=>?_;obtain⟨a,b,c⟩:=t;obtain⟨m1,m2,m3,m4,m5,m6⟩:=i9 ht;simp only at m1 m2 m3 m4 m5 m6;have k1:=m a b m1 (by ac_rfl) (by ac_rfl);have k2:=m b c (by ac_rfl) (by ac_rfl) (by ac_rfl);have lt:=w.tm_lt d m1 (show a<c by ac_rfl) m4 (by ac_rfl);obtain⟨pre,ep,em,_⟩:=uT w FO lt;have hb:b∈bT fl a c:=by simpa [upB] using u
 rw[em,g7] at hb;have:=g _ (cq ep) b hb m2;simp only at this;ac_rfl
structure LoP(ks:List Int)(k:Nat)(row path:List Int)(A B:List Int):Prop where
 pa:path=ids k++(A++(k:Int)::B)
 wk:Walk ks (ids ks.length) row path
 gd:∀t∈tls (ids ks.length) row,Gd ks t
 so:(A++B).Pairwise λx y=>kd ks y<=kd ks x
 hi:∀x∈A,kd ks k<kd ks x
 gt:∀x∈A++B,(k:Int)<x
 ln:k+1+(A++B).length=ks.length
variable {Y6 A B:List Int}
theorem LoP.step{k:Nat}{c:Int}(h:LoP ks k row Y6 A (c::B))(lt:kd ks k<kd ks c):LoP ks k (row++[((k+A.length:Nat):Int)]) (aK Y6 (k+A.length)) (A++[c]) B:=by
 have e:Y6=(ids k++A)++(k:Int)::c::B:=by rw[h.pa];simp
 have el:(ids k++A).length=k+A.length:=by simp
 have hl:=h.ln;rw[br,bp] at hl;have g1:Y6.getD (k+A.length) 0=k:=by rw[e,<- el];simp[dg]
 have g2:Y6.getD (k+A.length+1) 0=c:=by rw[e,<- el,dh,ay (by ac_rfl),bu];rfl
 have tk:Y6.take (k+A.length)=ids k++A:=by rw[e,<- el,List.take_left'];rfl
 refine⟨?_,h.wk.snoc (by ac_rfl) (by rw[g1,g2];exact lt),λt ht=>?_,?_,?_,?_,?_⟩
 ·rw[e,<- el,eR];simp
 ·rw[L6 h.wk,g1,g2,tk] at ht;rcases dv.mp ht with ht | ht
  ·exact h.gd t ht
  ·cases dq.mp ht;intro b hb hk;rcases dv.mp hb with hb | hb
   ·obtain⟨j,hj,rfl⟩:=fx.mp hb;have:=uw.mp hj;ac_rfl
   ·exact(fj.mp h.so).2.2 b hb c (ci ..)
 ·rw[cm];exact h.so
 ·intro x hx;rcases dv.mp hx with hx | hx
  ·exact h.hi x hx
  ·rw[dq.mp hx];exact lt
 ·rw[cm];exact h.gt
 ·rw[cm];exact h.ln
theorem LoP.done{k:Nat}(h:LoP ks k row Y6 A B)(n:∀c r,B=c::r -> ¬kd ks k<kd ks c):Y6=ids k++(A++(k:Int)::B)/\(A++(k:Int)::B).Pairwise (λx y=>kd ks y<=kd ks x)/\(∀x∈A++(k:Int)::B,(k:Int)<=x)/\k+(A++(k:Int)::B).length=ks.length:=by
 obtain⟨p1,p2,p3⟩:=fj.mp h.so;refine⟨h.pa,fj.mpr ⟨p1,eo.mpr ⟨λy hy=>?_,p2⟩,λx hx y hy=>?_⟩,λx hx=>?_,by have:=h.ln;simp at this ⊢;ac_rfl⟩
 ·cases B with
  |nil=>cases hy
  |cons c r=>
   have:=n c r rfl;rcases bq.mp hy with rfl | hy
   ·ac_rfl
   ·have:=(eo.mp p2).1 y hy;ac_rfl
 ·rcases bq.mp hy with rfl | hy
  ·have:=h.hi x hx;ac_rfl
  ·exact p3 x hx y hy
 ·rcases dv.mp hx with hx | hx
  ·have:=h.gt x (fh _ hx);ac_rfl
  ·rcases bq.mp hx with rfl | hx
   ·ac_rfl
   ·have:=h.gt x (dr _ hx);ac_rfl
end Lw
namespace Lw
open L2 Z
open Sf (Rw crs qT Pre Good aH aY place many)
open Fl (kd ids Walk cZ tls pc aK Pt Bf srt c8 yW tS fV tm eR)
noncomputable def lV:Fn:=λds Q=>∃ks:List Int,ds=[.lst (b8 ks)]/\2<=ks.length/\ks.length<=12/\pc ks<=60 /\ ∀row e,Walk ks (ids ks.length) row e->cZ ks e->row.length<=60->(∀t∈tls (ids ks.length) row,Gd ks t)->Q (.nw (.lst (b8 row)))
theorem HM:∀ds Q,lV ds Q->ds.length=1:=by rintro ds Q ⟨_,rfl,_⟩;rfl
theorem JU:MonoF lV:=⟨λds Q Q' w z=>by obtain⟨a,b,c,d,e,f⟩:=z;exact⟨a,b,c,d,e,λr x h1 h2 h3 h4=>w _ (f r x h1 h2 h3 h4)⟩⟩
variable {Y6 A B:List Int}{E:En}
theorem M5{k:Nat}(hn:ks.length<=12)(hr:row.length<=100){c:Int}(P:LoP ks k row Y6 A (c::B))(lt:kd ks k<kd ks c)
  (h:E.nx [.v (.lst (b8 ks)),.v (.lst (b8 (aK Y6 (k+A.length)))),.own a (.lst (b8 (row++[((k+A.length:Nat):Int)]))),.v (.int k),.v (.int ((k+(A++[c]).length:Nat):Int))]):
  gD cV E [.v (.lst (b8 ks)),.v (.lst (b8 Y6)),.own a (.lst (b8 row)),.v (.int k),.v (.int ((k+A.length:Nat):Int))]:=by
 have e1:Y6.length=ks.length:=by rw[P.pa];have:=P.ln;simp at this ⊢;ac_rfl
 have hl:=P.ln;rw[br,bp] at hl;push_cast [gD];refine⟨by simp;ac_rfl,Y6,k+A.length,rfl,(by ac_rfl),(by ac_rfl),?_⟩;push_cast [Z.nM];rw[show b8 row++[Dv.int ((k+A.length:Nat):Int)]=b8 (row++[((k+A.length:Nat):Int)]) by simp,show ((k+A.length:Nat):Int)+1=((k+(A++[c]).length:Nat):Int) by simp;ac_rfl];exact h
theorem LoP.get{k:Nat}{c:Int}(h:LoP ks k row Y6 A (c::B)):Y6.getD (k+A.length) 0=k/\Y6.getD (k+A.length+1) 0=c:=by
 have e:Y6=(ids k++A)++(k:Int)::c::B:=by rw[h.pa];simp
 have el:(ids k++A).length=k+A.length:=by simp
 exact⟨by rw[e,<- el];simp[dg],by rw[e,<- el,dh,ay (by ac_rfl),bu];rfl⟩
theorem LoP.rng{k:Nat}{c:Int}(h:LoP ks k row Y6 A (c::B)):0<=c/\c<ks.length:=by
 have P:=h.wk.pt (Pt.ids _);have ln:=h.ln;rw[br,bp] at ln;have:=P.bd (k+A.length+1) (by ac_rfl);rw[h.get.2] at this;exact this
theorem Walk.few{e:List Int}(w:Walk ks (ids ks.length) row e)(hp:pc ks<=60):row.length<=60:=by
 have:=w.count (by simp);rw[Fl.D0] at this;ac_rfl
theorem M4{k:Nat}{s4:Sl}(hn:ks.length<=12)(hp:pc ks<=60){L:List Int}(P:LoP ks k row Y6 [] L)
  (h:∀row Y6 A B s,LoP ks k row Y6 A B->(∀c r,B=c::r -> ¬kd ks k<kd ks c)->E.nx [.v (.lst (b8 ks)),.v (.lst (b8 Y6)),.own a (.lst (b8 row)),.v (.int k),s]):
  dP cV E [.v (.lst (b8 ks)),.v (.lst (b8 Y6)),.own a (.lst (b8 row)),.v (.int k),s4]:=by
 have W:=λ(row Y6 A B:List Int) (c:Int) (E:En) (hr:row.length<=100) (P:LoP ks k row Y6 A (c::B)) (lt:kd ks k<kd ks c)=>M5 (a:=a) (E:=E) hn hr P lt;unfold dP;generalize gD cV=B0 at W ⊢;push_cast [Z.nM];refine⟨λm ρ=>∃A B row Y6,LoP ks k row Y6 A B/\m=B.length/\ρ=[.v (.lst (b8 ks)),.v (.lst (b8 Y6)),.own a (.lst (b8 row)),.v (.int k),.v (.int ((k+A.length:Nat):Int))],⟨_,[],L,row,Y6,P,rfl,by simp⟩,?_⟩;rintro m ρ ⟨A,B,row,Y6,P,rfl,rfl⟩;have few:=Walk.few P.wk hp;have pl:Y6.length=k+A.length+1+B.length:=by rw[P.pa];simp;ac_rfl
 have ln:=P.ln;rw[br] at ln;push_cast [bi];cases B with
 |nil=>
  rw[XF (by simp at pl;ac_rfl)];exact h _ _ _ _ _ P (λc r z=>by cases z)
 |cons c B=>
  rw[bp] at pl ln;obtain⟨g1,g2⟩:=P.get;have b1:=P.rng;rw[Y4 (by ac_rfl),k7 (by ac_rfl) (by ac_rfl),k7 (by ac_rfl) (by ac_rfl),bw,show (((k+A.length:Nat):Int)+1).toNat=k+A.length+1 by ac_rfl,g1,g2];push_cast [Z.nM];rw[k7 (by ac_rfl) (by ac_rfl),k7 (by ac_rfl) (by ac_rfl)];push_cast [Z.nM];by_cases lt:kd ks k<kd ks c
  ·rw[Y4 lt];exact W _ _ _ _ _ _ (by ac_rfl) P lt ⟨B.length,by simp,_,_,_,_,P.step lt,rfl,rfl⟩
  ·rw[XF lt];exact h _ _ _ _ _ P (λx r z=>by cases z;exact lt)
theorem B5(lo c:Int)(n:Nat):iD lo c (n+1)=.int lo::iD (lo+c) c n:=by
 unfold iD;rw[yz,cp,lj];congr 1
 ·simp
 ·refine jx λx _=>?_;show Dv.int _=Dv.int _;rw[show lo+((x+1:Nat):Int)*c=lo+c+(x:Int)*c by rw[Int.natCast_add,Xw];ac_rfl]
theorem Hk(k:Nat):ids (k+1)=ids k++[(k:Int)]:=by show List.map _ _=_;rw[Wr,uz];rfl
structure LoS(ks:List Int)(k:Nat)(row path L:List Int):Prop where
 pa:path=ids k++L
 wk:Walk ks (ids ks.length) row path
 gd:∀t∈tls (ids ks.length) row,Gd ks t
 so:L.Pairwise λx y=>kd ks y<=kd ks x
 ge:∀x∈L,(k:Int)<=x
 ln:k+L.length=ks.length
theorem M3(hn:ks.length<=12)(hp:pc ks<=60)(h:∀row Y6 L s t,LoS ks 0 row Y6 L->E.nx [.v (.lst (b8 ks)),.v (.lst (b8 Y6)),.own a (.lst (b8 row)),s,t]):
  ∀(k:Nat) (row Y6 L:List Int) (s t:Sl),LoS ks k row Y6 L->bM (gN 3) (dP cV) [] (iD ((k:Int)-1) (-1) k) E [.v (.lst (b8 ks)),.v (.lst (b8 Y6)),.own a (.lst (b8 row)),s,t]:=by
 intro k;induction k with
 |zero=>
  intro row Y6 L s t S;rw[show iD (((0:Nat):Int)-1) (-1) 0=[] from rfl,cI];exact⟨λp hp=>by simp at hp,h _ _ _ _ _ S⟩
 |succ k ih=>
  intro row Y6 L s t S;rw[B5,cO,show ((k+1:Nat):Int)-1=(k:Int) by ac_rfl,show (k:Int) + -1=(k:Int)-1 by ac_rfl];refine⟨λp hp=>by simp at hp,?_⟩;have P:LoP ks k row Y6 [] L:=⟨by rw[S.pa,Hk];simp,S.wk,S.gd,by rw[oh];exact S.so,(λx hx=>by cases hx),λx hx=>by have:=S.ge x (by simpa using hx);ac_rfl,by have:=S.ln;simp;ac_rfl⟩;have nx:=λrow Y6 L s t=>ih row Y6 L s t;have W:=λ(s4:Sl) (E:En)=>M4 (a:=a) (s4:=s4) (E:=E) hn hp P;generalize bM (gN 3) (dP cV) [] (iD ((k:Int)-1) (-1) k) E=G at nx ⊢;generalize dP cV=B1 at W ⊢;push_cast [Z.nM];refine W _ _ λrow Y6 A B s P n=>nx row Y6 (A++(k:Int)::B) _ _ ?_;obtain⟨h1,h2,h3,h4⟩:=P.done n;exact⟨h1,P.wk,P.gd,h2,h3,h4⟩
theorem Ip:∀n:Fin 13,qp (((n.val:Nat):Int)-1) (-1) (-1)=ai/\df (((n.val:Nat):Int)-1) (-1) (-1)=(n.val:Int):=by decide
theorem wY:∀ds Q,lV ds Q->kR cV ({ nx:=λ_=>Q (.v .non),rt:=Q }) (aN ["_law_bands_here", "_law_path", "_law_row_here", "_law_k", "_law_p"] ds):=by
 rintro ds Q ⟨ks,rfl,h2,hn,hp,q⟩;obtain⟨r1,r2⟩:=Ip ⟨ks.length,(by ac_rfl)⟩;dsimp only at r1 r2;have W:=λ(a:af) (E:En)=>M3 (a:=a) (E:=E) hn hp;push_cast [bi,r1,r2];refine⟨(by ac_rfl),λa=>⟨⟨by decide,by decide,(by ac_rfl)⟩,?_⟩⟩;rw[bw,vE];have S0:LoS ks ks.length [] (ids ks.length) []:=⟨by simp,.nil _,(λt ht=>by cases ht),.nil,(λx hx=>by cases hx),by simp⟩;refine W a _ ?_ ks.length [] (ids ks.length) [] _ _ S0;intro row Y6 L s t S;push_cast [Z.nM];have e:Y6=L:=by rw[S.pa];simp
 have ln:=S.ln;refine q row Y6 S.wk (λp hp=>?_) (Walk.few S.wk hp) S.gd;have l1:p+1<L.length:=(by ac_rfl);rw[e,dh,dh,ar l1,ar (show p<L.length by ac_rfl)];exact cf.mp S.so p (p+1) (by ac_rfl) l1 (by ac_rfl)
end Lw
namespace Lw
open L2 Z
open Sf (Rw crs qT Pre Good aH aY place many)
open Fl (kd ids Walk cZ tls pc aK Pt Bf srt c8 yW tS fV tm eR)
theorem BR(ks:List Int):∀i a,a+i=ks.length->2*(mF ks i a).length<=i*i
 |0,_,_=>lc _
 |i+1,a,e=>by
  rw[mF,br,show (i+1)*(i+1)=i*i+2*i+1 by rw[xg,Wz];ac_rfl];have:=BR ks i (a+1) (by ac_rfl);have:=uN ks a (ks.length-(a+1)) (a+1);ac_rfl
theorem CI(hn:ks.length<=12):(aP ks).length<=1000:=by
 have h1:=BR ks ks.length 0 (by ac_rfl);have h2:=lP ks (hC ks);have sq:ks.length*ks.length<=12*12:=ml hn hn;have h3:(hC ks).length*ks.length<=72*12:=ml (by unfold hC;ac_rfl) hn;unfold aP;ac_rfl
theorem Ak:∀{l m:List Th},l.Perm m->l.Pairwise (λt u=>lexB (k3 t) (k3 u)=ai)->m.Pairwise (λt u=>lexB (k3 t) (k3 u)=ai)->l=m
 | [],m,p,_,_=>by rw[XQ.mp p]
 |a::l,[],p,_,_=>by cases List.perm_nil.mp p
 |a::l,b::m,p,h1,h2=>by
  have h1':=eo.mp h1;have h2':=eo.mp h2;have e:a=b:=by
   rcases bq.mp (p.mem_iff.mp (ci ..)) with e | ha
   ·exact e
   ·rcases bq.mp (p.symm.mem_iff.mp (ci ..)) with e | hb
    ·exact e.symm
    ·have:=mK _ _ _ (h1'.1 b hb) (h2'.1 a ha);rw[g8] at this;cases this
  subst e;rw[Ak (Xc a |>.mp p) h1'.2 h2'.2]
theorem uZ{fl:List Ti}{ts:List Th}(F:IsF ks fl)(p:ts.Perm (fX ks fl))(q:Q (.nw (.lst (cX (fX ks fl))))):hG [.lst (cX ts)] Q:=by
 have few:=CI F.n12;have l1:(fX ks fl).length<=(aP ks).length:=qk (upB fl) (aP ks);have l2:=p.length_eq;have up:(fX ks fl).Pairwise λt u=>lexB (k3 t) (k3 u)=ai:=(xR _).filter _;rw[L8];refine Ci (k:=2) (by simp;ac_rfl) (λt ht=>?_) ?_ λts' hp hs=>?_
 ·obtain⟨u,_,rfl⟩:=fx.mp ht;rfl
 ·rw[gm];have:(fX ks fl).Pairwise λt u=>k3 t≠k3 u:=up.imp λ{t u} h e=>by rw[e,g8] at h;cases h
  exact(p.pairwise_iff (λ{a b} h=>Ne.symm h)).mpr this
 ·obtain⟨gl,hf,rfl⟩:=lC hp rfl;rw[gm] at hs;rw[Ak (hf.trans p) hs up,lj];exact q
theorem NY(l:List Th):eqD (.lst (cX l)) (.lst (cX l))=ai:=Us _ (mG 8 _ (BU l)).1
theorem He{l:List Th}{A B:Prop}{i:Decidable ((!eqD (.lst (cX l)) (.lst (cX l)))=ai)}(h:B):@ite Prop ((!eqD (.lst (cX l)) (.lst (cX l)))=ai) i A B:=by
 rw[XF (by rw[NY];decide)];exact h
variable {E:En}{x2 x7 x8:Sl}
theorem S7{fl0 fl:List Ti}(F0:IsF (aH rows) fl0)(u0:fX (aH rows) fl0=[])(F:IsF (aH rows) fl){x0 x1:Sl}(h:∀s t,E.nx [x0,x1,x2,.v (.lst (b8 (aH rows))),.v (bH C rows),.v (.lst (fM fl)),.v (.lst (fM fl0)),s,t]):
  (aO (jE (aW (aQ wT (aR lU (a7 (a8 3) (a7 (a8 6) aF))) (i7 aF))) (c9 (eC (.bl ap))) bN)
 (aO (bD 7 (aR (nK C) (a7 (a8 4) (a7 (eY kI (a7 (a8 5) aF)) (a7 (eY kI (a7 (a8 6) aF)) aF)))))
 (aO (jE (FI (mP (mO (aR kF (a7 (a8 5) (a7 (a8 6) (a7 (a8 7) aF)))))) (aW (aQ wT (eY hG (a7 (a8 7) aF)) (aR lU (a7 (a8 3) (a7 (a8 5) aF)))))) (c9 (eC (.bl ap))) bN)
 (aO (bD 8 (aR (nK C) (a7 (a8 4) (a7 (eY kI (a7 (a8 6) aF)) (a7 (eY kI (a7 (a8 5) aF)) aF)))))
 (jE (FI (mP (mO (aR kF (a7 (a8 6) (a7 (a8 5) (a7 (a8 8) aF)))))) (aW (aQ wT (eY hG (a7 (a8 8) aF)) (aR lU (a7 (a8 3) (a7 (a8 5) aF)))))) (c9 (eC (.bl ap))) bN))))) E [x0,x1,x2,.v (.lst (b8 (aH rows))),.v (bH C rows),.v (.lst (fM fl)),.v (.lst (fM fl0)),x7,x8]:=by
 have nil:∀{ts f},Falls (aH rows) fl0 ts f->ts=[]/\f=fl0:=λ{ts f} h=>by
  have:=(h.isF F0).2;rw[u0] at this;cases h with
  |nil=>exact⟨rfl,rfl⟩
  |snoc _ _=>simp at this
 push_cast [Z.nM];refine⟨aH rows,fl0,rfl,F0,?_⟩;rw[u0];push_cast [Z.nM];refine⟨⟨rfl,rfl⟩,?_⟩;rw[show eqD (Dv.lst []) (Dv.lst [])=ai from rfl];push_cast [Z.nM];refine⟨rows,fl,fl0,rfl,F,F0,λts bs f hf hg=>?_⟩;obtain⟨rfl,rfl⟩:=nil hg;have pu:=hf.ups F;rw[u0,ii] at pu;rw[List.reverse_nil,ii];push_cast [Z.nM];refine⟨aH rows,fl,f,ts,rfl,F,F0,by have:=hf.steps (us:=[]) (g:=f) rfl;rwa[ii] at this,?_⟩;push_cast [Z.nM];refine uZ F pu.symm ?_;push_cast [Z.nM];refine⟨aH rows,fl,rfl,F,?_⟩;push_cast [Z.nM];refine⟨⟨BU _,BU _⟩,He ?_⟩;refine⟨rows,f,fl,rfl,F0,F,λts' bs' g hg hb=>?_⟩;obtain⟨rfl,rfl⟩:=nil hg;have pu:=hb.ups F;rw[u0,ii] at pu;rw[oh];push_cast [Z.nM];refine⟨aH rows,g,fl,bs'.reverse,rfl,F0,F,hb.back F,?_⟩;push_cast [Z.nM];refine uZ F ((jl _).trans pu.symm) ?_;push_cast [Z.nM];refine⟨aH rows,fl,rfl,F,?_⟩;push_cast [Z.nM];refine⟨⟨BU _,BU _⟩,He ?_⟩;exact h _ _
theorem S8{cs:List Nat}(hc:Cnt cs){k:Nat}{x4 x5 x6:Sl}
  (h:∀fl fl0,IsF (aH (cL 0 cs)) fl->IsF (aH (cL 0 cs)) fl0->fX (aH (cL 0 cs)) fl0=[]->tl E [.v (.scr ns),.v (.int k),x2,.v (.lst (b8 (aH (cL 0 cs)))),.v (bH C (cL 0 cs)),.v (.lst (fM fl)),.v (.lst (fM fl0)),x7,x8]):
  (aO (bD 4 (aR (gI C) (a7 (a8 3) aF)))
 (aO (bD 5 (aR iV (a7 (a8 3) (a7 (aR pT (a7 (a8 3) (a7 (aR lZ (a7 (a8 0) (a7 (aQ eJ (a8 1) (eC (.int 1))) aF))) aF))) aF))))
 (aO (bD 6 (aR iV (a7 (a8 3) (a7 (aR lV (a7 (a8 3) aF)) aF)))) tl))) E [.v (.scr ns),.v (.int k),x2,.v (.lst (b8 (aT 0 cs))),x4,x5,x6,x7,x8]:=by
 obtain⟨n2,n12⟩:=AR hc;have kr:=Cy cs;push_cast [Z.nM];refine⟨cs,rfl,hc,?_⟩;push_cast [Z.nM];refine⟨ns,(k:Int)+1,rfl,(by ac_rfl),λc=>?_⟩;push_cast [Z.nM];refine⟨aT 0 cs,c,rfl,n2,n12,DA hc,λrow e w d rl=>?_⟩;push_cast [Z.nM];refine⟨aT 0 cs,row,e,rfl,n12,w,rl,λfl FO u=>?_⟩;have I:IsF (aH (cL 0 cs)) fl:=by
  rw[kr];exact⟨n2,n12,mT cs,u,row,e,w,d,rl,Dg FO⟩
 push_cast [Z.nM];refine⟨aT 0 cs,rfl,n2,n12,DA hc,λrow e w d rl gd=>?_⟩;push_cast [Z.nM];refine⟨aT 0 cs,row,e,rfl,n12,w,rl,λfl0 FO0 u0=>?_⟩;have I0:IsF (aH (cL 0 cs)) fl0:=by
  rw[kr];exact⟨n2,n12,mT cs,u0,row,e,w,d,rl,Dg FO0⟩
 have U0:fX (aH (cL 0 cs)) fl0=[]:=by
  rw[kr];exact Jc w d (mT cs) FO0 gd
 push_cast [Z.nM];rw[<- kr];exact h fl fl0 I I0 U0
theorem OZ:∀(ks:List Nat) (x1 x2 x3 x4 x5 x6 x7 x8:Sl),(∀x1 x2 x3 x4 x5 x6 x7 x8,E.nx [.v (.scr ns),x1,x2,x3,x4,x5,x6,x7,x8]) ->
  bM (gN 1) (Aa lZ l9 (gI C) pT iV lV lU (nK C) kF) [] (ks.map λ(m:Nat)=>Dv.int (m:Int)) E [.v (.scr ns),x1,x2,x3,x4,x5,x6,x7,x8]:=by
 intro ks;induction ks with
 |nil=>
  intro x1 x2 x3 x4 x5 x6 x7 x8 h;rw[vx,cI];exact⟨λp hp=>by simp at hp,h _ _ _ _ _ _ _ _⟩
 |cons k ks ih=>
  intro x1 x2 x3 x4 x5 x6 x7 x8 h;rw[cp,cO];refine⟨λp hp=>by simp at hp,?_⟩;have nx:=λx1 x2 x3 x4 x5 x6 x7 x8=>ih x1 x2 x3 x4 x5 x6 x7 x8 h;generalize bM (gN 1) (Aa lZ l9 (gI C) pT iV lV lU (nK C) kF) [] (ks.map λ(m:Nat)=>Dv.int (m:Int)) E=G at nx ⊢;have fin:=λ(cs:List Nat) (hc:Cnt cs) (E:En) (h:∀x1 x2 x3 x4 x5 x6 x7 x8,E.nx [.v (.scr ns),x1,x2,x3,x4,x5,x6,x7,x8]) (x2:Sl)=>S8 (C:=C) (ns:=ns) (k:=k) (E:=E) (x2:=x2) (x4:=x4) (x5:=x5) (x6:=x6) (x7:=x7) (x8:=x8) hc λfl fl0 F F0 u0=>S7 F0 u0 F λs t=>h _ _ _ _ _ _ _ _;show aO _ (aO _ (aO _ _)) _ _;revert fin;generalize (aO (bD 4 (aR (gI C) (a7 (a8 3) aF))) _)=TL;intro fin;push_cast [Z.nM];refine⟨ns,k,rfl,(by ac_rfl),λc=>?_⟩;push_cast [Z.nM];refine⟨c,8,rfl,by decide,by decide,λcs hc=>?_⟩;push_cast [Z.nM];have f1:=λx2=>fin cs hc { E with nx:=G,ct:=G,bk:=E.nx } nx x2;refine MR (λ_=>?_) λ_=>f1 _;rw[wN hc];push_cast [Z.nM];refine MR (λ_=>⟨tV (by decide) (by decide),?_⟩) λ_=>f1 _;refine MR (λ_=>?_) λ_=>f1 _;refine⟨c,12,rfl,by decide,by decide,λcs hc=>?_⟩;push_cast [Z.nM];exact fin cs hc { E with nx:=G,ct:=G,bk:=E.nx } nx _
noncomputable def spLaw:Fn:=λds Q=>∃ns:List Int,ds=[.scr ns]/\ns.length<=63/\Q (.v (.bl ai))
theorem Jk:∀ds Q,spLaw ds Q->ds.length=1:=by rintro ds Q ⟨d,rfl,_⟩;rfl
theorem O2:∀ds Q,spLaw ds Q->Fv lZ l9 (gI C) pT iV lV lU (nK C) kF ({ nx:=λ_=>Q (.v .non),rt:=Q }) (aN ["_law_script", "_law_k", "_law_cell", "_law_bands_here", "_law_sides_here", "_law_tiles", "_law_lowest", "_law_there", "_law_back"] ds):=by
 rintro ds Q ⟨ns,rfl,hl,h⟩;push_cast [Z.nM];obtain⟨m,hm,m22⟩:∃m:Nat,(if (ns.length:Int)<10 then (ns.length:Int) else 10)+1=m/\m<22:=⟨((if (ns.length:Int)<10 then (ns.length:Int) else 10)+1).toNat,by split<;>ac_rfl,by split<;>ac_rfl⟩;rw[hm];have sm:∀m:Nat,m<22->qp 0 (m:Int) 2=ai/\0<=df 0 (m:Int) 2/\(df 0 (m:Int) 2).toNat<=22:=by decide +kernel
 obtain⟨q1,q2,q3⟩:=sm m m22;refine⟨⟨by decide,by decide,q1,q2⟩,?_⟩;have e:iD 0 2 (df 0 (m:Int) 2).toNat=((fw (df 0 (m:Int) 2).toNat).map λ(k:Nat)=>2*k).map λ(m:Nat)=>Dv.int (m:Int):=by
  unfold iD;rw[lj];apply jx;intro k _;show Dv.int (0+(k:Int)*2)=Dv.int ((2*k:Nat):Int);rw[show 0+(k:Int)*2=((2*k:Nat):Int) by ac_rfl]
 rw[e];refine OZ _ _ _ _ _ _ _ _ _ λx1 x2 x3 x4 x5 x6 x7 x8=>?_;push_cast [Z.nM];exact h
end Lw
namespace L2
variable {Y8:bt}{f:af}{cd:ae}{s0:aj}{H0:Hp}{E:XK}
section
variable {E':XK}
end
section
variable {s1 s2:aj}{e:ae}{D:Ends}
end
variable {fd:jw}{sp:Sp}{Yl:ma}
section
variable {k:Nat}{epos pos:ma}{t:TA}
end
section
variable {fa:af}{E0:XK}
variable {k:Nat}{pos:ma}{t:TA}
end
end L2
namespace Z
open L2
section
variable {Y8:bt}{f:af}{cd:ae}{s0:aj}{H0:Hp}{E:XK}{HZ:Hp}{Ψ:Exn->Prop}
end
variable {Yl:ma}{ts:n5}
section
variable {k:Nat}{sp:FnX}{epos pos:ma}
end
section
variable {M':af->Prop}
end
section
variable {k:Nat}{y f:bt}{e1 e2 z c:Expr}{tt:lN}{tb tr:c6}{te2:dZ}{Yj Y7:List kx}{Yt Yk ipos q1 q2 q3 q4 q5 r1 r3 r4 r5:ma}
end
end Z
namespace Hd
open PySem PySem.W
noncomputable def Mv:List lv->Nat->BT->Option (BT×Nat)
 | [],n,t=>aa (t,n)
 |o::r,n,t=>match ((t.ins n o).get n).isSome with
  |true=>Mv r (n+1) (t.ins n o)
  |false=>aq
theorem BV{life:Life}:∀(l:List lv) (n:Nat) (t:BT) {t':BT} {n':Nat},Mv l n t=aa (t',n')->absHeap t' n' life=⟨((absHeap t n life).objs.toList++l).toArray,life⟩
 | [],n,t,t',n',h=>by
  cases h;rw[ii];rfl
 |o::r,n,t,t',n',h=>by
  rw[Mv] at h;cases g:((t.ins n o).get n).isSome with
  |false=>rw[g] at h;cases h
  |true=>
   rw[g] at h;rw[BV r (n+1) (t.ins n o) h,absHeap_ins g];show Heap.mk _ _=Heap.mk _ _;congr 1;show (((absHeap t n life).objs.push o).toList++r).toArray=_;simp
theorem Gs{t:BT}(e:Mv h.objs.toList 0 .nil=aa (t,n)):absHeap t n h.life=h:=by
 rw[BV (life:=h.life) _ _ _ e];rfl
noncomputable def uA(st:SharedT->wr->Option (SharedT×wr))(th:wr->Bool)(ok:wr->Bool):Nat->SharedT->wr->Option SharedT
 |0,_,_=>aq
 |n+1,s,t=>match th t with
  |true=>aa s
  |false=>match ok t with
   |false=>aq
   |true=>match Y3 s.toks 1000000 with
    |false=>aq
    |true=>match st s t with
     |some (s',t')=>uA st th ok n s' t'
     |none=>aq
theorem r9{tb:String->Option ww}{p:aw}{w:bv}{n₀:Nat}{ann:Option ae}:∀(n:Nat) (s:SharedT) (t:wr) {s':SharedT},uA (stepT (XZ tb) p w) through (stepOk n₀ ann) n s t=aa s'->topRun tb p w n₀ ann n s.abs t=aa s'.abs
 |0,_,_,_,h=>by cases h
 |n+1,s,t,s',h=>by
  unfold uA at h;unfold topRun;cases ht:through t with
  |true=>rw[ht] at h;cases h;rfl
  |false=>
   rw[ht] at h;cases hk:stepOk n₀ ann t with
   |false=>rw[hk] at h;cases h
   |true=>
    rw[hk] at h;dsimp only at h ⊢;cases hb:Y3 s.toks 1000000 with
    |false=>rw[hb] at h;cases h
    |true=>
     rw[hb] at h;dsimp only at h;cases hs:stepT (XZ tb) p w s t with
     |none=>rw[hs] at h;cases h
     |some x=>
      obtain⟨s1,t1⟩:=x;rw[hs] at h;rw[stepT_spec hs];exact r9 n s1 t1 h
noncomputable def CV(st:SharedT->wr->Option (SharedT×wr))(th:wr->Bool)(ok:wr->Bool)(M:Nat)(h:dm)(gs:Array Vp)(d:Y1)(k:Nat)(os:OsState)(t:wr):Option SharedT:=
 match Mv h.objs.toList 0 .nil with
 |some (b,n)=>uA st th ok M ⟨b,n,h.life,gs,d,k,os⟩ t
 |none=>aq
variable {p:aw}{ann:Option ae}{M:Nat}
theorem B2{tb:String->Option ww}{n₀:Nat}{gs:Array Vp}{d:Y1}{k:Nat}{os:OsState}{t:wr}{s':SharedT}
  (e:CV (stepT (XZ tb) p w) through (stepOk n₀ ann) M h gs d k os t=aa s'):topRun tb p w n₀ ann M ⟨h,gs,d,k,os⟩ t=aa s'.abs:=by
 unfold CV at e;cases q:Mv h.objs.toList 0 .nil with
 |none=>rw[q] at e;cases e
 |some x=>
  obtain⟨b,n⟩:=x;rw[q] at e;have:=r9 M _ _ e;unfold SharedT.abs at this;dsimp only at this;rw[Gs q] at this;exact this
theorem Jo{q:aw}{loose:List bt}{Xt:aj->Bool}{Yf:aj->α}{Ya:bv->α}{N:Nat}{g0:Bool}{HZ:Xi->dm}{gs₀:Array Vp}{d₀:Y1}{k₀:Nat}{m₀:Nat}
  (open_:∀w:bv,(fencedOpening W6 p w N).map (λs=>(s.heap,s.gens,s.drawn,s.toks))=aa (HZ w.params,gs₀,d₀,k₀))
  (size:∀w:bv,((HZ w.params).isNs je&&gs₀.size==0,(HZ w.params).objs.size,(HZ w.params).nsMap je "__annotations__")=(ai,m₀,ann)) (le:Y3 M N=ai)
  (run:∀(w:bv) (os:OsState),(CV (stepT (XZ W6) p w) through (stepOk m₀ ann) M (HZ w.params) gs₀ d₀ k₀ os (topStub p)).map (λs=>
    ((staticsOk (zk p.main.body) (HZ w.params) s.abs.heap&&namesBound p s.abs.heap&&gensDone s.abs&&laidKept (HZ w.params) s.abs.heap),openSeen q loose (zk p.main.body) Xt g0 s.abs,Yf s.abs))=aa (ai,openGood q loose,Ya w)):
  LeftO p q loose Xt Yf Ya N g0:=λw=>by
 obtain⟨⟨h,gs,d,k,os⟩,e,e'⟩:=zh.mp (open_ w);obtain⟨rfl,rfl,rfl,rfl⟩:h=HZ w.params/\gs=gs₀/\d=d₀/\k=k₀:=by simpa using e'
 obtain⟨z1,z2,z3⟩:_/\_/\_:=by simpa only[ls] using size w
 obtain⟨s',r,l⟩:=zh.mp (run w os);obtain⟨l1,l2,l3⟩:_/\_/\_:=by simpa only[ls] using l
 have r:=topRun_mono (N-M) _ _ _ _ (B2 r);rw[show M+(N-M)=N by have:=zr le;ac_rfl] at r;have t:topFrom W6 p w N ⟨HZ w.params,gs,d,k,os⟩=aa s'.abs:=by
  unfold topFrom;dsimp only;rw[z1,z2,z3,r];show (match staticsOk (zk p.main.body) (HZ w.params) s'.abs.heap&&namesBound p s'.abs.heap&&gensDone s'.abs&&laidKept (HZ w.params) s'.abs.heap with | true=>_ | false=>_)=_;rw[l1]
 unfold openEnds;rw[e];show (topFrom W6 p w N _).map _=_;rw[t];exact congrArg aa (Prod.ext l2 l3)
end Hd
namespace Lw
open L2 Z
theorem law_start(hl:ns.length<=63)(hO:IQ H)(hS:fU K H a (ns.map V.int)):low K spLaw [.ref a] H (λv _=>v=.bl ai) (λ_ _ _=>False):=
 EJ (λQ q=>⟨ns,rfl,hl,q⟩) hO (λP q z=>nomatch z.1) hS
theorem Ua{us:List ae}(h:us.length=1):∃a0,us=[a0]:=by
 cases us with
 |nil=>cases h
 |cons a r=>obtain⟨rfl⟩:=xq.mp (Nat.succ.inj h);exact⟨a,rfl⟩
theorem Mn{fa:af}(X:K.In h)(G:h.Ns je mg)(hfa:mg "law" = aa (.ref fa))
  {od0 an0:Option af} {sl0:Array (Option ae)} {oc0 kV0 dc0 pm0 cd0 ct0:ae} {f0:af}
  (aC:mg "Sides" = aa (.ref C))
  (m1:MF K C "__init__" "Sides.__init__" (fR (top 33) 0))
  (m2:MF K C "many" "Sides.many" (fR (top 33) 1))
  (m3:MF K C "kind" "Sides.kind" (fR (top 33) 2))
  (m4:MF K C "pairs" "Sides.pairs" (fR (top 33) 4))
  (cl:Cls K C) (mk:VR K C=ai) (kc:rh K (.ref C)=ai)
  (jH:oo K (.ref C) "kinds" = aa aq)
  (sU:oo K (.ref C) "vectors" = aa aq)
  (m5:DF K mg "with_band" "with_band" (top 6))
  (m6:DF K mg "belows" "belows" (top 7))
  (m7:DF K mg "threes" "threes" (top 9))
  (m8:DF K mg "up" "up" (top 10))
  (m9:DF K mg "standing_up" "standing_up" (top 12))
  (m10:DF K mg "standing_down" "standing_down" (top 13))
  (m11:DF K mg "tiles_by_flip" "tiles_by_flip" (top 14))
  (m12:DF K mg "flippable" "flippable" (top 15))
  (m13:DF K mg "flipped" "flipped" (top 16))
  (m14:DF K mg "falling" "falling" (top 18))
  (m15:DF K mg "way" "way" (top 19))
  (m16:DF K mg "is_whole" "is_whole" (top 21))
  (m17:DF K mg "has_three_wholes" "has_three_wholes" (top 27))
  (m18:DF K mg "has_few_figures" "has_few_figures" (top 28))
  (m19:DF K mg "points_up" "points_up" (top 29))
  (m20:DF K mg "lies_left" "lies_left" (top 30))
  (m21:DF K mg "check_direction" "check_direction" (top 31))
  (m22:DF K mg "check_directions" "check_directions" (top 32))
  (m23:DF K mg "_law_cell_at" "_law_cell_at" (top 35))
  (m24:DF K mg "_law_whole" "_law_whole" (top 36))
  (m25:DF K mg "_law_wholes" "_law_wholes" (top 37))
  (m26:DF K mg "_law_bands" "_law_bands" (top 38))
  (m27:DF K mg "_law_pick" "_law_pick" (top 39))
  (m28:DF K mg "_law_exchanged" "_law_exchanged" (top 40))
  (m29:DF K mg "_law_row" "_law_row" (top 41))
  (m30:DF K mg "_law_floor" "_law_floor" (top 42))
  (m31:DF K mg "_law_many" "_law_many" (top 43))
  (m32:DF K mg "_law_sides" "_law_sides" (top 44))
  (m33:DF K mg "_law_threes" "_law_threes" (top 45))
  (m34:DF K mg "_law_belows" "_law_belows" (top 46))
  (m35:DF K mg "_law_up" "_law_up" (top 47))
  (m36:DF K mg "_law_is_threes" "_law_is_threes" (top 48))
  (m37:DF K mg "_law_with" "_law_with" (top 49))
  (m38:DF K mg "_law_flipped" "_law_flipped" (top 50))
  (m39:DF K mg "_law_low_row" "_law_low_row" (top 51))
  (m40:DF K mg "_law_walked" "_law_walked" (top 52))
  (a0:mg "law" = aa (.ref f0))
  (l0:K.lookup f0=aa ⟨oc0,od0,.func (xj "law" "law" (jK (top 53)) (eG (top 53)) (aI (top 53)) .none kV0 dc0 pm0 an0 cd0 ct0),sl0⟩) (c0:Ud K cd0 "law" = ai) (k0:rh K (.ref f0)=ai)
  (fW:∃t,mg "FEWEST_DIRECTIONS" = aa (.int 2 t))
  (gR:∃t,mg "MOST_DIRECTIONS" = aa (.int 6 t))
  (lO:∃t,mg "MOST_BANDS" = aa (.int 12 t))
  (gU:∃t,mg "LARGEST_PART" = aa (.int 999999999999 t))
  (Ia:mg "ValueError" = aq)
  (DJ:mg "abs" = aq)
  (Fc:mg "all" = aq)
  (sH:mg "bool" = aq)
  (n6:mg "enumerate" = aq)
  (xO:mg "int" = aq)
  (b6:mg "isinstance" = aq)
  (bK:mg "len" = aq)
  (d7:mg "list" = aq)
  (xN:mg "min" = aq)
  (bJ:mg "range" = aq)
  (cS:mg "sorted" = aq)
  (Fb:mg "sum" = aq)
  (d6:mg "tuple" = aq)
  (Fa:mg "zip" = aq):
  ∃fd:jw,(∀(s:aj) (v:ae),Vs s fd ⟨[v],[]⟩ [("_law_script",v)]) /\ ∀base:dm,K.In base->base.Ns je mg->FnOk P w K mg base CC 8 fa fd ["_law_script"] ((low K spLaw)):=by
 have e:=hfa.symm.trans a0;cases e;have F0:=AB (st:=(top 53)) l0 c0 k0;refine⟨xj "law" "law" (jK (top 53)) (eG (top 53)) (aI (top 53)) .none kV0 dc0 pm0 an0 cd0 ct0,λs v=>.of_eq rfl,λbase _ _=>?_⟩;have mI:IAt K mg "Sides" C "Sides.__init__" (fR (top 33) 0) ["self", "directions"]:=m1.ini aC mk kc;have fF:=AG P w mg base m5.at cS d6 HI BE;have hZ:=FM P w mg base m6.at  vX BM;have iP:=wG P w mg base m9.at fF Gw MA wX;have gC:=t5 P w mg base m10.at fF Gw MB tX;have dO:=t4 P w mg base m11.at iP ON gC OO M9 tW;have qM:=Bu P w mg base m16.at b6 xO sH Jl Cg;have gG:=pC P w mg base m17.at b6 d6 bK Fc qM M0 Ex pU;have hW:=qH P w mg base m18.at DJ gU Dl rO;have o6:=AH P w mg base m19.at  Dl BF;have o7:=AI P w mg base m20.at  HN BG;have hX:=qI P w mg base m21.at gG Gx hW HA o6 HA HU rP;have gH:=pD P w mg base m22.at b6 d7 bK Fb Fa fW gR lO hX JY o7 JV Jn pV;have AQ:=KD P w mg base mI n6 d6 cl jH sU gH M2 Ey Lh;have qJ:=KB P w mg base m2.at bK cl jH HL Lf;have oB:=KC P w mg base m3.at cl jH HP Lg;have AO:=I9 P w mg base m4.at bJ cl qJ mH oB kJ Ez JJ;have hV:=FK P w mg base m7.at bJ cl AO vR qJ mH oB kJ Cv Gc;have d_up:=Oz P w mg base m8.at hZ eL hV fQ M8 Ra;have oC:=AN P w mg base m12.at hZ eL hV fQ dO Kl ME BL;have oX:=D6 P w mg base m13.at cS hV fQ hZ eL dO Kl HQ Ed;have lH:=D7 P w mg base m14.at d_up vQ oC OR HR Ee;have E2:=Mc P w mg base m15.at d_up vQ lH JX oX JW Jf O1;have iQ:=wJ P w mg base m23.at bK HV x9;have o8:=AJ P w mg base m24.at b6 xO sH MC BH;have mQ:=xD P w mg base m25.at b6 d6 o8 OP Cu zJ;have kM:=AM P w mg base m26.at bJ bK xN F4 BK;have qK:=Bs P w mg base m27.at  HK Ce;have bZ:=t7 P w mg base m28.at  HS tZ;have t8:=D5 P w mg base m29.at bK d7 bJ qK JT bZ zW Jg Ec;have kL:=AL P w mg base m30.at bK d7 bJ cS d6 bZ zW F3 BJ;have qL:=Bt P w mg base m31.at bK F2 Cf;have oA:=AK P w mg base m32.at bJ qL Gz AQ Gy Cw BI;have mR:=xF P w mg base m33.at bK bJ Jj zM;have eP:=xG P w mg base m34.at  vX zN;have o9:=FL P w mg base m35.at eP eL mR Lz Ji Ge;have jB:=t6 P w mg base m36.at b6 d7 bK mQ Et Jm tY;have fG:=Br P w mg base m37.at d7 cS d6 HI Cd;have kY:=wI P w mg base m38.at fG Gw MD wZ;have kX:=wH P w mg base m39.at bK d7 bJ bZ zW HM wY;have jL:=xE P w mg base m40.at jB M1 eP eL kY OQ HJ zK;exact Md P w mg base F0 bK xN bJ d7 cS iQ JZ kM HB oA Eu t8 Lx kL H9 kX JU o9 Ly E2 zQ jL JS Jk O2
theorem walk{l:W.OpenLaw}{q:aw}{loose:List bt}{XP:(bt->Option ae)->dm->Prop}{YP:bv->dm->Prop}{d:DefRec}{K:Xi->ak}(hn:l.most=aa 63)(hdf:d.params.defaults=[])
  (hY:∀(w:bv) (h:dm),YP w h->(K w.params).In h)
  (F:∀(w:bv) (mg:bt->Option ae) (fa:af) (h:dm),(K w.params).In h->h.Ns je mg->mg d.name=aa (.ref fa) ->
   ∃fd:jw,(∀(s:aj) (u:ae),Vs s fd ⟨[u],[]⟩ [("_law_script",u)]) /\ ∀base:dm,(K w.params).In base->base.Ns je mg->FnOk l.prog w (K w.params) mg base CC 8 fa fd ["_law_script"] ((low (K w.params) spLaw))):
  W.WalkO q loose XP YP l.row.toRowW d [] (λf vs=>PySem.call f vs):=
 L2.IZ (n:=63) (k:=8) (x:="_law_script") (CX:=λ_=>CC) (sp:=λw=>(low (K w.params) spLaw)) hn (by decide) hdf ⟨rfl,by decide,by decide⟩ hY F (λ_ H a ns hl hO hS=>law_start hl hO hS) λ_ _ _ _ _ z=>z
end Lw
noncomputable def Hd.QV:PySem.Program:=PySem.W.view jy [0,2,3,4,6,7,9,10,12,13,14,15,16,18,19,21,23,24,25,26,27,28,29,30,31,32,33,35,36,37,38,39,40,41,42,43,44,45,46,47,48,49,50,51,52,53]
open PySem PySem.W PyProof.Rows
local macro_rules | `(tactic| o_head $H)=>`(tactic| refine holds_open (q:=Hd.QV) (loose:=[]) (Xt:=λs=>xlAt Hd.QV [] s&&recOk (RowW.records (OpenRow.toRowW (OpenLaw.row PySem.Challenge.rw_slantfloor_k53_ways_to_the_low_floor))) s) (XP:=XL Hd.QV []) (Yf:=Hook.obs $H) (Ya:=Hook.val $H) (YP:=Hook.says $H) (N:=4694) ?hl (Hook.of $H) (Hook.keeps $H) (λs e=>xl_of s (Bool.and_eq_true_iff.mp e).1) XL.keeps (by rfl) (by rfl) (by rfl) (λs e=>recFacts_of (Bool.and_eq_true_iff.mp e).2) (by rfl) (by first | assumption | decide +kernel) (by decide +kernel) ⟨rfl,rfl,rfl,rfl,rfl,by decide +kernel⟩ ?hw ?hc)
set_option maxRecDepth 100000 in
set_option maxHeartbeats 0 in
theorem PySem.Challenge.cw_slantfloor_k53_ways_to_the_low_floor_holds : PySem.Challenge.rw_slantfloor_k53_ways_to_the_low_floor.Holds := by
 w_on;o_law;k_head
 (case hl=>exact Hd.Jo (HZ:=boot_heap) (gs₀:=Array.mk []) (d₀:=boot_drawn) (k₀:=boot_toks) (m₀:=11) (ann:=aa (.ref 6)) (M:=4694) (boot_open (by kernel_rfl) rfl (λs=>by kernel_rfl)) (λw=>by kernel_rfl) rfl (λw os=>by rw[V7,V8,V9,Vl,Vm];kernel_rfl))
 (case hw=>w_witness2)
 k_fill
 refine Lw.walk (l:=ke) rfl rfl (λw h Y=>by first | exact PySem.W.kIn_of Y | exact PySem.W.km_in_of Y) ?F
 case F=>
  intro w mg fa h KX G hmg;apply Lw.Mn KX G hmg
  any_goals first | refine' Z.DF.mk (mg_of KX G ?_) ?_ ?_ ?_ | refine' Z.MF.mk ?_ ?_ ?_ ?_ ?_ | refine' mg_none_of KX G ?_ | refine' mg_of KX G ?_ | refine' Z.UJ (mg_of KX G ?_) | refine' Z.exS (mg_of KX G ?_) | refine' L2.Cls.mk ?_ ?_ ?_ ?_
  any_goals k_is

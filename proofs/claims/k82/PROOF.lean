import PyProof.Rows.All
import Lean
import Wide.FinOn
import OpenK.KOwn
import KE.KNest
import KE.RegKIsAll
import KE.RegKTryMore
import PyProof.EqAt
import PyProof.EqKinds
import PyProof.TupleCall
import PyProof.NeKinds
import PyProof.NeData
import PyProof.EqLayable
import PyProof.ZipIter
import PyProof.EnumMake
import KE.LcSums
import PyProof.CompFree
import PyProof.ListRange
import PyProof.Rows.Range3
import PyProof.TupleOfSeq
import KE.KSortTup
import PyProof.Rows.TupAdd
import PyProof.DictWalks
import PyProof.AutoListH
import PyProof.StrWalks
import PyProof.SliceStr2
import PyProof.StrBlock2
import PyProof.StrLaws
import PyProof.StrCalls
import PyProof.CallStr
import KE.KIntText
import KE.KDictSum
import PyProof.Rows.SetFrom
import PyProof.SetRoads
import PyProof.Rows.StrInSeq3
import PyProof.Rows.CountFlat
import PyProof.InstStoreFacts
import PyProof.ExcInit
import PyProof.ExcArgsOwn
import PyProof.Rows.FStr
import Open.Boot
import Open.Tree
import PySem.Challenge.RW_slantfloor_k82_whole_bent_floors
open Option renaming some->aa,none->aq,isSome_iff_exists->xh,map_eq_some_iff->yv
open PySem renaming wpAny_bind->ae,Value->af,Addr->ah,Shared->ai,wpAny_pure->ar,Program->au,starEach->ay,sizeLine->bh,wpAny->bi,Str->bn,World->bt,model->bu,Around->cf,Heap->cm,compareOp->ed,wpAny_field->fc,wpAny_call_entry->fh,wpAny_callSpecial?_slot->fm,wpAny_mono->fy,eval->fz,mem_of_lookup->gh,wpAny_newObj_type->gm,wpAny_truthy_bool->gp,relabel->gw,binaryOp->gz,foldedSetIterable->ic,sizeLine_eq->ie,mainGlobals->iw,backTo->jd,Obj->je,wpAny_holding->jf,FuncData->jh,swapsWith->ji,Stmt->jl,sysModules->jn,wpAny_attempt->jq,wpAny_typeNameOfWhole_keyiter->jt,boot_len->ju,Pos->jw,wpAny_isInstance->kj,wpAny_setField->ko,wpAny_rule->kr,cLine->lq,wpAny_passesOwn->lv,bootBuiltins->ly,attributeBase->mq,DictEntry->my,wpAny_Call_Name_kw->nq,rawInt->oo,pyNext->pf,isSubtype_stop->ph,assignEach->pi,Builtin->qa,codeAny_mono->qb,behindInMarks->qp,wpAny_newList->qw,wpAny_execs_nil->rd,codeAny_builtin->re,slot_listiter_next->rg,IsRangeIter->rn,sliceBounds->rq,wpAny_seqItems->sr,closureFor->uh,NameKind->ut,letOwnedTupleGo->vb,wpAny_setField_rec->wc,Thread->wu,Env->wz,Model->xc,codeAny->xf,keywordEach->xg,wpAny_dictEntries->xj,noteFrame->xo,wpAny_eqBool_int->xq,GenState->xr,wpAny_execs_cons->xu,noFill_tuple_add->xv,wpAny_pyNext_list_item->yb,wpAny_pyIter_rangeiter->yc,wpAny_call->yd,typeOf->yh,call_meets->yk,wpAny_dictEpoch->za,importedModules->zc,wpAny_pyIter_listiter->ze,wpAny_isOneOf_keyiter->zf,field->zi,codeAny_call_builtin->zv,tupleKind->Sd,Keyword->Si,callerA->Sj,valueAt->Sk,entry_listiter_next->Sn,seq_tuple_add->Ss,wpAny_load->SV,args_listiter_next->SW,isInstance->SX,assign->SZ,wpAny_pyIter_range->T0,IsPart->T3,tupleKind_room_in1->T5,wpAny_tupleItemsOf->T8,Within->Td,wpAny_assign_Name->Tf,BindsTo->To,backToKw->Tp,concat_meets->Ts,getItem->Tt,slot_list_getitem->Tv,wpAny_pyIter_enum->Tw,wpAny_pyIter_list->Tx,PassesOwn->TX,lastMarks->TY,getMethod->TZ,wpAny_pyIter_zip->U5,checkBuiltinCall->Ub,treeTable->Ue,Sem->Ui,CmpOp->Uj,subscripted->Ul,atKey->Um,OsState->UD,firstArgMember->UF,IsPair->UG,builtinsNs->UI,wpAny_Name->UJ,wpAny_Expr_any->UK,wpAny_loadPart->UN,recursionLimit->UO,bindL->UP,bindC->UQ,typeIs_int->UT,ReadsAll->UW,wpAny_newTuple->UZ,checkCount->V1,wpAny_runValue->V2,wpAny_fieldsOf->V3,rule->Vb,setFlight->Vg,seqItems?->Vh,Drawn->Vj,again->Vk,cellsFrom->Vm,Reads->Vn,hashInt->Vq,standAt->Vs,holding->Vt,Result->Vu,Params->Vv,newList->Vw,PyData->Vy,collect->VC,setField->VH,raiseNew->VI,ZipApart->VJ,intItems->VL,bindArgs->VR,compPost->VV,pyIter->W8,denote->We,IsZip->Wf,Tok->Wi
open Bool renaming true->aj,false->ap,and_eq_true->cg,false_eq_true->gg,false_ne_true->iq,false_and->pk,and_false->pr,true_and->Vd
open PySem.W renaming Frag->ak,findIn->ix,kia_one->lx,emptyDict->ni,keepIn->nz,kitOne->oa,instObj->uf,Looks->uo,looks_findIn->wf,fnOf->xm,callWith_K->ye,specialIn->zk,codeIn->zl,hideAll->Se,plainGet_of->Sr,looks_mroIn->Sx,plainGet->T1,of_hideAll->Te,mroIn->Th,exmOne->TL,makesIn->U0,takesIn->U2,cellsFrom_some->U3,isClsIn->Ua,methodObj->Uh,hasDictIn->Uk,lookIn->UM,hideAll_get->Va,takerIn->Vl,isFn->W9,excIn->Wg
open PySem.Heap renaming get?_push_of_some->ao,lt_size->az,get?_push_size->bw,get?_update_other->df,get?_update_self->oq,size_push->sk,SameBut->ss,size_update->uj,ExtBut->ur,get?_update_ne->vh,MadeExcOf->V4
open List renaming replicate->av,getElem?_eq_getElem->bf,getElem?_append_right->bg,getElem?_append_left->bo,length_map->bv,length_cons->cj,getElem?_map->cn,pairwise_iff_getElem->cq,getElem?_eq_some_iff->da,mem_cons_self->de,size_toArray->dg,map_cons->dh,mem_cons_of_mem->di,getElem_mem->dm,getD->dq,mem_cons->dt,getD_eq_getElem?_getD->ef,mem_of_getElem?->eg,eq_of_mem_replicate->eh,getElem?_set_ne->fe,length_append->fg,mem_append_right->fj,mem_singleton->fv,length_take->fw,append_assoc->fx,range->gc,mem_append->gf,drop_eq_getElem_cons->gr,getElem?_take_of_lt->ik,getElem?_replicate->iz,getElem?_set_self->jg,Nodup->jp,not_mem_nil->jr,mem_map->jx,mem_append_left->jy,append_nil->ka,mem_iff_getElem->kg,pairwise_map->ki,perm_append_comm->kl,replicate_succ->ku,map_append->kx,filter_cons_of_pos->lh,filter_cons_of_neg->li,take_of_length_le->ma,mem_or_eq_of_mem_set->mf,reverse_perm->mh,flatten_replicate_singleton->mj,cons_append->nk,map_map->ny,pairwise_append->oj,getElem?_eq_none->ou,find?_cons_of_pos->oy,find?_cons_of_neg->oz,nodup_iff_pairwise_ne->px,length_replicate->qc,ext_getElem?->qd,take_append_drop->qe,pairwise_cons->qy,sum_cons->qz,getElem?_drop->rm,getElem?_cons_zero->sd,flatten_cons->sv,map_congr_left->sy,filter_eq_nil_iff->tm,pairwise_reverse->tw,getElem?_toArray->tz,mem_iff_getElem?->ui,length_filter_le->ul,drop_length->uw,all_eq_true->ux,mem_of_mem_take->uz,dropLast_concat_getLast->vc,filterMap_cons->vf,drop_sublist->vq,mem_filterMap->we,nil_append->wj,find?_cons->wl,any_cons->wn,length_range->xi,filter_append->xn,length_eq_zero_iff->xw,nodup_cons->yf,foldl->yj,toArray->yp,drop_of_length_le->yq,length_drop->zn,mem_of_mem_drop->zx,mem_range->Sh,filter_eq_self->Sq,foldl_cons->T4,any_eq_false->Tg,take_sublist->Tq,map_nil->Tu,zipWith->TC,nodup_append->TM,mapM_toArray->TN,take_add_one->TR,filter_cons->Uc,zipIdx_cons->Uf,lookup_cons->Uo,nodup_range->Uq,any_eq_true->Us,zipIdx_nil->Uu,forIn_cons->Uv,range_succ->Uy,mem_filter->UH,of_mem_zip->UR,length_nil->UU,nodup_nil->UV,map_take->UX,foldl_nil->V7,drop_drop->Vp,all_cons->VW,map_drop->VX,map->W2
open PyProof.Rows renaming wpS_bind->aw,wpS_pure->bb,pendingOf->bz,wpS_forRange->fk,SortSt->gq,callWith_type1->jb,IntsAre->jc,seqObj->jj,wpS_mono->jm,wpS_modify->jo,kindOf->ke,SortKind->lc,slot_tuple_getitem->mx,Keyed->ng,boot_tuple->pz,envOfC->qj,getElem?_mirror_all->qk,arrOf->sh,failedOf->sx,wpS_get->tf,listUpdate_at->uq,boot_sorted->va,getElem?_bubble->vd,AllBare->vk,listItems_at->vn,boot_list->vt,wpS_lift->ya,subscriptTail_builtinR->yg,boot_isinstance->yw,get?_update_seq->yx,entry_list_sort->yy,seqEpoch_at->zp,general'->zq,slot_list_sort->zr,args_list_sort->zt,boot_abs->zy,subscriptTail->Su,sortedAll_old->Sv,plain_sorted->TD,entry_sorted->TF,args_sorted1->TH,sortedAll_at->TJ,cnt->TW,callWith_builtin1->U4,bubble->U6,kind_sorted->Ur,list_sort_plain->Uz,wpS->UE,boot_range->UL,slicePart_none->US,sortedHeap->UY,size_push'->V0,mirror->V5,oneType'->V6,IsTup->Vi,keyKind'->VY,mergeAt'->W0,gallopOf->W1,boot_sum->W3,keyLt'->Wb,setArr->Wd
open Nat renaming le_refl->bj,add_sub_cancel_left->cb,lt_of_lt_of_le->dk,ne_of_lt->fu,le_trans->kh,zero_le->lj,min_eq_left->nj,le_of_not_lt->nr,lt_irrefl->om,lt_of_le_of_lt->rh,lt_or_gt_of_ne->sw,mul_le_mul->um,le_succ->vi,zero_add->wr,le_add_right->yo,ne_of_gt->zh,le_of_lt->zj,not_succ_lt_self->zu,mul_le_mul_right->Sb,lt_succ_of_lt->Tz,lt_trichotomy->TB,add_mul->TQ,lt_succ_self->U1,min_eq_right->U8,lt_trans->Vx,le_total->VB,mul_add->VE,lt_or_ge->VF,gcd_comm->VG,le_of_eq->VQ,mul_comm->VS,log2_lt->VU,add_zero->VZ,ble->Wh
open PySem.Builtin.Range renaming rangeSize->dj,small->vg
open PySem.PassesOwn renaming never->dw
open Int renaming toNat_natCast->ee,emod_lt_of_pos->gv,mul_ediv_cancel'->ja,natAbs_ediv_le_natAbs->jk,emod_nonneg->jv,mul_le_mul->nh,mul_left_comm->qx,mul_nonneg->ri,le_of_lt->vo,ediv_pos_of_pos_of_dvd->wt,gcd->xk,mul_comm->yr,fmod_nonneg_of_pos->yu,mul_dvd_mul->zb,le_refl->Sa,natAbs_mul->Sc,lt_or_gt_of_ne->T6,fmod_lt_of_pos->T9,lt_of_le_of_lt->Ta,mul_pos->TK,gcd_dvd_right->TU,gcd_dvd_left->Ud,mul_eq_zero->UB,dvd_coe_gcd->UC,dvd_trans->Vc,mul_assoc->Ve,le_of_dvd->Vf,sub_zero->VA,mul_one->VP,neg_neg->W4,dvd_refl->W5,sub_mul->W6
open PySem.Value renaming none->eo,type->ue,builtin->Sw,bool->SY,float->Ug,isStrOf->V9,isInt->VM,bytes->VN
open PySem.PyData renaming eqvAll->fq,eqv->ir,depthAll->kf,canLayAll0->md,canLay0->nc
open Sum renaming inl->ft,inr->vj
open PySem.Str renaming ofString->gn
open Option.some renaming injEq->ig
open Array renaming getElem?_toList->ii,getElem?_eq_some_iff->kq,getElem?_eq_getElem->qi,length_toList->qo,ext_getElem?->rj,getElem?_setIfInBounds_ne->tu,getD_eq_getD_getElem?->vm,perm_iff_toList_perm->wo,getD->wp,toList_inj->U7,toList->Vr
open PySem.F renaming slot_dict_keyiterator_next->im,args_tuple_add_2->qv,entry_tuple_add->rp,plainAttrs_list->sf,slot_tuple_add->su,slot_tuple_lt->uc,args_dict_keyiterator_next_1->uk,entry_dict_keyiterator_next->uy,slot_tuple_iterator_next->vz,slot_range_iterator_next->wa,attr_ValueError->xy,plain_list_iadd->xz,slot_enumerate_next->zd,slot_dict_iter->U9,slot_zip_next->Ut,slot_int_rmul->Ux
open Pure renaming pure->io
open False renaming elim->ip
open PySem.Challenge renaming pw_slantfloor_k82_whole_bent_floors->km,rw_slantfloor_k82_whole_bent_floors->kn
open PySem.Builtin.SmallTypes renaming nextOf->lr,ownedTupleIsFree->qm
open PySem.Builtin.Slice renaming slicePlaces->lu,sliceAdjust->qg,sliceApplied->wg,slicePartIndex->Uw,sliceFields->V8
open PySem.Obj renaming mapFields->ml,isFreed_of_fields->ot,mapSeq->ug,data_mapFields->vw,cls_mapFields->xa
open True renaming intro->mm
open PySem.Builtin.Tuple renaming tupleExact->mv,tupleItemsOf->pq,tupleHashOf->wv,tupleCompareSizes->TV
open PySem.Builtin.List renaming listTooLong->mw,listExtendWith->vp,listUpdate->xx
open ForInStep renaming yield->og
open PySem.Calls renaming call_function_entry->qh,Name_function_global->wd,callWith_builtin->yi,evalArgs_plain->zo
open PySem.Builtin.Dict_items renaming ownsTuple->ve
open PyProof.Rows.SortSt renaming mk'->wq
open PySem.Builtin.Dict renaming dictSlotNone->ww,showsAll->zg
open List.cons renaming injEq->yz
open PySem.Around renaming under_plainId->zw,under->Tj
open PySem.EntryCells renaming newEntry->Sm
open PySem.Builtin.Int renaming intBits->So
open Prod.mk renaming injEq->Sy
open PySem.W.Fast renaming te10156331382660048174->Sz,te11892475500146522536->SS,te14364793385576792824->SU,te6613529449190102663->Tb,te4187177175401517315->Tc
open PySem.Code renaming quiet_builtin->T7,isFrame->Tn
open StateT renaming run_pure->UA
open PySem.Expr renaming Name->Vo
open PySem.SeqAt renaming shaped->Vz
open PySem.W.KF renaming slot_gs->VD
open PySem.Data renaming fields->VO
open PySem.Heap.SameBut renaming update->W7
open PySem.SeqAt.Reads renaming unique->Wa
open PySem.W.Looks renaming ld->Wc
noncomputable abbrev VT:=@if_neg
noncomputable abbrev Wj:=@if_pos
local macro_rules | `(tactic| right)=>`(tactic| first | lia | omega)
local macro_rules | `(term| ⋯)=>`(by  right)
local macro_rules | `(term| ∅)=>`(by  decide)
local macro_rules | `(term| ↥$q)=>`({ nx:=λ_=>$q (.v .non),rt:=$q })
open Option (getD_none map_some bind_some)
open PySem PySem.Spec PyProof.Rows
noncomputable section
set_option Elab.async false
set_option linter.all false
set_option bootstrap.genMatcherCode false
set_option compiler.extract_closed false
set_option genSizeOf false
set_option genSizeOfSpec false
set_option maxRecDepth 100000
set_option maxHeartbeats 1000000
theorem Gq(_:True:=by first | exact .inl rfl | exact .inr rfl | assumption):True:=trivial
theorem kX(_:True:=by decide):True:=trivial
theorem bV(_:True:=by rfl):True:=trivial
theorem Gp(_:True:=by intro _;rfl):True:=trivial
theorem Nt(_:True:=by with_unfolding_all rfl):True:=trivial
theorem C8(_:True:=by decide +kernel):True:=trivial
theorem RC(_:True:=by first | exact nomark _ | rfl):True:=trivial
theorem Rl(_:True:=by intro _ _;rfl):True:=trivial
variable {us:List af}{base h:cm}{e tg:Expr}{i n:Nat}{A:cf}{a b f C:ah}{α:Type}{u:af}{P prog:au}{w:bt}{N ps:List bn}{E:af->ai->Prop}{s:ai}{pj:List (ah×je)}{K:ak}{es:List Expr}{p:jw}{mg:bn->Option af}{outer:List wz}{Wm:bn}{Wk:Scope}
namespace L2
structure Like(o oe:je):Prop where
  cls:oe.cls=o.cls
  dict:oe.dict=o.dict
  fl:∃us vs,o.data=.fields us/\oe.data=.fields vs /\ ∀i,i≠1->vs[i]?=us[i]?
noncomputable def kU(o:je):Prop:=∃us:Array af,o.data=.fields us/\us[2]?=aa .none
variable {o oe:je}
theorem Like.mild(k:Like o oe)(m:kU o):kU oe:=by
  obtain⟨us,d,q⟩:=m;obtain⟨us',vs,d',dv,i⟩:=k.fl;rw[d] at d';cases d';exact⟨vs,dv,(i 2 ∅).trans q⟩
theorem Like.rfl'{us:Array af}(d:o.data=.fields us):Like o o:=⟨rfl,rfl,us,us,d,d,λ_ _=>rfl⟩
noncomputable def Tr(h base:cm)(e:ah)(o:je)(fl:af):Prop:=
  ∃(oe:je) (vs:Array af) (T:ah) (oT:je) (ts:Array af),h.get? e=aa oe/\Like o oe/\oe.data=.fields vs/\vs[1]?=aa (.ref T)/\base.get? T=aq/\T≠e/\h.get? T=aa oT/\oT.data=.fields ts/\ts[3]?=aa fl
structure Fly(base:cm)(l:List wz)(e:ah)(o:je)(fl:af)(h:cm):Prop where
  st:base.StaysIn h
  no:base.get? e=aq
  fr:h.FunFrames base l
  tr:Tr h base e o fl
theorem Fly.there{l:List wz}{e:ah}{fl:af}(x:Fly base l e o fl h):∃oe,h.get? e=aa oe/\Like o oe:=by
  obtain⟨oe,_,_,_,_,g,k,_⟩:=x.tr;exact⟨oe,g,k⟩
theorem E3{vs:Array af}{v:af}(d:o.data=.fields vs):(ml (·.setIfInBounds i v) o).data=.fields (vs.setIfInBounds i v):=vw d _
theorem Like.set{v:af}(k:Like o oe):Like o (ml (·.setIfInBounds 1 v) oe):=by
  obtain⟨us,vs,d,dv,i⟩:=k.fl;refine⟨(xa ..).trans k.cls,?_,us,_,d,E3 dv,λj hj=>?_⟩
  . rw[<- k.dict];obtain⟨c0,d0,a0,s0⟩:=oe;cases dv;rfl
  . rw[tu (λz=>hj z.symm)];exact i j hj
variable {M:xc}{env:wz}
section
variable {L e:ah}
theorem wV{vs:Array af}{head:af}{had:Bool}{Q:Unit->ai->Prop}(hfr:A.frames=aa (env::outer))(fr:s.heap.FunFrames base (env::outer))(hf:env.frame=aa L)(st:base.StaysIn s.heap)(no:base.get? e=aq)
    (g:s.heap.get? e=aa oe) (k:Like o oe) (d:oe.data=.fields vs) (hsz:1<vs.size) (q:∀h',Fly base (env::outer) e o (oo L) h'->s.heap.UpToSlots h'->Q () { s with heap:=h' }):
    bi M A (do let a <- frameOf env;let pl <- entryPlaceOf L had;let b <- Sm head a .none (oo L) .none pl;VH (.ref e) 1 b) Q E s:=by
  have nfr:e ∉ (env::outer).filterMap (·.frame):=λhm=>by
    obtain⟨_,o',g',nf⟩:=fr.mem hm;rw[g] at g';cases g';exact nf vs d
  refine ae (wpAny_frameOf_fun hfr fr hf λh1 ⟨_,same,slot⟩=>ae (wpAny_entryPlaceOf λpl hpl=>?_));unfold Sm newFields;refine ae (gm ?_ (hpl.sizeOk5 _ _ _ _ _));have h3:(([head,.ref L,.none,oo L,.none]++(if pl.isEmpty then av 6 eo else pl)).toArray:Array af)[3]?=aa (oo L):=by
    first | (simp;done) | (rcases hpl with rfl | ⟨_,_,_,_,_,_,_,rfl⟩<;>simp)
  generalize (([head,.ref L,.none,oo L,.none]++(if pl.isEmpty then av 6 eo else pl)).toArray:Array af)=ts at h3;generalize hob:({ cls:=.type "traceback",dict:=aq,data:=.fields ts }:je)=ob;have g1:h1.get? e=aa oe:=(same e nfr).trans g;have gT:(h1.push ob).get? h1.objs.size=aa ob:=by
    subst hob;exact bw h1 rfl
  have ne:h1.objs.size≠e:=zh (az g1);have st1:base.StaysIn h1:=λb u z=>(same b λhm=>by rw[(fr.mem hm).1] at z;cases z).trans (st b u z);have keep:∀b u,b≠e->h1.get? b=aa u->((h1.push ob).update e (ml (·.setIfInBounds 1 (.ref h1.objs.size)))).get? b=aa u:=λb u hb z=>
    (df _ _ (Ne.symm hb)).trans (ao _ z)
  have rec':∀b u,s.heap.get? b=aa u->(∀us,u.data ≠ .fields us)->b≠e:=λb u z nf q=>by
    rw[q,g] at z;cases z;exact nf vs d
  refine ko (ao _ g1) d hsz (q _ ⟨λb u z=>keep b u (λq=>by rw[q,no] at z;cases z) (st1 b u z),no,fr.of_keeps λb u z nf=>?_,?_⟩ λb u z nf=>?_)
  . obtain⟨sl,z'⟩:=slot b u z;exact⟨_,keep b _ (rec' b u z nf) z',rfl⟩
  . refine⟨_,_,h1.objs.size,ob,ts,oq _ (ao _ g1) (ot (E3 d)),k.set,E3 d,by simp[hsz],st1.fresh,ne,?_,by rw[<- hob],h3⟩;exact(df _ _ (Ne.symm ne)).trans gT
  . obtain⟨sl,z'⟩:=slot b u z;exact⟨sl,keep b _ (rec' b u z nf) z'⟩
theorem Ds{us:Array af}{Q:Unit->ai->Prop}(hfr:A.frames=aa (env::outer))(fr:s.heap.FunFrames base (env::outer))(hf:env.frame=aa L)(st:base.StaysIn s.heap)(no:base.get? e=aq)
    (g:s.heap.get? e=aa o) (d:o.data=.fields us) (n1:us[1]?=aa .none) (q:∀h',Fly base (env::outer) e o (oo L) h'->s.heap.UpToSlots h'->Q () { s with heap:=h' }):bi M A (xo (.ref e) env) Q E s:=by
  unfold xo;simp only[hf];refine ae (fc g d n1 ?_);rw[VT ∅];exact wV hfr fr hf st no g (Like.rfl' d) d (kq.mp n1).1 q
theorem GJ{Q:Unit->ai->Prop}(hfr:A.frames=aa (env::outer))(hf:env.frame=aa L)(x:Fly base (env::outer) e o .none s.heap)
    (q:∀h',Fly base (env::outer) e o (oo L) h'->s.heap.UpToSlots h'->Q () { s with heap:=h' }):bi M A (xo (.ref e) env) Q E s:=by
  obtain⟨st,no,fr,oe,vs,T,oT,ts,g,k,d,n1,nT,ne,gT,dT,n3⟩:=x;unfold xo;simp only[hf];refine ae (fc g d n1 ?_);rw[Wj (show (Value.ref T != eo)=aj by simp)];refine ae (fc gT dT n3 ?_);rw[VT (show ¬((eo==oo L)=aj) by simp[oo])];have oth:∀b,b≠T->(s.heap.update T (ml (·.setIfInBounds 3 eo))).get? b=s.heap.get? b:=λb hb=>df _ _ (Ne.symm hb);have rec':∀b u,s.heap.get? b=aa u->(∀us,u.data ≠ .fields us)->b≠T:=λb u z nf q=>by
    rw[q,gT] at z;cases z;exact nf ts dT
  refine ae (ko gT dT (kq.mp n3).1 (wV hfr (fr.of_keeps λb u z nf=>⟨u,(oth b (rec' b u z nf)).trans z,rfl⟩) hf (λb u z=>(oth b λq=>by rw[q,nT] at z;cases z).trans (st b u z)) no ((oth e (Ne.symm ne)).trans g) k d (kq.mp n1).1 λh' x' u'=>q h' x' λb u z nf=>u' b u ((oth b (rec' b u z nf)).trans z) nf))
theorem rO{l:List wz}{fl:af}{Q:Unit->ai->Prop}(x:Fly base l e o fl s.heap)(q:∀h',Fly base l e o .none h'->s.heap.UpToSlots h'->Q () { s with heap:=h' }):bi M A (Vg (.ref e) aq) Q E s:=by
  obtain⟨st,no,fr,oe,vs,T,oT,ts,g,k,d,n1,nT,ne,gT,dT,n3⟩:=x;have z3:=(kq.mp n3).1;have oth:∀b,b≠T->(s.heap.update T (ml (·.setIfInBounds 3 ((aq:Option ah).elim eo λf=>oo f)))).get? b=s.heap.get? b:=λb hb=>df _ _ (Ne.symm hb);have rec':∀b u,s.heap.get? b=aa u->(∀us,u.data ≠ .fields us)->b≠T:=λb u z nf q=>by
    rw[q,gT] at z;cases z;exact nf ts dT
  unfold Vg;refine ae (fc g d n1 ?_);rw[Wj (show (Value.ref T != eo)=aj by simp)];refine ko gT dT z3 (q _ ⟨λb u z=>(oth b λq=>by rw[q,nT] at z;cases z).trans (st b u z),no,fr.of_keeps λb u z nf=>⟨u,(oth b (rec' b u z nf)).trans z,rfl⟩,?_⟩ λb u z nf=>⟨u.slots,(oth b (rec' b u z nf)).trans z⟩);exact⟨oe,vs,T,_,_,(oth e (Ne.symm ne)).trans g,k,d,n1,nT,ne,oq _ gT (ot (E3 dT)),E3 dT,by simp[z3]⟩
theorem GK{us:Array af}{Q:Unit->ai->Prop}(hfr:A.frames=aa (env::outer))(fr:s.heap.FunFrames base (env::outer))(hf:env.frame=aa L)(st:base.StaysIn s.heap)(no:base.get? e=aq)
    (g:s.heap.get? e=aa o) (d:o.data=.fields us) (n1:us[1]?=aa .none) (q:∀h',Fly base outer e o .none h'->s.heap.UpToSlots h'->Q () { s with heap:=h' }):bi M A (leaving env (.ref e)) Q E s:=by
  unfold leaving;refine ae (Ds hfr fr hf st no g d n1 λh1 x1 u1=>rO x1 λh2 x2 u2=>q h2 ⟨x2.st,x2.no,?_,x2.tr⟩ (u1.trans u2));obtain⟨_,_,z⟩:=x2.fr;exact z
end
noncomputable def Qu(A:cf)(h:cm):Prop:=A.handled=aq \/ ∃(a:ah) (o:je),A.handled=aa (.ref a)/\h.get? a=aa o/\kU o
variable {h':cm}
theorem Qu.keeps(q:Qu A h)(k:∀b o,kU o->h.get? b=aa o->h'.get? b=aa o):Qu A h':=by
  rcases q with q | ⟨a,o,e,g,m⟩
  . exact .inl q
  . exact .inr ⟨a,o,e,k a o m g,m⟩
theorem vI:entryFor table "proto.unchain" = aa qa.«proto.unchain» := entryFor_of_fast (by kernel_rfl)
variable {l it:ah}{Q:af->ai->Prop}{xs:Array af}{lo:Int}
theorem xJ{e:af}(g:s.heap.get? a=aa o)(m:kU o)(q:Q .none s):bi (bu prog w) A (runValue (.builtin "proto.unchain" ⟨[e,.ref a,.ref a,.bool ap],[]⟩)) Q E s:=by
  obtain⟨us,d,n2⟩:=m;refine runValue_entry vI ?_;unfold qa.«proto.unchain»;dsimp only;refine ae (fc g d n2 ?_);rw[Wj ∅];exact ar ⟨_,rfl,q⟩
theorem DA{us:Array af}{Q:α->ai->Prop}(q:Qu A s.heap)(g:s.heap.get? a=aa o)(d:o.data=.fields us)(hz:2<us.size)(hm:∀v,A.handled=aa v->v ≠ .ref a)
    (h:∀h' o',(∀b u,b≠a->s.heap.get? b=aa u->h'.get? b=aa u)->h'.get? a=aa o'->o'.cls=o.cls->E (.ref a) { s with heap:=h' }):bi (bu prog w) A (VI (α:=α) (.ref a)) Q E s:=by
  simp only[VI];refine ae (wpAny_handled ?_);rcases q with q | ⟨b,ob,q,gb,mb⟩
  . rw[q];exact ae (ar (wpAny_throw (h s.heap o (λ_ _ _ z=>z) g rfl)))
  . rw[q];have ne:b≠a:=λz=>hm _ q (by rw[z]);dsimp only;rw[Wj (show (Value.ref b != Value.ref a)=aj by simpa using ne)];refine ae (jf (xJ gb mb (ae ?_)));unfold updateField;refine ae (SV g ?_);rw[d];dsimp only;rw[Wj hz];refine wpAny_update g (wpAny_throw (h _ (ml (·.setIfInBounds 2 (.ref b)) o) (λc u hc z=>(df _ _ (Ne.symm hc)).trans z) (oq _ g (ot (E3 d))) (xa ..)))
theorem iT{Q:α->ai->Prop}(q:Qu A s.heap)(h:∀h' e,(∀b u,s.heap.get? b=aa u->h'.get? b=aa u)->(∃o,h'.get? e=aa o/\o.cls=.type "StopIteration")->E (.ref e) { s with heap:=h' }):
    bi (bu prog w) A (newExc (.type "StopIteration") [] >>= λe=>VI (α:=α) e) Q E s:=by
  refine ae ?_;simp only[newExc,newTuple];refine ae (gm (ae (m:=UF _ _) (wpAny_of_eq (a:=eo) (by first | rfl | (simp only[UF];rfl)) (gm ?_ (by size_fits)))) (by size_fits));refine DA (q.keeps λb u _ z=>ao _ (ao _ z)) (bw _ rfl) rfl (by simp;right) (λv e z=>?_) λh' o' k g c=>h h' _ (λb u z=>k b u ?_ (ao _ (ao _ z))) ⟨o',g,c⟩
  . subst z;rcases q with q | ⟨b,ob,q,gb,_⟩
    . rw[q] at e;cases e
    . rw[q] at e;cases e;exact om _ (dk (az gb) (by rw[sk];exact vi _))
  . intro e;subst e;exact om _ (dk (az z) (by rw[sk];exact vi _))
theorem Ak{Q:Option af->ai->Prop}(q:Qu A s.heap)(t:s.heap.IsListIter it l i)(il:s.heap.IsList l xs)(n:xs[i]?=aq)(h:∀h',ur it s.heap h'->Q aq { s with heap:=h' }):
    bi (bu prog w) A (pf (.ref it)) Q E s:=by
  obtain⟨o,g,c,d⟩:=id t;obtain⟨ol,gl,_,nl,dl⟩:=il;unfold pf;refine ae (jq (fm (name:=gn "__next__") t.typeIs rg (fh rg t.typeIs Sn ?_ (SW _))));refine ae (m:=zi (.ref it) 0) (fc g d (x:=.ref l) rfl ?_);rw[VT (show ¬((Value.ref l==eo)=aj) from λz=>nomatch z)];refine ae (m:=zi (.ref it) 1) (fc g d (x:=.int i 0) rfl (ae (m:=Vh (.ref l)) (sr gl dl ?_)));simp only[ee,n];have ne:∀b u,kU u->s.heap.get? b=aa u->b≠it:=λb u m gb z=>by
    subst z;rw[g] at gb;cases gb;obtain⟨us,du,z2⟩:=m;rw[d] at du;cases du;simp at z2
  refine ae (kr (ae (ko g d (by simp) (iT (q.keeps λb u m z=>(df _ _ (Ne.symm (ne b u m z))).trans z) λh' e k ⟨oe,ge,ce⟩=>?_))));refine ae (kj (T:="StopIteration") (b:=aj) ⟨oe,ge,ce⟩ ph (ar (h _ λb u hb z=>k b u ((df _ _ (Ne.symm hb)).trans z))))
theorem Dw{Q:Option af->ai->Prop}(q:Qu A s.heap)(t:s.heap.IsTupleIter it l i)(il:s.heap.IsTuple l xs)(n:xs[i]?=aq)(h:∀h',ur it s.heap h'->Q aq { s with heap:=h' }):
    bi (bu prog w) A (pf (.ref it)) Q E s:=by
  obtain⟨o,g,c,d⟩:=id t;obtain⟨ol,gl,_,nl,dl⟩:=il;unfold pf;refine ae (jq (fm (name:=gn "__next__") t.typeIs vz (fh vz t.typeIs F.entry_tuple_iterator_next ?_ (F.args_tuple_iterator_next_1 _))));refine ae (m:=zi (.ref it) 0) (fc g d (x:=.ref l) rfl ?_);rw[VT (show ¬((Value.ref l==eo)=aj) from λz=>nomatch z)];refine ae (m:=zi (.ref it) 1) (fc g d (x:=.int i 0) rfl (ae (m:=Vh (.ref l)) (sr gl dl ?_)));simp only[ee,n];have ne:∀b u,kU u->s.heap.get? b=aa u->b≠it:=λb u m gb z=>by
    subst z;rw[g] at gb;cases gb;obtain⟨us,du,z2⟩:=m;rw[d] at du;cases du;simp at z2
  refine ae (kr (ae (ko g d (by simp) (iT (q.keeps λb u m z=>(df _ _ (Ne.symm (ne b u m z))).trans z) λh' e k ⟨oe,ge,ce⟩=>?_))));refine ae (kj (T:="StopIteration") (b:=aj) ⟨oe,ge,ce⟩ ph (ar (h _ λb u hb z=>k b u ((df _ _ (Ne.symm hb)).trans z))))
theorem wX{x left step:Int}{Q:Option af->ai->Prop}(q:Qu A s.heap)(t:rn s.heap it x left step)(n:left<=0)(h:∀h',ur it s.heap h'->Q aq { s with heap:=h' }):
    bi (bu prog w) A (pf (.ref it)) Q E s:=by
  have ty:s.TypeIs (.ref it) "range_iterator" := ⟨_,t,rfl⟩;unfold pf;refine ae (jq (fm (name:=gn "__next__") ty wa (fh wa ty F.entry_range_iterator_next ?_ (F.args_range_iterator_next_1 _))));refine ae (m:=zi (.ref it) 0) (fc t rfl (x:=oo x) rfl (ae (m:=zi (.ref it) 1) (fc t rfl (x:=oo left) rfl (ae (m:=zi (.ref it) 2) (fc t rfl (x:=oo step) rfl ?_)))));refine(show bi _ _ (ite (left<=0) _ _) _ _ s from ?_);rw[Wj n];refine ae (kr (ae (iT q λh' e k zz=>?_)));obtain⟨oe,ge,ce⟩:=zz;refine ae (kj (T:="StopIteration") (b:=aj) ⟨oe,ge,ce⟩ ph (ar (h _ λb u hb z=>k b u z)))
theorem oM(q:Qu A s.heap)(t:s.heap.IsListIter it l i)(il:s.heap.IsList l xs)(n:xs[i]?=aq)
    (h:∀h' e,ur it s.heap h'->(∃o,h'.get? e=aa o/\o.cls=.type "StopIteration")->E (.ref e) { s with heap:=h' }):bi (bu prog w) A (lr (.ref it)) Q E s:=by
  obtain⟨o,g,c,d⟩:=id t;obtain⟨ol,gl,_,nl,dl⟩:=il;unfold lr;refine ae (fm (name:=gn "__next__") t.typeIs rg (fh rg t.typeIs Sn ?_ (SW _)));refine ae (m:=zi (.ref it) 0) (fc g d (x:=.ref l) rfl ?_);rw[VT (show ¬((Value.ref l==eo)=aj) from λz=>nomatch z)];refine ae (m:=zi (.ref it) 1) (fc g d (x:=.int i 0) rfl (ae (m:=Vh (.ref l)) (sr gl dl ?_)));simp only[ee,n];have ne:∀b u,kU u->s.heap.get? b=aa u->b≠it:=λb u m gb z=>by
    subst z;rw[g] at gb;cases gb;obtain⟨us,du,z2⟩:=m;rw[d] at du;cases du;simp at z2
  exact ae (kr (ae (ko g d (by simp) (iT (q.keeps λb u m z=>(df _ _ (Ne.symm (ne b u m z))).trans z) λh' e k z=>h h' e (λb u hb z=>k b u ((df _ _ (Ne.symm hb)).trans z)) z))))
theorem GM{e:ah}{old:af}{Q:Option af->ai->Prop}(q:Qu A s.heap)(he:IsEnum s.heap e it i old)(t:s.heap.IsListIter it l i)(il:s.heap.IsList l xs)(n:xs[i]?=aq)
    (h:∀h',ur it s.heap h'->Q aq { s with heap:=h' }):bi (bu prog w) A (pf (.ref e)) Q E s:=by
  have ty:s.TypeIs (.ref e) "enumerate" := ⟨_,he,rfl⟩;unfold pf;refine ae (jq (fm (name:=gn "__next__") ty zd (fh zd ty F.entry_enumerate_next ?_ (F.args_enumerate_next_1 _))));refine ae (m:=zi (.ref e) 2) (fc he rfl (x:=.ref it) rfl (ae (oM q t il n λh' x k zz=>?_)));obtain⟨oe,ge,ce⟩:=zz;exact ae (kj (T:="StopIteration") (b:=aj) ⟨oe,ge,ce⟩ ph (ar (h _ k)))
theorem Ia{z TI TO i1 i2 l1 l2:ah}{k1 k2:Nat}{ys:Array af}{a b:af}{Q:Option af->ai->Prop}(q:Qu A s.heap)(D:VJ z TI TO i1 i2 l1 l2)(hz:Wf s.heap z TI TO .none)(pI:UG s.heap TI (.ref i1) (.ref i2))(pO:UG s.heap TO a b)
    (t1:s.heap.IsListIter i1 l1 k1) (t2:s.heap.IsListIter i2 l2 k2) (il1:s.heap.IsList l1 xs) (il2:s.heap.IsList l2 ys) (n:xs[k1]?=aq \/ ys[k2]?=aq)
    (h:∀h',(∀c o,c≠z->c≠TO->c≠i1->c≠i2->s.heap.get? c=aa o->h'.get? c=aa o)->Q aq { s with heap:=h' }):bi (bu prog w) A (pf (.ref z)) Q E s:=by
  have ty:s.TypeIs (.ref z) "zip" := ⟨_,hz,rfl⟩;have fin:∀h' e,(∃o,h'.get? e=aa o/\o.cls=.type "StopIteration")->(∀c o,c≠z->c≠TO->c≠i1->c≠i2->s.heap.get? c=aa o->h'.get? c=aa o) ->
      bi (bu prog w) A (SX (.ref e) (.type "StopIteration") >>= λy=>if y=aj then io aq else throw (.ref e)) Q E { s with heap:=h' }:=λh' e ⟨oe,ge,ce⟩ k=>
    ae (kj (T:="StopIteration") (b:=aj) ⟨oe,ge,ce⟩ ph (ar (h _ k)))
  have mz:∀f0,¬kU { cls:=.type "zip",dict:=aq,data:=.fields #[f0,.bool ap,.bool ap,.ref TI,.ref TO],slots:=#[] }:=λf0 zq0=>by
    obtain⟨us,du,z2⟩:=zq0;cases du;simp at z2
  have mi:∀{h1:cm} {i l:ah} {k:Nat},h1.IsListIter i l k -> ∀u,kU u->h1.get? i≠aa u:=λ⟨o,g,_,d⟩ u ⟨us,du,z2⟩ gu=>by
    rw[g] at gu;cases gu;rw[d] at du;cases du;simp at z2
  have mp:∀{h1:cm} {p:ah} {x y:af},UG h1 p x y -> ∀u,kU u->h1.get? p≠aa u:=λg u ⟨us,du,z2⟩ gu=>by
    rw[g] at gu;cases gu;cases du
  unfold pf;refine ae (jq (fm (name:=gn "__next__") ty Ut (fh Ut ty F.entry_zip_next ?_ (F.args_zip_next_1 _))));refine ae (m:=zi (.ref z) 2) (fc hz rfl (x:=.bool ap) rfl (ae (m:=zi (.ref z) 3) (fc hz rfl (x:=.ref TI) rfl (ae (sr pI rfl ?_)))));refine ae (m:=qm (.ref z)) ?_;unfold qm;refine ae (fc hz rfl (x:=.none) rfl (ar ?_));simp only[if_true];refine ae (kr (ae (fc hz rfl (x:=.ref TO) rfl (ae (wc hz (by simp) λh1 hz1 s1=>ae ?_)))));replace hz1:Wf h1 z TI TO .ellipsis:=hz1;have q1:Qu A h1:=q.keeps λc u m g=>s1.extBut c u (λe=>by subst e;rw[hz] at g;cases g;exact mz _ m) g;simp only[Uf,Uu,Uv,List.forIn_nil];refine ae (ae (wpAny_onRaise (ae (m:=lr (.ref i1)) ?_)));have t1':=t1.extBut s1.extBut D.i1z;have il1':=il1.extBut s1.extBut D.l1z;cases hx:xs[k1]? with
  |none=>
    refine oM q1 t1' il1' hx λh2 e s2 zz=>?_;obtain⟨oe,ge,ce⟩:=zz;have hz2:Wf h2 z TI TO .ellipsis:=s2 _ _ D.i1z.symm hz1;have ne:e≠z:=λy=>by subst y;rw[hz2] at ge;cases ge;simp at ce
    exact wc hz2 (by simp) λh3 _ s3=>fin h3 e ⟨oe,s3.extBut _ _ ne ge,ce⟩ λc o c1 _ c3 _ g=>s3.extBut _ _ c1 (s2 _ _ c3 (s1.extBut _ _ c1 g))
  |some x=>
    have hy:ys[k2]?=aq:=n.elim (λy=>by rw[hx] at y;cases y) id;refine wpAny_nextOf_list_item t1' il1' hx λh2 t2' s2=>ar ?_;have pO2:UG h2 TO a b:=s2.extBut _ _ D.TOi1 (s1.extBut _ _ D.TOz pO);have q2:Qu A h2:=q1.keeps λc u m g=>s2.extBut c u (λe=>by subst e;exact mi t1' u m g) g;refine ae (sr pO2 rfl (ae (wpAny_updateSeq_pair pO2 λh3 pO3 s3=>ae (wpAny_letGo (ar ?_)))));have q3:Qu A h3:=q2.keeps λc u m g=>s3.extBut c u (λe=>by subst e;exact mp pO2 u m g) g;refine ae (ae (wpAny_onRaise (ae (m:=lr (.ref i2)) ?_)));refine oM q3 (((t2.extBut s1.extBut D.i2z).extBut s2.extBut D.i12.symm).extBut s3.extBut D.TOi2.symm) (((il2.extBut s1.extBut D.l2z).extBut s2.extBut D.l2i1).extBut s3.extBut D.l2TO) hy λh4 e s4 zz=>?_;obtain⟨oe,ge,ce⟩:=zz;have hz4:Wf h4 z TI TO .ellipsis:=s4 _ _ D.i2z.symm (s3.extBut _ _ D.TOz.symm (s2.extBut _ _ D.i1z.symm hz1));have ne:e≠z:=λy=>by subst y;rw[hz4] at ge;cases ge;simp at ce
    exact wc hz4 (by simp) λh5 _ s5=>fin h5 e ⟨oe,s5.extBut _ _ ne ge,ce⟩ λc o c1 c2 c3 c4 g=>s5.extBut _ _ c1 (s4 _ _ c4 (s3.extBut _ _ c2 (s2.extBut _ _ c3 (s1.extBut _ _ c1 g))))
theorem Cv(hh:A.handled=aa (.ref a))(m:kU o)(I ax:ah)(hne:ax≠I)(xs:Array af):
    Walks prog w A I [I,ax,a] [I] xs.size (λi v=>xs[i]?=aa v) (λi h=>(h.IsListIter I ax i/\h.IsList ax xs)/\h.get? a=aa o) where
  sub:=λb hb=>by simp at hb;simp[hb]
  frame:=λ_ _ _ st k=>⟨⟨st.1.1.at λo e=>k I (by simp) o e,st.1.2.at λo e=>k ax (by simp) o e⟩,k a (by simp) _ st.2⟩
  item:=λi s Q E hi st h=>by
    have na:a≠I:=λe=>by
      subst e;obtain⟨o',g,_,d⟩:=st.1.1;obtain⟨us,du,z2⟩:=m;rw[st.2] at g;cases g;rw[d] at du;cases du;simp at z2
    exact yb st.1.1 st.1.2 (x:=xs[i]) (by simp[hi]) λh' t sb=>h _ h' s.toks (by simp[hi]) ⟨⟨t,st.1.2.extBut sb.extBut hne⟩,sb.extBut _ _ na st.2⟩ λb o hb e=>sb.extBut b o (λz=>hb (by simp[z])) e
  done:=λs Q E st h=>Ak (.inr ⟨a,o,hh,st.2,m⟩) st.1.1 st.1.2 (by simp) λh' k=>h h' s.toks λb o hb e=>k b o (λz=>hb (by simp[z])) e
  self:=λ_ _ _ _ st q=>ze st.1.1 q
theorem M1{xs:Array (Int×Wi)}(q:Qu A s.heap)(il:s.heap.IsList l (VL xs))
    (h:∀h' tk t',(∀b o,s.heap.get? b=aa o->h'.get? b=aa o)->Q (.int (preSum (numAt xs) xs.size) t') { s with heap:=h',toks:=tk }):bi (bu prog w) A (call (.builtin "sum") [.ref l]) Q E s:=by
  rcases q with q | ⟨a,o,q,g,m⟩
  . exact sum_intListG q il h
  . refine call_sum_walkG (iter_intList il λs2 e st fp ne=>?_);subst e;refine⟨_,_,_,_,_,_,numAt xs,rfl,Cv (A:=A.in1) q m _ l ne (VL xs),⟨st,ao _ g⟩,λb hb=>?_,λ_ _=>intItems_at,λh' tk t' k=>?_⟩
    . rcases dt.mp hb with e | hb
      . exact fp b (by simp[e])
      . rcases dt.mp hb with e | hb
        . exact fp b (by simp[e])
        . have e:b=a:=by simpa using hb
          subst e;exact az (ao _ g)
    . have:=h h' tk t' (old_kept k);simpa [VL] using this
theorem uK{c:Int}{Q:Option af->ai->Prop}(hi:i<n)(t:rn s.heap it (lo+(i:Nat)*c) ((n:Int)-(i:Nat)) c)
    (h:∀v h' tk,(∃t,v=.int (lo+i*c) t)->rn h' it (lo+((i+1:Nat):Int)*c) ((n:Int)-((i+1:Nat):Int)) c->(∀b o,b ∉ [it]->s.heap.get? b=aa o->h'.get? b=aa o)->Q (aa v) { s with heap:=h',toks:=tk }):
    bi (bu prog w) A (pf (.ref it)) Q E s:=by
  refine wpAny_pyNext_range_item t ⋯ λh' t' sb=>h _ h' _ ⟨_,rfl⟩ ?_ λb o hb e=>sb.extBut b o (λz=>hb (by simp[z])) e;rw[show ((i+1:Nat):Int)=(i:Int)+1 by simp,show lo+((i:Int)+1)*c=lo+i*c+c by rw[Int.add_mul,Int.one_mul,Int.add_assoc],show (n:Int)-((i:Int)+1)=n-i-1 by right];exact t'
noncomputable abbrev bU:=Sum Int bn
noncomputable def wQ:bU->af->Bool
  | .inl k,v=>VM k v
  | .inr x,v=>V9 x v
noncomputable def QB(w:bt):bU->Int
  | .inl k=>Vq k
  | .inr x=>hashStr w x
theorem dS:∀{k:bU} {v:af},wQ k v=aj->(∃i t,k=ft i/\v=Value.int i t) \/ (∃x t,k=vj x/\v=Value.str x t)
  | .inl i,v,h=>by
    obtain⟨t,e⟩:=Value.isInt_shape (k:=i) (v:=v) h;exact .inl ⟨i,t,rfl,e⟩
  | .inr x,v,h=>by
    obtain⟨t,e⟩:=Value.isStrOf_shape (x:=x) (v:=v) h;exact .inr ⟨x,t,rfl,e⟩
theorem Dk(i:Int)(t:Wi):wQ (.inl i) (.int i t)=aj:=by simp[wQ,VM]
theorem Dj(x:bn)(t:Wi):wQ (.inr x) (.str x t)=aj:=by simp[wQ,V9]
theorem Kr(a b:Int):decide ((ft a:bU)=ft b)=(a==b):=by
  by_cases e:a=b
  . subst e;simp
  . have h:¬(ft a:bU)=ft b:=λq=>e (Sum.inl.inj q);rw[decide_eq_false h];exact(beq_eq_false_iff_ne.mpr e).symm
theorem Ko(a b:bn):decide ((vj a:bU)=vj b)=decide (a=b):=by
  by_cases e:a=b
  . subst e;simp
  . have h:¬(vj a:bU)=vj b:=λq=>e (vj.inj q);rw[decide_eq_false h,decide_eq_false e]
theorem Kq(a:Int)(b:bn):decide ((ft a:bU)=vj b)=ap:=decide_eq_false (λq=>nomatch q)
theorem Kp(a:bn)(b:Int):decide ((vj a:bU)=ft b)=ap:=decide_eq_false (λq=>nomatch q)
noncomputable def eV(prog:au)(w:bt):PySem.KeyKind prog w bU where
  is:=wQ
  hash:=QB w
  inj:=λv a b ha hb=>by
    rcases dS ha with⟨i,t,rfl,rfl⟩ | ⟨x,t,rfl,rfl⟩
    . rcases dS hb with⟨j,u,rfl,e⟩ | ⟨y,u,rfl,e⟩
      . injection e with e1 _;rw[e1]
      . exact nomatch e
    . rcases dS hb with⟨j,u,rfl,e⟩ | ⟨y,u,rfl,e⟩
      . exact nomatch e
      . injection e with e1 _;rw[e1]
  byValue:=λk v h=>by
    rcases dS h with⟨i,t,rfl,rfl⟩ | ⟨x,t,rfl,rfl⟩<;>rfl
  pyHash:=λhv h=>by
    rcases dS hv with⟨i,t,rfl,rfl⟩ | ⟨x,t,rfl,rfl⟩
    . exact wpAny_pyHash_int h
    . exact wpAny_pyHash_str h
  eqBool:=λhu hv h=>by
    rcases dS hu with⟨i,t,rfl,rfl⟩ | ⟨x,t,rfl,rfl⟩
    . rcases dS hv with⟨j,u,rfl,rfl⟩ | ⟨y,u,rfl,rfl⟩
      . rw[Kr] at h;exact xq h
      . rw[Kq] at h;exact SeqAt.EqAt.int_str i t y u _ _ _ _ h
    . rcases dS hv with⟨j,u,rfl,rfl⟩ | ⟨y,u,rfl,rfl⟩
      . rw[Kp] at h;exact SeqAt.EqAt.str_int x t j u _ _ _ _ h
      . rw[Ko] at h;exact wpAny_eqBool_str h
  «strs» := λk x t v h=>by
    rcases dS h with⟨i,u,rfl,e⟩ | ⟨y,u,rfl,e⟩
    . exact nomatch e
    . injection e with e1 _;subst e1;cases v<;>rfl
theorem Ab(prog:au)(w:bt)(i:Int)(t:Wi):(eV prog w).is (.inl i) (.int i t)=aj:=Dk i t
theorem Aa(prog:au)(w:bt)(x:bn)(t:Wi):(eV prog w).is (.inr x) (.str x t)=aj:=Dj x t
inductive V where
  |non | bl (b:Bool) | int (i:Int) | str (x:bn) | byt (b:Array UInt8) | flt (b:UInt64) | ref (a:ah) | ty (n:String)
  deriving DecidableEq
noncomputable def cU:V->af->Prop
  | .non,u=>u=eo
  | .bl b,u=>u=SY b
  | .int i,u=>∃t,u=Value.int i t
  | .str x,u=>∃t,u=Value.str x t
  | .byt b,u=>∃t,u=VN b t
  | .flt b,u=>∃t,u=Ug b t
  | .ref a,u=>u=Value.ref a
  | .ty n,u=>u=ue n
noncomputable abbrev bI:List V->List af->Prop:=Paired cU
theorem bI.length{xs:List V}{us:List af}(r:bI xs us):xs.length=us.length:=Paired.length r
theorem bI.get:∀{xs:List V} {us:List af} {i:Nat} {x:V},bI xs us->xs[i]?=aa x -> ∃u,us[i]?=aa u/\cU x u
  |_,_,_,_,.nil,e=>by simp at e
  |_,_,0,_,.cons r _,e=>by simp at e;subst e;exact⟨_,rfl,r⟩
  |_,_,i+1,x,.cons _ t,e=>by
    obtain⟨u,h1,h2⟩:=bI.get (i:=i) (x:=x) t (by simpa using e);exact⟨u,by simpa using h1,h2⟩
theorem bI.append:∀{xs ys:List V} {us ws:List af},bI xs us->bI ys ws->bI (xs++ys) (us++ws)
  |_,_,_,_,.nil,s=>s
  |_,_,_,_,.cons r t,s=>.cons r (bI.append t s)
theorem bI.take:∀{xs:List V} {us:List af} (n:Nat),bI xs us->bI (xs.take n) (us.take n)
  |_,_,0,_=>.nil
  |_,_,_+1,.nil=>.nil
  |_,_,n+1,.cons r t=>.cons r (bI.take n t)
theorem bI.drop:∀{xs:List V} {us:List af} (n:Nat),bI xs us->bI (xs.drop n) (us.drop n)
  |_,_,0,r=>r
  |_,_,_+1,.nil=>.nil
  |_,_,n+1,.cons _ t=>bI.drop n t
noncomputable def nM:Option V->Option af->Prop
  |some v,aa u=>cU v u
  |none,aq=>True
  |_,_=>False
variable {κ:Type}
noncomputable def KV:List (κ×V)->List (κ×af)->Prop:=Paired λ(p:κ×V) (q:κ×af)=>p.1=q.1/\cU p.2 q.2
noncomputable def kV:bU->V
  | .inl i=>.int i
  | .inr x=>.str x
inductive HO where
  /-- a list -/
  |lst (xs:List V)
  /-- a tuple (never changes) -/
  |tup (xs:List V)
  /-- a dict whose keys are ints and texts;one whose keys are tuples of ints and texts (the empty one is both) -/
  |dK (kvs:List (bU×V)) | dT (ep:Nat) (kvs:List (List bU×V))
  /-- a set of ints: its members,its size -/
  |set (S:Int->Bool) (n:Nat)
  /-- an instance of the class at C,its dict at dx,its attributes -/
  |ins (C dx:ah) (fs:List (bn×V))
  /-- the dict of the instance at x -/
  |own (x:ah)
  /-- the dict of an exception -/
  |xd (fs:List (bn×V))
  /-- a bound method,f of x -/
  |met (f x:ah)
  /-- a range object lo,lo+1,.. below hi -/
  |rng (lo hi:Int)
  /-- a thing that is known to the object (the script;a dict while a loop walks it): read,never written while it is so -/
  |frz (o:je) (u:HO)
  /-- a code object's table -/
  |tbl (ps:Array af)
  /-- a code object's table whose lambdas are named q;such a lambda's code -/
  |lam (q:bn) | cod (q:bn)
  /-- any other thing,by what is aj of its one object (a def of one's own: SetO a S n:=HO.ext λh=>..) -/
  |ext (φ:cm->Prop)
noncomputable abbrev Hp:=ah->Option HO
noncomputable def upd(H:Hp)(a:ah)(o:HO):Hp:=λb=>if b=a then aa o else H b
variable {H:Hp}
theorem bN{o:HO}:upd H a o a=aa o:=by unfold upd;rw[Wj rfl]
theorem b9{o:HO}(h:b≠a):upd H a o b=H b:=by unfold upd;rw[VT h]
theorem N7{o u:HO}(h:H a=aa o)(h':H b=aa u)(d:o≠u):a≠b:=by
  intro e;subst e;rw[h] at h';exact d (Option.some.inj h')
theorem bF{o:HO}(h:H a=aa o)(h':H b=aq):a≠b:=by
  intro e;subst e;rw[h] at h';cases h'
section
variable (P:au)(w:bt)
noncomputable def cL(H:Hp)(h:cm)(a:ah):HO->Prop
  | .lst xs=>xs.length<=bh /\ ∃(its:List af) (n:Nat),bI xs its/\h.get? a=aa { cls:=.type "list",data:=.seq its.toArray n }
  | .tup xs=>xs.length<=bh /\ ∃its:List af,bI xs its/\Vi h a its.toArray
  | .dK kvs=>kvs.length<=bh/\(a==jn)=ap /\ ∃vs,KV kvs vs/\h.DictOf (eV P w) a vs
  | .dT ep kvs=>kvs.length<=bh/\(a==jn)=ap /\ ∃xs:List (List bU×ah×af),
      Paired (λ(p:List bU×V) (q:List bU×ah×af)=>p.1=q.1/\H q.2.1=aa (.tup (p.1.map kV))/\cU p.2 q.2.2) kvs xs /\
      ∃o es,h.get? a=aa o/\o.ExactDict/\o.data=.dict es ep/\es.toList=xs.map (entryOfKey (Sd (eV P w)))/\(xs.map (·.1)).Nodup
  | .set S n=>h.SetOf (intKind P w) a S n
  | .ins C dx fs=>H dx=aa (.own a)/\fs.length<=1000/\dx≠a/\h.get? a=aa (uf C dx) /\
      ∃mA,h.Ns1 dx mA/\(∀f,nM (fs.lookup f) (mA f))/\Td mA (fs.map (·.1))
  | .own _=>∃o,h.get? a=aa o
  | .xd fs=>∃mA,h.Ns1 a mA /\ ∀f,nM (fs.lookup f) (mA f)
  | .rng lo hi=>∃t u v,h.get? a=aa { cls:=.type "range",data:=.fields #[.int lo t,.int hi u,.int 1 v] }
  | .frz o u=>h.get? a=aa o/\cL H h a u
  | .tbl ps=>h.get? a=aa { cls:=.none,data:=.fields ps }
  | .lam q=>∃ps:Array af,h.get? a=aa (W.tabObj ps)/\TriplesOk ps.toList /\ ∀p:jw,codeAmong p ps.toList=aq \/ ∃c,codeAmong p ps.toList=aa (.ref c)/\H c=aa (.cod q)
  | .cod q=>h.CodeRec (.ref a) q
  | .met f x=>h.get? a=aa (Uh (.ref f) (.ref x))
  | .ext φ=>φ h/\(∃o,h.get? a=aa o) /\ ∀h1 h2:cm,φ h1->(∀o,h1.get? a=aa o->h2.get? a=aa o)->φ h2
noncomputable def l7(H:Hp)(h:cm):Prop:=∀a o,H a=aa o->cL P w H h a o
end
variable {H':Hp}
section
variable {o:HO}
theorem cL.lt(x:cL P w H h a o):a<h.objs.size:=by
  cases o with
  |lst xs=>obtain⟨_,_,_,_,e⟩:=x;exact az e
  |tup xs=>obtain⟨_,_,_,p⟩:=x;exact p.lt
  |dK kvs=>obtain⟨_,_,_,_,o,_,_,e,_⟩:=x;exact az e
  |dT ep kvs=>obtain⟨_,_,_,_,o,_,e,_⟩:=x;exact az e
  |set S n=>obtain⟨o,_,_,_,e,_⟩:=x;exact az e
  |ins C dx fs=>obtain⟨_,_,_,e,_⟩:=x;exact az e
  |own y=>obtain⟨_,e⟩:=x;exact az e
  |xd fs=>obtain⟨_,⟨_,_,_,e,_⟩,_⟩:=x;exact az e
  |rng lo hi=>obtain⟨_,_,_,e⟩:=x;exact az e
  |frz ob u=>obtain⟨e,_⟩:=x;exact az e
  |tbl ps=>exact az (show h.get? a=aa _ from x)
  |lam q=>obtain⟨_,e,_⟩:=x;exact az e
  |cod q=>obtain⟨_,_,_,_,e,e2,_⟩:=x;cases e;exact az e2
  |met f y=>exact az (show h.get? a=aa _ from x)
  |ext φ=>obtain⟨_,⟨_,e⟩,_⟩:=x;exact az e
theorem Paired.mapP{α β:Type}{F G:α->β->Prop}:∀{l₁:List α} {l₂:List β},Paired F l₁ l₂->(∀a b,F a b->G a b)->Paired G l₁ l₂
  |_,_,.nil,_=>.nil
  |_,_,.cons r t,f=>.cons (f _ _ r) (Paired.mapP t f)
theorem cL.stay(x:cL P w H h a o)(k:∀b u,(b=a \/ H b=aa (.own a))->h.get? b=aa u->h'.get? b=aa u)
    (ho:∀b,H b=aa (.own a)->H' b=aa (.own a)) (ht:∀b xs,H b=aa (.tup xs)->H' b=aa (.tup xs)) (hc:∀b q,H b=aa (.cod q)->H' b=aa (.cod q)):cL P w H' h' a o:=by
  induction o with
  |lst xs=>obtain⟨z,its,n,r,e⟩:=x;exact⟨z,its,n,r,k _ _ (.inl rfl) e⟩
  |tup xs=>obtain⟨z,its,r,ob,e,c⟩:=x;exact⟨z,its,r,ob,k _ _ (.inl rfl) e,c⟩
  |dK kvs=>obtain⟨z,y,vs,r,ob,es,ep,e,c⟩:=x;exact⟨z,y,vs,r,ob,es,ep,k _ _ (.inl rfl) e,c⟩
  |dT ep kvs=>
    obtain⟨z,y,xs,r,ob,es,e,c⟩:=x;exact⟨z,y,xs,Paired.mapP r λp q z=>⟨z.1,ht _ _ z.2.1,z.2.2⟩,ob,es,k _ _ (.inl rfl) e,c⟩
  |set S n=>obtain⟨ob,es,ep,t,e,c⟩:=x;exact⟨ob,es,ep,t,k _ _ (.inl rfl) e,c⟩
  |ins C dx fs=>
    obtain⟨d,z,ne,e,mA,⟨od,es,ep,e2,c⟩,r⟩:=x;exact⟨ho _ d,z,ne,k _ _ (.inl rfl) e,mA,⟨od,es,ep,k _ _ (.inr d) e2,c⟩,r⟩
  |own y=>obtain⟨ob,e⟩:=x;exact⟨ob,k _ _ (.inl rfl) e⟩
  |xd fs=>obtain⟨mA,⟨od,es,ep,e,c⟩,r⟩:=x;exact⟨mA,⟨od,es,ep,k _ _ (.inl rfl) e,c⟩,r⟩
  |rng lo hi=>obtain⟨t,u,v,e⟩:=x;exact⟨t,u,v,k _ _ (.inl rfl) e⟩
  |frz ob u ih=>obtain⟨e,q⟩:=x;exact⟨k _ _ (.inl rfl) e,ih q⟩
  |tbl ps=>
    have e:h.get? a=aa { cls:=.none,data:=.fields ps }:=x;show h'.get? a=aa { cls:=.none,data:=.fields ps };exact k a _ (.inl rfl) e
  |lam q=>
    obtain⟨ps,e,t,f⟩:=x;exact⟨ps,k _ _ (.inl rfl) e,t,λp=>(f p).imp_right λzq1=>by obtain⟨c,e1,e2⟩:=zq1;exact⟨c,e1,hc _ _ e2⟩⟩
  |cod q=>
    obtain⟨_,o,vs,t,e,e2,e3⟩:=x;cases e;exact⟨a,o,vs,t,rfl,k _ _ (.inl rfl) e2,e3⟩
  |met f y=>
    have e:h.get? a=aa (Uh (.ref f) (.ref y)):=x;show h'.get? a=aa (Uh (.ref f) (.ref y));exact k a _ (.inl rfl) e
  |ext φ=>obtain⟨p,⟨o,e⟩,st⟩:=x;exact⟨st _ _ p λo q=>k _ _ (.inl rfl) q,⟨o,k _ _ (.inl rfl) e⟩,st⟩
theorem l7.lt(x:l7 P w H h)(e:H a=aa o):a<h.objs.size:=(x a o e).lt
theorem l7.fresh(x:l7 P w H h)(e:h.objs.size<=a):H a=aq:=by
  cases q:H a with
  |none=>rfl
  |some u=>exact absurd (dk (x.lt q) e) (om _)
theorem l7.kept(x:l7 P w H h)(k:∀b u,h.get? b=aa u->h'.get? b=aa u):l7 P w H h':=λa o e=>
  (x a o e).stay (λb u _ q=>k b u q) (λ_ q=>q) (λ_ _ q=>q) λ_ _ q=>q
theorem l7.laid(x:l7 P w H h)(k:∀b u,h.get? b=aa u->h'.get? b=aa u)(hp:h.objs.size<=a)(new:cL P w (upd H a o) h' a o):l7 P w (upd H a o) h':=λb u e=>by
  have hn:=x.fresh hp;by_cases hb:b=a
  . subst hb;rw[bN] at e;cases e;exact new
  . rw[b9 hb] at e;exact(x b u e).stay (λc v _ q=>k c v q) (λc q=>by rw[b9 (bF q hn)];exact q) (λc xs q=>by rw[b9 (bF q hn)];exact q) λc xs q=>by rw[b9 (bF q hn)];exact q
end
noncomputable def Rd(H:Hp)(a:ah)(u:HO):Prop:=H a=aa u \/ ∃o,H a=aa (.frz o u)
theorem Rd.ok{u:HO}(r:Rd H a u)(x:l7 P w H h):cL P w H h a u:=by
  rcases r with r | ⟨o,r⟩
  . exact x a u r
  . obtain⟨_,q⟩:=x a _ r;exact q
noncomputable def EF:Option HO->Prop
  |some (.lst _)=>True
  |some (.dK _)=>True
  |some (.dT _ _)=>True
  |some (.set _ _)=>True
  |some (.ins _ _ _)=>True
  |some (.ext _)=>True
  |_=>False
section
variable {x e:ah}{o':HO}
theorem l7.write(ok:l7 P w H h)(mu:EF (H x))(he:e=x \/ H e=aa (.own x))(k:∀b u,b≠e->h.get? b=aa u->h'.get? b=aa u)(heo:∃u,h'.get? e=aa u)
    (new:cL P w (upd H x o') h' x o'):l7 P w (upd H x o') h':=λb u q=>by
  have nown:∀c y,H c=aa (.own y)->c≠x:=λc y r z=>by subst z;rw[r] at mu;exact mu
  have ntup:∀c xs,H c=aa (.tup xs)->c≠x:=λc xs r z=>by subst z;rw[r] at mu;exact mu
  have ncod:∀c q,H c=aa (.cod q)->c≠x:=λc xs r z=>by subst z;rw[r] at mu;exact mu
  by_cases hb:b=x
  . subst hb;rw[bN] at q;cases q;exact new
  . rw[b9 hb] at q;by_cases hbe:b=e
    . have q':H b=aa (.own x):=by
        rcases he with z | z
        . exact absurd (hbe.trans z) hb
        . rw[hbe];exact z
      rw[q] at q';cases q';obtain⟨v,hv⟩:=heo;exact⟨v,by rw[hbe];exact hv⟩
    . refine(ok b u q).stay (λc v hc r=>k c v ?_ r) (λc r=>by rw[b9 (nown c b r)];exact r) (λc xs r=>by rw[b9 (ntup c xs r)];exact r) λc xs r=>by rw[b9 (ncod c xs r)];exact r
      rcases hc with rfl | hc
      . exact hbe
      . rintro rfl;rcases he with z | z
        . exact nown c b hc z
        . rw[hc] at z;cases z;exact hb rfl
end
structure Un(fs ex:List ah)(H H':Hp)(h h':cm):Prop where
  keep:∀b o,h.get? b=aa o->H b=aq->b ∉ fs->b ∉ ex->h'.get? b=aa o
  slot:∀b o,h.get? b=aa o->H b=aq->b∈fs->b ∉ ex -> ∃sl,h'.get? b=aa { o with slots:=sl }
  free:∀b o,h.get? b=aa o->H b=aq->b ∉ ex->H' b=aq
  there:∀b o,h.get? b=aa o->b ∉ ex -> ∃o',h'.get? b=aa o'
  tups:∀b xs,H b=aa (.tup xs)->H' b=aa (.tup xs)
  frzs:∀b o u,H b=aa (.frz o u)->H' b=aa (.frz o u)
  tbls:∀b ps,H b=aa (.tbl ps) -> ∃more,H' b=aa (.tbl (ps++more))
section
variable {fs fs' ex ex':List ah}{H1 H2:Hp}{h1 h2:cm}{x e:ah}{o:HO}
theorem Un.any(u:Un fs ex H H1 h h1){ob:je}(q:h.get? b=aa ob)(n:H b=aq)(hx:b ∉ ex):∃sl,h1.get? b=aa { ob with slots:=sl }:=by
  by_cases hb:b∈fs
  . exact u.slot b ob q n hb hx
  . exact⟨ob.slots,u.keep b ob q n hb hx⟩
theorem Un.kept(k:∀b u,h.get? b=aa u->h'.get? b=aa u):Un fs ex H H h h':=
  ⟨λb ob q _ _ _=>k b ob q,λb ob q _ _ _=>⟨ob.slots,k b ob q⟩,λ_ _ _ n _=>n,λb ob q _=>⟨ob,k b ob q⟩,λ_ _ q=>q,λ_ _ _ q=>q,λ_ ps q=>⟨#[],by rw[q];simp⟩⟩
theorem Un.refl:Un fs ex H H h h:=Un.kept λ_ _ q=>q
theorem Un.laid(k:∀b u,h.get? b=aa u->h'.get? b=aa u)(hp:h.objs.size<=a)(hn:H a=aq):Un fs ex H (upd H a o) h h' where
  keep:=λb u q _ _ _=>k b u q
  slot:=λb u q _ _ _=>⟨u.slots,k b u q⟩
  free:=λb u q n _=>by rw[b9 (fu (dk (az q) hp))];exact n
  there:=λb u q _=>⟨u,k b u q⟩
  tups:=λb xs q=>by rw[b9 (bF q hn)];exact q
  frzs:=λb u xs q=>by rw[b9 (bF q hn)];exact q
  tbls:=λb ps q=>⟨#[],by rw[b9 (bF q hn),q];simp⟩
theorem Un.write(mu:EF (H x))(he:e=x \/ H e=aa (.own x))(k:∀b u,b≠e->h.get? b=aa u->h'.get? b=aa u)(heo:∃u,h'.get? e=aa u):Un fs ex H (upd H x o) h h':=by
  have hx:∀b,H b=aq->b≠x:=λb n z=>by subst z;rw[n] at mu;exact mu
  have hb:∀b,H b=aq->b≠e:=λb n z=>by
    subst z;rcases he with r | r
    . exact hx b n r
    . rw[n] at r;cases r
  have hm:∀b u,H b=aa u -> ¬EF (aa u)->b≠x:=λb u q nm z=>by subst z;rw[q] at mu;exact nm mu
  refine⟨λb u q n _ _=>k b u (hb b n) q,λb u q n _ _=>⟨u.slots,k b u (hb b n) q⟩,λb u q n _=>by rw[b9 (hx b n)];exact n,λb u q _=>?_,
    λb xs q=>by rw[b9 (hm b _ q λz=>z)];exact q,λb u xs q=>by rw[b9 (hm b _ q λz=>z)];exact q,λb ps q=>⟨#[],by rw[b9 (hm b _ q λz=>z),q];simp⟩⟩
  by_cases hbe:b=e
  . subst hbe;exact heo
  . exact⟨u,k b u hbe q⟩
end
noncomputable def trk(h:cm)(H:Hp):List ah:=(gc h.objs.size).filter λa=>(H a).isSome
noncomputable def yH(h:cm)(H:Hp):cm:=Se h (trk h H)
theorem Dq(h:cm)(H:Hp):(yH h H).objs.size=h.objs.size:=W.hideAll_size _ _
theorem GB(e:h.get? b=aa o)(n:H b=aq):(yH h H).get? b=aa o:=
  Va _ e λhm=>by
    have q:(H b).isSome=aj:=(UH.mp hm).2;rw[n] at q;simp at q
theorem Hq(e:(yH h H).get? b=aa o):h.get? b=aa o/\H b=aq:=by
  have e':h.get? b=aa o:=Te (trk h H) e;refine⟨e',?_⟩;cases q:H b with
  |none=>rfl
  |some x=>
    have hm:b∈trk h H:=UH.mpr ⟨Sh.mpr (az e'),by simp[q]⟩;have z:(yH h H).get? b=aq:=W.hideAll_none (trk h H) hm;rw[z] at e;cases e
structure Mod(K:ak)(mg:bn->Option af)(base:cm):Prop where
  kin:K.In base
  glob:base.Ns iw mg
  blt:∃mb,base.Ns UI mb /\ ∀x:bn,x ≠ "__name__" -> mb x=ly x
  nolimit:base.NoLimit
/-- the context: a def's Wv (or a comprehension's block) running. base: fixed through the Wz law;s₀,HZ: the entry;outer: the frames whose slots others may change (a def's callers);stack: all frames that run;
   ex: iterators that were made ahead of the entry and are walked here (a comprehension's);fn: the names whose cells were made at the entry (a def: all;a comprehension's block: its own);calm: not within an except suite;pn: pj that every state bears;xe: what is wanted of an exception that leaves the code -/
structure Cx where
  prog:au
  w:bt
  K:ak
  mg:bn->Option af
  base:cm
  A:cf
  N:List bn
  s₀:ai
  HZ:Hp
  env:wz
  outer:List wz
  stack:List wz
  ex:List ah
  fn:bn->Bool
  calm:Bool
  pn:List (ah×je)
  xe:af->ai->Prop
  hs:List ah
noncomputable def frs(l:List wz):List ah:=l.filterMap (·.frame)
noncomputable abbrev Cx.fs(X:Cx):List ah:=frs X.outer
noncomputable def Oi(sc:Scope)(x:bn):Prop:=sc.names.lookup x=aa .local \/ sc.names.lookup x=aa .cell \/ sc.names.lookup x=aa .free
noncomputable def Gs(sc:Scope)(x:bn):Prop:=sc.names.lookup x=aa .local \/ sc.names.lookup x=aa .cell
noncomputable def R8(env:wz)(h:cm)(m:bn->Option af)(x:bn)(u:af):Prop:=
  (env.kindOf x=aa .local/\m x=aa u) \/ ((env.kindOf x=aa .cell \/ env.kindOf x=aa .free) /\ ∃c,env.cells.lookup x=aa c/\h.IsCell c (aa u))
structure Cx.Ok(X:Cx):Prop where
  mod:Mod X.K X.mg X.base
  kind:X.env.scope.kind=.function
  glob:X.env.globals=iw
  blt:X.env.builtins=UI
  above:X.s₀.heap.objs.size<=X.env.locals
  inj:∀x y c,X.env.cells.lookup x=aa c->X.env.cells.lookup y=aa c->x=y
  has:∀x,(X.env.kindOf x=aa .cell \/ X.env.kindOf x=aa .free) -> ∃c,X.env.cells.lookup x=aa c
  cab:∀x c,X.fn x=aj->X.env.cells.lookup x=aa c->X.s₀.heap.objs.size<=c
  hd:X.calm=aj->X.A.handled=aq
  frames:X.A.frames=aa X.stack
  stk:X.stack=X.outer \/ (X.stack=X.env::X.outer/\X.env.frame=aa X.env.locals)
  exf:∀b∈X.ex,b≠X.env.locals /\ ∀x c,X.env.cells.lookup x=aa c->c≠b
  bs:∀b o,X.base.get? b=aa o->X.s₀.heap.get? b=aa o/\X.HZ b=aq
  bsz:X.base.objs.size<=X.s₀.heap.objs.size
  noex:∀b o,X.base.get? b=aa o->b ∉ X.ex
  exfs:∀b∈X.ex,b ∉ X.fs
  funs:X.s₀.heap.FunFrames X.base X.outer
  frf:∀b∈X.fs,X.HZ b=aq
  hq:X.A.handled=aq \/ ∃a,a∈X.hs/\X.A.handled=aa (.ref a)
structure Inv(X:Cx)(pj:List (ah×je))(σ:List (Option V))(H:Hp)(s:ai):Prop where
  ok:X.Ok
  os:s.os=X.s₀.os
  bare:vk s.gens
  base:Un X.fs X.ex X.HZ H X.s₀.heap s.heap
  loc:∃m,s.heap.Ns X.env.locals m /\ ∀(i:Nat) (x:bn) (v:V),X.N[i]?=aa x->σ[i]?=aa (aa v)->Oi X.env.scope x -> ∃u,cU v u/\R8 X.env s.heap m x u
  cell:∀x c,X.env.cells.lookup x=aa c -> ∃v,s.heap.IsCell c v
  free:H X.env.locals=aq
  freeC:∀x c,X.env.cells.lookup x=aa c->H c=aq
  pin:∀p∈X.pn++pj,s.heap.get? p.1=aa p.2/\H p.1=aq/\p.1≠X.env.locals/\p.1 ∉ X.fs /\ ∀v,p.2.data ≠ .cell v
  hok:l7 X.prog X.w H s.heap
  len:σ.length=X.N.length
  mild:∀a∈X.hs,∃o u,H a=aa (.frz o u)/\kU o
variable {v:V}{g':Array xr}{t' j:Nat}{d':Vj}{ch:List ah}{s':ai}{X:Cx}
section
variable {σ:List (Option V)}
theorem Cx.Ok.nofr(ok:X.Ok)(e:X.base.get? b=aa o):b ∉ X.fs:=λhb=>by
  have:=(ok.funs.mem hb).1;rw[e] at this;cases this
theorem Inv.bs(I:Inv X pj σ H s):∀b o,X.base.get? b=aa o->s.heap.get? b=aa o/\H b=aq:=λb o e=>
  ⟨I.base.keep b o (I.ok.bs b o e).1 (I.ok.bs b o e).2 (I.ok.nofr e) (I.ok.noex b o e),I.base.free b o (I.ok.bs b o e).1 (I.ok.bs b o e).2 (I.ok.noex b o e)⟩
theorem Inv.qu(I:Inv X pj σ H s):Qu X.A s.heap:=by
  rcases I.ok.hq with e | ⟨a,ha,e⟩
  . exact .inl e
  . obtain⟨o,u,g,m⟩:=I.mild a ha;obtain⟨ho,_⟩:=(show cL X.prog X.w H s.heap a (.frz o u) from I.hok a _ g);exact .inr ⟨a,o,e,ho,m⟩
theorem Inv.bk(I:Inv X pj σ H s):∀b o,X.base.get? b=aa o->s.heap.get? b=aa o:=λb o e=>(I.bs b o e).1
theorem Inv.mod(I:Inv X pj σ H s):Mod X.K X.mg X.base:=I.ok.mod
theorem Inv.kIn(I:Inv X pj σ H s):X.K.In s.heap:=I.ok.mod.kin.keeps I.bk
theorem Inv.lt(I:Inv X pj σ H s):X.env.locals<s.heap.objs.size:=let ⟨_,hn,_⟩:=I.loc;hn.lt
theorem Inv.sz(I:Inv X pj σ H s):X.s₀.heap.objs.size<=s.heap.objs.size:=kh I.ok.above (zj I.lt)
theorem Inv.nofs(I:Inv X pj σ H s)(h:s.heap.objs.size<=a):a ∉ X.fs:=λhb=>by
  obtain⟨_,o,ho,_⟩:=I.ok.funs.mem hb;exact absurd (dk (az ho) (kh I.sz h)) (om _)
theorem Inv.cne(I:Inv X pj σ H s):∀x c,X.env.cells.lookup x=aa c->c≠X.env.locals:=λx c e z=>by
  obtain⟨v,o,ho,hd⟩:=I.cell x c e;obtain⟨m,⟨o',es,ep,ho',hd',_⟩,_⟩:=I.loc;rw[z,ho'] at ho;cases ho;rw[hd'] at hd;cases hd
theorem Inv.funs(I:Inv X pj σ H s):s.heap.FunFrames X.base X.outer:=by
  have all:∀(l:List wz),(∀b∈frs l,b∈X.fs)->X.s₀.heap.FunFrames X.base l->s.heap.FunFrames X.base l:=by
    intro l;induction l with
    |nil=>intro _ _;trivial
    |cons env r ih=>
      intro hs hl;obtain⟨hk,⟨L,o,hf,hn,ho,hd⟩,hr⟩:=hl;have hL:L∈X.fs:=hs L (by unfold frs;rw[vf,hf];exact de);obtain⟨sl,e⟩:=I.base.slot L o ho (I.ok.frf L hL) hL λz=>I.ok.exfs L z hL;exact⟨hk,⟨L,_,hf,hn,e,hd⟩,ih (λb hb=>hs b (by unfold frs;rw[vf,hf];exact di _ hb)) hr⟩
  exact all X.outer (λ_ hb=>hb) I.ok.funs
theorem Inv.stack(I:Inv X pj σ H s):s.heap.FunFrames X.base X.stack:=by
  rcases I.ok.stk with e | ⟨e,hf⟩
  . rw[e];exact I.funs
  . rw[e];obtain⟨m,hn,_⟩:=I.loc;refine .cons (by rw[I.ok.kind];decide) hf hn ?_ I.funs;exact Heap.get?_none_of_le (kh I.ok.bsz I.ok.above)
theorem Inv.stkSub(I:Inv X pj σ H s):∀b∈frs X.stack,b∈X.env.locals::X.fs:=λb hb=>by
  rcases I.ok.stk with e | ⟨e,hf⟩
  . rw[e] at hb;exact di _ hb
  . rw[e] at hb;unfold frs at hb;rw[vf,hf] at hb;exact hb
theorem Inv.stkFree(I:Inv X pj σ H s):∀b∈frs X.stack,H b=aq:=λb hb=>by
  rcases dt.mp (I.stkSub b hb) with e | hb
  . rw[e];exact I.free
  . obtain⟨_,o,ho,_⟩:=I.ok.funs.mem hb;exact I.base.free b o ho (I.ok.frf b hb) λz=>I.ok.exfs b z hb
theorem Inv.step(I:Inv X pj σ H s)
    (hch:∀b∈ch,(b∈X.ex \/ X.s₀.heap.objs.size<=b)/\b≠X.env.locals/\(∀x c,X.env.cells.lookup x=aa c->c≠b) /\ ∀p∈X.pn++pj,p.1≠b)
    (keep:∀b o,b≠X.env.locals->b ∉ X.fs->b ∉ ch->s.heap.get? b=aa o->H b=aq->h'.get? b=aa o)
    (slot:∀b o,b≠X.env.locals->b∈X.fs->b ∉ ch->s.heap.get? b=aa o->H b=aq -> ∃sl,h'.get? b=aa { o with slots:=sl }) (free:∀b o,b ∉ ch->s.heap.get? b=aa o->H b=aq->H' b=aq)
    (there:∀b o,b ∉ ch->s.heap.get? b=aa o -> ∃o',h'.get? b=aa o')
    (tups:∀b xs,H b=aa (.tup xs)->H' b=aa (.tup xs)) (frzs:∀b o u,H b=aa (.frz o u)->H' b=aa (.frz o u)) (tbls:∀b ps,H b=aa (.tbl ps) -> ∃more,H' b=aa (.tbl (ps++more)))
    (ns:∀m,s.heap.Ns X.env.locals m->h'.Ns X.env.locals m) (hok:l7 X.prog X.w H' h') (hg:vk g'):
    Inv X pj σ H' { s with heap:=h',gens:=g',drawn:=d',toks:=t' }:=by
  have neL:∀b o,X.s₀.heap.get? b=aa o->b≠X.env.locals:=λb o e=>fu (dk (az e) I.ok.above);have neC:∀b o,X.s₀.heap.get? b=aa o->b ∉ X.ex->b ∉ ch:=λb o e hx hb=>by
    rcases(hch b hb).1 with z | z
    . exact hx z
    . exact absurd (dk (az e) z) (om _)
  have cellK:∀x c,X.env.cells.lookup x=aa c -> ∀v,s.heap.IsCell c v->h'.IsCell c v:=λx c e v zq2=>by
    obtain⟨o,ho,hd⟩:=zq2;have nch:c ∉ ch:=λz=>(hch c z).2.2.1 x c e rfl;by_cases hc:c∈X.fs
    . obtain⟨sl,q⟩:=slot c o (I.cne x c e) hc nch ho (I.freeC x c e);exact⟨_,q,hd⟩
    . exact⟨o,keep c o (I.cne x c e) hc nch ho (I.freeC x c e),hd⟩
  refine⟨I.ok,I.os,hg,⟨λb o e n hb hx=>?_,λb o e n hb hx=>?_,λb o e n hx=>?_,λb o e hx=>?_,λb xs e=>tups b xs (I.base.tups b xs e),λb o xs e=>frzs b o xs (I.base.frzs b o xs e),λb ps e=>?_⟩,?_,λx c e=>?_,?_,λx c e=>?_,λp hp=>?_,hok,I.len,λa ha=>let ⟨o,u,g,m⟩:=I.mild a ha;⟨o,u,frzs a o u g,m⟩⟩
  . exact keep b o (neL b o e) hb (neC b o e hx) (I.base.keep b o e n hb hx) (I.base.free b o e n hx)
  . obtain⟨sl,e1⟩:=I.base.slot b o e n hb hx;obtain⟨sl',e2⟩:=slot b _ (neL b o e) hb (neC b o e hx) e1 (I.base.free b o e n hx);exact⟨sl',e2⟩
  . obtain⟨o',e1⟩:=I.base.there b o e hx;exact free b o' (neC b o e hx) e1 (I.base.free b o e n hx)
  . obtain⟨o',e1⟩:=I.base.there b o e hx;exact there b o' (neC b o e hx) e1
  . obtain⟨m1,e1⟩:=I.base.tbls b ps e;obtain⟨m2,e2⟩:=tbls b _ e1;exact⟨m1++m2,by rw[e2,Array.append_assoc]⟩
  . obtain⟨m,hn,hl⟩:=I.loc;refine⟨m,ns m hn,λi x v e1 e2 e3=>?_⟩;obtain⟨u,r,l⟩:=hl i x v e1 e2 e3;refine⟨u,r,?_⟩;rcases l with l | ⟨k,c,e,z⟩
    . exact .inl l
    . exact .inr ⟨k,c,e,cellK x c e _ z⟩
  . obtain⟨v,z⟩:=I.cell x c e;exact⟨v,cellK x c e v z⟩
  . obtain⟨m,⟨o,_,_,ho,_⟩,_⟩:=I.loc;exact free _ o (λz=>(hch _ z).2.1 rfl) ho I.free
  . obtain⟨v,o,ho,hd⟩:=I.cell x c e;exact free c o (λz=>(hch c z).2.2.1 x c e rfl) ho (I.freeC x c e)
  . obtain⟨e,n,ne,nf,d⟩:=I.pin p hp;have nch:p.1 ∉ ch:=λz=>(hch p.1 z).2.2.2 p hp rfl;exact⟨keep p.1 p.2 ne nf nch e n,free p.1 p.2 nch e n,ne,nf,d⟩
theorem Inv.un(I:Inv X pj σ H s)(u:Un X.fs [] H H' s.heap h')(hok:l7 X.prog X.w H' h'):Inv X pj σ H' { s with heap:=h',toks:=t' }:=by
  obtain⟨m,⟨o,es,ep,ho,r⟩,_⟩:=id I.loc;obtain⟨sl,hL⟩:=u.any ho I.free (by simp);exact I.step (g':=s.gens) (d':=s.drawn) (ch:=[]) (λ_ z=>nomatch z) (λb o _ hb _ e n=>u.keep b o e n hb (by simp)) (λb o _ hb _ e n=>u.slot b o e n hb (by simp)) (λb o _ e n=>u.free b o e n (by simp)) (λb o _ e=>u.there b o e (by simp)) u.tups u.frzs u.tbls (λm' hm=>by
    obtain⟨o',es',ep',ho',r'⟩:=hm;rw[ho] at ho';cases ho';exact⟨_,es',ep',hL,r'⟩) hok I.bare
theorem Inv.call(I:Inv X pj σ H s)(u:Un (frs X.stack) ch H H' s.heap h')(hok:l7 X.prog X.w H' h')(hg:vk g')
    (hch:∀b∈ch,(b∈X.ex \/ X.s₀.heap.objs.size<=b)/\b≠X.env.locals/\(∀x c,X.env.cells.lookup x=aa c->c≠b) /\ ∀p∈X.pn++pj,p.1≠b):
    Inv X pj σ H' { s with heap:=h',gens:=g',drawn:=d',toks:=t' }:=by
  obtain⟨m,⟨o,es,ep,ho,r⟩,_⟩:=id I.loc;obtain⟨sl,hL⟩:=u.any ho I.free λz=>(hch _ z).2.1 rfl;exact I.step (ch:=ch) hch (λb o hL hb hc e n=>u.keep b o e n (λz=>(dt.mp (I.stkSub b z)).elim hL hb) hc) (λb o _ _ hc e n=>u.any e n hc) (λb o hc e n=>u.free b o e n hc) (λb o hc e=>u.there b o e hc) u.tups u.frzs u.tbls (λm' hm=>by
    obtain⟨o',es',ep',ho',r'⟩:=hm;rw[ho] at ho';cases ho';exact⟨_,es',ep',hL,r'⟩) hok hg
theorem Inv.turned(I:Inv X pj σ H s)(k:∀b o,b≠it->s.heap.get? b=aa o->h'.get? b=aa o)(hn:H it=aq)(hL:it≠X.env.locals)
    (h1:it∈X.ex \/ X.s₀.heap.objs.size<=it) (h2:∀x c,X.env.cells.lookup x=aa c->c≠it) (h3:∀p∈X.pn++pj,p.1≠it):Inv X pj σ H { s with heap:=h',toks:=t' }:=by
  have nit:∀b u,H b=aa u->b≠it:=λb u e z=>by rw[z,hn] at e;cases e
  refine I.step (g':=s.gens) (d':=s.drawn) (ch:=[it]) (λb hb=>?_) (λb o _ _ hc e _=>k b o (λz=>hc (by simp[z])) e) (λb o _ _ hc e _=>⟨o.slots,k b o (λz=>hc (by simp[z])) e⟩) (λ_ _ _ _ n=>n)
    (λb o hc e=>⟨o,k b o (λz=>hc (by simp[z])) e⟩) (λ_ _ e=>e) (λ_ _ _ e=>e) (λb ps e=>⟨#[],by rw[e];simp⟩) (λm hm=>?_) (λb u e=>?_) I.bare
  . have e:b=it:=by simpa using hb
    subst e;exact⟨h1,hL,h2,h3⟩
  . obtain⟨o,es,ep,ho,r⟩:=hm;exact⟨o,es,ep,k _ o (Ne.symm hL) ho,r⟩
  . refine(I.hok b u e).stay (λc v hc q=>k c v ?_ q) (λ_ q=>q) (λ_ _ q=>q) λ_ _ q=>q;rcases hc with z | z
    . rw[z];exact nit b u e
    . exact nit c _ z
theorem Inv.tok(I:Inv X pj σ H s)(t:Nat):Inv X pj σ H { s with toks:=t }:=I.un (h':=s.heap) (t':=t) Un.refl I.hok
theorem Inv.kept{t':Nat}(I:Inv X pj σ H s)(k:∀b u,s.heap.get? b=aa u->h'.get? b=aa u):Inv X pj σ H { s with heap:=h',toks:=t' }:=I.un (Un.kept k) (I.hok.kept k)
theorem Inv.laid{a:ah}{o:HO}{t':Nat}(I:Inv X pj σ H s)(k:∀b u,s.heap.get? b=aa u->h'.get? b=aa u)(hp:s.heap.objs.size<=a)(new:cL X.prog X.w (upd H a o) h' a o):
    Inv X pj σ (upd H a o) { s with heap:=h',toks:=t' }:=I.un (Un.laid k hp (I.hok.fresh hp)) (I.hok.laid k hp new)
theorem Inv.write{x e:ah}{o:HO}{t':Nat}(I:Inv X pj σ H s)(mu:EF (H x))(he:e=x \/ H e=aa (.own x))(k:∀b u,b≠e->s.heap.get? b=aa u->h'.get? b=aa u)(heo:∃u,h'.get? e=aa u)
    (new:cL X.prog X.w (upd H x o) h' x o):Inv X pj σ (upd H x o) { s with heap:=h',toks:=t' }:=I.un (Un.write mu he k heo) (I.hok.write mu he k heo new)
theorem Inv.pins_of{pins':List (ah×je)}(I:Inv X pj σ H s)(h:∀p∈pins',s.heap.get? p.1=aa p.2/\H p.1=aq/\p.1≠X.env.locals/\p.1 ∉ X.fs /\ ∀v,p.2.data ≠ .cell v):Inv X pins' σ H s:=
  ⟨I.ok,I.os,I.bare,I.base,I.loc,I.cell,I.free,I.freeC,λp hp=>(gf.mp hp).elim (λz=>I.pin p (jy _ z)) (h p),I.hok,I.len,I.mild⟩
theorem uG(hN:N.Nodup){x:bn}(a:N[i]?=aa x)(b:N[j]?=aa x):i=j:=by
  obtain⟨h1,e1⟩:=da.mp a;obtain⟨h2,e2⟩:=da.mp b;exact(List.getElem_inj hN).mp (e1.trans e2.symm)
theorem w4{x:bn}{Q:Unit->ai->Prop}(I:Inv X pj σ H s)(hN:X.N.Nodup)(hi:X.N[i]?=aa x)(hx:Gs X.env.scope x)(r:cU v u)
    (h:∀s',Inv X pj (σ.set i (aa v)) H s'->(∃a,ss a s.heap s'.heap/\(a=X.env.locals \/ X.env.cells.lookup x=aa a))->Q () s') (hf:autoParam (X.fn x=aj \/ X.env.scope.names.lookup x=aa .local) Gq._auto_1):bi M A (storeName X.env x u) Q E s:=by
  obtain⟨m,hn,hl⟩:=id I.loc;have hcls:(X.env.scope.kind == .class || (X.env.scope.kind == .module&&X.env.locals != X.env.globals))=ap:=by rw[I.ok.kind];rfl
  have hiσ:i<σ.length:=by rw[I.len];exact(da.mp hi).1
  have cne:=I.cne;have tracked:∀{a:ah} {h':cm},(∃o,s.heap.get? a=aa o/\H a=aq)->ss a s.heap h'->l7 X.prog X.w H h':=λ{a h'} ha hs b ob e=>by
    obtain⟨_,_,hfree⟩:=ha;refine(I.hok b ob e).stay (λc w' hc q=>(hs.2 c ?_).trans q) (λ_ q=>q) (λ_ _ q=>q) λ_ _ q=>q;rintro rfl;rcases hc with rfl | hc
    . rw[hfree] at e;cases e
    . rw[hfree] at hc;cases hc
  rcases hx with hk | hk
  . refine wpAny_storeName_local hk hn (λh' hn' hs=>?_) hcls;obtain⟨oL,_,_,hoL,_⟩:=id hn;refine h _ ⟨I.ok,I.os,I.bare,⟨λb o e n hb hx=>?_,λb o e n hb hx=>?_,I.base.free,λb o e hx=>?_,I.base.tups,I.base.frzs,I.base.tbls⟩,⟨_,hn',λj y v' e1 e2 e3=>?_⟩,λy c e=>?_,I.free,I.freeC,λp hp=>?_,tracked ⟨oL,hoL,I.free⟩ hs,by simpa using I.len,I.mild⟩ ⟨_,hs,.inl rfl⟩
    . exact(hs.2 b (fu (dk (az e) I.ok.above))).trans (I.base.keep b o e n hb hx)
    . obtain⟨sl,e1⟩:=I.base.slot b o e n hb hx;exact⟨sl,(hs.2 b (fu (dk (az e) I.ok.above))).trans e1⟩
    . obtain⟨o',e1⟩:=I.base.there b o e hx;exact⟨o',(hs.2 b (fu (dk (az e) I.ok.above))).trans e1⟩
    . by_cases hj:j=i
      . subst hj;rw[hi] at e1;cases e1;rw[jg hiσ] at e2;cases e2;exact⟨u,r,.inl ⟨hk,by simp⟩⟩
      . rw[fe (Ne.symm hj)] at e2;obtain⟨u',r',q⟩:=hl j y v' e1 e2 e3;refine⟨u',r',?_⟩;rcases q with⟨k,e⟩ | ⟨k,c,e,z⟩
        . refine .inl ⟨k,?_⟩;have:y≠x:=λe=>hj (uG hN e1 (e ▸ hi));simp[this,e]
        . exact .inr ⟨k,c,e,z.sameBut hs (cne y c e)⟩
    . obtain⟨w',z⟩:=I.cell y c e;exact⟨w',z.sameBut hs (cne y c e)⟩
    . obtain⟨e,n,ne,nf,d⟩:=I.pin p hp;exact⟨(hs.2 p.1 ne).trans e,n,ne,nf,d⟩
  . have hfn:X.fn x=aj:=by
      rcases hf with z | z
      . exact z
      . rw[z] at hk;cases hk
    obtain⟨c,hc⟩:=I.ok.has x (.inl hk);obtain⟨w',z⟩:=I.cell x c hc;refine wpAny_storeName_cell I.ok.kind hk hc z (λh' hc' hs=>?_);obtain⟨oc,hoc,hocd⟩:=id z;refine h { s with heap:=h' } ⟨I.ok,I.os,I.bare,⟨λb o e n hb hx=>?_,λb o e n hb hx=>?_,I.base.free,λb o e hx=>?_,I.base.tups,I.base.frzs,I.base.tbls⟩,⟨m,hn.sameBut hs (Ne.symm (cne x c hc)),λj y v' e1 e2 e3=>?_⟩,λy c' e=>?_,I.free,I.freeC,λp hp=>?_,tracked ⟨oc,hoc,I.freeC x c hc⟩ hs,by simpa using I.len,I.mild⟩ ⟨c,hs,.inr hc⟩
    . exact(hs.2 b (fu (dk (az e) (I.ok.cab x c hfn hc)))).trans (I.base.keep b o e n hb hx)
    . obtain⟨sl,e1⟩:=I.base.slot b o e n hb hx;exact⟨sl,(hs.2 b (fu (dk (az e) (I.ok.cab x c hfn hc)))).trans e1⟩
    . obtain⟨o',e1⟩:=I.base.there b o e hx;exact⟨o',(hs.2 b (fu (dk (az e) (I.ok.cab x c hfn hc)))).trans e1⟩
    . by_cases hj:j=i
      . subst hj;rw[hi] at e1;cases e1;rw[jg hiσ] at e2;cases e2;exact⟨u,r,.inr ⟨.inl hk,c,hc,hc'⟩⟩
      . rw[fe (Ne.symm hj)] at e2;obtain⟨u',r',q⟩:=hl j y v' e1 e2 e3;refine⟨u',r',?_⟩;rcases q with q | ⟨k,c',e,z'⟩
        . exact .inl q
        . refine .inr ⟨k,c',e,z'.sameBut hs ?_⟩;rintro rfl;exact hj (uG hN e1 (I.ok.inj _ _ _ e hc ▸ hi))
    . by_cases hcc:c'=c
      . subst hcc;exact⟨_,hc'⟩
      . obtain⟨w2,z2⟩:=I.cell y c' e;exact⟨w2,z2.sameBut hs hcc⟩
    . obtain⟨e,n,ne,nf,d⟩:=I.pin p hp;refine⟨(hs.2 p.1 ?_).trans e,n,ne,nf,d⟩;intro q;rw[q,hoc] at e;have q':oc=p.2:=Option.some.inj e;exact d w' (by rw[<- q'];exact hocd)
theorem tP{x:bn}{Q:Unit->ai->Prop}(I:Inv X pj σ H s)(hN:X.N.Nodup)(hi:X.N[i]?=aa x)(hx:Gs X.env.scope x)(r:cU v u)
    (h:∀s',Inv X pj (σ.set i (aa v)) H s'->Q () s') (hf:autoParam (X.fn x=aj \/ X.env.scope.names.lookup x=aa .local) Gq._auto_1):bi M A (storeName X.env x u) Q E s:=
  w4 I hN hi hx r (λs' I' _=>h s' I') hf
theorem Inv.call'(I:Inv X pj σ H s)(ho:s'.os=s.os)(u:Un (frs X.stack) ch H H' s.heap s'.heap)(hok:l7 X.prog X.w H' s'.heap)(hg:vk s'.gens)
    (hch:∀b∈ch,(b∈X.ex \/ X.s₀.heap.objs.size<=b)/\b≠X.env.locals/\(∀x c,X.env.cells.lookup x=aa c->c≠b) /\ ∀p∈X.pn++pj,p.1≠b):Inv X pj σ H' s':=by
  obtain⟨h',g',d',t',o'⟩:=s';have e:o'=s.os:=ho;subst e;exact I.call (g':=g') (t':=t') (d':=d') u hok hg hch
end
noncomputable abbrev XK:=af->Option ah->Hp->Prop
noncomputable abbrev St:=List (Option V)
noncomputable abbrev VK:=V->Hp->Prop
noncomputable abbrev TE:=St->Hp->VK->Prop
noncomputable abbrev TT:=St->Hp->(Bool->Hp->Prop)->Prop
noncomputable abbrev TA:=St->Hp->(List V->Hp->Prop)->Prop
structure Ends where
  nx:St->Hp->Prop
  rt:VK
  bk:St->Hp->Prop:=λ_ _=>False
  ct:St->Hp->Prop:=λ_ _=>False
noncomputable abbrev TS:=Ends->St->Hp->Prop
inductive EP(X:Cx)(pj:List (ah×je))(σ:St)(Q:VK)(u:af)(s':ai):Prop
  |mk (v:V) (H':Hp) (I:Inv X pj σ H' s') (r:cU v u) (q:Q v H')
inductive TP(X:Cx)(pj:List (ah×je))(σ:St)(Q:Bool->Hp->Prop)(b:Bool)(s':ai):Prop
  |mk (H':Hp) (I:Inv X pj σ H' s') (q:Q b H')
inductive AP(X:Cx)(pj:List (ah×je))(σ:St)(Q:List V->Hp->Prop)(us:List af)(s':ai):Prop
  |mk (vs:List V) (H':Hp) (I:Inv X pj σ H' s') (r:bI vs us) (q:Q vs H')
inductive NP(X:Cx)(pj:List (ah×je))(P:St->Hp->Prop)(s':ai):Prop
  |mk (σ':St) (H':Hp) (I:Inv X pj σ' H' s') (q:P σ' H')
inductive RP(X:Cx)(pj:List (ah×je))(P:VK)(u:af)(s':ai):Prop
  |mk (v:V) (σ':St) (H':Hp) (I:Inv X pj σ' H' s') (r:cU v u) (q:P v H')
noncomputable def SP(X:Cx)(pj:List (ah×je))(D:Ends)(f:Flow)(s':ai):Prop:=
  match f with
  | .next=>NP X pj D.nx s'
  | .brk=>NP X pj D.bk s'
  | .cont=>NP X pj D.ct s'
  | .ret u=>RP X pj D.rt u s'
noncomputable def PE(X:Cx)(e:Expr)(t:TE):Prop:=
  ∀(pj:List (ah×je)) (s:ai) (σ:St) (H:Hp) (Q:VK),Inv X pj σ H s->t σ H Q->bi (bu X.prog X.w) X.A (fz e X.env) (EP X pj σ Q) X.xe s
noncomputable def PT(X:Cx)(e:Expr)(t:TT):Prop:=
  ∀(pj:List (ah×je)) (s:ai) (σ:St) (H:Hp) (Q:Bool->Hp->Prop),Inv X pj σ H s->t σ H Q->bi (bu X.prog X.w) X.A (isTrue e X.env (fz e X.env)) (TP X pj σ Q) X.xe s
noncomputable def PW(X:Cx)(e:Expr)(t:TT):Prop:=
  ∀(Wz:Ui af) (pj:List (ah×je)) (s:ai) (σ:St) (H:Hp) (Q:Bool->Hp->Prop),Inv X pj σ H s->t σ H Q->bi (bu X.prog X.w) X.A (isTrue e X.env Wz) (TP X pj σ Q) X.xe s
theorem PW.pt{t:TT}(h:PW X e t):PT X e t:=h _
noncomputable def PA(X:Cx)(es:List Expr)(t:TA):Prop:=
  ∀(pos:jw) (pj:List (ah×je)) (s:ai) (σ:St) (H:Hp) (Q:List V->Hp->Prop),Inv X pj σ H s->t σ H Q->bi (bu X.prog X.w) X.A (spliced (jd pos (ay es X.env))) (AP X pj σ Q) X.xe s
noncomputable def PS(X:Cx)(st:jl)(t:TS):Prop:=
  ∀(pj:List (ah×je)) (s:ai) (σ:St) (H:Hp) (D:Ends),Inv X pj σ H s->t D σ H->bi (bu X.prog X.w) X.A (exec st X.env) (SP X pj D) X.xe s
noncomputable def tG(X:Cx)(st:List jl)(t:TS):Prop:=
  ∀(pj:List (ah×je)) (s:ai) (σ:St) (H:Hp) (D:Ends),Inv X pj σ H s->t D σ H->bi (bu X.prog X.w) X.A (execs st X.env) (SP X pj D) X.xe s
theorem thn{t:Ui α}{Q Q':α->ai->Prop}(h:bi M A t Q E s)(hQ:∀a s,Q a s->Q' a s):bi M A t Q' E s:=fy h hQ λ_ _ x=>x
variable {σ:St}{ta:TE}
section
noncomputable def zV(i:Nat):TE:=λσ H Q=>∃v,σ[i]?=aa (aa v)/\Q v H
noncomputable def tC(v:V):TE:=λ_ H Q=>Q v H
theorem Ju{x:bn}{pos:jw}(hN:X.N[i]?=aa x)(hv:Oi X.env.scope x)(hd:autoParam ((x==("__debug__" : bn))=ap) kX._auto_1)(hcd:autoParam ((x==("__classdict__" : bn))=ap) kX._auto_1):PE X (.Name x pos) (zV i):=by
  intro pj s σ H Q I h;obtain⟨v,e,h⟩:=h;obtain⟨m,hn,hl⟩:=I.loc;obtain⟨u,r,l⟩:=hl i x v hN e hv;have fin:EP X pj σ Q u s:=⟨v,H,I,r,h⟩;rcases l with⟨hk,hm⟩ | ⟨hk,c,hc,Wp⟩
  . exact UJ (wpAny_loadName_local I.ok.kind hk hn hm fin) hd
  . rcases hk with hk | hk
    . exact UJ (wpAny_loadName_cell I.ok.kind hk hc Wp fin) hd
    . exact UJ (wpAny_loadName_free I.ok.kind hk hc Wp fin hcd) hd
theorem K2{i j pos}:PE X (.Constant (.int i) j pos) (tC (.int i)):=λ_ _ _ H _ I h=>wpAny_Constant_int ⟨.int i,H,I.tok _,⟨_,rfl⟩,h⟩
theorem Mh{b j pos}:PE X (.Constant (.bool b) j pos) (tC (.bl b)):=λ_ _ _ H _ I h=>Constant_bool ⟨.bl b,H,I,rfl,h⟩
theorem Jz{j pos}:PE X (.Constant .none j pos) (tC .non):=λ_ _ _ H _ I h=>Constant_none ⟨.non,H,I,rfl,h⟩
theorem Jw{x j pos}:PE X (.Constant (.str x) j pos) (tC (.str x)):=λ_ _ _ H _ I h=>Calls.Constant_str ⟨.str x,H,I.tok _,⟨_,rfl⟩,h⟩
noncomputable def Gl(X:Cx)(x:bn):Prop:=X.env.kindOf x=aa .globalImplicit
theorem n6{x:bn}{pos:jw}(I:Inv X pj σ H s)(hg:Gl X x)(hm:X.mg x=aa u)(h:Q u s)
    (hd:autoParam ((x==("__debug__" : bn))=ap) kX._auto_1):bi (bu X.prog X.w) X.A (fz (.Name x pos) X.env) Q E s:=
  wd I.ok.kind hg (Calls.loadGlobal_global (by rw[I.ok.glob];exact I.mod.glob.keeps I.bk) hm h) hd
theorem oQ{x:bn}{pos:jw}(I:Inv X pj σ H s)(hg:Gl X x)(hm:X.mg x=aq)(hv:ly x=aa u)(h:Q u s)
    (hn:autoParam (x ≠ "__name__") kX._auto_1) (hd:autoParam ((x==("__debug__" : bn))=ap) kX._auto_1):bi (bu X.prog X.w) X.A (fz (.Name x pos) X.env) Q E s:=by
  obtain⟨mb,h1,h2⟩:=I.mod.blt;exact wd I.ok.kind hg (Calls.loadGlobal_builtin (by rw[I.ok.glob];exact I.mod.glob.keeps I.bk) hm (by rw[I.ok.blt];exact h1.keeps I.bk) ((h2 x hn).trans hv) h) hd
theorem CL{x:bn}{pos:jw}(hg:Gl X x)(hm:X.mg x=aa u)(r:cU v u)(hd:autoParam ((x==("__debug__" : bn))=ap) kX._auto_1):PE X (.Name x pos) (tC v):=
  λ_ _ _ H _ I h=>n6 I hg hm ⟨v,H,I,r,h⟩ hd
theorem gC{x:bn}{pos:jw}(hg:Gl X x)(hm:X.mg x=aq)(hv:ly x=aa u)(r:cU v u)(hn:autoParam (x ≠ "__name__") kX._auto_1)(hd:autoParam ((x==("__debug__" : bn))=ap) kX._auto_1):PE X (.Name x pos) (tC v):=
  λ_ _ _ H _ I h=>oQ I hg hm hv ⟨v,H,I,r,h⟩ hn hd
variable {a b:Expr}{tb:TE}{pos:jw}
variable {tA tB':TT}{Wn:List Expr}
noncomputable def PF(t u:TT):TT:=λσ H Q=>t σ H λc H1=>if c=aj then u σ H1 Q else Q ap H1
noncomputable def Rq(t u:TT):TT:=λσ H Q=>t σ H λc H1=>if c=aj then Q aj H1 else u σ H1 Q
noncomputable def P1(t:TT):TT:=λσ H Q=>t σ H λc H1=>Q (!c) H1
theorem HM(ha:PT X a tA):PW X (.BoolOp .And [a] pos) tA:=by
  intro wh pj s σ H Q I h;refine isTrue_and (thn (ha pj s σ H Q I h) λc s1 e=>?_);cases c with
  |true=>exact isTrue_and_nil e
  |false=>exact e
theorem Jh(ha:PT X a tA):PW X (.BoolOp .Or [a] pos) tA:=by
  intro wh pj s σ H Q I h;refine isTrue_or (thn (ha pj s σ H Q I h) λc s1 e=>?_);cases c with
  |false=>exact isTrue_or_nil e
  |true=>exact e
theorem Ji(ha:PT X a tA)(hb:PW X (.BoolOp .And (b::Wn) pos) tB'):PW X (.BoolOp .And (a::b::Wn) pos) (PF tA tB'):=by
  intro wh pj s σ H Q I h;refine isTrue_and (thn (ha pj s σ H _ I h) λc s1 zz=>?_);obtain⟨H1,I1,q1⟩:=zz;cases c with
  |true=>exact hb wh pj s1 σ H1 Q I1 q1
  |false=>exact⟨H1,I1,q1⟩
theorem MZ(ha:PT X a tA)(hb:PW X (.BoolOp .Or (b::Wn) pos) tB'):PW X (.BoolOp .Or (a::b::Wn) pos) (Rq tA tB'):=by
  intro wh pj s σ H Q I h;refine isTrue_or (thn (ha pj s σ H _ I h) λc s1 zz=>?_);obtain⟨H1,I1,q1⟩:=zz;cases c with
  |true=>exact⟨H1,I1,q1⟩
  |false=>exact hb wh pj s1 σ H1 Q I1 q1
theorem Jk(ha:PT X a tA):PT X (.UnaryOp .Not a pos) (P1 tA):=by
  intro pj s σ H Q I h;exact isTrue_not (thn (ha pj s σ H (λc H1=>Q (!c) H1) I h) λc s' z=>by cases z;exact⟨_,by assumption,by assumption⟩)
noncomputable def Lz(ta tb:TE):TE:=λσ H Q=>ta σ H λx H1=>∃c,x=.bl c/\if c=aj then tb σ H1 Q else Q (.bl ap) H1
noncomputable def P0(ta tb:TE):TE:=λσ H Q=>ta σ H λx H1=>∃c,x=.bl c/\if c=aj then Q (.bl aj) H1 else tb σ H1 Q
noncomputable def Lq(ta:TE):TE:=λσ H Q=>ta σ H λx H1=>∃c,x=.bl c/\Q (.bl (!c)) H1
theorem Jx{op}{t:TE}(h:PE X a t):PE X (.BoolOp op [a] pos) t:=λpj s σ H Q I hw=>BoolOp_one (h pj s σ H Q I hw)
theorem K9(ha:PE X a ta)(hb:PE X (.BoolOp .And (b::Wn) pos) tb):PE X (.BoolOp .And (a::b::Wn) pos) (Lz ta tb):=by
  intro pj s σ H Q I h;refine BoolOp_and (thn (ha pj s σ H _ I h) λv s1 zz=>?_);obtain⟨x,H1,I1,r1,q1⟩:=zz;obtain⟨c,rfl,q1⟩:=q1;cases r1;refine gp ?_;cases c with
  |true=>exact hb pj s1 σ H1 Q I1 q1
  |false=>exact⟨.bl ap,H1,I1,rfl,q1⟩
theorem Md(ha:PE X a ta)(hb:PE X (.BoolOp .Or (b::Wn) pos) tb):PE X (.BoolOp .Or (a::b::Wn) pos) (P0 ta tb):=by
  intro pj s σ H Q I h;refine BoolOp_or (thn (ha pj s σ H _ I h) λv s1 zz=>?_);obtain⟨x,H1,I1,r1,q1⟩:=zz;obtain⟨c,rfl,q1⟩:=q1;cases r1;refine gp ?_;cases c with
  |false=>exact hb pj s1 σ H1 Q I1 q1
  |true=>exact⟨.bl aj,H1,I1,rfl,q1⟩
theorem Jy(ha:PE X a ta):PE X (.UnaryOp .Not a pos) (Lq ta):=by
  intro pj s σ H Q I h;refine UnaryOp_ (thn (ha pj s σ H _ I h) λv s1 zz=>?_);obtain⟨x,H1,I1,r1,q1⟩:=zz;obtain⟨c,rfl,q1⟩:=q1;cases r1;exact not_of (gp ⟨.bl (!c),H1,I1,rfl,q1⟩)
end
noncomputable def fJ(K:ak)(H:Hp)(a:ah)(xs:List V):Prop:=
  Rd H a (.lst xs) \/
    ∃(o:je) (its:Array af) (n:Nat),K.lookup a=aa o/\o.cls=.type "list" /\ o.dict=aq/\o.data=.seq its n/\its.size<=bh/\bI xs its.toList
noncomputable def jP(K:ak)(H:Hp)(a:ah)(xs:List V):Prop:=
  Rd H a (.tup xs) \/
    ∃(o:je) (its:Array af) (n:Nat),K.lookup a=aa o/\o.cls=.type "tuple" /\ o.data=.seq its n/\its.size<=bh/\bI xs its.toList
noncomputable def R1:af->Option V
  | .none=>aa .non
  | .bool b=>aa (.bl b)
  | .int i _=>aa (.int i)
  | .str x _=>aa (.str x)
  | .bytes b _=>aa (.byt b)
  | .float b _=>aa (.flt b)
  | .ref a=>aa (.ref a)
  | .type n=>aa (.ty n)
  |_=>aq
theorem cU.abs{x:V}(r:cU x u):R1 u=aa x:=by
  cases x with
  |non=>cases r;rfl
  |bl _=>cases r;rfl
  |int _=>obtain⟨t,rfl⟩:=r;rfl
  |str _=>obtain⟨t,rfl⟩:=r;rfl
  |byt _=>obtain⟨t,rfl⟩:=r;rfl
  |flt _=>obtain⟨t,rfl⟩:=r;rfl
  |ref _=>cases r;rfl
  |ty _=>cases r;rfl
theorem cU.inj{x y:V}{u:af}(r:cU x u)(q:cU y u):x=y:=Option.some.inj (r.abs.symm.trans q.abs)
theorem bI.inj:∀{xs ys:List V} {us:List af},bI xs us->bI ys us->xs=ys
  |_,_,_,.nil,.nil=>rfl
  |_,_,_,.cons r t,.cons r' t'=>by rw[r.inj r',bI.inj t t']
section
variable {xs ys:List V}
theorem fJ.of(h:H a=aa (.lst xs)):fJ K H a xs:=.inl (.inl h)
theorem jP.of(h:H a=aa (.tup xs)):jP K H a xs:=.inl (.inl h)
theorem Inv.list(I:Inv X pj σ H s)(h:fJ X.K H a xs):∃its:List af,bI xs its/\PlainL s.heap a its.toArray/\xs.length<=bh:=by
  rcases h with h | ⟨o,its,n,hk,hc,hd,hs,hz,r⟩
  . obtain⟨z,its,n,r,e⟩:=h.ok I.hok;exact⟨its,r,⟨_,n,e,rfl,rfl,rfl⟩,z⟩
  . refine⟨its.toList,r,⟨o,n,I.kIn a o hk,hc,hd,by simpa using hs⟩,?_⟩;have e:=r.length;simp only[qo] at e;right
theorem Inv.tuple(I:Inv X pj σ H s)(h:jP X.K H a xs):∃its:List af,bI xs its/\Vi s.heap a its.toArray/\xs.length<=bh:=by
  rcases h with h | ⟨o,its,n,hk,hc,hs,hz,r⟩
  . obtain⟨z,its,r,p⟩:=h.ok I.hok;exact⟨its,r,p,z⟩
  . refine⟨its.toList,r,⟨o,I.kIn a o hk,hc,n,by simpa using hs⟩,?_⟩;have e:=r.length;simp only[qo] at e;right
theorem Inv.list_inj(I:Inv X pj σ H s)(h:fJ X.K H a xs)(h':fJ X.K H a ys):xs=ys:=by
  obtain⟨its,r,⟨o,n,e,_,_,d⟩,_⟩:=I.list h;obtain⟨its',r',⟨o',n',e',_,_,d'⟩,_⟩:=I.list h';rw[e] at e';cases e';rw[d] at d';injection d' with d1 _;have:its=its':=by simpa using congrArg Vr d1
  subst this;exact r.inj r'
theorem Inv.tuple_inj(I:Inv X pj σ H s)(h:jP X.K H a xs)(h':jP X.K H a ys):xs=ys:=by
  obtain⟨its,r,⟨o,e,_,n,d⟩,_⟩:=I.tuple h;obtain⟨its',r',⟨o',e',_,n',d'⟩,_⟩:=I.tuple h';rw[e] at e';cases e';rw[d] at d';injection d' with d1 _;have:its=its':=by simpa using congrArg Vr d1
  subst this;exact r.inj r'
end
noncomputable abbrev Cx.wish(X:Cx)(E:af->ai->Prop):Cx:={ X with xe:=E }
noncomputable abbrev Cx.nox(X:Cx):Cx:=X.wish λ_ _=>False
theorem Cx.Ok.wish{X:Cx}(ok:X.Ok)(E:af->ai->Prop):(X.wish E).Ok:=
  ⟨ok.mod,ok.kind,ok.glob,ok.blt,ok.above,ok.inj,ok.has,ok.cab,ok.hd,ok.frames,ok.stk,ok.exf,ok.bs,ok.bsz,ok.noex,ok.exfs,ok.funs,ok.frf,ok.hq⟩
theorem Cx.Ok.unwish(ok:(X.wish E).Ok):X.Ok:=
  ⟨ok.mod,ok.kind,ok.glob,ok.blt,ok.above,ok.inj,ok.has,ok.cab,ok.hd,ok.frames,ok.stk,ok.exf,ok.bs,ok.bsz,ok.noex,ok.exfs,ok.funs,ok.frf,ok.hq⟩
theorem Inv.wish(I:Inv X pj σ H s)(E:af->ai->Prop):Inv (X.wish E) pj σ H s:=⟨I.ok.wish E,I.os,I.bare,I.base,I.loc,I.cell,I.free,I.freeC,I.pin,I.hok,I.len,I.mild⟩
theorem Inv.unwish(I:Inv (X.wish E) pj σ H s):Inv X pj σ H s:=⟨I.ok.unwish,I.os,I.bare,I.base,I.loc,I.cell,I.free,I.freeC,I.pin,I.hok,I.len,I.mild⟩
theorem SP.unwish{D:Ends}{f:Flow}{s':ai}(h:SP (X.wish E) pj D f s'):SP X pj D f s':=by
  cases f with
  |next=>obtain⟨σ',H',I,q⟩:=h;exact⟨σ',H',I.unwish,q⟩
  |brk=>obtain⟨σ',H',I,q⟩:=h;exact⟨σ',H',I.unwish,q⟩
  |cont=>obtain⟨σ',H',I,q⟩:=h;exact⟨σ',H',I.unwish,q⟩
  |ret u=>obtain⟨v,σ',H',I,r,q⟩:=h;exact⟨v,σ',H',I.unwish,r,q⟩
theorem tG.nox{st:List jl}{t:TS}(h:tG X.nox st t):tG X st t:=λpj s σ H D I hw=>
  fy (h pj s σ H D (I.wish _) hw) (λ_ _ q=>q.unwish) λ_ _ z=>ip z
variable {tc:TT}{te:TE}
section
variable {st:jl}{Wn:List jl}{t u:TS}{pos:jw}
noncomputable def Lr:TS:=λD σ H=>D.nx σ H
noncomputable def Oy(t u:TS):TS:=λD σ H=>t { D with nx:=u D } σ H
theorem HU:tG X [] Lr:=λ_ _ σ H _ I h=>rd ⟨σ,H,I,h⟩
theorem AC(h1:PS X st t)(h2:tG X Wn u):tG X (st::Wn) (Oy t u):=by
  intro pj s σ H D I h;refine xu (thn (h1 pj s σ H { D with nx:=u D } I h) λf s1 q=>?_);cases f with
  |next=>
    obtain⟨σ',H',I',q⟩:=q;exact h2 pj s1 σ' H' D I' q
  |ret v=>exact q
  |brk=>exact q
  |cont=>exact q
theorem CI(h1:PS X st t):tG X [st] t:=by
  intro pj s σ H D I h;refine xu (thn (h1 pj s σ H D I h) λf s1 q=>?_);cases f with
  |next=>exact rd q
  |ret v=>exact q
  |brk=>exact q
  |cont=>exact q
theorem Inv.quiet(I:Inv X pj σ H s):interactive X.env=ap:=by simp[interactive,I.ok.kind]
noncomputable def Lv(te:TE):TS:=λD σ H=>te σ H λ_ H1=>D.nx σ H1
theorem sZ(he:PE X e te)(hs:autoParam (ji e aq pos.line X.env=io ap) bV._auto_1):PS X (.Expr e pos) (Lv te):=by
  intro pj s σ H D I h;exact UK (thn (he pj s σ H _ I h) λv s1 zq3=>by obtain⟨x,H1,I1,r1,q1⟩:=zq3;exact⟨σ,H1,I1,q1⟩) I.quiet hs
noncomputable def Oz(te:TE):TS:=λD σ H=>te σ H D.rt
theorem Jn(he:PE X e te):PS X (.Return (aa e) pos) (Oz te):=by
  intro pj s σ H D I h;exact wpAny_Return_some (thn (he pj s σ H _ I h) λv s1 zq4=>by obtain⟨x,H1,I1,r1,q1⟩:=zq4;exact⟨x,σ,H1,I1,r1,q1⟩)
noncomputable def P8(c:TT)(t u:TS):TS:=λD σ H=>c σ H λb H1=>if b=aj then t D σ H1 else u D σ H1
theorem J1{c:Expr}{a b:List jl}(hc:PT X c tc)(ha:tG X a t)(hb:tG X b u):PS X (.If c a b pos) (P8 tc t u):=by
  intro pj s σ H D I h;refine wpAny_If (thn (hc pj s σ H _ I h) λd s1 zz=>?_);obtain⟨H1,I1,q1⟩:=zz;cases d with
  |true=>exact ha pj s1 σ H1 D I1 q1
  |false=>exact hb pj s1 σ H1 D I1 q1
noncomputable def JR:TS:=λ_ _ _=>False
theorem F5:PS X st JR:=λ_ _ _ _ _ _ h=>h.elim
end
noncomputable abbrev TG:=V->St->Hp->(St->Hp->Prop)->Prop
noncomputable abbrev JG:=List V->St->Hp->(St->Hp->Prop)->Prop
noncomputable def PG(X:Cx)(target:Expr)(t:TG):Prop:=
  ∀(pj:List (ah×je)) (s:ai) (σ:St) (H:Hp) (v:V) (u:af) (Q:St->Hp->Prop),Inv X pj σ H s->cU v u->t v σ H Q ->
    bi (bu X.prog X.w) X.A (SZ target X.env u) (λ_ s'=>∃σ' H',Inv X pj σ' H' s'/\Q σ' H') X.xe s
noncomputable def No(X:Cx)(ts:List Expr)(t:JG):Prop:=
  ∀(pj:List (ah×je)) (s:ai) (σ:St) (H:Hp) (vs:List V) (us:List af) (Q:St->Hp->Prop),Inv X pj σ H s->bI vs us->t vs σ H Q ->
    bi (bu X.prog X.w) X.A (assignInOrder ((pi ts X.env).map (·.2)) us) (λ_ s'=>∃σ' H',Inv X pj σ' H' s'/\Q σ' H') X.xe s
variable {WF:jw}{Wv:List jl}
section
variable {pos:jw}
noncomputable def Ah(i:Nat):TG:=λv σ H Q=>Q (σ.set i (aa v)) H
theorem cE{x:bn}(hN:X.N.Nodup)(hi:X.N[i]?=aa x)(hx:Gs X.env.scope x)(hf:autoParam (X.fn x=aj \/ X.env.scope.names.lookup x=aa .local) Gq._auto_1):PG X (.Name x pos) (Ah i):=by
  intro pj s σ H v u Q I r h;exact Tf (tP I hN hi hx r (λs' I'=>⟨_,H,I',h⟩) hf)
noncomputable def NS:JG:=λvs σ H Q=>vs=[]/\Q σ H
noncomputable def JB(t:TG)(u:JG):JG:=λvs σ H Q=>∃v r,vs=v::r/\t v σ H λσ' H'=>u r σ' H' Q
theorem iC:No X [] NS:=by
  intro pj s σ H vs us Q I r h;obtain⟨e,h⟩:=h;subst e;cases r;exact assignInOrder_nil ⟨σ,H,I,h⟩
theorem bP{t:TG}{u:JG}(h1:PG X e t)(h2:No X es u)
    (hs:autoParam ((pi (e::es) X.env).map (·.2)=SZ e X.env::(pi es X.env).map (·.2)) bV._auto_1):No X (e::es) (JB t u):=by
  intro pj s σ H vs us Q I r h;obtain⟨v,vr,e1,h⟩:=h;subst e1;cases r with
  |cons r rr=>
    rw[hs];refine assignInOrder_cons (thn (h1 pj s σ H _ _ _ I r h) λ_ s1 zz=>?_);obtain⟨σ1,H1,I1,q1⟩:=zz;exact h2 pj s1 σ1 H1 _ _ Q I1 rr q1
noncomputable def Qe(K:ak)(n:Nat)(t:JG):TG:=λv σ H Q=>∃a xs,v=.ref a/\jP K H a xs/\xs.length=n/\t xs σ H Q
theorem Jt{k:Nat}{t:JG}(hc:X.calm=aj)(h:No X es t)
    (hn:autoParam ((pi es X.env).length=n) bV._auto_1) (hst:autoParam ((pi es X.env).findIdx? (·.1)=aq) bV._auto_1):PG X (.Tuple es k pos) (Qe X.K n t):=by
  intro pj s σ H v u Q I r hw;obtain⟨a,xs,e1,hq,hl,hw⟩:=hw;subst e1;cases r;obtain⟨its,rv,ht,hz⟩:=I.tuple hq;refine assign_Tuple_tuple (I.ok.hd hc) ht (by simp[hn,<- hl,rv.length]) hst λh' hx=>?_;have I1:Inv X pj σ H { s with heap:=h' }:=I.kept (t':=s.toks) λb o e=>hx b o (fu (az e)) e;exact h pj _ σ H xs _ Q I1 (by simpa using rv) hw
noncomputable def HA(te:TE)(g:TG):TS:=λD σ H=>te σ H λx H1=>g x σ H1 D.nx
theorem Jq{g:TG}(he:PE X e te)(hg:PG X tg g)(hs:autoParam (swapsWithSole [tg] e pos.line X.env=io ap) bV._auto_1)(hw:autoParam (swappedStores [tg] e X.env=io aq) bV._auto_1)
    (h1:autoParam ((pi [tg] X.env).map (·.2)=[SZ tg X.env]) bV._auto_1):PS X (.Assign [tg] e pos) (HA te g):=by
  intro pj s σ H D I h;refine wpAny_Assign_stores (thn (he pj s σ H _ I h) λv s1 ⟨x,H1,I1,r1,q1⟩=>?_) hs hw;rw[h1];exact thn (hg pj s1 σ H1 x v _ I1 r1 q1) λ_ s2 q=>by obtain⟨σ',H',I',q⟩:=q;exact⟨σ',H',I',q⟩
theorem F3{x:bn}(hN:X.N.Nodup)(hi:X.N[i]?=aa x)(hx:Gs X.env.scope x)(he:PE X e te)(hs:autoParam (ji e (aa (.Name x WF)) pos.line X.env=io ap) bV._auto_1)(hf:autoParam (X.fn x=aj \/ X.env.scope.names.lookup x=aa .local) Gq._auto_1):
    PS X (.Assign [.Name x WF] e pos) (HA te (Ah i)):=by
  intro pj s σ H D I h;refine wpAny_Assign_Name (thn (he pj s σ H _ I h) λv s1 ⟨y,H1,I1,r1,q1⟩=>?_) hs;exact tP I1 hN hi hx r1 (λs2 I2=>⟨_,H1,I2,q1⟩) hf
noncomputable def JQ(c:TT)(tb:TS):TS:=λD σ H=>∃W:Nat->St->Hp->Prop,(∃m,W m σ H) /\ ∀m σ H,W m σ H ->
  c σ H λb H1=>if b=aj then ∃N:St->Hp->Prop,(∀σ' H',N σ' H' -> ∃m',m'<m/\W m' σ' H')/\tb { D with nx:=N,ct:=N,bk:=D.nx } σ H1 else D.nx σ H1
theorem F2{c:Expr}{tb:TS}(hp:TX (bu X.prog X.w) X.A X.env X.xe)(hc:PT X c tc)(hb:tG X Wv tb):PS X (.While c Wv [] pos) (JQ tc tb):=by
  intro pj s σ H D I h;obtain⟨W,⟨m0,w0⟩,turn⟩:=h;refine wpAny_While (codeAny_whileLoop (λn s'=>∃σ' H',Inv X pj σ' H' s'/\W n σ' H') ?_ m0 ⟨σ,H,I,w0⟩);rintro n s1 ⟨σ1,H1,I1,w1⟩;refine lv hp (thn (hc pj s1 σ1 H1 _ I1 (turn n σ1 H1 w1)) λb s2 zz=>?_);obtain⟨H2,I2,q2⟩:=zz;cases b with
  |true=>
    obtain⟨N,hN,q2⟩:=q2;rw[Wj rfl];refine lv hp (thn (hb pj s2 σ1 H2 _ I2 q2) λf s3 q3=>?_);cases f with
    |next=>
      obtain⟨σ3,H3,I3,n3⟩:=q3;obtain⟨m',hm,w3⟩:=hN σ3 H3 n3;exact⟨m',hm,σ3,H3,I3,w3⟩
    |cont=>
      obtain⟨σ3,H3,I3,n3⟩:=q3;obtain⟨m',hm,w3⟩:=hN σ3 H3 n3;exact⟨m',hm,σ3,H3,I3,w3⟩
    |brk=>exact q3
    |ret v=>exact q3
  |false=>
    rw[VT iq];exact rd ⟨σ1,H2,I2,q2⟩
end
structure It where
  go:Nat->Hp->Prop
  yld:Nat->Hp->V->Hp->Prop
  stop:Nat->Hp->Prop
noncomputable def v6(X:Cx)(pj:List (ah×je))(H:Hp)(b:ah):Prop:=
  H b=aq/\b≠X.env.locals/\b ∉ X.fs/\(b∈X.ex \/ X.s₀.heap.objs.size<=b)/\(∀x c,X.env.cells.lookup x=aa c->c≠b) /\ ∀p∈X.pn++pj,p.1≠b
theorem Inv.fpOk(I:Inv X pj σ H s)(hb:s.heap.objs.size<=b)(hn:H' b=aq):v6 X pj H' b:=by
  refine⟨hn,zh (dk I.lt hb),I.nofs hb,.inr (kh I.sz hb),λx c e z=>?_,λp hp z=>?_⟩
  . obtain⟨v,q⟩:=I.cell x c e;exact absurd (dk q.lt (by rw[z];exact hb)) (om _)
  . exact absurd (dk (az (I.pin p hp).1) (by rw[z];exact hb)) (om _)
structure Turn(P:au)(w:bt)(K:ak)(tg:Expr)(J:It)(fp:List ah)(it:ah)(tn:Nat->cm->Prop):Prop where
  mem:it∈fp
  obj:∀i h,tn i h -> ∀b∈fp,∃o,h.get? b=aa o /\ ∀v,o.data ≠ .cell v
  keep:∀i h h',tn i h->(∀b∈fp,∀o,h.get? b=aa o->h'.get? b=aa o)->tn i h'
  item:∀(X:Cx),X.prog=P->X.w=w->X.K=K->X.N=X.N -> ∀(i:Nat) (pj:List (ah×je)) (s:ai) (σ:St) (H:Hp) (E:af->ai->Prop),Inv X pj σ H s->(∀b∈fp,v6 X pj H b)->tn i s.heap->J.go i H ->
    bi (bu P w) X.A (pf (.ref it)) (λr s1=>∃u,r=aa u /\
      bi (bu P w) X.A (vb tg (.ref it) u) (λ_ s2=>∃x H',Inv X pj σ H' s2/\cU x u/\J.yld i H x H'/\tn (i+1) s2.heap /\ ∀b∈fp,H' b=aq) E s1) E s
  done:∀(X:Cx),X.prog=P->X.w=w->X.K=K->X.N=X.N -> ∀(i:Nat) (pj:List (ah×je)) (s:ai) (σ:St) (H:Hp) (E:af->ai->Prop),Inv X pj σ H s->(∀b∈fp,v6 X pj H b)->tn i s.heap->J.stop i H ->
    bi (bu P w) X.A (pf (.ref it)) (λr s1=>r=aq/\Inv X pj σ H s1) E s
  self:∀(A:cf) (i:Nat) (s:ai) (Q:af->ai->Prop) (E:af->ai->Prop),tn i s.heap->Q (.ref it) s->bi (bu P w) A (W8 (.ref it)) Q E s
noncomputable abbrev TI:=St->Hp->(It->Hp->Prop)->Prop
noncomputable def Rg(X:Cx)(pj:List (ah×je))(σ:St)(tg:Expr)(R:It->Hp->Prop)(itv:af)(s2:ai):Prop:=
  ∃(it:ah) (fp:List ah) (tn:Nat->cm->Prop) (J:It) (H':Hp),itv=.ref it/\Inv X pj σ H' s2/\Turn X.prog X.w X.K tg J fp it tn/\tn 0 s2.heap/\(∀b∈fp,v6 X pj H' b)/\R J H'
noncomputable def PI(X:Cx)(tg iter:Expr)(wi:TI):Prop:=
  ∀(pj:List (ah×je)) (s:ai) (σ:St) (H:Hp) (R:It->Hp->Prop),Inv X pj σ H s->wi σ H R ->
    bi (bu X.prog X.w) X.A (fz iter X.env) (λv s1=>bi (bu X.prog X.w) X.A (W8 v) (Rg X pj σ tg R) X.xe s1) X.xe s
theorem Ch{n:String}{vs:Array af}{Q:Unit->ai->Prop}(ho:s.heap.get? it=aa o)(hc:o.cls=.type n)(hd:o.data=.fields vs)
    (hn:["enumerate", "zip", "dict_itemiterator", "dict_reverseitemiterator", "odict_iterator", "itertools.zip_longest", "itertools.pairwise"].contains n=ap) (hQ:Q () s):bi M A (vb tg (.ref it) u) Q E s:=by
  unfold vb;cases tg<;>first
    |exact ar hQ
    | (cases u<;>first
        |exact ar hQ
        | (refine ae (SV ho ?_)
           rw[hc,hd];show bi M A (if (["enumerate", "zip", "dict_itemiterator", "dict_reverseitemiterator", "odict_iterator", "itertools.zip_longest", "itertools.pairwise"].contains n&&vs[0]?==aa (oo _))=aj then _ else _) Q E s;rw[VT (by intro h;rw[hn,pk] at h;cases h)];exact ar hQ))
noncomputable def Np(K:ak)(a:ah):It:=
  ⟨λi H=>∃xs x,fJ K H a xs/\xs[i]?=aa x,λi H x H'=>H'=H /\ ∀xs,fJ K H a xs->xs[i]?=aa x,λi H=>∃xs,fJ K H a xs/\xs.length<=i⟩
noncomputable def R9(K:ak)(a:ah):It:=
  ⟨λi H=>∃xs x,jP K H a xs/\xs[i]?=aa x,λi H x H'=>H'=H /\ ∀xs,jP K H a xs->xs[i]?=aa x,λi H=>∃xs,jP K H a xs/\xs.length<=i⟩
noncomputable def Oj(lo:Int)(n:Nat):It:=⟨λi _=>i<n,λi H x H'=>H'=H/\x=.int (lo+i),λi _=>n<=i⟩
theorem Cw(a it:ah):Turn P w K tg (Np K a) [it] it (λi h=>h.IsListIter it a i) where
  mem:=by simp
  obj:=λi h st b hb=>by
    have e:b=it:=by simpa using hb
    subst e;obtain⟨o,e,c,d⟩:=st;exact⟨o,e,λv z=>by rw[d] at z;cases z⟩
  keep:=λi h h' st k=>st.at λo e=>k it (by simp) o e
  item:=by
    intro X hP hw hK hc i pj s σ H E I hf st hg;subst hP hw hK;obtain⟨xs,x,hq,hx⟩:=hg;obtain⟨its,rv,p,hz⟩:=I.list hq;obtain⟨u,hu,ru⟩:=rv.get hx;obtain⟨f0,f1,f2,f3,f4,f5⟩:=hf it (by simp);refine yb st p.isList (x:=u) (by simpa using hu) λh' st' sb=>?_;have I1:Inv X pj σ H { s with heap:=h' }:=I.turned (t':=s.toks) (λb o hb e=>(sb.2 b hb).trans e) f0 f1 f3 f4 f5;obtain⟨o,e,c,d⟩:=id st';exact⟨u,rfl,Ch (s:={ s with heap:=h' }) e c d ∅ ⟨x,H,I1,ru,⟨rfl,λys hy=>by rw[I.list_inj hy hq];exact hx⟩,st',λb hb=>(hf b hb).1⟩⟩
  done:=by
    intro X hP hw hK hc i pj s σ H E I hf st hg;subst hP hw hK;obtain⟨xs,hq,hx⟩:=hg;obtain⟨its,rv,p,hz⟩:=I.list hq;obtain⟨f0,f1,f2,f3,f4,f5⟩:=hf it (by simp);have hl:=rv.length;exact Ak I.qu st p.isList (by simp;right) λh' eb=>⟨rfl,I.turned (t':=s.toks) (λb o hb e=>eb b o hb e) f0 f1 f3 f4 f5⟩
  self:=λ_ _ _ _ _ st h=>ze st h
theorem BB(a it:ah):Turn P w K tg (R9 K a) [it] it (λi h=>h.IsTupleIter it a i) where
  mem:=by simp
  obj:=λi h st b hb=>by
    have e:b=it:=by simpa using hb
    subst e;obtain⟨o,e,c,d⟩:=st;exact⟨o,e,λv z=>by rw[d] at z;cases z⟩
  keep:=λi h h' st k=>st.at λo e=>k it (by simp) o e
  item:=by
    intro X hP hw hK hc i pj s σ H E I hf st hg;subst hP hw hK;obtain⟨xs,x,hq,hx⟩:=hg;obtain⟨its,rv,p,hz⟩:=I.tuple hq;obtain⟨u,hu,ru⟩:=rv.get hx;obtain⟨f0,f1,f2,f3,f4,f5⟩:=hf it (by simp);refine wpAny_pyNext_tuple_item st (show s.heap.IsTuple a its.toArray from p) (x:=u) (by simpa using hu) λh' st' sb=>?_;have I1:Inv X pj σ H { s with heap:=h' }:=I.turned (t':=s.toks) (λb o hb e=>(sb.2 b hb).trans e) f0 f1 f3 f4 f5;obtain⟨o,e,c,d⟩:=id st';exact⟨u,rfl,Ch (s:={ s with heap:=h' }) e c d ∅ ⟨x,H,I1,ru,⟨rfl,λys hy=>by rw[I.tuple_inj hy hq];exact hx⟩,st',λb hb=>(hf b hb).1⟩⟩
  done:=by
    intro X hP hw hK hc i pj s σ H E I hf st hg;subst hP hw hK;obtain⟨xs,hq,hx⟩:=hg;obtain⟨its,rv,p,hz⟩:=I.tuple hq;obtain⟨f0,f1,f2,f3,f4,f5⟩:=hf it (by simp);have hl:=rv.length;exact Dw I.qu st (show s.heap.IsTuple a its.toArray from p) (by simp;right) λh' eb=>⟨rfl,I.turned (t':=s.toks) (λb o hb e=>eb b o hb e) f0 f1 f3 f4 f5⟩
  self:=λ_ _ _ _ _ st h=>wpAny_pyIter_tupleiter st h
theorem BC(it:ah)(lo:Int)(n:Nat):Turn P w K tg (Oj lo n) [it] it (λi h=>rn h it (lo+(i:Nat)*1) ((n:Int)-(i:Nat)) 1) where
  mem:=by simp
  obj:=λi h st b hb=>by
    have e:b=it:=by simpa using hb
    subst e;exact⟨_,st,λv z=>by
      have z':VO _=Data.cell v:=z;cases z'⟩
  keep:=λi h h' st k=>k it (by simp) _ st
  item:=by
    intro X hP hw hK hc i pj s σ H E I hf st hg;subst hP hw hK;obtain⟨f0,f1,f2,f3,f4,f5⟩:=hf it (by simp);refine uK hg st λv h' tk hv st' kk=>?_;obtain⟨t,rfl⟩:=hv;have I1:Inv X pj σ H { s with heap:=h',toks:=tk }:=I.turned (λb o hb e=>kk b o (by simpa using hb) e) f0 f1 f3 f4 f5;refine⟨_,rfl,Ch (s:={ s with heap:=h',toks:=tk }) (n:="range_iterator") st' rfl rfl ∅ ⟨.int (lo+i),H,I1,⟨t,?_⟩,⟨rfl,rfl⟩,st',λb hb=>(hf b hb).1⟩⟩;rw[VP]
  done:=by
    intro X hP hw hK hc i pj s σ H E I hf st hg;subst hP hw hK;obtain⟨f0,f1,f2,f3,f4,f5⟩:=hf it (by simp);exact wX I.qu st (by have:n<=i:=hg;right) λh' eb=>⟨rfl,I.turned (t':=s.toks) (λb o hb e=>eb b o hb e) f0 f1 f3 f4 f5⟩
  self:=λ_ _ _ _ _ st h=>yc st h
variable {fp:List ah}
theorem Ej{R:It->Hp->Prop}{hi:Int}{t u v:Wi}{tk:Nat}(I:Inv X pj σ H s)(h1:-(2 ^ 62)<=lo)(h2:lo<2 ^ 62)(h3:-(2 ^ 62)<=hi)(h4:hi<2 ^ 62)
    (q:R (Oj lo (hi-lo).toNat) H):bi (bu X.prog X.w) X.A (W8 (.ref s.heap.objs.size)) (Rg X pj σ tg R) E { s with heap:=s.heap.push { cls:=.type "range",data:=.fields #[.int lo t,.int hi u,.int 1 v] },toks:=tk }:=by
  refine T0 (IsRange.new ..) (small_one h1 h2 h3 h4) ?_;have I1:Inv X pj σ H { s with heap:=s.heap.push { cls:=.type "range",data:=.fields #[.int lo t,.int hi u,.int 1 v] },toks:=tk }:=I.kept λb o e=>ao _ e;refine⟨(s.heap.push { cls:=.type "range",data:=.fields #[.int lo t,.int hi u,.int 1 v] }).objs.size,[(s.heap.push { cls:=.type "range",data:=.fields #[.int lo t,.int hi u,.int 1 v] }).objs.size],_,_,H,rfl,
    I1.kept (t':=tk) λb o e=>ao _ e,BC _ lo (hi-lo).toNat,?_,λb hb=>?_,q⟩
  . have e1:lo+((0:Nat):Int)*1=lo:=by simp
    have e2:(((hi-lo).toNat:Nat):Int)-((0:Nat):Int)=dj lo hi 1:=by rw[rangeSize_one];split<;>right
    show rn _ _ (lo+((0:Nat):Int)*1) ((((hi-lo).toNat:Nat):Int)-((0:Nat):Int)) 1;rw[e1,e2];exact bw _ rfl
  . have e:b=(s.heap.push { cls:=.type "range",data:=.fields #[.int lo t,.int hi u,.int 1 v] }).objs.size:=by simpa using hb
    subst e;exact I1.fpOk (bj _) (I1.hok.fresh (bj _))
noncomputable def NN(ta:TA):TI:=λσ H R=>ta σ H λvs H1=>∃j:Int,vs=[.int j] /\ -(2 ^ 62)<=j/\j<2 ^ 62/\R (Oj 0 j.toNat) H1
theorem DG{a:Expr}{ta:TA}{pos:jw}(hg:Gl X "range")(hm:X.mg "range" = aq)(ha:PA X [a] ta)(hs:autoParam (ay [a] X.env=[(ap,fz a X.env)]) bV._auto_1):PI X tg (.Call (.Name "range" p) [a] [] pos) (NN ta):=by
  intro pj s σ H R I h;refine Call_ (oQ I hg hm UL (jb (thn (ha pos pj s σ H _ I h) λus s1 ⟨vs,H1,I1,r1,q1⟩=>?_) hs rfl));obtain⟨j,e,q1,q2,q⟩:=q1;subst e;cases r1 with
  |cons r rr=>
    cases rr;obtain⟨t,rfl⟩:=r;exact call_range_1 (Ej I1 ⋯ ⋯ q1 q2 (by simpa using q))
noncomputable def P9(wi:TI)(g:TG)(tb:TS):TS:=λD σ H=>wi σ H λJ H1=>∃W:Nat->Nat->St->Hp->Prop,(∃m,W 0 m σ H1) /\ ∀i m σ H,W i m σ H ->
  (J.stop i H/\D.nx σ H) \/ (J.go i H /\ ∃N:St->Hp->Prop,(∀σ' H',N σ' H' -> ∃m',m'<m/\W (i+1) m' σ' H') /\ ∀x H',J.yld i H x H'->g x σ H' λσ2 H2=>tb { D with nx:=N,ct:=N,bk:=D.nx } σ2 H2)
noncomputable def uA(fp:List ah)(h:cm):List (ah×je):=fp.filterMap λb=>(h.get? b).map λo=>(b,o)
theorem kI(hb:b∈fp)(e:h.get? b=aa o):(b,o)∈uA fp h:=we.mpr ⟨b,hb,by rw[e];rfl⟩
theorem DT{p:ah×je}(hp:p∈uA fp h):p.1∈fp/\h.get? p.1=aa p.2:=by
  obtain⟨b,hb,e⟩:=we.mp hp;cases q:h.get? b with
  |none=>rw[q] at e;cases e
  |some o=>
    rw[q] at e;have e':(b,o)=p:=Option.some.inj e;subst e';exact⟨hb,q⟩
theorem Inv.pinned(I:Inv X pj σ H s)(hf:∀b∈fp,v6 X pj H b)(ho:∀b∈fp,∃o,s.heap.get? b=aa o /\ ∀v,o.data ≠ .cell v):Inv X (pj++uA fp s.heap) σ H s:=
  I.pins_of λp hp=>(gf.mp hp).elim (λz=>I.pin p (fj _ z)) λz=>by
    obtain⟨hb,e⟩:=DT z;obtain⟨f0,f1,f2,_⟩:=hf p.1 hb;obtain⟨o,e',d⟩:=ho p.1 hb;rw[e] at e';cases e';exact⟨e,f0,f1,f2,d⟩
theorem Inv.unpinned{pl:List (ah×je)}(I:Inv X (pj++pl) σ H s):Inv X pj σ H s:=I.pins_of λp hp=>I.pin p (fj _ (jy _ hp))
theorem Jo{iter:Expr}{wi:TI}{g:TG}{tb:TS}{pos:jw}(hp:TX (bu X.prog X.w) X.A X.env X.xe)(hc:X.N=X.N)(hi:PI X tg iter wi)(hg:PG X tg g)(hb:tG X Wv tb)
    (hs:autoParam (∀x,ic iter X.env x=io x) Gp._auto_1):PS X (.For tg iter Wv [] pos) (P9 wi g tb):=by
  intro pj s σ H D I h;refine wpAny_For (thn (hi pj s σ H _ I h) λv s1 h1=>thn h1 λitv s2 h2=>?_) hs;obtain⟨it,fp,tn,J,H2,e,I2,T,st2,f2,W,⟨m0,w0⟩,turn⟩:=h2;subst e;have stat:∀{H':Hp},(∀b∈fp,H' b=aq) -> ∀b∈fp,v6 X pj H' b:=λhn b hb=>⟨hn b hb,(f2 b hb).2⟩;refine codeAny_forLoop_any (λn s'=>∃i σ' H',Inv X pj σ' H' s'/\tn i s'.heap/\(∀b∈fp,H' b=aq)/\W i n σ' H') ?_ m0 ⟨0,σ,H2,I2,st2,λb hb=>(f2 b hb).1,w0⟩;rintro n s3 ⟨i,σ3,H3,I3,st3,fr3,w3⟩;rcases turn i n σ3 H3 w3 with⟨stop,qn⟩ | ⟨go,N,hN,step⟩
  . refine lv hp (thn (T.done X rfl rfl rfl hc i pj s3 σ3 H3 X.xe I3 (stat fr3) st3 stop) λr s4 zz=>?_);obtain⟨hr,I4⟩:=zz;subst hr;exact rd ⟨σ3,H3,I4,qn⟩
  . refine lv hp (thn (T.item X rfl rfl rfl hc i pj s3 σ3 H3 X.xe I3 (stat fr3) st3 go) λr s4 zz=>?_);obtain⟨u,hr,h4⟩:=zz;subst hr;refine lv hp (thn h4 λ_ s5 zz=>?_);obtain⟨x,H5,I5,r5,y5,st5,fr5⟩:=zz;have I5':=I5.pinned (stat fr5) (T.obj _ _ st5);refine lv hp (thn (hg _ s5 σ3 H5 x u _ I5' r5 (step x H5 y5)) λ_ s6 zz=>?_);obtain⟨σ6,H6,I6,q6⟩:=zz;refine lv hp (thn (hb _ s6 σ6 H6 _ I6 q6) λf s7 q7=>?_);have Vk:∀{σ7:St} {H7:Hp},Inv X (pj++uA fp s5.heap) σ7 H7 s7->N σ7 H7 -> ∃m,m<n /\ ∃i σ' H',Inv X pj σ' H' s7/\tn i s7.heap/\(∀b∈fp,H' b=aq)/\W i m σ' H':=λ{σ7 H7} I7 n7=>by
      obtain⟨m',hm,w7⟩:=hN σ7 H7 n7;refine⟨m',hm,i+1,σ7,H7,I7.unpinned,T.keep _ _ _ st5 λb hb o e=>(I7.pin (b,o) (fj _ (fj _ (kI hb e)))).1,λb hb=>?_,w7⟩;obtain⟨o,e,d⟩:=T.obj _ _ st5 b hb;exact(I7.pin (b,o) (fj _ (fj _ (kI hb e)))).2.1
    cases f with
    |next=>obtain⟨σ7,H7,I7,n7⟩:=q7;exact Vk I7 n7
    |cont=>obtain⟨σ7,H7,I7,n7⟩:=q7;exact Vk I7 n7
    |brk=>obtain⟨σ7,H7,I7,q7⟩:=q7;exact⟨σ7,H7,I7.unpinned,q7⟩
    |ret v=>obtain⟨x7,σ7,H7,I7,r7,q7⟩:=q7;exact⟨x7,σ7,H7,I7.unpinned,r7,q7⟩
noncomputable abbrev R2:=V->V->Hp->VK->Prop
noncomputable def jY(X:Cx)(f:af->af->Ui af)(r:R2):Prop:=
  ∀(pj:List (ah×je)) (s:ai) (σ:St) (H:Hp) (x y:V) (v u:af) (Q:VK),Inv X pj σ H s->cU x v->cU y u->r x y H Q ->
    bi (bu X.prog X.w) X.A (f v u) (EP X pj σ Q) X.xe s
noncomputable def R3(X:Cx)(f:af->Ui af)(r:V->Hp->VK->Prop):Prop:=
  ∀(pj:List (ah×je)) (s:ai) (σ:St) (H:Hp) (x:V) (v:af) (Q:VK),Inv X pj σ H s->cU x v->r x H Q ->
    bi (bu X.prog X.w) X.A (f v) (EP X pj σ Q) X.xe s
noncomputable def eP(X:Cx)(f:af)(r:List V->Hp->VK->Prop):Prop:=
  ∀(pj:List (ah×je)) (s:ai) (σ:St) (H:Hp) (xs:List V) (us:List af) (Q:VK),Inv X pj σ H s->bI xs us->r xs H Q ->
    bi (bu X.prog X.w) X.A (call f us) (EP X pj σ Q) X.xe s
noncomputable def R4(X:Cx)(r:V->Hp->(Bool->Hp->Prop)->Prop):Prop:=
  ∀(pj:List (ah×je)) (s:ai) (σ:St) (H:Hp) (x:V) (v:af) (Q:Bool->Hp->Prop),Inv X pj σ H s->cU x v->r x H Q ->
    bi (bu X.prog X.w) X.A (truthy v) (TP X pj σ Q) X.xe s
noncomputable def Lp(r:R2)(ta tb:TE):TE:=λσ H Q=>ta σ H λx H1=>tb σ H1 λy H2=>r x y H2 Q
noncomputable def Ro(r:V->Hp->VK->Prop)(ta:TE):TE:=λσ H Q=>ta σ H λx H1=>r x H1 Q
noncomputable def rI(C:Int->Int->Prop)(g:Int->Int->V):R2:=λx y H Q=>∃i j,x=.int i/\y=.int j/\C i j/\Q (g i j) H
noncomputable def BO(g:Int->Int->V):R2:=λx y H Q=>∃i j,x=.int i/\y=.int j/\Q (g i j) H
noncomputable def rU(g:Int->V):V->Hp->VK->Prop:=λx H Q=>∃i,x=.int i/\Q (g i) H
variable {op op':Uj}{r r':R2}{y:V}
section
variable {a b c:Expr}{tb tc:TE}{pos:jw}
theorem LO(ha:PE X a ta)(hb:PE X b tb){R:V->V->Hp->Prop}(I:Inv X pj σ H s)
    (h:ta σ H λx H1=>tb σ H1 λy H2=>R x y H2)  {f:af->af->Ui af}
    (hf:∀v u s2 x y H2,Inv X pj σ H2 s2->cU x v->cU y u->R x y H2->bi (bu X.prog X.w) X.A (f v u) Q X.xe s2):
    bi (bu X.prog X.w) X.A (fz a X.env) (λv s₁=>bi (bu X.prog X.w) X.A (fz b X.env) (λu s₂=>bi (bu X.prog X.w) X.A (f v u) Q X.xe s₂) X.xe s₁) X.xe s:=by
  refine thn (ha pj s σ H _ I h) λv s1 zz=>?_;obtain⟨x,H1,I1,r1,q1⟩:=zz;refine thn (hb pj s1 σ H1 _ I1 q1) λu s2 zz=>?_;obtain⟨y,H2,I2,r2,q2⟩:=zz;exact hf v u s2 x y H2 I2 r1 r2 q2
theorem Me{op:Operator}(ho:jY X (gz op) r)(ha:PE X a ta)(hb:PE X b tb):PE X (.BinOp a op b pos) (Lp r ta tb):=by
  intro pj s σ H Q I h;exact wpAny_BinOp (LO ha hb I h λv u s2 x y H2 I2 rx ry q=>ho pj s2 σ H2 x y v u Q I2 rx ry q)
theorem Mc{op:UnaryOp}{r:V->Hp->VK->Prop}(ho:R3 X (unaryOp op) r)(ha:PE X a ta):PE X (.UnaryOp op a pos) (Ro r ta):=by
  intro pj s σ H Q I h;exact UnaryOp_ (thn (ha pj s σ H _ I h) λv s1 zq5=>by obtain⟨x,H1,I1,r1,q1⟩:=zq5;exact ho pj s1 σ H1 x v Q I1 r1 q1)
theorem N4{f:af->af->Ui af}{C:Int->Int->Prop}{g:Int->Int->Int}
    (Vb:∀(i j:Int) (t u:Wi) (s:ai) (Q:af->ai->Prop) (E:af->ai->Prop),C i j->Q (.int (g i j) s.toks) { s with toks:=s.toks+1 }->bi (bu X.prog X.w) X.A (f (.int i t) (.int j u)) Q E s):
    jY X f (rI C λi j=>.int (g i j)):=by
  intro pj s σ H x y v u Q I rx ry h;obtain⟨i,j,rfl,rfl,hc,q⟩:=h;obtain⟨t,rfl⟩:=rx;obtain⟨t',rfl⟩:=ry;exact Vb i j t t' s _ _ hc ⟨.int (g i j),H,I.tok _,⟨_,rfl⟩,q⟩
theorem N3{f:af->af->Ui af}{g:Int->Int->Int}
    (Vb:∀(i j:Int) (t u:Wi) (s:ai) (Q:af->ai->Prop) (E:af->ai->Prop),Q (.int (g i j) s.toks) { s with toks:=s.toks+1 }->bi (bu X.prog X.w) X.A (f (.int i t) (.int j u)) Q E s):
    jY X f (BO λi j=>.int (g i j)):=by
  intro pj s σ H x y v u Q I rx ry h;obtain⟨i,j,rfl,rfl,q⟩:=h;obtain⟨t,rfl⟩:=rx;obtain⟨t',rfl⟩:=ry;exact Vb i j t t' s _ _ ⟨.int (g i j),H,I.tok _,⟨_,rfl⟩,q⟩
theorem Ho{f:af->af->Ui af}{g:Int->Int->Bool}
    (Vb:∀(i j:Int) (t u:Wi) (s:ai) (Q:af->ai->Prop) (E:af->ai->Prop),Q (.bool (g i j)) s->bi (bu X.prog X.w) X.A (f (.int i t) (.int j u)) Q E s):
    jY X f (BO λi j=>.bl (g i j)):=by
  intro pj s σ H x y v u Q I rx ry h;obtain⟨i,j,rfl,rfl,q⟩:=h;obtain⟨t,rfl⟩:=rx;obtain⟨t',rfl⟩:=ry;exact Vb i j t t' s _ _ ⟨.bl (g i j),H,I,rfl,q⟩
noncomputable def Go(i j:Int):Prop:=0<=j/\j<=1000000/\i.natAbs<2 ^ 64
noncomputable def LZ(i j:Int):Prop:=(-(2 ^ 64)<i/\i<2 ^ 64) \/ (-(2 ^ 64)<j/\j<2 ^ 64)
theorem LZ.ok{i j:Int}(h:LZ i j):IntMulOk i j:=by
  rcases h with⟨h1,h2⟩ | ⟨h1,h2⟩
  . exact .of_left (intBits_le_64 h1 h2)
  . exact .of_right (intBits_le_64 h1 h2)
theorem KQ:jY X (gz .Add) (BO λi j=>.int (i+j)):=N3 λ_ _ _ _ _ _ _ q=>add_int q
theorem KG:jY X (gz .Sub) (BO λi j=>.int (i-j)):=N3 λ_ _ _ _ _ _ _ q=>sub_int q
theorem KL:jY X (gz .Mod) (rI (λ_ j=>0<j) λi j=>.int (i % j)):=N4 λi j _ _ _ _ _ hc q=>by
  have h1:(0:Int)<j:=hc;exact mod_int' ⋯ (by rw[Int.fmod_eq_emod_of_nonneg i ⋯];exact q)
theorem Hl:jY X (gz .Mod) (rI (λ_ j=>j≠0) λi j=>.int (i.fmod j)):=N4 λ_ _ _ _ _ _ _ hc q=>mod_int' hc q
theorem KH:jY X (gz .LShift) (rI Go λi j=>.int (i*2 ^ j.toNat)):=N4 λ_ _ _ _ _ _ _ hc q=>lshift_int_small hc.1 hc.2.1 hc.2.2 q
theorem Rm{f:af->Ui af}{g:Int->Int}
    (Vb:∀(i:Int) (t:Wi) (s:ai) (Q:af->ai->Prop) (E:af->ai->Prop),Q (.int (g i) s.toks) { s with toks:=s.toks+1 }->bi (bu X.prog X.w) X.A (f (.int i t)) Q E s):
    R3 X f (rU λi=>.int (g i)):=by
  intro pj s σ H x v Q I rx h;obtain⟨i,rfl,q⟩:=h;obtain⟨t,rfl⟩:=rx;exact Vb i t s _ _ ⟨.int (g i),H,I.tok _,⟨_,rfl⟩,q⟩
theorem JM:R3 X (unaryOp .USub) (rU λi=>.int (-i)):=Rm λ_ _ _ _ _ q=>neg_int q
theorem L3{Q:VK}{k k':Bool}(I:Inv X pj σ H s)(q:Q (.bl k) H)(e:k=k'):EP X pj σ Q (.bool k') s:=by
  subst e;exact⟨.bl k,H,I,rfl,q⟩
theorem N0:jY X (ed .Lt) (BO λi j=>.bl (decide (i<j))):=Ho λ_ _ _ _ _ _ _ q=>lt_int q
theorem FP:jY X (ed .LtE) (BO λi j=>.bl (decide (i<=j))):=Ho λ_ _ _ _ _ _ _ q=>le_int q
theorem N1:jY X (ed .Gt) (BO λi j=>.bl (decide (j<i))):=Ho λ_ _ _ _ _ _ _ q=>gt_int q
theorem N2:jY X (ed .GtE) (BO λi j=>.bl (decide (j<=i))):=Ho λ_ _ _ _ _ _ _ q=>ge_int q
theorem KM:jY X (ed .Is) (λx y H Q=>y=.non/\Q (.bl (decide (x=.non))) H):=by
  intro pj s σ H x y v u Q I rx ry h;obtain⟨rfl,q⟩:=h;cases ry;refine is_none_gen (L3 I q ?_);cases x<;>first
    | (cases rx;rfl)
    | (obtain⟨t,rfl⟩:=rx;rfl)
theorem jY.or{f:af->af->Ui af}(h:jY X f r)(h':jY X f r'):jY X f (λx y H Q=>r x y H Q \/ r' x y H Q):=by
  intro pj s σ H x y v u Q I rx ry q;rcases q with q | q
  . exact h pj s σ H x y v u Q I rx ry q
  . exact h' pj s σ H x y v u Q I rx ry q
theorem nomark(b:Expr)(h:autoParam (op ≠ .In) kX._auto_1)(h2:autoParam (op ≠ .NotIn) kX._auto_1):qp op b=ap:=by
  have e1:(op==CmpOp.In)=ap:=by cases op<;>first | rfl | exact absurd rfl h
  have e2:(op==CmpOp.NotIn)=ap:=by cases op<;>first | rfl | exact absurd rfl h2
  cases b<;>simp[qp,e1,e2]
theorem Hc(ho:jY X (ed op) r)(ha:PE X a ta)(hb:PE X b tb)(hm:qp op b=ap):PE X (.Compare a [op] [b] pos) (Lp r ta tb):=by
  intro pj s σ H Q I h;exact wpAny_Compare1 (LO ha hb I h λv u s2 x y H2 I2 rx ry q=>ho pj s2 σ H2 x y v u Q I2 rx ry q) hm
noncomputable def Ir(t:TE):TT:=λσ H Q=>t σ H λx H'=>∃k,x=.bl k/\Q k H'
theorem HS(ho:jY X (ed op) r)(ha:PE X a ta)(hb:PE X b tb)(hm:qp op b=ap):PT X (.Compare a [op] [b] pos) (Ir (Lp r ta tb)):=by
  intro pj s σ H Q I h;refine wpAny_isTrue_Compare1 (thn (ha pj s σ H _ I h) λv s1 ⟨x,H1,I1,r1,q1⟩=>thn (hb pj s1 σ H1 _ I1 q1) λu s2 ⟨y,H2,I2,r2,q2⟩=>
    thn (ho pj s2 σ H2 x y v u _ I2 r1 r2 q2) λc s3 ⟨z,H3,I3,r3,k,e,q3⟩=>?_) hm
  subst e;cases r3;exact gp ⟨H3,I3,q3⟩
noncomputable def BE(r r':R2)(ta tb tc:TE):TE:=λσ H Q=>ta σ H λx H1=>tb σ H1 λy H2=>r x y H2 λz H3=>∃k,z=.bl k /\
  (if k=aj then tc σ H3 λw' H4=>r' y w' H4 Q else Q (.bl ap) H3)
theorem FD(ho:jY X (ed op) r)(ho':jY X (ed op') r')(ha:PE X a ta)(hb:PE X b tb)(hc:PE X c tc)
    (hm:autoParam (TY [op,op'] [b,c]=ap) Nt._auto_1):PE X (.Compare a [op,op'] [b,c] pos) (BE r r' ta tb tc):=by
  intro pj s σ H Q I h;refine Compare_chain (thn (ha pj s σ H _ I h) λv s1 ⟨x,H1,I1,r1,q1⟩=>chain_link (thn (hb pj s1 σ H1 _ I1 q1) λu s2 ⟨y,H2,I2,r2,q2⟩=>
    thn (ho pj s2 σ H2 x y v u _ I2 r1 r2 q2) λd s3 ⟨z,H3,I3,r3,k,e,q3⟩=>?_)) hm
  subst e;cases r3;refine gp ?_;cases k with
  |false=>exact ite_ff ⟨.bl ap,H3,I3,rfl,q3⟩
  |true=>exact ite_tt (chain_last (thn (hc pj s3 σ H3 _ I3 q3) λw' s4 ⟨z',H4,I4,r4,q4⟩=>ho' pj s4 σ H4 y z' u w' Q I4 r2 r4 q4))
theorem F1(ho:jY X (ed op) r)(ho':jY X (ed op') r')(ha:PE X a ta)(hb:PE X b tb)(hc:PE X c tc)
    (hm:autoParam (TY [op,op'] [b,c]=ap) Nt._auto_1):PT X (.Compare a [op,op'] [b,c] pos) (Ir (BE r r' ta tb tc)):=by
  intro pj s σ H Q I h;refine isTrue_chain (thn (ha pj s σ H _ I h) λv s1 ⟨x,H1,I1,r1,q1⟩=>test_link (thn (hb pj s1 σ H1 _ I1 q1) λu s2 ⟨y,H2,I2,r2,q2⟩=>
    thn (ho pj s2 σ H2 x y v u _ I2 r1 r2 q2) λd s3 ⟨z,H3,I3,r3,k,e,q3⟩=>?_)) hm
  subst e;cases r3;refine gp ?_;cases k with
  |false=>
    obtain⟨k',e',q'⟩:=q3;cases e';exact ite_ff ⟨H3,I3,q'⟩
  |true=>
    refine ite_tt (test_last (thn (hc pj s3 σ H3 _ I3 q3) λw' s4 ⟨z',H4,I4,r4,q4⟩=>thn (ho' pj s4 σ H4 y z' u w' _ I4 r2 r4 q4) λd' s5 zz=>?_));obtain⟨z2,H5,I5,r5,k2,e2,q5⟩:=zz;subst e2;cases r5;exact gp ⟨H5,I5,q5⟩
noncomputable def Nm(K:ak)(x:V)(H:Hp)(k:Bool):Prop:=
  match x with
  | .non=>k=ap
  | .bl b=>k=b
  | .int i=>k=(i != 0)
  | .str y=>y.length<=bh/\k=((y.length:Int) != 0)
  | .byt y=>y.size<=bh/\k=((y.size:Int) != 0)
  | .ref p=>(∃xs,fJ K H p xs/\k = !xs.isEmpty) \/ (∃xs,jP K H p xs/\k = !xs.isEmpty) \/ ∃kvs,H p=aa (.dK kvs)/\k = !kvs.isEmpty
  |_=>False
theorem Bp{kvs:List (κ×V)}{vs:List (κ×af)}(r:KV kvs vs):(!vs.isEmpty) = !kvs.isEmpty:=by
  cases r<;>rfl
theorem uL{xs:List V}{its:List af}(r:bI xs its):(!its.toArray.isEmpty) = !xs.isEmpty:=by
  cases r<;>simp
theorem rJ:(bh:Nat)<2 ^ 63:=by rw[ie];decide
theorem JN:R4 X (λx H Q=>∃k,Nm X.K x H k/\Q k H):=by
  intro pj s σ H x v Q I rx h;obtain⟨k,e,q⟩:=h;have hl:=rJ;have hs:bh=16777216:=ie;cases x with
  |non=>
    cases rx;have e':k=ap:=e;subst e';exact truthy_none ⟨H,I,q⟩
  |bl b=>
    cases rx;have e':k=b:=e;subst e';exact gp ⟨H,I,q⟩
  |int i=>
    obtain⟨t,rfl⟩:=rx;have e':k=(i != 0):=e;subst e';exact PySem.P.truthy_int ⟨H,I,q⟩
  |str y=>
    obtain⟨t,rfl⟩:=rx;obtain⟨hy,e'⟩:y.length<=bh/\k=((y.length:Int) != 0):=e;subst e';exact PySem.P.truthy_str ⋯ ⟨H,I.tok _,q⟩
  |byt y=>
    obtain⟨t,rfl⟩:=rx;obtain⟨hy,e'⟩:y.size<=bh/\k=((y.size:Int) != 0):=e;subst e';exact W.truthy_bytes ⋯ ⟨H,I.tok _,q⟩
  |ref p=>
    cases rx;have e':(∃xs,fJ X.K H p xs/\k = !xs.isEmpty) \/ (∃xs,jP X.K H p xs/\k = !xs.isEmpty) \/ ∃kvs,H p=aa (.dK kvs)/\k = !kvs.isEmpty:=e;rcases e' with⟨xs,hx,e'⟩ | ⟨xs,hx,e'⟩ | ⟨kvs,hx,e'⟩
    . subst e';obtain⟨its,r,pl,hz⟩:=I.list hx;have hlen:=r.length;exact wpAny_truthy_list pl.isList (by simp only[dg];right) ⟨H,I.tok _,by rw[uL r];exact q⟩
    . subst e';obtain⟨its,r,pl,hz⟩:=I.tuple hx;have hlen:=r.length;exact truthy_tuple pl (by simp only[dg];right) ⟨H,I.tok _,by rw[uL r];exact q⟩
    . subst e';obtain⟨hz,hS,vs,r,m⟩:kvs.length<=bh/\(p==jn)=ap /\ ∃vs,KV kvs vs/\s.heap.DictOf (eV X.prog X.w) p vs:=I.hok p _ hx;have hlen:kvs.length=vs.length:=Paired.length r;exact wpAny_truthy_dict hS m ⋯ ⟨H,I.tok _,by rw[Bp r];exact q⟩
  |_=>exact(show False from e).elim
theorem Ez(ha:PE X a ta)(he:∀Wz,isTrue a X.env Wz=(do let v <- Wz;Vs a.pos;Vt [v] (truthy v))):
    PT X a (λσ H Q=>ta σ H λx H'=>∃k,Nm X.K x H' k/\Q k H'):=by
  intro pj s σ H Q I h;exact isTrue_plain (thn (ha pj s σ H _ I h) λv s1 zq6=>by obtain⟨x,H1,I1,r1,q1⟩:=zq6;exact JN pj s1 σ H1 x v Q I1 r1 q1) (he _)
theorem Be:jY X (gz .Add) (λx y H Q=>∃i j,x=.str i/\y=.str j/\i.length+j.length<=bh/\Q (.str (i++j)) H):=by
  intro pj s σ H x y v u Q I rx ry h;obtain⟨i,j,rfl,rfl,hz,q⟩:=h;obtain⟨t,rfl⟩:=rx;obtain⟨t',rfl⟩:=ry;exact add_str (λt' tk=>⟨.str (i++j),H,I.tok _,⟨_,rfl⟩,q⟩) hz
theorem iM{x:V}(r:bI [x] us):∃u,us=[u]/\cU x u:=by
  cases r with
  |cons r1 r2=>cases r2;exact⟨_,rfl,r1⟩
theorem zP{x:V}(r:bI [x,y] us):∃u w',us=[u,w']/\cU x u/\cU y w':=by
  cases r with
  |cons r1 r2=>
    cases r2 with
    |cons r3 r4=>cases r4;exact⟨_,_,rfl,r1,r3⟩
theorem Gc:eP X (.builtin "abs") (λxs H Q=>∃i,xs=[.int i]/\Q (.int (if i<0 then -i else i)) H):=by
  intro pj s σ H xs us Q I r h;obtain⟨i,rfl,q⟩:=h;obtain⟨u,rfl,t,rfl⟩:=iM r;exact call_abs_int λu tk=>⟨.int (if i<0 then -i else i),H,I.tok _,⟨_,rfl⟩,q⟩
theorem EA(hc:X.calm=aj):eP X (.builtin "min") (λxs H Q=>∃i j,xs=[.int i,.int j]/\Q (.int (if j<i then j else i)) H):=by
  intro pj s σ H xs us Q I r h;obtain⟨i,j,rfl,q⟩:=h;obtain⟨u,w',rfl,⟨t,rfl⟩,⟨t',rfl⟩⟩:=zP r;refine min_two_ints (I.ok.hd hc) λh' tk k=>⟨_,H,I.kept k,?_,q⟩;by_cases hj:j<i
  . rw[Wj hj,Wj hj];exact⟨_,rfl⟩
  . rw[VT hj,VT hj];exact⟨_,rfl⟩
end
structure ObjM(h:cm)(x dx C:ah)(mA:bn->Option af):Prop where
  obj:h.get? x=aa (uf C dx)
  ns:h.Ns1 dx mA
  ne:dx≠x
variable {dx:ah}{mA:bn->Option af}
theorem DY(n:h.Ns1 dx mA):∃od,h.get? dx=aa od /\ ∀name,UM name od=aa (mA name):=by
  obtain⟨o,es,ep,ho,hd,hk,_,hm⟩:=n;refine⟨o,ho,λname=>?_⟩;have e:=hm name;unfold nsFind findBy at e;rw[<- Array.find?_toList] at e;unfold UM;rw[hd];dsimp only;split
  . rename_i y q;rw[q] at e;exact congrArg aa e
  . rename_i q;rw[q] at e;have a:es.toList.any (·.refKey)=ap:=by
      rw[Tg];intro y hy;obtain⟨z,t,hkey⟩:=hk y (Array.mem_toList_iff.mp hy);simp[DictEntry.refKey,hkey]
    have a':¬es.toList.any (·.refKey)=aj:=by rw[a];exact iq
    rw[VT a'];exact congrArg aa e
theorem ObjM.look{x:ah}(I:ObjM h x dx C mA):∃od,W.InstAt h x (uf C dx) C (aa od) /\ ∀name,UM name od=aa (mA name):=
  let ⟨od,ho,hl⟩:=DY I.ns
  ⟨od,⟨I.obj,rfl,rfl,ho⟩,hl⟩
variable {pl:Ui Bool}{kw:List (bn×af)}{name:bn}
section
variable {x:ah}{v:af}
theorem IW{expr:Bool}(X:K.In s.heap)(I:ObjM s.heap x dx C mA)(hg:T1 K C name=aj)(hh:Uk K C=aj)
    (ha:ix K (.ref C) name=aa aq) (hv:mA name=aa v) (hv':W.handedIn v=aj) (h:Q v { s with toks:=s.toks+1 }):
    bi (bu prog w) A (getAttr (.ref x) name expr) Q E s:=by
  obtain⟨od,J,hl⟩:=I.look;exact W.get_value X J (Sr hg).1 (W.findObj_own hh ha rfl (by rw[hl,hv])) hv' h
theorem GC{Q:af×List af->ai->Prop}(X:K.In s.heap)(I:ObjM s.heap x dx C mA)(hg:T1 K C name=aj)
    (hf:ix K (.ref C) name=aa (aa (.ref f))) (ht:W9 K (.ref f)=aj) (hv:mA name=aq) (h:Q (.ref f,[.ref x]) s):
    bi (bu prog w) A (TZ (.ref x) name pl) Q E s:=by
  obtain⟨od,J,hl⟩:=I.look;exact W.method_fn X J (Sr hg).1 (Sr hg).2 hf (beq_iff_eq.mp ht) (by show (UM name od).map (·.isSome)=aa ap;rw[hl,hv];rfl) h
theorem HC{ns:List bn}{Q:Unit->ai->Prop}(X:K.In s.heap)(I:ObjM s.heap x dx C mA)
    (hs:ix K (.ref C) "__setattr__" = aa (aa (.builtin "object.__setattr__"))) (hp:W.plainOver K C=aj) (ht:Vl K C name=aa aq) (hh:Uk K C=aj)
    (hw:Td mA ns) (hsz:ns.length<=bh)
    (h:∀h',ObjM h' x dx C (λy=>if y=name then aa v else mA y)->ss dx s.heap h'->Q () { s with heap:=h',toks:=s.toks+2 }):
    bi (bu prog w) A (setAttr (.ref x) name v) Q E s:=by
  obtain⟨od,J,hl⟩:=I.look;refine W.set_plain X J hs (W.osa_open (s:={ s with toks:=s.toks+1 }) (r:=aq) X J hp ht λb=>?_);obtain⟨cd,hc,hd'⟩:=W.any_some hh;have hx:s.heap.get? x=aa ⟨.ref C,aa dx,.plain,#[]⟩:=I.obj;refine ae (ar (ae (ae (UN hx (ae (uo.here (s:={ s with toks:=s.toks+1 }) (W.looks_clsIn X hc) ?_))))));rw[hd'];refine ar (a:=aa dx) (ae (ar (ae ?_)));refine wpAny_nsSet1 (s:={ s with toks:=s.toks+1 }) I.ns λh' hn2 hs2=>?_;obtain⟨oD,esD,epD,hoD,hdD,hcD⟩:=hn2.count (PySem.Within.cons name v hw);refine ae (wpAny_lookBehind hoD (by rw[hdD];exact pastItsLine_dict (kh hcD (by rw[cj];right))) ?_);exact ar (h _ ⟨(hs2.2 _ (Ne.symm I.ne)).trans I.obj,hn2,I.ne⟩ hs2)
theorem Fh{R:Vu->ai->Prop}{vs:List af}(X:K.In s.heap)(hm:U0 K C=aj)
    (hi:ix K (.ref C) "__init__" = aa (aa (.ref f))) (hf:W.typeIn K (.ref f)=aa (.type "function"))
    (h:xf (bu prog w) (A.under (.builtin "type.__call__" ⟨.ref C::vs,kw⟩)) (.call (.ref f) ⟨.ref (s.heap.objs.size+1)::vs,kw⟩) (W.InitBack (s.heap.objs.size+1) R)
      { s with heap:=(s.heap.push ni).push (uf C s.heap.objs.size) }):
    xf (bu prog w) A (.call (.ref C) ⟨vs,kw⟩) R s:=by
  obtain⟨hh,g,d,t,os⟩:=s;exact W.make_core (W.makes_of X hm) (wf X hi) (λself=>W.bind_fn X self hf) (.inl rfl) h
end
noncomputable def kG(f:bn)(v:V):List (bn×V)->List (bn×V)
  | []=>[(f,v)]
  | (g,x)::r=>if g=f then (g,v)::r else (g,x)::kG f v r
theorem sH(f g:bn)(v:V):∀fs:List (bn×V),(kG f v fs).lookup g=if g=f then aa v else fs.lookup g
  | []=>by
    show List.lookup g [(f,v)]=_;by_cases h:g=f
    . have hb:(g==f)=aj:=beq_iff_eq.mpr h;simp only[List.lookup,hb,Wj h]
    . have hb:(g==f)=ap:=beq_eq_false_iff_ne.mpr h;simp only[List.lookup,hb,VT h]
  | (k,x)::r=>by
    have ih:=sH f g v r;rw[show kG f v ((k,x)::r)=(if k=f then (k,v)::r else (k,x)::kG f v r) from rfl];by_cases hk:k=f
    . rw[Wj hk];by_cases h:g=k
      . have hb:(g==k)=aj:=beq_iff_eq.mpr h;simp only[List.lookup,hb,Wj (h.trans hk)]
      . have hb:(g==k)=ap:=beq_eq_false_iff_ne.mpr h;simp only[List.lookup,hb,VT (λe:g=f=>h (e.trans hk.symm))]
    . rw[VT hk];by_cases h:g=k
      . have hb:(g==k)=aj:=beq_iff_eq.mpr h;simp only[List.lookup,hb,VT (λe:g=f=>hk (h.symm.trans e))]
      . have hb:(g==k)=ap:=beq_eq_false_iff_ne.mpr h;simp only[List.lookup,hb];exact ih
theorem rK(f:bn)(v:V):∀fs:List (bn×V),f∈(kG f v fs).map (·.1) /\ ∀g,g∈fs.map (·.1)->g∈(kG f v fs).map (·.1)
  | []=>⟨by simp[kG],λg h=>by simp at h⟩
  | (k,x)::r=>by
    obtain⟨i1,i2⟩:=rK f v r;rw[show kG f v ((k,x)::r)=(if k=f then (k,v)::r else (k,x)::kG f v r) from rfl];by_cases hk:k=f
    . rw[Wj hk];subst hk;exact⟨by simp,λg h=>by simpa using h⟩
    . rw[VT hk];refine⟨?_,λg h=>?_⟩
      . rw[dh];exact di _ i1
      . rw[dh] at h ⊢;rcases dt.mp h with e | e
        . exact dt.mpr (.inl e)
        . exact di _ (i2 g e)
theorem sJ(f:bn)(v:V):∀fs:List (bn×V),(kG f v fs).length<=fs.length+1
  | []=>by simp[kG]
  | (k,x)::r=>by
    have ih:=sJ f v r;rw[show kG f v ((k,x)::r)=(if k=f then (k,v)::r else (k,x)::kG f v r) from rfl];by_cases hk:k=f
    . rw[Wj hk,cj,cj];right
    . rw[VT hk,cj,cj];right
theorem nM.some_of{o:Option af}(r:nM (aa v) o):∃u,o=aa u/\cU v u:=by
  cases o with
  |none=>exact(show False from r).elim
  |some u=>exact⟨u,rfl,r⟩
theorem nM.none_of{o:Option af}(r:nM aq o):o=aq:=by
  cases o with
  |none=>rfl
  |some u=>exact(show False from r).elim
theorem Dr(r:cU v u):W.handedIn u=aj:=by
  cases v with
  |non=>cases (show u=eo from r);rfl
  |bl b=>cases (show u=SY b from r);rfl
  |int i=>obtain⟨t,e⟩:=(show ∃t,u=Value.int i t from r);cases e;rfl
  |str x=>obtain⟨t,e⟩:=(show ∃t,u=Value.str x t from r);cases e;rfl
  |byt b=>obtain⟨t,e⟩:=(show ∃t,u=VN b t from r);cases e;rfl
  |flt b=>obtain⟨t,e⟩:=(show ∃t,u=Ug b t from r);cases e;rfl
  |ref a=>cases (show u=Value.ref a from r);rfl
  |ty n=>cases (show u=ue n from r);rfl
section
variable {fs fs':List (bn×V)}
theorem t6(hok:l7 P w H h)(e:H a=aa (.ins C dx fs)):∃mA,ObjM h a dx C mA/\(∀f,nM (fs.lookup f) (mA f))/\Td mA (fs.map (·.1))/\fs.length<=1000/\H dx=aa (.own a):=by
  obtain⟨d,z,ne,ob,mA,n,r,q⟩:=(show cL P w H h a (.ins C dx fs) from hok a _ e);exact⟨mA,⟨ob,n,ne⟩,r,q,z,d⟩
end
structure Cls(K:ak)(C:ah):Prop where
  pg:T1 K C Str.empty=aj
  hd:Uk K C=aj
  po:W.plainOver K C=aj
  sa:ix K (.ref C) "__setattr__" = aa (aa (.builtin "object.__setattr__"))
theorem Cls.get(c:Cls K C)(f:bn):T1 K C f=aj:=c.pg
noncomputable def i5(K:ak)(C:ah)(f:bn):Prop:=ix K (.ref C) f=aa aq
theorem i5.taker{f:bn}(n:i5 K C f):Vl K C f=aa aq:=by
  unfold Vl;rw[show ix K (.ref C) f=aa aq from n];rfl
structure Meth(K:ak)(C:ah)(m:bn)(f:ah):Prop where
  at_:ix K (.ref C) m=aa (aa (.ref f))
  fn:W9 K (.ref f)=aj
  kp:nz K (.ref f)=aj
variable {m:bn}
section
variable {fs:List (bn×V)}{f:bn}
theorem Br{b:Bool}(I:Inv X pj σ H s)(e:H a=aa (.ins C dx fs))(c:Cls X.K C)(n:i5 X.K C f)(l:fs.lookup f=aa v)
    (h:∀u s',Inv X pj σ H s'->cU v u->Q u s'):bi (bu X.prog X.w) A (getAttr (.ref a) f b) Q E s:=by
  obtain⟨mA,O,r,_,_,_⟩:=t6 I.hok e;obtain⟨u,hu,ru⟩:=nM.some_of (v:=v) (o:=mA f) (by rw[<- l];exact r f);exact IW I.kIn O (c.get f) c.hd n hu (Dr ru) (h u _ (I.tok _) ru)
theorem Bq{g:ah}{Q:af×List af->ai->Prop}(I:Inv X pj σ H s)(e:H a=aa (.ins C dx fs))(c:Cls X.K C)(k:Meth X.K C m g)(l:fs.lookup m=aq)
    (h:Q (.ref g,[.ref a]) s):bi (bu X.prog X.w) A (TZ (.ref a) m pl) Q E s:=by
  obtain⟨mA,O,r,_,_,_⟩:=t6 I.hok e;have hn:mA m=aq:=nM.none_of (by rw[<- l];exact r m);exact GC I.kIn O (c.get m) k.at_ k.fn hn h
theorem BH{Q:Unit->ai->Prop}(I:Inv X pj σ H s)(e:H a=aa (.ins C dx fs))(c:Cls X.K C)(n:i5 X.K C f)(hl:fs.length<1000)(ry:cU y u)
    (h:∀s',Inv X pj σ (upd H a (.ins C dx (kG f y fs))) s'->Q () s'):bi (bu X.prog X.w) A (setAttr (.ref a) f u) Q E s:=by
  obtain⟨mA,O,r,wi,_,ho⟩:=t6 I.hok e;have hz:(fs.map (·.1)).length<=bh:=by rw[bv,ie];right
  refine HC I.kIn O c.sa c.po n.taker c.hd wi hz λh' O' sb=>h _ ?_;have hd:∃o,h'.get? dx=aa o:=let ⟨o,_,_,e',_⟩:=O'.ns;⟨o,e'⟩;refine I.write (x:=a) (e:=dx) (by rw[e];exact mm) (.inr ho) (λb q hb z=>(sb.2 b hb).trans z) hd ?_;refine⟨by rw[b9 O.ne];exact ho,?_,O.ne,O'.obj,_,O'.ns,λg=>?_,λg hg=>?_⟩
  . have:=sJ f y fs;right
  . show nM ((kG f y fs).lookup g) (if g=f then aa u else mA g);rw[sH];by_cases q:g=f
    . rw[Wj q,Wj q];exact ry
    . rw[VT q,VT q];exact r g
  . by_cases q:g=f
    . rw[q];exact(rK f y fs).1
    . refine(rK f y fs).2 g (wi g λz=>hg ?_);show (if g=f then aa u else mA g)=aq;rw[VT q];exact z
theorem Inv.made(I:Inv X pj σ H s):Inv X pj σ (upd (upd H s.heap.objs.size (.own (s.heap.objs.size+1))) (s.heap.objs.size+1) (.ins C s.heap.objs.size []))
    { s with heap:=(s.heap.push ni).push (uf C s.heap.objs.size) }:=by
  have e1:(s.heap.push ni).get? s.heap.objs.size=aa ni:=bw s.heap rfl;have e2:((s.heap.push ni).push (uf C s.heap.objs.size)).get? (s.heap.objs.size+1)=aa (uf C s.heap.objs.size):=by
    have:=bw (s.heap.push ni) (o:=uf C s.heap.objs.size) rfl;rwa[sk] at this
  have e3:(s.heap.push ni).Ns s.heap.objs.size (λ_=>aq):=⟨ni,#[],_,e1,rfl,(λe he=>absurd he (by simp)),λ_=>rfl⟩;have I1:=I.laid (a:=s.heap.objs.size) (o:=.own (s.heap.objs.size+1)) (h':=s.heap.push ni) (t':=s.toks) (λb u q=>ao _ q) (bj _) ⟨_,e1⟩;refine I1.laid (a:=s.heap.objs.size+1) (o:=.ins C s.heap.objs.size []) (t':=s.toks) (λb u q=>ao _ q) (VQ (sk _ _)) ?_;have ne:s.heap.objs.size≠s.heap.objs.size+1:=fu (U1 _);refine⟨by rw[b9 ne,bN],lj _,ne,e2,λ_=>aq,(Heap.Ns1.of_empty e3).at λo q=>ao _ q,λ_=>mm,λy hy=>absurd rfl hy⟩
theorem Ij{f:bn}{pos:jw}(hb:mq e f env (fz e env)=fz e env)
    (h:bi (bu prog w) A (fz e env) (λo s₁=>bi (bu prog w) A (getAttr o f aj) Q E s₁) E s):bi (bu prog w) A (fz (.Attribute e f pos) env) Q E s:=
  Attribute_any_ h (by rw[arm_eval_Attribute,hb])
end
noncomputable def PB(K:ak)(ta:TE)(f:bn):TE:=λσ H Q=>ta σ H λx H1=>∃a C dx fs v,x=.ref a/\H1 a=aa (.ins C dx fs)/\Cls K C/\i5 K C f/\fs.lookup f=aa v/\Q v H1
noncomputable def PQ(K:ak)(ta tv:TE)(f:bn):TS:=λD σ H=>tv σ H λy H1=>ta σ H1 λx H2=>∃a C dx fs,x=.ref a/\H2 a=aa (.ins C dx fs)/\Cls K C/\i5 K C f/\fs.length<1000 /\
  D.nx σ (upd H2 a (.ins C dx (kG f y fs)))
section
variable {o Wr:Expr}{f:bn}{pos tpos:jw}{tv:TE}
theorem K3(he:PE X e ta)(hb:mq e f X.env (fz e X.env)=fz e X.env):PE X (.Attribute e f pos) (PB X.K ta f):=by
  intro pj s σ H Q I h;refine Ij hb (thn (he pj s σ H _ I h) λu s1 zz=>?_);obtain⟨x,H1,I1,rx,a,C,dx,fs,v,ex,ea,c,n,l,q⟩:=zz;subst ex;obtain rfl:u=Value.ref a:=rx;exact Br I1 ea c n l λu' s2 I2 ru=>⟨v,H1,I2,ru,q⟩
theorem Jp(ha:PE X o ta)(hv:PE X Wr tv)(hs:ji Wr (aa (.Attribute o f WF)) pos.line X.env=io ap):PS X (.Assign [.Attribute o f WF] Wr pos) (PQ X.K ta tv f):=by
  intro pj s σ H D I h;refine plainObj_wpAny_Assign_Attribute (thn (hv pj s σ H _ I h) λu s1 ⟨y,H1,I1,ry,q⟩=>thn (ha pj s1 σ H1 _ I1 q) λov s2 ⟨x,H2,I2,rx,a,C,dx,fs,ex,ea,c,n,l,q2⟩=>?_) hs;subst ex;obtain rfl:ov=Value.ref a:=rx;exact BH I2 ea c n l ry λs3 I3=>⟨σ,_,I3,q2⟩
end
section
variable {c:af}{b:Bool}
inductive TyOf(K:ak)(H:Hp):V->af->Prop where
  |non:TyOf K H .non (.type "NoneType")
  |bl (x:Bool):TyOf K H (.bl x) (.type "bool")
  |int (i:Int):TyOf K H (.int i) (.type "int")
  |str (x:bn):TyOf K H (.str x) (.type "str")
  |flt (x:UInt64):TyOf K H (.flt x) (.type "float")
  |lst {a:ah} {xs:List V} (e:H a=aa (.lst xs)):TyOf K H (.ref a) (.type "list")
  |frz {a:ah} {o:je} {xs:List V} (e:H a=aa (.frz o (.lst xs))):TyOf K H (.ref a) (.type "list")
  |tup {a:ah} {xs:List V} (e:H a=aa (.tup xs)):TyOf K H (.ref a) (.type "tuple")
  |dK {a:ah} {kvs:List (bU×V)} (e:H a=aa (.dK kvs)):TyOf K H (.ref a) (.type "dict")
  |dT {a:ah} {ep:Nat} {kvs:List (List bU×V)} (e:H a=aa (.dT ep kvs)):TyOf K H (.ref a) (.type "dict")
  |ins {a C dx:ah} {fs:List (bn×V)} (e:H a=aa (.ins C dx fs)) (cl:Cls K C) (ha:ix K (.ref C) "__class__" = aa (aa (.builtin "object.__class__")))
      (hn:zk K (.builtin "object.__class__") "__get__" = aa (aa (.builtin "getset_descriptor.__get__"))) (htk:U2 K (.builtin "object.__class__")=aa aj)
      (hm:Th K C (.type "object")=aa aj):TyOf K H (.ref a) (.ref C)
theorem Dm{x:V}{t:af}(I:Inv X pj σ H s)(rx:cU x u)(ty:TyOf X.K H x t)(e:oa X.K t c=aa b)(h:∀tk,Q (.bool b) { s with toks:=tk }):
    bi (bu X.prog X.w) A (call (.builtin "isinstance") [u,c]) Q E s:=by
  cases ty with
  |non=>cases (show u=eo from rx);exact lx W.kitx_none I.kIn mm e (λz=>nomatch z) h
  |bl y=>cases (show u=SY y from rx);exact lx W.kitx_bool I.kIn mm e (λz=>nomatch z) h
  |int i=>obtain⟨t,q⟩:=(show ∃t,u=Value.int i t from rx);cases q;exact lx W.kitx_int I.kIn mm e (λz=>nomatch z) h
  |str y=>obtain⟨t,q⟩:=(show ∃t,u=Value.str y t from rx);cases q;exact lx W.kitx_str I.kIn mm e (λz=>nomatch z) h
  |flt y=>obtain⟨t,q⟩:=(show ∃t,u=Ug y t from rx);cases q;exact lx W.kitx_float I.kIn mm e (λz=>nomatch z) h
  | @lst a xs ea=>
    cases (show u=Value.ref a from rx);obtain⟨_,_,n,_,h1⟩:=(show cL X.prog X.w H s.heap a (.lst xs) from I.hok a _ ea);exact lx W.kitx_list I.kIn ⟨_,h1,rfl⟩ e (λz=>nomatch z) h
  | @frz a ob xs ea=>
    cases (show u=Value.ref a from rx);obtain⟨_,_,_,n,_,h1⟩:=(show cL X.prog X.w H s.heap a (.frz ob (.lst xs)) from I.hok a _ ea);exact lx W.kitx_list I.kIn ⟨_,h1,rfl⟩ e (λz=>nomatch z) h
  | @tup a xs ea=>
    cases (show u=Value.ref a from rx);obtain⟨_,_,_,p⟩:=(show cL X.prog X.w H s.heap a (.tup xs) from I.hok a _ ea);obtain⟨o,h1,h2,_⟩:=p;exact lx W.kitx_tuple I.kIn ⟨o,h1,h2⟩ e (λz=>nomatch z) h
  | @dK a kvs ea=>
    cases (show u=Value.ref a from rx);obtain⟨_,_,vs,_,p⟩:=(show cL X.prog X.w H s.heap a (.dK kvs) from I.hok a _ ea);obtain⟨o,es,ep,h1,h2,_⟩:=p;exact lx W.kitx_dict I.kIn ⟨o,h1,h2.1⟩ e (λz=>nomatch z) h
  | @dT a ep kvs ea=>
    cases (show u=Value.ref a from rx);obtain⟨_,_,xs,_,o,es,h1,h2,_⟩:=(show cL X.prog X.w H s.heap a (.dT ep kvs) from I.hok a _ ea);exact lx W.kitx_dict I.kIn ⟨o,h1,h2.1⟩ e (λz=>nomatch z) h
  | @ins a C dx fs ea cl ha hn htk hm=>
    cases (show u=Value.ref a from rx);obtain⟨mA,O,_⟩:=t6 I.hok ea;obtain⟨od,J,_⟩:=O.look;exact lx (W.kitx_own (cl.get _) cl.hd ha hn htk hm) I.kIn J e (λz=>nomatch z) h
end
structure Room(k:Nat)(A:cf):Prop where
  hd:A.handled=aq
  dp:A.depth+3*k+5<UO
  un:A.units+16*k+200<lq
theorem Room.mono{k:Nat}(r:Room k A)(h:j<=k):Room j A:=⟨r.hd,by have:=r.dp;right,by have:=r.un;right⟩
theorem Room.deeper{k:Nat}{A:cf}(r:Room (k+1) A)(env:wz):Room k (A.deeper env):=
  ⟨r.hd,by have:=r.dp;show A.depth+1+3*k+5<_;right,by have:=r.un;show A.units+3+16*k+200<_;right⟩
theorem Bm:(A.under (.builtin "type.__call__" ⟨.ref C::us,kw⟩)).depth=A.depth+1:=by
  first | rfl | simp[Tj,Code.weight,Code.isCreation,Code.isGuard,Code.isCaller,Code.frames,Tn,guardIds]
theorem Bl:(A.under (.builtin "type.__call__" ⟨.ref C::us,kw⟩)).units=A.units+1:=by
  first | rfl | simp[Tj,Code.cUnits,Code.frames,Tn]
theorem Room.make{k:Nat}(r:Room (k+1) A)(C:ah)(us:List af)(kw:List (bn×af)):Room k (A.under (.builtin "type.__call__" ⟨.ref C::us,kw⟩)):=
  ⟨r.hd,by have:=r.dp;rw[Bm];right,by have:=r.un;rw[Bl];right⟩
theorem Room.depth{k:Nat}{A:cf}(r:Room k A):A.depth<UO:=by have:=r.dp;right
theorem Room.units{k:Nat}{A:cf}(r:Room k A):A.units+64<lq:=by have:=r.un;right
noncomputable def P6:TA:=λ_ H Q=>Q [] H
noncomputable def Lx(ta:TE)(tr:TA):TA:=λσ H Q=>ta σ H λx H1=>tr σ H1 λxs H2=>Q (x::xs) H2
section
variable {t:TA}{pos:jw}
theorem oG:PA X [] P6:=λ_ _ _ _ H Q I h=>Calls.spliced_nil ⟨[],H,I,.nil,h⟩
theorem gW(ha:PE X e te)(hr:PA X es t)(hs:autoParam (ay (e::es) X.env=(ap,fz e X.env)::ay es X.env) bV._auto_1):PA X (e::es) (Lx te t):=by
  intro pos pj s σ H Q I h;rw[hs];show bi _ _ (spliced ((ap,fz e X.env)::jd pos (ay es X.env))) _ _ s;refine Calls.spliced_cons (thn (ha pj s σ H _ I h) λu s1 zz=>?_);obtain⟨x,H1,I1,r1,q1⟩:=zz;exact thn (hr pos pj s1 σ H1 _ I1 q1) λus s2 zq0=>by obtain⟨xs,H2,I2,r2,q2⟩:=zq0;exact⟨x::xs,H2,I2,.cons r1 r2,q2⟩
noncomputable def Ox(t:TA):TE:=λσ H Q=>t σ H λxs H1=>xs.length<=bh /\ ∀p,H1 p=aq->Q (.ref p) (upd H1 p (.tup xs))
noncomputable def P7(t:TA):TE:=λσ H Q=>t σ H λxs H1=>xs.length<=bh /\ ∀p,H1 p=aq->Q (.ref p) (upd H1 p (.lst xs))
theorem Jv{x1}(h:PA X es t):PE X (.Tuple es x1 pos) (Ox t):=by
  intro pj s σ H Q I hq;refine wpAny_Tuple_spliced (thn (h pos pj s σ H _ I hq) λus s1 ⟨xs,H1,I1,r,z,q⟩=>⟨by rw[<- r.length];exact z,?_⟩);have hf:H1 s1.heap.objs.size=aq:=I1.hok.fresh (bj _);refine⟨.ref s1.heap.objs.size,upd H1 s1.heap.objs.size (.tup xs),I1.laid (t':=s1.toks) (λb u e=>ao _ e) (bj _) ?_,rfl,q _ hf⟩;exact⟨z,us,r,⟨_,bw _ rfl,rfl,_,rfl⟩⟩
theorem K0(h:PA X es t):PE X (.List es pos) (P7 t):=by
  intro pj s σ H Q I hq;refine wpAny_List_spliced (thn (h pos pj s σ H _ I hq) λus s1 ⟨xs,H1,I1,r,z,q⟩=>⟨by rw[<- r.length];exact z,?_⟩);have hf:H1 s1.heap.objs.size=aq:=I1.hok.fresh (bj _);refine⟨.ref s1.heap.objs.size,upd H1 s1.heap.objs.size (.lst xs),I1.laid (t':=s1.toks) (λb u e=>ao _ e) (bj _) ?_,rfl,q _ hf⟩;exact⟨z,us,0,r,bw _ rfl⟩
end
noncomputable abbrev Sp:=List V->Hp->VK->XK->Prop
noncomputable abbrev EH:=List wz->Hp->ai->XK->af->ai->Prop
structure Env0(P:au)(w:bt)(K:ak)(mg:bn->Option af)(base:cm)(A:cf)(outer:List wz)(s:ai)(H:Hp):Prop where
  frames:A.frames=aa outer
  mod:Mod K mg base
  bs:∀b o,base.get? b=aa o->s.heap.get? b=aa o/\H b=aq
  bsz:base.objs.size<=s.heap.objs.size
  funs:s.heap.FunFrames base outer
  frf:∀b∈frs outer,H b=aq
  hok:l7 P w H s.heap
  bare:vk s.gens
noncomputable def CE(outer:List wz)(P:au)(w:bt)(H:Hp)(s:ai)(Q:VK)(u:af)(s':ai):Prop:=
  ∃v H',s'.os=s.os/\vk s'.gens/\Un (frs outer) [] H H' s.heap s'.heap/\l7 P w H' s'.heap/\cU v u/\Q v H'
noncomputable def CR(CX:EH)(outer:List wz)(P:au)(w:bt)(H:Hp)(s:ai)(Q:VK)(E:XK)(r:Vu)(s':ai):Prop:=
  match r with
  | .ok (.ret u)=>CE outer P w H s Q u s'
  | .ok _=>False
  | .error e=>CX outer H s E e s'
structure FnOk(P:au)(w:bt)(K:ak)(mg:bn->Option af)(base:cm)(CX:EH)(k:Nat)(f:ah)(fd:jh)(ps:List bn)(sp:Sp):Prop where
  len:∀vs H Q E,sp vs H Q E->vs.length=ps.length
  run:∀(A:cf) (outer:List wz) (s:ai) (H:Hp) (args:Args) (us:List af) (vs:List V) (Q:VK) (E:XK),Room k A->Env0 P w K mg base A outer s H->To s fd args (ps.zip us)->bI vs us->sp vs H Q E ->
    xf (bu P w) A (.call (.ref f) args) (CR CX outer P w H s Q E) s
theorem Env0.make(e:Env0 P w K mg base A outer s H)(C:ah)(us:List af)(kw:List (bn×af)):
    Env0 P w K mg base (A.under (.builtin "type.__call__" ⟨.ref C::us,kw⟩)) outer s H:=⟨by first | exact e.frames | (simpa [Tj,Code.envs,Tn,pushEnvs] using e.frames),e.mod,e.bs,e.bsz,e.funs,e.frf,e.hok,e.bare⟩
theorem Inv.env0(I:Inv X pj σ H s):Env0 X.prog X.w X.K X.mg X.base X.A X.stack s H:=
  ⟨I.ok.frames,I.ok.mod,I.bs,kh I.ok.bsz I.sz,I.stack,I.stkFree,I.hok,I.bare⟩
theorem Inv.after{Q:VK}(I:Inv X pj σ H s)(h:CE X.stack X.prog X.w H s Q u s'):EP X pj σ Q u s':=by
  obtain⟨v,H',os,bare,un,hok,r,q⟩:=h;obtain⟨hh,g,d,t,os'⟩:=s';obtain rfl:os'=s.os:=os;exact⟨v,H',I.call (h':=hh) (g':=g) (d':=d) (t':=t) (ch:=[]) un hok bare (λb z=>absurd z (by simp)),r,q⟩
noncomputable def Ly(sp:Sp)(dvs:List V)(E:XK)(t:TA):TE:=λσ H Q=>t σ H λvs H1=>sp (vs++dvs) H1 Q E
noncomputable def Ls(C:ah)(m:bn)(sp:Sp)(dvs:List V)(E:XK)(ta:TE)(t:TA):TE:=λσ H Q=>ta σ H λx H1=>∃a dx fs,x=.ref a/\H1 a=aa (.ins C dx fs)/\fs.lookup m=aq /\
  t σ H1 λvs H2=>sp (x::(vs++dvs)) H2 Q E
noncomputable def Lu(C:ah)(sp:Sp)(dvs:List V)(E:XK)(t:TA):TE:=λσ H Q=>t σ H λvs H1=>∀x dx,H1 x=aq->H1 dx=aq->dx≠x ->
  sp (.ref x::(vs++dvs)) (upd (upd H1 dx (.own x)) x (.ins C dx [])) (λv H2=>v=.non/\Q (.ref x) H2) E
noncomputable def i8(K:ak)(fd:jh)(ps:List bn)(ds:List af):Prop:=
  ∀(s:ai) (us:List af),K.In s.heap->(us++ds).length=ps.length->To s fd ⟨us,[]⟩ (ps.zip (us++ds))
variable {fd:jh}
theorem i8.all(h:∀us:List af,us.length=ps.length->VR fd ⟨us,[]⟩=io (ps.zip us)):i8 K fd ps []:=λs us _ hl=>by
  rw[ka] at hl ⊢;exact .of_eq (h us hl)
noncomputable def sB(CX:EH)(X:Cx)(E:XK):Prop:=∀(pj:List (ah×je)) (σ:St) (H:Hp) (s:ai) (e:af) (s':ai),Inv X pj σ H s->CX X.stack H s E e s'->X.xe e s'
variable {vs:List V}{CX:EH}{sp:Sp}{Ww:jw}
section
variable {k:Nat}{dvs:List V}{ds:List af}{E:XK}{x:bn}{pos:jw}{o:Expr}{t:TA}
theorem Eh{Q:VK}(F:FnOk X.prog X.w X.K X.mg X.base CX k f fd ps sp)(hr:Room k X.A)(hb:i8 X.K fd ps ds)(hd:bI dvs ds)(hx:sB CX X E)
    (I:Inv X pj σ H s) (r:bI vs us) (h:sp (vs++dvs) H Q E):bi (bu X.prog X.w) X.A (call (.ref f) us) (EP X pj σ Q) X.xe s:=by
  have r2:bI (vs++dvs) (us++ds):=r.append hd;have hl:(us++ds).length=ps.length:=by rw[<- r2.length];exact F.len _ _ _ _ h
  refine yd (qb (F.run X.A X.stack s H ⟨us,[]⟩ (us++ds) (vs++dvs) Q E hr I.env0 (hb s us I.kIn hl) r2 h) λr s' hq=>?_);cases r with
  |error e=>exact hx pj σ H s e s' I hq
  |ok fl=>
    cases fl with
    |ret u=>exact I.after hq
    |next=>exact ip hq
    |brk=>exact ip hq
    |cont=>exact ip hq
theorem He(F:FnOk X.prog X.w X.K X.mg X.base CX k f fd ps sp)(hr:Room k X.A)(hg:Gl X x)(hm:X.mg x=aa (.ref f))(hk:nz X.K (.ref f)=aj)(hb:i8 X.K fd ps ds)(hd:bI dvs ds)(hx:sB CX X E)
    (ha:PA X (e::es) t) (hdb:autoParam ((x==("__debug__" : bn))=ap) kX._auto_1) (he:autoParam (ay (e::es) X.env=(ap,fz e X.env)::ay es X.env) bV._auto_1) (hpl:autoParam ((jd pos (ay es X.env)).any (·.1)=ap) bV._auto_1):
    PE X (.Call (.Name x p) (e::es) [] pos) (Ly sp dvs E t):=by
  intro pj s σ H Q I h;refine nq (n6 I hg hm ?_ hdb);refine ye (h₀:=X.base) I.ok.mod.kin hk (thn (ha pos pj s σ H _ I h) λus s1 ⟨vs,H1,I1,r,q⟩=>⟨I1.kIn,?_⟩) he hpl;exact Eh F hr hb hd hx I1 r q
theorem Ha(he:PE X o ta)(c:Cls X.K C)(hm:Meth X.K C m f)(F:FnOk X.prog X.w X.K X.mg X.base CX k f fd ps sp)(hr:Room k X.A)(hb:i8 X.K fd ps ds)(hd:bI dvs ds)(hx:sB CX X E)(ha:PA X (e::es) t)
    (hst:autoParam (ay (e::es) X.env=(ap,fz e X.env)::ay es X.env) bV._auto_1) (hpl:autoParam ((jd pos (ay es X.env)).any (·.1)=ap) bV._auto_1)
    (ht:autoParam (fz (.Call (.Attribute o m Ww) (e::es) [] pos) X.env=(do
      let ov <- fz o X.env
      Vs Ww.atName
      let (f,first) <- Vt [ov] (TZ ov m pl)
      callWith pos f first (jd pos (ay (e::es) X.env)) (Tp pos (xg [] X.env)))) bV._auto_1):
    PE X (.Call (.Attribute o m Ww) (e::es) [] pos) (Ls C m sp dvs E ta t):=by
  intro pj s σ H Q I h;refine W.methodCall_KW (pl:=pl) (thn (he pj s σ H _ I h) λu s1 ⟨x,H1,I1,rx,a,dx,fs,ex,ea,l,q⟩=>?_) ht;subst ex;obtain rfl:u=Value.ref a:=rx;refine Bq I1 ea c hm l ?_;refine ye (first:=[.ref a]) (h₀:=X.base) I.ok.mod.kin hm.kp (thn (ha pos pj s1 σ H1 _ I1 q) λus s2 ⟨vs,H2,I2,r,q2⟩=>⟨I2.kIn,?_⟩) hst hpl;exact Eh (us:=.ref a::us) (vs:=.ref a::vs) F hr hb hd hx I2 (.cons rfl r) q2
structure Mk(K:ak)(C f:ah):Prop where
  makes:U0 K C=aj
  init:ix K (.ref C) "__init__" = aa (aa (.ref f))
  fn:W9 K (.ref f)=aj
  kp:nz K (.ref C)=aj
theorem Eg{Q:VK}(M:Mk X.K C f)(F:FnOk X.prog X.w X.K X.mg X.base CX k f fd ps sp)(hr:Room (k+1) X.A)(hb:i8 X.K fd ps ds)(hd:bI dvs ds)
    (hx:sB CX X E) (I:Inv X pj σ H s) (r:bI vs us)
    (h:∀x dx,H x=aq->H dx=aq->dx≠x->sp (.ref x::(vs++dvs)) (upd (upd H dx (.own x)) x (.ins C dx [])) (λv H2=>v=.non/\Q (.ref x) H2) E):
    bi (bu X.prog X.w) X.A (call (.ref C) us) (EP X pj σ Q) X.xe s:=by
  have hq:=h (s.heap.objs.size+1) s.heap.objs.size (I.hok.fresh (vi _)) (I.hok.fresh (bj _)) (fu (U1 _));have I2:=Inv.made (C:=C) I;have r2:bI (V.ref (s.heap.objs.size+1)::(vs++dvs)) (Value.ref (s.heap.objs.size+1)::(us++ds)):=.cons rfl (r.append hd);have hl:(Value.ref (s.heap.objs.size+1)::us++ds).length=ps.length:=by
    have e:=r2.length;rw[F.len _ _ _ _ hq] at e;exact e.symm
  refine yd (Fh (f:=f) I.kIn M.makes M.init (beq_iff_eq.mp M.fn) (qb (F.run _ X.stack _ _ ⟨Value.ref (s.heap.objs.size+1)::us,[]⟩ (Value.ref (s.heap.objs.size+1)::(us++ds)) _ _ E (hr.make C us [])
    (I2.env0.make C us []) (hb _ (Value.ref (s.heap.objs.size+1)::us) I2.kIn hl) r2 hq) λr s' hq'=>?_))
  cases r with
  |error e=>exact hx pj σ _ _ e s' I2 hq'
  |ok fl=>
    cases fl with
    |ret u=>
      obtain⟨v,H',I3,rv,ev,q3⟩:=I2.after hq';subst ev;exact⟨rv,⟨V.ref (s.heap.objs.size+1),H',I3,rfl,q3⟩⟩
    |next=>exact ip hq'
    |brk=>exact ip hq'
    |cont=>exact ip hq'
theorem Hb(M:Mk X.K C f)(F:FnOk X.prog X.w X.K X.mg X.base CX k f fd ps sp)(hr:Room (k+1) X.A)(hg:Gl X x)(hm:X.mg x=aa (.ref C))(hb:i8 X.K fd ps ds)(hd:bI dvs ds)(hx:sB CX X E)
    (ha:PA X (e::es) t) (hdb:autoParam ((x==("__debug__" : bn))=ap) kX._auto_1) (he:autoParam (ay (e::es) X.env=(ap,fz e X.env)::ay es X.env) bV._auto_1) (hpl:autoParam ((jd pos (ay es X.env)).any (·.1)=ap) bV._auto_1):
    PE X (.Call (.Name x p) (e::es) [] pos) (Lu C sp dvs E t):=by
  intro pj s σ H Q I h;refine nq (n6 I hg hm ?_ hdb);refine ye (h₀:=X.base) I.ok.mod.kin M.kp (thn (ha pos pj s σ H _ I h) λus s1 ⟨vs,H1,I1,r,q⟩=>⟨I1.kIn,?_⟩) he hpl;exact Eg M F hr hb hd hx I1 r q
end
section
variable {k:Nat}{ks:List bn}{E:XK}{x:bn}{pos kpos:jw}{o:Expr}{kws:List Si}{t tk:TA}{nm:Option bn}
variable {g:List af->List af->List af}{gV:List V->List V->List V}
end
structure FnScope(N P:List bn)(sc:Scope):Prop where
  kind:sc.kind=.function
  co:sc.isCoroutine=ap
  gen:sc.isGenerator=ap
  nd:N.Nodup
  pre:N.take P.length=P
  par:∀x∈P,sc.names.lookup x=aa .local \/ sc.names.lookup x=aa .cell
  nofree:∀y∈sc.names,y.2 ≠ .free
theorem xC{ke:bn->Option ut}{x:bn}:∀{binds:List (bn×af)} {m:bn->Option af},(∀v,(x,v) ∉ binds)->UP ke binds m x=m x
  | [],_,_=>rfl
  | (n,v)::r,m,h=>by
    unfold UP;rw[xC λw hw=>h w (di _ hw)];split
    . have:x≠n:=by rintro rfl;exact h v de
      simp[this]
    . rfl
theorem xE{ke:bn->Option ut}{x:bn}:∀{binds:List (bn×af)} {m:bn->Option af},(∀v,(x,v) ∉ binds)->UQ ke binds m x=m x
  | [],_,_=>rfl
  | (n,v)::r,m,h=>by
    unfold UQ;rw[xE λw hw=>h w (di _ hw)];split
    . rfl
    . have:x≠n:=by rintro rfl;exact h v de
      simp[this]
theorem xD{ke:bn->Option ut}{x:bn}{v:af}:∀{P:List bn} {vs:List af} {i:Nat} {m:bn->Option af},P.Nodup->P[i]?=aa x->vs[i]?=aa v->ke x=aa .local ->
    UP ke (P.zip vs) m x=aa v
  | [],_,_,_,_,h,_,_=>by simp at h
  |_::_,[],_,_,_,_,h,_=>by simp at h
  |p::P,w::vs,0,m,nd,h1,h2,hk=>by
    simp at h1 h2;subst h1;subst h2;show UP ke ((p,w)::P.zip vs) m p=_;unfold UP;rw[xC λv hv=>(yf.mp nd).1 (UR hv).1,Wj hk];simp
  |p::P,w::vs,i+1,m,nd,h1,h2,hk=>by
    show UP ke ((p,w)::P.zip vs) m x=_;unfold UP;exact xD (i:=i) (yf.mp nd).2 (by simpa using h1) (by simpa using h2) hk
theorem xF{ke:bn->Option ut}{x:bn}{v:af}:∀{P:List bn} {vs:List af} {i:Nat} {m:bn->Option af},P.Nodup->P[i]?=aa x->vs[i]?=aa v->ke x≠aa .local ->
    UQ ke (P.zip vs) m x=aa v
  | [],_,_,_,_,h,_,_=>by simp at h
  |_::_,[],_,_,_,_,h,_=>by simp at h
  |p::P,w::vs,0,m,nd,h1,h2,hk=>by
    simp at h1 h2;subst h1;subst h2;show UQ ke ((p,w)::P.zip vs) m p=_;unfold UQ;rw[xE λv hv=>(yf.mp nd).1 (UR hv).1,VT hk];simp
  |p::P,w::vs,i+1,m,nd,h1,h2,hk=>by
    show UQ ke ((p,w)::P.zip vs) m x=_;unfold UQ;exact xF (i:=i) (yf.mp nd).2 (by simpa using h1) (by simpa using h2) hk
noncomputable def start(N:List bn)(vs:List V):St:=vs.map aa++av (N.length-vs.length) aq
noncomputable def IV(A:cf):List ah:=match A.handled with
  |some (.ref a)=>[a]
  |_=>[]
theorem Dp(h:A.handled=aq):IV A=[]:=by
  unfold IV;rw[h]
noncomputable def gH(CX:EH)(P:au)(w:bt)(K:ak)(mg:bn->Option af)(base:cm)(N:List bn)(Wm:bn)(Wk:Scope)(f:ah)(cd:af)(A:cf)(outer:List wz)(s:ai)(H:Hp)(E:XK):Cx where
  prog:=P
  w:=w
  K:=K
  mg:=mg
  base:=base
  A:=A.deeper (qj Wm Wk s.heap.objs.size f cd)
  N:=N
  s₀:=s
  HZ:=H
  env:=qj Wm Wk s.heap.objs.size f cd
  outer:=outer
  stack:=qj Wm Wk s.heap.objs.size f cd::outer
  ex:=[]
  calm:=aj
  fn:=λ_=>aj
  pn:=[]
  hs:=IV A
  xe:=λe s'=>bi (bu P w) (A.deeper (qj Wm Wk s.heap.objs.size f cd)) (leaving (qj Wm Wk s.heap.objs.size f cd) e) (λ_ s''=>CX outer H s E e s'') (λe' s''=>CX outer H s E e' s'') s'
theorem B2{sc:Scope}{x:bn}(h:sc.names.lookup x=aa .cell):∃c,(Vm n sc.names []).lookup x=aa c:=by
  have q:=U3 sc.names n [] (.inl h);exact xh.mp q
theorem Do{cd:af}{s1:ai}{E:XK}
    (S:FnScope N ps Wk) (hd:A.handled=aq) (e0:Env0 P w K mg base A outer s H) (hl:vs.length=ps.length) (r:bI vs us)
    (x:InCallC s s.heap.objs.size (UP (qj Wm Wk s.heap.objs.size f cd).kindOf (ps.zip us) λ_=>aq) (Vm (s.heap.objs.size+1) Wk.names []) (UQ (qj Wm Wk s.heap.objs.size f cd).kindOf (ps.zip us) λ_=>aq) s1):
    Inv (gH CX P w K mg base N Wm Wk f cd A outer s H E) [] (start N vs) H s1:=by
  have hpl:ps.length<=N.length:=by have:=congrArg List.length S.pre;rw[fw] at this;right
  obtain⟨h1,tk,rfl,hk⟩:=x.done;have noA:∀b:ah,b ∉ (gH CX P w K mg base N Wm Wk f cd A outer s H E).ex:=λb z=>absurd (show b∈([]:List ah) from z) (by simp);refine⟨⟨e0.mod,S.kind,rfl,rfl,bj _,λy z c h1 h2=>?_,λy hy=>?_,λy c _ h=>?_,λ_=>hd,Around.frames_deeper e0.frames,.inr ⟨rfl,rfl⟩,λb z=>absurd z (noA b),e0.bs,e0.bsz,λb _ _=>noA b,λb z=>absurd z (noA b),e0.funs,e0.frf,.inl hd⟩,
    rfl,e0.bare,Un.kept hk,⟨_,x.toInCall.ns,λi y v h1 h2 h3=>?_⟩,λy c h=>⟨_,x.cell y c h⟩,e0.hok.fresh (bj _),λy c h=>?_,λp hp=>absurd (show p∈([]:List (ah×je)) from hp) (by simp),e0.hok.kept hk,?_,λa ha=>absurd (show a∈IV A from ha) (by rw[Dp hd];simp)⟩
  . exact name_of_addr x.apart (gh h1) (gh h2)
  . have hy:Wk.names.lookup y=aa .cell \/ Wk.names.lookup y=aa .free:=hy;rcases hy with hy | hy
    . exact B2 hy
    . exact absurd rfl (S.nofree _ (gh hy))
  . exact zj (x.above y c (gh h))
  . have hi:i<vs.length:=by
      unfold start at h2;by_cases hi:i<vs.length
      . exact hi
      . rw[bg (by simpa using hi)] at h2;rw[iz] at h2;split at h2<;>cases h2
    have ha:vs[i]?=aa v:=by
      unfold start at h2;rw[bo (by simpa using hi),cn] at h2;cases e:vs[i]? with
      |none=>rw[e] at h2;cases h2
      |some a=>rw[e] at h2;cases h2;rfl
    obtain⟨u,hu,rv⟩:=r.get ha;have hp:ps[i]?=aa y:=by
      rw[<- S.pre,ik ⋯];exact h1
    have ndP:ps.Nodup:=by rw[<- S.pre];exact S.nd.sublist (Tq _ _)
    refine⟨u,rv,?_⟩;rcases S.par y (eg hp) with k | k
    . exact .inl ⟨k,xD ndP hp hu k⟩
    . obtain⟨c,e⟩:=B2 (n:=s.heap.objs.size+1) k;refine .inr ⟨.inl k,c,e,?_⟩;have q:=x.cell y c e;rw[xF ndP hp hu (by show Wk.names.lookup y≠_;rw[k];decide)] at q;exact q
  . exact e0.hok.fresh (zj (x.above y c (gh h)))
  . unfold start;show _=N.length;rw[fg,bv,qc];right
theorem JC{k:Nat}{params:Arguments}{dV kV doc pm cdv ct oc:af}{an od:Option ah}
    {osl:Array (Option af)}   (lk:K.lookup f=aa ⟨oc,od,.func (xm name Wm params Wv Wk dV kV doc pm an cdv ct),osl⟩) (hcd:zl K cdv Wm=aj) (S:FnScope N ps Wk)
    (len:∀vs H Q E,sp vs H Q E->vs.length=ps.length)
    (Wu:∀(A:cf) (outer:List wz) (s:ai) (H:Hp) (vs:List V) (Q:VK) (E:XK),Room k (A.deeper (qj Wm Wk s.heap.objs.size f cdv))->sp vs H Q E ->
      ∃t,tG (gH CX P w K mg base N Wm Wk f cdv A outer s H E) Wv t/\t { nx:=λ_ H'=>Q .non H',rt:=Q } (start N vs) H):
    FnOk P w K mg base CX (k+1) f (xm name Wm params Wv Wk dV kV doc pm an cdv ct) ps sp:=by
  refine⟨len,λA outer s H args us vs Q E hr e0 hb r hsp=>?_⟩;have hl:=len _ _ _ _ hsp;have KX:K.In s.heap:=e0.mod.kin.keeps λb o e=>(e0.bs b o e).1;have lim:s.heap.NoLimit:=e0.mod.nolimit.keeps λb o e=>(e0.bs b o e).1;have Ws:∀y∈ps.zip us,Wk.names.lookup y.1=aa .local \/ (Wk.names.lookup y.1=aa .cell/\((Vm (s.heap.objs.size+1) Wk.names []).lookup y.1).isSome=aj):=λ⟨n,v⟩ hy=>by
    rcases S.par n (UR hy).1 with q | q
    . exact .inl q
    . exact .inr ⟨q,U3 _ _ _ (.inl q)⟩
  refine codeAny_call_function hr.depth (KX _ _ lk) rfl S.co S.gen rfl (W.codeRec_of KX hcd) (hb _ _ _ _ ?_);refine wpAny_newFunctionEnv_cells S.kind Ws λenv he s1 x=>?_;subst he;refine⟨lim.keeps x.toInCall.keep,codeAny_func ?_⟩;obtain⟨t,ht,hq⟩:=Wu A outer s H vs Q E (hr.deeper _) hsp;have I:Inv (gH CX P w K mg base N Wm Wk f cdv A outer s H E) [] (start N vs) H s1:=Do S hr.hd e0 hl r x;refine fy (ht [] s1 (start N vs) H _ I hq) (λfl s' hs=>?_) λe s' hs=>hs;have fin:∀{σ':St} {H':Hp} {v:V} {u:af},Inv (gH CX P w K mg base N Wm Wk f cdv A outer s H E) [] σ' H' s'->cU v u->Q v H'->CE outer P w H s Q u s':=
    λ{σ' H' v u} J rv q=>⟨v,H',J.os,J.bare,J.base,J.hok,rv,q⟩
  cases fl with
  |ret u=>
    obtain⟨v,σ',H',J,rv,q⟩:=hs;exact fin J rv q
  |next=>
    obtain⟨σ',H',J,q⟩:=hs;exact fin (v:=V.non) (u:=eo) J rfl q
  |brk=>
    obtain⟨_,_,_,q⟩:=hs;exact ip q
  |cont=>
    obtain⟨_,_,_,q⟩:=hs;exact ip q
section
variable {x:bn}{pos:jw}{t:TA}{id T:String}{r:List V->Hp->VK->Prop}
noncomputable def PC(r:List V->Hp->VK->Prop)(t:TA):TE:=λσ H Q=>t σ H λvs H1=>r vs H1 Q
theorem pZ(hc:eP X (.builtin id) r)(hg:Gl X x)(hm:X.mg x=aq)(hv:ly x=aa (.builtin id))(ha:PA X (e::es) t)(hn:autoParam (x ≠ "__name__") kX._auto_1)(hdb:autoParam ((x==("__debug__" : bn))=ap) kX._auto_1)
    (he:autoParam (ay (e::es) X.env=(ap,fz e X.env)::ay es X.env) bV._auto_1) (hpl:autoParam ((jd pos (ay es X.env)).any (·.1)=ap) bV._auto_1):PE X (.Call (.Name x p) (e::es) [] pos) (PC r t):=by
  intro pj s σ H Q I h;refine nq (oQ I hg hm hv ?_ hn hdb);exact U4 (thn (ha pos pj s σ H _ I h) λus s1 zq1=>by obtain⟨vs,H1,I1,r1,q1⟩:=zq1;exact hc pj s1 σ H1 vs us Q I1 r1 q1) he hpl
theorem rE(hc:eP X (.type T) r)(hg:Gl X x)(hm:X.mg x=aq)(hv:ly x=aa (.type T))(ha:PA X (e::es) t)(hn:autoParam (x ≠ "__name__") kX._auto_1)(hdb:autoParam ((x==("__debug__" : bn))=ap) kX._auto_1)
    (he:autoParam (ay (e::es) X.env=(ap,fz e X.env)::ay es X.env) bV._auto_1) (hpl:autoParam ((jd pos (ay es X.env)).any (·.1)=ap) bV._auto_1):PE X (.Call (.Name x p) (e::es) [] pos) (PC r t):=by
  intro pj s σ H Q I h;refine nq (oQ I hg hm hv ?_ hn hdb);exact jb (thn (ha pos pj s σ H _ I h) λus s1 zq2=>by obtain⟨vs,H1,I1,r1,q1⟩:=zq2;exact hc pj s1 σ H1 vs us Q I1 r1 q1) he hpl
end
end L2
namespace HT
open PySem PyProof.Rows
section
open PySem.SeqAt
open PySem.AutoSeq1 (wpAny_loadPart')
open PySem.MeetsSeq PySem.MeetsSeq2 PySem.MeetsSeq3
end
variable {Q:af->ai->Prop}{sl:ah}{vl vu:af}{lo hi:Option Int}
theorem Ig{t:ah}{vs ws:List af}(ht:Vi s.heap t vs.toArray)(hb:Vi s.heap b ws.toArray)(hv:vs≠[])
    (h1:ws=[]->Q (.ref t) s) (h2:ws≠[]->Q (.ref s.heap.objs.size) { s with heap:=s.heap.push { cls:=.type "tuple",data:=.seq (vs++ws).toArray } })
    (hsz:vs.length+ws.length<=bh):bi (bu prog w) A (gz .Add (.ref t) (.ref b)) Q E s:=by
  obtain⟨⟨cls,dd,data,sl⟩,ho,hc,n,hd⟩:=id ht;obtain⟨⟨cls2,dd2,data2,sl2⟩,ho2,hc2,n2,hd2⟩:=id hb;simp only at hc hd hc2 hd2;subst hc hd hc2 hd2;have e:vs.toArray++ws.toArray=(vs++ws).toArray:=by simp
  by_cases hw:ws=[]
  . exact Ts ⟨_,ho,rfl⟩ ⟨_,ho2,rfl⟩ xv Ss su rp (qv _ _)
      (tuple_addW1 t b vs.toArray ws.toArray n n2 dd dd2 sl sl2 (by simpa using hv) (by simp[hw])) ⟨ho,ho2,h1 hw⟩
  . refine Ts ⟨_,ho,rfl⟩ ⟨_,ho2,rfl⟩ xv Ss su rp (qv _ _)
      (tuple_addW2 t b vs.toArray ws.toArray n n2 dd dd2 sl sl2 (by simpa using hv) (by simpa using hw) (by rw[dg,dg];exact hsz)) ⟨ho,ho2,?_⟩
    rw[e];exact h2 hw
noncomputable def fU(n d:Nat):Option Int->Nat
  |none=>d
  |some v=>if v<0 then (v+(n:Int)).toNat else min v.toNat n
theorem A7(n d:Nat):fU n d aq=d:=rfl
theorem Ja(n d:Nat)(hd:d<=n)(o:Option Int):fU n d o<=n:=by
  cases o with
  |none=>exact hd
  |some v=>
    show (if v<0 then (v+(n:Int)).toNat else min v.toNat n)<=n;by_cases hv:v<0
    . rw[Wj hv];right
    . rw[VT hv];exact Nat.min_le_right _ _
theorem Cp(v:Int)(n d:Nat):(if v<0 then max (v+(n:Int)) 0 else min v (n:Int))=((fU n d (aa v):Nat):Int):=by
  show (if v<0 then max (v+(n:Int)) 0 else min v (n:Int))=(((if v<0 then (v+(n:Int)).toNat else min v.toNat n):Nat):Int);by_cases hv:v<0
  . simp only[Wj hv];right
  . simp only[VT hv];right
theorem C2(lo hi:Option Int)(n:Nat):qg lo hi 1 (n:Int)=(((fU n 0 lo:Nat):Int),((fU n n hi:Nat):Int)):=by
  have h1:¬((1:Int)<0):=⋯;unfold qg;simp only[h1,if_false];refine Prod.ext ?_ ?_
  . cases lo with
    |none=>rfl
    |some v=>exact Cp v n 0
  . cases hi with
    |none=>rfl
    |some v=>exact Cp v n n
theorem BQ(i j:Nat):lu (i:Int) (j:Int) 1=j-i:=by
  unfold lu;have h1:(1:Int) > 0:=⋯;simp only[h1,if_true,Int.ediv_one];split<;>right
theorem tU{v:af}{o:Option Int}{Q:Option Int->ai->Prop}(p:T3 v o)(h:Q o s):bi (bu prog w) A (Uw v) Q E s:=by
  cases p with
  |none=>exact US h
  |int i t=>exact slicePart_int h
theorem rA{Q:Int×Int×Nat->ai->Prop}(hs:s.heap.IsSliceOf sl vl vu .none)(pl:T3 vl lo)(pu:T3 vu hi)
    (h:Q (((fU n 0 lo:Nat):Int),1,fU n n hi-fU n 0 lo) s):bi (bu prog w) A (wg (.ref sl) (io (n:Int))) Q E s:=by
  obtain⟨os,hos,hcs,hds⟩:=id hs;unfold wg V8;refine ae (ae (fc hos hds (x:=vl) rfl (ae (fc hos hds (x:=vu) rfl (ae (fc hos hds (x:=.none) rfl (ar ?_)))))));refine ae (US ?_);show bi _ _ (if ((1:Int)==0)=aj then _ else _) _ _ s;rw[VT ∅];refine ae (tU pl (ae (tU pu (ae (ar ?_)))));show bi _ _ (match qg lo hi 1 (n:Int) with | (lo,hi)=>io (lo,(1:Int),lu lo hi 1)) _ _ s;rw[C2 lo hi n];show bi _ _ (io (((fU n 0 lo:Nat):Int),(1:Int),lu ((fU n 0 lo:Nat):Int) ((fU n n hi:Nat):Int) 1)) _ _ s;rw[BQ];exact ar h
theorem F8(xs:Array af)(i k:Nat):((gc k).filterMap λ(m:Nat)=>xs[((i:Int)+(m:Int)*1).toNat]?).toArray=((xs.toList.drop i).take k).toArray:=by
  have e:(λ(m:Nat)=>xs[((i:Int)+(m:Int)*1).toNat]?)=λm=>xs[i+m]?:=by
    funext m;have:((i:Int)+(m:Int)*1).toNat=i+m:=⋯;rw[this]
  rw[e];have:=pick_run xs i k;rw[List.filterMap_map] at this;have e2:((λx=>xs[x]?) ∘ λx=>i+x)=λm=>xs[i+m]?:=rfl;rw[e2] at this;rw[this]
theorem qH{t:ah}{Wo:Array af}(ht:Vi s.heap t Wo)(hs:s.heap.IsSliceOf sl vl vu .none)(pl:T3 vl lo)(pu:T3 vu hi)
    (hw:¬(fU Wo.size 0 lo=0/\fU Wo.size Wo.size hi=Wo.size))
    (h:Q (.ref s.heap.objs.size) { s with heap:=s.heap.push { cls:=.type "tuple",data:=.seq ((Wo.toList.drop (fU Wo.size 0 lo)).take (fU Wo.size Wo.size hi-fU Wo.size 0 lo)).toArray } })
    (hsz:Wo.size<=bh):bi (bu prog w) A (Tt (.ref t) (.ref sl)) Q E s:=by
  have htake:sizeOk (.seq ((Wo.toList.drop (fU Wo.size 0 lo)).take (fU Wo.size Wo.size hi-fU Wo.size 0 lo)).toArray):=by
    show ((Wo.toList.drop (fU Wo.size 0 lo)).take (fU Wo.size Wo.size hi-fU Wo.size 0 lo)).toArray.size<=bh;rw[dg,fw,zn,qo];right
  have hj:fU Wo.size Wo.size hi<=Wo.size:=Ja _ _ (bj _) hi;obtain⟨os,hos,hcs,hds⟩:=id hs;have hTs:s.TypeIs (.ref sl) "slice" := ⟨os,hos,hcs⟩;unfold Tt
  try with_reducible refine jf ?_
  first | refine ae (ar ?_) | skip
  refine ae (wpAny_sequenceKey ht.typeIs ∅ ?_);refine ae (fm (name:=gn "__getitem__") ht.typeIs mx
    (fh mx ht.typeIs entry_tuple_getitem ?_ (args_tuple_getitem _ _)))
  show bi _ _ (pq (.ref t) >>= _) _ _ s;refine ae (tupleItemsOf_ ht ?_);refine ae (wpAny_typeOf hTs ?_);rw[Wj ∅];refine ae (rA hs pl pu ?_);have hno:¬((((fU Wo.size 0 lo:Nat):Int)==0&&(1:Int)==1&&(fU Wo.size Wo.size hi-fU Wo.size 0 lo)==Wo.size)=aj):=by
    intro q;rw[cg,cg] at q;have q1:((fU Wo.size 0 lo:Nat):Int)=0:=eq_of_beq q.1.1;have q2:fU Wo.size Wo.size hi-fU Wo.size 0 lo=Wo.size:=eq_of_beq q.2;exact hw ⟨⋯,⋯⟩
  show bi _ _ (if (((fU Wo.size 0 lo:Nat):Int)==0&&(1:Int)==1&&(fU Wo.size Wo.size hi-fU Wo.size 0 lo)==Wo.size)=aj then _ else _) _ _ s;rw[VT hno,F8]
  first
    |exact ae (m:=mv _) (gm (ar ⟨_,rfl,ar h⟩) htake)
    |exact ae (m:=mv _) (gm (ae (ar (ar ⟨_,rfl,ar h⟩))) htake)
    |exact ae (ae (m:=mv _) (gm (ar (ar ⟨_,rfl,ar h⟩)) htake))
    |exact ae (ae (m:=mv _) (gm (ar ⟨_,rfl,ar h⟩) htake))
end HT
variable {xs:List L2.V}{H:L2.Hp}{X:L2.Cx}{σ:L2.St}{ns:List Int}{Wt:jw}
namespace L2
noncomputable abbrev TO:=St->Hp->(Option Int->Hp->Prop)->Prop
noncomputable def PO(X:Cx)(e:Option Expr)(t:TO):Prop:=
  ∀(pj:List (ah×je)) (s:ai) (σ:St) (H:Hp) (Q:Option Int->Hp->Prop),Inv X pj σ H s->t σ H Q ->
    bi (bu X.prog X.w) X.A (evalPart e X.env) (λu s'=>∃o H',Inv X pj σ H' s'/\T3 u o/\Q o H') X.xe s
noncomputable def H9:TO:=λ_ H Q=>Q aq H
noncomputable def Lo(t:TE):TO:=λσ H Q=>t σ H λx H1=>∃i,x=.int i/\Q (aa i) H1
theorem kJ:∀{us:List af},bI (ns.map V.int) us->jc us ns:=by
  induction ns with
  |nil=>intro us r;rw[Tu] at r;cases r;exact .nil
  |cons n ns ih=>
    intro us r;rw[dh] at r;cases r with
    |cons r1 r2=>
      obtain⟨t,e⟩:=r1;subst e;exact .cons n t (ih r2)
variable {r:V->Option Int->Option Int->Hp->VK->Prop}
section
variable {te:TE}{lo hi:Option Expr}{tl th:TO}{pos p2:jw}
theorem HX:PO X aq H9:=by
  intro pj s σ H Q I h;rw[evalPart_none];exact ar ⟨aq,H,I,.none,h⟩
theorem HW(h:PE X e te):PO X (aa e) (Lo te):=by
  intro pj s σ H Q I hw;rw[evalPart_some];refine thn (h pj s σ H _ I hw) λu s1 zz=>?_;obtain⟨x,H1,I1,r1,q1⟩:=zz;obtain⟨i,rfl,q⟩:=q1;obtain⟨t,rfl⟩:=r1;exact⟨aa i,H1,I1,.int i t,q⟩
noncomputable def LV(X:Cx)(r:V->Option Int->Option Int->Hp->VK->Prop):Prop:=
  ∀(pj:List (ah×je)) (s:ai) (σ:St) (H:Hp) (x:V) (v vl vu:af) (lo hi:Option Int) (sl:ah) (Q:VK),Inv X pj σ H s->cU x v->s.heap.IsSliceOf sl vl vu .none->T3 vl lo->T3 vu hi->r x lo hi H Q ->
    ∃T id,typeLookup (.type T) "__getitem__" = io (aa (.builtin id))/\s.TypeIs v T/\bi (bu X.prog X.w) X.A (Tt v (.ref sl)) (EP X pj σ Q) X.xe s
theorem LV.or{r':V->Option Int->Option Int->Hp->VK->Prop}(h:LV X r)(h':LV X r'):LV X (λx lo hi H Q=>r x lo hi H Q \/ r' x lo hi H Q):=by
  intro pj s σ H x v vl vu lo hi sl Q I rx hs pl pu q;rcases q with q | q
  . exact h pj s σ H x v vl vu lo hi sl Q I rx hs pl pu q
  . exact h' pj s σ H x v vl vu lo hi sl Q I rx hs pl pu q
noncomputable def Rp(r:V->Option Int->Option Int->Hp->VK->Prop)(te:TE)(tl th:TO):TE:=λσ H Q=>te σ H λx H1=>tl σ H1 λl H2=>th σ H2 λu H3=>r x l u H3 Q
theorem F9(hr:LV X r)(he:PE X e te)(hl:PO X lo tl)(hu:PO X hi th):PE X (.Subscript e (.Slice lo hi aq p2) pos) (Rp r te tl th):=by
  intro pj s σ H Q I h;refine Subscript_ (thn (he pj s σ H _ I h) λv s1 zz=>?_);obtain⟨x,H1,I1,r1,q1⟩:=zz;refine wpAny_Slice (thn (hl pj s1 σ H1 _ I1 q1) λvl s2 ⟨l,H2,I2,pl,q2⟩=>thn (hu pj s2 σ H2 _ I2 q2) λvu s3 zz=>?_);obtain⟨u,H3,I3,pu,q3⟩:=zz;rw[evalPart_none];refine ar ?_;have I4:Inv X pj σ H3 { s3 with heap:=s3.heap.push { cls:=.type "slice",data:=.fields #[vl,vu,.none] } }:=I3.kept (t':=s3.toks) λb ob q=>ao _ q;obtain⟨T,id,hT,ht,hg⟩:=hr pj { s3 with heap:=s3.heap.push { cls:=.type "slice",data:=.fields #[vl,vu,.none] } } σ H3 x v vl vu l u s3.heap.objs.size Q I4 r1 (Heap.IsSliceOf.new ..) pl pu q3;show bi (bu X.prog X.w) X.A (Su e (.Slice lo hi aq p2) v (.ref s3.heap.objs.size)) (EP X pj σ Q) X.xe { s3 with heap:=s3.heap.push { cls:=.type "slice",data:=.fields #[vl,vu,.none] } };exact tail_any (ops:=[.ref s3.heap.objs.size,v]) ht hT hg (by with_unfolding_all rfl)
noncomputable def Ax(xs:List V)(lo hi:Option Int):List V:=(xs.drop (HT.fU xs.length 0 lo)).take (HT.fU xs.length xs.length hi-HT.fU xs.length 0 lo)
theorem sM(xs:List V)(lo hi:Option Int):(Ax xs lo hi).length<=xs.length:=by
  unfold Ax;rw[fw,zn];right
noncomputable def PZ(K:ak):V->Option Int->Option Int->Hp->VK->Prop:=λx lo hi H Q=>∃a xs,x=.ref a/\jP K H a xs /\
  ¬(HT.fU xs.length 0 lo=0/\HT.fU xs.length xs.length hi=xs.length) /\ ∀p,H p=aq->Q (.ref p) (upd H p (.tup (Ax xs lo hi)))
theorem JW:LV X (PZ X.K):=by
  intro pj s σ H x v vl vu lo hi sl Q I rx hs pl pu h;obtain⟨a,xs,rfl,hx,hw,q⟩:=h;cases rx;obtain⟨its,r,ht,hz⟩:=I.tuple hx;have hlen:its.toArray.size=xs.length:=by rw[dg];exact r.length.symm
  refine⟨"tuple",_,mx.lookup,ht.typeIs,?_⟩;refine HT.qH ht hs pl pu (by rw[hlen];exact hw) ?_ (by rw[hlen];exact hz);rw[hlen];refine⟨.ref s.heap.objs.size,_,I.laid (t':=s.toks) (o:=.tup (Ax xs lo hi)) (λb ob q=>ao _ q) (bj _) ?_,rfl,q _ (I.hok.fresh (bj _))⟩;exact⟨kh (sM xs lo hi) hz,_,(r.drop (HT.fU xs.length 0 lo)).take (HT.fU xs.length xs.length hi-HT.fU xs.length 0 lo),IsTup.new _ _⟩
noncomputable def MV(K:ak):R2:=λx y H Q=>∃a b xs ys,x=.ref a/\y=.ref b/\jP K H a xs/\jP K H b ys/\xs≠[]/\xs.length+ys.length<=bh /\
  (ys=[]->Q (.ref a) H)/\(ys≠[] -> ∀p,H p=aq->Q (.ref p) (upd H p (.tup (xs++ys))))
theorem bI.nil_iff(r:bI xs us):us=[] ↔ xs=[]:=by
  cases r with
  |nil=>simp
  |cons _ _=>simp
theorem Hn:jY X (gz .Add) (MV X.K):=by
  intro pj s σ H x y v u Q I rx ry h;obtain⟨a,b,xs,ys,rfl,rfl,ha,hb,hx,hz,q1,q2⟩:=h;cases rx;cases ry;obtain⟨its,r1,p1,_⟩:=I.tuple ha;obtain⟨its2,r2,p2,_⟩:=I.tuple hb;refine HT.Ig p1 p2 (λz=>hx (r1.nil_iff.mp z)) (λz=>⟨.ref a,H,I,rfl,q1 (r2.nil_iff.mp z)⟩) (λz=>?_) (by rw[<- r1.length,<- r2.length];exact hz);refine⟨.ref s.heap.objs.size,_,I.laid (t':=s.toks) (o:=.tup (xs++ys)) (λb ob q=>ao _ q) (bj _) ?_,rfl,q2 (λw=>z (r2.nil_iff.mpr w)) _ (I.hok.fresh (bj _))⟩;exact⟨by rw[fg];exact hz,_,r1.append r2,IsTup.new _ _⟩
end
noncomputable def rL(n:Nat)(i:Int):Option Nat:=if 0<=i then (if i<n then aa i.toNat else aq) else if -(n:Int)<=i then aa (i+n).toNat else aq
noncomputable def lC(xs:List α)(i:Int):Option α:=(rL xs.length i).bind λj=>xs[j]?
variable {i:Int}{j:Nat}
theorem IT(h:rL n i=aa j):seqIndex? i n=aa j/\j<n /\ -(n:Int)<=i/\i<n:=by
  unfold rL at h;by_cases h0:0<=i
  . rw[Wj h0] at h;by_cases h1:i<n
    . rw[Wj h1] at h;have e:i.toNat=j:=Option.some.inj h;exact⟨by rw[seqIndex_of h0 h1,e],⋯,⋯,h1⟩
    . rw[VT h1] at h;cases h
  . rw[VT h0] at h;by_cases h1:-(n:Int)<=i
    . rw[Wj h1] at h;have e:(i+n).toNat=j:=Option.some.inj h;exact⟨by rw[seqIndex_neg ⋯ h1,e],⋯,h1,⋯⟩
    . rw[VT h1] at h;cases h
theorem zC{xs:List α}{v:α}(h:lC xs i=aa v):∃j,seqIndex? i xs.length=aa j/\xs[j]?=aa v/\j<xs.length /\ -(xs.length:Int)<=i/\i<xs.length:=by
  unfold lC at h;cases e:rL xs.length i with
  |none=>rw[e] at h;cases h
  |some j=>
    rw[e] at h;obtain⟨h1,h2,h3,h4⟩:=IT e;exact⟨j,h1,h,h2,h3,h4⟩
theorem gK{xs:List α}{v:α}(h:xs[j]?=aa v):lC xs (j:Int)=aa v:=by
  have hj:j<xs.length:=(da.mp h).1;have e:rL xs.length (j:Int)=aa j:=by
    unfold rL;rw[Wj ⋯,Wj ⋯];simp
  unfold lC;rw[e];exact h
noncomputable def Ct(b:Expr):Prop:=∀o i,Ul b ap o i=operate [o,i] (Tt o i)
noncomputable def Gu(X:Cx)(r:R2):Prop:=
  ∀(Wr WA:Expr) (pj:List (ah×je)) (s:ai) (σ:St) (H:Hp) (x y:V) (v u:af) (Q:VK),Inv X pj σ H s->cU x v->cU y u->r x y H Q ->
    Ul WA ap v u=operate [v,u] (Tt v u)->bi (bu X.prog X.w) X.A (Su Wr WA v u) (EP X pj σ Q) X.xe s
noncomputable def R5(X:Cx)(id:String)(r:V->List V->Hp->VK->Prop):Prop:=
  ∀(pj:List (ah×je)) (s:ai) (σ:St) (H:Hp) (x:V) (xs:List V) (v:af) (us:List af) (Q:VK),Inv X pj σ H s->cU x v->bI xs us->r x xs H Q ->
    bi (bu X.prog X.w) X.A (call (.builtin id) (v::us)) (EP X pj σ Q) X.xe s
variable {T:String}
section
variable {a b:Expr}{ta tb:TE}{pos:jw}
theorem Gu.or{r r':R2}(h:Gu X r)(h':Gu X r'):Gu X (λx y H Q=>r x y H Q \/ r' x y H Q):=by
  intro Wr WA pj s σ H x y v u Q I rx ry q hs;rcases q with q | q
  . exact h Wr WA pj s σ H x y v u Q I rx ry q hs
  . exact h' Wr WA pj s σ H x y v u Q I rx ry q hs
theorem Mf{r:R2}(hr:Gu X r)(ha:PE X a ta)(hb:PE X b tb)(hs:Ct b):PE X (.Subscript a b pos) (Lp r ta tb):=by
  intro pj s σ H Q I h;exact Subscript_ (LO ha hb I h λv u s2 x y H2 I2 rx ry q=>hr a b pj s2 σ H2 x y v u Q I2 rx ry q (hs _ _))
noncomputable def MQ(K:ak):R2:=λx y H Q=>∃p xs i v,x=.ref p/\y=.int i/\fJ K H p xs/\lC xs i=aa v/\Q v H
noncomputable def MO(K:ak):R2:=λx y H Q=>∃p xs i v,x=.ref p/\y=.int i/\jP K H p xs/\lC xs i=aa v/\Q v H
noncomputable def MP:R2:=λx y H Q=>∃z i c,x=.str z/\y=.int i/\z.length<=bh/\lC z.cps.toList i=aa c/\Q (.str ⟨#[c]⟩) H
theorem IR:Gu X (MQ X.K):=by
  intro Wr WA pj s σ H x y v u Q I rx ry h hs;obtain⟨p,xs,i,z,rfl,rfl,hq,he,q⟩:=h;cases rx;obtain⟨t,rfl⟩:=ry;obtain⟨its,r,pl,hz⟩:=I.list hq;obtain⟨j,h1,h2,h3,h4,h5⟩:=zC he;obtain⟨w,ew,rw'⟩:=r.get h2;have hl:=r.length;have hn:=rJ;have fin:EP X pj σ Q w s:=⟨z,H,I,rw',q⟩;by_cases h0:0<=i
  . have hj:i.toNat=j:=by
      rw[seqIndex_of h0 h5] at h1;exact Option.some.inj h1
    exact item_listR pl.isList h0 ⋯ (by rw[hj];simpa using ew) fin hs
  . have hj:(i+(its.toArray.size:Int)).toNat=j:=by
      rw[seqIndex_neg ⋯ h4] at h1;rw[dg,<- hl];exact Option.some.inj h1
    exact yg (x:=w) pl.isList.typeIs Tv.lookup
      (wpAny_getItem_list_neg (Q:=λr s'=>r=w/\EP X pj σ Q r s') pl.isList ⋯ (by rw[dg]<;>right) ⋯ (by rw[hj];simpa using ew) ⟨rfl,fin⟩) hs
theorem Kt:Gu X (MO X.K):=by
  intro Wr WA pj s σ H x y v u Q I rx ry h hs;obtain⟨p,xs,i,z,rfl,rfl,hq,he,q⟩:=h;cases rx;obtain⟨t,rfl⟩:=ry;obtain⟨its,r,pl,hz⟩:=I.tuple hq;obtain⟨j,h1,h2,h3,h4,h5⟩:=zC he;obtain⟨w,ew,rw'⟩:=r.get h2;have hl:=r.length;have hn:=rJ;have fin:EP X pj σ Q w s:=⟨z,H,I,rw',q⟩;exact yg (x:=w) pl.typeIs slot_tuple_getitem.lookup
    (getItem_tuple (j:=j) (Q:=λr s'=>r=w/\EP X pj σ Q r s') pl ⋯ ⋯ (by rw[dg,<- hl];exact h1) (by simpa using ew) ⟨rfl,fin⟩) hs
theorem Ku:Gu X MP:=by
  intro Wr WA pj s σ H x y v u Q I rx ry h hs;obtain⟨z,i,c,rfl,rfl,hz,he,q⟩:=h;obtain⟨t,rfl⟩:=rx;obtain⟨t',rfl⟩:=ry;obtain⟨j,h1,h2,h3,h4,h5⟩:=zC he;have hl:z.cps.toList.length=z.length:=by simp[Str.length]
  rw[hl] at h1 h4 h5;have hn:=rJ;exact tail_any (typeIs_str s z t) slot_str_getitem.lookup (getItem_str (c:=c) (by
    have e1:decide (i < -(2 ^ 63:Int))=ap:=decide_eq_false ⋯;have e2:decide (i >= 2 ^ 63)=ap:=decide_eq_false ⋯;rw[e1,e2,Bool.or_false]) (by rw[h1];simpa using h2) ⟨.str ⟨#[c]⟩,H,I.tok _,⟨_,rfl⟩,q⟩) hs
noncomputable def Rs(K:ak):R2:=λx y H Q=>MQ K x y H Q \/ MO K x y H Q \/ MP x y H Q
theorem Kv:Gu X (Rs X.K):=IR.or (Kt.or Ku)
theorem xR(lo hi:Option Int)(n:Nat):(rq lo hi aq n).1=((HT.fU n 0 lo:Nat):Int)/\(rq lo hi aq n).2.1=((HT.fU n n hi:Nat):Int)/\(rq lo hi aq n).2.2=1:=by
  refine⟨?_,?_,rfl⟩
  . cases lo with
    |none=>simp[rq,HT.fU]
    |some i=>
      simp only[rq,HT.fU,getD_none,show (1:Int) > 0 by decide,if_true];by_cases h:i<0
      . simp only[h,if_true]<;>right
      . simp only[h,if_false]<;>right
  . cases hi with
    |none=>simp[rq,HT.fU]
    |some i=>
      simp only[rq,HT.fU,getD_none,show (1:Int) > 0 by decide,if_true];by_cases h:i<0
      . simp only[h,if_true]<;>right
      . simp only[h,if_false]<;>right
theorem v8(its:List af)(lo hi:Option Int):slicePick its.toArray lo hi aq=((its.drop (HT.fU its.length 0 lo)).take (HT.fU its.length its.length hi-HT.fU its.length 0 lo)).toArray:=by
  obtain⟨h1,h2,h3⟩:=xR lo hi its.toArray.size;unfold slicePick;rw[h1,h2,h3];simp only[sliceRange_one,pick_run,dg]<;>rfl
noncomputable def Pa(K:ak):V->Option Int->Option Int->Hp->VK->Prop:=λx lo hi H Q=>∃a xs,x=.ref a/\fJ K H a xs /\ ∀p,H p=aq->Q (.ref p) (upd H p (.lst (Ax xs lo hi)))
theorem HB:LV X (Pa X.K):=by
  intro pj s σ H x v vl vu lo hi sl Q I rx hs pl pu h;obtain⟨a,xs,rfl,hx,q⟩:=h;cases rx;obtain⟨its,r,ht,hz⟩:=I.list hx;have hlen:=r.length;refine⟨"list",_,Tv.lookup,ht.isList.typeIs,?_⟩;refine wpAny_getItem_list_slice ht.isList hs pl pu .none (by simp) ?_ (by rw[dg]<;>right);rw[v8,<- hlen];refine⟨.ref s.heap.objs.size,_,I.laid (t':=s.toks) (o:=.lst (Ax xs lo hi)) (λb ob q=>ao _ q) (bj _) ?_,rfl,q _ (I.hok.fresh (bj _))⟩;exact⟨kh (sM xs lo hi) hz,_,0,(r.drop (HT.fU xs.length 0 lo)).take (HT.fU xs.length xs.length hi-HT.fU xs.length 0 lo),bw _ rfl⟩
theorem z9:eP X (.builtin "len") (λxs H Q=>∃p ys,xs=[.ref p]/\(fJ X.K H p ys \/ jP X.K H p ys)/\Q (.int ys.length) H):=by
  intro pj s σ H xs us Q I r h;obtain⟨p,ys,rfl,hq,q⟩:=h;obtain⟨u,rfl,rx⟩:=iM r;cases rx;have hn:=rJ;rcases hq with hq | hq
  . obtain⟨its,r',pl,hz⟩:=I.list hq;have hlen:=r'.length;exact Calls.call_len_list pl.isList (by simp only[dg]<;>right) ⟨.int ys.length,H,I.tok _,⟨s.toks+1,by rw[dg,hlen]⟩,q⟩
  . obtain⟨its,r',pl,hz⟩:=I.tuple hq;have hlen:=r'.length;exact len_tuple pl (by simp only[dg]<;>right) ⟨.int ys.length,H,I.tok _,⟨s.toks+1,by rw[dg,hlen]⟩,q⟩
theorem z8:eP X (.builtin "len") (λxs H Q=>∃z,xs=[.str z]/\z.length<=bh/\Q (.int z.length) H):=by
  intro pj s σ H xs us Q I r h;obtain⟨z,rfl,hz,q⟩:=h;obtain⟨u,rfl,t,rfl⟩:=iM r;have hn:=rJ;exact len_str ⋯ ⟨.int z.length,H,I.tok _,⟨_,rfl⟩,q⟩
theorem eP.or{f:af}{r r':List V->Hp->VK->Prop}(h:eP X f r)(h':eP X f r'):eP X f (λxs H Q=>r xs H Q \/ r' xs H Q):=by
  intro pj s σ H xs us Q I rs q;rcases q with q | q
  . exact h pj s σ H xs us Q I rs q
  . exact h' pj s σ H xs us Q I rs q
theorem z7:eP X (.type "list") (λxs H Q=>∃p ys,xs=[.ref p]/\(fJ X.K H p ys \/ jP X.K H p ys) /\ ∀l,H l=aq->Q (.ref l) (upd H l (.lst ys))):=by
  intro pj s σ H xs us Q I r h;obtain⟨p,ys,rfl,hq,q⟩:=h;obtain⟨u,rfl,rx⟩:=iM r;cases rx;have fin:∀(its:List af),bI ys its->ys.length<=bh -> ∀(h':cm) (c':Nat),(∀b o',s.heap.get? b=aa o'->h'.get? b=aa o') ->
      h'.get? s.heap.objs.size=aa { cls:=.type "list",dict:=aq,data:=.seq its.toArray c',slots:=#[] }->EP X pj σ Q (.ref s.heap.objs.size) { s with heap:=h' }:=λits r' hz h' c' kp e=>
    ⟨.ref s.heap.objs.size,_,I.laid (t':=s.toks) kp (bj _) (show cL X.prog X.w _ h' _ (.lst ys) from⟨hz,its,c',r',e⟩),rfl,q _ (I.hok.fresh (bj _))⟩
  rcases hq with hq | hq
  . obtain⟨its,r',pl,hz⟩:=I.list hq;have hlen:=r'.length;obtain⟨o,ho,hc,n,hd⟩:=pl.isList;exact call_list_seq p (.inl rfl) ho hc hd (λh' c' kp e=>fin its r' hz h' c' kp e) (by simp only[dg]<;>right)
  . obtain⟨its,r',pl,hz⟩:=I.tuple hq;have hlen:=r'.length;obtain⟨o,ho,hc,n,hd⟩:=pl;exact call_list_seq p (.inr rfl) ho hc hd (λh' c' kp e=>fin its r' hz h' c' kp e) (by simp only[dg]<;>right)
theorem vO:eP X (.type "tuple") (λxs H Q=>∃p ys,xs=[.ref p]/\((fJ X.K H p ys /\ ∀l,H l=aq->Q (.ref l) (upd H l (.tup ys))) \/ (jP X.K H p ys/\Q (.ref p) H))):=by
  intro pj s σ H xs us Q I r h;obtain⟨p,ys,rfl,h⟩:=h;obtain⟨u,rfl,rx⟩:=iM r;cases rx;rcases h with⟨hq,q⟩ | ⟨hq,q⟩
  . obtain⟨its,r',pl,hz⟩:=I.list hq;have hlen:=r'.length;refine call_tuple_list pl.isList (λh' kp=>?_) (by simp only[dg]<;>right);have I1:Inv X pj σ H { s with heap:=h' }:=I.kept (t':=s.toks) kp;have I2:Inv X pj σ (upd H h'.objs.size (.tup ys)) { s with heap:=h'.push { cls:=.type "tuple",data:=.seq its.toArray } }:=
      I1.laid (t':=s.toks) (λb o e=>ao _ e) (bj _) (show cL X.prog X.w _ _ _ (.tup ys) from⟨hz,its,r',IsTup.new _ _⟩)
    exact⟨.ref h'.objs.size,_,I2,rfl,q _ (I1.hok.fresh (bj _))⟩
  . obtain⟨its,r',pl,hz⟩:=I.tuple hq;exact call_tuple_same pl ⟨.ref p,H,I,rfl,q⟩
noncomputable def On(K:ak)(T:String)(x:V)(H:Hp):Prop:=match x with
  | .str _=>T = "str"
  | .int _=>T = "int"
  | .ref p=>(T = "list" /\ ∃xs,fJ K H p xs) \/ (T = "tuple" /\ ∃o,K.lookup p=aa o/\o.cls=.type "tuple" /\ o.dict=aq) \/
      (T = "dict" /\ ((∃kvs,H p=aa (.dK kvs)) \/ ∃ep kvs,H p=aa (.dT ep kvs))) \/ (T = "set" /\ ∃S n,H p=aa (.set S n))
  |_=>False
theorem EQ{x:V}{v:af}(I:Inv X pj σ H s)(r:cU x v)(ty:On X.K T x H):
    s.TypeIs v T /\ ∀a,v=.ref a -> ∃ob,s.heap.get? a=aa ob/\ob.dict=aq:=by
  cases x with
  |str z=>
    obtain⟨t,rfl⟩:=r;cases (show T = "str" from ty);exact⟨typeIs_str s z t,λ_ e=>nomatch e⟩
  |int i=>
    obtain⟨t,rfl⟩:=r;cases (show T = "int" from ty);exact⟨UT s i t,λ_ e=>nomatch e⟩
  |ref p=>
    cases r;rcases ty with⟨rfl,xs,hq⟩ | ⟨rfl,o,hk,hc,hd⟩ | ⟨rfl,hk⟩ | ⟨rfl,S,n,hk⟩
    . obtain⟨its,_,pl,_⟩:=I.list hq;refine⟨pl.isList.typeIs,λa e=>?_⟩;cases e;obtain⟨o,n,e,c,hd,_⟩:=pl;exact⟨o,e,hd⟩
    . refine⟨⟨o,I.kIn p o hk,hc⟩,λa e=>?_⟩;cases e;exact⟨o,I.kIn _ o hk,hd⟩
    . have z:∃o,s.heap.get? p=aa o/\o.ExactDict:=by
        rcases hk with⟨kvs,hk⟩ | ⟨ep,kvs,hk⟩
        . obtain⟨_,_,_,_,o,_,_,e,ex,_⟩:=I.hok p _ hk;exact⟨o,e,ex⟩
        . obtain⟨_,_,_,_,o,_,e,ex,_⟩:=I.hok p _ hk;exact⟨o,e,ex⟩
      obtain⟨o,e,ex⟩:=z;refine⟨⟨o,e,ex.1⟩,λa e2=>?_⟩;cases e2;exact⟨o,e,ex.2.1⟩
    . obtain⟨o,_,_,_,e,ex,_⟩:=I.hok p _ hk;refine⟨⟨o,e,ex.1⟩,λa e2=>?_⟩;cases e2;exact⟨o,e,ex.2.1⟩
  |_=>exact ip ty
noncomputable def PD(K:ak)(T:String)(r:V->List V->Hp->VK->Prop)(to:TE):TE:=λσ H Q=>to σ H λx H1=>On K T x H1/\r x [] H1 Q
noncomputable def Rr(K:ak)(T:String)(r:V->List V->Hp->VK->Prop)(to:TE)(t:TA):TE:=λσ H Q=>to σ H λx H1=>On K T x H1/\t σ H1 λxs H2=>r x xs H2 Q
variable {o:Expr}{to:TE}{t:TA}{name:bn}{Ww:jw}{id:String}{r:V->List V->Hp->VK->Prop}
theorem K4(pa:PlainAttrs T)(slot:Slot T name id)(hty:yh (.builtin id)=io (.type "method_descriptor"))(hm:R5 X id r)(ho:PE X o to)
    (WB:autoParam (mq o name X.env (fz o X.env)=fz o X.env) bV._auto_1) (WC:autoParam ((Ww.endLine==Wt.line)=aj) bV._auto_1):PE X (.Call (.Attribute o name Ww) [] [] Wt) (PD X.K T r to):=by
  intro pj s σ H Q I h;refine wpAny_Call_method0_late WB WC (thn (ho pj s σ H _ I h) λv s1 zz=>?_);obtain⟨x,H1,I1,r1,ty,q1⟩:=zz;obtain⟨h1,h2⟩:=EQ I1 r1 ty;exact⟨T,id,pa,slot,hty,h1,h2,yi rfl (PySem.evalArgs_none (hm pj s1 σ H1 x [] v [] Q I1 r1 .nil q1))⟩
theorem J2(pa:PlainAttrs T)(slot:Slot T name id)(hty:yh (.builtin id)=io (.type "method_descriptor"))(hm:R5 X id r)(ho:PE X o to)(ha:PA X (e::es) t)
    (WB:autoParam (mq o name X.env (fz o X.env)=fz o X.env) bV._auto_1)
    (hfew:autoParam (((jd Wt (ay (e::es) X.env)).all (λx=>!x.1)&&(Tp Wt (xg [] X.env)).all (λx=>x.1.isSome)
      && decide ((e::es).length+([]:List Si).length+(if ([]:List Si).isEmpty then 0 else 1)<30))=aj) bV._auto_1)
    (WC:autoParam ((Ww.endLine==Wt.line)=aj) bV._auto_1) (hs:autoParam (ay (e::es) X.env=(ap,fz e X.env)::ay es X.env) bV._auto_1) (WG:autoParam ((jd Wt (ay es X.env)).any (·.1)=ap) bV._auto_1):
    PE X (.Call (.Attribute o name Ww) (e::es) [] Wt) (Rr X.K T r to t):=by
  intro pj s σ H Q I h;refine wpAny_Call_method_late WB hfew WC rfl (thn (ho pj s σ H _ I h) λv s1 zz=>?_);obtain⟨x,H1,I1,r1,ty,q1⟩:=zz;obtain⟨h1,h2⟩:=EQ I1 r1 ty;refine⟨T,id,pa,slot,hty,h1,h2,?_⟩;have hA:=ha Wt pj s1 σ H1 _ I1 q1;rw[hs] at hA ⊢;refine yi (by show (ap || (jd Wt (ay es X.env)).any (·.1))=ap;rw[WG]<;>rfl) (zo ?_);exact thn hA λus s2 zq3=>by obtain⟨vs,H2,I2,r2,q2⟩:=zq3;exact hm pj s2 σ H2 x vs v us Q I2 r1 r2 q2
/- xs.append(e),list.index on a module's tuple .. are R5 facts of 06m -/
end
noncomputable def R6(X:Cx)(id:String)(r:V->List V->Hp->VK->Prop):Prop:=
  ∀(pj:List (ah×je)) (s:ai) (σ:St) (H:Hp) (x:V) (xs:List V) (v:af) (us:List af) (Q:VK),Inv X pj σ H s->cU x v->bI xs us->r x xs H Q ->
    bi (bu X.prog X.w) X.A (call (.builtin id) (v::us)) (EP X pj σ Q) X.xe s
theorem bI.one:∀{x:V} {us:List af},bI [x] us -> ∃u,us=[u]/\cU x u
  |_,_,.cons r .nil=>⟨_,rfl,r⟩
theorem bI.zero:∀{us:List af},bI [] us->us=[]
  |_,.nil=>rfl
theorem bI.rep{xs:List V}{us:List af}(h:bI xs us):∀k:Nat,bI (av k xs).flatten (av k us).flatten
  |0=>.nil
  |k+1=>by
    rw[ku,ku,sv,sv];exact bI.append h (bI.rep h k)
theorem wU(its:List af):∀(k:Nat) (acc:List af),
    yj (λx1 x2=>x1++x2) acc.toArray (av k its.toArray)=(acc++(av k its).flatten).toArray
  |0,acc=>by simp
  |k+1,acc=>by
    have e:acc.toArray++its.toArray=(acc++its).toArray:=by simp
    have e2:(acc++its)++(av k its).flatten=acc++(av (k+1) its).flatten:=by
      rw[ku,sv,fx]
    rw[<- e2,<- wU its k (acc++its),<- e,ku,T4]
variable {its:List af}{t':Nat}
section
variable {l:ah}{ys zs:List V}
theorem Inv.lset{its':List af}{f:Array af->Array af}(I:Inv X pj σ H s)(hH:H l=aa (.lst xs))
    (e:s.heap.get? l=aa { cls:=.type "list",data:=.seq its.toArray n }) (hf:f its.toArray=its'.toArray) (hv:bI ys its') (hz:ys.length<=bh):
    Inv X pj σ (upd H l (.lst ys)) { s with heap:=s.heap.update l (ug f),toks:=t' }:=by
  have q:=PySem.IsL.update e f;rw[hf] at q;refine I.write (x:=l) (e:=l) (by rw[hH];exact trivial) (.inl rfl) (λb' u hb hu=>(df s.heap (ug f) (Ne.symm hb)).trans hu) ⟨_,q⟩ ?_;exact⟨hz,its',_,hv,q⟩
theorem Inv.lnew(I:Inv X pj σ H s)(hv:bI ys its)(hz:ys.length<=bh):
    Inv X pj σ (upd H s.heap.objs.size (.lst ys)) { s with heap:=s.heap.push { cls:=.type "list",data:=.seq its.toArray },toks:=t' }:=
  I.laid (λ_ _ q=>ao _ q) (bj _) ⟨hz,its,0,hv,bw _ rfl⟩
theorem Inv.fresh(I:Inv X pj σ H s):H s.heap.objs.size=aq:=I.hok.fresh (bj _)
theorem Inv.lstM(I:Inv X pj σ H s)(hH:H l=aa (.lst xs)):xs.length<=bh /\ ∃(its:List af) (n:Nat),bI xs its/\xs.length=its.length/\s.heap.get? l=aa { cls:=.type "list",data:=.seq its.toArray n }:=by
  obtain⟨z,its,n,r,e⟩:=I.hok l _ hH;exact⟨z,its,n,r,r.length,e⟩
theorem AT(h:n<=bh):mw n=ap:=by
  unfold mw;exact decide_eq_false ⋯
end
noncomputable def HG:V->List V->Hp->VK->Prop:=λx vs H Q=>∃l xs y,x=.ref l/\vs=[y]/\H l=aa (.lst xs)/\xs.length<bh/\Q .non (upd H l (.lst (xs++[y])))
theorem wL:R6 X "list.append" HG:=by
  intro pj s σ H x vs v us Q I rx rv h;obtain⟨l,xs,y,rfl,rfl,hH,hz,q⟩:=h;cases rx;obtain⟨u,rfl,ru⟩:=rv.one;obtain⟨z,its,n,r,hl,e⟩:=I.lstM hH;refine yk F.slot_list_append ⟨_,e,rfl⟩ F.entry_list_append (F.args_list_append_2 _ _) (PySem.list_append l its.toArray n u (by rw[dg];right)) ⟨e,?_⟩;refine⟨.non,_,I.lset (its':=its++[u]) hH e (by simp) (r.append (.cons ru .nil)) ?_,rfl,q⟩;rw[fg,List.length_singleton];right
noncomputable def HF:V->List V->Hp->VK->Prop:=λx vs H Q=>∃l b xs zs,x=.ref l/\vs=[.ref b]/\H l=aa (.lst xs)/\H b=aa (.lst zs)/\xs.length+zs.length<=bh/\Q .non (upd H l (.lst (xs++zs)))
theorem DV:R6 X "list.extend" HF:=by
  intro pj s σ H x vs v us Q I rx rv h;obtain⟨l,b,xs,zs,rfl,rfl,hH,hB,hz,q⟩:=h;cases rx;obtain⟨u,rfl,ru⟩:=rv.one;cases ru;obtain⟨z,its,n,r,hl,e⟩:=I.lstM hH;obtain⟨z2,its2,n2,r2,hl2,e2⟩:=I.lstM hB;have hsz:its.toArray.size+its2.toArray.size<=bh:=by rw[dg,dg];right
  have hlong:¬(!its.toArray.isEmpty&&mw (its.toArray.size+its2.toArray.size))=aj:=by
    rw[AT hsz,pr];exact iq
  refine yk F.slot_list_extend ⟨_,e,rfl⟩ F.entry_list_extend (F.args_list_extend_2 _ _)
    (AutoSeq1.list_extend_list_list_0 l its.toArray n b its2.toArray n2 hlong (by rw[dg];right) ⋯) ⟨e,e2,?_⟩
  refine⟨.non,_,I.lset (its':=its++its2) hH e (by simp) (r.append r2) ?_,rfl,q⟩;rw[fg];right
noncomputable def Jb:V->List V->Hp->VK->Prop:=λx vs H Q=>∃l xs,x=.ref l/\vs=[]/\H l=aa (.lst xs)/\Q .non (upd H l (.lst []))
theorem FT:R6 X "list.clear" Jb:=by
  intro pj s σ H x vs v us Q I rx rv h;obtain⟨l,xs,rfl,rfl,hH,q⟩:=h;cases rx;have hus:=rv.zero;subst hus;obtain⟨z,its,n,r,hl,e⟩:=I.lstM hH;refine yk F.slot_list_clear ⟨_,e,rfl⟩ F.entry_list_clear (F.args_list_clear_1 _) (AutoSeq1.list_clear_list_0 l its.toArray n (by rw[dg];right)) ⟨e,?_⟩;exact⟨.non,_,I.lset (its':=[]) (ys:=[]) hH e rfl .nil (lj _),rfl,q⟩
noncomputable def Pg:R2:=λx y H Q=>∃l b xs zs,x=.ref l/\y=.ref b/\H l=aa (.lst xs)/\H b=aa (.lst zs)/\xs.length+zs.length<=bh /\ ∀p,H p=aq->Q (.ref p) (upd H p (.lst (xs++zs)))
theorem KP:jY X (gz .Add) Pg:=by
  intro pj s σ H x y v u Q I rx ry h;obtain⟨l,b,xs,zs,rfl,rfl,hH,hB,hz,q⟩:=h;cases rx;cases ry;obtain⟨z,its,n,r,hl,e⟩:=I.lstM hH;obtain⟨z2,its2,n2,r2,hl2,e2⟩:=I.lstM hB;refine PySem.P.add_list e e2 ?_ (by rw[dg,dg];right);have ea:its.toArray++its2.toArray=(its++its2).toArray:=by simp
  rw[ea];exact⟨.ref _,_,I.lnew (t':=s.toks) (r.append r2) (by rw[fg];right),rfl,q _ I.fresh⟩
noncomputable def Pb:R2:=λx y H Q=>∃l k xs,x=.ref l/\y=.int k/\H l=aa (.lst xs) /\ -(2 ^ 63)<=k/\k<2 ^ 63/\xs.length*k.toNat<=bh /\
  ∀p,H p=aq->Q (.ref p) (upd H p (.lst (av k.toNat xs).flatten))
theorem IB(xs:List α)(k:Nat):(av k xs).flatten.length=k*xs.length:=by
  induction k with
  |zero=>simp
  |succ k ih=>rw[ku,sv,fg,ih,Nat.succ_mul,Nat.add_comm]
theorem KI:jY X (gz .Mult) Pb:=by
  intro pj s σ H x y v u Q I rx ry h;obtain⟨l,k,xs,rfl,rfl,hH,h1,h2,hz,q⟩:=h;cases rx;obtain⟨t,rfl⟩:=ry;obtain⟨z,its,n,r,hl,e⟩:=I.lstM hH;have hlen:its.toArray.size*k.toNat<=bh:=by rw[dg,<- hl];exact hz
  have hcap:¬its.toArray.size*k.toNat > (2 ^ 63-1) / 8:=by
    have:(bh:Nat)<=(2 ^ 63-1) / 8:=by decide
    right
  have hfit:¬(!Builtin.List.listFitsIndex k)=aj:=by
    rw[fitsIndex_both h1 h2];exact iq
  have hlong:¬mw (its.toArray.size*k.toNat)=aj:=by
    rw[AT hlen];exact iq
  have hnew:yj (λx1 x2=>x1++x2) #[] (av (if its.toArray.isEmpty=aj then 0 else k.toNat) its.toArray)=(av k.toNat its).flatten.toArray:=by
    have f0:∀m:Nat,yj (λx1 x2=>x1++x2) #[] (av m its.toArray)=(av m its).flatten.toArray:=λm=>by
      have:=wU its m [];rw[wj] at this;exact this
    rw[f0];cases its with
    |nil=>simp
    |cons a r'=>rw[VT (by simp)]
  refine wpAny_binaryOp_repeat_ref (T:="list") (U:="int") ∅ ⟨_,e,rfl⟩ (λs'=>UT s' k t) noFill_list_mul F.fills_int_mul Ux repeat_list F.slot_int_index.lookup
    (yk Ux (UT s k t) F.entry_int_rmul (F.args_int_rmul_2 _ _) (int___rmul___int_list k t l its.toArray n)
      ⟨e,rfl,⟨_,e,rfl⟩,yk F.slot_list_mul ⟨_,e,rfl⟩ F.entry_list_mul (F.args_list_mul_2 _ _) (AutoListH.list___mul___list_int_3 l its.toArray n k t hfit hcap hlong) ⟨e,?_⟩⟩)
  rw[hnew];exact⟨.ref _,_,I.lnew (t':=s.toks) (r.rep k.toNat) (by rw[IB,VS];exact hz),rfl,q _ I.fresh⟩
end L2
namespace Att
open PySem PySem.W PySem.Calls PyProof.Rows
variable {P:Vv}
theorem sQ:∀(ns:List Int) (vs:List af),WellAll P h vs (ns.map WData.int)->jc vs ns:=by
  intro ns;induction ns with
  |nil=>
    intro vs w;rw[Tu] at w;cases w;exact .nil
  |cons n ns ih=>
    intro vs w;rw[dh] at w;cases w with
    |cons a b=>
      cases a;exact .cons _ _ (ih _ b)
variable {l:OpenLaw}
theorem D7(hn:l.most=aa n){args:List WData}{vals:List af}
    (hpre:l.row.toRowW.claim.pre args=aj) (hwl:WellAll P h vals args):
    ∃a vs ns,vals=[Value.ref a]/\args=[WData.list (ns.map WData.int)]/\h.get? a=aa { cls:=.type "list",data:=.seq vs.toArray }/\jc vs ns/\ns.length<=n:=by
  have hsh:WShape.hasAll [] args [.list .int]=aj:=(pre_splitW hpre).1;have hc:l.pre.holds [] { args:=args }=aj:=(pre_splitW hpre).2;obtain⟨d,r,rfl,h1,h2⟩:=hasAllW_cons hsh;obtain rfl:=hasAllW_nil h2;obtain⟨xs,rfl,h3⟩:=hasW_list h1;obtain⟨ns,rfl⟩:=items_int h3;have hlen:ns.length<=n:=by
    unfold OpenLaw.pre at hc;have h4:(WTm.not (.lt (.lit (.int (n:Int))) (.len (.arg 0)))).holds [] { args:=[.list (ns.map .int)] }=aj:=by
      have h4:=(holds_andW hc).1;rw[hn] at h4;exact h4
    have h5:=condW_of h4 (w_not (w_lt w_lit (w_len_list (w_arg rfl))));rw[bv] at h5;refine nr λq=>?_;have q':(n:Int)<((ns.length:Nat):Int):=⋯
    first
      | (rw[decide_eq_true q'] at h5;exact absurd h5 ∅)
      | (simp at h5;right)
  cases hwl with
  |cons w1 w2=>
    cases w2;cases w1 with
    |list ho hall=>exact⟨_,_,ns,rfl,rfl,ho,sQ ns _ hall,hlen⟩
theorem DD(l:OpenLaw)(args:List WData):l.row.toRowW.claim.post args (.bool aj) args=aj:=
  postW_of (r:=l.row.toRowW) (X:=(aj==aj))
    (show WShape.has [] (.bool aj) .bool=aj by first | rfl | decide | simp[WShape.has,WShape.arms,WShape.armsAll])
    (show (WTm.eq .res (.lit (.bool aj))).value [] { args:=args,res:=aa (.bool aj),after:=args }=aa (.bool (aj==aj)) from w_eq_bool (w_res rfl) w_lit) rfl
theorem B5{q:au}{loose:List bn}{XP:(bn->Option af)->cm->Prop}{YP:bt->cm->Prop}{d:DefRec}
    (hn:l.most=aa n) (hdf:d.params.defaults=[])
    (call:∀(w:bt) (s₀ s₁:ai) (mg mb:bn->Option af) (fa:ah) (o:je) (pm cd doc:af) (a:ah) (vs:List af) (ns:List Int),
      Ground q loose [] XP w s₀ mg mb s₁.heap->YP w s₁.heap ->
      s₁.heap.get? fa=aa o->o.data=.func (docDef d.name d.params d.body d.scope pm cd doc)->s₁.heap.CodeRec cd d.name->mg d.name=aa (.ref fa) ->
      s₁.heap.get? a=aa { cls:=.type "list",data:=.seq vs.toArray }->jc vs ns->ns.length<=n->s₁.gens = #[] ->
      xf (bu l.prog w) Sj (.call (.ref fa) ⟨[.ref a],[]⟩) (λr s'=>r=.ok (.ret (.bool aj))/\OldK s₁.heap s'.heap/\s'.os=s₁.os/\vk s'.gens) s₁):
    WalkO q loose XP YP l.row.toRowW d [] (λf vs=>PySem.call f vs):=by
  intro w s₀ s₁ mg mb G Y fa o pm cd doc dV kV ho hd hcd hD hmg hg args vals as hpre hlay hrd hwl hlo;obtain rfl:dV=.none:=Dflts.none hD hdf;obtain rfl:kV=.none:=Dflts.noKw hD;obtain⟨a,vs,ns,rfl,rfl,hobj,hints,hlen⟩:=D7 hn hpre hwl;refine enter_call (qb (call w s₀ s₁ mg mb fa o pm cd doc a vs ns G Y ho (fd_plain hd) hcd hmg hobj hints hlen hg) λr s' hq=>?_);obtain⟨rfl,h2,h3,h4⟩:=hq;exact⟨.inl ⟨.bool aj,.bool aj,[],rfl,λ_=>rfl,.bool aj,DD l _,λ_=>⟨List.Pairwise.nil,λ_ hm=>(nomatch hm)⟩⟩,h2,h3,h4⟩
section
variable {K:Frag}
end
end Att
variable {H' H1:L2.Hp}
namespace L2
theorem vY:∀{vs:List af} {ns:List Int},jc vs ns->bI (ns.map V.int) vs
  |_,_,.nil=>.nil
  |_,_,.cons n t h=>.cons ⟨t,rfl⟩ (vY h)
noncomputable def Gk(H:Hp):Prop:=∀b,H b=aq \/ ∃o xs,H b=aa (.frz o (.lst xs))
variable {fd:jh}{sp:Sp}
theorem Fx{mb:bn->Option af}{CX:EH}{k:Nat}{fa:ah}{x:bn}{s₁:ai}{vs:List af}
    (KX:K.In s₁.heap) (hns:s₁.heap.Ns iw mg) (hb:s₁.heap.Ns UI mb) (hbb:∀x:bn,x ≠ "__name__" -> mb x=ly x) (hlim:s₁.heap.NoLimit) (hg:s₁.gens = #[])
    (ha:s₁.heap.get? a=aa { cls:=.type "list",data:=.seq vs.toArray }) (hi:jc vs ns) (hl:ns.length<=bh) (hr:Room k Sj)
    (F:∀base:cm,K.In base->base.Ns iw mg->FnOk P w K mg base CX k fa fd [x] sp) (hbind:∀(s:ai) (u:af),To s fd ⟨[u],[]⟩ [(x,u)])
    (hsp:∀H:Hp,Gk H->fJ K H a (ns.map V.int)->sp [.ref a] H (λv _=>v=.bl aj) λ_ _ _=>False)
    (hCX:∀H e s',CX [] H s₁ (λ_ _ _=>False) e s'->False):
    xf (bu P w) Sj (.call (.ref fa) ⟨[.ref a],[]⟩) (λr s'=>r=.ok (.ret (.bool aj))/\OldK s₁.heap s'.heap/\s'.os=s₁.os/\vk s'.gens) s₁:=by
  have rv:=vY hi;have lenV:=hi.length;have core:∀H:Hp,Gk H->fJ K H a (ns.map V.int)->l7 P w H s₁.heap->(∀b,H b≠aq->b=a)->(H a≠aq->K.lookup a=aq) ->
      xf (bu P w) Sj (.call (.ref fa) ⟨[.ref a],[]⟩) (λr s'=>r=.ok (.ret (.bool aj))/\OldK s₁.heap s'.heap/\s'.os=s₁.os/\vk s'.gens) s₁:=by
    intro H hO hS hok hA hK;have base_of:∀{b:ah} {o:je},s₁.heap.get? b=aa o->H b=aq->(yH s₁.heap H).get? b=aa o:=λe n=>GB e n;have noA:∀{b:ah} {o:je} {es:Array my} {ep:Nat},s₁.heap.get? b=aa o->o.data=.dict es ep->H b=aq:=λ{b o es ep} e d=>by
      cases q:H b with
      |none=>rfl
      |some u=>
        have e':b=a:=hA b (by rw[q];simp);subst e';rw[ha] at e;cases e;have d':Data.seq vs.toArray _=Data.dict es ep:=d;cases d'
    have nsK:∀{b:ah} {m:bn->Option af},s₁.heap.Ns b m->(yH s₁.heap H).Ns b m:=λ{b m} ⟨o,es,ep,e,d,r⟩=>⟨o,es,ep,base_of e (noA e d),d,r⟩;have hKb:K.In (yH s₁.heap H):=λb o e=>base_of (KX b o e) (by
      cases q:H b with
      |none=>rfl
      |some u=>
        have e':b=a:=hA b (by rw[q];simp);subst e';rw[hK (by rw[q];simp)] at e;cases e)
    have hM:Mod K mg (yH s₁.heap H):=⟨hKb,nsK hns,⟨mb,nsK hb,hbb⟩,let ⟨mc,h1,h2⟩:=hlim;⟨mc,nsK h1,h2⟩⟩;have e0:Env0 P w K mg (yH s₁.heap H) Sj [] s₁ H:=⟨rfl,hM,λb o e=>Hq e,VQ (Dq _ _),trivial,λb hb=>absurd (show b∈([]:List ah) from hb) (by simp),hok,.of_eq hg⟩;refine qb ((F _ hKb (nsK hns)).run Sj [] s₁ H ⟨[.ref a],[]⟩ [.ref a] [.ref a] _ _ hr e0 (hbind s₁ (.ref a)) (.cons rfl .nil) (hsp H hO hS)) λr s' h=>?_;cases r with
    |error e=>exact(hCX H e s' h).elim
    |ok fl=>
      cases fl with
      |next=>exact ip h
      |brk=>exact ip h
      |cont=>exact ip h
      |ret u=>
        obtain⟨v,H',os,bare,un,hok',r',q⟩:=h;have q':v=.bl aj:=q;subst q';obtain rfl:u=SY aj:=r';refine⟨rfl,OldK.of_keep λb o e=>?_,os,bare⟩;cases q:H b with
        |none=>exact un.keep b o e q (by intro z;exact absurd (show b∈([]:List ah) from z) (by simp)) (by simp)
        |some u=>
          rcases hO b with z | ⟨ob,xs,z⟩
          . rw[q] at z;cases z
          . have z2:=un.frzs b ob _ z;obtain⟨e1,_⟩:=hok b _ z;obtain⟨e2,_⟩:=hok' b _ z2;rw[e] at e1;cases e1;exact e2
  cases hk:K.lookup a with
  |some o=>
    have e:=KX a o hk;rw[ha] at e;cases e;refine core (λ_=>aq) (λ_=>.inl rfl) (.inr ⟨_,vs.toArray,_,hk,rfl,rfl,rfl,by rw[dg,lenV];exact hl,by simpa using rv⟩) (λb u z=>by have z':(aq:Option HO)=aa u:=z;cases z') (λb z=>absurd rfl z) λz=>absurd rfl z
  |none=>
    refine core (λb=>if b=a then aa (.frz { cls:=.type "list",data:=.seq vs.toArray } (.lst (ns.map V.int))) else aq) (λb=>?_) (.inl (.inr ⟨{ cls:=.type "list",data:=.seq vs.toArray },Wj rfl⟩)) (λb u z=>?_) (λb z=>?_) λ_=>hk
    . by_cases hb:b=a
      . exact .inr ⟨_,_,Wj hb⟩
      . exact .inl (VT hb)
    . by_cases hb:b=a
      . have z':=(Wj hb).symm.trans z;cases z';subst hb;exact⟨ha,by rw[bv];exact hl,vs,_,rv,ha⟩
      . have z':=(VT hb).symm.trans z;cases z'
    . by_cases hb:b=a
      . exact hb
      . exact absurd (VT hb) z
theorem Gy{l:W.OpenLaw}{k:Nat}{q:au}{loose:List bn}{XP:(bn->Option af)->cm->Prop}{YP:bt->cm->Prop}{d:DefRec}{K:Vv->ak}{CX:bt->EH}{sp:bt->Sp}{x:bn}
    (hn:l.most=aa n) (hn2:n<=bh) (hdf:d.params.defaults=[]) (hr:Room k Sj)
    (hY:∀(w:bt) (h:cm),YP w h->(K w.params).In h)
    (F:∀(w:bt) (mg:bn->Option af) (fa:ah) (h:cm),(K w.params).In h->h.Ns iw mg->mg d.name=aa (.ref fa) ->
      ∃fd:jh,(∀(s:ai) (u:af),To s fd ⟨[u],[]⟩ [(x,u)]) /\
        ∀base:cm,(K w.params).In base->base.Ns iw mg->FnOk l.prog w (K w.params) mg base (CX w) k fa fd [x] (sp w))
    (hsp:∀(w:bt) (H:Hp) (a:ah) (ns:List Int),ns.length<=n->Gk H->fJ (K w.params) H a (ns.map V.int)->sp w [.ref a] H (λv _=>v=.bl aj) λ_ _ _=>False)
    (hCX:∀(w:bt) (H:Hp) (s:ai) (e:af) (s':ai),CX w [] H s (λ_ _ _=>False) e s'->False):
    W.WalkO q loose XP YP l.row.toRowW d [] (λf vs=>PySem.call f vs):=by
  refine Att.B5 hn hdf λw s₀ s₁ mg mb fa o pm cd doc a vs ns G Y ho hd hcd hmg hobj hints hlen hg=>?_;have KX:=hY w _ Y;obtain⟨fd,hb,hF⟩:=F w mg fa _ KX G.T.g hmg;exact Fx KX G.T.g G.T.b G.T.builtins G.T.nolimit hg hobj hints (kh hlen hn2) hr hF hb (λH hO hS=>hsp w H a ns hlen hO hS) λH e s'=>hCX w H s₁ e s'
noncomputable def kK(s:jl)(j:Nat):jl:=match s with
  | .ClassDef _ _ _ Wv _ _ _ _ _ _ _=>Wv.getD j (.Pass ⟨0,0,0,0⟩)
  |_=>.Pass ⟨0,0,0,0⟩
noncomputable def iG(s:jl):Arguments:=match s with
  | .FunctionDef _ a _ _ _ _ _ _ _ _=>a
  |_=>{ posonlyargs:=[],args:=[],vararg:=aq,kwonlyargs:=[],kw_defaults:=[],kwarg:=aq,defaults:=[] }
noncomputable def e7(s:jl):List jl:=match s with
  | .FunctionDef _ _ b _ _ _ _ _ _ _=>b
  |_=>[]
noncomputable def aF(s:jl):Scope:=match s with
  | .FunctionDef _ _ _ _ _ _ sc _ _ _=>sc
  |_=>{ kind:=.function,names:=[],isGenerator:=ap,isCoroutine:=ap }
noncomputable abbrev C6:EH:=λ_ _ _ _ _ _=>False
noncomputable abbrev E0:XK:=λ_ _ _=>False
theorem FE:sB C6 X E0:=λ_ _ _ _ _ _ _ h=>h.elim
structure Fun(K:ak)(x qual:bn)(st:jl)(f:ah)(fd:jh):Prop where
  ex:∃(oc:af) (od:Option ah) (kV doc pm:af) (an:Option ah) (cdv ct:af) (osl:Array (Option af)),
    fd=xm x qual (iG st) (e7 st) (aF st) .none kV doc pm an cdv ct/\K.lookup f=aa ⟨oc,od,.func fd,osl⟩/\zl K cdv qual=aj
  kp:nz K (.ref f)=aj
variable {st:jl}
theorem Fun.ok{x:bn}{k:Nat}(F:Fun K x Wm st f fd)(S:FnScope N ps (aF st))(len:∀vs H Q E,sp vs H Q E->vs.length=ps.length)
    (Wu:∀(cdv:af) (A:cf) (outer:List wz) (s:ai) (H:Hp) (vs:List V) (Q:VK) (E:XK),Room k (A.deeper (qj Wm (aF st) s.heap.objs.size f cdv))->sp vs H Q E ->
      ∃t,tG (gH C6 P w K mg base N Wm (aF st) f cdv A outer s H E).nox (e7 st) t/\t { nx:=λ_ H'=>Q .non H',rt:=Q } (start N vs) H):FnOk P w K mg base C6 (k+1) f fd ps sp:=by
  obtain⟨oc,od,kV,doc,pm,an,cdv,ct,osl,rfl,lk,hcd⟩:=F.ex;refine JC lk hcd S len λA outer s H vs Q E hr hsp=>?_;obtain⟨t,h,q⟩:=Wu cdv A outer s H vs Q E hr hsp;exact⟨t,h.nox,q⟩
theorem Fun.binds{x:bn}(F:Fun K x Wm st f fd)
    (h:∀(kV doc pm:af) (an:Option ah) (cdv ct:af) (us:List af),us.length=ps.length->VR (xm x Wm (iG st) (e7 st) (aF st) .none kV doc pm an cdv ct) ⟨us,[]⟩=io (ps.zip us)):i8 K fd ps []:=by
  obtain⟨oc,od,kV,doc,pm,an,cdv,ct,osl,rfl,lk,hcd⟩:=F.ex;exact .all (h kV doc pm an cdv ct)
theorem yK{x:bn}{oc:af}{od an:Option ah}{osl:Array (Option af)}{kV doc pm cdv ct:af}(l:K.lookup f=aa ⟨oc,od,.func (xm x Wm (iG st) (e7 st) (aF st) .none kV doc pm an cdv ct),osl⟩)
    (c:zl K cdv Wm=aj) (k:nz K (.ref f)=aj):Fun K x Wm st f (xm x Wm (iG st) (e7 st) (aF st) .none kV doc pm an cdv ct):=⟨⟨oc,od,kV,doc,pm,an,cdv,ct,osl,rfl,l,c⟩,k⟩
theorem fE{k:Nat}(hr:Room k A):A.units+1<lq:=rh (Nat.add_le_add_left (by decide:1<=64) _) hr.units
theorem D5(h:n<=1000):n<bh:=rh h ∅
theorem pv(i:Nat){x:bn}{pos:jw}(hN:autoParam (X.N[i]?=aa x) bV._auto_1)(hv:Oi X.env.scope x:=by first | exact Or.inl rfl | exact Or.inr (.inl rfl) | exact Or.inr (.inr rfl))(hd:autoParam ((x==("__debug__" : bn))=ap) kX._auto_1)
    (hcd:autoParam ((x==("__classdict__" : bn))=ap) kX._auto_1):PE X (.Name x pos) (zV i):=Ju hN hv hd hcd
variable {B:Prop}
theorem rN{A:Prop}(h:B):if ap=aj then A else B:=by
  rw[VT iq];exact h
theorem rM{A:Prop}(h:A):if aj=aj then A else B:=by
  rw[Wj rfl];exact h
theorem hG{c A:Prop}[Decidable c](h1:c->A)(h2:¬c->B):if c then A else B:=by
  by_cases h:c
  . rw[Wj h];exact h1 h
  . rw[VT h];exact h2 h
noncomputable def aM(H H':Hp):Prop:=∀b o,H b=aa o->H' b=aa o
theorem aM.refl(H:Hp):aM H H:=λ_ _ h=>h
theorem aM.trans{H2:Hp}(a:aM H H1)(b:aM H1 H2):aM H H2:=λc o h=>b c o (a c o h)
theorem aM.free(e:aM H H'){l:ah}(h:H' l=aq):H l=aq:=by
  cases q:H l with
  |none=>rfl
  |some o=>
    rw[e l o q] at h;cases h
end L2
set_option maxHeartbeats 4000000
variable {ifs:List Expr}{kvs:List (List L2.bU×L2.V)}
namespace L2
noncomputable def Nr(i j:Int):Prop:=0<j/\j<2 ^ 200
theorem FQ:jY X (gz .FloorDiv) (rI Nr λi j=>.int (i / j)):=N4 λi j _ _ _ _ _ hc q=>by
  have p1:(0:Int)<j:=hc.1;have p2:j<2 ^ 200:=hc.2;have p3:j.natAbs<2 ^ 200:=⋯;have p4:j.natAbs.log2<200:=(VU ⋯).mpr p3;refine floordiv_int ⋯ ?_ (.inl (PyProof.noPylong_of_log2 ⋯));rw[Int.fdiv_eq_ediv_of_nonneg i ⋯];exact q
theorem FA{x:bn}{n:Int}{pos:jw}(hm:∃t,X.mg x=aa (.int n t))(hg:autoParam (Gl X x) bV._auto_1)(hd:autoParam ((x==("__debug__" : bn))=ap) kX._auto_1):PE X (.Name x pos) (tC (.int n)):=by
  obtain⟨t,h⟩:=hm;exact CL hg h ⟨t,rfl⟩ hd
variable {t':Nat}{fp:List ah}{ob:HO}{h':cm}
theorem Inv.turnedL(I:Inv X pj σ H s)(hf:∀b∈fp,v6 X pj H b)(k:∀b o,b ∉ fp->s.heap.get? b=aa o->h'.get? b=aa o):Inv X pj σ H { s with heap:=h',toks:=t' }:=by
  have nf:∀b u,H b=aa u->b ∉ fp:=λb u e z=>by have:=(hf b z).1;rw[e] at this;cases this
  refine I.step (g':=s.gens) (d':=s.drawn) (ch:=fp) (λb hb=>?_) (λb o _ _ hc e _=>k b o hc e) (λb o _ _ hc e _=>⟨o.slots,k b o hc e⟩) (λ_ _ _ _ n=>n) (λb o hc e=>⟨o,k b o hc e⟩) (λ_ _ e=>e) (λ_ _ _ e=>e)
    (λb ps e=>⟨#[],by rw[e];simp⟩) (λm hm=>?_) (λb u e=>?_) I.bare
  . obtain⟨_,f1,_,f3,f4,f5⟩:=hf b hb;exact⟨f3,f1,f4,f5⟩
  . obtain⟨o,es,ep,ho,r⟩:=hm;exact⟨o,es,ep,k _ o (λz=>(hf _ z).2.1 rfl) ho,r⟩
  . refine(I.hok b u e).stay (λc v hc q=>k c v ?_ q) (λ_ q=>q) (λ_ _ q=>q) λ_ _ q=>q;rcases hc with z | z
    . rw[z];exact nf b u e
    . exact nf c _ z
theorem Inv.turnedN{T:ah}(I:Inv X pj σ H s)(hf:∀b∈fp,v6 X pj H b)(k:∀b o,b ∉ fp->s.heap.get? b=aa o->h'.get? b=aa o)(hT:s.heap.objs.size<=T)
    (new:cL X.prog X.w (upd H T ob) h' T ob):Inv X pj σ (upd H T ob) { s with heap:=h',toks:=t' }:=by
  have hn:H T=aq:=I.hok.fresh hT;have nf:∀b u,H b=aa u->b ∉ fp:=λb u e z=>by have:=(hf b z).1;rw[e] at this;cases this
  have nT:∀b o,s.heap.get? b=aa o->b≠T:=λb o e=>fu (dk (az e) hT);refine I.step (g':=s.gens) (d':=s.drawn) (ch:=fp) (λb hb=>?_) (λb o _ _ hc e _=>k b o hc e) (λb o _ _ hc e _=>⟨o.slots,k b o hc e⟩) (λb o _ e n=>by rw[b9 (nT b o e)];exact n) (λb o hc e=>⟨o,k b o hc e⟩)
    (λb xs e=>by rw[b9 (bF e hn)];exact e) (λb _ _ e=>by rw[b9 (bF e hn)];exact e)
    (λb ps e=>⟨#[],by rw[b9 (bF e hn),e];simp⟩) (λm hm=>?_) (λb u e=>?_) I.bare
  . obtain⟨_,f1,_,f3,f4,f5⟩:=hf b hb;exact⟨f3,f1,f4,f5⟩
  . obtain⟨o,es,ep,ho,r⟩:=hm;exact⟨o,es,ep,k _ o (λz=>(hf _ z).2.1 rfl) ho,r⟩
  . by_cases hb:b=T
    . subst hb;rw[bN] at e;cases e;exact new
    . rw[b9 hb] at e;refine(I.hok b u e).stay (λc v hc q=>k c v ?_ q) (λc q=>by rw[b9 (bF q hn)];exact q) (λc xs q=>by rw[b9 (bF q hn)];exact q) λc xs q=>by rw[b9 (bF q hn)];exact q
      rcases hc with z | z
      . rw[z];exact nf b u e
      . exact nf c _ z
noncomputable def Ol(K:ak)(a:ah):It:=
  ⟨λi H=>∃xs x,fJ K H a xs/\xs[i]?=aa x,λi H v H'=>∃T x,H T=aq/\v=.ref T/\H'=upd H T (.tup [.int i,x]) /\ ∀xs,fJ K H a xs->xs[i]?=aa x,λi H=>∃xs,fJ K H a xs/\xs.length<=i⟩
variable {elts:List Expr}{x1:Nat}
theorem Cy{pos:jw}(a e it:ah)(hne:e≠it):
    Turn P w K (.Tuple elts x1 pos) (Ol K a) [e,it] e (λi h=>(∃old,IsEnum h e it (i:Nat) old)/\h.IsListIter it a i) where
  mem:=by simp
  obj:=λi h st b hb=>by
    obtain⟨⟨old,he⟩,o,ho,c,d⟩:=st;rcases dt.mp hb with rfl | hb
    . exact⟨_,he,λv z=>by cases z⟩
    . rw[fv.mp hb];exact⟨o,ho,λv z=>by rw[d] at z;cases z⟩
  keep:=λi h h' st k=>⟨let ⟨old,he⟩:=st.1;⟨old,k e (by simp) _ he⟩,st.2.at λo q=>k it (by simp) o q⟩
  item:=by
    intro X hP hw hK hc i pj s σ H E I hf st hg;subst hP hw hK;obtain⟨xs,x,hq,hx⟩:=hg;obtain⟨its,rv,p,hz⟩:=I.list hq;obtain⟨u,hu,ru⟩:=rv.get hx;obtain⟨⟨old,he⟩,hit⟩:=st;refine wpAny_pyNext_enum_item he hit p.isList (x:=u) (by simpa using hu) hne λh1 heo hit1 ht hsz hk=>⟨_,rfl,?_⟩;refine wpAny_letOwnedTupleGo_enum heo λh2 he2 hs2=>?_;have heL:e<s.heap.objs.size:=az he;have hn:H s.heap.objs.size=aq:=I.hok.fresh (bj _);have k2:∀b o,b ∉ [e,it]->s.heap.get? b=aa o->h2.get? b=aa o:=λb o hb q=>by
      have b1:b≠e:=λz=>hb (by simp[z]);have b2:b≠it:=λz=>hb (by simp[z]);exact(hs2.2 b b1).trans (hk b o b1 b2 q)
    have tt:h2.get? s.heap.objs.size=aa { cls:=.type "tuple",data:=.seq #[.int i s.toks,u] }:=(hs2.2 _ (zh heL)).trans ht;refine⟨.ref s.heap.objs.size,_,I.turnedN (ob:=.tup [.int i,x]) (T:=s.heap.objs.size) (t':=s.toks+1) hf k2 (bj _) ?_,rfl,⟨_,x,hn,rfl,rfl,λys hy=>by rw[I.list_inj hy hq];exact hx⟩,⟨⟨u,?_⟩,hit1.extBut hs2.extBut (Ne.symm hne)⟩,λb hb=>?_⟩
    . exact⟨(by decide:2<=bh),[.int i s.toks,u],.cons ⟨_,rfl⟩ (.cons ru .nil),_,tt,rfl,_,rfl⟩
    . have:((i+1:Nat):Int)=(i:Int)+1:=⋯;rw[this];exact he2
    . have hb1:=(hf b hb).1;rw[b9 ?_]
      . exact hb1
      . rintro rfl;obtain⟨o,ho,_⟩:=id hit;rcases dt.mp hb with z | z
        . exact absurd heL (by rw[<- z];exact om _)
        . have:=az ho;rw[<- fv.mp z] at this;exact om _ this
  done:=by
    intro X hP hw hK hc i pj s σ H E I hf st hg;subst hP hw hK;obtain⟨xs,hq,hx⟩:=hg;obtain⟨its,rv,p,hz⟩:=I.list hq;obtain⟨⟨old,he⟩,hit⟩:=st;have hl:=rv.length;exact GM I.qu he hit p.isList (by simp;right) λh1 eb=>⟨rfl,I.turnedL (t':=s.toks) hf λb o hb q=>eb b o (λz=>hb (by simp[z])) q⟩
  self:=λ_ _ _ _ _ st h=>by
    obtain⟨⟨old,he⟩,_⟩:=st;exact Tw he h
variable {tp:jw}{ta:TA}
noncomputable def NQ(K:ak)(ta:TA):TI:=λσ H R=>ta σ H λvs H1=>∃a,vs=[.ref a]/\(∃xs,fJ K H1 a xs)/\R (Ol K a) H1
theorem HY{a:Expr}{pos:jw}(hg:Gl X "enumerate")(hm:X.mg "enumerate" = aq)(ha:PA X [a] ta)(hs:autoParam (ay [a] X.env=[(ap,fz a X.env)]) bV._auto_1):
    PI X (.Tuple elts x1 tp) (.Call (.Name "enumerate" p) [a] [] pos) (NQ X.K ta):=by
  intro pj s σ H R I h;refine Call_ (oQ I hg hm boot_enumerate (jb (thn (ha pos pj s σ H _ I h) λus s1 ⟨vs,H1,I1,r1,q1⟩=>?_) hs rfl));obtain⟨l,e,⟨xs,hq⟩,q⟩:=q1;subst e;obtain⟨u,rfl,ru⟩:=iM r1;cases ru;obtain⟨its,rv,pl,hz⟩:=I1.list hq;refine call_enumerate_list pl.isList λh1 he hit hsz hk=>Tw he ?_;have I2:Inv X pj σ H1 { s1 with heap:=h1 }:=I1.kept (t':=s1.toks) hk;refine⟨s1.heap.objs.size+1,[s1.heap.objs.size+1,s1.heap.objs.size],_,_,H1,rfl,I2,Cy l _ _ (Nat.succ_ne_self _),⟨⟨_,he⟩,hit⟩,λb hb=>?_,q⟩;refine I1.fpOk ?_ (I1.hok.fresh ?_)
  all_goals
    rcases dt.mp hb with z | z
    . rw[z];exact vi _
    . rw[fv.mp z];exact bj _
noncomputable def RA(a b:ah):It:=
  ⟨λi H=>∃xs ys x y,H a=aa (.lst xs)/\H b=aa (.lst ys)/\xs[i]?=aa x/\ys[i]?=aa y,
   λi H v H'=>∃T x y,H T=aq/\v=.ref T/\H'=upd H T (.tup [x,y])/\(∀xs,H a=aa (.lst xs)->xs[i]?=aa x) /\ ∀ys,H b=aa (.lst ys)->ys[i]?=aa y,
   λi H=>∃xs ys,H a=aa (.lst xs)/\H b=aa (.lst ys)/\(xs.length<=i \/ ys.length<=i)⟩
structure ZApart(z TI TO i1 i2:ah):Prop where
  a:TI≠z
  b:TO≠z
  c:i1≠z
  d:i2≠z
  e:TI≠TO
  f:TI≠i1
  g:TI≠i2
  h:TO≠i1
  i:TO≠i2
  j:i1≠i2
theorem ER{pos:jw}(a b z TI TO i1 i2:ah)(Z:ZApart z TI TO i1 i2):
    Turn P w K (.Tuple elts x1 pos) (RA a b) [z,TI,TO,i1,i2] z (λi h=>Wf h z TI TO .none/\UG h TI (.ref i1) (.ref i2)/\(∃p q,UG h TO p q)/\h.IsListIter i1 a i/\h.IsListIter i2 b i) where
  mem:=by simp
  obj:=λi h st c hc=>by
    obtain⟨hz,hI,⟨p,q,hO⟩,⟨o1,h1,_,d1⟩,⟨o2,h2,_,d2⟩⟩:=st;simp only[dt,jr,or_false] at hc;rcases hc with rfl | rfl | rfl | rfl | rfl
    . exact⟨_,hz,λv y=>by cases y⟩
    . exact⟨_,hI,λv y=>by cases y⟩
    . exact⟨_,hO,λv y=>by cases y⟩
    . exact⟨_,h1,λv y=>by rw[d1] at y;cases y⟩
    . exact⟨_,h2,λv y=>by rw[d2] at y;cases y⟩
  keep:=λi h h' st k=>by
    obtain⟨hz,hI,⟨p,q,hO⟩,h1,h2⟩:=st;exact⟨k z (by simp) _ hz,k TI (by simp) _ hI,⟨p,q,k TO (by simp) _ hO⟩,h1.at λo y=>k i1 (by simp) o y,h2.at λo y=>k i2 (by simp) o y⟩
  item:=by
    intro X hP hw hK hc i pj s σ H E I hf st hg;subst hP hw hK;obtain⟨xs,ys,x,y,ha,hb,hx,hy⟩:=hg;obtain⟨its,rv,pl,hz1⟩:=I.list (fJ.of ha);obtain⟨its2,rv2,pl2,hz2⟩:=I.list (fJ.of hb);obtain⟨u,hu,ru⟩:=rv.get hx;obtain⟨u2,hu2,ru2⟩:=rv2.get hy;obtain⟨hz,hI,⟨p,q,hO⟩,h1,h2⟩:=st;have na:∀c∈[z,TI,TO,i1,i2],a≠c:=λc hc=>bF ha (hf c hc).1;have nb:∀c∈[z,TI,TO,i1,i2],b≠c:=λc hc=>bF hb (hf c hc).1;have D:VJ z TI TO i1 i2 a b:=⟨Z.a,Z.b,Z.c,Z.d,Z.e,Z.f,Z.g,Z.h,Z.i,Z.j,na z (by simp),na TO (by simp),na i1 (by simp),na i2 (by simp),nb z (by simp),nb TO (by simp),nb i1 (by simp),nb i2 (by simp)⟩;refine wpAny_pyNext_zip_item D hz hI hO h1 h2 pl.isList pl2.isList (x:=u) (y:=u2) (by simpa using hu) (by simpa using hu2) λg a1 a2 a3 a4 a5 a6 hk=>⟨_,rfl,?_⟩;refine wpAny_letOwnedTupleGo_zip a1 λg2 hz2 hs2=>?_;have hn:H s.heap.objs.size=aq:=I.hok.fresh (bj _);have zL:z<s.heap.objs.size:=az hz;have lt:∀{c:ah} {o:je},s.heap.get? c=aa o->c≠s.heap.objs.size:=λe=>fu (az e);have k2:∀c o,c ∉ [z,TI,TO,i1,i2]->s.heap.get? c=aa o->g2.get? c=aa o:=λc o hc e=>by
      simp only[dt,jr,or_false,not_or] at hc;exact(hs2.2 c hc.1).trans (hk c o hc.1 hc.2.2.1 hc.2.2.2.1 hc.2.2.2.2 e)
    have tt:g2.get? s.heap.objs.size=aa { cls:=.type "tuple",data:=.seq #[u,u2] }:=(hs2.2 _ (zh zL)).trans a5;refine⟨.ref s.heap.objs.size,_,I.turnedN (ob:=.tup [x,y]) (T:=s.heap.objs.size) (t':=s.toks) hf k2 (bj _) ?_,rfl,
      ⟨_,x,y,hn,rfl,rfl,λzs hzs=>by rw[ha] at hzs;cases hzs;exact hx,λzs hzs=>by rw[hb] at hzs;cases hzs;exact hy⟩,
      ⟨hz2,hs2.extBut _ _ Z.a (hk _ _ Z.a Z.e Z.f Z.g hI),⟨_,_,hs2.extBut _ _ Z.b a2⟩,a3.extBut hs2.extBut Z.c,a4.extBut hs2.extBut Z.d⟩,λc hc=>?_⟩
    . exact⟨(by decide:2<=bh),[u,u2],.cons ru (.cons ru2 .nil),_,tt,rfl,_,rfl⟩
    . have hc1:=(hf c hc).1;have:c≠s.heap.objs.size:=by
        simp only[dt,jr,or_false] at hc;rcases hc with rfl | rfl | rfl | rfl | rfl
        . exact lt hz
        . exact lt hI
        . exact lt hO
        . obtain⟨o,e,_⟩:=h1;exact lt e
        . obtain⟨o,e,_⟩:=h2;exact lt e
      rw[b9 this];exact hc1
  done:=by
    intro X hP hw hK hc i pj s σ H E I hf st hg;subst hP hw hK;obtain⟨xs,ys,ha,hb,hor⟩:=hg;obtain⟨its,rv,pl,hz1⟩:=I.list (fJ.of ha);obtain⟨its2,rv2,pl2,hz2⟩:=I.list (fJ.of hb);obtain⟨hz,hI,⟨p,q,hO⟩,h1,h2⟩:=st;have na:∀c∈[z,TI,TO,i1,i2],a≠c:=λc hc=>bF ha (hf c hc).1;have nb:∀c∈[z,TI,TO,i1,i2],b≠c:=λc hc=>bF hb (hf c hc).1;have D:VJ z TI TO i1 i2 a b:=⟨Z.a,Z.b,Z.c,Z.d,Z.e,Z.f,Z.g,Z.h,Z.i,Z.j,na z (by simp),na TO (by simp),na i1 (by simp),na i2 (by simp),nb z (by simp),nb TO (by simp),nb i1 (by simp),nb i2 (by simp)⟩;have l1:=rv.length;have l2:=rv2.length;refine Ia I.qu D hz hI hO h1 h2 pl.isList pl2.isList ?_ λg hk=>⟨rfl,I.turnedL (t':=s.toks) hf λc o hc e=>?_⟩
    . rcases hor with h | h
      . exact .inl (by simp;right)
      . exact .inr (by simp;right)
    . simp only[dt,jr,or_false,not_or] at hc;exact hk c o hc.1 hc.2.2.1 hc.2.2.2.1 hc.2.2.2.2 e
  self:=λ_ _ _ _ _ st h=>U5 st.1 h
theorem zapart(n:Nat):ZApart (n+4) (n+2) (n+3) n (n+1):=
  ⟨λe=>by have e':(n+2:Nat)=n+4:=e;right,λe=>by have e':(n+3:Nat)=n+4:=e;right,λe=>by have e':(n:Nat)=n+4:=e;right,λe=>by have e':(n+1:Nat)=n+4:=e;right,
   λe=>by have e':(n+2:Nat)=n+3:=e;right,λe=>by have e':(n+2:Nat)=n:=e;right,λe=>by have e':(n+2:Nat)=n+1:=e;right,λe=>by have e':(n+3:Nat)=n:=e;right,
   λe=>by have e':(n+3:Nat)=n+1:=e;right,λe=>by have e':(n:Nat)=n+1:=e;right⟩
noncomputable def Qb(ta:TA):TI:=λσ H R=>ta σ H λvs H1=>∃a b,vs=[.ref a,.ref b]/\(∃xs,H1 a=aa (.lst xs))/\(∃ys,H1 b=aa (.lst ys))/\R (RA a b) H1
theorem Jr{a b:Expr}{pos:jw}(hg:Gl X "zip")(hm:X.mg "zip" = aq)(ha:PA X [a,b] ta)
    (hs:autoParam (ay [a,b] X.env=[(ap,fz a X.env),(ap,fz b X.env)]) bV._auto_1) (hs2:autoParam (ay [b] X.env=[(ap,fz b X.env)]) bV._auto_1):
    PI X (.Tuple elts x1 tp) (.Call (.Name "zip" p) [a,b] [] pos) (Qb ta):=by
  intro pj s σ H R I h;refine Call_ (oQ I hg hm boot_zip (jb (thn (ha pos pj s σ H _ I h) λus s1 ⟨vs,H1,I1,r1,q1⟩=>?_) (by rw[hs,hs2]) (by rw[hs2];rfl)));obtain⟨l,l2,e,⟨xs,hl⟩,⟨ys,hl2⟩,q⟩:=q1;subst e;obtain⟨u,u2,rfl,ru,ru2⟩:=zP r1;cases ru;cases ru2;obtain⟨its,rv,pl,hz⟩:=I1.list (fJ.of hl);obtain⟨its2,rv2,pl2,hz2⟩:=I1.list (fJ.of hl2);refine call_zip_2 pl.isList pl2.isList λh1 hz hI hO i1 i2 hsz hk=>U5 hz ?_;have I2:Inv X pj σ H1 { s1 with heap:=h1 }:=I1.kept (t':=s1.toks) hk;refine⟨s1.heap.objs.size+4,[s1.heap.objs.size+4,s1.heap.objs.size+2,s1.heap.objs.size+3,s1.heap.objs.size,s1.heap.objs.size+1],_,_,H1,rfl,I2,
    ER l l2 _ _ _ _ _ (zapart s1.heap.objs.size),⟨hz,hI,⟨_,_,hO⟩,i1,i2⟩,λb hb=>?_,q⟩
  have hle:s1.heap.objs.size<=b:=by
    simp only[dt,jr,or_false] at hb;rcases hb with rfl | rfl | rfl | rfl | rfl
    . exact yo _ _
    . exact yo _ _
    . exact yo _ _
    . exact bj _
    . exact yo _ _
  exact I1.fpOk hle (I1.hok.fresh hle)
noncomputable def Pe(K:ak):List V->Hp->VK->Prop:=λxs H Q=>∃x T t b,xs=[x,.ty T]/\TyOf K H x t/\oa K t (.type T)=aa b/\Q (.bl b) H
theorem Gb:eP X (.builtin "isinstance") (Pe X.K):=by
  intro pj s σ H xs us Q I r h;obtain⟨x,T,t,b,rfl,ty,k,q⟩:=h;obtain⟨u,u2,rfl,ru,ru2⟩:=zP r;cases ru2;exact Dm I ru ty k λtk=>⟨.bl b,H,I.tok tk,rfl,q⟩
theorem tK:∀{bs:List Bool} {us:List af},bI (bs.map V.bl) us->LSm.BoolsAre us bs
  | [],_,.nil=>.nil
  |_::_,_,.cons r t=>by cases r;exact .cons _ (tK t)
theorem tJ:∀{ns:List Int} {us:List af},bI (ns.map V.int) us->jc us ns
  | [],_,.nil=>.nil
  |_::_,_,.cons r t=>by obtain⟨t',rfl⟩:=r;exact .cons _ _ (tJ t)
noncomputable def Ph(K:ak):List V->Hp->VK->Prop:=λxs H Q=>∃(a:ah) (bs:List Bool),xs=[.ref a]/\fJ K H a (bs.map V.bl)/\Q (.bl (bs.all id)) H
theorem EE(hc:X.calm=aj):eP X (.builtin "all") (Ph X.K):=by
  intro pj s σ H xs us Q I r h;obtain⟨a,bs,rfl,hq,q⟩:=h;obtain⟨u,rfl,ru⟩:=iM r;cases ru;obtain⟨its,rv,pl,hz⟩:=I.list hq;have ba:=tK rv;have lt:a<s.heap.objs.size:=by obtain⟨_,e,_⟩:=pl.isList;exact az e
  refine call_all_walk (Tx pl.isList ⟨s.heap.objs.size,[s.heap.objs.size,a],[s.heap.objs.size],its.toArray.size,_,_,λi=>(bs[i]?).getD aj,rfl,
    Walks.list (A:=X.A.in1) (I.ok.hd hc) _ a (fu lt) its.toArray,⟨⟨_,bw _ rfl,rfl,rfl⟩,pl.isList.push _⟩,λi v s' Q' E' hP hQ=>?_,λh' tk hk=>?_⟩)
  . obtain⟨b,e,rfl⟩:=ba.get i v (by simpa using hP);have hQ':Q' ((bs[i]?).getD aj) s':=hQ;rw[e] at hQ';exact gp hQ'
  . have e:((gc its.toArray.size).all λi=>(bs[i]?).getD aj)=bs.all id:=by
      have:=LSm.range_all bs;rw[<- ba.length] at this;simpa using this
    rw[e];exact⟨.bl _,H,I.kept (LSm.kept_iter hk),rfl,q⟩
noncomputable def PY(K:ak):List V->Hp->VK->Prop:=λxs H Q=>∃(a:ah) (ns:List Int),xs=[.ref a]/\fJ K H a (ns.map V.int)/\Q (.int ns.sum) H
theorem E8(hc:X.N=X.N):eP X (.builtin "sum") (PY X.K):=by
  intro pj s σ H xs us Q I r h;obtain⟨a,ns,rfl,hq,q⟩:=h;obtain⟨u,rfl,ru⟩:=iM r;cases ru;obtain⟨its,rv,pl,hz⟩:=I.list hq;have ia:=tJ rv;obtain⟨ys,hy⟩:=ia.allInts.items;have e1:=nums_intItems ys;rw[<- hy,show numsOf its.toArray.toList=ns from ia.numsOf] at e1;refine M1 I.qu (hy ▸ pl.isList) λh' tk t' hk=>⟨.int ns.sum,H,I.kept hk,⟨t',?_⟩,q⟩;rw[preSum_eq,e1,ma (by simp)]
noncomputable def pick(js:List Nat)(σ:St):St:=js.map λj=>(σ[j]?).join
noncomputable def p8(X:Cx)(Wk:Scope)(cl:List (bn×ah))(fp:List ah)(N:List bn)(s:ai)(H:Hp):Cx where
  prog:=X.prog
  w:=X.w
  K:=X.K
  mg:=X.mg
  base:=X.base
  A:=X.A
  N:=N
  s₀:=s
  HZ:=H
  env:=compEnvC Wk cl s.heap.objs.size X.env
  outer:=X.stack
  stack:=X.stack
  ex:=fp
  fn:=λ_=>ap
  calm:=X.calm
  pn:=[]
  xe:=λ_ _=>False
  hs:=X.hs
noncomputable def LW(X:Cx)(ifs:List Expr)(t:TT):Prop:=
  ∀(pj:List (ah×je)) (s:ai) (σ:St) (H:Hp) (Q:Bool->Hp->Prop),Inv X pj σ H s->t σ H Q ->
    bi (bu X.prog X.w) X.A (forIn ifs aj λc r=>if r=aj then do let ok <- isTrue c X.env (fz c X.env);io (og ok) else io (og r)) (TP X pj σ Q) X.xe s
theorem HR:LW X [] (λ_ H Q=>Q aj H):=λpj s σ H Q I h=>wpAny_tests_nil ⟨H,I,h⟩
theorem HQ{c:Expr}{t:TT}(h:PT X c t):LW X [c] t:=λpj s σ H Q I q=>wpAny_tests_one (h pj s σ H Q I q)
noncomputable def xM(wi:TI)(k:Nat)(js:List Nat)(g:TG)(tt:TT)(te:TE):TE:=λσ H Q=>wi σ H λJ H1=>∀D,H1 D=aq -> ∃W:Nat->Nat->List V->Hp->Prop,(∃m,W 0 m [] (upd H1 D (.lst []))) /\ ∀i m acc H2,W i m acc H2->H2 D=aa (.lst acc) ->
  (J.stop i H2/\Q (.ref D) H2) \/ (J.go i H2 /\ ∀y H3,J.yld i H2 y H3 -> ∀old:St,old.length=k->g y (old++pick js σ) H3 λσ4 H4=>(∃new:St,new.length=k/\σ4=new++pick js σ)/\tt σ4 H4 λb H5=>
    if b=aj then te σ4 H5 λv H6=>H6 D=aa (.lst acc)/\acc.length<bh /\ ∃m',m'<m/\W (i+1) m' (acc++[v]) (upd H6 D (.lst (acc++[v])))
    else H5 D=aa (.lst acc) /\ ∃m',m'<m/\W (i+1) m' acc H5)
variable {elt tgt iter:Expr}
theorem vN{R:Vu->ai->Prop}{pos:jw}{it acc:af}{env:wz}(J:Nat->ai->Prop)
    (turn:∀n s,J n s->bi (bu prog w) A (pf it) (λr s1=>match r with
      |none=>R (.ok .next) s1
      |some v=>bi (bu prog w) A (vb tgt it v) (λ_ s2=>bi (bu prog w) A (SZ tgt env v) (λ_ s3=>
          bi (bu prog w) A (forIn ifs aj λc r=>if r=aj then do let ok <- isTrue c env (fz c env);io (og ok) else io (og r)) (λb s3'=>
          if b=aj then bi (bu prog w) A (fz elt env) (λy s4=>bi (bu prog w) A (call (.builtin "list.append") [acc,y]) (λ_ s5=>∃m,m<n/\J m s5) (λ_ _=>False) s4) (λ_ _=>False) s3'
          else ∃m,m<n/\J m s3') (λ_ _=>False) s3) (λ_ _=>False) s2) (λ_ _=>False) s1) (λ_ _=>False) s)
    (n:Nat) (h:J n s):xf (bu prog w) A (.compLoop (.ListComp elt [⟨tgt,iter,ifs,0⟩] Wk pos) 0 it acc env) R s:=by
  refine codeAny_loop rfl J (λn' s' hJ=>?_) n h;show bi _ _ ((compTurn (.ListComp elt [⟨tgt,iter,ifs,0⟩] Wk pos) 0 it acc env).onRaise (λz=>do xo z env;theTreesLotGoes z)) _ _ s';refine wpAny_noted ?_;rw[compTurn_list];have nope:∀{α:Type} {t:Ui α} {Q:α->ai->Prop} {E:af->ai->Prop} {q:ai},bi (bu prog w) A t Q (λ_ _=>False) q->bi (bu prog w) A t Q E q:=λh=>fy h (λ_ _ z=>z) λ_ _ z=>z.elim;refine ae (wpAny_standAt (ae (fy (nope (turn n' s' hJ)) (λr s1 h1=>?_) λ_ _ z=>z)));cases r with
  |none=>exact ar h1
  |some v=>
    refine ae (fy (nope h1) (λ_ s2 h2=>?_) λ_ _ z=>z);refine ae (fy (nope h2) (λ_ s3 h3=>?_) λ_ _ z=>z);refine ae (fy (nope h3) (λb s4 h4=>?_) λ_ _ z=>z);cases b with
    |true=>
      have h4':=(show bi _ _ _ _ _ s4 by simpa using h4);simp only[if_true];refine ae (ae (fy (nope h4') (λy s5 h5=>?_) λ_ _ z=>z));refine ae (fy (nope h5) (λ_ s6 h6=>?_) λ_ _ z=>z);exact ar (ar ⟨rfl,h6⟩)
    |false=>
      have h4':∃m,m<n'/\J m s4:=by simpa using h4
      simp only[gg,if_false];exact ae (ar (ar ⟨rfl,h4'⟩))
variable {js:List Nat}{v:V}{cl:List (bn×ah)}{tgs ns:List bn}{wi:TI}{tt:TT}{te:TE}
theorem F7(h:(pick js σ)[i]?=aa (aa v)):∃j,js[i]?=aa j/\σ[j]?=aa (aa v):=by
  unfold pick at h;rw[cn] at h;cases e:js[i]? with
  |none=>rw[e] at h;cases h
  |some j=>
    rw[e] at h;have h':(σ[j]?).join=aa v:=Option.some.inj h;refine⟨j,rfl,?_⟩;cases q:σ[j]? with
    |none=>rw[q] at h';cases h'
    |some o=>rw[q] at h';exact congrArg aa h'
theorem xB{pos:jw}{g:TG}(hc:X.N=X.N)
    (hi:PI X tgt iter wi) (hg:∀(fp:List ah) (s:ai) (H:Hp),PG (p8 X Wk cl fp (tgs++ns) s H) tgt g) (ht:∀(fp:List ah) (s:ai) (H:Hp),LW (p8 X Wk cl fp (tgs++ns) s H) ifs tt)
    (he:∀(fp:List ah) (s:ai) (H:Hp),PE (p8 X Wk cl fp (tgs++ns) s H) elt te)
    (WD:uh Wk X.env=io cl) (Wx:∀x c,cl.lookup x=aa c->X.env.cells.lookup x=aa c)
    (WI:∀x,((gw Wk X.env).names.lookup x=aa .cell \/ (gw Wk X.env).names.lookup x=aa .free) -> ∃c,cl.lookup x=aa c)
    (hjs:js.map (λj=>X.N[j]?)=ns.map aa) (hin:∀y∈ns,(gw Wk X.env).names.lookup y=aa .cell \/ (gw Wk X.env).names.lookup y=aa .free)
    (WE:∀y∈ns,X.env.kindOf y=aa .cell \/ X.env.kindOf y=aa .free)
    (Wp:autoParam (∀y∈Wk.names,y.2 ≠ .cell) C8._auto_1) (Ws:autoParam (Wk.kind=.function) bV._auto_1)
    (Wq:autoParam (∀y∈Wk.names,y.2=.local->Wk.names.lookup y.1=aa .local) C8._auto_1)
    (hs:autoParam (∀z,ic iter X.env z=io z) Gp._auto_1):
    ∀(pos0:jw) (pj:List (ah×je)) (s:ai) (σ:St) (H:Hp) (Q:VK) (I:Inv X pj σ H s) (h:xM wi tgs.length js g tt te σ H Q) (use:Option (af->Ui Unit)) (R:af->ai->Prop)
      (hfin:∀(D C:ah) (H':Hp) (s':ai),Q (.ref D) H'->v6 X pj H' C->(∃m,s'.heap.Ns C m)->(∀h',ss C s'.heap h'->Inv X pj σ H' { s' with heap:=h' })->VV (bu X.prog X.w) X.A X.xe use R (.ref D) C (.ok .next) s'),
      bi (bu X.prog X.w) X.A (comprehension (.ListComp elt [⟨tgt,iter,ifs,0⟩] Wk pos) Wk X.env pos0 (Vw []) ap (fz iter X.env) use) R X.xe s:=by
  intro pos0 pj s σ H Q I h use R hfin;refine wpAny_comprehension_free (use:=use) rfl hs WD Ws Wq (thn (hi pj s σ H _ I h) λv s1 h1=>thn h1 λitv s2 h2=>?_);obtain⟨it,fp,tn,J,H2,rfl,I2,T,st2,f2,Wv⟩:=h2;have hD:H2 s2.heap.objs.size=aq:=I2.hok.fresh (bj _);obtain⟨W,⟨m0,w0⟩,step⟩:=Wv _ hD;refine gm (wpAny_newFunctionEnv Wp (by intro y hy;simp at hy) (λg1 hns hsb=>?_) Ws) (by size_fits);dsimp only at hns hsb ⊢;have I3:Inv X pj σ (upd H2 s2.heap.objs.size (.lst [])) { s2 with heap:=s2.heap.push { cls:=.type "list",dict:=aq,data:=.seq ([]:List af).toArray } }:=I2.lnew (t':=s2.toks) .nil (by simp);generalize hD':s2.heap.objs.size=D at *;generalize hH3:upd H2 D (.lst [])=H3 at *;generalize hS3:s2.heap.push { cls:=.type "list",dict:=aq,data:=.seq ([]:List af).toArray }=g3 at *;have zs:g3.objs.size=D+1:=by rw[<- hS3,sk,hD']
  have f3:∀b∈fp,v6 X pj H3 b:=λb hb=>by
    obtain⟨o,ho,_⟩:=T.obj _ _ st2 b hb;have lt:=az ho;refine⟨?_,(f2 b hb).2⟩;rw[<- hH3,b9 (fu (hD' ▸ lt))];exact(f2 b hb).1
  have ltf:∀b∈fp,b<g3.objs.size:=λb hb=>by
    obtain⟨o,ho,_⟩:=T.obj _ _ st2 b hb;rw[zs];exact Tz (hD' ▸ az ho)
  have kept:∀b o,g3.get? b=aa o->g1.get? b=aa o:=λb o e=>hsb.extBut b o (fu (az e)) (ao _ e);have cne:∀x c,cl.lookup x=aa c->c≠g3.objs.size:=λx c e=>by
    obtain⟨v,q⟩:=I3.cell x c (Wx x c e);exact fu q.lt
  have ok:(p8 X Wk cl fp (tgs++ns) { s2 with heap:=g3 } H3).Ok:=by
    refine⟨I.ok.mod,Ws,I.ok.glob,I.ok.blt,bj _,λy z c e1 e2=>I.ok.inj y z c (Wx y c e1) (Wx z c e2),λy hy=>WI y hy,λy c e=>(nomatch e),I.ok.hd,I.ok.frames,.inl rfl,
      λb hb=>⟨fu (ltf b hb),λy c e=>(f3 b hb).2.2.2.2.1 y c (Wx y c e)⟩,I3.bs,kh I.ok.bsz I3.sz,λb o e hb=>?_,λb hb=>?_,I3.stack,I3.stkFree,I.ok.hq⟩
    . rcases(f3 b hb).2.2.2.1 with q | q
      . exact I.ok.noex b o e q
      . exact absurd (dk (az (I.ok.bs b o e).1) q) (om _)
    . intro z;rcases dt.mp (I3.stkSub b z) with q | q
      . exact(f3 b hb).2.1 q
      . exact(f3 b hb).2.2.1 q
  have cells1:∀x c,cl.lookup x=aa c -> ∃v,g1.IsCell c v:=λx c e=>by
    obtain⟨v,o,ho,hd⟩:=I3.cell x c (Wx x c e);exact⟨v,o,kept _ _ ho,hd⟩
  have J4:Inv (p8 X Wk cl fp (tgs++ns) { s2 with heap:=g3 } H3) [] (av tgs.length aq++pick js σ) H3 { s2 with heap:=g1,toks:=s2.toks+([]:List (bn×af)).length }:=by
    refine⟨ok,rfl,I3.bare,Un.kept kept,⟨_,hns,λi y v e1 e2 e3=>?_⟩,λy c e=>cells1 y c e,I3.hok.fresh (bj _),λy c e=>I3.freeC y c (Wx y c e),λp hp=>absurd (show p∈([]:List (ah×je)) from hp) (by simp),I3.hok.kept kept,?_,I3.mild⟩
    . have hi2:tgs.length<=i:=by
        by_cases hlt:i<tgs.length
        . rw[bo (by simpa using hlt),iz,Wj hlt] at e2;cases e2
        . right
      rw[bg (by simpa using hi2),qc] at e2;have e1':(tgs++ns)[i]?=aa y:=e1;rw[bg hi2] at e1';obtain⟨j,hj,hσ⟩:=F7 e2;have hNj:X.N[j]?=aa y:=by
        have:=congrArg (λl=>l[i-tgs.length]?) hjs;simp only[cn,hj,e1',map_some] at this;exact Option.some.inj this
      have ym:y∈ns:=eg e1';obtain⟨m,hm,hl⟩:=I3.loc;have vis:Oi X.env.scope y:=by
        rcases WE y ym with q | q
        . exact .inr (.inl q)
        . exact .inr (.inr q)
      obtain⟨u,ru,lk⟩:=hl j y v hNj hσ vis;refine⟨u,ru,?_⟩;rcases lk with⟨q,_⟩ | ⟨_,c,hc1,hc2⟩
      . rcases WE y ym with z | z
        . rw[z] at q;cases q
        . rw[z] at q;cases q
      . obtain⟨c',hc'⟩:=WI y (hin y ym);have:=Wx y c' hc';rw[hc1] at this;cases this;obtain⟨o,ho,hd⟩:=hc2;exact .inr ⟨hin y ym,c,hc',o,kept _ _ ho,hd⟩
    . show _=(tgs++ns).length;have:=congrArg List.length hjs;simp only[bv] at this;simp[pick,this]
  have st4:tn 0 g1:=T.keep 0 _ _ st2 λb hb o e=>kept b o (by rw[<- hS3];exact ao _ e);have fin:∀(H':Hp) (σ':St) (s':ai),Inv (p8 X Wk cl fp (tgs++ns) { s2 with heap:=g3 } H3) [] σ' H' s'->Q (.ref D) H'->VV (bu X.prog X.w) X.A X.xe use R (.ref D) g3.objs.size (.ok .next) s':=by
    intro H' σ' s' K q;obtain⟨m,hm,_⟩:=K.loc;refine hfin D g3.objs.size H' s' q (I3.fpOk (bj _) K.free) ⟨m,hm⟩ λh' hsb'=>?_;have ne:∀b o,g3.get? b=aa o->b≠g3.objs.size:=λb o e=>fu (az e);have B:Un (frs X.stack) fp H3 H' g3 s'.heap:=K.base;refine I3.call' (s':={ s' with heap:=h' }) (ch:=fp) K.os ⟨λb o e n hb hx=>(hsb'.2 b (ne b o e)).trans (B.keep b o e n hb hx),λb o e n hb hx=>?_,B.free,λb o e hx=>?_,B.tups,B.frzs,B.tbls⟩ (λb u e=>?_) K.bare (λb hb=>?_)
    . obtain⟨sl,e1⟩:=B.slot b o e n hb hx;exact⟨sl,(hsb'.2 b (ne b o e)).trans e1⟩
    . obtain⟨o',e1⟩:=B.there b o e hx;exact⟨o',(hsb'.2 b (ne b o e)).trans e1⟩
    . have nC:∀c v,H' c=aa v->c≠g3.objs.size:=λc v e z=>by
        have:H' g3.objs.size=aq:=K.free;rw[z,this] at e;cases e
      refine(K.hok b u e).stay (λc v hc q=>(hsb'.2 c ?_).trans q) (λ_ q=>q) (λ_ _ q=>q) λ_ _ q=>q;rcases hc with z | z
      . rw[z];exact nC b u e
      . exact nC c _ z
    . obtain⟨_,q1,_,q3,q4,q5⟩:=f3 b hb;exact⟨q3,q1,q4,q5⟩
  have loop:xf (bu X.prog X.w) X.A (.compLoop (.ListComp elt [⟨tgt,iter,ifs,0⟩] Wk pos) 0 (.ref it) (.ref D) (compEnvC Wk cl g3.objs.size X.env))
      (VV (bu X.prog X.w) X.A X.xe use R (.ref D) g3.objs.size) { s2 with heap:=g1,toks:=s2.toks+([]:List (bn×af)).length }:=by
    refine vN (λn s'=>∃i acc old H',Inv (p8 X Wk cl fp (tgs++ns) { s2 with heap:=g3 } H3) [] (old++pick js σ) H' s'/\old.length=tgs.length/\tn i s'.heap/\(∀b∈fp,H' b=aq)/\H' D=aa (.lst acc)/\W i n acc H') ?_ m0
      ⟨0,[],av tgs.length aq,H3,J4,by simp,st4,λb hb=>(f3 b hb).1,by rw[<- hH3];exact bN,w0⟩
    rintro n s' ⟨i,acc,old,H',K,lo,st,fr,hDl,w⟩;have fpk:∀{H'':Hp},(∀b∈fp,H'' b=aq) -> ∀b∈fp,v6 (p8 X Wk cl fp (tgs++ns) { s2 with heap:=g3 } H3) [] H'' b:=λhn b hb=>
      ⟨hn b hb,fu (ltf b hb),λz=>ok.exfs b hb z,.inl hb,λy c e=>(f3 b hb).2.2.2.2.1 y c (Wx y c e),λp hp=>absurd (show p∈([]:List (ah×je)) from hp) (by simp)⟩
    rcases step i n acc H' w hDl with⟨stop,q⟩ | ⟨go,next⟩
    . refine thn (T.done (p8 X Wk cl fp (tgs++ns) { s2 with heap:=g3 } H3) rfl rfl rfl rfl i [] s' _ H' _ K (fpk fr) st stop) λr s1 zz=>?_;obtain⟨hr,K1⟩:=zz;subst hr;exact fin H' _ s1 K1 q
    . refine thn (T.item (p8 X Wk cl fp (tgs++ns) { s2 with heap:=g3 } H3) rfl rfl rfl rfl i [] s' _ H' _ K (fpk fr) st go) λr s1 zz=>?_;obtain⟨u,hr,h4⟩:=zz;subst hr;refine thn h4 λ_ s5 zz=>?_;obtain⟨y,H5,K5,r5,y5,st5,fr5⟩:=zz;have K5':=K5.pinned (fpk fr5) (T.obj _ _ st5);refine thn (hg fp { s2 with heap:=g3 } H3 _ s5 _ H5 y u _ K5' r5 (next y H5 y5 old lo)) λ_ s6 ⟨σ6,H6,K6,⟨new,hnew,e6⟩,q6⟩=>?_;subst e6;refine thn (ht fp { s2 with heap:=g3 } H3 _ s6 _ H6 _ K6 q6) λb s6' zz=>?_;obtain⟨H6',K6',q6'⟩:=zz;have Vk:∀{s8:ai} {H8:Hp} {acc':List V} {m':Nat},Inv (p8 X Wk cl fp (tgs++ns) { s2 with heap:=g3 } H3) ([]++uA fp s5.heap) (new++pick js σ) H8 s8->H8 D=aa (.lst acc')->m'<n->W (i+1) m' acc' H8 ->
          ∃m,m<n /\ ∃i acc old H',Inv (p8 X Wk cl fp (tgs++ns) { s2 with heap:=g3 } H3) [] (old++pick js σ) H' s8/\old.length=tgs.length/\tn i s8.heap/\(∀b∈fp,H' b=aq)/\H' D=aa (.lst acc)/\W i m acc H':=by
        intro s8 H8 acc' m' K8 h8 hm' w8;refine⟨m',hm',i+1,acc',new,H8,K8.unpinned,hnew,T.keep _ _ _ st5 λb hb o e=>(K8.pin (b,o) (fj _ (fj _ (kI hb e)))).1,λb hb=>?_,h8,w8⟩;obtain⟨o,e,d⟩:=T.obj _ _ st5 b hb;exact(K8.pin (b,o) (fj _ (fj _ (kI hb e)))).2.1
      cases b with
      |true=>
        refine rM ?_;rw[Wj rfl] at q6';refine thn (he fp { s2 with heap:=g3 } H3 _ s6' _ H6' _ K6' q6') λvv s7 zz=>?_;obtain⟨v,H7,K7,r7,hD7,hlen,m',hm',w7⟩:=zz;refine thn (wL (X:=p8 X Wk cl fp (tgs++ns) { s2 with heap:=g3 } H3) _ s7 _ H7 (.ref D) [v] (.ref D) [vv] (λ_ H8=>H8=upd H7 D (.lst (acc++[v]))) K7 rfl (.cons r7 .nil) ⟨D,acc,v,rfl,rfl,hD7,hlen,rfl⟩) λ_ s8 zz=>?_;obtain⟨_,H8,K8,_,e8⟩:=zz;subst e8;exact Vk K8 bN hm' w7
      |false=>
        refine rN ?_;have q6f:H6' D=aa (.lst acc) /\ ∃m',m'<n/\W (i+1) m' acc H6':=by simpa using q6'
        obtain⟨hD7,m',hm',w7⟩:=q6f;exact Vk K6' hD7 hm' w7
  exact codeAny_compStart_list loop (T.self _ 0 _ _ _ st4 loop)
theorem FC{pos:jw}{g:TG}(hc:X.N=X.N)
    (hi:PI X tgt iter wi) (hg:∀(fp:List ah) (s:ai) (H:Hp),PG (p8 X Wk cl fp (tgs++ns) s H) tgt g) (ht:∀(fp:List ah) (s:ai) (H:Hp),LW (p8 X Wk cl fp (tgs++ns) s H) ifs tt)
    (he:∀(fp:List ah) (s:ai) (H:Hp),PE (p8 X Wk cl fp (tgs++ns) s H) elt te)
    (WD:uh Wk X.env=io cl) (Wx:∀x c,cl.lookup x=aa c->X.env.cells.lookup x=aa c)
    (WI:∀x,((gw Wk X.env).names.lookup x=aa .cell \/ (gw Wk X.env).names.lookup x=aa .free) -> ∃c,cl.lookup x=aa c)
    (hjs:js.map (λj=>X.N[j]?)=ns.map aa) (hin:∀y∈ns,(gw Wk X.env).names.lookup y=aa .cell \/ (gw Wk X.env).names.lookup y=aa .free)
    (WE:∀y∈ns,X.env.kindOf y=aa .cell \/ X.env.kindOf y=aa .free)
    (Wp:autoParam (∀y∈Wk.names,y.2 ≠ .cell) C8._auto_1) (Ws:autoParam (Wk.kind=.function) bV._auto_1)
    (Wq:autoParam (∀y∈Wk.names,y.2=.local->Wk.names.lookup y.1=aa .local) C8._auto_1)
    (hs:autoParam (∀z,ic iter X.env z=io z) Gp._auto_1):
    PE X (.ListComp elt [⟨tgt,iter,ifs,0⟩] Wk pos) (xM wi tgs.length js g tt te):=by
  intro pj s σ H Q I h;rw[eval_ListComp];refine xB hc hi hg ht he WD Wx WI hjs hin WE Wp Ws Wq hs _ pj s σ H Q I h aq _ ?_;intro D C H' s' q fp hm inv;obtain⟨m,hm⟩:=hm;exact⟨m,hm,λh' hs'=>⟨.ref D,H',inv h' hs',rfl,q⟩⟩
theorem F6{y:bn}{py spos:jw}{iy:Nat}{pos:jw}{g:TG}(hN:X.N.Nodup)(hi2:X.N[iy]?=aa y)(hx2:Gs X.env.scope y)(hc:X.N=X.N)
    (hi:PI X tgt iter wi) (hg:∀(fp:List ah) (s:ai) (H:Hp),PG (p8 X Wk cl fp (tgs++ns) s H) tgt g) (ht:∀(fp:List ah) (s:ai) (H:Hp),LW (p8 X Wk cl fp (tgs++ns) s H) ifs tt)
    (he:∀(fp:List ah) (s:ai) (H:Hp),PE (p8 X Wk cl fp (tgs++ns) s H) elt te)
    (WD:uh Wk X.env=io cl) (Wx:∀x c,cl.lookup x=aa c->X.env.cells.lookup x=aa c)
    (WI:∀x,((gw Wk X.env).names.lookup x=aa .cell \/ (gw Wk X.env).names.lookup x=aa .free) -> ∃c,cl.lookup x=aa c)
    (hjs:js.map (λj=>X.N[j]?)=ns.map aa) (hin:∀y∈ns,(gw Wk X.env).names.lookup y=aa .cell \/ (gw Wk X.env).names.lookup y=aa .free)
    (WE:∀y∈ns,X.env.kindOf y=aa .cell \/ X.env.kindOf y=aa .free)
    (Wp:autoParam (∀y∈Wk.names,y.2 ≠ .cell) C8._auto_1) (Ws:autoParam (Wk.kind=.function) bV._auto_1)
    (Wq:autoParam (∀y∈Wk.names,y.2=.local->Wk.names.lookup y.1=aa .local) C8._auto_1)
    (hs:autoParam (∀z,ic iter X.env z=io z) Gp._auto_1)
    (hsw:autoParam (ji (.ListComp elt [⟨tgt,iter,ifs,0⟩] Wk pos) (aa (.Name y py)) spos.line X.env=io aj) bV._auto_1) (hf:autoParam (X.fn y=aj \/ X.env.scope.names.lookup y=aa .local) Gq._auto_1):
    PS X (.Assign [.Name y py] (.ListComp elt [⟨tgt,iter,ifs,0⟩] Wk pos) spos) (HA (xM wi tgs.length js g tt te) (Ah iy)):=by
  intro pj s σ H D I h;rw[exec_Assign_Name_used _ _ _ _ hsw];refine ae (wpAny_standAt (ae ?_));show bi _ X.A (do let _ <- comprehension (.ListComp elt [⟨tgt,iter,ifs,0⟩] Wk pos) Wk X.env _ (Vw []) ap (fz iter X.env) (aa (SZ (.Name y py) X.env))) _ _ s;refine ae (fy (xB hc hi hg ht he WD Wx WI hjs hin WE Wp Ws Wq hs _ pj s σ H _ I h (aa (SZ (.Name y py) X.env)) (λ_ s'=>SP X pj D .next s') ?_) (λ_ s' hq=>ar (ar hq)) λ_ _ e=>e);intro E C H' s' q fp ⟨m,hm⟩ inv;have I1:Inv X pj σ H' s':=inv s'.heap ⟨rfl,λ_ _=>rfl⟩;show bi _ X.A (SZ (.Name y py) X.env (.ref E)) _ _ _;refine Tf (w4 I1 hN hi2 hx2 (v:=.ref E) rfl (λs2 I2 hsb=>?_) hf);obtain⟨a,hsb,ha⟩:=hsb;have aC:a≠C:=by
    rcases ha with ha | ha
    . rw[ha];exact Ne.symm fp.2.1
    . exact fp.2.2.2.2.1 _ _ ha
  refine⟨m,hm.sameBut hsb (Ne.symm aC),λh' hs'=>⟨_,H',?_,q⟩⟩;refine I2.call' (s':={ s2 with heap:=h' }) (ch:=[C]) rfl ⟨λb o e n hb hx=>?_,λb o e n hb hx=>?_,λb o e n hx=>n,λb o e hx=>?_,λ_ _ e=>e,λ_ _ _ e=>e,λb ps e=>⟨#[],by simpa using e⟩⟩ ?_ I2.bare ?_
  . exact hs'.extBut b o (by simpa using hx) e
  . exact⟨o.slots,hs'.extBut b o (by simpa using hx) e⟩
  . exact⟨o,hs'.extBut b o (by simpa using hx) e⟩
  . have nC:∀c v,H' c=aa v->c≠C:=λc v e z=>by
      rw[z,fp.1] at e;cases e
    intro b u e;refine(I2.hok b u e).stay (λc v hc q=>(hs'.2 c ?_).trans q) (λ_ q=>q) (λ_ _ q=>q) λ_ _ q=>q;rcases hc with z | z
    . rw[z];exact nC b u e
    . exact nC c _ z
  . intro b hb;obtain rfl:b=C:=by simpa using hb
    exact⟨fp.2.2.2.1,fp.2.1,fp.2.2.2.2.1,fp.2.2.2.2.2⟩
variable {y:V}{o:Option V}{κ:Type}
section
variable [DecidableEq κ]
noncomputable def jQ(kvs:List (κ×V))(k:κ):Option V:=(kvs.find? λkv=>decide (kv.1=k)).map (·.2)
noncomputable def pW(kvs:List (κ×V))(k:κ)(v:V):List (κ×V):=
  if (kvs.any λkv=>decide (kv.1=k))=aj then kvs.map (λkv=>if kv.1=k then (kv.1,v) else kv) else kvs++[(k,v)]
theorem lE{p:κ×V}{r:List (κ×V)}{k:κ}(e:p.1=k):jQ (p::r) k=aa p.2:=by simp[jQ,wl,e]
theorem lF{p:κ×V}{r:List (κ×V)}{k:κ}(e:¬p.1=k):jQ (p::r) k=jQ r k:=by simp[jQ,wl,e]
theorem zQ(k:κ):∀kvs:List (κ×V),(kvs.any λkv=>decide (kv.1=k))=(jQ kvs k).isSome
  | []=>rfl
  |p::r=>by
    rw[wn];by_cases e:p.1=k
    . simp only[lE e,decide_eq_true e,Bool.true_or,Option.isSome_some]
    . rw[lF e,decide_eq_false e,Bool.false_or];exact zQ k r
theorem sI(kvs:List (κ×V))(k:κ)(v:V):(pW kvs k v).length<=kvs.length+1:=by
  unfold pW;split
  . rw[bv];right
  . rw[fg,cj,UU];right
theorem nM.isSome_eq{u:Option af}(r:nM o u):o.isSome=u.isSome:=by
  cases o with
  |none=>cases u with
    |none=>rfl
    |some _=>exact(show False from r).elim
  |some _=>cases u with
    |none=>exact(show False from r).elim
    |some _=>rfl
theorem KV.val{kvs:List (κ×V)}{vs:List (κ×af)}(r:KV kvs vs)(k:κ):nM (jQ kvs k) (Sk vs k):=by
  unfold KV at r;induction r with
  |nil=>exact mm
  | @cons p q ps qs h t ih=>
    obtain⟨h1,h2⟩:=h;by_cases e:p.1=k
    . have e':q.1=k:=h1.symm.trans e;have b:Sk (q::qs) k=aa q.2:=by simp[Sk,wl,e']
      rw[lE e,b];exact h2
    . have e':¬q.1=k:=λz=>e (h1.trans z);have b:Sk (q::qs) k=Sk qs k:=by simp[Sk,wl,e']
      rw[lF e,b];exact ih
theorem KV.any{kvs:List (κ×V)}{vs:List (κ×af)}(r:KV kvs vs)(k:κ):(kvs.any λkv=>decide (kv.1=k))=vs.any λkv=>decide (kv.1=k):=by
  unfold KV at r;induction r with
  |nil=>rfl
  |cons h t ih=>rw[wn,wn,ih,h.1]
theorem KV.repl{kvs:List (κ×V)}{vs:List (κ×af)}(r:KV kvs vs)(k:κ)(ry:cU y u):
    KV (kvs.map λkv=>if kv.1=k then (kv.1,y) else kv) (vs.map λkv=>if kv.1=k then (kv.1,u) else kv):=by
  unfold KV at r ⊢;induction r with
  |nil=>exact .nil
  | @cons p q ps qs h t ih=>
    rw[dh,dh];refine .cons ?_ ih;obtain⟨h1,h2⟩:=h;by_cases e:p.1=k
    . rw[Wj e,Wj (h1.symm.trans e)];exact⟨h1,ry⟩
    . rw[VT e,VT (λz=>e (h1.trans z))];exact⟨h1,h2⟩
theorem KV.put{kvs:List (κ×V)}{vs:List (κ×af)}(r:KV kvs vs)(k:κ)(ry:cU y u):KV (pW kvs k y) (stored vs k u):=by
  unfold pW stored;rw[r.any k];by_cases e:(vs.any λkv=>decide (kv.1=k))=aj
  . rw[Wj e,Wj e];exact r.repl k ry
  . rw[VT e,VT e];exact Paired.snoc r ⟨rfl,ry⟩
theorem KV.length{kvs:List (κ×V)}{vs:List (κ×af)}(r:KV kvs vs):kvs.length=vs.length:=Paired.length r
end
theorem Fz{k:bU}(r:cU (kV k) u):(eV P w).is k u=aj:=by
  cases k with
  |inl i=>obtain⟨t,e⟩:=(show ∃t,u=Value.int i t from r);subst e;exact Ab P w i t
  |inr x=>obtain⟨t,e⟩:=(show ∃t,u=Value.str x t from r);subst e;exact Aa P w x t
theorem wS{P:au}{w:bt}:∀{ks:List bU} {us:List af},bI (ks.map kV) us->ItemsAre (eV P w) ks us
  | [],_,r=>by rw[Tu] at r;cases r;exact .nil
  |k::ks,_,r=>by
    rw[dh] at r;cases r with
    |cons h t=>exact .cons (Fz h) (wS t)
noncomputable abbrev KT(H:Hp):List (List bU×V)->List (List bU×ah×af)->Prop:=Paired λp q=>p.1=q.1/\H q.2.1=aa (.tup (p.1.map kV))/\cU p.2 q.2.2
variable {xs:List (List bU×ah×af)}
theorem KT.val(r:KT H kvs xs)(k:List bU):nM (jQ kvs k) ((Um xs k).map (·.2)):=by
  induction r with
  |nil=>exact mm
  | @cons p q ps qs h t ih=>
    obtain⟨h1,_,h2⟩:=h;by_cases e:p.1=k
    . have e':q.1=k:=h1.symm.trans e;have b:Um (q::qs) k=aa q.2:=by simp[Um,wl,e']
      rw[lE e,b];exact h2
    . have e':¬q.1=k:=λz=>e (h1.trans z);have b:Um (q::qs) k=Um qs k:=by simp[Um,wl,e']
      rw[lF e,b];exact ih
theorem KT.repl(r:KT H kvs xs)(k:List bU)(ry:cU y u):
    KT H (kvs.map λkv=>if kv.1=k then (kv.1,y) else kv) (xs.map (putAt k u)):=by
  induction r with
  |nil=>exact .nil
  | @cons p q ps qs h t ih=>
    rw[dh,dh];refine .cons ?_ ih;obtain⟨h1,h2,h3⟩:=h;unfold putAt;by_cases e:p.1=k
    . rw[Wj e,Wj (h1.symm.trans e)];exact⟨h1,h2,ry⟩
    . rw[VT e,VT (λz=>e (h1.trans z))];exact⟨h1,h2,h3⟩
theorem KT.put(r:KT H kvs xs)(k:List bU)(hb:H b=aa (.tup (k.map kV)))(ry:cU y u):
    KT H (pW kvs k y) (storedH xs k b u):=by
  have e:(kvs.any λkv=>decide (kv.1=k))=(Um xs k).isSome:=by
    rw[zQ,(r.val k).isSome_eq,Option.isSome_map]
  unfold pW storedH;rw[e];by_cases q:(Um xs k).isSome=aj
  . rw[Wj q,Wj q];exact r.repl k ry
  . rw[VT q,VT q];exact Paired.snoc r ⟨rfl,hb,ry⟩
theorem KT.keeps(r:KT H kvs xs)(ht:∀b ys,H b=aa (.tup ys)->H' b=aa (.tup ys)):KT H' kvs xs:=
  Paired.mapP r λ_ _ z=>⟨z.1,ht _ _ z.2.1,z.2.2⟩
variable {ep:Nat}
theorem Iz{u:HO}(ok:l7 P w H h)(e:Rd H a u):cL P w H h a u:=e.ok ok
theorem Cn{kvs:List (bU×V)}(ok:l7 P w H h)(e:Rd H a (.dK kvs)):kvs.length<=bh/\(a==jn)=ap /\ ∃vs,KV kvs vs/\h.DictOf (eV P w) a vs:=
  show cL P w H h a (.dK kvs) from Iz ok e
theorem Na{kvs:List (bU×V)}(ok:l7 P w H h)(e:H a=aa (.dK kvs)):kvs.length<=bh/\(a==jn)=ap /\ ∃vs,KV kvs vs/\h.DictOf (eV P w) a vs:=Cn ok (.inl e)
theorem Bn{ks:List bU}(ok:l7 P w H h)(e:H a=aa (.tup (ks.map kV))):(Sd (eV P w)).is h ks a:=by
  obtain⟨_,its,r,o,h1,h2,n,h3⟩:=(show cL P w H h a (.tup (ks.map kV)) from ok a _ e);exact⟨o,its.toArray,n,h1,h2,h3,by simpa using wS r⟩
theorem GS(ok:l7 P w H h)(e:Rd H a (.dT ep kvs)):kvs.length<=bh/\(a==jn)=ap /\
    ∃xs,KT H kvs xs/\h.DictOfH (Sd (eV P w)) a xs:=by
  obtain⟨z,y,xs,r,o,es,h1,h2,h3,h4,h5⟩:=(show cL P w H h a (.dT ep kvs) from Iz ok e);refine⟨z,y,xs,r,o,es,ep,h1,h2,h3,h4,λx hx=>?_,h5⟩;have all:∀{l:List (List bU×V)} {m:List (List bU×ah×af)},KT H l m -> ∀x∈m,(Sd (eV P w)).is h x.1 x.2.1:=by
    intro l m q;induction q with
    |nil=>intro x hx;exact nomatch hx
    | @cons p q ps qs hq t ih=>
      intro x hx;rcases dt.mp hx with e | hx
      . subst e;exact Bn ok (by rw[<- hq.1];exact hq.2.1)
      . exact ih x hx
  exact all r x hx
theorem NZ(ok:l7 P w H h)(e:H a=aa (.dT ep kvs)):kvs.length<=bh/\(a==jn)=ap /\
    ∃xs,KT H kvs xs/\h.DictOfH (Sd (eV P w)) a xs:=GS ok (.inl e)
noncomputable def vT(H:Hp)(a:ah)(y:V)(r:Option V):Prop:=
  (∃kvs k,Rd H a (.dK kvs)/\y=kV k/\r=jQ kvs k) \/ ∃ep kvs k b,Rd H a (.dT ep kvs)/\y=.ref b/\H b=aa (.tup (k.map kV))/\r=jQ kvs k
noncomputable def Gm(H:Hp)(a:ah)(y v:V)(R:Hp->Prop):Prop:=
  (∃kvs k,H a=aa (.dK kvs)/\y=kV k/\kvs.length<bh/\R (upd H a (.dK (pW kvs k v)))) \/
  ∃ep kvs k b,H a=aa (.dT ep kvs)/\y=.ref b/\H b=aa (.tup (k.map kV))/\kvs.length<bh /\ ∀ep',R (upd H a (.dT ep' (pW kvs k v)))
theorem vT.k{H:Hp}{a:ah}{kvs:List (bU×V)}{k:bU}(e:H a=aa (.dK kvs)):vT H a (kV k) (jQ kvs k):=.inl ⟨kvs,k,.inl e,rfl,rfl⟩
theorem vT.t{k:List bU}(e:H a=aa (.dT ep kvs))(eb:H b=aa (.tup (k.map kV))):vT H a (.ref b) (jQ kvs k):=.inr ⟨ep,kvs,k,b,.inl e,rfl,eb,rfl⟩
theorem Gm.t{k:List bU}{R:Hp->Prop}(e:H a=aa (.dT ep kvs))(eb:H b=aa (.tup (k.map kV)))(hl:kvs.length<bh)(r:∀ep',R (upd H a (.dT ep' (pW kvs k v)))):Gm H a (.ref b) v R:=.inr ⟨ep,kvs,k,b,e,rfl,eb,hl,r⟩
variable {Q:af->ai->Prop}{r:af}
theorem Inv.big(I:Inv X pj σ H s):jn<s.heap.objs.size:=by
  have h:iw<s.heap.objs.size:=(I.mod.glob.keeps I.bk).lt;exact Vx ∅ h
theorem E5(hu:A.units+1<lq)(I:Inv X pj σ H s)(g:vT H a y (aa v))(ry:cU y u)(h:∀w' s',Inv X pj σ H s'->cU v w'->Q w' s'):
    bi (bu X.prog X.w) A (Tt (.ref a) u) Q E s:=by
  rcases g with⟨kvs,k,e,ey,l⟩ | ⟨_,kvs,k,b,e,ey,eb,l⟩
  . subst ey;obtain⟨z,hd,vs,rel,dd⟩:=Cn I.hok e;obtain⟨w',hw,rw'⟩:=nM.some_of (v:=v) (o:=Sk vs k) (by rw[l];exact rel.val k);exact wpAny_getItem_of (Fz ry) dd.mapOf hw (h w' _ (I.tok _) rw')
  . subst ey;cases (show u=Value.ref b from ry);obtain⟨z,hd,xs,rel,dd⟩:=GS I.hok e;obtain⟨w',hw,rw'⟩:=nM.some_of (v:=v) (o:=(Um xs k).map (·.2)) (by rw[l];exact rel.val k);obtain⟨p,hp,hp2⟩:=yv.mp hw;refine wpAny_getItem_heap (T5 hu) (Bn I.hok eb) dd hp ?_;rw[hp2];exact h w' _ (I.tok _) rw'
theorem Co(I:Inv X pj σ H s)(mu:EF (H a))(hs:ss a s.heap h')(he:∃q,h'.get? a=aa q)(new:cL X.prog X.w (upd H a ob) h' a ob):
    Inv X pj σ (upd H a ob) { s with heap:=h',toks:=t' }:=
  I.write (x:=a) (e:=a) mu (.inl rfl) (λb q hb z=>(hs.2 b hb).trans z) he new
theorem LI{kvs:List (bU×V)}{vs:List (bU×af)}(z:kvs.length<=bh)(hd:(a==jn)=ap)(rel:KV kvs vs)(dd:h'.DictOf (eV P w) a vs):
    cL P w H' h' a (.dK kvs):=⟨z,hd,vs,rel,dd⟩
theorem E4{R:Hp->Prop}{Q:Unit->ai->Prop}(hu:A.units+1<lq)(I:Inv X pj σ H s)(g:Gm H a y v R)(ry:cU y u)(rv:cU v r)(h:∀H' s',R H'->Inv X pj σ H' s'->Q () s'):
    bi (bu X.prog X.w) A (setItem (.ref a) u r) Q E s:=by
  rcases g with⟨kvs,k,e,ey,l,eH⟩ | ⟨ep0,kvs,k,b,e,ey,eb,l,eH⟩
  . subst ey;obtain⟨z,hd,vs,rel,dd⟩:=Na I.hok e;have hz:vs.length<=bh:=by rw[<- rel.length];exact z
    have hl:(pW kvs k v).length<=bh:=by have:=sI kvs k v;right
    refine wpAny_setItem_pairs (hsz:=hz) (Fz ry) dd λh' dd' hs=>h _ _ eH ?_;have he:∃q,h'.get? a=aa q:=let ⟨q,_,_,hq,_⟩:=dd';⟨q,hq⟩;exact Co I (by rw[e];exact mm) hs he (LI hl hd (rel.put k rv) dd')
  . subst ey;cases (show u=Value.ref b from ry);obtain⟨z,hd,xs,rel,dd⟩:=NZ I.hok e;have hz:xs.length<=bh:=by rw[<- Paired.length rel];exact z
    have hl:(pW kvs k v).length<=bh:=by have:=sI kvs k v;right
    refine wpAny_setItem_heap (hsz:=hz) (T5 hu) (Bn I.hok eb) dd λh' dd' hs=>?_;obtain⟨q,es,ep,hq,h2,h3,h4,_,h5⟩:=dd';refine h _ _ (eH ep) ?_;refine Co I (by rw[e];exact mm) hs ⟨q,hq⟩ ⟨hl,hd,_,(rel.put k eb rv).keeps λc ys ec=>?_,q,es,hq,h2,h3,h4,h5⟩;rw[b9 (N7 ec e (λz=>nomatch z))];exact ec
section
variable {kvs:List (bU×V)}{k:bU}
theorem Nb(I:Inv X pj σ H s)(e:Rd H a (.dK kvs))(h:∀t s',Inv X pj σ H s'->Q (.int kvs.length t) s'):bi (bu X.prog X.w) A (call (.builtin "len") [.ref a]) Q E s:=by
  obtain⟨z,hd,vs,rel,dd⟩:=Cn I.hok e;refine call_len_dict hd dd (by rw[<- rel.length];rw[ie] at z;right) ?_;rw[<- rel.length];exact h _ _ (I.tok _)
end
theorem Av(I:Inv X pj σ H s)(g:vT H a y o):s.TypeIs (.ref a) "dict" := by
  rcases g with⟨kvs,k,e,_,_⟩ | ⟨_,kvs,k,b,e,_,_,_⟩
  . obtain⟨_,_,vs,_,dd⟩:=Cn I.hok e;exact dd.typeIs
  . obtain⟨_,_,xs,_,dd⟩:=GS I.hok e;exact dd.typeIs
noncomputable def MA(td ty tv:TE):TS:=λD σ H=>tv σ H λv H1=>td σ H1 λx H2=>ty σ H2 λy H3=>∃a,x=.ref a/\Gm H3 a y v (D.nx σ)
variable {Wr:Expr}{WF:jw}{td tv:TE}
section
variable {o i:Expr}{pos tpos:jw}{ty:TE}
theorem HV(hu:X.A.units+1<lq)(ho:PE X o td)(hi:PE X i ty)(hv:PE X Wr tv)(hs:ji Wr (aa (.Subscript o i WF)) pos.line X.env=io ap):
    PS X (.Assign [.Subscript o i WF] Wr pos) (MA td ty tv):=by
  intro pj s σ H D I h;refine wpAny_Assign_Subscript (thn (hv pj s σ H _ I h) λr s1 ⟨v,H1,I1,rv,q1⟩=>thn (ho pj s1 σ H1 _ I1 q1) λu s2 ⟨x,H2,I2,rx,q2⟩=>thn (hi pj s2 σ H2 _ I2 q2) λiv s3 ⟨y,H3,I3,ry,a,ex,g⟩=>?_) hs;subst ex;obtain rfl:u=Value.ref a:=rx;exact E4 hu I3 g ry rv λH4 s4 q3 I4=>⟨σ,H4,I4,q3⟩
end
theorem GT(h:cm)(hb:jn<h.objs.size):cL P w H (h.push { cls:=.type "dict",data:=.dict #[] }) h.objs.size (.dT 0 []):=
  ⟨lj _,beq_eq_false_iff_ne.mpr (Ne.symm (fu hb)),[],.nil,_,#[],bw _ rfl,⟨rfl,rfl,rfl⟩,rfl,rfl,UV⟩
noncomputable def JS:TE:=λ_ H Q=>∀p,H p=aq->Q (.ref p) (upd H p (.dT 0 []))
section
variable {pos:jw}
theorem FB:PE X (.Dict [] [] pos) JS:=λpj s σ H Q I h=>
  wpAny_Dict_empty ⟨.ref s.heap.objs.size,_,I.laid (a:=s.heap.objs.size) (o:=.dT 0 []) (t':=s.toks) (λ_ _ q=>ao _ q) (bj _) (GT s.heap I.big),rfl,h _ (I.hok.fresh (bj _))⟩
end
section
variable {d:V}
end
section
variable {o f:Expr}{Ww:jw}{ty tx:TE}
end
section
variable {kvs:List (bU×V)}
end
theorem EB:eP X (.builtin "len") (λxs H Q=>∃a kvs,xs=[V.ref a]/\H a=aa (.dK kvs)/\Q (.int kvs.length) H):=by
  intro pj s σ H xs us Q I r h;obtain⟨a,kvs,rfl,ha,q⟩:=h;obtain⟨u,rfl,ru⟩:=iM r;cases ru;exact Nb I (.inl ha) λt s' I'=>⟨.int kvs.length,H,I',⟨t,rfl⟩,q⟩
section
variable [DecidableEq κ]
end
noncomputable abbrev Tk:=Int×Int×List Int
noncomputable def EV(k:Tk):Int:=reduceHash (wv [Vq k.1,Vq k.2.1,reduceHash (wv (k.2.2.map Vq))])
noncomputable abbrev Qi(x:Tk×ah):my:=⟨EV x.1,.ref x.2,.bool aj⟩
noncomputable def ndict(a:ah)(xs:List (Tk×ah)):cm->Prop:=λh=>xs.length<=bh/\(a==jn)=ap /\ ∃o es ep,h.get? a=aa o/\o.ExactDict/\o.data=.dict es ep/\es.toList=xs.map Qi/\(xs.map (·.1)).Nodup
noncomputable abbrev HO.dN(a:ah)(xs:List (Tk×ah)):HO:=.ext (ndict a xs)
noncomputable def TileAt(H:Hp)(k:Tk)(b:ah):Prop:=∃c,H b=aa (.tup [.int k.1,.int k.2.1,.ref c])/\H c=aa (.tup (k.2.2.map V.int))
section
variable {xs:List (Tk×ah)}{k:Tk}
end
section
variable {pos:jw}{o i:Expr}{ty:TE}
end
end L2
variable {M F:ah->Prop}{HZ:L2.Hp}
namespace Z
open L2
noncomputable abbrev St:=L2.St
inductive Dv where
 |non
 |bl (b:Bool)
 |int (i:Int)
 |str (x:bn)
 |tup (xs:List Dv)
 |lst (xs:List Dv)
 |dik (kvs:List (bU×Dv))
 |dit (kvs:List (List bU×Dv))
 |obj (C:ah) (fs:List (bn×Dv))
 |scr (ns:List Int)
 /-- an exception that was caught,of the class at C -/
 |exc (C:ah) (p:Option Int)
 /-- a dict by tiles whose values are True -/
 |dns (ks:List Tk)
noncomputable def i7:Dv->Bool
 | .lst _=>ap
 | .dik _=>ap
 | .dit _=>ap
 | .obj _ _=>ap
 | .dns _=>ap
 | .tup xs=>flatDs xs
 |_=>aj
where flatDs:List Dv->Bool
 | []=>aj
 |d::r=>i7 d&&flatDs r
noncomputable abbrev flatDs:=i7.flatDs
noncomputable def Im(K:ak)(H:Hp)(a:ah)(ns:List Int):Prop:=
 (∃o,H a=aa (.frz o (.lst (ns.map V.int)))) \/
  ∃(o:je) (its:Array af) (n:Nat),K.lookup a=aa o/\o.cls=.type "list" /\ o.dict=aq/\o.data=.seq its n/\its.size<=bh/\bI (ns.map V.int) its.toList
theorem Im.sq(h:Im K H a ns):fJ K H a (ns.map V.int):=by
 rcases h with⟨o,h⟩ | h
 ·exact .inl (.inr ⟨o,h⟩)
 ·exact .inr h
noncomputable def v4(H:Hp):Option Int->Option ah->Prop
 |none,aq=>True
 |some n,aa d=>∃od,H d=aa (.frz od (.xd [("step",.int n)]))
 |_,_=>False
theorem v4.gen(h:∀a o u,H a=aa (.frz o u)->H' a=aa (.frz o u)):∀{p:Option Int} {d:Option ah},v4 H p d->v4 H' p d
 |none,aq,z=>z
 |some _,aa _,⟨od,z⟩=>⟨od,h _ _ _ z⟩
 |none,aa _,z=>z.elim
 |some _,aq,z=>z.elim
noncomputable def JH(H:Hp)(a C:ah)(p:Option Int):Prop:=∃o u,H a=aa (.frz o u)/\o.cls=.ref C/\v4 H p o.dict/\kU o
noncomputable def Rh(H:Hp)(a:ah)(ks:List Tk):Prop:=∃xs,H a=aa (.dN a xs)/\ks=xs.map (·.1) /\ ∀x∈xs,TileAt H x.1 x.2
mutual
inductive Rep(K:ak)(M:ah->Prop)(H:Hp):V->Dv->Prop
 |non:Rep K M H .non .non
 |bl (b:Bool):Rep K M H (.bl b) (.bl b)
 |int (i:Int):Rep K M H (.int i) (.int i)
 |str (x:bn):Rep K M H (.str x) (.str x)
 |tup {a:ah} {xs:List V} {ds:List Dv}:H a=aa (.tup xs)->Reps K M H xs ds->Rep K M H (.ref a) (.tup ds)
 |lst {a:ah} {xs:List V} {ds:List Dv}:H a=aa (.lst xs) -> ¬M a->Reps K M H xs ds->Rep K M H (.ref a) (.lst ds)
 |dik {a:ah} {kvs:List (bU×V)} {ds:List (bU×Dv)}:H a=aa (.dK kvs) -> ¬M a->RepK K M H kvs ds->Rep K M H (.ref a) (.dik ds)
 |dit {a:ah} {ep:Nat} {kvs:List (List bU×V)} {ds:List (List bU×Dv)}:H a=aa (.dT ep kvs) -> ¬M a->RepT K M H kvs ds->Rep K M H (.ref a) (.dit ds)
 |obj {a C dx:ah} {fs:List (bn×V)} {ds:List (bn×Dv)}:H a=aa (.ins C dx fs) -> ¬M a->RepF K M H fs ds->Rep K M H (.ref a) (.obj C ds)
 |scr {a:ah} {ns:List Int}:Im K H a ns->Rep K M H (.ref a) (.scr ns)
 |exc {a C:ah} {p:Option Int}:JH H a C p->Rep K M H (.ref a) (.exc C p)
 |dns {a:ah} {ks:List Tk}:Rh H a ks -> ¬M a->Rep K M H (.ref a) (.dns ks)
inductive Reps(K:ak)(M:ah->Prop)(H:Hp):List V->List Dv->Prop
 |nil:Reps K M H [] []
 |cons {x:V} {d:Dv} {xs:List V} {ds:List Dv}:Rep K M H x d->Reps K M H xs ds->Reps K M H (x::xs) (d::ds)
inductive RepK(K:ak)(M:ah->Prop)(H:Hp):List (bU×V)->List (bU×Dv)->Prop
 |nil:RepK K M H [] []
 |cons {k:bU} {x:V} {d:Dv} {xs:List (bU×V)} {ds:List (bU×Dv)}:Rep K M H x d->RepK K M H xs ds->RepK K M H ((k,x)::xs) ((k,d)::ds)
inductive RepT(K:ak)(M:ah->Prop)(H:Hp):List (List bU×V)->List (List bU×Dv)->Prop
 |nil:RepT K M H [] []
 |cons {k:List bU} {x:V} {d:Dv} {xs:List (List bU×V)} {ds:List (List bU×Dv)}:Rep K M H x d->RepT K M H xs ds->RepT K M H ((k,x)::xs) ((k,d)::ds)
inductive RepF(K:ak)(M:ah->Prop)(H:Hp):List (bn×V)->List (bn×Dv)->Prop
 |nil:RepF K M H [] []
 |cons {k:bn} {x:V} {d:Dv} {xs:List (bn×V)} {ds:List (bn×Dv)}:Rep K M H x d->RepF K M H xs ds->RepF K M H ((k,x)::xs) ((k,d)::ds)
end
structure Gen(K:ak)(M M':ah->Prop)(H H':Hp):Prop where
 l:∀a o,H a=aa o->EF (aa o) -> ¬M a->H' a=aa o /\ ¬M' a
 t:∀a xs,H a=aa (.tup xs)->H' a=aa (.tup xs)
 s:∀a ns,Im K H a ns->Im K H' a ns
 x:∀a o u,H a=aa (.frz o u)->H' a=aa (.frz o u)
variable {ds:List Dv}{o:HO}{M':ah->Prop}{H'':Hp}
section
variable {M'':ah->Prop}
theorem Reps.ind{P:List V->List Dv->Prop}(h0:P [] [])(h1:∀(x:V) (d:Dv) (xs:List V) (ds:List Dv),Rep K M H x d->Reps K M H xs ds->P xs ds->P (x::xs) (d::ds))(r:Reps K M H xs ds):P xs ds:=
 Reps.rec (motive_1:=λ_ _ _=>True) (motive_2:=λxs ds _=>P xs ds) (motive_3:=λ_ _ _=>True) (motive_4:=λ_ _ _=>True) (motive_5:=λ_ _ _=>True) trivial (λ_=>trivial) (λ_=>trivial) (λ_=>trivial) (λ_ _ _=>trivial) (λ_ _ _ _=>trivial) (λ_ _ _ _=>trivial) (λ_ _ _ _=>trivial) (λ_ _ _ _=>trivial) (λ_=>trivial) (λ_=>trivial) (λ_ _=>trivial) h0 (λa r _ ih=>h1 _ _ _ _ a r ih) trivial (λ_ _ _ _=>trivial) trivial (λ_ _ _ _=>trivial) trivial (λ_ _ _ _=>trivial) r
theorem RepK.ind{P:List (bU×V)->List (bU×Dv)->Prop}(h0:P [] [])(h1:∀(k:bU) (x:V) (d:Dv) (xs:List (bU×V)) (ds:List (bU×Dv)),Rep K M H x d->RepK K M H xs ds->P xs ds->P ((k,x)::xs) ((k,d)::ds)){xs:List (bU×V)}{ds:List (bU×Dv)}(r:RepK K M H xs ds):P xs ds:=
 RepK.rec (motive_1:=λ_ _ _=>True) (motive_2:=λ_ _ _=>True) (motive_3:=λxs ds _=>P xs ds) (motive_4:=λ_ _ _=>True) (motive_5:=λ_ _ _=>True) trivial (λ_=>trivial) (λ_=>trivial) (λ_=>trivial) (λ_ _ _=>trivial) (λ_ _ _ _=>trivial) (λ_ _ _ _=>trivial) (λ_ _ _ _=>trivial) (λ_ _ _ _=>trivial) (λ_=>trivial) (λ_=>trivial) (λ_ _=>trivial) trivial (λ_ _ _ _=>trivial) h0 (λa r _ ih=>h1 _ _ _ _ _ a r ih) trivial (λ_ _ _ _=>trivial) trivial (λ_ _ _ _=>trivial) r
theorem RepT.ind{P:List (List bU×V)->List (List bU×Dv)->Prop}(h0:P [] [])(h1:∀(k:List bU) (x:V) (d:Dv) (xs:List (List bU×V)) (ds:List (List bU×Dv)),Rep K M H x d->RepT K M H xs ds->P xs ds->P ((k,x)::xs) ((k,d)::ds)){xs:List (List bU×V)}{ds:List (List bU×Dv)}(r:RepT K M H xs ds):P xs ds:=
 RepT.rec (motive_1:=λ_ _ _=>True) (motive_2:=λ_ _ _=>True) (motive_3:=λ_ _ _=>True) (motive_4:=λxs ds _=>P xs ds) (motive_5:=λ_ _ _=>True) trivial (λ_=>trivial) (λ_=>trivial) (λ_=>trivial) (λ_ _ _=>trivial) (λ_ _ _ _=>trivial) (λ_ _ _ _=>trivial) (λ_ _ _ _=>trivial) (λ_ _ _ _=>trivial) (λ_=>trivial) (λ_=>trivial) (λ_ _=>trivial) trivial (λ_ _ _ _=>trivial) trivial (λ_ _ _ _=>trivial) h0 (λa r _ ih=>h1 _ _ _ _ _ a r ih) trivial (λ_ _ _ _=>trivial) r
theorem RepF.ind{P:List (bn×V)->List (bn×Dv)->Prop}(h0:P [] [])(h1:∀(k:bn) (x:V) (d:Dv) (xs:List (bn×V)) (ds:List (bn×Dv)),Rep K M H x d->RepF K M H xs ds->P xs ds->P ((k,x)::xs) ((k,d)::ds)){xs:List (bn×V)}{ds:List (bn×Dv)}(r:RepF K M H xs ds):P xs ds:=
 RepF.rec (motive_1:=λ_ _ _=>True) (motive_2:=λ_ _ _=>True) (motive_3:=λ_ _ _=>True) (motive_4:=λ_ _ _=>True) (motive_5:=λxs ds _=>P xs ds) trivial (λ_=>trivial) (λ_=>trivial) (λ_=>trivial) (λ_ _ _=>trivial) (λ_ _ _ _=>trivial) (λ_ _ _ _=>trivial) (λ_ _ _ _=>trivial) (λ_ _ _ _=>trivial) (λ_=>trivial) (λ_=>trivial) (λ_ _=>trivial) trivial (λ_ _ _ _=>trivial) trivial (λ_ _ _ _=>trivial) trivial (λ_ _ _ _=>trivial) h0 (λa r _ ih=>h1 _ _ _ _ _ a r ih) r
theorem _root_.L2.TileAt.gen{k:Tk}(t:TileAt H k b)(ht:∀a xs,H a=aa (.tup xs)->H' a=aa (.tup xs)):TileAt H' k b:=let ⟨c,e1,e2⟩:=t;⟨c,ht _ _ e1,ht _ _ e2⟩
theorem Rep.gen(G:Gen K M M' H H'){x:V}{d:Dv}(r:Rep K M H x d):Rep K M' H' x d:=
 Rep.rec (motive_1:=λx d _=>Rep K M' H' x d) (motive_2:=λxs ds _=>Reps K M' H' xs ds) (motive_3:=λxs ds _=>RepK K M' H' xs ds) (motive_4:=λxs ds _=>RepT K M' H' xs ds) (motive_5:=λxs ds _=>RepF K M' H' xs ds)
  .non .bl .int .str (λh _ r=>.tup (G.t _ _ h) r) (λh m _ r=>.lst (G.l _ _ h trivial m).1 (G.l _ _ h trivial m).2 r) (λh m _ r=>.dik (G.l _ _ h trivial m).1 (G.l _ _ h trivial m).2 r) (λh m _ r=>.dit (G.l _ _ h trivial m).1 (G.l _ _ h trivial m).2 r)
  (λh m _ r=>.obj (G.l _ _ h trivial m).1 (G.l _ _ h trivial m).2 r) (λh=>.scr (G.s _ _ h)) (λzq4=>by obtain⟨o,u,h,z,y,m⟩:=zq4;exact .exc ⟨o,u,G.x _ _ _ h,z,y.gen G.x,m⟩) (λ⟨xs,h,e,t⟩ m=>.dns ⟨xs,(G.l _ _ h trivial m).1,e,λx hx=>(t x hx).gen G.t⟩ (G.l _ _ h trivial m).2) .nil (λ_ _ a r=>.cons a r) .nil (λ_ _ a r=>.cons a r) .nil (λ_ _ a r=>.cons a r) .nil (λ_ _ a r=>.cons a r) r
theorem Reps.gen(G:Gen K M M' H H'){xs:List V}{ds:List Dv}(r:Reps K M H xs ds):Reps K M' H' xs ds:=r.ind .nil λ_ _ _ _ a _ ih=>.cons (a.gen G) ih
theorem RepK.gen(G:Gen K M M' H H'){xs:List (bU×V)}{ds:List (bU×Dv)}(r:RepK K M H xs ds):RepK K M' H' xs ds:=r.ind .nil λ_ _ _ _ _ a _ ih=>.cons (a.gen G) ih
theorem RepT.gen(G:Gen K M M' H H'){xs:List (List bU×V)}{ds:List (List bU×Dv)}(r:RepT K M H xs ds):RepT K M' H' xs ds:=r.ind .nil λ_ _ _ _ _ a _ ih=>.cons (a.gen G) ih
theorem RepF.gen(G:Gen K M M' H H'){xs:List (bn×V)}{ds:List (bn×Dv)}(r:RepF K M H xs ds):RepF K M' H' xs ds:=r.ind .nil λ_ _ _ _ _ a _ ih=>.cons (a.gen G) ih
theorem aM.scr(S:aM H H')(h:Im K H a ns):Im K H' a ns:=by
 rcases h with⟨o,h⟩ | h
 ·exact .inl ⟨o,S _ _ h⟩
 ·exact .inr h
theorem Gen.mono(S:aM H H'):Gen K M M H H':=⟨λa o h _ m=>⟨S _ _ h,m⟩,λ_ _ h=>S _ _ h,λ_ _ h=>aM.scr S h,λ_ _ _ h=>S _ _ h⟩
theorem Gen.weak(h:∀a,M' a->M a):Gen K M M' H H:=⟨λa o e _ m=>⟨e,λz=>m (h a z)⟩,λ_ _ h=>h,λ_ _ h=>h,λ_ _ _ h=>h⟩
theorem Gen.fresh{p:ah}(hp:H p=aq):Gen K M (λb=>M b \/ b=p) H H:=
 ⟨λa o e _ m=>⟨e,λz=>z.elim m λz=>by rw[z,hp] at e;cases e⟩,λ_ _ h=>h,λ_ _ h=>h,λ_ _ _ h=>h⟩
theorem Gen.trans(a:Gen K M M' H H')(b:Gen K M' M'' H' H''):Gen K M M'' H H'':=
 ⟨λc o e mu m=>b.l c o (a.l c o e mu m).1 mu (a.l c o e mu m).2,λc xs h=>b.t c xs (a.t c xs h),λc ns h=>b.s c ns (a.s c ns h),λc o u h=>b.x c o u (a.x c o u h)⟩
theorem Bg{p:ah}{u:HO}(mu:EF (H p))(e:H a=aa u)(n:¬EF (aa u)):a≠p:=λz=>by
 subst z;rw[e] at mu;exact n mu
theorem Gen.write{p:ah}(hM:M p)(mu:EF (H p)):Gen K M M H (upd H p o):=by
 refine⟨λa u e _ m=>⟨?_,m⟩,λa xs h=>?_,λa ns h=>?_,λa o u h=>by rw[b9 (Bg mu h λz=>z)];exact h⟩
 ·rw[b9 λz=>m (by rw[z];exact hM)];exact e
 ·rw[b9 (Bg mu h λz=>z)];exact h
 ·rcases h with⟨u,h⟩ | h
  ·exact .inl ⟨u,by rw[b9 (Bg mu h λz=>z)];exact h⟩
  ·exact .inr h
end
theorem Rep.mono{x:V}{d:Dv}(S:aM H H')(h:Rep K M H x d):Rep K M H' x d:=h.gen (.mono S)
theorem Rep.weak{x:V}{d:Dv}(w:∀a,M' a->M a)(h:Rep K M H x d):Rep K M' H x d:=h.gen (.weak w)
theorem Reps.mono{xs:List V}{ds:List Dv}(S:aM H H')(h:Reps K M H xs ds):Reps K M H' xs ds:=h.gen (.mono S)
theorem Reps.weak{xs:List V}{ds:List Dv}(w:∀a,M' a->M a)(h:Reps K M H xs ds):Reps K M' H xs ds:=h.gen (.weak w)
theorem eQ{d:Dv}(f:flatDs (d::ds)=aj):i7 d=aj/\flatDs ds=aj:=by
 have f':(i7 d&&flatDs ds)=aj:=f;rwa[cg] at f'
theorem Rep.flat{x:V}{d:Dv}(f:i7 d=aj)(r:Rep K M H x d):Rep K M' H x d:=
 Rep.rec (motive_1:=λx d _=>i7 d=aj->Rep K M' H x d) (motive_2:=λxs ds _=>flatDs ds=aj->Reps K M' H xs ds) (motive_3:=λ_ _ _=>True) (motive_4:=λ_ _ _=>True) (motive_5:=λ_ _ _=>True)
  (λ_=>.non) (λb _=>.bl b) (λi _=>.int i) (λx _=>.str x) (λh _ ih f=>.tup h (ih (by rw[i7] at f;exact f))) (λ_ _ _ _ f=>by simp[i7] at f) (λ_ _ _ _ f=>by simp[i7] at f) (λ_ _ _ _ f=>by simp[i7] at f)
  (λ_ _ _ _ f=>by simp[i7] at f) (λh _=>.scr h) (λh _=>.exc h) (λ_ _ f=>by simp[i7] at f) (λ_=>.nil) (λ_ _ a r f=>.cons (a (eQ f).1) (r (eQ f).2)) trivial (λ_ _ _ _=>trivial) trivial (λ_ _ _ _=>trivial) trivial (λ_ _ _ _=>trivial) r f
theorem Reps.flat{xs:List V}{ds:List Dv}(f:flatDs ds=aj)(r:Reps K M H xs ds):Reps K M' H xs ds:=
 r.ind (P:=λxs ds=>flatDs ds=aj->Reps K M' H xs ds) (λ_=>.nil) (λ_ _ _ _ a _ ih f=>.cons (a.flat (eQ f).1) (ih (eQ f).2)) f
theorem RepF.flat{xs:List (bn×V)}{ds:List (bn×Dv)}(f:flatDs (ds.map (·.2))=aj)(r:RepF K M H xs ds):RepF K M' H xs ds:=
 r.ind (P:=λxs ds=>flatDs (ds.map (·.2))=aj->RepF K M' H xs ds) (λ_=>.nil) (λ_ _ _ _ _ a _ ih f=>.cons (a.flat (eQ f).1) (ih (eQ f).2)) f
theorem RepK.flat{xs:List (bU×V)}{ds:List (bU×Dv)}(f:flatDs (ds.map (·.2))=aj)(r:RepK K M H xs ds):RepK K M' H xs ds:=
 r.ind (P:=λxs ds=>flatDs (ds.map (·.2))=aj->RepK K M' H xs ds) (λ_=>.nil) (λ_ _ _ _ _ a _ ih f=>.cons (a.flat (eQ f).1) (ih (eQ f).2)) f
theorem RepT.flat{xs:List (List bU×V)}{ds:List (List bU×Dv)}(f:flatDs (ds.map (·.2))=aj)(r:RepT K M H xs ds):RepT K M' H xs ds:=
 r.ind (P:=λxs ds=>flatDs (ds.map (·.2))=aj->RepT K M' H xs ds) (λ_=>.nil) (λ_ _ _ _ _ a _ ih f=>.cons (a.flat (eQ f).1) (ih (eQ f).2)) f
theorem Reps.length{xs:List V}{ds:List Dv}(r:Reps K M H xs ds):xs.length=ds.length:=r.ind (P:=λxs ds=>xs.length=ds.length) rfl λ_ _ _ _ _ _ ih=>congrArg (· + 1) ih
theorem Reps.append{ys:List V}{es:List Dv}(r:Reps K M H xs ds)(s:Reps K M H ys es):Reps K M H (xs++ys) (ds++es):=r.ind (P:=λxs ds=>Reps K M H (xs++ys) (ds++es)) s λ_ _ _ _ a _ ih=>.cons a ih
theorem Reps.get{d:Dv}(r:Reps K M H xs ds)(e:ds[i]?=aa d):∃x,xs[i]?=aa x/\Rep K M H x d:=
 r.ind (P:=λxs ds=>∀i,ds[i]?=aa d -> ∃x,xs[i]?=aa x/\Rep K M H x d) (λi e=>by rw[List.getElem?_nil] at e;cases e) (λx y xs ys a _ ih i e=>by
  cases i with
  |zero=>rw[sd] at e;cases e;exact⟨x,rfl,a⟩
  |succ i=>exact ih i e) i e
theorem Reps.take{xs:List V}{ds:List Dv}(n:Nat)(r:Reps K M H xs ds):Reps K M H (xs.take n) (ds.take n):=
 r.ind (P:=λxs ds=>∀n,Reps K M H (xs.take n) (ds.take n)) (λn=>by cases n<;>exact .nil) (λ_ _ _ _ a r ih n=>by cases n with
  |zero=>exact .nil
  |succ n=>exact .cons a (ih n)) n
theorem Reps.drop{xs:List V}{ds:List Dv}(n:Nat)(r:Reps K M H xs ds):Reps K M H (xs.drop n) (ds.drop n):=
 r.ind (P:=λxs ds=>∀n,Reps K M H (xs.drop n) (ds.drop n)) (λn=>by cases n<;>exact .nil) (λ_ _ _ _ a r ih n=>by cases n with
  |zero=>exact .cons a r
  |succ n=>exact ih n) n
theorem Reps.repl{xs:List V}{ds:List Dv}(h:Reps K M H xs ds):∀n:Nat,Reps K M H (av n xs).flatten (av n ds).flatten
 |0=>.nil
 |n+1=>by
  rw[ku,ku,sv,sv];exact h.append (Reps.repl h n)
theorem Reps.ints:∀ns:List Int,Reps K M H (ns.map V.int) (ns.map Dv.int)
 | []=>.nil
 |n::r=>.cons (.int n) (Reps.ints r)
noncomputable def eO(K:ak)(M:ah->Prop)(H:Hp)(a:ah):Dv->Prop
 | .lst ds=>∃xs,H a=aa (.lst xs)/\Reps K M H xs ds
 | .dik ds=>∃kvs,H a=aa (.dK kvs)/\RepK K M H kvs ds
 | .dit ds=>∃ep kvs,H a=aa (.dT ep kvs)/\RepT K M H kvs ds
 | .obj C ds=>∃dx fs,H a=aa (.ins C dx fs)/\RepF K M H fs ds
 | .dns ks=>Rh H a ks
 |_=>False
noncomputable def uO:Dv->Bool
 | .lst ds=>flatDs ds
 | .dik ds=>flatDs (ds.map (·.2))
 | .dit ds=>flatDs (ds.map (·.2))
 | .obj _ ds=>flatDs (ds.map (·.2))
 | .dns _=>aj
 |_=>ap
theorem eO.gen{d:Dv}(G:Gen K M M' H H')(ha:∀o,H a=aa o->H' a=aa o)(h:eO K M H a d):eO K M' H' a d:=by
 cases d with
 |lst ds=>obtain⟨xs,e,r⟩:=h;exact⟨xs,ha _ e,r.gen G⟩
 |dik ds=>obtain⟨xs,e,r⟩:=h;exact⟨xs,ha _ e,r.gen G⟩
 |dit ds=>obtain⟨ep,xs,e,r⟩:=h;exact⟨ep,xs,ha _ e,r.gen G⟩
 |obj C ds=>obtain⟨dx,fs,e,r⟩:=h;exact⟨dx,fs,ha _ e,r.gen G⟩
 |dns ks=>obtain⟨xs,e,k,t⟩:=h;exact⟨xs,ha _ e,k,λx hx=>(t x hx).gen G.t⟩
 |_=>exact h.elim
theorem eO.mono{d:Dv}(S:aM H H')(h:eO K M H a d):eO K M H' a d:=h.gen (.mono S) λo e=>S _ _ e
theorem eO.weak{d:Dv}(w:∀a,M' a->M a)(h:eO K M H a d):eO K M' H a d:=h.gen (.weak w) λ_ e=>e
theorem eO.flat{d:Dv}(f:uO d=aj)(h:eO K M H a d):eO K M' H a d:=by
 cases d with
 |lst ds=>obtain⟨xs,e,r⟩:=h;exact⟨xs,e,r.flat f⟩
 |dik ds=>obtain⟨xs,e,r⟩:=h;exact⟨xs,e,r.flat f⟩
 |dit ds=>obtain⟨ep,xs,e,r⟩:=h;exact⟨ep,xs,e,r.flat f⟩
 |obj C ds=>obtain⟨dx,fs,e,r⟩:=h;exact⟨dx,fs,e,r.flat f⟩
 |dns ks=>exact h
 |_=>exact h.elim
theorem eO.mut{d:Dv}(h:eO K M H a d):∃o,H a=aa o/\EF (aa o):=by
 cases d with
 |lst ds=>obtain⟨xs,e,r⟩:=h;exact⟨_,e,trivial⟩
 |dik ds=>obtain⟨xs,e,r⟩:=h;exact⟨_,e,trivial⟩
 |dit ds=>obtain⟨ep,xs,e,r⟩:=h;exact⟨_,e,trivial⟩
 |obj C ds=>obtain⟨dx,fs,e,r⟩:=h;exact⟨_,e,trivial⟩
 |dns ks=>obtain⟨xs,e,_⟩:=h;exact⟨_,e,trivial⟩
 |_=>exact h.elim
theorem eO.rep{d:Dv}(h:eO K M H a d)(m:¬M a):Rep K M H (.ref a) d:=by
 cases d with
 |lst ds=>obtain⟨xs,e,r⟩:=h;exact .lst e m r
 |dik ds=>obtain⟨xs,e,r⟩:=h;exact .dik e m r
 |dit ds=>obtain⟨ep,xs,e,r⟩:=h;exact .dit e m r
 |obj C ds=>obtain⟨dx,fs,e,r⟩:=h;exact .obj e m r
 |dns ks=>exact .dns h m
 |_=>exact h.elim
inductive Sl where
 |un
 |v (d:Dv)
 |own (a:ah) (d:Dv)
noncomputable def MM(F:ah->Prop)(ρ:List Sl):ah->Prop:=λa=>F a \/ ∃d,Sl.own a d∈ρ
noncomputable def vQ(K:ak)(M:ah->Prop)(H:Hp)(o:Option (Option V)):Sl->Prop
 | .un=>True
 | .v d=>∃x,o=aa (aa x)/\Rep K M H x d
 | .own a d=>o=aa (aa (.ref a))/\eO K M H a d
noncomputable abbrev NI:Bool:=ap
noncomputable def LX(K:ak)(P:ah)(q:bn):Prop:=NI=aj /\ ∃(C f:ah) (o:af) (od:Option ah) (fd:jh) (sl:Array (Option af)) (c:ah) (oc:af) (odc:Option ah) (vs:Array af) (slc:Array (Option af)),
 W.nsIn K iw "Sides" = aa (aa (.ref C))/\ix K (.ref C) "last" = aa (aa (.ref f))/\K.lookup f=aa ⟨o,od,.func fd,sl⟩/\fd.code=.ref c/\K.lookup c=aa ⟨oc,odc,.fields vs,slc⟩/\vs[11]?=aa (.ref P) /\
 q = "Sides.last" ++ ".<locals>." ++ "<lambda>"
noncomputable def xG(K:ak)(H:Hp):Prop:=∀P q,LX K P q->H P=aa (.lam q)
structure OldF(K:ak)(F:ah->Prop)(HZ:Hp):Prop where
 f:∀a,F a->HZ a≠aq
 t:xG K HZ
theorem xG.mono(t:xG K H)(S:aM H H'):xG K H':=λP q z=>S _ _ (t P q z)
structure Fr(K:ak)(HZ:Hp)(F:ah->Prop)(σ:St)(H:Hp)(ρ:List Sl):Prop where
 len:σ.length=ρ.length
 sl:∀(i:Nat) (s:Sl),ρ[i]?=aa s->vQ K (MM F ρ) H σ[i]? s
 nd:∀(i j:Nat) (a:ah) (d d':Dv),ρ[i]?=aa (.own a d)->ρ[j]?=aa (.own a d')->i=j
 new:∀(a:ah) (d:Dv),Sl.own a d∈ρ->HZ a=aq
 same:aM HZ H
 old:OldF K F HZ
variable {σ:St}{ρ:List Sl}
theorem vQ.mono{o:Option (Option V)}{s:Sl}(S:aM H H')(h:vQ K M H o s):vQ K M H' o s:=by
 cases s with
 |un=>trivial
 |v d=>obtain⟨x,e,r⟩:=h;exact⟨x,e,r.mono S⟩
 |own a d=>exact⟨h.1,h.2.mono S⟩
theorem vQ.weak{o:Option (Option V)}{s:Sl}(w:∀a,M' a->M a)(h:vQ K M H o s):vQ K M' H o s:=by
 cases s with
 |un=>trivial
 |v d=>obtain⟨x,e,r⟩:=h;exact⟨x,e,r.weak w⟩
 |own a d=>exact⟨h.1,h.2.weak w⟩
theorem Fr.tab(fr:Fr K HZ F σ H ρ):xG K H:=fr.old.t.mono fr.same
theorem Fr.mono(fr:Fr K HZ F σ H ρ)(S:aM H H'):Fr K HZ F σ H' ρ:=⟨fr.len,λi s e=>(fr.sl i s e).mono S,fr.nd,fr.new,fr.same.trans S,fr.old⟩
theorem Fr.at_own(fr:Fr K HZ F σ H ρ){d:Dv}(h:Sl.own a d∈ρ):∃i:Nat,ρ[i]?=aa (.own a d)/\σ[i]?=aa (aa (.ref a))/\eO K (MM F ρ) H a d:=by
 obtain⟨i,e⟩:=ui.mp h;have:=fr.sl i _ e;exact⟨i,e,this.1,this.2⟩
theorem Fr.dom(fr:Fr K HZ F σ H ρ)(m:MM F ρ a):H a≠aq:=by
 rcases m with m | ⟨d,m⟩
 ·intro e;exact fr.old.f a m (fr.same.free e)
 ·obtain⟨_,_,_,o⟩:=fr.at_own m;obtain⟨u,e,_⟩:=o.mut;rw[e];simp
theorem Fr.fresh(fr:Fr K HZ F σ H ρ)(e:H a=aq):¬MM F ρ a:=λm=>fr.dom m e
inductive R where
 |v (d:Dv)
 |ow (a:ah) (d:Dv)
 |nw (d:Dv)
noncomputable def R.d:R->Dv
 | .v d=>d
 | .ow _ d=>d
 | .nw d=>d
noncomputable def R.free:R->Bool
 | .ow _ _=>ap
 |_=>aj
noncomputable def zK(ρ:List Sl):ah->Dv->Prop:=λa d=>Sl.own a d∈ρ
noncomputable def xH:ah->Dv->Prop:=λ_ _=>False
noncomputable def dX(K:ak)(M:ah->Prop)(O:ah->Dv->Prop)(H:Hp)(x:V)(r:R)(H':Hp):Prop:=match r with
 | .v d=>Rep K M H' x d
 | .ow a d=>x=.ref a/\O a d/\eO K M H' a d
 | .nw d=>∃a,x=.ref a/\H a=aq/\eO K (λb=>M b \/ b=a) H' a d
noncomputable def dL(K:ak)(M:ah->Prop)(H:Hp)(x:V)(d:Dv):Prop:=Rep K M H x d \/ ∃a,x=.ref a/\eO K M H a d
section
variable {K:ak}{M M':ah->Prop}{O:ah->Dv->Prop}{H H' H'':Hp}{x:V}{r:R}
theorem dX.mono(h:dX K M O H x r H')(S:aM H' H''):dX K M O H x r H'':=by
 cases r with
 |v d=>exact Rep.mono S h
 |ow a d=>exact⟨h.1,h.2.1,h.2.2.mono S⟩
 |nw d=>obtain⟨a,e,n,o⟩:=h;exact⟨a,e,n,o.mono S⟩
theorem dX.ahead(h:dX K M O H1 x r H')(S:aM H H1):dX K M O H x r H':=by
 cases r with
 |v d=>exact h
 |ow a d=>exact h
 |nw d=>obtain⟨a,e,n,o⟩:=h;exact⟨a,e,S.free n,o⟩
theorem dX.c(h:dX K M O H x r H'):dL K M H' x r.d:=by
 cases r with
 |v d=>exact .inl h
 |ow a d=>exact .inr ⟨a,h.1,h.2.2⟩
 |nw d=>obtain⟨a,e,n,o⟩:=h;exact .inr ⟨a,e,o.weak λb z=>.inl z⟩
theorem dX.rep(h:dX K M O H x r H')(hM:∀a,M a->H a≠aq)(f:r.free=aj):Rep K M H' x r.d:=by
 cases r with
 |v d=>exact h
 |ow a d=>simp[R.free] at f
 |nw d=>
  obtain⟨a,e,n,o⟩:=h;subst e;exact(o.weak λb z=>.inl z).rep λz=>hM a z n
theorem dL.lst{ds:List Dv}(h:dL K M H x (.lst ds)):∃a xs,x=.ref a/\H a=aa (.lst xs)/\Reps K M H xs ds:=by
 rcases h with h | ⟨a,e,xs,h1,h2⟩
 ·cases h with
  |lst h1 _ h2=>exact⟨_,_,rfl,h1,h2⟩
 ·exact⟨a,xs,e,h1,h2⟩
theorem dL.tup{ds:List Dv}(h:dL K M H x (.tup ds)):∃a xs,x=.ref a/\H a=aa (.tup xs)/\Reps K M H xs ds:=by
 rcases h with h | ⟨a,e,o⟩
 ·cases h with
  |tup h1 h2=>exact⟨_,_,rfl,h1,h2⟩
 ·exact o.elim
theorem dL.int{i:Int}(h:dL K M H x (.int i)):x=.int i:=by
 rcases h with h | ⟨a,e,o⟩
 ·cases h;rfl
 ·exact o.elim
theorem dL.bl{b:Bool}(h:dL K M H x (.bl b)):x=.bl b:=by
 rcases h with h | ⟨a,e,o⟩
 ·cases h;rfl
 ·exact o.elim
theorem dL.non(h:dL K M H x .non):x=.non:=by
 rcases h with h | ⟨a,e,o⟩
 ·cases h;rfl
 ·exact o.elim
theorem dL.str{s:bn}(h:dL K M H x (.str s)):x=.str s:=by
 rcases h with h | ⟨a,e,o⟩
 ·cases h;rfl
 ·exact o.elim
theorem dL.scr{ns:List Int}(h:dL K M H x (.scr ns)):∃a,x=.ref a/\Im K H a ns:=by
 rcases h with h | ⟨a,e,o⟩
 ·cases h with
  |scr h=>exact⟨_,rfl,h⟩
 ·exact o.elim
theorem dL.exc{C:ah}{p:Option Int}(h:dL K M H x (.exc C p)):∃a,x=.ref a/\JH H a C p:=by
 rcases h with h | ⟨a,e,o⟩
 ·cases h with
  |exc h=>exact⟨_,rfl,h⟩
 ·exact o.elim
theorem dL.dik{ds:List (bU×Dv)}(h:dL K M H x (.dik ds)):∃a kvs,x=.ref a/\H a=aa (.dK kvs)/\RepK K M H kvs ds:=by
 rcases h with h | ⟨a,e,xs,h1,h2⟩
 ·cases h with
  |dik h1 _ h2=>exact⟨_,_,rfl,h1,h2⟩
 ·exact⟨a,xs,e,h1,h2⟩
theorem dL.dit{ds:List (List bU×Dv)}(h:dL K M H x (.dit ds)):∃a ep kvs,x=.ref a/\H a=aa (.dT ep kvs)/\RepT K M H kvs ds:=by
 rcases h with h | ⟨a,e,ep0,xs,h1,h2⟩
 ·cases h with
  |dit h1 _ h2=>exact⟨_,_,_,rfl,h1,h2⟩
 ·exact⟨a,ep0,xs,e,h1,h2⟩
theorem dL.obj{C:ah}{ds:List (bn×Dv)}(h:dL K M H x (.obj C ds)):∃a dx fs,x=.ref a/\H a=aa (.ins C dx fs)/\RepF K M H fs ds:=by
 rcases h with h | ⟨a,e,dx,fs,h1,h2⟩
 ·cases h with
  |obj h1 _ h2=>exact⟨_,_,_,rfl,h1,h2⟩
 ·exact⟨a,dx,fs,e,h1,h2⟩
end
noncomputable abbrev dE:=List Sl->(R->Prop)->Prop
noncomputable abbrev lB:=List Sl->(List R->Prop)->Prop
noncomputable abbrev l6:=List Sl->(Bool->Prop)->Prop
noncomputable def j6(K:ak)(M:ah->Prop)(O:ah->Dv->Prop)(H:Hp)(xs:List V)(rs:List R)(H':Hp):Prop:=Paired (λx r=>dX K M O H x r H') xs rs
noncomputable def xI(K:ak)(M:ah->Prop)(H:Hp):List V->List Dv->Prop:=Paired (dL K M H)
variable {O:ah->Dv->Prop}
theorem j6.ahead{xs:List V}{rs:List R}(h:j6 K M O H1 xs rs H')(S:aM H H1):j6 K M O H xs rs H':=Paired.mapP h λ_ _ q=>q.ahead S
theorem j6.c:∀{xs:List V} {rs:List R},j6 K M O H xs rs H'->xI K M H' xs (rs.map R.d)
 |_,_,.nil=>.nil
 |_,_,.cons a t=>.cons a.c (j6.c t)
theorem j6.reps(hM:∀a,M a->H a≠aq):∀{xs:List V} {rs:List R},j6 K M O H xs rs H'->rs.all R.free=aj->Reps K M H' xs (rs.map R.d)
 |_,_,.nil,_=>.nil
 |_,_,.cons a t,f=>by
  rw[VW,cg] at f;exact .cons (a.rep hM f.1) (j6.reps hM t f.2)
inductive lift(K:ak)(HZ:Hp)(F:ah->Prop)(t:dE)(σ:St)(H:Hp)(Q:VK):Prop
 |mk (ρ:List Sl) (fr:Fr K HZ F σ H ρ) (h:t ρ λr=>∀x H',aM H H'->dX K (MM F ρ) (zK ρ) H x r H'->Q x H')
inductive liftA(K:ak)(HZ:Hp)(F:ah->Prop)(t:lB)(σ:St)(H:Hp)(Q:List V->Hp->Prop):Prop
 |mk (ρ:List Sl) (fr:Fr K HZ F σ H ρ) (h:t ρ λrs=>∀xs H',aM H H'->j6 K (MM F ρ) (zK ρ) H xs rs H'->Q xs H')
inductive liftT(K:ak)(HZ:Hp)(F:ah->Prop)(t:l6)(σ:St)(H:Hp)(Q:Bool->Hp->Prop):Prop
 |mk (ρ:List Sl) (fr:Fr K HZ F σ H ρ) (h:t ρ λb=>∀H',aM H H'->Q b H')
structure QE(X:Cx)(e:Expr)(t:dE):Prop where
 mono:∀(ρ:List Sl) (Q Q':R->Prop),(∀r,Q r->Q' r)->t ρ Q->t ρ Q'
 run:∀(HZ:Hp) (F:ah->Prop),PE X e (lift X.K HZ F t)
structure QA(X:Cx)(es:List Expr)(t:lB):Prop where
 mono:∀(ρ:List Sl) (Q Q':List R->Prop),(∀r,Q r->Q' r)->t ρ Q->t ρ Q'
 run:∀(HZ:Hp) (F:ah->Prop),PA X es (liftA X.K HZ F t)
structure QT(X:Cx)(e:Expr)(t:l6):Prop where
 mono:∀(ρ:List Sl) (Q Q':Bool->Prop),(∀r,Q r->Q' r)->t ρ Q->t ρ Q'
 run:∀(HZ:Hp) (F:ah->Prop),PT X e (liftT X.K HZ F t)
structure QW(X:Cx)(e:Expr)(t:l6):Prop where
 mono:∀(ρ:List Sl) (Q Q':Bool->Prop),(∀r,Q r->Q' r)->t ρ Q->t ρ Q'
 run:∀(HZ:Hp) (F:ah->Prop),PW X e (liftT X.K HZ F t)
variable {t':TT}{op:Uj}{Wn:List Expr}{ta te:dE}{ts:lB}
section
variable {a b c:Expr}{tb tc:dE}{pos:jw}
theorem d6{t t':TE}(h:PE X e t)(w:∀σ H Q,t' σ H Q->t σ H Q):PE X e t':=λpj s σ H Q I q=>h pj s σ H Q I (w σ H Q q)
theorem Gj{t t':TA}(h:PA X es t)(w:∀σ H Q,t' σ H Q->t σ H Q):PA X es t':=λpos pj s σ H Q I q=>h pos pj s σ H Q I (w σ H Q q)
theorem zF{t:TT}(h:PT X e t)(w:∀σ H Q,t' σ H Q->t σ H Q):PT X e t':=λpj s σ H Q I q=>h pj s σ H Q I (w σ H Q q)
theorem Gh{t:TT}(h:PW X e t)(w:∀σ H Q,t' σ H Q->t σ H Q):PW X e t':=λwh pj s σ H Q I q=>h wh pj s σ H Q I (w σ H Q q)
theorem QW.qt{t:l6}(h:QW X e t):QT X e t:=⟨h.mono,λHZ F=>(h.run HZ F).pt⟩
theorem QE.step{Q:R->Prop}{Q':VK}(h:QE X e te)(fr:Fr X.K HZ F σ H ρ)(q:te ρ Q)
  (k:∀r x H',Q r->aM H H'->dX X.K (MM F ρ) (zK ρ) H x r H'->Q' x H'):lift X.K HZ F te σ H Q':=⟨ρ,fr,h.mono _ _ _ (λr qr x H' S rx=>k r x H' qr S rx) q⟩
theorem QA.step{Q:List R->Prop}{Q':List V->Hp->Prop}(h:QA X es ts)(fr:Fr X.K HZ F σ H ρ)(q:ts ρ Q)
  (k:∀rs xs H',Q rs->aM H H'->j6 X.K (MM F ρ) (zK ρ) H xs rs H'->Q' xs H'):liftA X.K HZ F ts σ H Q':=⟨ρ,fr,h.mono _ _ _ (λr qr x H' S rx=>k r x H' qr S rx) q⟩
theorem QT.step{t:l6}{Q:Bool->Prop}{Q':Bool->Hp->Prop}(h:QT X e t)(fr:Fr X.K HZ F σ H ρ)(q:t ρ Q)
  (k:∀b H',Q b->aM H H'->Q' b H'):liftT X.K HZ F t σ H Q':=⟨ρ,fr,h.mono _ _ _ (λr qr H' S=>k r H' qr S) q⟩
noncomputable def a9(i:Nat):dE:=λρ Q=>match ρ[i]? with
 |some (.v d)=>Q (.v d)
 |some (.own a d)=>Q (.ow a d)
 |_=>False
theorem a7(i:Nat){x:bn}(h:PE X (.Name x pos) (zV i)):QE X (.Name x pos) (a9 i):=by
 refine⟨λρ Q Q' w h=>?_,λHZ F=>d6 h λσ H Q ⟨ρ,fr,q⟩=>?_⟩
 ·unfold a9 at *;split at h
  ·exact w _ h
  ·exact w _ h
  ·exact h
 ·unfold a9 at q;split at q
  ·rename_i d e;obtain⟨x,hx,r⟩:=fr.sl i _ e;exact⟨x,hx,q x H (aM.refl _) r⟩
  ·rename_i a d e;obtain⟨hx,r⟩:=fr.sl i _ e;exact⟨.ref a,hx,q _ H (aM.refl _) ⟨rfl,eg e,r⟩⟩
  ·exact q.elim
noncomputable def eC(d:Dv):dE:=λ_ Q=>Q (.v d)
theorem MY{v:V}{d:Dv}(h:PE X e (tC v))(r:∀M H,Rep X.K M H v d):QE X e (eC d):=
 ⟨λ_ _ _ w q=>w _ q,λHZ F=>d6 h λσ H Q zq5=>by obtain⟨ρ,fr,q⟩:=zq5;exact q v H (aM.refl _) (r _ _)⟩
theorem aE{i j pos}:QE X (.Constant (.int i) j pos) (eC (.int i)):=MY K2 λ_ _=>.int i
theorem iB{b j pos}:QE X (.Constant (.bool b) j pos) (eC (.bl b)):=MY Mh λ_ _=>.bl b
theorem wC{j pos}:QE X (.Constant .none j pos) (eC .non):=MY Jz λ_ _=>.non
theorem El{x j pos}:QE X (.Constant (.str x) j pos) (eC (.str x)):=MY Jw λ_ _=>.str x
theorem pU{x:bn}{n:Int}(hm:∃t,X.mg x=aa (.int n t))(hg:autoParam (Gl X x) bV._auto_1)(hd:autoParam ((x==("__debug__" : bn))=ap) kX._auto_1):QE X (.Name x pos) (eC (.int n)):=MY (FA hm hg hd) λ_ _=>.int n
noncomputable def aG:lB:=λ_ Q=>Q []
noncomputable def aA(te:dE)(ts:lB):lB:=λρ Q=>te ρ λr=>ts ρ λrs=>Q (r::rs)
theorem aD:QA X [] aG:=⟨λ_ _ _ w q=>w _ q,λHZ F=>Gj oG λσ H Q zq6=>by obtain⟨ρ,fr,q⟩:=zq6;exact q [] H (aM.refl _) .nil⟩
theorem a8(ha:QE X e te)(hr:QA X es ts)(hs:autoParam (ay (e::es) X.env=(ap,fz e X.env)::ay es X.env) bV._auto_1):QA X (e::es) (aA te ts):=by
 refine⟨λρ Q Q' w h=>ha.mono _ _ _ (λr q=>hr.mono _ _ _ (λrs q=>w _ q) q) h,λHZ F=>Gj (gW (ha.run HZ F) (hr.run HZ F) hs) λσ H Q zz=>?_⟩;obtain⟨ρ,fr,q⟩:=zz;refine ha.step fr q λr x H1 q1 S1 r1=>?_;refine hr.step (fr.mono S1) q1 λrs xs H2 q2 S2 r2=>?_;exact q2 _ H2 (S1.trans S2) (.cons (r1.mono S2) (r2.ahead S1))
noncomputable def vR(X:Cx)(f:af->af->Ui af)(p:Dv->Dv->(R->Prop)->Prop):Prop:=
 (∀dx dy (Q Q':R->Prop),(∀r,Q r->Q' r)->p dx dy Q->p dx dy Q') /\ ∃r:R2,jY X f r /\ ∀(M:ah->Prop) (O:ah->Dv->Prop) (H:Hp) (x y:V) (dx dy:Dv) (Q:VK),dL X.K M H x dx->dL X.K M H y dy ->
  p dx dy (λrr=>∀z H',aM H H'->dX X.K M O H z rr H'->Q z H')->r x y H Q
noncomputable def aK(p:Dv->Dv->(R->Prop)->Prop)(ta tb:dE):dE:=λρ Q=>ta ρ λx=>tb ρ λy=>p x.d y.d Q
theorem t8{p:Dv->Dv->(R->Prop)->Prop}{r:R2}(ha:QE X a ta)(hb:QE X b tb) (hr:∀(M:ah->Prop) (O:ah->Dv->Prop) (H:Hp) (x y:V) (dx dy:Dv) (Q:VK),dL X.K M H x dx->dL X.K M H y dy ->
  p dx dy (λrr=>∀z H',aM H H'->dX X.K M O H z rr H'->Q z H')->r x y H Q) (mo:∀dx dy (Q Q':R->Prop),(∀r,Q r->Q' r)->p dx dy Q->p dx dy Q') (HZ:Hp) (F:ah->Prop) (σ:St) (H:Hp) (Q:VK)
  (h:lift X.K HZ F (aK p ta tb) σ H Q):Lp r (lift X.K HZ F ta) (lift X.K HZ F tb) σ H Q:=by
 obtain⟨ρ,fr,q⟩:=h;refine ha.step fr q λrx x H1 q1 S1 r1=>?_;refine hb.step (fr.mono S1) q1 λry y H2 q2 S2 r2=>?_;refine hr (MM F ρ) (zK ρ) H2 x y _ _ Q (r1.mono S2).c r2.c (mo _ _ _ _ (λrr k z H' S rz=>?_) q2);exact k z H' ((S1.trans S2).trans S) (rz.ahead (S1.trans S2))
theorem qL{p:Dv->Dv->(R->Prop)->Prop}(ha:QE X a ta)(hb:QE X b tb)(mo:∀dx dy (Q Q':R->Prop),(∀r,Q r->Q' r)->p dx dy Q->p dx dy Q')(ρ:List Sl)(Q Q':R->Prop)(w:∀r,Q r->Q' r)(h:aK p ta tb ρ Q):aK p ta tb ρ Q':=
 ha.mono _ _ _ (λrx h=>hb.mono _ _ _ (λry h=>mo _ _ _ _ w h) h) h
theorem aP{op:Operator}{p:Dv->Dv->(R->Prop)->Prop}(ho:vR X (gz op) p)(ha:QE X a ta)(hb:QE X b tb):QE X (.BinOp a op b pos) (aK p ta tb):=by
 obtain⟨mo,r,hR,hr⟩:=ho;exact⟨qL ha hb mo,λHZ F=>d6 (Me hR (ha.run HZ F) (hb.run HZ F)) (t8 ha hb hr mo HZ F)⟩
theorem kY{p:Dv->Dv->(R->Prop)->Prop}(ho:vR X (ed op) p)(ha:QE X a ta)(hb:QE X b tb)(hm:autoParam (qp op b=ap) RC._auto_1):QE X (.Compare a [op] [b] pos) (aK p ta tb):=by
 obtain⟨mo,r,hR,hr⟩:=ho;exact⟨qL ha hb mo,λHZ F=>d6 (Hc hR (ha.run HZ F) (hb.run HZ F) hm) (t8 ha hb hr mo HZ F)⟩
noncomputable def bS(te:dE):l6:=λρ Q=>te ρ λr=>match r.d with
 | .bl c=>Q c
 |_=>False
theorem uQ(mo:∀(ρ:List Sl) (Q Q':R->Prop),(∀r,Q r->Q' r)->te ρ Q->te ρ Q')(ρ:List Sl)(Q Q':Bool->Prop)(w:∀r,Q r->Q' r)(h:bS te ρ Q):bS te ρ Q':=by
 refine mo _ _ _ (λr q=>?_) h;split at q
 ·exact w _ q
 ·exact q.elim
theorem GO{Q:Bool->Hp->Prop}(mo:∀(ρ:List Sl) (Q Q':R->Prop),(∀r,Q r->Q' r)->te ρ Q->te ρ Q')(h:liftT X.K HZ F (bS te) σ H Q):lift X.K HZ F te σ H λx H'=>∃k,x=.bl k/\Q k H':=by
 obtain⟨ρ,fr,q⟩:=h;refine⟨ρ,fr,mo _ _ _ (λr q x H' S rx=>?_) q⟩;split at q
 ·rename_i c e;have:=rx.c;rw[e] at this;exact⟨c,this.bl,q H' S⟩
 ·exact q.elim
theorem cK{p:Dv->Dv->(R->Prop)->Prop}(ho:vR X (ed op) p)(ha:QE X a ta)(hb:QE X b tb)(hm:autoParam (qp op b=ap) RC._auto_1):QT X (.Compare a [op] [b] pos) (bS (aK p ta tb)):=by
 obtain⟨mo,r,hR,hr⟩:=ho;have m1:=qL ha hb mo;exact⟨uQ m1,λHZ F=>zF (HS hR (ha.run HZ F) (hb.run HZ F) hm) λσ H Q h=>t8 ha hb hr mo HZ F σ H _ (GO m1 h)⟩
noncomputable def Ic(t u:l6):l6:=λρ Q=>t ρ λc=>if c=aj then u ρ Q else Q ap
noncomputable def EJ(t u:l6):l6:=λρ Q=>t ρ λc=>if c=aj then Q aj else u ρ Q
noncomputable def j8(t:l6):l6:=λρ Q=>t ρ λc=>Q (!c)
theorem HH{t:l6}(h:QT X a t):QW X (.BoolOp .And [a] pos) t:=⟨h.mono,λHZ F=>HM (h.run HZ F)⟩
theorem u3{t:l6}(h:QT X a t):QW X (.BoolOp .Or [a] pos) t:=⟨h.mono,λHZ F=>Jh (h.run HZ F)⟩
theorem Jc{t u:l6}(h:QT X a t)(k:QW X (.BoolOp .And (b::Wn) pos) u):QW X (.BoolOp .And (a::b::Wn) pos) (Ic t u):=by
 refine⟨λρ Q Q' w q=>h.mono _ _ _ (λc q=>?_) q,λHZ F=>Gh (Ji (h.run HZ F) (k.run HZ F)) λσ H Q ⟨ρ,fr,q⟩=>?_⟩
 ·split at q
  ·rw[Wj ‹_›];exact k.mono _ _ _ w q
  ·rw[VT ‹_›];exact w _ q
 ·refine h.step fr q λc H1 q1 S1=>?_;cases c with
  |true=>
   simp only[if_true] at q1;exact rM ⟨ρ,fr.mono S1,k.mono _ _ _ (λb q H' S=>q H' (S1.trans S)) q1⟩
  |false=>
   simp only[gg,if_false] at q1;exact rN (q1 H1 S1)
theorem pQ{t u:l6}(h:QT X a t)(k:QW X (.BoolOp .Or (b::Wn) pos) u):QW X (.BoolOp .Or (a::b::Wn) pos) (EJ t u):=by
 refine⟨λρ Q Q' w q=>h.mono _ _ _ (λc q=>?_) q,λHZ F=>Gh (MZ (h.run HZ F) (k.run HZ F)) λσ H Q ⟨ρ,fr,q⟩=>?_⟩
 ·split at q
  ·rw[Wj ‹_›];exact w _ q
  ·rw[VT ‹_›];exact k.mono _ _ _ w q
 ·refine h.step fr q λc H1 q1 S1=>?_;cases c with
  |true=>
   simp only[if_true] at q1;exact rM (q1 H1 S1)
  |false=>
   simp only[gg,if_false] at q1;exact rN ⟨ρ,fr.mono S1,k.mono _ _ _ (λb q H' S=>q H' (S1.trans S)) q1⟩
theorem eJ{t:l6}(h:QT X a t):QT X (.UnaryOp .Not a pos) (j8 t):=
 ⟨λρ Q Q' w q=>h.mono _ _ _ (λc q=>w _ q) q,λHZ F=>zF (Jk (h.run HZ F)) λσ H Q zq0=>by obtain⟨ρ,fr,q⟩:=zq0;exact h.step fr q λc H1 q1 S1=>q1 H1 S1⟩
noncomputable def kZ(ta tb:dE):dE:=λρ Q=>ta ρ λr=>match r.d with
 | .bl c=>if c=aj then tb ρ Q else Q (.v (.bl ap))
 |_=>False
noncomputable def Ib(ta tb:dE):dE:=λρ Q=>ta ρ λr=>match r.d with
 | .bl c=>if c=aj then Q (.v (.bl aj)) else tb ρ Q
 |_=>False
noncomputable def wY(ta:dE):dE:=λρ Q=>ta ρ λr=>match r.d with
 | .bl c=>Q (.v (.bl (!c)))
 |_=>False
theorem sF{op}(h:QE X a ta):QE X (.BoolOp op [a] pos) ta:=⟨h.mono,λHZ F=>Jx (h.run HZ F)⟩
theorem pV(h:QE X a ta)(k:QE X (.BoolOp .And (b::Wn) pos) tb):QE X (.BoolOp .And (a::b::Wn) pos) (kZ ta tb):=by
 refine⟨λρ Q Q' w q=>h.mono _ _ _ (λc q=>?_) q,λHZ F=>d6 (K9 (h.run HZ F) (k.run HZ F)) λσ H Q ⟨ρ,fr,q⟩=>?_⟩
 ·split at q
  ·split at q
   ·rw[Wj ‹_›];exact k.mono _ _ _ w q
   ·rw[VT ‹_›];exact w _ q
  ·exact q
 ·refine h.step fr q λr x H1 q1 S1 r1=>?_;split at q1
  ·rename_i c e;have rc:=r1.c;rw[e] at rc;refine⟨c,rc.bl,?_⟩;cases c with
   |true=>
    simp only[if_true] at q1;exact rM ⟨ρ,fr.mono S1,k.mono _ _ _ (λb q z H' S rz=>q z H' (S1.trans S) (rz.ahead S1)) q1⟩
   |false=>
    simp only[gg,if_false] at q1;exact rN (q1 _ H1 S1 (Rep.bl ap))
  ·exact q1.elim
theorem Pi(h:QE X a ta)(k:QE X (.BoolOp .Or (b::Wn) pos) tb):QE X (.BoolOp .Or (a::b::Wn) pos) (Ib ta tb):=by
 refine⟨λρ Q Q' w q=>h.mono _ _ _ (λc q=>?_) q,λHZ F=>d6 (Md (h.run HZ F) (k.run HZ F)) λσ H Q ⟨ρ,fr,q⟩=>?_⟩
 ·split at q
  ·split at q
   ·rw[Wj ‹_›];exact w _ q
   ·rw[VT ‹_›];exact k.mono _ _ _ w q
  ·exact q
 ·refine h.step fr q λr x H1 q1 S1 r1=>?_;split at q1
  ·rename_i c e;have rc:=r1.c;rw[e] at rc;refine⟨c,rc.bl,?_⟩;cases c with
   |true=>
    simp only[if_true] at q1;exact rM (q1 _ H1 S1 (Rep.bl aj))
   |false=>
    simp only[gg,if_false] at q1;exact rN ⟨ρ,fr.mono S1,k.mono _ _ _ (λb q z H' S rz=>q z H' (S1.trans S) (rz.ahead S1)) q1⟩
  ·exact q1.elim
theorem Em(h:QE X a ta):QE X (.UnaryOp .Not a pos) (wY ta):=by
 refine⟨λρ Q Q' w q=>h.mono _ _ _ (λc q=>?_) q,λHZ F=>d6 (Jy (h.run HZ F)) λσ H Q ⟨ρ,fr,q⟩=>?_⟩
 ·split at q
  ·exact w _ q
  ·exact q
 ·refine h.step fr q λr x H1 q1 S1 r1=>?_;split at q1
  ·rename_i c e;have rc:=r1.c;rw[e] at rc;exact⟨c,rc.bl,q1 _ H1 S1 (Rep.bl _)⟩
  ·exact q1.elim
noncomputable def RX(t:l6)(ta tb:dE):dE:=λρ Q=>t ρ λc=>if c=aj then ta ρ Q else tb ρ Q
noncomputable def dY(ts:lB):dE:=λρ Q=>ts ρ λrs=>rs.all R.free=aj/\rs.length<=1000/\Q (.v (.tup (rs.map R.d)))
noncomputable def kM(ts:lB):dE:=λρ Q=>ts ρ λrs=>rs.all R.free=aj/\rs.length<=1000/\Q (.nw (.lst (rs.map R.d)))
theorem sD(h:n<=1000):n<=bh:=zj (D5 h)
theorem aM.new'{l:ah}(hl:H l=aq):aM H (upd H l o):=λb q e=>by rw[b9 (bF e hl)];exact e
theorem dB{x1}(h:QA X es ts):QE X (.Tuple es x1 pos) (dY ts):=by
 refine⟨λρ Q Q' w q=>h.mono _ _ _ (λrs q=>⟨q.1,q.2.1,w _ q.2.2⟩) q,λHZ F=>d6 (Jv (h.run HZ F)) λσ H Q zz=>?_⟩;obtain⟨ρ,fr,q⟩:=zz;refine h.step fr q λrs xs H1 ⟨q1,q2,q3⟩ S1 r1=>?_;have hl:xs.length=rs.length:=Paired.length r1;refine⟨sD ⋯,λp hp=>q3 _ _ (S1.trans (aM.new' hp)) ?_⟩;exact .tup bN ((r1.reps (λa m=>fr.dom m) q1).mono (aM.new' hp))
theorem jR(h:QA X es ts):QE X (.List es pos) (kM ts):=by
 refine⟨λρ Q Q' w q=>h.mono _ _ _ (λrs q=>⟨q.1,q.2.1,w _ q.2.2⟩) q,λHZ F=>d6 (K0 (h.run HZ F)) λσ H Q zz=>?_⟩;obtain⟨ρ,fr,q⟩:=zz;refine h.step fr q λrs xs H1 ⟨q1,q2,q3⟩ S1 r1=>?_;have hl:xs.length=rs.length:=Paired.length r1;refine⟨sD ⋯,λp hp=>q3 _ _ (S1.trans (aM.new' hp)) ?_⟩;exact⟨p,rfl,S1.free hp,xs,bN,((r1.reps (λa m=>fr.dom m) q1).gen (.fresh hp)).mono (aM.new' hp)⟩
end
noncomputable abbrev zM:Nat:=1000000
theorem hC(h:n<=zM):n<=bh:=kh h (by rw[ie];decide)
theorem i4{p:ah}(hp:H p=aq)(r:Reps K M H xs ds):dX K M O H (.ref p) (.nw (.lst ds)) (upd H p (.lst xs)):=⟨p,rfl,hp,xs,bN,(r.gen (.fresh hp)).mono (aM.new' hp)⟩
theorem EO{p:ah}(hp:H p=aq)(r:Reps K M H xs ds):dX K M O H (.ref p) (.v (.tup ds)) (upd H p (.tup xs)):=Rep.tup bN (r.mono (aM.new' hp))
noncomputable def d8:Dv->Dv->(R->Prop)->Prop
 | .int i,.int j,Q=>Q (.v (.int (i+j)))
 | .lst xs,.lst ys,Q=>xs.length+ys.length<=zM/\Q (.nw (.lst (xs++ys)))
 | .str x,.str y,Q=>x.length+y.length<=zM/\Q (.v (.str (x++y)))
 |_,_,_=>False
noncomputable def gL:Dv->Dv->(R->Prop)->Prop
 | .int i,.int j,Q=>Q (.v (.int (i-j)))
 |_,_,_=>False
noncomputable def l9(i j:Int):Prop:=LZ i j \/ (i.natAbs<2 ^ 4000/\j.natAbs<2 ^ 4000)
noncomputable def cA:Dv->Dv->(R->Prop)->Prop
 | .int i,.int j,Q=>l9 i j/\Q (.v (.int (i*j)))
 | .lst xs,.int k,Q=>(-(2 ^ 63)<=k/\k<2 ^ 63/\xs.length*k.toNat<=zM)/\Q (.nw (.lst (av k.toNat xs).flatten))
 |_,_,_=>False
noncomputable def fD:Dv->Dv->(R->Prop)->Prop
 | .int i,.int j,Q=>(0<j/\j<2 ^ 200)/\Q (.v (.int (i / j)))
 |_,_,_=>False
noncomputable def Mz:Dv->Dv->(R->Prop)->Prop
 | .int i,.int j,Q=>(j≠0/\j.natAbs<2 ^ 4000)/\Q (.v (.int (i.fdiv j)))
 |_,_,_=>False
noncomputable def eY:Dv->Dv->(R->Prop)->Prop
 | .int i,.int j,Q=>0<j/\Q (.v (.int (i % j)))
 |_,_,_=>False
noncomputable def Pk:Dv->Dv->(R->Prop)->Prop
 | .int i,.int j,Q=>Go i j/\Q (.v (.int (i ^ j.toNat)))
 |_,_,_=>False
variable {f:Int->Int->Bool}
theorem DQ:∀dx dy (Q Q':R->Prop),(∀r,Q r->Q' r)->d8 dx dy Q->d8 dx dy Q':=by
 intro dx dy Q Q' w h;unfold d8 at h;split at h
 ·exact w _ h
 ·exact⟨h.1,w _ h.2⟩
 ·exact⟨h.1,w _ h.2⟩
 ·exact h.elim
theorem bG:vR X (gz .Add) d8:=by
 refine⟨DQ,_,KQ.or (KP.or Be),λM O H x y dx dy Q cx cy h=>?_⟩;unfold d8 at h;split at h
 ·obtain rfl:=cx.int;obtain rfl:=cy.int;exact .inl ⟨_,_,rfl,rfl,h _ H (aM.refl _) (Rep.int _)⟩
 ·obtain⟨a,xs,rfl,ea,ra⟩:=cx.lst;obtain⟨b,ys,rfl,eb,rb⟩:=cy.lst;have l1:=ra.length;have l2:=rb.length;exact .inr (.inl ⟨a,b,xs,ys,rfl,rfl,ea,eb,hC ⋯,λp hp=>h.2 _ _ (aM.new' hp) (i4 hp (ra.append rb))⟩)
 ·obtain rfl:=cx.str;obtain rfl:=cy.str;exact .inr (.inr ⟨_,_,rfl,rfl,hC h.1,h.2 _ H (aM.refl _) (Rep.str _)⟩)
 ·exact h.elim
theorem DK:∀dx dy (Q Q':R->Prop),(∀r,Q r->Q' r)->gL dx dy Q->gL dx dy Q':=by
 intro dx dy Q Q' w h;unfold gL at h;split at h
 ·exact w _ h
 ·exact h.elim
theorem dZ:vR X (gz .Sub) gL:=by
 refine⟨DK,_,KG,λM O H x y dx dy Q cx cy h=>?_⟩;unfold gL at h;split at h
 ·obtain rfl:=cx.int;obtain rfl:=cy.int;exact⟨_,_,rfl,rfl,h _ H (aM.refl _) (Rep.int _)⟩
 ·exact h.elim
theorem l9.ok{i j:Int}(h:l9 i j):IntMulOk i j:=by
 rcases h with h | ⟨h1,h2⟩
 ·exact h.ok
 ·have key:∀{z:Int},z.natAbs<2 ^ 4000->So z<=2 ^ 20:=λ{z} hz=>by
   have hl:z.natAbs≠0->z.natAbs.log2<4000:=λh0=>(VU h0).mpr hz;clear hz h1 h2;unfold So;by_cases h0:z=0
   ·simp[h0]
   ·have:=hl ⋯;simp[h0];right
  exact IntMulOk.of_bits (key h1) (key h2)
theorem Hk:jY X (gz .Mult) (rI l9 λi j=>.int (i*j)):=N4 λ_ _ _ _ _ _ _ hc q=>mul_int q hc.ok
theorem DM:∀dx dy (Q Q':R->Prop),(∀r,Q r->Q' r)->cA dx dy Q->cA dx dy Q':=by
 intro dx dy Q Q' w h;unfold cA at h;split at h
 ·exact⟨h.1,w _ h.2⟩
 ·exact⟨h.1,w _ h.2⟩
 ·exact h.elim
theorem aR:vR X (gz .Mult) cA:=by
 refine⟨DM,_,Hk.or KI,λM O H x y dx dy Q cx cy h=>?_⟩;unfold cA at h;split at h
 ·obtain rfl:=cx.int;obtain rfl:=cy.int;exact .inl ⟨_,_,rfl,rfl,h.1,h.2 _ H (aM.refl _) (Rep.int _)⟩
 ·obtain⟨a,xs,rfl,ea,ra⟩:=cx.lst;obtain rfl:=cy.int;have l1:=ra.length;exact .inr ⟨a,_,xs,rfl,rfl,ea,h.1.1,h.1.2.1,hC (by rw[l1];exact h.1.2.2),λp hp=>h.2 _ _ (aM.new' hp) (i4 hp (ra.repl _))⟩
 ·exact h.elim
theorem DO:∀dx dy (Q Q':R->Prop),(∀r,Q r->Q' r)->fD dx dy Q->fD dx dy Q':=by
 intro dx dy Q Q' w h;unfold fD at h;split at h
 ·exact⟨h.1,w _ h.2⟩
 ·exact h.elim
theorem dI:vR X (gz .FloorDiv) fD:=by
 refine⟨DO,_,FQ,λM O H x y dx dy Q cx cy h=>?_⟩;unfold fD at h;split at h
 ·obtain rfl:=cx.int;obtain rfl:=cy.int;exact⟨_,_,rfl,rfl,h.1,h.2 _ H (aM.refl _) (Rep.int _)⟩
 ·exact h.elim
theorem DN:∀dx dy (Q Q':R->Prop),(∀r,Q r->Q' r)->eY dx dy Q->eY dx dy Q':=by
 intro dx dy Q Q' w h;unfold eY at h;split at h
 ·exact⟨h.1,w _ h.2⟩
 ·exact h.elim
theorem cM:vR X (gz .Mod) eY:=by
 refine⟨DN,_,KL,λM O H x y dx dy Q cx cy h=>?_⟩;unfold eY at h;split at h
 ·obtain rfl:=cx.int;obtain rfl:=cy.int;exact⟨_,_,rfl,rfl,h.1,h.2 _ H (aM.refl _) (Rep.int _)⟩
 ·exact h.elim
noncomputable def Dx(ta:dE):dE:=λρ Q=>ta ρ λr=>match r.d with
 | .int i=>Q (.v (.int (-i)))
 |_=>False
theorem Eo{a:Expr}{pos:jw}(h:QE X a ta):QE X (.UnaryOp .USub a pos) (Dx ta):=by
 refine⟨λρ Q Q' w q=>h.mono _ _ _ (λc q=>?_) q,λHZ F=>d6 (Mc JM (h.run HZ F)) λσ H Q ⟨ρ,fr,q⟩=>?_⟩
 ·split at q
  ·exact w _ q
  ·exact q
 ·refine h.step fr q λr x H1 q1 S1 r1=>?_;split at q1
  ·rename_i i e;have rc:=r1.c;rw[e] at rc;exact⟨i,rc.int,q1 _ H1 S1 (Rep.int _)⟩
  ·exact q1.elim
noncomputable def wJ(f:Int->Int->Bool):Dv->Dv->(R->Prop)->Prop
 | .int i,.int j,Q=>Q (.v (.bl (f i j)))
 |_,_,_=>False
theorem uE:∀dx dy (Q Q':R->Prop),(∀r,Q r->Q' r)->wJ f dx dy Q->wJ f dx dy Q':=by
 intro dx dy Q Q' w h;unfold wJ at h;split at h
 ·exact w _ h
 ·exact h.elim
theorem y6{g:af->af->Ui af}(h:jY X g (BO λi j=>.bl (f i j))):vR X g (wJ f):=by
 refine⟨uE,_,h,λM O H x y dx dy Q cx cy h=>?_⟩;unfold wJ at h;split at h
 ·obtain rfl:=cx.int;obtain rfl:=cy.int;exact⟨_,_,rfl,rfl,h _ H (aM.refl _) (Rep.bl _)⟩
 ·exact h.elim
noncomputable abbrev KC:=wJ λi j=>decide (i<j)
noncomputable abbrev Mr:=wJ λi j=>decide (i<=j)
noncomputable abbrev Hh:=wJ λi j=>decide (j<i)
noncomputable abbrev RK:=wJ λi j=>decide (j<=i)
theorem xZ:vR X (ed .Lt) KC:=y6 N0
theorem FM:vR X (ed .LtE) Mr:=y6 FP
theorem rH:vR X (ed .Gt) Hh:=y6 N1
theorem KD:vR X (ed .GtE) RK:=y6 N2
noncomputable def rR(p p':Dv->Dv->(R->Prop)->Prop)(ta tb tc:dE):dE:=λρ Q=>ta ρ λx=>tb ρ λy=>p x.d y.d λz=>match z.d with
 | .bl k=>if k=aj then tc ρ λw=>p' y.d w.d Q else Q (.v (.bl ap))
 |_=>False
noncomputable def isN:Dv->Bool
 | .non=>aj
 |_=>ap
noncomputable def FK:Dv->Dv->(R->Prop)->Prop
 |d,.non,Q=>Q (.v (.bl (isN d)))
 |_,_,_=>False
noncomputable def Mn:Dv->Dv->(R->Prop)->Prop
 |d,.non,Q=>Q (.v (.bl (!isN d)))
 |_,_,_=>False
theorem dL.non_iff{x:V}{d:Dv}(h:dL K M H x d):decide (x=.non)=isN d:=by
 rcases h with h | ⟨a,rfl,o⟩
 ·cases h<;>simp[isN]
 ·cases d<;>first | exact o.elim | simp[isN]
theorem Hj:vR X (ed .Is) FK:=by
 refine⟨λdx dy Q Q' w h=>?_,_,KM,λM O H x y dx dy Q cx cy h=>?_⟩
 ·unfold FK at h;split at h
  ·exact w _ h
  ·exact h.elim
 ·unfold FK at h;split at h
  ·refine⟨cy.non,?_⟩;rw[cx.non_iff];exact h _ H (aM.refl _) (Rep.bl _)
  ·exact h.elim
noncomputable def fC:Dv->Vy
 | .non=>.none
 | .bl b=>.bool b
 | .int i=>.int i
 | .str x=>.str x
 | .tup xs=>.tuple (pyDs xs)
 | .lst xs=>.list (pyDs xs)
 | .scr ns=>.list (ns.map .int)
 |_=>.dict []
where pyDs:List Dv->List Vy
 | []=>[]
 |d::r=>fC d::pyDs r
noncomputable abbrev pyDs:=fC.pyDs
noncomputable def dQ:Nat->Dv->Bool
 |_,.non=>aj
 |_,.bl _=>aj
 |_,.int _=>aj
 |_,.str x=>PyData.strOk x
 |n+1,.tup xs=>okDs n xs
 |n+1,.lst xs=>okDs n xs
 |_+1,.scr _=>aj
 |_,_=>ap
where okDs:Nat->List Dv->Bool
 |_,[]=>aj
 |n,d::r=>dQ n d&&okDs n r
noncomputable abbrev okDs:=dQ.okDs
noncomputable def eqD(a b:Dv):Bool:=ir (fC a) (fC b)
theorem B3(ns:List Int):md (ns.map .int)=aj:=by
 induction ns with
 |nil=>rfl
 |cons n r ih=>rw[dh,md,ih];rfl
theorem Bx(ns:List Int):kf (ns.map .int)=0:=by
 induction ns with
 |nil=>rfl
 |cons n r ih=>rw[dh,kf,ih];rfl
mutual
theorem qC:∀(n:Nat) (d:Dv),dQ n d=aj->(fC d).canLay0=aj/\(fC d).depth<=n
 |_,.non,_=>⟨by simp[fC,nc],by simp[fC,PyData.depth]⟩
 |_,.bl _,_=>⟨by simp[fC,nc],by simp[fC,PyData.depth]⟩
 |_,.int _,_=>⟨by simp[fC,nc],by simp[fC,PyData.depth]⟩
 |_,.str x,h=>⟨by rw[fC,nc];cases ‹Nat›<;>simpa [dQ] using h,by simp[fC,PyData.depth]⟩
 |0,.tup _,h=>by simp[dQ] at h
 |0,.lst _,h=>by simp[dQ] at h
 |0,.scr _,h=>by simp[dQ] at h
 |n+1,.tup xs,h=>by
  have:=uF n xs (by rw[dQ] at h;exact h);exact⟨by rw[fC,nc];exact this.1,by rw[fC,PyData.depth];have h2:kf (fC.pyDs xs)<=n:=this.2;right⟩
 |n+1,.lst xs,h=>by
  have:=uF n xs (by rw[dQ] at h;exact h);exact⟨by rw[fC,nc];exact this.1,by rw[fC,PyData.depth];have h2:kf (fC.pyDs xs)<=n:=this.2;right⟩
 |n+1,.scr ns,_=>⟨by rw[fC,nc];exact B3 ns,by rw[fC,PyData.depth,Bx];right⟩
 |0,.dik _,h=>by simp[dQ] at h
 |0,.dit _,h=>by simp[dQ] at h
 |0,.obj _ _,h=>by simp[dQ] at h
 |0,.exc _ _,h=>by simp[dQ] at h
 |_+1,.exc _ _,h=>by simp[dQ] at h
 |0,.dns _,h=>by simp[dQ] at h
 |_+1,.dns _,h=>by simp[dQ] at h
 |_+1,.dik _,h=>by simp[dQ] at h
 |_+1,.dit _,h=>by simp[dQ] at h
 |_+1,.obj _ _,h=>by simp[dQ] at h
theorem uF:∀(n:Nat) (ds:List Dv),okDs n ds=aj->md (pyDs ds)=aj/\kf (pyDs ds)<=n
 |_,[],_=>⟨by simp[fC.pyDs,md],by simp[fC.pyDs,kf]⟩
 |n,d::r,h=>by
  have h':(dQ n d&&okDs n r)=aj:=h;rw[cg] at h';have h1:=qC n d h'.1;have h2:=uF n r h'.2;refine⟨by show md (fC d::pyDs r)=aj;rw[md,h1.1,h2.1];rfl,?_⟩;show kf (fC d::pyDs r)<=n;rw[kf];right
end
theorem kH{d:Dv}(h:dQ n d=aj)(hn:n<=64):Vz (fC d)=aj:=by
 obtain⟨h1,h2⟩:=qC n d h;unfold Vz;rw[h1,decide_eq_true ⋯];rfl
theorem uM{h:cm}:∀{ns:List Int} {us:List af},bI (ns.map V.int) us -> ∃as,UW h us (ns.map PyData.int) as
 | [],_,.nil=>⟨_,.nil⟩
 |n::r,_,.cons a t=>by
  obtain⟨tk,rfl⟩:=a;obtain⟨as,q⟩:=uM (h:=h) t;exact⟨_,.cons (.int n tk) q⟩
theorem t4{d:Dv}(f:okDs n (d::ds)=aj):dQ n d=aj/\okDs n ds=aj:=by
 have f':(dQ n d&&okDs n ds)=aj:=f;rwa[cg] at f'
theorem Rep.reads(I:Inv X pj σ H s){x:V}{d:Dv}(q:Rep X.K M H x d)(ok:dQ n d=aj)(r:cU x u):∃as,Vn s.heap u (fC d) as:=by
 refine Rep.rec (motive_1:=λx d _=>∀n u,dQ n d=aj->cU x u -> ∃as,Vn s.heap u (fC d) as) (motive_2:=λxs ds _=>∀n us,okDs n ds=aj->bI xs us -> ∃as,UW s.heap us (pyDs ds) as) (motive_3:=λ_ _ _=>True) (motive_4:=λ_ _ _=>True) (motive_5:=λ_ _ _=>True)
  (λn u _ r=>by cases r;exact⟨_,.none⟩) (λb n u _ r=>by cases r;exact⟨_,.bool b⟩) (λi n u _ r=>by obtain⟨t,rfl⟩:=r;exact⟨_,.int i t⟩) (λy n u _ r=>by obtain⟨t,rfl⟩:=r;exact⟨_,.str y t⟩) ?tup ?lst ?dik ?dit ?obj ?scr ?exc ?dns ?nil ?cons
  trivial (λ_ _ _ _=>trivial) trivial (λ_ _ _ _=>trivial) trivial (λ_ _ _ _=>trivial) q n u ok r
 case tup=>
  intro a xs ds e _ ih n u ok r;cases n with
  |zero=>simp[dQ] at ok
  |succ n=>
   cases r;obtain⟨_,its,rv,o,ho,hc,m,hd⟩:=I.hok _ _ e;obtain⟨as,ra⟩:=ih n its (by rw[dQ] at ok;exact ok) rv;exact⟨_,.tuple ho hc hd ra⟩
 case lst=>
  intro a xs ds e _ _ ih n u ok r;cases n with
  |zero=>simp[dQ] at ok
  |succ n=>
   cases r;obtain⟨_,its,m,rv,ho⟩:=I.hok _ _ e;obtain⟨as,ra⟩:=ih n its (by rw[dQ] at ok;exact ok) rv;exact⟨_,.list ho rfl rfl ra⟩
 case dik=>intro a xs ds _ _ _ _ n u ok;cases n<;>simp[dQ] at ok
 case dit=>intro a ep xs ds _ _ _ _ n u ok;cases n<;>simp[dQ] at ok
 case obj=>intro a C dx xs ds _ _ _ _ n u ok;cases n<;>simp[dQ] at ok
 case scr=>
  intro a ns e n u _ r;cases r;obtain⟨its,rv,pl,_⟩:=I.list e.sq;obtain⟨o,ho,hc,m,hd⟩:=pl.isList;obtain⟨as,ra⟩:=uM (h:=s.heap) rv;exact⟨_,.list ho hc hd (by simpa using ra)⟩
 case exc=>intro a C p _ n u ok;cases n<;>simp[dQ] at ok
 case dns=>intro a ks _ _ n u ok;cases n<;>simp[dQ] at ok
 case nil=>intro n us _ r;cases r;exact⟨_,.nil⟩
 case cons=>
  intro x d xs ds _ _ i1 i2 n us ok r;cases r with
  |cons r1 r2=>
   obtain⟨as,ra⟩:=i1 n _ (t4 ok).1 r1;obtain⟨bs,rb⟩:=i2 n _ (t4 ok).2 r2;exact⟨_,.cons ra rb⟩
theorem Reps.reads(I:Inv X pj σ H s){n:Nat}{xs:List V}{ds:List Dv}{us:List af}(q:Reps X.K M H xs ds)(ok:okDs n ds=aj)(r:bI xs us):∃as,UW s.heap us (pyDs ds) as:=
 q.ind (P:=λxs ds=>∀us,okDs n ds=aj->bI xs us -> ∃as,UW s.heap us (pyDs ds) as) (λus _ r=>by cases r;exact⟨_,.nil⟩) (λx d xs ds a _ ih us ok r=>by
  cases r with
  |cons r1 r2=>
   obtain⟨as,ra⟩:=a.reads I (t4 ok).1 r1;obtain⟨bs,rb⟩:=ih _ (t4 ok).2 r2;exact⟨_,.cons ra rb⟩) us ok r
theorem dL.reads(I:Inv X pj σ H s){n:Nat}{x:V}{d:Dv}{u:af}(c:dL X.K M H x d)(ok:dQ n d=aj)(r:cU x u):∃as,Vn s.heap u (fC d) as:=by
 rcases c with c | ⟨a,rfl,o⟩
 ·exact c.reads I ok r
 ·cases d with
  |lst ds=>
   obtain⟨xs,e,q⟩:=o;cases r;cases n with
   |zero=>simp[dQ] at ok
   |succ n=>
    obtain⟨_,its,m,rv,ho⟩:=I.hok _ _ e;obtain⟨as,ra⟩:=Reps.reads I q (by rw[dQ] at ok;exact ok) rv;exact⟨_,.list ho rfl rfl ra⟩
  |dik _=>cases n<;>simp[dQ] at ok
  |dit _=>cases n<;>simp[dQ] at ok
  |obj _ _=>cases n<;>simp[dQ] at ok
  |dns _=>cases n<;>simp[dQ] at ok
  |_=>exact o.elim
noncomputable def sG:Dv->Dv->(R->Prop)->Prop
 | .int i,.int j,Q=>Q (.v (.bl (decide (i=j))))
 |dx,dy,Q=>(dQ 8 dx=aj/\dQ 8 dy=aj)/\Q (.v (.bl (eqD dx dy)))
noncomputable def wI:Dv->Dv->(R->Prop)->Prop
 | .int i,.int j,Q=>Q (.v (.bl (!decide (i=j))))
 |dx,dy,Q=>(dQ 8 dx=aj/\dQ 8 dy=aj)/\Q (.v (.bl (!eqD dx dy)))
noncomputable def Pf(K:ak):R2:=λx y H Q=>∃M dx dy,dL K M H x dx/\dL K M H y dy/\dQ 8 dx=aj/\dQ 8 dy=aj/\Q (.bl (eqD dx dy)) H
noncomputable def Pc(K:ak):R2:=λx y H Q=>∃M dx dy,dL K M H x dx/\dL K M H y dy/\dQ 8 dx=aj/\dQ 8 dy=aj/\Q (.bl (!eqD dx dy)) H
theorem KO(hu:X.A.units+64<lq):jY X (ed .Eq) (Pf X.K):=by
 intro pj s σ H x y v u Q I rx ry h;obtain⟨M,dx,dy,r1,r2,o1,o2,q⟩:=h;obtain⟨as,ra⟩:=r1.reads I o1 rx;obtain⟨bs,rb⟩:=r2.reads I o2 ry;exact SeqAt.compareEq_shaped ra rb (kH o1 ∅) (kH o2 ∅) hu ⟨.bl _,H,I,rfl,q⟩
theorem KJ(hu:X.A.units+64<lq):jY X (ed .NotEq) (Pc X.K):=by
 intro pj s σ H x y v u Q I rx ry h;obtain⟨M,dx,dy,r1,r2,o1,o2,q⟩:=h;obtain⟨as,ra⟩:=r1.reads I o1 rx;obtain⟨bs,rb⟩:=r2.reads I o2 ry;exact SeqAt.compareNe_shaped ra rb (kH o1 ∅) (kH o2 ∅) hu ⟨.bl _,H,I,rfl,q⟩
theorem qK(i j:Int):eqD (.int i) (.int j)=decide (i=j):=by
 show ir (.int i) (.int j)=_;rw[ir];exact Bool.beq_eq_decide_eq i j
theorem gP(hu:X.A.units+64<lq):vR X (ed .Eq) sG:=by
 refine⟨λdx dy Q Q' w h=>?_,_,KO hu,λM O H x y dx dy Q cx cy h=>?_⟩
 ·unfold sG at *;split at h
  ·exact w _ h
  ·exact⟨h.1,w _ h.2⟩
 ·unfold sG at h;split at h
  ·refine⟨M,_,_,cx,cy,by simp[dQ],by simp[dQ],?_⟩;rw[qK];exact h _ H (aM.refl _) (Rep.bl _)
  ·exact⟨M,_,_,cx,cy,h.1.1,h.1.2,h.2 _ H (aM.refl _) (Rep.bl _)⟩
theorem iX(hu:X.A.units+64<lq):vR X (ed .NotEq) wI:=by
 refine⟨λdx dy Q Q' w h=>?_,_,KJ hu,λM O H x y dx dy Q cx cy h=>?_⟩
 ·unfold wI at *;split at h
  ·exact w _ h
  ·exact⟨h.1,w _ h.2⟩
 ·unfold wI at h;split at h
  ·refine⟨M,_,_,cx,cy,by simp[dQ],by simp[dQ],?_⟩;rw[qK];exact h _ H (aM.refl _) (Rep.bl _)
  ·exact⟨M,_,_,cx,cy,h.1.1,h.1.2,h.2 _ H (aM.refl _) (Rep.bl _)⟩
structure En where
 nx:List Sl->Prop
 rt:R->Prop
 bk:List Sl->Prop:=λ_=>False
 ct:List Sl->Prop:=λ_=>False
noncomputable abbrev cI:=En->List Sl->Prop
structure EnLe(E E':En):Prop where
 nx:∀ρ,E.nx ρ->E'.nx ρ
 rt:∀r,E.rt r->E'.rt r
 bk:∀ρ,E.bk ρ->E'.bk ρ
 ct:∀ρ,E.ct ρ->E'.ct ρ
structure Ent(K:ak)(HZ:Hp)(F:ah->Prop)(E:En)(D:Ends):Prop where
 nx:∀ρ σ H,Fr K HZ F σ H ρ->E.nx ρ->D.nx σ H
 bk:∀ρ σ H,Fr K HZ F σ H ρ->E.bk ρ->D.bk σ H
 ct:∀ρ σ H,Fr K HZ F σ H ρ->E.ct ρ->D.ct σ H
 rt:∀r x H,aM HZ H->dX K F xH HZ x r H->E.rt r->D.rt x H
inductive liftS(K:ak)(HZ:Hp)(F:ah->Prop)(t:cI)(D:Ends)(σ:St)(H:Hp):Prop
 |mk (ρ:List Sl) (E:En) (fr:Fr K HZ F σ H ρ) (h:t E ρ) (en:Ent K HZ F E D)
structure QS(X:Cx)(st:jl)(t:cI):Prop where
 mono:∀E E' ρ,EnLe E E'->t E ρ->t E' ρ
 run:∀(HZ:Hp) (F:ah->Prop),PS X st (liftS X.K HZ F t)
structure QSs(X:Cx)(sts:List jl)(t:cI):Prop where
 mono:∀E E' ρ,EnLe E E'->t E ρ->t E' ρ
 run:∀(HZ:Hp) (F:ah->Prop),tG X sts (liftS X.K HZ F t)
variable {E:En}{sts:List jl}
section
variable {st:jl}{t u:cI}{c:Expr}{pos:jw}
theorem eM{t t':TS}(h:PS X st t)(w:∀D σ H,t' D σ H->t D σ H):PS X st t':=λpj s σ H D I q=>h pj s σ H D I (w D σ H q)
theorem zG{t t':TS}(h:tG X sts t)(w:∀D σ H,t' D σ H->t D σ H):tG X sts t':=λpj s σ H D I q=>h pj s σ H D I (w D σ H q)
noncomputable def cH:cI:=λE ρ=>E.nx ρ
noncomputable def aO(t u:cI):cI:=λE ρ=>t { E with nx:=u E } ρ
theorem bX:QSs X [] cH:=⟨λE E' ρ w h=>w.nx _ h,λHZ F=>zG HU λD σ H zq1=>by obtain⟨ρ,E,fr,h,en⟩:=zq1;exact en.nx _ _ _ fr h⟩
theorem EnLe.with_nx{E':En}{a b:List Sl->Prop}(w:EnLe E E')(h:∀ρ,a ρ->b ρ):EnLe { E with nx:=a } { E' with nx:=b }:=⟨h,w.rt,w.bk,w.ct⟩
theorem aB(h1:QS X st t)(h2:QSs X sts u):QSs X (st::sts) (aO t u):=by
 refine⟨λE E' ρ w h=>h1.mono _ _ _ (w.with_nx λρ h=>h2.mono _ _ _ w h) h,λHZ F=>zG (AC (h1.run HZ F) (h2.run HZ F)) λD σ H zz=>?_⟩;obtain⟨ρ,E,fr,h,en⟩:=zz;exact⟨ρ,_,fr,h,λρ' σ' H' fr' h'=>⟨ρ',E,fr',h',en⟩,en.bk,en.ct,en.rt⟩
theorem aJ(h1:QS X st t):QSs X [st] t:=⟨h1.mono,λHZ F=>CI (h1.run HZ F)⟩
noncomputable def Ef:cI:=λE ρ=>E.bk ρ
noncomputable def Iy:cI:=λE ρ=>E.ct ρ
noncomputable def iS:cI:=λ_ _=>False
theorem jC:QS X st iS:=⟨λ_ _ _ _ h=>h,λHZ F=>eM F5 λD σ H zq2=>by obtain⟨ρ,E,fr,h,en⟩:=zq2;exact h⟩
noncomputable def A8(te:dE):cI:=λE ρ=>te ρ λ_=>E.nx ρ
theorem Et(he:QE X e te)(hs:autoParam (ji e aq pos.line X.env=io ap) bV._auto_1):QS X (.Expr e pos) (A8 te):=
 ⟨λE E' ρ w h=>he.mono _ _ _ (λ_ q=>w.nx _ q) h,λHZ F=>eM (sZ (he.run HZ F) hs) λD σ H zq3=>by obtain⟨ρ,E,fr,h,en⟩:=zq3;exact he.step fr h λr x H1 q S1 _=>en.nx _ _ _ (fr.mono S1) q⟩
noncomputable def R.out:R->R
 | .ow _ d=>.nw d
 |r=>r
theorem dX.out{K:ak}{HZ H H':Hp}{F:ah->Prop}{σ:St}{ρ:List Sl}{x:V}{r:R}(fr:Fr K HZ F σ H ρ)(h:dX K (MM F ρ) (zK ρ) H x r H'):dX K F xH HZ x r.out H':=by
 cases r with
 |v d=>exact Rep.weak (λa z=>.inl z) h
 |nw d=>
  obtain⟨a,e,n,o⟩:=h;exact⟨a,e,fr.same.free n,o.weak λb z=>z.elim (λz=>.inl (.inl z)) .inr⟩
 |ow a d=>
  obtain⟨e,m,o⟩:=h;refine⟨a,e,fr.new a d m,o.weak λb z=>?_⟩;rcases z with z | z
  ·exact .inl z
  ·rw[z];exact .inr ⟨d,m⟩
noncomputable def cF(te:dE):cI:=λE ρ=>te ρ λr=>E.rt r.out
noncomputable def Ix:cI:=λE _=>E.rt (.v .non)
theorem bH(he:QE X e te):QS X (.Return (aa e) pos) (cF te):=
 ⟨λE E' ρ w h=>he.mono _ _ _ (λ_ q=>w.rt _ q) h,λHZ F=>eM (Jn (he.run HZ F)) λD σ H zq4=>by obtain⟨ρ,E,fr,h,en⟩:=zq4;exact he.step fr h λr x H1 q S1 r1=>en.rt _ _ _ (fr.same.trans S1) (dX.out fr r1) q⟩
noncomputable def kF(c:l6)(t u:cI):cI:=λE ρ=>c ρ λb=>if b=aj then t E ρ else u E ρ
theorem fV{a b:List jl}{tc:l6}(hc:QT X c tc)(ha:QSs X a t)(hb:QSs X b u):QS X (.If c a b pos) (kF tc t u):=by
 refine⟨λE E' ρ w h=>hc.mono _ _ _ (λk q=>?_) h,λHZ F=>eM (J1 (hc.run HZ F) (ha.run HZ F) (hb.run HZ F)) λD σ H ⟨ρ,E,fr,h,en⟩=>?_⟩
 ·split at q
  ·rw[Wj ‹_›];exact ha.mono _ _ _ w q
  ·rw[VT ‹_›];exact hb.mono _ _ _ w q
 ·refine hc.step fr h λk H1 q S1=>?_;cases k with
  |true=>exact rM ⟨ρ,E,fr.mono S1,by simpa using q,en⟩
  |false=>exact rN ⟨ρ,E,fr.mono S1,by simpa using q,en⟩
end
theorem eW{l:List α}{j:Nat}{a b:α}(h:(l.set i a)[j]?=aa b):(i=j/\i<l.length/\b=a) \/ (i≠j/\l[j]?=aa b):=by
 by_cases e:i=j
 ·subst e;by_cases hl:i<l.length
  ·rw[jg hl] at h;exact .inl ⟨rfl,hl,(Option.some.inj h).symm⟩
  ·rw[ou (by simp;right)] at h;cases h
 ·rw[fe e] at h;exact .inr ⟨e,h⟩
theorem MM.set{i:Nat}{s:Sl}(a:ah)(h:MM F (ρ.set i s) a):MM F ρ a \/ ∃d,s=.own a d:=by
 rcases h with h | ⟨d,h⟩
 ·exact .inl (.inl h)
 ·rcases mf h with h | h
  ·exact .inl (.inr ⟨d,h⟩)
  ·exact .inr ⟨d,h.symm⟩
theorem Fr.setv(fr:Fr K HZ F σ H ρ){x:V}{d:Dv}(r:Rep K (MM F ρ) H x d):Fr K HZ F (σ.set i (aa x)) H (ρ.set i (.v d)):=by
 have wk:∀a,MM F (ρ.set i (.v d)) a->MM F ρ a:=λa h=>by
  rcases MM.set a h with h | ⟨_,h⟩
  ·exact h
  ·cases h
 refine⟨by simp[fr.len],λj s e=>?_,λj k a d1 d2 e1 e2=>?_,λa d1 h=>?_,fr.same,fr.old⟩
 ·rcases eW e with⟨rfl,hl,rfl⟩ | ⟨ne,e⟩
  ·exact⟨x,by rw[jg (by rw[fr.len];exact hl)],r.weak wk⟩
  ·rw[fe ne];exact(fr.sl j s e).weak wk
 ·rcases eW e1 with⟨_,_,z⟩ | ⟨_,e1⟩
  ·cases z
  ·rcases eW e2 with⟨_,_,z⟩ | ⟨_,e2⟩
   ·cases z
   ·exact fr.nd j k a d1 d2 e1 e2
 ·rcases mf h with h | h
  ·exact fr.new a d1 h
  ·cases h
theorem Fr.setu(fr:Fr K HZ F σ H ρ){o:Option V}:Fr K HZ F (σ.set i o) H (ρ.set i .un):=by
 have wk:∀a,MM F (ρ.set i .un) a->MM F ρ a:=λa h=>by
  rcases MM.set a h with h | ⟨_,h⟩
  ·exact h
  ·cases h
 refine⟨by simp[fr.len],λj s e=>?_,λj k a d1 d2 e1 e2=>?_,λa d1 h=>?_,fr.same,fr.old⟩
 ·rcases eW e with⟨rfl,hl,rfl⟩ | ⟨ne,e⟩
  ·trivial
  ·rw[fe ne];exact(fr.sl j s e).weak wk
 ·rcases eW e1 with⟨_,_,z⟩ | ⟨_,e1⟩
  ·cases z
  ·rcases eW e2 with⟨_,_,z⟩ | ⟨_,e2⟩
   ·cases z
   ·exact fr.nd j k a d1 d2 e1 e2
 ·rcases mf h with h | h
  ·exact fr.new a d1 h
  ·cases h
theorem vQ.gen{M M':ah->Prop}{o:Option (Option V)}{s:Sl}(G:Gen K M M' H H')(hs:∀a d,s=.own a d -> ∀u,H a=aa u->H' a=aa u)(h:vQ K M H o s):vQ K M' H' o s:=by
 cases s with
 |un=>trivial
 |v d=>obtain⟨x,e,r⟩:=h;exact⟨x,e,r.gen G⟩
 |own a d=>exact⟨h.1,h.2.gen G (hs a d rfl)⟩
theorem Fr.seto(fr:Fr K HZ F σ H ρ)(S:aM H H'){d:Dv}(ha:H a=aq)(o:eO K (λb=>MM F ρ b \/ b=a) H' a d):Fr K HZ F (σ.set i (aa (.ref a))) H' (ρ.set i (.own a d)):=by
 have wk:∀b,MM F (ρ.set i (.own a d)) b->MM F ρ b \/ b=a:=λb h=>by
  rcases MM.set b h with h | ⟨_,h⟩
  ·exact .inl h
  ·cases h;exact .inr rfl
 have G:Gen K (MM F ρ) (MM F (ρ.set i (.own a d))) H H':=((Gen.fresh ha).trans (.mono S)).trans (.weak wk);have ne:∀(j:Nat) (b:ah) (d':Dv),ρ[j]?=aa (Sl.own b d')->b≠a:=λj b d' e z=>by
  have:=(fr.sl j _ e).2.mut;obtain⟨u,hu,_⟩:=this;rw[z,ha] at hu;cases hu
 refine⟨by simp[fr.len],λj s e=>?_,λj k b d1 d2 e1 e2=>?_,λb d1 h=>?_,fr.same.trans S,fr.old⟩
 ·rcases eW e with⟨rfl,hl,rfl⟩ | ⟨hne,e⟩
  ·exact⟨by rw[jg (by rw[fr.len];exact hl)],o.weak wk⟩
  ·rw[fe hne];exact(fr.sl j s e).gen G λb d' _ u hu=>S _ _ hu
 ·rcases eW e1 with⟨h1,_,z⟩ | ⟨_,e1⟩
  ·rcases eW e2 with⟨h2,_,z'⟩ | ⟨_,e2⟩
   ·right
   ·cases z;exact absurd rfl (ne k _ _ e2)
  ·rcases eW e2 with⟨h2,_,z'⟩ | ⟨_,e2⟩
   ·cases z';exact absurd rfl (ne j _ _ e1)
   ·exact fr.nd j k b d1 d2 e1 e2
 ·rcases mf h with h | h
  ·exact fr.new b d1 h
  ·cases h;exact fr.same.free ha
theorem Fr.write(fr:Fr K HZ F σ H ρ){i:Nat}{a:ah}{d d':Dv}{o:HO}(hi:ρ[i]?=aa (.own a d))(n:eO K (MM F ρ) (upd H a o) a d'):Fr K HZ F σ (upd H a o) (ρ.set i (.own a d')):=by
 have mem:Sl.own a d∈ρ:=eg hi;have wk:∀b,MM F (ρ.set i (.own a d')) b->MM F ρ b:=λb h=>by
  rcases MM.set b h with h | ⟨_,h⟩
  ·exact h
  ·cases h;exact .inr ⟨d,mem⟩
 obtain⟨hs,ow⟩:=fr.sl i _ hi;obtain⟨u,hu,mu⟩:=ow.mut;have mu':EF (H a):=by rw[hu];exact mu
 have G:Gen K (MM F ρ) (MM F (ρ.set i (.own a d'))) H (upd H a o):=(Gen.write (.inr ⟨d,mem⟩) mu').trans (.weak wk);refine⟨by simp[fr.len],λj s e=>?_,λj k b d1 d2 e1 e2=>?_,λb d1 h=>?_,λb q e=>?_,fr.old⟩
 ·rcases eW e with⟨rfl,hl,rfl⟩ | ⟨hne,ej⟩
  ·exact⟨hs,n.weak wk⟩
  ·refine(fr.sl j s ej).gen G λb d2 es u hu=>?_;subst es;rw[b9 λz=>hne ?_]
   ·exact hu
   ·subst z;exact fr.nd i j _ d d2 hi ej
 ·rcases eW e1 with⟨h1,_,z⟩ | ⟨_,e1⟩
  ·cases z;rcases eW e2 with⟨h2,_,z'⟩ | ⟨_,e2⟩
   ·right
   ·rw[<- h1];exact fr.nd i k _ d d2 hi e2
  ·rcases eW e2 with⟨h2,_,z'⟩ | ⟨_,e2⟩
   ·cases z';rw[<- h2];exact fr.nd j i _ d1 d e1 hi
   ·exact fr.nd j k b d1 d2 e1 e2
 ·rcases mf h with h | h
  ·exact fr.new b d1 h
  ·cases h;exact fr.new _ d mem
 ·rw[b9 ?_]
  ·exact fr.same b q e
  ·intro z;subst z;rw[fr.new _ d mem] at e;cases e
noncomputable def freeze(i:Nat)(ρ:List Sl):List Sl:=match ρ[i]? with
 |some (.own _ d)=>ρ.set i (.v d)
 |_=>ρ
section
variable {pos WF:jw}{t:cI}
noncomputable def bB(i:Nat)(te:dE):cI:=λE ρ=>te ρ λr=>match r with
 | .v d=>E.nx (ρ.set i (.v d))
 | .nw d=>E.nx (ρ.set i (.v d))
 | .ow _ _=>False
noncomputable def lW(i:Nat)(te:dE):cI:=λE ρ=>te ρ λr=>match r with
 | .v d=>E.nx (ρ.set i (.v d))
 | .nw d=>∀a,E.nx (ρ.set i (.own a d))
 | .ow _ _=>False
noncomputable def M9(i:Nat)(t:cI):cI:=λE ρ=>t E (freeze i ρ)
theorem b7{x:bn}(hN:X.N.Nodup)(hi:X.N[i]?=aa x)(hx:Gs X.env.scope x)(he:QE X e te)(hs:autoParam (ji e (aa (.Name x WF)) pos.line X.env=io ap) bV._auto_1)(hf:autoParam (X.fn x=aj \/ X.env.scope.names.lookup x=aa .local) Gq._auto_1):
  QS X (.Assign [.Name x WF] e pos) (bB i te):=by
 refine⟨λE E' ρ w h=>he.mono _ _ _ (λr q=>?_) h,λHZ F=>eM (F3 hN hi hx (he.run HZ F) hs hf) λD σ H ⟨ρ,E,fr,h,en⟩=>?_⟩
 ·cases r with
  |v d=>exact w.nx _ q
  |nw d=>exact w.nx _ q
  |ow a d=>exact q
 ·refine he.step fr h λr x H1 q S1 r1=>?_;cases r with
  |v d=>exact en.nx _ _ _ ((fr.mono S1).setv r1) q
  |nw d=>exact en.nx _ _ _ ((fr.mono S1).setv (r1.rep (λa m=>fr.dom m) rfl)) q
  |ow a d=>exact q.elim
theorem lY{x:bn}(hN:X.N.Nodup)(hi:X.N[i]?=aa x)(hx:Gs X.env.scope x)(he:QE X e te)(hs:autoParam (ji e (aa (.Name x WF)) pos.line X.env=io ap) bV._auto_1)(hf:autoParam (X.fn x=aj \/ X.env.scope.names.lookup x=aa .local) Gq._auto_1):
  QS X (.Assign [.Name x WF] e pos) (lW i te):=by
 refine⟨λE E' ρ w h=>he.mono _ _ _ (λr q=>?_) h,λHZ F=>eM (F3 hN hi hx (he.run HZ F) hs hf) λD σ H ⟨ρ,E,fr,h,en⟩=>?_⟩
 ·cases r with
  |v d=>exact w.nx _ q
  |nw d=>exact λa=>w.nx _ (q a)
  |ow a d=>exact q
 ·refine he.step fr h λr x H1 q S1 r1=>?_;cases r with
  |v d=>exact en.nx _ _ _ ((fr.mono S1).setv r1) q
  |nw d=>
   obtain⟨a,rfl,ha,o⟩:=r1;exact en.nx _ _ _ (fr.seto S1 ha o) (q a)
  |ow a d=>exact q.elim
noncomputable def MD(i:Nat)(p:Dv->Dv->(R->Prop)->Prop)(te:dE):cI:=λE ρ=>match ρ[i]? with
 |some (.v d)=>te ρ λr=>p d r.d λz=>match z with
  | .v d'=>E.nx (ρ.set i (.v d'))
  |_=>False
 |_=>False
noncomputable def v9(i:Nat)(te:dE):cI:=λE ρ=>match ρ[i]? with
 |some (.own a (.lst xs))=>te ρ λr=>(r.free=aj/\xs.length<zM)/\E.nx (ρ.set i (.own a (.lst (xs++[r.d]))))
 |_=>False
theorem yE(h:n<zM):n<bh:=dk h (hC (bj _))
theorem Ew{x:bn}{p1 p2 p3:jw}(hv:PE X (.Name x p1) (zV i))(he:QE X e te)(hs:autoParam (ji (.Call (.Attribute (.Name x p1) "append" p2) [e] [] p3) aq pos.line X.env=io ap) bV._auto_1)
  (WB:autoParam (mq (.Name x p1) "append" X.env (fz (.Name x p1) X.env)=fz (.Name x p1) X.env) bV._auto_1)
  (hfew:autoParam (((jd p3 (ay [e] X.env)).all (λx=>!x.1)&&(Tp p3 (xg [] X.env)).all (λx=>x.1.isSome)
   && decide ([e].length+([]:List Si).length+(if ([]:List Si).isEmpty then 0 else 1)<30))=aj) bV._auto_1)
  (WC:autoParam ((p2.endLine==p3.line)=aj) bV._auto_1) (hst:autoParam (ay [e] X.env=(ap,fz e X.env)::ay [] X.env) bV._auto_1) (WG:autoParam ((jd p3 (ay [] X.env)).any (·.1)=ap) bV._auto_1):
  QS X (.Expr (.Call (.Attribute (.Name x p1) "append" p2) [e] [] p3) pos) (v9 i te):=by
 refine⟨λE E' ρ w h=>?_,λHZ F=>eM (sZ (J2 sf PySem.F.slot_list_append PySem.F.type_list_append wL hv (gW (he.run HZ F) oG hst) WB hfew WC hst WG) hs) λD σ H ⟨ρ,E,fr,h,en⟩=>?_⟩
 ·unfold v9 at *;split at h
  ·exact he.mono _ _ _ (λr q=>⟨q.1,w.nx _ q.2⟩) h
  ·exact h
 ·unfold v9 at h;split at h
  ·rename_i a xs hx;obtain⟨hs1,vs,hv1,rv1⟩:=fr.sl i _ hx;refine⟨_,hs1,.inl ⟨rfl,_,fJ.of hv1⟩,he.step fr h λr y H1 q S1 r1=>?_⟩;obtain⟨⟨qf,ql⟩,q2⟩:=q;have rep:=r1.rep (λa m=>fr.dom m) qf;have hv2:=S1 _ _ hv1;refine⟨a,vs,y,rfl,rfl,hv2,by rw[rv1.length];exact yE ql,?_⟩;refine en.nx _ _ _ ((fr.mono S1).write (d':=.lst (xs++[r.d])) hx ⟨_,bN,?_⟩) q2;have G:Gen X.K (MM F ρ) (MM F ρ) H1 (upd H1 a (.lst (vs++[y]))):=Gen.write (.inr ⟨_,eg hx⟩) (by rw[hv2];trivial);exact((rv1.mono S1).append (.cons rep .nil)).gen G
  ·exact h.elim
end
open Classical in
noncomputable def prot(H:Hp)(ρ:List Sl):Hp:=λb=>if ∃d,Sl.own b d∈ρ then aq else H b
section
variable {σ':St}{ρ':List Sl}
theorem u8{d:Dv}(h:Sl.own b d∈ρ):prot H ρ b=aq:=by unfold prot;rw[Wj ⟨d,h⟩]
theorem cO(h:¬ ∃d,Sl.own b d∈ρ):prot H ρ b=H b:=by unfold prot;rw[VT h]
theorem mY(h:prot H ρ b=aa o):H b=aa o:=by
 by_cases c:∃d,Sl.own b d∈ρ
 ·obtain⟨d,c⟩:=c;rw[u8 c] at h;cases h
 ·rw[cO c] at h;exact h
theorem DC(h:prot H ρ b=aq):(∃d,Sl.own b d∈ρ) \/ H b=aq:=by
 by_cases c:∃d,Sl.own b d∈ρ
 ·exact .inl c
 ·rw[cO c] at h;exact .inr h
theorem Fr.prot(fr:Fr K HZ F σ H ρ):Fr K (prot H ρ) F σ H ρ:=by
 refine⟨fr.len,fr.sl,fr.nd,λa d h=>u8 h,λb o h=>mY h,λa h=>?_,λP q z=>?_⟩
 ·rw[cO ?_]
  ·exact fr.dom (.inl h)
  ·rintro⟨d,c⟩;exact fr.old.f a h (fr.new a d c)
 ·have e:=fr.old.t P q z;rw[cO ?_]
  ·exact fr.same _ _ e
  ·rintro⟨d,c⟩;rw[fr.new P d c] at e;cases e
theorem Fr.free_of(fr:Fr K HZ F σ H ρ)(h:Z.prot H ρ b=aq):HZ b=aq:=by
 rcases DC h with⟨d,c⟩ | h
 ·exact fr.new b d c
 ·exact fr.same.free h
theorem Fr.same_of(fr:Fr K HZ F σ H ρ)(S:aM (Z.prot H ρ) H'):aM HZ H':=λb o e=>by
 refine S b o ?_;rw[cO ?_]
 ·exact fr.same b o e
 ·rintro⟨d,c⟩;rw[fr.new b d c] at e;cases e
theorem Fr.unprot(fr:Fr K HZ F σ H ρ)(g:Fr K (Z.prot H ρ) F σ' H' ρ'):Fr K HZ F σ' H' ρ':=
 ⟨g.len,g.sl,g.nd,λa d h=>fr.free_of (g.new a d h),fr.same_of g.same,fr.old⟩
theorem Fr.gen(fr:Fr K HZ F σ H ρ)(g:Fr K (Z.prot H ρ) F σ' H' ρ'):Gen K (MM F ρ) (MM F ρ') H H':=by
 have no:∀a o,H a=aa o -> ¬MM F ρ a->Z.prot H ρ a=aa o:=λa o e m=>by
  rw[cO λc=>m (.inr c)];exact e
 have no2:∀a o,H a=aa o -> ¬EF (aa o)->Z.prot H ρ a=aa o:=λa o e m=>by
  rw[cO ?_]
  ·exact e
  ·rintro⟨d,c⟩;obtain⟨_,_,_,ow⟩:=fr.at_own c;obtain⟨u,hu,mu⟩:=ow.mut;rw[e] at hu;cases hu;exact m mu
 refine⟨λa o e mu m=>⟨g.same _ _ (no a o e m),?_⟩,λa xs e=>g.same _ _ (no2 a _ e λz=>z),λa ns e=>?_,λa o u e=>g.same _ _ (no2 a _ e λz=>z)⟩
 ·rintro(h | ⟨d,h⟩)
  ·exact m (.inl h)
  ·have:=g.new a d h;rw[no a o e m] at this;cases this
 ·rcases e with⟨o,e⟩ | e
  ·exact .inl ⟨o,g.same _ _ (no2 a _ e λz=>z)⟩
  ·exact .inr e
theorem Ent.prot{E:En}{D:Ends}(fr:Fr K HZ F σ H ρ)(en:Ent K HZ F E D):Ent K (Z.prot H ρ) F E D:=by
 refine⟨λρ' σ' H' g h=>en.nx _ _ _ (fr.unprot g) h,λρ' σ' H' g h=>en.bk _ _ _ (fr.unprot g) h,λρ' σ' H' g h=>en.ct _ _ _ (fr.unprot g) h,λr x H' S rr h=>en.rt r x H' (fr.same_of S) ?_ h⟩;cases r with
 |v d=>exact rr
 |ow a d=>exact rr
 |nw d=>obtain⟨a,e,n,o⟩:=rr;exact⟨a,e,fr.free_of n,o⟩
end
noncomputable abbrev C3:=List Sl->(List Dv->List (ah×List Dv)->Prop)->Prop
noncomputable def guard(ogs:List (ah×List Dv))(ρ:List Sl):Prop:=∀p∈ogs,Sl.own p.1 (.lst p.2)∈ρ
noncomputable def vS(K:ak)(P:Hp)(M:ah->Prop)(H1:Hp)(J:It)(ds:List Dv)(ogs:List (ah×List Dv)):Prop:=
 ∀(i:Nat) (H':Hp) (M':ah->Prop),aM P H'->Gen K M M' H1 H'->(∀p∈ogs,eO K M' H' p.1 (.lst p.2)) ->
  (∀d,ds[i]?=aa d->J.go i H' /\ ∀y H'',J.yld i H' y H''->aM H' H''/\Rep K M' H'' y d)/\(ds.length<=i->J.stop i H')
structure QI(X:Cx)(tg iter:Expr)(ti:C3):Prop where
 mono:∀(ρ:List Sl) (Q Q':List Dv->List (ah×List Dv)->Prop),(∀ds g,Q ds g->Q' ds g)->ti ρ Q->ti ρ Q'
 run:∀(HZ:Hp) (F:ah->Prop),∃wi,PI X tg iter wi /\ ∀(σ:St) (H:Hp) (ρ:List Sl) (R:It->Hp->Prop),Fr X.K HZ F σ H ρ ->
  ti ρ (λds ogs=>∀J H1,aM H H1->guard ogs ρ->vS X.K (prot H1 ρ) (MM F ρ) H1 J ds ogs->R J H1)->wi σ H R
variable {P:Hp}{l:Expr}{lo:Int}
section
variable {tl:dE}
noncomputable def NL(K:ak)(tl:TE):TI:=λσ H R=>tl σ H λx H1=>∃a,x=.ref a/\(((∃xs,fJ K H1 a xs)/\R (Np K a) H1) \/ ((∃xs,jP K H1 a xs)/\R (R9 K a) H1))
theorem Js{tl:TE}(hl:PE X l tl):PI X tg l (NL X.K tl):=by
 intro pj s σ H R I h;refine thn (hl pj s σ H _ I h) λv s1 zz=>?_;obtain⟨x,H1,I1,r1,q1⟩:=zz;obtain⟨a,e,q1⟩:=q1;subst e;cases r1;rcases q1 with⟨⟨xs,hq⟩,q⟩ | ⟨⟨xs,hq⟩,q⟩
 ·obtain⟨its,rv,p,hz⟩:=I1.list hq;refine Tx p.isList ?_;refine⟨s1.heap.objs.size,[s1.heap.objs.size],_,_,H1,rfl,I1.kept (t':=s1.toks) λb o e=>ao _ e,Cw a _,⟨_,bw _ rfl,rfl,rfl⟩,λb hb=>?_,q⟩;have e:b=s1.heap.objs.size:=by simpa using hb
  subst e;exact I1.fpOk (bj _) (I1.hok.fresh (bj _))
 ·obtain⟨its,rv,p,hz⟩:=I1.tuple hq;refine wpAny_pyIter_tuple (show s1.heap.IsTuple a its.toArray from p) ?_;refine⟨s1.heap.objs.size,[s1.heap.objs.size],_,_,H1,rfl,I1.kept (t':=s1.toks) λb o e=>ao _ e,BB a _,⟨_,bw _ rfl,rfl,rfl⟩,λb hb=>?_,q⟩;have e:b=s1.heap.objs.size:=by simpa using hb
  subst e;exact I1.fpOk (bj _) (I1.hok.fresh (bj _))
noncomputable def iF(tl:dE):C3:=λρ Q=>tl ρ λr=>match r with
 | .v (.lst ds)=>Q ds []
 | .nw (.lst ds)=>Q ds []
 | .ow a (.lst ds)=>Q ds [(a,ds)]
 | .v (.tup ds)=>Q ds []
 | .v (.scr ns)=>Q (ns.map .int) []
 |_=>False
theorem wR(hP:P a=aa (.lst xs))(r:Reps K M H1 xs ds):vS K P M H1 (Np K a) ds []:=by
 intro i H' M' S G _;have h':=S _ _ hP;refine⟨λd e=>?_,λh=>⟨xs,fJ.of h',by rw[r.length];exact h⟩⟩;obtain⟨x,hx,rx⟩:=r.get e;refine⟨⟨xs,x,fJ.of h',hx⟩,λy H'' zz=>?_⟩;obtain⟨e1,e2⟩:=zz;subst e1;have:=e2 xs (fJ.of h');rw[hx] at this;cases this;exact⟨aM.refl _,rx.gen G⟩
theorem G8:vS K P M H1 (Np K a) ds [(a,ds)]:=by
 intro i H' M' S G ow;obtain⟨xs,h',r⟩:=ow (a,ds) (by simp);refine⟨λd e=>?_,λh=>⟨xs,fJ.of h',by rw[r.length];exact h⟩⟩;obtain⟨x,hx,rx⟩:=r.get e;refine⟨⟨xs,x,fJ.of h',hx⟩,λy H'' zz=>?_⟩;obtain⟨e1,e2⟩:=zz;subst e1;have:=e2 xs (fJ.of h');rw[hx] at this;cases this;exact⟨aM.refl _,rx⟩
theorem G5(hP:P a=aa (.tup xs))(r:Reps K M H1 xs ds):vS K P M H1 (R9 K a) ds []:=by
 intro i H' M' S G _;have h':=S _ _ hP;refine⟨λd e=>?_,λh=>⟨xs,jP.of h',by rw[r.length];exact h⟩⟩;obtain⟨x,hx,rx⟩:=r.get e;refine⟨⟨xs,x,jP.of h',hx⟩,λy H'' zz=>?_⟩;obtain⟨e1,e2⟩:=zz;subst e1;have:=e2 xs (jP.of h');rw[hx] at this;cases this;exact⟨aM.refl _,rx.gen G⟩
theorem G7(hP:Im K P a ns):vS K P M H1 (Np K a) (ns.map .int) []:=by
 intro i H' M' S G _;have h':=(aM.scr S hP).sq;refine⟨λd e=>?_,λh=>⟨_,h',by simpa using h⟩⟩;have r:Reps K M' H' (ns.map V.int) (ns.map .int):=Reps.ints ns;obtain⟨x,hx,rx⟩:=r.get e;refine⟨⟨_,x,h',hx⟩,λy H'' zz=>?_⟩;obtain⟨e1,e2⟩:=zz;subst e1;have:=e2 _ h';rw[hx] at this;cases this;exact⟨aM.refl _,rx⟩
theorem CN(fr:Fr K HZ F σ H ρ)(e:H a=aa o)(m:¬EF (aa o)):¬ ∃d,Sl.own a d∈ρ:=by
 rintro⟨d,c⟩;obtain⟨_,_,_,ow⟩:=fr.at_own c;obtain⟨u,hu,mu⟩:=ow.mut;rw[e] at hu;cases hu;exact m mu
theorem eA(h:QE X l tl):QI X tg l (iF tl):=by
 refine⟨λρ Q Q' w q=>h.mono _ _ _ (λr q=>?_) q,λHZ F=>⟨_,Js (h.run HZ F),λσ H ρ R fr q=>?_⟩⟩
 ·unfold iF at *;split at q<;>first | exact w _ _ q | exact q
 ·refine h.step fr q λr x H1 q S1 r1=>?_;have fr1:=fr.mono S1;split at q
  ·rename_i ds;cases r1 with
   |lst e m rs=>
    exact⟨_,rfl,.inl ⟨⟨_,fJ.of e⟩,q _ H1 S1 (by intro p hp;simp at hp) (wR (by rw[cO λc=>m (.inr c)];exact e) rs)⟩⟩
  ·rename_i ds;obtain⟨a,rfl,n,xs,e,rs⟩:=r1;exact⟨_,rfl,.inl ⟨⟨_,fJ.of e⟩,q _ H1 S1 (by intro p hp;simp at hp) (wR (by rw[cO λc=>fr.fresh n (.inr c)];exact e) (rs.weak λb z=>.inl z))⟩⟩
  ·rename_i a ds;obtain⟨rfl,m,xs,e,rs⟩:=r1;exact⟨_,rfl,.inl ⟨⟨_,fJ.of e⟩,q _ H1 S1 (by intro p hp;simp at hp;subst hp;exact m) G8⟩⟩
  ·rename_i ds;cases r1 with
   |tup e rs=>exact⟨_,rfl,.inr ⟨⟨_,jP.of e⟩,q _ H1 S1 (by intro p hp;simp at hp) (G5 (by rw[cO (CN fr1 e λz=>z)];exact e) rs)⟩⟩
  ·rename_i ns;cases r1 with
   |scr e=>
    refine⟨_,rfl,.inl ⟨⟨_,e.sq⟩,q _ H1 S1 (by intro p hp;simp at hp) (G7 ?_)⟩⟩;rcases e with⟨o,e⟩ | e
    ·exact .inl ⟨o,by rw[cO (CN fr1 e λz=>z)];exact e⟩
    ·exact .inr e
  ·exact q.elim
noncomputable def bW(lo:Int)(n:Nat):List Dv:=(gc n).map λ(k:Nat)=>Dv.int (lo+(k:Int))
theorem BM{d:Dv}(h:(bW lo n)[i]?=aa d):i<n/\d=.int (lo+i):=by
 unfold bW at h;rw[cn] at h;cases e:(gc n)[i]? with
 |none=>rw[e] at h;cases h
 |some k=>
  rw[e] at h;obtain⟨h1,h2⟩:=da.mp e;simp at h1 h2;subst h2;exact⟨h1,(Option.some.inj h).symm⟩
theorem Bo:vS K P M H1 (Oj lo n) (bW lo n) []:=by
 intro i H' M' S G _;refine⟨λd e=>?_,λh=>(show n<=i by simpa [bW] using h)⟩;obtain⟨h1,h2⟩:=BM e;subst h2;refine⟨h1,λy H'' zz=>?_⟩;obtain⟨e1,e2⟩:=zz;subst e1 e2;exact⟨aM.refl _,.int _⟩
noncomputable def gX(ts:lB):C3:=λρ Q=>ts ρ λrs=>match rs.map R.d with
 | [.int j]=>(-(2 ^ 62)<=j/\j<2 ^ 62)/\Q (bW 0 j.toNat) []
 |_=>False
noncomputable def Ce(ts:lB):C3:=λρ Q=>ts ρ λrs=>match rs.map R.d with
 | [.int i,.int j]=>(-(2 ^ 62)<=i/\i<2 ^ 62 /\ -(2 ^ 62)<=j/\j<2 ^ 62)/\Q (bW i (j-i).toNat) []
 |_=>False
theorem eL{d:Dv}(h:xI K M H xs [d]):∃x,xs=[x]/\dL K M H x d:=by
 cases h with
 |cons a t=>cases t;exact⟨_,rfl,a⟩
theorem GW{d d':Dv}(h:xI K M H xs [d,d']):∃x y,xs=[x,y]/\dL K M H x d/\dL K M H y d':=by
 cases h with
 |cons a t=>
  obtain⟨y,rfl,b⟩:=eL t;exact⟨_,_,rfl,a,b⟩
theorem iI{a:Expr}{pos:jw}(hg:Gl X "range")(hm:X.mg "range" = aq)(ha:QA X [a] ts)(hs:autoParam (ay [a] X.env=[(ap,fz a X.env)]) bV._auto_1):QI X tg (.Call (.Name "range" p) [a] [] pos) (gX ts):=by
 refine⟨λρ Q Q' w q=>ha.mono _ _ _ (λr q=>?_) q,λHZ F=>⟨_,DG hg hm (ha.run HZ F) hs,λσ H ρ R fr q=>?_⟩⟩
 ·split at q
  ·exact⟨q.1,w _ _ q.2⟩
  ·exact q
 ·refine ha.step fr q λrs xs H1 q S1 r1=>?_;split at q
  ·rename_i j e;have c:=r1.c;rw[e] at c;obtain⟨x,rfl,cx⟩:=eL c;obtain rfl:=cx.int;exact⟨j,rfl,q.1.1,q.1.2,q.2 _ H1 S1 (by intro p hp;simp at hp) Bo⟩
  ·exact q.elim
end
noncomputable abbrev zE:=Dv->List Sl->(List Sl->Prop)->Prop
structure QG(X:Cx)(tg:Expr)(k:Nat)(g:zE):Prop where
 mono:∀d ρ (Q Q':List Sl->Prop),(∀ρ,Q ρ->Q' ρ)->g d ρ Q->g d ρ Q'
 agree:∀d ρ (Q:List Sl->Prop),g d ρ Q->g d ρ λρ1=>Q ρ1/\ρ1.length=ρ.length /\ ∀j,k<=j->ρ1[j]?=ρ[j]?
 run:∃t,PG X tg t /\ ∀(HZ:Hp) (F:ah->Prop) (v:V) (d:Dv) (σ:St) (H:Hp) (ρ:List Sl) (Q:St->Hp->Prop),Fr X.K HZ F σ H ρ->Rep X.K (MM F ρ) H v d ->
  g d ρ (λρ1=>∀σ1,Fr X.K HZ F σ1 H ρ1->(∀j,k<=j->σ1[j]?=σ[j]?)->Q σ1 H)->t v σ H Q
noncomputable def gN(i:Nat):zE:=λd ρ Q=>Q (ρ.set i (.v d))
noncomputable def lV:List Nat->List Dv->List Sl->List Sl
 |i::is,d::ds,ρ=>lV is ds (ρ.set i (.v d))
 |_,_,ρ=>ρ
noncomputable def gT(is:List Nat):zE:=λd ρ Q=>match d with
 | .tup ds=>ds.length=is.length/\Q (lV is ds ρ)
 |_=>False
noncomputable def Qd:List Nat->JG
 | []=>NS
 |i::is=>JB (Ah i) (Qd is)
theorem tV:∀(is:List Nat) (ds:List Dv) (ρ:List Sl),(lV is ds ρ).length=ρ.length
 | [],_,_=>rfl
 |_::_,[],_=>rfl
 |i::is,d::ds,ρ=>by rw[lV,tV is ds];simp
theorem tW{k:Nat}:∀(is:List Nat) (ds:List Dv) (ρ:List Sl),(∀i∈is,i<k) -> ∀j,k<=j->(lV is ds ρ)[j]?=ρ[j]?
 | [],_,_,_,_,_=>rfl
 |_::_,[],_,_,_,_=>rfl
 |i::is,d::ds,ρ,h,j,hj=>by
  have:=h i (by simp);rw[lV,tW is ds _ (λi hi=>h i (by simp[hi])) j hj,fe ⋯]
section
variable {pos:jw}
theorem iU{k:Nat}{x:bn}(hN:X.N.Nodup)(hi:X.N[i]?=aa x)(hx:Gs X.env.scope x)(hk:autoParam (i<k) kX._auto_1)(hf:autoParam (X.fn x=aj \/ X.env.scope.names.lookup x=aa .local) Gq._auto_1):QG X (.Name x pos) k (gN i):=by
 refine⟨λd ρ Q Q' w q=>w _ q,λd ρ Q q=>⟨q,by simp,λj hj=>by rw[fe ⋯]⟩,_,cE hN hi hx hf,λHZ F v d σ H ρ Q fr r q=>?_⟩;exact q _ (fr.setv r) λj hj=>by rw[fe ⋯]
theorem Cf{K:ak}{HZ:Hp}{F:ah->Prop}{H:Hp}{k:Nat}:∀(is:List Nat) (ds:List Dv) (vs:List V) (σ:St) (ρ:List Sl) (Q:St->Hp->Prop),(∀i∈is,i<k)->ds.length=is.length->Fr K HZ F σ H ρ->Reps K (MM F ρ) H vs ds ->
  (∀σ1,Fr K HZ F σ1 H (lV is ds ρ)->(∀j,k<=j->σ1[j]?=σ[j]?)->Q σ1 H)->Qd is vs σ H Q
 | [],[],_,σ,ρ,Q,_,_,fr,.nil,q=>⟨rfl,q σ fr λ_ _=>rfl⟩
 |i::is,d::ds,_,σ,ρ,Q,hk,hl,fr,.cons (x:=x) a r,q=>by
  refine⟨x,_,rfl,?_⟩;have wk:∀b,MM F (ρ.set i (.v d)) b->MM F ρ b:=λb h=>by
   rcases MM.set b h with h | ⟨_,h⟩
   ·exact h
   ·cases h
  refine Cf is ds _ _ (ρ.set i (.v d)) Q (λi hi=>hk i (by simp[hi])) (by simpa using hl) (fr.setv a) (r.weak wk) λσ1 f1 e1=>q σ1 f1 λj hj=>?_;have:=hk i (by simp);rw[e1 j hj,fe ⋯]
theorem xT{x1 k:Nat}{is:List Nat}(hc:X.calm=aj)(h:No X es (Qd is))(hk:autoParam (∀i∈is,i<k) kX._auto_1)(hl:autoParam (is.length=n) bV._auto_1)
  (hn:autoParam ((pi es X.env).length=n) bV._auto_1) (hst:autoParam ((pi es X.env).findIdx? (·.1)=aq) bV._auto_1):QG X (.Tuple es x1 pos) k (gT is):=by
 refine⟨λd ρ Q Q' w q=>?_,λd ρ Q q=>?_,_,Jt hc h hn hst,λHZ F v d σ H ρ Q fr r q=>?_⟩
 ·unfold gT at *;split at q
  ·exact⟨q.1,w _ q.2⟩
  ·exact q
 ·unfold gT at *;split at q
  ·exact⟨q.1,q.2,tV _ _ _,tW _ _ _ hk⟩
  ·exact q
 ·unfold gT at q;split at q
  ·cases r with
   |tup e rs=>exact⟨_,_,rfl,jP.of e,by rw[rs.length,q.1,hl],Cf is _ _ σ ρ Q hk q.1 fr rs q.2⟩
  ·exact q.elim
end
noncomputable def bO(g:zE)(tb:cI)(ogs:List (ah×List Dv)):List Dv->cI
 | []=>λE ρ=>guard ogs ρ/\E.nx ρ
 |d::r=>λE ρ=>guard ogs ρ/\g d ρ λρ1=>tb { E with nx:=bO g tb ogs r E,ct:=bO g tb ogs r E,bk:=E.nx } ρ1
noncomputable def lA(ti:C3)(g:zE)(tb:cI):cI:=λE ρ=>ti ρ λds ogs=>bO g tb ogs ds E ρ
section
variable {iter c:Expr}{ti:C3}{g:zE}{tb:cI}{Wv:List jl}{pos:jw}{k:Nat}
theorem oR(mg:∀d ρ (Q Q':List Sl->Prop),(∀ρ,Q ρ->Q' ρ)->g d ρ Q->g d ρ Q')(mb:∀E E' ρ,EnLe E E'->tb E ρ->tb E' ρ)(ogs:List (ah×List Dv)):∀(ds:List Dv) (E E':En) (ρ:List Sl),EnLe E E'->bO g tb ogs ds E ρ->bO g tb ogs ds E' ρ
 | [],E,E',ρ,w,h=>⟨h.1,w.nx _ h.2⟩
 |d::r,E,E',ρ,w,h=>by
  have w2:EnLe { E with nx:=bO g tb ogs r E,ct:=bO g tb ogs r E,bk:=E.nx } { E' with nx:=bO g tb ogs r E',ct:=bO g tb ogs r E',bk:=E'.nx }:=
   ⟨λρ h=>oR mg mb ogs r E E' ρ w h,w.rt,w.nx,λρ h=>oR mg mb ogs r E E' ρ w h⟩
  exact⟨h.1,mg _ _ _ _ (λρ1 h=>mb _ _ _ w2 h) h.2⟩
theorem dM(ogs:List (ah×List Dv))(E:En)(ρ:List Sl):bO g tb ogs [] E ρ=(guard ogs ρ/\E.nx ρ):=rfl
theorem cP(ogs:List (ah×List Dv))(d:Dv)(r:List Dv)(E:En)(ρ:List Sl):bO g tb ogs (d::r) E ρ=(guard ogs ρ/\g d ρ λρ1=>tb { E with nx:=bO g tb ogs r E,ct:=bO g tb ogs r E,bk:=E.nx } ρ1):=rfl
theorem Ai{ogs:List (ah×List Dv)}:∀{ds:List Dv},bO g tb ogs ds E ρ->guard ogs ρ
 | [],h=>by rw[dM] at h;exact h.1
 |_::_,h=>by rw[cP] at h;exact h.1
theorem iV(hp:TX (bu X.prog X.w) X.A X.env X.xe)(hc:X.N=X.N)(hi:QI X tg iter ti)(hg:QG X tg k g)(hb:QSs X Wv tb)(hs:autoParam (∀x,ic iter X.env x=io x) Gp._auto_1):QS X (.For tg iter Wv [] pos) (lA ti g tb):=by
 refine⟨λE E' ρ w h=>hi.mono _ _ _ (λds ogs h=>oR hg.mono hb.mono ogs ds E E' ρ w h) h,λHZ F=>?_⟩;obtain⟨wi,hwi,wiq⟩:=hi.run HZ F;obtain⟨tt,htt,ttq⟩:=hg.run;have hb':tG X Wv (λD σ H=>∃P,liftS X.K P F tb D σ H):=λpj s σ H D I zq5=>by obtain⟨P,q⟩:=zq5;exact hb.run P F pj s σ H D I q
 refine eM (Jo hp hc hwi htt hb' hs) λD σ H zz=>?_;obtain⟨ρ,E,fr,h,en⟩:=zz;refine wiq σ H ρ _ fr (hi.mono _ _ _ (λds ogs q J H2 S2 _ ok=>?_) h);have fr2:=fr.mono S2;have en2:Ent X.K (prot H2 ρ) F E D:=en.prot fr2;refine⟨λi m σ' H'=>m=ds.length-i/\i<=ds.length /\ ∃ρ',Fr X.K (prot H2 ρ) F σ' H' ρ'/\bO g tb ogs (ds.drop i) E ρ',⟨ds.length,by simp,lj _,ρ,fr2.prot,by simpa using q⟩,?_⟩;rintro i m σ' H' ⟨rfl,hil,ρ',fr',q'⟩;have gd:guard ogs ρ':=Ai q';have Gn:=fr2.gen fr';have oks:=ok i H' (MM F ρ') fr'.same Gn λp hp=>let ⟨_,_,_,h⟩:=fr'.at_own (gd p hp);h;by_cases hlt:i<ds.length
 ·have hd:ds[i]?=aa ds[i]:=by simp[hlt]
  have hdr:ds.drop i=ds[i]::ds.drop (i+1):=gr hlt;rw[hdr,cP] at q';obtain⟨go,yld⟩:=oks.1 _ hd;refine .inr ⟨go,λσ2 H2'=>∃ρ2,Fr X.K (prot H2 ρ) F σ2 H2' ρ2/\bO g tb ogs (ds.drop (i+1)) E ρ2,λσ2 H2' zq6=>by obtain⟨ρ2,f2',q2⟩:=zq6;exact⟨ds.length-(i+1),⋯,rfl,hlt,ρ2,f2',q2⟩,λy H3 hy=>?_⟩;obtain⟨S3,ry⟩:=yld y H3 hy;refine ttq _ F y _ σ' H3 ρ' _ (fr'.mono S3) ry (hg.mono _ _ _ _ (λρ1 q1 σ1 f1 _=>?_) q'.2);exact⟨_,ρ1,_,f1,q1,λρ3 σ3 H3' f3 q3=>⟨ρ3,f3,q3⟩,en2.nx,λρ3 σ3 H3' f3 q3=>⟨ρ3,f3,q3⟩,en2.rt⟩
 ·have e:i=ds.length:=⋯;subst e;rw[uw,dM] at q';exact .inl ⟨oks.2 (bj _),en2.nx _ _ _ fr' q'.2⟩
end
end Z
variable {Q:Z.R->Prop}{te:Z.dE}{ds:List Z.Dv}{ρ:List Z.Sl}
namespace Z
open L2
noncomputable def BI(tc:l6)(tb:cI):cI:=λE ρ=>∃I:Nat->List Sl->Prop,(∃m,I m ρ) /\ ∀m ρ,I m ρ->tc ρ λb=>
 if b=aj then tb { E with nx:=λρ'=>∃m',m'<m/\I m' ρ',ct:=λρ'=>∃m',m'<m/\I m' ρ',bk:=E.nx } ρ else E.nx ρ
variable {js:List Nat}{σ:St}{j:Nat}{elt iter:Expr}{ti:C3}{ts:lB}
section
variable {c:Expr}{g:zE}{tb:cI}{Wv:List jl}{pos:jw}{k:Nat}{tc:l6}
theorem CG(hp:TX (bu X.prog X.w) X.A X.env X.xe)(hc:QT X c tc)(hb:QSs X Wv tb):QS X (.While c Wv [] pos) (BI tc tb):=by
 refine⟨λE E' ρ w h=>?_,λHZ F=>eM (F2 hp (hc.run HZ F) (hb.run HZ F)) λD σ H ⟨ρ,E,fr,h,en⟩=>?_⟩
 ·obtain⟨I,i0,step⟩:=h;refine⟨I,i0,λm ρ hI=>hc.mono _ _ _ (λb q=>?_) (step m ρ hI)⟩;have w2:EnLe { E with nx:=λρ'=>∃m',m'<m/\I m' ρ',ct:=λρ'=>∃m',m'<m/\I m' ρ',bk:=E.nx } { E' with nx:=λρ'=>∃m',m'<m/\I m' ρ',ct:=λρ'=>∃m',m'<m/\I m' ρ',bk:=E'.nx }:=
   ⟨λ_ h=>h,w.rt,w.nx,λ_ h=>h⟩
  split at q
  ·rw[Wj ‹_›];exact hb.mono _ _ _ w2 q
  ·rw[VT ‹_›];exact w.nx _ q
 ·obtain⟨I,⟨m0,i0⟩,step⟩:=h;refine⟨λm σ H=>∃ρ,Fr X.K HZ F σ H ρ/\I m ρ,⟨m0,ρ,fr,i0⟩,?_⟩;rintro m σ H ⟨ρ,fr,hI⟩;refine hc.step fr (step m ρ hI) λb H1 q S1=>?_;cases b with
  |true=>
   simp only[if_true] at q;refine rM ⟨λσ' H'=>∃m',m'<m /\ ∃ρ',Fr X.K HZ F σ' H' ρ'/\I m' ρ',λσ' H' zq0=>by obtain⟨m',l,h⟩:=zq0;exact⟨m',l,h⟩,ρ,_,fr.mono S1,q,?_,en.nx,?_,en.rt⟩
   ·rintro ρ' σ' H' fr' ⟨m',l,h⟩;exact⟨m',l,ρ',fr',h⟩
   ·rintro ρ' σ' H' fr' ⟨m',l,h⟩;exact⟨m',l,ρ',fr',h⟩
  |false=>exact rN (en.nx _ _ _ (fr.mono S1) (by simpa using q))
noncomputable def eN(js:List Nat)(ρ:List Sl):List Sl:=js.map λj=>(ρ[j]?).getD .un
noncomputable def d9(ρ0:List Sl)(g:zE)(tt:l6)(te:dE):List Dv->List Dv->(R->Prop)->Prop
 | [],acc,Q=>Q (.nw (.lst acc))
 |d::r,acc,Q=>g d ρ0 λρ1=>tt ρ1 λb=>if b=aj then te ρ1 λv=>(v.free=aj/\acc.length<zM)/\d9 ρ0 g tt te r (acc++[v.d]) Q else d9 ρ0 g tt te r acc Q
noncomputable def fF(k:Nat)(js:List Nat)(ti:C3)(g:zE)(tt:l6)(te:dE):dE:=λρ Q=>ti ρ λds _=>d9 (av k .un++eN js ρ) g tt te ds [] Q
structure QTs(X:Cx)(ifs:List Expr)(t:l6):Prop where
 mono:∀(ρ:List Sl) (Q Q':Bool->Prop),(∀r,Q r->Q' r)->t ρ Q->t ρ Q'
 run:∀(HZ:Hp) (F:ah->Prop),LW X ifs (liftT X.K HZ F t)
noncomputable def fY:l6:=λ_ Q=>Q aj
theorem iA:QTs X [] fY:=⟨λ_ _ _ w q=>w _ q,λHZ F pj s σ H Q I zq1=>by obtain⟨ρ,fr,q⟩:=zq1;exact HR pj s σ H Q I (q H (aM.refl _))⟩
theorem pR{t:l6}(h:QT X c t):QTs X [c] t:=⟨h.mono,λHZ F=>HQ (h.run HZ F)⟩
theorem jS{s:Sl}(h:(eN js ρ)[i]?=aa s)(hs:s ≠ .un):∃j,js[i]?=aa j/\ρ[j]?=aa s:=by
 unfold eN at h;rw[cn] at h;cases e:js[i]? with
 |none=>rw[e] at h;cases h
 |some j=>
  rw[e] at h;refine⟨j,rfl,?_⟩;have h':(ρ[j]?).getD .un=s:=Option.some.inj h;cases q:ρ[j]? with
  |none=>rw[q] at h';exact absurd h'.symm hs
  |some o=>rw[q] at h';exact congrArg aa h'
theorem CJ{x:V}(hj:js[i]?=aa j)(h:σ[j]?=aa (aa x)):(pick js σ)[i]?=aa (aa x):=by
 unfold pick;rw[cn,hj,map_some,h];rfl
theorem jD{ρ0:List Sl}{tt:l6}(mg:∀d ρ (Q Q':List Sl->Prop),(∀ρ,Q ρ->Q' ρ)->g d ρ Q->g d ρ Q')(mt:∀(ρ:List Sl) (Q Q':Bool->Prop),(∀r,Q r->Q' r)->tt ρ Q->tt ρ Q')(me:∀(ρ:List Sl) (Q Q':R->Prop),(∀r,Q r->Q' r)->te ρ Q->te ρ Q'):
  ∀(ds acc:List Dv) (Q Q':R->Prop),(∀r,Q r->Q' r)->d9 ρ0 g tt te ds acc Q->d9 ρ0 g tt te ds acc Q'
 | [],acc,Q,Q',w,h=>w _ h
 |d::r,acc,Q,Q',w,h=>by
  refine mg _ _ _ _ (λρ1 h=>mt _ _ _ (λb h=>?_) h) h;split at h
  ·rw[Wj ‹_›];exact me _ _ _ (λv h=>⟨h.1,jD mg mt me r _ Q Q' w h.2⟩) h
  ·rw[VT ‹_›];exact jD mg mt me r _ Q Q' w h
theorem DU{l:List Nat}(hN:l.Nodup){x:Nat}(a:l[i]?=aa x)(b:l[j]?=aa x):i=j:=by
 obtain⟨h1,e1⟩:=da.mp a;obtain⟨h2,e2⟩:=da.mp b;have P:=cq.mp hN;rcases TB i j with h | h | h
 ·exact absurd (e1.trans e2.symm) (P i j h1 h2 h)
 ·exact h
 ·exact absurd (e2.trans e1.symm) (P j i h2 h1 h)
theorem Fr.block{H2:Hp}{k:Nat}{D:ah}{old:St}(fr:Fr K HZ F σ H ρ)(S:aM H H2)(hD:H D=aq)(hD2:H2 D≠aq)(nd:js.Nodup)(lo:old.length=k):
  ∃(P:Hp) (F':ah->Prop),Fr K P F' (old++pick js σ) H2 (av k .un++eN js ρ)/\(∀a,MM F' (av k .un++eN js ρ) a ↔ MM F ρ a \/ a=D)/\(∀a,F' a ↔ (MM F ρ a \/ a=D) /\ ¬ ∃d,Sl.own a d∈eN js ρ):=by
 have mem:∀{a:ah} {d:Dv},Sl.own a d∈av k Sl.un++eN js ρ->Sl.own a d∈eN js ρ:=λh=>by
  rcases gf.mp h with h | h
  ·cases eh h
  ·exact h
 have sub:∀{a:ah} {d:Dv},Sl.own a d∈eN js ρ->Sl.own a d∈ρ:=λh=>by
  obtain⟨i,e⟩:=ui.mp h;obtain⟨j,_,e2⟩:=jS e (by intro z;cases z);exact eg e2
 refine⟨Z.prot H2 (eN js ρ),λa=>(MM F ρ a \/ a=D) /\ ¬ ∃d,Sl.own a d∈eN js ρ,?_,λa=>⟨λh=>?_,λh=>?_⟩,λa=>Iff.rfl⟩
 ·have iff:∀a,MM (λa=>(MM F ρ a \/ a=D) /\ ¬ ∃d,Sl.own a d∈eN js ρ) (av k .un++eN js ρ) a->MM F ρ a \/ a=D:=λa h=>by
   rcases h with h | ⟨d,h⟩
   ·exact h.1
   ·exact .inl (.inr ⟨d,sub (mem h)⟩)
  have G:Gen K (MM F ρ) (MM (λa=>(MM F ρ a \/ a=D) /\ ¬ ∃d,Sl.own a d∈eN js ρ) (av k .un++eN js ρ)) H H2:=((Gen.fresh hD).trans (.mono S)).trans (.weak iff);refine⟨by simp[pick,eN,lo],λi s e=>?_,λi j a d d' e1 e2=>?_,λa d h=>u8 (mem h),λb o h=>mY h,λa h=>?_,λPt q z=>?_⟩
  ·by_cases hi:i<k
   ·rw[bo (by simpa using hi),iz,Wj hi] at e;cases e;trivial
   ·rw[bg (by simpa using nr hi),qc] at e;rw[bg (by rw[lo];exact nr hi),lo];cases s with
    |un=>trivial
    |v d=>
     obtain⟨j,hj,e2⟩:=jS e (by intro z;cases z);obtain⟨x,hx,r⟩:=fr.sl j _ e2;exact⟨x,CJ hj hx,r.gen G⟩
    |own a d=>
     obtain⟨j,hj,e2⟩:=jS e (by intro z;cases z);obtain⟨hx,r⟩:=fr.sl j _ e2;exact⟨CJ hj hx,r.gen G λo e=>S _ _ e⟩
  ·have ge:∀{i:Nat} {d:Dv},(av k Sl.un++eN js ρ)[i]?=aa (.own a d)->k<=i/\(eN js ρ)[i-k]?=aa (.own a d):=λ{i d} e=>by
    by_cases hi:i<k
    ·rw[bo (by simpa using hi),iz,Wj hi] at e;cases e
    ·rw[bg (by simpa using nr hi),qc] at e;exact⟨nr hi,e⟩
   obtain⟨k1,e1⟩:=ge e1;obtain⟨k2,e2⟩:=ge e2;obtain⟨j1,hj1,e1⟩:=jS e1 (by intro z;cases z);obtain⟨j2,hj2,e2⟩:=jS e2 (by intro z;cases z);have:=fr.nd j1 j2 a d d' e1 e2;subst this;have:=DU nd hj1 hj2;right
  ·rw[cO h.2];rcases h.1 with m | m
   ·intro z;exact fr.dom m (S.free z)
   ·rw[m];exact hD2
  ·have e:=fr.old.t Pt q z;rw[cO ?_]
   ·exact S _ _ (fr.same _ _ e)
   ·rintro⟨d,c⟩;rw[fr.new Pt d (sub c)] at e;cases e
 ·rcases h with h | ⟨d,h⟩
  ·exact h.1
  ·exact .inl (.inr ⟨d,sub (mem h)⟩)
 ·by_cases c:∃d,Sl.own a d∈eN js ρ
  ·obtain⟨d,c⟩:=c;exact .inr ⟨d,fj _ c⟩
  ·exact .inl ⟨h,c⟩
end
inductive liftG(K:ak)(k:Nat)(g:zE)(v:V)(σ:St)(H:Hp)(Q:St->Hp->Prop):Prop
 |mk (d:Dv) (HZ:Hp) (F:ah->Prop) (ρ:List Sl) (fr:Fr K HZ F σ H ρ) (r:Rep K (MM F ρ) H v d) (h:g d ρ (λρ1=>∀σ1,Fr K HZ F σ1 H ρ1->(∀j,k<=j->σ1[j]?=σ[j]?)->Q σ1 H))
theorem QG.pg{k:Nat}{g:zE}(h:QG X tg k g):PG X tg (liftG X.K k g):=by
 obtain⟨t,ht,tq⟩:=h.run;intro pj s σ H v u Q I r ⟨d,HZ,F,ρ,fr,rv,q⟩;exact ht pj s σ H v u Q I r (tq HZ F v d σ H ρ Q fr rv q)
theorem QE.pe(h:QE X e te):PE X e (λσ H Q=>∃HZ F,lift X.K HZ F te σ H Q):=λpj s σ H Q I zq2=>by obtain⟨HZ,F,q⟩:=zq2;exact h.run HZ F pj s σ H Q I q
variable {tt:l6}
theorem QTs.pt(h:QTs X ifs tt):LW X ifs (λσ H Q=>∃HZ F,liftT X.K HZ F tt σ H Q):=λpj s σ H Q I zq3=>by obtain⟨HZ,F,q⟩:=zq3;exact h.run HZ F pj s σ H Q I q
theorem zY{l a b:List α}{k:Nat}(ha:a.length=k)(hl:l.length=k+b.length)(h:∀j,k<=j->l[j]?=(a++b)[j]?):l=l.take k++b:=by
 refine qd λj=>?_;by_cases hj:j<k
 ·rw[bo (by rw[fw];right),ik hj]
 ·rw[h j ⋯,bg ⋯,bg (by rw[fw];right),ha,fw,nj ⋯]
section
variable {pos:jw}
theorem Jg{tgt:Expr}{cl:List (bn×ah)}{tgs ns:List bn}{k:Nat}{g:zE}(hc:X.N=X.N)(hk:tgs.length=k)
  (hi:QI X tgt iter ti) (hg:∀(fp:List ah) (s:ai) (H:Hp),QG (p8 X Wk cl fp (tgs++ns) s H) tgt k g) (ht:∀(fp:List ah) (s:ai) (H:Hp),QTs (p8 X Wk cl fp (tgs++ns) s H) ifs tt)
  (he:∀(fp:List ah) (s:ai) (H:Hp),QE (p8 X Wk cl fp (tgs++ns) s H) elt te)
  (WD:uh Wk X.env=io cl) (Wx:∀x c,cl.lookup x=aa c->X.env.cells.lookup x=aa c)
  (WI:∀x,((gw Wk X.env).names.lookup x=aa .cell \/ (gw Wk X.env).names.lookup x=aa .free) -> ∃c,cl.lookup x=aa c)
  (hjs:js.map (λj=>X.N[j]?)=ns.map aa) (hin:∀y∈ns,(gw Wk X.env).names.lookup y=aa .cell \/ (gw Wk X.env).names.lookup y=aa .free)
  (WE:∀y∈ns,X.env.kindOf y=aa .cell \/ X.env.kindOf y=aa .free) (nd:js.Nodup)
  (Wp:autoParam (∀y∈Wk.names,y.2 ≠ .cell) C8._auto_1) (Ws:autoParam (Wk.kind=.function) bV._auto_1)
  (Wq:autoParam (∀y∈Wk.names,y.2=.local->Wk.names.lookup y.1=aa .local) C8._auto_1)
  (hs:autoParam (∀z,ic iter X.env z=io z) Gp._auto_1):
  QE X (.ListComp elt [⟨tgt,iter,ifs,0⟩] Wk pos) (fF k js ti g tt te):=by
 have mg:=(hg [] X.s₀ λ_=>aq).mono;have ag:=(hg [] X.s₀ λ_=>aq).agree;have mt:=(ht [] X.s₀ λ_=>aq).mono;have me:=(he [] X.s₀ λ_=>aq).mono;refine⟨λρ Q Q' w h=>hi.mono _ _ _ (λds ogs h=>jD mg mt me ds [] Q Q' w h) h,λHZ F=>?_⟩;obtain⟨wi,hwi,wiq⟩:=hi.run HZ F;refine d6 (FC (tgs:=tgs) (ns:=ns) (js:=js) (g:=liftG X.K k g) (tt:=λσ H Q=>∃HZ F,liftT X.K HZ F tt σ H Q) (te:=λσ H Q=>∃HZ F,lift X.K HZ F te σ H Q) hc hwi (λfp s H=>(hg fp s H).pg) (λfp s H=>(ht fp s H).pt) (λfp s H=>(he fp s H).pe) WD Wx WI hjs hin WE Wp Ws Wq hs) λσ H Q zz=>?_;obtain⟨ρ,fr,h⟩:=zz;subst hk;refine wiq σ H ρ _ fr (hi.mono _ _ _ (λds ogs q J H1 S1 gd ok=>?_) h);intro D hD;have fr1:=fr.mono S1;refine⟨λi m acc H2=>m=ds.length-i/\i<=ds.length/\aM H1 H2 /\ ∃accD,Reps X.K (λa=>MM F ρ a \/ a=D) H2 acc accD /\
  d9 (av tgs.length .un++eN js ρ) g tt te (ds.drop i) accD (λr=>∀x H',aM H H'->dX X.K (MM F ρ) (zK ρ) H x r H'->Q x H'),
  ⟨ds.length,by simp,lj _,aM.new' hD,[],.nil,by simpa using q⟩,?_⟩
 rintro i m acc H2 ⟨rfl,hil,S2,accD,ra,q⟩ hDl;have G2:Gen X.K (MM F ρ) (λa=>MM F ρ a \/ a=D) H1 H2:=(Gen.fresh hD).trans (.mono S2);have oks:=ok i H2 (λa=>MM F ρ a \/ a=D) (λb o e=>S2 _ _ (mY e)) G2 λp hp=>by
  obtain⟨_,_,_,ow⟩:=fr1.at_own (gd p hp);exact ow.gen G2 λo e=>S2 _ _ e
 by_cases hlt:i<ds.length
 ·have hd:ds[i]?=aa ds[i]:=by simp[hlt]
  rw[gr hlt] at q;obtain⟨go,yld⟩:=oks.1 _ hd;refine .inr ⟨go,λy H3 hy old lo=>?_⟩;obtain⟨S3,ry⟩:=yld y H3 hy;have hD3:=S3 _ _ hDl;obtain⟨P,F',fr',iff,iffF⟩:=fr1.block (js:=js) (old:=old) (S2.trans S3) hD (by rw[hD3];simp) nd lo;refine⟨_,P,F',_,fr',ry.weak λa z=>(iff a).mp z,mg _ _ _ _ (λρ1 q1 σ1 f1 a1=>?_) (ag _ _ _ q)⟩;obtain⟨q1,l1,b1⟩:=q1;have up:∀a,MM F ρ a \/ a=D->MM F' ρ1 a:=λa z=>by
   rcases(iff a).mpr z with z | ⟨d,z⟩
   ·exact .inl z
   ·refine .inr ⟨d,?_⟩;obtain⟨j,e⟩:=ui.mp z;have hj:tgs.length<=j:=by
     by_cases hj:j<tgs.length
     ·rw[bo (by simpa using hj),iz,Wj hj] at e;cases e
     ·right
    rw[<- b1 j hj] at e;exact eg e
  have hlen:σ1.length=tgs.length+(pick js σ).length:=by
   have:=f1.len;rw[l1] at this;simp[pick,eN] at this ⊢;right
  refine⟨⟨σ1.take tgs.length,by rw[fw];right,zY lo hlen a1⟩,P,F',ρ1,f1,mt _ _ _ (λb q5 H5 S5=>?_) q1⟩;have S25:=(S2.trans S3).trans S5;cases b with
  |true=>
   simp only[if_true] at q5;refine rM ⟨P,F',ρ1,f1.mono S5,me _ _ _ (λr q6 x H6 S6 rx=>?_) q5⟩;have hD6:=S6 _ _ (S5 _ _ hD3);obtain⟨⟨rf,rl⟩,q6⟩:=q6;have rep:=(rx.rep (λa z=>(f1.mono S5).dom z) rf).weak up;refine⟨hD6,by rw[ra.length];exact yE rl,ds.length-(i+1),⋯,rfl,hlt,λb o e=>?_,_,?_,q6⟩
   ·rw[b9 (bF e hD)];exact S6 _ _ (S25 _ _ e)
   ·have G6:Gen X.K (λa=>MM F ρ a \/ a=D) (λa=>MM F ρ a \/ a=D) H6 (upd H6 D (.lst (acc++[x]))):=Gen.write (.inr rfl) (by rw[hD6];trivial);exact((ra.mono ((S3.trans S5).trans S6)).append (.cons rep .nil)).gen G6
  |false=>
   simp only[gg,if_false] at q5;exact rN ⟨S5 _ _ hD3,ds.length-(i+1),⋯,rfl,hlt,S25,accD,ra.mono (S3.trans S5),q5⟩
 ·have e:i=ds.length:=⋯;subst e;rw[uw] at q;exact .inl ⟨oks.2 (bj _),q (.ref D) H2 (S1.trans S2) ⟨D,rfl,S1.free hD,acc,hDl,ra⟩⟩
end
noncomputable def l8(X:Cx)(f:af)(p:List Dv->(R->Prop)->Prop):Prop:=
 (∀ds (Q Q':R->Prop),(∀r,Q r->Q' r)->p ds Q->p ds Q') /\ ∃r:List V->Hp->VK->Prop,eP X f r /\ ∀(M:ah->Prop) (O:ah->Dv->Prop) (H:Hp) (xs:List V) (ds:List Dv) (Q:VK),xI X.K M H xs ds ->
  p ds (λrr=>∀z H',aM H H'->dX X.K M O H z rr H'->Q z H')->r xs H Q
noncomputable def gE(p:List Dv->(R->Prop)->Prop)(ts:lB):dE:=λρ Q=>ts ρ λrs=>p (rs.map R.d) Q
variable {T:String}
section
variable {pos:jw}{x:bn}{id:String}{pp:List Dv->(R->Prop)->Prop}
theorem Cm{r:List V->Hp->VK->Prop}(ha:QA X es ts)(mo:∀ds (Q Q':R->Prop),(∀r,Q r->Q' r)->pp ds Q->pp ds Q')
  (hr:∀(M:ah->Prop) (O:ah->Dv->Prop) (H:Hp) (xs:List V) (ds:List Dv) (Q:VK),xI X.K M H xs ds->pp ds (λrr=>∀z H',aM H H'->dX X.K M O H z rr H'->Q z H')->r xs H Q)
  (HZ:Hp) (F:ah->Prop) (σ:St) (H:Hp) (Q:VK) (h:lift X.K HZ F (gE pp ts) σ H Q):PC r (liftA X.K HZ F ts) σ H Q:=by
 obtain⟨ρ,fr,h⟩:=h;refine ha.step fr h λrs xs H1 q S1 r1=>?_;exact hr (MM F ρ) (zK ρ) H1 xs _ Q r1.c (mo _ _ _ (λrr k z H' S rz=>k z H' (S1.trans S) (rz.ahead S1)) q)
theorem bA(hc:l8 X (.builtin id) pp)(hg:Gl X x)(hm:X.mg x=aq)(hv:ly x=aa (.builtin id))(ha:QA X (e::es) ts)(hn:autoParam (x ≠ "__name__") kX._auto_1)(hdb:autoParam ((x==("__debug__" : bn))=ap) kX._auto_1)
  (he:autoParam (ay (e::es) X.env=(ap,fz e X.env)::ay es X.env) bV._auto_1) (hpl:autoParam ((jd pos (ay es X.env)).any (·.1)=ap) bV._auto_1):QE X (.Call (.Name x p) (e::es) [] pos) (gE pp ts):=by
 obtain⟨mo,r,hR,hr⟩:=hc;exact⟨λρ Q Q' w q=>ha.mono _ _ _ (λrs q=>mo _ _ _ w q) q,λHZ F=>d6 (pZ hR hg hm hv (ha.run HZ F) hn hdb he hpl) (Cm ha mo hr HZ F)⟩
theorem gB(hc:l8 X (.type T) pp)(hg:Gl X x)(hm:X.mg x=aq)(hv:ly x=aa (.type T))(ha:QA X (e::es) ts)(hn:autoParam (x ≠ "__name__") kX._auto_1)(hdb:autoParam ((x==("__debug__" : bn))=ap) kX._auto_1)
  (he:autoParam (ay (e::es) X.env=(ap,fz e X.env)::ay es X.env) bV._auto_1) (hpl:autoParam ((jd pos (ay es X.env)).any (·.1)=ap) bV._auto_1):QE X (.Call (.Name x p) (e::es) [] pos) (gE pp ts):=by
 obtain⟨mo,r,hR,hr⟩:=hc;exact⟨λρ Q Q' w q=>ha.mono _ _ _ (λrs q=>mo _ _ _ w q) q,λHZ F=>d6 (rE hR hg hm hv (ha.run HZ F) hn hdb he hpl) (Cm ha mo hr HZ F)⟩
noncomputable def gD:List Dv->(R->Prop)->Prop
 | [.lst xs],Q=>Q (.v (.int xs.length))
 | [.tup xs],Q=>Q (.v (.int xs.length))
 | [.scr ns],Q=>Q (.v (.int ns.length))
 | [.str y],Q=>y.length<=zM/\Q (.v (.int y.length))
 | [.dik kvs],Q=>Q (.v (.int kvs.length))
 |_,_=>False
theorem RepK.length{K:ak}{M:ah->Prop}{H:Hp}{xs:List (bU×V)}{ds:List (bU×Dv)}(r:RepK K M H xs ds):xs.length=ds.length:=r.ind (P:=λxs ds=>xs.length=ds.length) rfl λ_ _ _ _ _ _ _ ih=>congrArg (· + 1) ih
theorem eU:l8 X (.builtin "len") gD:=by
 refine⟨λds Q Q' w h=>?_,_,z9.or (z8.or EB),λM O H xs ds Q c h=>?_⟩
 ·unfold gD at *;split at h<;>first | exact w _ h | exact⟨h.1,w _ h.2⟩ | exact h
 ·unfold gD at h;split at h
  ·obtain⟨x,rfl,cx⟩:=eL c;obtain⟨a,ys,rfl,ea,ra⟩:=cx.lst;refine .inl ⟨a,ys,rfl,.inl (fJ.of ea),?_⟩;rw[ra.length];exact h _ H (aM.refl _) (Rep.int _)
  ·obtain⟨x,rfl,cx⟩:=eL c;obtain⟨a,ys,rfl,ea,ra⟩:=cx.tup;refine .inl ⟨a,ys,rfl,.inr (jP.of ea),?_⟩;rw[ra.length];exact h _ H (aM.refl _) (Rep.int _)
  ·obtain⟨x,rfl,cx⟩:=eL c;obtain⟨a,rfl,ea⟩:=cx.scr;refine .inl ⟨a,_,rfl,.inl ea.sq,?_⟩;rw[bv];exact h _ H (aM.refl _) (Rep.int _)
  ·obtain⟨x,rfl,cx⟩:=eL c;obtain rfl:=cx.str;exact .inr (.inl ⟨_,rfl,hC h.1,h.2 _ H (aM.refl _) (Rep.int _)⟩)
  ·obtain⟨x,rfl,cx⟩:=eL c;obtain⟨a,ys,rfl,ea,ra⟩:=cx.dik;refine .inr (.inr ⟨a,ys,rfl,ea,?_⟩);rw[ra.length];exact h _ H (aM.refl _) (Rep.int _)
  ·exact h.elim
noncomputable def vF:List Dv->(R->Prop)->Prop
 | [.int i],Q=>Q (.v (.int (if i<0 then -i else i)))
 |_,_=>False
theorem rY:l8 X (.builtin "abs") vF:=by
 refine⟨λds Q Q' w h=>?_,_,Gc,λM O H xs ds Q c h=>?_⟩
 ·unfold vF at *;split at h<;>first | exact w _ h | exact h
 ·unfold vF at h;split at h
  ·obtain⟨x,rfl,cx⟩:=eL c;obtain rfl:=cx.int;exact⟨_,rfl,h _ H (aM.refl _) (Rep.int _)⟩
  ·exact h.elim
noncomputable def uD:List Dv->(R->Prop)->Prop
 | [.int i,.int j],Q=>Q (.v (.int (if j<i then j else i)))
 |_,_=>False
noncomputable def Mq:List Dv->(R->Prop)->Prop
 | [.int i,.int j],Q=>Q (.v (.int (if j > i then j else i)))
 |_,_=>False
theorem Cq(hc:X.calm=aj):l8 X (.builtin "min") uD:=by
 refine⟨λds Q Q' w h=>?_,_,EA hc,λM O H xs ds Q c h=>?_⟩
 ·unfold uD at *;split at h<;>first | exact w _ h | exact h
 ·unfold uD at h;split at h
  ·obtain⟨x,y,rfl,cx,cy⟩:=GW c;obtain rfl:=cx.int;obtain rfl:=cy.int;exact⟨_,_,rfl,h _ H (aM.refl _) (Rep.int _)⟩
  ·exact h.elim
noncomputable def Ba:List Dv->(R->Prop)->Prop
 | [.lst ds],Q=>∃ns:List Int,ds=ns.map .int/\Q (.v (.int ns.sum))
 |_,_=>False
noncomputable def DP:List Dv->(R->Prop)->Prop
 | [.lst ds],Q=>∃bs:List Bool,ds=bs.map .bl/\Q (.v (.bl (bs.all _root_.id)))
 |_,_=>False
theorem Reps.of_ints{K:ak}{M:ah->Prop}{H:Hp}:∀{xs:List V} {ns:List Int},Reps K M H xs (ns.map .int)->xs=ns.map V.int
 |_,[],.nil=>rfl
 |_,n::r,.cons a t=>by cases a;rw[Reps.of_ints t];rfl
theorem Reps.of_bls{K:ak}{M:ah->Prop}{H:Hp}:∀{xs:List V} {ns:List Bool},Reps K M H xs (ns.map .bl)->xs=ns.map V.bl
 |_,[],.nil=>rfl
 |_,n::r,.cons a t=>by cases a;rw[Reps.of_bls t];rfl
theorem By(hc:X.N=X.N):l8 X (.builtin "sum") Ba:=by
 refine⟨λds Q Q' w h=>?_,_,E8 hc,λM O H xs ds Q c h=>?_⟩
 ·unfold Ba at *;split at h
  ·obtain⟨ns,e,h⟩:=h;exact⟨ns,e,w _ h⟩
  ·exact h
 ·unfold Ba at h;split at h
  ·obtain⟨ns,rfl,h⟩:=h;obtain⟨x,rfl,cx⟩:=eL c;obtain⟨a,ys,rfl,ea,ra⟩:=cx.lst;obtain rfl:=ra.of_ints;exact⟨a,ns,rfl,fJ.of ea,h _ H (aM.refl _) (Rep.int _)⟩
  ·exact h.elim
theorem Ga(hc:X.calm=aj):l8 X (.builtin "all") DP:=by
 refine⟨λds Q Q' w h=>?_,_,EE hc,λM O H xs ds Q c h=>?_⟩
 ·unfold DP at *;split at h
  ·obtain⟨ns,e,h⟩:=h;exact⟨ns,e,w _ h⟩
  ·exact h
 ·unfold DP at h;split at h
  ·obtain⟨ns,rfl,h⟩:=h;obtain⟨x,rfl,cx⟩:=eL c;obtain⟨a,ys,rfl,ea,ra⟩:=cx.lst;obtain rfl:=ra.of_bls;exact⟨a,ns,rfl,fJ.of ea,h _ H (aM.refl _) (Rep.bl _)⟩
  ·exact h.elim
noncomputable def qA:List Dv->(R->Prop)->Prop
 | [.lst ds],Q=>Q (.nw (.lst ds))
 | [.tup ds],Q=>Q (.nw (.lst ds))
 | [.scr ns],Q=>Q (.nw (.lst (ns.map .int)))
 |_,_=>False
theorem tE:l8 X (.type "list") qA:=by
 refine⟨λds Q Q' w h=>?_,_,z7,λM O H xs ds Q c h=>?_⟩
 ·unfold qA at *;split at h<;>first | exact w _ h | exact h
 ·unfold qA at h;split at h
  ·obtain⟨x,rfl,cx⟩:=eL c;obtain⟨a,ys,rfl,ea,ra⟩:=cx.lst;exact⟨a,ys,rfl,.inl (fJ.of ea),λl hl=>h _ _ (aM.new' hl) (i4 hl ra)⟩
  ·obtain⟨x,rfl,cx⟩:=eL c;obtain⟨a,ys,rfl,ea,ra⟩:=cx.tup;exact⟨a,ys,rfl,.inr (jP.of ea),λl hl=>h _ _ (aM.new' hl) (i4 hl ra)⟩
  ·obtain⟨x,rfl,cx⟩:=eL c;obtain⟨a,rfl,ea⟩:=cx.scr;exact⟨a,_,rfl,.inl ea.sq,λl hl=>h _ _ (aM.new' hl) (i4 hl (Reps.ints _))⟩
  ·exact h.elim
noncomputable def iW:List Dv->(R->Prop)->Prop
 | [.lst ds],Q=>Q (.v (.tup ds))
 | [.tup ds],Q=>Q (.v (.tup ds))
 |_,_=>False
theorem mO:l8 X (.type "tuple") iW:=by
 refine⟨λds Q Q' w h=>?_,_,vO,λM O H xs ds Q c h=>?_⟩
 ·unfold iW at *;split at h<;>first | exact w _ h | exact h
 ·unfold iW at h;split at h
  ·obtain⟨x,rfl,cx⟩:=eL c;obtain⟨a,ys,rfl,ea,ra⟩:=cx.lst;exact⟨a,ys,rfl,.inl ⟨fJ.of ea,λl hl=>h _ _ (aM.new' hl) (EO hl ra)⟩⟩
  ·obtain⟨x,rfl,cx⟩:=eL c;obtain⟨a,ys,rfl,ea,ra⟩:=cx.tup;exact⟨a,ys,rfl,.inr ⟨jP.of ea,h _ H (aM.refl _) (Rep.tup ea ra)⟩⟩
  ·exact h.elim
noncomputable def Nu:Dv->String
 | .non=>"NoneType"
 | .bl _=>"bool"
 | .int _=>"int"
 | .str _=>"str"
 | .tup _=>"tuple"
 | .lst _=>"list"
 | .scr _=>"list"
 | .dik _=>"dict"
 | .dit _=>"dict"
 | .obj _ _=>""
 | .exc _ _=>""
 | .dns _=>""
noncomputable def IU(T:String)(d:Dv):Bool:=Nu d==T || (T == "int" && Nu d == "bool")
noncomputable def zR:Dv->Bool
 | .obj _ _=>ap
 | .exc _ _=>ap
 | .dns _=>ap
 | .scr _=>ap
 |_=>aj
noncomputable def rQ(T:String)(te:dE):dE:=λρ Q=>te ρ λr=>zR r.d=aj/\Q (.v (.bl (IU T r.d)))
theorem IN(hT:T = "int" \/ T = "bool" \/ T = "tuple" \/ T = "list" \/ T = "str")(d:Dv)(ho:zR d=aj):oa K (.type (Nu d)) (.type T)=aa (IU T d):=by
 rcases hT with rfl | rfl | rfl | rfl | rfl<;>cases d<;>first | (simp[zR] at ho;done) | with_unfolding_all rfl
theorem dL.ty{x:V}{d:Dv}(c:dL K M H x d)(ho:zR d=aj):TyOf K H x (.type (Nu d)):=by
 cases d with
 |non=>obtain rfl:=c.non;exact .non
 |bl b=>obtain rfl:=c.bl;exact .bl b
 |int i=>obtain rfl:=c.int;exact .int i
 |str y=>obtain rfl:=c.str;exact .str y
 |tup ds=>obtain⟨a,xs,rfl,e,_⟩:=c.tup;exact .tup e
 |lst ds=>obtain⟨a,xs,rfl,e,_⟩:=c.lst;exact .lst e
 |dik ds=>obtain⟨a,xs,rfl,e,_⟩:=c.dik;exact .dK e
 |dit ds=>obtain⟨a,ep,xs,rfl,e,_⟩:=c.dit;exact .dT e
 |obj C fs=>simp[zR] at ho
 |scr ns=>simp[zR] at ho
 |exc C p=>simp[zR] at ho
 |dns ks=>simp[zR] at ho
theorem nN{p2:jw}(hT:T = "int" \/ T = "bool" \/ T = "tuple" \/ T = "list" \/ T = "str")(hg:Gl X "isinstance")(hm:X.mg "isinstance" = aq)(ha:QE X e te)(hty:PE X (.Name x p2) (tC (.ty T)))
  (he:autoParam (ay [e,.Name x p2] X.env=(ap,fz e X.env)::ay [.Name x p2] X.env) bV._auto_1) (he2:autoParam (ay [Vo x p2] X.env=(ap,fz (.Name x p2) X.env)::ay [] X.env) bV._auto_1) (hpl:autoParam ((jd pos (ay [.Name x p2] X.env)).any (·.1)=ap) bV._auto_1):
  QE X (.Call (.Name "isinstance" p) [e,.Name x p2] [] pos) (rQ T te):=by
 refine⟨λρ Q Q' w q=>ha.mono _ _ _ (λr q=>⟨q.1,w _ q.2⟩) q,λHZ F=>d6 (pZ Gb hg hm yw (gW (ha.run HZ F) (gW hty oG he2) he) ∅ ∅ he hpl) λσ H Q zz=>?_⟩;obtain⟨ρ,fr,h⟩:=zz;refine ha.step fr h λr x H1 q S1 r1=>?_;exact⟨x,T,_,_,rfl,r1.c.ty q.1,IN hT _ q.1,q.2 _ H1 S1 (Rep.bl _)⟩
end
noncomputable def kD:bU->Dv
 | .inl i=>.int i
 | .inr x=>.str x
noncomputable def cX:Dv->Dv->(R->Prop)->Prop
 | .lst xs,.int i,Q=>match lC xs i with
  |some d=>Q (.v d)
  |none=>False
 | .tup xs,.int i,Q=>match lC xs i with
  |some d=>Q (.v d)
  |none=>False
 | .scr ns,.int i,Q=>match lC ns i with
  |some n=>Q (.v (.int n))
  |none=>False
 | .str z,.int i,Q=>z.length<=zM/\match lC z.cps.toList i with
  |some c=>Q (.v (.str ⟨#[c]⟩))
  |none=>False
 | .dik kvs,.int i,Q=>match kvs.find? (λkv=>decide (kv.1=ft i)) with
  |some kv=>Q (.v kv.2)
  |none=>False
 | .dik kvs,.str x,Q=>match kvs.find? (λkv=>decide (kv.1=vj x)) with
  |some kv=>Q (.v kv.2)
  |none=>False
 | .dit kvs,.tup ds,Q=>∃k:List bU,ds=k.map kD/\match kvs.find? (λkv=>decide (kv.1=k)) with
  |some kv=>Q (.v kv.2)
  |none=>False
 |_,_,_=>False
variable {a b:Expr}{ta:dE}
section
variable {tb:dE}{pos:jw}
theorem Reps.at{K:ak}{M:ah->Prop}{H:Hp}{xs:List V}{ds:List Dv}{i:Int}{d:Dv}(r:Reps K M H xs ds)(h:lC ds i=aa d):∃x,lC xs i=aa x/\Rep K M H x d:=by
 unfold lC at *;rw[r.length];cases e:rL ds.length i with
 |none=>rw[e] at h;cases h
 |some j=>
  rw[e] at h;obtain⟨x,hx,rx⟩:=r.get (i:=j) h;exact⟨x,hx,rx⟩
theorem Ik{β:Type}{f:α->β}{l:List α}{i:Int}:lC (l.map f) i=(lC l i).map f:=by
 unfold lC;rw[bv];cases rL l.length i with
 |none=>rfl
 |some j=>simp
theorem RepK.val{k:bU}{xs:List (bU×V)}{ds:List (bU×Dv)}(r:RepK K M H xs ds):(∀kv,ds.find? (λkv=>decide (kv.1=k))=aa kv -> ∃x,jQ xs k=aa x/\Rep K M H x kv.2)/\(ds.find? (λkv=>decide (kv.1=k))=aq->jQ xs k=aq):=
 r.ind (P:=λxs ds=>(∀kv,ds.find? (λkv=>decide (kv.1=k))=aa kv -> ∃x,jQ xs k=aa x/\Rep K M H x kv.2)/\(ds.find? (λkv=>decide (kv.1=k))=aq->jQ xs k=aq)) ⟨λ_ h=>(by cases h),λ_=>rfl⟩ λk' x d xs ds a _ ih=>by
  by_cases e:k'=k
  ·rw[oy (by simpa using e),lE e];exact⟨λkv h=>by cases h;exact⟨x,rfl,a⟩,λh=>by cases h⟩
  ·rw[oz (by simpa using e),lF e];exact ih
theorem RepT.val{k:List bU}{xs:List (List bU×V)}{ds:List (List bU×Dv)}(r:RepT K M H xs ds):(∀kv,ds.find? (λkv=>decide (kv.1=k))=aa kv -> ∃x,jQ xs k=aa x/\Rep K M H x kv.2)/\(ds.find? (λkv=>decide (kv.1=k))=aq->jQ xs k=aq):=
 r.ind (P:=λxs ds=>(∀kv,ds.find? (λkv=>decide (kv.1=k))=aa kv -> ∃x,jQ xs k=aa x/\Rep K M H x kv.2)/\(ds.find? (λkv=>decide (kv.1=k))=aq->jQ xs k=aq)) ⟨λ_ h=>(by cases h),λ_=>rfl⟩ λk' x d xs ds a _ ih=>by
  by_cases e:k'=k
  ·rw[oy (by simpa using e),lE e];exact⟨λkv h=>by cases h;exact⟨x,rfl,a⟩,λh=>by cases h⟩
  ·rw[oz (by simpa using e),lF e];exact ih
theorem Reps.keys{K:ak}{M:ah->Prop}{H:Hp}:∀{xs:List V} {k:List bU},Reps K M H xs (k.map kD)->xs=k.map kV
 |_,[],.nil=>rfl
 |_,.inl i::r,.cons a t=>by cases a;rw[Reps.keys t];rfl
 |_,.inr x::r,.cons a t=>by cases a;rw[Reps.keys t];rfl
noncomputable def Pd:R2:=λx y H Q=>∃a v,x=.ref a/\vT H a y (aa v)/\Q v H
theorem IS(hu:X.A.units+1<lq):Gu X Pd:=by
 intro Wr WA pj s σ H x y v u Q I rx ry h hs;obtain⟨a,z,rfl,g,q⟩:=h;cases rx;have hT:=Av I g;unfold Su;refine ae ?_;rw[getitemInPython_of_ne hT.not_modules];refine ae (wpAny_specialOf hT PySem.F.slot_dict_getitem.lookup ?_);have fin:bi (bu X.prog X.w) X.A (Ul WA ap (.ref a) u) (λr s₃=>bi (bu X.prog X.w) X.A (letTemporaryGo Wr (.ref a) r >>= λ_=>io r) (EP X pj σ Q) X.xe s₃) X.xe s:=by
  rw[hs];exact wpAny_operating (fy (E5 hu I g ry λw' s' I' rw'=>show EP X pj σ Q w' s' from⟨z,H,I',rw',q⟩) (λr s₃ h₃=>ae (wpAny_letTemporaryGo (ar h₃))) λ_ _ x=>x)
 first
  |exact ar (ae fin)
  |exact ae (ar (ae fin))
  |exact ae fin
theorem AM:∀dx dy (Q Q':R->Prop),(∀r,Q r->Q' r)->cX dx dy Q->cX dx dy Q':=by
 intro dx dy Q Q' w h;unfold cX at *;split at h
 ·split at h
  ·exact w _ h
  ·exact h
 ·split at h
  ·exact w _ h
  ·exact h
 ·split at h
  ·exact w _ h
  ·exact h
 ·refine⟨h.1,?_⟩;have h2:=h.2;split at h2
  ·exact w _ h2
  ·exact h2
 ·split at h
  ·exact w _ h
  ·exact h
 ·split at h
  ·exact w _ h
  ·exact h
 ·obtain⟨k,e,h⟩:=h;refine⟨k,e,?_⟩;split at h
  ·exact w _ h
  ·exact h
 ·exact h
theorem bM(hu:X.A.units+1<lq)(ha:QE X a ta)(hb:QE X b tb)(hs:autoParam (Ct b) Rl._auto_1):QE X (.Subscript a b pos) (aK cX ta tb):=by
 refine⟨qL ha hb AM,λHZ F=>d6 (Mf (Kv.or (IS hu)) (ha.run HZ F) (hb.run HZ F) hs) (t8 ha hb (λM O H x y dx dy Q cx cy h=>?_) AM HZ F)⟩;unfold cX at h;split at h
 ·rename_i xs i;split at h
  ·rename_i d hd;obtain⟨p,vs,rfl,ea,ra⟩:=cx.lst;obtain rfl:=cy.int;obtain⟨z,hz,rz⟩:=ra.at hd;exact .inl (.inl ⟨p,vs,i,z,rfl,rfl,fJ.of ea,hz,h _ H (aM.refl _) rz⟩)
  ·exact h.elim
 ·rename_i xs i;split at h
  ·rename_i d hd;obtain⟨p,vs,rfl,ea,ra⟩:=cx.tup;obtain rfl:=cy.int;obtain⟨z,hz,rz⟩:=ra.at hd;exact .inl (.inr (.inl ⟨p,vs,i,z,rfl,rfl,jP.of ea,hz,h _ H (aM.refl _) rz⟩))
  ·exact h.elim
 ·rename_i ns i;split at h
  ·rename_i n hn;obtain⟨p,rfl,ea⟩:=cx.scr;obtain rfl:=cy.int;refine .inl (.inl ⟨p,_,i,.int n,rfl,rfl,ea.sq,?_,h _ H (aM.refl _) (Rep.int _)⟩);rw[Ik,hn];rfl
  ·exact h.elim
 ·rename_i z i;obtain⟨hl,h⟩:=h;split at h
  ·rename_i c hc;obtain rfl:=cx.str;obtain rfl:=cy.int;exact .inl (.inr (.inr ⟨z,i,c,rfl,rfl,hC hl,hc,h _ H (aM.refl _) (Rep.str _)⟩))
  ·exact h.elim
 ·split at h
  ·rename_i kv hk;obtain⟨p,kvs,rfl,ea,ra⟩:=cx.dik;obtain rfl:=cy.int;obtain⟨z,hz,rz⟩:=ra.val.1 kv hk;exact .inr ⟨p,z,rfl,by rw[<- hz];exact vT.k (k:=ft _) ea,h _ H (aM.refl _) rz⟩
  ·exact h.elim
 ·split at h
  ·rename_i kv hk;obtain⟨p,kvs,rfl,ea,ra⟩:=cx.dik;obtain rfl:=cy.str;obtain⟨z,hz,rz⟩:=ra.val.1 kv hk;exact .inr ⟨p,z,rfl,by rw[<- hz];exact vT.k (k:=vj _) ea,h _ H (aM.refl _) rz⟩
  ·exact h.elim
 ·obtain⟨k,rfl,h⟩:=h;split at h
  ·rename_i kv hk;obtain⟨p,ep,kvs,rfl,ea,ra⟩:=cx.dit;obtain⟨b,ys,rfl,eb,rb⟩:=cy.tup;obtain rfl:=rb.keys;obtain⟨z,hz,rz⟩:=ra.val.1 kv hk;exact .inr ⟨p,z,rfl,by rw[<- hz];exact vT.t ea eb,h _ H (aM.refl _) rz⟩
  ·exact h.elim
 ·exact h.elim
noncomputable abbrev Nn:=List Sl->(Option Int->Prop)->Prop
structure QO(X:Cx)(e:Option Expr)(t:Nn):Prop where
 mono:∀(ρ:List Sl) (Q Q':Option Int->Prop),(∀r,Q r->Q' r)->t ρ Q->t ρ Q'
 run:∀(HZ:Hp) (F:ah->Prop),PO X e (λσ H Q=>∃ρ,Fr X.K HZ F σ H ρ/\t ρ λo=>∀H',aM H H'->Q o H')
noncomputable def gY:Nn:=λ_ Q=>Q aq
noncomputable def nR(te:dE):Nn:=λρ Q=>te ρ λr=>match r.d with
 | .int i=>Q (aa i)
 |_=>False
theorem Gi{e:Option Expr}{t t':TO}(h:PO X e t)(w:∀σ H Q,t' σ H Q->t σ H Q):PO X e t':=λpj s σ H Q I q=>h pj s σ H Q I (w σ H Q q)
theorem mW:QO X aq gY:=⟨λ_ _ _ w q=>w _ q,λHZ F=>Gi HX λσ H Q zq4=>by obtain⟨ρ,fr,q⟩:=zq4;exact q H (aM.refl _)⟩
theorem mV(h:QE X e te):QO X (aa e) (nR te):=by
 refine⟨λρ Q Q' w q=>h.mono _ _ _ (λr q=>?_) q,λHZ F=>Gi (HW (h.run HZ F)) λσ H Q ⟨ρ,fr,q⟩=>?_⟩
 ·split at q
  ·exact w _ q
  ·exact q
 ·refine h.step fr q λr x H1 q S1 r1=>?_;split at q
  ·rename_i i e;have c:=r1.c;rw[e] at c;exact⟨i,c.int,q H1 S1⟩
  ·exact q.elim
noncomputable def cut(xs:List α)(lo hi:Option Int):List α:=(xs.drop (HT.fU xs.length 0 lo)).take (HT.fU xs.length xs.length hi-HT.fU xs.length 0 lo)
noncomputable def J5:Dv->Option Int->Option Int->(R->Prop)->Prop
 | .lst xs,lo,hi,Q=>Q (.nw (.lst (cut xs lo hi)))
 | .scr ns,lo,hi,Q=>Q (.nw (.lst ((cut ns lo hi).map .int)))
 | .tup xs,lo,hi,Q=>¬(HT.fU xs.length 0 lo=0/\HT.fU xs.length xs.length hi=xs.length)/\Q (.v (.tup (cut xs lo hi)))
 |_,_,_,_=>False
noncomputable def Gr(te:dE)(tl th:Nn):dE:=λρ Q=>te ρ λr=>tl ρ λlo=>th ρ λhi=>J5 r.d lo hi Q
theorem FJ:∀d lo hi (Q Q':R->Prop),(∀r,Q r->Q' r)->J5 d lo hi Q->J5 d lo hi Q':=by
 intro d lo hi Q Q' w h;unfold J5 at *;split at h<;>first | exact w _ h | exact⟨h.1,w _ h.2⟩ | exact h
theorem Reps.cut{K:ak}{M:ah->Prop}{H:Hp}{xs:List V}{ds:List Dv}(r:Reps K M H xs ds)(lo hi:Option Int):Reps K M H (Ax xs lo hi) (Z.cut ds lo hi):=by
 unfold Ax Z.cut;rw[r.length];exact(r.drop _).take _
theorem mX{lo hi:Option Expr}{tl th:Nn}{p2:jw}(he:QE X e te)(hl:QO X lo tl)(hh:QO X hi th):QE X (.Subscript e (.Slice lo hi aq p2) pos) (Gr te tl th):=by
 refine⟨λρ Q Q' w q=>he.mono _ _ _ (λr q=>hl.mono _ _ _ (λl q=>hh.mono _ _ _ (λu q=>FJ _ _ _ _ _ w q) q) q) q,λHZ F=>d6 (F9 (HB.or JW) (he.run HZ F) (hl.run HZ F) (hh.run HZ F)) λσ H Q zz=>?_⟩;obtain⟨ρ,fr,q⟩:=zz;refine he.step fr q λr x H1 q S1 r1=>?_;refine⟨ρ,fr.mono S1,hl.mono _ _ _ (λl q H2 S2=>?_) q⟩;refine⟨ρ,(fr.mono S1).mono S2,hh.mono _ _ _ (λu q H3 S3=>?_) q⟩;have S13:=(S1.trans S2).trans S3;have c:=(r1.mono (S2.trans S3)).c;generalize r.d=d at q c;unfold J5 at q;split at q
 ·obtain⟨a,xs,rfl,ea,ra⟩:=c.lst;exact .inl ⟨a,xs,rfl,fJ.of ea,λp hp=>q _ _ (S13.trans (aM.new' hp)) ((i4 hp (ra.cut _ _)).ahead S13)⟩
 ·obtain⟨a,rfl,ea⟩:=c.scr;refine .inl ⟨a,_,rfl,ea.sq,λp hp=>q _ _ (S13.trans (aM.new' hp)) (dX.ahead (i4 hp ?_) S13)⟩;have:∀(ns:List Int) l u,(Z.cut ns l u).map Dv.int=Z.cut (ns.map Dv.int) l u:=λns l u=>by
   unfold Z.cut;simp[UX,VX]
  rw[this];exact(Reps.ints _).cut _ _
 ·obtain⟨a,xs,rfl,ea,ra⟩:=c.tup;exact .inr ⟨a,xs,rfl,jP.of ea,by rw[ra.length];exact q.1,λp hp=>q.2 _ _ (S13.trans (aM.new' hp)) (dX.ahead (EO hp (ra.cut _ _)) S13)⟩
 ·exact q.elim
end
section
variable {c:Expr}{tb tc:dE}{pos:jw}
theorem HL{op op':Uj}{f f':Int->Int->Bool}(ho:jY X (ed op) (BO λi j=>.bl (f i j)))(ho':jY X (ed op') (BO λi j=>.bl (f' i j)))(ha:QE X a ta)(hb:QE X b tb)(hc:QE X c tc)
  (hm:autoParam (TY [op,op'] [b,c]=ap) Nt._auto_1):QE X (.Compare a [op,op'] [b,c] pos) (rR (wJ f) (wJ f') ta tb tc):=by
 refine⟨λρ Q Q' w q=>ha.mono _ _ _ (λrx q=>hb.mono _ _ _ (λry q=>uE _ _ _ _ (λz q=>?_) q) q) q,λHZ F=>d6 (FD ho ho' (ha.run HZ F) (hb.run HZ F) (hc.run HZ F) hm) λσ H Q ⟨ρ,fr,q⟩=>?_⟩
 ·split at q
  ·split at q
   ·rw[Wj ‹_›];exact hc.mono _ _ _ (λw' q=>uE _ _ _ _ w q) q
   ·rw[VT ‹_›];exact w _ q
  ·exact q
 ·refine ha.step fr q λrx x H1 q1 S1 r1=>?_;refine hb.step (fr.mono S1) q1 λry y H2 q2 S2 r2=>?_;have cx:=(r1.mono S2).c;have cy:=r2.c;generalize rx.d=dx at q2 cx;generalize ry.d=dy at q2 cy;unfold wJ at q2;split at q2
  ·rename_i Q2 i j;obtain rfl:=cx.int;obtain rfl:=cy.int;refine⟨_,_,rfl,rfl,f i j,rfl,?_⟩;have S12:=S1.trans S2;replace q2:=(show (if f i j=aj then tc ρ (λw=>wJ f' (.int j) w.d (λr=>∀x H',aM H H'->dX X.K (MM F ρ) (Z.zK ρ) H x r H'->Q x H')) else (∀x H',aM H H'->dX X.K (MM F ρ) (Z.zK ρ) H x (.v (.bl ap)) H'->Q x H')) from q2);cases h:f i j with
   |true=>
    rw[h] at q2;simp only[if_true] at q2;refine rM (hc.step ((fr.mono S1).mono S2) q2 λrw' z H3 q3 S3 r3=>?_);have cz:=r3.c;generalize rw'.d=dz at q3 cz;cases dz with
    |int l=>
     obtain rfl:=cz.int;exact⟨_,_,rfl,rfl,q3 _ H3 (S12.trans S3) (Rep.bl _)⟩
    |_=>exact(show False from q3).elim
   |false=>
    rw[h] at q2;simp only[gg,if_false] at q2;exact rN (q2 _ H2 S12 (Rep.bl _))
  ·exact q2.elim
noncomputable def nD:Dv->Option Bool
 | .non=>aa ap
 | .bl b=>aa b
 | .int i=>aa (i != 0)
 | .lst xs=>aa (!xs.isEmpty)
 | .tup xs=>aa (!xs.isEmpty)
 | .dik xs=>aa (!xs.isEmpty)
 | .scr xs=>aa (!xs.isEmpty)
 |_=>aq
noncomputable def j7(te:dE):l6:=λρ Q=>te ρ λr=>match nD r.d with
 |some k=>Q k
 |none=>False
theorem Reps.empty(r:Reps K M H xs ds):xs.isEmpty=ds.isEmpty:=by cases r<;>rfl
theorem eI(h:QE X e te)(he:autoParam (∀Wz,isTrue e X.env Wz=(do let v <- Wz;Vs e.pos;Vt [v] (truthy v))) Gp._auto_1):QT X e (j7 te):=by
 refine⟨λρ Q Q' w q=>h.mono _ _ _ (λr q=>?_) q,λHZ F=>zF (Ez (h.run HZ F) he) λσ H Q ⟨ρ,fr,q⟩=>?_⟩
 ·split at q
  ·exact w _ q
  ·exact q
 ·refine h.step fr q λr x H1 q S1 r1=>?_;have cx:=r1.c;generalize r.d=d at q cx;split at q
  ·rename_i k hk;refine⟨k,?_,q H1 S1⟩;cases d with
   |non=>obtain rfl:=cx.non;simp only[nD,ig] at hk;subst hk;rfl
   |bl b=>obtain rfl:=cx.bl;simp only[nD,ig] at hk;exact hk.symm
   |int i=>obtain rfl:=cx.int;simp only[nD,ig] at hk;exact hk.symm
   |lst ds=>
    obtain⟨a,xs,rfl,ea,ra⟩:=cx.lst;simp only[nD,ig] at hk;exact .inl ⟨xs,fJ.of ea,by rw[ra.empty];exact hk.symm⟩
   |tup ds=>
    obtain⟨a,xs,rfl,ea,ra⟩:=cx.tup;simp only[nD,ig] at hk;exact .inr (.inl ⟨xs,jP.of ea,by rw[ra.empty];exact hk.symm⟩)
   |dik ds=>
    obtain⟨a,xs,rfl,ea,ra⟩:=cx.dik;simp only[nD,ig] at hk;exact .inr (.inr ⟨xs,ea,by rw[<- hk];cases ra<;>rfl⟩)
   |scr ns=>
    obtain⟨a,rfl,ea⟩:=cx.scr;simp only[nD,ig] at hk;exact .inl ⟨_,ea.sq,by rw[<- hk];cases ns<;>rfl⟩
   |_=>simp[nD] at hk
  ·exact q.elim
end
noncomputable abbrev Fn:=List Dv->(R->Prop)->Prop
inductive low(K:ak)(sp:Fn)(vs:List V)(H:Hp)(Q:VK)(E:XK):Prop
 |mk (F:ah->Prop) (ds:List Dv) (hF:OldF K F H) (r:Reps K F H vs ds) (q:sp ds (λr=>∀x H',aM H H'->dX K F xH H x r H'->Q x H'))
structure MonoF(sp:Fn):Prop where
 mo:∀ds (Q Q':R->Prop),(∀r,Q r->Q' r)->sp ds Q->sp ds Q'
structure Def(P:au)(w:bt)(K:ak)(mg:bn->Option af)(base:cm)(k:Nat)(x:bn)(ps:List bn)(sp:Sp):Prop where
 ex:∃f fd,mg x=aa (.ref f)/\nz K (.ref f)=aj/\i8 K fd ps []/\FnOk P w K mg base C6 k f fd ps sp
structure At(K:ak)(mg:bn->Option af)(x nm:bn)(st:jl)(ps:List bn):Prop where
 ex:∃f fd,mg x=aa (.ref f)/\Fun K nm nm st f fd/\i8 K fd ps []
structure MDef(P:au)(w:bt)(K:ak)(mg:bn->Option af)(base:cm)(k:Nat)(C:ah)(m:bn)(ps:List bn)(sp:Sp):Prop where
 ex:∃f fd,Meth K C m f/\i8 K fd ps []/\FnOk P w K mg base C6 k f fd ps sp
structure MAt(K:ak)(C:ah)(m qual:bn)(st:jl)(ps:List bn):Prop where
 ex:∃f fd,Meth K C m f/\Fun K m qual st f fd/\i8 K fd ps []
theorem At.ok{P:au}{w:bt}{K:ak}{mg:bn->Option af}{base:cm}{k:Nat}{x nm:bn}{st:jl}{ps N:List bn}{sp:Sp}(a:At K mg x nm st ps)(S:FnScope N ps (aF st))(len:∀vs H Q E,sp vs H Q E->vs.length=ps.length)
  (Wu:∀(f:ah) (cdv:af) (A:cf) (outer:List wz) (s:ai) (H:Hp) (vs:List V) (Q:VK) (E:XK),Room k (A.deeper (qj nm (aF st) s.heap.objs.size f cdv))->sp vs H Q E ->
   ∃t,tG (gH C6 P w K mg base N nm (aF st) f cdv A outer s H E).nox (e7 st) t/\t { nx:=λ_ H'=>Q .non H',rt:=Q } (start N vs) H):Def P w K mg base (k+1) x ps sp:=by
 obtain⟨f,fd,hm,F,hb⟩:=a.ex;exact⟨f,fd,hm,F.kp,hb,F.ok S len (Wu f)⟩
theorem MAt.ok{P:au}{w:bt}{K:ak}{mg:bn->Option af}{base:cm}{k:Nat}{C:ah}{m Wm:bn}{st:jl}{ps N:List bn}{sp:Sp}(a:MAt K C m Wm st ps)(S:FnScope N ps (aF st))(len:∀vs H Q E,sp vs H Q E->vs.length=ps.length)
  (Wu:∀(f:ah) (cdv:af) (A:cf) (outer:List wz) (s:ai) (H:Hp) (vs:List V) (Q:VK) (E:XK),Room k (A.deeper (qj Wm (aF st) s.heap.objs.size f cdv))->sp vs H Q E ->
   ∃t,tG (gH C6 P w K mg base N Wm (aF st) f cdv A outer s H E).nox (e7 st) t/\t { nx:=λ_ H'=>Q .non H',rt:=Q } (start N vs) H):MDef P w K mg base (k+1) C m ps sp:=by
 obtain⟨f,fd,hm,F,hb⟩:=a.ex;exact⟨f,fd,hm,hb,F.ok S len (Wu f)⟩
noncomputable def aI(N:List bn)(ds:List Dv):List Sl:=ds.map .v++av (N.length-ds.length) .un
variable {vs:List V}
theorem zW(hF:OldF K F H)(r:Reps K F H vs ds):Fr K H F (start N vs) H (aI N ds):=by
 have no:∀{a:ah} {d:Dv},Sl.own a d∈aI N ds->False:=λ{a d} h=>by
  rcases gf.mp h with h | h
  ·obtain⟨z,_,e⟩:=jx.mp h;cases e
  ·cases eh h
 have wk:∀a,MM F (aI N ds) a->F a:=λa h=>by
  rcases h with h | ⟨d,h⟩
  ·exact h
  ·exact(no h).elim
 have hl:=r.length;refine⟨by simp[L2.start,aI,hl],λi s e=>?_,λi j a d d' e _=>(no (eg e)).elim,λa d h=>(no h).elim,aM.refl _,hF⟩;unfold aI at e;by_cases hi:i<ds.length
 ·rw[bo (by simpa using hi),cn] at e;cases q:ds[i]? with
  |none=>rw[q] at e;cases e
  |some d=>
   rw[q] at e;cases e;obtain⟨x,hx,rx⟩:=r.get q;refine⟨x,?_,rx.weak wk⟩;unfold L2.start;rw[bo (by simpa using(da.mp hx).1),cn,hx];rfl
 ·rw[bg (by simpa using nr hi)] at e;have:=eg e;cases eh this;trivial
variable {E:XK}{sp:Fn}
theorem zA{sts:List jl}{t:cI}{Q:VK}(h:QSs X sts t)(hsp:∀ds Q,sp ds Q->t ↥Q (aI N ds))(q:low X.K sp vs H Q E):
  ∃t',tG X sts t'/\t' { nx:=λ_ H'=>Q .non H',rt:=Q } (start N vs) H:=by
 obtain⟨F,ds,hF,r,q⟩:=q;exact⟨_,h.run H F,aI N ds,_,zW hF r,hsp ds _ q,λρ σ H' fr q=>q .non H' fr.same Rep.non,λ_ _ _ _ z=>z.elim,λ_ _ _ _ z=>z.elim,λrr x H' S rx q=>q x H' S rx⟩
theorem yD(h:∀ds Q,sp ds Q->ds.length=n):∀vs H Q E,low K sp vs H Q E->vs.length=n:=λvs H Q E zq5=>by obtain⟨F,ds,_,r,q⟩:=zq5;(rw[r.length];exact h _ _ q)
variable {st:jl}
theorem At.okP{k:Nat}{x nm:bn}{t:cI}(a:At K mg x nm st ps)(S:FnScope N ps (aF st))
  (hq:∀(f:ah) (cdv:af) (A:cf) (outer:List wz) (s:ai) (H:Hp) (E:XK),Room k (A.deeper (qj nm (aF st) s.heap.objs.size f cdv))->QSs (gH C6 P w K mg base N nm (aF st) f cdv A outer s H E).nox (e7 st) t)
  (len:∀ds Q,sp ds Q->ds.length=ps.length) (hsp:∀ds Q,sp ds Q->t ↥Q (aI N ds)):Def P w K mg base (k+1) x ps (low K sp):=
 a.ok S (yD len) λf cdv A outer s H vs Q E hr q=>zA (hq f cdv A outer s H E hr) hsp q
variable {m:bn}
theorem MAt.okP{k:Nat}{t:cI}(a:MAt K C m Wm st ps)(S:FnScope N ps (aF st))
  (hq:∀(f:ah) (cdv:af) (A:cf) (outer:List wz) (s:ai) (H:Hp) (E:XK),Room k (A.deeper (qj Wm (aF st) s.heap.objs.size f cdv))->QSs (gH C6 P w K mg base N Wm (aF st) f cdv A outer s H E).nox (e7 st) t)
  (len:∀ds Q,sp ds Q->ds.length=ps.length) (hsp:∀ds Q,sp ds Q->t ↥Q (aI N ds)):MDef P w K mg base (k+1) C m ps (low K sp):=
 a.ok S (yD len) λf cdv A outer s H vs Q E hr q=>zA (hq f cdv A outer s H E hr) hsp q
noncomputable def R.flat:R->Bool
 | .v d=>i7 d
 | .nw d=>uO d
 | .ow _ _=>ap
noncomputable def back(rs:List R)(Q:R->Prop):R->Prop:=λr=>(rs.all R.free=aj \/ r.flat=aj)/\Q r
noncomputable def aZ(sp:Fn)(ts:lB):dE:=λρ Q=>ts ρ λrs=>sp (rs.map R.d) (back rs Q)
variable {rs:List R}
noncomputable def lent(M:ah->Prop)(rs:List R):ah->Prop:=λa=>M a /\ ∀d,R.ow a d ∉ rs
theorem n5(fr:Fr K HZ F σ H ρ){all:List R}:∀{xs:List V} {rs:List R},(∀r∈rs,r∈all)->Paired (λx r=>dX K (MM F ρ) (Z.zK ρ) H x r H1) xs rs->Reps K (lent (MM F ρ) all) H1 xs (rs.map R.d)
 |_,_,_,.nil=>.nil
 |_,r::_,hs,.cons a t=>by
  refine .cons ?_ (n5 fr (λr hr=>hs r (by simp[hr])) t);have wk:∀a,lent (MM F ρ) all a->MM F ρ a:=λa z=>z.1;cases r with
  |v d=>exact Rep.weak wk a
  |nw d=>exact(dX.rep a (λa m=>fr.dom m) rfl).weak wk
  |ow b d=>
   obtain⟨rfl,_,o⟩:=a;exact(o.weak wk).rep λz=>z.2 d (hs _ (by simp))
theorem Gf(h:rs.all R.free=aj)(a:ah)(d:Dv):R.ow a d ∉ rs:=λz=>by
 have:=ux.mp h _ z;simp[R.free] at this
theorem wP{x:V}{r:R}{O:ah->Dv->Prop}(fr:Fr K HZ F σ H ρ)(S1:aM H H1)(h:dX K (lent (MM F ρ) rs) xH H1 x r H')(f:rs.all R.free=aj \/ r.flat=aj):dX K (MM F ρ) O H x r H':=by
 rcases f with f | f
 ·have wk:∀a,MM F ρ a->lent (MM F ρ) rs a:=λa z=>⟨z,λd=>Gf f a d⟩;cases r with
  |v d=>exact Rep.weak wk h
  |ow a d=>exact h.2.1.elim
  |nw d=>
   obtain⟨a,e,n,o⟩:=h;exact⟨a,e,S1.free n,o.weak λb z=>z.elim (λz=>.inl (wk b z)) .inr⟩
 ·cases r with
  |v d=>exact Rep.flat f h
  |ow a d=>exact h.2.1.elim
  |nw d=>
   obtain⟨a,e,n,o⟩:=h;exact⟨a,e,S1.free n,o.flat f⟩
variable {Q':R->Prop}
section
variable {k:Nat}{x:bn}{o:Expr}{to:dE}{pos Ww:jw}
theorem B4{Q:VK}(mo:MonoF sp)(fr:Fr X.K HZ F σ H ρ)(S1:aM H H1)(r1:j6 X.K (MM F ρ) (Z.zK ρ) H xs rs H1)(q:sp (rs.map R.d) (back rs Q'))
  (w:∀r,Q' r -> ∀x H',aM H H'->dX X.K (MM F ρ) (Z.zK ρ) H x r H'->Q x H'):low X.K sp xs H1 Q E:=by
 refine⟨lent (MM F ρ) rs,_,⟨λa z=>(fr.mono S1).dom z.1,(fr.mono S1).tab⟩,n5 fr (λ_ h=>h) r1,mo.mo _ _ _ (λr q x H' S rx=>?_) q⟩;exact w r q.2 x H' (S1.trans S) (wP fr S1 rx q.1)
theorem rZ(w:∀r,Q r->Q' r):∀r,back rs Q r->back rs Q' r:=λr h=>⟨h.1,w r h.2⟩
theorem aT(d:Def X.prog X.w X.K X.mg X.base k x ps (low X.K sp))(mo:MonoF sp)(hr:Room k X.A)(ha:QA X (e::es) ts)(hg:autoParam (Gl X x) bV._auto_1)
  (hdb:autoParam ((x==("__debug__" : bn))=ap) kX._auto_1) (he:autoParam (ay (e::es) X.env=(ap,fz e X.env)::ay es X.env) bV._auto_1) (hpl:autoParam ((jd pos (ay es X.env)).any (·.1)=ap) bV._auto_1):
  QE X (.Call (.Name x p) (e::es) [] pos) (aZ sp ts):=by
 obtain⟨f,fd,hm,hk,hb,FO⟩:=d.ex;refine⟨λρ Q Q' w q=>ha.mono _ _ _ (λrs q=>mo.mo _ _ _ (rZ w) q) q,λHZ F=>d6 (He FO hr hg hm hk hb .nil FE (ha.run HZ F) hdb he hpl) λσ H Q zz=>?_⟩;obtain⟨ρ,fr,h⟩:=zz;refine ha.step fr h λrs xs H1 q S1 r1=>?_;rw[ka];exact B4 mo fr S1 r1 q λr z=>z
noncomputable def wZ(C:ah)(m:bn)(sp:Fn)(to:dE)(ts:lB):dE:=λρ Q=>to ρ λro=>match ro.d with
 | .obj C' fs=>(C'=C/\fs.lookup m=aq)/\ts ρ λrs=>sp (ro.d::rs.map R.d) (back (ro::rs) Q)
 |_=>False
theorem RepF.lookup{K:ak}{M:ah->Prop}{H:Hp}{f:bn}{xs:List (bn×V)}{ds:List (bn×Dv)}(r:RepF K M H xs ds):(ds.lookup f=aq->xs.lookup f=aq) /\ ∀d,ds.lookup f=aa d -> ∃x,xs.lookup f=aa x/\Rep K M H x d:=
 r.ind (P:=λxs ds=>(ds.lookup f=aq->xs.lookup f=aq) /\ ∀d,ds.lookup f=aa d -> ∃x,xs.lookup f=aa x/\Rep K M H x d) ⟨λ_=>rfl,λd h=>by cases h⟩ λk x d xs ds a _ ih=>by
  rw[Uo,Uo];cases h:f==k with
  |true=>
   refine⟨λz=>?_,λd' z=>?_⟩
   ·cases z
   ·cases z;exact⟨x,rfl,a⟩
  |false=>exact ih
theorem Ep(c:Cls X.K C)(d:MDef X.prog X.w X.K X.mg X.base k C m ps (low X.K sp))(mo:MonoF sp)(hr:Room k X.A)(ho:QE X o to)(ha:QA X (e::es) ts){pl:Ui Bool}
  (hst:autoParam (ay (e::es) X.env=(ap,fz e X.env)::ay es X.env) bV._auto_1) (hpl:autoParam ((jd pos (ay es X.env)).any (·.1)=ap) bV._auto_1)
  (ht:autoParam (fz (.Call (.Attribute o m Ww) (e::es) [] pos) X.env=(do
   let ov <- fz o X.env
   Vs Ww.atName
   let (f,first) <- Vt [ov] (TZ ov m pl)
   callWith pos f first (jd pos (ay (e::es) X.env)) (Tp pos (xg [] X.env)))) bV._auto_1):
  QE X (.Call (.Attribute o m Ww) (e::es) [] pos) (wZ C m sp to ts):=by
 obtain⟨f,fd,hm,hb,FO⟩:=d.ex;refine⟨λρ Q Q' w q=>ho.mono _ _ _ (λro q=>?_) q,λHZ F=>d6 (Ha (pl:=pl) (ho.run HZ F) c hm FO hr hb .nil FE (ha.run HZ F) hst hpl ht) λσ H Q ⟨ρ,fr,h⟩=>?_⟩
 ·split at q
  ·exact⟨q.1,ha.mono _ _ _ (λrs q=>mo.mo _ _ _ (rZ w) q) q.2⟩
  ·exact q
 ·refine ho.step fr h λro x H1 q S1 r1=>?_;split at q
  ·rename_i C' fs e;obtain⟨⟨rfl,hl⟩,q⟩:=q;have cx:=r1.c;rw[e] at cx;obtain⟨a,dx,fs',rfl,ea,ra⟩:=cx.obj;refine⟨a,dx,fs',rfl,ea,ra.lookup.1 hl,ha.step (fr.mono S1) q λrs xs H2 q S2 r2=>?_⟩;rw[ka];exact B4 (rs:=ro::rs) (xs:=.ref a::xs) mo fr (S1.trans S2) (.cons (r1.mono S2) (r2.ahead S1)) q λr z=>z
  ·exact q.elim
noncomputable def GR(C:ah)(f:bn)(to:dE):dE:=λρ Q=>to ρ λro=>match ro.d with
 | .obj C' fs=>C'=C/\match fs.lookup f with
  |some d=>Q (.v d)
  |none=>False
 |_=>False
theorem J0{f:bn}(c:Cls X.K C)(n:i5 X.K C f)(ho:QE X o to)(hb:autoParam (mq o f X.env (fz o X.env)=fz o X.env) bV._auto_1):QE X (.Attribute o f pos) (GR C f to):=by
 refine⟨λρ Q Q' w q=>ho.mono _ _ _ (λro q=>?_) q,λHZ F=>d6 (K3 (ho.run HZ F) hb) λσ H Q ⟨ρ,fr,h⟩=>?_⟩
 ·split at q
  ·refine⟨q.1,?_⟩;have q2:=q.2;split at q2
   ·exact w _ q2
   ·exact q2
  ·exact q
 ·refine ho.step fr h λro x H1 q S1 r1=>?_;split at q
  ·rename_i C' fs e;obtain⟨rfl,q⟩:=q;have cx:=r1.c;rw[e] at cx;obtain⟨a,dx,fs',rfl,ea,ra⟩:=cx.obj;split at q
   ·rename_i d hd;obtain⟨z,hz,rz⟩:=ra.lookup.2 d hd;exact⟨a,_,dx,fs',z,rfl,ea,c,n,hz,q _ H1 S1 rz⟩
   ·exact q.elim
  ·exact q.elim
end
end Z
namespace L2
noncomputable def LY(lo c:Int)(n:Nat):It:=⟨λi _=>i<n,λi H x H'=>H'=H/\x=.int (lo+i*c),λi _=>n<=i⟩
theorem zS(it:ah)(lo c:Int)(n:Nat):Turn P w K tg (LY lo c n) [it] it (λi h=>rn h it (lo+(i:Nat)*c) ((n:Int)-(i:Nat)) c) where
 mem:=by simp
 obj:=λi h st b hb=>by
  have e:b=it:=by simpa using hb
  subst e;exact⟨_,st,λv z=>by
   have z':VO _=Data.cell v:=z;cases z'⟩
 keep:=λi h h' st k=>k it (by simp) _ st
 item:=by
  intro X hP hw hK hc i pj s σ H E I hf st hg;subst hP hw hK;obtain⟨f0,f1,f2,f3,f4,f5⟩:=hf it (by simp);refine uK hg st λv h' tk hv st' kk=>?_;obtain⟨t,rfl⟩:=hv;have I1:Inv X pj σ H { s with heap:=h',toks:=tk }:=I.turned (λb o hb e=>kk b o (by simpa using hb) e) f0 f1 f3 f4 f5;exact⟨_,rfl,Ch (s:={ s with heap:=h',toks:=tk }) (n:="range_iterator") st' rfl rfl ∅ ⟨.int (lo+i*c),H,I1,⟨t,rfl⟩,⟨rfl,rfl⟩,st',λb hb=>(hf b hb).1⟩⟩
 done:=by
  intro X hP hw hK hc i pj s σ H E I hf st hg;subst hP hw hK;obtain⟨f0,f1,f2,f3,f4,f5⟩:=hf it (by simp);exact wX I.qu st (by have:n<=i:=hg;right) λh' eb=>⟨rfl,I.turned (t':=s.toks) (λb o hb e=>eb b o hb e) f0 f1 f3 f4 f5⟩
 self:=λ_ _ _ _ _ st h=>yc st h
noncomputable def NM(ta:TA):TI:=λσ H R=>ta σ H λvs H1=>∃i j c:Int,vs=[.int i,.int j,.int c]/\c≠0/\c.natAbs<1000/\vg i j c=aj/\0<=dj i j c/\R (LY i c (dj i j c).toNat) H1
theorem DE{a b c:Expr}{ta:TA}{pos:jw}(hg:Gl X "range")(hm:X.mg "range" = aq)(ha:PA X [a,b,c] ta)(hs:autoParam (ay [a,b,c] X.env=[(ap,fz a X.env),(ap,fz b X.env),(ap,fz c X.env)]) bV._auto_1)
  (hs2:autoParam (ay [b,c] X.env=[(ap,fz b X.env),(ap,fz c X.env)]) bV._auto_1):PI X tg (.Call (.Name "range" p) [a,b,c] [] pos) (NM ta):=by
 intro pj s σ H R I h;refine Call_ (oQ I hg hm UL (jb (thn (ha pos pj s σ H _ I h) λus s1 ⟨vs,H1,I1,r1,q1⟩=>?_) (by rw[hs,hs2]) (by rw[hs2];rfl)));obtain⟨i,j,c,e,q0,qs,q1,q2,q⟩:=q1;subst e;cases r1 with
 |cons r rr=>
  cases rr with
  |cons r' rr=>
   cases rr with
   |cons r'' rr=>
    cases rr;obtain⟨t,rfl⟩:=r;obtain⟨t',rfl⟩:=r';obtain⟨t'',rfl⟩:=r'';refine call_range_3 q0 ?_ (.inl (PyProof.noPylong_small ⋯));refine T0 (IsRange.new ..) q1 ?_;have I2:Inv X pj σ H1 { s1 with heap:=s1.heap.push { cls:=.type "range",data:=.fields #[.int i t,.int j t',.int c t''] },toks:=s1.toks }:=I1.kept λb o e=>ao _ e;refine⟨_,[_],_,_,H1,rfl,I2.kept (t':=s1.toks) λb o e=>ao _ e,zS _ i c (dj i j c).toNat,?_,λb hb=>?_,q⟩
    ·show rn _ _ (i+((0:Nat):Int)*c) ((((dj i j c).toNat:Nat):Int)-((0:Nat):Int)) c;have e1:i+((0:Nat):Int)*c=i:=by simp
     have e2:(((dj i j c).toNat:Nat):Int)-((0:Nat):Int)=dj i j c:=⋯;rw[e1,e2];exact bw _ rfl
    ·have e:b=_:=fv.mp hb;subst e;exact I2.fpOk (bj _) (I2.hok.fresh (bj _))
noncomputable def sK(lo:Int)(n:Nat):List V:=(gc n).map λ(k:Nat)=>V.int (lo+(k:Int))
theorem E9:eP X (.type "range") (λxs H Q=>∃j:Int,xs=[.int j] /\ ∀p,H p=aq->Q (.ref p) (upd H p (.rng 0 j))):=by
 intro pj s σ H xs us Q I r h;obtain⟨j,rfl,q⟩:=h;obtain⟨u,rfl,ru⟩:=iM r;obtain⟨t,rfl⟩:=ru;exact call_range_1 ⟨.ref s.heap.objs.size,_,I.laid (o:=.rng 0 j) (λb o e=>ao _ e) (bj _) ⟨_,_,_,bw _ rfl⟩,rfl,q _ (I.hok.fresh (bj _))⟩
theorem vP(hc:X.calm=aj):eP X (.type "list") (λxs H Q=>∃p lo hi,xs=[.ref p]/\H p=aa (.rng lo hi)/\(-(2 ^ 62)<=lo/\lo<2 ^ 62 /\ -(2 ^ 62)<=hi/\hi<2 ^ 62)/\(hi-lo).toNat<=1000000 /\ ∀l,H l=aq->Q (.ref l) (upd H l (.lst (sK lo (hi-lo).toNat)))):=by
 intro pj s σ H xs us Q I r h;obtain⟨p,lo,hi,rfl,hp,⟨b1,b2,b3,b4⟩,hn,q⟩:=h;obtain⟨u,rfl,ru⟩:=iM r;cases ru;obtain⟨t,t2,t3,e⟩:=I.hok _ _ hp;refine call_list_range (n:=(hi-lo).toNat) (I.ok.hd hc) e (small_one b1 b2 b3 b4) (by rw[rangeSize_one];split<;>right) ⋯ λh' tk acc c' hk hS hacc=>?_;refine⟨.ref s.heap.objs.size,_,I.laid (o:=.lst (sK lo (hi-lo).toNat)) hk (bj _) ?_,rfl,q _ (I.hok.fresh (bj _))⟩;have hl:acc.size=(hi-lo).toNat:=hacc.1;refine⟨by simp only[sK,bv,xi];rw[ie];right,acc.toList,c',?_,by simpa using hS⟩;have key:∀(n:Nat) (l:List af),l.length=n->(∀(i:Nat) (v:af),l[i]?=aa v -> ∃t,v=Value.int (lo+(i:Int)*1) t)->bI (sK lo n) l:=by
  intro n;induction n with
  |zero=>intro l hl _;rw[xw.mp hl];exact .nil
  |succ n ih=>
   intro l hl hi;have hne:l≠[]:=by intro z;rw[z] at hl;cases hl
   have e1:l=l.dropLast++[l.getLast hne]:=(vc hne).symm;rw[e1];unfold sK;rw[Uy,kx];have l1:l.dropLast.length=n:=by simp[hl]
   refine bI.append (ih l.dropLast l1 λi v hv=>hi i v ?_) (.cons ?_ .nil)
   ·have hlt:i<l.dropLast.length:=(da.mp hv).1;rw[e1,bo hlt];exact hv
   ·obtain⟨t,ht⟩:=hi n (l.getLast hne) (by simp[List.getLast_eq_getElem,hl]);rw[ht,VP];exact⟨t,rfl⟩
 refine key _ _ (by simpa using hl) λi v hv=>?_;exact hacc.2 i v (by simpa using hv)
end L2
namespace Z
open L2
variable {lo:Int}{P:Hp}{σ:St}{elts:List Expr}{x1:Nat}{tp:jw}
section
variable {a b c:Expr}{ta tb:dE}{ts:lB}{pos p2:jw}
noncomputable def oF(lo c:Int)(n:Nat):List Dv:=(gc n).map λ(k:Nat)=>Dv.int (lo+(k:Int)*c)
noncomputable def t7(ts:lB):C3:=λρ Q=>ts ρ λrs=>match rs.map R.d with
 | [.int i,.int j,.int c]=>(c≠0/\c.natAbs<1000/\vg i j c=aj/\0<=dj i j c)/\Q (oF i c (dj i j c).toNat) []
 |_=>False
theorem BN{c:Int}{d:Dv}(h:(oF lo c n)[i]?=aa d):i<n/\d=.int (lo+i*c):=by
 unfold oF at h;rw[cn] at h;cases e:(gc n)[i]? with
 |none=>rw[e] at h;cases h
 |some k=>
  rw[e] at h;obtain⟨h1,h2⟩:=da.mp e;simp at h1 h2;subst h2;exact⟨h1,(Option.some.inj h).symm⟩
theorem Ag{c:Int}:vS K P M H1 (LY lo c n) (oF lo c n) []:=by
 intro i H' M' S G _;refine⟨λd e=>?_,λh=>(show n<=i by simpa [oF] using h)⟩;obtain⟨h1,h2⟩:=BN e;subst h2;refine⟨h1,λy H'' zz=>?_⟩;obtain⟨e1,e2⟩:=zz;subst e1 e2;exact⟨aM.refl _,.int _⟩
theorem LL{d d' d'':Dv}(h:xI K M H xs [d,d',d'']):∃x y z,xs=[x,y,z]/\dL K M H x d/\dL K M H y d'/\dL K M H z d'':=by
 cases h with
 |cons a t=>
  obtain⟨y,z,rfl,b,c⟩:=GW t;exact⟨_,_,_,rfl,a,b,c⟩
theorem DB(hg:Gl X "range")(hm:X.mg "range" = aq)(ha:QA X [a,b,c] ts)(hs:autoParam (ay [a,b,c] X.env=[(ap,fz a X.env),(ap,fz b X.env),(ap,fz c X.env)]) bV._auto_1)
  (hs2:autoParam (ay [b,c] X.env=[(ap,fz b X.env),(ap,fz c X.env)]) bV._auto_1):QI X tg (.Call (.Name "range" p) [a,b,c] [] pos) (t7 ts):=by
 refine⟨λρ Q Q' w q=>ha.mono _ _ _ (λr q=>?_) q,λHZ F=>⟨_,DE hg hm (ha.run HZ F) hs hs2,λσ H ρ R fr q=>?_⟩⟩
 ·split at q
  ·exact⟨q.1,w _ _ q.2⟩
  ·exact q
 ·refine ha.step fr q λrs xs H1 q S1 r1=>?_;split at q
  ·rename_i i j c e;have cc:=r1.c;rw[e] at cc;obtain⟨x,y,z,rfl,cx,cy,cz⟩:=LL cc;obtain rfl:=cx.int;obtain rfl:=cy.int;obtain rfl:=cz.int;exact⟨i,j,c,rfl,q.1.1,q.1.2.1,q.1.2.2.1,q.1.2.2.2,q.2 _ H1 S1 (by intro p hp;simp at hp) Ag⟩
  ·exact q.elim
noncomputable def GP(ts:lB):dE:=λρ Q=>ts ρ λrs=>match rs.map R.d with
 | [.int j]=>(-(2 ^ 62)<=j/\j<2 ^ 62/\j.toNat<=1000000)/\Q (.nw (.lst (bW 0 j.toNat)))
 |_=>False
noncomputable def NX(ts:lB):dE:=λρ Q=>ts ρ λrs=>match rs.map R.d with
 | [.int i,.int j]=>((-(2 ^ 62)<=i/\i<2 ^ 62 /\ -(2 ^ 62)<=j/\j<2 ^ 62)/\(j-i).toNat<=1000000)/\Q (.nw (.lst (bW i (j-i).toNat)))
 |_=>False
theorem BL(lo:Int)(n:Nat):Reps K M H (sK lo n) (bW lo n):=by
 unfold sK bW;induction (gc n) with
 |nil=>exact .nil
 |cons k r ih=>exact .cons (.int _) ih
theorem pT{pos2:jw}(hc:X.calm=aj)(hg:Gl X "list")(hm:X.mg "list" = aq)(hg2:Gl X "range")(hm2:X.mg "range" = aq)(ha:QA X [a] ts)
  (h1:autoParam (ay [.Call (.Name "range" p2) [a] [] pos2] X.env=(ap,fz (.Call (.Name "range" p2) [a] [] pos2) X.env)::ay [] X.env) bV._auto_1) (h2:autoParam ((jd pos (ay [] X.env)).any (·.1)=ap) bV._auto_1)
  (h3:autoParam (ay [a] X.env=(ap,fz a X.env)::ay [] X.env) bV._auto_1) (h4:autoParam ((jd pos2 (ay [] X.env)).any (·.1)=ap) bV._auto_1):
  QE X (.Call (.Name "list" p) [.Call (.Name "range" p2) [a] [] pos2] [] pos) (GP ts):=by
 refine⟨λρ Q Q' w q=>ha.mono _ _ _ (λr q=>?_) q,λHZ F=>d6 (rE (vP hc) hg hm vt (gW (rE E9 hg2 hm2 UL (ha.run HZ F) ∅ ∅ h3 h4) oG h1) ∅ ∅ h1 h2) λσ H Q ⟨ρ,fr,q⟩=>?_⟩
 ·split at q
  ·exact⟨q.1,w _ q.2⟩
  ·exact q
 ·refine ha.step fr q λrs xs H1 q S1 r1=>?_;split at q
  ·rename_i j e;have cc:=r1.c;rw[e] at cc;obtain⟨x,rfl,cx⟩:=eL cc;obtain rfl:=cx.int;obtain⟨⟨b1,b2,b3⟩,q⟩:=q;refine⟨j,rfl,λr hr=>⟨r,0,j,rfl,bN,⟨⋯,⋯,b1,b2⟩,by rw[VA];exact b3,λl hl=>?_⟩⟩;have S2:aM H (upd (upd H1 r (.rng 0 j)) l (.lst (sK 0 (j-0).toNat))):=(S1.trans (aM.new' hr)).trans (aM.new' hl);rw[VA] at S2 ⊢;exact q _ _ S2 (dX.ahead (i4 hl (BL 0 _)) (S1.trans (aM.new' hr)))
  ·exact q.elim
noncomputable def sL(ds:List Dv):List Dv:=(ds.zipIdx).map λq=>.tup [.int (q.2:Int),q.1]
theorem Dt{d:Dv}(h:(sL ds)[i]?=aa d):∃d0,ds[i]?=aa d0/\d=.tup [.int i,d0]:=by
 unfold sL at h;rw[cn,List.getElem?_zipIdx] at h;cases e:ds[i]? with
 |none=>rw[e] at h;cases h
 |some d0=>
  rw[e] at h;refine⟨d0,rfl,?_⟩;simp at h;exact h.symm
noncomputable def yG(ts:lB):C3:=λρ Q=>ts ρ λrs=>match rs with
 | [.v (.lst ds)]=>Q (sL ds) []
 | [.nw (.lst ds)]=>Q (sL ds) []
 | [.ow a (.lst ds)]=>Q (sL ds) [(a,ds)]
 |_=>False
structure Walked(K:ak)(P:Hp)(M:ah->Prop)(H1:Hp)(a:ah)(ds:List Dv)(ogs:List (ah×List Dv)):Prop where
 at_:∀(H':Hp) (M':ah->Prop),aM P H'->Gen K M M' H1 H'->(∀p∈ogs,eO K M' H' p.1 (.lst p.2)) -> ∃xs,H' a=aa (.lst xs)/\Reps K M' H' xs ds
noncomputable def nO:R->List (ah×List Dv)
 | .ow a (.lst ds)=>[(a,ds)]
 |_=>[]
theorem walked{x:V}{r:R}(fr:Fr K HZ F σ H ρ)(S1:aM H H1)(r1:dX K (MM F ρ) (Z.zK ρ) H x r H1)(hd:r.d=.lst ds):
  ∃a xs,x=.ref a/\H1 a=aa (.lst xs)/\guard (nO r) ρ/\Walked K (prot H1 ρ) (MM F ρ) H1 a ds (nO r):=by
 cases r with
 |v d=>
  have e:d=.lst ds:=hd;subst e;cases r1 with
  |lst e m rs=>
   refine⟨_,_,rfl,e,by intro p hp;simp[nO] at hp,⟨λH' M' S G _=>⟨_,S _ _ (by rw[cO λc=>m (.inr c)];exact e),rs.gen G⟩⟩⟩
 |nw d=>
  have e:d=.lst ds:=hd;subst e;obtain⟨a,rfl,n,xs,e,rs⟩:=r1;exact⟨_,_,rfl,e,by intro p hp;simp[nO] at hp,⟨λH' M' S G _=>⟨_,S _ _ (by rw[cO λc=>fr.fresh n (.inr c)];exact e),(rs.weak λb z=>.inl z).gen G⟩⟩⟩
 |ow a d=>
  have e:d=.lst ds:=hd;subst e;obtain⟨rfl,m,xs,e,rs⟩:=r1;refine⟨_,_,rfl,e,by intro p hp;simp[nO] at hp;subst hp;exact m,⟨λH' M' S G ow=>?_⟩⟩;exact ow (a,ds) (by simp[nO])
theorem Dl{a:ah}{ogs:List (ah×List Dv)}(w:Walked K P M H1 a ds ogs):vS K P M H1 (Ol K a) (sL ds) ogs:=by
 intro i H' M' S G ow;obtain⟨xs,h',r⟩:=w.at_ H' M' S G ow;refine⟨λd e=>?_,λh=>⟨xs,fJ.of h',by rw[r.length];simpa [sL] using h⟩⟩;obtain⟨d0,e0,rfl⟩:=Dt e;obtain⟨x,hx,rx⟩:=r.get e0;refine⟨⟨xs,x,fJ.of h',hx⟩,λy H'' zz=>?_⟩;obtain⟨T,z,hT,e1,e2,hz⟩:=zz;subst e1 e2;have:=hz xs (fJ.of h');rw[hx] at this;cases this;exact⟨aM.new' hT,.tup bN (.cons (.int _) (.cons (rx.mono (aM.new' hT)) .nil))⟩
theorem HI(hg:Gl X "enumerate")(hm:X.mg "enumerate" = aq)(ha:QA X [a] ts)(hs:autoParam (ay [a] X.env=[(ap,fz a X.env)]) bV._auto_1):QI X (.Tuple elts x1 tp) (.Call (.Name "enumerate" p) [a] [] pos) (yG ts):=by
 refine⟨λρ Q Q' w q=>ha.mono _ _ _ (λr q=>?_) q,λHZ F=>⟨_,HY hg hm (ha.run HZ F) hs,λσ H ρ R fr q=>?_⟩⟩
 ·split at q<;>first | exact w _ _ q | exact q
 ·refine ha.step fr q λrs xs H1 q S1 r1=>?_;have one:∀{r:Z.R} {ds:List Dv},rs=[r]->r.d=.lst ds->(∀J H1',aM H H1'->guard (nO r) ρ->vS X.K (prot H1' ρ) (MM F ρ) H1' J (sL ds) (nO r)->R J H1') -> ∃a,xs=[V.ref a]/\(∃xs,fJ X.K H1 a xs)/\R (Ol X.K a) H1:=by
   intro r ds e hd k;subst e;cases r1 with
   |cons a1 t1=>
    cases t1;obtain⟨a,ys,rfl,ea,gd,wk⟩:=walked fr S1 a1 hd;exact⟨a,rfl,⟨ys,fJ.of ea⟩,k _ H1 S1 gd (Dl wk)⟩
  split at q
  ·exact one rfl rfl q
  ·exact one rfl rfl q
  ·exact one rfl rfl q
  ·exact q.elim
noncomputable def zO(xs ys:List Dv):List Dv:=TC (λx y=>.tup [x,y]) xs ys
noncomputable def Cd(ts:lB):C3:=λρ Q=>ts ρ λrs=>match rs with
 | [r,r']=>match r.d,r'.d with
  | .lst xs,.lst ys=>Q (zO xs ys) (nO r++nO r')
  |_,_=>False
 |_=>False
theorem G4{a b:ah}{es:List Dv}{o1 o2:List (ah×List Dv)}(w1:Walked K P M H1 a ds o1)(w2:Walked K P M H1 b es o2):vS K P M H1 (RA a b) (zO ds es) (o1++o2):=by
 intro i H' M' S G ow;obtain⟨xs,h1,r1⟩:=w1.at_ H' M' S G λp hp=>ow p (jy _ hp);obtain⟨ys,h2,r2⟩:=w2.at_ H' M' S G λp hp=>ow p (fj _ hp);refine⟨λd e=>?_,λh=>⟨xs,ys,h1,h2,?_⟩⟩
 ·unfold zO at e;rw[List.getElem?_zipWith] at e;cases e1:ds[i]? with
  |none=>rw[e1] at e;cases e
  |some d1=>
   cases e2:es[i]? with
   |none=>rw[e1,e2] at e;cases e
   |some d2=>
    rw[e1,e2] at e;cases e;obtain⟨x,hx,rx⟩:=r1.get e1;obtain⟨y,hy,ry⟩:=r2.get e2;refine⟨⟨xs,ys,x,y,h1,h2,hx,hy⟩,λz H'' zz=>?_⟩;obtain⟨T,z1,z2,hT,e3,e4,k1,k2⟩:=zz;subst e3 e4;have q1:=k1 xs h1;have q2:=k2 ys h2;rw[hx] at q1;rw[hy] at q2;cases q1;cases q2;exact⟨aM.new' hT,.tup bN (.cons (rx.mono (aM.new' hT)) (.cons (ry.mono (aM.new' hT)) .nil))⟩
 ·rw[r1.length,r2.length];simp only[zO,List.length_zipWith] at h;right
theorem Jf(hg:Gl X "zip")(hm:X.mg "zip" = aq)(ha:QA X [a,b] ts)(hs:autoParam (ay [a,b] X.env=[(ap,fz a X.env),(ap,fz b X.env)]) bV._auto_1)(hs2:autoParam (ay [b] X.env=[(ap,fz b X.env)]) bV._auto_1):
  QI X (.Tuple elts x1 tp) (.Call (.Name "zip" p) [a,b] [] pos) (Cd ts):=by
 refine⟨λρ Q Q' w q=>ha.mono _ _ _ (λr q=>?_) q,λHZ F=>⟨_,Jr hg hm (ha.run HZ F) hs hs2,λσ H ρ R fr q=>?_⟩⟩
 ·split at q
  ·split at q
   ·exact w _ _ q
   ·exact q
  ·exact q
 ·refine ha.step fr q λrs xs H1 q S1 r1=>?_;split at q
  ·rename_i r r';split at q
   ·rename_i ds es h1 h2;cases r1 with
    |cons a1 t1=>
     cases t1 with
     |cons a2 t2=>
      cases t2;obtain⟨a,ys,rfl,ea,gd,wk⟩:=walked fr S1 a1 h1;obtain⟨b,zs,rfl,eb,gd2,wk2⟩:=walked fr S1 a2 h2;refine⟨a,b,rfl,⟨ys,ea⟩,⟨zs,eb⟩,q _ H1 S1 (λp hp=>?_) (G4 wk wk2)⟩;rcases gf.mp hp with h | h
      ·exact gd p h
      ·exact gd2 p h
   ·exact q.elim
  ·exact q.elim
end
noncomputable def eT(env:wz):List (bn×ut)->List (bn×ah)->List (bn×ah)
 | [],acc=>acc
 | (n,k)::r,acc=>if (k == .free)=aj then (match env.cells.lookup n with | some c=>eT env r ((n,c)::acc) | none=>eT env r acc) else eT env r acc
variable {env:wz}
theorem nS(h:(Wk.names.all λy=>!(y.2 == .free) || (env.cells.lookup y.1).isSome)=aj):uh Wk env=io (eT env Wk.names []):=by
 unfold uh;have key:∀(l:List (bn×ut)) (acc:List (bn×ah)),(l.all λy=>!(y.2 == .free) || (env.cells.lookup y.1).isSome)=aj ->
   (forIn (m:=Ui) l acc λx r=>(match x with | (name,kind)=>if (kind==NameKind.free)=aj then (do let c <- cellOf env name;io (og ((name,c)::r))) else io (og r)))=io (eT env l acc):=by
  intro l;induction l with
  |nil=>intro acc _;rfl
  |cons y r ih=>
   intro acc hl;obtain⟨n,k⟩:=y;rw[VW,cg] at hl;rw[Uv];unfold eT;by_cases hk:(k==NameKind.free)=aj
   ·rw[Wj hk];have h1:(env.cells.lookup n).isSome=aj:=by
     have:=hl.1;simpa [hk] using this
    obtain⟨c,hc⟩:=xh.mp h1;have e:cellOf env n=io c:=by unfold cellOf;rw[hc]
    simp only[hk,if_true,e,hc];exact ih _ hl.2
   ·rw[VT hk];simp only[hk];exact ih _ hl.2
 dsimp only;have h2:=key Wk.names [] h;refine Eq.trans (congrArg (λt:Ui (List (bn×ah))=>t >>= λr=>io r) h2) ?_;rfl
theorem jV{env:wz}:∀(l:List (bn×ut)) (acc:List (bn×ah)),(∀q∈acc,env.cells.lookup q.1=aa q.2) -> ∀q∈eT env l acc,env.cells.lookup q.1=aa q.2
 | [],acc,h,q,hq=>h q hq
 | (n,k)::r,acc,h,q,hq=>by
  unfold eT at hq;split at hq
  ·split at hq
   ·rename_i c hc;refine jV r _ (λq' hq'=>?_) q hq;rcases dt.mp hq' with e | e
    ·rw[e];exact hc
    ·exact h q' e
   ·exact jV r acc h q hq
  ·exact jV r acc h q hq
theorem kP{env:wz}:∀(l:List (bn×ut)) (acc:List (bn×ah)),∀q∈acc,q∈eT env l acc
 | [],acc,q,hq=>hq
 | (n,k)::r,acc,q,hq=>by
  unfold eT;split
  ·split
   ·exact kP r _ q (di _ hq)
   ·exact kP r acc q hq
  ·exact kP r acc q hq
theorem iZ{env:wz}{x:bn}:∀(l:List (bn×ut)) (acc:List (bn×ah)),(l.all λy=>!(y.2 == .free) || (env.cells.lookup y.1).isSome)=aj->(x,NameKind.free)∈l -> ∃c,(x,c)∈eT env l acc
 | [],_,_,h=>by simp at h
 | (n,k)::r,acc,hl,h=>by
  rw[VW,cg] at hl;unfold eT;rcases dt.mp h with e | e
  ·cases e;rw[Wj (by rfl)];have h1:(env.cells.lookup x).isSome=aj:=by simpa using hl.1
   obtain⟨c,hc⟩:=xh.mp h1;rw[hc];exact⟨c,kP r _ _ (by simp)⟩
  ·split
   ·split
    ·exact iZ r _ hl.2 e
    ·exact iZ r _ hl.2 e
   ·exact iZ r _ hl.2 e
theorem jK{α:Type}{x:bn}{c:α}:∀{l:List (bn×α)},(x,c)∈l -> ∃c',l.lookup x=aa c'
 | (n,d)::r,h=>by
  rw[Uo];cases e:x==n with
  |true=>exact⟨d,rfl⟩
  |false=>
   rcases dt.mp h with z | z
   ·cases z;simp at e
   ·exact jK z
theorem pP{x:bn}(Wp:∀y∈Wk.names,y.2 ≠ .cell)(h:(gw Wk env).names.lookup x=aa .cell \/ (gw Wk env).names.lookup x=aa .free):(x,NameKind.free)∈Wk.names:=by
 have:(x,NameKind.cell)∈(gw Wk env).names \/ (x,NameKind.free)∈(gw Wk env).names:=h.imp gh gh;rcases this with h | h
 ·obtain⟨⟨n,k⟩,hm,e⟩:=jx.mp h;dsimp only at e;split at e
  ·rename_i hc;rw[cg,cg,beq_iff_eq] at hc;cases e;rw[hc.1.1] at hm;exact hm
  ·cases e;exact absurd rfl (Wp _ hm)
 ·obtain⟨⟨n,k⟩,hm,e⟩:=jx.mp h;dsimp only at e;split at e
  ·cases e
  ·cases e;exact hm
section
variable {pos:jw}
theorem u7{elt iter tgt:Expr}(tgs ns:List bn)(js:List Nat){k:Nat}{ti:C3}{g:zE}{tt:l6}(hc:X.N=X.N)(hi:QI X tgt iter ti)
  (hg:∀(fp:List ah) (s:ai) (H:Hp),QG (p8 X Wk (eT X.env Wk.names []) fp (tgs++ns) s H) tgt k g) (ht:∀(fp:List ah) (s:ai) (H:Hp),QTs (p8 X Wk (eT X.env Wk.names []) fp (tgs++ns) s H) ifs tt)
  (he:∀(fp:List ah) (s:ai) (H:Hp),QE (p8 X Wk (eT X.env Wk.names []) fp (tgs++ns) s H) elt te) (hk:autoParam (tgs.length=k) bV._auto_1)
  (hall:autoParam ((Wk.names.all λy=>!(y.2 == .free) || (X.env.cells.lookup y.1).isSome)=aj) bV._auto_1) (hjs:autoParam (js.map (λj=>X.N[j]?)=ns.map aa) bV._auto_1)
  (hin:autoParam ((ns.all λy=>(gw Wk X.env).names.lookup y==aa .cell || (gw Wk X.env).names.lookup y==aa .free)=aj) bV._auto_1) (WE:autoParam ((ns.all λy=>X.env.kindOf y==aa .cell || X.env.kindOf y==aa .free)=aj) bV._auto_1)
  (nd:autoParam (js.Nodup) kX._auto_1) (Wp:autoParam (∀y∈Wk.names,y.2 ≠ .cell) C8._auto_1) (Ws:autoParam (Wk.kind=.function) bV._auto_1)
  (Wq:autoParam (∀y∈Wk.names,y.2=.local->Wk.names.lookup y.1=aa .local) C8._auto_1) (hs:autoParam (∀z,ic iter X.env z=io z) Gp._auto_1):
  QE X (.ListComp elt [⟨tgt,iter,ifs,0⟩] Wk pos) (fF k js ti g tt te):=by
 refine Jg hc hk hi hg ht he (nS hall) (λx c e=>jV Wk.names [] (by simp) (x,c) (gh e)) (λx h=>?_) hjs (λy hy=>?_) (λy hy=>?_) nd Wp Ws Wq hs
 ·obtain⟨c,hc⟩:=iZ Wk.names [] hall (pP Wp h);exact jK hc
 ·have:=ux.mp hin y hy;simpa using this
 ·have:=ux.mp WE y hy;simpa using this
end
open Classical in
noncomputable def nG(h:cm)(db:Vy)(u:af):Bool:=if q:∃d as,Vn h u d as then ir (choose q) db else ap
theorem Ci{db d:Vy}{as:List ah}(ok:d.canLay0=aj)(r:Vn h u d as):nG h db u=ir d db:=by
 unfold nG;have q:∃d as,Vn h u d as:=⟨d,as,r⟩;rw[dif_pos q];obtain⟨as',r'⟩:=Classical.choose_spec q;rw[Wa d _ u as as' ok r r']
theorem mS(I:Inv X pj σ H s){db:Vy}{dx:Dv}(hb:db=fC dx):∀{xs:List V} {ds:List Dv} {us:List af},Reps X.K M H xs ds->okDs 8 ds=aj->bI xs us->us.any (nG s.heap db)=ds.any λd=>eqD d dx
 |_,_,_,.nil,_,r=>by cases r;rfl
 |_,_,_,.cons a q,ok,r=>by
  have ok':(dQ 8 _&&okDs 8 _)=aj:=ok;rw[cg] at ok';cases r with
  |cons r1 r2=>
   obtain⟨as,ra⟩:=Rep.reads I a ok'.1 r1;rw[wn,wn,mS I hb q ok'.2 r2,Ci (qC 8 _ ok'.1).1 ra,hb];rfl
theorem mE(I:Inv X pj σ H s){A:cf}{v:af}{dx:Dv}{bs:List ah}(rb:Vn s.heap v (fC dx) bs)(ob:dQ 8 dx=aj)(hu:A.units+64<lq):∀{xs:List V} {ds:List Dv} {us:List af},Reps X.K M H xs ds->okDs 8 ds=aj->bI xs us -> ∀u∈us,SeqAt.EqAt A s u v (nG s.heap (fC dx) u)
 |_,_,_,.nil,_,r,u,hm=>by cases r;simp at hm
 |_,_,_,.cons a q,ok,r,u,hm=>by
  have ok':(dQ 8 _&&okDs 8 _)=aj:=ok;rw[cg] at ok';cases r with
  |cons r1 r2=>
   rcases dt.mp hm with e | hm
   ·subst e;obtain⟨as,ra⟩:=Rep.reads I a ok'.1 r1;obtain⟨l1,l2⟩:=qC 8 _ ok'.1;obtain⟨m1,m2⟩:=qC 8 _ ob;rw[Ci l1 ra];exact SeqAt.eqAt_reads _ _ A s u v as bs ra rb l1 m1 ⋯
   ·exact mE I rb ob hu q ok'.2 r2 u hm
noncomputable def MT(K:ak)(neg:Bool):R2:=λx y H Q=>∃M dx ds p xs,dL K M H x dx/\y=.ref p/\(fJ K H p xs \/ jP K H p xs)/\Reps K M H xs ds/\dQ 8 dx=aj/\okDs 8 ds=aj /\
 Q (.bl (if neg then !(ds.any λd=>eqD d dx) else ds.any λd=>eqD d dx)) H
theorem n8(h:A.units+65<lq):A.in1.units+64<lq:=by
 have:A.in1.units<=A.units+1:=by unfold Around.in1;simp[Around.units]
 right
theorem KN(hu:X.A.units+65<lq):jY X (ed .In) (MT X.K ap):=by
 intro pj s σ H x y v u Q I rx ry h;obtain⟨M,dx,ds,p,xs,cx,rfl,hq,rs,o1,o2,q⟩:=h;cases ry;obtain⟨bs,rb⟩:=cx.reads I o1 rx;rcases hq with hq | hq
 ·obtain⟨its,r,pl,hz⟩:=I.list hq;refine SeqAt.in_listAt (nG s.heap (fC dx)) pl.isList (λw hw=>mE I rb o1 (n8 hu) rs o2 r w (by simpa using hw)) ⟨.bl _,H,I,rfl,?_⟩;rw[show its.toArray.any (nG s.heap (fC dx))=its.any (nG s.heap (fC dx)) by simp,mS I rfl rs o2 r];exact q
 ·obtain⟨its,r,pl,hz⟩:=I.tuple hq;refine SeqAt.in_tupleAt (nG s.heap (fC dx)) pl (λw hw=>mE I rb o1 (n8 hu) rs o2 r w (by simpa using hw)) ⟨.bl _,H,I,rfl,?_⟩;rw[show its.toArray.any (nG s.heap (fC dx))=its.any (nG s.heap (fC dx)) by simp,mS I rfl rs o2 r];exact q
theorem DS(hu:X.A.units+65<lq):jY X (ed .NotIn) (MT X.K aj):=by
 intro pj s σ H x y v u Q I rx ry h;obtain⟨M,dx,ds,p,xs,cx,rfl,hq,rs,o1,o2,q⟩:=h;cases ry;obtain⟨bs,rb⟩:=cx.reads I o1 rx;rcases hq with hq | hq
 ·obtain⟨its,r,pl,hz⟩:=I.list hq;refine SeqAt.notIn_listAt (nG s.heap (fC dx)) pl.isList (λw hw=>mE I rb o1 (n8 hu) rs o2 r w (by simpa using hw)) ⟨.bl _,H,I,rfl,?_⟩;rw[show its.toArray.any (nG s.heap (fC dx))=its.any (nG s.heap (fC dx)) by simp,mS I rfl rs o2 r];exact q
 ·obtain⟨its,r,pl,hz⟩:=I.tuple hq;refine SeqAt.notIn_tupleAt (nG s.heap (fC dx)) pl (λw hw=>mE I rb o1 (n8 hu) rs o2 r w (by simpa using hw)) ⟨.bl _,H,I,rfl,?_⟩;rw[show its.toArray.any (nG s.heap (fC dx))=its.any (nG s.heap (fC dx)) by simp,mS I rfl rs o2 r];exact q
end Z
variable {sp:Z.Fn}
namespace Z
open L2
theorem CA{k:Nat}(r:Room k A):A.units+65<lq:=by have:=r.un;right
noncomputable def AL:Dv->Dv->(R->Prop)->Prop
 | .int i,.int j,Q=>j≠0/\Q (.v (.int (i.fmod j)))
 |_,_,_=>False
noncomputable def isB(b:Bool):Dv->Bool
 | .bl c=>c==b
 |_=>ap
noncomputable def Px:Dv->Dv->(R->Prop)->Prop
 |d,.bl b,Q=>Q (.v (.bl (isB b d)))
 |_,_,_=>False
noncomputable def Mo:Dv->Dv->(R->Prop)->Prop
 |d,.bl b,Q=>Q (.v (.bl (!isB b d)))
 |_,_,_=>False
theorem FL:vR X (gz .Mod) AL:=by
 refine⟨λdx dy Q Q' w h=>?_,_,Hl,λM O H x y dx dy Q cx cy h=>?_⟩
 ·unfold AL at h;split at h
  ·exact⟨h.1,w _ h.2⟩
  ·exact h.elim
 ·unfold AL at h;split at h
  ·obtain rfl:=cx.int;obtain rfl:=cy.int;exact⟨_,_,rfl,rfl,h.1,h.2 _ H (aM.refl _) (Rep.int _)⟩
  ·exact h.elim
noncomputable def Iw(i:Nat)(tk tv:dE):cI:=λE ρ=>match ρ[i]? with
 |some (.own a (.lst xs))=>tv ρ λr=>tk ρ λk=>match k.d with
  | .int n=>match rL xs.length n with
   |some j=>r.free=aj/\E.nx (ρ.set i (.own a (.lst (xs.set j r.d))))
   |none=>False
  |_=>False
 |_=>False
noncomputable def inD(d:Dv)(ds:List Dv):Bool:=ds.any λe=>eqD e d
noncomputable def J6:Dv->Dv->(R->Prop)->Prop
 |d,.lst ds,Q=>(dQ 8 d=aj/\okDs 8 ds=aj)/\Q (.v (.bl (inD d ds)))
 |d,.tup ds,Q=>(dQ 8 d=aj/\okDs 8 ds=aj)/\Q (.v (.bl (inD d ds)))
 |_,_,_=>False
noncomputable def uC:Dv->Dv->(R->Prop)->Prop
 |d,.lst ds,Q=>(dQ 8 d=aj/\okDs 8 ds=aj)/\Q (.v (.bl (!inD d ds)))
 |d,.tup ds,Q=>(dQ 8 d=aj/\okDs 8 ds=aj)/\Q (.v (.bl (!inD d ds)))
 |_,_,_=>False
theorem FN(hu:X.A.units+65<lq)(_hu1:X.A.units+1<lq):vR X (ed .In) J6:=by
 refine⟨λdx dy Q Q' w h=>?_,_,KN hu,λM O H x y dx dy Q cx cy h=>?_⟩
 ·unfold J6 at h;split at h
  ·exact⟨h.1,w _ h.2⟩
  ·exact⟨h.1,w _ h.2⟩
  ·exact h.elim
 ·unfold J6 at h;split at h
  ·obtain⟨a,xs,rfl,ea,ra⟩:=cy.lst;exact⟨M,_,_,a,xs,cx,rfl,.inl (fJ.of ea),ra,h.1.1,h.1.2,h.2 _ H (aM.refl _) (Rep.bl _)⟩
  ·obtain⟨a,xs,rfl,ea,ra⟩:=cy.tup;exact⟨M,_,_,a,xs,cx,rfl,.inr (jP.of ea),ra,h.1.1,h.1.2,h.2 _ H (aM.refl _) (Rep.bl _)⟩
  ·exact h.elim
theorem DR(hu:X.A.units+65<lq)(_hu1:X.A.units+1<lq):vR X (ed .NotIn) uC:=by
 refine⟨λdx dy Q Q' w h=>?_,_,DS hu,λM O H x y dx dy Q cx cy h=>?_⟩
 ·unfold uC at h;split at h
  ·exact⟨h.1,w _ h.2⟩
  ·exact⟨h.1,w _ h.2⟩
  ·exact h.elim
 ·unfold uC at h;split at h
  ·obtain⟨a,xs,rfl,ea,ra⟩:=cy.lst;exact⟨M,_,_,a,xs,cx,rfl,.inl (fJ.of ea),ra,h.1.1,h.1.2,h.2 _ H (aM.refl _) (Rep.bl _)⟩
  ·obtain⟨a,xs,rfl,ea,ra⟩:=cy.tup;exact⟨M,_,_,a,xs,cx,rfl,.inr (jP.of ea),ra,h.1.1,h.1.2,h.2 _ H (aM.refl _) (Rep.bl _)⟩
  ·exact h.elim
structure QX(X:Cx)(st:jl)(i:Nat)(te:dE):Prop where
 mono:∀(ρ:List Sl) (Q Q':R->Prop),(∀r,Q r->Q' r)->te ρ Q->te ρ Q'
 run:∀(HZ:Hp) (F:ah->Prop),PS X st (HA (lift X.K HZ F te) (Ah i))
variable {σ:St}{st:jl}
section
variable {pos:jw}
theorem QX.step{Q':VK}(h:QX X st i te)(fr:Fr X.K HZ F σ H ρ)(q:te ρ Q)
  (k:∀r x H',Q r->aM H H'->dX X.K (MM F ρ) (zK ρ) H x r H'->Q' x H'):lift X.K HZ F te σ H Q':=⟨ρ,fr,h.mono _ _ _ (λr qr x H' S rx=>k r x H' qr S rx) q⟩
theorem BP(he:QX X st i te):QS X st (bB i te):=by
 refine⟨λE E' ρ w h=>he.mono _ _ _ (λr q=>?_) h,λHZ F=>eM (he.run HZ F) λD σ H ⟨ρ,E,fr,h,en⟩=>?_⟩
 ·cases r with
  |v d=>exact w.nx _ q
  |nw d=>exact w.nx _ q
  |ow a d=>exact q
 ·refine he.step fr h λr x H1 q S1 r1=>?_;cases r with
  |v d=>exact en.nx _ _ _ ((fr.mono S1).setv r1) q
  |nw d=>exact en.nx _ _ _ ((fr.mono S1).setv (r1.rep (λa m=>fr.dom m) rfl)) q
  |ow a d=>exact q.elim
end
variable {y:bn}{py spos:jw}{iy:Nat}{elt iter tgt:Expr}{ti:C3}{tt:l6}
section
variable {pos:jw}
theorem HJ{cl:List (bn×ah)}{tgs ns:List bn}{js:List Nat}{k:Nat}{g:zE}(hN:X.N.Nodup)(hi2:X.N[iy]?=aa y)(hx2:Gs X.env.scope y)(hc:X.N=X.N)(hk:tgs.length=k)
  (hi:QI X tgt iter ti) (hg:∀(fp:List ah) (s:ai) (H:Hp),QG (p8 X Wk cl fp (tgs++ns) s H) tgt k g) (ht:∀(fp:List ah) (s:ai) (H:Hp),QTs (p8 X Wk cl fp (tgs++ns) s H) ifs tt)
  (he:∀(fp:List ah) (s:ai) (H:Hp),QE (p8 X Wk cl fp (tgs++ns) s H) elt te)
  (WD:uh Wk X.env=io cl) (Wx:∀x c,cl.lookup x=aa c->X.env.cells.lookup x=aa c)
  (WI:∀x,((gw Wk X.env).names.lookup x=aa .cell \/ (gw Wk X.env).names.lookup x=aa .free) -> ∃c,cl.lookup x=aa c)
  (hjs:js.map (λj=>X.N[j]?)=ns.map aa) (hin:∀y∈ns,(gw Wk X.env).names.lookup y=aa .cell \/ (gw Wk X.env).names.lookup y=aa .free)
  (WE:∀y∈ns,X.env.kindOf y=aa .cell \/ X.env.kindOf y=aa .free) (nd:js.Nodup)
  (Wp:autoParam (∀y∈Wk.names,y.2 ≠ .cell) C8._auto_1) (Ws:autoParam (Wk.kind=.function) bV._auto_1)
  (Wq:autoParam (∀y∈Wk.names,y.2=.local->Wk.names.lookup y.1=aa .local) C8._auto_1)
  (hs:autoParam (∀z,ic iter X.env z=io z) Gp._auto_1)
  (hsw:autoParam (ji (.ListComp elt [⟨tgt,iter,ifs,0⟩] Wk pos) (aa (.Name y py)) spos.line X.env=io aj) bV._auto_1) (hf:autoParam (X.fn y=aj \/ X.env.scope.names.lookup y=aa .local) Gq._auto_1):
  QX X (.Assign [.Name y py] (.ListComp elt [⟨tgt,iter,ifs,0⟩] Wk pos) spos) iy (fF k js ti g tt te):=by
 have mg:=(hg [] X.s₀ λ_=>aq).mono;have ag:=(hg [] X.s₀ λ_=>aq).agree;have mt:=(ht [] X.s₀ λ_=>aq).mono;have me:=(he [] X.s₀ λ_=>aq).mono;refine⟨λρ Q Q' w h=>hi.mono _ _ _ (λds ogs h=>jD mg mt me ds [] Q Q' w h) h,λHZ F=>?_⟩;obtain⟨wi,hwi,wiq⟩:=hi.run HZ F
 suffices key:∀σ H Q,lift X.K HZ F (fF k js ti g tt te) σ H Q->xM wi tgs.length js (liftG X.K k g) (λσ H Q=>∃HZ F,liftT X.K HZ F tt σ H Q) (λσ H Q=>∃HZ F,lift X.K HZ F te σ H Q) σ H Q from
  eM (F6 (tgs:=tgs) (ns:=ns) (js:=js) (g:=liftG X.K k g) (tt:=λσ H Q=>∃HZ F,liftT X.K HZ F tt σ H Q) (te:=λσ H Q=>∃HZ F,lift X.K HZ F te σ H Q) hN hi2 hx2 hc hwi (λfp s H=>(hg fp s H).pg) (λfp s H=>(ht fp s H).pt) (λfp s H=>(he fp s H).pe) WD Wx WI hjs hin WE Wp Ws Wq hs hsw hf) λD σ H h=>key σ H _ h
 intro σ H Q ⟨ρ,fr,h⟩;subst hk;refine wiq σ H ρ _ fr (hi.mono _ _ _ (λds ogs q J H1 S1 gd ok=>?_) h);intro D hD;have fr1:=fr.mono S1;refine⟨λi m acc H2=>m=ds.length-i/\i<=ds.length/\aM H1 H2 /\ ∃accD,Reps X.K (λa=>MM F ρ a \/ a=D) H2 acc accD /\
  d9 (av tgs.length .un++eN js ρ) g tt te (ds.drop i) accD (λr=>∀x H',aM H H'->dX X.K (MM F ρ) (zK ρ) H x r H'->Q x H'),
  ⟨ds.length,by simp,lj _,aM.new' hD,[],.nil,by simpa using q⟩,?_⟩
 rintro i m acc H2 ⟨rfl,hil,S2,accD,ra,q⟩ hDl;have G2:Gen X.K (MM F ρ) (λa=>MM F ρ a \/ a=D) H1 H2:=(Gen.fresh hD).trans (.mono S2);have oks:=ok i H2 (λa=>MM F ρ a \/ a=D) (λb o e=>S2 _ _ (mY e)) G2 λp hp=>by
  obtain⟨_,_,_,ow⟩:=fr1.at_own (gd p hp);exact ow.gen G2 λo e=>S2 _ _ e
 by_cases hlt:i<ds.length
 ·have hd:ds[i]?=aa ds[i]:=by simp[hlt]
  rw[gr hlt] at q;obtain⟨go,yld⟩:=oks.1 _ hd;refine .inr ⟨go,λy H3 hy old lo=>?_⟩;obtain⟨S3,ry⟩:=yld y H3 hy;have hD3:=S3 _ _ hDl;obtain⟨P,F',fr',iff,iffF⟩:=fr1.block (js:=js) (old:=old) (S2.trans S3) hD (by rw[hD3];simp) nd lo;refine⟨_,P,F',_,fr',ry.weak λa z=>(iff a).mp z,mg _ _ _ _ (λρ1 q1 σ1 f1 a1=>?_) (ag _ _ _ q)⟩;obtain⟨q1,l1,b1⟩:=q1;have up:∀a,MM F ρ a \/ a=D->MM F' ρ1 a:=λa z=>by
   rcases(iff a).mpr z with z | ⟨d,z⟩
   ·exact .inl z
   ·refine .inr ⟨d,?_⟩;obtain⟨j,e⟩:=ui.mp z;have hj:tgs.length<=j:=by
     by_cases hj:j<tgs.length
     ·rw[bo (by simpa using hj),iz,Wj hj] at e;cases e
     ·right
    rw[<- b1 j hj] at e;exact eg e
  have hlen:σ1.length=tgs.length+(pick js σ).length:=by
   have:=f1.len;rw[l1] at this;simp[pick,eN] at this ⊢;right
  refine⟨⟨σ1.take tgs.length,by rw[fw];right,zY lo hlen a1⟩,P,F',ρ1,f1,mt _ _ _ (λb q5 H5 S5=>?_) q1⟩;have S25:=(S2.trans S3).trans S5;cases b with
  |true=>
   simp only[if_true] at q5;refine rM ⟨P,F',ρ1,f1.mono S5,me _ _ _ (λr q6 x H6 S6 rx=>?_) q5⟩;have hD6:=S6 _ _ (S5 _ _ hD3);obtain⟨⟨rf,rl⟩,q6⟩:=q6;have rep:=(rx.rep (λa z=>(f1.mono S5).dom z) rf).weak up;refine⟨hD6,by rw[ra.length];exact yE rl,ds.length-(i+1),⋯,rfl,hlt,λb o e=>?_,_,?_,q6⟩
   ·rw[b9 (bF e hD)];exact S6 _ _ (S25 _ _ e)
   ·have G6:Gen X.K (λa=>MM F ρ a \/ a=D) (λa=>MM F ρ a \/ a=D) H6 (upd H6 D (.lst (acc++[x]))):=Gen.write (.inr rfl) (by rw[hD6];trivial);exact((ra.mono ((S3.trans S5).trans S6)).append (.cons rep .nil)).gen G6
  |false=>
   simp only[gg,if_false] at q5;exact rN ⟨S5 _ _ hD3,ds.length-(i+1),⋯,rfl,hlt,S25,accD,ra.mono (S3.trans S5),q5⟩
 ·have e:i=ds.length:=⋯;subst e;rw[uw] at q;exact .inl ⟨oks.2 (bj _),q (.ref D) H2 (S1.trans S2) ⟨D,rfl,S1.free hD,acc,hDl,ra⟩⟩
theorem Er(tgs ns:List bn)(js:List Nat){k:Nat}{g:zE}(hN:X.N.Nodup)(hi2:X.N[iy]?=aa y)(hx2:Gs X.env.scope y)(hc:X.N=X.N)(hi:QI X tgt iter ti)
  (hg:∀(fp:List ah) (s:ai) (H:Hp),QG (p8 X Wk (eT X.env Wk.names []) fp (tgs++ns) s H) tgt k g) (ht:∀(fp:List ah) (s:ai) (H:Hp),QTs (p8 X Wk (eT X.env Wk.names []) fp (tgs++ns) s H) ifs tt)
  (he:∀(fp:List ah) (s:ai) (H:Hp),QE (p8 X Wk (eT X.env Wk.names []) fp (tgs++ns) s H) elt te) (hk:autoParam (tgs.length=k) bV._auto_1)
  (hall:autoParam ((Wk.names.all λy=>!(y.2 == .free) || (X.env.cells.lookup y.1).isSome)=aj) bV._auto_1) (hjs:autoParam (js.map (λj=>X.N[j]?)=ns.map aa) bV._auto_1)
  (hin:autoParam ((ns.all λy=>(gw Wk X.env).names.lookup y==aa .cell || (gw Wk X.env).names.lookup y==aa .free)=aj) bV._auto_1) (WE:autoParam ((ns.all λy=>X.env.kindOf y==aa .cell || X.env.kindOf y==aa .free)=aj) bV._auto_1)
  (nd:autoParam (js.Nodup) kX._auto_1) (Wp:autoParam (∀y∈Wk.names,y.2 ≠ .cell) C8._auto_1) (Ws:autoParam (Wk.kind=.function) bV._auto_1)
  (Wq:autoParam (∀y∈Wk.names,y.2=.local->Wk.names.lookup y.1=aa .local) C8._auto_1) (hs:autoParam (∀z,ic iter X.env z=io z) Gp._auto_1)
  (hsw:autoParam (ji (.ListComp elt [⟨tgt,iter,ifs,0⟩] Wk pos) (aa (.Name y py)) spos.line X.env=io aj) bV._auto_1) (hf:autoParam (X.fn y=aj \/ X.env.scope.names.lookup y=aa .local) Gq._auto_1):
  QX X (.Assign [.Name y py] (.ListComp elt [⟨tgt,iter,ifs,0⟩] Wk pos) spos) iy (fF k js ti g tt te):=by
 refine HJ hN hi2 hx2 hc hk hi hg ht he (nS hall) (λx c e=>jV Wk.names [] (by simp) (x,c) (gh e)) (λx h=>?_) hjs (λy hy=>?_) (λy hy=>?_) nd Wp Ws Wq hs hsw hf
 ·obtain⟨c,hc⟩:=iZ Wk.names [] hall (pP Wp h);exact jK hc
 ·have:=ux.mp hin y hy;simpa using this
 ·have:=ux.mp WE y hy;simpa using this
end
noncomputable def Mx:Dv->Dv->(R->Prop)->Prop
 | .int i,.int j,Q=>Q (.v (.int (i+j)))
 | .str x,.str y,Q=>x.length+y.length<=zM/\Q (.v (.str (x++y)))
 |_,_,_=>False
noncomputable def Mt:Dv->Dv->(R->Prop)->Prop
 | .int i,.int j,Q=>Q (.v (.int (i-j)))
 |_,_,_=>False
noncomputable def Mv:Dv->Dv->(R->Prop)->Prop
 | .int i,.int j,Q=>l9 i j/\Q (.v (.int (i*j)))
 |_,_,_=>False
noncomputable def D9(te:dE)(g:zE):cI:=λE ρ=>te ρ λr=>r.free=aj/\g r.d ρ E.nx
theorem Ev{g:zE}{k:Nat}{pos:jw}(he:QE X e te)(hg:QG X tg k g)(hs:autoParam (swapsWithSole [tg] e pos.line X.env=io ap) bV._auto_1)(hw:autoParam (swappedStores [tg] e X.env=io aq) bV._auto_1)
  (h1:autoParam ((pi [tg] X.env).map (·.2)=[SZ tg X.env]) bV._auto_1):QS X (.Assign [tg] e pos) (D9 te g):=by
 obtain⟨t,ht,hr⟩:=hg.run;refine⟨λE E' ρ w h=>he.mono _ _ _ (λr q=>⟨q.1,hg.mono _ _ _ _ (λρ q=>w.nx _ q) q.2⟩) h,λHZ F=>eM (Jq (he.run HZ F) ht hs hw h1) λD σ H zz=>?_⟩;obtain⟨ρ,E,fr,h,en⟩:=zz;refine he.step fr h λr x H1 q S1 r1=>?_;have rep:=r1.rep (λa m=>fr.dom m) q.1;exact hr HZ F x r.d σ H1 ρ _ (fr.mono S1) rep (hg.mono _ _ _ _ (λρ1 q σ1 fr1 _=>en.nx _ _ _ fr1 q) q.2)
theorem Ek{a b c:Expr}{ta tb tc:dE}{pos:jw}{op op':Uj}{f f':Int->Int->Bool}(ho:jY X (ed op) (BO λi j=>.bl (f i j)))(ho':jY X (ed op') (BO λi j=>.bl (f' i j)))(ha:QE X a ta)(hb:QE X b tb)(hc:QE X c tc)
  (hm:autoParam (TY [op,op'] [b,c]=ap) Nt._auto_1):QT X (.Compare a [op,op'] [b,c] pos) (bS (rR (wJ f) (wJ f') ta tb tc)):=by
 have Q0:=HL (pos:=pos) ho ho' ha hb hc hm;have low:∀(HZ:Hp) (F:ah->Prop) (σ:St) (H:Hp) (Q:VK),lift X.K HZ F (rR (wJ f) (wJ f') ta tb tc) σ H Q->BE (BO λi j=>.bl (f i j)) (BO λi j=>.bl (f' i j)) (lift X.K HZ F ta) (lift X.K HZ F tb) (lift X.K HZ F tc) σ H Q:=by
  rintro HZ F σ H Q ⟨ρ,fr,q⟩;refine ha.step fr q λrx x H1 q1 S1 r1=>?_;refine hb.step (fr.mono S1) q1 λry y H2 q2 S2 r2=>?_;have cx:=(r1.mono S2).c;have cy:=r2.c;generalize rx.d=dx at q2 cx;generalize ry.d=dy at q2 cy;unfold wJ at q2;split at q2
  ·rename_i Q2 i j;obtain rfl:=cx.int;obtain rfl:=cy.int;refine⟨_,_,rfl,rfl,f i j,rfl,?_⟩;have S12:=S1.trans S2;replace q2:=(show (if f i j=aj then tc ρ (λw=>wJ f' (.int j) w.d (λr=>∀x H',aM H H'->dX X.K (MM F ρ) (Z.zK ρ) H x r H'->Q x H')) else (∀x H',aM H H'->dX X.K (MM F ρ) (Z.zK ρ) H x (.v (.bl ap)) H'->Q x H')) from q2);cases h:f i j with
   |true=>
    rw[h] at q2;simp only[if_true] at q2;refine rM (hc.step ((fr.mono S1).mono S2) q2 λrw' z H3 q3 S3 r3=>?_);have cz:=r3.c;generalize rw'.d=dz at q3 cz;cases dz with
    |int l=>
     obtain rfl:=cz.int;exact⟨_,_,rfl,rfl,q3 _ H3 (S12.trans S3) (Rep.bl _)⟩
    |_=>exact(show False from q3).elim
   |false=>
    rw[h] at q2;simp only[gg,if_false] at q2;exact rN (q2 _ H2 S12 (Rep.bl _))
  ·exact q2.elim
 refine⟨λρ Q Q' w q=>uQ Q0.mono ρ Q Q' w q,λHZ F=>zF (F1 ho ho' (ha.run HZ F) (hb.run HZ F) (hc.run HZ F) hm) λσ H Q zz=>?_⟩;obtain⟨ρ,fr,q⟩:=zz;refine low HZ F σ H _ (Q0.step fr q λr x H1 q S1 r1=>?_);have cx:=r1.c;generalize r.d=d at q cx;split at q
 ·obtain rfl:=cx.bl;exact⟨_,rfl,q H1 S1⟩
 ·exact q.elim
variable {f:bn}
section
variable {pos:jw}
noncomputable def D8(i:Nat)(te:dE):cI:=λE ρ=>match ρ[i]? with
 |some (.own a (.lst xs))=>te ρ λr=>match r.d with
  | .lst ys=>xs.length+ys.length<=zM/\E.nx (ρ.set i (.own a (.lst (xs++ys))))
  |_=>False
 |_=>False
theorem MX{x:bn}{p1 p2 p3:jw}(hv:PE X (.Name x p1) (zV i))(he:QE X e te)(hs:autoParam (ji (.Call (.Attribute (.Name x p1) "extend" p2) [e] [] p3) aq pos.line X.env=io ap) bV._auto_1)
  (WB:autoParam (mq (.Name x p1) "extend" X.env (fz (.Name x p1) X.env)=fz (.Name x p1) X.env) bV._auto_1)
  (hfew:autoParam (((jd p3 (ay [e] X.env)).all (λx=>!x.1)&&(Tp p3 (xg [] X.env)).all (λx=>x.1.isSome)
   && decide ([e].length+([]:List Si).length+(if ([]:List Si).isEmpty then 0 else 1)<30))=aj) bV._auto_1)
  (WC:autoParam ((p2.endLine==p3.line)=aj) bV._auto_1) (hst:autoParam (ay [e] X.env=(ap,fz e X.env)::ay [] X.env) bV._auto_1) (WG:autoParam ((jd p3 (ay [] X.env)).any (·.1)=ap) bV._auto_1):
  QS X (.Expr (.Call (.Attribute (.Name x p1) "extend" p2) [e] [] p3) pos) (D8 i te):=by
 refine⟨λE E' ρ w h=>?_,λHZ F=>eM (sZ (J2 sf PySem.F.slot_list_extend PySem.F.type_list_extend DV hv (gW (he.run HZ F) oG hst) WB hfew WC hst WG) hs) λD σ H ⟨ρ,E,fr,h,en⟩=>?_⟩
 ·unfold D8 at *;split at h
  ·refine he.mono _ _ _ (λr q=>?_) h;split at q
   ·exact⟨q.1,w.nx _ q.2⟩
   ·exact q
  ·exact h
 ·unfold D8 at h;split at h
  ·rename_i a xs hx;obtain⟨hs1,vs,hv1,rv1⟩:=fr.sl i _ hx;refine⟨_,hs1,.inl ⟨rfl,_,fJ.of hv1⟩,he.step fr h λr y H1 q S1 r1=>?_⟩;have cy:=r1.c;generalize r.d=d at q cy;split at q
   ·rename_i ys;obtain⟨b,zs,rfl,eb,rb⟩:=cy.lst;obtain⟨ql,q2⟩:=q;have hv2:=S1 _ _ hv1;refine⟨a,b,vs,zs,rfl,rfl,hv2,eb,hC (by rw[rv1.length,rb.length];exact ql),?_⟩;refine en.nx _ _ _ ((fr.mono S1).write (d':=.lst (xs++ys)) hx ⟨_,bN,?_⟩) q2;have G:Gen X.K (MM F ρ) (MM F ρ) H1 (upd H1 a (.lst (vs++zs))):=Gen.write (.inr ⟨_,eg hx⟩) (by rw[hv2];trivial);exact((rv1.mono S1).append rb).gen G
   ·exact q.elim
  ·exact h.elim
noncomputable def Ey(f:bn)(d:Dv):List (bn×Dv)->List (bn×Dv)
 | []=>[(f,d)]
 | (g,x)::r=>if g=f then (g,d)::r else (g,x)::Ey f d r
theorem RepF.put{x:V}{d:Dv}(a:Rep K M H x d){xs:List (bn×V)}{ds:List (bn×Dv)}(r:RepF K M H xs ds):RepF K M H (kG f x xs) (Ey f d ds):=
 r.ind (P:=λxs ds=>RepF K M H (kG f x xs) (Ey f d ds)) (.cons a .nil) λk _ _ _ _ b r ih=>by
  show RepF K M H (if k=f then _ else _) (if k=f then _ else _);split
  ·exact .cons a r
  ·exact .cons b ih
theorem RepF.length{K:ak}{M:ah->Prop}{H:Hp}{xs:List (bn×V)}{ds:List (bn×Dv)}(r:RepF K M H xs ds):xs.length=ds.length:=r.ind (P:=λxs ds=>xs.length=ds.length) rfl λ_ _ _ _ _ _ _ ih=>congrArg (· + 1) ih
noncomputable def tX(C:ah)(i:Nat)(f:bn)(te:dE):cI:=λE ρ=>match ρ[i]? with
 |some (.own a (.obj C' fs))=>te ρ λr=>(C'=C/\r.free=aj/\fs.length<1000)/\E.nx (ρ.set i (.own a (.obj C' (Ey f r.d fs))))
 |_=>False
theorem Eu{x:bn}{p1 p2:jw}(c:Cls X.K C)(n:i5 X.K C f)(hv:PE X (.Name x p1) (zV i))(he:QE X e te)
  (hs:autoParam (ji e (aa (.Attribute (.Name x p1) f p2)) pos.line X.env=io ap) bV._auto_1):QS X (.Assign [.Attribute (.Name x p1) f p2] e pos) (tX C i f te):=by
 refine⟨λE E' ρ w h=>?_,λHZ F=>eM (Jp hv he.pe hs) λD σ H ⟨ρ,E,fr,h,en⟩=>?_⟩
 ·unfold tX at *;split at h
  ·exact he.mono _ _ _ (λr q=>⟨q.1,w.nx _ q.2⟩) h
  ·exact h
 ·unfold tX at h;split at h
  ·rename_i a C' fs hx;refine⟨HZ,F,he.step fr h λr y H1 q S1 r1=>?_⟩;obtain⟨⟨rfl,qf,ql⟩,q2⟩:=q;have fr1:=fr.mono S1;obtain⟨hs1,dx,fs1,hv1,rv1⟩:=fr1.sl i _ hx;have rep:=r1.rep (λa m=>fr.dom m) qf;refine⟨_,hs1,a,C',dx,fs1,rfl,hv1,c,n,by rw[rv1.length];exact ql,?_⟩;refine en.nx _ _ _ (fr1.write (d':=.obj C' (Ey f r.d fs)) hx ⟨dx,_,bN,?_⟩) q2;have G:Gen X.K (MM F ρ) (MM F ρ) H1 (upd H1 a (.ins C' dx (kG f y fs1))):=Gen.write (.inr ⟨_,eg hx⟩) (by rw[hv1];trivial);exact(RepF.put rep rv1).gen G
  ·exact h.elim
end
noncomputable def Q8(K:ak)(C:ah)(sp:Fn):Sp:=λvs H Q _=>∃(x dx:ah) (vs':List V) (H0:Hp) (F:ah->Prop) (ds:List Dv),vs=.ref x::vs'/\H=upd (upd H0 dx (.own x)) x (.ins C dx [])/\H0 x=aq/\H0 dx=aq/\dx≠x/\OldF K F H0/\Reps K F H0 vs' ds /\
 sp ds (λr=>∀H',aM H0 H'->dX K F xH H0 (.ref x) r H'->Q .non H')
structure IDef(P:au)(w:bt)(K:ak)(mg:bn->Option af)(base:cm)(k:Nat)(x:bn)(C:ah)(ps:List bn)(sp:Fn):Prop where
 ex:∃f fd,Mk K C f/\mg x=aa (.ref C)/\i8 K fd ps []/\FnOk P w K mg base C6 k f fd ps (Q8 K C sp)
structure IAt(K:ak)(mg:bn->Option af)(x:bn)(C:ah)(qual:bn)(st:jl)(ps:List bn):Prop where
 ex:∃f fd,Mk K C f/\mg x=aa (.ref C)/\Fun K "__init__" qual st f fd/\i8 K fd ps []
noncomputable def hZ(C a:ah)(N:List bn)(ds:List Dv):List Sl:=.own a (.obj C [])::(ds.map .v++av (N.length-(ds.length+1)) .un)
variable {H0:Hp}{dx:ah}
theorem Eb{x:ah}{o o':HO}(hx:H0 x=aq)(hd:H0 dx=aq):aM H0 (upd (upd H0 dx o) x o'):=λb q e=>by
 rw[b9 (bF e hx),b9 (bF e hd)];exact e
theorem D1{x:ah}{vs:List V}(hx:H0 x=aq)(hd:H0 dx=aq)(hF:OldF K F H0)(r:Reps K F H0 vs ds):
  Fr K H0 F (start N (.ref x::vs)) (upd (upd H0 dx (.own x)) x (.ins C dx [])) (hZ C x N ds):=by
 have S:aM H0 (upd (upd H0 dx (.own x)) x (.ins C dx [])):=Eb hx hd;have only:∀{a:ah} {d:Dv},Sl.own a d∈hZ C x N ds->a=x:=λ{a d} h=>by
  rcases dt.mp h with h | h
  ·cases h;rfl
  ·rcases gf.mp h with h | h
   ·obtain⟨z,_,e⟩:=jx.mp h;cases e
   ·cases eh h
 have wk:∀a,MM F (hZ C x N ds) a->F a \/ a=x:=λa h=>by
  rcases h with h | ⟨d,h⟩
  ·exact .inl h
  ·exact .inr (only h)
 have G:Gen K F (MM F (hZ C x N ds)) H0 (upd (upd H0 dx (.own x)) x (.ins C dx [])):=((Gen.fresh hx).trans (.mono S)).trans (.weak wk);have hl:=r.length;have r':=r.gen G;have zero:∀(i:Nat) (a:ah) (d:Dv),(hZ C x N ds)[i]?=aa (.own a d)->i=0:=λi a d e=>by
  cases i with
  |zero=>rfl
  |succ i=>
   have e':(ds.map Sl.v++av (N.length-(ds.length+1)) Sl.un)[i]?=aa (.own a d):=e;have:=eg e';rcases gf.mp this with h | h
   ·obtain⟨z,_,e⟩:=jx.mp h;cases e
   ·cases eh h
 refine⟨by simp[L2.start,hZ,hl],λi s e=>?_,λi j a d d' e1 e2=>?_,λa d h=>by rw[only h];exact hx,S,hF⟩
 ·cases i with
  |zero=>
   cases e;exact⟨rfl,dx,[],bN,.nil⟩
  |succ i=>
   have e':(ds.map Sl.v++av (N.length-(ds.length+1)) Sl.un)[i]?=aa s:=e;have es:(start N (.ref x::vs))[i+1]?=(vs.map aa++av (N.length-(vs.length+1)) aq)[i]?:=by simp[L2.start]
   rw[es];by_cases hi:i<ds.length
   ·rw[bo (by simpa using hi),cn] at e';cases q:ds[i]? with
    |none=>rw[q] at e';cases e'
    |some d=>
     rw[q] at e';cases e';obtain⟨y,hy,ry⟩:=r'.get q;refine⟨y,?_,ry⟩;rw[bo (by simpa using(da.mp hy).1),cn,hy];rfl
   ·rw[bg (by simpa using nr hi)] at e';have:=eg e';cases eh this;trivial
 ·rw[zero i a d e1,zero j a d' e2]
theorem IAt.okP{k:Nat}{x:bn}{t:cI}(m:IAt K mg x C Wm st ps)(S:FnScope N ps (aF st))
  (hq:∀(f:ah) (cdv:af) (A:cf) (outer:List wz) (s:ai) (H:Hp) (E:XK),Room k (A.deeper (qj Wm (aF st) s.heap.objs.size f cdv))->QSs (gH C6 P w K mg base N Wm (aF st) f cdv A outer s H E).nox (e7 st) t)
  (len:∀ds Q,sp ds Q->ds.length+1=ps.length) (hsp:∀ds Q,sp ds Q -> ∀a,t { nx:=λρ=>∃d,ρ[0]?=aa (.own a d)/\Q (.nw d),rt:=λ_=>False } (hZ C a N ds)):IDef P w K mg base (k+1) x C ps sp:=by
 obtain⟨f,fd,M,hm,FF,hb⟩:=m.ex;refine⟨f,fd,M,hm,hb,FF.ok S (λvs H Q E zz=>?_) λcdv A outer s H vs Q E hr q=>?_⟩
 ·obtain⟨a,dx,vs',H0,F,ds,e,_,_,_,_,_,r,q⟩:=zz;rw[e,cj,r.length];exact len _ _ q
 ·obtain⟨a,dx,vs',H0,F,ds,rfl,rfl,hx,hd,hn,hF,r,q⟩:=q;refine⟨_,(hq f cdv A outer s _ E hr).run H0 F,hZ C a N ds,_,D1 hx hd hF r,hsp ds _ q a,?_,λ_ _ _ _ z=>z.elim,λ_ _ _ _ z=>z.elim,λ_ _ _ _ _ z=>z.elim⟩;rintro ρ σ H' fr ⟨d,hd',q⟩;have mem:Sl.own a d∈ρ:=eg hd';exact q H' fr.same ⟨a,rfl,hx,(fr.sl 0 _ hd').2.weak λb z=>z.elim .inl λz=>.inr ⟨d,by rw[z];exact mem⟩⟩
noncomputable def Cj(sp:Fn)(ts:lB):dE:=λρ Q=>ts ρ λrs=>sp (rs.map R.d) (back rs Q)
variable {ts:lB}
section
variable {k:Nat}{x:bn}{pos:jw}
theorem Jd(d:IDef X.prog X.w X.K X.mg X.base k x C ps sp)(mo:MonoF sp)(hr:Room (k+1) X.A)(ha:QA X (e::es) ts)(hg:autoParam (Gl X x) bV._auto_1)
  (hdb:autoParam ((x==("__debug__" : bn))=ap) kX._auto_1) (he:autoParam (ay (e::es) X.env=(ap,fz e X.env)::ay es X.env) bV._auto_1) (hpl:autoParam ((jd pos (ay es X.env)).any (·.1)=ap) bV._auto_1):
  QE X (.Call (.Name x p) (e::es) [] pos) (Cj sp ts):=by
 obtain⟨f,fd,M,hm,hb,FO⟩:=d.ex;refine⟨λρ Q Q' w q=>ha.mono _ _ _ (λrs q=>mo.mo _ _ _ (rZ w) q) q,λHZ F=>d6 (Hb M FO hr hg hm hb .nil FE (ha.run HZ F) hdb he hpl) λσ H Q zz=>?_⟩;obtain⟨ρ,fr,h⟩:=zz;refine ha.step fr h λrs xs H1 q S1 r1=>?_;intro a dx hx hd hn;rw[ka];refine⟨a,dx,xs,H1,lent (MM F ρ) rs,rs.map R.d,rfl,rfl,hx,hd,hn,⟨λb z=>(fr.mono S1).dom z.1,(fr.mono S1).tab⟩,n5 fr (λ_ h=>h) r1,mo.mo _ _ _ (λr q H' S rx=>?_) q⟩;exact⟨rfl,q.2 _ H' (S1.trans S) (wP fr S1 rx q.1)⟩
end
noncomputable def JT(a:ah)(N:List bn):List Dv->List Sl
 | []=>[]
 |d::ds=>.own a d::(ds.map .v++av (N.length-(ds.length+1)) .un)
noncomputable def M8(i:Nat)(sp:Fn)(ts:lB):cI:=λE ρ=>ts ρ λrs=>match rs with
 | .ow a d::Wn=>ρ[i]?=aa (.own a d)/\Wn.all R.free=aj/\sp (d::Wn.map R.d) (λr=>match r with | .nw d'=>∀b,E.nx (ρ.set i (.own b d')) | _=>False)
 |_=>False
section
variable {k:Nat}{x:bn}{pos pos2:jw}
end
noncomputable def Bc:Dv->Dv->(R->Prop)->Prop
 | .int i,.int j,Q=>Go i j/\Q (.v (.int (i*2 ^ j.toNat)))
 |_,_,_=>False
theorem Hi:vR X (gz .LShift) Bc:=by
 refine⟨λdx dy Q Q' w h=>?_,_,KH,λM O H x y dx dy Q cx cy h=>?_⟩
 ·unfold Bc at h;split at h
  ·exact⟨h.1,w _ h.2⟩
  ·exact h.elim
 ·unfold Bc at h;split at h
  ·obtain rfl:=cx.int;obtain rfl:=cy.int;exact⟨_,_,rfl,rfl,h.1,h.2 _ H (aM.refl _) (Rep.int _)⟩
  ·exact h.elim
end Z
namespace L2
open AutoSeq1
section
variable {r:ah}{a b c:Int}{t u v:Wi}
end
end L2
namespace L2
end L2
namespace Z
open L2
section
variable {a:Expr}{ts:lB}{p2 pos:jw}
noncomputable def NW(ts:lB):dE:=λρ Q=>ts ρ λrs=>match rs.map R.d with
 | [.int j]=>(-(2 ^ 62)<=j/\j<2 ^ 62/\j.toNat<=1000000)/\Q (.v (.tup (bW 0 j.toNat)))
 |_=>False
end
end Z
namespace Tim
open PySem PySem.W PyProof.Rows
noncomputable def ask(lt:Nat->Nat->Bool)(N:Nat){α:Type}:KasT α->(α->Prop)->Prop
 | .ret a,Q=>Q a
 | .ask i j k,Q=>(i<N/\j<N/\i≠j)/\ask lt N (k (lt i j)) Q
theorem jX{lt:Nat->Nat->Bool}{N:Nat}{α β:Type}{f:α->KasT β}{Q:β->Prop}:∀(t:KasT α),ask lt N t (λa=>ask lt N (f a) Q)->ask lt N (t.bind f) Q
 | .ret _,h=>h
 | .ask i j k,h=>⟨h.1,jX (k (lt i j)) h.2⟩
theorem Ge{lt:Nat->Nat->Bool}{N:Nat}{α:Type}{cmp:Nat->Nat->(Bool->ai->Prop)->ai->Prop}{s:ai}(hc:∀i j C,i<N->j<N->i≠j->C (lt i j) s->cmp i j C s){Q:α->ai->Prop}:
  ∀(t:KasT α),ask lt N t (λa=>Q a s)->t.kasWp cmp Q s
 | .ret _,h=>h
 | .ask i j k,h=>hc i j _ h.1.1 h.1.2.1 h.1.2.2 (Ge hc (k (lt i j)) h.2)
structure Weak(lt:Nat->Nat->Bool):Prop where
 irr:∀a,lt a a=ap
 tr:∀a b c,lt a b=aj->lt b c=aj->lt a c=aj
 nt:∀a b c,lt a c=aj->lt a b=aj \/ lt b c=aj
noncomputable def cZ(p:Array Nat)(k:Nat):Nat:=p.getD k 0
variable {p:Array Nat}{j:Nat}
theorem B6{q:Array Nat}(h:p[i]?=q[j]?):cZ p i=cZ q j:=by
 unfold cZ;rw[vm,vm,h]
theorem jO(hj:j<=p.size)(k:Nat):cZ (kas_rev p i j) k=if i<=k/\k<j then cZ p (i+j-1-k) else cZ p k:=by
 have e:=qk (i:=i) hj k;split
 ·rename_i h;rw[Wj h] at e;exact B6 e
 ·rename_i h;rw[VT h] at e;exact B6 e
theorem LS{k d:Nat}(hs:k<p.size)(hd:d<=k)(u:Nat):cZ (U6 p k d) u=if u=k-d then cZ p k else if k-d<u/\u<=k then cZ p (u-1) else cZ p u:=by
 have e:=vd hs d hd u;by_cases h1:u=k-d
 ·rw[Wj h1] at e ⊢;exact B6 e
 ·rw[VT h1] at e ⊢;by_cases h2:k-d<u/\u<=k
  ·rw[Wj h2] at e ⊢;exact B6 e
  ·rw[VT h2] at e ⊢;exact B6 e
noncomputable def Pm(N:Nat)(p:Array Nat):Prop:=p.Perm (yp (gc N))
variable {q a b:Nat}{Q:Nat×Array Nat->Prop}
section
variable {lt:Nat->Nat->Bool}{N:Nat}
theorem Pm.size(h:Pm N p):p.size=N:=by
 have:=Array.Perm.size_eq h;simpa using this
theorem Pm.list(h:Pm N p):p.toList.Perm (gc N):=by
 have:=wo.mp h;simpa using this
theorem pC{k:Nat}(hk:k<p.size):cZ p k=p.toList[k]'(by simpa using hk):=by
 unfold cZ;simp[wp,hk]
theorem Pm.ltN(h:Pm N p){k:Nat}(hk:k<N):cZ p k<N:=by
 have hs:k<p.size:=by rw[h.size];exact hk
 rw[pC hs];exact Sh.mp (h.list.mem_iff.mp (dm _))
theorem Pm.ne(h:Pm N p)(hi:i<N)(hj:j<N)(n:i≠j):cZ p i≠cZ p j:=by
 have nd:p.toList.Nodup:=h.list.nodup_iff.mpr Uq;rw[pC (by rw[h.size];exact hi),pC (by rw[h.size];exact hj)];intro e;rcases sw n with z | z
 ·exact cq.mp nd i j _ _ z e
 ·exact cq.mp nd j i _ _ z e.symm
theorem Pm.rev(h:Pm N p)(i j:Nat):Pm N (kas_rev p i j):=Array.Perm.trans (mirror_perm _ _ _ _) h
theorem Pm.bub(h:Pm N p)(i j:Nat):Pm N (U6 p i j):=Array.Perm.trans (bubble_perm _ _ _) h
noncomputable def Tl(N:Nat)(p:Array Nat)(k:Nat):Prop:=∀i,k<=i->i<N->cZ p i=i
theorem Tl.up{k m:Nat}(h:Tl N p k)(hm:k<=m):Tl N p m:=λi hi hn=>h i (kh hm hi) hn
theorem Tl.below{k:Nat}(h:Tl N p k)(P:Pm N p)(hk:i<k)(hn:i<N):cZ p i<k:=by
 have:=P.ltN hn;apply Nat.lt_of_not_le;intro z;have e:=h _ z this;exact P.ne hn this ⋯ e.symm
theorem Tl.rev{k:Nat}(h:Tl N p k)(P:Pm N p)(hj:j<=k)(hN:j<=N):Tl N (kas_rev p i j) k:=λu hu hn=>by
 rw[jO (by rw[P.size];exact hN),VT ⋯];exact h u hu hn
noncomputable def Cu(lt:Nat->Nat->Bool)(a b:Nat):Prop:=lt b a=ap/\(lt a b=aj \/ a<b)
theorem Cu.trans(W:Weak lt){c:Nat}(h:Cu lt a b)(k:Cu lt b c):Cu lt a c:=by
 have n1:lt c a=ap:=by
  cases e:lt c a with
  |false=>rfl
  |true=>
   rcases W.nt c b a e with z | z
   ·rw[k.1] at z;cases z
   ·rw[h.1] at z;cases z
 refine⟨n1,?_⟩;rcases h.2 with x | x
 ·rcases W.nt a c b x with z | z
  ·exact .inl z
  ·rw[k.1] at z;cases z
 ·rcases k.2 with y | y
  ·rcases W.nt b a c y with z | z
   ·rw[h.1] at z;cases z
   ·exact .inl z
  ·exact .inr (Vx x y)
theorem Weak.asym(W:Weak lt)(h:lt a b=aj):lt b a=ap:=by
 cases e:lt b a with
 |false=>rfl
 |true=>have:=W.tr _ _ _ h e;rw[W.irr] at this;cases this
theorem Cu.of(W:Weak lt)(h:lt a b=aj):Cu lt a b:=⟨W.asym h,.inl h⟩
noncomputable def Up(lt:Nat->Nat->Bool)(p:Array Nat)(k:Nat):Prop:=∀u v,u<v->v<k->Cu lt (cZ p u) (cZ p v)
noncomputable def Dn(lt:Nat->Nat->Bool)(p:Array Nat)(k:Nat):Prop:=∀u v,u<v->v<k->Cu lt (cZ p v) (cZ p u)
theorem Up.rev{k:Nat}(h:Up lt p k)(hk:k<=p.size):Dn lt (kas_rev p 0 k) k:=λu v huv hv=>by
 rw[jO hk,jO hk,Wj (by omega),Wj (by omega)];exact h _ _ (by omega) (by omega)
theorem Dn.rev{k:Nat}(h:Dn lt p k)(hk:k<=p.size):Up lt (kas_rev p 0 k) k:=λu v huv hv=>by
 rw[jO hk,jO hk,Wj ⋯,Wj ⋯];exact h _ _ ⋯ ⋯
theorem Up.snoc(W:Weak lt){k:Nat}(h:Up lt p k)(t:Tl N p k)(P:Pm N p)(h1:1<=k)(hk:k<N)(n:lt (cZ p k) (cZ p (k-1))=ap):Up lt p (k+1):=λu v huv hv=>by
 by_cases e:v=k
 ·subst e;have one:Cu lt (cZ p (v-1)) (cZ p v):=⟨n,.inr (by rw[t v (bj _) hk];exact t.below P ⋯ ⋯)⟩;by_cases e2:u=v-1
  ·rw[e2];exact one
  ·exact(h u (v-1) ⋯ ⋯).trans W one
 ·exact h u v huv ⋯
theorem zD(W:Weak lt)(P:Pm N p){Q:Nat->Prop}:∀(f n:Nat),1<=n->n+f<=N->Up lt p n->Tl N p n ->
  (∀m,n<=m->m<=n+f->Up lt p m->(m=n+f \/ m<N/\lt (cZ p m) (cZ p (m-1))=aj)->Q m)->ask lt N (kas_asc p f n) Q
 |0,n,_,hn,u,t,k=>k n (bj _) (bj _) u (.inl rfl)
 |f+1,n,h1,hn,u,t,k=>by
  refine⟨⟨P.ltN ⋯,P.ltN ⋯,P.ne ⋯ ⋯ ⋯⟩,?_⟩;show ask lt N (if lt (cZ p n) (cZ p (n-1))=aj then KasT.ret n else kas_asc p f (n+1)) Q;cases e:lt (cZ p n) (cZ p (n-1)) with
  |true=>
   rw[Wj rfl];exact k n (bj _) ⋯ u (.inr ⟨⋯,e⟩)
  |false=>
   rw[VT (by simp)];exact zD W P f (n+1) ⋯ ⋯ (u.snoc W t P h1 ⋯ e) (t.up ⋯) λm a b c d=>k m ⋯ ⋯ c (d.elim (λz=>.inl ⋯) .inr)
structure Run(lt:Nat->Nat->Bool)(N:Nat)(p:Array Nat)(n q:Nat):Prop where
 pm:Pm N p
 tl:Tl N p n
 le:q+1<=n
 hi:n<=N
 dn:Dn lt p (n-(q+1))
 same:∀u v,n-(q+1)<=u->u<v->v<n->lt (cZ p u) (cZ p v)=ap/\lt (cZ p v) (cZ p u)=ap/\cZ p u<cZ p v
 less:∀u v,u<n-(q+1)->n-(q+1)<=v->v<n->lt (cZ p v) (cZ p u)=aj
theorem Run.turn(W:Weak lt)(h:Run lt N p n q):Dn lt (kas_rev p (n-(q+1)) n) n:=λu v huv hv=>by
 have hs:n<=p.size:=by rw[h.pm.size];exact h.hi
 have hl:=h.le;rw[jO hs,jO hs];by_cases c:n-(q+1)<=v
 ·rw[Wj ⟨c,hv⟩];by_cases d:n-(q+1)<=u
  ·rw[Wj ⟨d,by omega⟩];obtain⟨a,b,e⟩:=h.same (n-(q+1)+n-1-v) (n-(q+1)+n-1-u) (by omega) (by omega) (by omega);exact⟨b,.inr e⟩
  ·rw[VT (by omega)];exact Cu.of W (h.less u _ (by omega) (by omega) (by omega))
 ·rw[VT (by omega),VT (by omega)];exact h.dn u v huv (by omega)
theorem Run.flat(W:Weak lt)(h:Run lt N p n 0):Dn lt p n:=λu v huv hv=>by
 by_cases c:n-1<=v
 ·exact Cu.of W (h.less u v ⋯ ⋯ hv)
 ·exact h.dn u v huv ⋯
theorem Run.done(W:Weak lt)(h:Run lt N p n q):∃p',(if q > 0 then kas_rev p (n-(q+1)) n else p)=p'/\Pm N p'/\Tl N p' n/\Dn lt p' n /\ ∀u,u<n -> ∃w,w<n/\cZ p' u=cZ p w:=by
 by_cases c:q > 0
 ·refine⟨_,Wj c,h.pm.rev _ _,h.tl.rev h.pm (bj _) h.hi,h.turn W,λu hu=>?_⟩;have hl:=h.le;rw[jO (by rw[h.pm.size];exact h.hi)];split
  ·exact⟨_,⋯,rfl⟩
  ·exact⟨u,hu,rfl⟩
 ·have:q=0:=⋯;subst this;exact⟨_,VT c,h.pm,h.tl,h.flat W,λu hu=>⟨u,hu,rfl⟩⟩
theorem Run.next(W:Weak lt)(h:Run lt N p n q)(hn:n<N)(e:lt (cZ p n) (cZ p (n-1))=aj):Run lt N (if q > 0 then kas_rev p (n-(q+1)) n else p) (n+1) 0:=by
 have hl:=h.le;have all:∀w,w<n->lt (cZ p n) (cZ p w)=aj:=λw hw=>by
  by_cases c:w=n-1
  ·rw[c];exact e
  ·by_cases d:w<n-(q+1)
   ·exact W.tr _ _ _ e (h.less w (n-1) d ⋯ ⋯)
   ·rcases W.nt _ (cZ p w) _ e with z | z
    ·exact z
    ·rw[(h.same w (n-1) ⋯ ⋯ ⋯).1] at z;cases z
 obtain⟨p',ep,P,T,D,A⟩:=h.done W;rw[ep];have en:cZ p' n=cZ p n:=by rw[T n (bj _) hn,h.tl n (bj _) hn]
 refine⟨P,T.up ⋯,⋯,hn,by simpa using D,λu v a b c=>by right,λu v a b c=>?_⟩;have:v=n:=⋯;subst this;obtain⟨w,hw,ew⟩:=A u ⋯;rw[en,ew];exact all w hw
theorem Run.more(W:Weak lt)(h:Run lt N p n q)(hn:n<N)(e:lt (cZ p n) (cZ p (n-1))=ap)(d:lt (cZ p (n-1)) (cZ p n)=ap):Run lt N p (n+1) (q+1):=by
 have hl:=h.le;have en:=h.tl n (bj _) hn;have sz:n+1-(q+1+1)=n-(q+1):=⋯;refine⟨h.pm,h.tl.up ⋯,⋯,hn,by rw[sz];exact h.dn,λu v a b c=>?_,λu v a b c=>?_⟩
 ·rw[sz] at a;by_cases z:v=n
  ·subst z;have lw:cZ p u<cZ p v:=by rw[en];exact h.tl.below h.pm b ⋯
   by_cases y:u=v-1
   ·subst y;exact⟨d,e,lw⟩
   ·obtain⟨s1,s2,_⟩:=h.same u (v-1) a ⋯ ⋯;refine⟨?_,?_,lw⟩
    ·cases q1:lt (cZ p u) (cZ p v) with
     |false=>rfl
     |true=>
      rcases W.nt _ (cZ p (v-1)) _ q1 with x | x
      ·rw[s1] at x;cases x
      ·rw[d] at x;cases x
    ·cases q1:lt (cZ p v) (cZ p u) with
     |false=>rfl
     |true=>
      rcases W.nt _ (cZ p (v-1)) _ q1 with x | x
      ·rw[e] at x;cases x
      ·rw[s2] at x;cases x
  ·exact h.same u v a b ⋯
 ·rw[sz] at a b;by_cases z:v=n
  ·subst z;rcases W.nt _ (cZ p v) _ (h.less u (v-1) a ⋯ ⋯) with x | x
   ·rw[d] at x;cases x
   ·exact x
  ·exact h.less u v a b ⋯
theorem qO(W:Weak lt){Q:Array Nat×Nat×Nat->Prop}:∀(f:Nat) (p:Array Nat) (n q:Nat),n+f<=N->Run lt N p n q->(∀p' n' q',n<=n'->n'<=n+f->Run lt N p' n' q'->Q (p',n',q'))->ask lt N (kas_desc f p n q) Q
 |0,p,n,q,hn,r,k=>k p n q (bj _) (bj _) r
 |f+1,p,n,q,hn,r,k=>by
  have hl:=r.le;refine⟨⟨r.pm.ltN ⋯,r.pm.ltN ⋯,r.pm.ne ⋯ ⋯ ⋯⟩,?_⟩;show ask lt N (if lt (cZ p n) (cZ p (n-1))=aj then (if q > 0 then kas_desc f (kas_rev p (n-(q+1)) n) (n+1) 0 else kas_desc f p (n+1) 0)
   else .ask (p.getD (n-1) 0) (p.getD n 0) λd=>if d=aj then .ret (p,n,q) else kas_desc f p (n+1) (q+1)) Q
  cases e:lt (cZ p n) (cZ p (n-1)) with
  |true=>
   rw[Wj rfl];have r':=r.next W ⋯ e;by_cases c:q > 0
   ·rw[Wj c] at r' ⊢;exact qO W f _ (n+1) 0 ⋯ r' λp' n' q' a b c=>k p' n' q' ⋯ ⋯ c
   ·rw[VT c] at r' ⊢;exact qO W f _ (n+1) 0 ⋯ r' λp' n' q' a b c=>k p' n' q' ⋯ ⋯ c
  |false=>
   rw[VT (by simp)];refine⟨⟨r.pm.ltN ⋯,r.pm.ltN ⋯,r.pm.ne ⋯ ⋯ ⋯⟩,?_⟩;show ask lt N (if lt (cZ p (n-1)) (cZ p n)=aj then .ret (p,n,q) else kas_desc f p (n+1) (q+1)) Q;cases d:lt (cZ p (n-1)) (cZ p n) with
   |true=>
    rw[Wj rfl];exact k p n q (bj _) ⋯ r
   |false=>
    rw[VT (by simp)];exact qO W f _ (n+1) (q+1) ⋯ (r.more W ⋯ e d) λp' n' q' a b c=>k p' n' q' ⋯ ⋯ c
noncomputable def RB(lt:Nat->Nat->Bool)(N:Nat)(r:Nat×Array Nat):Prop:=1<=r.1/\r.1<=N/\Pm N r.2/\Up lt r.2 r.1/\Tl N r.2 r.1
theorem zU(W:Weak lt)(P:Pm N p)(h1:1<=n)(hn:n<=N)(D:Dn lt p n)(T:Tl N p n)(k:∀r,RB lt N r->Q r):ask lt N (kas_tail3 n N p) Q:=by
 unfold kas_tail3;have P':=P.rev 0 n;have T':Tl N (kas_rev p 0 n) n:=T.rev P (bj _) hn;refine jX _ (zD W P' (N-n) n h1 ⋯ (D.rev (by rw[P.size];exact hn)) T' λm a b c d=>?_);exact k _ ⟨by show 1<=m;right,by show m<=N;right,P',c,T'.up a⟩
theorem AE(W:Weak lt)(P:Pm N p)(h1:1<=n)(hn:n<N)(D:Dn lt p n)(T:Tl N p n)(e:∀w,w<n->lt (cZ p n) (cZ p w)=aj)(k:∀r,RB lt N r->Q r):ask lt N (kas_descPart n N p) Q:=by
 unfold kas_descPart;have r0:Run lt N p (n+1) 0:=⟨P,T.up ⋯,⋯,hn,by simpa using D,λu v a b c=>by right,λu v a b c=>by
  have:v=n:=⋯;subst this;exact e u ⋯⟩
 refine jX _ (qO W _ p (n+1) 0 ⋯ r0 λp' n' q' a b r=>?_);obtain⟨p2,ep,P2,T2,D2,_⟩:=r.done W;show ask lt N (if q' > 0 then kas_tail3 n' N (kas_rev p' (n'-(q'+1)) n') else kas_tail3 n' N p') Q;by_cases c:q' > 0
 ·rw[Wj c] at ep ⊢;rw[ep];exact zU W P2 ⋯ ⋯ D2 T2 k
 ·rw[VT c] at ep ⊢;rw[ep];exact zU W P2 ⋯ ⋯ D2 T2 k
theorem E7(W:Weak lt)(P:Pm N p)(h1:1<=N)(T:Tl N p 0)(k:∀r,RB lt N r->Q r):ask lt N (kas_count N p) Q:=by
 unfold kas_count;refine jX _ (zD W P (N-1) 1 (bj _) ⋯ (λu v a b=>by right) (T.up ⋯) λm a b c d=>?_);by_cases z:m=N
 ·rw[Wj (by simpa using z)];exact k _ ⟨a,by show m<=N;right,P,c,T.up ⋯⟩
 ·rw[VT (by simpa using z)];have hm:m<N/\lt (cZ p m) (cZ p (m-1))=aj:=d.resolve_left ⋯;by_cases y:m > 1
  ·rw[Wj y];refine⟨⟨P.ltN ⋯,P.ltN ⋯,P.ne ⋯ ⋯ ⋯⟩,?_⟩;show ask lt N (if lt (cZ p 0) (cZ p (m-1))=aj then .ret (m,p) else kas_descPart m N (kas_rev p 0 m)) Q;cases e:lt (cZ p 0) (cZ p (m-1)) with
   |true=>
    rw[Wj rfl];exact k _ ⟨a,by show m<=N;right,P,c,T.up ⋯⟩
   |false=>
    rw[VT (by simp)];have hs:m<=p.size:=by rw[P.size];right
    refine AE W (P.rev _ _) a hm.1 (c.rev hs) ((T.up (lj m)).rev P (bj _) ⋯) (λw hw=>?_) k;rw[jO hs,jO hs,VT ⋯,Wj ⋯];have m0:lt (cZ p m) (cZ p 0)=aj:=by
     rcases W.nt _ (cZ p 0) _ hm.2 with x | x
     ·exact x
     ·rw[e] at x;cases x
    by_cases w0:0+m-1-w=0
    ·rw[w0];exact m0
    ·rcases W.nt _ (cZ p (0+m-1-w)) _ m0 with x | x
     ·exact x
     ·rw[(c 0 (0+m-1-w) ⋯ ⋯).1] at x;cases x
  ·rw[VT y];have:m=1:=⋯;subst this;refine AE W P a hm.1 (λu v a b=>by right) (T.up ⋯) (λw hw=>?_) k;have:w=0:=⋯;subst this;exact hm.2
theorem rC(W:Weak lt)(P:Pm N p){k:Nat}(hk:k<N)(U:Up lt p k){Q:Nat->Prop}:∀(f l r:Nat),l<=r->r<=k->r-l<=f->(∀u,u<l->lt (cZ p k) (cZ p u)=ap)->(∀u,r<=u->u<k->lt (cZ p k) (cZ p u)=aj) ->
  (∀l',l'<=k->(∀u,u<l'->lt (cZ p k) (cZ p u)=ap)->(∀u,l'<=u->u<k->lt (cZ p k) (cZ p u)=aj)->Q l')->ask lt N (kas_place p k f l r) Q
 |0,l,r,hl,hr,hf,a,b,g=>by
  have:r=l:=⋯;subst this;exact g r hr a b
 |f+1,l,r,hl,hr,hf,a,b,g=>by
  unfold kas_place;by_cases c:l >= r
  ·rw[Wj c];have:r=l:=⋯;subst this;exact g r hr a b
  ·rw[VT c];have hm:(l+r) / 2<r:=⋯;have hm2:l<=(l+r) / 2:=⋯;generalize (l+r) / 2=mid at *;refine⟨⟨P.ltN hk,P.ltN ⋯,P.ne hk ⋯ ⋯⟩,?_⟩;show ask lt N (if lt (cZ p k) (cZ p mid)=aj then kas_place p k f l mid else kas_place p k f (mid+1) r) Q;cases e:lt (cZ p k) (cZ p mid) with
   |true=>
    rw[Wj rfl];refine rC W P hk U f l mid hm2 ⋯ ⋯ a (λu h1 h2=>?_) g;by_cases z:u=mid
    ·rw[z];exact e
    ·rcases W.nt _ (cZ p u) _ e with x | x
     ·exact x
     ·rw[(U mid u ⋯ h2).1] at x;cases x
   |false=>
    rw[VT (by simp)];refine rC W P hk U f (mid+1) r ⋯ hr ⋯ (λu hu=>?_) b g;by_cases z:u=mid
    ·rw[z];exact e
    ·cases q:lt (cZ p k) (cZ p u) with
     |false=>rfl
     |true=>
      rcases W.nt _ (cZ p mid) _ q with x | x
      ·rw[e] at x;cases x
      ·rw[(U u mid ⋯ ⋯).1] at x;cases x
theorem Cr(W:Weak lt){Q:Array Nat->Prop}:∀(f:Nat) (p:Array Nat) (k:Nat),k+f=N->Pm N p->Up lt p k->Tl N p k->(∀p',Pm N p'->Up lt p' N->Q p')->ask lt N (kas_bin f p k) Q
 |0,p,k,hk,P,U,T,g=>by
  have:k=N:=⋯;subst this;exact g p P U
 |f+1,p,k,hk,P,U,T,g=>by
  refine jX _ (rC W P ⋯ U k 0 k (lj _) (bj _) ⋯ (λu h=>by right) (λu h1 h2=>by right) λl hl a b=>?_);have hs:k<p.size:=by rw[P.size];right
  have e:∀u,cZ (U6 p k (k-l)) u=if u=l then cZ p k else if l<u/\u<=k then cZ p (u-1) else cZ p u:=λu=>by
   rw[LS hs ⋯ u,show k-(k-l)=l by right]
  refine Cr W f _ (k+1) ⋯ (P.bub _ _) (λu v huv hv=>?_) (λi hi hn=>?_) g
  ·have tk:=T k (bj _) ⋯;rw[e u,e v];by_cases u1:u=l
   ·rw[Wj u1,VT ⋯,Wj ⋯];exact Cu.of W (b (v-1) ⋯ ⋯)
   ·rw[VT u1];by_cases v1:v=l
    ·rw[Wj v1,VT ⋯];exact⟨a u ⋯,.inr (by rw[tk];exact T.below P ⋯ ⋯)⟩
    ·rw[VT v1];by_cases u2:l<u
     ·rw[Wj ⋯,Wj ⋯];exact U _ _ ⋯ ⋯
     ·rw[VT ⋯];by_cases v2:l<v
      ·rw[Wj ⋯];exact U _ _ ⋯ ⋯
      ·rw[VT ⋯];exact U _ _ ⋯ ⋯
  ·rw[e i,VT ⋯,VT ⋯];exact T i ⋯ hn
theorem EZ(W:Weak lt)(h1:1<=N){Q:Array Nat->Prop}(k:∀p',Pm N p'->Up lt p' N->Q p'):ask lt N (kas_sort N) Q:=by
 unfold kas_sort;refine jX _ (E7 W (Array.Perm.refl _) h1 (λi _ hi=>by simp[cZ,wp,hi]) λr g=>?_);obtain⟨a,b,c,d,e⟩:=g;by_cases z:r.1<N
 ·rw[Wj z];have:max r.1 1=r.1:=⋯;rw[this];exact Cr W _ r.2 r.1 ⋯ c d e k
 ·rw[VT z];have:r.1=N:=⋯;rw[this] at d;exact k _ c d
end
end Tim
namespace L2
open PySem PySem.Spec PySem.W PyProof.Rows Tim
noncomputable abbrev picked(vs:List af)(p:Array Nat):List af:=p.toList.map λi=>vs.getD i eo
structure Cmp(prog:au)(w:bt)(s:ai)(a:ah)(vs:List af)(lt:Nat->Nat->Bool)(κ:lc):Prop where
 wk:Weak lt
 kind:∀(A:cf) (h:cm) (Q:lc->ai->Prop),(∀b o,b≠a->s.heap.get? b=aa o->h.get? b=aa o)->Q κ { s with heap:=h }->bi (bu prog w) A (VY vs.toArray) Q (λ_ _=>False) { s with heap:=h }
 less:∀(A:cf) (h:cm) (i j:Nat) (C:Bool->ai->Prop),(∀b o,b≠a->s.heap.get? b=aa o->h.get? b=aa o)->i<vs.length->j<vs.length->i≠j->C (lt i j) { s with heap:=h } ->
  bi (bu prog w) A (Wb κ (vs.getD i eo) (vs.getD j eo)) C (λ_ _=>False) { s with heap:=h }
variable {vs:List af}{κ:lc}
theorem wE(vs:List af):picked vs (yp (gc vs.length))=vs:=by
 apply qd;intro i;by_cases h:i<vs.length
 ·simp[picked,h]
 ·simp[picked,h]
theorem D4{lt:Nat->Nat->Bool}{P:Fin->ai->Prop}(ho:s.heap.get? a=aa (jj "list" vs.toArray n))(h64:vs.length<64)(c:2<=vs.length->Cmp prog w s a vs lt κ)
  (k:∀p,Pm vs.length p->Up lt p vs.length->P (.done (.ret .none)) { s with heap:=UY s.heap a vs (picked vs p).toArray }):bi (bu prog w) A (qa.«list.sort» ⟨[.ref a],[]⟩) P E s:=by
 have la:a<s.heap.objs.size:=az ho
 let h1:=s.heap.update a (ug λ_=>#[])
 let h2:=h1.push (jj "tuple" vs.toArray 0)
 let h3:=h2.push (jj "list" #[] 0)
 obtain⟨m,g1⟩:∃m,h1.get? a=aa (jj "list" #[] m):=⟨_,yx ho λ_=>#[]⟩;have sz1:h1.objs.size=s.heap.objs.size:=uj ..;have keep:∀b o,b≠a->s.heap.get? b=aa o->h3.get? b=aa o:=λb o hb e=>
  ao _ (ao _ ((vh _ _ _ _ hb).trans e))
 have g3:h3.get? a=aa (jj "list" #[] m):=ao _ (ao _ g1);have Wy:vs.length<=bh:=by rw[ie];right
 have fin:∀p,Pm vs.length p->Up lt p vs.length->bi (bu prog w) A (do
   let touched:=(<- seqEpoch a) != m
   xx (.ref a) λ_=>(picked vs p).toArray
   if touched then Vb "list.sort.modified";raiseError "ValueError" "list modified during sort"
   ret .none) P E { s with heap:=h3 }:=λp pm up=>by
  have sz:(picked vs p).toArray.size=vs.length:=by simp[picked,pm.size]
  refine ae (zp g3 rfl (ae (uq g3 rfl ?_ (lj _) (by rw[sz];right))));rw[show (m != m)=ap by simp];exact ar (k p pm up)
 rw[Uz];refine ae (vn ho rfl (ae (uq ho rfl ?_ (by simpa using Wy) (lj _))));refine ae (zp g1 rfl (ae (UZ (ae (qw (jf ?_) (lj _))) (by simpa using Wy))));show bi (bu prog w) A _ P E { s with heap:=h3 };dsimp only;by_cases two:2<=vs.length
 ·have big:¬vs.toArray.size<2:=by simpa using two
  rw[VT big,VT big];have cc:=c two;refine ae (fy (cc.kind A h3 (λx s'=>x=κ/\s'={ s with heap:=h3 }) keep ⟨rfl,rfl⟩) (λx s' e=>?_) λ_ _ z=>z.elim);obtain⟨rfl,rfl⟩:=e;have tree:(kas_sort vs.length).kasWp (kas_ask prog w A x vs) (λp s'=>(Pm vs.length p/\Up lt p vs.length)/\s'={ s with heap:=h3 }) { s with heap:=h3 }:=
   Ge (lt:=lt) (N:=vs.length) (λi j C hi hj hn q=>cc.less A h3 i j C keep hi hj hn q) _ (EZ cc.wk ⋯ λp a b=>⟨⟨a,b⟩,rfl⟩)
  refine ae (fy (kat_run (E:=E) (Q:=λst' s'=>∃p,(Pm vs.length p/\Up lt p vs.length)/\sh st'=p.map (kas_item (vs.toArray.zip vs.toArray))/\sx st'=aq/\s'={ s with heap:=h3 })
   rfl two h64 (λp st' s' _ a b q=>⟨p,q.1,a,b,q.2⟩) tree) (λr s' q=>?_) λ_ _ z=>z)
  obtain⟨⟨⟩,st'⟩:=r;obtain⟨p,⟨pm,up⟩,e1,e2,rfl⟩:=q;dsimp only at e1 e2 ⊢;rw[kat_snds rfl e1,e2];exact fin p pm up
 ·have few:vs.toArray.size<2:=by simp;right
  rw[Wj few,Wj few];refine ae (ar ?_);rw[UA];refine ae (ar ?_);dsimp only;have e:((sh (wq zq (vs.toArray.zip vs.toArray) #[] 7 aq)).map λx=>x.2)=(picked vs (yp (gc vs.length))).toArray:=by
   rw[wE];apply U7.mp;show ((vs.toArray.zip vs.toArray).map λx=>x.2).toList=_;simp;apply qd;intro i;by_cases hi:i<vs.length
   ·simp[hi]
   ·simp[hi]
  rw[e];exact fin _ (Array.Perm.refl _) λu v h1 h2=>by right
theorem D3{l:ah}{lt:Nat->Nat->Bool}{Q:af->ai->Prop}(hl:s.heap.IsList l vs.toArray)(h64:vs.length<64)(c:2<=vs.length->Cmp prog w s s.heap.objs.size vs lt κ)
  (k:∀p,Pm vs.length p->Up lt p vs.length->Q (.ref (s.heap.objs.size+1)) { s with heap:=sortedAll s.heap vs (picked vs p).toArray }):bi (bu prog w) A (call (.builtin "sorted") [.ref l]) Q E s:=by
 have Wy:vs.length<=bh:=by rw[ie];right
 let h1:=(s.heap.push (jj "list" #[] 0)).update s.heap.objs.size (ug (· ++ vs.toArray))
 let h2:=h1.push (jj "list" vs.toArray 0)
 have sz:h1.objs.size=s.heap.objs.size+1:=(uj ..).trans (V0 _ _);have old:∀b o,s.heap.get? b=aa o->h2.get? b=aa o:=λb o e=>
  ao _ ((vh _ _ _ _ (fu (az e))).trans (ao _ e))
 have mine:h2.get? (s.heap.objs.size+1)=aa (jj "list" vs.toArray 0):=sz ▸ bw h1 rfl;refine qh Ur TD TF (TH _) ?_;unfold qa.«sorted»;refine ae (m:=V1 "sorted" 1 1 _) (ar (ae (collect_list hl (ae (qw ?_ Wy)) Wy)));show bi _ _ _ _ _ { s with heap:=h2 };rw[show ((s.heap.push (jj "list" #[] 0)).update s.heap.objs.size (ug (· ++ vs.toArray))).objs.size=s.heap.objs.size+1 from sz];refine ae (jf (fh zr ⟨_,mine,rfl⟩ yy ?_ (zt _)));refine D4 (s:={ s with heap:=h2 }) (lt:=lt) (κ:=κ) mine h64 (λtwo=>?_) λp a b=>⟨_,rfl,ar ⟨_,rfl,k p a b⟩⟩
 ·have cc:=c two;exact⟨cc.wk,λA h Q hk q=>cc.kind A h Q (λb o hb e=>hk b o (λz=>by have y:=az e;rw[z] at y;exact zu y) (old b o e)) q,
   λA h i j C hk hi hj hn q=>cc.less A h i j C (λb o hb e=>hk b o (λz=>by have y:=az e;rw[z] at y;exact zu y) (old b o e)) hi hj hn q⟩
noncomputable def eB:List Int->List Int->Bool
 | [],[]=>ap
 | [],_::_=>aj
 |_::_,[]=>ap
 |a::r,b::t=>if a=b then eB r t else decide (a<b)
theorem qF:∀a,eB a a=ap
 | []=>rfl
 |a::r=>by rw[eB,Wj rfl];exact qF r
theorem t5:∀a b c,eB a b=aj->eB b c=aj->eB a c=aj
 | [],[],_,h,_=>by cases h
 | [],_::_,[],_,k=>by cases k
 | [],_::_,_::_,_,_=>rfl
 |_::_,[],_,h,_=>by cases h
 |_::_,_::_,[],_,k=>by cases k
 |a::r,b::t,c::u,h,k=>by
  unfold eB at h k ⊢;by_cases e:a=b
  ·rw[Wj e] at h;subst e;by_cases e2:a=c
   ·rw[Wj e2] at k ⊢;exact t5 r t u h k
   ·rw[VT e2] at k ⊢;exact k
  ·rw[VT e] at h;have h1:=of_decide_eq_true h;by_cases e2:b=c
   ·subst e2;rw[VT e];exact h
   ·rw[VT e2] at k;have h2:=of_decide_eq_true k;rw[VT ⋯];exact decide_eq_true ⋯
theorem mF:∀a b,a≠b->eB a b=aj \/ eB b a=aj
 | [],[],h=>absurd rfl h
 | [],_::_,_=>.inl rfl
 |_::_,[],_=>.inr rfl
 |a::r,b::t,h=>by
  unfold eB;by_cases e:a=b
  ·subst e;rw[Wj rfl,Wj rfl];exact mF r t λz=>h (by rw[z])
  ·rw[VT e,VT (Ne.symm e)];rcases T6 e with z | z
   ·exact .inl (decide_eq_true z)
   ·exact .inr (decide_eq_true z)
theorem wO(f:Nat->List Int):Weak λi j=>eB (f i) (f j):=by
 refine⟨λa=>qF _,λa b c=>t5 _ _ _,λa b c h=>?_⟩;by_cases e:f a=f b
 ·exact .inr (by rw[<- e];exact h)
 ·rcases mF _ _ e with z | z
  ·exact .inl z
  ·exact .inr (t5 _ _ _ z h)
section
variable {C:Bool->ai->Prop}{fin:Bool}
theorem Ad:∀(ns ms:List Int) (us vs ru rv:List af) (i:Nat),jc us ns->jc vs ms->ns.length=ms.length->ns≠ms->C (eB ns ms) s->KatLex prog w A aj fin C ((us++ru).zip (vs++rv)) i s
 | [],[],_,_,_,_,_,_,_,_,n,_=>absurd rfl n
 | [],_::_,_,_,_,_,_,_,_,l,_,_=>by cases l
 |_::_,[],_,_,_,_,_,_,_,l,_,_=>by cases l
 |a::r,b::t,_,_,ru,rv,i,.cons _ x hu,.cons _ y hv,l,n,q=>by
  unfold eB at q;refine kat_cons (xq (kat_go (λe=>kat_yes ?_) λe=>kat_no ?_))
  ·have e':a=b:=by simpa using e
   rw[Wj e'] at q;exact Ad r t _ _ ru rv (i+1) hu hv (by simpa using l) (λz=>n (by rw[e',z])) q
  ·have e':¬a=b:=by simpa using e
   rw[VT e'] at q;by_cases z:i=0
   ·rw[show (aj&&i==0)=aj by simp[z]];exact oneLt_int q
   ·rw[show (aj&&i==0)=ap by simp[z]];exact kat_one _ _ (lt_int q)
end
variable {N:Nat}{p:Array Nat}
noncomputable abbrev Gg:=ah×List Int×List V
theorem CK(P:Pm N p)(xs:List α)(hl:xs.length=N)(d:α):(p.toList.map λi=>xs.getD i d).Perm xs:=by
 have e:(gc N).map (λi=>xs.getD i d)=xs:=by
  apply qd;intro i;by_cases h:i<N
  ·simp[h,hl]
  ·simp[h,hl]
 have:=P.list.map λi=>xs.getD i d;rwa[e] at this
theorem sC{lt:Nat->Nat->Bool}(P:Pm N p)(U:Up lt p N)(xs:List α)(d:α)(Rel:α->α->Prop)(hR:∀i j,i<N->j<N->Cu lt i j->Rel (xs.getD i d) (xs.getD j d)):
  (p.toList.map λi=>xs.getD i d).Pairwise Rel:=by
 rw[ki];rw[cq];intro i j hi hj hij;have si:i<p.size:=by simpa using hi
 have sj:j<p.size:=by simpa using hj
 have b:=U i j hij (by rw[<- P.size];exact sj);rw[pC si,pC sj] at b;have:=P.ltN (k:=i) (by rw[<- P.size];exact si);have:=P.ltN (k:=j) (by rw[<- P.size];exact sj);rw[pC si] at *;rw[pC sj] at *;exact hR _ _ (by assumption) (by assumption) b
theorem yY:eP X (.builtin "sorted") (λxs H Q=>∃(p:ah) (its:List Gg) (k:Nat),xs=[.ref p]/\fJ X.K H p (its.map λt=>V.ref t.1)/\its.length<64/\(∀t∈its,jP X.K H t.1 (t.2.1.map V.int++t.2.2)/\t.2.1.length=k+1) /\
  its.Pairwise (λt u=>t.2.1≠u.2.1) /\ ∀its':List Gg,its'.Perm its->its'.Pairwise (λt u=>eB t.2.1 u.2.1=aj) -> ∀l,H l=aq->Q (.ref l) (upd H l (.lst (its'.map λt=>V.ref t.1)))):=by
 intro pj s σ H xs us Q I r h;obtain⟨p,its,k,rfl,hl,h64,hits,hd,q⟩:=h;obtain⟨u,rfl,ru⟩:=iM r;cases ru;obtain⟨vs,rv,pl,hz⟩:=I.list hl;have ev:vs=its.map λt=>Value.ref t.1:=by
  clear hl hz h64 hits hd q pl;induction its generalizing vs with
  |nil=>cases rv;rfl
  |cons t r ih=>
   cases rv with
   |cons a b=>rw[dh,<- ih _ b];cases a;rfl
 subst ev;have len:(its.map λt=>Value.ref t.1).length=its.length:=by simp
 let num:Nat->List Int:=λi=>(its.getD i (0,[],[])).2.1
 have get:∀i,i<its.length->(its.map λt=>Value.ref t.1).getD i eo=Value.ref (its.getD i (0,[],[])).1:=λi hi=>by simp[hi]
 have mem:∀i,i<its.length->its.getD i (0,[],[])∈its:=λi hi=>by
  rw[ef,bf hi];exact dm hi
 have ne:∀i j,i<its.length->j<its.length->i≠j->num i≠num j:=λi j hi hj n=>by
  have e:∀i,i<its.length->num i=(its[i]!).2.1:=λi hi=>by simp[num,hi]
  have pw:=cq.mp hd;have ei:its.getD i (0,[],[])=its[i]:=by simp[hi]
  have ej:its.getD j (0,[],[])=its[j]:=by simp[hj]
  show (its.getD i (0,[],[])).2.1≠(its.getD j (0,[],[])).2.1;rw[ei,ej];rcases sw n with z | z
  ·exact pw i j hi hj z
  ·exact(pw j i hj hi z).symm
 have tup:∀t∈its,∃(o:je) (a b:List af) (n:Nat),s.heap.get? t.1=aa o/\o.cls=.type "tuple" /\ o.data=.seq (a++b).toArray n/\jc a t.2.1:=λt ht=>by
  obtain⟨z,r',⟨o,ho,hc,n,hd'⟩,_⟩:=I.tuple (hits t ht).1;obtain⟨a,b,rfl,ra,rb⟩:∃a b,z=a++b/\bI (t.2.1.map V.int) a/\bI t.2.2 b:=by
   clear hd' ho hc;generalize t.2.1.map V.int=m at r';induction m generalizing z with
   |nil=>exact⟨[],z,rfl,.nil,r'⟩
   |cons x y ih=>
    cases r' with
    |cons x1 x2=>
     obtain⟨a,b,rfl,ra,rb⟩:=ih _ x2;exact⟨_::a,b,rfl,.cons x1 ra,rb⟩
  exact⟨o,a,b,n,ho,hc,hd',kJ ra⟩
 have cmp:2<=(its.map λt=>Value.ref t.1).length->Cmp X.prog X.w s s.heap.objs.size (its.map λt=>Value.ref t.1) (λi j=>eB (num i) (num j)) (tuples' aj):=λtwo=>by
  have far:∀{b o},s.heap.get? b=aa o->b≠s.heap.objs.size:=λe=>fu (az e);refine⟨wO num,λA h Q' hk q'=>?_,λA h i j C hk hi hj hn q'=>?_⟩
  ·have go:∀l:List Gg,(∀t∈l,t∈its) -> ∃fs:List af,KatTups h (l.map λt=>Value.ref t.1) fs/\fs.length=l.length /\ ∀v∈fs,∃x y,v=Value.int x y:=by
    intro l;induction l with
    |nil=>intro _;exact⟨[],.nil,rfl,λv hv=>by cases hv⟩
    |cons t r ih=>
     intro hm;obtain⟨fs,kt,e,al⟩:=ih λu hu=>hm u (di _ hu);have ht:=hm t (de ..);obtain⟨o,a,b,n,ho,hc,hd',ia⟩:=tup t ht;obtain⟨x,Wn,ex⟩:∃x Wn,t.2.1=x::Wn:=by
      have:=(hits t ht).2;cases e':t.2.1 with
      |nil=>rw[e'] at this;cases this
      |cons x Wn=>exact⟨x,Wn,rfl⟩
     rw[ex] at ia;cases ia with
     |cons _ y ia'=>
      refine⟨Value.int x y::fs,KatTups.cons (hk _ _ (far ho) ho) hc hd' (by simp) kt,by simp[e],λv hv=>?_⟩;rcases dt.mp hv with rfl | hv
      ·exact⟨x,y,rfl⟩
      ·exact al v hv
   obtain⟨fs,kt,e,al⟩:=go its λ_ h=>h;refine kat_kind (s:={ s with heap:=h }) (T:=.type "int") kt (by rw[e];simp at two;right) (λv hv=>?_) ∅ q';obtain⟨x,y,rfl⟩:=al v hv;exact Looks.of_pure rfl
  ·rw[len] at hi hj;rw[get i hi,get j hj];obtain⟨o,a,b,n,ho,hc,hd',ia⟩:=tup _ (mem i hi);obtain⟨o2,a2,b2,n2,ho2,hc2,hd2,ia2⟩:=tup _ (mem j hj);refine kat_lt (s:={ s with heap:=h }) (hk _ _ (far ho) ho) hd' (hk _ _ (far ho2) ho2) hd2 ?_;exact Ad _ _ a a2 b b2 0 ia ia2 (by rw[(hits _ (mem i hi)).2,(hits _ (mem j hj)).2]) (ne i j hi hj hn) q'
 refine D3 (lt:=λi j=>eB (num i) (num j)) (κ:=tuples' aj) pl.isList (by rw[len];exact h64) cmp λp' pm up=>?_;rw[len] at pm up
 let its':=p'.toList.map λi=>its.getD i (0,[],[])
 have perm:its'.Perm its:=CK pm its rfl _;have pw:its'.Pairwise (λt u=>eB t.2.1 u.2.1=aj):=sC pm up its _ _ λi j hi hj b=>by
  rcases b.2 with z | z
  ·exact z
  ·rcases mF _ _ (ne i j hi hj (fu z)) with y | y
   ·exact y
   ·have b1:eB (num j) (num i)=ap:=b.1;rw[b1] at y;cases y
 have ep:picked (its.map λt=>Value.ref t.1) p'=its'.map λt=>Value.ref t.1:=by
  unfold picked;rw[ny];apply sy;intro i hi;exact get i (Sh.mp (pm.list.mem_iff.mp hi))
 rw[ep];obtain⟨c,at1⟩:=TJ s.heap (its.map λt=>Value.ref t.1) (its'.map λt=>Value.ref t.1).toArray;have rel:∀l:List Gg,bI (l.map λt=>V.ref t.1) (l.map λt=>Value.ref t.1):=λl=>by
  induction l with
  |nil=>exact .nil
  |cons t r ih=>exact .cons rfl ih
 have hle:(its'.map λt=>V.ref t.1).length<=bh:=by rw[ie,bv,perm.length_eq];right
 exact⟨.ref (s.heap.objs.size+1),_,I.laid (t':=s.toks) (λb o e=>Sv e) (vi _) (show cL X.prog X.w _ _ _ (.lst _) from⟨hle,_,c,rel its',at1⟩),rfl,q its' perm pw _ (I.hok.fresh (vi _))⟩
theorem yZ:eP X (.builtin "sorted") (λxs H Q=>∃(p:ah) (ns:List Int),xs=[.ref p]/\fJ X.K H p (ns.map V.int)/\ns.length<64 /\ ∀ms:List Int,ms.Perm ns->ms.Pairwise (· <= ·) -> ∀l,H l=aq->Q (.ref l) (upd H l (.lst (ms.map V.int)))):=by
 intro pj s σ H xs us Q I r h;obtain⟨p,ns,rfl,hl,h64,q⟩:=h;obtain⟨u,rfl,ru⟩:=iM r;cases ru;obtain⟨vs,rv,pl,hz⟩:=I.list hl;have ia:=kJ rv;refine sorted_ints pl.isList ia (by rw[ia.length];exact h64) λout ms hi hp hs=>?_;obtain⟨c,at1⟩:=TJ s.heap vs out;have back:∀{us:List af} {ns:List Int},jc us ns->bI (ns.map V.int) us:=λh=>by
  induction h with
  |nil=>exact .nil
  |cons a t _ ih=>exact .cons ⟨t,rfl⟩ ih
 have ea:out.toList.toArray=out:=by cases out;rfl
 have hle:(ms.map V.int).length<=bh:=by rw[ie,bv,hp.length_eq];right
 exact⟨.ref (s.heap.objs.size+1),_,I.laid (t':=s.toks) (λb o e=>Sv e) (vi _) (show cL X.prog X.w _ _ _ (.lst _) from⟨hle,out.toList,c,back hi,by rw[ea];exact at1⟩),rfl,q ms hp hs _ (I.hok.fresh (vi _))⟩
end L2
namespace Z
open L2
section
variable {pos:jw}
noncomputable def Ln:dE:=λ_ Q=>Q (.nw (.dit []))
theorem xU:QE X (.Dict [] [] pos) Ln:=
 ⟨λρ Q Q' w q=>w _ q,λHZ F=>d6 FB λσ H Q ⟨ρ,fr,q⟩ p hp=>q _ _ (aM.new' hp) ⟨p,rfl,hp,0,[],bN,.nil⟩⟩
noncomputable def vA(kvs:List (List bU×Dv))(k:List bU)(d:Dv):List (List bU×Dv):=
 if kvs.any (λkv=>decide (kv.1=k)) then kvs.map (λkv=>if kv.1=k then (kv.1,d) else kv) else kvs++[(k,d)]
theorem RepT.any{K:ak}{M:ah->Prop}{H:Hp}{k:List bU}{xs:List (List bU×V)}{ds:List (List bU×Dv)}(r:RepT K M H xs ds):xs.any (λkv=>decide (kv.1=k))=ds.any (λkv=>decide (kv.1=k)):=
 r.ind (P:=λxs ds=>xs.any (λkv=>decide (kv.1=k))=ds.any (λkv=>decide (kv.1=k))) rfl λ_ _ _ _ _ _ _ ih=>by rw[wn,wn,ih]
theorem RepT.len{xs:List (List bU×V)}{ds:List (List bU×Dv)}(r:RepT K M H xs ds):xs.length=ds.length:=r.ind (P:=λxs ds=>xs.length=ds.length) rfl λ_ _ _ _ _ _ _ ih=>congrArg (· + 1) ih
theorem RepT.snoc{k:List bU}{x:V}{d:Dv}(a:Rep K M H x d){xs:List (List bU×V)}{ds:List (List bU×Dv)}(r:RepT K M H xs ds):RepT K M H (xs++[(k,x)]) (ds++[(k,d)]):=
 r.ind (P:=λxs ds=>RepT K M H (xs++[(k,x)]) (ds++[(k,d)])) (.cons a .nil) λ_ _ _ _ _ b _ ih=>.cons b ih
theorem RepT.repl{k:List bU}{x:V}{d:Dv}(a:Rep K M H x d){xs:List (List bU×V)}{ds:List (List bU×Dv)}(r:RepT K M H xs ds):
  RepT K M H (xs.map λkv=>if kv.1=k then (kv.1,x) else kv) (ds.map λkv=>if kv.1=k then (kv.1,d) else kv):=
 r.ind (P:=λxs ds=>RepT K M H (xs.map λkv=>if kv.1=k then (kv.1,x) else kv) (ds.map λkv=>if kv.1=k then (kv.1,d) else kv)) .nil λk' _ _ _ _ b _ ih=>by
  rw[dh,dh];by_cases e:k'=k
  ·rw[Wj e,Wj e];exact .cons a ih
  ·rw[VT e,VT e];exact .cons b ih
theorem RepT.put{k:List bU}{x:V}{d:Dv}{xs:List (List bU×V)}{ds:List (List bU×Dv)}(r:RepT K M H xs ds)(a:Rep K M H x d):RepT K M H (pW xs k x) (vA ds k d):=by
 unfold pW vA;rw[r.any (k:=k)];split
 ·exact r.repl a
 ·exact r.snoc a
noncomputable def oE(i:Nat)(tk tv:dE):cI:=λE ρ=>match ρ[i]? with
 |some (.own a (.dit kvs))=>tv ρ λr=>tk ρ λkk=>∃k:List bU,kk.d=.tup (k.map kD)/\(r.free=aj/\kvs.length<zM)/\E.nx (ρ.set i (.own a (.dit (vA kvs k r.d))))
 |_=>False
theorem pS{x:bn}{p1 p2:jw}{k:Expr}{tk:dE}(hu:X.A.units+1<lq)(hv:PE X (.Name x p1) (zV i))(hk:QE X k tk)(he:QE X e te)
  (hs:autoParam (ji e (aa (.Subscript (.Name x p1) k p2)) pos.line X.env=io ap) bV._auto_1):QS X (.Assign [.Subscript (.Name x p1) k p2] e pos) (oE i tk te):=by
 refine⟨λE E' ρ w h=>?_,λHZ F=>eM (HV hu hv (hk.run HZ F) (he.run HZ F) hs) λD σ H ⟨ρ,E,fr,h,en⟩=>?_⟩
 ·unfold oE at *;split at h
  ·exact he.mono _ _ _ (λr q=>hk.mono _ _ _ (λkk zq6=>by obtain⟨k,a,b,c⟩:=zq6;exact⟨k,a,b,w.nx _ c⟩) q) h
  ·exact h
 ·unfold oE at h;split at h
  ·rename_i a kvs hx;refine he.step fr h λr y H1 q S1 r1=>?_;have fr1:=fr.mono S1;obtain⟨hs1,ep,vs,hv1,rv1⟩:=fr1.sl i _ hx;refine⟨_,hs1,hk.step fr1 q λkk z H2 q S2 rk=>?_⟩;obtain⟨ks,ek,⟨qf,ql⟩,q2⟩:=q;have ck:=rk.c;rw[ek] at ck;obtain⟨b,zs,rfl,eb,rb⟩:=ck.tup;have ez:zs=ks.map kV:=rb.keys;have rep:=(r1.rep (λa m=>fr.dom m) qf).mono S2;have hv2:=S2 _ _ hv1;refine⟨a,rfl,Gm.t hv2 (ez ▸ eb) (by rw[rv1.len];exact yE ql) λep2=>?_⟩;refine en.nx _ _ _ ((fr1.mono S2).write (d':=.dit (vA kvs ks r.d)) hx ⟨_,_,bN,?_⟩) q2;have G:Gen X.K (MM F ρ) (MM F ρ) H2 (upd H2 a (.dT ep2 (pW vs ks y))):=Gen.write (.inr ⟨_,eg hx⟩) (by rw[hv2];trivial);exact((rv1.gen (.mono S2)).put rep).gen G
  ·exact h.elim
noncomputable def rB(i:Nat):cI:=λE ρ=>match ρ[i]? with
 |some (.own a (.lst _))=>E.nx (ρ.set i (.own a (.lst [])))
 |_=>False
theorem HK{x:bn}{p1 p2 p3:jw}(hv:PE X (.Name x p1) (zV i))(hs:autoParam (ji (.Call (.Attribute (.Name x p1) "clear" p2) [] [] p3) aq pos.line X.env=io ap) bV._auto_1)
  (WB:autoParam (mq (.Name x p1) "clear" X.env (fz (.Name x p1) X.env)=fz (.Name x p1) X.env) bV._auto_1) (WC:autoParam ((p2.endLine==p3.line)=aj) bV._auto_1):
  QS X (.Expr (.Call (.Attribute (.Name x p1) "clear" p2) [] [] p3) pos) (rB i):=by
 refine⟨λE E' ρ w h=>?_,λHZ F=>eM (sZ (K4 sf PySem.F.slot_list_clear PySem.F.type_list_clear FT hv WB WC) hs) λD σ H ⟨ρ,E,fr,h,en⟩=>?_⟩
 ·unfold rB at *;split at h
  ·exact w.nx _ h
  ·exact h
 ·unfold rB at h;split at h
  ·rename_i a xs hx;obtain⟨hs1,vs,hv1,rv1⟩:=fr.sl i _ hx;refine⟨_,hs1,.inl ⟨rfl,_,fJ.of hv1⟩,a,vs,rfl,rfl,hv1,?_⟩;exact en.nx _ _ _ (fr.write (d':=.lst []) hx ⟨_,bN,.nil⟩) h
  ·exact h.elim
noncomputable def A6(i:Nat):cI:=λE ρ=>match ρ[i]? with
 |some (.own a (.lst xs))=>E.nx (ρ.set i (.own a (.lst xs.reverse)))
 |_=>False
noncomputable abbrev tI(t:List Int×List Dv):Dv:=.tup (t.1.map .int++t.2)
noncomputable def iD:List Dv->(R->Prop)->Prop
 | [.lst xs],Q=>(∃ns:List Int,xs=ns.map .int/\ns.length<64 /\ ∀ms:List Int,ms.Perm ns->ms.Pairwise (· <= ·)->Q (.nw (.lst (ms.map .int)))) \/
  ∃(ts:List (List Int×List Dv)) (k:Nat),xs=ts.map tI/\ts.length<64/\(∀t∈ts,t.1.length=k+1)/\ts.Pairwise (λt u=>t.1≠u.1) /\ ∀ts':List (List Int×List Dv),ts'.Perm ts->ts'.Pairwise (λt u=>eB t.1 u.1=aj)->Q (.nw (.lst (ts'.map tI)))
 |_,_=>False
theorem Reps.fore{K:ak}{M:ah->Prop}{H:Hp}:∀{ns:List Int} {xs:List V} {ds:List Dv},Reps K M H xs (ns.map .int++ds) -> ∃ys,xs=ns.map V.int++ys/\Reps K M H ys ds
 | [],xs,ds,r=>⟨xs,rfl,r⟩
 |n::ns,_,ds,.cons a r=>by
  obtain⟨ys,e,r'⟩:=Reps.fore (ns:=ns) r;cases a;exact⟨ys,by rw[e];rfl,r'⟩
theorem wF{β:Type}{f:α->β}{zs ws:List β}(hp:zs.Perm ws):∀{its:List α},its.map f=ws -> ∃jts:List α,jts.Perm its/\zs=jts.map f:=by
 induction hp with
 |nil=>intro its hz;exact⟨its,.refl _,hz.symm⟩
 |cons x p ih=>
  intro its hz;cases its with
  |nil=>cases hz
  |cons t r=>
   rw[dh] at hz;injection hz with h1 h2;obtain⟨j,hj,e⟩:=ih h2;exact⟨t::j,hj.cons t,by rw[dh,h1,e]⟩
 |swap x y l=>
  intro its hz
  match its,hz with
  |t::u::r,hz=>
   simp only[dh,yz] at hz;obtain⟨h1,h2,h3⟩:=hz;exact⟨u::t::r,.swap _ _ _,by simp only[dh,h1,h2,h3]⟩
 |trans p1 p2 ih1 ih2=>
  intro its hz;obtain⟨j,hj,e⟩:=ih2 hz;obtain⟨j2,hj2,e2⟩:=ih1 e.symm;exact⟨j2,hj2.trans hj,e2⟩
theorem rX:l8 X (.builtin "sorted") iD:=by
 refine⟨λds Q Q' w h=>?_,_,yZ.or yY,λM O H xs ds Q c h=>?_⟩
 ·unfold iD at *;split at h
  ·rcases h with⟨ns,a,b,q⟩ | ⟨ts,k,a,b,c,d,q⟩
   ·exact .inl ⟨ns,a,b,λms x y=>w _ (q ms x y)⟩
   ·exact .inr ⟨ts,k,a,b,c,d,λts' x y=>w _ (q ts' x y)⟩
  ·exact h
 ·unfold iD at h;split at h
  ·obtain⟨x,rfl,cx⟩:=eL c;obtain⟨a,ys,rfl,ea,ra⟩:=cx.lst;rcases h with⟨ns,rfl,hl,q⟩ | ⟨ts,k,rfl,hl,hk,hd,q⟩
   ·have ey:ys=ns.map V.int:=by
     have ra':Reps X.K M H ys (ns.map .int++[]):=by simpa using ra
     obtain⟨zs,e,r'⟩:=ra'.fore;cases r';simpa using e
    subst ey;exact .inl ⟨a,ns,rfl,fJ.of ea,hl,λms hp hs l hl=>q ms hp hs _ _ (aM.new' hl) (i4 hl (Reps.ints _))⟩
   ·-- what each item is,by its place
    have go:∀{ys:List V} {ts:List (List Int×List Dv)},Reps X.K M H ys (ts.map tI) -> ∃its:List (Gg×List Dv),ys=its.map (λt=>V.ref t.1.1)/\ts=its.map (λt=>(t.1.2.1,t.2)) /\
      ∀t∈its,H t.1.1=aa (.tup (t.1.2.1.map V.int++t.1.2.2))/\Reps X.K M H t.1.2.2 t.2:=by
     intro ys ts r;induction ts generalizing ys with
     |nil=>cases r;exact⟨[],rfl,rfl,λt ht=>by cases ht⟩
     |cons t ts ih=>
      cases r with
      |cons u r=>
       obtain⟨its,e1,e2,e3⟩:=ih r;cases u with
       |tup hb rb=>
        obtain⟨zs,e,rz⟩:=rb.fore;subst e;refine⟨((_,t.1,zs),t.2)::its,by rw[e1];rfl,by rw[e2];rfl,λy hy=>?_⟩;rcases dt.mp hy with rfl | hy
        ·exact⟨hb,rz⟩
        ·exact e3 y hy
    obtain⟨its,rfl,rfl,al⟩:=go ra;refine .inr ⟨a,its.map (·.1),k,rfl,by rw[ny];exact fJ.of ea,by simpa using hl,λt ht=>?_,?_,λits' hp hs l hl=>?_⟩
    ·obtain⟨u,hu,rfl⟩:=jx.mp ht;exact⟨jP.of (al u hu).1,hk _ (jx.mpr ⟨u,hu,rfl⟩)⟩
    ·rw[ki] at hd ⊢;exact hd
    ·-- bring the plain parts along
     obtain⟨jts,hj,rfl⟩:=wF hp rfl;have rr:∀jts:List (Gg×List Dv),(∀t∈jts,t∈its)->Reps X.K M H (jts.map λt=>V.ref t.1.1) ((jts.map λt=>(t.1.2.1,t.2)).map tI):=by
      intro jts;induction jts with
      |nil=>intro _;exact .nil
      |cons t r ih=>
       intro hm;have ht:=al t (hm t (de ..));have one:Reps X.K M H (t.1.2.1.map V.int++t.1.2.2) (t.1.2.1.map .int++t.2):=(Reps.ints _).append ht.2;exact .cons (.tup ht.1 one) (ih λu hu=>hm u (di _ hu))
     rw[ny];show Q _ (upd H l (.lst (jts.map λt=>V.ref t.1.1)));refine q (jts.map λt=>(t.1.2.1,t.2)) (hj.map _) ?_ _ _ (aM.new' hl) (i4 hl (rr jts λt ht=>hj.mem_iff.mp ht));rw[ki] at hs ⊢;exact hs
  ·exact h.elim
end
variable {j:Int}
theorem OT{i:Int}:(d8 (.int i) (.int j) Q)=(Q (.v (.int (i+j)))):=rfl
theorem O7{i:Int}:(gL (.int i) (.int j) Q)=(Q (.v (.int (i-j)))):=rfl
theorem OH{i:Int}:(cA (.int i) (.int j) Q)=(l9 i j/\Q (.v (.int (i*j)))):=rfl
theorem OQ{i:Int}:(fD (.int i) (.int j) Q)=((0<j/\j<2 ^ 200)/\Q (.v (.int (i / j)))):=rfl
theorem My{i:Int}:(Mz (.int i) (.int j) Q)=((j≠0/\j.natAbs<2 ^ 4000)/\Q (.v (.int (i.fdiv j)))):=rfl
theorem OI{i:Int}:(eY (.int i) (.int j) Q)=(0<j/\Q (.v (.int (i % j)))):=rfl
theorem Mp{i:Int}:(AL (.int i) (.int j) Q)=(j≠0/\Q (.v (.int (i.fmod j)))):=rfl
theorem O9{i:Int}:(Pk (.int i) (.int j) Q)=(Go i j/\Q (.v (.int (i ^ j.toNat)))):=rfl
variable {xs:List Dv}
theorem OS{ys:List Dv}:(d8 (.lst xs) (.lst ys) Q)=((xs.length+ys.length<=zM/\Q (.nw (.lst (xs++ys))))):=rfl
theorem OR{x y:bn}:(d8 (.str x) (.str y) Q)=((x.length+y.length<=zM/\Q (.v (.str (x++y))))):=rfl
theorem OG{k:Int}:(cA (.lst xs) (.int k) Q)=(((-(2 ^ 63)<=k/\k<2 ^ 63/\xs.length*k.toNat<=zM)/\Q (.nw (.lst (av k.toNat xs).flatten)))):=rfl
theorem Py{f:Int->Int->Bool}{i:Int}:(wJ f (.int i) (.int j) Q)=(Q (.v (.bl (f i j)))):=rfl
theorem Pv{d:Dv}:(FK d .non Q)=(Q (.v (.bl (isN d)))):=rfl
theorem OA{d:Dv}:(Mn d .non Q)=(Q (.v (.bl (!isN d)))):=rfl
variable {b:Bool}
theorem Pw{d:Dv}:(Px d (.bl b) Q)=(Q (.v (.bl (isB b d)))):=rfl
theorem OB{d:Dv}:(Mo d (.bl b) Q)=(Q (.v (.bl (!isB b d)))):=rfl
theorem Pz{i:Int}:(sG (.int i) (.int j) Q)=(Q (.v (.bl (decide (i=j))))):=rfl
theorem Pl{i:Int}:(wI (.int i) (.int j) Q)=(Q (.v (.bl (!decide (i=j))))):=rfl
theorem Q3{x:Bool}{d:Dv}:(sG (.bl x) d Q)=(((dQ 8 (.bl x)=aj/\dQ 8 d=aj)/\Q (.v (.bl (eqD (.bl x) d))))):=rfl
theorem Pn{x:Bool}{d:Dv}:(wI (.bl x) d Q)=(((dQ 8 (.bl x)=aj/\dQ 8 d=aj)/\Q (.v (.bl (!eqD (.bl x) d))))):=rfl
theorem OM{x:List Dv}{d:Dv}:(sG (.tup x) d Q)=(((dQ 8 (.tup x)=aj/\dQ 8 d=aj)/\Q (.v (.bl (eqD (.tup x) d))))):=rfl
theorem OC{x:List Dv}{d:Dv}:(wI (.tup x) d Q)=(((dQ 8 (.tup x)=aj/\dQ 8 d=aj)/\Q (.v (.bl (!eqD (.tup x) d))))):=rfl
theorem OP{x:List Dv}{d:Dv}:(sG (.lst x) d Q)=(((dQ 8 (.lst x)=aj/\dQ 8 d=aj)/\Q (.v (.bl (eqD (.lst x) d))))):=rfl
theorem OF{x:List Dv}{d:Dv}:(wI (.lst x) d Q)=(((dQ 8 (.lst x)=aj/\dQ 8 d=aj)/\Q (.v (.bl (!eqD (.lst x) d))))):=rfl
theorem ON{x:bn}{d:Dv}:(sG (.str x) d Q)=(((dQ 8 (.str x)=aj/\dQ 8 d=aj)/\Q (.v (.bl (eqD (.str x) d))))):=rfl
theorem OD{x:bn}{d:Dv}:(wI (.str x) d Q)=(((dQ 8 (.str x)=aj/\dQ 8 d=aj)/\Q (.v (.bl (!eqD (.str x) d))))):=rfl
theorem OO{x:List Int}{d:Dv}:(sG (.scr x) d Q)=(((dQ 8 (.scr x)=aj/\dQ 8 d=aj)/\Q (.v (.bl (eqD (.scr x) d))))):=rfl
theorem OE{x:List Int}{d:Dv}:(wI (.scr x) d Q)=(((dQ 8 (.scr x)=aj/\dQ 8 d=aj)/\Q (.v (.bl (!eqD (.scr x) d))))):=rfl
theorem RJ{i:Int}:(cX (.lst xs) (.int i) Q)=((match lC xs i with | some d=>Q (.v d) | none=>False)):=rfl
theorem RH{i:Int}:(cX (.tup xs) (.int i) Q)=((match lC xs i with | some d=>Q (.v d) | none=>False)):=rfl
theorem RI{i:Int}:(cX (.scr ns) (.int i) Q)=((match lC ns i with | some n=>Q (.v (.int n)) | none=>False)):=rfl
variable {lo hi:Option Int}
theorem RG:(J5 (.lst xs) lo hi Q)=(Q (.nw (.lst (cut xs lo hi)))):=rfl
theorem RF:(J5 (.scr ns) lo hi Q)=(Q (.nw (.lst ((cut ns lo hi).map .int)))):=rfl
theorem RE:(J5 (.tup xs) lo hi Q)=((¬(HT.fU xs.length 0 lo=0/\HT.fU xs.length xs.length hi=xs.length)/\Q (.v (.tup (cut xs lo hi))))):=rfl
theorem Ps:(gD [(.lst xs)] Q)=(Q (.v (.int xs.length))):=rfl
theorem Pq:(gD [(.tup xs)] Q)=(Q (.v (.int xs.length))):=rfl
theorem Pr:(gD [.scr ns] Q)=(Q (.v (.int ns.length))):=rfl
theorem Q5{i:Int}:(vF [.int i] Q)=(Q (.v (.int (if i<0 then -i else i)))):=rfl
theorem Po{i:Int}:(uD [.int i,.int j] Q)=(Q (.v (.int (if j<i then j else i)))):=rfl
theorem Pp{i:Int}:(Mq [.int i,.int j] Q)=(Q (.v (.int (if j > i then j else i)))):=rfl
theorem Mm:(iW [.lst xs] Q)=(Q (.v (.tup xs))):=rfl
theorem Ml:(iW [.tup xs] Q)=(Q (.v (.tup xs))):=rfl
theorem OL:(qA [.lst xs] Q)=(Q (.nw (.lst xs))):=rfl
theorem OJ:(qA [.tup xs] Q)=(Q (.nw (.lst xs))):=rfl
theorem Q4:(DP [.lst ds] Q)=((∃bs:List Bool,ds=bs.map .bl/\Q (.v (.bl (bs.all _root_.id))))):=rfl
theorem Pj:(Ba [.lst ds] Q)=((∃ns:List Int,ds=ns.map .int/\Q (.v (.int ns.sum)))):=rfl
theorem SL{d:Dv}:(R.d (.v d))=(d):=rfl
theorem SN{d:Dv}:(R.d (.nw d))=(d):=rfl
theorem SM{d:Dv}:(R.d (.ow a d))=(d):=rfl
theorem SC{d:Dv}:(R.out (.v d))=(.v d):=rfl
theorem SE{d:Dv}:(R.out (.nw d))=(.nw d):=rfl
theorem SD{d:Dv}:(R.out (.ow a d))=(.nw d):=rfl
theorem SI{d:Dv}:(R.free (.v d))=(aj):=rfl
theorem SK{d:Dv}:(R.free (.nw d))=(aj):=rfl
theorem SJ{d:Dv}:(R.free (.ow a d))=(ap):=rfl
theorem SF{d:Dv}:(R.flat (.v d))=(i7 d):=rfl
theorem SH{d:Dv}:(R.flat (.nw d))=(uO d):=rfl
theorem SG{d:Dv}:(R.flat (.ow a d))=(ap):=rfl
theorem Qh{a:Bool}:(eqD (.bl a) (.bl b))=((a==b)):=by cases a<;>cases b<;>simp[eqD,fC,ir]
variable {ρ0:List Sl}{tt:l6}{acc:List Dv}
theorem p9{g:zE}:(d9 ρ0 g tt te [] acc Q)=(Q (.nw (.lst acc))):=rfl
theorem sN{g:zE}{d:Dv}{r:List Dv}:(d9 ρ0 g tt te (d::r) acc Q)=((g d ρ0 λρ1=>tt ρ1 λb=>if b=aj then te ρ1 λv=>(v.free=aj/\acc.length<zM)/\d9 ρ0 g tt te r (acc++[v.d]) Q else d9 ρ0 g tt te r acc Q)):=rfl
theorem gK{xs:List α}{i:Int}(h0:0<=i)(h1:i<xs.length):lC xs i=xs[i.toNat]?:=by
 unfold lC rL;rw[Wj h0,Wj h1];rfl
theorem Rf{x:α}{r:List α}:lC (x::r) 0=aa x:=by rw[gK ∅ (by simp<;>right)];rfl
theorem Re{x y:α}{r:List α}:lC (x::y::r) 1=aa y:=by rw[gK ∅ (by simp<;>right)];rfl
theorem Rc{x y z:α}{r:List α}:lC (x::y::z::r) 2=aa z:=by rw[gK ∅ (by simp<;>right)];rfl
theorem Rb{x y z w:α}{r:List α}:lC (x::y::z::w::r) 3=aa w:=by rw[gK ∅ (by simp<;>right)];rfl
theorem Ra{x y z w v:α}{r:List α}:lC (x::y::z::w::v::r) 4=aa v:=by rw[gK ∅ (by simp<;>right)];rfl
theorem Qa{c:Bool}:isB b (.bl c)=(c==b):=rfl
theorem OW{i:Int}:isB b (.int i)=ap:=rfl
theorem RO:isN .non=aj:=rfl
theorem RS:isN (.bl b)=ap:=rfl
theorem RR{i:Int}:isN (.int i)=ap:=rfl
theorem RM{i:bn}:isN (.str i)=ap:=rfl
theorem RL{i:List Dv}:isN (.tup i)=ap:=rfl
theorem RQ{i:List Dv}:isN (.lst i)=ap:=rfl
theorem RN{i:List (bn×Dv)}:isN (.obj C i)=ap:=rfl
theorem Ow:nD (.bl b)=aa b:=rfl
theorem Oq:nD .non=aa ap:=rfl
theorem Ov{i:Int}:nD (.int i)=aa (i != 0):=rfl
theorem Os:nD (.lst xs)=aa (!xs.isEmpty):=rfl
theorem Oo:nD (.tup xs)=aa (!xs.isEmpty):=rfl
theorem Ot{xs:List (bU×Dv)}:nD (.dik xs)=aa (!xs.isEmpty):=rfl
theorem Op{xs:List Int}:nD (.scr xs)=aa (!xs.isEmpty):=rfl
theorem QZ:rL 1 0=aa 0:=rfl
theorem QY:rL 2 0=aa 0:=rfl
theorem QU:rL 2 1=aa 1:=rfl
theorem QR:rL 3 0=aa 0:=rfl
theorem QQ:rL 3 1=aa 1:=rfl
theorem QP:rL 3 2=aa 2:=rfl
theorem QN:rL 4 0=aa 0:=rfl
theorem QM:rL 4 1=aa 1:=rfl
theorem QL:rL 4 2=aa 2:=rfl
theorem QK:rL 4 3=aa 3:=rfl
theorem QJ:rL 5 0=aa 0:=rfl
theorem QH:rL 5 1=aa 1:=rfl
theorem QF:rL 5 2=aa 2:=rfl
theorem QD:rL 5 3=aa 3:=rfl
theorem QC:rL 5 4=aa 4:=rfl
theorem gO{lo:Int}:bW lo 0=[]:=rfl
theorem eX{lo:Int}:bW lo (n+1)=.int lo::bW (lo+1) n:=by
 unfold bW;rw[List.range_succ_eq_map,dh,ny];congr 1
 ·simp
 ·apply sy;intro k _;show Dv.int _=Dv.int _;congr 1;show lo+((k+1:Nat):Int)=lo+1+k;right
theorem Mw{i:Int}:(Mx (.int i) (.int j) Q)=(Q (.v (.int (i+j)))):=rfl
theorem Ms{i:Int}:(Mt (.int i) (.int j) Q)=(Q (.v (.int (i-j)))):=rfl
theorem Mu{i:Int}:(Mv (.int i) (.int j) Q)=(l9 i j/\Q (.v (.int (i*j)))):=rfl
theorem Aw{xs:List α}{k:Int}(h0:0<=k):cut xs (aa k) aq=xs.drop k.toNat:=by
 unfold cut;have e:HT.fU xs.length 0 (aa k)=min k.toNat xs.length:=by show (if k<0 then _ else _)=_;rw[VT ⋯]
 rw[e,HT.A7];rcases VB k.toNat xs.length with h | h
 ·rw[nj h];exact ma (by rw[zn];exact bj _)
 ·rw[U8 h,yq (bj _),yq h,List.take_nil]
theorem GV{xs:List α}{k:Int}(h0:0<=k):cut xs aq (aa k)=xs.take k.toNat:=by
 unfold cut;have e:HT.fU xs.length xs.length (aa k)=min k.toNat xs.length:=by show (if k<0 then _ else _)=_;rw[VT ⋯]
 rw[e,HT.A7,List.drop_zero,Nat.sub_zero];rcases VB k.toNat xs.length with h | h
 ·rw[nj h]
 ·rw[U8 h,ma (bj _),ma h]
theorem M3{d:Dv}:JT a N (d::ds)=.own a d::(ds.map .v++av (N.length-(ds.length+1)) .un):=rfl
theorem O8{i:Int}:(Bc (.int i) (.int j) Q)=(Go i j/\Q (.v (.int (i*2 ^ j.toNat)))):=rfl
theorem wH(h:ns.length<64)(q:∀ms:List Int,ms.Perm ns->ms.Pairwise (· <= ·)->Q (.nw (.lst (ms.map .int)))):iD [.lst (ns.map .int)] Q:=.inl ⟨ns,rfl,h,q⟩
theorem DL{ts:List (List Int×List Dv)}{k:Nat}(h:ts.length<64)(hk:∀t∈ts,t.1.length=k+1)(hd:ts.Pairwise (λt u=>t.1≠u.1))
  (q:∀ts':List (List Int×List Dv),ts'.Perm ts->ts'.Pairwise (λt u=>eB t.1 u.1=aj)->Q (.nw (.lst (ts'.map tI)))):iD [.lst (ts.map tI)] Q:=.inr ⟨ts,k,rfl,h,hk,hd,q⟩
theorem G1:∀{a b:List bU},a.map kD=b.map kD->a=b
 | [],[],_=>rfl
 | [],_::_,h=>by cases h
 |_::_,[],h=>by cases h
 |a::r,b::t,h=>by
  rw[dh,dh] at h;injection h with h1 h2;have e:a=b:=by cases a<;>cases b<;>first | (injection h1 with h1;rw[h1]) | cases h1
  rw[e,G1 h2]
theorem Pu{kvs:List (List bU×Dv)}{a b:Int}:(cX (.dit kvs) (.tup [.int a,.int b]) Q)=(match kvs.find? (λkv=>decide (kv.1=[ft a,ft b])) with | some kv=>Q (.v kv.2) | none=>False):=by
 apply propext;constructor
 ·rintro⟨k,e,h⟩;have:k=[ft a,ft b]:=G1 (e.symm.trans rfl);subst this;exact h
 ·exact λh=>⟨[ft a,ft b],rfl,h⟩
end Z
namespace Sf
structure Rw where
 x:Int
 y:Int
 m:Int
noncomputable def Rw.up(r:Rw):Prop:=0<r.y \/ (r.y=0/\0<r.x)
noncomputable def crs(a b:Rw):Int:=a.x*b.y-b.x*a.y
theorem xA{a b c:Rw}(ha:a.up)(hb:b.up)(hc:c.up)(h1:0<crs a b)(h2:0<crs b c):0<crs a c:=by
 unfold crs at *;have key:b.y*(a.x*c.y-c.x*a.y)=a.y*(b.x*c.y-c.x*b.y)+c.y*(a.x*b.y-b.x*a.y):=by
  simp only[Int.mul_sub];have e1:a.y*(b.x*c.y)=c.y*(b.x*a.y):=by rw[qx,yr a.y c.y,qx]
  have e2:b.y*(a.x*c.y)=c.y*(a.x*b.y):=by rw[qx,yr b.y c.y,qx]
  have e3:b.y*(c.x*a.y)=a.y*(c.x*b.y):=by rw[qx,yr b.y a.y,qx]
  right
 have hay:0<=a.y:=by rcases ha with h | ⟨h,_⟩<;>right
 have hcy:0<=c.y:=by rcases hc with h | ⟨h,_⟩<;>right
 rcases hb with hby | ⟨hby,hbx⟩
 ·have p1:0<=a.y*(b.x*c.y-c.x*b.y):=ri hay (vo h2);have p2:0<=c.y*(a.x*b.y-b.x*a.y):=ri hcy (vo h1);by_cases h0:0<a.x*c.y-c.x*a.y
  ·exact h0
  ·exfalso;have q:b.y*(a.x*c.y-c.x*a.y)<=0:=Int.mul_nonpos_of_nonneg_of_nonpos (vo hby) ⋯;have z1:a.y*(b.x*c.y-c.x*b.y)=0:=⋯;have z2:c.y*(a.x*b.y-b.x*a.y)=0:=⋯;have ay0:a.y=0:=by
    rcases UB.mp z1 with h | h
    ·exact h
    ·right
   have cy0:c.y=0:=by
    rcases UB.mp z2 with h | h
    ·exact h
    ·right
   have cx:0<c.x:=by rcases hc with h | ⟨_,h⟩<;>right
   rw[cy0] at h2;have:0<c.x*b.y:=TK cx hby;right
 ·exfalso;rw[hby] at h1;have h3:b.x*a.y<0:=⋯;have h4:0<=b.x*a.y:=ri (vo hbx) hay;right
noncomputable def place(v:Rw)(rows:List Rw):Nat:=rows.countP λr=>decide (0<crs r v)
noncomputable def tF(rows:List Rw):Prop:=rows.Pairwise λa b=>0<crs a b
structure Pre(s:Int)(rows:List Rw):Prop where
 srt:tF rows
 ok:∀r∈rows,r.up /\ -s<=r.x/\r.x<=s/\r.y<=s/\1<=r.m
noncomputable def many(rows:List Rw):Int:=(rows.map (·.m)).sum
structure Good(rows:List Rw):Prop where
 lo:2<=rows.length
 hi:rows.length<=6
 srt:tF rows
 ok:∀r∈rows,r.up /\ -999999999999<=r.x/\r.x<=999999999999/\r.y<=999999999999/\1<=r.m
 tot:many rows<=12
noncomputable def b8:Nat->List Rw->List Int
 |_,[]=>[]
 |k,r::rs=>av r.m.toNat (k:Int)++b8 (k+1) rs
noncomputable abbrev aS(rows:List Rw):List Int:=b8 0 rows
theorem Af:∀(k:Nat) (rows:List Rw),∀z∈b8 k rows,(k:Int)<=z/\z<(k:Int)+rows.length
 |_,[],z,h=>by simp[b8] at h
 |k,r::rs,z,h=>by
  simp only[b8,gf,cj] at h ⊢;rcases h with h | h
  ·rw[eh h];right
  ·have:=Af (k+1) rs z h;right
end Sf
namespace L2
section
variable {D:Ends}{Q:VK}{t u:TS}{te ta tb tc:TE}{g:TG}
end
end L2
namespace Z
open L2
theorem D0(h:∀Q:R->Prop,Q (.v (.bl aj))->sp [.scr ns] Q)(hO:Gk H)(hT:xG K H)(hS:fJ K H a (ns.map V.int)):low K sp [.ref a] H (λv _=>v=.bl aj) (λ_ _ _=>False):=by
 refine⟨λ_=>False,[.scr ns],⟨λ_ z=>z.elim,hT⟩,.cons (.scr ?_) .nil,h _ λx H' S r=>?_⟩
 ·rcases hS with(h | h) | h
  ·rcases hO a with z | ⟨o,xs,z⟩
   ·rw[z] at h;cases h
   ·rw[z] at h;cases h
  ·exact .inl h
  ·exact .inr h
 ·have r':Rep K (λ_=>False) H' x (.bl aj):=r;cases r';rfl
end Z
variable {ks:List Int}
namespace L2
variable {xs:List af}
noncomputable abbrev grown(h:cm)(xs:List af):cm:=(h.push (jj "list" #[] 0)).update h.objs.size (ug (· ++ xs.toArray))
theorem Az{t:ah}{P:List af->ai->Prop}(ht:Vi s.heap t xs.toArray)(Wy:xs.length<=bh)(k:P xs { s with heap:=grown s.heap xs }):bi (bu prog w) A (VC (.ref t)) P E s:=by
 obtain⟨ob,get,cl,m,dat⟩:=ht;have new:(s.heap.push (jj "list" #[] 0)).get? s.heap.objs.size=aa (jj "list" #[] 0):=bw s.heap rfl;have old:=ao (jj "list" #[] 0) get;have room:((#[]:Array af)++xs.toArray).size<=bh+1:=by
  rw[Array.size_append,dg];exact kh (VQ (wr _)) (Nat.le_succ_of_le Wy)
 have Wz:((#[]:Array af)++xs.toArray).toList=xs:=by simp
 have tuple:(ue "tuple" == ue "tuple")=aj:=rfl;unfold VC;apply ae;apply V2;apply re entry_proto_collect';show bi _ _ (Vw [] >>= λacc=>Vk (.builtin "list.__iadd__" ⟨[acc,.ref t],[]⟩)) _ _ s;apply ae;refine qw ?_ (lj _);apply ar;refine⟨T7 _ (by decide +kernel),?_⟩;apply re entry_list_iadd';show bi _ _ (vp (Value.ref s.heap.objs.size) (Value.ref t) (Value.ref s.heap.objs.size)) _ _ ({ s with heap:=s.heap.push (jj "list" #[] 0) }:ai)
 delta vp
 apply ae;refine wpAny_typeOf (T:="tuple") ⟨ob,old,cl⟩ ?_;rw[Wj (by simp[tuple])];apply ae;refine vn old dat ?_;apply ae;refine vn new rfl ?_;rw[VT (λz=>by simp at z)];apply ae;refine uq new rfl ?_ (lj _) room;apply ar;show bi (bu prog w) A (load s.heap.objs.size >>= λo=>match o.data with
  | .seq ys _=>io ys.toList
  |_=>unsupported "internal:collect") P E ({ s with heap:=grown s.heap xs }:ai)
 apply ae;refine SV (yx new (· ++ xs.toArray)) ?_;apply ar;rw[Wz];exact k
theorem A3{t:ah}{P:af->ai->Prop}(ht:Vi s.heap t xs.toArray)(num:jc xs ks)(few:xs.length<64)
  (k:∀(ys:Array af) (ms:List Int),jc ys.toList ms->ms.Perm ks->ms.Pairwise (· <= ·)->P (.ref (s.heap.objs.size+1)) { s with heap:=sortedAll s.heap xs ys }):
  bi (bu prog w) A (call (Sw "sorted") [Value.ref t]) P E s:=by
 have Wy:xs.length<=bh:=kh (zj few) (by rw[ie];decide);have sz:(grown s.heap xs).objs.size=s.heap.objs.size+1:=(uj ..).trans (V0 _ _);have mine:((grown s.heap xs).push (jj "list" xs.toArray 0)).get? (s.heap.objs.size+1)=aa (jj "list" xs.toArray 0):=sz ▸ bw (grown s.heap xs) rfl;apply qh Ur TD TF (TH _)
 delta qa.«sorted»
 refine ae (m:=V1 "sorted" 1 1 _) (ar (ae (Az ht Wy (ae (qw ?_ Wy)))));show bi _ _ _ _ _ ({ s with heap:=(grown s.heap xs).push (jj "list" xs.toArray 0) }:ai);rw[sz];refine ae (jf (fh zr ⟨_,mine,rfl⟩ yy (list_sort_tree mine num few λys ms b1 b2 b3=>?_) (zt _)));exact⟨_,rfl,ar ⟨_,rfl,k ys ms b1 b2 b3⟩⟩
theorem yX:eP X (.builtin "sorted") (λxs H Q=>∃(p:ah) (ns:List Int),xs=[.ref p]/\jP X.K H p (ns.map V.int)/\ns.length<64 /\ ∀ms:List Int,ms.Perm ns->ms.Pairwise (· <= ·) -> ∀l,H l=aq->Q (.ref l) (upd H l (.lst (ms.map V.int)))):=by
 intro pj s σ H xs us Q I r h;obtain⟨p,ns,rfl,hl,h64,q⟩:=h;obtain⟨u,rfl,ru⟩:=iM r;cases ru;obtain⟨vs,rv,pl,hz⟩:=I.tuple hl;have ia:=kJ rv;refine A3 pl ia (by rw[ia.length];exact h64) λout ms hi hp hs=>?_;obtain⟨c,at1⟩:=TJ s.heap vs out;have back:∀{us:List af} {ns:List Int},jc us ns->bI (ns.map V.int) us:=λh=>by
  induction h with
  |nil=>exact .nil
  |cons a t _ ih=>exact .cons ⟨t,rfl⟩ ih
 have ea:out.toList.toArray=out:=by cases out;rfl
 have hle:(ms.map V.int).length<=bh:=by rw[ie,bv,hp.length_eq];right
 exact⟨.ref (s.heap.objs.size+1),_,I.laid (t':=s.toks) (λb o e=>Sv e) (vi _) (show cL X.prog X.w _ _ _ (.lst _) from⟨hle,out.toList,c,back hi,by rw[ea];exact at1⟩),rfl,q ms hp hs _ (I.hok.fresh (vi _))⟩
noncomputable def MU(K:ak):R2:=λx y H Q=>∃a b xs ys,x=.ref a/\y=.ref b/\jP K H a xs/\jP K H b ys/\xs.length+ys.length<=bh /\
 (xs=[]->Q (.ref b) H)/\(xs≠[]->ys=[]->Q (.ref a) H)/\(xs≠[]->ys≠[] -> ∀p,H p=aq->Q (.ref p) (upd H p (.tup (xs++ys))))
theorem Hm:jY X (gz .Add) (MU X.K):=by
 intro pj s σ H x y v u Q I rx ry h;obtain⟨a,b,xs,ys,rfl,rfl,ha,hb,hz,q0,q1,q2⟩:=h;by_cases hx:xs=[]
 ·cases rx;cases ry;obtain⟨its,r1,p1,_⟩:=I.tuple ha;obtain⟨its2,r2,p2,_⟩:=I.tuple hb;have hv:=r1.nil_iff.mpr hx;obtain⟨⟨cls,dd,data,sl⟩,ho,hc,n,hd⟩:=id p1;obtain⟨⟨cls2,dd2,data2,sl2⟩,ho2,hc2,n2,hd2⟩:=id p2;simp only at hc hd hc2 hd2;subst hc hd hc2 hd2;exact Ts ⟨_,ho,rfl⟩ ⟨_,ho2,rfl⟩ xv Ss su rp (qv _ _)
   (tuple_addW0 a b its.toArray its2.toArray n n2 dd dd2 sl sl2 (by simp[hv])) ⟨ho,ho2,.ref b,H,I,rfl,q0 hx⟩
 ·exact Hn pj s σ H _ _ v u Q I rx ry ⟨a,b,xs,ys,rfl,rfl,ha,hb,hx,hz,q1 hx,q2 hx⟩
end L2
namespace Z
open L2
noncomputable def mC:List Dv->(R->Prop)->Prop
 | [.tup xs],Q=>∃ns:List Int,xs=ns.map .int/\ns.length<64 /\ ∀ms:List Int,ms.Perm ns->ms.Pairwise (· <= ·)->Q (.nw (.lst (ms.map .int)))
 |_,_=>False
theorem Bz:l8 X (.builtin "sorted") mC:=by
 refine⟨λds Q Q' w h=>?_,_,yX,λM O H xs ds Q c h=>?_⟩
 ·unfold mC at *;split at h
  ·obtain⟨ns,a,b,q⟩:=h;exact⟨ns,a,b,λms x y=>w _ (q ms x y)⟩
  ·exact h
 ·unfold mC at h;split at h
  ·obtain⟨x,rfl,cx⟩:=eL c;obtain⟨a,ys,rfl,ea,ra⟩:=cx.tup;obtain⟨ns,rfl,hl,q⟩:=h;have ey:ys=ns.map V.int:=by
    have ra':Reps X.K M H ys (ns.map .int++[]):=by simpa using ra
    obtain⟨zs,e,r'⟩:=ra'.fore;cases r';simpa using e
   subst ey;exact⟨a,ns,rfl,jP.of ea,hl,λms hp hs l hl=>q ms hp hs _ _ (aM.new' hl) (i4 hl (Reps.ints _))⟩
  ·exact h.elim
theorem Bb(h:ns.length<64)(q:∀ms:List Int,ms.Perm ns->ms.Pairwise (· <= ·)->Q (.nw (.lst (ms.map .int)))):mC [.tup (ns.map .int)] Q:=⟨ns,rfl,h,q⟩
noncomputable def wK:Dv->Dv->(R->Prop)->Prop
 | .tup xs,.tup ys,Q=>xs.length+ys.length<=zM/\Q (.v (.tup (xs++ys)))
 |_,_,_=>False
theorem AN{xs ys:List Dv}:wK (.tup xs) (.tup ys) Q=(xs.length+ys.length<=zM/\Q (.v (.tup (xs++ys)))):=rfl
theorem AR:vR X (gz .Add) wK:=by
 refine⟨λdx dy Q Q' w h=>?_,_,Hm,λM O H x y dx dy Q cx cy h=>?_⟩
 ·unfold wK at *;split at h
  ·exact⟨h.1,w _ h.2⟩
  ·exact h
 ·unfold wK at h;split at h
  ·obtain⟨a,xs,rfl,ea,ra⟩:=cx.tup;obtain⟨b,ys,rfl,eb,rb⟩:=cy.tup;have l1:=ra.length;have l2:=rb.length;refine⟨a,b,xs,ys,rfl,rfl,jP.of ea,jP.of eb,hC ⋯,λe=>?_,λ_ e=>?_,λ_ _ p hp=>h.2 _ _ (aM.new' hp) (EO hp (ra.append rb))⟩
   ·subst e;cases ra;exact h.2 _ H (aM.refl _) (Rep.tup eb rb)
   ·subst e;cases rb;refine h.2 _ H (aM.refl _) ?_;rw[ka];exact Rep.tup ea ra
  ·exact h.elim
end Z
namespace L2
variable {it:ah}{ep:Nat}{es:Array my}{Q:Option af->ai->Prop}
structure Ent(h:cm)(d:ah)(es:Array my)(ep:Nat):Prop where
 at_:∃o,h.get? d=aa o/\o.ExactDict/\o.data=.dict es ep
theorem IP{d:ah}{en:my}(k:s.heap.IsKeyIter it d i n ep)(g:Ent s.heap d es ep)(hn:es.size=n)(he:es[i]?=aa en)
  (q:∀h',h'.IsKeyIter it d (i+1) n ep->ss it s.heap h'->Q (aa en.key) { s with heap:=h' }):bi (bu prog w) A (pf (.ref it)) Q E s:=by
 obtain⟨⟨od,gd,_,dd⟩⟩:=g;obtain⟨oi,gi,ci,fi⟩:=id k;have up:(s.heap.update it (ml (·.setIfInBounds 1 (oo ((i:Int)+1))))).IsKeyIter it d (i+1) n ep:=
  ⟨_,oq _ gi (ot (vw fi _)),(xa ..).trans ci,by rw[vw fi];simp[oo]⟩
 have fin:=q _ up (W7 ..);unfold pf;refine ae (jq (fm (name:=gn "__next__") k.typeIs im (fh im k.typeIs uy (ae (ar (ae (ae ?a)))) (uk _))));refine ae (jt k.typeIs (ar (ae (V3 gi fi ?b))));rw[show (if ve "dict_keyiterator" = aj then 2 else 0)=0 by decide];show bi _ _ (ite ((Value.ref d==eo)=aj) _ _) _ _ s;rw[VT (by exact λz=>nomatch z)];refine ae (ar (ae (xj gd dd ?c)));rw[VT (by rw[hn];simp)];refine ae (ar (ae (za gd dd ?d)));rw[VT (by simp)];refine ar ?e;simp only[show ¬((i:Int)<0) by right,ite_false,ee,he];refine ae (ae (jt k.typeIs (ar (ae (zf k.typeIs ?f)))));show bi _ _ (VH (.ref it) 1 (oo ((i:Int)+1)) >>= _) _ _ s;refine ae (ko gi fi (by simp) (ae (jf (ae (zf (s:={ s with heap:=s.heap.update it (ml (·.setIfInBounds 1 (oo ((i:Int)+1)))) }) up.typeIs ?g)))));show bi _ _ (io en.key) _ _ _;exact ar (ar ⟨_,rfl,ar fin⟩)
theorem Ks{d:ah}(qu:Qu A s.heap)(k:s.heap.IsKeyIter it d i n ep)(g:Ent s.heap d es ep)(hn:es.size=n)(hi:n<=i)
  (q:∀h',ur it s.heap h'->Q aq { s with heap:=h' }):bi (bu prog w) A (pf (.ref it)) Q E s:=by
 obtain⟨⟨od,gd,_,dd⟩⟩:=g;obtain⟨oi,gi,ci,fi⟩:=id k;have he:es[i]?=aq:=Array.getElem?_eq_none ⋯;unfold pf;refine ae (jq (fm (name:=gn "__next__") k.typeIs im (fh im k.typeIs uy (ae (ar (ae (ae ?a)))) (uk _))));refine ae (jt k.typeIs (ar (ae (V3 gi fi ?b))));rw[show (if ve "dict_keyiterator" = aj then 2 else 0)=0 by decide];show bi _ _ (ite ((Value.ref d==eo)=aj) _ _) _ _ s;rw[VT (by exact λz=>nomatch z)];refine ae (ar (ae (xj gd dd ?c)));rw[VT (by rw[hn];simp)];refine ae (ar (ae (za gd dd ?d)));rw[VT (by simp)];refine ar ?e;simp only[show ¬((i:Int)<0) by right,ite_false,ee,he];refine ae (ae (jt k.typeIs (ar ?f)));show bi _ _ (VH (.ref it) 0 .none >>= _) _ _ s;have ne:∀b u,kU u->s.heap.get? b=aa u->b≠it:=λb u m gb z=>by
  subst z;rw[gi] at gb;cases gb;obtain⟨us,du,z2⟩:=m;rw[fi] at du;cases du;simp at z2
 refine ae (ko gi fi (by simp) (iT (qu.keeps λb u m z=>(df _ _ (Ne.symm (ne b u m z))).trans z) λh' e kk ⟨oe,ge,ce⟩=>?_));exact ae (kj (T:="StopIteration") (b:=aj) ⟨oe,ge,ce⟩ ph (ar (q _ λb u hb z=>kk b u ((df _ _ (Ne.symm hb)).trans z))))
theorem IQ{d:ah}{Q:af->ai->Prop}(hd:(d==jn)=ap)(g:Ent s.heap d es ep)
  (q:Q (.ref s.heap.objs.size) { s with heap:=s.heap.push { cls:=.type "dict_keyiterator",data:=.fields #[.ref d,.int 0 0,.int es.size 0,.int ep 0] } }):bi (bu prog w) A (W8 (.ref d)) Q E s:=by
 obtain⟨⟨od,gd,ex,dd⟩⟩:=g;have ty:s.TypeIs (.ref d) "dict" := ⟨od,gd,ex.1⟩;refine wpAny_pyIter_slot ty U9 (fh U9 ty F.entry_dict_iter (ae (show bi _ _ (ww _ _) _ _ s from ?a)) (F.args_dict_iter_1 _));unfold ww;refine ae (wpAny_notOrdered_dict ty (show bi _ _ (io (Value.ref d)) _ _ s from ar (show bi _ _ (zg d >>= _) _ _ s from ae ?b)));unfold zg;rw[VT (by rw[hd];exact iq)];refine ar (ae (xj gd dd (ae (za gd dd (ae (gm (ar ⟨_,rfl, "dict_keyiterator",_,⟨_,bw _ rfl,rfl⟩,im.lookup,?c⟩)))))));simpa [oo] using q
end L2
namespace Z
open L2
section
variable {l:Expr}{tl:dE}
end
end Z
namespace HT
open PySem PyProof.Rows
section
open PySem.SeqAt
open PySem.AutoSeq1 (wpAny_loadPart')
open PySem.MeetsSeq PySem.MeetsSeq2 PySem.MeetsSeq3
end
end HT
namespace L2
end L2
namespace Z
open L2
section
variable {o:Expr}{to:dE}{Ww:jw}
end
end Z
namespace L2
end L2
namespace Z
open L2
section
variable {o:Expr}{to tg tp:dE}{Ww:jw}
end
end Z
namespace L2
variable {h':cm}
theorem cL.at{o:HO}(x:cL P w H h a o):∃ob,h.get? a=aa ob:=by
 cases o with
 |lst xs=>obtain⟨_,_,_,_,e⟩:=x;exact⟨_,e⟩
 |tup xs=>obtain⟨_,_,_,_,e,_⟩:=x;exact⟨_,e⟩
 |dK kvs=>obtain⟨_,_,_,_,o,_,_,e,_⟩:=x;exact⟨_,e⟩
 |dT ep kvs=>obtain⟨_,_,_,_,o,_,e,_⟩:=x;exact⟨_,e⟩
 |set S n=>obtain⟨o,_,_,_,e,_⟩:=x;exact⟨_,e⟩
 |ins C dx fs=>obtain⟨_,_,_,e,_⟩:=x;exact⟨_,e⟩
 |own y=>exact x
 |xd fs=>obtain⟨_,⟨_,_,_,e,_⟩,_⟩:=x;exact⟨_,e⟩
 |lam q=>obtain⟨_,e,_⟩:=x;exact⟨_,e⟩
 |cod q=>obtain⟨_,_,_,_,e,e2,_⟩:=x;cases e;exact⟨_,e2⟩
 |rng lo hi=>obtain⟨_,_,_,e⟩:=x;exact⟨_,e⟩
 |frz ob u=>obtain⟨e,_⟩:=x;exact⟨_,e⟩
 |tbl ps=>exact⟨_,(show h.get? a=aa _ from x)⟩
 |met f y=>exact⟨_,(show h.get? a=aa _ from x)⟩
 |ext φ=>obtain⟨_,e,_⟩:=x;exact e
theorem l7.out(x:l7 P w H h)(e:h.get? a=aq):H a=aq:=by
 cases q:H a with
 |none=>rfl
 |some u=>
  obtain⟨o,z⟩:=(x a u q).at;rw[e] at z;cases z
noncomputable abbrev JE:List af:=[.type "ValueError",.type "Exception",.type "BaseException",.type "object"]
noncomputable def C4(K:ak)(C:ah):Prop:=Wg K C JE "ValueError.__new__" = aj
theorem C4.cls(X:K.In h)(q:C4 K C):∃bm N nm qn bs hd sn sub ab col dd k0 k1 k2 k3 k5 mN,
  h.get? C=aa (excClassObj nm qn C N bs bm hd sn sub ab col dd k0 k1 k2 k3 k5 "ValueError.__new__")/\h.Ns N mN/\mN "__init__" = aq/\OwnTail h JE bm:=by
 unfold C4 Wg at q;split at q
 ·rename_i dd cd sl ho;split at q
  ·rename_i C1 bm a0 a1 a2 a3 n a5 hm hs;rw[cg,cg,cg,cg,cg] at q;obtain⟨⟨⟨⟨⟨e1,e2⟩,e3⟩,e4⟩,e5⟩,e6⟩:=q;cases beq_iff_eq.mp e1;cases beq_iff_eq.mp e2;cases cd with
   |mk nm bs mro ns qn hd sn sub ab col del=>
    dsimp only at hm e3 e5 e6;cases hm;have dz:del=ap:=by cases del<;>simp_all
    cases dz;cases sl with
    |mk l=>
     dsimp only at hs;cases hs;exact⟨bm,ns,nm,qn,bs,hd,sn,sub,ab,col,dd,a0,a1,a2,a3,a5,_,X _ _ ho,.of_isNs (W.isNs_of_in X e5),W.nsMap_none_of_in X e5 (beq_iff_eq.mp e6),W.tail_of_in X e4⟩
  ·cases q
 ·cases q
noncomputable def vU(P:au)(w:bt):EH:=λouter H s E e s'=>∃(a:ah) (o:je) (C:ah) (H':Hp) (B:cm),e=.ref a/\s'.os=s.os/\vk s'.gens/\Un (frs outer) [] H H' s.heap s'.heap/\l7 P w H' s'.heap /\
 Fly B outer a o .none s'.heap/\(∀b o,s'.heap.get? b=aa o->b ∉ frs outer->(H' b≠aq \/ ∃u,s.heap.get? b=aa u)->B.get? b=aa o)/\s.heap.get? a=aq/\H' a=aq/\E (.ref C) o.dict H'/\o.cls=.ref C/\kU o
section
variable {fs:List ah}{h0 h1 h2 B:cm}
theorem Un.fly(u:Un fs [] H H' h0 h1)(k:∀b o,h1.get? b=aa o->b ∉ fs->(H' b≠aq \/ ∃u,h0.get? b=aa u)->B.get? b=aa o)(hB:B.StaysIn h2)
  (sl:∀b∈fs,∀o,h1.get? b=aa o -> ∃z,h2.get? b=aa { o with slots:=z }):Un fs [] H H' h0 h2 where
 keep:=λb o e n hb hx=>hB b o (k b o (u.keep b o e n hb hx) hb (.inr ⟨_,e⟩))
 slot:=λb o e n hb hx=>by
  obtain⟨z,q⟩:=u.slot b o e n hb hx;obtain⟨z',q'⟩:=sl b hb _ q;exact⟨z',q'⟩
 free:=u.free
 there:=λb o e hx=>by
  obtain⟨o',q⟩:=u.there b o e hx;by_cases hb:b∈fs
  ·obtain⟨z,q'⟩:=sl b hb _ q;exact⟨_,q'⟩
  ·exact⟨_,hB b o' (k b o' q hb (.inr ⟨_,e⟩))⟩
 tups:=u.tups
 frzs:=u.frzs
 tbls:=u.tbls
theorem l7.fly(x:l7 P w H' h1)(nf:∀b∈fs,H' b=aq)(k:∀b o,h1.get? b=aa o->b ∉ fs->(H' b≠aq \/ ∃u,h0.get? b=aa u)->B.get? b=aa o)(hB:B.StaysIn h2):l7 P w H' h2:=λb o e=>
 (x b o e).stay (λc v hc q=>by
  have hn:H' c≠aq:=by
   rcases hc with z | z
   ·rw[z,e];simp
   ·rw[z];simp
  exact hB c v (k c v q (λm=>hn (nf c m)) (.inl hn))) (λ_ q=>q) (λ_ _ q=>q) λ_ _ q=>q
end
section
variable {cd:af}{s0:ai}{H0:Hp}{E:XK}
theorem Gw(I:Inv (gH (vU P w) P w K mg base N Wm Wk f cd A outer s0 H0 E) pj σ H s)(m:V4 s.heap h' a (.ref C) us)
  (hE:E (.ref C) aq H):(gH (vU P w) P w K mg base N Wm Wk f cd A outer s0 H0 E).xe (.ref a) { s with heap:=h' }:=by
 have hin:∀env∈(gH (vU P w) P w K mg base N Wm Wk f cd A outer s0 H0 E).stack,∀b,env.frame=aa b->b∈frs (gH (vU P w) P w K mg base N Wm Wk f cd A outer s0 H0 E).stack:=λenv he b hb=>we.mpr ⟨env,he,hb⟩;obtain⟨t,ge,_,_⟩:=m.there;have nb:(Se s.heap (frs (gH (vU P w) P w K mg base N Wm Wk f cd A outer s0 H0 E).stack)).get? a=aq:=by
  cases q:(Se s.heap (frs (gH (vU P w) P w K mg base N Wm Wk f cd A outer s0 H0 E).stack)).get? a with
  |none=>rfl
  |some o'=>
   have:=Te _ q;rw[m.new] at this;cases this
 refine GK (base:=Se s.heap (frs (gH (vU P w) P w K mg base N Wm Wk f cd A outer s0 H0 E).stack)) I.ok.frames ((W.funFrames_hide I.stack hin).of_keeps λb o hb _=>⟨o,m.keeps b o hb,rfl⟩) rfl (λb o q=>m.keeps b o (Te _ q)) nb ge rfl rfl λh2 x1 x4=>?_;have fs:∀b,b∈frs (gH (vU P w) P w K mg base N Wm Wk f cd A outer s0 H0 E).stack->b=(qj Wm Wk s0.heap.objs.size f cd).locals \/ b∈frs outer:=λb hb=>dt.mp (I.stkSub b hb);have k1:∀b o,s.heap.get? b=aa o->b ∉ frs outer->(H b≠aq \/ ∃u,s0.heap.get? b=aa u)->(Se s.heap (frs (gH (vU P w) P w K mg base N Wm Wk f cd A outer s0 H0 E).stack)).get? b=aa o:=λb o e nb hc=>by
  refine Va _ e λhm=>?_;rcases fs b hm with z | z
  ·rcases hc with hc | ⟨u,hu⟩
   ·exact hc (I.stkFree b hm)
   ·have:b<s0.heap.objs.size:=az hu;have h2:s0.heap.objs.size<=b:=by rw[z];exact I.ok.above
    exact absurd (dk this h2) (om _)
  ·exact nb z
 have sl:∀b∈frs outer,∀o,s.heap.get? b=aa o -> ∃z,h2.get? b=aa { o with slots:=z }:=λb hb o e=>by
  obtain⟨_,o',q,nf⟩:=I.funs.mem hb;rw[e] at q;cases q;exact x4 b o (m.keeps b o e) nf
 refine⟨a,_,C,H,_,rfl,I.os,I.bare,Un.fly I.base k1 x1.st sl,l7.fly (fs:=frs outer) I.hok (λb hb=>?_) k1 x1.st,x1,λb o e nb hc=>?_,?_,I.hok.out m.new,hE,rfl,⟨_,rfl,rfl⟩⟩
 ·obtain⟨_,o,q,_⟩:=I.ok.funs.mem hb;exact I.base.free b o q (I.ok.frf b hb) (λz=>nomatch z)
 ·have:∃o',s.heap.get? b=aa o':=by
   rcases hc with hc | ⟨u,hu⟩
   ·cases q:H b with
    |none=>exact(hc q).elim
    |some v=>exact(I.hok b v q).at
   ·exact I.base.there b u hu (λz=>nomatch z)
  obtain⟨o',q⟩:=this;have q1:=k1 b o' q nb hc;have q2:=x1.st b o' q1;rw[e] at q2;cases q2;exact q1
 ·cases q:s0.heap.get? a with
  |none=>rfl
  |some o=>
   obtain⟨o',q'⟩:=I.base.there a o q (λz=>nomatch z);rw[m.new] at q';cases q'
end
variable {np:jw}
section
variable {x:bn}{t:TA}{pos:jw}
theorem F4{Ψ:Hp->Prop}(hh:X.A.handled=aq)(hm:X.mg x=aa (.ref C))(hg:Gl X x)(q:C4 X.K C)(ha:PA X (e::es) t)
  (hx:∀(pj:List (ah×je)) (σ:St) (H:Hp) (s:ai) (h':cm) (a:ah) (us:List af),Inv X pj σ H s->V4 s.heap h' a (.ref C) us->Ψ H->X.xe (.ref a) { s with heap:=h' })
  (hdb:autoParam ((x==("__debug__" : bn))=ap) kX._auto_1) (he:autoParam (ay (e::es) X.env=(ap,fz e X.env)::ay es X.env) bV._auto_1) (hpl:autoParam ((jd Wt (ay es X.env)).any (·.1)=ap) bV._auto_1):
  PS X (.Raise (aa (.Call (.Name x np) (e::es) [] Wt)) aq pos) (λ_ σ H=>t σ H λvs H1=>vs.length<=bh/\Ψ H1):=by
 intro pj s σ H D I h;obtain⟨bm,N,nm,qn,bs,hd,sn,sub,ab,col,dd,a0,a1,a2,a3,a5,mN,c1,c2,c3,c4⟩:=q.cls I.ok.mod.kin;refine wpAny_Raise_call_subT (N:=N) (bm:=bm) (C:=C) (q:=qn) (nm:=nm) (bs:=bs) (sn:=sn) (hdct:=hd) (sub:=sub) (col:=col) (ab:=ab) (dd:=dd) (k5:=a5) (k0:=a0) (k1:=a1) (k2:=a2) (k3:=a3) PySem.F.excBase_ValueError (mN:=mN) (c4.hasType rfl) hh ?_ c3 (n6 I hg hm ⟨rfl,?_⟩ hdb)
 ·rw[he];show (ap || (jd Wt (ay es X.env)).any (·.1))=ap;rw[hpl];rfl
 ·have h1:=ha Wt pj s σ H _ I h;rw[he] at h1 ⊢;refine zo (fy h1 (λus s1 z=>?_) λ_ _ z=>z);obtain⟨vs,H1,I1,r,l,p⟩:=z;exact⟨rfl,by rw[<- r.length];exact l,I1.bk _ _ c1,c2.keeps I1.bk,c4.keeps I1.bk,λh' a m=>hx pj σ H1 s1 h' a us I1 m p⟩
end
noncomputable abbrev Cx.inx(X:Cx)(a:ah):Cx:={ X with A:=X.A.mark (aa (.ref a)),calm:=ap,xe:=λ_ _=>False,hs:=a::X.hs }
variable {M:xc}{Q:Unit->ai->Prop}{n:bn}
theorem Cx.Ok.inx(ok:X.Ok)(a:ah):(X.inx a).Ok:=
 ⟨ok.mod,ok.kind,ok.glob,ok.blt,ok.above,ok.inj,ok.has,ok.cab,(λz=>nomatch z),ok.frames,ok.stk,ok.exf,ok.bs,ok.bsz,ok.noex,ok.exfs,ok.funs,ok.frf,.inr ⟨a,de,rfl⟩⟩
theorem Inv.inx(I:Inv X pj σ H s)(a:ah)(m:∃o u,H a=aa (.frz o u)/\kU o):Inv (X.inx a) pj σ H s:=⟨I.ok.inx a,I.os,I.bare,I.base,I.loc,I.cell,I.free,I.freeC,I.pin,I.hok,I.len,λb hb=>(dt.mp hb).elim (λe=>e ▸ m) (I.mild b)⟩
theorem Inv.outx(ok:X.Ok)(I:Inv (X.inx a) pj σ H s):Inv X pj σ H s:=⟨ok,I.os,I.bare,I.base,I.loc,I.cell,I.free,I.freeC,I.pin,I.hok,I.len,λb hb=>I.mild b (di _ hb)⟩
theorem Inv.goes{pos:jw}(I:Inv X pj σ H s)(hN:X.N.Nodup)(hi:X.N[i]?=aa n)(hk:X.env.scope.names.lookup n=aa .local)
  (h:∀s',Inv X pj (σ.set i aq) H s'->Q () s'):bi M A (do bindName X.env n .none;unbindBehindTheSuite X.env n pos) Q E s:=by
 obtain⟨m,hn,hl⟩:=id I.loc;have hcls:(X.env.scope.kind == .class || (X.env.scope.kind == .module&&X.env.locals != X.env.globals))=ap:=by rw[I.ok.kind];rfl
 refine wpAny_nameGoes_keeps hk hn hcls λh' v hn' hs=>h _ ?_;have old:∀b o,X.s₀.heap.get? b=aa o->h'.get? b=s.heap.get? b:=λb o e=>hs.2 b (fu (dk (az e) I.ok.above));refine⟨I.ok,I.os,I.bare,⟨λb o e n hb hx=>?_,λb o e n hb hx=>?_,I.base.free,λb o e hx=>?_,I.base.tups,I.base.frzs,I.base.tbls⟩,⟨_,hn',λj y v' e1 e2 e3=>?_⟩,λy c e=>?_,I.free,I.freeC,λp hp=>?_,λb ob e=>?_,by simpa using I.len,I.mild⟩
 ·exact(old b o e).trans (I.base.keep b o e n hb hx)
 ·obtain⟨sl,q⟩:=I.base.slot b o e n hb hx;exact⟨sl,(old b o e).trans q⟩
 ·obtain⟨o',q⟩:=I.base.there b o e hx;exact⟨o',(old b o e).trans q⟩
 ·have ne:i≠j:=λz=>by
   subst z;by_cases hl2:i<σ.length
   ·rw[jg hl2] at e2;cases e2
   ·rw[ou (by simpa using nr hl2)] at e2;cases e2
  rw[fe ne] at e2;obtain⟨u,r,q⟩:=hl j y v' e1 e2 e3;have yn:y≠n:=λz=>ne (uG hN hi (z ▸ e1));refine⟨u,r,?_⟩;rcases q with⟨k,q⟩ | ⟨k,c,q,z⟩
  ·exact .inl ⟨k,by simp[yn,q]⟩
  ·exact .inr ⟨k,c,q,z.sameBut hs (I.cne y c q)⟩
 ·obtain⟨w',z⟩:=I.cell y c e;exact⟨w',z.sameBut hs (I.cne y c e)⟩
 ·obtain⟨e,q,ne,nf,d⟩:=I.pin p hp;exact⟨(hs.2 p.1 ne).trans e,q,ne,nf,d⟩
 ·refine(I.hok b ob e).stay (λc w' hc q=>(hs.2 c ?_).trans q) (λ_ q=>q) (λ_ _ q=>q) λ_ _ q=>q;rintro rfl;rcases hc with rfl | hc
  ·rw[I.free] at e;cases e
  ·rw[I.free] at hc;cases hc
variable {b0:jl}{hb:List jl}{WJ:jw}{th:TS}{C0 C1:ah}
section
variable {s1 s2:ai}{E:XK}{e:af}{D:Ends}
noncomputable abbrev Ends.goes(D:Ends)(i:Nat):Ends:={ nx:=λσ H=>D.nx (σ.set i aq) H,rt:=D.rt,bk:=λσ H=>D.bk (σ.set i aq) H,ct:=λσ H=>D.ct (σ.set i aq) H }
theorem caught{c:bn}{Wn:List ExceptHandler}(I1:Inv X pj σ H1 s1)(cx:vU X.prog X.w X.stack H1 s1 E e s2)
  (hN:X.N.Nodup) (hi:X.N[i]?=aa n) (hk:X.env.scope.names.lookup n=aa .local) (hst:X.stack=X.env::X.outer) (hfr:X.env.frame=aa X.env.locals) (hg:Gl X c) (hm:X.mg c=aa (.ref C1))
  (hx:TL X.K (.ref C0) (.ref C1)=aa aj)
  (hE:∀C dd H',E (.ref C) dd H'->C=C0 /\ ∀a o,H' a=aq->o.cls=.ref C0->o.dict=dd->kU o->th (D.goes i) (σ.set i (aa (.ref a))) (upd H' a (.frz o (.own a))))
  (Wu:∀a,tG (X.inx a) (b0::hb) th) (hdb:autoParam ((c==("__debug__" : bn))=ap) kX._auto_1):
  bi (bu X.prog X.w) X.A (xo e X.env) (λ_ s3=>bi (bu X.prog X.w) X.A (Vg e aq) (λ_ s4=>
   bi (bu X.prog X.w) X.A (handleBy e X.env (.ExceptHandler (aa (.Name c np)) (aa n) (b0::hb) WJ::Wn)) (SP X pj D) X.xe s4) X.xe s3) X.xe s2:=by
 obtain⟨a,o0,C,H',B,rfl,os,bare,un,hok,fl,k,na,nH,hE',hc0,hm0⟩:=cx;obtain⟨rfl,go⟩:=hE C _ H' hE';have ff:X.A.frames=aa (X.env::X.outer):=by rw[<- hst];exact I1.ok.frames
 have nfr:∀b∈frs X.stack,H' b=aq:=λb hb=>by
  obtain⟨_,o,q,_⟩:=I1.stack.mem hb;exact un.free b o q (I1.stkFree b hb) (λz=>nomatch z)
 have sl:∀{h:cm},s2.heap.UpToSlots h -> ∀b∈frs X.stack,∀o,s2.heap.get? b=aa o -> ∃z,h.get? b=aa { o with slots:=z }:=λ{h} u b hb o e=>by
  obtain⟨_,o1,q,nf⟩:=I1.stack.mem hb;obtain⟨z,q2⟩:=un.slot b o1 q (I1.stkFree b hb) hb (λz=>nomatch z);rw[e] at q2;cases q2;exact u b _ e nf
 have inv:∀h,B.StaysIn h->s2.heap.UpToSlots h->Inv X pj σ H' { s2 with heap:=h }:=λh hB u=>
  I1.call' os (un.fly k hB (sl u)) (l7.fly hok nfr k hB) bare (λ_ z=>nomatch z)
 rw[hst] at fl;refine GJ ff hfr fl λh4 hl4 u4=>?_;refine rO hl4 λh5 hl5 u5=>?_;have I5:=inv h5 hl5.st (u4.trans u5);obtain⟨o5,he5,lk5⟩:=hl5.there;have hc5:o5.cls=.ref C:=lk5.cls.trans hc0;have nu:∀b u,H' b=aa u->b≠a:=λb u e z=>by rw[z,nH] at e;cases e
 have invx:∀h oh,B.StaysIn h->s2.heap.UpToSlots h->h.get? a=aa oh->Inv X pj σ (upd H' a (.frz oh (.own a))) { s2 with heap:=h }:=λh oh hB u g=>by
  have un6:=un.fly k hB (sl u);refine I1.call' os (ch:=[]) ⟨un6.keep,un6.slot,λb o e n hx=>?_,un6.there,λb xs e=>?_,λb o u e=>?_,λb ps e=>?_⟩ (λb u' e=>?_) bare (λ_ z=>nomatch z)
  ·rw[b9 (λz=>by rw[z,na] at e;cases e)];exact un6.free b o e n hx
  ·rw[b9 (nu b _ (un6.tups b xs e))];exact un6.tups b xs e
  ·rw[b9 (nu b _ (un6.frzs b o u e))];exact un6.frzs b o u e
  ·obtain⟨m,q⟩:=un6.tbls b ps e;exact⟨m,by rw[b9 (nu b _ q)];exact q⟩
  ·by_cases hb:b=a
   ·subst hb;rw[bN] at e;cases e;exact⟨g,_,g⟩
   ·rw[b9 hb] at e;exact((inv h hB u).hok b u' e).stay (λ_ _ _ q=>q) (λc q=>by rw[b9 (nu c _ q)];exact q) (λc xs q=>by rw[b9 (nu c _ q)];exact q) λc xs q=>by rw[b9 (nu c _ q)];exact q
 have I5x:=(invx h5 o5 hl5.st (u4.trans u5) he5).inx a ⟨o5,_,bN,lk5.mild hm0⟩;refine wpAny_handleBy_cons (codeAny_handlers_test (n6 (X:=X.inx a) I5x hg hm ?_ hdb)) (λz=>nomatch z);have LT:uo (bu X.prog X.w) h5 (yh (.ref a)) (.ref C):=hc5 ▸ (Wc he5).andThen .now;refine(W.exm_one I5.kIn LT hx).here (codeAny_handlers_suite_as ?_);refine rO hl5 λh6 hl6 u6=>?_;obtain⟨o6,he6,lk6⟩:=hl6.there;have hc6:o6.cls=.ref C:=lk6.cls.trans hc0;have I7:=invx h6 o6 hl6.st ((u4.trans u5).trans u6) he6;refine tP (X:=X.inx a) (v:=.ref a) (I7.inx a ⟨o6,_,bN,lk6.mild hm0⟩) hN hi (.inl hk) rfl (λs7 I8=>?_) (.inr hk);refine fy (Wu a pj s7 _ _ (D.goes i) I8 (go a o6 nH hc6 lk6.dict (lk6.mild hm0))) (λf s8 q=>?_) λ_ _ z=>z.elim;cases f with
 |next=>
  obtain⟨σ',H'',I9,q⟩:=q;exact(I9.outx I1.ok).goes hN hi hk λs9 I10=>⟨_,_,I10,q⟩
 |brk=>
  obtain⟨σ',H'',I9,q⟩:=q;exact(I9.outx I1.ok).goes hN hi hk λs9 I10=>⟨_,_,I10,q⟩
 |cont=>
  obtain⟨σ',H'',I9,q⟩:=q;exact(I9.outx I1.ok).goes hN hi hk λs9 I10=>⟨_,_,I10,q⟩
 |ret u=>
  obtain⟨v,σ',H'',I9,r,q⟩:=q;exact(I9.outx I1.ok).goes hN hi hk λs9 I10=>⟨v,_,_,I10,r,q⟩
end
variable {fd:jh}{sp:Sp}
section
variable {k:Nat}{x:bn}{epos pos:jw}{t:TA}
theorem Jm{c:bn}{WH:List jl}{to:TS}(hno:∀e s,¬X.xe e s)(F:FnOk X.prog X.w X.K X.mg X.base (vU X.prog X.w) k f fd ps sp)(hr:Room k X.A)(hg:Gl X x)
  (hm:X.mg x=aa (.ref f)) (hkp:nz X.K (.ref f)=aj) (hbd:i8 X.K fd ps []) (ha:PA X (e::es) t)
  (hN:X.N.Nodup) (hi:X.N[i]?=aa n) (hk:X.env.scope.names.lookup n=aa .local) (hst:X.stack=X.env::X.outer) (hfr:X.env.frame=aa X.env.locals) (hgc:Gl X c) (hmc:X.mg c=aa (.ref C1))
  (hx:TL X.K (.ref C0) (.ref C1)=aa aj) (Wu:∀a,tG (X.inx a) (b0::hb) th) (hel:tG X WH to)
  (hdb:autoParam ((x==("__debug__" : bn))=ap) kX._auto_1) (hdc:autoParam ((c==("__debug__" : bn))=ap) kX._auto_1) (he:autoParam (ay (e::es) X.env=(ap,fz e X.env)::ay es X.env) bV._auto_1) (hpl:autoParam ((jd Wt (ay es X.env)).any (·.1)=ap) bV._auto_1)
  (hs:autoParam (ji (.Call (.Name x p) (e::es) [] Wt) aq epos.line X.env=io ap) bV._auto_1):
  PS X (.Try [.Expr (.Call (.Name x p) (e::es) [] Wt) epos] [.ExceptHandler (aa (.Name c np)) (aa n) (b0::hb) WJ] WH [] pos)
   (λD σ H=>t σ H λvs H1=>sp vs H1 (λ_ H2=>to D σ H2) (λcv dd H2=>∀C,cv=.ref C->C=C0 /\ ∀a o,H2 a=aq->o.cls=.ref C0->o.dict=dd->kU o->th (D.goes i) (σ.set i (aa (.ref a))) (upd H2 a (.frz o (.own a))))):=by
 intro pj s σ H D I h;refine wpAny_Try_except (xu (UK (nq (n6 I hg hm ?_ hdb)) I.quiet hs));refine ye (h₀:=X.base) I.ok.mod.kin hkp (fy (ha Wt pj s σ H _ I h) (λus s1 z=>?_) λe s z=>(hno e s z).elim) he hpl;obtain⟨vs,H1,I1,r,q⟩:=z;refine⟨I1.kIn,?_⟩;have hl:us.length=ps.length:=by rw[<- r.length];exact F.len _ _ _ _ q
 have hb1:=hbd s1 us I1.kIn (by rw[ka];exact hl);rw[ka] at hb1;refine yd (qb (F.run X.A X.stack s1 H1 ⟨us,[]⟩ us vs _ _ hr I1.env0 hb1 r q) λr s2 hq=>?_);cases r with
 |error e=>
  dsimp only[CR] at hq;exact caught I1 hq hN hi hk hst hfr hgc hmc hx (λC dd H' z=>z C rfl) Wu hdc
 |ok fl=>
  cases fl with
  |ret u=>
   obtain⟨v,H2,I2,_,q2⟩:=I1.after hq;exact rd (hel pj s2 σ H2 D I2 q2)
  |next=>exact ip hq
  |brk=>exact ip hq
  |cont=>exact ip hq
end
structure ExcI(K:ak)(C:ah):Prop where
 cls:Ua K C=aj
 ga:ix K (.ref C) "__getattribute__" = aa (aa (.builtin "BaseException.__getattribute__"))
 gt:ix K (.ref C) "__getattr__" = aa aq
 be:Th K C (.type "BaseException")=aa aj
 ca:ix K (.ref C) "__class__" = aa (aa (.builtin "object.__class__"))
 sp:zk K (.builtin "object.__class__") "__get__" = aa (aa (.builtin "getset_descriptor.__get__"))
 tk:U2 K (.builtin "object.__class__")=aa aj
 ob:Th K C (.type "object")=aa aj
noncomputable def v5(x C:ah)(h:cm):Prop:=∃o,h.get? x=aa o/\o.cls=.ref C
section
open PySem.Calls PySem.Builtin PySem.Builtin.ObjectAttr PySem.Builtin.Getset_descriptor
variable {x:ah}
theorem v5.ty(o:v5 x C h):uo M h (yh (.ref x)) (.ref C):=by
 obtain⟨ox,e,c⟩:=o;rw[<- c];exact(Wc e).andThen .now
theorem Ac{a g:af}(X:K.In h)(ha:ix K (.ref C) n=aa (aa a))(hg:zk K a "__get__" = aa (aa g))(ht:U2 K a=aa aj):
  uo M h (find (.ref x) (.ref C) n) (.bind g a):=by
 have l1:=wf (M:=M) X ha;have l2:uo M h (getOf (aa a)) (aa g):=W.looks_specialIn X hg;have l3:uo M h (dataDescriptor? (aa a) (aa g)) (aa (g,a)):=(W.looks_takesIn (M:=M) X ht).andThen .now;exact l1.andThen (l2.andThen (l3.andThen (uo.tag .now)))
theorem yV{R:Vu->ai->Prop}{tp:af}(X:K.In s.heap)(o:v5 x C s.heap)(hm:Th K C (.type "object")=aa aj)(hR:R (.ok (.ret (.ref C))) s):
  xf (bu prog w) A (.call (.builtin "getset_descriptor.__get__") ⟨[.builtin "object.__class__",.ref x,tp],[]⟩) R s:=by
 obtain⟨hp,ge,dr,tk,os⟩:=s;have l0:uo (bu prog w) hp (yh (.ref x)) (.ref C):=o.ty;have l1:=Sx (M:=bu prog w) X hm;refine zv VD.plain W.KF.entry_gs (VD.check _ _ _ _ _ _ _ _ W.KF.type_class (W.KF.args_gs _ _ _) ?_);unfold qa.«getset_descriptor.__get__»;unfold descrGet;rw[W.dga_obj];refine ae (ar ?_);unfold descrGetter;unfold descrCheckInstance;unfold descrNameAndClass;unfold SX;simp only[W.KF.owner_class]
 repeat lk
 refine⟨T7 _ (by decide +kernel),re W.KF.entry_class ?_⟩;unfold qa.«object.__class__»;unfold shownTypeOf
 repeat lk
 exact hR
theorem GF{R:Fin->ai->Prop}{tk:Wi}(X:K.In s.heap)(o:v5 x C s.heap)(c:ExcI K C)(hR:R (.done (.ret (.ref C))) s):bi (bu prog w) A (qa.«object.__getattribute__» ⟨[.ref x,.str "__class__" tk],[]⟩) R E s:=by
 obtain⟨hp,g,d,t,os⟩:=s;have l0:uo (bu prog w) hp (yh (.ref x)) (.ref C):=o.ty;have l3:=Ac (M:=bu prog w) (x:=x) X c.ca c.sp c.tk;unfold qa.«object.__getattribute__»;refine ae (ar (ae (ar (ae (l0.at (ae (l3.at ?_)))))));show bi _ _ (bindTo _ _ _ _) _ _ _;unfold bindTo;refine ae (jf (yd (yV X o c.ob ?_)));exact ar hR
theorem GG{nv:af}(X:K.In s.heap)(o:v5 x C s.heap)(c:ExcI K C)(hQ:Q () s):bi (bu prog w) A (Ub "BaseException.__getattribute__" ⟨[.ref x,nv],[]⟩) Q E s:=by
 obtain⟨hp,g,d,t,os⟩:=s;have l0:uo (bu prog w) hp (yh (.ref x)) (.ref C):=o.ty;have l4:=Sx (M:=bu prog w) X c.be;have k1:builtinKind "BaseException.__getattribute__" = aa .slot:=by decide +kernel
 have k2:splitId "BaseException.__getattribute__" = aa ("BaseException", "__getattribute__"):=by decide +kernel
 have k3:=PySem.F.args_bexc_ga (.ref x) nv;simp only[Ub,k1,k2];refine ae ?_;unfold SX;refine ae (l0.at (l4.at ?_))
 repeat (any_goals (first | assumption | wp_step))
theorem v3{Q:Option af->ai->Prop}(X:K.In s.heap)(o:v5 x C s.heap)(c:ExcI K C)(hQ:Q (aa (.ref C)) { s with toks:=s.toks+1 }):bi (bu prog w) A (getAttr? (.ref x) "__class__") Q E s:=by
 obtain⟨hp,g,d,t,os⟩:=s;have l0:uo (bu prog w) hp (yh (.ref x)) (.ref C):=o.ty;have l1:=wf (M:=bu prog w) X c.ga;have l2:=wf (M:=bu prog w) X c.gt;have l4:=Sx (M:=bu prog w) X c.be;have ne:(Sw "BaseException.__getattribute__" == Sw "object.__getattribute__")=ap:=by decide +kernel
 unfold getAttr?;unfold getAttrBy?;unfold getAttrBy;refine ae (wpAny_mkText (ae (jq (jf (ae (l0.at (ae (l1.at ?_))))))));dsimp only;rw[ne,pr,VT iq];unfold getAttrByItsOwn;unfold hookBefore;rw[Wj (show onTheHeap (Value.ref C)=aj from rfl)];refine ae (l2.at ?_);refine ae (jq (jf ?_));unfold callGetattribute;rw[VT (by simp)];unfold boundAndCalled;refine ae (wpAny_of_eq (xy.ga.bind (.ref x)) ?_);refine yd (zv xy.ga.plain PySem.F.entry_bexc_ga ?_);refine GG X o c (GF X o c ?_);exact W.handed_on rfl (ar hQ)
theorem CW(c:ExcI K C):W.KitX K (.ref x) (.ref C) (v5 x C) where
 ty:=λ_ _ _ o=>o.ty
 it:=λ_ _ X _=>by
  have cl:=c.cls;unfold Ua W.clsIn at cl;split at cl
  ·rename_i ho;intro A1 Q1 E1 s1 kp z;unfold isType loadHead;exact ae (UN (kp _ _ (X _ _ ho)) (ar z))
  ·cases cl
 ne:=λh tp dd its m sl X htp=>by
  have cl:=c.cls;refine Bool.eq_false_iff.mpr λz=>?_;have e:C=tp:=Value.ref.inj (beq_iff_eq.mp z);subst e;unfold Ua W.clsIn at cl;split at cl
  ·rename_i ho;cases (X _ _ ho).symm.trans htp
  ·cases cl
 ca:=λX o k=>v3 X o c k
end
noncomputable def MS(K:ak):List V->Hp->VK->Prop:=λxs H Q=>∃(a C C':ah) (o:je) (u:HO) (b:Bool),xs=[.ref a,.ref C']/\H a=aa (.frz o u)/\o.cls=.ref C/\ExcI K C/\oa K (.ref C) (.ref C')=aa b/\Q (.bl b) H
theorem ED:eP X (.builtin "isinstance") (MS X.K):=by
 intro pj s σ H xs us Q I r h;obtain⟨a,C,C',o,u,b,rfl,ha,hc,ci,kb,q⟩:=h;obtain⟨u1,u2,rfl,r1,r2⟩:=zP r;cases r1;cases r2;obtain⟨ho,_⟩:=(show cL X.prog X.w H s.heap a (.frz o u) from I.hok a _ ha);exact lx (CW ci) I.kIn ⟨o,ho,hc⟩ kb (λz=>nomatch z) λtk=>⟨.bl b,H,I.tok tk,rfl,q⟩
section
variable {k:Nat}{E:XK}{x:bn}{pos:jw}{t:TA}
end
end L2
namespace Z
open L2
noncomputable abbrev Gv:=ah×Option Int
noncomputable abbrev EK:=List Dv->(R->Prop)->(Gv->Prop)->Prop
inductive lowX(K:ak)(sp:EK)(vs:List V)(H:Hp)(Q:VK)(E:XK):Prop
 |mk (F:ah->Prop) (ds:List Dv) (Ψ:Gv->Prop) (hF:OldF K F H) (r:Reps K F H vs ds) (q:sp ds (λr=>∀x H',aM H H'->dX K F xH H x r H'->Q x H') Ψ) (hE:∀C p dd H',Ψ (C,p)->aM H H'->v4 H' p dd->E (.ref C) dd H')
structure MonoX(sp:EK):Prop where
 mo:∀ds (Q Q':R->Prop) (Ψ Ψ':Gv->Prop),(∀r,Q r->Q' r)->(∀C,Ψ C->Ψ' C)->sp ds Q Ψ->sp ds Q' Ψ'
structure DefX(P:au)(w:bt)(K:ak)(mg:bn->Option af)(base:cm)(k:Nat)(x:bn)(ps:List bn)(sp:Sp):Prop where
 ex:∃f fd,mg x=aa (.ref f)/\nz K (.ref f)=aj/\i8 K fd ps []/\FnOk P w K mg base (vU P w) k f fd ps sp
structure QxS(X:Cx)(HZ:Hp)(F:ah->Prop)(st:jl)(t:cI):Prop where
 mono:∀E E' ρ,EnLe E E'->t E ρ->t E' ρ
 run:PS X st (liftS X.K HZ F t)
structure QxB(X:Cx)(HZ:Hp)(F:ah->Prop)(sts:List jl)(t:cI):Prop where
 mono:∀E E' ρ,EnLe E E'->t E ρ->t E' ρ
 run:tG X sts (liftS X.K HZ F t)
variable {st:jl}
section
variable {sts a b:List jl}{t u:cI}{c:Expr}{tc:l6}{pos:jw}
theorem QS.x(h:QS X st t):QxS X HZ F st t:=⟨h.mono,h.run HZ F⟩
theorem QSs.x(h:QSs X sts t):QxB X HZ F sts t:=⟨h.mono,h.run HZ F⟩
theorem Io(h:QxS X HZ F st t):QxB X HZ F [st] t:=⟨h.mono,CI h.run⟩
theorem JI(h1:QxS X HZ F st t)(h2:QxB X HZ F sts u):QxB X HZ F (st::sts) (aO t u):=by
 refine⟨λE E' ρ w h=>h1.mono _ _ _ (w.with_nx λρ h=>h2.mono _ _ _ w h) h,zG (AC h1.run h2.run) λD σ H z=>?_⟩;obtain⟨ρ,E,fr,h,en⟩:=z;exact⟨ρ,_,fr,h,λρ' σ' H' fr' h'=>⟨ρ',E,fr',h',en⟩,en.bk,en.ct,en.rt⟩
theorem Om(hc:QT X c tc)(ha:QxB X HZ F a t)(hb:QxB X HZ F b u):QxS X HZ F (.If c a b pos) (kF tc t u):=by
 refine⟨λE E' ρ w h=>hc.mono _ _ _ (λk q=>?_) h,eM (J1 (hc.run HZ F) ha.run hb.run) λD σ H z=>?_⟩
 ·cases k with
  |true=>exact rM (ha.mono _ _ _ w (by simpa using q))
  |false=>exact rN (hb.mono _ _ _ w (by simpa using q))
 ·obtain⟨ρ,E,fr,h,en⟩:=z;refine hc.step fr h λk H1 q S1=>?_;cases k with
  |true=>exact rM ⟨ρ,E,fr.mono S1,by simpa using q,en⟩
  |false=>exact rN ⟨ρ,E,fr.mono S1,by simpa using q,en⟩
end
noncomputable def BJ(Ψ:Gv->Prop)(C:ah)(ts:lB):cI:=λ_ ρ=>ts ρ λrs=>rs.length<=1000/\Ψ (C,aq)
theorem j6.len{K:ak}{M:ah->Prop}{O:ah->Dv->Prop}{H H':Hp}:∀{xs:List V} {rs:List R},j6 K M O H xs rs H'->xs.length=rs.length
 |_,_,.nil=>rfl
 |_,_,.cons _ t=>by rw[cj,cj,j6.len t]
section
variable {cd:af}{s0:ai}{H0:Hp}{E:XK}
end
theorem At.okX{k:Nat}{x nm:bn}{sp:EK}{t:(Gv->Prop)->cI}(a:At K mg x nm st ps)(S:FnScope N ps (aF st))
  (hq:∀(f:ah) (cdv:af) (A:cf) (outer:List wz) (s:ai) (H:Hp) (E:XK) (F:ah->Prop) (Ψ:Gv->Prop),Room k (A.deeper (qj nm (aF st) s.heap.objs.size f cdv))->(∀C p dd H',Ψ (C,p)->aM H H'->v4 H' p dd->E (.ref C) dd H') ->
   QxB (gH (vU P w) P w K mg base N nm (aF st) f cdv A outer s H E) H F (e7 st) (t Ψ))
  (len:∀ds Q Ψ,sp ds Q Ψ->ds.length=ps.length) (hsp:∀ds Q Ψ,sp ds Q Ψ->t Ψ ↥Q (aI N ds)):DefX P w K mg base (k+1) x ps (lowX K sp):=by
 obtain⟨f,fd,hm,F,hb⟩:=a.ex;obtain⟨oc,od,kV,doc,pm,an,cdv,ct,osl,rfl,lk,hcd⟩:=F.ex;refine⟨f,_,hm,F.kp,hb,JC lk hcd S (λvs H Q E z=>?_) λA outer s H vs Q E hr z=>?_⟩
 ·obtain⟨F,ds,Ψ,hF,r,q,hE⟩:=z;rw[r.length];exact len _ _ _ q
 ·obtain⟨F,ds,Ψ,hF,r,q,hE⟩:=z;exact⟨_,(hq f cdv A outer s H E F Ψ hr hE).run,aI N ds,_,zW hF r,hsp ds _ Ψ q,λρ σ H' fr q=>q .non H' fr.same Rep.non,λ_ _ _ _ z=>z.elim,λ_ _ _ _ z=>z.elim,λrr x H' S rx q=>q x H' S rx⟩
noncomputable abbrev En.goes(E:En)(i:Nat):En:={ nx:=λρ=>E.nx (ρ.set i .un),rt:=E.rt,bk:=λρ=>E.bk (ρ.set i .un),ct:=λρ=>E.ct (ρ.set i .un) }
noncomputable def JY(C0:ah)(i:Nat)(sp:EK)(ts:lB)(th to:cI):cI:=λE ρ=>ts ρ λrs=>sp (rs.map R.d) (λ_=>to E ρ) (λx=>x.1=C0/\th (E.goes i) (ρ.set i (.v (.exc C0 x.2))))
theorem EnLe.goes{E E':En}(w:EnLe E E')(i:Nat):EnLe (E.goes i) (E'.goes i):=⟨λ_ h=>w.nx _ h,w.rt,λ_ h=>w.bk _ h,λ_ h=>w.ct _ h⟩
theorem Ent.goes{K:ak}{HZ:Hp}{F:ah->Prop}{E:En}{D:Ends}(en:Ent K HZ F E D)(i:Nat):Ent K HZ F (E.goes i) (D.goes i):=
 ⟨λ_ _ _ fr h=>en.nx _ _ _ fr.setu h,λ_ _ _ fr h=>en.bk _ _ _ fr.setu h,λ_ _ _ fr h=>en.ct _ _ _ fr.setu h,en.rt⟩
variable {ts:lB}
section
variable {k:Nat}{sp:EK}{x:bn}{epos pos:jw}
theorem MW{c n:bn}{b0:jl}{hb WH:List jl}{WJ np:jw}{th to:cI}{C0 C1:ah}(hno:∀e s,¬X.xe e s)(d:DefX X.prog X.w X.K X.mg X.base k x ps (lowX X.K sp))(mo:MonoX sp)(hr:Room k X.A)(ha:QA X (e::es) ts)
  (hN:X.N.Nodup) (hmc:X.mg c=aa (.ref C1)) (hx:TL X.K (.ref C0) (.ref C1)=aa aj) (Wu:∀a,QSs (X.inx a) (b0::hb) th) (hel:QSs X WH to)
  (hi:autoParam (X.N[i]?=aa n) bV._auto_1) (hk:autoParam (X.env.scope.names.lookup n=aa .local) bV._auto_1) (hst:autoParam (X.stack=X.env::X.outer) bV._auto_1) (hfr:autoParam (X.env.frame=aa X.env.locals) bV._auto_1) (hg:autoParam (Gl X x) bV._auto_1) (hgc:autoParam (Gl X c) bV._auto_1)
  (hdb:autoParam ((x==("__debug__" : bn))=ap) kX._auto_1) (hdc:autoParam ((c==("__debug__" : bn))=ap) kX._auto_1) (he:autoParam (ay (e::es) X.env=(ap,fz e X.env)::ay es X.env) bV._auto_1) (hpl:autoParam ((jd Wt (ay es X.env)).any (·.1)=ap) bV._auto_1)
  (hs:autoParam (ji (.Call (.Name x p) (e::es) [] Wt) aq epos.line X.env=io ap) bV._auto_1):
  QS X (.Try [.Expr (.Call (.Name x p) (e::es) [] Wt) epos] [.ExceptHandler (aa (.Name c np)) (aa n) (b0::hb) WJ] WH [] pos) (JY C0 i sp ts th to):=by
 obtain⟨f,fd,hm,hkp,hbd,FO⟩:=d.ex;refine⟨λE E' ρ w h=>ha.mono _ _ _ (λrs q=>mo.mo _ _ _ _ _ (λ_ q=>hel.mono _ _ _ w q) (λC q=>⟨q.1,(Wu 0).mono _ _ _ (w.goes i) q.2⟩) q) h,λHZ F=>eM (Jm (th:=liftS X.K HZ F th) (to:=liftS X.K HZ F to) hno FO hr hg hm hkp hbd (ha.run HZ F) hN hi hk hst hfr hgc hmc hx (λa=>(Wu a).run HZ F) (hel.run HZ F) hdb hdc he hpl hs) λD σ H z=>?_⟩;obtain⟨ρ,E,fr,h,en⟩:=z;refine ha.step fr h λrs xs H1 q S1 r1=>?_;have fr1:=fr.mono S1;refine⟨lent (MM F ρ) rs,_,λx=>x.1=C0/\th (E.goes i) (ρ.set i (.v (.exc C0 x.2))),⟨λa z=>fr1.dom z.1,fr1.tab⟩,n5 fr (λ_ h=>h) r1,mo.mo _ _ _ _ _ (λr q x H' S rx=>?_) (λC q=>q) q,λC p dd H2 q S2 py=>?_⟩
 ·exact⟨ρ,E,fr1.mono S,q,en⟩
 ·intro C' ec;cases ec;refine⟨q.1,λa o hn hc hd hm=>?_⟩;have S3:aM H2 (upd H2 a (.frz o (.own a))):=aM.new' hn;exact⟨_,_,((fr1.mono S2).mono S3).setv (.exc ⟨o,_,bN,hc,by rw[hd];exact py.gen λb o u e=>S3 b _ e,hm⟩),q.2,en.goes i⟩
end
section
variable {k:Nat}{x:bn}{pos:jw}
noncomputable def Ck(K:ak)(C':ah)(te:dE):dE:=λρ Q=>te ρ λr=>match r.d with
 | .exc C _=>ExcI K C /\ ∃b,oa K (.ref C) (.ref C')=aa b/\Q (.v (.bl b))
 |_=>False
theorem Es{y:bn}{C':ah}{p2:jw}(hg:Gl X "isinstance")(hm:X.mg "isinstance" = aq)(ha:QE X e te)(hmy:X.mg y=aa (.ref C'))(hgy:autoParam (Gl X y) bV._auto_1)(hdy:autoParam ((y==("__debug__" : bn))=ap) kX._auto_1)
  (he:autoParam (ay [e,.Name y p2] X.env=(ap,fz e X.env)::ay [.Name y p2] X.env) bV._auto_1) (he2:autoParam (ay [Vo y p2] X.env=(ap,fz (.Name y p2) X.env)::ay [] X.env) bV._auto_1) (hpl:autoParam ((jd pos (ay [.Name y p2] X.env)).any (·.1)=ap) bV._auto_1):
  QE X (.Call (.Name "isinstance" p) [e,.Name y p2] [] pos) (Ck X.K C' te):=by
 refine⟨λρ Q Q' w q=>ha.mono _ _ _ (λr q=>?_) q,λHZ F=>d6 (pZ ED hg hm yw (gW (ha.run HZ F) (gW (CL (v:=.ref C') hgy hmy rfl hdy) oG he2) he) ∅ ∅ he hpl) λσ H Q z=>?_⟩
 ·generalize r.d=d at q ⊢;cases d with
  |exc C p=>
   obtain⟨ci,b,kb,q⟩:=q;exact⟨ci,b,kb,w _ q⟩
  |_=>exact q.elim
 ·obtain⟨ρ,fr,h⟩:=z;refine ha.step fr h λr x H1 q S1 r1=>?_;have cx:=r1.c;generalize r.d=d at q cx;cases d with
  |exc C p=>
   obtain⟨ci,b,kb,q⟩:=q;obtain⟨a,rfl,o,u,ea,hc,_⟩:=cx.exc;exact⟨a,C,C',o,u,b,rfl,ea,hc,ci,kb,q _ H1 S1 (Rep.bl _)⟩
  |_=>exact q.elim
end
end Z
namespace L2
end L2
namespace Z
open L2
section
variable {l o:Expr}{tl to:dE}{pos Ww:jw}
end
end Z
namespace L2
open PySem PySem.Spec PySem.W PyProof.Rows Tim
variable {es:Array my}{ep:Nat}
theorem Ent.keep{h':cm}{d:ah}(x:Ent h d es ep)(k:∀o,h.get? d=aa o->h'.get? d=aa o):Ent h' d es ep:=by
 obtain⟨⟨o,g,r⟩⟩:=x;exact⟨⟨o,k o g,r⟩⟩
theorem Ent.lt{d:ah}(x:Ent h d es ep):d<h.objs.size:=by
 obtain⟨⟨o,g,r⟩⟩:=x;exact az g
theorem Du(hh:A.handled=aq)(I d:ah)(hne:d≠I)(es:Array my)(ep:Nat):
  Walks prog w A I [I,d] [I] es.size (λi v=>∃en,es[i]?=aa en/\v=en.key) (λi h=>h.IsKeyIter I d i es.size ep/\Ent h d es ep) where
 sub:=λb hb=>by rw[fv.mp hb];exact de ..
 frame:=λi h h' st k=>⟨st.1.at λo e=>k I (by simp) o e,st.2.keep λo e=>k d (by simp) o e⟩
 item:=λi s Q E hi st q=>by
  have hx:es[i]?=aa es[i]:=qi hi;exact IP st.1 st.2 rfl hx λh' st' sb=>q _ h' s.toks ⟨_,hx,rfl⟩ ⟨st',st.2.keep λo e=>(sb.2 d hne).trans e⟩ λb o hb e=>(sb.2 b (by simpa using hb)).trans e
 done:=λs Q E st q=>Ks (.inl hh) st.1 st.2 rfl (bj _) λh' eb=>q h' s.toks λb o hb e=>eb b o (by simpa using hb) e
 self:=λi s Q E st q=>wpAny_pyIter_keyiter st.1 q
theorem IZ{d:ah}(lo:(d==jn)=ap):W.KdlSrc prog w "dict" d d es.size (λi v=>∃en,es[i]?=aa en/\v=en.key) (λh=>Ent h d es ep) where
 type:=λs x=>by
  obtain⟨⟨o,g,ex,_⟩⟩:=x;exact⟨o,g,ex.1⟩
 there:=λh x=>⟨x.lt,x.lt⟩
 keep:=λh h' x k=>x.keep λo e=>k d (.inl rfl) o e
 notList:=by decide
 notTuple:=by decide
 hint:=λA E s Q x q=>W.kdl_hint_dict (by obtain⟨⟨o,g,ex,_⟩⟩:=x;exact⟨o,g,ex.1⟩) q
 iter:=λA s hh x=>⟨_,_,λE Q q=>IQ lo x q,Du hh _ d (fu x.lt) es ep,⟨_,bw _ rfl,rfl,rfl⟩,x.keep λo e=>ao _ e⟩
theorem GY{T:String}{r d:ah}{P:Nat->af->Prop}{OK:cm->Prop}{R:List af->ai->Prop}(K:W.KdlSrc prog w T r d n P OK)(hq:A.handled=aq)(ok:OK s.heap)(le:n<=bh)
  (fin:∀(h1:cm) (tk:Nat) (acc:Array af),(∀b o,s.heap.get? b=aa o->h1.get? b=aa o)->s.heap.objs.size<h1.objs.size->ItemsOf P acc n->R acc.toList { s with heap:=h1,toks:=tk }):bi (bu prog w) A (VC (.ref r)) R E s:=by
 obtain⟨l1,l2⟩:=K.there _ ok
 let N:=s.heap.objs.size
 let hN:=s.heap.push { cls:=.type "list",data:=.seq ([]:List af).toArray }
 have oN:hN.get? N=aa { cls:=.type "list",data:=.seq #[] }:=bw _ rfl;have up:∀b o,s.heap.get? b=aa o->hN.get? b=aa o:=λb o e=>ao _ e
 let G:Vu->ai->Prop:=λq s2=>∃(h1:cm) (tk:Nat) (acc:Array af) (c:Nat),q=.ok (.ret (.ref N))/\s2={ s with heap:=h1,toks:=tk }/\(∀b o,s.heap.get? b=aa o->h1.get? b=aa o)/\h1.get? N=aa { cls:=.type "list",dict:=aq,data:=.seq acc c,slots:=#[] }/\ItemsOf P acc n
 have gone:=W.kdl_extend (A:=A) (s:={ s with heap:=hN }) (R:=G) K hq (K.keep _ _ ok λb _ o e=>up b o e) N (zh l1) (zh l2) (.ref N) 0 oN
  (λh1 tk acc c k g it=>⟨h1,tk,acc,c,rfl,rfl,λb o e=>k b o (fu (az e)) (up b o e),g,it⟩) le
 have last:∀(h1:cm) (tk:Nat) (acc:Array af) (c:Nat),(∀b o,s.heap.get? b=aa o->h1.get? b=aa o)->h1.get? N=aa { cls:=.type "list",dict:=aq,data:=.seq acc c,slots:=#[] }->ItemsOf P acc n ->
   bi (bu prog w) A (do let o <- load N;match o.data with | .seq xs _=>io xs.toList | _=>unsupported "internal:collect") R E { s with heap:=h1,toks:=tk }:=λh1 tk acc c k g it=>
  ae (SV g (ar (fin h1 tk acc k (az g) it)))
 unfold VC;refine ae (V2 (re PySem.F.entry_proto_collect ?_));rw[zw PySem.F.plain_proto_collect _];refine ae (m:=Vw []) (gm (ar ⟨plainId_quiet xz _,re PySem.F.entry_list_iadd ?_⟩));rw[zw xz _];refine fy gone (λfin2 s2 z=>?_) λe s2 z=>?_
 ·cases fin2 with
  |done f=>obtain⟨h1,tk,acc,c,e,rfl,k,g,it⟩:=z;cases e;exact last h1 tk acc c k g it
  |again c1=>exact⟨z.1,qb z.2 λq s3 y=>by obtain⟨h1,tk,acc,c,rfl,rfl,k,g,it⟩:=y;exact last h1 tk acc c k g it⟩
 ·obtain⟨_,_,_,_,z,_⟩:=z;cases z
theorem Kw{xs:List (List bU×ah×af)}(r:KT H kvs xs){kns:List (List Int)}(hk:kvs.map (·.1)=kns.map λl=>l.map ft):
  ∃its:List Gg,its.map (·.2.1)=kns/\xs.map (λq=>Value.ref q.2.1)=its.map (λt=>Value.ref t.1)/\(∀t∈its,H t.1=aa (.tup (t.2.1.map V.int))/\t.2.2=[])/\xs.map (·.1)=kns.map λl=>l.map ft:=by
 induction r generalizing kns with
 |nil=>
  cases kns with
  |nil=>exact⟨[],rfl,rfl,λt ht=>(jr ht).elim,rfl⟩
  |cons _ _=>cases hk
 | @cons p q ps qs h t ih=>
  cases kns with
  |nil=>cases hk
  |cons l kns=>
   rw[dh,dh] at hk;injection hk with h1 h2;obtain⟨its,e1,e2,e3,e4⟩:=ih h2;refine⟨(q.2.1,l,[])::its,by rw[dh,e1],by rw[dh,dh,e2],λt ht=>?_,by rw[dh,dh,e4,<- h.1,h1]⟩;rcases dt.mp ht with rfl | ht
   ·refine⟨?_,rfl⟩;have:=h.2.1;rw[h1,ny] at this;exact this
   ·exact e3 t ht
end L2
namespace L2
end L2
namespace Z
open L2
section
variable {a b c d:Expr}{ta tb tc td:dE}{pos:jw}
end
end Z
namespace L2
end L2
namespace Z
open L2
section
variable {a b c d:Expr}{ta tb tc td:dE}{pos:jw}
theorem RepT.keys{xs:List (List bU×V)}{ds:List (List bU×Dv)}(r:RepT K M H xs ds):xs.map (·.1)=ds.map (·.1):=
 r.ind (P:=λxs ds=>xs.map (·.1)=ds.map (·.1)) rfl λ_ _ _ _ _ _ _ ih=>by rw[dh,dh,ih]
end
section
variable {pos:jw}
end
end Z
namespace L2
section
variable {r:af}
end
end L2
namespace L2
open PySem.MeetsSeq PySem.SeqAt
end L2
namespace Z
open L2
end Z
namespace L2
variable {cd:af}{s0:ai}{H0:Hp}{E:XK}
section
variable {E':XK}
end
section
variable {s1 s2:ai}{e:af}{D:Ends}
end
variable {fd:jh}{sp:Sp}
section
variable {k:Nat}{x:bn}{epos pos:jw}{t:TA}
end
section
variable {fa:ah}{E0:XK}
variable {k:Nat}{x:bn}{pos:jw}{t:TA}
end
end L2
namespace Z
open L2
variable {ts:lB}
section
variable {cd:af}{s0:ai}{H0:Hp}{E:XK}{Ψ:Gv->Prop}
theorem EL{x:bn}{np pos:jw}(hS:∀H',aM HZ H'->aM H0 H')(hh:(A.deeper (qj Wm Wk s0.heap.objs.size f cd)).handled=aq)(hE:∀C p dd H',Ψ (C,p)->aM H0 H'->v4 H' p dd->E (.ref C) dd H')
  (hm:mg x=aa (.ref C)) (q:C4 K C) (hg:Gl (gH (vU P w) P w K mg base N Wm Wk f cd A outer s0 H0 E) x) (ha:QA (gH (vU P w) P w K mg base N Wm Wk f cd A outer s0 H0 E) (e::es) ts)
  (hdb:autoParam ((x==("__debug__" : bn))=ap) kX._auto_1) (he:autoParam (ay (e::es) (gH (vU P w) P w K mg base N Wm Wk f cd A outer s0 H0 E).env=(ap,fz e (gH (vU P w) P w K mg base N Wm Wk f cd A outer s0 H0 E).env)::ay es (gH (vU P w) P w K mg base N Wm Wk f cd A outer s0 H0 E).env) bV._auto_1)
  (hpl:autoParam ((jd Wt (ay es (gH (vU P w) P w K mg base N Wm Wk f cd A outer s0 H0 E).env)).any (·.1)=ap) bV._auto_1):
  QxS (gH (vU P w) P w K mg base N Wm Wk f cd A outer s0 H0 E) HZ F (.Raise (aa (.Call (.Name x np) (e::es) [] Wt)) aq pos) (BJ Ψ C ts):=by
 refine⟨λE E' ρ w h=>h,eM (F4 (X:=gH (vU P w) P w K mg base N Wm Wk f cd A outer s0 H0 E) (Ψ:=λH1=>E (.ref C) aq H1) hh hm hg q (ha.run HZ F) (λpj σ H s h' a us I m p=>Gw I m p) hdb he hpl) λD σ H z=>?_⟩;obtain⟨ρ,E',fr,h,en⟩:=z;refine ha.step fr h λrs xs H1 q1 S1 r1=>⟨?_,hE C aq aq H1 q1.2 (hS _ (fr.same.trans S1)) trivial⟩;rw[r1.len];exact kh q1.1 ∅
end
section
variable {k:Nat}{sp:EK}{x:bn}{epos pos:jw}
end
section
variable {M':ah->Prop}
end
section
variable {k:Nat}{y f:bn}{e1 e2 z c:Expr}{tt:l6}{tb tr:cI}{te2:dE}{Wv Wn:List jl}{WF Ww ipos q1 q2 q3 q4 q5 r1 r3 r4 r5:jw}
end
theorem DefX.calm{k:Nat}{x:bn}{sp:EK}(d:DefX P w K mg base k x ps (lowX K sp)):Def P w K mg base k x ps (low K λds Q=>sp ds Q λ_=>False):=by
 obtain⟨f,fd,hm,hk,hb,FO⟩:=d.ex;refine⟨f,fd,hm,hk,hb,λvs H Q E q=>?_,λA outer s H args us vs Q E hr he hbd hv q=>?_⟩
 ·obtain⟨F,ds,hF,r,q⟩:=q;exact FO.len vs H Q (λ_ _ _=>False) ⟨F,ds,λ_=>False,hF,r,q,λ_ _ _ _ z=>z.elim⟩
 ·obtain⟨F,ds,hF,r,q⟩:=q;refine qb (FO.run A outer s H args us vs Q (λ_ _ _=>False) hr he hbd hv ⟨F,ds,λ_=>False,hF,r,q,λ_ _ _ _ z=>z.elim⟩) λrr s' hq=>?_;cases rr with
  |ok o=>cases o<;>exact hq
  |error e=>
   obtain⟨_,_,_,_,_,_,_,_,_,_,_,_,_,_,z,_⟩:=hq;exact z.elim
theorem MonoX.calm{sp:EK}(m:MonoX sp):MonoF λds Q=>sp ds Q λ_=>False:=⟨λds Q Q' w h=>m.mo ds Q Q' _ _ w (λ_ z=>z) h⟩
end Z
namespace L2
noncomputable def MR(K:ak):List V->Hp->VK->Prop:=λxs H Q=>∃(a C:ah) (o:je) (u:HO) (b:Bool),xs=[.ref a,.ty "ValueError"]/\H a=aa (.frz o u)/\o.cls=.ref C/\ExcI K C/\oa K (.ref C) (.type "ValueError")=aa b/\Q (.bl b) H
theorem EC:eP X (.builtin "isinstance") (MR X.K):=by
 intro pj s σ H xs us Q I r h;obtain⟨a,C,o,u,b,rfl,ha,hc,ci,kb,q⟩:=h;obtain⟨u1,u2,rfl,r1,r2⟩:=zP r;cases r1;cases r2;obtain⟨ho,_⟩:=(show cL X.prog X.w H s.heap a (.frz o u) from I.hok a _ ha);exact lx (CW ci) I.kIn ⟨o,ho,hc⟩ kb (λz=>nomatch z) λtk=>⟨.bl b,H,I.tok tk,rfl,q⟩
section
variable {fa:ah}{cd:af}{s0:ai}{H0:Hp}{E0:XK}
variable {k:Nat}{fd:jh}{sp:Sp}{x:bn}{pos:jw}{t:TA}
end
end L2
namespace Z
open L2
section
variable {o:Expr}{to:dE}{pos Ww:jw}
noncomputable def GQ(K:ak)(te:dE):dE:=λρ Q=>te ρ λr=>match r.d with
 | .exc C _=>ExcI K C /\ ∃b,oa K (.ref C) (.type "ValueError")=aa b/\Q (.v (.bl b))
 |_=>False
theorem Je{p2:jw}(hg:Gl X "isinstance")(hm:X.mg "isinstance" = aq)(ha:QE X e te)(hmv:X.mg "ValueError" = aq)(hgv:autoParam (Gl X "ValueError") bV._auto_1)(hbv:autoParam (ly "ValueError" = aa (.type "ValueError")) bV._auto_1)
  (he:autoParam (ay [e,.Name "ValueError" p2] X.env=(ap,fz e X.env)::ay [.Name "ValueError" p2] X.env) bV._auto_1) (he2:autoParam (ay [Vo "ValueError" p2] X.env=(ap,fz (.Name "ValueError" p2) X.env)::ay [] X.env) bV._auto_1) (hpl:autoParam ((jd pos (ay [.Name "ValueError" p2] X.env)).any (·.1)=ap) bV._auto_1):
  QE X (.Call (.Name "isinstance" p) [e,.Name "ValueError" p2] [] pos) (GQ X.K te):=by
 refine⟨λρ Q Q' w q=>ha.mono _ _ _ (λr q=>?_) q,λHZ F=>d6 (pZ EC hg hm yw (gW (ha.run HZ F) (gW (gC (v:=.ty "ValueError") hgv hmv hbv rfl) oG he2) he) ∅ ∅ he hpl) λσ H Q z=>?_⟩
 ·generalize r.d=d at q ⊢;cases d with
  |exc C p=>
   obtain⟨ci,b,kb,q⟩:=q;exact⟨ci,b,kb,w _ q⟩
  |_=>exact q.elim
 ·obtain⟨ρ,fr,h⟩:=z;refine ha.step fr h λr x H1 q S1 r1=>?_;have cx:=r1.c;generalize r.d=d at q cx;cases d with
  |exc C p=>
   obtain⟨ci,b,kb,q⟩:=q;obtain⟨a,rfl,o,u,ea,hc,_⟩:=cx.exc;exact⟨a,C,o,u,b,rfl,ea,hc,ci,kb,q _ H1 S1 (Rep.bl _)⟩
  |_=>exact q.elim
end
section
variable {cd:af}{s0:ai}{H0:Hp}{E:XK}{Ψ:Gv->Prop}
end
end Z
namespace L2
variable {K:Frag}{S N:ah}{os:UD}{nm q:bn}{sn:List bn}{sub:List af}{ab:Bool}{col:Option Bool}{dd:Option ah}{k0 k1 k2 k3 k5:Option af}
section
open PySem.Builtin PySem.Builtin.ObjectAttr PySem.W
variable {x:ah}{ox:je}{us:Array af}{cd:ClassData}{name:bn}{v:af}
open PySem.Builtin PySem.W
variable {g:Array xr}{d:Vj}{t:Nat}
variable {fI:ah}{bs:List af}
open PySem.Builtin PySem.W
variable {g:Array xr}{d:Vj}{t:Nat}
variable {e t0:ah}{bs:List af}{dct:Option ah}
end
end L2
namespace L2
variable {S fI:ah}
variable {te:TE}
section
variable {CX:EH}{k:Nat}{fd:jh}
end
section
variable {cd:af}{s0:ai}{H0:Hp}{E:XK}
end
section
open PySem.Calls PySem.Builtin PySem.Builtin.ObjectAttr
variable {x d:ah}{o:je}{mA:bn->Option af}{v:af}
end
section
variable {pos:jw}
end
end L2
namespace Z
open L2
section
variable {a b:Expr}{ts:lB}{pos:jw}{x:bn}{id T:String}{pp:List Dv->(R->Prop)->Prop}
end
section
variable {cd:af}{s0:ai}{H0:Hp}{E:XK}{Ψ:Gv->Prop}
end
theorem GA{k:Nat}(r:Room k A):A.units+2<lq:=by have:=r.un;right
section
variable {pos:jw}
end
end Z
namespace L2
end L2
namespace Z
open L2
section
variable {pos:jw}
end
end Z
namespace L2
open PySem.W
noncomputable def gal:Bool->ng->Array ng->Nat->Nat->Nat->StateT gq Ui (Option Nat):=sortPriv% PySem.Builtin.gallop
noncomputable def NC:Array ng->Array ng->StateT gq Ui (Array ng):=sortPriv% PySem.Builtin.mergeLo
noncomputable def ND:Array ng->Array ng->StateT gq Ui (Array ng):=sortPriv% PySem.Builtin.mergeHi
variable {arr:Array ng}{st:gq}{Q:Option Nat->gq->Prop}{N:Nat}{it:Nat->ng}{κ:lc}{left:Bool}{M:xc}
structure Tm(M:xc)(A:cf)(E:af->ai->Prop)(s:ai)(N:Nat)(lt:Nat->Nat->Bool)(it:Nat->ng)(κ:lc):Prop where
 cmp:∀i j,i<N->j<N->i≠j -> ∀(st:gq) (Q:Option Bool->gq->Prop),ke st=κ->Q (aa (lt i j)) st->UE M A E s (lt' (it i) (it j)) Q st
 tot:∀i j,i<N->j<N->i≠j->lt i j = !lt j i
 tr:∀i j k,i<N->j<N->k<N->lt i j=aj->lt j k=aj->lt i k=aj
theorem dF{x:ng}{Q:ng->gq->Prop}(h:arr[i]?=aa x)(q:Q x st):UE M A E s (elem' arr i) Q st:=by
 rw[elem'_eq,h];exact bb q
theorem yJ{lt:Nat->Nat->Bool}(T:Tm M A E s N lt it κ){x:Nat}{base hint:Nat}{f:Nat->Nat}(hk:ke st=κ)(hx:x<N)
  (ha:∀i,i<n->arr[base+i]?=aa (it (f i))) (hf:∀i,i<n->f i<N/\f i≠x) (up:∀i j,i<j->j<n->lt (f i) (f j)=aj) (hh:hint<n)
  (q:∀k,k<=n->(∀i,i<k->lt (f i) x=aj)->(∀i,k<=i->i<n->lt x (f i)=aj)->Q (aa k) st):UE M A E s (gal left (it x) arr base n hint) Q st:=by
 have b1:∀i (Q:Option Bool->gq->Prop),i<n->Q (aa (lt (f i) x)) st->UE M A E s (do
   let y <- elem' arr (base+i)
   if left=aj then lt' y (it x) else do
    let r <- lt' (it x) y
    io (r.map λb=>!b)) Q st:=λi Q hi q=>by
  obtain⟨h1,h2⟩:=hf i hi;refine aw (dF (ha i hi) ?_);cases left with
  |true=>exact T.cmp _ _ h1 hx h2 st Q hk q
  |false=>
   refine aw (T.cmp _ _ hx h1 (Ne.symm h2) st _ hk (bb ?_));rw[T.tot _ _ hx h1 (Ne.symm h2)];simpa using q
 have mon:∀i j,i<=j->j<n->lt (f j) x=aj->lt (f i) x=aj:=λi j hij hj z=>by
  by_cases e:i=j
  ·rw[e];exact z
  ·exact T.tr _ _ _ (hf i (by omega)).1 (hf j hj).1 hx (up i j (by omega) hj) z
 show UE M A E s (gal left (it x) arr base n hint) Q st;unfold gal;refine aw (b1 hint _ hh ?_);dsimp only;cases y0:lt (f hint) x with
 |true=>
  rw[Wj rfl];refine aw (jm (fk (I:=λi c st'=>st=st' /\ ∃l o,c=(aq,l,o)/\l<o/\i+1<=o/\hint+l<n/\lt (f (hint+l)) x=aj)
   (Q:=λc st'=>st=st' /\ ∃l o,c=(aq,l,o)/\l<o/\hint+l<n/\lt (f (hint+l)) x=aj/\(hint+o<n->lt (f (hint+o)) x=ap)) ?_ ?_ ?_) ?_)
  ·rintro i c st' _ hi ⟨rfl,l,o,rfl,l1,l2,l3,l4⟩;dsimp only;by_cases z:o >= n-hint
   ·rw[Wj z];exact bb ⟨rfl,l,o,rfl,l1,l3,l4,λh=>by omega⟩
   ·rw[VT z];refine aw (b1 (hint+o) _ (by omega) ?_);cases y:lt (f (hint+o)) x with
    |true=>
     dsimp only;rw[VT ∅];exact bb ⟨rfl,_,_,rfl,by omega,by omega,by omega,y⟩
    |false=>
     dsimp only;rw[Wj ∅];exact bb ⟨rfl,l,o,rfl,l1,l3,l4,λ_=>y⟩
  ·rintro c st' ⟨rfl,l,o,rfl,l1,l2,l3,l4⟩;exact⟨rfl,l,o,rfl,l1,l3,l4,λh=>by omega⟩
  ·exact⟨rfl,0,1,rfl,by omega,by omega,by omega,y0⟩
  rintro c st' ⟨rfl,l,o,rfl,l1,l3,l4,l5⟩;dsimp only;refine aw (jm (fk (I:=λi c st'=>st=st' /\ ∃lo hi,c=(aq,lo,hi)/\lo<=hi/\hi<=n/\hi-lo+i<=n/\(∀i,i<lo->lt (f i) x=aj)/\(∀i,hi<=i->i<n->lt (f i) x=ap))
   (Q:=λc st'=>st=st' /\ ∃k,c=(aq,k,k)/\k<=n/\(∀i,i<k->lt (f i) x=aj)/\(∀i,k<=i->i<n->lt (f i) x=ap)) ?_ ?_ ?_) ?_)
  ·rintro i c st' _ hi ⟨rfl,lo,h,rfl,l1,l2,l3,l4,l5⟩;dsimp only;by_cases z:lo >= h
   ·rw[Wj z];have e:lo=h:=by omega
    subst e;exact bb ⟨rfl,lo,rfl,l2,l4,l5⟩
   ·rw[VT z];refine aw (b1 (lo+(h-lo) / 2) _ (by omega) ?_);cases y:lt (f (lo+(h-lo) / 2)) x with
    |true=>
     dsimp only;rw[Wj rfl];exact bb ⟨rfl,_,_,rfl,by omega,by omega,by omega,λj hj=>mon j _ (by omega) (by omega) y,l5⟩
    |false=>
     dsimp only;rw[VT ∅];refine bb ⟨rfl,_,_,rfl,by omega,by omega,by omega,l4,λj hj hn=>?_⟩;cases y2:lt (f j) x with
     |false=>rfl
     |true=>rw[mon _ j hj hn y2] at y;cases y
  ·rintro c st' ⟨rfl,lo,h,rfl,l1,l2,l3,l4,l5⟩;have e:lo=h:=by omega
   subst e;exact⟨rfl,lo,rfl,l2,l4,l5⟩
  ·exact⟨rfl,_,_,rfl,by omega,by omega,by omega,λj hj=>mon j _ (by omega) l3 l4,λj hj hn=>by
    cases y2:lt (f j) x with
    |false=>rfl
    |true=>have z:=mon (hint+o) j (by omega) hn y2;rw[l5 (by omega)] at z;cases z⟩
  ·rintro c st' ⟨rfl,k,rfl,l2,l4,l5⟩;exact bb (q k l2 l4 λi hi hn=>by rw[T.tot _ _ hx (hf i hn).1 (Ne.symm (hf i hn).2),l5 i hi hn];rfl)
 |false=>
  rw[VT ∅];refine aw (jm (fk (I:=λi c st'=>st=st' /\ ∃l o,c=(aq,l,o)/\l<o/\i+1<=o/\l<=hint/\lt (f (hint-l)) x=ap)
   (Q:=λc st'=>st=st' /\ ∃l o,c=(aq,l,o)/\l<o/\l<=hint/\lt (f (hint-l)) x=ap/\(o<=hint->lt (f (hint-o)) x=aj)) ?_ ?_ ?_) ?_)
  ·rintro i c st' _ hi ⟨rfl,l,o,rfl,l1,l2,l3,l4⟩;dsimp only;by_cases z:o >= hint+1
   ·rw[Wj z];exact bb ⟨rfl,l,o,rfl,l1,l3,l4,λh=>by omega⟩
   ·rw[VT z];refine aw (b1 (hint-o) _ (by omega) ?_);cases y:lt (f (hint-o)) x with
    |true=>
     dsimp only;rw[Wj rfl];exact bb ⟨rfl,l,o,rfl,l1,l3,l4,λ_=>y⟩
    |false=>
     dsimp only;rw[VT ∅];exact bb ⟨rfl,_,_,rfl,by omega,by omega,by omega,y⟩
  ·rintro c st' ⟨rfl,l,o,rfl,l1,l2,l3,l4⟩;exact⟨rfl,l,o,rfl,l1,l3,l4,λh=>by omega⟩
  ·exact⟨rfl,0,1,rfl,by omega,by omega,by omega,y0⟩
  rintro c st' ⟨rfl,l,o,rfl,l1,l3,l4,l5⟩;dsimp only;refine aw (jm (fk (I:=λi c st'=>st=st' /\ ∃lo hi,c=(aq,lo,hi)/\lo<=hi/\hi<=n/\hi-lo+i<=n/\(∀i,i<lo->lt (f i) x=aj)/\(∀i,hi<=i->i<n->lt (f i) x=ap))
   (Q:=λc st'=>st=st' /\ ∃k,c=(aq,k,k)/\k<=n/\(∀i,i<k->lt (f i) x=aj)/\(∀i,k<=i->i<n->lt (f i) x=ap)) ?_ ?_ ?_) ?_)
  ·rintro i c st' _ hi ⟨rfl,lo,h,rfl,l1,l2,l3,l4,l5⟩;dsimp only;by_cases z:lo >= h
   ·rw[Wj z];have e:lo=h:=by omega
    subst e;exact bb ⟨rfl,lo,rfl,l2,l4,l5⟩
   ·rw[VT z];refine aw (b1 (lo+(h-lo) / 2) _ (by omega) ?_);cases y:lt (f (lo+(h-lo) / 2)) x with
    |true=>
     dsimp only;rw[Wj rfl];exact bb ⟨rfl,_,_,rfl,by omega,by omega,by omega,λj hj=>mon j _ (by omega) (by omega) y,l5⟩
    |false=>
     dsimp only;rw[VT ∅];refine bb ⟨rfl,_,_,rfl,by omega,by omega,by omega,l4,λj hj hn=>?_⟩;cases y2:lt (f j) x with
     |false=>rfl
     |true=>rw[mon _ j hj hn y2] at y;cases y
  ·rintro c st' ⟨rfl,lo,h,rfl,l1,l2,l3,l4,l5⟩;have e:lo=h:=by omega
   subst e;exact⟨rfl,lo,rfl,l2,l4,l5⟩
  ·exact⟨rfl,_,_,rfl,by omega,by omega,by omega,λj hj=>mon j (hint-o) (by omega) (by omega) (l5 (by omega)),λj hj hn=>by
    cases y2:lt (f j) x with
    |false=>rfl
    |true=>have z:=mon (hint-l) j (by omega) hn y2;rw[l4] at z;cases z⟩
  ·rintro c st' ⟨rfl,k,rfl,l2,l4,l5⟩;exact bb (q k l2 l4 λi hi hn=>by rw[T.tot _ _ hx (hf i hn).1 (Ne.symm (hf i hn).2),l5 i hi hn];rfl)
structure Mg(lt:Nat->Nat->Bool)(la lb lo:List Nat)(ia ib:Nat):Prop where
 pm:(lo++(la.drop ia++lb.drop ib)).Perm (la++lb)
 up:lo.Pairwise λx y=>lt x y=aj
 lo:∀o∈lo,∀r∈la.drop ia++lb.drop ib,lt o r=aj
structure Two(N:Nat)(lt:Nat->Nat->Bool)(la lb:List Nat):Prop where
 ua:la.Pairwise λx y=>lt x y=aj
 ub:lb.Pairwise λx y=>lt x y=aj
 nd:(la++lb).Nodup
 bd:∀x∈la++lb,x<N
variable {l la lb:List Nat}{ia ib:Nat}
section
variable {lt:Nat->Nat->Bool}{lo:List Nat}
theorem Two.symm(T:Two N lt la lb):Two N lt lb la:=⟨T.ub,T.ua,(kl.nodup_iff).mp T.nd,λx hx=>T.bd x (kl.mem_iff.mp hx)⟩
theorem Mg.symm(m:Mg lt la lb lo ia ib):Mg lt lb la lo ib ia:=
 ⟨((kl (l₁:=lb.drop ib) (l₂:=la.drop ia)).append_left lo).trans (m.pm.trans kl),m.up,λo ho r hr=>m.lo o ho r (kl.mem_iff.mp hr)⟩
theorem Mg.takeA(T:Two N lt la lb)(m:Mg lt la lb lo ia ib)(k:Nat)(h:∀x∈(la.drop ia).take k,∀r∈lb.drop ib,lt x r=aj):Mg lt la lb (lo++(la.drop ia).take k) (ia+k) ib:=by
 have e:(la.drop ia).take k++la.drop (ia+k)=la.drop ia:=by rw[<- Vp,qe]
 have ud:(la.drop ia).Pairwise λx y=>lt x y=aj:=T.ua.sublist (vq _ _);rw[<- e] at ud;have ud2:=oj.mp ud;refine⟨?_,oj.mpr ⟨m.up,ud2.1,λo ho x hx=>m.lo o ho x ?_⟩,λo ho r hr=>?_⟩
 ·have:=m.pm;rw[<- e] at this;simpa [fx] using this
 ·exact jy _ (uz hx)
 ·rcases gf.mp ho with ho | ho
  ·refine m.lo o ho r ?_;rcases gf.mp hr with hr | hr
   ·exact jy _ (by rw[<- e];exact fj _ hr)
   ·exact fj _ hr
  ·rcases gf.mp hr with hr | hr
   ·exact ud2.2.2 o ho r hr
   ·exact h o ho r hr
theorem Mg.takeB(T:Two N lt la lb)(m:Mg lt la lb lo ia ib)(k:Nat)(h:∀x∈(lb.drop ib).take k,∀r∈la.drop ia,lt x r=aj):Mg lt la lb (lo++(lb.drop ib).take k) ia (ib+k):=
 (m.symm.takeA T.symm k h).symm
noncomputable def zI(lt:Nat->Nat->Bool)(la lb l:List Nat):Prop:=l.Perm (la++lb)/\l.Pairwise λx y=>lt x y=aj
theorem Mg.endA(T:Two N lt la lb)(m:Mg lt la lb lo ia ib)(h:∀x∈la.drop ia,∀r∈lb.drop ib,lt x r=aj):zI lt la lb (lo++la.drop ia++lb.drop ib):=by
 refine⟨by rw[fx];exact m.pm,?_⟩;rw[fx];refine oj.mpr ⟨m.up,oj.mpr ⟨T.ua.sublist (vq _ _),T.ub.sublist (vq _ _),h⟩,m.lo⟩
theorem Mg.endB(T:Two N lt la lb)(m:Mg lt la lb lo ia ib)(h:∀x∈lb.drop ib,∀r∈la.drop ia,lt x r=aj):zI lt la lb (lo++lb.drop ib++la.drop ia):=by
 have:=m.symm.endA T.symm h;exact⟨this.1.trans kl,this.2⟩
theorem qM(h:i<l.length):l.drop i=l.getD i 0::l.drop (i+1):=by
 rw[gr h];simp[dq,h]
theorem Two.headA(T:Two N lt la lb)(tr:∀i j k,i<N->j<N->k<N->lt i j=aj->lt j k=aj->lt i k=aj){x:Nat}(hx:x<N)(hi:ia<la.length)(h:lt x (la.getD ia 0)=aj):∀r∈la.drop ia,lt x r=aj:=λr hr=>by
 rw[qM hi] at hr;rcases dt.mp hr with e | hr
 ·rw[e];exact h
 ·have ud:(la.drop ia).Pairwise λx y=>lt x y=aj:=T.ua.sublist (vq _ _);rw[qM hi] at ud;have b1:la.getD ia 0<N:=T.bd _ (jy _ (by rw[ef,bf hi];exact dm hi));have b2:r<N:=T.bd r (jy _ (zx hr));exact tr _ _ _ hx b1 b2 h ((qy.mp ud).1 r hr)
end
variable {j:Nat}{G:Prop}{σ:Type}
section
variable {lt:Nat->Nat->Bool}
structure SEq(st st':gq):Prop where
 k:ke st'=ke st
 a:sh st'=sh st
 p:bz st'=bz st
 f:sx st'=sx st
theorem SEq.refl(st:gq):SEq st st:=⟨rfl,rfl,rfl,rfl⟩
noncomputable abbrev dJ(it:Nat->ng)(l:List Nat):Array ng:=(l.map it).toArray
theorem bZ(h:i<l.length):(dJ it l)[i]?=aa (it (l.getD i 0)):=by
 simp[dq,h]
theorem aU{x:Nat}:(dJ it l).push (it x)=dJ it (l++[x]):=by simp[dJ]
theorem aX{m:List Nat}:dJ it l++dJ it m=dJ it (l++m):=by simp[dJ]
theorem mR:(dJ it l).size=l.length:=by simp[dJ]
theorem aW:(dJ it l).extract i j=dJ it ((l.drop i).take (j-i)):=by
 simp[dJ,UX,VX]
theorem c6:(dJ it l).extract i l.length=dJ it (l.drop i):=by
 rw[aW,ma (by simp)]
theorem Two.neAB(W:Two N lt la lb)(hi:i<la.length)(hj:j<lb.length):la.getD i 0≠lb.getD j 0:=by
 have e1:la.getD i 0=la[i]:=by simp[dq,hi]
 have e2:lb.getD j 0=lb[j]:=by simp[dq,hj]
 rw[e1,e2];exact(TM.mp W.nd).2.2 _ (dm hi) _ (dm hj)
theorem Two.ltA(W:Two N lt la lb)(hi:i<la.length):la.getD i 0<N:=W.bd _ (jy _ (by rw[ef,bf hi];exact dm hi))
theorem Two.upA(W:Two N lt la lb)(hij:i<j)(hj:j<la.length):lt (la.getD i 0) (la.getD j 0)=aj:=by
 have e1:la.getD i 0=la[i]'⋯:=by simp[dq,show i<la.length by right]
 have e2:la.getD j 0=la[j]:=by simp[dq,hj]
 rw[e1,e2];exact cq.mp W.ua i j ⋯ hj hij
variable {lo:List Nat}
structure Trn(N:Nat)(lt:Nat->Nat->Bool):Prop where
 tr:∀i j k,i<N->j<N->k<N->lt i j=aj->lt j k=aj->lt i k=aj
theorem _root_.L2.Tm.trn(T:Tm M A E s N lt it κ):Trn N lt:=⟨T.tr⟩
theorem Mg.stepB(T:Trn N lt)(W:Two N lt la lb)(m:Mg lt la lb lo ia ib)(hi:ia<la.length)(hj:ib<lb.length)(h:lt (lb.getD ib 0) (la.getD ia 0)=aj):Mg lt la lb (lo++[lb.getD ib 0]) ia (ib+1):=by
 have e:(lb.drop ib).take 1=[lb.getD ib 0]:=by rw[qM hj];rfl
 have:=m.takeB W 1 (by
  rw[e];intro x hx;rw[fv.mp hx];exact W.headA T.tr (W.symm.ltA hj) hi h)
 rwa[e] at this
theorem Mg.stepA(T:Trn N lt)(W:Two N lt la lb)(m:Mg lt la lb lo ia ib)(hi:ia<la.length)(hj:ib<lb.length)(h:lt (la.getD ia 0) (lb.getD ib 0)=aj):Mg lt la lb (lo++[la.getD ia 0]) (ia+1) ib:=(m.symm.stepB T W.symm hj hi h).symm
theorem Mg.galA(T:Trn N lt)(W:Two N lt la lb)(m:Mg lt la lb lo ia ib){k:Nat}(hj:ib<lb.length)(hk:k<=la.length-ia)(h:∀i,i<k->lt (la.getD (ia+i) 0) (lb.getD ib 0)=aj):Mg lt la lb (lo++(la.drop ia).take k) (ia+k) ib:=
 m.takeA W k λx hx r hr=>by
  obtain⟨i,hi,e⟩:=kg.mp hx;simp at hi;have e2:x=la.getD (ia+i) 0:=by
   rw[<- e];simp[dq,show ia+i<la.length by right]
  subst e2;exact W.symm.headA T.tr (W.ltA ⋯) hj (h i ⋯) r hr
theorem Mg.galB(T:Trn N lt)(W:Two N lt la lb)(m:Mg lt la lb lo ia ib){k:Nat}(hi:ia<la.length)(hk:k<=lb.length-ib)(h:∀i,i<k->lt (lb.getD (ib+i) 0) (la.getD ia 0)=aj):Mg lt la lb (lo++(lb.drop ib).take k) ia (ib+k):=
 (m.symm.galA T W.symm hi hk h).symm
theorem Mg.doneA(W:Two N lt la lb)(m:Mg lt la lb lo ia ib)(h:ia=la.length \/ ib=lb.length):zI lt la lb (lo++la.drop ia++lb.drop ib):=m.endA W λx hx r hr=>by
 rcases h with h | h
 ·rw[h,uw] at hx;cases hx
 ·rw[h,uw] at hr;cases hr
theorem Mg.lastA(W:Two N lt la lb)(m:Mg lt la lb lo ia ib)(hz:∀r∈lb,lt r (la.getD (la.length-1) 0)=aj)(h:ia+1=la.length):zI lt la lb (lo++lb.drop ib++la.drop ia):=m.endB W λx hx r hr=>by
 rw[qM ⋯,h,uw] at hr;rw[fv.mp hr,show ia=la.length-1 by right];exact hz x (zx hx)
theorem GD(T:Tm M A E s N lt it κ)(W:Two N lt la lb)(hk:ke st=κ)(hi:ia<la.length)(hj:ib<lb.length)
  (q:∀k,k<=la.length-ia->(∀i,i<k->lt (la.getD (ia+i) 0) (lb.getD ib 0)=aj)->(∀i,k<=i->i<la.length-ia->lt (lb.getD ib 0) (la.getD (ia+i) 0)=aj)->Q (aa k) st):
  UE M A E s (gal left (it (lb.getD ib 0)) (dJ it la) ia (la.length-ia) 0) Q st:=
 yJ T (f:=λi=>la.getD (ia+i) 0) hk (W.symm.ltA hj) (λi h=>bZ ⋯) (λi h=>⟨W.ltA ⋯,W.neAB ⋯ hj⟩) (λi j h h2=>W.upA ⋯ ⋯) ⋯ q
theorem ET{c1 c2:Prop}[Decidable c1][Decidable c2]{p1 p2:Array ng}{k:gq->StateT gq Ui (Array ng)}{Q:Array ng->gq->Prop}(h1:c1->Q p1 st)(h2:¬c1->c2->Q p2 st)(h3:¬c1 -> ¬c2->UE M A E s (k st) Q st):
  UE M A E s (if c1 then io p1 else if c2 then io p2 else bind get k) Q st:=by
 by_cases z1:c1
 ·rw[Wj z1];exact bb (h1 z1)
 ·rw[VT z1];by_cases z2:c2
  ·rw[Wj z2];exact bb (h2 z1 z2)
  ·rw[VT z2];exact aw (tf (h3 z1 z2))
theorem JA{P:Nat->Prop}(main:(∀g,P g)->G)(key:∀g,P g):G:=main key
theorem CY{P F:List Nat->Nat->Prop}(main:(∀lo ia,F lo ia->P lo ia)->G)(key:∀lo ia,F lo ia->P lo ia):G:=main key
theorem fM{c:Prop}[hc:Decidable c]{a b:StateT σ Ui α}{Q:α->σ->Prop}{st:σ}(h:c)(H:UE M A E s a Q st):UE M A E s (if c then a else b) Q st:=by rw[Wj h];exact H
theorem fN{c:Prop}[hc:Decidable c]{a b:StateT σ Ui α}{Q:α->σ->Prop}{st:σ}(h:¬c)(H:UE M A E s b Q st):UE M A E s (if c then a else b) Q st:=by rw[VT h];exact H
theorem Hx(T:Tm M A E s N lt it κ)(W:Two N lt la lb){Q:Array ng->gq->Prop}(hk:ke st=κ)(ha:0<la.length)(hb:0<lb.length)(h0:lt (lb.getD 0 0) (la.getD 0 0)=aj)(hz:∀r∈lb,lt r (la.getD (la.length-1) 0)=aj)
  (q:∀l st',zI lt la lb l->SEq st st'->Q (dJ it l) st'):UE M A E s (NC (dJ it la) (dJ it lb)) Q st:=by
 have m0:Mg lt la lb [] 0 0:=⟨by simp,.nil,λo ho=>by cases ho⟩;have m1:=m0.stepB T.trn W ha hb h0;have sa:(dJ it la).size=la.length:=mR;have sb:(dJ it lb).size=lb.length:=mR;unfold NC;refine aw (ya (kr ⟨rfl,?_⟩));refine aw (dF (bZ hb) ?_);refine ET (λc1=>?_) (λc1 c2=>?_) λc1 c2=>?_
 ·simp only[sa,sb,c6,beq_iff_eq] at c1 ⊢;rw[show #[it (lb.getD 0 0)]=dJ it ([]++[lb.getD 0 0]) from rfl];simp only[aX];exact q _ _ (by have:=m1.doneA W (.inr c1);simpa using this) (.refl st)
 ·simp only[sa,sb,c6,beq_iff_eq] at c2 ⊢;rw[show #[it (lb.getD 0 0)]=dJ it ([]++[lb.getD 0 0]) from rfl];simp only[aX];exact q _ _ (by have:=m1.lastA W hz c2;simpa using this) (.refl st)
 simp only[sa,sb,beq_iff_eq] at c1 c2;refine aw (jm (fk
  (I:=λx c st'=>SEq st st' /\ ∃X lo ia ib g,c=(aq,X,ia,ib,g)/\X=dJ it lo/\Mg lt la lb lo ia ib/\ia+1<la.length/\ib<lb.length/\x+1<=ia+ib)
  (Q:=λc st'=>SEq st st' /\ ∃X l c',c=(aa X,c')/\X=dJ it l/\zI lt la lb l) ?step ?fin ?init) ?post)
 case fin=>
  rintro c st' ⟨_,_,lo,ia,ib,g,rfl,rfl,m,h1,h2,h3⟩;right
 case init=>exact⟨.refl st,_,_,_,_,_,rfl,by first | rfl | ((try simp only[c6]);simp only[aU,aX,aW,cb]),m1,⋯,⋯,⋯⟩
 case post=>
  rintro c st' ⟨e,_,l,c',rfl,rfl,d⟩;exact bb (q l st' d e)
 case step=>
  rintro x c st' _ hx ⟨e,_,lo,ia,ib,g,rfl,rfl,m,h1,h2,h3⟩;dsimp only;generalize (dJ it la).size=na at sa hx ⊢;generalize (dJ it lb).size=nb at sb hx ⊢;subst sa sb;refine aw (jm (fk
   (I:=λy c st'=>SEq st st' /\ ∃X lo ia' ib' ac bc,c=(aq,X,ia',ib',ac,bc)/\X=dJ it lo/\Mg lt la lb lo ia' ib'/\ia'+1<la.length/\ib'<lb.length/\ia+ib+y<=ia'+ib')
   (Q:=λc st'=>SEq st st'/\((∃X l c',c=(aa X,c')/\X=dJ it l/\zI lt la lb l) \/ ∃X lo ia' ib' ac bc,c=(aq,X,ia',ib',ac,bc)/\X=dJ it lo/\Mg lt la lb lo ia' ib'/\ia'+1<la.length/\ib'<lb.length/\ia+ib+1<=ia'+ib')) ?s1 ?f1 ?i1) ?p1)
  case i1=>exact⟨e,_,_,_,_,_,_,rfl,by first | rfl | ((try simp only[c6]);simp only[aU,aX,aW,cb]),m,h1,h2,bj _⟩
  case f1=>
   rintro c st2 ⟨e2,_,lo2,ia2,ib2,ac,bc,rfl,rfl,m2,a1,a2,a3⟩;exact⟨e2,.inr ⟨_,_,_,_,_,_,rfl,by first | rfl | ((try simp only[c6]);simp only[aU,aX,aW,cb]),m2,a1,a2,⋯⟩⟩
  case s1=>
   rintro y c st2 _ hy ⟨e2,_,lo2,ia2,ib2,ac,bc,rfl,rfl,m2,a1,a2,a3⟩;dsimp only;refine aw (dF (bZ a2) (aw (dF (bZ ⋯) (aw (T.cmp _ _ (W.symm.ltA a2) (W.ltA ⋯) (Ne.symm (W.neAB ⋯ a2)) _ _ (e2.k.trans hk) ?_)))));cases y0:lt (lb.getD ib2 0) (la.getD ia2 0) with
   |true=>
    dsimp only;refine fM rfl ?_;refine aw (dF (bZ a2) ?_);have m3:=m2.stepB T.trn W ⋯ a2 y0;by_cases z:ib2+1=lb.length
    ·refine fM (beq_iff_eq.mpr z) ?_;exact bb ⟨e2,.inl ⟨_,_,_,rfl,by first | rfl | ((try simp only[c6]);simp only[aU,aX,aW,cb]),m3.doneA W (.inr z)⟩⟩
    ·refine fN (λh=>z (beq_iff_eq.mp h)) ?_;split
     ·exact bb ⟨e2,.inr ⟨_,_,_,_,_,_,rfl,by first | rfl | ((try simp only[c6]);simp only[aU,aX,aW,cb]),m3,a1,⋯,⋯⟩⟩
     ·exact bb ⟨e2,_,_,_,_,_,_,rfl,by first | rfl | ((try simp only[c6]);simp only[aU,aX,aW,cb]),m3,a1,⋯,⋯⟩
   |false=>
    dsimp only;refine fN ∅ ?_;refine aw (dF (bZ ⋯) ?_);have y1:lt (la.getD ia2 0) (lb.getD ib2 0)=aj:=by rw[T.tot _ _ (W.ltA ⋯) (W.symm.ltA a2) (W.neAB ⋯ a2),y0];rfl
    have m3:=m2.stepA T.trn W ⋯ a2 y1;by_cases z:ia2+1+1=la.length
    ·refine fM (beq_iff_eq.mpr z) ?_;exact bb ⟨e2,.inl ⟨_,_,_,rfl,by first | rfl | ((try simp only[c6]);simp only[aU,aX,aW,cb]),m3.lastA W hz z⟩⟩
    ·refine fN (λh=>z (beq_iff_eq.mp h)) ?_;split
     ·exact bb ⟨e2,.inr ⟨_,_,_,_,_,_,rfl,by first | rfl | ((try simp only[c6]);simp only[aU,aX,aW,cb]),m3,⋯,a2,⋯⟩⟩
     ·exact bb ⟨e2,_,_,_,_,_,_,rfl,by first | rfl | ((try simp only[c6]);simp only[aU,aX,aW,cb]),m3,⋯,a2,⋯⟩
  case p1=>
   rintro c st2 ⟨e2,⟨_,l,c',rfl,rfl,d⟩ | ⟨_,lo2,ia2,ib2,ac,bc,rfl,rfl,m2,a1,a2,a3⟩⟩
   ·exact bb ⟨e2,_,l,_,rfl,rfl,d⟩
   dsimp only;refine aw (ya (kr ⟨rfl,?_⟩));refine aw (jm (fk
    (I:=λy c st'=>SEq st st' /\ ∃X lo ia' ib' g' ac bc,c=(aq,X,ia',ib',g',ac,bc)/\X=dJ it lo/\Mg lt la lb lo ia' ib'/\ia'+1<la.length/\ib'<lb.length/\ia2+ib2+y<=ia'+ib')
    (Q:=λc st'=>SEq st st'/\((∃X l c',c=(aa X,c')/\X=dJ it l/\zI lt la lb l) \/ ∃X lo ia' ib' g' ac bc,c=(aq,X,ia',ib',g',ac,bc)/\X=dJ it lo/\Mg lt la lb lo ia' ib'/\ia'+1<la.length/\ib'<lb.length/\ia2+ib2<=ia'+ib')) ?s2 ?f2 ?i2) ?p2)
   case i2=>exact⟨e2,_,_,_,_,_,_,_,rfl,by first | rfl | ((try simp only[c6]);simp only[aU,aX,aW,cb]),m2,a1,a2,bj _⟩
   case f2=>
    rintro c st3 ⟨e3,_,lo3,ia3,ib3,g3,ac3,bc3,rfl,rfl,m3,b1,b2,b3⟩;exact⟨e3,.inr ⟨_,_,_,_,_,_,_,rfl,by first | rfl | ((try simp only[c6]);simp only[aU,aX,aW,cb]),m3,b1,b2,⋯⟩⟩
   case p2=>
    rintro c st3 ⟨e3,⟨_,l,c',rfl,rfl,d⟩ | ⟨_,lo3,ia3,ib3,g3,ac3,bc3,rfl,rfl,m3,b1,b2,b3⟩⟩
    ·exact bb ⟨e3,_,l,_,rfl,rfl,d⟩
    dsimp only;refine aw (jo ?_);exact bb ⟨⟨e3.k,e3.a,e3.p,e3.f⟩,_,_,_,_,_,rfl,by first | rfl | ((try simp only[c6]);simp only[aU,aX,aW,cb]),m3,b1,b2,⋯⟩
   case s2=>
    rintro y c st3 _ hy ⟨e3,_,lo3,ia3,ib3,g3,ac3,bc3,rfl,rfl,m3,b1,b2,b3⟩;dsimp only;refine' JA (λkey=>?mn1) ?ky1
    case mn1=>
     by_cases hg:g3 > 1
     ·refine fM hg ?_;generalize g3-1=g;exact key g
     ·refine fN hg ?_;exact key g3
    case ky1=>
     intro g;refine aw (jo ?_);refine aw (dF (bZ b2) ?_);refine aw (GD (left:=ap) (ia:=ia3) (ib:=ib3) T W (e3.k.trans hk) ⋯ b2 λk k1 k2 k3=>?_);dsimp only;refine' CY (F:=λlo ia=>Mg lt la lb lo ia ib3/\ia+1<la.length/\ia3<=ia/\lt (lb.getD ib3 0) (la.getD ia 0)=aj) (λkey=>?mn2) ?ky2
     case mn2=>
      by_cases kz:k > 0
      ·refine fM kz ?_;have m4:=m3.galA T.trn W b2 k1 k2;by_cases z1:ia3+k+1=la.length
       ·refine fM (beq_iff_eq.mpr z1) ?_;exact bb ⟨⟨e3.k,e3.a,e3.p,e3.f⟩,.inl ⟨_,_,_,rfl,by first | rfl | ((try simp only[c6]);simp only[aU,aX,aW,cb]),m4.lastA W hz z1⟩⟩
       refine fN (λh=>z1 (beq_iff_eq.mp h)) ?_;by_cases z2:ia3+k=la.length
       ·refine fM (beq_iff_eq.mpr z2) ?_;exact bb ⟨⟨e3.k,e3.a,e3.p,e3.f⟩,.inl ⟨_,_,_,rfl,by first | rfl | ((try simp only[c6]);simp only[aU,aX,aW,cb]),m4.doneA W (.inl z2)⟩⟩
       refine fN (λh=>z2 (beq_iff_eq.mp h)) ?_;have hl:=k3 k (bj _) ⋯;have c1:ia3+k+1<la.length:=⋯;have c2:ia3<=ia3+k:=⋯;rw[show dJ it lo3++(dJ it la).extract ia3 (ia3+k)=dJ it (lo3++(la.drop ia3).take k) by rw[aW,aX,cb]];generalize lo3++(la.drop ia3).take k=lo at m4 ⊢;generalize ia3+k=ia at m4 hl c1 c2 ⊢;exact key lo ia ⟨m4,c1,c2,hl⟩
      ·refine fN kz ?_;have hl:=k3 0 ⋯ ⋯;rw[VZ] at hl;exact key lo3 ia3 ⟨m3,b1,bj _,hl⟩
     case ky2=>
      rintro lo ia ⟨m4,c1,c2,hl⟩;refine aw (dF (bZ b2) ?_);have m5:=m4.stepB T.trn W ⋯ b2 hl;by_cases z1:ib3+1=lb.length
      ·refine fM (beq_iff_eq.mpr z1) ?_;exact bb ⟨⟨e3.k,e3.a,e3.p,e3.f⟩,.inl ⟨_,_,_,rfl,by first | rfl | ((try simp only[c6]);simp only[aU,aX,aW,cb]),m5.doneA W (.inr z1)⟩⟩
      refine fN (λh=>z1 (beq_iff_eq.mp h)) ?_;refine aw (dF (bZ ⋯) ?_);refine aw (GD (left:=aj) (ia:=ib3+1) (ib:=ia) T W.symm (e3.k.trans hk) ⋯ ⋯ λj j1 j2 j3=>?_);dsimp only;rw[aU];generalize lo++[lb.getD ib3 0]=lo' at m5 ⊢;refine' CY (F:=λlo ib=>Mg lt la lb lo ia ib/\ib<lb.length/\ib3+1<=ib/\lt (la.getD ia 0) (lb.getD ib 0)=aj) (λkey=>?mn3) ?ky3
      case mn3=>
       by_cases jz:j > 0
       ·refine fM jz ?_;have m6:=m5.galB T.trn W ⋯ j1 j2;by_cases z4:ib3+1+j=lb.length
        ·refine fM (beq_iff_eq.mpr z4) ?_;exact bb ⟨⟨e3.k,e3.a,e3.p,e3.f⟩,.inl ⟨_,_,_,rfl,by first | rfl | ((try simp only[c6]);simp only[aU,aX,aW,cb]),m6.doneA W (.inr z4)⟩⟩
        refine fN (λh=>z4 (beq_iff_eq.mp h)) ?_;have hl2:=j3 j (bj _) ⋯;have d1:ib3+1+j<lb.length:=⋯;have d2:ib3+1<=ib3+1+j:=⋯;rw[show dJ it lo'++(dJ it lb).extract (ib3+1) (ib3+1+j)=dJ it (lo'++(lb.drop (ib3+1)).take j) by rw[aW,aX,cb]];generalize lo'++(lb.drop (ib3+1)).take j=lo at m6 ⊢;generalize ib3+1+j=ib at m6 hl2 d1 d2 ⊢;exact key lo ib ⟨m6,d1,d2,hl2⟩
       ·refine fN jz ?_;have hl2:=j3 0 ⋯ ⋯;rw[VZ] at hl2;exact key lo' (ib3+1) ⟨m5,⋯,bj _,hl2⟩
      case ky3=>
       rintro lo ib ⟨m6,d1,d2,hl2⟩;have m7:=m6.stepA T.trn W ⋯ d1 hl2;refine aw (dF (bZ ⋯) ?_);by_cases z3:ia+1+1=la.length
       ·refine fM (beq_iff_eq.mpr z3) ?_;exact bb ⟨⟨e3.k,e3.a,e3.p,e3.f⟩,.inl ⟨_,_,_,rfl,by first | rfl | ((try simp only[c6]);simp only[aU,aX,aW,cb]),m7.lastA W hz z3⟩⟩
       refine fN (λh=>z3 (beq_iff_eq.mp h)) ?_;by_cases z5:(decide (k<7)&&decide (j<7))=aj
       ·refine fM z5 ?_;exact bb ⟨⟨e3.k,e3.a,e3.p,e3.f⟩,.inr ⟨_,_,_,_,_,_,_,rfl,by first | rfl | ((try simp only[c6]);simp only[aU,aX,aW,cb]),m7,⋯,d1,⋯⟩⟩
       ·refine fN z5 ?_;exact bb ⟨⟨e3.k,e3.a,e3.p,e3.f⟩,_,_,_,_,_,_,_,rfl,by first | rfl | ((try simp only[c6]);simp only[aU,aX,aW,cb]),m7,⋯,d1,⋯⟩
end
noncomputable abbrev fl(lt:Nat->Nat->Bool):Nat->Nat->Bool:=λx y=>lt y x
variable {na:Nat}
section
variable {lt:Nat->Nat->Bool}{lo:List Nat}{nb:Nat}
theorem Trn.fl(T:Trn N lt):Trn N (fl lt):=⟨λi j k a b c h1 h2=>T.tr k j i c b a h2 h1⟩
theorem Two.fl(W:Two N lt la lb):Two N (fl lt) la.reverse lb.reverse where
 ua:=tw.mpr W.ua
 ub:=tw.mpr W.ub
 nd:=by
  have:=W.nd;refine(List.Perm.nodup_iff ?_).mp this;exact(mh la).symm.append (mh lb).symm
 bd:=λx hx=>W.bd x (by simpa using hx)
structure Hg(lt:Nat->Nat->Bool)(la lb lo:List Nat)(na nb:Nat):Prop where
 m:Mg (fl lt) la.reverse lb.reverse lo (la.length-na) (lb.length-nb)
 a:na<=la.length
 b:nb<=lb.length
theorem pN(h0:0<n)(h:n<=l.length):l.reverse.getD (l.length-n) 0=l.getD (n-1) 0:=by
 simp only[ef];rw[List.getElem?_reverse ⋯];congr 2;right
theorem lX(h:n<=l.length):l.reverse.drop (l.length-n)=(l.take n).reverse:=by
 rw[List.drop_reverse];congr 2;right
theorem HD{t:Nat}(h1:t<=n)(h:n<=l.length):(l.reverse.drop (l.length-n)).take (n-t)=((l.drop t).take (n-t)).reverse:=by
 rw[lX h,List.take_reverse,fw,nj h];congr 1;rw[show n-(n-t)=t by right,List.drop_take]
theorem Hg.symm(h:Hg lt la lb lo na nb):Hg lt lb la lo nb na:=⟨h.m.symm,h.b,h.a⟩
theorem Hg.stepA(T:Trn N lt)(W:Two N lt la lb)(h:Hg lt la lb lo na nb)(h1:0<na)(h2:0<nb)(z:lt (lb.getD (nb-1) 0) (la.getD (na-1) 0)=aj):Hg lt la lb (lo++[la.getD (na-1) 0]) (na-1) nb:=by
 have a:=h.a;have b:=h.b;have:=h.m.stepA T.fl W.fl (by simp;right) (by simp;right) (by rw[pN h1 h.a,pN h2 h.b];exact z);rw[pN h1 h.a,show la.length-na+1=la.length-(na-1) by right] at this;exact⟨this,⋯,h.b⟩
theorem Hg.stepB(T:Trn N lt)(W:Two N lt la lb)(h:Hg lt la lb lo na nb)(h1:0<na)(h2:0<nb)(z:lt (la.getD (na-1) 0) (lb.getD (nb-1) 0)=aj):Hg lt la lb (lo++[lb.getD (nb-1) 0]) na (nb-1):=(h.symm.stepA T W.symm h2 h1 z).symm
theorem Hg.galA(T:Trn N lt)(W:Two N lt la lb)(h:Hg lt la lb lo na nb){t:Nat}(h2:0<nb)(ht:t<=na)(z:∀i,t<=i->i<na->lt (lb.getD (nb-1) 0) (la.getD i 0)=aj):Hg lt la lb (lo++((la.drop t).take (na-t)).reverse) t nb:=by
 have a:=h.a;have b:=h.b;have:=h.m.galA T.fl W.fl (k:=na-t) (by simp;right) (by simp;right) (λi hi=>by
  rw[pN h2 h.b,show la.length-na+i=la.length-(na-i) by right,pN ⋯ ⋯];exact z (na-i-1) ⋯ ⋯)
 rw[HD ht h.a,show la.length-na+(na-t)=la.length-t by right] at this;exact⟨this,⋯,h.b⟩
theorem Hg.galB(T:Trn N lt)(W:Two N lt la lb)(h:Hg lt la lb lo na nb){t:Nat}(h1:0<na)(ht:t<=nb)(z:∀i,t<=i->i<nb->lt (la.getD (na-1) 0) (lb.getD i 0)=aj):Hg lt la lb (lo++((lb.drop t).take (nb-t)).reverse) na t:=(h.symm.galA T W.symm h1 ht z).symm
theorem zI.rev(d:zI (fl lt) la.reverse lb.reverse l):zI lt la lb l.reverse:=
 ⟨(mh l).trans (d.1.trans ((mh la).append (mh lb))),tw.mpr d.2⟩
theorem Hg.first(W:Two N lt la lb)(h:Hg lt la lb lo na nb)(z:∀x∈la.take na,∀r∈lb.take nb,lt r x=aj):zI lt la lb (lb.take nb++la.take na++lo.reverse):=by
 have:=(h.m.endA W.fl (by rw[lX h.a,lX h.b];intro x hx r hr;exact z x (by simpa using hx) r (by simpa using hr))).rev;rw[lX h.a,lX h.b] at this;simpa using this
theorem Hg.done(W:Two N lt la lb)(h:Hg lt la lb lo na nb)(z:na=0 \/ nb=0):zI lt la lb (la.take na++lb.take nb++lo.reverse):=by
 have:=h.first W (λx hx r hr=>by rcases z with z | z<;>subst z<;>first | (simp at hx;done) | (simp at hr;done));rcases z with z | z
 ·subst z;simpa using this
 ·subst z;simpa using this
theorem cN:(dJ it l).reverse=dJ it l.reverse:=by simp[dJ]
theorem cD:(dJ it l).extract 0 n=dJ it (l.take n):=by rw[aW];simp
theorem GE(T:Tm M A E s N lt it κ)(W:Two N lt la lb)(hk:ke st=κ)(h1:0<na)(ha:na<=la.length)(h2:0<nb)(hb:nb<=lb.length)
  (q:∀t,t<=na->(∀i,i<t->lt (la.getD i 0) (lb.getD (nb-1) 0)=aj)->(∀i,t<=i->i<na->lt (lb.getD (nb-1) 0) (la.getD i 0)=aj)->Q (aa t) st):
  UE M A E s (gal left (it (lb.getD (nb-1) 0)) (dJ it la) 0 na (na-1)) Q st:=
 yJ T (f:=λi=>la.getD i 0) hk (W.symm.ltA ⋯) (λi h=>by rw[wr];exact bZ ⋯) (λi h=>⟨W.ltA ⋯,W.neAB ⋯ ⋯⟩) (λi j h h2=>W.upA h ⋯) ⋯ q
theorem Hy(T:Tm M A E s N lt it κ)(W:Two N lt la lb){Q:Array ng->gq->Prop}(hk:ke st=κ)(ha:0<la.length)(hb:0<lb.length)(h0:∀x∈la,lt (lb.getD 0 0) x=aj)(hz:lt (lb.getD (lb.length-1) 0) (la.getD (la.length-1) 0)=aj)
  (q:∀l st',zI lt la lb l->SEq st st'->Q (dJ it l) st'):UE M A E s (ND (dJ it la) (dJ it lb)) Q st:=by
 have m0:Hg lt la lb [] la.length lb.length:=⟨⟨by simpa using(mh la).append (mh lb) |>.trans (List.Perm.refl _) |>.symm.symm.trans ((mh la).append (mh lb)).symm,.nil,λo ho=>by cases ho⟩,bj _,bj _⟩;have m1:=m0.stepA T.trn W ha hb hz;have fst:∀{lo na nb},Hg lt la lb lo na nb->nb=1->zI lt la lb (lb.take nb++la.take na++lo.reverse):=λ{lo na nb} m e=>m.first W λx hx r hr=>by
  subst e;have er:r=lb.getD 0 0:=by
   cases lb with
   |nil=>simp at hb
   |cons b l=>simpa using hr
  rw[er];exact h0 x (uz hx)
 have sa:(dJ it la).size=la.length:=mR;have sb:(dJ it lb).size=lb.length:=mR;unfold ND;refine aw (ya (kr ⟨rfl,?_⟩));refine aw (dF (x:=it (la.getD (la.length-1) 0)) (by rw[sa];exact bZ ⋯) ?_);refine ET (λc1=>?_) (λc1 c2=>?_) λc1 c2=>?_
 ·simp only[sa,sb,cD,beq_iff_eq] at c1 ⊢;rw[show #[it (la.getD (la.length-1) 0)]=dJ it ([]++[la.getD (la.length-1) 0]) from rfl];simp only[cN,aX];exact q _ _ (m1.done W (.inl c1)) (.refl st)
 ·simp only[sa,sb,cD,beq_iff_eq] at c2 ⊢;rw[show #[it (la.getD (la.length-1) 0)]=dJ it ([]++[la.getD (la.length-1) 0]) from rfl];simp only[cN,aX];exact q _ _ (fst m1 c2) (.refl st)
 simp only[sa,sb,beq_iff_eq] at c1 c2;refine aw (jm (fk
  (I:=λx c st'=>SEq st st' /\ ∃X lo na nb g,c=(aq,na,nb,X,g)/\X=dJ it lo/\Hg lt la lb lo na nb/\0<na/\1<nb/\na+nb+x+1<=la.length+lb.length)
  (Q:=λc st'=>SEq st st' /\ ∃X l c',c=(aa X,c')/\X=dJ it l/\zI lt la lb l) ?step ?fin ?init) ?post)
 case fin=>
  rintro c st' ⟨_,_,lo,na,nb,g,rfl,rfl,m,h1,h2,h3⟩;right
 case init=>exact⟨.refl st,_,[]++[la.getD (la.length-1) 0],_,_,_,rfl,rfl,by rw[sa,sb];exact m1,⋯,⋯,⋯⟩
 case post=>
  rintro c st' ⟨e,_,l,c',rfl,rfl,d⟩;exact bb (q l st' d e)
 case step=>
  rintro x c st' _ hx ⟨e,_,lo,na,nb,g,rfl,rfl,m,h1,h2,h3⟩;dsimp only;generalize (dJ it la).size=sza at sa hx ⊢;generalize (dJ it lb).size=szb at sb hx ⊢;subst sa sb;refine aw (jm (fk
   (I:=λy c st'=>SEq st st' /\ ∃X lo na' nb' ac bc,c=(aq,na',nb',X,ac,bc)/\X=dJ it lo/\Hg lt la lb lo na' nb'/\0<na'/\1<nb'/\na'+nb'+y<=na+nb)
   (Q:=λc st'=>SEq st st'/\((∃X l c',c=(aa X,c')/\X=dJ it l/\zI lt la lb l) \/ ∃X lo na' nb' ac bc,c=(aq,na',nb',X,ac,bc)/\X=dJ it lo/\Hg lt la lb lo na' nb'/\0<na'/\1<nb'/\na'+nb'+1<=na+nb)) ?s1 ?f1 ?i1) ?p1)
  case i1=>exact⟨e,_,_,_,_,_,_,rfl,by first | rfl | ((try simp only[cD]);simp only[aU,aX,aW,cN]),m,h1,h2,bj _⟩
  case f1=>
   rintro c st2 ⟨e2,_,lo2,na2,nb2,ac,bc,rfl,rfl,m2,a1,a2,a3⟩;exact⟨e2,.inr ⟨_,_,_,_,_,_,rfl,by first | rfl | ((try simp only[cD]);simp only[aU,aX,aW,cN]),m2,a1,a2,⋯⟩⟩
  case s1=>
   rintro y c st2 _ hy ⟨e2,_,lo2,na2,nb2,ac,bc,rfl,rfl,m2,a1,a2,a3⟩;have pa:=m2.a;have pb:=m2.b;dsimp only;refine aw (dF (bZ ⋯) (aw (dF (bZ ⋯) (aw (T.cmp _ _ (W.symm.ltA ⋯) (W.ltA ⋯) (Ne.symm (W.neAB ⋯ ⋯)) _ _ (e2.k.trans hk) ?_)))));cases y0:lt (lb.getD (nb2-1) 0) (la.getD (na2-1) 0) with
   |true=>
    dsimp only;rw[Wj rfl];refine aw (dF (bZ ⋯) ?_);have m3:=m2.stepA T.trn W a1 ⋯ y0;by_cases z:na2-1=0
    ·rw[Wj (beq_iff_eq.mpr z)];exact bb ⟨e2,.inl ⟨_,_,_,rfl,by first | rfl | ((try simp only[cD]);simp only[aU,aX,aW,cN]),m3.done W (.inl z)⟩⟩
    ·rw[VT (λh=>z (beq_iff_eq.mp h))];split
     ·exact bb ⟨e2,.inr ⟨_,_,_,_,_,_,rfl,by first | rfl | ((try simp only[cD]);simp only[aU,aX,aW,cN]),m3,⋯,a2,⋯⟩⟩
     ·exact bb ⟨e2,_,_,_,_,_,_,rfl,by first | rfl | ((try simp only[cD]);simp only[aU,aX,aW,cN]),m3,⋯,a2,⋯⟩
   |false=>
    dsimp only;rw[VT ∅];refine aw (dF (bZ ⋯) ?_);have y1:lt (la.getD (na2-1) 0) (lb.getD (nb2-1) 0)=aj:=by rw[T.tot _ _ (W.ltA ⋯) (W.symm.ltA ⋯) (W.neAB ⋯ ⋯),y0];rfl
    have m3:=m2.stepB T.trn W a1 ⋯ y1;by_cases z:nb2-1=1
    ·rw[Wj (beq_iff_eq.mpr z)];exact bb ⟨e2,.inl ⟨_,_,_,rfl,by first | rfl | ((try simp only[cD]);simp only[aU,aX,aW,cN]),fst m3 z⟩⟩
    ·rw[VT (λh=>z (beq_iff_eq.mp h))];split
     ·exact bb ⟨e2,.inr ⟨_,_,_,_,_,_,rfl,by first | rfl | ((try simp only[cD]);simp only[aU,aX,aW,cN]),m3,a1,⋯,⋯⟩⟩
     ·exact bb ⟨e2,_,_,_,_,_,_,rfl,by first | rfl | ((try simp only[cD]);simp only[aU,aX,aW,cN]),m3,a1,⋯,⋯⟩
  case p1=>
   rintro c st2 ⟨e2,⟨_,l,c',rfl,rfl,d⟩ | ⟨_,lo2,na2,nb2,ac,bc,rfl,rfl,m2,a1,a2,a3⟩⟩
   ·exact bb ⟨e2,_,l,_,rfl,rfl,d⟩
   dsimp only;refine aw (ya (kr ⟨rfl,?_⟩));refine aw (jm (fk
    (I:=λy c st'=>SEq st st' /\ ∃X lo na' nb' g' ac bc,c=(aq,na',nb',X,g',ac,bc)/\X=dJ it lo/\Hg lt la lb lo na' nb'/\0<na'/\1<nb'/\na'+nb'+y<=na2+nb2)
    (Q:=λc st'=>SEq st st'/\((∃X l c',c=(aa X,c')/\X=dJ it l/\zI lt la lb l) \/ ∃X lo na' nb' g' ac bc,c=(aq,na',nb',X,g',ac,bc)/\X=dJ it lo/\Hg lt la lb lo na' nb'/\0<na'/\1<nb'/\na'+nb'<=na2+nb2)) ?s2 ?f2 ?i2) ?p2)
   case i2=>exact⟨e2,_,_,_,_,_,_,_,rfl,by first | rfl | ((try simp only[cD]);simp only[aU,aX,aW,cN]),m2,a1,a2,bj _⟩
   case f2=>
    rintro c st3 ⟨e3,_,lo3,na3,nb3,g3,ac3,bc3,rfl,rfl,m3,b1,b2,b3⟩;exact⟨e3,.inr ⟨_,_,_,_,_,_,_,rfl,by first | rfl | ((try simp only[cD]);simp only[aU,aX,aW,cN]),m3,b1,b2,⋯⟩⟩
   case p2=>
    rintro c st3 ⟨e3,⟨_,l,c',rfl,rfl,d⟩ | ⟨_,lo3,na3,nb3,g3,ac3,bc3,rfl,rfl,m3,b1,b2,b3⟩⟩
    ·exact bb ⟨e3,_,l,_,rfl,rfl,d⟩
    dsimp only;refine aw (jo ?_);exact bb ⟨⟨e3.k,e3.a,e3.p,e3.f⟩,_,_,_,_,_,rfl,by first | rfl | ((try simp only[cD]);simp only[aU,aX,aW,cN]),m3,b1,b2,⋯⟩
   case s2=>
    rintro y c st3 _ hy ⟨e3,_,lo3,na3,nb3,g3,ac3,bc3,rfl,rfl,m3,b1,b2,b3⟩;have pa:=m3.a;have pb:=m3.b;dsimp only;refine' JA (λkey=>?mn1) ?ky1
    case mn1=>
     by_cases hg:g3 > 1
     ·rw[Wj hg];generalize g3-1=g;exact key g
     ·rw[VT hg];exact key g3
    case ky1=>
     intro g;refine aw (jo ?_);refine aw (dF (bZ ⋯) ?_);refine aw (GE (left:=ap) (na:=na3) (nb:=nb3) T W (e3.k.trans hk) b1 pa ⋯ pb λt k1 k2 k3=>?_);dsimp only;refine' CY (F:=λlo na=>Hg lt la lb lo na nb3/\0<na/\na<=na3/\lt (la.getD (na-1) 0) (lb.getD (nb3-1) 0)=aj) (λkey=>?mn2) ?ky2
     case mn2=>
      by_cases kz:na3-t > 0
      ·rw[Wj kz];have m4:=m3.galA T.trn W ⋯ k1 k3;by_cases z0:t=0
       ·rw[Wj (beq_iff_eq.mpr z0)];exact bb ⟨⟨e3.k,e3.a,e3.p,e3.f⟩,.inl ⟨_,_,_,rfl,by first | rfl | ((try simp only[cD]);simp only[aU,aX,aW,cN]),m4.done W (.inl z0)⟩⟩
       rw[VT (λh=>z0 (beq_iff_eq.mp h))];have hl:=k2 (t-1) ⋯;have c1:0<t:=⋯;have k1':=k1;obtain⟨t',ht'⟩:∃t',t'=t:=⟨t,rfl⟩;rw[<- ht'] at m4 hl c1 k1' ⊢;rw[show dJ it lo3++((dJ it la).extract t' na3).reverse=dJ it (lo3++((la.drop t').take (na3-t')).reverse) by rw[aW,cN,aX]];generalize lo3++((la.drop t').take (na3-t')).reverse=lo at m4 ⊢;exact key lo t' ⟨m4,c1,k1',hl⟩
      ·rw[VT kz];have et:t=na3:=⋯;have hl:=k2 (na3-1) ⋯;subst et;exact key lo3 _ ⟨m3,b1,bj _,hl⟩
     case ky2=>
      rintro lo na ⟨m4,c1,c2,hl⟩;refine aw (dF (bZ ⋯) ?_);have m5:=m4.stepB T.trn W c1 ⋯ hl;by_cases z1:nb3-1=1
      ·rw[Wj (beq_iff_eq.mpr z1)];exact bb ⟨⟨e3.k,e3.a,e3.p,e3.f⟩,.inl ⟨_,_,_,rfl,by first | rfl | ((try simp only[cD]);simp only[aU,aX,aW,cN]),fst m5 z1⟩⟩
      rw[VT (λh=>z1 (beq_iff_eq.mp h))];refine aw (dF (bZ ⋯) ?_);refine aw (GE (left:=aj) (na:=nb3-1) (nb:=na) T W.symm (e3.k.trans hk) ⋯ ⋯ ⋯ ⋯ λu j1 j2 j3=>?_);dsimp only;rw[aU];generalize lo++[lb.getD (nb3-1) 0]=lo' at m5 ⊢;refine' CY (F:=λlo nb=>Hg lt la lb lo na nb/\1<nb/\nb<=nb3-1/\lt (lb.getD (nb-1) 0) (la.getD (na-1) 0)=aj) (λkey=>?mn3) ?ky3
      case mn3=>
       by_cases jz:nb3-1-u > 0
       ·rw[Wj jz];have m6:=m5.galB T.trn W c1 j1 j3;by_cases z4:u=1
        ·rw[Wj (beq_iff_eq.mpr z4)];exact bb ⟨⟨e3.k,e3.a,e3.p,e3.f⟩,.inl ⟨_,_,_,rfl,by first | rfl | ((try simp only[cD]);simp only[aU,aX,aW,cN]),fst m6 z4⟩⟩
        rw[VT (λh=>z4 (beq_iff_eq.mp h))];by_cases z6:u=0
        ·rw[Wj (beq_iff_eq.mpr z6)];exact bb ⟨⟨e3.k,e3.a,e3.p,e3.f⟩,.inl ⟨_,_,_,rfl,by first | rfl | ((try simp only[cD]);simp only[aU,aX,aW,cN]),m6.done W (.inr z6)⟩⟩
        rw[VT (λh=>z6 (beq_iff_eq.mp h))];have hl2:=j2 (u-1) ⋯;have d1:1<u:=⋯;have j1':=j1;obtain⟨u',hu'⟩:∃u',u'=u:=⟨u,rfl⟩;rw[<- hu'] at m6 hl2 d1 j1' ⊢;rw[show dJ it lo'++((dJ it lb).extract u' (nb3-1)).reverse=dJ it (lo'++((lb.drop u').take (nb3-1-u')).reverse) by rw[aW,cN,aX]];generalize lo'++((lb.drop u').take (nb3-1-u')).reverse=lo2 at m6 ⊢;exact key lo2 u' ⟨m6,d1,j1',hl2⟩
       ·rw[VT jz];have eu:u=nb3-1:=⋯;have hl2:=j2 (nb3-1-1) ⋯;subst eu;exact key lo' _ ⟨m5,⋯,bj _,hl2⟩
      case ky3=>
       rintro lo nb ⟨m6,d1,d2,hl2⟩;have m7:=m6.stepA T.trn W c1 ⋯ hl2;refine aw (dF (bZ ⋯) ?_);by_cases z3:na-1=0
       ·rw[Wj (beq_iff_eq.mpr z3)];exact bb ⟨⟨e3.k,e3.a,e3.p,e3.f⟩,.inl ⟨_,_,_,rfl,by first | rfl | ((try simp only[cD]);simp only[aU,aX,aW,cN]),m7.done W (.inl z3)⟩⟩
       rw[VT (λh=>z3 (beq_iff_eq.mp h))];by_cases z5:(decide (na3-na<7)&&decide (nb3-1-nb<7))=aj
       ·rw[Wj z5];exact bb ⟨⟨e3.k,e3.a,e3.p,e3.f⟩,.inr ⟨_,_,_,_,_,_,_,rfl,by first | rfl | ((try simp only[cD]);simp only[aU,aX,aW,cN]),m7,⋯,d1,⋯⟩⟩
       ·rw[VT z5];exact bb ⟨⟨e3.k,e3.a,e3.p,e3.f⟩,_,_,_,_,_,_,_,rfl,by first | rfl | ((try simp only[cD]);simp only[aU,aX,aW,cN]),m7,⋯,d1,⋯⟩
end
variable {u v lo:Nat}{p p':List Nat}
section
variable {lt:Nat->Nat->Bool}
noncomputable abbrev g(p:List Nat)(u:Nat):Nat:=p.getD u 0
structure Sp1(it:Nat->ng)(κ:lc)(st:gq)(p:List Nat):Prop where
 k:ke st=κ
 a:sh st=dJ it p
 f:sx st=aq
noncomputable abbrev sA(N:Nat)(p:List Nat):Prop:=p.Perm (gc N)
theorem mB(h:sA N p):p.length=N:=by rw[h.length_eq,xi]
theorem cW(h:sA N p)(hu:u<N):g p u<N:=by
 have hl:=mB h;have e:g p u=p[u]'⋯:=by simp[g,dq,show u<p.length by right]
 rw[e];exact Sh.mp (h.mem_iff.mp (dm _))
theorem u9(h:sA N p)(hu:u<N)(hv:v<N)(n:u≠v):g p u≠g p v:=by
 have hl:=mB h;have nd:p.Nodup:=h.nodup_iff.mpr Uq;have e1:g p u=p[u]'⋯:=by simp[g,dq,show u<p.length by right]
 have e2:g p v=p[v]'⋯:=by simp[g,dq,show v<p.length by right]
 rw[e1,e2];rcases sw n with z | z
 ·exact cq.mp nd u v ⋯ ⋯ z
 ·exact Ne.symm (cq.mp nd v u ⋯ ⋯ z)
noncomputable def Sg(lt:Nat->Nat->Bool)(p:List Nat)(lo hi:Nat):Prop:=∀u v,lo<=u->u<v->v<hi->lt (g p u) (g p v)=aj
noncomputable def Ou(p p':List Nat)(lo hi:Nat):Prop:=∀u,(u<lo \/ hi<=u)->g p' u=g p u
theorem qT(T:Tm M A E s N lt it κ){Q:Option Bool->gq->Prop}(S:Sp1 it κ st p)(P:sA N p)(hi:i<N)(hj:j<N)(hn:i≠j)(q:Q (aa (lt (g p i) (g p j))) st):UE M A E s (ltAt' i j) Q st:=by
 have hl:=mB P;unfold ltAt';refine aw (tf ?_);refine aw (dF (x:=it (g p i)) (by rw[show (sortPriv% PySem.Builtin.SortState.a) st=dJ it p from S.a];exact bZ ⋯) (aw (dF (x:=it (g p j)) (by rw[show (sortPriv% PySem.Builtin.SortState.a) st=dJ it p from S.a];exact bZ ⋯) ?_)));exact T.cmp _ _ (cW P hi) (cW P hj) (u9 P hi hj hn) st Q S.k q
theorem mG{q:Array Nat}(h:q[u]?=p[v]?):g q.toList u=g p v:=by
 unfold g;rw[ef,ef,ii,h]
theorem HE(hj:j<=p.length):∃p',V5 (dJ it p) i j ((j-i) / 2)=dJ it p'/\p'.Perm p /\ ∀u,g p' u=if i<=u/\u<j then g p (i+j-1-u) else g p u:=by
 refine⟨(V5 p.toArray i j ((j-i) / 2)).toList,?_,?_,λu=>?_⟩
 ·apply rj;intro u;rw[qk (by simpa using hj)];simp only[dJ,tz,cn,ii];rw[qk (by simpa using hj)];split<;>simp
 ·have:=mirror_perm p.toArray i j ((j-i) / 2);simpa using this.toList
 ·have e:=qk (xs:=p.toArray) (i:=i) (j:=j) (by simpa using hj) u;split
  ·rename_i h;rw[Wj h] at e;exact mG (by rw[e];simp)
  ·rename_i h;rw[VT h] at e;exact mG (by rw[e];simp)
theorem Ih{src d:Nat}(hs:src<p.length)(hd:d<=src):∃p',U6 (dJ it p) src d=dJ it p'/\p'.Perm p /\ ∀u,g p' u=if u=src-d then g p src else if src-d<u/\u<=src then g p (u-1) else g p u:=by
 refine⟨(U6 p.toArray src d).toList,?_,?_,λu=>?_⟩
 ·apply rj;intro u;rw[vd (by simpa using hs) d hd];simp only[dJ,tz,cn,ii];rw[vd (by simpa using hs) d hd]
  repeat' split
  all_goals simp
 ·have:=bubble_perm p.toArray src d;simpa using this.toList
 ·have e:=vd (xs:=p.toArray) (src:=src) (by simpa using hs) d hd u;by_cases h1:u=src-d
  ·rw[Wj h1] at e ⊢;exact mG (by rw[e];simp)
  ·rw[VT h1] at e ⊢;by_cases h2:src-d<u/\u<=src
   ·rw[Wj h2] at e ⊢;exact mG (by rw[e];simp)
   ·rw[VT h2] at e ⊢;exact mG (by rw[e];simp)
theorem GX(T:Tm M A E s N lt it κ)(S:Sp1 it κ st p)(P:sA N p)(h1:0<n)(hn:lo+n<=N)
  (q:∀m st' p',1<=m->m<=n->Sp1 it κ st' p'->bz st'=bz st->sA N p'->Sg lt p' lo (lo+m)->Ou p p' lo (lo+m)->Q (aa m) st'):UE M A E s (countRun' lo n) Q st:=by
 have grow:∀{p:List Nat} {m:Nat},sA N p->1<=m->lo+m<N->Sg lt p lo (lo+m)->lt (g p (lo+m)) (g p (lo+m-1))=ap->Sg lt p lo (lo+(m+1)):=λ{p m} P hm hN sg z u v hu huv hv=>by
  have last:lt (g p (lo+m-1)) (g p (lo+m))=aj:=by rw[T.tot _ _ (cW P ⋯) (cW P ⋯) (u9 P ⋯ ⋯ ⋯),z];rfl
  by_cases e:v=lo+m
  ·subst e;by_cases e2:u=lo+m-1
   ·rw[e2];exact last
   ·exact T.tr _ _ _ (cW P ⋯) (cW P ⋯) (cW P ⋯) (sg u (lo+m-1) hu ⋯ ⋯) last
  ·exact sg u v hu huv ⋯
 unfold countRun';refine aw (jm (fk
  (I:=λx c st'=>st=st'/\c=(aq,x)/\Sg lt p lo (lo+x))
  (Q:=λc st'=>st=st' /\ ∃m,c=(aq,m)/\1<=m/\m<=n/\Sg lt p lo (lo+m)/\(m<n->lt (g p (lo+m)) (g p (lo+m-1))=aj)) ?s1 ?f1 ?i1) ?p1)
 case i1=>exact⟨rfl,rfl,λu v a b c=>by right⟩
 case f1=>
  rintro c st' ⟨rfl,rfl,sg⟩;exact⟨rfl,_,rfl,⋯,⋯,by rw[show max 1 n=n by right] at sg ⊢;exact sg,λh=>by right⟩
 case s1=>
  rintro x c st' hx1 hx ⟨rfl,rfl,sg⟩;dsimp only;refine aw (qT T S P ⋯ ⋯ ⋯ ?_);cases y:lt (g p (lo+x)) (g p (lo+x-1)) with
  |true=>
   dsimp only;rw[Wj rfl];exact bb ⟨rfl,x,rfl,hx1,⋯,sg,λ_=>y⟩
  |false=>
   dsimp only;rw[VT ∅];exact bb ⟨rfl,rfl,grow P hx1 ⋯ sg y⟩
 case p1=>
  rintro c st' ⟨rfl,m,rfl,m1,m2,sg,fall⟩;dsimp only;by_cases z:m=n
  ·rw[Wj (by simpa using z)];exact bb (q m st p m1 m2 S rfl P sg λu h=>rfl)
  rw[VT (by simpa using z)];have fa:=fall ⋯;by_cases z2:m > 1
  ·rw[Wj z2];refine aw (qT T S P ⋯ ⋯ ⋯ ?_);rw[sg lo (lo+m-1) (bj _) ⋯ ⋯];dsimp only;rw[Wj rfl];exact bb (q m st p m1 m2 S rfl P sg λu h=>rfl)
  rw[VT z2];obtain rfl:m=1:=⋯;refine aw (ya (kr ⟨rfl,?_⟩));refine aw (jm (fk
   (I:=λx c st'=>st=st'/\c=(aq,x,0) /\ ∀u v,lo<=u->u<v->v<lo+x->lt (g p v) (g p u)=aj)
   (Q:=λc st'=>st=st' /\ ∃k,c=(aq,k,0)/\2<=k/\k<=n /\ ∀u v,lo<=u->u<v->v<lo+k->lt (g p v) (g p u)=aj) ?s2 ?f2 ?i2) ?p2)
  case i2=>
   refine⟨rfl,rfl,λu v a b c=>?_⟩;rw[show u=lo by right,show v=lo+1 by right];exact fa
  case f2=>
   rintro c st' ⟨rfl,rfl,d⟩;exact⟨rfl,_,rfl,⋯,⋯,d⟩
  case s2=>
   rintro x c st' hx1 hx ⟨rfl,rfl,d⟩;dsimp only;refine aw (qT T S P ⋯ ⋯ ⋯ ?_);cases y:lt (g p (lo+x)) (g p (lo+x-1)) with
   |true=>
    dsimp only;rw[Wj rfl,VT ∅];refine bb ⟨rfl,rfl,λu v hu huv hv=>?_⟩;by_cases e:v=lo+x
    ·subst e;by_cases e2:u=lo+x-1
     ·rw[e2];exact y
     ·exact T.tr _ _ _ (cW P ⋯) (cW P ⋯) (cW P ⋯) y (d u (lo+x-1) hu ⋯ ⋯)
    ·exact d u v hu huv ⋯
   |false=>
    dsimp only;rw[VT ∅];refine aw (qT T S P ⋯ ⋯ ⋯ ?_);rw[show lt (g p (lo+x-1)) (g p (lo+x))=aj by rw[T.tot _ _ (cW P ⋯) (cW P ⋯) (u9 P ⋯ ⋯ ⋯),y];rfl];dsimp only;rw[Wj rfl];exact bb ⟨rfl,x,rfl,hx1,⋯,d⟩
  case p2=>
   rintro c st' ⟨rfl,k,rfl,k1,k2,d⟩;dsimp only;rw[VT ∅];have hl:=mB P;obtain⟨p2,e2,pp2,gp2⟩:=HE (it:=it) (p:=p) (i:=lo) (j:=lo+k) ⋯;have S2:Sp1 it κ (Wd st (V5 (sh st) lo (lo+k) ((lo+k-lo) / 2))) p2:=⟨S.k,by show V5 (sh st) lo (lo+k) ((lo+k-lo) / 2)=_;rw[S.a];exact e2,S.f⟩;have P2:sA N p2:=pp2.trans P;have sg2:Sg lt p2 lo (lo+k):=λu v hu huv hv=>by
    rw[gp2 u,gp2 v,Wj ⋯,Wj ⋯];exact d _ _ ⋯ ⋯ ⋯
   refine aw (jo ?_);show UE M A E s _ Q (Wd st (V5 (sh st) lo (lo+k) ((lo+k-lo) / 2)));generalize hst:Wd st (V5 (sh st) lo (lo+k) ((lo+k-lo) / 2))=st2 at S2 ⊢;have pe:bz st2=bz st:=by rw[<- hst]
   refine aw (jm (fk
    (I:=λx c st'=>st2=st'/\c=(aq,x)/\Sg lt p2 lo (lo+x))
    (Q:=λc st'=>st2=st' /\ ∃m,c=(aq,m)/\k<=m/\m<=n/\Sg lt p2 lo (lo+m)) ?s3 ?f3 ?i3) ?p3)
   case i3=>exact⟨rfl,rfl,sg2⟩
   case f3=>
    rintro c st' ⟨rfl,rfl,sg3⟩;exact⟨rfl,_,rfl,⋯,⋯,sg3⟩
   case s3=>
    rintro x c st' hx1 hx ⟨rfl,rfl,sg3⟩;dsimp only;refine aw (qT T S2 P2 ⋯ ⋯ ⋯ ?_);cases y:lt (g p2 (lo+x)) (g p2 (lo+x-1)) with
    |true=>
     dsimp only;rw[Wj rfl];exact bb ⟨rfl,x,rfl,hx1,⋯,sg3⟩
    |false=>
     dsimp only;rw[VT ∅];exact bb ⟨rfl,rfl,grow P2 ⋯ ⋯ sg3 y⟩
   case p3=>
    rintro c st' ⟨rfl,m,rfl,m1,m2,sg3⟩;exact bb (q m st2 p2 ⋯ m2 S2 pe P2 sg3 λu h=>by rw[gp2 u,VT ⋯])
theorem LN(T:Tm M A E s N lt it κ){ok:Nat}{Q:Bool->gq->Prop}(S:Sp1 it κ st p)(P:sA N p)(h1:1<=ok)(ho:ok<=n)(hn:lo+n<=N)(sg:Sg lt p lo (lo+ok))
  (q:∀st' p',Sp1 it κ st' p'->bz st'=bz st->sA N p'->Sg lt p' lo (lo+n)->Ou p p' lo (lo+n)->Q aj st'):UE M A E s (binarySort' lo n ok) Q st:=by
 unfold binarySort';refine aw (jm (fk
  (I:=λk c st'=>c=(aq,()) /\ ∃p',Sp1 it κ st' p'/\bz st'=bz st/\sA N p'/\Sg lt p' lo (lo+k)/\Ou p p' lo (lo+n))
  (Q:=λc st'=>c=(aq,()) /\ ∃p',Sp1 it κ st' p'/\bz st'=bz st/\sA N p'/\Sg lt p' lo (lo+n)/\Ou p p' lo (lo+n)) ?s1 ?f1 ?i1) ?p1)
 case i1=>exact⟨rfl,p,S,rfl,P,by rw[show max ok 1=ok by right];exact sg,λu h=>rfl⟩
 case f1=>
  rintro c st' ⟨rfl,p',S',e,P',sg',o⟩;exact⟨rfl,p',S',e,P',by rw[show max (max ok 1) n=n by right] at sg';exact sg',o⟩
 case p1=>
  rintro c st' ⟨rfl,p',S',e,P',sg',o⟩;exact bb (q st' p' S' e P' sg' o)
 case s1=>
  rintro k c st' hk1 hk ⟨rfl,p',S',e,P',sg',o⟩;dsimp only;refine aw (jm (fk
   (I:=λx c st2=>st'=st2 /\ ∃l r,c=(aq,l,r)/\l<=r/\r<=k/\r-l+x<=k/\(∀u,u<l->lt (g p' (lo+u)) (g p' (lo+k))=aj) /\ ∀u,r<=u->u<k->lt (g p' (lo+k)) (g p' (lo+u))=aj)
   (Q:=λc st2=>st'=st2 /\ ∃l,c=(aq,l,l)/\l<=k/\(∀u,u<l->lt (g p' (lo+u)) (g p' (lo+k))=aj) /\ ∀u,l<=u->u<k->lt (g p' (lo+k)) (g p' (lo+u))=aj) ?s2 ?f2 ?i2) ?p2)
  case i2=>exact⟨rfl,0,k,rfl,⋯,⋯,⋯,λu h=>by right,λu h h2=>by right⟩
  case f2=>
   rintro c st2 ⟨rfl,l,r,rfl,l1,l2,l3,l4,l5⟩;obtain rfl:l=r:=⋯;exact⟨rfl,l,rfl,l2,l4,l5⟩
  case s2=>
   rintro x c st2 _ hx ⟨rfl,l,r,rfl,l1,l2,l3,l4,l5⟩;dsimp only;by_cases z:l >= r
   ·rw[Wj z];obtain rfl:l=r:=⋯;exact bb ⟨rfl,l,rfl,l2,l4,l5⟩
   rw[VT z];refine aw (qT T S' P' ⋯ ⋯ ⋯ ?_);cases y:lt (g p' (lo+k)) (g p' (lo+(l+r) / 2)) with
   |true=>
    dsimp only;rw[Wj rfl];refine bb ⟨rfl,_,_,rfl,⋯,⋯,⋯,l4,λu hu hk2=>?_⟩;by_cases e2:u=(l+r) / 2
    ·rw[e2];exact y
    ·exact T.tr _ _ _ (cW P' ⋯) (cW P' ⋯) (cW P' ⋯) y (sg' _ _ ⋯ ⋯ ⋯)
   |false=>
    dsimp only;rw[VT ∅];have y1:lt (g p' (lo+(l+r) / 2)) (g p' (lo+k))=aj:=by rw[T.tot _ _ (cW P' ⋯) (cW P' ⋯) (u9 P' ⋯ ⋯ ⋯),y];rfl
    refine bb ⟨rfl,_,_,rfl,⋯,⋯,⋯,λu hu=>?_,l5⟩;by_cases e2:u=(l+r) / 2
    ·rw[e2];exact y1
    ·exact T.tr _ _ _ (cW P' ⋯) (cW P' ⋯) (cW P' ⋯) (sg' _ _ ⋯ ⋯ ⋯) y1
  case p2=>
   rintro c st2 ⟨rfl,l,rfl,l2,l4,l5⟩;dsimp only;have hl:=mB P';obtain⟨p2,e2,pp2,gp2⟩:=Ih (it:=it) (p:=p') (src:=lo+k) (d:=lo+k-(lo+l)) ⋯ ⋯;have S2:Sp1 it κ (Wd st' (U6 (sh st') (lo+k) (lo+k-(lo+l)))) p2:=⟨S'.k,by show U6 (sh st') (lo+k) (lo+k-(lo+l))=_;rw[S'.a];exact e2,S'.f⟩;refine aw (jo ?_);refine bb ⟨rfl,p2,S2,e,pp2.trans P',λu v hu huv hv=>?_,λu h=>?_⟩
   ·rw[gp2 u,gp2 v];by_cases c1:u=lo+k-(lo+k-(lo+l))
    ·rw[Wj c1,VT ⋯,Wj ⋯];have:=l5 (v-1-lo) ⋯ ⋯;rw[show lo+(v-1-lo)=v-1 by right] at this;exact this
    ·rw[VT c1];by_cases c2:v=lo+k-(lo+k-(lo+l))
     ·rw[Wj c2,VT ⋯];have:=l4 (u-lo) ⋯;rw[show lo+(u-lo)=u by right] at this;exact this
     ·rw[VT c2];split
      ·split
       ·exact sg' _ _ ⋯ ⋯ ⋯
       ·right
      ·split
       ·exact sg' _ _ ⋯ ⋯ ⋯
       ·exact sg' _ _ ⋯ ⋯ ⋯
   ·rw[gp2 u,VT ⋯,VT ⋯];exact o u h
end
variable {b:Nat}
theorem GI:∀(l:List α) (j0:Nat) (xs:Array α),b+j0+l.length<=xs.size -> ∀u,((l.zipIdx j0).foldl (λa (q:α×Nat)=>a.setIfInBounds (b+q.2) q.1) xs)[u]?=if b+j0<=u/\u<b+j0+l.length then l[u-(b+j0)]? else xs[u]?:=by
 intro l;induction l with
 |nil=>
  intro j0 xs h u;rw[VT (by simp only[UU];right)];rfl
 |cons x l ih=>
  intro j0 xs h u;simp only[cj] at h ⊢;rw[Uf,T4,ih (j0+1) _ (by simp;right) u];by_cases c:u=b+j0
  ·subst c;rw[VT ⋯,Wj ⋯];simp[show b+j0<xs.size by right]
  ·by_cases c2:b+(j0+1)<=u/\u<b+(j0+1)+l.length
   ·rw[Wj c2,Wj ⋯,show u-(b+j0)=u-(b+(j0+1))+1 by right];rfl
   ·rw[VT c2,VT ⋯,tu ⋯]
section
variable {lt:Nat->Nat->Bool}
theorem HN(h:b+l.length<=p.length):((dJ it l).toList.zipIdx.foldl (λa (q:ng×Nat)=>a.setIfInBounds (b+q.2) q.1) (dJ it p))=dJ it (p.take b++l++p.drop (b+l.length)):=by
 apply rj;intro u;have:=GI (b:=b) (dJ it l).toList 0 (dJ it p) (by simpa [dJ] using h) u;rw[this];simp only[dJ,List.toList_toArray,bv,VZ,tz,cn];by_cases c:b<=u/\u<b+l.length
 ·rw[Wj c,fx,bg (by simp;right),bo (by simp;right)];simp[fw,nj (show b<=p.length by right)]
 ·rw[VT c];by_cases c2:u<b
  ·rw[fx,bo (by simp;right),ik c2]
  ·rw[bg (by simp;right)];simp only[fg,fw,rm];congr 2;right
theorem yI(h:b+l.length<=p.length):g (p.take b++l++p.drop (b+l.length)) u=if u<b then g p u else if u<b+l.length then g l (u-b) else g p u:=by
 unfold g;simp only[ef];by_cases c2:u<b
 ·rw[Wj c2,fx,bo (by simp;right),ik c2]
 ·rw[VT c2];by_cases c:u<b+l.length
  ·rw[Wj c,fx,bg (by simp;right),bo (by simp;right)];simp[fw,nj (show b<=p.length by right)]
  ·rw[VT c,bg (by simp;right)];simp only[fg,fw,rm];congr 2;right
theorem sW{x:Nat}(h:b+n<=p.length)(hx:x∈(p.drop b).take n):∃u,b<=u/\u<b+n/\x=g p u:=by
 obtain⟨i,hi,e⟩:=kg.mp hx;simp at hi;refine⟨b+i,⋯,⋯,?_⟩;rw[<- e];simp[g,dq,show b+i<p.length by right]
theorem xS(hi:i<n)(h:b+n<=p.length):((p.drop b).take n).getD i 0=g p (b+i):=by
 unfold g;simp only[ef];rw[ik hi,rm]
theorem Ea(h:b+n<=p.length)(sg:Sg lt p b (b+n)):((p.drop b).take n).Pairwise λx y=>lt x y=aj:=by
 rw[cq];intro i j hi hj hij;simp at hi hj;have e1:((p.drop b).take n)[i]'(by simp;right)=g p (b+i):=by simp[g,dq,show b+i<p.length by right]
 have e2:((p.drop b).take n)[j]'(by simp;right)=g p (b+j):=by simp[g,dq,show b+j<p.length by right]
 rw[e1,e2];exact sg _ _ ⋯ ⋯ ⋯
theorem D6{a m:Nat}:(p.drop a).take m++(p.drop (a+m)).take b=(p.drop a).take (m+b):=by
 rw[List.take_add,Vp]
theorem Ex(h:b+n<=p.length)(d:l.Perm ((p.drop b).take n)):(p.take b++l++p.drop (b+l.length)).Perm p:=by
 have el:l.length=n:=by rw[d.length_eq];simp;right
 rw[el];have e:p.take b++(p.drop b).take n++p.drop (b+n)=p:=by
  rw[fx,<- Vp,qe,qe]
 refine List.Perm.trans ?_ (List.Perm.of_eq e);exact(d.append_left _).append_right _
theorem Gx{a:σ}{Q:PUnit->σ->Prop}{st:σ}(h:Q ⟨⟩ a):UE M A E s (set a:StateT σ Ui PUnit) Q st:=by
 unfold UE;rw[StateT.run_set];exact ar ⟨rfl,h⟩
theorem Nl(T:Tm M A E s N lt it κ){sa sb nb pw x:Nat}{Q:Bool->gq->Prop}(S:Sp1 it κ st p)(P:sA N p)(e1:(bz st)[i]?=aa (sa,na,pw))(e2:(bz st)[i+1]?=aa (sb,nb,x))(hs:sb=sa+na)(ha:0<na)(hb:0<nb)(hN:sb+nb<=N)
  (ga:Sg lt p sa (sa+na)) (gb:Sg lt p sb (sb+nb))
  (q:∀st' p',Sp1 it κ st' p'->bz st'=((bz st).setIfInBounds i (sa,na+nb,pw)).eraseIdxIfInBounds (i+1)->sA N p'->Sg lt p' sa (sa+(na+nb))->Ou p p' sa (sa+(na+nb))->Q aj st'):UE M A E s (W0 i) Q st:=by
 have hl:=mB P;subst hs;unfold W0;refine aw (tf ?_);have e1':((sortPriv% PySem.Builtin.SortState.pending) st)[i]?=aa (sa,na,pw):=e1;have e2':((sortPriv% PySem.Builtin.SortState.pending) st)[i+1]?=aa (sa+na,nb,x):=e2;have ea:(sortPriv% PySem.Builtin.SortState.a) st=dJ it p:=S.a;dsimp only;rw[e1',e2'];dsimp only;refine aw (Gx ?_);have S1:Sp1 it κ (wq (ke st) (sh st) (((bz st).setIfInBounds i (sa,na+nb,pw)).eraseIdxIfInBounds (i+1)) (W1 st) (sx st)) p:=⟨S.k,S.a,S.f⟩;show UE M A E s _ Q (wq (ke st) (sh st) (((bz st).setIfInBounds i (sa,na+nb,pw)).eraseIdxIfInBounds (i+1)) (W1 st) (sx st));generalize hst:wq (ke st) (sh st) (((bz st).setIfInBounds i (sa,na+nb,pw)).eraseIdxIfInBounds (i+1)) (W1 st) (sx st)=st1 at S1 ⊢;have hp1:bz st1=((bz st).setIfInBounds i (sa,na+nb,pw)).eraseIdxIfInBounds (i+1):=by rw[<- hst]
 rw[ea];refine aw (dF (bZ ⋯) ?_);refine aw (yJ T (left:=ap) (f:=λi=>g p (sa+i)) S1.k (cW P ⋯) (λi h=>bZ ⋯) (λi h=>⟨cW P ⋯,u9 P ⋯ ⋯ ⋯⟩) (λi j h h2=>ga _ _ ⋯ ⋯ ⋯) ⋯ λk k1 k2 k3=>?_);have bAll:∀v,sa+na<=v->v<sa+na+nb -> ∀y,y<N->lt y (g p (sa+na))=aj->lt y (g p v)=aj:=λv h1 h2 y hy z=>by
  by_cases c:v=sa+na
  ·rw[c];exact z
  ·exact T.tr _ _ _ hy (cW P ⋯) (cW P ⋯) z (gb _ _ ⋯ ⋯ ⋯)
 dsimp only;by_cases z:na-k=0
 ·rw[Wj (by simpa using z)];refine bb (q st1 p S1 hp1 P (λu v hu huv hv=>?_) λu h=>rfl);by_cases c:v<sa+na
  ·exact ga u v hu huv c
  ·by_cases c2:sa+na<=u
   ·exact gb u v c2 huv ⋯
   ·refine bAll v ⋯ ⋯ _ (cW P ⋯) ?_;have:=k2 (u-sa) ⋯;rw[show sa+(u-sa)=u by right] at this;exact this
 rw[VT (by simpa using z),show sa+k+(na-k)-1=sa+na-1 by right];refine aw (dF (bZ ⋯) ?_);refine aw (yJ T (left:=aj) (f:=λi=>g p (sa+na+i)) S1.k (cW P ⋯) (λi h=>bZ ⋯) (λi h=>⟨cW P ⋯,u9 P ⋯ ⋯ ⋯⟩) (λi j h h2=>gb _ _ ⋯ ⋯ ⋯) ⋯ λm j1 j2 j3=>?_);dsimp only;have z2:m≠0:=λc=>by
  have y1:=j3 0 ⋯ ⋯;have y2:=k3 (na-1) ⋯ ⋯;rw[show sa+(na-1)=sa+na-1 by right] at y2;have y3:lt (g p (sa+na)) (g p (sa+na-1))=aj:=y2;have y4:lt (g p (sa+na-1)) (g p (sa+na))=aj:=y1;rw[T.tot _ _ (cW P ⋯) (cW P ⋯) (u9 P ⋯ ⋯ ⋯),y3] at y4;cases y4
 rw[VT (by simpa using z2),aW,aW,show sa+na-(sa+k)=na-k by right,show sa+na+m-(sa+na)=m by right];have wh:(p.drop (sa+k)).take (na-k)++(p.drop (sa+na)).take m=(p.drop (sa+k)).take (na-k+m):=by
  have:=D6 (p:=p) (a:=sa+k) (m:=na-k) (b:=m);rw[show sa+k+(na-k)=sa+na by right] at this;exact this
 have nd:p.Nodup:=P.nodup_iff.mpr Uq;have W:Two N lt ((p.drop (sa+k)).take (na-k)) ((p.drop (sa+na)).take m):=by
  refine⟨Ea ⋯ λu v a b c=>ga u v ⋯ b ⋯,Ea ⋯ λu v a b c=>gb u v ⋯ b ⋯,?_,λy hy=>?_⟩
  ·rw[wh];exact nd.sublist ((Tq _ _).trans (vq _ _))
  ·rw[wh] at hy;obtain⟨u,h1,h2,rfl⟩:=sW ⋯ hy;exact cW P ⋯
 have la0:0<((p.drop (sa+k)).take (na-k)).length:=by simp;right
 have lb0:0<((p.drop (sa+na)).take m).length:=by simp;right
 have ll:((p.drop (sa+k)).take (na-k)).length=na-k:=by simp;right
 have lm:((p.drop (sa+na)).take m).length=m:=by simp;right
 have fin:∀l,zI lt ((p.drop (sa+k)).take (na-k)) ((p.drop (sa+na)).take m) l -> ∃p2,(dJ it l).toList.zipIdx.foldl (λa (q:ng×Nat)=>a.setIfInBounds (sa+k+q.2) q.1) (dJ it p)=dJ it p2/\sA N p2/\Sg lt p2 sa (sa+(na+nb))/\Ou p p2 sa (sa+(na+nb)):=λl d=>by
  have d1:=d.1;rw[wh] at d1;have el:l.length=na-k+m:=by rw[d1.length_eq];simp;right
  have mem:∀y∈l,∃u,sa+k<=u/\u<sa+na+m/\y=g p u:=λy hy=>by
   obtain⟨u,h1,h2,h3⟩:=sW ⋯ (d1.mem_iff.mp hy);exact⟨u,h1,⋯,h3⟩
  have lg:∀u,u<l.length->g l u∈l:=λu hu=>by
   have e:g l u=l[u]:=by simp[g,dq,hu]
   rw[e];exact dm hu
  refine⟨_,HN ⋯,(Ex (n:=na-k+m) ⋯ d1).trans P,λu v hu huv hv=>?_,λu h=>?_⟩
  ·have A1:∀u,sa<=u->u<sa+k->lt (g p u) (g p (sa+na))=aj:=λu h1 h2=>by
    have:=k2 (u-sa) ⋯;rw[show sa+(u-sa)=u by right] at this;exact this
   have B1:∀w,sa+na+m<=w->w<sa+na+nb->lt (g p (sa+na-1)) (g p w)=aj:=λw h1 h2=>by
    have:=j3 (w-(sa+na)) ⋯ ⋯;rw[show sa+na+(w-(sa+na))=w by right] at this;exact this
   rw[yI ⋯,yI ⋯];by_cases cu:u<sa+k
   ·rw[Wj cu];by_cases cv:v<sa+k
    ·rw[Wj cv];exact ga u v hu huv ⋯
    ·rw[VT cv];by_cases cv2:v<sa+k+l.length
     ·rw[Wj cv2];obtain⟨w,w1,w2,w3⟩:=mem _ (lg (v-(sa+k)) ⋯);rw[w3];by_cases cw:w<sa+na
      ·exact ga u w hu ⋯ cw
      ·exact bAll w ⋯ ⋯ _ (cW P ⋯) (A1 u hu cu)
     ·rw[VT cv2];exact bAll v ⋯ ⋯ _ (cW P ⋯) (A1 u hu cu)
   ·rw[VT cu,VT (by right:¬v<sa+k)];by_cases cu2:u<sa+k+l.length
    ·rw[Wj cu2];by_cases cv2:v<sa+k+l.length
     ·rw[Wj cv2];have e1:g l (u-(sa+k))=l[u-(sa+k)]'⋯:=by simp[g,dq,show u-(sa+k)<l.length by right]
      have e2:g l (v-(sa+k))=l[v-(sa+k)]'⋯:=by simp[g,dq,show v-(sa+k)<l.length by right]
      rw[e1,e2];exact cq.mp d.2 _ _ ⋯ ⋯ ⋯
     ·rw[VT cv2];obtain⟨w,w1,w2,w3⟩:=mem _ (lg (u-(sa+k)) ⋯);rw[w3];by_cases cw:w<sa+na
      ·by_cases c3:w=sa+na-1
       ·rw[c3];exact B1 v ⋯ ⋯
       ·exact T.tr _ _ _ (cW P ⋯) (cW P ⋯) (cW P ⋯) (ga w (sa+na-1) ⋯ ⋯ ⋯) (B1 v ⋯ ⋯)
      ·exact gb w v ⋯ ⋯ ⋯
    ·rw[VT cu2,VT ⋯];exact gb u v ⋯ huv ⋯
  ·rw[yI ⋯];by_cases cu:u<sa+k
   ·rw[Wj cu]
   ·rw[VT cu,VT ⋯]
 have xl:∀y∈(p.drop (sa+k)).take (na-k),lt (g p (sa+na)) y=aj:=λy hy=>by
  obtain⟨u,h1,h2,rfl⟩:=sW ⋯ hy;have:=k3 (u-sa) ⋯ ⋯;rw[show sa+(u-sa)=u by right] at this;exact this
 have yl:∀y∈(p.drop (sa+na)).take m,lt y (g p (sa+na-1))=aj:=λy hy=>by
  obtain⟨u,h1,h2,rfl⟩:=sW ⋯ hy;have:=j2 (u-(sa+na)) ⋯;rw[show sa+na+(u-(sa+na))=u by right] at this;exact this
 have b0:((p.drop (sa+na)).take m).getD 0 0=g p (sa+na):=xS ⋯ ⋯;have a0:((p.drop (sa+k)).take (na-k)).getD 0 0=g p (sa+k):=xS ⋯ ⋯;have aL:((p.drop (sa+k)).take (na-k)).getD (((p.drop (sa+k)).take (na-k)).length-1) 0=g p (sa+na-1):=by
  rw[ll,xS ⋯ ⋯];congr 1;right
 split
 ·refine aw (Hx T W S1.k la0 lb0 (by rw[b0];exact xl _ (by rw[a0,<- a0,ef,bf la0];exact dm la0)) (by rw[aL];exact yl) λl st' d se=>?_);obtain⟨p2,f1,f2,f3,f4⟩:=fin l d;refine aw (jo (aw (tf ?_)));have hf:(sx st').isNone=aj:=by rw[se.f,S1.f];rfl
  have S2:sh st'=dJ it p:=by rw[se.a,S1.a]
  refine bb ?_;refine(congrArg (λb=>Q b _) hf).mpr (q _ p2 ⟨se.k.trans S1.k,?_,se.f.trans S1.f⟩ (se.p.trans hp1) f2 f3 f4);show yj _ (sh st') _=_;rw[S2];exact f1
 ·refine aw (Hy T W S1.k la0 lb0 (by rw[b0];exact xl) (by rw[aL];exact yl _ (by rw[ef,bf ⋯];exact dm _)) λl st' d se=>?_);obtain⟨p2,f1,f2,f3,f4⟩:=fin l d;refine aw (jo (aw (tf ?_)));have hf:(sx st').isNone=aj:=by rw[se.f,S1.f];rfl
  have S2:sh st'=dJ it p:=by rw[se.a,S1.a]
  refine bb ?_;refine(congrArg (λb=>Q b _) hf).mpr (q _ p2 ⟨se.k.trans S1.k,?_,se.f.trans S1.f⟩ (se.p.trans hp1) f2 f3 f4);show yj _ (sh st') _=_;rw[S2];exact f1
noncomputable def mT(lt:Nat->Nat->Bool)(p:List Nat):Nat->List (Nat×Nat×Nat)->Nat->Prop
 |b,[],e=>b=e
 |b,(a,n,_)::r,e=>a=b/\0<n/\Sg lt p b (b+n)/\mT lt p (b+n) r e
theorem mT.le:∀{r:List (Nat×Nat×Nat)} {b e:Nat},mT lt p b r e->b+r.length<=e
 | [],b,e,h=>by have:b=e:=h;simp;right
 | (a,n,w)::r,b,e,h=>by
  have:=h.2.2.2.le;have:=h.2.1;simp;right
theorem mT.split:∀{xs ys:List (Nat×Nat×Nat)} {b e:Nat},mT lt p b (xs++ys) e -> ∃m,mT lt p b xs m/\mT lt p m ys e
 | [],ys,b,e,h=>⟨b,rfl,h⟩
 | (a,n,w)::xs,ys,b,e,h=>by
  obtain⟨m,h1,h2⟩:=mT.split (xs:=xs) h.2.2.2;exact⟨m,⟨h.1,h.2.1,h.2.2.1,h1⟩,h2⟩
theorem mT.join:∀{xs ys:List (Nat×Nat×Nat)} {b m e:Nat},mT lt p b xs m->mT lt p m ys e->mT lt p b (xs++ys) e
 | [],ys,b,m,e,h1,h2=>by have z:b=m:=h1;subst z;exact h2
 | (a,n,w)::xs,ys,b,m,e,h1,h2=>⟨h1.1,h1.2.1,h1.2.2.1,h1.2.2.2.join h2⟩
theorem mT.same:∀{xs:List (Nat×Nat×Nat)} {b e:Nat},mT lt p b xs e->(∀u,b<=u->u<e->g p' u=g p u)->mT lt p' b xs e
 | [],b,e,h,_=>h
 | (a,n,w)::xs,b,e,h,z=>by
  have l:=h.2.2.2.le;refine⟨h.1,h.2.1,λu v hu huv hv=>?_,h.2.2.2.same λu h1 h2=>z u ⋯ h2⟩;rw[z u hu ⋯,z v ⋯ ⋯];exact h.2.2.1 u v hu huv hv
theorem Fi{l:List α}(h:i+1<l.length):∃xs x y ys,l=xs++x::y::ys/\xs.length=i:=
 ⟨l.take i,l[i]'⋯,l[i+1],l.drop (i+2),by
  rw[<- gr h,<- gr (by right:i<l.length),qe],by simp;right⟩
theorem Bh(T:Tm M A E s N lt it κ){Q:Bool->gq->Prop}(S:Sp1 it κ st p)(P:sA N p)(hi:i+1<(bz st).size)(hN:lo<=N)(c:mT lt p 0 (bz st).toList lo)
  (q:∀st' p',Sp1 it κ st' p'->sA N p'->mT lt p' 0 (bz st').toList lo->(bz st').size+1=(bz st).size->Ou p p' 0 lo->Q aj st'):UE M A E s (W0 i) Q st:=by
 obtain⟨xs,⟨a,n,w⟩,⟨b,m,x⟩,ys,e,el⟩:=Fi (l:=(bz st).toList) (i:=i) (by simpa using hi);rw[e] at c;obtain⟨k,c1,c2⟩:=c.split;obtain⟨rfl,n0,sg,rfl,m0,sg2,c3⟩:=c2;have l1:=c1.le;have l3:=c3.le;have e1:(bz st)[i]?=aa (a,n,w):=by rw[<- ii,e,bg ⋯,el];simp
 have e2:(bz st)[i+1]?=aa (a+n,m,x):=by rw[<- ii,e,bg ⋯,el];simp
 refine Nl T S P e1 e2 rfl n0 m0 ⋯ sg sg2 λst' p' S' hp P' sg' o=>?_;have ep:(bz st').toList=xs++(a,n+m,w)::ys:=by
  rw[hp];simp only[Array.toList_eraseIdxIfInBounds,Array.toList_setIfInBounds,e];rw[List.set_append_right _ _ ⋯,el,Nat.sub_self,List.set_cons_zero,List.eraseIdx_append_of_length_le ⋯,el];simp
 refine q st' p' S' P' ?_ ?_ λu h=>o u ⋯
 ·rw[ep];exact(c1.same λu h1 h2=>o u (.inl h2)).join ⟨rfl,⋯,sg',by
   rw[<- Nat.add_assoc];exact c3.same λu h1 h2=>o u (.inr ⋯)⟩
 ·rw[<- qo,ep,<- qo,e];simp;right
theorem mT.power{pd:Array (Nat×Nat×Nat)}{e w:Nat}(c:mT lt p b pd.toList e):mT lt p b (pd.modify i λx=>(x.1,x.2.1,w)).toList e:=by
 rw[Array.toList_modify];generalize pd.toList=l at c;induction l generalizing i b with
 |nil=>cases i<;>exact c
 |cons x l ih=>
  obtain⟨a,n,v⟩:=x;cases i with
  |zero=>exact c
  |succ i=>exact⟨c.1,c.2.1,c.2.2.1,ih c.2.2.2⟩
theorem mT.push{pd:Array (Nat×Nat×Nat)}{lo n:Nat}(c:mT lt p 0 pd.toList lo)(h:0<n)(sg:Sg lt p lo (lo+n)):mT lt p 0 (pd.push (lo,n,0)).toList (lo+n):=by
 rw[Array.toList_push];exact c.join ⟨rfl,h,sg,rfl⟩
theorem JO(T:Tm M A E s N lt it κ){Q:Unit->gq->Prop}(S:Sp1 it κ st p)(P:sA N p)(hp:bz st = #[])
  (q:∀st' p',Sp1 it κ st' p'->sA N p'->Sg lt p' 0 N->Q () st'):UE M A E s sortRuns' Q st:=by
 have hl:=mB P;rw[sortRuns'_eq];refine aw (tf ?_);dsimp only;have hsz:(sh st).size=N:=by rw[S.a,mR,hl]
 simp only[hsz];generalize minRun' N N 0=mr;refine aw (jm (fk
  (I:=λx c st'=>∃lo p',c=(aq,lo)/\Sp1 it κ st' p'/\sA N p'/\mT lt p' 0 (bz st').toList lo/\lo<=N/\x<=lo)
  (Q:=λc st'=>∃p',c=(aq,N)/\Sp1 it κ st' p'/\sA N p'/\mT lt p' 0 (bz st').toList N) ?step ?fin ?init) ?post)
 case init=>exact⟨0,p,rfl,S,P,by rw[hp];rfl,⋯,⋯⟩
 case fin=>
  rintro c st' ⟨lo,p',rfl,S',P',c',h1,h2⟩;obtain rfl:lo=N:=⋯;exact⟨p',rfl,S',P',c'⟩
 case post=>
  rintro c st' ⟨p',rfl,S',P',c'⟩;dsimp only;have cl:=c'.le;refine aw (jm (fk
   (I:=λx c st2=>c=(aq,()) /\ ∃p2,Sp1 it κ st2 p2/\sA N p2/\mT lt p2 0 (bz st2).toList N/\(bz st2).size+x<=N)
   (Q:=λc st2=>c=(aq,()) /\ ∃p2,Sp1 it κ st2 p2/\sA N p2/\mT lt p2 0 (bz st2).toList N/\(bz st2).size<=1) ?s2 ?f2 ?i2) ?p2)
  case i2=>exact⟨rfl,p',S',P',c',by rw[<- qo];right⟩
  case f2=>
   rintro c st2 ⟨rfl,p2,S2,P2,c2,h⟩;exact⟨rfl,p2,S2,P2,c2,⋯⟩
  case s2=>
   rintro x c st2 _ hx ⟨rfl,p2,S2,P2,c2,h⟩;refine aw (tf ?_);by_cases z:(bz st2).size<=1
   ·rw[Wj z];exact bb ⟨rfl,p2,S2,P2,c2,z⟩
   rw[VT z];refine aw (Bh T S2 P2 ?hj (bj _) c2 λst3 p3 S3 P3 c3 h3 _=>?_)
   case hj=>
    repeat' split
    all_goals right
   rw[VT ∅];exact bb ⟨rfl,p3,S3,P3,c3,⋯⟩
  case p2=>
   rintro c st2 ⟨rfl,p2,S2,P2,c2,h⟩;refine bb (q st2 p2 S2 P2 ?_);have:(bz st2).toList.length=(bz st2).size:=by simp
   match hl2:(bz st2).toList,c2 with
   | [],c2=>
    have z:0=N:=c2;intro u v a b c;right
   | [(a,n,w)],c2=>
    obtain⟨rfl,n0,sg,z⟩:=c2;have z':0+n=N:=z;rw[<- z'];exact sg
   |_::_::_,_=>
    rw[hl2] at this;simp at this;right
 case step=>
  rintro x c st' _ hx ⟨lo,p',rfl,S',P',c',h1,h2⟩;dsimp only;by_cases z:lo >= N
  ·rw[Wj z];obtain rfl:lo=N:=⋯;exact bb ⟨p',rfl,S',P',c'⟩
  rw[VT z];refine aw (GX T S' P' ⋯ ⋯ λm st2 p2 m1 m2 S2 e2 P2 sg2 o2=>?_);have c2:mT lt p2 0 (bz st2).toList lo:=by rw[e2];exact c'.same λu a b=>o2 u (.inl b)
  dsimp only;by_cases zm:m<mr
  ·rw[Wj zm];refine aw (ya (kr ⟨rfl,?_⟩));have hf:min (N-lo) mr<=N-lo:=Nat.min_le_left _ _;have hf2:m<=min (N-lo) mr:=⋯;refine aw (LN T S2 P2 m1 hf2 ⋯ sg2 λst3 p3 S3 e3 P3 sg3 o3=>?_);have c3:mT lt p3 0 (bz st3).toList lo:=by rw[e3];exact c2.same λu a b=>o3 u (.inl b)
   generalize min (N-lo) mr=fo at *;rw[VT ∅];refine aw (tf ?_);cases hb:(bz st3).back? with
   |none=>
    dsimp only;exact aw (jo (bb ⟨lo+fo,p3,rfl,⟨S3.k,S3.a,S3.f⟩,P3,c3.push ⋯ sg3,⋯,⋯⟩))
   |some t=>
    obtain⟨s1,n1,w1⟩:=t;dsimp only;refine aw (jm (fk
     (I:=λy c st4=>c=(aq,()) /\ ∃p4,Sp1 it κ st4 p4/\sA N p4/\mT lt p4 0 (bz st4).toList lo/\Sg lt p4 lo (lo+fo))
     (Q:=λc st4=>c=(aq,()) /\ ∃p4,Sp1 it κ st4 p4/\sA N p4/\mT lt p4 0 (bz st4).toList lo/\Sg lt p4 lo (lo+fo)) ?_ (λ_ _ h=>h) ⟨rfl,p3,S3,P3,c3,sg3⟩) ?_)
    ·rintro y c st4 _ hy ⟨rfl,p4,S4,P4,c4,sg4⟩;refine aw (tf ?_);by_cases zz:(bz st4).size > 1
     ·rw[Wj zz];cases ho:(bz st4)[(bz st4).size-2]? with
      |none=>exact bb ⟨rfl,p4,S4,P4,c4,sg4⟩
      |some t=>
       obtain⟨t1,t2,older⟩:=t;dsimp only;split
       ·exact bb ⟨rfl,p4,S4,P4,c4,sg4⟩
       ·refine aw (Bh T S4 P4 ⋯ ⋯ c4 λst5 p5 S5 P5 c5 h5 o5=>?_);rw[VT ∅];exact bb ⟨rfl,p5,S5,P5,c5,λu v hu huv hv=>by rw[o5 u (.inr hu),o5 v (.inr ⋯)];exact sg4 u v hu huv hv⟩
     ·rw[VT zz];exact bb ⟨rfl,p4,S4,P4,c4,sg4⟩
    ·rintro c st4 ⟨rfl,p4,S4,P4,c4,sg4⟩;dsimp only;exact aw (jo (aw (jo (bb ⟨lo+fo,p4,rfl,⟨S4.k,S4.a,S4.f⟩,P4,(mT.power c4).push ⋯ sg4,⋯,⋯⟩))))
  ·rw[VT zm];refine aw (tf ?_);cases hb:(bz st2).back? with
   |none=>
    dsimp only;exact aw (jo (bb ⟨lo+m,p2,rfl,⟨S2.k,S2.a,S2.f⟩,P2,c2.push ⋯ sg2,⋯,⋯⟩))
   |some t=>
    obtain⟨s1,n1,w1⟩:=t;dsimp only;refine aw (jm (fk
     (I:=λy c st4=>c=(aq,()) /\ ∃p4,Sp1 it κ st4 p4/\sA N p4/\mT lt p4 0 (bz st4).toList lo/\Sg lt p4 lo (lo+m))
     (Q:=λc st4=>c=(aq,()) /\ ∃p4,Sp1 it κ st4 p4/\sA N p4/\mT lt p4 0 (bz st4).toList lo/\Sg lt p4 lo (lo+m)) ?_ (λ_ _ h=>h) ⟨rfl,p2,S2,P2,c2,sg2⟩) ?_)
    ·rintro y c st4 _ hy ⟨rfl,p4,S4,P4,c4,sg4⟩;refine aw (tf ?_);by_cases zz:(bz st4).size > 1
     ·rw[Wj zz];cases ho:(bz st4)[(bz st4).size-2]? with
      |none=>exact bb ⟨rfl,p4,S4,P4,c4,sg4⟩
      |some t=>
       obtain⟨t1,t2,older⟩:=t;dsimp only;split
       ·exact bb ⟨rfl,p4,S4,P4,c4,sg4⟩
       ·refine aw (Bh T S4 P4 ⋯ ⋯ c4 λst5 p5 S5 P5 c5 h5 o5=>?_);rw[VT ∅];exact bb ⟨rfl,p5,S5,P5,c5,λu v hu huv hv=>by rw[o5 u (.inr hu),o5 v (.inr ⋯)];exact sg4 u v hu huv hv⟩
     ·rw[VT zz];exact bb ⟨rfl,p4,S4,P4,c4,sg4⟩
    ·rintro c st4 ⟨rfl,p4,S4,P4,c4,sg4⟩;dsimp only;exact aw (jo (aw (jo (bb ⟨lo+m,p4,rfl,⟨S4.k,S4.a,S4.f⟩,P4,(mT.power c4).push ⋯ sg4,⋯,⋯⟩))))
end
end L2
namespace L2
open PySem PySem.Spec PySem.W PyProof.Rows Tim
variable {o o':je}{vs:List af}{n':Nat}{ms:List Int}{Q:af->ai->Prop}{C:Bool->ai->Prop}{κ:lc}
theorem nU(ho:s.heap.get? a=aa o)(hc:o.cls=.type "tuple")(hd:o.data=.seq us.toArray n)(iu:jc us ns)
  (ho':s.heap.get? b=aa o') (hc':o'.cls=.type "tuple") (hd':o'.data=.seq vs.toArray n') (iv:jc vs ms) (q:Q (.bool (eB ns ms)) s):
  bi (bu prog w) A (call (.builtin "tuple.__lt__") [.ref a,.ref b]) Q E s:=by
 refine fh uc ⟨_,ho,hc⟩ PySem.F.entry_tuple_lt ?_ (PySem.F.args_tuple_lt_2 _ _);have e:qa.«tuple.__lt__» ⟨[.ref a,.ref b],[]⟩=(do
   if !(<- SX (.ref b) (.type "tuple")) then return <- ret .notImplemented
   let ls <- pq (.ref a)
   let rs <- pq (.ref b)
   for (c,d) in ls.toList.zip rs.toList do
    if !(<- eqBool c d) then
     Vb "tuple.compare.by-the-first-pair-that-differs"
     return <- ret (<- richCompare .Lt c d)
   ret (TV .Lt ls.size rs.size)):=rfl
 rw[e];refine ae (kj (T:="tuple") ⟨_,ho',hc'⟩ PySem.F.sub_tuple_tuple ?_);rw[VT ∅];refine ae (T8 ho hd (ae (T8 ho' hd' (ae ?_))));refine wpAny_forIn_list _ (λWn st t=>t=s/\st=(aq,()) /\ ∃us' vs' ns' ms',Wn=us'.zip vs'/\jc us' ns'/\jc vs' ms'/\eB ns ms=eB ns' ms'/\us.length+vs'.length=us'.length+vs.length) _ ?_ ?_ _ _ ⟨rfl,rfl,us,vs,ns,ms,rfl,iu,iv,rfl,⋯⟩
 ·rintro x Wn st t ⟨rfl,rfl,us',vs',ns',ms',er,iu',iv',el,eq⟩;cases iu' with
  |nil=>cases er
  | @cons i ti us' ns' iu'=>
   cases iv' with
   |nil=>cases er
   | @cons j tj vs' ms' iv'=>
    rw[List.zip_cons_cons] at er;cases er;refine ae (xq ?_);by_cases ij:i=j
    ·subst ij;rw[VT (by simp)];refine ar ⟨rfl,rfl,us',vs',ns',ms',rfl,iu',iv',?_,by simp at eq;right⟩;rw[el,eB,Wj rfl]
    ·rw[Wj (by simpa using ij)];refine ae (kr (ae ?_));rw[eB,VT ij] at el;refine(show bi (bu prog w) A.in1 (ed .Lt _ _) _ _ _ from wpAny_lt_int ?_);exact ae (m:=ret _) (ar (ar (ar ⟨_,rfl,by rw[<- el];exact q⟩)))
 ·rintro st t ⟨rfl,rfl,us',vs',ns',ms',er,iu',iv',el,eq⟩;have lz:eB ns' ms'=decide (us.length<vs.length):=by
   cases iu' with
   |nil=>
    cases iv' with
    |nil=>simp at eq;simp[eB];right
    |cons _ _ _=>simp at eq;simp[eB];right
   |cons _ _ iu'=>
    cases iv' with
    |nil=>simp at eq;simp[eB];right
    |cons _ _ _=>cases er
  refine ar ⟨_,rfl,?_⟩;rw[el,lz] at q;show Q (.bool (decide (us.toArray.size<vs.toArray.size))) t;simpa using q
structure CmpA(prog:au)(w:bt)(A:cf)(s:ai)(a:ah)(vs:List af)(lt:Nat->Nat->Bool)(κ:lc):Prop where
 wk:Weak lt
 kind:∀(h:cm) (Q:lc->ai->Prop),(∀b o,b≠a->s.heap.get? b=aa o->h.get? b=aa o)->Q κ { s with heap:=h }->bi (bu prog w) A (VY vs.toArray) Q (λ_ _=>False) { s with heap:=h }
 less:∀(h:cm) (i j:Nat) (C:Bool->ai->Prop),(∀b o,b≠a->s.heap.get? b=aa o->h.get? b=aa o)->i<vs.length->j<vs.length->i≠j->C (lt i j) { s with heap:=h } ->
  bi (bu prog w) A (Wb κ (vs.getD i eo) (vs.getD j eo)) C (λ_ _=>False) { s with heap:=h }
theorem Kh(hu:A.units<lq)(ho:s.heap.get? a=aa o)(hc:o.cls=.type "tuple")(hd:o.data=.seq us.toArray n)(iu:jc us ns)
  (ho':s.heap.get? b=aa o') (hc':o'.cls=.type "tuple") (hd':o'.data=.seq vs.toArray n') (iv:jc vs ms) (q:C (eB ns ms) s):bi (bu prog w) A (Wb zq (.ref a) (.ref b)) C E s:=by
 refine kat_one _ _ (wpAny_richCompare_same_room (op:=.Lt) ⟨_,ho,hc⟩ ⟨_,ho',hc'⟩ uc (nU ho hc hd iu ho' hc' hd' iv ⟨(λz=>nomatch z),q⟩) hu)
theorem Kg(hu:A.units<lq)(ho:s.heap.get? a=aa o)(hc:o.cls=.type "tuple")(hd:o.data=.seq us.toArray n)(iu:jc us ns)
  (ho':s.heap.get? b=aa o') (hc':o'.cls=.type "tuple") (hd':o'.data=.seq vs.toArray n') (iv:jc vs ms) (q:C (eB ns ms) s):bi (bu prog w) A (Wb V6 (.ref a) (.ref b)) C E s:=by
 rw[keyLt'_oneType,oneLt'_eq];simp only[if_true];refine ae (wpAny_cRoomFor hu (ae (wpAny_callSpecialIfBound?_slot ⟨_,ho,hc⟩ uc (nU ho hc hd iu ho' hc' hd' iv ?_))));exact gp q
noncomputable def nB(h:cm):List af->List (Option af)->Prop
 | [],[]=>True
 |v::vs,f::fs=>(∃a o xs n,v=.ref a/\h.get? a=aa o/\o.cls=.type "tuple" /\ o.data=.seq xs n/\xs[0]?=f)/\nB h vs fs
 |_,_=>False
theorem wW{M:xc}:∀(vs:List af) (fs:List (Option af)) {Q:List (Option af)->ai->Prop},nB s.heap vs fs->Q fs s->bi M A (vs.mapM firstOfTuple') Q E s
 | [],[],_,_,h=>by rw[List.mapM_nil];exact ar h
 | [],_::_,_,t,_=>t.elim
 |_::_,[],_,t,_=>t.elim
 |v::vs,f::fs,Q,t,h=>by
  obtain⟨⟨a,o,xs,n,rfl,ho,hc,hd,rfl⟩,t⟩:=t;rw[List.mapM_cons,kas_first_eq];refine ae (ae (Looks.here (show Looks M s.heap (yh (.ref a)) o.cls from(Looks.ld ho).andThen .now) ?_));rw[hc,VT (by simp)];exact ae (vn ho hd (ar (ae (wW vs fs (Q:=λbs s'=>bi M A (io (xs[0]?::bs)) Q E s') t (ar h)))))
theorem NJ{M:xc}{v:af}{f:Option af}{fs:List (Option af)}{Q:lc->ai->Prop}(t:nB s.heap (v::vs) (f::fs))(no:aq∈f::fs)(hT:∀x∈v::vs,Looks M s.heap (yh x) (.type "tuple"))
  (h:Q (if f.isSome=aj then zq else V6) s):bi M A (VY (v::vs).toArray) Q E s:=by
 rw[kat_kind_eq,TN,map_eq_pure_bind];refine ae (ae (wW _ _ t (ar ?_)));rw[VT (by
  rw[List.all_toArray];intro z;have:=ux.mp z aq no;cases this)]
 cases f with
 |some x=>
  rw[Wj (show (aa x).isSome=aj from rfl)] at h;rw[Wj (by simp)];exact ar h
 |none=>
  rw[VT (by simp)] at h ⊢;rw[oneTypeOnly'_eq,TN,map_eq_pure_bind];refine ae (ae (ae (kas_mapM (r:=.type "tuple") _ (λv hv Q' hq=>(hT v hv).here hq) (ar ?_))));have h0:(W2 (λ_=>ue "tuple") (v::vs)).toArray[0]?=aa (.type "tuple"):=by simp
  rw[h0];have al:((W2 (λ_=>ue "tuple") (v::vs)).toArray.all λx=>x==ue "tuple")=aj:=by simp
  simp only[al,if_true];exact ar (ar h)
theorem BG{lt:Nat->Nat->Bool}{P:Fin->ai->Prop}(ho:s.heap.get? a=aa (jj "list" vs.toArray n))(h64:vs.length<=1000)(ht:∀i j,i<vs.length->j<vs.length->i≠j->lt i j=aj \/ lt j i=aj)(c:2<=vs.length->CmpA prog w A s a vs lt κ)
  (k:∀p,Pm vs.length p->Up lt p vs.length->P (.done (.ret .none)) { s with heap:=UY s.heap a vs (picked vs p).toArray }):bi (bu prog w) A (qa.«list.sort» ⟨[.ref a],[]⟩) P E s:=by
 have la:a<s.heap.objs.size:=az ho
 let h1:=s.heap.update a (ug λ_=>#[])
 let h2:=h1.push (jj "tuple" vs.toArray 0)
 let h3:=h2.push (jj "list" #[] 0)
 obtain⟨m,g1⟩:∃m,h1.get? a=aa (jj "list" #[] m):=⟨_,yx ho λ_=>#[]⟩;have sz1:h1.objs.size=s.heap.objs.size:=uj ..;have keep:∀b o,b≠a->s.heap.get? b=aa o->h3.get? b=aa o:=λb o hb e=>
  ao _ (ao _ ((vh _ _ _ _ hb).trans e))
 have g3:h3.get? a=aa (jj "list" #[] m):=ao _ (ao _ g1);have Wy:vs.length<=bh:=by rw[ie];right
 have fin:∀p,Pm vs.length p->Up lt p vs.length->bi (bu prog w) A (do
   let touched:=(<- seqEpoch a) != m
   xx (.ref a) λ_=>(picked vs p).toArray
   if touched then Vb "list.sort.modified";raiseError "ValueError" "list modified during sort"
   ret .none) P E { s with heap:=h3 }:=λp pm up=>by
  have sz:(picked vs p).toArray.size=vs.length:=by simp[picked,pm.size]
  refine ae (zp g3 rfl (ae (uq g3 rfl ?_ (lj _) (by rw[sz];right))));rw[show (m != m)=ap by simp];exact ar (k p pm up)
 rw[Uz];refine ae (vn ho rfl (ae (uq ho rfl ?_ (by simpa using Wy) (lj _))));refine ae (zp g1 rfl (ae (UZ (ae (qw (jf ?_) (lj _))) (by simpa using Wy))));show bi (bu prog w) A _ P E { s with heap:=h3 };dsimp only;by_cases two:2<=vs.length
 ·have big:¬vs.toArray.size<2:=by simpa using two
  rw[VT big,VT big];have cc:=c two;refine ae (fy (cc.kind h3 (λx s'=>x=κ/\s'={ s with heap:=h3 }) keep ⟨rfl,rfl⟩) (λx s' e=>?_) λ_ _ z=>z.elim);obtain⟨rfl,rfl⟩:=e;have W:=cc.wk;have T:Tm (bu prog w) A E { s with heap:=h3 } vs.length lt (kas_item (vs.toArray.zip vs.toArray)) x:=by
   have tot:∀i j,i<vs.length->j<vs.length->i≠j->lt i j = !lt j i:=λi j hi hj n=>by
    rcases ht i j hi hj n with z | z
    ·rw[z,W.asym z];rfl
    ·rw[z,W.asym z];rfl
   refine⟨λi j hi hj hn st Q hk q=>?_,tot,λi j k _ _ _=>W.tr i j k⟩;have it1:∀i,i<vs.length->(kas_item (vs.toArray.zip vs.toArray) i).1=vs.getD i eo:=λi hi=>by simp[kas_item,wp,hi]
   rw[lt'_eq];refine aw (tf ?_);refine aw (ya (jq (fy (?_:bi (bu prog w) A _ (λb s'=>s'={ s with heap:=h3 }/\b=lt i j) (λ_ _=>False) _) (λb s' z=>?_) λ_ _ z=>z.elim)))
   ·rw[hk,it1 i hi,it1 j hj];exact cc.less h3 i j _ keep hi hj hn ⟨rfl,rfl⟩
   ·obtain⟨rfl,rfl⟩:=z;exact⟨rfl,bb q⟩
  have est:vs.toArray.zip vs.toArray=dJ (kas_item (vs.toArray.zip vs.toArray)) (gc vs.length):=by
   apply rj;intro u;by_cases hu:u<vs.length
   ·simp[dJ,kas_item,wp,hu]
   ·simp[dJ,hu]
  have run:=JO T (st:=wq x (vs.toArray.zip vs.toArray) #[] 7 aq) (p:=gc vs.length) (Q:=λ_ st'=>∃p,(Pm vs.length p/\Up lt p vs.length)/\sh st'=p.map (kas_item (vs.toArray.zip vs.toArray))/\sx st'=aq) ⟨rfl,est,rfl⟩ (List.Perm.refl _) rfl λst' p' S P sg=>by
   have hlp:=mB P;have ag:∀u,cZ p'.toArray u=g p' u:=λu=>by
    by_cases hu:u<p'.length
    ·simp[cZ,g,dq,wp,hu]
    ·simp[cZ,g,dq,wp,hu]
   refine⟨p'.toArray,⟨?_,λu v huv hv=>?_⟩,by rw[S.a];simp[dJ],S.f⟩
   ·exact wo.mpr (by simpa using P)
   ·rw[ag,ag];exact Cu.of W (sg u v (lj _) huv hv)
  refine ae (fy run (λr s' q=>?_) λ_ _ z=>z);obtain⟨⟨⟩,st'⟩:=r;obtain⟨rfl,p,⟨pm,up⟩,e1,e2⟩:=q;dsimp only at e1 e2 ⊢;rw[kat_snds rfl e1,e2];exact fin p pm up
 ·have few:vs.toArray.size<2:=by simp;right
  rw[Wj few,Wj few];refine ae (ar ?_);rw[UA];refine ae (ar ?_);dsimp only;have e:((sh (wq zq (vs.toArray.zip vs.toArray) #[] 7 aq)).map λx=>x.2)=(picked vs (yp (gc vs.length))).toArray:=by
   rw[wE];apply U7.mp;show ((vs.toArray.zip vs.toArray).map λx=>x.2).toList=_;simp;apply qd;intro i;by_cases hi:i<vs.length
   ·simp[hi]
   ·simp[hi]
  rw[e];exact fin _ (Array.Perm.refl _) λu v h1 h2=>by right
theorem A4{d:ah}{es:Array my}{ep:Nat}{lt:Nat->Nat->Bool}(hh:A.handled=aq)(lo:(d==jn)=ap)(x:Ent s.heap d es ep)(hv:es.toList.map (·.key)=vs)(h64:vs.length<=1000)(ht:∀i j,i<vs.length->j<vs.length->i≠j->lt i j=aj \/ lt j i=aj)
  (c:∀(h1:cm) (tk:Nat),(∀b o,s.heap.get? b=aa o->h1.get? b=aa o)->2<=vs.length->CmpA prog w A.in1.in1 { s with heap:=h1.push (jj "list" vs.toArray 0),toks:=tk } h1.objs.size vs lt κ)
  (k:∀(h1:cm) (tk:Nat) p,(∀b o,s.heap.get? b=aa o->h1.get? b=aa o)->s.heap.objs.size<h1.objs.size->Pm vs.length p->Up lt p vs.length->Q (.ref h1.objs.size) { s with heap:=UY (h1.push (jj "list" vs.toArray 0)) h1.objs.size vs (picked vs p).toArray,toks:=tk }):
  bi (bu prog w) A (call (.builtin "sorted") [.ref d]) Q E s:=by
 have Wy:vs.length<=bh:=by rw[ie];right
 have hn:es.size=vs.length:=by rw[<- hv];simp
 refine qh Ur TD TF (TH _) ?_;unfold qa.«sorted»;refine ae (m:=V1 "sorted" 1 1 _) (ar (ae (GY (IZ lo) hh x (by rw[hn];exact Wy) λh1 tk acc old big it=>?_)));have ea:acc.toList=vs:=by
  apply qd;intro i;rw[<- hv];by_cases hi:i<acc.size
  ·obtain⟨en,e1,e2⟩:=it.2 i acc[i] (qi hi);rw[ii,qi hi,cn,ii,e1,e2];rfl
  ·have:es.size<=i:=by rw[<- it.1];right
   rw[ou (by simpa using hi),ou (by simpa using this)]
 rw[ea];refine ae (qw ?_ Wy);have mine:(h1.push (jj "list" vs.toArray 0)).get? h1.objs.size=aa (jj "list" vs.toArray 0):=bw h1 rfl;refine ae (jf (fh zr ⟨_,mine,rfl⟩ yy ?_ (zt _)));refine BG (s:={ s with heap:=h1.push (jj "list" vs.toArray 0),toks:=tk }) (lt:=lt) (κ:=κ) mine h64 ht (λtwo=>c h1 tk old two) λp a b=>⟨_,rfl,ar ⟨_,rfl,k h1 tk p old big a b⟩⟩
end L2
namespace Z
open L2
end Z
namespace L2
open PySem PySem.Spec PySem.W PyProof.Rows Tim
theorem GZ{its:List Gg}{tn:Gg}(hu:A.units+2<lq)(two:2<=(its.map λt=>Value.ref t.1).length)(htn:tn∈its)(etn:tn.2.1=[])(hd:its.Pairwise (λt u=>t.2.1≠u.2.1))
  (tup:∀t∈its,∃(o:je) (a b:List af) (n:Nat),s.heap.get? t.1=aa o/\o.cls=.type "tuple" /\ o.data=.seq (a++b).toArray n/\b=[]/\jc a t.2.1) (far:∀t∈its,t.1≠a):
  CmpA prog w A.in1.in1 s a (its.map λt=>Value.ref t.1) (λi j=>eB (its.getD i (0,[],[])).2.1 (its.getD j (0,[],[])).2.1) (if (its.getD 0 (0,[],[])).2.1=[] then V6 else zq):=by
 have len:(its.map λt=>Value.ref t.1).length=its.length:=by simp
 have get:∀i,i<its.length->(its.map λt=>Value.ref t.1).getD i eo=Value.ref (its.getD i (0,[],[])).1:=λi hi=>by simp[hi]
 have mem:∀i,i<its.length->its.getD i (0,[],[])∈its:=λi hi=>by
  rw[ef,bf hi];exact dm hi
 have room:A.in1.in1.units<lq:=by
  show A.units+1+1<lq;right
 have hdOf:∀{us:List af} {ns:List Int},jc us ns->(us.toArray[0]?).isSome = !decide (ns=[]):=λ{us ns} h=>by cases h<;>simp
 refine⟨wO _,λh Q' hk q'=>?_,λh i j C hk hi hj hn q'=>?_⟩
 ·have go:∀l:List Gg,(∀t∈l,t∈its) -> ∃fs:List (Option af),nB h (l.map λt=>Value.ref t.1) fs/\fs.map (·.isSome)=l.map λt=>!decide (t.2.1=[]):=by
   intro l;induction l with
   |nil=>intro _;exact⟨[],trivial,rfl⟩
   |cons t r ih=>
    intro hm;obtain⟨fs,kt,e⟩:=ih λu hu=>hm u (di _ hu);have ht:=hm t (de ..);obtain⟨o,us,b,n,ho,hc,hd',rfl,ia⟩:=tup t ht;rw[ka] at hd';exact⟨us.toArray[0]?::fs,⟨⟨_,_,_,_,rfl,hk _ _ (far t ht) ho,hc,hd',rfl⟩,kt⟩,by rw[dh,dh,e,hdOf ia]⟩
  cases its with
  |nil=>cases htn
  |cons t0 its=>
   obtain⟨fs,kt,e⟩:=go (t0::its) λ_ h=>h;cases fs with
   |nil=>cases kt
   |cons f fs=>
    refine NJ (s:={ s with heap:=h }) kt ?_ (λv hv=>?_) ?_
    ·have:ap∈(f::fs).map (·.isSome):=by
      rw[e];exact jx.mpr ⟨tn,htn,by rw[etn];rfl⟩
     obtain⟨x,hx,ex⟩:=jx.mp this;cases x with
     |none=>exact hx
     |some _=>cases ex
    ·obtain⟨t,ht,rfl⟩:=jx.mp (show v∈(t0::its).map λt=>Value.ref t.1 from hv);obtain⟨o,us,b,n,ho,hc,hd',rfl,ia⟩:=tup t ht;rw[<- hc];exact(Looks.ld (hk _ _ (far t ht) ho)).andThen .now
    ·rw[dh,dh] at e;injection e with e0 _;rw[e0];have q':Q' (if t0.2.1=[] then V6 else zq) { s with heap:=h }:=q';by_cases z:t0.2.1=[]
     ·rw[Wj z] at q';rw[decide_eq_true z,VT ∅];exact q'
     ·rw[VT z] at q';rw[decide_eq_false z,Wj ∅];exact q'
 ·rw[len] at hi hj;rw[get i hi,get j hj];obtain⟨o,us,b,n,ho,hc,hd',rfl,ia⟩:=tup _ (mem i hi);obtain⟨o2,us2,b2,n2,ho2,hc2,hd2,rfl,ia2⟩:=tup _ (mem j hj);rw[ka] at hd' hd2;split
  ·exact Kg (s:={ s with heap:=h }) room (hk _ _ (far _ (mem i hi)) ho) hc hd' ia (hk _ _ (far _ (mem j hj)) ho2) hc2 hd2 ia2 q'
  ·exact Kh (s:={ s with heap:=h }) room (hk _ _ (far _ (mem i hi)) ho) hc hd' ia (hk _ _ (far _ (mem j hj)) ho2) hc2 hd2 ia2 q'
theorem yW(hc:X.calm=aj)(hu:X.A.units+2<lq):eP X (.builtin "sorted") (λxs H Q=>∃(p:ah) (ep:Nat) (kvs:List (List bU×V)) (kns:List (List Int)),xs=[.ref p]/\H p=aa (.dT ep kvs)/\kvs.map (·.1)=kns.map (λl=>l.map ft)/\kvs.length<=1000/\[]∈kns /\
  ∀its':List (ah×List Int),(its'.map (·.2)).Perm kns->its'.Pairwise (λt u=>eB t.2 u.2=aj)->(∀t∈its',H t.1=aa (.tup (t.2.map V.int))) -> ∀l,H l=aq->Q (.ref l) (upd H l (.lst (its'.map λt=>V.ref t.1)))):=by
 intro pj s σ H xs us Q I r h;obtain⟨p,ep,kvs,kns,rfl,hp,hk,h64,hnil,q⟩:=h;obtain⟨u,rfl,ru⟩:=iM r;cases ru;obtain⟨hz,hsys,xs,rx,o,es,g,ex,dd,he,nd⟩:=(show cL X.prog X.w H s.heap p (.dT ep kvs) from I.hok p _ hp);obtain⟨its,e1,e2,e3,e4⟩:=Kw rx hk;have ln:its.length=kvs.length:=by
  have a:=congrArg List.length e1;have b:=congrArg List.length hk;simp at a b;right
 have pw0:its.Pairwise (λt u=>t.2.1≠u.2.1):=by
  rw[e4] at nd;have nd2:kns.Nodup:=by
   rw[px] at nd ⊢;rw[ki] at nd;exact nd.imp λh z=>h (by rw[z])
  rw[<- e1,px,ki] at nd2;exact nd2
 obtain⟨tn,htn,etn⟩:=jx.mp (show []∈its.map (·.2.1) by rw[e1];exact hnil);have tup:∀t∈its,∃(o:je) (a b:List af) (n:Nat),s.heap.get? t.1=aa o/\o.cls=.type "tuple" /\ o.data=.seq (a++b).toArray n/\b=[]/\jc a t.2.1:=λt ht=>by
  obtain⟨z,r',⟨o,ho,hc,n,hd'⟩,_⟩:=I.tuple (jP.of (e3 t ht).1);exact⟨o,z,[],n,ho,hc,by rw[ka];exact hd',rfl,kJ r'⟩
 have hv:es.toList.map (·.key)=its.map (λt=>Value.ref t.1):=by
  rw[he,ny,<- e2];rfl
 have hl:(its.map λt=>Value.ref t.1).length=its.length:=bv ..;have neX:∀i j,i<its.length->j<its.length->i≠j->(its.getD i (0,[],[])).2.1≠(its.getD j (0,[],[])).2.1:=λi j hi hj n=>by
  have pw:=cq.mp pw0;have ei:its.getD i (0,[],[])=its[i]:=by simp[hi]
  have ej:its.getD j (0,[],[])=its[j]:=by simp[hj]
  rw[ei,ej];rcases sw n with z | z
  ·exact pw i j hi hj z
  ·exact(pw j i hj hi z).symm
 refine A4 (I.ok.hd hc) hsys ⟨⟨o,g,ex,dd⟩⟩ hv (by rw[hl,ln];right) (λi j hi hj n=>by rw[hl] at hi hj;exact mF _ _ (neX i j hi hj n)) (λh1 tk old two=>GZ hu two htn etn pw0 (λt ht=>?_) (λt ht=>?_)) λh1 tk p' old big pm up=>?_
 ·obtain⟨o,a,b,n,ho,r⟩:=tup t ht;exact⟨o,a,b,n,ao _ (old _ _ ho),r⟩
 ·obtain⟨o,a,b,n,ho,r⟩:=tup t ht;exact fu (az (old _ _ ho))
 ·rw[hl] at pm up
  let its':=p'.toList.map λi=>its.getD i (0,[],[])
  have perm:its'.Perm its:=CK pm its rfl _;have ne:∀i j,i<its.length->j<its.length->i≠j->(its.getD i (0,[],[])).2.1≠(its.getD j (0,[],[])).2.1:=λi j hi hj n=>by
   have pw:=cq.mp pw0;have ei:its.getD i (0,[],[])=its[i]:=by simp[hi]
   have ej:its.getD j (0,[],[])=its[j]:=by simp[hj]
   rw[ei,ej];rcases sw n with z | z
   ·exact pw i j hi hj z
   ·exact(pw j i hj hi z).symm
  have pw:its'.Pairwise (λt u=>eB t.2.1 u.2.1=aj):=sC pm up its _ _ λi j hi hj b=>by
   rcases b.2 with z | z
   ·exact z
   ·rcases mF _ _ (ne i j hi hj (fu z)) with y | y
    ·exact y
    ·have b1:eB (its.getD j (0,[],[])).2.1 (its.getD i (0,[],[])).2.1=ap:=b.1;rw[b1] at y;cases y
  have ep:picked (its.map λt=>Value.ref t.1) p'=its'.map λt=>Value.ref t.1:=by
   unfold picked;rw[ny];apply sy;intro i hi;have hi':i<its.length:=Sh.mp (pm.list.mem_iff.mp hi);simp[hi']
  rw[ep];have mine:(h1.push (jj "list" (its.map λt=>Value.ref t.1).toArray 0)).get? h1.objs.size=aa (jj "list" (its.map λt=>Value.ref t.1).toArray 0):=bw h1 rfl;have rel:∀l:List Gg,bI (l.map λt=>V.ref t.1) (l.map λt=>Value.ref t.1):=λl=>by
   induction l with
   |nil=>exact .nil
   |cons t r ih=>exact .cons rfl ih
  have hle:(its'.map λt=>V.ref t.1).length<=bh:=by rw[ie,bv,perm.length_eq];right
  have q':=q (its'.map λt=>(t.1,t.2.1)) (by rw[ny,<- e1];exact perm.map _) (by rw[ki];exact pw) (λt ht=>by
   obtain⟨u,hu,rfl⟩:=jx.mp ht;exact(e3 u (perm.mem_iff.mp hu)).1)
  rw[ny] at q';obtain⟨c,at1⟩:=sortedHeap_at (out:=(its'.map λt=>Value.ref t.1).toArray) mine;have low:∀b o,s.heap.get? b=aa o->b<h1.objs.size:=λb o e=>az (old b o e);have le:s.heap.objs.size<=h1.objs.size:=zj big;exact⟨.ref h1.objs.size,_,I.laid (λb o e=>(sortedHeap_old (fu (low b o e)) (by rw[V0];exact Tz (low b o e))).trans (ao _ (old b o e))) le (show cL X.prog X.w _ _ _ (.lst _) from⟨hle,_,c,rel its',at1⟩),rfl,q' _ (I.hok.fresh le)⟩
end L2
namespace Z
open L2
noncomputable def jT:List Dv->(R->Prop)->Prop
 | [.dit kvs],Q=>∃kns:List (List Int),kvs.map (·.1)=kns.map (λl=>l.map ft)/\kvs.length<=1000/\[]∈kns /\ ∀ls:List (List Int),ls.Perm kns->ls.Pairwise (λt u=>eB t u=aj)->Q (.nw (.lst (ls.map λl=>.tup (l.map .int))))
 |_,_=>False
theorem uY(hc:X.calm=aj)(hu:X.A.units+2<lq):l8 X (.builtin "sorted") jT:=by
 refine⟨λds Q Q' w h=>?_,_,yW hc hu,λM O H xs ds Q c h=>?_⟩
 ·unfold jT at *;split at h
  ·obtain⟨kns,a,b,c,q⟩:=h;exact⟨kns,a,b,c,λls x y=>w _ (q ls x y)⟩
  ·exact h
 ·unfold jT at h;split at h
  ·obtain⟨x,rfl,cx⟩:=eL c;obtain⟨a,ep,kvs',rfl,ea,ra⟩:=cx.dit;obtain⟨kns,e1,e2,e3,q⟩:=h;refine⟨a,ep,kvs',kns,rfl,ea,by rw[ra.keys];exact e1,by rw[ra.len];exact e2,e3,λits' p1 p2 p3 l hl=>?_⟩;refine q (its'.map (·.2)) p1 (by rw[ki];exact p2) _ _ (aM.new' hl) (i4 hl ?_);clear q p1 p2;induction its' with
   |nil=>exact .nil
   |cons t r ih=>
    refine .cons (.tup (p3 t (de ..)) (Reps.ints _)) (ih λu hu=>p3 u (di _ hu))
  ·exact h.elim
theorem KB{kvs:List (List bU×Dv)}:(jT [.dit kvs] Q)=(∃kns:List (List Int),kvs.map (·.1)=kns.map (λl=>l.map ft)/\kvs.length<=1000/\[]∈kns /\ ∀ls:List (List Int),ls.Perm kns->ls.Pairwise (λt u=>eB t u=aj)->Q (.nw (.lst (ls.map λl=>.tup (l.map .int))))):=rfl
inductive DF(K:ak)(mg:bn->Option af)(x nm:bn)(st:jl):Prop
 |mk {f:ah} {od an:Option ah} {sl:Array (Option af)} {oc kV dc pm cd ct:af} (a:mg x=aa (.ref f))
  (l:K.lookup f=aa ⟨oc,od,.func (xm nm nm (iG st) (e7 st) (aF st) .none kV dc pm an cd ct),sl⟩) (c:zl K cd nm=aj) (k:nz K (.ref f)=aj)
inductive MF(K:ak)(C:ah)(m qual:bn)(st:jl):Prop
 |mk {f:ah} {od an:Option ah} {sl:Array (Option af)} {oc kV dc pm cd ct:af} (a:ix K (.ref C) m=aa (aa (.ref f))) (i:W9 K (.ref f)=aj)
  (l:K.lookup f=aa ⟨oc,od,.func (xm m qual (iG st) (e7 st) (aF st) .none kV dc pm an cd ct),sl⟩) (c:zl K cd qual=aj) (k:nz K (.ref f)=aj)
noncomputable abbrev C7(x Wm:bn)(st:jl)(ps:List bn):Prop:=∀(kV doc pm:af) (an:Option ah) (cdv ct:af) (us:List af),us.length=ps.length->VR (xm x Wm (iG st) (e7 st) (aF st) .none kV doc pm an cdv ct) ⟨us,[]⟩=io (ps.zip us)
variable {p:List af->Prop}
theorem Qz(h:∀(a:af) (us:List af),us.length=n->p (a::us)):∀us:List af,us.length=n+1->p us
 | [],e=>by cases e
 |a::us,e=>h a us (Nat.succ.inj e)
theorem R0(h:p []):∀us:List af,us.length=0->p us
 | [],_=>h
 |_::_,e=>by cases e
variable {st:jl}
theorem DF.at{x nm:bn}(d:DF K mg x nm st)(h:C7 nm nm st ps:=by intro _ _ _ _ _ _;(repeat refine Z.Qz λ_=>?_);exact Z.R0 rfl):At K mg x nm st ps:=by
 obtain⟨a,l,c,k⟩:=d;have F:=yK l c k;exact⟨_,_,a,F,F.binds h⟩
theorem MF.at{m:bn}(d:MF K C m Wm st)(h:C7 m Wm st ps:=by intro _ _ _ _ _ _;(repeat refine Z.Qz λ_=>?_);exact Z.R0 rfl):MAt K C m Wm st ps:=by
 obtain⟨a,i,l,c,k⟩:=d;have F:=yK l c k;exact⟨_,_,⟨a,i,k⟩,F,F.binds h⟩
theorem MF.ini{x:bn}(d:MF K C "__init__" Wm st)(e:mg x=aa (.ref C))(mk:U0 K C=aj)(kc:nz K (.ref C)=aj)
  (h:C7 "__init__" Wm st ps:=by intro _ _ _ _ _ _;(repeat refine Z.Qz λ_=>?_);exact Z.R0 rfl):IAt K mg x C Wm st ps:=by
 obtain⟨a,i,l,c,k⟩:=d;have F:=yK l c k;exact⟨_,_,⟨mk,a,i,kc⟩,e,F,F.binds h⟩
theorem S9{x:bn}{n:Int}{t:Wi}(h:mg x=aa (.int n t)):∃t,mg x=aa (.int n t):=⟨_,h⟩
end Z
namespace Z
theorem RY:type_of% @Ln.eq_1:=@Ln.eq_1
theorem PL:type_of% @oE.eq_1:=@oE.eq_1
theorem MB:type_of% @rB.eq_1:=@rB.eq_1
theorem JZ:type_of% @A6.eq_1:=@A6.eq_1
theorem Qm:type_of% @NW.eq_1:=@NW.eq_1
theorem PR:type_of% @D8.eq_1:=@D8.eq_1
theorem O4:type_of% @tX.eq_1:=@tX.eq_1
theorem Od:type_of% @Cj.eq_1:=@Cj.eq_1
theorem PM:type_of% @M8.eq_1:=@M8.eq_1
theorem Oc:type_of% @wZ.eq_1:=@wZ.eq_1
theorem Qw:type_of% @GR.eq_1:=@GR.eq_1
theorem M4:type_of% @hZ.eq_1:=@hZ.eq_1
theorem PV:type_of% @D9.eq_1:=@D9.eq_1
theorem Li:type_of% @t7.eq_1:=@t7.eq_1
theorem NO:type_of% @yG.eq_1:=@yG.eq_1
theorem OX:type_of% @Cd.eq_1:=@Cd.eq_1
theorem Qt:type_of% @GP.eq_1:=@GP.eq_1
theorem Qs:type_of% @NX.eq_1:=@NX.eq_1
theorem PJ:type_of% @aO.eq_1:=@aO.eq_1
theorem O1:type_of% @cH.eq_1:=@cH.eq_1
theorem MC:type_of% @Ef.eq_1:=@Ef.eq_1
theorem O3:type_of% @Iy.eq_1:=@Iy.eq_1
theorem M7:type_of% @iS.eq_1:=@iS.eq_1
theorem O2:type_of% @A8.eq_1:=@A8.eq_1
theorem PK:type_of% @cF.eq_1:=@cF.eq_1
theorem O0:type_of% @Ix.eq_1:=@Ix.eq_1
theorem RD:type_of% @kF.eq_1:=@kF.eq_1
theorem PH:type_of% @bB.eq_1:=@bB.eq_1
theorem Ny:type_of% @lW.eq_1:=@lW.eq_1
theorem PN:type_of% @M9.eq_1:=@M9.eq_1
theorem NT:type_of% @freeze.eq_1:=@freeze.eq_1
theorem PU:type_of% @MD.eq_1:=@MD.eq_1
theorem PX:type_of% @v9.eq_1:=@v9.eq_1
theorem Nz:type_of% @Iw.eq_1:=@Iw.eq_1
theorem PP:type_of% @lA.eq_1:=@lA.eq_1
theorem Qj:type_of% @a9.eq_1:=@a9.eq_1
theorem SA:type_of% @eC.eq_1:=@eC.eq_1
theorem Oe:type_of% @aA.eq_1:=@aA.eq_1
theorem Qp:type_of% @aG.eq_1:=@aG.eq_1
theorem RV:type_of% @aK.eq_1:=@aK.eq_1
theorem OZ:type_of% @bS.eq_1:=@bS.eq_1
theorem Qx:type_of% @Ic.eq_1:=@Ic.eq_1
theorem RU:type_of% @EJ.eq_1:=@EJ.eq_1
theorem Qo:type_of% @j8.eq_1:=@j8.eq_1
theorem Oh:type_of% @kZ.eq_1:=@kZ.eq_1
theorem Qn:type_of% @Ib.eq_1:=@Ib.eq_1
theorem Ob:type_of% @wY.eq_1:=@wY.eq_1
theorem RW:type_of% @RX.eq_1:=@RX.eq_1
theorem Qk:type_of% @dY.eq_1:=@dY.eq_1
theorem Qr:type_of% @kM.eq_1:=@kM.eq_1
theorem Qq:type_of% @Dx.eq_1:=@Dx.eq_1
theorem Ql:type_of% @j7.eq_1:=@j7.eq_1
theorem Og:type_of% @aZ.eq_1:=@aZ.eq_1
theorem Qy:type_of% @back.eq_1:=@back.eq_1
theorem RZ:type_of% @gE.eq_1:=@gE.eq_1
theorem Qv:type_of% @rQ.eq_1:=@rQ.eq_1
theorem Of:type_of% @fF.eq_1:=@fF.eq_1
theorem Nw:type_of% @fY.eq_1:=@fY.eq_1
theorem RT:type_of% @Gr.eq_1:=@Gr.eq_1
theorem Oa:type_of% @nR.eq_1:=@nR.eq_1
theorem Lm:type_of% @gY.eq_1:=@gY.eq_1
theorem Qc:type_of% @iF.eq_1:=@iF.eq_1
theorem Lk:type_of% @gX.eq_1:=@gX.eq_1
theorem Lj:type_of% @Ce.eq_1:=@Ce.eq_1
theorem Rx:type_of% @gN.eq_1:=@gN.eq_1
theorem Rv:type_of% @gT.eq_1:=@gT.eq_1
theorem M2:type_of% @aI.eq_1:=@aI.eq_1
theorem NY:type_of% @rR.eq_1:=@rR.eq_1
theorem O6:type_of% @eN.eq_1:=@eN.eq_1
end Z
local macro_rules | `(tactic| push_cast [$xs,*])=>do
  let a:Array (Lean.TSyntax `Lean.Parser.Tactic.simpLemma) <- (("RY PL MB JZ Pu Qm O8 PR O4 Od PM Oc Qw M4 M3 PV Mw Ms Mu Li NO OX Qt Qs PJ O1 MC O3 M7 O2 PK O0 RD PH Ny PN NT PU PX Nz PP Qj SA Oe Qp RV OZ Qx RU Qo Oh Qn Ob RW Qk Qr Qq Ql Og Qy RZ Qv Of Nw RT Oa Lm Qc Lk Lj Rx Rv M2 NY OT O7 OH OQ My OI Mp O9 OS OR OG Py Pv OA Pw OB Pz Pl Q3 Pn OM OC OP OF ON OD OO OE RJ RH RI RG RF RE Ps Pq Pr Q5 Po Pp Mm Ml OL OJ Q4 Pj p9 sN O6 reduceIte Z.JY Z.BJ Z.KB".splitOn " ").toArray.mapM λn=>`(Lean.Parser.Tactic.simpLemma| ↓ $(Lean.mkIdent n.toName):term))
  let b:Array (Lean.TSyntax `Lean.Parser.Tactic.simpLemma) <- (("SL SN SM SC SE SD SI SK SJ SF SH SG Qh dM cP Qa OW RO RS RR RM RL RQ RN Ow Oq Ov Os Oo Ot Op Rf Re Rc Rb Ra QZ QY QU QR QQ QP QN QM QL QK QJ QH QF QD QC beq_self_eq_true List.getElem?_cons_zero List.getElem?_cons_succ List.set_cons_zero List.set_cons_succ List.map_cons List.map_nil List.cons_append List.nil_append List.append_nil List.length_cons List.length_nil List.replicate_succ List.replicate_zero List.all_cons List.all_nil Option.getD_some Bool.and_true Bool.true_and if_true Bool.false_eq_true if_false true_and and_true true_or decide_eq_true_eq decide_true decide_false Bool.not_true Bool.not_false List.not_mem_nil false_imp_iff implies_true lV Nat.reduceSub Nat.reduceAdd Int.reduceEq Int.reduceMul Int.reduceAdd Int.reduceSub Int.reduceNeg Z.guard Int.reduceLT Int.reduceLE Int.reduceToNat Int.reducePow Nat.reduceLT Nat.reduceLeDiff Nat.reducePow zM".splitOn " ").toArray.mapM λn=>`(Lean.Parser.Tactic.simpLemma| $(Lean.mkIdent n.toName):term))
  `(tactic| simp only[$a,*,$b,*,$xs,*])
local macro_rules | `(tactic| ac_nf)=>`(tactic| push_cast [Z.lV])
namespace Lw
open L2 Z
noncomputable def top(i:Nat):jl:=km.main.body.getD i (.Pass ⟨0,0,0,0⟩)
noncomputable abbrev lG:cI:=
 (cF (gE iW (aA (gE mC (aA (aK wK (a9 0) (dY (aA (a9 1) aG))) aG)) aG)))
variable {cS aY b6 aV bD aQ:Fn}{bC:ah}
section
local macro_rules | `(tactic| norm_cast)=>`(tactic| exact⟨rfl,rfl,rfl,by decide +kernel,rfl,by decide +kernel,by decide +kernel⟩)
theorem yM(P:au)(w:bt)(mg:bn->Option af)(base:cm)(m:At K mg "with_band" "with_band" (top 8) ["below", "band"])(d7:mg "sorted" = aq)(c7:mg "tuple" = aq)(len:∀ds Q,sp ds Q->ds.length=2)(hsp:∀ds Q,sp ds Q->lG  ↥Q (aI ["below", "band"] ds)):Def P w K mg base 1 "with_band" ["below", "band"] (low K sp):=by
 have sc:FnScope ["below", "band"] ["below", "band"] (aF (top 8)):=by norm_cast
 refine m.okP (k:=0) (t:=lG ) sc (λf cdv A outer s H E hr=>?_) len hsp
 ·
  exact(aJ (bH (gB mO rfl c7 pz (a8 (bA Bz rfl d7 va (a8 (aP AR (a7 0 (pv 0)) (dB (a8 (a7 1 (pv 1)) aD))) aD)) aD))))
noncomputable abbrev o9:cI:=
 (cF (kZ (rQ "int" (a9 0)) (wY (rQ "bool" (a9 0)))))
theorem Au(P:au)(w:bt)(mg:bn->Option af)(base:cm)(m:At K mg "is_whole" "is_whole" (top 10) ["thing"])(aN:mg "isinstance" = aq)(vW:mg "int" = aq)(qU:mg "bool" = aq)(len:∀ds Q,sp ds Q->ds.length=1)(hsp:∀ds Q,sp ds Q->o9  ↥Q (aI ["thing"] ds)):Def P w K mg base 1 "is_whole" ["thing"] (low K sp):=by
 have sc:FnScope ["thing"] ["thing"] (aF (top 10)):=by norm_cast
 refine m.okP (k:=0) (t:=o9 ) sc (λf cdv A outer s H E hr=>?_) len hsp
 ·
  exact(aJ (bH (pV (nN (.inl rfl) rfl aN (a7 0 (pv 0)) (gC (v:=.ty "int") rfl vW boot_int rfl)) (sF (Em (nN (.inr (.inl rfl)) rfl aN (a7 0 (pv 0)) (gC (v:=.ty "bool") rfl qU boot_bool rfl)))))))
noncomputable abbrev mP:cI:=
 (aO (bB 2 (aK eY (a9 0) (a9 1)))
 (aO (bB 0 (a9 1))
 (bB 1 (a9 2))))
noncomputable abbrev fQ:cI:=
 (aO (bB 0 (gE vF (aA (a9 0) aG)))
 (aO (bB 1 (gE vF (aA (a9 1) aG)))
 (aO (BI (bS (aK wI (a9 1) (eC (.int 0)))) mP)
 (cF (a9 0)))))
theorem nJ(P:au)(w:bt)(mg:bn->Option af)(base:cm)(m:At K mg "greatest_divisor" "greatest_divisor" (top 12) ["one", "other"])(jA:mg "abs" = aq)(len:∀ds Q,sp ds Q->ds.length=2)(hsp:∀ds Q,sp ds Q->fQ  ↥Q (aI ["one", "other", "rest"] ds)):Def P w K mg base 1 "greatest_divisor" ["one", "other"] (low K sp):=by
 have sc:FnScope ["one", "other", "rest"] ["one", "other"] (aF (top 12)):=by norm_cast
 refine m.okP (k:=0) (t:=fQ ) sc (λf cdv A outer s H E hr=>?_) len hsp
 ·
  have hu:=hr.units;exact(aB (b7 (i:=0) sc.nd rfl (.inl rfl) (bA rY rfl jA zy (a8 (a7 0 (pv 0)) aD)))
 (aB (b7 (i:=1) sc.nd rfl (.inl rfl) (bA rY rfl jA zy (a8 (a7 1 (pv 1)) aD)))
 (aB (CG dw (cK (iX hu) (a7 1 (pv 1)) aE) (aB (b7 (i:=2) sc.nd rfl (.inl rfl) (aP cM (a7 0 (pv 0)) (a7 1 (pv 1))))
 (aB (b7 (i:=0) sc.nd rfl (.inl rfl) (a7 1 (pv 1)))
 (aJ (b7 (i:=1) sc.nd rfl (.inl rfl) (a7 2 (pv 2)))))))
 (aJ (bH (a7 0 (pv 0)))))))
noncomputable abbrev fR(cB:Fn):cI:=
 (cF (aZ cB (aA (aZ cB (aA (a9 0) (aA (a9 1) aG))) (aA (a9 2) aG))))
theorem nK(P:au)(w:bt)(mg:bn->Option af)(base:cm){cB:Fn}(m:At K mg "divisor_of_three" "divisor_of_three" (top 13) ["one", "other", "third"])(eK:Def P w K mg base 1 "greatest_divisor" ["one", "other"] (low K cB))(i6:MonoF cB)(len:∀ds Q,sp ds Q->ds.length=3)(hsp:∀ds Q,sp ds Q->fR cB ↥Q (aI ["one", "other", "third"] ds)):Def P w K mg base 2 "divisor_of_three" ["one", "other", "third"] (low K sp):=by
 have sc:FnScope ["one", "other", "third"] ["one", "other", "third"] (aF (top 13)):=by norm_cast
 refine m.okP (k:=1) (t:=fR cB) sc (λf cdv A outer s H E hr=>?_) len hsp
 ·
  exact(aJ (bH (aT eK i6 (hr.mono ∅) (a8 (aT eK i6 (hr.mono ∅) (a8 (a7 0 (pv 0)) (a8 (a7 1 (pv 1)) aD))) (a8 (a7 2 (pv 2)) aD)))))
noncomputable abbrev qW(cS aY:Fn):cI:=
 (aO (kF (EJ (j8 (j7 (rQ "tuple" (a9 0)))) (bS (aK wI (gE gD (aA (a9 0) aG)) (eC (.int 3))))) (cF (eC (.bl ap))) cH)
 (aO (kF (j8 (j7 (gE DP (aA (fF 1 [] (iF (a9 0)) (gN 0) fY (aZ cS (aA (a9 0) aG))) aG)))) (cF (eC (.bl ap))) cH)
 (aO (bB 1 (aK cX (a9 0) (eC (.int 0))))
 (aO (bB 2 (aK cX (a9 0) (eC (.int 1))))
 (aO (bB 3 (aK cX (a9 0) (eC (.int 2))))
 (cF (kZ (aK RK (a9 3) (eC (.int 1))) (kZ (aK sG (aK d8 (aK cA (a9 1) (a9 1)) (aK cA (a9 2) (a9 2))) (aK cA (a9 3) (a9 3))) (aK sG (aZ aY (aA (a9 1) (aA (a9 2) (aA (a9 3) aG)))) (eC (.int 1)))))))))))
theorem Bv(P:au)(w:bt)(mg:bn->Option af)(base:cm)(m:At K mg "is_turn" "is_turn" (top 14) ["thing"])(aN:mg "isinstance" = aq)(c7:mg "tuple" = aq)(cG:mg "len" = aq)(vX:mg "all" = aq)(gS:Def P w K mg base 1 "is_whole" ["thing"] (low K cS))(mD:MonoF cS)(cR:Def P w K mg base 2 "divisor_of_three" ["one", "other", "third"] (low K aY))(fH:MonoF aY)(len:∀ds Q,sp ds Q->ds.length=1)(hsp:∀ds Q,sp ds Q->qW cS aY ↥Q (aI ["thing", "p", "q", "r"] ds)):Def P w K mg base 3 "is_turn" ["thing"] (low K sp):=by
 have sc:FnScope ["thing", "p", "q", "r"] ["thing"] (aF (top 14)):=by norm_cast
 refine m.okP (k:=2) (t:=qW cS aY) sc (λf cdv A outer s H E hr=>?_) len hsp
 ·
  have hu:=hr.units;have hu1:=fE hr;exact(aB (fV (QW.qt (pQ (eJ (eI (nN (.inr (.inr (.inl rfl))) rfl aN (a7 0 (pv 0)) (gC (v:=.ty "tuple") rfl c7 pz rfl)))) (u3 (cK (iX hu) (bA eU rfl cG ju (a8 (a7 0 (pv 0)) aD)) aE)))) (aJ (bH iB)) bX)
 (aB (fV (eJ (eI (bA (Ga rfl) rfl vX boot_all (a8 (u7 ["part"] [] [] rfl (eA (a7 0 (pv 0))) (λfp s H=>(iU (i:=0) (k:=1) (show jp (["part"]:List bn) by decide +kernel) rfl (.inl rfl))) (λfp s H=>iA) (λfp s H=>(aT gS mD (hr.mono ∅) (a8 (a7 0 (pv 0)) aD)))) aD)))) (aJ (bH iB)) bX)
 (aB (b7 (i:=1) sc.nd rfl (.inl rfl) (bM hu1 (a7 0 (pv 0)) aE))
 (aB (b7 (i:=2) sc.nd rfl (.inl rfl) (bM hu1 (a7 0 (pv 0)) aE))
 (aB (b7 (i:=3) sc.nd rfl (.inl rfl) (bM hu1 (a7 0 (pv 0)) aE))
 (aJ (bH (pV (kY KD (a7 3 (pv 3)) aE) (pV (kY (gP hu) (aP bG (aP aR (a7 1 (pv 1)) (a7 1 (pv 1))) (aP aR (a7 2 (pv 2)) (a7 2 (pv 2)))) (aP aR (a7 3 (pv 3)) (a7 3 (pv 3)))) (sF (kY (gP hu) (aT cR fH (hr.mono ∅) (a8 (a7 1 (pv 1)) (a8 (a7 2 (pv 2)) (a8 (a7 3 (pv 3)) aD)))) aE)))))))))))
noncomputable abbrev tN:cI:=
 (aO (bB 2 (aK cX (a9 0) (eC (.int 0))))
 (aO (bB 3 (aK cX (a9 0) (eC (.int 1))))
 (cF (dY (aA (aK gL (aK cA (aK cX (a9 1) (eC (.int 0))) (a9 2)) (aK cA (aK cX (a9 1) (eC (.int 1))) (a9 3))) (aA (aK d8 (aK cA (aK cX (a9 1) (eC (.int 1))) (a9 2)) (aK cA (aK cX (a9 1) (eC (.int 0))) (a9 3))) aG))))))
theorem Dz(P:au)(w:bt)(mg:bn->Option af)(base:cm)(m:At K mg "turned" "turned" (top 15) ["vector", "turn"])(len:∀ds Q,sp ds Q->ds.length=2)(hsp:∀ds Q,sp ds Q->tN  ↥Q (aI ["vector", "turn", "x", "y"] ds)):Def P w K mg base 1 "turned" ["vector", "turn"] (low K sp):=by
 have sc:FnScope ["vector", "turn", "x", "y"] ["vector", "turn"] (aF (top 15)):=by norm_cast
 refine m.okP (k:=0) (t:=tN ) sc (λf cdv A outer s H E hr=>?_) len hsp
 ·
  have hu1:=fE hr;exact(aB (b7 (i:=2) sc.nd rfl (.inl rfl) (bM hu1 (a7 0 (pv 0)) aE))
 (aB (b7 (i:=3) sc.nd rfl (.inl rfl) (bM hu1 (a7 0 (pv 0)) aE))
 (aJ (bH (dB (a8 (aP dZ (aP aR (bM hu1 (a7 1 (pv 1)) aE) (a7 2 (pv 2))) (aP aR (bM hu1 (a7 1 (pv 1)) aE) (a7 3 (pv 3)))) (a8 (aP bG (aP aR (bM hu1 (a7 1 (pv 1)) aE) (a7 2 (pv 2))) (aP aR (bM hu1 (a7 1 (pv 1)) aE) (a7 3 (pv 3)))) aD)))))))
noncomputable abbrev jF(cY:Fn):cI:=
 (aO (oE 1 (a9 4) (eC (.bl aj)))
 (aO (oE 1 (aZ cY (aA (a9 4) (aA (a9 2) aG))) (eC (.bl aj)))
 (aO (oE 1 (aZ cY (aA (a9 4) (aA (a9 3) aG))) (eC (.bl aj)))
 (oE 1 (aZ cY (aA (aZ cY (aA (a9 4) (aA (a9 2) aG))) (aA (a9 3) aG))) (eC (.bl aj))))))
noncomputable abbrev qX(cY:Fn):cI:=
 (aO (lW 1 Ln)
 (aO (lA (iF (a9 0)) (gT [2,3,4]) (jF cY))
 (cF (gE jT (aA (a9 1) aG)))))
theorem Bw(P:au)(w:bt)(mg:bn->Option af)(base:cm){cY:Fn}(m:At K mg "corners" "corners" (top 16) ["floor"])(d7:mg "sorted" = aq)(fZ:Def P w K mg base 1 "with_band" ["below", "band"] (low K cY))(iE:MonoF cY)(len:∀ds Q,sp ds Q->ds.length=1)(hsp:∀ds Q,sp ds Q->qX cY ↥Q (aI ["floor", "told", "a", "b", "below"] ds)):Def P w K mg base 2 "corners" ["floor"] (low K sp):=by
 have sc:FnScope ["floor", "told", "a", "b", "below"] ["floor"] (aF (top 16)):=by norm_cast
 refine m.okP (k:=1) (t:=qX cY) sc (λf cdv A outer s H E hr=>?_) len hsp
 ·
  have hu1:=fE hr;have hu2:=GA hr;exact(aB (lY (i:=1) sc.nd rfl (.inl rfl) xU)
 (aB (iV dw rfl (eA (a7 0 (pv 0))) (xT (k:=5) (is:=[2,3,4]) rfl (bP (cE (i:=2) sc.nd rfl (.inl rfl)) (bP (cE (i:=3) sc.nd rfl (.inl rfl)) (bP (cE (i:=4) sc.nd rfl (.inl rfl)) iC)))) (aB (pS hu1 (i:=1) (pv 1) (a7 4 (pv 4)) iB)
 (aB (pS hu1 (i:=1) (pv 1) (aT fZ iE (hr.mono ∅) (a8 (a7 4 (pv 4)) (a8 (a7 2 (pv 2)) aD))) iB)
 (aB (pS hu1 (i:=1) (pv 1) (aT fZ iE (hr.mono ∅) (a8 (a7 4 (pv 4)) (a8 (a7 3 (pv 3)) aD))) iB)
 (aJ (pS hu1 (i:=1) (pv 1) (aT fZ iE (hr.mono ∅) (a8 (aT fZ iE (hr.mono ∅) (a8 (a7 4 (pv 4)) (a8 (a7 2 (pv 2)) aD))) (a8 (a7 3 (pv 3)) aD))) iB))))))
 (aJ (bH (bA (uY rfl hu2) rfl d7 va (a8 (a7 1 (pv 1)) aD))))))
noncomputable abbrev fP(cS:Fn):cI:=
 (aO (kF (EJ (j8 (j7 (rQ "tuple" (a9 0)))) (bS (aK wI (gE gD (aA (a9 0) aG)) (eC (.int 3))))) (cF (eC (.bl ap))) cH)
 (cF (gE DP (aA (fF 1 [] (iF (a9 0)) (gN 0) fY (aZ cS (aA (a9 0) aG))) aG))))
theorem nI(P:au)(w:bt)(mg:bn->Option af)(base:cm)(m:At K mg "has_three_wholes" "has_three_wholes" (top 24) ["direction"])(aN:mg "isinstance" = aq)(c7:mg "tuple" = aq)(cG:mg "len" = aq)(vX:mg "all" = aq)(gS:Def P w K mg base 1 "is_whole" ["thing"] (low K cS))(mD:MonoF cS)(len:∀ds Q,sp ds Q->ds.length=1)(hsp:∀ds Q,sp ds Q->fP cS ↥Q (aI ["direction"] ds)):Def P w K mg base 2 "has_three_wholes" ["direction"] (low K sp):=by
 have sc:FnScope ["direction"] ["direction"] (aF (top 24)):=by norm_cast
 refine m.okP (k:=1) (t:=fP cS) sc (λf cdv A outer s H E hr=>?_) len hsp
 ·
  have hu:=hr.units;exact(aB (fV (QW.qt (pQ (eJ (eI (nN (.inr (.inr (.inl rfl))) rfl aN (a7 0 (pv 0)) (gC (v:=.ty "tuple") rfl c7 pz rfl)))) (u3 (cK (iX hu) (bA eU rfl cG ju (a8 (a7 0 (pv 0)) aD)) aE)))) (aJ (bH iB)) bX)
 (aJ (bH (bA (Ga rfl) rfl vX boot_all (a8 (u7 ["part"] [] [] rfl (eA (a7 0 (pv 0))) (λfp s H=>(iU (i:=0) (k:=1) (show jp (["part"]:List bn) by decide +kernel) rfl (.inl rfl))) (λfp s H=>iA) (λfp s H=>(aT gS mD (hr.mono ∅) (a8 (a7 0 (pv 0)) aD)))) aD)))))
noncomputable abbrev g9:cI:=
 (cF (kZ (aK Mr (gE vF (aA (aK cX (a9 0) (eC (.int 0))) aG)) (eC (.int 999999999999))) (aK Mr (gE vF (aA (aK cX (a9 0) (eC (.int 1))) aG)) (eC (.int 999999999999)))))
theorem oU(P:au)(w:bt)(mg:bn->Option af)(base:cm)(m:At K mg "has_few_figures" "has_few_figures" (top 25) ["direction"])(jA:mg "abs" = aq)(g8:∃t,mg "LARGEST_PART" = aa (.int 999999999999 t))(len:∀ds Q,sp ds Q->ds.length=1)(hsp:∀ds Q,sp ds Q->g9  ↥Q (aI ["direction"] ds)):Def P w K mg base 1 "has_few_figures" ["direction"] (low K sp):=by
 have sc:FnScope ["direction"] ["direction"] (aF (top 25)):=by norm_cast
 refine m.okP (k:=0) (t:=g9 ) sc (λf cdv A outer s H E hr=>?_) len hsp
 ·
  have hu1:=fE hr;exact(aJ (bH (pV (kY FM (bA rY rfl jA zy (a8 (bM hu1 (a7 0 (pv 0)) aE) aD)) (pU g8)) (sF (kY FM (bA rY rfl jA zy (a8 (bM hu1 (a7 0 (pv 0)) aE) aD)) (pU g8))))))
noncomputable abbrev lH:cI:=
 (cF (Ib (aK Hh (aK cX (a9 0) (eC (.int 1))) (eC (.int 0))) (kZ (aK sG (aK cX (a9 0) (eC (.int 1))) (eC (.int 0))) (aK Hh (aK cX (a9 0) (eC (.int 0))) (eC (.int 0))))))
theorem yN(P:au)(w:bt)(mg:bn->Option af)(base:cm)(m:At K mg "points_up" "points_up" (top 26) ["direction"])(len:∀ds Q,sp ds Q->ds.length=1)(hsp:∀ds Q,sp ds Q->lH  ↥Q (aI ["direction"] ds)):Def P w K mg base 1 "points_up" ["direction"] (low K sp):=by
 have sc:FnScope ["direction"] ["direction"] (aF (top 26)):=by norm_cast
 refine m.okP (k:=0) (t:=lH ) sc (λf cdv A outer s H E hr=>?_) len hsp
 ·
  have hu:=hr.units;have hu1:=fE hr;exact(aJ (bH (Pi (kY rH (bM hu1 (a7 0 (pv 0)) aE) aE) (sF (pV (kY (gP hu) (bM hu1 (a7 0 (pv 0)) aE) aE) (sF (kY rH (bM hu1 (a7 0 (pv 0)) aE) aE)))))))
noncomputable abbrev lI:cI:=
 (cF (aK Hh (aK gL (aK cA (aK cX (a9 1) (eC (.int 0))) (aK cX (a9 0) (eC (.int 1)))) (aK cA (aK cX (a9 0) (eC (.int 0))) (aK cX (a9 1) (eC (.int 1))))) (eC (.int 0))))
theorem yO(P:au)(w:bt)(mg:bn->Option af)(base:cm)(m:At K mg "lies_left" "lies_left" (top 27) ["direction", "ahead"])(len:∀ds Q,sp ds Q->ds.length=2)(hsp:∀ds Q,sp ds Q->lI  ↥Q (aI ["direction", "ahead"] ds)):Def P w K mg base 1 "lies_left" ["direction", "ahead"] (low K sp):=by
 have sc:FnScope ["direction", "ahead"] ["direction", "ahead"] (aF (top 27)):=by norm_cast
 refine m.okP (k:=0) (t:=lI ) sc (λf cdv A outer s H E hr=>?_) len hsp
 ·
  have hu1:=fE hr;exact(aJ (bH (kY rH (aP dZ (aP aR (bM hu1 (a7 1 (pv 1)) aE) (bM hu1 (a7 0 (pv 0)) aE)) (aP aR (bM hu1 (a7 0 (pv 0)) aE) (bM hu1 (a7 1 (pv 1)) aE))) aE)))
noncomputable abbrev gA(cT d4 g4:Fn):cI:=
 (aO (kF (j8 (j7 (aZ cT (aA (a9 0) aG)))) iS cH)
 (aO (kF (j8 (j7 (aZ d4 (aA (a9 0) aG)))) iS cH)
 (aO (kF (j8 (j7 (aZ g4 (aA (a9 0) aG)))) iS cH)
 (kF (bS (aK KC (aK cX (a9 0) (eC (.int 2))) (eC (.int 1)))) iS cH))))
theorem oV(P:au)(w:bt)(mg:bn->Option af)(base:cm){cT d4 g4:Fn}(m:At K mg "check_direction" "check_direction" (top 28) ["direction"])(fW:Def P w K mg base 2 "has_three_wholes" ["direction"] (low K cT))(nE:MonoF cT)(gF:Def P w K mg base 1 "has_few_figures" ["direction"] (low K d4))(oO:MonoF d4)(mH:Def P w K mg base 1 "points_up" ["direction"] (low K g4))(y7:MonoF g4)(len:∀ds Q,sp ds Q->ds.length=1)(hsp:∀ds Q,sp ds Q->gA cT d4 g4 ↥Q (aI ["direction"] ds)):Def P w K mg base 3 "check_direction" ["direction"] (low K sp):=by
 have sc:FnScope ["direction"] ["direction"] (aF (top 28)):=by norm_cast
 refine m.okP (k:=2) (t:=gA cT d4 g4) sc (λf cdv A outer s H E hr=>?_) len hsp
 ·
  have hu1:=fE hr;exact(aB (fV (eJ (eI (aT fW nE (hr.mono ∅) (a8 (a7 0 (pv 0)) aD)))) (aJ jC) bX)
 (aB (fV (eJ (eI (aT gF oO (hr.mono ∅) (a8 (a7 0 (pv 0)) aD)))) (aJ jC) bX)
 (aB (fV (eJ (eI (aT mH y7 (hr.mono ∅) (a8 (a7 0 (pv 0)) aD)))) (aJ jC) bX)
 (aJ (fV (cK xZ (bM hu1 (a7 0 (pv 0)) aE) aE) (aJ jC) bX)))))
noncomputable abbrev hV(bJ dC:Fn):cI:=
 (A8 (aZ bJ (aA (a9 1) aG)))
noncomputable abbrev fA(bJ dC:Fn):cI:=
 (kF (j8 (j7 (aZ dC (aA (a9 1) (aA (a9 2) aG))))) iS cH)
noncomputable abbrev fS(bJ dC:Fn):cI:=
 (aO (kF (j8 (j7 (rQ "list" (a9 0)))) iS cH)
 (aO (kF (j8 (bS (rR Mr Mr (eC (.int 2)) (gE gD (aA (a9 0) aG)) (eC (.int 6))))) iS cH)
 (aO (lA (iF (a9 0)) (gN 1) (hV bJ dC))
 (aO (kF (bS (aK Hh (gE Ba (aA (fF 1 [] (iF (a9 0)) (gN 0) fY (aK cX (a9 0) (eC (.int 2)))) aG)) (eC (.int 12)))) iS cH)
 (lA (Cd (aA (a9 0) (aA (Gr (a9 0) (nR (eC (.int 1))) gY) aG))) (gT [2,1]) (fA bJ dC))))))
theorem nL(P:au)(w:bt)(mg:bn->Option af)(base:cm){bJ dC:Fn}(m:At K mg "check_directions" "check_directions" (top 29) ["directions"])(aN:mg "isinstance" = aq)(e9:mg "list" = aq)(cG:mg "len" = aq)(tH:mg "sum" = aq)(EN:mg "zip" = aq)(fG:∃t,mg "FEWEST_DIRECTIONS" = aa (.int 2 t))(g7:∃t,mg "MOST_DIRECTIONS" = aa (.int 6 t))(k4:∃t,mg "MOST_BANDS" = aa (.int 12 t))(gG:Def P w K mg base 3 "check_direction" ["direction"] (low K bJ))(oP:MonoF bJ)(mJ:Def P w K mg base 1 "lies_left" ["direction", "ahead"] (low K dC))(y8:MonoF dC)(len:∀ds Q,sp ds Q->ds.length=1)(hsp:∀ds Q,sp ds Q->fS bJ dC ↥Q (aI ["directions", "direction", "ahead"] ds)):Def P w K mg base 4 "check_directions" ["directions"] (low K sp):=by
 have sc:FnScope ["directions", "direction", "ahead"] ["directions"] (aF (top 29)):=by norm_cast
 refine m.okP (k:=3) (t:=fS bJ dC) sc (λf cdv A outer s H E hr=>?_) len hsp
 ·
  have hu1:=fE hr;exact(aB (fV (eJ (eI (nN (.inr (.inr (.inr (.inl rfl)))) rfl aN (a7 0 (pv 0)) (gC (v:=.ty "list") rfl e9 vt rfl)))) (aJ jC) bX)
 (aB (fV (eJ (Ek FP FP (pU fG) (bA eU rfl cG ju (a8 (a7 0 (pv 0)) aD)) (pU g7))) (aJ jC) bX)
 (aB (iV dw rfl (eA (a7 0 (pv 0))) (iU (i:=1) (k:=3) sc.nd rfl (.inl rfl)) (aJ (Et (aT gG oP (hr.mono ∅) (a8 (a7 1 (pv 1)) aD)))))
 (aB (fV (cK rH (bA (By rfl) rfl tH W3 (a8 (u7 ["direction"] [] [] rfl (eA (a7 0 (pv 0))) (λfp s H=>(iU (i:=0) (k:=1) (show jp (["direction"]:List bn) by decide +kernel) rfl (.inl rfl))) (λfp s H=>iA) (λfp s H=>(bM hu1 (a7 0 (pv 0)) aE))) aD)) (pU k4)) (aJ jC) bX)
 (aJ (iV dw rfl (Jf rfl EN (a8 (a7 0 (pv 0)) (a8 (mX (a7 0 (pv 0)) (mV aE) mW) aD))) (xT (k:=3) (is:=[2,1]) rfl (bP (cE (i:=2) sc.nd rfl (.inl rfl)) (bP (cE (i:=1) sc.nd rfl (.inl rfl)) iC))) (aJ (fV (eJ (eI (aT mJ y8 (hr.mono ∅) (a8 (a7 1 (pv 1)) (a8 (a7 2 (pv 2)) aD))))) (aJ jC) bX))))))))
noncomputable abbrev qS(C:ah)(bQ:Fn):cI:=
 (D8 2 (aK cA (kM (aA (a9 3) aG)) (aK cX (a9 4) (eC (.int 2)))))
noncomputable abbrev BD(C:ah)(bQ:Fn):cI:=
 (aO (A8 (aZ bQ (aA (a9 1) aG)))
 (aO (lW 2 (kM aG))
 (aO (lA (yG (aA (a9 1) aG)) (gT [3,4]) (qS C bQ))
 (aO (tX C 0 "kinds" (gE iW (aA (a9 2) aG)))
 (tX C 0 "vectors" (gE iW (aA (fF 1 [] (iF (a9 1)) (gN 0) fY (dY (aA (aK cX (a9 0) (eC (.int 0))) (aA (aK cX (a9 0) (eC (.int 1))) aG)))) aG)))))))
theorem Ie(P:au)(w:bt)(mg:bn->Option af)(base:cm){bQ:Fn}(m:IAt K mg "Sides" C "Sides.__init__" (kK (top 30) 0) ["self", "directions"])(lD:mg "enumerate" = aq)(c7:mg "tuple" = aq)(cl:Cls K C)(n4:i5 K C "kinds")(iJ:i5 K C "vectors")(fX:Def P w K mg base 4 "check_directions" ["directions"] (low K bQ))(nF:MonoF bQ)(len:∀ds Q,sp ds Q->ds.length+1=2)(hsp:∀ds Q,sp ds Q -> ∀a,BD C bQ { nx:=λρ=>∃d,ρ[0]?=aa (.own a d)/\Q (.nw d),rt:=λ_=>False } (hZ C a ["self", "directions", "kinds", "number", "direction"] ds)):IDef P w K mg base 5 "Sides" C ["self", "directions"] sp:=by
 have sc:FnScope ["self", "directions", "kinds", "number", "direction"] ["self", "directions"] (aF (kK (top 30) 0)):=by norm_cast
 refine m.okP (k:=4) (t:=BD C bQ) sc (λf cdv A outer s H E hr=>?_) len hsp
 ·
  have hu1:=fE hr;exact(aB (Et (aT fX nF (hr.mono ∅) (a8 (a7 1 (pv 1)) aD)))
 (aB (lY (i:=2) sc.nd rfl (.inl rfl) (jR aD))
 (aB (iV dw rfl (HI rfl lD (a8 (a7 1 (pv 1)) aD)) (xT (k:=5) (is:=[3,4]) rfl (bP (cE (i:=3) sc.nd rfl (.inl rfl)) (bP (cE (i:=4) sc.nd rfl (.inl rfl)) iC))) (aJ (MX (i:=2) (pv 2) (aP aR (jR (a8 (a7 3 (pv 3)) aD)) (bM hu1 (a7 4 (pv 4)) aE)))))
 (aB (Eu (i:=0) cl n4 (pv 0) (gB mO rfl c7 pz (a8 (a7 2 (pv 2)) aD)))
 (aJ (Eu (i:=0) cl iJ (pv 0) (gB mO rfl c7 pz (a8 (u7 ["direction"] [] [] rfl (eA (a7 1 (pv 1))) (λfp s H=>(iU (i:=0) (k:=1) (show jp (["direction"]:List bn) by decide +kernel) rfl (.inl rfl))) (λfp s H=>iA) (λfp s H=>(dB (a8 (bM hu1 (a7 0 (pv 0)) aE) (a8 (bM hu1 (a7 0 (pv 0)) aE) aD))))) aD))))))))
noncomputable abbrev tM(C:ah):cI:=
 (cF (aK cX (GR C "vectors" (a9 0)) (aK cX (GR C "kinds" (a9 0)) (a9 1))))
theorem Dy(P:au)(w:bt)(mg:bn->Option af)(base:cm)(m:MAt K C "vector" "Sides.vector" (kK (top 30) 3) ["self", "band"])(cl:Cls K C)(iJ:i5 K C "vectors")(n4:i5 K C "kinds")(len:∀ds Q,sp ds Q->ds.length=2)(hsp:∀ds Q,sp ds Q->tM C  ↥Q (aI ["self", "band"] ds)):MDef P w K mg base 1 C "vector" ["self", "band"] (low K sp):=by
 have sc:FnScope ["self", "band"] ["self", "band"] (aF (kK (top 30) 3)):=by norm_cast
 refine m.okP (k:=0) (t:=tM C ) sc (λf cdv A outer s H E hr=>?_) len hsp
 ·
  have hu1:=fE hr;exact(aJ (bH (bM hu1 (J0 cl iJ (a7 0 (pv 0))) (bM hu1 (J0 cl n4 (a7 0 (pv 0))) (a7 1 (pv 1))))))
noncomputable abbrev tO(C:ah)(j4:Fn):cI:=
 (aO (bB 2 (gE Ba (aA (fF 1 [0] (iF (a9 1)) (gN 0) fY (aK cX (wZ C "vector" j4 (a9 1) (aA (a9 0) aG)) (eC (.int 0)))) aG)))
 (aO (bB 3 (gE Ba (aA (fF 1 [0] (iF (a9 1)) (gN 0) fY (aK cX (wZ C "vector" j4 (a9 1) (aA (a9 0) aG)) (eC (.int 1)))) aG)))
 (cF (dY (aA (a9 2) (aA (a9 3) aG))))))
theorem E2(P:au)(w:bt)(mg:bn->Option af)(base:cm){j4:Fn}(m:At K mg "corner" "corner" (top 7) ["sides", "below"])(tH:mg "sum" = aq)(cl:Cls K C)(qP:MDef P w K mg base 1 C "vector" ["self", "band"] (low K j4))(wM:MonoF j4)(len:∀ds Q,sp ds Q->ds.length=2)(hsp:∀ds Q,sp ds Q->tO C j4 ↥Q (aI ["sides", "below", "x", "y"] ds)):Def P w K mg base 2 "corner" ["sides", "below"] (low K sp):=by
 have sc:FnScope ["sides", "below", "x", "y"] ["sides", "below"] (aF (top 7)):=by norm_cast
 refine m.okP (k:=1) (t:=tO C j4) sc (λf cdv A outer s H E hr=>?_) len hsp
 ·
  have hu1:=fE hr;exact(aB (b7 (i:=2) sc.nd rfl (.inl rfl) (bA (By rfl) rfl tH W3 (a8 (u7 ["band"] ["sides"] [0] rfl (eA (a7 1 (pv 1))) (λfp s H=>(iU (i:=0) (k:=1) (show jp (["band", "sides"]:List bn) by decide +kernel) rfl (.inl rfl))) (λfp s H=>iA) (λfp s H=>(bM hu1 (Ep cl qP wM (hr.mono ∅) (a7 1 (pv 1)) (a8 (a7 0 (pv 0)) aD)) aE))) aD)))
 (aB (b7 (i:=3) sc.nd rfl (.inl rfl) (bA (By rfl) rfl tH W3 (a8 (u7 ["band"] ["sides"] [0] rfl (eA (a7 1 (pv 1))) (λfp s H=>(iU (i:=0) (k:=1) (show jp (["band", "sides"]:List bn) by decide +kernel) rfl (.inl rfl))) (λfp s H=>iA) (λfp s H=>(bM hu1 (Ep cl qP wM (hr.mono ∅) (a7 1 (pv 1)) (a8 (a7 0 (pv 0)) aD)) aE))) aD)))
 (aJ (bH (dB (a8 (a7 2 (pv 2)) (a8 (a7 3 (pv 3)) aD)))))))
noncomputable abbrev jJ(j5 jW aY:Fn):cI:=
 (aO (bB 4 (aK cX (a9 3) (eC (.int 2))))
 (aO (bB 5 (aZ j5 (aA (a9 0) (aA (fF 1 [2] (iF (a9 1)) (gN 0) (bS (aK uC (a9 0) (a9 1))) (a9 0)) aG))))
 (aO (bB 6 (aZ jW (aA (aZ j5 (aA (a9 0) (aA (fF 1 [2] (iF (a9 1)) (gN 0) (bS (aK J6 (a9 0) (a9 1))) (a9 0)) aG))) (aA (a9 3) aG))))
 (aO (bB 7 (aK d8 (aK cA (aK cX (a9 5) (eC (.int 0))) (a9 4)) (aK cX (a9 6) (eC (.int 0)))))
 (aO (bB 8 (aK d8 (aK cA (aK cX (a9 5) (eC (.int 1))) (a9 4)) (aK cX (a9 6) (eC (.int 1)))))
 (aO (bB 9 (aZ aY (aA (a9 7) (aA (a9 8) (aA (a9 4) aG)))))
 (cF (dY (aA (a9 1) (aA (aK fD (a9 7) (a9 9)) (aA (aK fD (a9 8) (a9 9)) (aA (aK fD (a9 4) (a9 9)) aG))))))))))))
theorem uV(P:au)(w:bt)(mg:bn->Option af)(base:cm){j5 jW:Fn}(m:At K mg "bent_corner" "bent_corner" (top 17) ["sides", "below", "some", "turn"])(qQ:Def P w K mg base 2 "corner" ["sides", "below"] (low K j5))(wN:MonoF j5)(uW:Def P w K mg base 1 "turned" ["vector", "turn"] (low K jW))(DW:MonoF jW)(cR:Def P w K mg base 2 "divisor_of_three" ["one", "other", "third"] (low K aY))(fH:MonoF aY)(len:∀ds Q,sp ds Q->ds.length=4)(hsp:∀ds Q,sp ds Q->jJ j5 jW aY ↥Q (aI ["sides", "below", "some", "turn", "r", "still", "moved", "x", "y", "divisor"] ds)):Def P w K mg base 3 "bent_corner" ["sides", "below", "some", "turn"] (low K sp):=by
 have sc:FnScope ["sides", "below", "some", "turn", "r", "still", "moved", "x", "y", "divisor"] ["sides", "below", "some", "turn"] (aF (top 17)):=by norm_cast
 refine m.okP (k:=2) (t:=jJ j5 jW aY) sc (λf cdv A outer s H E hr=>?_) len hsp
 ·
  have hu1:=fE hr;have hu65:=CA hr;exact(aB (b7 (i:=4) sc.nd rfl (.inl rfl) (bM hu1 (a7 3 (pv 3)) aE))
 (aB (b7 (i:=5) sc.nd rfl (.inl rfl) (aT qQ wN (hr.mono ∅) (a8 (a7 0 (pv 0)) (a8 (u7 ["band"] ["some"] [2] rfl (eA (a7 1 (pv 1))) (λfp s H=>(iU (i:=0) (k:=1) (show jp (["band", "some"]:List bn) by decide +kernel) rfl (.inl rfl))) (λfp s H=>(pR (cK (DR hu65 hu1) (a7 0 (pv 0)) (a7 1 (pv 1))))) (λfp s H=>(a7 0 (pv 0)))) aD))))
 (aB (b7 (i:=6) sc.nd rfl (.inl rfl) (aT uW DW (hr.mono ∅) (a8 (aT qQ wN (hr.mono ∅) (a8 (a7 0 (pv 0)) (a8 (u7 ["band"] ["some"] [2] rfl (eA (a7 1 (pv 1))) (λfp s H=>(iU (i:=0) (k:=1) (show jp (["band", "some"]:List bn) by decide +kernel) rfl (.inl rfl))) (λfp s H=>(pR (cK (FN hu65 hu1) (a7 0 (pv 0)) (a7 1 (pv 1))))) (λfp s H=>(a7 0 (pv 0)))) aD))) (a8 (a7 3 (pv 3)) aD))))
 (aB (b7 (i:=7) sc.nd rfl (.inl rfl) (aP bG (aP aR (bM hu1 (a7 5 (pv 5)) aE) (a7 4 (pv 4))) (bM hu1 (a7 6 (pv 6)) aE)))
 (aB (b7 (i:=8) sc.nd rfl (.inl rfl) (aP bG (aP aR (bM hu1 (a7 5 (pv 5)) aE) (a7 4 (pv 4))) (bM hu1 (a7 6 (pv 6)) aE)))
 (aB (b7 (i:=9) sc.nd rfl (.inl rfl) (aT cR fH (hr.mono ∅) (a8 (a7 7 (pv 7)) (a8 (a7 8 (pv 8)) (a8 (a7 4 (pv 4)) aD)))))
 (aJ (bH (dB (a8 (a7 1 (pv 1)) (a8 (aP dI (a7 7 (pv 7)) (a7 9 (pv 9))) (a8 (aP dI (a7 8 (pv 8)) (a7 9 (pv 9))) (a8 (aP dI (a7 4 (pv 4)) (a7 9 (pv 9))) aD)))))))))))))
noncomputable abbrev xL(bC:ah)(Ψ:Gv->Prop)(iK iL eR:Fn):cI:=
 (aO (kF (j8 (j7 (aZ iK (aA (a9 3) aG)))) (BJ Ψ bC (aA (eC (.str "a turn is (p, q, r), r from 1 on, p p + q q = r r, with no common part")) aG)) cH)
 (cF (fF 1 [0,2,3] (iF (aZ iL (aA (a9 1) aG))) (gN 0) fY (aZ eR (aA (a9 1) (aA (a9 0) (aA (a9 2) (aA (a9 3) aG))))))))
theorem GU(P:au)(w:bt)(mg:bn->Option af)(base:cm){iK iL eR:Fn}{sp:EK}(m:At K mg "bent" "bent" (top 18) ["sides", "floor", "some", "turn"])(jU:mg "NoTurn" = aa (.ref bC))(u0:C4 K bC)(rV:Def P w K mg base 3 "is_turn" ["thing"] (low K iK))(Bj:MonoF iK)(rW:Def P w K mg base 2 "corners" ["floor"] (low K iL))(Bk:MonoF iL)(jN:Def P w K mg base 3 "bent_corner" ["sides", "below", "some", "turn"] (low K eR))(uJ:MonoF eR)(len:∀ds Q Ψ,sp ds Q Ψ->ds.length=4)(hsp:∀ds Q Ψ,sp ds Q Ψ->xL bC Ψ iK iL eR ↥Q (aI ["sides", "floor", "some", "turn"] ds)):DefX P w K mg base 4 "bent" ["sides", "floor", "some", "turn"] (lowX K sp):=by
 have sc:FnScope ["sides", "floor", "some", "turn"] ["sides", "floor", "some", "turn"] (aF (top 18)):=by norm_cast
 refine m.okX (k:=3) (t:=λΨ=>xL bC Ψ iK iL eR) sc (λf cdv A outer s H E F Ψ hr hE=>?_) len hsp
 ·
  have hS:∀H2,aM H H2->aM H H2:=λ_ z=>z;exact(JI (Om (eJ (eI (aT rV Bj (hr.mono ∅) (a8 (a7 3 (pv 3)) aD)))) (Io (EL hS hr.hd hE jU u0 rfl (a8 El aD))) (QSs.x bX))
 (Io (QS.x (bH (u7 ["below"] ["sides", "some", "turn"] [0,2,3] rfl (eA (aT rW Bk (hr.mono ∅) (a8 (a7 1 (pv 1)) aD))) (λfp s H=>(iU (i:=0) (k:=1) (show jp (["below", "sides", "some", "turn"]:List bn) by decide +kernel) rfl (.inl rfl))) (λfp s H=>iA) (λfp s H=>(aT jN uJ (hr.mono ∅) (a8 (a7 1 (pv 1)) (a8 (a7 0 (pv 0)) (a8 (a7 2 (pv 2)) (a8 (a7 3 (pv 3)) aD)))))))))))
noncomputable abbrev jI:cI:=
 (aO (kF (bS (aK KC (a9 1) (gE gD (aA (a9 0) aG)))) (cF (aK cX (a9 0) (a9 1))) cH)
 (cF (eC (.int 5))))
theorem uU(P:au)(w:bt)(mg:bn->Option af)(base:cm)(m:At K mg "_law_cell_at" "_law_cell_at" (top 32) ["_law_script", "_law_k"])(cG:mg "len" = aq)(len:∀ds Q,sp ds Q->ds.length=2)(hsp:∀ds Q,sp ds Q->jI  ↥Q (aI ["_law_script", "_law_k"] ds)):Def P w K mg base 1 "_law_cell_at" ["_law_script", "_law_k"] (low K sp):=by
 have sc:FnScope ["_law_script", "_law_k"] ["_law_script", "_law_k"] (aF (top 32)):=by norm_cast
 refine m.okP (k:=0) (t:=jI ) sc (λf cdv A outer s H E hr=>?_) len hsp
 ·
  have hu1:=fE hr;exact(aB (fV (cK xZ (a7 1 (pv 1)) (bA eU rfl cG ju (a8 (a7 0 (pv 0)) aD))) (aJ (bH (bM hu1 (a7 0 (pv 0)) (a7 1 (pv 1))))) bX)
 (aJ (bH aE)))
noncomputable abbrev lJ:cI:=
 (cF (kZ (rQ "int" (a9 0)) (wY (rQ "bool" (a9 0)))))
theorem yP(P:au)(w:bt)(mg:bn->Option af)(base:cm)(m:At K mg "_law_whole" "_law_whole" (top 33) ["_law_found"])(aN:mg "isinstance" = aq)(vW:mg "int" = aq)(qU:mg "bool" = aq)(len:∀ds Q,sp ds Q->ds.length=1)(hsp:∀ds Q,sp ds Q->lJ  ↥Q (aI ["_law_found"] ds)):Def P w K mg base 1 "_law_whole" ["_law_found"] (low K sp):=by
 have sc:FnScope ["_law_found"] ["_law_found"] (aF (top 33)):=by norm_cast
 refine m.okP (k:=0) (t:=lJ ) sc (λf cdv A outer s H E hr=>?_) len hsp
 ·
  exact(aJ (bH (pV (nN (.inl rfl) rfl aN (a7 0 (pv 0)) (gC (v:=.ty "int") rfl vW boot_int rfl)) (sF (Em (nN (.inr (.inl rfl)) rfl aN (a7 0 (pv 0)) (gC (v:=.ty "bool") rfl qU boot_bool rfl)))))))
noncomputable abbrev gI(eD:Fn):cI:=
 (kF (j8 (j7 (aZ eD (aA (a9 1) aG)))) (cF (eC (.bl ap))) cH)
noncomputable abbrev k7(eD:Fn):cI:=
 (aO (kF (j8 (j7 (rQ "tuple" (a9 0)))) (cF (eC (.bl ap))) cH)
 (aO (lA (iF (a9 0)) (gN 1) (gI eD))
 (cF (eC (.bl aj)))))
theorem vJ(P:au)(w:bt)(mg:bn->Option af)(base:cm){eD:Fn}(m:At K mg "_law_wholes" "_law_wholes" (top 34) ["_law_found"])(aN:mg "isinstance" = aq)(c7:mg "tuple" = aq)(mK:Def P w K mg base 1 "_law_whole" ["_law_found"] (low K eD))(yA:MonoF eD)(len:∀ds Q,sp ds Q->ds.length=1)(hsp:∀ds Q,sp ds Q->k7 eD ↥Q (aI ["_law_found", "_law_number"] ds)):Def P w K mg base 2 "_law_wholes" ["_law_found"] (low K sp):=by
 have sc:FnScope ["_law_found", "_law_number"] ["_law_found"] (aF (top 34)):=by norm_cast
 refine m.okP (k:=1) (t:=k7 eD) sc (λf cdv A outer s H E hr=>?_) len hsp
 ·
  exact(aB (fV (eJ (eI (nN (.inr (.inr (.inl rfl))) rfl aN (a7 0 (pv 0)) (gC (v:=.ty "tuple") rfl c7 pz rfl)))) (aJ (bH iB)) bX)
 (aB (iV dw rfl (eA (a7 0 (pv 0))) (iU (i:=1) (k:=2) sc.nd rfl (.inl rfl)) (aJ (fV (eJ (eI (aT mK yA (hr.mono ∅) (a8 (a7 1 (pv 1)) aD)))) (aJ (bH iB)) bX)))
 (aJ (bH iB))))
noncomputable abbrev o4(b6:Fn):cI:=
 (aO (kF (Ic (bS (aK sG (a9 1) (eC (.int 0)))) (bS (aK sG (aK eY (aK eY (aK cA (aZ b6 (aA (a9 0) (aA (eC (.int 0)) aG))) (eC (.int 48271))) (eC (.int 2147483647))) (eC (.int 4))) (eC (.int 1))))) (cF (eC (.int 12))) cH)
 (cF (a9 2)))
theorem Aq(P:au)(w:bt)(mg:bn->Option af)(base:cm)(m:At K mg "_law_most" "_law_most" (top 35) ["_law_script", "_law_k", "_law_usual"])(cJ:Def P w K mg base 1 "_law_cell_at" ["_law_script", "_law_k"] (low K b6))(dG:MonoF b6)(len:∀ds Q,sp ds Q->ds.length=3)(hsp:∀ds Q,sp ds Q->o4 b6 ↥Q (aI ["_law_script", "_law_k", "_law_usual"] ds)):Def P w K mg base 2 "_law_most" ["_law_script", "_law_k", "_law_usual"] (low K sp):=by
 have sc:FnScope ["_law_script", "_law_k", "_law_usual"] ["_law_script", "_law_k", "_law_usual"] (aF (top 35)):=by norm_cast
 refine m.okP (k:=1) (t:=o4 b6) sc (λf cdv A outer s H E hr=>?_) len hsp
 ·
  have hu:=hr.units;exact(aB (fV (QW.qt (Jc (cK (gP hu) (a7 1 (pv 1)) aE) (HH (cK (gP hu) (aP cM (aP cM (aP aR (aT cJ dG (hr.mono ∅) (a8 (a7 0 (pv 0)) (a8 aE aD))) aE) aE) aE) aE)))) (aJ (bH aE)) bX)
 (aJ (bH (a7 2 (pv 2)))))
noncomputable abbrev h7:cI:=
 (aO (bB 6 (aK gL (aK gL (a9 1) (gE gD (aA (a9 4) aG))) (aK gL (aK gL (a9 2) (a9 5)) (eC (.int 1)))))
 (aO (bB 7 (aK d8 (eC (.int 1)) (aK eY (aK eY (aK cA (aK eY (aK cA (aK d8 (a9 0) (aK cA (eC (.int 31)) (a9 5))) (eC (.int 48271))) (eC (.int 2147483647))) (aK d8 (aK cA (a9 5) (a9 5)) (eC (.int 17)))) (eC (.int 99991))) (gE uD (aA (a9 6) (aA (eC (.int 3)) aG))))))
 (aO (kF (bS (aK Hh (a9 3) (eC (.int 1)))) (aO (bB 7 (aK d8 (eC (.int 1)) (aK eY (a9 3) (a9 6))))
 (bB 3 (aK fD (a9 3) (a9 6)))) cH)
 (bB 4 (aK d8 (a9 4) (aK cA (kM (aA (a9 5) aG)) (a9 7)))))))
noncomputable abbrev lL:cI:=
 (aO (bB 2 (aK d8 (eC (.int 2)) (aK eY (a9 0) (eC (.int 5)))))
 (aO (bB 3 (aK fD (a9 0) (eC (.int 5))))
 (aO (bB 4 (kM aG))
 (aO (lA (gX (aA (a9 2) aG)) (gN 5) h7)
 (cF (a9 4))))))
theorem yR(P:au)(w:bt)(mg:bn->Option af)(base:cm)(m:At K mg "_law_bands" "_law_bands" (top 36) ["_law_cell", "_law_most_here"])(cV:mg "range" = aq)(cG:mg "len" = aq)(vV:mg "min" = aq)(len:∀ds Q,sp ds Q->ds.length=2)(hsp:∀ds Q,sp ds Q->lL  ↥Q (aI ["_law_cell", "_law_most_here", "_law_kinds", "_law_rest", "_law_bands_here", "_law_k", "_law_spare", "_law_count"] ds)):Def P w K mg base 1 "_law_bands" ["_law_cell", "_law_most_here"] (low K sp):=by
 have sc:FnScope ["_law_cell", "_law_most_here", "_law_kinds", "_law_rest", "_law_bands_here", "_law_k", "_law_spare", "_law_count"] ["_law_cell", "_law_most_here"] (aF (top 36)):=by norm_cast
 refine m.okP (k:=0) (t:=lL ) sc (λf cdv A outer s H E hr=>?_) len hsp
 ·
  exact(aB (b7 (i:=2) sc.nd rfl (.inl rfl) (aP bG aE (aP cM (a7 0 (pv 0)) aE)))
 (aB (b7 (i:=3) sc.nd rfl (.inl rfl) (aP dI (a7 0 (pv 0)) aE))
 (aB (b7 (i:=4) sc.nd rfl (.inl rfl) (jR aD))
 (aB (iV dw rfl (iI rfl cV (a8 (a7 2 (pv 2)) aD)) (iU (i:=5) (k:=8) sc.nd rfl (.inl rfl)) (aB (b7 (i:=6) sc.nd rfl (.inl rfl) (aP dZ (aP dZ (a7 1 (pv 1)) (bA eU rfl cG ju (a8 (a7 4 (pv 4)) aD))) (aP dZ (aP dZ (a7 2 (pv 2)) (a7 5 (pv 5))) aE)))
 (aB (b7 (i:=7) sc.nd rfl (.inl rfl) (aP bG aE (aP cM (aP cM (aP aR (aP cM (aP aR (aP bG (a7 0 (pv 0)) (aP aR aE (a7 5 (pv 5)))) aE) aE) (aP bG (aP aR (a7 5 (pv 5)) (a7 5 (pv 5))) aE)) aE) (bA (Cq rfl) rfl vV boot_min (a8 (a7 6 (pv 6)) (a8 aE aD))))))
 (aB (fV (cK rH (a7 3 (pv 3)) aE) (aB (b7 (i:=7) sc.nd rfl (.inl rfl) (aP bG aE (aP cM (a7 3 (pv 3)) (a7 6 (pv 6)))))
 (aJ (b7 (i:=3) sc.nd rfl (.inl rfl) (aP dI (a7 3 (pv 3)) (a7 6 (pv 6)))))) bX)
 (aJ (b7 (i:=4) sc.nd rfl (.inl rfl) (aP bG (a7 4 (pv 4)) (aP aR (jR (a8 (a7 5 (pv 5)) aD)) (a7 7 (pv 7))))))))))
 (aJ (bH (a7 4 (pv 4))))))))
noncomputable abbrev nY:cI:=
 (cF (aK eY (aK eY (aK cA (aK eY (aK cA (aK d8 (a9 0) (aK cA (eC (.int 31)) (a9 1))) (eC (.int 48271))) (eC (.int 2147483647))) (aK d8 (aK cA (a9 1) (a9 1)) (eC (.int 17)))) (eC (.int 99991))) (a9 2)))
theorem Ao(P:au)(w:bt)(mg:bn->Option af)(base:cm)(m:At K mg "_law_pick" "_law_pick" (top 37) ["_law_cell", "_law_step", "_law_many"])(len:∀ds Q,sp ds Q->ds.length=3)(hsp:∀ds Q,sp ds Q->nY  ↥Q (aI ["_law_cell", "_law_step", "_law_many"] ds)):Def P w K mg base 1 "_law_pick" ["_law_cell", "_law_step", "_law_many"] (low K sp):=by
 have sc:FnScope ["_law_cell", "_law_step", "_law_many"] ["_law_cell", "_law_step", "_law_many"] (aF (top 37)):=by norm_cast
 refine m.okP (k:=0) (t:=nY ) sc (λf cdv A outer s H E hr=>?_) len hsp
 ·
  exact(aJ (bH (aP cM (aP cM (aP aR (aP cM (aP aR (aP bG (a7 0 (pv 0)) (aP aR aE (a7 1 (pv 1)))) aE) aE) (aP bG (aP aR (a7 1 (pv 1)) (a7 1 (pv 1))) aE)) aE) (a7 2 (pv 2)))))
noncomputable abbrev hW:cI:=
 (cF (aK d8 (aK d8 (Gr (a9 0) gY (nR (a9 1))) (kM (aA (aK cX (a9 0) (aK d8 (a9 1) (eC (.int 1)))) (aA (aK cX (a9 0) (a9 1)) aG)))) (Gr (a9 0) (nR (aK d8 (a9 1) (eC (.int 2)))) gY)))
theorem rS(P:au)(w:bt)(mg:bn->Option af)(base:cm)(m:At K mg "_law_exchanged" "_law_exchanged" (top 38) ["_law_path", "_law_p"])(len:∀ds Q,sp ds Q->ds.length=2)(hsp:∀ds Q,sp ds Q->hW  ↥Q (aI ["_law_path", "_law_p"] ds)):Def P w K mg base 1 "_law_exchanged" ["_law_path", "_law_p"] (low K sp):=by
 have sc:FnScope ["_law_path", "_law_p"] ["_law_path", "_law_p"] (aF (top 38)):=by norm_cast
 refine m.okP (k:=0) (t:=hW ) sc (λf cdv A outer s H E hr=>?_) len hsp
 ·
  have hu1:=fE hr;exact(aJ (bH (aP bG (aP bG (mX (a7 0 (pv 0)) mW (mV (a7 1 (pv 1)))) (jR (a8 (bM hu1 (a7 0 (pv 0)) (aP bG (a7 1 (pv 1)) aE)) (a8 (bM hu1 (a7 0 (pv 0)) (a7 1 (pv 1))) aD)))) (mX (a7 0 (pv 0)) (mV (aP bG (a7 1 (pv 1)) aE)) mW))))
noncomputable abbrev jE(f6 aV:Fn):cI:=
 (aO (bB 6 (aK gL (gE gD (aA (a9 2) aG)) (eC (.int 1))))
 (aO (bB 7 (fF 1 [0,2] (gX (aA (a9 6) aG)) (gN 0) (bS (aK KC (aK cX (a9 1) (aK cX (a9 2) (a9 0))) (aK cX (a9 1) (aK cX (a9 2) (aK d8 (a9 0) (eC (.int 1))))))) (a9 0)))
 (aO (kF (bS (aK sG (a9 7) (kM aG))) (cF (a9 3)) cH)
 (aO (bB 8 (aZ f6 (aA (a9 1) (aA (a9 5) (aA (gE gD (aA (a9 7) aG)) aG)))))
 (aO (kF (bS (aK Hh (a9 4) (eC (.int 1)))) (aO (bB 8 (aK eY (a9 4) (gE gD (aA (a9 7) aG))))
 (bB 4 (aK fD (a9 4) (gE gD (aA (a9 7) aG))))) cH)
 (aO (v9 3 (aK cX (a9 7) (a9 8)))
 (bB 2 (aZ aV (aA (a9 2) (aA (aK cX (a9 7) (a9 8)) aG))))))))))
noncomputable abbrev qV(f6 aV:Fn):cI:=
 (aO (bB 2 (GP (aA (gE gD (aA (a9 0) aG)) aG)))
 (aO (lW 3 (kM aG))
 (aO (bB 4 (a9 1))
 (aO (lA (gX (aA (aK cA (gE gD (aA (a9 0) aG)) (gE gD (aA (a9 0) aG))) aG)) (gN 5) (jE f6 aV))
 (cF (a9 3))))))
theorem Bu(P:au)(w:bt)(mg:bn->Option af)(base:cm){f6:Fn}(m:At K mg "_law_row" "_law_row" (top 39) ["_law_bands_here", "_law_cell"])(cG:mg "len" = aq)(e9:mg "list" = aq)(cV:mg "range" = aq)(oX:Def P w K mg base 1 "_law_pick" ["_law_cell", "_law_step", "_law_many"] (low K f6))(AV:MonoF f6)(dO:Def P w K mg base 1 "_law_exchanged" ["_law_path", "_law_p"] (low K aV))(gQ:MonoF aV)(len:∀ds Q,sp ds Q->ds.length=2)(hsp:∀ds Q,sp ds Q->qV f6 aV ↥Q (aI ["_law_bands_here", "_law_cell", "_law_path", "_law_row_here", "_law_rest", "_law_step", "_law_last", "_law_spots", "_law_pick_here"] ds)):Def P w K mg base 2 "_law_row" ["_law_bands_here", "_law_cell"] (low K sp):=by
 have sc:FnScope ["_law_bands_here", "_law_cell", "_law_path", "_law_row_here", "_law_rest", "_law_step", "_law_last", "_law_spots", "_law_pick_here"] ["_law_bands_here", "_law_cell"] (aF (top 39)):=by norm_cast
 refine m.okP (k:=1) (t:=qV f6 aV) sc (λf cdv A outer s H E hr=>?_) len hsp
 ·
  have hu:=hr.units;have hu1:=fE hr;exact(aB (b7 (i:=2) sc.nd rfl (.inr rfl) (pT rfl rfl e9 rfl cV (a8 (bA eU rfl cG ju (a8 (a7 0 (pv 0)) aD)) aD)))
 (aB (lY (i:=3) sc.nd rfl (.inl rfl) (jR aD))
 (aB (b7 (i:=4) sc.nd rfl (.inl rfl) (a7 1 (pv 1)))
 (aB (iV dw rfl (iI rfl cV (a8 (aP aR (bA eU rfl cG ju (a8 (a7 0 (pv 0)) aD)) (bA eU rfl cG ju (a8 (a7 0 (pv 0)) aD))) aD)) (iU (i:=5) (k:=9) sc.nd rfl (.inl rfl)) (aB (b7 (i:=6) sc.nd rfl (.inl rfl) (aP dZ (bA eU rfl cG ju (a8 (a7 2 (pv 2)) aD)) aE))
 (aB (BP (Er (iy:=7) ["_law_p"] ["_law_bands_here", "_law_path"] [0,2] sc.nd rfl (.inl rfl) rfl (iI rfl cV (a8 (a7 6 (pv 6)) aD)) (λfp s H=>(iU (i:=0) (k:=1) (show jp (["_law_p", "_law_bands_here", "_law_path"]:List bn) by decide +kernel) rfl (.inl rfl))) (λfp s H=>(pR (cK xZ (bM hu1 (a7 1 (pv 1)) (bM hu1 (a7 2 (pv 2)) (a7 0 (pv 0)))) (bM hu1 (a7 1 (pv 1)) (bM hu1 (a7 2 (pv 2)) (aP bG (a7 0 (pv 0)) aE)))))) (λfp s H=>(a7 0 (pv 0)))))
 (aB (fV (cK (gP hu) (a7 7 (pv 7)) (jR aD)) (aJ (bH (a7 3 (pv 3)))) bX)
 (aB (b7 (i:=8) sc.nd rfl (.inl rfl) (aT oX AV (hr.mono ∅) (a8 (a7 1 (pv 1)) (a8 (a7 5 (pv 5)) (a8 (bA eU rfl cG ju (a8 (a7 7 (pv 7)) aD)) aD)))))
 (aB (fV (cK rH (a7 4 (pv 4)) aE) (aB (b7 (i:=8) sc.nd rfl (.inl rfl) (aP cM (a7 4 (pv 4)) (bA eU rfl cG ju (a8 (a7 7 (pv 7)) aD))))
 (aJ (b7 (i:=4) sc.nd rfl (.inl rfl) (aP dI (a7 4 (pv 4)) (bA eU rfl cG ju (a8 (a7 7 (pv 7)) aD)))))) bX)
 (aB (Ew (i:=3) (pv 3) (bM hu1 (a7 7 (pv 7)) (a7 8 (pv 8))))
 (aJ (b7 (i:=2) sc.nd rfl (.inr rfl) (aT dO gQ (hr.mono ∅) (a8 (a7 2 (pv 2)) (a8 (bM hu1 (a7 7 (pv 7)) (a7 8 (pv 8))) aD))))))))))))
 (aJ (bH (a7 3 (pv 3))))))))
noncomputable abbrev gZ(aV:Fn):cI:=
 (aO (v9 3 (dY (aA (aK cX (a9 2) (a9 4)) (aA (aK cX (a9 2) (aK d8 (a9 4) (eC (.int 1)))) (aA (gE iW (aA (gE iD (aA (Gr (a9 2) gY (nR (a9 4))) aG)) aG)) aG)))))
 (bB 2 (aZ aV (aA (a9 2) (aA (a9 4) aG)))))
noncomputable abbrev lK(aV:Fn):cI:=
 (aO (bB 2 (GP (aA (gE gD (aA (a9 0) aG)) aG)))
 (aO (lW 3 (kM aG))
 (aO (lA (iF (a9 1)) (gN 4) (gZ aV))
 (cF (gE iD (aA (a9 3) aG))))))
theorem yQ(P:au)(w:bt)(mg:bn->Option af)(base:cm)(m:At K mg "_law_floor" "_law_floor" (top 40) ["_law_bands_here", "_law_row_here"])(cG:mg "len" = aq)(e9:mg "list" = aq)(cV:mg "range" = aq)(d7:mg "sorted" = aq)(c7:mg "tuple" = aq)(dO:Def P w K mg base 1 "_law_exchanged" ["_law_path", "_law_p"] (low K aV))(gQ:MonoF aV)(len:∀ds Q,sp ds Q->ds.length=2)(hsp:∀ds Q,sp ds Q->lK aV ↥Q (aI ["_law_bands_here", "_law_row_here", "_law_path", "_law_tiles", "_law_p"] ds)):Def P w K mg base 2 "_law_floor" ["_law_bands_here", "_law_row_here"] (low K sp):=by
 have sc:FnScope ["_law_bands_here", "_law_row_here", "_law_path", "_law_tiles", "_law_p"] ["_law_bands_here", "_law_row_here"] (aF (top 40)):=by norm_cast
 refine m.okP (k:=1) (t:=lK aV) sc (λf cdv A outer s H E hr=>?_) len hsp
 ·
  have hu1:=fE hr;exact(aB (b7 (i:=2) sc.nd rfl (.inl rfl) (pT rfl rfl e9 rfl cV (a8 (bA eU rfl cG ju (a8 (a7 0 (pv 0)) aD)) aD)))
 (aB (lY (i:=3) sc.nd rfl (.inl rfl) (jR aD))
 (aB (iV dw rfl (eA (a7 1 (pv 1))) (iU (i:=4) (k:=5) sc.nd rfl (.inl rfl)) (aB (Ew (i:=3) (pv 3) (dB (a8 (bM hu1 (a7 2 (pv 2)) (a7 4 (pv 4))) (a8 (bM hu1 (a7 2 (pv 2)) (aP bG (a7 4 (pv 4)) aE)) (a8 (gB mO rfl c7 pz (a8 (bA rX rfl d7 va (a8 (mX (a7 2 (pv 2)) mW (mV (a7 4 (pv 4)))) aD)) aD)) aD)))))
 (aJ (b7 (i:=2) sc.nd rfl (.inl rfl) (aT dO gQ (hr.mono ∅) (a8 (a7 2 (pv 2)) (a8 (a7 4 (pv 4)) aD)))))))
 (aJ (bH (bA rX rfl d7 va (a8 (a7 3 (pv 3)) aD)))))))
noncomputable abbrev nZ:cI:=
 (aO (bB 3 (aK d8 (eC (.int 1)) (aK eY (a9 2) (eC (.int 9)))))
 (aO (bB 4 (aK eY (aK fD (a9 2) (eC (.int 9))) (eC (.int 100))))
 (aO (kF (bS (aK sG (a9 1) (eC (.int 0)))) (cF (dY (aA (aK gL (a9 4) (eC (.int 50))) (aA (a9 3) aG)))) cH)
 (cF (dY (aA (aK gL (aK fD (aK gL (aK cA (a9 0) (a9 3)) (eC (.int 1))) (a9 1)) (a9 4)) (aA (a9 3) aG)))))))
theorem Ap(P:au)(w:bt)(mg:bn->Option af)(base:cm)(m:At K mg "_law_next" "_law_next" (top 41) ["_law_x", "_law_y", "_law_rest"])(len:∀ds Q,sp ds Q->ds.length=3)(hsp:∀ds Q,sp ds Q->nZ  ↥Q (aI ["_law_x", "_law_y", "_law_rest", "_law_rise", "_law_side"] ds)):Def P w K mg base 1 "_law_next" ["_law_x", "_law_y", "_law_rest"] (low K sp):=by
 have sc:FnScope ["_law_x", "_law_y", "_law_rest", "_law_rise", "_law_side"] ["_law_x", "_law_y", "_law_rest"] (aF (top 41)):=by norm_cast
 refine m.okP (k:=0) (t:=nZ ) sc (λf cdv A outer s H E hr=>?_) len hsp
 ·
  have hu:=hr.units;exact(aB (b7 (i:=3) sc.nd rfl (.inl rfl) (aP bG aE (aP cM (a7 2 (pv 2)) aE)))
 (aB (b7 (i:=4) sc.nd rfl (.inl rfl) (aP cM (aP dI (a7 2 (pv 2)) aE) aE))
 (aB (fV (cK (gP hu) (a7 1 (pv 1)) aE) (aJ (bH (dB (a8 (aP dZ (a7 4 (pv 4)) aE) (a8 (a7 3 (pv 3)) aD))))) bX)
 (aJ (bH (dB (a8 (aP dZ (aP dI (aP dZ (aP aR (a7 0 (pv 0)) (a7 3 (pv 3))) aE) (a7 1 (pv 1))) (a7 4 (pv 4))) (a8 (a7 3 (pv 3)) aD))))))))
noncomputable abbrev dH(f7:Fn):cI:=
 (aO (bB 7 (aK d8 (eC (.int 1)) (aK eY (a9 4) (eC (.int 10)))))
 (aO (v9 5 (dY (aA (aK cA (a9 2) (a9 7)) (aA (aK cA (a9 3) (a9 7)) (aA (gE gD (aA (fF 1 [6] (iF (a9 0)) (gN 0) (bS (aK sG (a9 0) (a9 1))) (a9 0)) aG)) aG)))))
 (aO (D9 (aZ f7 (aA (a9 2) (aA (a9 3) (aA (aK fD (a9 4) (eC (.int 10))) aG)))) (gT [2,3]))
 (bB 4 (aK fD (a9 4) (eC (.int 9000)))))))
noncomputable abbrev gM(f7:Fn):cI:=
 (aO (bB 2 (aK gL (aK eY (a9 1) (eC (.int 200001))) (eC (.int 100000))))
 (aO (bB 3 (aK d8 (eC (.int 1)) (aK eY (aK fD (a9 1) (eC (.int 200001))) (eC (.int 9)))))
 (aO (bB 4 (aK fD (a9 1) (eC (.int 1800009))))
 (aO (kF (bS (aK sG (aK eY (a9 1) (eC (.int 4))) (eC (.int 0)))) (aO (bB 2 (aK d8 (eC (.int 1)) (gE vF (aA (a9 2) aG))))
 (bB 3 (eC (.int 0)))) cH)
 (aO (lW 5 (kM aG))
 (aO (lA (gX (aA (aK d8 (aK cX (a9 0) (Dx (eC (.int 1)))) (eC (.int 1))) aG)) (gN 6) (dH f7))
 (cF (a9 5))))))))
theorem qN(P:au)(w:bt)(mg:bn->Option af)(base:cm){f7:Fn}(m:At K mg "_law_directions" "_law_directions" (top 42) ["_law_bands_here", "_law_cell"])(jA:mg "abs" = aq)(cV:mg "range" = aq)(cG:mg "len" = aq)(oY:Def P w K mg base 1 "_law_next" ["_law_x", "_law_y", "_law_rest"] (low K f7))(AW:MonoF f7)(len:∀ds Q,sp ds Q->ds.length=2)(hsp:∀ds Q,sp ds Q->gM f7 ↥Q (aI ["_law_bands_here", "_law_cell", "_law_x", "_law_y", "_law_rest", "_law_made", "_law_k", "_law_times"] ds)):Def P w K mg base 2 "_law_directions" ["_law_bands_here", "_law_cell"] (low K sp):=by
 have sc:FnScope ["_law_bands_here", "_law_cell", "_law_x", "_law_y", "_law_rest", "_law_made", "_law_k", "_law_times"] ["_law_bands_here", "_law_cell"] (aF (top 42)):=by norm_cast
 refine m.okP (k:=1) (t:=gM f7) sc (λf cdv A outer s H E hr=>?_) len hsp
 ·
  have hu:=hr.units;have hu1:=fE hr;exact(aB (b7 (i:=2) sc.nd rfl (.inl rfl) (aP dZ (aP cM (a7 1 (pv 1)) aE) aE))
 (aB (b7 (i:=3) sc.nd rfl (.inl rfl) (aP bG aE (aP cM (aP dI (a7 1 (pv 1)) aE) aE)))
 (aB (b7 (i:=4) sc.nd rfl (.inl rfl) (aP dI (a7 1 (pv 1)) aE))
 (aB (fV (cK (gP hu) (aP cM (a7 1 (pv 1)) aE) aE) (aB (b7 (i:=2) sc.nd rfl (.inl rfl) (aP bG aE (bA rY rfl jA zy (a8 (a7 2 (pv 2)) aD))))
 (aJ (b7 (i:=3) sc.nd rfl (.inl rfl) aE))) bX)
 (aB (lY (i:=5) sc.nd rfl (.inl rfl) (jR aD))
 (aB (iV dw rfl (iI rfl cV (a8 (aP bG (bM hu1 (a7 0 (pv 0)) (Eo aE)) aE) aD)) (iU (i:=6) (k:=8) sc.nd rfl (.inr rfl)) (aB (b7 (i:=7) sc.nd rfl (.inl rfl) (aP bG aE (aP cM (a7 4 (pv 4)) aE)))
 (aB (Ew (i:=5) (pv 5) (dB (a8 (aP aR (a7 2 (pv 2)) (a7 7 (pv 7))) (a8 (aP aR (a7 3 (pv 3)) (a7 7 (pv 7))) (a8 (bA eU rfl cG ju (a8 (u7 ["_law_band"] ["_law_k"] [6] rfl (eA (a7 0 (pv 0))) (λfp s H=>(iU (i:=0) (k:=1) (show jp (["_law_band", "_law_k"]:List bn) by decide +kernel) rfl (.inl rfl))) (λfp s H=>(pR (cK (gP hu) (a7 0 (pv 0)) (a7 1 (pv 1))))) (λfp s H=>(a7 0 (pv 0)))) aD)) aD)))))
 (aB (Ev (aT oY AW (hr.mono ∅) (a8 (a7 2 (pv 2)) (a8 (a7 3 (pv 3)) (a8 (aP dI (a7 4 (pv 4)) aE) aD)))) (xT (k:=8) (is:=[2,3]) rfl (bP (cE (i:=2) sc.nd rfl (.inl rfl)) (bP (cE (i:=3) sc.nd rfl (.inl rfl)) iC))))
 (aJ (b7 (i:=4) sc.nd rfl (.inl rfl) (aP dI (a7 4 (pv 4)) aE)))))))
 (aJ (bH (a7 5 (pv 5))))))))))
noncomputable abbrev v0:cI:=
 (aO (bB 2 (aK AL (a9 0) (a9 1)))
 (aO (bB 0 (a9 1))
 (bB 1 (a9 2))))
noncomputable abbrev kA:cI:=
 (aO (BI (bS (aK wI (a9 1) (eC (.int 0)))) v0)
 (cF (gE vF (aA (a9 0) aG))))
theorem vM(P:au)(w:bt)(mg:bn->Option af)(base:cm)(m:At K mg "_law_common" "_law_common" (top 43) ["_law_one", "_law_other"])(jA:mg "abs" = aq)(len:∀ds Q,sp ds Q->ds.length=2)(hsp:∀ds Q,sp ds Q->kA  ↥Q (aI ["_law_one", "_law_other", "_law_rest"] ds)):Def P w K mg base 1 "_law_common" ["_law_one", "_law_other"] (low K sp):=by
 have sc:FnScope ["_law_one", "_law_other", "_law_rest"] ["_law_one", "_law_other"] (aF (top 43)):=by norm_cast
 refine m.okP (k:=0) (t:=kA ) sc (λf cdv A outer s H E hr=>?_) len hsp
 ·
  have hu:=hr.units;exact(aB (CG dw (cK (iX hu) (a7 1 (pv 1)) aE) (aB (b7 (i:=2) sc.nd rfl (.inl rfl) (aP FL (a7 0 (pv 0)) (a7 1 (pv 1))))
 (aB (b7 (i:=0) sc.nd rfl (.inl rfl) (a7 1 (pv 1)))
 (aJ (b7 (i:=1) sc.nd rfl (.inl rfl) (a7 2 (pv 2)))))))
 (aJ (bH (bA rY rfl jA zy (a8 (a7 0 (pv 0)) aD)))))
noncomputable abbrev nX(bD:Fn):cI:=
 (aO (bB 1 (aK d8 (eC (.int 1)) (aK eY (a9 0) (eC (.int 2000)))))
 (aO (bB 2 (aK eY (aK fD (a9 0) (eC (.int 2000))) (eC (.int 2000))))
 (aO (bB 3 (aK gL (aK cA (a9 1) (a9 1)) (aK cA (a9 2) (a9 2))))
 (aO (bB 4 (aK cA (aK cA (eC (.int 2)) (a9 1)) (a9 2)))
 (aO (bB 5 (aK d8 (aK cA (a9 1) (a9 1)) (aK cA (a9 2) (a9 2))))
 (aO (kF (bS (aK sG (aK eY (aK fD (a9 0) (eC (.int 4000000))) (eC (.int 2))) (eC (.int 1)))) (bB 4 (Dx (a9 4))) cH)
 (aO (bB 6 (aZ bD (aA (aZ bD (aA (a9 3) (aA (a9 4) aG))) (aA (a9 5) aG))))
 (cF (dY (aA (aK fD (a9 3) (a9 6)) (aA (aK fD (a9 4) (a9 6)) (aA (aK fD (a9 5) (a9 6)) aG))))))))))))
theorem An(P:au)(w:bt)(mg:bn->Option af)(base:cm)(m:At K mg "_law_turn" "_law_turn" (top 44) ["_law_cell"])(dU:Def P w K mg base 1 "_law_common" ["_law_one", "_law_other"] (low K bD))(fK:MonoF bD)(len:∀ds Q,sp ds Q->ds.length=1)(hsp:∀ds Q,sp ds Q->nX bD ↥Q (aI ["_law_cell", "_law_u", "_law_v", "_law_p", "_law_q", "_law_r", "_law_part"] ds)):Def P w K mg base 2 "_law_turn" ["_law_cell"] (low K sp):=by
 have sc:FnScope ["_law_cell", "_law_u", "_law_v", "_law_p", "_law_q", "_law_r", "_law_part"] ["_law_cell"] (aF (top 44)):=by norm_cast
 refine m.okP (k:=1) (t:=nX bD) sc (λf cdv A outer s H E hr=>?_) len hsp
 ·
  have hu:=hr.units;exact(aB (b7 (i:=1) sc.nd rfl (.inl rfl) (aP bG aE (aP cM (a7 0 (pv 0)) aE)))
 (aB (b7 (i:=2) sc.nd rfl (.inl rfl) (aP cM (aP dI (a7 0 (pv 0)) aE) aE))
 (aB (b7 (i:=3) sc.nd rfl (.inl rfl) (aP dZ (aP aR (a7 1 (pv 1)) (a7 1 (pv 1))) (aP aR (a7 2 (pv 2)) (a7 2 (pv 2)))))
 (aB (b7 (i:=4) sc.nd rfl (.inl rfl) (aP aR (aP aR aE (a7 1 (pv 1))) (a7 2 (pv 2))))
 (aB (b7 (i:=5) sc.nd rfl (.inl rfl) (aP bG (aP aR (a7 1 (pv 1)) (a7 1 (pv 1))) (aP aR (a7 2 (pv 2)) (a7 2 (pv 2)))))
 (aB (fV (cK (gP hu) (aP cM (aP dI (a7 0 (pv 0)) aE) aE) aE) (aJ (b7 (i:=4) sc.nd rfl (.inl rfl) (Eo (a7 4 (pv 4))))) bX)
 (aB (b7 (i:=6) sc.nd rfl (.inl rfl) (aT dU fK (hr.mono ∅) (a8 (aT dU fK (hr.mono ∅) (a8 (a7 3 (pv 3)) (a8 (a7 4 (pv 4)) aD))) (a8 (a7 5 (pv 5)) aD))))
 (aJ (bH (dB (a8 (aP dI (a7 3 (pv 3)) (a7 6 (pv 6))) (a8 (aP dI (a7 4 (pv 4)) (a7 6 (pv 6))) (a8 (aP dI (a7 5 (pv 5)) (a7 6 (pv 6))) aD)))))))))))))
noncomputable abbrev nW:cI:=
 (cF (gE iW (aA (gE iD (aA (aK d8 (gE qA (aA (a9 0) aG)) (kM (aA (a9 1) aG))) aG)) aG)))
theorem Am(P:au)(w:bt)(mg:bn->Option af)(base:cm)(m:At K mg "_law_with" "_law_with" (top 45) ["_law_below", "_law_band"])(e9:mg "list" = aq)(d7:mg "sorted" = aq)(c7:mg "tuple" = aq)(len:∀ds Q,sp ds Q->ds.length=2)(hsp:∀ds Q,sp ds Q->nW  ↥Q (aI ["_law_below", "_law_band"] ds)):Def P w K mg base 1 "_law_with" ["_law_below", "_law_band"] (low K sp):=by
 have sc:FnScope ["_law_below", "_law_band"] ["_law_below", "_law_band"] (aF (top 45)):=by norm_cast
 refine m.okP (k:=0) (t:=nW ) sc (λf cdv A outer s H E hr=>?_) len hsp
 ·
  exact(aJ (bH (gB mO rfl c7 pz (a8 (bA rX rfl d7 va (a8 (aP bG (gB tE rfl e9 vt (a8 (a7 0 (pv 0)) aD)) (jR (a8 (a7 1 (pv 1)) aD))) aD)) aD))))
noncomputable abbrev sS(aQ:Fn):cI:=
 (aO (oE 1 (a9 4) (eC (.bl aj)))
 (aO (oE 1 (aZ aQ (aA (a9 4) (aA (a9 2) aG))) (eC (.bl aj)))
 (aO (oE 1 (aZ aQ (aA (a9 4) (aA (a9 3) aG))) (eC (.bl aj)))
 (oE 1 (aZ aQ (aA (aZ aQ (aA (a9 4) (aA (a9 2) aG))) (aA (a9 3) aG))) (eC (.bl aj))))))
noncomputable abbrev jH(aQ:Fn):cI:=
 (aO (lW 1 Ln)
 (aO (lA (iF (a9 0)) (gT [2,3,4]) (sS aQ))
 (cF (gE jT (aA (a9 1) aG)))))
theorem uT(P:au)(w:bt)(mg:bn->Option af)(base:cm)(m:At K mg "_law_corners" "_law_corners" (top 46) ["_law_tiles"])(d7:mg "sorted" = aq)(cQ:Def P w K mg base 1 "_law_with" ["_law_below", "_law_band"] (low K aQ))(dR:MonoF aQ)(len:∀ds Q,sp ds Q->ds.length=1)(hsp:∀ds Q,sp ds Q->jH aQ ↥Q (aI ["_law_tiles", "_law_found", "_law_a", "_law_b", "_law_below"] ds)):Def P w K mg base 2 "_law_corners" ["_law_tiles"] (low K sp):=by
 have sc:FnScope ["_law_tiles", "_law_found", "_law_a", "_law_b", "_law_below"] ["_law_tiles"] (aF (top 46)):=by norm_cast
 refine m.okP (k:=1) (t:=jH aQ) sc (λf cdv A outer s H E hr=>?_) len hsp
 ·
  have hu1:=fE hr;have hu2:=GA hr;exact(aB (lY (i:=1) sc.nd rfl (.inl rfl) xU)
 (aB (iV dw rfl (eA (a7 0 (pv 0))) (xT (k:=5) (is:=[2,3,4]) rfl (bP (cE (i:=2) sc.nd rfl (.inl rfl)) (bP (cE (i:=3) sc.nd rfl (.inl rfl)) (bP (cE (i:=4) sc.nd rfl (.inl rfl)) iC)))) (aB (pS hu1 (i:=1) (pv 1) (a7 4 (pv 4)) iB)
 (aB (pS hu1 (i:=1) (pv 1) (aT cQ dR (hr.mono ∅) (a8 (a7 4 (pv 4)) (a8 (a7 2 (pv 2)) aD))) iB)
 (aB (pS hu1 (i:=1) (pv 1) (aT cQ dR (hr.mono ∅) (a8 (a7 4 (pv 4)) (a8 (a7 3 (pv 3)) aD))) iB)
 (aJ (pS hu1 (i:=1) (pv 1) (aT cQ dR (hr.mono ∅) (a8 (aT cQ dR (hr.mono ∅) (a8 (a7 4 (pv 4)) (a8 (a7 2 (pv 2)) aD))) (a8 (a7 3 (pv 3)) aD))) iB))))))
 (aJ (bH (bA (uY rfl hu2) rfl d7 va (a8 (a7 1 (pv 1)) aD))))))
noncomputable abbrev gJ(dA bD dD:Fn):cI:=
 (aO (kF (EJ (j8 (j7 (rQ "tuple" (a9 3)))) (EJ (bS (aK wI (gE gD (aA (a9 3) aG)) (eC (.int 4)))) (EJ (j8 (j7 (aZ dA (aA (aK cX (a9 3) (eC (.int 0))) aG)))) (j8 (j7 (aZ dA (aA (Gr (a9 3) (nR (eC (.int 1))) gY) aG))))))) (cF (eC .non)) cH)
 (aO (kF (EJ (bS (aK KC (aK cX (a9 3) (eC (.int 3))) (eC (.int 1)))) (bS (aK wI (aZ bD (aA (aZ bD (aA (aK cX (a9 3) (eC (.int 1))) (aA (aK cX (a9 3) (eC (.int 2))) aG))) (aA (aK cX (a9 3) (eC (.int 3))) aG))) (eC (.int 1))))) (cF (eC .non)) cH)
 (oE 2 (aK cX (a9 3) (eC (.int 0))) (Gr (a9 3) (nR (eC (.int 1))) gY))))
noncomputable abbrev k9(dA bD dD:Fn):cI:=
 (aO (lW 2 Ln)
 (aO (kF (j8 (j7 (rQ "list" (a9 0)))) (cF (eC .non)) cH)
 (aO (lA (iF (a9 0)) (gN 3) (gJ dA bD dD))
 (aO (kF (bS (aK wI (fF 1 [] (iF (a9 0)) (gN 0) fY (aK cX (a9 0) (eC (.int 0)))) (aZ dD (aA (a9 1) aG)))) (cF (eC .non)) cH)
 (cF (a9 2))))))
theorem vL(P:au)(w:bt)(mg:bn->Option af)(base:cm){dA dD:Fn}(m:At K mg "_law_points" "_law_points" (top 47) ["_law_found", "_law_tiles"])(aN:mg "isinstance" = aq)(e9:mg "list" = aq)(c7:mg "tuple" = aq)(cG:mg "len" = aq)(iH:Def P w K mg base 2 "_law_wholes" ["_law_found"] (low K dA))(nP:MonoF dA)(dU:Def P w K mg base 1 "_law_common" ["_law_one", "_law_other"] (low K bD))(fK:MonoF bD)(jM:Def P w K mg base 2 "_law_corners" ["_law_tiles"] (low K dD))(uI:MonoF dD)(len:∀ds Q,sp ds Q->ds.length=2)(hsp:∀ds Q,sp ds Q->k9 dA bD dD ↥Q (aI ["_law_found", "_law_tiles", "_law_points_here", "_law_part"] ds)):Def P w K mg base 3 "_law_points" ["_law_found", "_law_tiles"] (low K sp):=by
 have sc:FnScope ["_law_found", "_law_tiles", "_law_points_here", "_law_part"] ["_law_found", "_law_tiles"] (aF (top 47)):=by norm_cast
 refine m.okP (k:=2) (t:=k9 dA bD dD) sc (λf cdv A outer s H E hr=>?_) len hsp
 ·
  have hu:=hr.units;have hu1:=fE hr;exact(aB (lY (i:=2) sc.nd rfl (.inl rfl) xU)
 (aB (fV (eJ (eI (nN (.inr (.inr (.inr (.inl rfl)))) rfl aN (a7 0 (pv 0)) (gC (v:=.ty "list") rfl e9 vt rfl)))) (aJ (bH wC)) bX)
 (aB (iV dw rfl (eA (a7 0 (pv 0))) (iU (i:=3) (k:=4) sc.nd rfl (.inl rfl)) (aB (fV (QW.qt (pQ (eJ (eI (nN (.inr (.inr (.inl rfl))) rfl aN (a7 3 (pv 3)) (gC (v:=.ty "tuple") rfl c7 pz rfl)))) (pQ (cK (iX hu) (bA eU rfl cG ju (a8 (a7 3 (pv 3)) aD)) aE) (pQ (eJ (eI (aT iH nP (hr.mono ∅) (a8 (bM hu1 (a7 3 (pv 3)) aE) aD)))) (u3 (eJ (eI (aT iH nP (hr.mono ∅) (a8 (mX (a7 3 (pv 3)) (mV aE) mW) aD))))))))) (aJ (bH wC)) bX)
 (aB (fV (QW.qt (pQ (cK xZ (bM hu1 (a7 3 (pv 3)) aE) aE) (u3 (cK (iX hu) (aT dU fK (hr.mono ∅) (a8 (aT dU fK (hr.mono ∅) (a8 (bM hu1 (a7 3 (pv 3)) aE) (a8 (bM hu1 (a7 3 (pv 3)) aE) aD))) (a8 (bM hu1 (a7 3 (pv 3)) aE) aD))) aE)))) (aJ (bH wC)) bX)
 (aJ (pS hu1 (i:=2) (pv 2) (bM hu1 (a7 3 (pv 3)) aE) (mX (a7 3 (pv 3)) (mV aE) mW))))))
 (aB (fV (cK (iX hu) (u7 ["_law_part"] [] [] rfl (eA (a7 0 (pv 0))) (λfp s H=>(iU (i:=0) (k:=1) (show jp (["_law_part"]:List bn) by decide +kernel) rfl (.inl rfl))) (λfp s H=>iA) (λfp s H=>(bM hu1 (a7 0 (pv 0)) aE))) (aT jM uI (hr.mono ∅) (a8 (a7 1 (pv 1)) aD))) (aJ (bH wC)) bX)
 (aJ (bH (a7 2 (pv 2))))))))
noncomputable abbrev o7(aQ:Fn):cI:=
 (aO (bB 5 (aK cX (a9 0) (a9 1)))
 (aO (bB 6 (aK cX (a9 0) (aZ aQ (aA (a9 1) (aA (a9 2) aG)))))
 (aO (bB 7 (aK gL (aK cA (aK cX (a9 6) (eC (.int 0))) (aK cX (a9 5) (eC (.int 2)))) (aK cA (aK cX (a9 5) (eC (.int 0))) (aK cX (a9 6) (eC (.int 2))))))
 (aO (bB 8 (aK gL (aK cA (aK cX (a9 6) (eC (.int 1))) (aK cX (a9 5) (eC (.int 2)))) (aK cA (aK cX (a9 5) (eC (.int 1))) (aK cX (a9 6) (eC (.int 2))))))
 (aO (bB 9 (aK cA (aK cX (a9 5) (eC (.int 2))) (aK cX (a9 6) (eC (.int 2)))))
 (cF (kZ (aK sG (aK cA (a9 7) (a9 4)) (aK cA (aK cX (a9 3) (eC (.int 0))) (a9 9))) (aK sG (aK cA (a9 8) (a9 4)) (aK cA (aK cX (a9 3) (eC (.int 1))) (a9 9))))))))))
theorem Ar(P:au)(w:bt)(mg:bn->Option af)(base:cm)(m:At K mg "_law_goes" "_law_goes" (top 48) ["_law_points_here", "_law_below", "_law_band", "_law_vector_here", "_law_scale"])(cQ:Def P w K mg base 1 "_law_with" ["_law_below", "_law_band"] (low K aQ))(dR:MonoF aQ)(len:∀ds Q,sp ds Q->ds.length=5)(hsp:∀ds Q,sp ds Q->o7 aQ ↥Q (aI ["_law_points_here", "_law_below", "_law_band", "_law_vector_here", "_law_scale", "_law_one", "_law_other", "_law_across", "_law_upward", "_law_both"] ds)):Def P w K mg base 2 "_law_goes" ["_law_points_here", "_law_below", "_law_band", "_law_vector_here", "_law_scale"] (low K sp):=by
 have sc:FnScope ["_law_points_here", "_law_below", "_law_band", "_law_vector_here", "_law_scale", "_law_one", "_law_other", "_law_across", "_law_upward", "_law_both"] ["_law_points_here", "_law_below", "_law_band", "_law_vector_here", "_law_scale"] (aF (top 48)):=by norm_cast
 refine m.okP (k:=1) (t:=o7 aQ) sc (λf cdv A outer s H E hr=>?_) len hsp
 ·
  have hu:=hr.units;have hu1:=fE hr;exact(aB (b7 (i:=5) sc.nd rfl (.inl rfl) (bM hu1 (a7 0 (pv 0)) (a7 1 (pv 1))))
 (aB (b7 (i:=6) sc.nd rfl (.inl rfl) (bM hu1 (a7 0 (pv 0)) (aT cQ dR (hr.mono ∅) (a8 (a7 1 (pv 1)) (a8 (a7 2 (pv 2)) aD)))))
 (aB (b7 (i:=7) sc.nd rfl (.inl rfl) (aP dZ (aP aR (bM hu1 (a7 6 (pv 6)) aE) (bM hu1 (a7 5 (pv 5)) aE)) (aP aR (bM hu1 (a7 5 (pv 5)) aE) (bM hu1 (a7 6 (pv 6)) aE))))
 (aB (b7 (i:=8) sc.nd rfl (.inl rfl) (aP dZ (aP aR (bM hu1 (a7 6 (pv 6)) aE) (bM hu1 (a7 5 (pv 5)) aE)) (aP aR (bM hu1 (a7 5 (pv 5)) aE) (bM hu1 (a7 6 (pv 6)) aE))))
 (aB (b7 (i:=9) sc.nd rfl (.inl rfl) (aP aR (bM hu1 (a7 5 (pv 5)) aE) (bM hu1 (a7 6 (pv 6)) aE)))
 (aJ (bH (pV (kY (gP hu) (aP aR (a7 7 (pv 7)) (a7 4 (pv 4))) (aP aR (bM hu1 (a7 3 (pv 3)) aE) (a7 9 (pv 9)))) (sF (kY (gP hu) (aP aR (a7 8 (pv 8)) (a7 4 (pv 4))) (aP aR (bM hu1 (a7 3 (pv 3)) aE) (a7 9 (pv 9)))))))))))))
noncomputable abbrev k8:cI:=
 (aO (D9 (a9 2) (gT [3,4,5]))
 (aO (kF (j7 (a9 1)) (cF (dY (aA (aK gL (aK cA (a9 3) (aK cX (a9 0) (eC (.int 0)))) (aK cA (a9 4) (aK cX (a9 0) (eC (.int 1))))) (aA (aK d8 (aK cA (a9 4) (aK cX (a9 0) (eC (.int 0)))) (aK cA (a9 3) (aK cX (a9 0) (eC (.int 1))))) aG)))) cH)
 (cF (dY (aA (aK cA (a9 5) (aK cX (a9 0) (eC (.int 0)))) (aA (aK cA (a9 5) (aK cX (a9 0) (eC (.int 1)))) aG))))))
theorem vK(P:au)(w:bt)(mg:bn->Option af)(base:cm)(m:At K mg "_law_vector" "_law_vector" (top 49) ["_law_direction", "_law_inside", "_law_turn_here"])(len:∀ds Q,sp ds Q->ds.length=3)(hsp:∀ds Q,sp ds Q->k8  ↥Q (aI ["_law_direction", "_law_inside", "_law_turn_here", "_law_p", "_law_q", "_law_r"] ds)):Def P w K mg base 1 "_law_vector" ["_law_direction", "_law_inside", "_law_turn_here"] (low K sp):=by
 have sc:FnScope ["_law_direction", "_law_inside", "_law_turn_here", "_law_p", "_law_q", "_law_r"] ["_law_direction", "_law_inside", "_law_turn_here"] (aF (top 49)):=by norm_cast
 refine m.okP (k:=0) (t:=k8 ) sc (λf cdv A outer s H E hr=>?_) len hsp
 ·
  have hu1:=fE hr;exact(aB (Ev (a7 2 (pv 2)) (xT (k:=6) (is:=[3,4,5]) rfl (bP (cE (i:=3) sc.nd rfl (.inl rfl)) (bP (cE (i:=4) sc.nd rfl (.inl rfl)) (bP (cE (i:=5) sc.nd rfl (.inl rfl)) iC)))))
 (aB (fV (eI (a7 1 (pv 1))) (aJ (bH (dB (a8 (aP dZ (aP aR (a7 3 (pv 3)) (bM hu1 (a7 0 (pv 0)) aE)) (aP aR (a7 4 (pv 4)) (bM hu1 (a7 0 (pv 0)) aE))) (a8 (aP bG (aP aR (a7 4 (pv 4)) (bM hu1 (a7 0 (pv 0)) aE)) (aP aR (a7 3 (pv 3)) (bM hu1 (a7 0 (pv 0)) aE))) aD))))) bX)
 (aJ (bH (dB (a8 (aP aR (a7 5 (pv 5)) (bM hu1 (a7 0 (pv 0)) aE)) (a8 (aP aR (a7 5 (pv 5)) (bM hu1 (a7 0 (pv 0)) aE)) aD)))))))
noncomputable abbrev jG(K:ak)(dW bC g6:ah)(n9:EK):cI:=
 (aO (bB 4 (eC (.bl ap)))
 (aO (JY bC 5 n9 (aA (a9 0) (aA (a9 1) (aA (a9 2) (aA (a9 3) aG)))) (bB 4 (kZ (Ck K bC (a9 5)) (kZ (GQ K (a9 5)) (wY (Ck K g6 (a9 5)))))) cH)
 (cF (a9 4))))
theorem uS(P:au)(w:bt)(mg:bn->Option af)(base:cm){n9:EK}{dW g6:ah}(m:At K mg "_law_refused" "_law_refused" (top 50) ["_law_sides", "_law_tiles", "_law_some", "_law_thing"])(aN:mg "isinstance" = aq)(jZ:mg "ValueError" = aq)(kL:mg "SlantError" = aa (.ref dW))(x_NoTurn_SlantError:TL K (.ref bC) (.ref dW)=aa aj)(jU:mg "NoTurn" = aa (.ref bC))(rP:mg "NoFloor" = aa (.ref g6))(t9:DefX P w K mg base 4 "bent" ["sides", "floor", "some", "turn"] (lowX K n9))(qE:MonoX n9)(len:∀ds Q,sp ds Q->ds.length=4)(hsp:∀ds Q,sp ds Q->jG K dW bC g6 n9 ↥Q (aI ["_law_sides", "_law_tiles", "_law_some", "_law_thing", "_law_refused_here", "e"] ds)):Def P w K mg base 5 "_law_refused" ["_law_sides", "_law_tiles", "_law_some", "_law_thing"] (low K sp):=by
 have sc:FnScope ["_law_sides", "_law_tiles", "_law_some", "_law_thing", "_law_refused_here", "e"] ["_law_sides", "_law_tiles", "_law_some", "_law_thing"] (aF (top 50)):=by norm_cast
 refine m.okP (k:=4) (t:=jG K dW bC g6 n9) sc (λf cdv A outer s H E hr=>?_) len hsp
 ·
  exact(aB (b7 (i:=4) sc.nd rfl (.inl rfl) iB)
 (aB (MW (i:=5) (λ_ _ z=>z) t9 qE (hr.mono ∅) (a8 (a7 0 (pv 0)) (a8 (a7 1 (pv 1)) (a8 (a7 2 (pv 2)) (a8 (a7 3 (pv 3)) aD)))) sc.nd kL x_NoTurn_SlantError (λa=>(aJ (b7 (i:=4) sc.nd rfl (.inl rfl) (pV (Es rfl aN (a7 5 (pv 5)) jU) (pV (Je rfl aN (a7 5 (pv 5)) jZ) (sF (Em (Es rfl aN (a7 5 (pv 5)) rP)))))))) bX)
 (aJ (bH (a7 4 (pv 4))))))
noncomputable abbrev iN:cI:=
 (aO (D9 (a9 0) (gT [1,2,3]))
 (aO (bB 4 (kM (aA (dY (aA (a9 1) (aA (a9 2) (aA (aK d8 (a9 3) (eC (.int 1))) aG)))) (aA (aK wK (a9 0) (dY (aA (eC (.int 1)) aG))) (aA (dY (aA (a9 1) (aA (a9 2) aG))) (aA (dY aG) (aA (dY (aA (a9 1) (aA (a9 2) (aA (Dx (a9 3)) aG)))) (aA (dY (aA (a9 1) (aA (a9 2) (aA (eC (.int 0)) aG)))) (aA (dY (aA (eC (.int 0)) (aA (eC (.int 0)) (aA (eC (.int 0)) aG)))) (aA (dY (aA (aK cA (eC (.int 2)) (a9 1)) (aA (aK cA (eC (.int 2)) (a9 2)) (aA (aK cA (eC (.int 2)) (a9 3)) aG)))) aG))))))))))
 (cF (aK d8 (a9 4) (kM (aA (dY (aA (eC (.bl aj)) (aA (eC (.int 0)) (aA (eC (.int 1)) aG)))) (aA (dY (aA (a9 1) (aA (eC .non) (aA (a9 3) aG)))) (aA (dY (aA (eC (.str "1")) (aA (eC (.int 0)) (aA (eC (.int 1)) aG)))) (aA (dY (aA (eC (.int 0)) (aA (eC (.str "1")) (aA (eC (.int 1)) aG)))) (aA (dY (aA (eC (.int 1)) (aA (eC (.int 0)) (aA (eC (.bl aj)) aG)))) (aA (dY (aA (aK gL (a9 1) (a9 3)) (aA (a9 2) (aA (a9 3) aG)))) aG)))))))))))
theorem sR(P:au)(w:bt)(mg:bn->Option af)(base:cm)(m:At K mg "_law_no_turns" "_law_no_turns" (top 51) ["_law_turn_here"])(len:∀ds Q,sp ds Q->ds.length=1)(hsp:∀ds Q,sp ds Q->iN  ↥Q (aI ["_law_turn_here", "_law_p", "_law_q", "_law_r", "_law_found"] ds)):Def P w K mg base 1 "_law_no_turns" ["_law_turn_here"] (low K sp):=by
 have sc:FnScope ["_law_turn_here", "_law_p", "_law_q", "_law_r", "_law_found"] ["_law_turn_here"] (aF (top 51)):=by norm_cast
 refine m.okP (k:=0) (t:=iN ) sc (λf cdv A outer s H E hr=>?_) len hsp
 ·
  exact(aB (Ev (a7 0 (pv 0)) (xT (k:=5) (is:=[1,2,3]) rfl (bP (cE (i:=1) sc.nd rfl (.inl rfl)) (bP (cE (i:=2) sc.nd rfl (.inl rfl)) (bP (cE (i:=3) sc.nd rfl (.inl rfl)) iC)))))
 (aB (b7 (i:=4) sc.nd rfl (.inl rfl) (jR (a8 (dB (a8 (a7 1 (pv 1)) (a8 (a7 2 (pv 2)) (a8 (aP bG (a7 3 (pv 3)) aE) aD)))) (a8 (aP AR (a7 0 (pv 0)) (dB (a8 aE aD))) (a8 (dB (a8 (a7 1 (pv 1)) (a8 (a7 2 (pv 2)) aD))) (a8 (dB aD) (a8 (dB (a8 (a7 1 (pv 1)) (a8 (a7 2 (pv 2)) (a8 (Eo (a7 3 (pv 3))) aD)))) (a8 (dB (a8 (a7 1 (pv 1)) (a8 (a7 2 (pv 2)) (a8 aE aD)))) (a8 (dB (a8 aE (a8 aE (a8 aE aD)))) (a8 (dB (a8 (aP aR aE (a7 1 (pv 1))) (a8 (aP aR aE (a7 2 (pv 2))) (a8 (aP aR aE (a7 3 (pv 3))) aD)))) aD))))))))))
 (aJ (bH (aP bG (a7 4 (pv 4)) (jR (a8 (dB (a8 iB (a8 aE (a8 aE aD)))) (a8 (dB (a8 (a7 1 (pv 1)) (a8 wC (a8 (a7 3 (pv 3)) aD)))) (a8 (dB (a8 El (a8 aE (a8 aE aD)))) (a8 (dB (a8 aE (a8 El (a8 aE aD)))) (a8 (dB (a8 aE (a8 aE (a8 iB aD)))) (a8 (dB (a8 (aP dZ (a7 1 (pv 1)) (a7 3 (pv 3))) (a8 (a7 2 (pv 2)) (a8 (a7 3 (pv 3)) aD)))) aD))))))))))))
noncomputable abbrev kR(gU c9 c8 aQ d5 bL bR fO:Fn):cI:=
 (kF (j8 (j7 (aZ d5 (aA (a9 9) (aA (a9 15) (aA (a9 16) (aA (aK cX (a9 10) (a9 16)) (aA (aK cX (a9 4) (eC (.int 2))) aG)))))))) (cF (eC (.bl ap))) cH)
noncomputable abbrev qR(gU c9 c8 aQ d5 bL bR fO:Fn):cI:=
 (aO (bB 14 (kM (aA (dY (aA (a9 13) (aA (a9 11) aG))) (aA (dY (aA (a9 13) (aA (a9 12) aG))) (aA (dY (aA (aZ aQ (aA (a9 13) (aA (a9 11) aG))) (aA (a9 12) aG))) (aA (dY (aA (aZ aQ (aA (a9 13) (aA (a9 12) aG))) (aA (a9 11) aG))) aG))))))
 (lA (iF (a9 14)) (gT [15,16]) (kR gU c9 c8 aQ d5 bL bR fO)))
noncomputable abbrev kQ(gU c9 c8 aQ d5 bL bR fO:Fn):cI:=
 (kF (j8 (j7 (aZ bR (aA (a9 5) (aA (a9 6) (aA (a9 7) (aA (a9 18) aG))))))) (cF (eC (.bl ap))) cH)
noncomputable abbrev o8(gU c9 c8 aQ d5 bL bR fO:Fn):cI:=
 (aO (bB 5 (Cj fO (aA (a9 1) aG)))
 (aO (bB 6 (gE qA (aA (a9 2) aG)))
 (aO (bB 7 (gE qA (aA (a9 3) aG)))
 (aO (lW 8 (aZ gU (aA (a9 5) (aA (a9 6) (aA (a9 7) (aA (a9 4) aG))))))
 (aO (bB 9 (aZ c9 (aA (a9 8) (aA (a9 2) aG))))
 (aO (kF (EJ (bS (aK FK (a9 9) (eC .non))) (EJ (bS (aK wI (a9 6) (a9 2))) (EJ (bS (aK wI (a9 7) (a9 3))) (bS (aK wI (aK cX (a9 9) (dY aG)) (dY (aA (eC (.int 0)) (aA (eC (.int 0)) (aA (eC (.int 1)) aG))))))))) (cF (eC (.bl ap))) cH)
 (aO (bB 10 (fF 1 [4,1,3,0] (gX (aA (gE gD (aA (a9 0) aG)) aG)) (gN 0) fY (aZ c8 (aA (aK cX (a9 2) (aK cX (a9 4) (a9 0))) (aA (aK J6 (a9 0) (a9 3)) (aA (a9 1) aG))))))
 (aO (lA (iF (a9 2)) (gT [11,12,13]) (qR gU c9 c8 aQ d5 bL bR fO))
 (aO (bB 17 (gE qA (aA (a9 8) aG)))
 (aO (rB 8)
 (aO (kF (bS (aK wI (aZ gU (aA (a9 5) (aA (a9 6) (aA (a9 7) (aA (a9 4) aG))))) (a9 17))) (cF (eC (.bl ap))) cH)
 (aO (lA (iF (aZ bL (aA (a9 4) aG))) (gN 18) (kQ gU c9 c8 aQ d5 bL bR fO))
 (cF (eC (.bl aj)))))))))))))))
theorem As(P:au)(w:bt)(mg:bn->Option af)(base:cm){gU c9 c8 d5 bL bR fO:Fn}(m:At K mg "_law_bent" "_law_bent" (top 52) ["_law_bands_here", "_law_directions_here", "_law_tiles", "_law_some", "_law_turn_here"])(e9:mg "list" = aq)(cG:mg "len" = aq)(cV:mg "range" = aq)(yS:Def P w K mg base 4 "bent" ["sides", "floor", "some", "turn"] (low K gU))(CS:MonoF gU)(kO:Def P w K mg base 3 "_law_points" ["_law_found", "_law_tiles"] (low K c9))(vH:MonoF c9)(kN:Def P w K mg base 1 "_law_vector" ["_law_direction", "_law_inside", "_law_turn_here"] (low K c8))(vG:MonoF c8)(cQ:Def P w K mg base 1 "_law_with" ["_law_below", "_law_band"] (low K aQ))(dR:MonoF aQ)(p6:Def P w K mg base 2 "_law_goes" ["_law_points_here", "_law_below", "_law_band", "_law_vector_here", "_law_scale"] (low K d5))(AY:MonoF d5)(iY:Def P w K mg base 1 "_law_no_turns" ["_law_turn_here"] (low K bL))(sP:MonoF bL)(jL:Def P w K mg base 5 "_law_refused" ["_law_sides", "_law_tiles", "_law_some", "_law_thing"] (low K bR))(uH:MonoF bR)(yT:IDef P w K mg base 5 "Sides" C ["self", "directions"] fO)(Fg:MonoF fO)(len:∀ds Q,sp ds Q->ds.length=5)(hsp:∀ds Q,sp ds Q->o8 gU c9 c8 aQ d5 bL bR fO ↥Q (aI ["_law_bands_here", "_law_directions_here", "_law_tiles", "_law_some", "_law_turn_here", "_law_sides", "_law_first", "_law_second", "_law_found", "_law_points_here", "_law_vectors", "_law_a", "_law_b", "_law_below", "_law_edges", "_law_start", "_law_band", "_law_again", "_law_thing"] ds)):Def P w K mg base 7 "_law_bent" ["_law_bands_here", "_law_directions_here", "_law_tiles", "_law_some", "_law_turn_here"] (low K sp):=by
 have sc:FnScope ["_law_bands_here", "_law_directions_here", "_law_tiles", "_law_some", "_law_turn_here", "_law_sides", "_law_first", "_law_second", "_law_found", "_law_points_here", "_law_vectors", "_law_a", "_law_b", "_law_below", "_law_edges", "_law_start", "_law_band", "_law_again", "_law_thing"] ["_law_bands_here", "_law_directions_here", "_law_tiles", "_law_some", "_law_turn_here"] (aF (top 52)):=by norm_cast
 refine m.okP (k:=6) (t:=o8 gU c9 c8 aQ d5 bL bR fO) sc (λf cdv A outer s H E hr=>?_) len hsp
 ·
  have hu:=hr.units;have hu1:=fE hr;have hu65:=CA hr;exact(aB (b7 (i:=5) sc.nd rfl (.inl rfl) (Jd yT Fg (hr.mono ∅) (a8 (a7 1 (pv 1)) aD)))
 (aB (b7 (i:=6) sc.nd rfl (.inl rfl) (gB tE rfl e9 vt (a8 (a7 2 (pv 2)) aD)))
 (aB (b7 (i:=7) sc.nd rfl (.inl rfl) (gB tE rfl e9 vt (a8 (a7 3 (pv 3)) aD)))
 (aB (lY (i:=8) sc.nd rfl (.inl rfl) (aT yS CS (hr.mono ∅) (a8 (a7 5 (pv 5)) (a8 (a7 6 (pv 6)) (a8 (a7 7 (pv 7)) (a8 (a7 4 (pv 4)) aD))))))
 (aB (b7 (i:=9) sc.nd rfl (.inl rfl) (aT kO vH (hr.mono ∅) (a8 (a7 8 (pv 8)) (a8 (a7 2 (pv 2)) aD))))
 (aB (fV (QW.qt (pQ (cK Hj (a7 9 (pv 9)) wC) (pQ (cK (iX hu) (a7 6 (pv 6)) (a7 2 (pv 2))) (pQ (cK (iX hu) (a7 7 (pv 7)) (a7 3 (pv 3))) (u3 (cK (iX hu) (bM hu1 (a7 9 (pv 9)) (dB aD)) (dB (a8 aE (a8 aE (a8 aE aD)))))))))) (aJ (bH iB)) bX)
 (aB (BP (Er (iy:=10) ["_law_band"] ["_law_turn_here", "_law_directions_here", "_law_some", "_law_bands_here"] [4,1,3,0] sc.nd rfl (.inl rfl) rfl (iI rfl cV (a8 (bA eU rfl cG ju (a8 (a7 0 (pv 0)) aD)) aD)) (λfp s H=>(iU (i:=0) (k:=1) (show jp (["_law_band", "_law_turn_here", "_law_directions_here", "_law_some", "_law_bands_here"]:List bn) by decide +kernel) rfl (.inl rfl))) (λfp s H=>iA) (λfp s H=>(aT kN vG (hr.mono ∅) (a8 (bM hu1 (a7 2 (pv 2)) (bM hu1 (a7 4 (pv 4)) (a7 0 (pv 0)))) (a8 (kY (FN hu65 hu1) (a7 0 (pv 0)) (a7 3 (pv 3))) (a8 (a7 1 (pv 1)) aD)))))))
 (aB (iV dw rfl (eA (a7 2 (pv 2))) (xT (k:=19) (is:=[11,12,13]) rfl (bP (cE (i:=11) sc.nd rfl (.inl rfl)) (bP (cE (i:=12) sc.nd rfl (.inl rfl)) (bP (cE (i:=13) sc.nd rfl (.inl rfl)) iC)))) (aB (b7 (i:=14) sc.nd rfl (.inl rfl) (jR (a8 (dB (a8 (a7 13 (pv 13)) (a8 (a7 11 (pv 11)) aD))) (a8 (dB (a8 (a7 13 (pv 13)) (a8 (a7 12 (pv 12)) aD))) (a8 (dB (a8 (aT cQ dR (hr.mono ∅) (a8 (a7 13 (pv 13)) (a8 (a7 11 (pv 11)) aD))) (a8 (a7 12 (pv 12)) aD))) (a8 (dB (a8 (aT cQ dR (hr.mono ∅) (a8 (a7 13 (pv 13)) (a8 (a7 12 (pv 12)) aD))) (a8 (a7 11 (pv 11)) aD))) aD))))))
 (aJ (iV dw rfl (eA (a7 14 (pv 14))) (xT (k:=19) (is:=[15,16]) rfl (bP (cE (i:=15) sc.nd rfl (.inl rfl)) (bP (cE (i:=16) sc.nd rfl (.inl rfl)) iC))) (aJ (fV (eJ (eI (aT p6 AY (hr.mono ∅) (a8 (a7 9 (pv 9)) (a8 (a7 15 (pv 15)) (a8 (a7 16 (pv 16)) (a8 (bM hu1 (a7 10 (pv 10)) (a7 16 (pv 16))) (a8 (bM hu1 (a7 4 (pv 4)) aE) aD)))))))) (aJ (bH iB)) bX))))))
 (aB (b7 (i:=17) sc.nd rfl (.inl rfl) (gB tE rfl e9 vt (a8 (a7 8 (pv 8)) aD)))
 (aB (HK (i:=8) (pv 8))
 (aB (fV (cK (iX hu) (aT yS CS (hr.mono ∅) (a8 (a7 5 (pv 5)) (a8 (a7 6 (pv 6)) (a8 (a7 7 (pv 7)) (a8 (a7 4 (pv 4)) aD))))) (a7 17 (pv 17))) (aJ (bH iB)) bX)
 (aB (iV dw rfl (eA (aT iY sP (hr.mono ∅) (a8 (a7 4 (pv 4)) aD))) (iU (i:=18) (k:=19) sc.nd rfl (.inl rfl)) (aJ (fV (eJ (eI (aT jL uH (hr.mono ∅) (a8 (a7 5 (pv 5)) (a8 (a7 6 (pv 6)) (a8 (a7 7 (pv 7)) (a8 (a7 18 (pv 18)) aD))))))) (aJ (bH iB)) bX)))
 (aJ (bH iB))))))))))))))
noncomputable abbrev zB(f8 b6 eF cC g5 eE eZ f9:Fn):cI:=
 (aO (bB 2 (aZ eF (aA (aZ b6 (aA (a9 0) (aA (a9 1) aG))) (aA (aZ f8 (aA (a9 0) (aA (a9 1) (aA (eC (.int 9)) aG)))) aG))))
 (aO (bB 3 (aZ cC (aA (a9 2) (aA (aZ b6 (aA (a9 0) (aA (aK d8 (a9 1) (eC (.int 1))) aG))) aG))))
 (aO (bB 4 (aZ eE (aA (a9 2) (aA (aZ g5 (aA (a9 2) (aA (aZ b6 (aA (a9 0) (aA (aK d8 (a9 1) (eC (.int 2))) aG))) aG))) aG))))
 (aO (bB 5 (aZ b6 (aA (a9 0) (aA (aK d8 (a9 1) (eC (.int 3))) aG))))
 (aO (bB 6 (fF 1 [5] (gX (aA (gE gD (aA (a9 2) aG)) aG)) (gN 0) (bS (aK sG (aK eY (aK fD (a9 1) (aK Bc (eC (.int 1)) (a9 0))) (eC (.int 2))) (eC (.int 1)))) (a9 0)))
 (kF (j8 (j7 (aZ f9 (aA (a9 2) (aA (a9 3) (aA (a9 4) (aA (a9 6) (aA (aZ eZ (aA (aZ b6 (aA (a9 0) (aA (aK d8 (a9 1) (eC (.int 4))) aG))) aG)) aG)))))))) (cF (eC (.bl ap))) cH))))))
noncomputable abbrev EW(f8 b6 eF cC g5 eE eZ f9:Fn):cI:=
 (aO (lA (t7 (aA (eC (.int 0)) (aA (aK d8 (gE uD (aA (eC (.int 11)) (aA (gE gD (aA (a9 0) aG)) aG))) (eC (.int 1))) (aA (eC (.int 5)) aG)))) (gN 1) (zB f8 b6 eF cC g5 eE eZ f9))
 (cF (eC (.bl aj))))
theorem LG(P:au)(w:bt)(mg:bn->Option af)(base:cm){f8 eF cC g5 eE eZ f9:Fn}{fL:ah}{fdL:jh}(F:Fun K "law" "law" (top 53) fL fdL)(cG:mg "len" = aq)(vV:mg "min" = aq)(cV:mg "range" = aq)(oZ:Def P w K mg base 2 "_law_most" ["_law_script", "_law_k", "_law_usual"] (low K f8))(AX:MonoF f8)(cJ:Def P w K mg base 1 "_law_cell_at" ["_law_script", "_law_k"] (low K b6))(dG:MonoF b6)(mM:Def P w K mg base 1 "_law_bands" ["_law_cell", "_law_most_here"] (low K eF))(yC:MonoF eF)(gR:Def P w K mg base 2 "_law_directions" ["_law_bands_here", "_law_cell"] (low K cC))(qD:MonoF cC)(rT:Def P w K mg base 2 "_law_row" ["_law_bands_here", "_law_cell"] (low K g5))(Bi:MonoF g5)(mL:Def P w K mg base 2 "_law_floor" ["_law_bands_here", "_law_row_here"] (low K eE))(yB:MonoF eE)(oW:Def P w K mg base 2 "_law_turn" ["_law_cell"] (low K eZ))(AU:MonoF eZ)(p7:Def P w K mg base 7 "_law_bent" ["_law_bands_here", "_law_directions_here", "_law_tiles", "_law_some", "_law_turn_here"] (low K f9))(AZ:MonoF f9)(len:∀ds Q,sp ds Q->ds.length=1)(hsp:∀ds Q,sp ds Q->EW f8 b6 eF cC g5 eE eZ f9 ↥Q (aI ["_law_script", "_law_k", "_law_bands_here", "_law_directions_here", "_law_tiles", "_law_cell", "_law_some"] ds)):FnOk P w K mg base C6 8 fL fdL ["_law_script"] (low K sp):=by
 have sc:FnScope ["_law_script", "_law_k", "_law_bands_here", "_law_directions_here", "_law_tiles", "_law_cell", "_law_some"] ["_law_script"] (aF (top 53)):=by norm_cast
 refine F.ok (k:=7) sc (yD len) λcdv A outer s H vs Q E hr qq=>zA (N:=["_law_script", "_law_k", "_law_bands_here", "_law_directions_here", "_law_tiles", "_law_cell", "_law_some"]) (t:=EW f8 b6 eF cC g5 eE eZ f9) ?_ hsp qq
 ·
  have hu:=hr.units;exact(aB (iV dw rfl (DB rfl cV (a8 aE (a8 (aP bG (bA (Cq rfl) rfl vV boot_min (a8 aE (a8 (bA eU rfl cG ju (a8 (a7 0 (pv 0)) aD)) aD))) aE) (a8 aE aD)))) (iU (i:=1) (k:=7) sc.nd rfl (.inl rfl)) (aB (b7 (i:=2) sc.nd rfl (.inl rfl) (aT mM yC (hr.mono ∅) (a8 (aT cJ dG (hr.mono ∅) (a8 (a7 0 (pv 0)) (a8 (a7 1 (pv 1)) aD))) (a8 (aT oZ AX (hr.mono ∅) (a8 (a7 0 (pv 0)) (a8 (a7 1 (pv 1)) (a8 aE aD)))) aD))))
 (aB (b7 (i:=3) sc.nd rfl (.inl rfl) (aT gR qD (hr.mono ∅) (a8 (a7 2 (pv 2)) (a8 (aT cJ dG (hr.mono ∅) (a8 (a7 0 (pv 0)) (a8 (aP bG (a7 1 (pv 1)) aE) aD))) aD))))
 (aB (b7 (i:=4) sc.nd rfl (.inl rfl) (aT mL yB (hr.mono ∅) (a8 (a7 2 (pv 2)) (a8 (aT rT Bi (hr.mono ∅) (a8 (a7 2 (pv 2)) (a8 (aT cJ dG (hr.mono ∅) (a8 (a7 0 (pv 0)) (a8 (aP bG (a7 1 (pv 1)) aE) aD))) aD))) aD))))
 (aB (b7 (i:=5) sc.nd rfl (.inr rfl) (aT cJ dG (hr.mono ∅) (a8 (a7 0 (pv 0)) (a8 (aP bG (a7 1 (pv 1)) aE) aD))))
 (aB (BP (Er (iy:=6) ["_law_band"] ["_law_cell"] [5] sc.nd rfl (.inl rfl) rfl (iI rfl cV (a8 (bA eU rfl cG ju (a8 (a7 2 (pv 2)) aD)) aD)) (λfp s H=>(iU (i:=0) (k:=1) (show jp (["_law_band", "_law_cell"]:List bn) by decide +kernel) rfl (.inl rfl))) (λfp s H=>(pR (cK (gP hu) (aP cM (aP dI (a7 1 (pv 1)) (aP Hi aE (a7 0 (pv 0)))) aE) aE))) (λfp s H=>(a7 0 (pv 0)))))
 (aJ (fV (eJ (eI (aT p7 AZ (hr.mono ∅) (a8 (a7 2 (pv 2)) (a8 (a7 3 (pv 3)) (a8 (a7 4 (pv 4)) (a8 (a7 6 (pv 6)) (a8 (aT oW AU (hr.mono ∅) (a8 (aT cJ dG (hr.mono ∅) (a8 (a7 0 (pv 0)) (a8 (aP bG (a7 1 (pv 1)) aE) aD))) aD)) aD)))))))) (aJ (bH iB)) bX))))))))
 (aJ (bH iB)))
end
end Lw
variable {l:List Int}
namespace Fl
noncomputable def bK(l:List Int)(p:Nat):List Int:=l.take p++[l.getD (p+1) 0,l.getD p 0]++l.drop (p+2)
variable {p:Nat}
theorem lM(hp:p+1<l.length):(bK l p).length=l.length:=by unfold bK;simp;right
theorem pG{k:Nat}(hp:p+1<l.length)(hk:k<l.length):(bK l p).getD k 0=if k=p+1 then l.getD p 0 else if k=p then l.getD (p+1) 0 else l.getD k 0:=by
 unfold bK;simp only[dq,fx];by_cases h1:k<p
 ·rw[bo (by simp;right),ik h1,VT ⋯,VT ⋯]
 ·rw[bg (by simp;right),fw,nj ⋯];by_cases h2:k=p
  ·subst h2;rw[VT ⋯,Wj rfl];simp
  ·by_cases h3:k=p+1
   ·subst h3;rw[Wj rfl,show p+1-p=1 by right];simp
   ·rw[VT h3,VT h2,bg (by simp;right)];simp only[cj,UU,rm];rw[show p+2+(k-p-(0+1+1))=k by right]
noncomputable def sg(p i:Nat):Nat:=if i=p then p+1 else if i=p+1 then p else i
theorem CF(p i:Nat):sg p (sg p i)=i:=by unfold sg;split<;>split<;>first | right | (split<;>right)
theorem pL(hp:p+1<n)(hi:i<n):sg p i<n:=by unfold sg;split<;>first | right | (split<;>right)
theorem pF(hp:p+1<l.length)(hi:i<l.length):(bK l p).getD (sg p i) 0=l.getD i 0:=by
 rw[pG hp (pL hp hi)];unfold sg;by_cases h:i=p
 ·rw[Wj h,Wj rfl,h]
 ·rw[VT h];by_cases h2:i=p+1
  ·rw[Wj h2,VT ⋯,Wj rfl,h2]
  ·rw[VT h2,VT h2,VT h]
structure Pt(n:Nat)(l:List Int):Prop where
 len:l.length=n
 bd:∀i,i<n->0<=l.getD i 0/\l.getD i 0<n
 inj:∀i j,i<n->j<n->l.getD i 0=l.getD j 0->i=j
 sur:∀x:Int,0<=x->x<n -> ∃i,i<n/\l.getD i 0=x
noncomputable abbrev ids(n:Nat):List Int:=(gc n).map λ(k:Nat)=>(k:Int)
theorem qG(h:i<n):(ids n).getD i 0=i:=by simp[ids,dq,h]
theorem Pt.ids(n:Nat):Pt n (ids n):=by
 refine⟨by simp[Fl.ids],λi hi=>by rw[qG hi];right,λi j hi hj e=>by rw[qG hi,qG hj] at e;right,λx h0 h1=>⟨x.toNat,⋯,by rw[qG ⋯];right⟩⟩
theorem Pt.swap(h:Pt n l)(hp:p+1<n):Pt n (bK l p):=by
 have hl:=h.len;have g:∀i,i<n->(bK l p).getD i 0=l.getD (sg p i) 0:=λi hi=>by
  have:=pF (l:=l) (p:=p) (i:=sg p i) ⋯ (by rw[hl];exact pL hp hi);rwa[CF] at this
 refine⟨by rw[lM ⋯];exact hl,λi hi=>by rw[g i hi];exact h.bd _ (pL hp hi),λi j hi hj e=>?_,λx h0 h1=>?_⟩
 ·rw[g i hi,g j hj] at e;have:=h.inj _ _ (pL hp hi) (pL hp hj) e;have:=congrArg (sg p) this;rwa[CF,CF] at this
 ·obtain⟨i,hi,e⟩:=h.sur x h0 h1;exact⟨sg p i,pL hp hi,by rw[pF ⋯ ⋯];exact e⟩
noncomputable def Bf(l:List Int)(x y:Int):Prop:=∃i j,i<j/\j<l.length/\l.getD i 0=x/\l.getD j 0=y
variable {y:Int}
section
variable {x:Int}
theorem Bf.anti(P:Pt n l)(h:Bf l x y)(k:Bf l y x):False:=by
 obtain⟨i,j,a,b,c,d⟩:=h;obtain⟨i',j',a',b',c',d'⟩:=k;have hl:=P.len;have:=P.inj i j' ⋯ ⋯ (c.trans d'.symm);have:=P.inj j i' ⋯ ⋯ (d.trans c'.symm);right
theorem Bf.swap(P:Pt n l)(hp:p+1<n)(h:Bf l x y)(ne:¬(x=l.getD p 0/\y=l.getD (p+1) 0)):Bf (bK l p) x y:=by
 obtain⟨i,j,a,b,c,d⟩:=h;have hl:=P.len;refine⟨sg p i,sg p j,?_,by rw[lM ⋯,hl];exact pL hp ⋯,by rw[pF ⋯ ⋯];exact c,by rw[pF ⋯ ⋯];exact d⟩;by_cases z:i=p/\j=p+1
 ·exact absurd ⟨by rw[<- c,z.1],by rw[<- d,z.2]⟩ ne
 ·unfold sg;split<;>split<;>first | right | (split<;>first | right | (split<;>right))
theorem Bf.new(hp:p+1<l.length):Bf (bK l p) (l.getD (p+1) 0) (l.getD p 0):=
 ⟨p,p+1,⋯,by rw[lM hp];exact hp,by rw[pG hp ⋯,VT ⋯,Wj rfl],by rw[pG hp hp,Wj rfl]⟩
theorem Bf.back(P:Pt n l)(hp:p+1<n)(h:Bf (bK l p) x y):Bf l x y \/ (x=l.getD (p+1) 0/\y=l.getD p 0):=by
 have hl:=P.len;by_cases z:x=l.getD (p+1) 0/\y=l.getD p 0
 ·exact .inr z
 ·have P':=P.swap hp;obtain⟨i,j,a,b,c,d⟩:=h;rw[lM ⋯] at b;have g:∀i,i<n->(bK l p).getD i 0=l.getD (sg p i) 0:=λi hi=>by
   have:=pF (l:=l) (p:=p) (i:=sg p i) ⋯ (by rw[hl];exact pL hp hi);rwa[CF] at this
  rw[g i ⋯] at c;rw[g j ⋯] at d;refine .inl ⟨sg p i,sg p j,?_,by rw[hl];exact pL hp ⋯,c,d⟩;by_cases w:i=p/\j=p+1
  ·exfalso;apply z;obtain⟨rfl,rfl⟩:=w;refine⟨?_,?_⟩
   ·rw[<- c];unfold sg;rw[Wj rfl]
   ·rw[<- d];unfold sg;rw[VT ⋯,Wj rfl]
  ·unfold sg;split<;>split<;>first | right | (split<;>first | right | (split<;>right))
theorem Bf.near(hp:p+1<l.length):Bf l (l.getD p 0) (l.getD (p+1) 0):=⟨p,p+1,⋯,hp,rfl,rfl⟩
end
noncomputable abbrev kd(ks:List Int)(x:Int):Int:=ks.getD x.toNat 0
inductive Walk(ks:List Int):List Int->List Int->List Int->Prop
 |nil (l:List Int):Walk ks l [] l
 |cons {l e r:List Int} {p:Nat}:p+1<ks.length->kd ks (l.getD p 0)<kd ks (l.getD (p+1) 0)->Walk ks (bK l p) r e->Walk ks l ((p:Int)::r) e
noncomputable def tls:List Int->List Int->List (Int×Int×List Int)
 |_,[]=>[]
 |l,p::r=>(l.getD p.toNat 0,l.getD (p.toNat+1) 0,l.take p.toNat)::tls (bK l p.toNat) r
theorem xK:∀(r l:List Int),(tls l r).length=r.length
 | [],_=>rfl
 |p::r,l=>by rw[tls,cj,cj,xK r]
variable {r e:List Int}
section
variable {x:Int}
theorem Walk.snoc(w:Walk ks l r e)(hp:p+1<ks.length)(h:kd ks (e.getD p 0)<kd ks (e.getD (p+1) 0)):Walk ks l (r++[(p:Int)]) (bK e p):=by
 induction w with
 |nil l=>exact .cons hp h (.nil _)
 |cons a b _ ih=>exact .cons a b (ih h)
theorem Walk.pt(w:Walk ks l r e)(P:Pt ks.length l):Pt ks.length e:=by
 induction w with
 |nil l=>exact P
 |cons a b _ ih=>exact ih (P.swap a)
theorem Walk.stay(w:Walk ks l r e)(P:Pt ks.length l)(k:kd ks x<=kd ks y)(h:Bf l y x):Bf e y x:=by
 induction w with
 |nil l=>exact h
 |cons a b w ih=>
  refine ih (P.swap a) (h.swap P a λz=>?_);rw[z.1,z.2] at k;right
theorem Walk.key(w:Walk ks l r e)(P:Pt ks.length l){t:Int×Int×List Int}(h:t∈tls l r):Bf l t.1 t.2.1/\kd ks t.1<kd ks t.2.1/\Bf e t.2.1 t.1:=by
 induction w with
 |nil l=>cases h
 | @cons l e r p a b w ih=>
  have hl:=P.len;rw[tls,ee] at h;rcases dt.mp h with rfl | h
  ·exact⟨Bf.near ⋯,b,w.stay (P.swap a) (vo b) (Bf.new ⋯)⟩
  ·obtain⟨h1,h2,h3⟩:=ih (P.swap a) h;refine⟨?_,h2,h3⟩;rcases h1.back P a with z | z
   ·exact z
   ·rw[z.1,z.2] at h2;right
theorem Walk.nodup(w:Walk ks l r e)(P:Pt ks.length l):((tls l r).map λt=>(t.1,t.2.1)).Nodup:=by
 induction w with
 |nil l=>exact UV
 | @cons l e r p a b w ih=>
  have hl:=P.len;rw[tls,ee,dh];refine yf.mpr ⟨λh=>?_,ih (P.swap a)⟩;obtain⟨t,ht,et⟩:=jx.mp h;obtain⟨h1,_,_⟩:=w.key (P.swap a) ht;simp only[Sy] at et;rw[et.1,et.2] at h1;exact h1.anti (P.swap a) (Bf.new ⋯)
noncomputable def kW(ks e:List Int):Prop:=∀p,p+1<ks.length->kd ks (e.getD (p+1) 0)<=kd ks (e.getD p 0)
theorem kW.le(d:kW ks e)(P:Pt ks.length e):∀(k i:Nat),i+k<ks.length->kd ks (e.getD (i+k) 0)<=kd ks (e.getD i 0)
 |0,i,_=>Sa _
 |k+1,i,h=>Int.le_trans (d (i+k) ⋯) (d.le P k i ⋯)
end
noncomputable def pc:List Int->Nat
 | []=>0
 |x::r=>(r.filter λy=>decide (x<y)).length+pc r
theorem CM{a b:Int}(h:a<b)(v:List Int):∀u:List Int,pc (u++a::b::v)=pc (u++b::a::v)+1
 | []=>by
  have h':¬b<a:=⋯;simp only[wj,pc,Uc,h,h',decide_true,decide_false,if_true,gg,if_false,cj];right
 |x::u=>by
  have e:((u++a::b::v).filter λy=>decide (x<y)).length=((u++b::a::v).filter λy=>decide (x<y)).length:=by
   simp only[xn,Uc,fg];split<;>split<;>simp
  rw[nk,nk,pc,pc,CM h v u,e];right
theorem J3:∀l:List Int,pc l<=l.length*l.length
 | []=>bj _
 |x::r=>by
  have h1:=J3 r;have h2:=ul (λy=>decide (x<y)) r;rw[pc,cj,TQ,VE];right
theorem Mi(h:1<=l.length):pc l<l.length*l.length:=by
 cases l with
 |nil=>simp at h
 |cons x r=>
  have h1:=J3 r;have h2:=ul (λy=>decide (x<y)) r;rw[pc,cj,TQ,VE];right
theorem BF(hp:p+1<l.length):l=l.take p++l.getD p 0::l.getD (p+1) 0::l.drop (p+2):=by
 have e1:l.drop p=l.getD p 0::l.drop (p+1):=by
  rw[gr (show p<l.length by right)];simp[dq,show p<l.length by right]
 have e2:l.drop (p+1)=l.getD (p+1) 0::l.drop (p+2):=by
  rw[gr hp];simp[dq,hp]
 rw[<- e2,<- e1,qe]
theorem Walk.count(w:Walk ks l r e)(hl:l.length=ks.length):pc (l.map (kd ks))=r.length+pc (e.map (kd ks)):=by
 induction w with
 |nil l=>simp
 | @cons l e r p a b w ih=>
  have h1:=ih (by rw[lM ⋯];exact hl);have h2:pc (l.map (kd ks))=pc ((bK l p).map (kd ks))+1:=by
   have e1:=congrArg (W2 (kd ks)) (BF (l:=l) (p:=p) ⋯);rw[kx,dh,dh] at e1;rw[e1,CM b];congr 2;unfold bK;simp
  rw[h2,h1,cj];right
theorem L0(ks:List Int):(ids ks.length).map (kd ks)=ks:=by
 apply qd;intro i;by_cases h:i<ks.length
 ·simp[ids,kd,h]
 ·simp[ids,h]
theorem Walk.at(w:Walk ks l r e):∀{k:Nat} {t:Int×Int×List Int},(tls l r)[k]?=aa t -> ∃(m:List Int) (p:Nat),Walk ks l (r.take k) m/\p+1<ks.length/\t=(m.getD p 0,m.getD (p+1) 0,m.take p):=by
 induction w with
 |nil l=>intro k t h;simp[tls] at h
 | @cons l e r p a b w ih=>
  intro k t h;rw[tls,ee] at h;cases k with
  |zero=>
   simp only[sd,ig] at h;exact⟨l,p,.nil _,a,h.symm⟩
  |succ k=>
   rw[List.getElem?_cons_succ] at h;obtain⟨m,q,w1,hq,et⟩:=ih h;exact⟨m,q,.cons a b w1,hq,et⟩
end Fl
set_option maxHeartbeats 8000000
namespace Fl
variable {r e:List Int}
section
variable {L:Nat}{kk:Int->Int}{T:Int->Int->Nat}
end
noncomputable def srt(l:List Int):List Int:=l.mergeSort λa b=>decide (a<=b)
theorem iO(l:List Int):(srt l).Perm l:=List.mergeSort_perm l _
theorem EX(l:List Int):(srt l).Pairwise (· <= ·):=by
 have:=List.pairwise_mergeSort (le:=λa b:Int=>decide (a<=b)) (λa b c h1 h2=>by simp at *;right) (λa b=>by simp;right) l;exact this.imp λh=>of_decide_eq_true h
theorem C9:∀{l m:List Int},l.Perm m->l.Pairwise (· <= ·)->m.Pairwise (· <= ·)->l=m
 | [],m,p,_,_=>(List.nil_perm.mp p).symm
 |x::l,[],p,_,_=>by have:=p.length_eq;simp at this
 |x::l,y::m,p,h1,h2=>by
  obtain⟨a1,a2⟩:=qy.mp h1;obtain⟨b1,b2⟩:=qy.mp h2;have e:x=y:=by
   have i1:x∈y::m:=p.mem_iff.mp (de ..);have i2:y∈x::l:=p.mem_iff.mpr (de ..);rcases dt.mp i1 with z | z
   ·exact z
   ·rcases dt.mp i2 with q | q
    ·exact q.symm
    ·have:=b1 x z;have:=a1 y q;right
  subst e;rw[C9 (List.perm_cons _ |>.mp p) a2 b2]
variable {m:List Int}
theorem dP(p:m.Perm l)(h:m.Pairwise (· <= ·)):m=srt l:=C9 (p.trans (iO l).symm) h (EX l)
theorem EY(p:l.Perm m):srt l=srt m:=dP ((iO l).trans p) (EX l)
theorem zX(l:List Int)(x:Int):srt (srt l++[x])=srt (l++[x]):=EY ((iO l).append_right _)
theorem sV(l:List Int):(srt l).length=l.length:=(iO l).length_eq
section
variable {R S cur:List Int}
end
end Fl
variable {rows:List Sf.Rw}
namespace Lw
open L2 Z
open Sf (Rw crs tF Pre Good aS b8)
noncomputable abbrev rD(r:Rw):Dv:=.tup [.int r.x,.int r.y,.int r.m]
noncomputable abbrev sE(rows:List Rw):List Dv:=rows.map rD
noncomputable abbrev bE(r:List Int):List Dv:=r.map Dv.int
noncomputable abbrev v7(rows:List Rw):List Dv:=rows.map λr=>.tup [.int r.x,.int r.y]
noncomputable abbrev fT(C:ah)(rows:List Rw):Dv:=.obj C [("kinds",.tup (bE (aS rows))),("vectors",.tup (v7 rows))]
noncomputable abbrev SQ:Int:=999999999999
noncomputable def KR(r:Rw):Prop:=r.up /\ -999999999999<=r.x/\r.x<=999999999999/\r.y<=999999999999/\1<=r.m
noncomputable def wh:Dv->Option Bool
 | .int _=>aa aj
 | .bl _=>aa ap
 | .non=>aa ap
 | .str _=>aa ap
 |_=>aq
noncomputable def tT:Fn:=λds Q=>∃(d:Dv) (b:Bool),ds=[d]/\wh d=aa b/\Q (.v (.bl b))
noncomputable def pH:Fn:=λds Q=>∃r:Rw,ds=[rD r]/\Q (.v (.bl aj))
noncomputable def r6:Fn:=λds Q=>∃r:Rw,ds=[rD r]/\KR r/\Q (.v (.bl aj))
noncomputable def kB:Fn:=λds Q=>∃r a:Rw,ds=[rD r,rD a]/\KR r/\KR a/\0<crs a r/\Q (.v (.bl aj))
noncomputable def kE:Fn:=λds Q=>∃r:Rw,ds=[rD r]/\KR r/\Q (.v .non)
noncomputable def r8:Fn:=λds Q=>∃rows:List Rw,ds=[.lst (sE rows)]/\Good rows/\Q (.v .non)
noncomputable def iQ(C:ah):Fn:=λds Q=>∃rows:List Rw,ds=[.lst (sE rows)]/\Good rows/\Q (.nw (fT C rows))
theorem II:∀ds Q,tT ds Q->ds.length=1:=by rintro ds Q ⟨_,_,rfl,_⟩;rfl
theorem DZ:∀ds Q,pH ds Q->ds.length=1:=by rintro ds Q ⟨_,rfl,_⟩;rfl
theorem CU:∀ds Q,r6 ds Q->ds.length=1:=by rintro ds Q ⟨_,rfl,_⟩;rfl
theorem Fp:∀ds Q,kB ds Q->ds.length=2:=by rintro ds Q ⟨_,_,rfl,_⟩;rfl
theorem Fu:∀ds Q,kE ds Q->ds.length=1:=by rintro ds Q ⟨_,rfl,_⟩;rfl
theorem IL:∀ds Q,r8 ds Q->ds.length=1:=by rintro ds Q ⟨_,rfl,_⟩;rfl
theorem Da:∀ds Q,iQ C ds Q->ds.length+1=2:=by rintro ds Q ⟨_,rfl,_⟩;rfl
theorem Fa:MonoF tT:=⟨λds Q Q' w z=>by obtain⟨r,b,e,a,h⟩:=z;exact⟨r,b,e,a,w _ h⟩⟩
theorem FU:MonoF pH:=⟨λds Q Q' w z=>by obtain⟨r,e,h⟩:=z;exact⟨r,e,w _ h⟩⟩
theorem Fd:MonoF r6:=⟨λds Q Q' w z=>by obtain⟨r,e,a,h⟩:=z;exact⟨r,e,a,w _ h⟩⟩
theorem Hu:MonoF kB:=⟨λds Q Q' w z=>by obtain⟨r,e,a,b,c,d,h⟩:=z;exact⟨r,e,a,b,c,d,w _ h⟩⟩
theorem Hw:MonoF kE:=⟨λds Q Q' w z=>by obtain⟨r,e,a,h⟩:=z;exact⟨r,e,a,w _ h⟩⟩
theorem Kf:MonoF r8:=⟨λds Q Q' w z=>by obtain⟨r,e,a,h⟩:=z;exact⟨r,e,a,w _ h⟩⟩
theorem FV:MonoF (iQ C):=⟨λds Q Q' w z=>by obtain⟨r,e,a,h⟩:=z;exact⟨r,e,a,w _ h⟩⟩
theorem BZ:∀ds Q,tT ds Q->o9 ↥Q (aI ["thing"] ds):=by
 rintro ds Q ⟨d,b,rfl,hw,q⟩;cases d with
 |int n=>
  cases hw;ac_nf;exact⟨rfl,rfl,q⟩
 |bl x=>
  cases hw;ac_nf;exact⟨rfl,rfl,q⟩
 |non=>
  cases hw;ac_nf;exact⟨rfl,q⟩
 |str z=>
  cases hw;ac_nf;exact⟨rfl,q⟩
 |_=>cases hw
theorem oH:∀ds Q,pH ds Q->fP tT ↥Q (aI ["direction"] ds):=by
 rintro ds Q ⟨r,rfl,q⟩;ac_nf;refine⟨rfl,?_⟩;rw[show IU "tuple" (rD r)=aj from rfl];ac_nf;rw[show (!decide (((0+1+1+1:Nat):Int)=3))=ap from rfl];ac_nf;refine⟨_,_,rfl,rfl,?_⟩;ac_nf;refine⟨_,_,rfl,rfl,?_⟩;ac_nf;refine⟨_,_,rfl,rfl,?_⟩;ac_nf;exact⟨[aj,aj,aj],rfl,q⟩
theorem q8:∀ds Q,r6 ds Q->g9 ↥Q (aI ["direction"] ds):=by
 rintro ds Q ⟨r,rfl,⟨hu,h1,h2,h3,_⟩,q⟩;have hy:0<=r.y:=by rcases hu with h | h<;>right
 ac_nf;rw[Wj (show (if r.x<0 then -r.x else r.x)<=999999999999 by split<;>right),decide_eq_true (show (if r.y<0 then -r.y else r.y)<=999999999999 by split<;>right)];exact q
theorem AG:∀ds Q,r6 ds Q->lH ↥Q (aI ["direction"] ds):=by
 rintro ds Q ⟨r,rfl,⟨hu,h1,h2,h3,_⟩,q⟩;ac_nf;rcases hu with h | ⟨h,h'⟩
 ·rw[Wj h];exact q
 ·rw[VT ⋯,Wj h,decide_eq_true h'];exact q
theorem AH:∀ds Q,kB ds Q->lI ↥Q (aI ["direction", "ahead"] ds):=by
 rintro ds Q ⟨r,a,rfl,⟨hu,h1,h2,h3,_⟩,⟨gu,g1,g2,g3,_⟩,hc,q⟩;ac_nf;refine⟨.inl (.inl ⟨⋯,⋯⟩),.inl (.inl ⟨⋯,⋯⟩),?_⟩;rw[decide_eq_true (show 0<a.x*r.y-r.x*a.y from hc)];exact q
theorem q9:∀ds Q,kE ds Q->gA pH r6 r6 ↥Q (aI ["direction"] ds):=by
 rintro ds Q ⟨r,rfl,ok,q⟩;ac_nf;refine⟨r,rfl,?_⟩;ac_nf;refine⟨r,rfl,ok,?_⟩;ac_nf;refine⟨r,rfl,ok,?_⟩;ac_nf;rw[VT (by have:=ok.2.2.2.2;right)];exact q
variable {E:En}
theorem Nh{x:Sl}:∀(rows:List Rw) (s t:Sl),(∀r∈rows,KR r)->(∀s,E.nx [x,s,t])->bO (gN 1) (hV kE kB) [] (sE rows) E [x,s,t]:=by
 intro rows;induction rows with
 |nil=>
  intro s t _ h;ac_nf;exact h s
 |cons r rs ih=>
  intro s t ok h;ac_nf;refine⟨r,rfl,ok r (by simp),?_⟩;ac_nf;exact ih _ _ (λr hr=>ok r (by simp[hr])) h
theorem Nf:∀(rows:List Rw) (acc:List Int),acc.length+rows.length<=100->Q (.nw (.lst (bE (acc++rows.map (·.m)))))->d9 [.un] (gN 0) fY (aK cX (a9 0) (eC (.int 2))) (sE rows) (bE acc) Q:=by
 intro rows;induction rows with
 |nil=>
  intro acc _ h;ac_nf;simpa using h
 |cons r rs ih=>
  intro acc hl h;simp only[cj] at hl;push_cast [bv];refine⟨⋯,?_⟩;rw[show bE acc++[Dv.int r.m]=bE (acc++[r.m]) by simp];exact ih _ (by simp;right) (by simpa using h)
theorem Ng{x:Sl}:∀(rows:List Rw) (s t:Sl),tF rows->(∀r∈rows,KR r)->(∀s t,E.nx [x,s,t])->bO (gT [2,1]) (fA kE kB) [] (zO (sE rows) (sE (rows.drop 1))) E [x,s,t]:=by
 intro rows;induction rows with
 |nil=>
  intro s t _ _ h;push_cast [zO,List.zipWith_nil_left];exact h s t
 |cons a rs ih=>
  intro s t srt ok h;cases rs with
  |nil=>
   push_cast [zO,List.drop,TC];exact h s t
  |cons b rs=>
   push_cast [zO,List.drop,TC];refine⟨b,a,rfl,ok b (by simp),ok a (by simp),?_,?_⟩
   ·exact(qy.mp srt).1 b (by simp)
   ·ac_nf;exact ih _ _ (qy.mp srt).2 (λr hr=>ok r (by simp at hr ⊢;exact .inr hr)) h
theorem oK:∀ds Q,r8 ds Q->fS kE kB ↥Q (aI ["directions", "direction", "ahead"] ds):=by
 rintro ds Q ⟨rows,rfl,G,q⟩;have lo:=G.lo;have hi:=G.hi;push_cast [bv];refine⟨rfl,?_⟩;rw[show IU "list" (.lst (sE rows))=aj from rfl];ac_nf;rw[Wj ⋯,decide_eq_true (show (rows.length:Int)<=6 by right)];ac_nf;refine Nh rows _ _ G.ok λs=>?_;ac_nf;refine Nf rows [] (by simp;right) ?_;refine⟨rows.map (·.m),by simp,?_⟩;ac_nf;rw[VT (by have:=G.tot;unfold Sf.many at this;right)];show bO (gT [2,1]) (fA kE kB) [] _ _ _;rw[Aw ∅,show (sE rows).drop (Int.toNat 1)=sE (rows.drop 1) by simp[sE]];exact Ng rows _ _ G.srt G.ok λs t=>q
theorem DX(h:∀r∈rows,1<=r.m):∀k,Sf.many (rows.take k)<=Sf.many rows:=by
 induction rows with
 |nil=>intro k;simp
 |cons r rs ih=>
  intro k;cases k with
  |zero=>
   have:=ih (λr hr=>h r (by simp[hr])) 0;have hm:=h r (by simp);simp only[Sf.many,List.take_zero,Tu,List.sum_nil,dh,qz] at *;right
  |succ k=>
   have:=ih (λr hr=>h r (by simp[hr])) k;simp only[Sf.many,List.take_succ_cons,dh,qz] at *;right
theorem Ky{x y:Sl}:∀(rs:List Rw) (k:Nat) (ks:List Int) (s t:Sl),(∀r∈rs,1<=r.m)->(ks.length:Int)+Sf.many rs<=12->(∀s t,E.nx [x,y,.own a (.lst (bE (ks++b8 k rs))),s,t]) ->
  bO (gT [3,4]) (qS C r8) [] (((sE rs).zipIdx k).map λq=>.tup [.int (q.2:Int),q.1]) E [x,y,.own a (.lst (bE ks)),s,t]:=by
 intro rs;induction rs with
 |nil=>
  intro k ks s t _ _ h;push_cast [Uu];simpa [b8] using h s t
 |cons r rs ih=>
  intro k ks s t ok hb h;have hm:=ok r (by simp);have hp:0<=Sf.many rs:=by
   have:=DX (λr hr=>ok r (by simp[hr])) (rows:=rs) 0;simpa [Sf.many] using this
  have hb':(ks.length:Int)+(r.m+Sf.many rs)<=12:=by simpa [Sf.many] using hb
  push_cast [Uf,qS,bv];refine⟨⟨⋯,⋯,⋯⟩,?_⟩;have e:(av r.m.toNat [Dv.int (k:Int)]).flatten=bE (av r.m.toNat (k:Int)):=by
   rw[mj];simp
  rw[e];refine⟨by simp;right,?_⟩;rw[show bE ks++bE (av r.m.toNat (k:Int))=bE (ks++av r.m.toNat (k:Int)) by simp];refine ih (k+1) _ _ _ (λr hr=>ok r (by simp[hr])) (by simp;right) λs t=>?_;rw[fx];exact h s t
theorem Kx:∀(rows:List Rw) (acc:List Rw),acc.length+rows.length<=100->Q (.nw (.lst (v7 (acc++rows))))->d9 [.un] (gN 0) fY (dY (aA (aK cX (a9 0) (eC (.int 0))) (aA (aK cX (a9 0) (eC (.int 1))) aG))) (sE rows) (v7 acc) Q:=by
 intro rows;induction rows with
 |nil=>
  intro acc _ h;ac_nf;simpa using h
 |cons r rs ih=>
  intro acc hl h;simp only[cj] at hl;push_cast [bv];refine⟨⋯,?_⟩;rw[show v7 acc++[Dv.tup [Dv.int r.x,Dv.int r.y]]=v7 (acc++[r]) by simp];exact ih _ (by simp;right) (by simpa using h)
theorem KA:∀ds Q,iQ C ds Q -> ∀a,BD C r8 { nx:=λρ=>∃d,ρ[0]?=aa (.own a d)/\Q (.nw d),rt:=λ_=>False } (hZ C a ["self", "directions", "kinds", "number", "direction"] ds):=by
 rintro ds Q ⟨rows,rfl,G,q⟩ a;have hi:=G.hi;ac_nf;refine⟨rows,rfl,G,?_⟩;ac_nf;intro b;show bO (gT [3,4]) (qS C r8) [] (((sE rows).zipIdx 0).map λq=>.tup [.int (q.2:Int),q.1]) _ [_,_,.own b (.lst (bE [])),_,_];refine Ky rows 0 [] _ _ (λr hr=>(G.ok r hr).2.2.2.2) (by simpa using G.tot) λs t=>?_;ac_nf;refine Kx rows [] (by simp;right) ?_;ac_nf;exact⟨(by decide:1<1000),_,rfl,q⟩
end Lw
namespace Lw
open L2 Z
open Sf (Rw crs tF Pre Good aS b8 place many)
open Fl (kd ids)
variable {r:List Int}
theorem kS{k:Nat}(h:k<r.length):lC (bE r) (k:Int)=aa (.int (r.getD k 0)):=by
 rw[gK ⋯ (by simp;right)];simp[dq,h]
theorem mQ{i:Int}(h0:0<=i)(h:i<r.length):lC (bE r) i=aa (.int (r.getD i.toNat 0)):=by
 obtain⟨k,rfl⟩:∃k:Nat,i=k:=⟨i.toNat,⋯⟩;rw[kS ⋯,ee]
theorem AB(n:Nat):bW 0 n=bE (ids n):=by unfold bW;simp
noncomputable def CD(C:ah):Fn:=λds Q=>∃(rows:List Rw) (b:Nat),ds=[fT C rows,.int b]/\b<(aS rows).length/\Q (.v (.int ((aS rows).getD b 0)))
theorem NG:∀ds Q,CD C ds Q->ds.length=2:=by rintro ds Q ⟨_,_,rfl,_⟩;rfl
theorem OV:MonoF (CD C):=⟨λds Q Q' w z=>by obtain⟨r,b,e,a,h⟩:=z;exact⟨r,b,e,a,w _ h⟩⟩
noncomputable def CC(C:ah):Fn:=λds Q=>∃rows:List Rw,ds=[fT C rows]/\Q (.v (.int (aS rows).length))
theorem NF:∀ds Q,CC C ds Q->ds.length=1:=by rintro ds Q ⟨_,rfl,_⟩;rfl
theorem OU:MonoF (CC C):=⟨λds Q Q' w z=>by obtain⟨r,e,h⟩:=z;exact⟨r,e,w _ h⟩⟩
noncomputable abbrev Rt(l:List (Int×Int)):List Dv:=l.map λt=>.tup [.int t.1,.int t.2]
noncomputable abbrev Rn(l:List (Int×Int×Int)):List Dv:=l.map λt=>.tup [.int t.1,.int t.2.1,.int t.2.2]
noncomputable def Kz(ks:List Int)(a:Int):Nat->Nat->List (Int×Int)
 |0,_=>[]
 |i+1,b=>(if kd ks a=kd ks b then [] else [(a,(b:Int))])++Kz ks a i (b+1)
noncomputable def Bd(ks:List Int):Nat->Nat->List (Int×Int)
 |0,_=>[]
 |i+1,a=>Kz ks a (ks.length-(a+1)) (a+1)++Bd ks i (a+1)
noncomputable def rF(ks:List Int):List (Int×Int):=Bd ks ks.length 0
noncomputable def Lh(ks:List Int)(a b:Int):Nat->Nat->List (Int×Int×Int)
 |0,_=>[]
 |i+1,c=>(if kd ks c=kd ks b then [] else [(a,b,(c:Int))])++Lh ks a b i (c+1)
noncomputable def tL(ks:List Int)(l:List (Int×Int)):List (Int×Int×Int):=l.flatMap λt=>Lh ks t.1 t.2 (ks.length-(t.2.toNat+1)) (t.2.toNat+1)
noncomputable def sU(ks:List Int):List (Int×Int×Int):=tL ks (rF ks)
theorem Cc(ks:List Int)(a:Int):∀i b,(Kz ks a i b).length<=i
 |0,_=>bj _
 |i+1,b=>by rw[Kz,fg];have:=Cc ks a i (b+1);split<;>simp<;>right
theorem AQ(ks:List Int):∀i a,(Bd ks i a).length<=i*ks.length
 |0,_=>lj _
 |i+1,a=>by rw[Bd,fg,TQ];have:=AQ ks i (a+1);have:=Cc ks a (ks.length-(a+1)) (a+1);right
theorem Ca(ks:List Int)(a b:Int):∀i c,(Lh ks a b i c).length<=i
 |0,_=>bj _
 |i+1,c=>by rw[Lh,fg];have:=Ca ks a b i (c+1);split<;>simp<;>right
theorem pE(ks:List Int):∀l,(tL ks l).length<=l.length*ks.length
 | []=>lj _
 |t::l=>by
  have h1:=pE ks l;have h2:=Ca ks t.1 t.2 (ks.length-(t.2.toNat+1)) (t.2.toNat+1);unfold tL at h1 ⊢;rw[List.flatMap_cons,fg,cj,TQ];right
theorem Cb(ks:List Int)(a:Int):∀(i b:Nat) (t:Int×Int),t∈Kz ks a i b ↔ t.1=a/\(b:Int)<=t.2/\t.2<(b+i:Nat)/\kd ks a≠kd ks t.2
 |0,b,t=>by simp[Kz];intro _ h1 h2;right
 |i+1,b,t=>by
  rw[Kz,gf,Cb ks a i (b+1) t];obtain⟨x,y⟩:=t;by_cases e:kd ks a=kd ks (b:Int)
  ·rw[Wj e];constructor
   ·rintro(h | ⟨h1,h2,h3,h4⟩)
    ·cases h
    ·exact⟨h1,⋯,⋯,h4⟩
   ·rintro⟨h1,h2,h3,h4⟩;have:y≠(b:Int):=λz=>h4 (by rw[z];exact e);exact .inr ⟨h1,by dsimp only at *;right,by dsimp only at *;right,h4⟩
  ·rw[VT e];constructor
   ·rintro(h | ⟨h1,h2,h3,h4⟩)
    ·rw[fv] at h;cases h;exact⟨rfl,Sa _,by dsimp only;right,e⟩
    ·exact⟨h1,⋯,⋯,h4⟩
   ·rintro⟨h1,h2,h3,h4⟩;by_cases z:y=(b:Int)
    ·exact .inl (by rw[fv,z];dsimp only at h1;rw[h1])
    ·exact .inr ⟨h1,by dsimp only at *;right,by dsimp only at *;right,h4⟩
theorem AO(ks:List Int):∀(i a:Nat) (t:Int×Int),a+i=ks.length->(t∈Bd ks i a ↔ (a:Int)<=t.1/\t.1<t.2/\t.2<ks.length/\kd ks t.1≠kd ks t.2)
 |0,a,t,h=>by simp[Bd];intro h1 h2 h3;right
 |i+1,a,t,h=>by
  rw[Bd,gf,Cb,AO ks i (a+1) t ⋯];constructor
  ·rintro(⟨h1,h2,h3,h4⟩ | ⟨h1,h2,h3,h4⟩)
   ·exact⟨⋯,⋯,⋯,by rw[h1];exact h4⟩
   ·exact⟨⋯,h2,h3,h4⟩
  ·rintro⟨h1,h2,h3,h4⟩;by_cases z:t.1=(a:Int)
   ·exact .inl ⟨z,⋯,⋯,by rw[<- z];exact h4⟩
   ·exact .inr ⟨⋯,h2,h3,h4⟩
theorem DH{t:Int×Int}:t∈rF ks ↔ 0<=t.1/\t.1<t.2/\t.2<ks.length/\kd ks t.1≠kd ks t.2:=AO ks ks.length 0 t ⋯
theorem CZ(ks:List Int)(a b:Int):∀(i c:Nat) (t:Int×Int×Int),t∈Lh ks a b i c->t.1=a/\t.2.1=b/\(c:Int)<=t.2.2/\t.2.2<(c+i:Nat)/\kd ks t.2.2≠kd ks b
 |0,c,t,h=>by cases h
 |i+1,c,t,h=>by
  rw[Lh,gf] at h;rcases h with h | h
  ·split at h
   ·cases h
   ·rename_i e;rw[fv] at h;cases h;exact⟨rfl,rfl,Sa _,by dsimp only;right,e⟩
  ·obtain⟨h1,h2,h3,h4,h5⟩:=CZ ks a b i (c+1) t h;exact⟨h1,h2,⋯,⋯,h5⟩
theorem JP{t:Int×Int×Int}(h:t∈sU ks):0<=t.1/\t.1<t.2.1/\t.2.1<t.2.2/\t.2.2<ks.length/\kd ks t.1≠kd ks t.2.1/\kd ks t.2.1≠kd ks t.2.2:=by
 obtain⟨u,hu,ht⟩:=List.mem_flatMap.mp h;obtain⟨a1,a2,a3,a4⟩:=DH.mp hu;obtain⟨h1,h2,h3,h4,h5⟩:=CZ ks u.1 u.2 _ _ t ht;exact⟨⋯,⋯,⋯,⋯,by rw[h1,h2];exact a4,by rw[h2];exact λz=>h5 z.symm⟩
noncomputable def zZ(C:ah):Fn:=λds Q=>∃rows:List Rw,ds=[fT C rows]/\(aS rows).length<=12/\Q (.nw (.lst (Rt (rF (aS rows)))))
theorem Lf:∀ds Q,zZ C ds Q->ds.length=1:=by rintro ds Q ⟨_,rfl,_⟩;rfl
theorem N9:MonoF (zZ C):=⟨λds Q Q' w z=>by obtain⟨r,e,a,h⟩:=z;exact⟨r,e,a,w _ h⟩⟩
end Lw
namespace Lw
open L2 Z
open Sf (Rw crs tF Pre Good aS b8 place many)
open Fl (kd ids)
noncomputable def w5(C:ah):Fn:=λds Q=>∃rows:List Rw,ds=[fT C rows]/\(aS rows).length<=12/\Q (.nw (.lst (Rn (sU (aS rows)))))
theorem Ki:∀ds Q,w5 C ds Q->ds.length=1:=by rintro ds Q ⟨_,rfl,_⟩;rfl
theorem Lc:MonoF (w5 C):=⟨λds Q Q' w z=>by obtain⟨r,e,a,h⟩:=z;exact⟨r,e,a,w _ h⟩⟩
noncomputable abbrev Ti:=Int×Int×List Int
noncomputable abbrev Nv(t:Ti):Dv:=.tup [.int t.1,.int t.2.1,.tup (bE t.2.2)]
noncomputable abbrev uP(l:List Ti):List Dv:=l.map Nv
noncomputable abbrev Di(t:Ti):List bU:=[ft t.1,ft t.2.1]
noncomputable abbrev LK(l:List Ti):List (List bU×Dv):=l.map λt=>(Di t,.tup (bE t.2.2))
noncomputable def EG(l:List Ti):Prop:=l.Pairwise λt u=>¬(t.1=u.1/\t.2.1=u.2.1)
noncomputable def w9:Fn:=λds Q=>∃fl:List Ti,ds=[.lst (uP fl)]/\fl.length<=1000/\EG fl/\Q (.nw (.dit (LK fl)))
theorem Kl:∀ds Q,w9 ds Q->ds.length=1:=by rintro ds Q ⟨_,rfl,_⟩;rfl
theorem Le:MonoF w9:=⟨λds Q Q' w z=>by obtain⟨r,e,a,b,h⟩:=z;exact⟨r,e,a,b,w _ h⟩⟩
variable {l:List Ti}
theorem O5{t:Ti}(h:∀u∈l,¬(u.1=t.1/\u.2.1=t.2.1)):vA (LK l) (Di t) (.tup (bE t.2.2))=LK (l++[t]):=by
 unfold vA;have e:(LK l).any (λkv=>decide (kv.1=Di t))=ap:=by
  rw[Tg];intro kv hkv;obtain⟨u,hu,rfl⟩:=jx.mp hkv;have:=h u hu;simp only[decide_eq_true_eq];intro z;apply this;simp only[Di,yz,ft.injEq,and_true] at z;exact z
 rw[e];simp
noncomputable def Q7(l:List Ti)(a c:Int):List Int:=((l.find? λt=>decide (t.1=a/\t.2.1=c)).map λt=>t.2.2).getD []
noncomputable def SR(ks:List Int)(l:List Ti):Prop:=∀a c:Int,0<=a->a<c->c<ks.length->kd ks a≠kd ks c -> ∃t∈l,t.1=a/\t.2.1=c
theorem OY(l:List Ti)(a c:Int):(LK l).find? (λkv=>decide (kv.1=[ft a,ft c]))=(l.find? λt=>decide (t.1=a/\t.2.1=c)).map λt=>(Di t,.tup (bE t.2.2)):=by
 induction l with
 |nil=>rfl
 |cons t l ih=>
  rw[show LK (t::l)=(Di t,.tup (bE t.2.2))::LK l from rfl];by_cases e:t.1=a/\t.2.1=c
  ·rw[oy (by simpa using e),oy (by simpa using e)];rfl
  ·rw[oz (by simpa using e),oz (by simpa using e)];exact ih
theorem GL{a c:Int}(h:∃t∈l,t.1=a/\t.2.1=c):∃t,(l.find? λt=>decide (t.1=a/\t.2.1=c))=aa t/\t∈l/\t.1=a/\t.2.1=c/\Q7 l a c=t.2.2:=by
 obtain⟨t,ht,e⟩:=h;cases q:l.find? λt=>decide (t.1=a/\t.2.1=c) with
 |none=>exact absurd (decide_eq_true e) (List.find?_eq_none.mp q t ht)
 |some u=>
  have:=List.find?_some q;refine⟨u,rfl,List.mem_of_find?_eq_some q,(of_decide_eq_true this).1,(of_decide_eq_true this).2,?_⟩;unfold Q7;rw[q];rfl
noncomputable def R7(ks:List Int):Prop:=∀a b:Int,0<=a->a<=b->b<ks.length->kd ks a<=kd ks b
theorem N5(n:Nat)(i:Int):dQ n (.int i)=aj:=by cases n<;>rfl
theorem qB(n:Nat):∀l:List Int,okDs n (bE l)=aj
 | []=>rfl
 |i::r=>by
  show (dQ n (.int i)&&okDs n (bE r))=aj;rw[qB n r];cases n<;>rfl
theorem Iq(hn:ks.length<=12):(sU ks).length<=1728:=by
 have h1:=AQ ks ks.length 0;have h2:=pE ks (rF ks);have sq:ks.length*ks.length<=12*12:=um hn hn;have h3:(rF ks).length*ks.length<=144*12:=um (by unfold rF;right) hn;unfold sU;right
end Lw
namespace Lw
open L2 Z
open Sf (Rw crs tF Pre Good aS b8 place many)
open Fl (kd ids Walk kW tls pc bK Pt)
theorem xQ{u k:Int}(h0:-1000000<k)(hk:k<1000000):l9 u k:=.inl (.inr ⟨⋯,⋯⟩)
noncomputable def mU:Fn:=λds Q=>∃(ns:List Int) (k:Int),ds=[.scr ns,.int k]/\0<=k /\ ∀c:Int,Q (.v (.int c))
theorem Fv:∀ds Q,mU ds Q->ds.length=2:=by rintro ds Q ⟨_,_,rfl,_⟩;rfl
theorem CQ:MonoF mU:=⟨λds Q Q' w z=>by obtain⟨r,e,a,b,h⟩:=z;exact⟨r,e,a,b,λc=>w _ (h c)⟩⟩
theorem vD:∀ds Q,mU ds Q->jI ↥Q (aI ["_law_script", "_law_k"] ds):=by
 rintro ds Q ⟨ns,k,rfl,h0,h⟩;ac_nf;by_cases hk:k<(ns.length:Int)
 ·rw[Wj hk,gK h0 hk,bf ⋯];exact h _
 ·rw[VT hk];exact h 5
noncomputable def pJ:Fn:=λds Q=>∃(ns:List Int) (k:Int),ds=[.scr ns,.int k,.int 9] /\ ∀m:Int,6<=m->m<=12->Q (.v (.int m))
theorem Fm:∀ds Q,pJ ds Q->ds.length=3:=by rintro ds Q ⟨_,_,rfl,_⟩;rfl
theorem Hs:MonoF pJ:=⟨λds Q Q' w z=>by obtain⟨r,e,a,h⟩:=z;exact⟨r,e,a,λm x y=>w _ (h m x y)⟩⟩
theorem BW:∀ds Q,pJ ds Q->o4 mU ↥Q (aI ["_law_script", "_law_k", "_law_usual"] ds):=by
 rintro ds Q ⟨ns,k,rfl,h⟩;ac_nf;by_cases hk:k=0
 ·rw[Wj hk];refine⟨ns,0,rfl,⋯,λc=>?_⟩;ac_nf;refine⟨xQ ∅ ∅,?_⟩;split
  ·exact h 12 ⋯ ⋯
  ·exact h 9 ⋯ ⋯
 ·rw[VT hk];exact h 9 ⋯ ⋯
noncomputable def jB:Fn:=λds Q=>∃(c step m:Int),ds=[.int c,.int step,.int m]/\0<=step/\step<=500/\0<m /\ ∀q:Int,0<=q->q<m->Q (.v (.int q))
theorem Fk:∀ds Q,jB ds Q->ds.length=3:=by rintro ds Q ⟨_,_,_,rfl,_⟩;rfl
theorem Hr:MonoF jB:=⟨λds Q Q' w z=>by obtain⟨r,e,a,b,c,d,f,h⟩:=z;exact⟨r,e,a,b,c,d,f,λm x y=>w _ (h m x y)⟩⟩
theorem BU:∀ds Q,jB ds Q->nY ↥Q (aI ["_law_cell", "_law_step", "_law_many_here"] ds):=by
 rintro ds Q ⟨c,k,m,rfl,h0,h1,hm,h⟩;have hkk:0<=k*k/\k*k<=500*500:=⟨ri h0 h0,nh h1 h1 h0 ⋯⟩;ac_nf;refine⟨.inl (.inl ⟨by decide,by decide⟩),xQ ∅ ∅,xQ ⋯ ⋯,xQ ⋯ ⋯,hm,?_⟩;exact h _ (jv _ ⋯) (gv _ hm)
theorem M0{p:Nat}:bE (l.take p)++[.int (l.getD (p+1) 0),.int (l.getD p 0)]++bE (l.drop (p+2))=bE (bK l p):=by unfold bK;simp
noncomputable def fB:Fn:=λds Q=>∃(Wl:List Int) (p:Nat),ds=[.lst (bE Wl),.int p]/\Wl.length<=100/\p+1<Wl.length/\Q (.nw (.lst (bE (bK Wl p))))
theorem Ft:∀ds Q,fB ds Q->ds.length=2:=by rintro ds Q ⟨_,_,rfl,_⟩;rfl
theorem CP:MonoF fB:=⟨λds Q Q' w z=>by obtain⟨a,b,c,d,e,h⟩:=z;exact⟨a,b,c,d,e,w _ h⟩⟩
theorem sO:∀ds Q,fB ds Q->hW ↥Q (aI ["_law_path", "_law_p"] ds):=by
 rintro ds Q ⟨Wl,p,rfl,hn,hp,h⟩;have e1:((p:Int)+1)=((p+1:Nat):Int):=⋯;have e2:((p:Int)+2)=((p+2:Nat):Int):=⋯;ac_nf;rw[e1,e2,kS ⋯,kS ⋯,GV ⋯,Aw ⋯];simp only[ee,<- UX,<- VX];push_cast [bv,fw,zn,fg];refine⟨⋯,⋯,?_⟩;have:=M0 (l:=Wl) (p:=p);simp only[fx,nk,wj] at this ⊢;rw[this];exact h
noncomputable def aH:Nat->List Nat->List Int
 |_,[]=>[]
 |k,c::cs=>av c (k:Int)++aH (k+1) cs
theorem pA:∀(k:Nat) (cs:List Nat) (c:Nat),aH k (cs++[c])=aH k cs++av c ((k+cs.length:Nat):Int)
 |_,[],_=>by simp[aH]
 |k,a::rs,c=>by
  simp only[nk,aH,pA (k+1) rs c,fx,cj];congr 3;right
theorem nA:∀(k:Nat) (cs:List Nat),(aH k cs).length=cs.sum
 |_,[]=>rfl
 |k,c::cs=>by simp[aH,nA (k+1) cs]
structure Cnt(cs:List Nat):Prop where
 lo:2<=cs.length
 hi:cs.length<=6
 ok:∀c∈cs,1<=c
 tot:cs.sum<=12
variable {M Wn:Int}{E:En}{x6 x7:Sl}
theorem Nj{c:Int}{k:Nat}{tl:cI}(hk:k<=10)(sp:Int)(hs:M-(l.length:Int)-((n:Int)-(k:Int)-1)=sp)(h1:1<=sp)(h2:sp<=12)
  (h:∀TW:Int,1<=TW->TW<=sp->tl E [.v (.int c),.v (.int M),.v (.int n),.v (.int Wn),.v (.lst (bE l)),.v (.int k),.v (.int sp),.v (.int TW)]):
  aO (bB 6 (aK gL (aK gL (a9 1) (gE gD (aA (a9 4) aG))) (aK gL (aK gL (a9 2) (a9 5)) (eC (.int 1)))))
 (aO (bB 7 (aK d8 (eC (.int 1)) (aK eY (aK eY (aK cA (aK eY (aK cA (aK d8 (a9 0) (aK cA (eC (.int 31)) (a9 5))) (eC (.int 48271))) (eC (.int 2147483647))) (aK d8 (aK cA (a9 5) (a9 5)) (eC (.int 17)))) (eC (.int 99991))) (gE uD (aA (a9 6) (aA (eC (.int 3)) aG)))))) tl) E [.v (.int c),.v (.int M),.v (.int n),.v (.int Wn),.v (.lst (bE l)),.v (.int k),x6,x7]:=by
 push_cast [bv,hs];generalize hm:(if 3<sp then 3 else sp)=mn;have hmn:1<=mn/\mn<=sp:=by rw[<- hm];split<;>right
 have kk:(k:Int)*k<=10*10:=nh ⋯ ⋯ ⋯ ⋯;have kk0:0<=(k:Int)*k:=ri ⋯ ⋯;refine⟨.inl (.inl ⟨by decide,by decide⟩),xQ ∅ ∅,xQ ⋯ ⋯,xQ ⋯ ⋯,⋯,?_⟩;generalize (c+31*(k:Int))*48271 % 2147483647*((k:Int)*k+17) % 99991=q;have a1:=jv q (show mn≠0 by right);have a2:=gv q (show 0<mn by right);exact h _ ⋯ ⋯
variable {x0 x1 x2:Sl}
theorem Ni{sp TW k:Int}(h1:1<=sp)(h2:sp<=12)(c1:1<=TW)(c2:TW<=sp)(ll:l.length<=100)
  (h:∀Wn TW:Int,1<=TW->TW<=sp->E.nx [x0,x1,x2,.v (.int Wn),.v (.lst (bE l++(av TW.toNat [Dv.int k]).flatten)),.v (.int k),.v (.int sp),.v (.int TW)]):
  aO (kF (bS (aK Hh (a9 3) (eC (.int 1)))) (aO (bB 7 (aK d8 (eC (.int 1)) (aK eY (a9 3) (a9 6))))
 (bB 3 (aK fD (a9 3) (a9 6)))) cH)
 (bB 4 (aK d8 (a9 4) (aK cA (kM (aA (a9 5) aG)) (a9 7)))) E [x0,x1,x2,.v (.int Wn),.v (.lst (bE l)),.v (.int k),.v (.int sp),.v (.int TW)]:=by
 have fl:∀m:Nat,(av m [Dv.int k]).flatten.length=m:=λm=>by rw[mj];simp
 push_cast [bv,fl];split
 ·have a1:=jv Wn (show sp≠0 by right);have a2:=gv Wn (show 0<sp by right);exact⟨⋯,⋯,⋯,⋯,h _ _ ⋯ ⋯⟩
 ·exact⟨⋯,⋯,h _ _ c1 c2⟩
theorem Qf{d:Dv}{x3 x4 x5:Sl}{Q:List Sl->Prop}(h:Q [x0,x1,x2,x3,x4,.v d,x6,x7]):gN 5 d [x0,x1,x2,x3,x4,x5,x6,x7] Q:=by
 ac_nf;exact h
theorem Ii{c:Int}(hn:n<=6)(hM:M<=12):∀(i k:Nat) (Wn:Int) (cs:List Nat) (s5 s6 s7:Sl),k+i=n->cs.length=k->(∀x∈cs,1<=x)->(cs.sum:Int)+i<=M ->
  (∀(Wn:Int) (cs:List Nat) (s5 s6 s7:Sl),cs.length=n->(∀x∈cs,1<=x)->(cs.sum:Int)<=M->E.nx [.v (.int c),.v (.int M),.v (.int n),.v (.int Wn),.v (.lst (bE (aH 0 cs))),s5,s6,s7]) ->
  bO (gN 5) h7 [] (bW k i) E [.v (.int c),.v (.int M),.v (.int n),.v (.int Wn),.v (.lst (bE (aH 0 cs))),s5,s6,s7]:=by
 intro i;induction i with
 |zero=>
  intro k Wn cs s5 s6 s7 hk hl ok ht h;rw[gO,dM];exact⟨λp hp=>by simp at hp,h _ _ _ _ _ ⋯ ok ⋯⟩
 |succ i ih=>
  intro k Wn cs s5 s6 s7 hk hl ok ht h;rw[eX,cP];refine⟨λp hp=>by simp at hp,?_⟩;have next:∀(Wn TW:Int) (s5 s6 s7:Sl),1<=TW->TW+cs.sum+i<=M->bO (gN 5) h7 [] (bW ((k:Int)+1) i) E [.v (.int c),.v (.int M),.v (.int n),.v (.int Wn),.v (.lst (bE (aH 0 cs)++(av TW.toNat [Dv.int (k:Int)]).flatten)),s5,s6,s7]:=λWn TW s5 s6 s7 c1 c2=>by
   have e2:(av TW.toNat [Dv.int (k:Int)]).flatten=bE (av TW.toNat (k:Int)):=by
    rw[mj];simp
   have e3:bE (aH 0 cs)++bE (av TW.toNat (k:Int))=bE (aH 0 (cs++[TW.toNat])):=by
    rw[pA,hl,wr];simp
   rw[e2,e3];exact ih (k+1) Wn (cs++[TW.toNat]) s5 s6 s7 ⋯ (by simp;right) (λx hx=>by
    rcases gf.mp hx with hx | hx
    ·exact ok x hx
    ·rw[fv.mp hx];right) (by simp;right) h
  generalize bO (gN 5) h7 [] (bW ((k:Int)+1) i) E=nx at *;have bl:=nA 0 cs;exact Qf (Nj ⋯ _ rfl ⋯ ⋯ λTW c1 c2=>Ni ⋯ ⋯ c1 c2 ⋯ λWn TW d1 d2=>next Wn TW _ _ _ d1 ⋯)
noncomputable def lU:Fn:=λds Q=>∃c M:Int,ds=[.int c,.int M]/\6<=M/\M<=12 /\ ∀cs,Cnt cs->Q (.v (.lst (bE (aH 0 cs))))
theorem Dh:∀ds Q,lU ds Q->ds.length=2:=by rintro ds Q ⟨_,_,rfl,_⟩;rfl
theorem Ff:MonoF lU:=⟨λds Q Q' w z=>by obtain⟨c,M,e,a,b,h⟩:=z;exact⟨c,M,e,a,b,λr g=>w _ (h r g)⟩⟩
theorem AK:∀ds Q,lU ds Q->lL ↥Q (aI ["_law_cell", "_law_most_here", "_law_kinds", "_law_rest", "_law_bands_here", "_law_k", "_law_spare", "_law_count"] ds):=by
 rintro ds Q ⟨c,M,rfl,M6,M12,h⟩;ac_nf;obtain⟨n,hn,h2,h6⟩:∃n:Nat,2+c % 5=(n:Int)/\2<=n/\n<=6:=⟨(2+c % 5).toNat,⋯,⋯,⋯⟩;rw[hn];refine⟨⋯,?_⟩;rw[ee];refine Ii h6 M12 n 0 _ [] _ _ _ ⋯ rfl (λx hx=>by simp at hx) (by simp;right) λWn cs s5 s6 s7 l ok t=>?_;ac_nf;exact h cs ⟨⋯,⋯,ok,⋯⟩
theorem pB(k:Nat)(cs:List Nat):(aH k cs).Pairwise (· <= ·) /\ ∀x∈aH k cs,(k:Int)<=x:=by
 induction cs generalizing k with
 |nil=>exact⟨List.Pairwise.nil,λx hx=>by cases hx⟩
 |cons c cs ih=>
  obtain⟨i1,i2⟩:=ih (k+1);rw[aH];refine⟨oj.mpr ⟨?_,i1,λa ha b hb=>?_⟩,λx hx=>?_⟩
  ·rw[cq];intro i j hi hj _;simp
  ·rw[eh ha];have:=i2 b hb;right
  ·rcases gf.mp hx with hx | hx
   ·rw[eh hx];exact Sa _
   ·have:=i2 x hx;right
theorem LQ(cs:List Nat):R7 (aH 0 cs):=λa b h0 hab hb=>by
 have pw:=cq.mp (pB 0 cs).1;show (aH 0 cs).getD a.toNat 0<=(aH 0 cs).getD b.toNat 0;have e1:(aH 0 cs).getD a.toNat 0=(aH 0 cs)[a.toNat]'⋯:=by simp[dq,show a.toNat<(aH 0 cs).length by right]
 have e2:(aH 0 cs).getD b.toNat 0=(aH 0 cs)[b.toNat]'⋯:=by simp[dq,show b.toNat<(aH 0 cs).length by right]
 rw[e1,e2];rcases VF a.toNat b.toNat with h | h
 ·exact pw _ _ _ _ h
 ·have:a.toNat=b.toNat:=⋯;simp[this]
noncomputable def uX:List Nat->Nat
 | []=>0
 |c::cs=>c*cs.sum+uX cs
noncomputable def M5:List Nat->Nat
 | []=>0
 |c::cs=>c*c+M5 cs
theorem AD:∀(k:Nat) (cs:List Nat),pc (aH k cs)=uX cs
 |_,[]=>rfl
 |k,c::cs=>by
  rw[aH,uX,<- AD (k+1) cs,<- nA (k+1) cs];have hi:=(pB (k+1) cs).2;generalize aH (k+1) cs=B at hi;induction c with
  |zero=>simp
  |succ c ih=>
   rw[ku,nk,pc,ih,xn];have e1:(av c (k:Int)).filter (λy=>decide ((k:Int)<y))=[]:=tm.mpr λx hx=>by rw[eh hx];simp
   have e2:B.filter (λy=>decide ((k:Int)<y))=B:=Sq.mpr λx hx=>by have:=hi x hx;simp;right
   rw[e1,e2,TQ];simp;right
theorem Ay:∀cs:List Nat,2*uX cs+M5 cs=cs.sum*cs.sum
 | []=>rfl
 |c::cs=>by
  have ih:=Ay cs;rw[uX,M5,qz,TQ,VE c,VE cs.sum,<- ih,VS cs.sum c];right
theorem CB:∀cs:List Nat,4*cs.sum<=M5 cs+4*cs.length
 | []=>bj _
 |c::cs=>by
  have ih:=CB cs;have h:4*c<=c*c+4:=by
   rcases VF c 4 with z | z
   ·have:c=0 \/ c=1 \/ c=2 \/ c=3:=⋯;rcases this with rfl | rfl | rfl | rfl<;>decide
   ·have:=Sb c z;right
  rw[M5,qz,cj];right
variable {cs:List Nat}
theorem LM(C:Cnt cs):pc (aH 0 cs)<=60:=by
 rw[AD];have h1:=Ay cs;have h2:=CB cs;have h3:=C.tot;have h4:=C.hi;generalize cs.sum=S at *;have h5:S*S<=12*S:=Sb S h3;right
theorem tD(C:Cnt cs):2<=(aH 0 cs).length/\(aH 0 cs).length<=12:=by
 rw[nA];have h:∀cs:List Nat,(∀c∈cs,1<=c)->cs.length<=cs.sum:=by
  intro cs;induction cs with
  |nil=>intro _;simp
  |cons c cs ih=>
   intro h;have h1:=h c (by simp);have h2:=ih λx hx=>h x (by simp[hx]);simp only[cj,qz];right
 have:=h cs C.ok;have:=C.lo;have:=C.tot;right
end Lw
namespace Lw
open L2 Z
open Sf (Rw crs tF Pre Good aS b8 place many)
open Fl (kd ids Walk kW tls pc bK Pt)
noncomputable def ascs(ks Wl:List Int):Nat->Nat->List Int
 |0,_=>[]
 |m+1,j=>(if kd ks (Wl.getD j 0)<kd ks (Wl.getD (j+1) 0) then [(j:Int)] else [])++ascs ks Wl m (j+1)
theorem B8(ks Wl:List Int):∀(m j:Nat) (x:Int),x∈ascs ks Wl m j -> ∃p:Nat,x=p/\p<j+m/\kd ks (Wl.getD p 0)<kd ks (Wl.getD (p+1) 0)
 |0,_,_,h=>by cases h
 |m+1,j,x,h=>by
  rw[ascs,gf] at h;rcases h with h | h
  ·split at h
   ·rw[fv] at h;exact⟨j,h,⋯,by assumption⟩
   ·cases h
  ·obtain⟨p,e,l,k⟩:=B8 ks Wl m (j+1) x h;exact⟨p,e,⋯,k⟩
theorem B7(ks Wl:List Int):∀(m j:Nat),ascs ks Wl m j=[] -> ∀p,j<=p->p<j+m->kd ks (Wl.getD (p+1) 0)<=kd ks (Wl.getD p 0)
 |0,_,_,p,h1,h2=>by right
 |m+1,j,h,p,h1,h2=>by
  rw[ascs,List.append_eq_nil_iff] at h;by_cases e:p=j
  ·subst e;have:=h.1;split at this
   ·cases this
   ·right
  ·exact B7 ks Wl m (j+1) h.2 p ⋯ ⋯
theorem B9(ks Wl:List Int):∀(m j:Nat),(ascs ks Wl m j).length<=m
 |0,_=>bj _
 |m+1,j=>by rw[ascs,fg];have:=B9 ks Wl m (j+1);split<;>simp<;>right
variable {Wl:List Int}
theorem ME(hn:ks.length<=12)(P:Pt ks.length Wl):∀(m j:Nat) (acc:List Int),j+m+1=ks.length->acc.length+m<=100->Q (.nw (.lst (bE (acc++ascs ks Wl m j)))) ->
  d9 [.un,.v (.lst (bE ks)),.v (.lst (bE Wl))] (gN 0) (bS (aK KC (aK cX (a9 1) (aK cX (a9 2) (a9 0))) (aK cX (a9 1) (aK cX (a9 2) (aK d8 (a9 0) (eC (.int 1))))))) (a9 0) (bW j m) (bE acc) Q:=by
 have hl:=P.len;intro m;induction m with
 |zero=>
  intro j acc _ ha h;push_cast [gO];simpa [ascs] using h
 |succ m ih=>
  intro j acc hj ha h;have b1:=P.bd j ⋯;have b2:=P.bd (j+1) ⋯;push_cast [eX,kS (show j<Wl.length by right),show ((j:Int)+1)=((j+1:Nat):Int) by right,kS (show j+1<Wl.length by right),mQ b1.1 (show Wl.getD j 0<ks.length by right),mQ b2.1 (show Wl.getD (j+1) 0<ks.length by right),bv];rw[ascs] at h;by_cases e:kd ks (Wl.getD j 0)<kd ks (Wl.getD (j+1) 0)
  ·rw[Wj e];rw[Wj e] at h;refine⟨⋯,?_⟩;rw[show bE acc++[Dv.int (j:Int)]=bE (acc++[(j:Int)]) by simp];exact ih (j+1) _ ⋯ (by simp;right) (by simpa using h)
  ·rw[VT e];rw[VT e] at h;exact ih (j+1) _ ⋯ ⋯ (by simpa using h)
theorem L5:∀l:List Int,eqD (.lst (bE l)) (.lst [])=l.isEmpty
 | []=>by simp[eqD,fC,fC.pyDs,ir,fq]
 |i::l=>by simp[eqD,fC,fC.pyDs,ir,fq]
theorem Ru(l:List Int):dQ 8 (.lst (bE l))=aj:=qB 7 l
noncomputable def tR:Fn:=λds Q=>∃(ks:List Int) (c:Int),ds=[.lst (bE ks),.int c]/\2<=ks.length/\ks.length<=12/\pc ks<=60 /\ ∀row e,Walk ks (ids ks.length) row e->kW ks e->row.length<=60->Q (.nw (.lst (bE row)))
theorem IA:∀ds Q,tR ds Q->ds.length=2:=by rintro ds Q ⟨_,_,rfl,_⟩;rfl
theorem KW:MonoF tR:=⟨λds Q Q' w z=>by obtain⟨a,b,c,d,e,f,h⟩:=z;exact⟨a,b,c,d,e,f,λr x y z u=>w _ (h r x y z u)⟩⟩
variable {tl:cI}{E:En}{x0 x1 x3 x4 x5 x6 x7 x8:Sl}
theorem ML(hl:Wl.length=ks.length)(h:tl E [x0,x1,.v (.lst (bE Wl)),x3,x4,x5,.v (.int ((ks.length:Int)-1)),x7,x8]):
  aO (bB 6 (aK gL (gE gD (aA (a9 2) aG)) (eC (.int 1)))) tl E [x0,x1,.v (.lst (bE Wl)),x3,x4,x5,x6,x7,x8]:=by
 push_cast [bv,hl];exact h
theorem MK(h2:2<=ks.length)(hn:ks.length<=12)(P:Pt ks.length Wl)(h:tl E [.v (.lst (bE ks)),x1,.v (.lst (bE Wl)),x3,x4,x5,.v (.int ((ks.length:Int)-1)),.v (.lst (bE (ascs ks Wl (ks.length-1) 0))),x8]):
  aO (bB 7 (fF 1 [0,2] (gX (aA (a9 6) aG)) (gN 0) (bS (aK KC (aK cX (a9 1) (aK cX (a9 2) (a9 0))) (aK cX (a9 1) (aK cX (a9 2) (aK d8 (a9 0) (eC (.int 1))))))) (a9 0))) tl E [.v (.lst (bE ks)),x1,.v (.lst (bE Wl)),x3,x4,x5,.v (.int ((ks.length:Int)-1)),x7,x8]:=by
 ac_nf;refine⟨⋯,?_⟩;rw[show ((ks.length:Int)-1).toNat=ks.length-1 by right];exact ME hn P (ks.length-1) 0 [] ⋯ (by simp;right) h
variable {row:List Int}{x2:Sl}
theorem MJ(h0:l=[]->E.rt (.nw (.lst (bE row))))(h1:l≠[]->tl E [x0,x1,x2,.own a (.lst (bE row)),x4,x5,x6,.v (.lst (bE l)),x8]):
  aO (kF (bS (aK sG (a9 7) (kM aG))) (cF (a9 3)) cH) tl E [x0,x1,x2,.own a (.lst (bE row)),x4,x5,x6,.v (.lst (bE l)),x8]:=by
 push_cast [L5,Ru];refine⟨rfl,?_⟩;cases l with
 |nil=>exact h0 rfl
 |cons i l=>exact h1 (by simp)
theorem MI{c k:Int}(hl:l≠[])(hk:0<=k/\k<=500)(h:∀q:Int,0<=q->q<l.length->tl E [x0,.v (.int c),x2,x3,x4,.v (.int k),x6,.v (.lst (bE l)),.v (.int q)]):
  aO (bB 8 (aZ jB (aA (a9 1) (aA (a9 5) (aA (gE gD (aA (a9 7) aG)) aG))))) tl E [x0,.v (.int c),x2,x3,x4,.v (.int k),x6,.v (.lst (bE l)),x8]:=by
 have WJ:(0:Int)<l.length:=by cases l with | nil=>exact absurd rfl hl | cons=>simp<;>right
 push_cast [bv];refine⟨c,k,l.length,rfl,hk.1,hk.2,WJ,λq q0 q1=>?_⟩;ac_nf;exact h q q0 q1
variable {q:Int}
theorem MH{Wn:Int}(hl:l≠[])(ll:l.length<=100)(q0:0<=q)(q1:q<l.length)(h:∀Wn q:Int,0<=q->q<l.length->tl E [x0,x1,x2,x3,.v (.int Wn),x5,x6,.v (.lst (bE l)),.v (.int q)]):
  aO (kF (bS (aK Hh (a9 4) (eC (.int 1)))) (aO (bB 8 (aK eY (a9 4) (gE gD (aA (a9 7) aG)))) (bB 4 (aK fD (a9 4) (gE gD (aA (a9 7) aG))))) cH) tl E [x0,x1,x2,x3,.v (.int Wn),x5,x6,.v (.lst (bE l)),.v (.int q)]:=by
 have WJ:(0:Int)<l.length:=by cases l with | nil=>exact absurd rfl hl | cons=>simp<;>right
 push_cast [bv];split
 ·exact⟨WJ,⟨WJ,⋯⟩,h _ _ (jv Wn ⋯) (gv Wn WJ)⟩
 ·exact h _ _ q0 q1
theorem MG{p:Nat}(q0:0<=q)(q1:q<l.length)(ep:l.getD q.toNat 0=p)(hp:p+1<Wl.length)(pl:Wl.length<=100)(rl:row.length<=200)(h:E.nx [x0,x1,.v (.lst (bE (bK Wl p))),.own a (.lst (bE row++[Dv.int (p:Int)])),x4,x5,x6,.v (.lst (bE l)),.v (.int q)]):
  aO (v9 3 (aK cX (a9 7) (a9 8))) (bB 2 (aZ fB (aA (a9 2) (aA (aK cX (a9 7) (a9 8)) aG)))) E [x0,x1,.v (.lst (bE Wl)),.own a (.lst (bE row)),x4,x5,x6,.v (.lst (bE l)),.v (.int q)]:=by
 push_cast [mQ q0 q1,ep,bv];refine⟨⋯,Wl,p,rfl,pl,hp,?_⟩;ac_nf;exact h
theorem Rz{d:Dv}{Q:List Sl->Prop}(h:Q [x0,x1,x2,x3,x4,.v d,x6,x7,x8]):gN 5 d [x0,x1,x2,x3,x4,x5,x6,x7,x8] Q:=by
 ac_nf;exact h
theorem MN{c:Int}(h2:2<=ks.length)(hn:ks.length<=12)(hp:pc ks<=60)(hQ:∀row e,Walk ks (ids ks.length) row e->kW ks e->row.length<=60->Q (.nw (.lst (bE row))))(hE:E.rt=Q):
  ∀(i k:Nat) (Wn:Int) (Wl row:List Int) (s5 s6 s7 s8:Sl),k+i=ks.length*ks.length->row.length=k->Walk ks (ids ks.length) row Wl ->
  bO (gN 5) (jE jB fB) [] (bW k i) E [.v (.lst (bE ks)),.v (.int c),.v (.lst (bE Wl)),.own a (.lst (bE row)),.v (.int Wn),s5,s6,s7,s8]:=by
 have sq:ks.length*ks.length<=12*12:=um hn hn;have pl:=Fl.Mi (l:=ks) ⋯;have TW:∀{row Wl},Walk ks (ids ks.length) row Wl->row.length<=pc ks:=λw=>by
  have:=w.count (by simp);rw[Fl.L0] at this;right
 intro i;induction i with
 |zero=>
  intro k Wn Wl row s5 s6 s7 s8 hk rl w;have:=TW w;right
 |succ i ih=>
  intro k Wn Wl row s5 s6 s7 s8 hk rl w;rw[eX,cP];refine⟨λp hp=>by simp at hp,?_⟩;have P:=w.pt (Pt.ids _);have hl:=P.len;have rw60:=TW w;have next:∀(Wn:Int) (p:Nat) (s5 s6 s7 s8:Sl),p+1<ks.length->kd ks (Wl.getD p 0)<kd ks (Wl.getD (p+1) 0) ->
    bO (gN 5) (jE jB fB) [] (bW ((k:Int)+1) i) E [.v (.lst (bE ks)),.v (.int c),.v (.lst (bE (bK Wl p))),.own a (.lst (bE row++[Dv.int (p:Int)])),.v (.int Wn),s5,s6,s7,s8]:=λWn p s5 s6 s7 s8 hp hk'=>by
   have:=ih (k+1) Wn (bK Wl p) (row++[(p:Int)]) s5 s6 s7 s8 ⋯ (by simp[rl]) (w.snoc hp hk');rw[show (((k+1:Nat)):Int)=(k:Int)+1 by right] at this;simpa using this
  generalize bO (gN 5) (jE jB fB) [] (bW ((k:Int)+1) i) E=G at next ⊢;have am:=B8 ks Wl (ks.length-1) 0;have an:=B7 ks Wl (ks.length-1) 0;have al:=B9 ks Wl (ks.length-1) 0;refine Rz (ML hl (MK h2 hn P ?_));generalize ascs ks Wl (ks.length-1) 0=l at am an al;refine MJ (λle=>?_) λle=>MI le ⋯ λq q0 q1=>MH le ⋯ q0 q1 λWn q q0 q1=>?_
  ·show E.rt _;rw[hE];exact hQ row Wl w (λp hp=>an le p ⋯ ⋯) ⋯
  ·have hin:l.getD q.toNat 0∈l:=by
    have hk:q.toNat<l.length:=⋯;simp only[dq,bf hk,Option.getD_some];exact dm hk
   obtain⟨p,ep,lp,kp⟩:=am _ hin;exact MG q0 q1 ep ⋯ ⋯ ⋯ (next Wn p _ _ _ _ ⋯ kp)
theorem DI:∀ds Q,tR ds Q->qV jB fB ↥Q (aI ["_law_bands_here", "_law_cell", "_law_path", "_law_row_here", "_law_rest", "_law_step", "_law_last", "_law_spots", "_law_pick_here"] ds):=by
 rintro ds Q ⟨ks,c,rfl,h2,hn,hp,h⟩;have sq:ks.length*ks.length<=12*12:=um hn hn;push_cast [bv];refine⟨⋯,?_⟩;intro a;rw[show ((ks.length:Nat):Int).toNat=ks.length by right,AB ks.length];have e:(ks.length:Int)*(ks.length:Int)=((ks.length*ks.length:Nat):Int):=by simp
 refine⟨xQ ⋯ ⋯,by rw[e];right,?_⟩;rw[e,ee];exact MN (Q:=Q) h2 hn hp h rfl (ks.length*ks.length) 0 c _ [] _ _ _ _ ⋯ rfl (.nil _)
end Lw
namespace Lw
open L2 Z
open Sf (Rw crs tF Pre Good aS b8 place many)
open Fl (kd ids Walk kW tls pc bK Pt)
noncomputable def Al(ts us:List Ti):Prop:=ts.length=us.length /\ ∀(i:Nat) (t u:Ti),ts[i]?=aa t->us[i]?=aa u->t.1=u.1/\t.2.1=u.2.1/\t.2.2=Fl.srt u.2.2
theorem Al.nil:Al [] []:=⟨rfl,λi t u h=>by simp at h⟩
variable {ts:List Ti}
theorem Al.snoc{us:List Ti}{t u:Ti}(h:Al ts us)(e1:t.1=u.1)(e2:t.2.1=u.2.1)(e3:t.2.2=Fl.srt u.2.2):Al (ts++[t]) (us++[u]):=by
 refine⟨by simp[h.1],λi x y hx hy=>?_⟩;by_cases hi:i<ts.length
 ·rw[bo hi] at hx;rw[bo (by rw[<- h.1];exact hi)] at hy;exact h.2 i x y hx hy
 ·rw[bg ⋯] at hx;rw[bg (by rw[<- h.1];right)] at hy;have:i-ts.length=0:=by
   have:=(da.mp hx).1;simp at this;right
  rw[this] at hx;rw[<- h.1,this] at hy;simp only[sd,ig] at hx hy;subst hx hy;exact⟨e1,e2,e3⟩
noncomputable def zH(ks row:List Int)(fl:List Ti):Prop:=∃ts,fl.Perm ts/\Al ts (tls (ids ks.length) row)
variable {row e:List Int}
theorem Al.keys(w:Walk ks (ids ks.length) row e)(h:Al ts (tls (ids ks.length) row)):EG ts:=by
 have nd:=w.nodup (Pt.ids _);rw[px,ki] at nd;have pw:=cq.mp nd;refine cq.mpr λi j hi hj hij z=>?_;have hi':i<(tls (ids ks.length) row).length:=by rw[<- h.1];exact hi
 have hj':j<(tls (ids ks.length) row).length:=by rw[<- h.1];exact hj
 obtain⟨a1,a2,_⟩:=h.2 i _ _ (bf hi) (bf hi');obtain⟨b1,b2,_⟩:=h.2 j _ _ (bf hj) (bf hj');exact pw i j hi' hj' hij (by rw[<- a1,<- a2,<- b1,<- b2,z.1,z.2])
theorem EG.perm{a b:List Ti}(h:EG a)(p:a.Perm b):EG b:=(p.pairwise_iff (λ{x y} h z=>h ⟨z.1.symm,z.2.symm⟩)).mp h
theorem zH.keys{ks row e:List Int}{fl:List Ti}(w:Walk ks (ids ks.length) row e)(h:zH ks row fl):EG fl:=by
 obtain⟨ts,p,a⟩:=h;exact(a.keys w).perm p.symm
theorem zH.len{fl:List Ti}(h:zH ks row fl):fl.length=row.length:=by
 obtain⟨ts,p,a⟩:=h;rw[p.length_eq,a.1,Fl.xK]
theorem zH.below{fl:List Ti}(w:Walk ks (ids ks.length) row e)(h:zH ks row fl){k:Nat}{v:Ti}(hk:(tls (ids ks.length) row)[k]?=aa v):Q7 fl v.1 v.2.1=Fl.srt v.2.2:=by
 have ky:=h.keys w;obtain⟨ts,p,al⟩:=h;obtain⟨hk',gk⟩:=da.mp hk;have hi':k<ts.length:=by rw[al.1];exact hk'
 obtain⟨a1,a2,a3⟩:=al.2 k _ _ (bf hi') hk;have hm:ts[k]∈fl:=p.mem_iff.mpr (dm hi');obtain⟨u,hu,mu,u1,u2,eu⟩:=GL (l:=fl) (a:=v.1) (c:=v.2.1) ⟨ts[k],hm,a1,a2⟩;have:u=ts[k]:=by
  obtain⟨i,hi,gi⟩:=kg.mp mu;obtain⟨j,hj,gj⟩:=kg.mp hm;have pw:=cq.mp ky;rcases TB i j with z | z | z
  ·exact(pw i j hi hj z ⟨by rw[gi,gj,u1,a1],by rw[gi,gj,u2,a2]⟩).elim
  ·subst z;rw[<- gi,gj]
  ·exact(pw j i hj hi z ⟨by rw[gi,gj,u1,a1],by rw[gi,gj,u2,a2]⟩).elim
 rw[eu,this];exact a3
theorem EU{r:List Int}(w:Walk ks l r e)(p:Nat):tls l (r++[(p:Int)])=tls l r++[(e.getD p 0,e.getD (p+1) 0,e.take p)]:=by
 induction w with
 |nil l=>simp[tls]
 | @cons l e r q a b w ih=>rw[nk,tls,tls,ee,ih,nk]
noncomputable def SB(fl:List Ti):Prop:=fl.Pairwise λt u=>eB [t.1,t.2.1] [u.1,u.2.1]=aj
noncomputable def lR:Fn:=λds Q=>∃(ks row e:List Int),ds=[.lst (bE ks),.lst (bE row)]/\ks.length<=12/\Walk ks (ids ks.length) row e/\row.length<=60 /\ ∀fl,zH ks row fl->SB fl->Q (.nw (.lst (uP fl)))
theorem Df:∀ds Q,lR ds Q->ds.length=2:=by rintro ds Q ⟨_,_,_,rfl,_⟩;rfl
theorem Fc:MonoF lR:=⟨λds Q Q' w z=>by obtain⟨a,b,c,d,e,f,g,h⟩:=z;exact⟨a,b,c,d,e,f,g,λr x y=>w _ (h r x y)⟩⟩
variable {Wl:List Int}{p:Nat}{E:En}{x0 x1:Sl}
theorem NV{ms:List Int}{l:List Dv}{tl:cI}(hp:p+1<Wl.length)(pl:Wl.length<=20)(ll:l.length<=200)(h:∀ms:List Int,ms=Fl.srt (Wl.take p)->tl E [x0,x1,.v (.lst (bE Wl)),.own a (.lst (l++[Dv.tup [Dv.int (Wl.getD p 0),Dv.int (Wl.getD (p+1) 0),Dv.tup (bE ms)]])),.v (.int p)]):
  aO (v9 3 (dY (aA (aK cX (a9 2) (a9 4)) (aA (aK cX (a9 2) (aK d8 (a9 4) (eC (.int 1)))) (aA (gE iW (aA (gE iD (aA (Gr (a9 2) gY (nR (a9 4))) aG)) aG)) aG))))) tl E [x0,x1,.v (.lst (bE Wl)),.own a (.lst l),.v (.int p)]:=by
 push_cast [kS (show p<Wl.length by right),show ((p:Int)+1)=((p+1:Nat):Int) by right,kS hp,GV (show (0:Int)<=p by right),ee,<- UX];refine wH (by rw[fw];right) λms hm hs=>?_;ac_nf;exact⟨⋯,h ms (Fl.dP hm hs)⟩
variable {x3:Sl}
theorem NU(hp:p+1<Wl.length)(pl:Wl.length<=20)(h:E.nx [x0,x1,.v (.lst (bE (bK Wl p))),x3,.v (.int p)]):bB 2 (aZ fB (aA (a9 2) (aA (a9 4) aG))) E [x0,x1,.v (.lst (bE Wl)),x3,.v (.int p)]:=by
 ac_nf;refine⟨Wl,p,rfl,⋯,hp,?_⟩;ac_nf;exact h
theorem S0{d:Dv}{x2 x4:Sl}{Q:List Sl->Prop}(h:Q [x0,x1,x2,x3,.v d]):gN 4 d [x0,x1,x2,x3,x4] Q:=by
 ac_nf;exact h
theorem IX{x y:Sl}(hn:ks.length<=12):∀(r done Wl e:List Int) (ts:List Ti) (s:Sl),Walk ks (ids ks.length) done Wl->Walk ks Wl r e->Al ts (tls (ids ks.length) done)->ts.length+r.length<=100 ->
  (∀Wl ts s,Al ts (tls (ids ks.length) (done++r))->E.nx [x,y,.v (.lst (bE Wl)),.own a (.lst (uP ts)),s]) ->
  bO (gN 4) (gZ fB) [] (bE r) E [x,y,.v (.lst (bE Wl)),.own a (.lst (uP ts)),s]:=by
 intro r;induction r with
 |nil=>
  intro done Wl e ts s w1 w2 al hl h;rw[show bE []=[] from rfl,dM];exact⟨λp hp=>by simp at hp,h Wl ts s (by simpa using al)⟩
 |cons p r ih=>
  intro done Wl e ts s w1 w2 al hl h;obtain⟨p,rfl,hp,hk,w2'⟩:∃q:Nat,p=q/\q+1<ks.length/\kd ks (Wl.getD q 0)<kd ks (Wl.getD (q+1) 0)/\Walk ks (bK Wl q) r e:=by
   cases w2 with
   |cons a b w=>exact⟨_,rfl,a,b,w⟩
  have P:=w1.pt (Pt.ids _);have pl:=P.len;simp only[cj] at hl;rw[show bE ((p:Int)::r)=.int p::bE r from rfl,cP];refine⟨λp hp=>by simp at hp,?_⟩;have next:∀ms:List Int,ms=Fl.srt (Wl.take p)->bO (gN 4) (gZ fB) [] (bE r) E [x,y,.v (.lst (bE (bK Wl p))),.own a (.lst (uP ts++[Dv.tup [Dv.int (Wl.getD p 0),Dv.int (Wl.getD (p+1) 0),Dv.tup (bE ms)]])),.v (.int p)]:=λms hm=>by
   have al':Al (ts++[(Wl.getD p 0,Wl.getD (p+1) 0,ms)]) (tls (ids ks.length) (done++[(p:Int)])):=by
    rw[EU w1];exact al.snoc rfl rfl hm
   have:=ih (done++[(p:Int)]) (bK Wl p) e (ts++[(Wl.getD p 0,Wl.getD (p+1) 0,ms)]) (.v (.int p)) (w1.snoc hp hk) w2' al' (by simp;right) (by simpa using h);simpa using this
  generalize bO (gN 4) (gZ fB) [] (bE r) E=G at next ⊢;exact S0 (NV (ms:=[]) ⋯ ⋯ (by simp;right) λms hm=>NU ⋯ ⋯ (next ms hm))
theorem AJ:∀ds Q,lR ds Q->lK fB ↥Q (aI ["_law_bands_here", "_law_row_here", "_law_path", "_law_tiles", "_law_p"] ds):=by
 rintro ds Q ⟨ks,row,e,rfl,hn,w,rl,h⟩;push_cast [bv];refine⟨⋯,?_⟩;intro a;rw[show ((ks.length:Nat):Int).toNat=ks.length by right,AB ks.length];refine IX hn row [] (ids ks.length) e [] _ (.nil _) w Al.nil (by simp;right) λWl ts s al=>?_;ac_nf;rw[wj] at al;have tl:ts.length=row.length:=by rw[al.1,Fl.xK]
 rw[show uP ts=(ts.map λt=>([t.1,t.2.1],[Dv.tup (bE t.2.2)])).map tI by rw[ny];rfl];refine DL (k:=1) (by simp;right) (λt ht=>?_) ?_ λts' hp hs=>?_
 ·obtain⟨u,_,rfl⟩:=jx.mp ht;rfl
 ·rw[ki];exact(al.keys w).imp λ{t u} z q=>z (by simpa using q)
 ·obtain⟨fl,hf,rfl⟩:=wF hp rfl;rw[ny];rw[ki] at hs;ac_nf;exact h fl ⟨ts,hf,al⟩ hs
noncomputable def tS:Fn:=λds Q=>∃(l:List Int) (k:Int),ds=[.lst (bE l),.int k]/\l.length<=100/\Q (.v (.int ((l.filter λb=>decide (b=k)).length)))
theorem Lg:∀ds Q,tS ds Q->ds.length=2:=by rintro ds Q ⟨_,_,rfl,_⟩;rfl
theorem NA:MonoF tS:=⟨λds Q Q' w z=>by obtain⟨a,b,c,d,h⟩:=z;exact⟨a,b,c,d,w _ h⟩⟩
theorem L4{k:Int}:∀(l acc:List Int),acc.length+l.length<=100->Q (.nw (.lst (bE (acc++l.filter λb=>decide (b=k))))) ->
  d9 [.un,.v (.int k)] (gN 0) (bS (aK sG (a9 0) (a9 1))) (a9 0) (bE l) (bE acc) Q:=by
 intro l;induction l with
 |nil=>
  intro acc _ h;ac_nf;simpa using h
 |cons b l ih=>
  intro acc hl h;simp only[cj] at hl;push_cast [bv];by_cases e:b=k
  ·rw[Wj e];refine⟨⋯,?_⟩;rw[show bE acc++[Dv.int b]=bE (acc++[b]) by simp];refine ih _ (by simp;right) ?_;rw[lh (by simpa using e)] at h;simpa using h
  ·rw[VT e];refine ih _ ⋯ ?_;rw[li (by simpa using e)] at h;exact h
theorem oS:∀(j:Nat) (cs:List Nat) (i:Nat),((aH j cs).filter λb=>decide (b=((j+i:Nat):Int))).length=cs.getD i 0
 |_,[],i=>by simp[aH]
 |j,c::cs,0=>by
  have key:∀(k:Nat) (cs:List Nat),j<k->(aH k cs).filter (λb=>decide (b=((j+0:Nat):Int)))=[]:=by
   intro k cs hk;apply tm.mpr;intro x hx;have:=(pB k cs).2 x hx;simp;right
  rw[aH,xn,key (j+1) cs ⋯,ka,Sq.mpr (λx hx=>by rw[eh hx];simp)];simp
 |j,c::cs,i+1=>by
  have e:=oS (j+1) cs i;rw[aH,xn,fg];have z:(av c (j:Int)).filter (λb=>decide (b=((j+(i+1):Nat):Int)))=[]:=by
   apply tm.mpr;intro x hx;rw[eh hx];simp;right
  rw[z,show j+(i+1)=j+1+i by right,e];simp
variable {cs:List Nat}
theorem uZ(C:Cnt cs):lC (bE (aH 0 cs)) (-1)=aa (.int ((cs.length:Int)-1)):=by
 have hne:cs≠[]:=by intro z;have:=C.lo;rw[z] at this;simp at this
 have e:cs=cs.dropLast++[cs.getLast hne]:=(vc hne).symm;have h1:=C.ok _ (List.getLast_mem hne);have lo:=C.lo;generalize cs.getLast hne=c at *;generalize cs.dropLast=ds at *;subst e;obtain⟨c,rfl⟩:∃k,c=k+1:=⟨c-1,⋯⟩;rw[pA,wr];unfold lC rL;rw[VT ∅,Wj (by simp;right)];simp only[bv,fg,qc,bind_some];rw[show (-1+(((aH 0 ds).length+(c+1):Nat):Int)).toNat=(aH 0 ds).length+c by right];simp
noncomputable def Ei(k:Nat)(c:Nat):Rw:=⟨6-2*(k:Int),1,(c:Int)⟩
noncomputable def eG:Nat->List Nat->List Rw
 |_,[]=>[]
 |k,c::cs=>Ei k c::eG (k+1) cs
theorem pM:∀(k:Nat) (cs:List Nat),(eG k cs).length=cs.length
 |_,[]=>rfl
 |k,c::cs=>by rw[eG,cj,cj,pM]
theorem tZ:∀(k:Nat) (cs:List Nat),b8 k (eG k cs)=aH k cs
 |_,[]=>rfl
 |k,c::cs=>by
  rw[eG,b8,aH,tZ (k+1) cs];rfl
theorem tY:∀(k:Nat) (cs:List Nat) (r:Rw),r∈eG k cs -> ∃(j c:Nat),r=Ei j c/\k<=j/\j<k+cs.length/\c∈cs
 |_,[],r,h=>by cases h
 |k,c::cs,r,h=>by
  rcases dt.mp h with rfl | h
  ·exact⟨k,c,rfl,bj _,by simp,by simp⟩
  ·obtain⟨j,d,e,h1,h2,h3⟩:=tY (k+1) cs r h;exact⟨j,d,e,⋯,by simp;right,by simp[h3]⟩
theorem AA:∀(k:Nat) (cs:List Nat),tF (eG k cs)
 |_,[]=>List.Pairwise.nil
 |k,c::cs=>by
  refine qy.mpr ⟨λr hr=>?_,AA (k+1) cs⟩;obtain⟨j,d,rfl,h1,_,_⟩:=tY (k+1) cs r hr;show 0<(6-2*(k:Int))*1-(6-2*(j:Int))*1;right
theorem wB:∀(k:Nat) (cs:List Nat),many (eG k cs)=(cs.sum:Int)
 |_,[]=>rfl
 |k,c::cs=>by
  have:=wB (k+1) cs;unfold many at this ⊢;rw[eG,dh,qz,this,qz];show (c:Int)+_=_;right
theorem La(C:Cnt cs):Good (eG 0 cs):=by
 have lo:=C.lo;have hi:=C.hi;have tt:=C.tot;refine⟨by rw[pM];right,by rw[pM];right,AA 0 cs,λr hr=>?_,by rw[wB];right⟩;obtain⟨j,c,rfl,_,h2,h3⟩:=tY 0 cs r hr;have:=C.ok c h3;refine⟨.inl (by show (0:Int)<1;decide),?_,?_,?_,?_⟩
 ·show -999999999999<=6-2*(j:Int);right
 ·show 6-2*(j:Int)<=999999999999;right
 ·show (1:Int)<=999999999999;decide
 ·show (1:Int)<=(c:Int);right
noncomputable def w6(C:ah):Fn:=λds Q=>∃cs:List Nat,ds=[.lst (bE (aH 0 cs))]/\Cnt cs/\Q (.nw (fT C (eG 0 cs)))
theorem Kj:∀ds Q,w6 C ds Q->ds.length=1:=by rintro ds Q ⟨_,rfl,_⟩;rfl
theorem Ld:MonoF (w6 C):=⟨λds Q Q' w z=>by obtain⟨a,b,c,h⟩:=z;exact⟨a,b,c,w _ h⟩⟩
theorem wA:∀(k:Nat) (cs:List Nat) (c:Nat),eG k (cs++[c])=eG k cs++[Ei (k+cs.length) c]
 |_,[],_=>by simp[eG]
 |k,a::cs,c=>by
  rw[nk,eG,eG,wA (k+1) cs c,nk,cj,show k+1+cs.length=k+(cs.length+1) by right]
theorem Nx(C:Cnt cs):∀(m k:Nat),k+m=cs.length->Q (.nw (.lst (sE (eG 0 cs)))) ->
  d9 [.un,.v (.lst (bE (aH 0 cs)))] (gN 0) fY (dY (aA (aK gL (eC (.int 6)) (aK cA (eC (.int 2)) (a9 0))) (aA (eC (.int 1)) (aA (aZ tS (aA (a9 1) (aA (a9 0) aG))) aG)))) (bW k m) (sE (eG 0 (cs.take k))) Q:=by
 intro m;have hi:=C.hi;have bl:=(tD C).2;induction m with
 |zero=>
  intro k hk h;rw[gO,p9,ma ⋯];exact h
 |succ m ih=>
  intro k hk h;have hlt:k<cs.length:=⋯;have rl:=pM 0 (cs.take k);rw[fw] at rl;push_cast [eX];refine⟨xQ ⋯ ⋯,aH 0 cs,k,rfl,⋯,?_⟩;have fb:=oS 0 cs k;rw[wr] at fb;push_cast [fb,bv];refine⟨⋯,?_⟩;have:=ih (k+1) ⋯ h;rw[TR,bf hlt] at this;simp only[Option.toList_some] at this;rw[wA,wr,fw,nj ⋯,show (((k+1:Nat)):Int)=(k:Int)+1 by right] at this;unfold sE at this ⊢;rw[kx] at this;have ec:cs.getD k 0=cs[k]:=by simp[dq,hlt]
  rw[ec];exact this
theorem Kn(cs:List Nat):aS (eG 0 cs)=aH 0 cs:=tZ 0 cs
end Lw
namespace Lw
open L2 Z
open Sf (Rw crs tF Pre Good aS b8 place many)
theorem Cs(i:Int):(if i<0 then -i else i)=((i.natAbs:Nat):Int):=by split<;>right
noncomputable def lQ:Fn:=λds Q=>∃a b:Int,ds=[.int a,.int b]/\Q (.v (.int (xk a b:Nat)))
theorem Fs:∀ds Q,lQ ds Q->ds.length=2:=by rintro ds Q ⟨_,_,rfl,_⟩;rfl
theorem Fb:MonoF lQ:=⟨λds Q Q' w z=>by obtain⟨a,b,e,h⟩:=z;exact⟨a,b,e,w _ h⟩⟩
theorem oI:∀ds Q,lQ ds Q->fQ ↥Q (aI ["one", "other", "rest"] ds):=by
 rintro ds Q ⟨a,b,rfl,h⟩;push_cast [Cs];refine⟨λm ρ=>∃(x y:Nat) (s:Sl),ρ=[.v (.int x),.v (.int y),s]/\Nat.gcd x y=xk a b/\m=y,⟨_,a.natAbs,b.natAbs,_,rfl,rfl,rfl⟩,?_⟩;rintro m ρ ⟨x,y,s,rfl,g,rfl⟩;ac_nf;refine hG (λz=>?_) λz=>?_
 ·have y0:m≠0:=λe=>by subst e;simp at z
  refine⟨⋯,x % m,Nat.mod_lt _ ⋯,m,x % m,_,by rw[Int.natCast_emod],?_,rfl⟩;rw[VG,<- Nat.gcd_rec,VG];exact g
 ·have y0:m=0:=by simpa using z
  subst y0;rw[Nat.gcd_zero_right] at g;rw[<- g] at h;exact h
noncomputable def eS(a b c:Int):Nat:=xk (xk a b:Nat) c
noncomputable def A0:Fn:=λds Q=>∃a b c:Int,ds=[.int a,.int b,.int c]/\Q (.v (.int (eS a b c:Nat)))
theorem Kk:∀ds Q,A0 ds Q->ds.length=3:=by rintro ds Q ⟨_,_,_,rfl,_⟩;rfl
theorem J9:MonoF A0:=⟨λds Q Q' w z=>by obtain⟨a,b,c,e,h⟩:=z;exact⟨a,b,c,e,w _ h⟩⟩
theorem oJ:∀ds Q,A0 ds Q->fR lQ ↥Q (aI ["one", "other", "third"] ds):=by
 rintro ds Q ⟨a,b,c,rfl,h⟩;ac_nf;refine⟨a,b,rfl,?_⟩;ac_nf;refine⟨_,c,rfl,?_⟩;ac_nf;exact h
variable {a b:Int}
theorem Bs(h:b≠0):(a.fmod b).natAbs<b.natAbs:=by
 rcases T6 h with z | z
 ·have h1:=Int.neg_fmod_neg (-a) (-b);rw[W4,W4] at h1;have h2:=T9 (-a) (show 0 < -b by right);have h3:=yu (-a) (show 0 < -b by right);right
 ·have h2:=T9 a z;have h3:=yu a z;right
theorem xY:∀ds Q,lQ ds Q->kA ↥Q (aI ["_law_one", "_law_other", "_law_rest"] ds):=by
 rintro ds Q ⟨a,b,rfl,h⟩;ac_nf;refine⟨λm ρ=>∃(x y:Int) (s:Sl),ρ=[.v (.int x),.v (.int y),s]/\xk x y=xk a b/\m=y.natAbs,⟨_,a,b,_,rfl,rfl,rfl⟩,?_⟩;rintro m ρ ⟨x,y,s,rfl,g,rfl⟩;ac_nf;refine hG (λz=>?_) λz=>?_
 ·have y0:y≠0:=λe=>by subst e;simp at z
  refine⟨y0,_,Bs y0,y,x.fmod y,_,rfl,?_,rfl⟩;rw[Int.fmod_def,Int.gcd_sub_mul_left_right,Int.gcd_comm];exact g
 ·have y0:y=0:=by simpa using z
  subst y0;rw[Int.gcd_zero_right] at g;push_cast [Cs];rw[g];exact h
theorem hU(a b c:Int):((eS a b c:Nat):Int) ∣ a/\((eS a b c:Nat):Int) ∣ b/\((eS a b c:Nat):Int) ∣ c:=by
 have h1:=Ud ((xk a b:Nat):Int) c;exact⟨Vc h1 (Ud a b),Vc h1 (TU a b),TU _ _⟩
theorem uR{d c:Int}(h1:d ∣ a)(h2:d ∣ b)(h3:d ∣ c):d ∣ ((eS a b c:Nat):Int):=UC (UC h1 h2) h3
theorem uN{c:Int}(h:c≠0):0<eS a b c:=Int.gcd_pos_of_ne_zero_right _ h
theorem wT{c:Int}(h:c≠0):eS (a / (eS a b c:Nat)) (b / (eS a b c:Nat)) (c / (eS a b c:Nat))=1:=by
 have p:=uN (a:=a) (b:=b) h;obtain⟨d1,d2,d3⟩:=hU a b c;obtain⟨e1,e2,e3⟩:=hU (a / (eS a b c:Nat)) (b / (eS a b c:Nat)) (c / (eS a b c:Nat));have m1:=zb (W5 ((eS a b c:Nat):Int)) e1;have m2:=zb (W5 ((eS a b c:Nat):Int)) e2;have m3:=zb (W5 ((eS a b c:Nat):Int)) e3;rw[ja d1] at m1;rw[ja d2] at m2;rw[ja d3] at m3;have m:=uR m1 m2 m3;generalize eS (a / (eS a b c:Nat)) (b / (eS a b c:Nat)) (c / (eS a b c:Nat))=g at m;generalize eS a b c=d at p m;rw[<- Int.natCast_mul] at m;have le:=Nat.le_of_dvd p (Int.natCast_dvd_natCast.mp m);have g0:g≠0:=λz=>by subst z;simp at m;right
 have:d*g<=d*1:=by rw[Nat.mul_one];exact le
 have:=Nat.le_of_mul_le_mul_left this p;right
end Lw
namespace Lw
open L2 Z
open Sf (Rw crs tF Pre Good aS b8 place many)
structure Turn(p q r:Int):Prop where
 r1:1<=r
 sq:p*p+q*q=r*r
 cp:eS p q r=1
 bp:p.natAbs<=100000000
 bq:q.natAbs<=100000000
 br:r.natAbs<=100000000
theorem bT{a b:Int}(ha:a.natAbs<=10 ^ 1000)(hb:b.natAbs<=10 ^ 1000):l9 a b:=.inr ⟨rh ha (by decide +kernel),rh hb (by decide +kernel)⟩
theorem nV(h:n<=1000000000000000000000):n<=10 ^ 1000:=kh h (by decide +kernel)
inductive TurnB:Dv->Bool->Prop
 |num {p q r:Int} (b:Bool):p.natAbs<=1000000000->q.natAbs<=1000000000->r.natAbs<=1000000000->b=(decide (1<=r)&&(decide (p*p+q*q=r*r)&&decide (eS p q r=1)))->TurnB (.tup [.int p,.int q,.int r]) b
 |len {ds:List Dv}:ds.length≠3->TurnB (.tup ds) ap
 |bad {x y z:Dv} {a b c:Bool}:wh x=aa a->wh y=aa b->wh z=aa c->(a&&(b&&c))=ap->TurnB (.tup [x,y,z]) ap
noncomputable def xO:Fn:=λds Q=>∃(d:Dv) (b:Bool),ds=[d]/\TurnB d b/\Q (.v (.bl b))
theorem IJ:∀ds Q,xO ds Q->ds.length=1:=by rintro ds Q ⟨_,_,rfl,_⟩;rfl
theorem Kd:MonoF xO:=⟨λds Q Q' w z=>by obtain⟨a,b,e,t,h⟩:=z;exact⟨a,b,e,t,w _ h⟩⟩
theorem DJ:∀ds Q,xO ds Q->qW tT A0 ↥Q (aI ["thing", "p", "q", "r"] ds):=by
 rintro ds Q ⟨d,b,rfl,t,h⟩;cases t with
 | @num p q r b bp bq br e=>
  subst e;ac_nf;refine⟨rfl,_,_,rfl,rfl,?_⟩;ac_nf;refine⟨_,_,rfl,rfl,?_⟩;ac_nf;refine⟨_,_,rfl,rfl,?_⟩;ac_nf;refine⟨[aj,aj,aj],rfl,?_⟩;ac_nf;have m:∀a:Int,a.natAbs<=1000000000->l9 a a:=λa ha=>bT (nV ⋯) (nV ⋯);refine hG (λz=>by cases z) λ_=>hG (λz1=>?_) λz1=>?_
  ·rw[decide_eq_true z1,Vd] at h;refine⟨m p bp,m q bq,m r br,hG (λz2=>?_) λz2=>?_⟩
   ·rw[decide_eq_true z2,Vd] at h;refine⟨p,q,r,rfl,?_⟩;ac_nf;rw[show decide ((eS p q r:Int)=1)=decide (eS p q r=1) from decide_eq_decide.mpr ⋯];exact h
   ·rw[decide_eq_false z2] at h;exact h
  ·rw[decide_eq_false z1] at h;exact h
 |len hl=>
  ac_nf;refine⟨rfl,hG (λ_=>h) λ_=>hG (λ_=>h) λz=>absurd ?_ hl⟩;simp at z;right
 |bad hx hy hz ha=>
  ac_nf;refine⟨rfl,_,_,rfl,hx,?_⟩;ac_nf;refine⟨_,_,rfl,hy,?_⟩;ac_nf;refine⟨_,_,rfl,hz,?_⟩;ac_nf;rename_i a b c;refine⟨[a,b,c],rfl,hG (λ_=>h) λz=>absurd (show ([a,b,c].all _root_.id)=ap from ?_) (by simpa using z)⟩;show (a&&(b&&(c&&aj)))=ap;rw[Bool.and_true];exact ha
variable {q:Int}
theorem ES{p r d p' q' r':Int}(h:p*p+q*q=r*r)(d0:d≠0)(e1:p=d*p')(e2:q=d*q')(e3:r=d*r'):p'*p'+q'*q'=r'*r':=by
 subst e1 e2 e3;have:(d*d)*(p'*p'+q'*q')=(d*d)*(r'*r'):=by grind
 exact Int.eq_of_mul_eq_mul_left (Int.mul_ne_zero d0 d0) this
noncomputable def lN:Fn:=λds Q=>∃c:Int,ds=[.int c] /\ ∀p q r,Turn p q r->Q (.v (.tup [.int p,.int q,.int r]))
theorem Db:∀ds Q,lN ds Q->ds.length=1:=by rintro ds Q ⟨_,rfl,_⟩;rfl
theorem FW:MonoF lN:=⟨λds Q Q' w z=>by obtain⟨a,e,h⟩:=z;exact⟨a,e,λp q r t=>w _ (h p q r t)⟩⟩
theorem Gz{u v:Int}(hu:1<=u)(hu2:u<=2000)(hv:0<=v)(hv2:v<2000)(hq:q=2*u*v \/ q = -(2*u*v)):
  0<eS (u*u-v*v) q (u*u+v*v)/\eS (u*u-v*v) q (u*u+v*v)<=8000000/\Turn ((u*u-v*v) / (eS (u*u-v*v) q (u*u+v*v):Nat)) (q / (eS (u*u-v*v) q (u*u+v*v):Nat)) ((u*u+v*v) / (eS (u*u-v*v) q (u*u+v*v):Nat)):=by
 have uu:u*u<=2000*2000:=nh hu2 hu2 ⋯ ⋯;have vv:v*v<=2000*2000:=nh ⋯ ⋯ hv ⋯;have uv:u*v<=2000*2000:=nh hu2 ⋯ hv ⋯;have uu1:1*1<=u*u:=nh hu hu ⋯ ⋯;have vv0:0<=v*v:=ri hv hv;have uv0:0<=u*v:=ri ⋯ hv;have q2:2*u*v=2*(u*v):=Ve ..;have sq:(u*u-v*v)*(u*u-v*v)+q*q=(u*u+v*v)*(u*u+v*v):=by
  rcases hq with rfl | rfl<;>grind
 have r0:u*u+v*v≠0:=⋯;have dp:=uN (a:=u*u-v*v) (b:=q) r0;have gl:=wT (a:=u*u-v*v) (b:=q) r0;obtain⟨d1,d2,d3⟩:=hU (u*u-v*v) q (u*u+v*v);have le:=Vf ⋯ d3;generalize eS (u*u-v*v) q (u*u+v*v)=d at *;have e1:=(ja d1).symm;have e2:=(ja d2).symm;have e3:=(ja d3).symm;have small:∀a:Int,a.natAbs<=100000000->(a / (d:Int)).natAbs<=100000000:=λa ha=>by
  have:=jk a (d:Int);right
 refine⟨dp,⋯,?_,ES sq ⋯ e1 e2 e3,gl,small _ ⋯,small _ ⋯,small _ ⋯⟩;have:0<(u*u+v*v) / (d:Int):=wt ⋯ ⋯ d3;right
theorem BS:∀ds Q,lN ds Q->nX lQ ↥Q (aI ["_law_cell", "_law_u", "_law_v", "_law_p", "_law_q", "_law_r", "_law_part"] ds):=by
 rintro ds Q ⟨c,rfl,h⟩;have u1:=jv c (show (2000:Int)≠0 by decide);have u2:=gv c (show (0:Int)<2000 by decide);have v1:=jv (c / 2000) (show (2000:Int)≠0 by decide);have v2:=gv (c / 2000) (show (0:Int)<2000 by decide);ac_nf;have hu:1<=1+c % 2000:=⋯;have hu2:1+c % 2000<=2000:=⋯;generalize 1+c % 2000=u at hu hu2 ⊢;generalize c / 2000 % 2000=v at v1 v2 ⊢;have m:∀a b:Int,a.natAbs<=1000000000->b.natAbs<=1000000000->l9 a b:=λa b ha hb=>bT (nV ⋯) (nV ⋯);have fin:∀q:Int,(q=2*u*v \/ q = -(2*u*v))->lQ [Dv.int (u*u-v*v),Dv.int q] (back [R.v (Dv.int (u*u-v*v)),R.v (Dv.int q)] λr=>lQ [r.d,Dv.int (u*u+v*v)] (back [r,R.v (Dv.int (u*u+v*v))] λr=>
   match r with
   |R.v d=>fD (Dv.int (u*u-v*v)) d λr=>fD (Dv.int q) d λr_1=>fD (Dv.int (u*u+v*v)) d λr_2=>(r.free&&(r_1.free&&r_2.free))=aj/\Q (R.v (Dv.tup [r.d,r_1.d,r_2.d]))
   |R.nw d=>fD (Dv.int (u*u-v*v)) d λr=>fD (Dv.int q) d λr_1=>fD (Dv.int (u*u+v*v)) d λr_2=>(r.free&&(r_1.free&&r_2.free))=aj/\Q (R.v (Dv.tup [r.d,r_1.d,r_2.d]))
   |R.ow a d=>False)):=λq hq=>by
  obtain⟨d0,d1,t⟩:=Gz hu hu2 v1 v2 hq;refine⟨_,_,rfl,?_⟩;ac_nf;refine⟨_,_,rfl,?_⟩;ac_nf;have b:(0:Int)<(eS (u*u-v*v) q (u*u+v*v):Nat)/\((eS (u*u-v*v) q (u*u+v*v):Nat):Int)<2 ^ 200:=⟨⋯,Ta (show _<=(8000000:Int) by right) ∅⟩;exact⟨b,b,b,h _ _ _ t⟩
 exact⟨m _ _ ⋯ ⋯,m _ _ ⋯ ⋯,m _ _ ⋯ ⋯,m _ _ ⋯ ⋯,m _ _ ⋯ ⋯,m _ _ ⋯ ⋯,hG (λ_=>fin _ (.inr rfl)) λ_=>fin _ (.inl rfl)⟩
end Lw
namespace Lw
open L2 Z
open Sf (Rw crs tF Pre Good aS b8 place many xA)
structure Dn(x y:Int)(B:Nat):Prop where
 y0:0<=y
 y9:y<=9
 xp:y=0->0<x
 bx:x.natAbs<=B
variable {y:Int}
theorem Dn.next{x WK side:Int}{b:Nat}(h:Dn x y b)(r1:1<=WK)(r9:WK<=9)(s0:0<=side)(s9:side<=99)(x':Int)
  (e:x'=if y=0 then side-50 else (x*WK-1) / y-side):Dn x' WK (9*b+100)/\0<x*WK-x'*y:=by
 obtain⟨y0,y9,xp,bx⟩:=h;have ub:(x*WK).natAbs<=9*b:=by
  rw[Sc,VS 9 b];exact um bx ⋯
 by_cases z:y=0
 ·rw[Wj z] at e;refine⟨⟨⋯,r9,λz=>by right,⋯⟩,?_⟩;have:=TK (xp z) (show 0<WK by right);rw[z,Int.mul_zero];right
 ·rw[VT z] at e;have q:=jk (x*WK-1) y;have d:=Int.mul_ediv_self_le (x:=x*WK-1) (k:=y) z;refine⟨⟨⋯,r9,λz=>by right,⋯⟩,?_⟩;have s:=ri s0 y0;rw[e,W6,yr _ y];right
noncomputable def h9:Fn:=λds Q=>∃(x y c:Int) (b:Nat),ds=[.int x,.int y,.int c]/\Dn x y b/\b<=1000000000000 /\ ∀x' y',Dn x' y' (9*b+100)->1<=y'->0<x*y'-x'*y->Q (.v (.tup [.int x',.int y']))
theorem Dc:∀ds Q,h9 ds Q->ds.length=3:=by rintro ds Q ⟨_,_,_,_,rfl,_⟩;rfl
theorem FX:MonoF h9:=⟨λds Q Q' w z=>by obtain⟨a,b,c,d,e,f,g,h⟩:=z;exact⟨a,b,c,d,e,f,g,λx y u v z=>w _ (h x y u v z)⟩⟩
theorem BV:∀ds Q,h9 ds Q->nZ ↥Q (aI ["_law_x", "_law_y", "_law_rest", "_law_rise", "_law_side"] ds):=by
 rintro ds Q ⟨x,y,c,b,rfl,n,hb,h⟩;have u1:=jv c (show (9:Int)≠0 by decide);have u2:=gv c (show (0:Int)<9 by decide);have v1:=jv (c / 9) (show (100:Int)≠0 by decide);have v2:=gv (c / 9) (show (0:Int)<100 by decide);ac_nf;generalize c / 9 % 100=side at *;have r1:1<=1+c % 9:=⋯;have r9:1+c % 9<=9:=⋯;generalize 1+c % 9=WK at *;have k:=n.next r1 r9 v1 ⋯ _ rfl;have bx:=n.bx;have y0:=n.y0;have y9:=n.y9;refine hG (λz=>?_) λz=>?_
 ·rw[Wj z] at k;exact h _ _ k.1 r1 k.2
 ·rw[VT z] at k;refine⟨bT (nV ⋯) (nV ⋯),⟨⋯,⋯⟩,h _ _ k.1 r1 k.2⟩
noncomputable def bnd:Nat->Nat
 |0=>100001
 |k+1=>9*bnd k+100
theorem Gd:∀k:Nat,k<=5->bnd k<=10000000000:=by decide
theorem Ae:∀(k:Nat) (rows:List Rw) (cs:List Nat),rows.map (·.m)=cs.map (λc:Nat=>(c:Int))->b8 k rows=aH k cs
 |_,[],[],_=>rfl
 |k,r::rows,c::cs,h=>by
  obtain⟨h1,h2⟩:=List.cons.inj h;rw[b8,aH,Ae (k+1) rows cs h2,show r.m=(c:Int) from h1];rfl
theorem CT:∀(rows:List Rw) (cs:List Nat),rows.map (·.m)=cs.map (λc:Nat=>(c:Int))->many rows=(cs.sum:Int)
 | [],[],_=>rfl
 |r::rows,c::cs,h=>by
  obtain⟨h1,h2⟩:=List.cons.inj h;have:=CT rows cs h2;unfold many at this ⊢;rw[dh,qz,this,qz];show r.m+_=_;rw[show r.m=(c:Int) from h1];right
structure Mk(cs:List Nat)(k:Nat)(rows:List Rw)(x y:Int):Prop where
 ms:rows.map (·.m)=(cs.take k).map (λc:Nat=>(c:Int))
 srt:tF rows
 ok:∀r∈rows,KR r
 lf:∀r∈rows,0<crs r ⟨x,y,1⟩
 dn:Dn x y (bnd k)
variable {cs:List Nat}
theorem Mk.next{k:Nat}{x t x' y':Int}(M:Mk cs k rows x y)(hk:k<cs.length)(k6:k<=5)(c1:1<=cs.getD k 0)(t1:1<=t)(t2:t<=10)(D:Dn x' y' (9*bnd k+100))(cr:0<x*y'-x'*y)(y1:1<=y'):
  Mk cs (k+1) (rows++[⟨x*t,y*t,(cs.getD k 0:Nat)⟩]) x' y':=by
 obtain⟨y0,y9,xp,bx⟩:=M.dn;have bl:=Gd k k6;have up:Rw.up ⟨x,y,1⟩:=by
  by_cases z:y=0
  ·exact .inr ⟨z,xp z⟩
  ·exact .inl (by show 0<y;right)
 have xt:(x*t).natAbs<=10000000000*10:=by
  rw[Sc];exact um ⋯ ⋯
 have yt:y*t<=9*10:=nh y9 t2 ⋯ ⋯;have upr:Rw.up ⟨x*t,y*t,(cs.getD k 0:Nat)⟩:=by
  rcases up with u | ⟨u,v⟩
  ·exact .inl (TK u ⋯)
  ·refine .inr ⟨?_,TK v ⋯⟩;show y*t=0;rw[show y=0 from u,Int.zero_mul]
 have up':Rw.up ⟨x',y',1⟩:=.inl (by show 0<y';right);refine⟨?_,?_,λr hr=>?_,λr hr=>?_,D⟩
 ·rw[kx,M.ms,TR,bf hk,kx];rw[show cs.getD k 0=cs[k] by simp[dq,hk]];rfl
 ·refine oj.mpr ⟨M.srt,by simp,λa ha b hb=>?_⟩;rw[fv.mp hb];have:=TK (M.lf a ha) (show 0<t by right);show 0<a.x*(y*t)-x*t*a.y;have e:a.x*(y*t)-x*t*a.y=(a.x*y-x*a.y)*t:=by grind
  rw[e];exact this
 ·rcases gf.mp hr with hr | hr
  ·exact M.ok r hr
  ·rw[fv.mp hr];exact⟨upr,by show _<=x*t;right,by show x*t<=_;right,by show y*t<=_;right,by show (1:Int)<=(cs.getD k 0:Nat);right⟩
 ·rcases gf.mp hr with hr | hr
  ·exact xA (M.ok r hr).1 up up' (M.lf r hr) cr
  ·rw[fv.mp hr];have:=TK cr (show 0<t by right);show 0<x*t*y'-x'*(y*t);have e:x*t*y'-x'*(y*t)=(x*y'-x'*y)*t:=by grind
   rw[e];exact this
theorem Mk.good{x:Int}(C:Cnt cs)(M:Mk cs cs.length rows x y):Good rows/\aS rows=aH 0 cs:=by
 have ms:=M.ms;rw[List.take_length] at ms;have l:rows.length=cs.length:=by simpa using congrArg List.length ms
 have lo:=C.lo;have hi:=C.hi;have tt:=C.tot;exact⟨⟨⋯,⋯,M.srt,M.ok,by rw[CT rows cs ms];right⟩,Ae 0 rows cs ms⟩
variable {x1:Sl}
theorem Ry{d:Dv}{x0 x2 x3 x4 x5 x6 x7:Sl}{Q:List Sl->Prop}(h:Q [x0,x1,x2,x3,x4,x5,.v d,x7]):gN 6 d [x0,x1,x2,x3,x4,x5,x6,x7] Q:=by
 ac_nf;exact h
theorem LJ{E:En}(C:Cnt cs):∀(i k:Nat) (x y c:Int) (rows:List Rw) (s6 s7:Sl),k+i=cs.length->Mk cs k rows x y ->
  (∀(x y c:Int) (rows:List Rw) (s6 s7:Sl),Mk cs cs.length rows x y->E.nx [.v (.lst (bE (aH 0 cs))),x1,.v (.int x),.v (.int y),.v (.int c),.own a (.lst (sE rows)),s6,s7]) ->
  bO (gN 6) (dH h9) [] (bW k i) E [.v (.lst (bE (aH 0 cs))),x1,.v (.int x),.v (.int y),.v (.int c),.own a (.lst (sE rows)),s6,s7]:=by
 intro i;have hi:=C.hi;have bl:=(tD C).2;induction i with
 |zero=>
  intro k x y c rows s6 s7 hk M h;rw[gO,dM];exact⟨λp hp=>by simp at hp,h _ _ _ _ _ _ (by rw[<- hk];exact M)⟩
 |succ i ih=>
  intro k x y c rows s6 s7 hk M h;rw[eX,cP];refine⟨λp hp=>by simp at hp,Ry ?_⟩;have nx:∀(x y c:Int) (rows:List Rw) (s6 s7:Sl),Mk cs (k+1) rows x y->bO (gN 6) (dH h9) [] (bW ((k:Int)+1) i) E [.v (.lst (bE (aH 0 cs))),x1,.v (.int x),.v (.int y),.v (.int c),.own a (.lst (sE rows)),s6,s7]:=λx y c rows s6 s7 M=>ih (k+1) x y c rows s6 s7 ⋯ M h;generalize bO (gN 6) (dH h9) [] (bW ((k:Int)+1) i) E=nn at *;have t1:=jv c (show (10:Int)≠0 by decide);have t2:=gv c (show (0:Int)<10 by decide);obtain⟨y0,y9,xp,bx⟩:=M.dn;have b5:=Gd k ⋯;have c1:1<=cs.getD k 0:=by
   have hlt:k<cs.length:=⋯;rw[show cs.getD k 0=cs[k] by simp[dq,hlt]];exact C.ok _ (dm hlt)
  ac_nf;generalize c % 10=t at *;have rl:rows.length=k:=by simpa [nj (show k<=cs.length by right)] using congrArg List.length M.ms
  refine⟨bT (nV ⋯) (nV ⋯),bT (nV ⋯) (nV ⋯),L4 _ [] (by simp;right) ?_⟩;have fb:=oS 0 cs k;rw[wr] at fb;push_cast [fb,bv,wj];refine⟨⋯,x,y,_,bnd k,rfl,M.dn,⋯,λx' y' D y1 cr=>?_⟩;ac_nf;have:=nx x' y' (c / 9000) _ (.v (.int k)) (.v (.int (1+t))) (M.next ⋯ ⋯ c1 (show 1<=1+t by right) ⋯ D cr y1);unfold sE at this ⊢;rw[kx] at this;exact this
noncomputable def lO:Fn:=λds Q=>∃(cs:List Nat) (c:Int),ds=[.lst (bE (aH 0 cs)),.int c]/\Cnt cs /\ ∀rows:List Rw,Good rows->aS rows=aH 0 cs->Q (.nw (.lst (sE rows)))
theorem Dd:∀ds Q,lO ds Q->ds.length=2:=by rintro ds Q ⟨_,_,rfl,_⟩;rfl
theorem FY:MonoF lO:=⟨λds Q Q' w z=>by obtain⟨a,b,c,d,h⟩:=z;exact⟨a,b,c,d,λx y u=>w _ (h x y u)⟩⟩
theorem rG:∀ds Q,lO ds Q->gM h9 ↥Q (aI ["_law_bands_here", "_law_cell", "_law_x", "_law_y", "_law_rest", "_law_made", "_law_k", "_law_times"] ds):=by
 rintro ds Q ⟨cs,c,rfl,C,h⟩;have u1:=jv c (show (200001:Int)≠0 by decide);have u2:=gv c (show (0:Int)<200001 by decide);have v1:=jv (c / 200001) (show (9:Int)≠0 by decide);have v2:=gv (c / 200001) (show (0:Int)<9 by decide);have hi:=C.hi;have key:∀(x y:Int),Dn x y 100001 -> ∀a,bO (gN 6) (dH h9) [] (bW 0 cs.length) { nx:=cF (a9 5) ↥Q,rt:=Q } [.v (.lst (bE (aH 0 cs))),.v (.int c),.v (.int x),.v (.int y),.v (.int (c / 1800009)),.own a (.lst []),.un,.un]:=λx y D a=>by
  refine LJ C cs.length 0 x y _ [] _ _ ⋯ ⟨rfl,List.Pairwise.nil,λr hr=>(by cases hr),λr hr=>(by cases hr),D⟩ λx y c' rows s6 s7 M=>?_;ac_nf;exact h rows (M.good C).1 (M.good C).2
 push_cast [uZ C];rw[show ((cs.length:Int)-1+1).toNat=cs.length by right];refine hG (λz=>λa=>⟨⟨⋯,⋯⟩,key _ _ ⟨by decide,by decide,λ_=>by split<;>right,by split<;>right⟩ a⟩) λz=>λa=>⟨⟨⋯,⋯⟩,key _ _ ⟨⋯,⋯,λ_=>by right,⋯⟩ a⟩
end Lw
variable {ls:List (List Int)}
namespace Lw
open L2 Z
open Sf (Rw crs tF Pre Good aS b8 place many)
open Fl (kd ids Walk kW tls pc bK Pt srt dP)
theorem A5(l:List Int)(b:Int):bE l++[Dv.int b]=bE (l++[b]):=by simp
noncomputable def iP:Fn:=λds Q=>∃(l:List Int) (b:Int),ds=[.tup (bE l),.int b]/\l.length<=30/\Q (.v (.tup (bE (srt (l++[b])))))
theorem Fj:∀ds Q,iP ds Q->ds.length=2:=by rintro ds Q ⟨_,_,rfl,_⟩;rfl
theorem CO:MonoF iP:=⟨λds Q Q' w z=>by obtain⟨a,b,c,d,h⟩:=z;exact⟨a,b,c,d,w _ h⟩⟩
theorem AF:∀ds Q,iP ds Q->lG ↥Q (aI ["below", "band"] ds):=by
 rintro ds Q ⟨l,b,rfl,hl,h⟩;push_cast [AN,bv];refine⟨⋯,?_⟩;rw[A5];refine Bb (by simp;right) λms hm hs=>?_;obtain rfl:=dP hm hs;ac_nf;exact h
theorem BR:∀ds Q,iP ds Q->nW ↥Q (aI ["_law_below", "_law_band"] ds):=by
 rintro ds Q ⟨l,b,rfl,hl,h⟩;push_cast [bv];refine⟨⋯,?_⟩;rw[A5];refine wH (by simp;right) λms hm hs=>?_;obtain rfl:=dP hm hs;ac_nf;exact h
noncomputable def zJ(t:Ti):List (List Int):=[t.2.2,srt (t.2.2++[t.1]),srt (t.2.2++[t.2.1]),srt (srt (t.2.2++[t.1])++[t.2.1])]
noncomputable def j9(l:List (List Int))(k:List Int):List (List Int):=if k∈l then l else l++[k]
noncomputable def E6(l:List (List Int)):List (List bU×Dv):=l.map λk=>(k.map ft,.bl aj)
theorem yF{a b:List Int}(h:a.map (ft:Int->bU)=b.map ft):a=b:=(List.map_inj_right λx y z=>Sum.inl.inj z).mp h
theorem HP(l:List (List Int))(k:List Int):vA (E6 l) (k.map ft) (.bl aj)=E6 (j9 l k):=by
 unfold vA E6 j9;by_cases h:k∈l
 ·rw[Wj h,Wj (Us.mpr ⟨_,jx.mpr ⟨k,h,rfl⟩,by simp⟩),ny];refine sy λx _=>?_;show (if (_:List bU)=_ then _ else _)=_;split<;>rfl
 ·rw[VT h,VT ?_,kx]
  ·rfl
  ·intro z;obtain⟨x,hx,e⟩:=Us.mp z;obtain⟨y,hy,rfl⟩:=jx.mp hx;exact h (yF (of_decide_eq_true e) ▸ hy)
noncomputable def crn(acc:List (List Int))(fl:List Ti):List (List Int):=fl.foldl (λacc t=>(zJ t).foldl j9 acc) acc
variable {l:List (List Int)}
theorem Il{k x:List Int}:x∈j9 l k ↔ x∈l \/ x=k:=by
 unfold j9;split
 ·constructor
  ·exact .inl
  ·rintro(h | rfl)<;>assumption
 ·simp
theorem kT(l:List (List Int))(k:List Int):(j9 l k).length<=l.length+1:=by
 unfold j9;split<;>simp
theorem yU:∀(fl:List Ti) (acc:List (List Int)) (x:List Int),x∈crn acc fl ↔ x∈acc \/ ∃t∈fl,x∈zJ t
 | [],acc,x=>by simp[crn]
 |t::fl,acc,x=>by
  have h:=yU fl ((zJ t).foldl j9 acc) x;show x∈crn ((zJ t).foldl j9 acc) fl ↔ _;rw[h];unfold zJ;simp only[T4,V7,Il,dt,jr,or_false];constructor
  ·rintro(((((h | h) | h) | h) | h) | ⟨u,hu,h⟩)
   ·exact .inl h
   ·exact .inr ⟨t,.inl rfl,.inl h⟩
   ·exact .inr ⟨t,.inl rfl,.inr (.inl h)⟩
   ·exact .inr ⟨t,.inl rfl,.inr (.inr (.inl h))⟩
   ·exact .inr ⟨t,.inl rfl,.inr (.inr (.inr h))⟩
   ·exact .inr ⟨u,.inr hu,h⟩
  ·rintro(h | ⟨u,hu,k⟩)
   ·exact .inl (.inl (.inl (.inl (.inl h))))
   ·rcases hu with hu | hu
    ·subst hu;rcases k with h | h | h | h
     ·exact .inl (.inl (.inl (.inl (.inr h))))
     ·exact .inl (.inl (.inl (.inr h)))
     ·exact .inl (.inl (.inr h))
     ·exact .inl (.inr h)
    ·exact .inr ⟨u,hu,k⟩
theorem tB:∀(fl:List Ti) (acc:List (List Int)),(crn acc fl).length<=acc.length+4*fl.length
 | [],acc=>by simp[crn]
 |t::fl,acc=>by
  have h:=tB fl ((zJ t).foldl j9 acc);have a1:=kT acc t.2.2;have a2:=kT (j9 acc t.2.2) (srt (t.2.2++[t.1]));have a3:=kT (j9 (j9 acc t.2.2) (srt (t.2.2++[t.1]))) (srt (t.2.2++[t.2.1]));have a4:=kT (j9 (j9 (j9 acc t.2.2) (srt (t.2.2++[t.1]))) (srt (t.2.2++[t.2.1]))) (srt (srt (t.2.2++[t.1])++[t.2.1]));show (crn ((zJ t).foldl j9 acc) fl).length<=_;unfold zJ at *;simp only[T4,V7,cj] at *;right
noncomputable def C5(fl:List Ti)(ls:List (List Int)):Prop:=ls.Perm (crn [] fl)/\ls.Pairwise (λt u=>eB t u=aj)
theorem C5.uniq{fl:List Ti}{a b:List (List Int)}(h:C5 fl a)(k:C5 fl b):a=b:=
 List.Perm.eq_of_pairwise (le:=λt u=>eB t u=aj) (λx y _ _ h1 h2=>by
  have:=t5 _ _ _ h1 h2;rw[qF] at this;cases this) h.2 k.2 (h.1.trans k.1.symm)
theorem C5.mem{fl:List Ti}(h:C5 fl ls)(x:List Int):x∈ls ↔ ∃t∈fl,x∈zJ t:=by
 rw[h.1.mem_iff,yU];simp
noncomputable abbrev Ip(ls:List (List Int)):List Dv:=ls.map λl=>.tup (l.map .int)
noncomputable def lS:Fn:=λds Q=>∃fl:List Ti,ds=[.lst (uP fl)]/\fl.length<=200/\(∀t∈fl,t.2.2.length<=20)/\(∃t∈fl,t.2.2=[]) /\ ∀ls,C5 fl ls->Q (.nw (.lst (Ip ls)))
theorem CV:∀ds Q,lS ds Q->ds.length=1:=by rintro ds Q ⟨_,rfl,_⟩;rfl
theorem Fe:MonoF lS:=⟨λds Q Q' w z=>by obtain⟨a,b,c,d,e,h⟩:=z;exact⟨a,b,c,d,e,λx y=>w _ (h x y)⟩⟩
theorem G0(l:List Int):Dv.tup (bE l)=.tup ((l.map (ft:Int->bU)).map kD):=by rw[ny];rfl
variable {E:En}{x0 x2 x3 x4:Sl}
theorem CH{k:List Int}{tl:cI}{tk:dE}(ll:l.length<1000)
  (hk:∀Q:R->Prop,Q (.v (.tup (bE k)))->tk [x0,.own a (.dit (E6 l)),x2,x3,x4] Q) (h:tl E [x0,.own a (.dit (E6 (j9 l k))),x2,x3,x4]):
  aO (oE 1 tk (eC (.bl aj))) tl E [x0,.own a (.dit (E6 l)),x2,x3,x4]:=by
 ac_nf;refine hk _ ⟨_,G0 k,by unfold E6;rw[bv];right,?_⟩;push_cast [HP];exact h
theorem NR{a b c:Dv}{x1:Sl}{Q:List Sl->Prop}(h:Q [x0,x1,.v a,.v b,.v c]):gT [2,3,4] (.tup [a,b,c]) [x0,x1,x2,x3,x4] Q:=by
 ac_nf;exact h
theorem JX{s:cI}(h:aO s cH E ρ):s E ρ:=h
theorem Nc{t:Ti}{acc:List (List Int)}(h1:acc.length<=900)(ht:t.2.2.length<=20)(h:E.nx [x0,.own a (.dit (E6 ((zJ t).foldl j9 acc))),.v (.int t.1),.v (.int t.2.1),.v (.tup (bE t.2.2))]):
  jF iP E [x0,.own a (.dit (E6 acc)),.v (.int t.1),.v (.int t.2.1),.v (.tup (bE t.2.2))]:=by
 have a1:=kT acc t.2.2;have a2:=kT (j9 acc t.2.2) (srt (t.2.2++[t.1]));have a3:=kT (j9 (j9 acc t.2.2) (srt (t.2.2++[t.1]))) (srt (t.2.2++[t.2.1]));unfold jF;refine CH (k:=t.2.2) ⋯ (λQ q=>?_) (CH (k:=srt (t.2.2++[t.1])) ⋯ (λQ q=>?_) (CH (k:=srt (t.2.2++[t.2.1])) ⋯ (λQ q=>?_) (JX (CH (k:=srt (srt (t.2.2++[t.1])++[t.2.1])) ⋯ (λQ q=>?_) h))))
 ·ac_nf;exact q
 ·ac_nf;refine⟨_,_,rfl,⋯,?_⟩;ac_nf;exact q
 ·ac_nf;refine⟨_,_,rfl,⋯,?_⟩;ac_nf;exact q
 ·ac_nf;refine⟨_,_,rfl,⋯,?_⟩;ac_nf;refine⟨_,_,rfl,by rw[Fl.sV];simp;right,?_⟩;ac_nf;exact q
theorem Nd:∀(fl:List Ti) (acc:List (List Int)) (s2 s3 s4:Sl),acc.length+4*fl.length<=900->(∀t∈fl,t.2.2.length<=20) ->
  (∀s2 s3 s4,E.nx [x0,.own a (.dit (E6 (crn acc fl))),s2,s3,s4]) ->
  bO (gT [2,3,4]) (jF iP) [] (uP fl) E [x0,.own a (.dit (E6 acc)),s2,s3,s4]:=by
 intro fl;induction fl with
 |nil=>
  intro acc s2 s3 s4 _ _ h;show bO _ _ _ [] _ _;rw[dM];exact⟨λp hp=>by simp at hp,h _ _ _⟩
 |cons t fl ih=>
  intro acc s2 s3 s4 hl ht h;simp only[cj] at hl;show bO _ _ _ (Nv t::uP fl) _ _;rw[cP];refine⟨λp hp=>by simp at hp,NR (Nc ⋯ (ht t (de ..)) ?_)⟩;have:=tB [t] acc;exact ih _ _ _ _ (by simp[crn] at this;right) (λu hu=>ht u (di _ hu)) h
theorem wG:∀ds Q,lS ds Q->qX iP ↥Q (aI ["floor", "told", "a", "b", "below"] ds):=by
 rintro ds Q ⟨fl,rfl,hl,ht,⟨t0,ht0,e0⟩,h⟩;ac_nf;intro a;refine Nd fl [] _ _ _ (by simp;right) ht λs2 s3 s4=>?_;have cl:=tB fl [];ac_nf;refine⟨crn [] fl,by unfold E6;rw[ny];rfl,by unfold E6;simp at cl ⊢;right,(yU _ _ _).mpr (.inr ⟨t0,ht0,?_⟩),λls p s=>h ls ⟨p,s⟩⟩;unfold zJ;rw[e0];exact de ..
theorem vC:∀ds Q,lS ds Q->jH iP ↥Q (aI ["_law_tiles", "_law_found", "_law_a", "_law_b", "_law_below"] ds):=wG
end Lw
namespace Lw
open L2 Z
open Sf (Rw crs tF Pre Good aS b8 place many)
open Fl (kd ids Walk kW tls pc bK Pt srt dP)
noncomputable def vec(rows:List Rw)(b:Int):Rw:=rows.getD (kd (aS rows) b).toNat ⟨0,0,0⟩
noncomputable def zN(n:Nat)(l:List Int):Prop:=∀b∈l,0<=b/\b<n
variable {b:Int}
theorem Fy(h0:0<=b)(h1:b<(aS rows).length):0<=kd (aS rows) b/\kd (aS rows) b<rows.length:=by
 have h:b.toNat<(aS rows).length:=⋯;have:=Sf.Af 0 rows ((aS rows)[b.toNat]) (dm h);rw[show kd (aS rows) b=(aS rows)[b.toNat] by simp[kd,dq,h]];right
noncomputable def tQ(C:ah):Fn:=λds Q=>∃(rows:List Rw) (b:Int),ds=[fT C rows,.int b]/\0<=b/\b<(aS rows).length/\Q (.v (.tup [.int (vec rows b).x,.int (vec rows b).y]))
theorem Hz:∀ds Q,tQ C ds Q->ds.length=2:=by rintro ds Q ⟨_,_,rfl,_⟩;rfl
theorem KS:MonoF (tQ C):=⟨λds Q Q' w z=>by obtain⟨a,b,c,d,e,h⟩:=z;exact⟨a,b,c,d,e,w _ h⟩⟩
theorem LR{i:Int}(h0:0<=i)(h1:i<rows.length):lC (v7 rows) i=aa (.tup [.int (rows.getD i.toNat ⟨0,0,0⟩).x,.int (rows.getD i.toNat ⟨0,0,0⟩).y]):=by
 have h:i.toNat<rows.length:=⋯;have e:rows.getD i.toNat ⟨0,0,0⟩=rows[i.toNat]:=by simp[dq,h]
 rw[e];have a:=L2.gK (xs:=v7 rows) (j:=i.toNat) (v:=.tup [.int rows[i.toNat].x,.int rows[i.toNat].y]) (by rw[cn,bf h];rfl);rw[show ((i.toNat:Nat):Int)=i by right] at a;exact a
theorem FG:∀ds Q,tQ C ds Q->tM C ↥Q (aI ["self", "band"] ds):=by
 rintro ds Q ⟨rows,b,rfl,h0,h1,h⟩;have k:=Fy h0 h1;ac_nf;rw[show List.lookup (gn "kinds") [(gn "kinds",Dv.tup (bE (aS rows))),(gn "vectors",Dv.tup (v7 rows))]=aa (Dv.tup (bE (aS rows))) from rfl,
  show List.lookup (gn "vectors") [(gn "kinds",Dv.tup (bE (aS rows))),(gn "vectors",Dv.tup (v7 rows))]=aa (Dv.tup (v7 rows)) from rfl]
 push_cast [mQ h0 h1];rw[LR k.1 k.2];exact h
noncomputable def sX(rows:List Rw):List Int->Int
 | []=>0
 |b::l=>(vec rows b).x+sX rows l
noncomputable def sY(rows:List Rw):List Int->Int
 | []=>0
 |b::l=>(vec rows b).y+sY rows l
theorem Ed(rows:List Rw):∀l:List Int,(l.map λb=>(vec rows b).x).sum=sX rows l
 | []=>rfl
 |b::l=>by rw[dh,qz,Ed rows l,sX]
theorem Ec(rows:List Rw):∀l:List Int,(l.map λb=>(vec rows b).y).sum=sY rows l
 | []=>rfl
 |b::l=>by rw[dh,qz,Ec rows l,sY]
theorem BA(G:Good rows)(h0:0<=b)(h1:b<(aS rows).length):(vec rows b).x.natAbs<=1000000000000/\(vec rows b).y.natAbs<=1000000000000:=by
 have k:=Fy h0 h1;have h:(kd (aS rows) b).toNat<rows.length:=⋯;obtain⟨u,a1,a2,a3,_⟩:=G.ok rows[(kd (aS rows) b).toNat] (dm h);rw[show vec rows b=rows[(kd (aS rows) b).toNat] by unfold vec;generalize (kd (aS rows) b).toNat=j at h ⊢;simp[dq,h]];refine⟨⋯,?_⟩;rcases u with u | ⟨u,_⟩<;>right
theorem Ee{rows:List Rw}(G:Good rows):∀l:List Int,zN (aS rows).length l->(sX rows l).natAbs<=1000000000000*l.length/\(sY rows l).natAbs<=1000000000000*l.length
 | [],_=>by simp[sX,sY]
 |b::l,h=>by
  have i:=Ee G l λx hx=>h x (di _ hx);have v:=BA G (h b (de ..)).1 (h b (de ..)).2;rw[sX,sY,cj];right
noncomputable def xP(C:ah):Fn:=λds Q=>∃(rows:List Rw) (l:List Int),ds=[fT C rows,.lst (bE l)]/\zN (aS rows).length l/\l.length<=100/\Q (.v (.tup [.int (sX rows l),.int (sY rows l)]))
theorem IK:∀ds Q,xP C ds Q->ds.length=2:=by rintro ds Q ⟨_,_,rfl,_⟩;rfl
theorem Ke:MonoF (xP C):=⟨λds Q Q' w z=>by obtain⟨a,b,c,d,e,h⟩:=z;exact⟨a,b,c,d,e,w _ h⟩⟩
theorem JF{k:Int}{f:Rw->Int}(hk:∀u:Rw,lC [Dv.int u.x,.int u.y] k=aa (.int (f u))):∀(l acc:List Int),zN (aS rows).length l->acc.length+l.length<=200->Q (.nw (.lst (bE (acc++l.map λb=>f (vec rows b))))) ->
  d9 [.un,.v (fT C rows)] (gN 0) fY (aK cX (wZ C "vector" (tQ C) (a9 1) (aA (a9 0) aG)) (eC (.int k))) (bE l) (bE acc) Q:=by
 intro l;induction l with
 |nil=>
  intro acc _ _ h;ac_nf;simpa using h
 |cons b l ih=>
  intro acc hb hl h;simp only[cj] at hl;push_cast [bv];refine⟨rfl,rows,b,rfl,(hb b (de ..)).1,(hb b (de ..)).2,?_⟩;push_cast [hk,bv];refine⟨⋯,?_⟩;rw[A5];exact ih _ (λx hx=>hb x (di _ hx)) (by simp;right) (by simpa using h)
theorem FI:∀ds Q,xP C ds Q->tO C (tQ C) ↥Q (aI ["sides", "below", "x", "y"] ds):=by
 rintro ds Q ⟨rows,l,rfl,hb,hl,h⟩;ac_nf;refine JF (f:=λu=>u.x) (λu=>rfl) l [] hb (by simp;right) ?_;ac_nf;refine⟨_,rfl,?_⟩;push_cast [Ed];refine JF (f:=λu=>u.y) (λu=>rfl) l [] hb (by simp;right) ?_;ac_nf;refine⟨_,rfl,?_⟩;push_cast [Ec];exact h
theorem bY(h:n<=1000000000000000000000000000000000000000000000000000000000000000000000000000000):n<=10 ^ 1000:=kh h (by decide +kernel)
noncomputable def xN:Fn:=λds Q=>∃x y p q r:Int,ds=[.tup [.int x,.int y],.tup [.int p,.int q,.int r]]/\x.natAbs<=1000000000000000/\y.natAbs<=1000000000000000/\p.natAbs<=100000000/\q.natAbs<=100000000/\Q (.v (.tup [.int (p*x-q*y),.int (q*x+p*y)]))
theorem I0:∀ds Q,xN ds Q->ds.length=2:=by rintro ds Q ⟨_,_,_,_,_,rfl,_⟩;rfl
theorem KU:MonoF xN:=⟨λds Q Q' w z=>by obtain⟨a,b,c,d,e,f,g,h,i,j,k⟩:=z;exact⟨a,b,c,d,e,f,g,h,i,j,w _ k⟩⟩
theorem FH:∀ds Q,xN ds Q->tN ↥Q (aI ["vector", "turn", "x", "y"] ds):=by
 rintro ds Q ⟨x,y,p,q,r,rfl,h1,h2,h3,h4,h⟩;ac_nf;exact⟨bT (bY ⋯) (bY ⋯),bT (bY ⋯) (bY ⋯),bT (bY ⋯) (bY ⋯),bT (bY ⋯) (bY ⋯),h⟩
noncomputable def wx(rows:List Rw)(so:List Int)(p q r:Int)(b:Int):Int:=if b∈so then p*(vec rows b).x-q*(vec rows b).y else r*(vec rows b).x
noncomputable def wy(rows:List Rw)(so:List Int)(p q r:Int)(b:Int):Int:=if b∈so then q*(vec rows b).x+p*(vec rows b).y else r*(vec rows b).y
noncomputable def hX(w:Int->Int):List Int->Int
 | []=>0
 |b::l=>w b+hX w l
variable {w:Int->Int}
theorem Cz{m:List Int}(p:l.Perm m):hX w l=hX w m:=by
 induction p with
 |nil=>rfl
 |cons x _ ih=>rw[hX,hX,ih]
 |swap x y l=>rw[hX,hX,hX,hX];right
 |trans _ _ a b=>rw[a,b]
theorem vZ(l:List Int)(b:Int):hX w (srt (l++[b]))=hX w l+w b:=by
 rw[Cz ((Fl.iO _).trans kl)];show w b+hX w l=_;right
theorem Iv{rows:List Rw}{so:List Int}{p q r:Int}:∀l:List Int,sX rows (l.filter λb=>!decide (b∈so))*r+(p*sX rows (l.filter λb=>decide (b∈so))-q*sY rows (l.filter λb=>decide (b∈so)))=hX (wx rows so p q r) l
 | []=>by simp[sX,sY,hX]
 |b::l=>by
  have ih:=Iv (rows:=rows) (so:=so) (p:=p) (q:=q) (r:=r) l;by_cases h:b∈so
  ·rw[li (by simpa using h),lh (by simpa using h),hX,<- ih,sX,sY,wx,Wj h]
   grind
  ·rw[lh (by simpa using h),li (by simpa using h),hX,<- ih,sX,wx,VT h]
   grind
theorem Iu{rows:List Rw}{so:List Int}{p q r:Int}:∀l:List Int,sY rows (l.filter λb=>!decide (b∈so))*r+(q*sX rows (l.filter λb=>decide (b∈so))+p*sY rows (l.filter λb=>decide (b∈so)))=hX (wy rows so p q r) l
 | []=>by simp[sX,sY,hX]
 |b::l=>by
  have ih:=Iu (rows:=rows) (so:=so) (p:=p) (q:=q) (r:=r) l;by_cases h:b∈so
  ·rw[li (by simpa using h),lh (by simpa using h),hX,<- ih,sX,sY,wy,Wj h]
   grind
  ·rw[lh (by simpa using h),li (by simpa using h),hX,<- ih,sY,wy,VT h]
   grind
end Lw
variable {so:List Int}
namespace Lw
open L2 Z
open Sf (Rw crs tF Pre Good aS b8 place many)
open Fl (kd ids Walk kW tls pc bK Pt srt dP)
theorem G9(i:Int):∀l:List Int,inD (.int i) (bE l)=decide (i∈l)
 | []=>rfl
 |j::l=>by
  have ih:=G9 i l;unfold inD at ih ⊢;rw[show bE (j::l)=.int j::bE l from rfl,wn,ih];by_cases e:i=j
  ·subst e;rw[Z.qK];simp
  ·rw[Z.qK];simp[e,Ne.symm e]
theorem JD{op:Dv->Dv->(R->Prop)->Prop}{f:Int->Bool}(hop:∀(b:Int) (Q:R->Prop),Q (.v (.bl (f b)))->op (.int b) (.lst (bE so)) Q):∀l acc:List Int,acc.length+l.length<=200->Q (.nw (.lst (bE (acc++l.filter f)))) ->
  d9 [.un,.v (.lst (bE so))] (gN 0) (bS (aK op (a9 0) (a9 1))) (a9 0) (bE l) (bE acc) Q:=by
 intro l;induction l with
 |nil=>
  intro acc _ h;ac_nf;simpa using h
 |cons b l ih=>
  intro acc hl h;simp only[cj] at hl;push_cast [bv];refine hop _ _ ?_;ac_nf;by_cases e:f b=aj
  ·rw[lh e] at h;rw[Wj e];refine⟨⋯,?_⟩;rw[A5];exact ih _ (by simp;right) (by simpa using h)
  ·rw[li e] at h;rw[VT e];exact ih _ ⋯ h
theorem NK(b:Int)(Q:R->Prop)(h:Q (.v (.bl (decide (b∈so))))):J6 (.int b) (.lst (bE so)) Q:=by
 show (_/\_)/\Q (R.v (Dv.bl (inD (Dv.int b) (bE so))));rw[G9];exact⟨⟨N5 8 b,qB 8 so⟩,h⟩
theorem N6(b:Int)(Q:R->Prop)(h:Q (.v (.bl (!decide (b∈so))))):uC (.int b) (.lst (bE so)) Q:=by
 show (_/\_)/\Q (R.v (Dv.bl (!inD (Dv.int b) (bE so))));rw[G9];exact⟨⟨N5 8 b,qB 8 so⟩,h⟩
variable {b:Int}
theorem nb{a:Int}{A B:Nat}(ha:a.natAbs<=A)(hb:b.natAbs<=B):(a*b).natAbs<=A*B:=by
 rw[Sc];exact um ha hb
structure Bt(rows:List Rw)(so:List Int)(p q r:Int):Prop where
 g:Good rows
 t:Turn p q r
 sl:so.length<=100
section
variable (rows:List Rw)(so:List Int)(p q r:Int)(l:List Int)
noncomputable def pX:Int:=hX (wx rows so p q r) l
noncomputable def pY:Int:=hX (wy rows so p q r) l
noncomputable def pd:Nat:=eS (pX rows so p q r l) (pY rows so p q r l) r
noncomputable def p0:Int:=pX rows so p q r l / (pd rows so p q r l:Nat)
noncomputable def p1:Int:=pY rows so p q r l / (pd rows so p q r l:Nat)
noncomputable def p2:Int:=r / (pd rows so p q r l:Nat)
noncomputable abbrev Jl:Dv:=.tup [.int (p0 rows so p q r l),.int (p1 rows so p q r l),.int (p2 rows so p q r l)]
noncomputable abbrev EI:Dv:=.tup [.tup (bE l),.int (p0 rows so p q r l),.int (p1 rows so p q r l),.int (p2 rows so p q r l)]
end
variable {r:Int}
section
variable {p q:Int}
theorem Bt.wb(B:Bt rows so p q r)(h0:0<=b)(h1:b<(aS rows).length):(wx rows so p q r b).natAbs<=200000000000000000000/\(wy rows so p q r b).natAbs<=200000000000000000000:=by
 obtain⟨vx,vy⟩:=BA B.g h0 h1;have a1:=nb B.t.bp vx;have a2:=nb B.t.bq vy;have a3:=nb B.t.bq vx;have a4:=nb B.t.bp vy;have a5:=nb B.t.br vx;have a6:=nb B.t.br vy;unfold wx wy;split<;>right
theorem Bt.xb(B:Bt rows so p q r):∀l:List Int,zN (aS rows).length l->(pX rows so p q r l).natAbs<=200000000000000000000*l.length/\(pY rows so p q r l).natAbs<=200000000000000000000*l.length
 | [],_=>by simp[pX,pY,hX]
 |b::l,h=>by
  have i:=B.xb l λx hx=>h x (di _ hx);have v:=B.wb (h b (de ..)).1 (h b (de ..)).2;unfold pX pY at *;rw[hX,hX,cj];right
theorem Bt.d(B:Bt rows so p q r)(l:List Int):0<pd rows so p q r l/\pd rows so p q r l<=100000000:=by
 have r0:r≠0:=by have:=B.t.r1;right
 refine⟨uN r0,?_⟩;have:=Vf (by have:=B.t.r1;right) (hU (pX rows so p q r l) (pY rows so p q r l) r).2.2;have:=B.t.br;unfold pd;right
theorem Bt.one(B:Bt rows so p q r)(l:List Int):eS (p0 rows so p q r l) (p1 rows so p q r l) (p2 rows so p q r l)=1:=wT (by have:=B.t.r1;right)
theorem Bt.e0(l:List Int):pX rows so p q r l=pd rows so p q r l*p0 rows so p q r l:=(ja (hU _ _ _).1).symm
theorem Bt.e1(l:List Int):pY rows so p q r l=pd rows so p q r l*p1 rows so p q r l:=(ja (hU _ _ _).2.1).symm
theorem Bt.e2(l:List Int):r=pd rows so p q r l*p2 rows so p q r l:=(ja (hU _ _ _).2.2).symm
theorem Bt.pos(B:Bt rows so p q r)(l:List Int):1<=p2 rows so p q r l:=by
 have d:=B.d l;have:=wt (a:=r) (b:=(pd rows so p q r l:Nat)) (by have:=B.t.r1;right) ⋯ (hU _ _ _).2.2;unfold p2;right
theorem Bt.bd(B:Bt rows so p q r)(h:zN (aS rows).length l)(hl:l.length<=30):(p0 rows so p q r l).natAbs<=6000000000000000000000/\(p1 rows so p q r l).natAbs<=6000000000000000000000/\(p2 rows so p q r l).natAbs<=100000000:=by
 have x:=B.xb l h;have br:=B.t.br;have a:=jk (pX rows so p q r l) (pd rows so p q r l:Nat);have b:=jk (pY rows so p q r l) (pd rows so p q r l:Nat);have c:=jk r (pd rows so p q r l:Nat);unfold p0 p1 p2;right
theorem Cg{n0 n2 o0 o2 d1 d2 x1 x2 w:Int}(a1:x1=d1*n0)(a2:r=d1*n2)(b1:x2=d2*o0)(b2:r=d2*o2)(e:x2=x1+w):(o0*n2-n0*o2)*r=w*(n2*o2):=by
 have:w=d2*o0-d1*n0:=⋯;subst this;have e1:(o0*n2-n0*o2)*r=o0*n2*r-n0*o2*r:=W6 ..;rw[e1];have e2:o0*n2*r=o0*n2*(d2*o2):=by rw[<- b2]
 have e3:n0*o2*r=n0*o2*(d1*n2):=by rw[<- a2]
 rw[e2,e3]
 grind
theorem Bt.empty(B:Bt rows so p q r):Jl rows so p q r []=.tup [.int 0,.int 0,.int 1]:=by
 have r1:=B.t.r1;have e:pd rows so p q r []=r.natAbs:=by
  show xk (xk 0 0:Nat) r=_;simp
 unfold Jl p0 p1 p2;rw[e];show Dv.tup [.int (0 / _),.int (0 / _),_]=_;rw[Int.zero_ediv,show ((r.natAbs:Nat):Int)=r by right,Int.ediv_self ⋯]
end
noncomputable def A2(C:ah):Fn:=λds Q=>∃(rows:List Rw) (l so:List Int) (p q r:Int),ds=[fT C rows,.tup (bE l),.lst (bE so),.tup [.int p,.int q,.int r]]/\Bt rows so p q r/\zN (aS rows).length l/\l.length<=30/\Q (.v (EI rows so p q r l))
theorem Km:∀ds Q,A2 C ds Q->ds.length=4:=by rintro ds Q ⟨_,_,_,_,_,_,rfl,_⟩;rfl
theorem NB:MonoF (A2 C):=⟨λds Q Q' w z=>by obtain⟨a,b,c,d,e,f,g,h,i,j,k⟩:=z;exact⟨a,b,c,d,e,f,g,h,i,j,w _ k⟩⟩
theorem zN.flt(h:zN n l)(f:Int->Bool):zN n (l.filter f):=λb hb=>h b (UH.mp hb).1
theorem vE:∀ds Q,A2 C ds Q->jJ (xP C) xN A0 ↥Q (aI ["sides", "below", "some", "turn", "r", "still", "moved", "x", "y", "divisor"] ds):=by
 rintro ds Q ⟨rows,l,so,p,q,r,rfl,B,hb,hl,h⟩;have l1:=ul (λb=>!decide (b∈so)) l;have l2:=ul (λb=>decide (b∈so)) l;have b1:=Ee B.g _ (hb.flt λb=>!decide (b∈so));have b2:=Ee B.g _ (hb.flt λb=>decide (b∈so));have br:=B.t.br;ac_nf;refine JD (f:=λb=>!decide (b∈so)) N6 l [] (by simp;right) ?_;ac_nf;refine⟨rows,_,rfl,hb.flt _,⋯,?_⟩;ac_nf;refine JD (f:=λb=>decide (b∈so)) NK l [] (by simp;right) ?_;ac_nf;refine⟨rows,_,rfl,hb.flt _,⋯,?_⟩;ac_nf;refine⟨_,_,p,q,r,rfl,⋯,⋯,B.t.bp,B.t.bq,?_⟩;push_cast [Iv,Iu];refine⟨bT (bY ⋯) (bY ⋯),bT (bY ⋯) (bY ⋯),_,_,_,rfl,?_⟩;have d:=B.d l;have dd:(0:Int)<(pd rows so p q r l:Nat)/\((pd rows so p q r l:Nat):Int)<2 ^ 200:=⟨⋯,Ta (show _<=(100000000:Int) by right) ∅⟩;ac_nf;exact⟨dd,dd,dd,h⟩
end Lw
namespace Lw
open L2 Z
open Sf (Rw crs tF Pre Good aS b8 place many)
open Fl (kd ids Walk kW tls pc bK Pt srt dP)
theorem yL{α:Type}(f:α->Dv)(hf:∀a b,eqD (f a) (f b)=aj ↔ a=b):∀l m:List α,fq (pyDs (l.map f)) (pyDs (m.map f))=aj ↔ l=m
 | [],[]=>by simp[fC.pyDs,fq]
 | [],_::_=>by simp[fC.pyDs,fq]
 |_::_,[]=>by simp[fC.pyDs,fq]
 |a::l,b::m=>by
  show fq (fC (f a)::pyDs (l.map f)) (fC (f b)::pyDs (m.map f))=aj ↔ _;have h:=hf a b;unfold eqD at h;rw[fq,cg,yL f hf l m,h,yz]
theorem qJ(f:α->Dv)(hf:∀a b,eqD (f a) (f b)=aj ↔ a=b)(l m:List α):eqD (.lst (l.map f)) (.lst (m.map f))=aj ↔ l=m:=by
 unfold eqD;show ir (.list (pyDs _)) (.list (pyDs _))=aj ↔ _;rw[ir];exact yL f hf l m
theorem qI(f:α->Dv)(hf:∀a b,eqD (f a) (f b)=aj ↔ a=b)(l m:List α):eqD (.tup (l.map f)) (.tup (m.map f))=aj ↔ l=m:=by
 unfold eqD;show ir (.tuple (pyDs _)) (.tuple (pyDs _))=aj ↔ _;rw[ir];exact yL f hf l m
theorem nQ(a b:Int):eqD (.int a) (.int b)=aj ↔ a=b:=by rw[Z.qK,decide_eq_true_eq]
theorem L7(t u:Ti):eqD (Nv t) (Nv u)=aj ↔ t=u:=by
 have h1:=nQ t.1 u.1;have h2:=nQ t.2.1 u.2.1;have h3:=qI Dv.int nQ t.2.2 u.2.2;unfold eqD at h1 h2 h3 ⊢;show ir (.tuple [fC (.int t.1),fC (.int t.2.1),fC (.tup (bE t.2.2))]) (.tuple [fC (.int u.1),fC (.int u.2.1),fC (.tup (bE u.2.2))])=aj ↔ _;rw[ir,fq,fq,fq,fq,cg,cg,cg,h1,h2,h3];obtain⟨a,b,c⟩:=t;obtain⟨x,y,z⟩:=u;simp
theorem LA(t u:List Int×Int×Int×Int):eqD (.tup [.tup (bE t.1),.int t.2.1,.int t.2.2.1,.int t.2.2.2]) (.tup [.tup (bE u.1),.int u.2.1,.int u.2.2.1,.int u.2.2.2])=aj ↔ t=u:=by
 have h1:=qI Dv.int nQ t.1 u.1;have h2:=nQ t.2.1 u.2.1;have h3:=nQ t.2.2.1 u.2.2.1;have h4:=nQ t.2.2.2 u.2.2.2;unfold eqD at h1 h2 h3 h4 ⊢;show ir (.tuple [fC (.tup (bE t.1)),fC (.int t.2.1),fC (.int t.2.2.1),fC (.int t.2.2.2)]) (.tuple [fC (.tup (bE u.1)),fC (.int u.2.1),fC (.int u.2.2.1),fC (.int u.2.2.2)])=aj ↔ _;rw[ir,fq,fq,fq,fq,fq,cg,cg,cg,cg,h1,h2,h3,h4];obtain⟨a,b,c,d⟩:=t;obtain⟨x,y,z,w⟩:=u;simp
structure Fw(n:Nat)(fl:List Ti):Prop where
 len:fl.length<=100
 bl:∀t∈fl,t.2.2.length<=12
 em:∃t∈fl,t.2.2=[]
 ib:∀t∈fl,0<=t.1/\t.1<n/\0<=t.2.1/\t.2.1<n/\zN n t.2.2
theorem zN.snoc{b:Int}(h:zN n l)(h0:0<=b)(h1:b<n):zN n (srt (l++[b])):=λx hx=>by
 rcases gf.mp ((Fl.iO _).mem_iff.mp hx) with hx | hx
 ·exact h x hx
 ·rw[fv.mp hx];exact⟨h0,h1⟩
theorem iR(l:List Int)(b:Int):(srt (l++[b])).length=l.length+1:=by rw[Fl.sV];simp
theorem Fw.mem{n:Nat}{fl:List Ti}(F:Fw n fl){ls:List (List Int)}(c:C5 fl ls){x:List Int}(hx:x∈ls):zN n x/\x.length<=14:=by
 obtain⟨t,ht,k⟩:=(c.mem x).mp hx;obtain⟨a0,a1,b0,b1,ib⟩:=F.ib t ht;have bl:=F.bl t ht;unfold zJ at k;simp only[dt,jr,or_false] at k;rcases k with rfl | rfl | rfl | rfl
 ·exact⟨ib,⋯⟩
 ·exact⟨ib.snoc a0 a1,by rw[iR];right⟩
 ·exact⟨ib.snoc b0 b1,by rw[iR];right⟩
 ·exact⟨(ib.snoc a0 a1).snoc b0 b1,by rw[iR,iR];right⟩
theorem C5.few{fl:List Ti}(F:Fw n fl)(c:C5 fl ls):ls.length<=400:=by
 have:=tB fl [];have:=F.len;rw[c.1.length_eq];simp at *;right
theorem C5.nd{fl:List Ti}(c:C5 fl ls):ls.Nodup:=c.2.imp λ{a b} h e=>by
 subst e;rw[qF] at h;cases h
noncomputable def lT(C XN:ah):EK:=λds Q Ψ=>∃(rows:List Rw) (fl:List Ti) (so:List Int) (d:Dv) (b:Bool),ds=[fT C rows,.lst (uP fl),.lst (bE so),d]/\TurnB d b/\(b=ap->Ψ (XN,aq)) /\
 (b=aj -> ∃p q r,d=.tup [.int p,.int q,.int r]/\Bt rows so p q r/\Fw (aS rows).length fl /\ ∀ls,C5 fl ls->Q (.nw (.lst (ls.map (EI rows so p q r)))))
variable {XN:ah}
theorem Dg:∀ds Q Ψ,lT C XN ds Q Ψ->ds.length=4:=by rintro ds Q Ψ ⟨_,_,_,_,_,rfl,_⟩;rfl
theorem qE:MonoX (lT C XN):=⟨λds Q Q' Ψ Ψ' w v ⟨a,b,c,d,e,f,g,h,i⟩=>⟨a,b,c,d,e,f,g,λz=>v _ (h z),λz=>
 have ⟨p,q,r,x,y,z,u⟩:=i z
 ⟨p,q,r,x,y,z,λls c=>w _ (u ls c)⟩⟩⟩
theorem LP{p q r:Int}(B:Bt rows so p q r):∀(ls acc:List (List Int)),(∀x∈ls,zN (aS rows).length x/\x.length<=14)->acc.length+ls.length<=1000->Q (.nw (.lst ((acc++ls).map (EI rows so p q r)))) ->
  d9 [.un,.v (fT C rows),.v (.lst (bE so)),.v (.tup [.int p,.int q,.int r])] (gN 0) fY (aZ (A2 C) (aA (a9 1) (aA (a9 0) (aA (a9 2) (aA (a9 3) aG))))) (Ip ls) (acc.map (EI rows so p q r)) Q:=by
 intro ls;induction ls with
 |nil=>
  intro acc _ _ h;ac_nf;simpa using h
 |cons l ls ih=>
  intro acc hb hl h;simp only[cj] at hl;push_cast [bv];have k:=hb l (de ..);refine⟨rows,l,so,p,q,r,rfl,B,k.1,⋯,?_⟩;push_cast [bv];refine⟨⋯,?_⟩;have:=ih (acc++[l]) (λx hx=>hb x (di _ hx)) (by simp;right) (by simpa using h);rw[kx] at this;exact this
theorem Hf:∀ds Q Ψ,lT C XN ds Q Ψ->xL XN Ψ xO lS (A2 C) ↥Q (aI ["sides", "floor", "some", "turn"] ds):=by
 rintro ds Q Ψ ⟨rows,fl,so,d,b,rfl,T,hf,ht⟩;ac_nf;refine⟨d,b,rfl,T,?_⟩;cases b with
 |false=>
  push_cast [BJ];exact hf rfl
 |true=>
  obtain⟨p,q,r,rfl,B,F,h⟩:=ht rfl;ac_nf;have fl1:=F.len;refine⟨fl,rfl,⋯,λt ht=>by have:=F.bl t ht;right,F.em,λls c=>?_⟩;ac_nf;exact LP B ls [] (λx hx=>F.mem c hx) (by have:=c.few F;simp;right) (h ls c)
noncomputable def qZ:Fn:=λds Q=>∃n:Int,ds=[.int n]/\Q (.v (.bl aj))
theorem IF:∀ds Q,qZ ds Q->ds.length=1:=by rintro ds Q ⟨_,rfl,_⟩;rfl
theorem Kb:MonoF qZ:=⟨λds Q Q' w z=>by obtain⟨a,b,h⟩:=z;exact⟨a,b,w _ h⟩⟩
theorem AI:∀ds Q,qZ ds Q->lJ ↥Q (aI ["_law_found"] ds):=by
 rintro ds Q ⟨n,rfl,h⟩;ac_nf;exact⟨rfl,hG (λ_=>⟨rfl,h⟩) λz=>absurd rfl z⟩
noncomputable def qY:Fn:=λds Q=>∃l:List Int,ds=[.tup (bE l)]/\Q (.v (.bl aj))
theorem IE:∀ds Q,qY ds Q->ds.length=1:=by rintro ds Q ⟨_,rfl,_⟩;rfl
theorem Ka:MonoF qY:=⟨λds Q Q' w z=>by obtain⟨a,b,h⟩:=z;exact⟨a,b,w _ h⟩⟩
theorem NE{E:En}{x0:Sl}:∀(l:List Int) (s:Sl),(∀s,E.nx [x0,s])->bO (gN 1) (gI qZ) [] (bE l) E [x0,s]:=by
 intro l;induction l with
 |nil=>
  intro s h;rw[show bE []=[] from rfl,dM];exact⟨λp hp=>by simp at hp,h _⟩
 |cons n l ih=>
  intro s h;rw[show bE (n::l)=.int n::bE l from rfl,cP];refine⟨λp hp=>by simp at hp,?_⟩;have nx:=λs=>ih s h;generalize bO (gN 1) (gI qZ) [] (bE l) E=G at nx ⊢;push_cast [gI];refine⟨n,rfl,?_⟩;ac_nf;exact nx _
theorem xV:∀ds Q,qY ds Q->k7 qZ ↥Q (aI ["_law_found", "_law_number"] ds):=by
 rintro ds Q ⟨l,rfl,h⟩;ac_nf;refine⟨rfl,hG (λz=>by cases z) λ_=>NE l _ λs=>?_⟩;ac_nf;exact h
end Lw
namespace Lw
open L2 Z
open Sf (Rw crs tF Pre Good aS b8 place many)
open Fl (kd ids Walk kW tls pc bK Pt srt dP)
theorem mZ(n:Nat):∀l:List Dv,(∀d∈l,dQ n d=aj)->okDs n l=aj
 | [],_=>rfl
 |d::r,h=>by
  show (dQ n d&&okDs n r)=aj;rw[h d (by simp),mZ n r λx hx=>h x (by simp[hx])];rfl
section
variable (rows:List Rw)(so:List Int)(p q r:Int)
noncomputable def lZ(ls:List (List Int)):List (List bU×Dv):=ls.map λk=>(k.map ft,Jl rows so p q r k)
end
variable {p q r:Int}
theorem G3(h:l∈ls)(k:Q (.v (Jl rows so p q r l))):cX (.dit (lZ rows so p q r ls)) (.tup (bE l)) Q:=by
 refine⟨l.map ft,Dv.tup.inj (G0 l),?_⟩;have key:∀ls:List (List Int),l∈ls->(lZ rows so p q r ls).find? (λkv=>decide (kv.1=l.map ft))=aa (l.map ft,Jl rows so p q r l):=λls=>by
  induction ls with
  |nil=>intro h;cases h
  |cons m ls ih=>
   intro h;unfold lZ at ih ⊢;rw[dh];by_cases e:m=l
   ·subst e;rw[oy (by simp)]
   ·have ne:¬decide (m.map (ft:Int->bU)=l.map ft)=aj:=λz=>e (yF (of_decide_eq_true z));rw[oz (by exact ne)];refine ih ?_;rcases dt.mp h with h | h
    ·exact absurd h.symm e
    ·exact h
 rw[key ls h];exact k
theorem Jj{acc:List (List Int)}(h:l ∉ acc):vA (lZ rows so p q r acc) (l.map ft) (Jl rows so p q r l)=lZ rows so p q r (acc++[l]):=by
 unfold vA lZ;rw[VT ?_,kx]
 ·rfl
 ·intro z;obtain⟨x,hx,e⟩:=Us.mp z;obtain⟨y,hy,rfl⟩:=jx.mp hx;exact h (yF (of_decide_eq_true e) ▸ hy)
noncomputable def oB:Fn:=λds Q=>∃(rows:List Rw) (so:List Int) (p q r:Int) (fl:List Ti) (ls:List (List Int)),ds=[.lst (ls.map (EI rows so p q r)),.lst (uP fl)]/\Bt rows so p q r/\Fw (aS rows).length fl/\C5 fl ls/\Q (.nw (.dit (lZ rows so p q r ls)))
theorem ID:∀ds Q,oB ds Q->ds.length=2:=by rintro ds Q ⟨_,_,_,_,_,_,_,rfl,_⟩;rfl
theorem KZ:MonoF oB:=⟨λds Q Q' w z=>by obtain⟨a,b,c,d,e,f,g,h,i,j,k,l⟩:=z;exact⟨a,b,c,d,e,f,g,h,i,j,k,w _ l⟩⟩
variable {x0 x1:Sl}
theorem S7{d:Dv}{x2 x3:Sl}{Q:List Sl->Prop}(h:Q [x0,x1,x2,.v d]):gN 3 d [x0,x1,x2,x3] Q:=by
 ac_nf;exact h
theorem Mb{E:En}(B:Bt rows so p q r):∀(ls acc:List (List Int)) (s:Sl),(acc++ls).Nodup->acc.length+ls.length<=1000 ->
  (∀s,E.nx [x0,x1,.own a (.dit (lZ rows so p q r (acc++ls))),s]) ->
  bO (gN 3) (gJ qY lQ lS) [] (ls.map (EI rows so p q r)) E [x0,x1,.own a (.dit (lZ rows so p q r acc)),s]:=by
 intro ls;induction ls with
 |nil=>
  intro acc s _ _ h;rw[Tu,dM];rw[ka] at h;exact⟨λp hp=>by simp at hp,h _⟩
 |cons l ls ih=>
  intro acc s nd hl h;rw[cj] at hl;rw[dh,cP];refine⟨λp hp=>by simp at hp,S7 ?_⟩;have nt:l ∉ acc:=λz=>(TM.mp nd).2.2 l z l (de ..) rfl;have nx:=ih (acc++[l]) (.v (EI rows so p q r l)) (by rw[fx];exact nd) (by simp;right) λs=>by rw[fx];exact h s
  generalize bO (gN 3) (gJ qY lQ lS) [] (ls.map (EI rows so p q r)) E=G at nx ⊢;have one:=B.one l;have pos:=B.pos l;have cu:∀a b c d:Dv,cut [a,b,c,d] (aa 1) aq=[b,c,d]:=λa b c d=>rfl;have ns:¬(HT.fU 4 0 (aa 1)=0/\HT.fU 4 4 aq=4):=by decide
  push_cast [gJ,cu];refine⟨rfl,hG (λz=>by cases z) λ_=>hG (λz=>by cases z) λ_=>⟨l,rfl,?_⟩⟩;ac_nf;refine⟨ns,[p0 rows so p q r l,p1 rows so p q r l,p2 rows so p q r l],rfl,?_⟩;ac_nf;refine hG (λz=>absurd z ⋯) λ_=>⟨_,_,rfl,?_⟩;ac_nf;refine⟨_,_,rfl,?_⟩;ac_nf;refine hG (λz=>?_) λ_=>⟨ns,_,G0 l,by unfold lZ;rw[bv];right,?_⟩
  ·unfold eS at one;rw[one] at z;exact absurd z ∅
  ·rw[Jj nt];exact nx
theorem Ma:∀(ls acc:List (List Int)),acc.length+ls.length<=1000->Q (.nw (.lst (Ip (acc++ls)))) ->
  d9 [.un] (gN 0) fY (aK cX (a9 0) (eC (.int 0))) (ls.map (EI rows so p q r)) (Ip acc) Q:=by
 intro ls;induction ls with
 |nil=>
  intro acc _ h;ac_nf;simpa using h
 |cons l ls ih=>
  intro acc hl h;simp only[cj] at hl;push_cast [bv];refine⟨⋯,?_⟩;have:=ih (acc++[l]) (by simp;right) (by simpa using h);unfold Ip at this;rw[kx] at this;exact this
theorem N8{b:Bool}(h:b=aj):¬(!b)=aj:=by rw[h];decide
theorem J7(ls:List (List Int)):dQ 8 (.lst (Ip ls))=aj:=mZ 7 _ λd hd=>by
 obtain⟨l,_,rfl⟩:=jx.mp hd;exact qB 6 l
theorem L6(l m:List (List Int)):eqD (.lst (Ip l)) (.lst (Ip m))=aj ↔ l=m:=qJ _ (λa b=>qI _ nQ a b) l m
theorem xX:∀ds Q,oB ds Q->k9 qY lQ lS ↥Q (aI ["_law_found", "_law_tiles", "_law_points_here", "_law_part"] ds):=by
 rintro ds Q ⟨rows,so,p,q,r,fl,ls,rfl,B,F,c,h⟩;have few:=c.few F;have fl1:=F.len;ac_nf;refine λa=>⟨rfl,hG (λz=>by cases z) λ_=>Mb B ls [] _ (by simpa using c.nd) (by simp;right) λs=>?_⟩;rw[wj];ac_nf;refine Ma ls [] (by simp;right) ?_;ac_nf;refine⟨fl,rfl,⋯,λt ht=>by have:=F.bl t ht;right,F.em,λls' c'=>?_⟩;obtain rfl:=c'.uniq c;ac_nf;exact⟨⟨J7 _,J7 _⟩,hG (λz=>absurd z (N8 ((L6 ls' ls').mpr rfl))) λ_=>h⟩
end Lw
namespace Lw
open L2 Z
open Sf (Rw crs tF Pre Good aS b8 place many)
open Fl (kd ids Walk kW tls pc bK Pt srt dP)
noncomputable def kC:Fn:=λds Q=>∃(rows:List Rw) (so:List Int) (p q r:Int) (ls:List (List Int)) (l:List Int) (b:Int),ds=[.dit (lZ rows so p q r ls),.tup (bE l),.int b,.tup [.int (wx rows so p q r b),.int (wy rows so p q r b)],.int r]/\Bt rows so p q r/\l∈ls/\srt (l++[b])∈ls/\zN (aS rows).length l/\0<=b/\b<(aS rows).length/\l.length<=20/\Q (.v (.bl aj))
theorem Fq:∀ds Q,kC ds Q->ds.length=5:=by rintro ds Q ⟨_,_,_,_,_,_,_,_,rfl,_⟩;rfl
theorem Hv:MonoF kC:=⟨λds Q Q' w z=>by obtain⟨a,b,c,d,e,f,g,h,i,j,k,l,m,n,o,s,t⟩:=z;exact⟨a,b,c,d,e,f,g,h,i,j,k,l,m,n,o,s,w _ t⟩⟩
theorem BX:∀ds Q,kC ds Q->o7 iP ↥Q (aI ["_law_points_here", "_law_below", "_law_band", "_law_vector_here", "_law_scale", "_law_one", "_law_other", "_law_across", "_law_upward", "_law_both"] ds):=by
 rintro ds Q ⟨rows,so,p,q,r,ls,l,b,rfl,B,m1,m2,ib,h0,h1,hl,h⟩;have ib2:=ib.snoc h0 h1;have sl:=iR l b;obtain⟨a0,a1,a2⟩:=B.bd ib ⋯;obtain⟨b0,b1,b2⟩:=B.bd ib2 ⋯;obtain⟨w0,w1⟩:=B.wb h0 h1;have br:=B.t.br;have ex:pX rows so p q r (srt (l++[b]))=pX rows so p q r l+wx rows so p q r b:=vZ l b;have ey:pY rows so p q r (srt (l++[b]))=pY rows so p q r l+wy rows so p q r b:=vZ l b;have gx:=Cg (Bt.e0 l) (Bt.e2 l) (Bt.e0 (srt (l++[b]))) (Bt.e2 (srt (l++[b]))) ex;have gy:=Cg (Bt.e1 l) (Bt.e2 l) (Bt.e1 (srt (l++[b]))) (Bt.e2 (srt (l++[b]))) ey;ac_nf;refine G3 m1 ?_;ac_nf;refine⟨l,b,rfl,⋯,?_⟩;ac_nf;refine G3 m2 ?_;ac_nf;generalize p0 rows so p q r l=n0 at *;generalize p1 rows so p q r l=n1 at *;generalize p2 rows so p q r l=n2 at *;generalize p0 rows so p q r (srt (l++[b]))=o0 at *;generalize p1 rows so p q r (srt (l++[b]))=o1 at *;generalize p2 rows so p q r (srt (l++[b]))=o2 at *;generalize wx rows so p q r b=u at *;generalize wy rows so p q r b=v at *;have c1:=nb b0 a2;have c2:=nb a0 b2;have c3:=nb b1 a2;have c4:=nb a1 b2;have c5:=nb a2 b2;refine⟨bT (bY ⋯) (bY ⋯),bT (bY ⋯) (bY ⋯),bT (bY ⋯) (bY ⋯),bT (bY ⋯) (bY ⋯),bT (bY ⋯) (bY ⋯),bT (bY ⋯) (bY ⋯),bT (bY ⋯) (bY ⋯),hG (λ_=>⟨bT (bY ⋯) (bY ⋯),bT (bY ⋯) (bY ⋯),?_⟩) λz=>absurd gx z⟩;rw[decide_eq_true gy];exact h
noncomputable def i9:Fn:=λds Q=>∃(u:Rw) (i:Bool) (p q r:Int),ds=[rD u,.bl i,.tup [.int p,.int q,.int r]]/\u.x.natAbs<=1000000000000/\u.y.natAbs<=1000000000000/\Turn p q r/\Q (.v (.tup [.int (if i then p*u.x-q*u.y else r*u.x),.int (if i then q*u.x+p*u.y else r*u.y)]))
theorem Fo:∀ds Q,i9 ds Q->ds.length=3:=by rintro ds Q ⟨_,_,_,_,_,rfl,_⟩;rfl
theorem Ht:MonoF i9:=⟨λds Q Q' w z=>by obtain⟨a,b,c,d,e,f,g,h,i,j⟩:=z;exact⟨a,b,c,d,e,f,g,h,i,w _ j⟩⟩
theorem xW:∀ds Q,i9 ds Q->k8 ↥Q (aI ["_law_direction", "_law_inside", "_law_turn_here", "_law_p", "_law_q", "_law_r"] ds):=by
 rintro ds Q ⟨u,i,p,q,r,rfl,h1,h2,T,h⟩;have bp:=T.bp;have bq:=T.bq;have br:=T.br;cases i with
 |false=>
  ac_nf;exact⟨bT (bY ⋯) (bY ⋯),bT (bY ⋯) (bY ⋯),h⟩
 |true=>
  ac_nf;exact⟨bT (bY ⋯) (bY ⋯),bT (bY ⋯) (bY ⋯),bT (bY ⋯) (bY ⋯),bT (bY ⋯) (bY ⋯),h⟩
variable {a:Int}
theorem JV(h:a.natAbs<=1000000000000):l9 2 a:=bT (bY ∅) (bY ⋯)
theorem zT(h:(3:Int) ∣ a*a):(3:Int) ∣ a:=by
 have e:a=3*(a / 3)+a % 3:=⋯;have s0:=jv a (show (3:Int)≠0 by decide);have s1:=gv a (show (0:Int)<3 by decide);generalize a / 3=k at *;generalize a % 3=s at *;have e2:a*a=3*(3*(k*k)+2*(k*s))+s*s:=by rw[e];grind
 rw[e2] at h;generalize 3*(k*k)+2*(k*s)=m at h;obtain rfl | rfl | rfl:s=0 \/ s=1 \/ s=2:=⋯
 ·right
 ·right
 ·right
variable {p q r:Int}
theorem Turn.no1(T:Turn p q r):p*p+q*q≠(r+1)*(r+1):=λz=>by
 have:=T.sq;have:=T.r1;have e:(r+1)*(r+1)=r*r+2*r+1:=by grind
 right
theorem Turn.no14(T:Turn p q r):(p-r)*(p-r)+q*q≠r*r:=λz=>by
 have sq:=T.sq;have r1:=T.r1;have e:(p-r)*(p-r)=p*p-2*(p*r)+r*r:=by grind
 have e2:r*r=(2*p)*r:=by
  have:(2*p)*r=2*(p*r):=Ve ..;right
 have e3:r=2*p:=Int.eq_of_mul_eq_mul_right ⋯ e2;have e4:q*q=3*(p*p):=by
  have:r*r=4*(p*p):=by rw[e3];grind
  right
 have d1:(3:Int) ∣ q:=zT ⟨_,e4⟩;obtain⟨k,rfl⟩:=d1;have e5:p*p=3*(k*k):=by
  have:3*k*(3*k)=9*(k*k):=by grind
  right
 have d2:(3:Int) ∣ p:=zT ⟨_,e5⟩;have d3:(3:Int) ∣ r:=e3 ▸ Int.dvd_mul_of_dvd_right d2;have:=uR d2 ⟨k,rfl⟩ d3;rw[T.cp] at this;right
theorem Turn.no8:eS (2*p) (2*q) (2*r)≠1:=λz=>by
 have:=uR (d:=2) (a:=2*p) (b:=2*q) (c:=2*r) ⟨p,rfl⟩ ⟨q,rfl⟩ ⟨r,rfl⟩;rw[z] at this;right
noncomputable def oC:Fn:=λds Q=>∃p q r:Int,ds=[.tup [.int p,.int q,.int r]]/\Turn p q r /\ ∀l:List Dv,l.length<=20->(∀d∈l,TurnB d ap)->Q (.nw (.lst l))
theorem IG:∀ds Q,oC ds Q->ds.length=1:=by rintro ds Q ⟨_,_,_,rfl,_⟩;rfl
theorem Kc:MonoF oC:=⟨λds Q Q' w z=>by obtain⟨a,b,c,d,e,h⟩:=z;exact⟨a,b,c,d,e,λl x y=>w _ (h l x y)⟩⟩
theorem uB:∀ds Q,oC ds Q->iN ↥Q (aI ["_law_turn_here", "_law_p", "_law_q", "_law_r", "_law_found"] ds):=by
 rintro ds Q ⟨p,q,r,rfl,T,h⟩;have bp:=T.bp;have bq:=T.bq;have br:=T.br;have r1:=T.r1;have n1:=T.no1;have n14:=T.no14;push_cast [AN];refine⟨JV ⋯,JV ⋯,JV ⋯,h _ (show (14:Nat)<=20 by decide) λd hd=>?_⟩;simp only[dt,jr,or_false] at hd;rcases hd with rfl | rfl | rfl | rfl | rfl | rfl | rfl | rfl | rfl | rfl | rfl | rfl | rfl | rfl
 ·exact .num _ ⋯ ⋯ ⋯ (by rw[decide_eq_false n1,pk,pr])
 ·exact .len (show (4:Nat)≠3 by decide)
 ·exact .len (show (2:Nat)≠3 by decide)
 ·exact .len (show (0:Nat)≠3 by decide)
 ·exact .num _ ⋯ ⋯ ⋯ (by rw[decide_eq_false (show ¬1 <= -r by right),pk])
 ·exact .num _ ⋯ ⋯ ⋯ (by rw[decide_eq_false (show ¬(1:Int)<=0 by right),pk])
 ·exact .num _ ⋯ ⋯ ⋯ (by rw[decide_eq_false (show ¬(1:Int)<=0 by right),pk])
 ·exact .num _ ⋯ ⋯ ⋯ (by rw[decide_eq_false (Turn.no8 (p:=p) (q:=q) (r:=r)),pr,pr])
 ·exact .bad (a:=ap) (b:=aj) (c:=aj) rfl rfl rfl rfl
 ·exact .bad (a:=aj) (b:=ap) (c:=aj) rfl rfl rfl rfl
 ·exact .bad (a:=ap) (b:=aj) (c:=aj) rfl rfl rfl rfl
 ·exact .bad (a:=aj) (b:=ap) (c:=aj) rfl rfl rfl rfl
 ·exact .bad (a:=aj) (b:=aj) (c:=ap) rfl rfl rfl rfl
 ·exact .num _ ⋯ ⋯ ⋯ (by rw[decide_eq_false n14,pk,pr])
noncomputable def oA(C:ah):Fn:=λds Q=>∃(rows:List Rw) (fl:List Ti) (so:List Int) (d:Dv),ds=[fT C rows,.lst (uP fl),.lst (bE so),d]/\TurnB d ap/\Q (.v (.bl aj))
theorem IC:∀ds Q,oA C ds Q->ds.length=4:=by rintro ds Q ⟨_,_,_,_,rfl,_⟩;rfl
theorem KY:MonoF (oA C):=⟨λds Q Q' w z=>by obtain⟨a,b,c,d,e,f,h⟩:=z;exact⟨a,b,c,d,e,f,w _ h⟩⟩
theorem vB{XS XT XF:ah}(ci:ExcI K XT)(k1:oa K (.ref XT) (.ref XT)=aa aj)(k2:oa K (.ref XT) (.type "ValueError")=aa aj)(k3:oa K (.ref XT) (.ref XF)=aa ap):∀ds Q,oA C ds Q->jG K XS XT XF (lT C XT) ↥Q (aI ["_law_sides", "_law_tiles", "_law_some", "_law_thing", "_law_refused_here", "e"] ds):=by
 rintro ds Q ⟨rows,fl,so,d,rfl,T,h⟩;push_cast [JY];refine⟨rows,fl,so,d,ap,rfl,T,λ_=>⟨rfl,?_⟩,λz=>by cases z⟩;push_cast [Ck,GQ];refine⟨ci,aj,k1,ci,aj,k2,?_⟩;rw[Wj rfl];exact⟨ci,ap,k3,h⟩
end Lw
namespace Lw
open L2 Z
open Sf (Rw crs tF Pre Good aS b8 place many)
open Fl (kd ids Walk kW tls pc bK Pt srt dP)
variable {row e:List Int}
theorem JJ(w:Walk ks l row e)(P:Pt ks.length l)(ne:e.getD 0 0≠l.getD 0 0):∃t∈tls l row,t.2.2=[]:=by
 induction w with
 |nil l=>exact absurd rfl ne
 | @cons l e r p hp hk w ih=>
  rw[tls,ee];by_cases z:p=0
  ·subst z;exact⟨_,de ..,rfl⟩
  ·have g:(bK l p).getD 0 0=l.getD 0 0:=by
    have:=P.len;rw[Fl.pG ⋯ ⋯,VT ⋯,VT ⋯]
   obtain⟨t,ht,e0⟩:=ih (P.swap hp) (by rw[g];exact ne);exact⟨t,di _ ht,e0⟩
theorem LH(d:kW ks e)(P:Pt ks.length e){x:Int}(h0:0<=x)(h1:x<ks.length):kd ks x<=kd ks (e.getD 0 0):=by
 obtain⟨i,hi,rfl⟩:=P.sur x h0 h1;have:=d.le P i 0 ⋯;rwa[wr] at this
theorem Fw.of{cs:List Nat}(C:Cnt cs){fl:List Ti}(w:Walk (aH 0 cs) (ids (aH 0 cs).length) row e)(d:kW (aH 0 cs) e)(rl:row.length<=60)(f:zH (aH 0 cs) row fl):Fw (aH 0 cs).length fl:=by
 obtain⟨l2,l12⟩:=tD C;obtain⟨ts,pm,al⟩:=f;have P:=Pt.ids (aH 0 cs).length;have each:∀t∈fl,∃u∈tls (ids (aH 0 cs).length) row,t.1=u.1/\t.2.1=u.2.1/\t.2.2=srt u.2.2:=λt ht=>by
  obtain⟨i,hi,e⟩:=kg.mp (pm.mem_iff.mp ht);have hi2:i<(tls (ids (aH 0 cs).length) row).length:=by rw[<- al.1];exact hi
  exact⟨_,dm hi2,al.2 i t _ (by rw[bf hi,e]) (bf hi2)⟩
 have mem:∀u∈tls (ids (aH 0 cs).length) row,(0<=u.1/\u.1<(aH 0 cs).length)/\(0<=u.2.1/\u.2.1<(aH 0 cs).length)/\zN (aH 0 cs).length u.2.2/\u.2.2.length<=12:=λu hu=>by
  obtain⟨k,hk,e⟩:=kg.mp hu;obtain⟨m,p,wm,hp,eu⟩:=w.at (k:=k) (t:=u) (by rw[bf hk,e]);have pm:=wm.pt P;subst eu;refine⟨pm.bd p ⋯,pm.bd (p+1) hp,λx hx=>?_,by rw[fw];right⟩;obtain⟨j,hj,ej⟩:=kg.mp (uz hx);have hj2:j<(aH 0 cs).length:=by rw[<- pm.len];exact hj
  have:=pm.bd j hj2;rwa[show m.getD j 0=x by simp[dq,hj,ej]] at this
 refine⟨by rw[zH.len ⟨ts,pm,al⟩];right,λt ht=>?_,?_,λt ht=>?_⟩
 ·obtain⟨u,hu,_,_,e⟩:=each t ht;rw[e,Fl.sV];exact(mem u hu).2.2.2
 ·have lo:=C.lo;obtain⟨u,hu,e0⟩:=JJ w P (λz=>by
   have lst:kd (aH 0 cs) ((aH 0 cs).length-1:Nat)=(cs.length:Int)-1:=by
    have b:=uZ C;unfold lC rL at b;rw[VT ∅,Wj (by simp;right)] at b;simp only[bv,bind_some] at b;rw[show (-1+(((aH 0 cs).length:Nat):Int)).toNat=(aH 0 cs).length-1 by right,cn] at b;unfold kd;rw[ee,dq];have hl:(aH 0 cs).length-1<(aH 0 cs).length:=⋯;rw[bf hl] at b ⊢;exact Dv.int.inj (Option.some.inj b)
   have k:=LH d (w.pt P) (x:=((aH 0 cs).length-1:Nat)) ⋯ ⋯;rw[z,lst,Fl.qG ⋯] at k;have k0:kd (aH 0 cs) ((0:Nat):Int)=0:=by
    obtain⟨c,cs,rfl⟩:∃c cs',cs=c::cs':=by cases cs with
     |nil=>simp at lo
     |cons c cs=>exact⟨c,cs,rfl⟩
    have c1:=C.ok c (de ..);obtain⟨c,rfl⟩:∃n,c=n+1:=⟨c-1,⋯⟩;rfl
   right)
  obtain⟨i,hi,e⟩:=kg.mp hu;have hi2:i<ts.length:=by rw[al.1];exact hi
  have k:=al.2 i ts[i] u (bf hi2) (by rw[bf hi,e]);refine⟨ts[i],pm.mem_iff.mpr (dm hi2),?_⟩;rw[k.2.2,e0];exact List.eq_nil_of_length_eq_zero (Fl.sV [])
 ·obtain⟨u,hu,e1,e2,e3⟩:=each t ht;obtain⟨h1,h2,h3,_⟩:=mem u hu;rw[e1,e2,e3];exact⟨h1.1,h1.2,h2.1,h2.2,λx hx=>h3 x ((Fl.iO _).mem_iff.mp hx)⟩
end Lw
namespace Lw
open L2 Z
open Sf (Rw crs tF Pre Good aS b8 place many)
open Fl (kd ids Walk kW tls pc bK Pt srt dP)
theorem JL{b:Int}(h0:0<=b)(h1:b<(aS rows).length):lC (sE rows) (kd (aS rows) b)=aa (rD (vec rows b)):=by
 have k:=Fy h0 h1;have h:(kd (aS rows) b).toNat<rows.length:=⋯;have e:vec rows b=rows[(kd (aS rows) b).toNat]:=by
  unfold vec;generalize (kd (aS rows) b).toNat=j at h ⊢;simp[dq,h]
 rw[e];have a:=L2.gK (xs:=sE rows) (j:=(kd (aS rows) b).toNat) (v:=rD rows[(kd (aS rows) b).toNat]) (by rw[cn,bf h];rfl);rw[show (((kd (aS rows) b).toNat:Nat):Int)=kd (aS rows) b by right] at a;exact a
section
variable (rows:List Rw)(so:List Int)(p q r:Int)
noncomputable abbrev wD(b:Int):Dv:=.tup [.int (wx rows so p q r b),.int (wy rows so p q r b)]
noncomputable abbrev EM(l:List Int):List Dv:=l.map (wD rows so p q r)
end
variable {p q r:Int}
theorem JK(B:Bt rows so p q r)(hn:(aS rows).length<=12):∀(m k:Nat),k+m=(aS rows).length->Q (.nw (.lst (EM rows so p q r (ids (aS rows).length)))) ->
  d9 [.un,.v (.tup [.int p,.int q,.int r]),.v (.lst (sE rows)),.v (.lst (bE so)),.v (.lst (bE (aS rows)))] (gN 0) fY (aZ i9 (aA (aK cX (a9 2) (aK cX (a9 4) (a9 0))) (aA (aK J6 (a9 0) (a9 3)) (aA (a9 1) aG)))) (bW k m) (EM rows so p q r (ids k)) Q:=by
 intro m;induction m with
 |zero=>
  intro k hk h;rw[gO,p9];rw[<- hk] at h;exact h
 |succ m ih=>
  intro k hk h;have k0:(0:Int)<=(k:Int):=⋯;have k1:(k:Int)<(aS rows).length:=⋯;have hb:=BA B.g k0 k1;have il:(ids k).length=k:=by simp[ids]
  have ih:=ih (k+1) ⋯ h;rw[eX,sN];rw[show ((k:Int)+1)=((k+1:Nat):Int) by right];generalize d9 [.un,.v (.tup [.int p,.int q,.int r]),.v (.lst (sE rows)),.v (.lst (bE so)),.v (.lst (bE (aS rows)))] (gN 0) fY (aZ i9 (aA (aK cX (a9 2) (aK cX (a9 4) (a9 0))) (aA (aK J6 (a9 0) (a9 3)) (aA (a9 1) aG)))) (bW ((k+1:Nat):Int) m)=G at ih ⊢;push_cast [mQ k0 k1];rw[JL k0 k1];ac_nf;refine NK _ _ ?_;ac_nf;refine⟨vec rows k,_,p,q,r,rfl,hb.1,hb.2,B.t,?_⟩;push_cast [bv];refine⟨by rw[xi];right,?_⟩;unfold EM ids at ih;rw[Uy,kx,kx] at ih;exact ih
noncomputable abbrev pK(C XT:ah):Fn:=λds Q=>lT C XT ds Q λ_=>False
section
variable (C XT:ah)
noncomputable abbrev Rk:cI:=kR (pK C XT) oB i9 iP kC oC (oA C) (iQ C)
noncomputable abbrev Rj:cI:=qR (pK C XT) oB i9 iP kC oC (oA C) (iQ C)
noncomputable abbrev Ri:cI:=kQ (pK C XT) oB i9 iP kC oC (oA C) (iQ C)
end
noncomputable def Nq(n:Nat)(ls:List (List Int))(e:List Int×Int):Prop:=e.1∈ls/\srt (e.1++[e.2])∈ls/\zN n e.1/\(0<=e.2/\e.2<n)/\e.1.length<=20
noncomputable abbrev Ll(es:List (List Int×Int)):List Dv:=es.map λe=>.tup [.tup (bE e.1),.int e.2]
theorem Nk{b:Int}(h0:0<=b)(h1:b<n):lC (EM rows so p q r (ids n)) b=aa (wD rows so p q r b):=by
 have a:=L2.gK (xs:=EM rows so p q r (ids n)) (j:=b.toNat) (v:=wD rows so p q r b) (by
  rw[cn,cn,List.getElem?_range ⋯];show aa (wD rows so p q r ((b.toNat:Nat):Int))=_;rw[show ((b.toNat:Nat):Int)=b by right])
 rw[show ((b.toNat:Nat):Int)=b by right] at a;exact a
variable {b a:Dv}{x0 x1 x2 x3 x4 x5 x6 x7 x8 x9 x10 x11 x12 x13 x14 x15 x16 x17 x18:Sl}
theorem L1{Q:List Sl->Prop}(h:Q [x0,x1,x2,x3,x4,x5,x6,x7,x8,x9,x10,x11,x12,x13,x14,.v a,.v b,x17,x18]):gT [15,16] (.tup [a,b]) [x0,x1,x2,x3,x4,x5,x6,x7,x8,x9,x10,x11,x12,x13,x14,x15,x16,x17,x18] Q:=by
 ac_nf;exact h
variable {XT:ah}{E:En}
theorem LF(B:Bt rows so p q r):∀(es:List (List Int×Int)) (s15 s16:Sl),(∀e∈es,Nq (aS rows).length ls e) ->
  (∀s15 s16,E.nx [x0,x1,x2,x3,.v (.tup [.int p,.int q,.int r]),x5,x6,x7,x8,.v (.dit (lZ rows so p q r ls)),.v (.lst (EM rows so p q r (ids (aS rows).length))),x11,x12,x13,x14,s15,s16,x17,x18]) ->
  bO (gT [15,16]) (Rk C XT) [] (Ll es) E [x0,x1,x2,x3,.v (.tup [.int p,.int q,.int r]),x5,x6,x7,x8,.v (.dit (lZ rows so p q r ls)),.v (.lst (EM rows so p q r (ids (aS rows).length))),x11,x12,x13,x14,s15,s16,x17,x18]:=by
 intro es;induction es with
 |nil=>
  intro s15 s16 _ h;rw[show Ll []=[] from rfl,dM];exact⟨λp hp=>by simp at hp,h _ _⟩
 |cons e es ih=>
  intro s15 s16 he h;rw[show Ll (e::es)=.tup [.tup (bE e.1),.int e.2]::Ll es from rfl,cP];refine⟨λp hp=>by simp at hp,L1 ?_⟩;have nx:=λs t=>ih s t (λx hx=>he x (di _ hx)) h;generalize bO (gT [15,16]) (Rk C XT) [] (Ll es) E=G at nx ⊢;obtain⟨e1,e2,e3,e4,e5⟩:=he e (de ..);push_cast [kR];rw[Nk e4.1 e4.2];ac_nf;refine⟨rows,so,p,q,r,ls,e.1,e.2,rfl,B,e1,e2,e3,e4.1,e4.2,e5,?_⟩;ac_nf;exact nx _ _
theorem GH{c:Dv}{Q:List Sl->Prop}(h:Q [x0,x1,x2,x3,x4,x5,x6,x7,x8,x9,x10,.v a,.v b,.v c,x14,x15,x16,x17,x18]):gT [11,12,13] (.tup [a,b,c]) [x0,x1,x2,x3,x4,x5,x6,x7,x8,x9,x10,x11,x12,x13,x14,x15,x16,x17,x18] Q:=by
 ac_nf;exact h
theorem GN{fl:List Ti}(F:Fw n fl)(c:C5 fl ls){t:Ti}(ht:t∈fl):∀e∈[(t.2.2,t.1),(t.2.2,t.2.1),(srt (t.2.2++[t.1]),t.2.1),(srt (t.2.2++[t.2.1]),t.1)],Nq n ls e:=by
 obtain⟨a0,a1,b0,b1,ib⟩:=F.ib t ht;have bl:=F.bl t ht;have m:∀x,x∈zJ t->x∈ls:=λx hx=>(c.mem x).mpr ⟨t,ht,hx⟩;have m1:=m t.2.2 (by unfold zJ;simp);have m2:=m (srt (t.2.2++[t.1])) (by unfold zJ;simp);have m3:=m (srt (t.2.2++[t.2.1])) (by unfold zJ;simp);have m4:=m (srt (srt (t.2.2++[t.1])++[t.2.1])) (by unfold zJ;simp);have m5:srt (srt (t.2.2++[t.2.1])++[t.1])∈ls:=by
  rw[Fl.zX,Fl.EY (m:=t.2.2++[t.1]++[t.2.1]) (by rw[fx,fx];exact List.Perm.append_left _ (List.Perm.swap ..)),<- Fl.zX];exact m4
 intro e he;simp only[dt,jr,or_false] at he;rcases he with rfl | rfl | rfl | rfl
 ·exact⟨m1,m2,ib,⟨a0,a1⟩,by show t.2.2.length<=20;right⟩
 ·exact⟨m1,m3,ib,⟨b0,b1⟩,by show t.2.2.length<=20;right⟩
 ·exact⟨m2,m4,ib.snoc a0 a1,⟨b0,b1⟩,by show (srt (t.2.2++[t.1])).length<=20;rw[iR];right⟩
 ·exact⟨m3,m5,ib.snoc b0 b1,⟨a0,a1⟩,by show (srt (t.2.2++[t.2.1])).length<=20;rw[iR];right⟩
theorem LC{t:Ti}{tl:cI}(bl:t.2.2.length<=20)(h:∀es,es=[(t.2.2,t.1),(t.2.2,t.2.1),(srt (t.2.2++[t.1]),t.2.1),(srt (t.2.2++[t.2.1]),t.1)]->tl E [x0,x1,x2,x3,x4,x5,x6,x7,x8,x9,x10,.v (.int t.1),.v (.int t.2.1),.v (.tup (bE t.2.2)),.v (.lst (Ll es)),x15,x16,x17,x18]):
  aO (bB 14 (kM (aA (dY (aA (a9 13) (aA (a9 11) aG))) (aA (dY (aA (a9 13) (aA (a9 12) aG))) (aA (dY (aA (aZ iP (aA (a9 13) (aA (a9 11) aG))) (aA (a9 12) aG))) (aA (dY (aA (aZ iP (aA (a9 13) (aA (a9 12) aG))) (aA (a9 11) aG))) aG)))))) tl E [x0,x1,x2,x3,x4,x5,x6,x7,x8,x9,x10,.v (.int t.1),.v (.int t.2.1),.v (.tup (bE t.2.2)),x14,x15,x16,x17,x18]:=by
 ac_nf;refine⟨t.2.2,t.1,rfl,⋯,?_⟩;ac_nf;refine⟨t.2.2,t.2.1,rfl,⋯,?_⟩;ac_nf;exact h _ rfl
theorem LD{fl:List Ti}(B:Bt rows so p q r)(F:Fw (aS rows).length fl)(c:C5 fl ls):∀(ts:List Ti) (s11 s12 s13 s14 s15 s16:Sl),(∀t∈ts,t∈fl) ->
  (∀s11 s12 s13 s14 s15 s16,E.nx [x0,x1,x2,x3,.v (.tup [.int p,.int q,.int r]),x5,x6,x7,x8,.v (.dit (lZ rows so p q r ls)),.v (.lst (EM rows so p q r (ids (aS rows).length))),s11,s12,s13,s14,s15,s16,x17,x18]) ->
  bO (gT [11,12,13]) (Rj C XT) [] (uP ts) E [x0,x1,x2,x3,.v (.tup [.int p,.int q,.int r]),x5,x6,x7,x8,.v (.dit (lZ rows so p q r ls)),.v (.lst (EM rows so p q r (ids (aS rows).length))),s11,s12,s13,s14,s15,s16,x17,x18]:=by
 intro ts;induction ts with
 |nil=>
  intro s11 s12 s13 s14 s15 s16 _ h;rw[show uP []=[] from rfl,dM];exact⟨λp hp=>by simp at hp,h _ _ _ _ _ _⟩
 |cons t ts ih=>
  intro s11 s12 s13 s14 s15 s16 hs h;rw[show uP (t::ts)=.tup [.int t.1,.int t.2.1,.tup (bE t.2.2)]::uP ts from rfl,cP];refine⟨λp hp=>by simp at hp,GH ?_⟩;have nx:=λa b c d e f=>ih a b c d e f (λx hx=>hs x (di _ hx)) h;generalize bO (gT [11,12,13]) (Rj C XT) [] (uP ts) E=G at nx ⊢;have ht:=hs t (de ..);have bl:=F.bl t ht;have es:=GN F c ht;refine LC ⋯ λl el=>?_;rw[<- el] at es;ac_nf;refine LF B l _ _ es λs15 s16=>?_;exact nx _ _ _ _ _ _
theorem Qg{d:Dv}{Q:List Sl->Prop}(h:Q [x0,x1,x2,x3,x4,x5,x6,x7,x8,x9,x10,x11,x12,x13,x14,x15,x16,x17,.v d]):gN 18 d [x0,x1,x2,x3,x4,x5,x6,x7,x8,x9,x10,x11,x12,x13,x14,x15,x16,x17,x18] Q:=by
 ac_nf;exact h
theorem Q6{fl:List Ti}:∀(l:List Dv) (s:Sl),(∀d∈l,TurnB d ap) ->
  (∀s,E.nx [x0,x1,x2,x3,x4,.v (fT C rows),.v (.lst (uP fl)),.v (.lst (bE so)),x8,x9,x10,x11,x12,x13,x14,x15,x16,x17,s]) ->
  bO (gN 18) (Ri C XT) [] l E [x0,x1,x2,x3,x4,.v (fT C rows),.v (.lst (uP fl)),.v (.lst (bE so)),x8,x9,x10,x11,x12,x13,x14,x15,x16,x17,s]:=by
 intro l;induction l with
 |nil=>
  intro s _ h;rw[dM];exact⟨λp hp=>by simp at hp,h _⟩
 |cons d l ih=>
  intro s hd h;rw[cP];refine⟨λp hp=>by simp at hp,Qg ?_⟩;have nx:=λs=>ih s (λx hx=>hd x (di _ hx)) h;generalize bO (gN 18) (Ri C XT) [] l E=G at nx ⊢;push_cast [kQ];refine⟨rows,fl,so,d,rfl,hd d (de ..),?_⟩;ac_nf;exact nx _
end Lw
namespace Lw
open L2 Z
open Sf (Rw crs tF Pre Good aS b8 place many)
open Fl (kd ids Walk kW tls pc bK Pt srt dP)
variable {p q r:Int}
theorem Turn.tb(T:Turn p q r):TurnB (.tup [.int p,.int q,.int r]) aj:=by
 have bp:=T.bp;have bq:=T.bq;have br:=T.br;exact .num _ ⋯ ⋯ ⋯ (by rw[decide_eq_true T.r1,decide_eq_true T.sq,decide_eq_true T.cp];rfl)
theorem FR(l:List Ti):dQ 8 (.lst (uP l))=aj:=mZ 7 _ λd hd=>by
 obtain⟨t,_,rfl⟩:=jx.mp hd;show okDs 6 [.int t.1,.int t.2.1,.tup (bE t.2.2)]=aj;refine mZ 6 _ λd hd=>?_;simp only[dt,jr,or_false] at hd;rcases hd with rfl | rfl | rfl
 ·rfl
 ·rfl
 ·exact qB 5 _
theorem J8(ls:List (List Int)):dQ 8 (.lst (ls.map (EI rows so p q r)))=aj:=mZ 7 _ λd hd=>by
 obtain⟨l,_,rfl⟩:=jx.mp hd;refine mZ 6 [.tup (bE l),.int (p0 rows so p q r l),.int (p1 rows so p q r l),.int (p2 rows so p q r l)] λd hd=>?_;simp only[dt,jr,or_false] at hd;rcases hd with rfl | rfl | rfl | rfl
 ·exact qB 5 _
 ·rfl
 ·rfl
 ·rfl
theorem LB(l:List Ti):eqD (.lst (uP l)) (.lst (uP l))=aj:=(qJ _ L7 l l).mpr rfl
theorem L8(l:List Int):eqD (.lst (bE l)) (.lst (bE l))=aj:=(qJ _ nQ l l).mpr rfl
theorem L9(ls:List (List Int)):eqD (.lst (ls.map (EI rows so p q r))) (.lst (ls.map (EI rows so p q r)))=aj:=by
 have:=(qJ (λt:List Int×Int×Int×Int=>Dv.tup [.tup (bE t.1),.int t.2.1,.int t.2.2.1,.int t.2.2.2]) LA (ls.map λl=>(l,p0 rows so p q r l,p1 rows so p q r l,p2 rows so p q r l)) _).mpr rfl;rw[ny] at this;exact this
theorem Aj{rows:List Rw}{so:List Int}{p q r:Int}:∀ls:List (List Int),uO (.dit (lZ rows so p q r ls))=aj
 | []=>rfl
 |l::ls=>by
  show (i7 (Jl rows so p q r l)&&uO (.dit (lZ rows so p q r ls)))=aj;rw[Aj ls];rfl
theorem IY{rows:List Rw}{so:List Int}{p q r:Int}:∀l:List Int,uO (.lst (EM rows so p q r l))=aj
 | []=>rfl
 |b::l=>by
  show (i7 (wD rows so p q r b)&&uO (.lst (EM rows so p q r l)))=aj;rw[IY l];rfl
noncomputable def lP(C:ah):Fn:=λds Q=>∃(rows:List Rw) (fl:List Ti) (so:List Int) (p q r:Int),ds=[.lst (bE (aS rows)),.lst (sE rows),.lst (uP fl),.lst (bE so),.tup [.int p,.int q,.int r]]/\Bt rows so p q r/\Fw (aS rows).length fl/\(aS rows).length<=12/\Q (.v (.bl aj))
theorem De:∀ds Q,lP C ds Q->ds.length=5:=by rintro ds Q ⟨_,_,_,_,_,_,rfl,_⟩;rfl
theorem FZ:MonoF (lP C):=⟨λds Q Q' w z=>by obtain⟨a,b,c,d,e,f,g,h,i,j,k⟩:=z;exact⟨a,b,c,d,e,f,g,h,i,j,w _ k⟩⟩
theorem BY{XT:ah}:∀ds Q,lP C ds Q->o8 (pK C XT) oB i9 iP kC oC (oA C) (iQ C) ↥Q (aI ["_law_bands_here", "_law_directions_here", "_law_tiles", "_law_some", "_law_turn_here", "_law_sides", "_law_first", "_law_second", "_law_found", "_law_points_here", "_law_vectors", "_law_a", "_law_b", "_law_below", "_law_edges", "_law_start", "_law_band", "_law_again", "_law_thing"] ds):=by
 rintro ds Q ⟨rows,fl,so,p,q,r,rfl,B,F,hn,h⟩;have sl:=B.sl;have fl1:=F.len;push_cast [bv];refine⟨rows,rfl,B.g,?_⟩;push_cast [bv];refine⟨rows,fl,so,_,aj,rfl,B.t.tb,λz=>(by cases z),λ_=>⟨p,q,r,rfl,B,F,λls c=>?_⟩⟩;have few:=c.few F;have em:([]:List Int)∈ls:=by
  obtain⟨t,ht,e⟩:=F.em;exact(c.mem _).mpr ⟨t,ht,by unfold zJ;rw[e];simp⟩
 ac_nf;intro a;refine⟨rows,so,p,q,r,fl,ls,rfl,B,F,c,?_⟩;ac_nf;refine⟨.inr (Aj ls),hG (λz=>by cases z) λ_=>⟨⟨FR fl,FR fl⟩,?_⟩⟩;refine hG (λz=>absurd z (N8 (LB fl))) λ_=>⟨⟨qB 7 so,qB 7 so⟩,hG (λz=>absurd z (N8 (L8 so))) λ_=>G3 em ?_⟩;rw[B.empty];ac_nf;refine⟨⟨rfl,rfl⟩,hG (λz=>absurd z (N8 ((qI Dv.int nQ [0,0,1] [0,0,1]).mpr rfl))) λ_=>⟨⟨⋯,⋯⟩,?_⟩⟩;rw[ee];refine JK B hn (aS rows).length 0 ⋯ ?_;ac_nf;refine LD B F c fl _ _ _ _ _ _ (λt ht=>ht) λs11 s12 s13 s14 s15 s16=>?_;ac_nf;refine⟨rows,fl,so,_,aj,rfl,B.t.tb,λz=>(by cases z),λ_=>⟨p,q,r,rfl,B,F,λls' c'=>?_⟩⟩;obtain rfl:=c'.uniq c;ac_nf;refine⟨⟨J8 _,J8 _⟩,hG (λz=>absurd z (N8 (L9 _))) λ_=>⟨p,q,r,rfl,B.t,λl _ hl=>?_⟩⟩;ac_nf;refine Q6 l _ hl λs=>?_;ac_nf;exact h
end Lw
namespace Lw
open L2 Z
open Sf (Rw crs tF Pre Good aS b8 place many)
open Fl (kd ids Walk kW tls pc bK Pt srt dP)
noncomputable abbrev B0(C:ah):cI:=zB pJ mU lU lO tR lR lN (lP C)
theorem JU{c:Int}(hn:n<=12):∀(m k:Nat) (acc:List Int),k+m=n->acc.length<=k->(∀so:List Int,so.length<=12->Q (.nw (.lst (bE so)))) ->
  d9 [.un,.v (.int c)] (gN 0) (bS (aK sG (aK eY (aK fD (a9 1) (aK Bc (eC (.int 1)) (a9 0))) (eC (.int 2))) (eC (.int 1)))) (a9 0) (bW k m) (bE acc) Q:=by
 intro m;induction m with
 |zero=>
  intro k acc hk hl h;rw[gO,p9];exact h acc ⋯
 |succ m ih=>
  intro k acc hk hl h;rw[eX,sN];rw[show ((k:Int)+1)=((k+1:Nat):Int) by right];have nx:=λacc l=>ih (k+1) acc ⋯ l h;generalize d9 [.un,.v (.int c)] (gN 0) (bS (aK sG (aK eY (aK fD (a9 1) (aK Bc (eC (.int 1)) (a9 0))) (eC (.int 2))) (eC (.int 1)))) (a9 0) (bW ((k+1:Nat):Int) m)=G at nx ⊢;push_cast [bv];have pw:(2:Int) ^ ((k:Int)).toNat=((2 ^ k:Nat):Int):=by rw[ee];simp
  have p1:0<2 ^ k:=Nat.pow_pos ∅;have p2:2 ^ k<=2 ^ 12:=Nat.pow_le_pow_right ∅ ⋯;rw[pw];refine⟨⟨⋯,⋯,by decide⟩,⟨⋯,⋯⟩,hG (λ_=>⟨⋯,?_⟩) λ_=>?_⟩
  ·rw[A5];exact nx _ (by simp;right)
  ·exact nx _ ⋯
variable {x2 x3 x4 x5 x6:Sl}
theorem S8{d:Dv}{x0 x1:Sl}{Q:List Sl->Prop}(h:Q [x0,.v d,x2,x3,x4,x5,x6]):gN 1 d [x0,x1,x2,x3,x4,x5,x6] Q:=by
 ac_nf;exact h
variable {E:En}
theorem Q9{k:Nat}(h:∀s2 s3 s4 s5 s6,E.nx [.v (.scr ns),.v (.int k),s2,s3,s4,s5,s6]):B0 C E [.v (.scr ns),.v (.int k),x2,x3,x4,x5,x6]:=by
 unfold B0 zB;ac_nf;refine⟨ns,k,rfl,⋯,λc=>?_⟩;ac_nf;refine⟨ns,k,rfl,λm h6 h12=>?_⟩;ac_nf;refine⟨c,m,rfl,h6,h12,λcs hc=>?_⟩;obtain⟨n2,n12⟩:=tD hc;have pcs:=LM hc;ac_nf;refine⟨ns,(k:Int)+1,rfl,⋯,λc=>?_⟩;ac_nf;refine⟨cs,c,rfl,hc,λrows G ek=>?_⟩;ac_nf;refine⟨ns,(k:Int)+2,rfl,⋯,λc=>?_⟩;ac_nf;refine⟨aH 0 cs,c,rfl,n2,n12,pcs,λrow e w d rl=>?_⟩;ac_nf;refine⟨aH 0 cs,row,e,rfl,n12,w,rl,λfl ff _=>?_⟩;have F:=Fw.of hc w d rl ff;ac_nf;refine⟨ns,(k:Int)+3,rfl,⋯,λc=>?_⟩;push_cast [bv];refine⟨⟨⋯,⋯⟩,?_⟩;rw[ee];refine JU n12 _ 0 [] ⋯ (by simp) λso sl=>?_;ac_nf;refine⟨ns,(k:Int)+4,rfl,⋯,λc=>?_⟩;ac_nf;refine⟨c,rfl,λp q r T=>?_⟩;ac_nf;refine⟨rows,fl,so,p,q,r,by rw[ek],⟨G,T,⋯⟩,by rw[ek];exact F,by rw[ek];exact n12,?_⟩;ac_nf;exact h _ _ _ _ _
theorem NH:∀(ks:List Nat) (s1 s2 s3 s4 s5 s6:Sl),(∀s1 s2 s3 s4 s5 s6,E.nx [.v (.scr ns),s1,s2,s3,s4,s5,s6]) ->
  bO (gN 1) (B0 C) [] (ks.map λ(m:Nat)=>Dv.int (m:Int)) E [.v (.scr ns),s1,s2,s3,s4,s5,s6]:=by
 intro ks;induction ks with
 |nil=>
  intro s1 s2 s3 s4 s5 s6 h;rw[Tu,dM];exact⟨λp hp=>by simp at hp,h _ _ _ _ _ _⟩
 |cons k ks ih=>
  intro s1 s2 s3 s4 s5 s6 h;rw[dh,cP];refine⟨λp hp=>by simp at hp,?_⟩;have next:=λs1 s2 s3 s4 s5 s6=>ih s1 s2 s3 s4 s5 s6 h;generalize bO (gN 1) (B0 C) [] (ks.map λ(m:Nat)=>Dv.int (m:Int)) E=G at next ⊢;exact S8 (Q9 λs2 s3 s4 s5 s6=>next _ _ _ _ _ _)
noncomputable def spLaw:Fn:=λds Q=>∃ns:List Int,ds=[.scr ns]/\ns.length<=63/\Q (.v (.bl aj))
theorem IH:∀ds Q,spLaw ds Q->ds.length=1:=by rintro ds Q ⟨d,rfl,_⟩;rfl
theorem Mj:∀ds Q,spLaw ds Q->EW pJ mU lU lO tR lR lN (lP C) ↥Q (aI ["_law_script", "_law_k", "_law_bands_here", "_law_directions_here", "_law_tiles", "_law_cell", "_law_some"] ds):=by
 rintro ds Q ⟨ns,rfl,hl,h⟩;ac_nf;obtain⟨m,hm,m22⟩:∃m:Nat,(if (ns.length:Int)<11 then (ns.length:Int) else 11)+1=m/\m<23:=⟨((if (ns.length:Int)<11 then (ns.length:Int) else 11)+1).toNat,by split<;>right,by split<;>right⟩;rw[hm];have sm:∀m:Nat,m<23->vg 0 (m:Int) 5=aj/\0<=dj 0 (m:Int) 5/\(dj 0 (m:Int) 5).toNat<=23:=by decide +kernel
 obtain⟨q1,q2,q3⟩:=sm m m22;refine⟨⟨by decide,by decide,q1,q2⟩,?_⟩;have e:oF 0 5 (dj 0 (m:Int) 5).toNat=((gc (dj 0 (m:Int) 5).toNat).map λ(k:Nat)=>5*k).map λ(m:Nat)=>Dv.int (m:Int):=by
  unfold oF;rw[ny];apply sy;intro k _;show Dv.int (0+(k:Int)*5)=Dv.int ((5*k:Nat):Int);rw[show 0+(k:Int)*5=((5*k:Nat):Int) by right]
 rw[e];refine NH _ _ _ _ _ _ _ λs1 s2 s3 s4 s5 s6=>?_;ac_nf;exact h
end Lw
namespace Hd
open PySem PySem.W
noncomputable def Lb:List je->Nat->BT->Option (BT×Nat)
 | [],n,t=>aa (t,n)
 |o::r,n,t=>match ((t.ins n o).get n).isSome with
  |true=>Lb r (n+1) (t.ins n o)
  |false=>aq
theorem AS{life:Life}:∀(l:List je) (n:Nat) (t:BT) {t':BT} {n':Nat},Lb l n t=aa (t',n')->absHeap t' n' life=⟨((absHeap t n life).objs.toList++l).toArray,life⟩
 | [],n,t,t',n',h=>by
  cases h;rw[ka];rfl
 |o::r,n,t,t',n',h=>by
  rw[Lb] at h;cases g:((t.ins n o).get n).isSome with
  |false=>rw[g] at h;cases h
  |true=>
   rw[g] at h;rw[AS r (n+1) (t.ins n o) h,absHeap_ins g];show Heap.mk _ _=Heap.mk _ _;congr 1;show (((absHeap t n life).objs.push o).toList++r).toArray=_;simp
theorem FS{t:BT}(e:Lb h.objs.toList 0 .nil=aa (t,n)):absHeap t n h.life=h:=by
 rw[AS (life:=h.life) _ _ _ e];rfl
noncomputable def sT(st:SharedT->wu->Option (SharedT×wu))(th:wu->Bool)(ok:wu->Bool):Nat->SharedT->wu->Option SharedT
 |0,_,_=>aq
 |n+1,s,t=>match th t with
  |true=>aa s
  |false=>match ok t with
   |false=>aq
   |true=>match Wh s.toks 1000000 with
    |false=>aq
    |true=>match st s t with
     |some (s',t')=>sT st th ok n s' t'
     |none=>aq
theorem pD{tb:String->Option qa}{p:au}{w:bt}{n₀:Nat}{ann:Option af}:∀(n:Nat) (s:SharedT) (t:wu) {s':SharedT},sT (stepT (We tb) p w) through (stepOk n₀ ann) n s t=aa s'->topRun tb p w n₀ ann n s.abs t=aa s'.abs
 |0,_,_,_,h=>by cases h
 |n+1,s,t,s',h=>by
  unfold sT at h;unfold topRun;cases ht:through t with
  |true=>rw[ht] at h;cases h;rfl
  |false=>
   rw[ht] at h;cases hk:stepOk n₀ ann t with
   |false=>rw[hk] at h;cases h
   |true=>
    rw[hk] at h;dsimp only at h ⊢;cases hb:Wh s.toks 1000000 with
    |false=>rw[hb] at h;cases h
    |true=>
     rw[hb] at h;dsimp only at h;cases hs:stepT (We tb) p w s t with
     |none=>rw[hs] at h;cases h
     |some x=>
      obtain⟨s1,t1⟩:=x;rw[hs] at h;rw[stepT_spec hs];exact pD n s1 t1 h
noncomputable def BK(st:SharedT->wu->Option (SharedT×wu))(th:wu->Bool)(ok:wu->Bool)(M:Nat)(h:cm)(gs:Array xr)(d:Vj)(k:Nat)(os:UD)(t:wu):Option SharedT:=
 match Lb h.objs.toList 0 .nil with
 |some (b,n)=>sT st th ok M ⟨b,n,h.life,gs,d,k,os⟩ t
 |none=>aq
variable {p:au}{ann:Option af}{M:Nat}
theorem A9{tb:String->Option qa}{n₀:Nat}{gs:Array xr}{d:Vj}{k:Nat}{os:UD}{t:wu}{s':SharedT}
  (e:BK (stepT (We tb) p w) through (stepOk n₀ ann) M h gs d k os t=aa s'):topRun tb p w n₀ ann M ⟨h,gs,d,k,os⟩ t=aa s'.abs:=by
 unfold BK at e;cases q:Lb h.objs.toList 0 .nil with
 |none=>rw[q] at e;cases e
 |some x=>
  obtain⟨b,n⟩:=x;rw[q] at e;have:=pD M _ _ e;unfold SharedT.abs at this;dsimp only at this;rw[FS q] at this;exact this
theorem IM{q:au}{loose:List bn}{Xt:ai->Bool}{Yf:ai->α}{Ya:bt->α}{N:Nat}{g0:Bool}{HZ:Vv->cm}{gs₀:Array xr}{d₀:Vj}{k₀:Nat}{m₀:Nat}
  (open_:∀w:bt,(fencedOpening Ue p w N).map (λs=>(s.heap,s.gens,s.drawn,s.toks))=aa (HZ w.params,gs₀,d₀,k₀))
  (size:∀w:bt,((HZ w.params).isNs iw&&gs₀.size==0,(HZ w.params).objs.size,(HZ w.params).nsMap iw "__annotations__")=(aj,m₀,ann)) (le:Wh M N=aj)
  (run:∀(w:bt) (os:UD),(BK (stepT (We Ue) p w) through (stepOk m₀ ann) M (HZ w.params) gs₀ d₀ k₀ os (topStub p)).map (λs=>
    ((staticsOk (zc p.main.body) (HZ w.params) s.abs.heap&&namesBound p s.abs.heap&&gensDone s.abs&&laidKept (HZ w.params) s.abs.heap),openSeen q loose (zc p.main.body) Xt g0 s.abs,Yf s.abs))=aa (aj,openGood q loose,Ya w)):
  LeftO p q loose Xt Yf Ya N g0:=λw=>by
 obtain⟨⟨h,gs,d,k,os⟩,e,e'⟩:=yv.mp (open_ w);obtain⟨rfl,rfl,rfl,rfl⟩:h=HZ w.params/\gs=gs₀/\d=d₀/\k=k₀:=by simpa using e'
 obtain⟨z1,z2,z3⟩:_/\_/\_:=by simpa only[Sy] using size w
 obtain⟨s',r,l⟩:=yv.mp (run w os);obtain⟨l1,l2,l3⟩:_/\_/\_:=by simpa only[Sy] using l
 have r:=topRun_mono (N-M) _ _ _ _ (A9 r);rw[show M+(N-M)=N by have:=Nat.le_of_ble_eq_true le;right] at r;have t:topFrom Ue p w N ⟨HZ w.params,gs,d,k,os⟩=aa s'.abs:=by
  unfold topFrom;dsimp only;rw[z1,z2,z3,r];show (match staticsOk (zc p.main.body) (HZ w.params) s'.abs.heap&&namesBound p s'.abs.heap&&gensDone s'.abs&&laidKept (HZ w.params) s'.abs.heap with | true=>_ | false=>_)=_;rw[l1]
 unfold openEnds;rw[e];show (topFrom Ue p w N _).map _=_;rw[t];exact congrArg aa (Prod.ext l2 l3)
end Hd
namespace Lw
open L2 Z
theorem law_start(hl:ns.length<=63)(hO:Gk H)(hS:fJ K H a (ns.map V.int)):low K spLaw [.ref a] H (λv _=>v=.bl aj) (λ_ _ _=>False):=
 D0 (λQ q=>⟨ns,rfl,hl,q⟩) hO (λP q z=>nomatch z.1) hS
theorem SO(h:us.length=1):∃a0,us=[a0]:=by
 cases us with
 |nil=>cases h
 |cons a r=>obtain⟨rfl⟩:=xw.mp (Nat.succ.inj h);exact⟨a,rfl⟩
theorem LU{fa:ah}(X:K.In h)(G:h.Ns iw mg)(hfa:mg "law" = aa (.ref fa))
  {od0 an0:Option ah} {sl0:Array (Option af)} {oc0 kV0 dc0 pm0 cd0 ct0:af} {f0:ah}
  {dW:ah}
  {bC:ah}
  {g6:ah}
  (aC:mg "Sides" = aa (.ref C))
  (m1:MF K C "__init__" "Sides.__init__" (kK (top 30) 0))
  (m2:MF K C "vector" "Sides.vector" (kK (top 30) 3))
  (cl:Cls K C) (mk:U0 K C=aj) (kc:nz K (.ref C)=aj)
  (n4:ix K (.ref C) "kinds" = aa aq)
  (iJ:ix K (.ref C) "vectors" = aa aq)
  (m3:DF K mg "corner" "corner" (top 7))
  (m4:DF K mg "with_band" "with_band" (top 8))
  (m5:DF K mg "is_whole" "is_whole" (top 10))
  (m6:DF K mg "greatest_divisor" "greatest_divisor" (top 12))
  (m7:DF K mg "divisor_of_three" "divisor_of_three" (top 13))
  (m8:DF K mg "is_turn" "is_turn" (top 14))
  (m9:DF K mg "turned" "turned" (top 15))
  (m10:DF K mg "corners" "corners" (top 16))
  (m11:DF K mg "bent_corner" "bent_corner" (top 17))
  (m12:DF K mg "bent" "bent" (top 18))
  (m13:DF K mg "has_three_wholes" "has_three_wholes" (top 24))
  (m14:DF K mg "has_few_figures" "has_few_figures" (top 25))
  (m15:DF K mg "points_up" "points_up" (top 26))
  (m16:DF K mg "lies_left" "lies_left" (top 27))
  (m17:DF K mg "check_direction" "check_direction" (top 28))
  (m18:DF K mg "check_directions" "check_directions" (top 29))
  (m19:DF K mg "_law_cell_at" "_law_cell_at" (top 32))
  (m20:DF K mg "_law_whole" "_law_whole" (top 33))
  (m21:DF K mg "_law_wholes" "_law_wholes" (top 34))
  (m22:DF K mg "_law_most" "_law_most" (top 35))
  (m23:DF K mg "_law_bands" "_law_bands" (top 36))
  (m24:DF K mg "_law_pick" "_law_pick" (top 37))
  (m25:DF K mg "_law_exchanged" "_law_exchanged" (top 38))
  (m26:DF K mg "_law_row" "_law_row" (top 39))
  (m27:DF K mg "_law_floor" "_law_floor" (top 40))
  (m28:DF K mg "_law_next" "_law_next" (top 41))
  (m29:DF K mg "_law_directions" "_law_directions" (top 42))
  (m30:DF K mg "_law_common" "_law_common" (top 43))
  (m31:DF K mg "_law_turn" "_law_turn" (top 44))
  (m32:DF K mg "_law_with" "_law_with" (top 45))
  (m33:DF K mg "_law_corners" "_law_corners" (top 46))
  (m34:DF K mg "_law_points" "_law_points" (top 47))
  (m35:DF K mg "_law_goes" "_law_goes" (top 48))
  (m36:DF K mg "_law_vector" "_law_vector" (top 49))
  (m37:DF K mg "_law_refused" "_law_refused" (top 50))
  (m38:DF K mg "_law_no_turns" "_law_no_turns" (top 51))
  (m39:DF K mg "_law_bent" "_law_bent" (top 52))
  (a0:mg "law" = aa (.ref f0))
  (l0:K.lookup f0=aa ⟨oc0,od0,.func (xm "law" "law" (iG (top 53)) (e7 (top 53)) (aF (top 53)) .none kV0 dc0 pm0 an0 cd0 ct0),sl0⟩) (c0:zl K cd0 "law" = aj) (k0:nz K (.ref f0)=aj)
  (fG:∃t,mg "FEWEST_DIRECTIONS" = aa (.int 2 t))
  (g7:∃t,mg "MOST_DIRECTIONS" = aa (.int 6 t))
  (k4:∃t,mg "MOST_BANDS" = aa (.int 12 t))
  (g8:∃t,mg "LARGEST_PART" = aa (.int 999999999999 t))
  (jZ:mg "ValueError" = aq)
  (jA:mg "abs" = aq)
  (vX:mg "all" = aq)
  (qU:mg "bool" = aq)
  (lD:mg "enumerate" = aq)
  (vW:mg "int" = aq)
  (aN:mg "isinstance" = aq)
  (cG:mg "len" = aq)
  (e9:mg "list" = aq)
  (vV:mg "min" = aq)
  (cV:mg "range" = aq)
  (d7:mg "sorted" = aq)
  (tH:mg "sum" = aq)
  (c7:mg "tuple" = aq)
  (EN:mg "zip" = aq)
  (kL:mg "SlantError" = aa (.ref dW))
  (jU:mg "NoTurn" = aa (.ref bC))
  (rP:mg "NoFloor" = aa (.ref g6))
  (rq_NoTurn:Wg K bC [.type "ValueError",.type "Exception",.type "BaseException",.type "object"] "ValueError.__new__" = aj)
  (x_NoTurn_SlantError:TL K (.ref bC) (.ref dW)=aa aj)
  (ic1:Ua K bC=aj)
  (ic2:ix K (.ref bC) "__getattribute__" = aa (aa (.builtin "BaseException.__getattribute__")))
  (ic7:ix K (.ref bC) "__getattr__" = aa aq)
  (ic8:Th K bC (.type "BaseException")=aa aj)
  (ic3:ix K (.ref bC) "__class__" = aa (aa (.builtin "object.__class__")))
  (ic4:zk K (.builtin "object.__class__") "__get__" = aa (aa (.builtin "getset_descriptor.__get__")))
  (ic5:U2 K (.builtin "object.__class__")=aa aj)
  (ic6:Th K bC (.type "object")=aa aj)
  (kq_NoTurn:oa K (.ref bC) (.ref bC)=aa aj)
  (kq_NoFloor:oa K (.ref bC) (.ref g6)=aa ap)
  (kq_V:oa K (.ref bC) (.type "ValueError")=aa aj):
  ∃fd:jh,(∀(s:ai) (v:af),To s fd ⟨[v],[]⟩ [("_law_script",v)]) /\ ∀base:cm,K.In base->base.Ns iw mg->FnOk P w K mg base C6 8 fa fd ["_law_script"] ((low K spLaw)):=by
 have e:=hfa.symm.trans a0;cases e;have F0:=yK (st:=(top 53)) l0 c0 k0;have u0:C4 K bC:=rq_NoTurn;have ci:ExcI K bC:=⟨ic1,ic2,ic7,ic8,ic3,ic4,ic5,ic6⟩;refine⟨xm "law" "law" (iG (top 53)) (e7 (top 53)) (aF (top 53)) .none kV0 dc0 pm0 an0 cd0 ct0,λs v=>.of_eq rfl,λbase _ _=>?_⟩;have mI:IAt K mg "Sides" C "Sides.__init__" (kK (top 30) 0) ["self", "directions"]:=m1.ini aC mk kc;have fZ:=yM P w mg base m4.at d7 c7 Fj AF;have gS:=Au P w mg base m5.at aN vW qU II BZ;have eK:=nJ P w mg base m6.at jA Fs oI;have cR:=nK P w mg base m7.at eK Fb Kk oJ;have rV:=Bv P w mg base m8.at aN c7 cG vX gS Fa cR J9 IJ DJ;have uW:=Dz P w mg base m9.at  I0 FH;have rW:=Bw P w mg base m10.at d7 fZ CO CV wG;have fW:=nI P w mg base m13.at aN c7 cG vX gS Fa DZ oH;have gF:=oU P w mg base m14.at jA g8 CU q8;have mH:=yN P w mg base m15.at  CU AG;have mJ:=yO P w mg base m16.at  Fp AH;have gG:=oV P w mg base m17.at fW FU gF Fd mH Fd Fu q9;have fX:=nL P w mg base m18.at aN e9 cG tH EN fG g7 k4 gG Hw mJ Hu IL oK;have yT:=Ie P w mg base mI lD c7 cl n4 iJ fX Kf Da KA;have qP:=Dy P w mg base m2.at cl iJ n4 Hz FG;have qQ:=E2 P w mg base m3.at tH cl qP KS IK FI;have jN:=uV P w mg base m11.at qQ Ke uW KU cR J9 Km vE;have t9:=GU P w mg base m12.at jU u0 rV Kd rW Fe jN NB Dg Hf;have yS:=t9.calm;have cJ:=uU P w mg base m19.at cG Fv vD;have mK:=yP P w mg base m20.at aN vW qU IF AI;have iH:=vJ P w mg base m21.at aN c7 mK Kb IE xV;have oZ:=Aq P w mg base m22.at cJ CQ Fm BW;have mM:=yR P w mg base m23.at cV cG vV Dh AK;have oX:=Ao P w mg base m24.at  Fk BU;have dO:=rS P w mg base m25.at  Ft sO;have rT:=Bu P w mg base m26.at cG e9 cV oX Hr dO CP IA DI;have mL:=yQ P w mg base m27.at cG e9 cV d7 c7 dO CP Df AJ;have oY:=Ap P w mg base m28.at  Dc BV;have gR:=qN P w mg base m29.at jA cV cG oY FX Dd rG;have dU:=vM P w mg base m30.at jA Fs xY;have oW:=An P w mg base m31.at dU Fb Db BS;have cQ:=Am P w mg base m32.at e9 d7 c7 Fj BR;have jM:=uT P w mg base m33.at d7 cQ CO CV vC;have kO:=vL P w mg base m34.at aN e9 c7 cG iH Ka dU Fb jM Fe ID xX;have p6:=Ar P w mg base m35.at cQ CO Fq BX;have kN:=vK P w mg base m36.at  Fo xW;have jL:=uS P w mg base m37.at aN jZ kL x_NoTurn_SlantError jU rP t9 qE IC (vB ci kq_NoTurn kq_V kq_NoFloor);have iY:=sR P w mg base m38.at  IG uB;have p7:=As P w mg base m39.at e9 cG cV yS qE.calm kO KZ kN Ht cQ CO p6 Hv iY Kc jL KY yT FV De BY;exact LG P w mg base F0 cG vV cV oZ Hs cJ CQ mM Ff gR FY rT KW mL Fc oW FW p7 FZ IH Mj
theorem walk{l:W.OpenLaw}{q:au}{loose:List bn}{XP:(bn->Option af)->cm->Prop}{YP:bt->cm->Prop}{d:DefRec}{K:Vv->ak}(hn:l.most=aa 63)(hdf:d.params.defaults=[])
  (hY:∀(w:bt) (h:cm),YP w h->(K w.params).In h)
  (F:∀(w:bt) (mg:bn->Option af) (fa:ah) (h:cm),(K w.params).In h->h.Ns iw mg->mg d.name=aa (.ref fa) ->
   ∃fd:jh,(∀(s:ai) (u:af),To s fd ⟨[u],[]⟩ [("_law_script",u)]) /\ ∀base:cm,(K w.params).In base->base.Ns iw mg->FnOk l.prog w (K w.params) mg base C6 8 fa fd ["_law_script"] ((low (K w.params) spLaw))):
  W.WalkO q loose XP YP l.row.toRowW d [] (λf vs=>PySem.call f vs):=
 L2.Gy (n:=63) (k:=8) (x:="_law_script") (CX:=λ_=>C6) (sp:=λw=>(low (K w.params) spLaw)) hn ∅ hdf ⟨rfl,by decide,by decide⟩ hY F (λ_ H a ns hl hO hS=>law_start hl hO hS) λ_ _ _ _ _ z=>z
end Lw
noncomputable def Hd.QV:PySem.Program:=PySem.W.view km [0,2,3,4,5,7,8,10,12,13,14,15,16,17,18,20,21,22,23,24,25,26,27,28,29,30,32,33,34,35,36,37,38,39,40,41,42,43,44,45,46,47,48,49,50,51,52,53]
open PySem PySem.W PyProof.Rows
local macro_rules | `(tactic| o_head $H)=>`(tactic| refine holds_open (q:=Hd.QV) (loose:=[]) (Xt:=λs=>xlAt Hd.QV [] s&&recOk (RowW.records (OpenRow.toRowW (OpenLaw.row PySem.Challenge.rw_slantfloor_k82_whole_bent_floors))) s) (XP:=XL Hd.QV []) (Yf:=Hook.obs $H) (Ya:=Hook.val $H) (YP:=Hook.says $H) (N:=5108) ?hl (Hook.of $H) (Hook.keeps $H) (λs e=>xl_of s (Bool.and_eq_true_iff.mp e).1) XL.keeps (by rfl) (by rfl) (by rfl) (λs e=>recFacts_of (Bool.and_eq_true_iff.mp e).2) (by rfl) (by first | assumption | decide +kernel) (by decide +kernel) ⟨rfl,rfl,rfl,rfl,rfl,by decide +kernel⟩ ?hw ?hc)
set_option maxRecDepth 100000 in
noncomputable def PySem.W.Fast.tw12017123406305004380:=PySem.Challenge.rw_slantfloor_k82_whole_bent_floors
theorem PySem.W.Fast.te12017123406305004380:PySem.Challenge.rw_slantfloor_k82_whole_bent_floors=PySem.W.Fast.tw12017123406305004380:=rfl
set_option maxHeartbeats 0 in
theorem PySem.Challenge.cw_slantfloor_k82_whole_bent_floors_holds : PySem.Challenge.rw_slantfloor_k82_whole_bent_floors.Holds := by
 w_on;o_law;k_head
 (case hl=>exact Hd.IM (HZ:=boot_heap) (gs₀:=Array.mk []) (d₀:=boot_drawn) (k₀:=boot_toks) (m₀:=11) (ann:=aa (.ref 6)) (M:=5108) (boot_open (by kernel_rfl) rfl (λs=>by kernel_rfl)) (λw=>by kernel_rfl) rfl (λw os=>by rw[Sz,SS,SU,Tb,Tc];kernel_rfl))
 (case hw=>w_witness2)
 k_fill
 refine Lw.walk (l:=kn) rfl rfl (λw h Y=>by first | exact PySem.W.kIn_of Y | exact PySem.W.km_in_of Y) ?F
 case F=>
  intro w mg fa h KX G hmg;apply Lw.LU KX G hmg
  any_goals first | refine' Z.DF.mk (mg_of KX G ?_) ?_ ?_ ?_ | refine' Z.MF.mk ?_ ?_ ?_ ?_ ?_ | refine' mg_none_of KX G ?_ | refine' mg_of KX G ?_ | refine' Z.S9 (mg_of KX G ?_) | refine' Z.exS (mg_of KX G ?_) | refine' L2.Cls.mk ?_ ?_ ?_ ?_
  any_goals k_is
  (case rq_NoTurn=>k_exc)
  (case x_NoTurn_SlantError=>kts_exm)
  (case kq_NoTurn=>kit_is)
  (case kq_NoFloor=>kit_is)
  (case kq_V=>kit_is)

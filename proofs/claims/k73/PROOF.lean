import PyProof.Rows.All
import Lean
import Wide.FinOn
import OpenK.KOwn
import KE.KNest
import KE.RegKIsAll
import KE.RegKTryMore
import PyProof.EqAt
import PyProof.EqKinds
import PyProof.TupleCall
import PyProof.NeKinds
import PyProof.NeData
import PyProof.EqLayable
import PyProof.ZipIter
import PyProof.EnumMake
import KE.LcSums
import PyProof.CompFree
import PyProof.ListRange
import PyProof.Rows.Range3
import PyProof.TupleOfSeq
import KE.KSortTup
import PyProof.Rows.TupAdd
import PyProof.DictWalks
import PyProof.StrWalks
import PyProof.SliceStr2
import PyProof.StrBlock2
import PyProof.StrLaws
import PyProof.StrCalls
import PyProof.CallStr
import KE.KIntText
import KE.KDictSum
import PyProof.Rows.SetFrom
import PyProof.SetRoads
import PyProof.Rows.StrInSeq3
import PyProof.Rows.CountFlat
import Open.Boot
import Open.Tree
import PySem.Challenge.RW_slantfloor_k73_stiff_or_free
open Option renaming some->aa,none->aq,isSome_iff_exists->tf,map_eq_some_iff->ve,isSome_some->xt
open PySem renaming Value->ac,wpAny_bind->ae,Addr->af,Shared->ah,starEach->au,Program->ay,wpAny_pure->az,Str->bf,World->bg,sizeLine->bh,wpAny->bi,model->bn,Heap->br,Around->bu,compareOp->cj,wpAny_mono->df,eval->di,wpAny_field->dj,backTo->dq,wpAny_callSpecial?_slot->ef,swapsWith->eh,wpAny_call_entry->et,boot_len->fb,wpAny_truthy_bool->fc,foldedSetIterable->fe,mem_of_lookup->fg,wpAny_newObj_type->fj,mainGlobals->ft,FuncData->fv,wpAny_Call_Name_kw->fx,relabel->fz,wpAny_holding->gf,Stmt->gg,Obj->gj,sysModules->gk,Pos->gm,binaryOp->gn,codeAny_mono->gt,sizeLine_eq->ii,wpAny_typeNameOfWhole_keyiter->im,attributeBase->iw,DictEntry->ja,wpAny_setField->jd,wpAny_execs_nil->jl,wpAny_passesOwn->jm,keywordEach->jp,wpAny_isInstance->ka,bootBuiltins->kr,holding->ku,wpAny_attempt->lf,behindInMarks->lg,rawInt->li,pyNext->lu,isSubtype_stop->lv,assignEach->lz,cLine->ma,wpAny_newFunctionEnv_cells->md,wpAny_execs_cons->mh,wpAny_standAt->mq,slot_listiter_next->mx,wpAny_call->my,sliceBounds->nj,wpAny_seqItems->nv,backToKw->nz,Env->ox,codeAny_call_function->oy,getMethod->pc,closureFor->ph,NameKind->px,letOwnedTupleGo->qh,standAt->qp,codeAny->qv,noteFrame->qx,wpAny_setField_rec->re,recursionLimit->rg,tupleKind_room_in1->rq,Thread->sm,IsRangeIter->sw,wpAny_Assign_Name->sx,Keyword->sy,wpAny_dictEntries->tw,Operator->ue,lastMarks->uf,callWith->ug,noFill_tuple_add->uh,wpAny_rule->ul,wpAny_pyNext_list_item->um,assign->uo,BindsTo->uq,call_meets->uw,codeAny_handlers_suite->va,wpAny_dictEpoch->vf,importedModules->vh,wpAny_pyIter_listiter->vj,wpAny_isOneOf_keyiter->vm,codeAny_handlers_test->vo,wpAny_throw->vt,field->vw,wpAny_loadName_local->vy,wpAny_Expr_any->vz,Builtin->wj,tupleKind->wl,getItem->wm,cellsFrom->wn,callerA->wp,valueAt->wq,entry_listiter_next->wu,wpAny_loadName_cell->wv,wpAny_handleBy_cons->wx,CmpOp->xb,seq_tuple_add->xf,wpAny_newList->xh,wpAny_load->xl,args_listiter_next->xm,IsPart->xp,raiseNew->xz,Within->ya,GenState->yb,wpAny_Return_some->yc,setItem->yd,wpAny_assign_Name->ye,codeAny_func->yj,concat_meets->yk,seqIndex_neg->yl,slot_list_getitem->yn,wpAny_pyIter_enum->yo,wpAny_pyIter_list->yq,wpAny_loadPart_at->yv,setFlight->yz,wpAny_eqBool_int->zb,inplaceOp->zc,PassesOwn->zd,Arguments->zg,wpAny_pyIter_zip->zi,wpAny_Try_except->zn,treeTable->zq,seqIndex_of->zw,subscripted->zx,atKey->zy,excClassObj->Qo,codeAny_builtin->R0,leaving->R4,Sem->R5,firstArgMember->R6,IsPair->R7,builtinsNs->R8,wpAny_Name->R9,bindL->Re,bindC->Rf,typeIs_int->Ri,ReadsAll->Rn,wpAny_fieldsOf->Rs,seqItems?->RD,storeName->RE,Reads->RG,hashInt->RM,release->RO,Params->RS,PyData->RU,Model->S9,setField->Sa,ZipApart->Sb,intItems->Sc,again->Sh,rule->Si,bindArgs->Sk,compPost->So,pyIter->SA,Result->SE,typeOf->SF,denote->SJ,IsZip->SK,Drawn->SM,Tok->SR
open Bool renaming true->ai,false->ao,and_eq_true->cf,false_eq_true->dw,false_ne_true->ie,noConfusion->uk,eq_iff_iff->vg,and_eq_true_iff->wg,true_and->RC
open PySem.W renaming Frag->aj,keepIn->ic,findIn->kf,emptyDict->kq,callWith_K->kx,kia_one->lh,hideAll->nc,fnOf->oa,instObj->oz,cellsFrom_some->pf,of_hideAll->qo,codeIn->rh,exmOne->sh,methodCall_KW->vd,hideAll_get->wz,plainGet_of->xc,plainGet->xo,codeRec_of->yi,makesIn->ze,funFrames_hide->zm,methodObj->zt,hasDictIn->zu,lookIn->Rc,callWith_K0->RA,takerIn->RF,kitOne->Sj,isFn->SD,Looks->SN,excIn->SO
open PySem.Heap renaming get?_push_of_some->av,lt_size->be,get?_push_size->bq,get?_update_other->bx,get?_update_self->gz,size_push->nq,SameBut->ny,ExtBut->pq,MadeExcOf->Rt
open List renaming replicate->bc,getElem?_eq_some_iff->bj,getElem?_append_left->bp,length_map->bt,getElem?_map->bw,size_toArray->bz,getElem?_append_right->cg,map_cons->cn,mem_cons_of_mem->cp,mem_of_getElem?->cq,mem_cons->cr,length_cons->cw,mem_cons_self->de,mem_append_right->dh,mem_singleton->dk,getElem?_eq_getElem->dm,append_nil->dr,getElem?_set_ne->er,range->fh,getElem?_replicate->fk,mem_append->fu,length_append->fy,eq_of_mem_replicate->ga,getD_eq_getElem?_getD->gc,pairwise_iff_getElem->gp,getElem?_set_self->gr,mem_append_left->gw,not_mem_nil->gx,mem_map->ig,mem_or_eq_of_mem_set->ij,drop_eq_getElem_cons->ik,mem_iff_getElem?->jb,getElem_mem->jc,getElem?_eq_none->jh,length_take->jq,flatten_replicate_singleton->ju,length_replicate->kg,replicate_succ->kh,Nodup->lb,take_of_length_le->lq,map_map->mw,mem_range->ng,flatten_cons->oj,append_assoc->om,ext_getElem?->oo,pairwise_map->oq,drop_of_length_le->ot,any_cons->qc,mem_of_mem_take->qg,dropLast_concat_getLast->qi,filterMap_cons->qk,find?_cons->rn,map_congr_left->se,nodup_iff_pairwise_ne->sg,sum_cons->sk,mem_of_find?_eq_some->sv,drop_length->tm,all_eq_true->tu,mem_filterMap->tz,getElem?_take_of_lt->ua,length_eq_zero_iff->ui,nodup_cons->ur,of_mem_zip->ut,find?_cons_of_pos->uy,find?_cons_of_neg->uz,flatMap_cons->vc,length_singleton->vk,length_drop->wc,map_nil->wo,length_pos_iff->wy,nil_append->xq,length_nil->xu,find?_eq_none->xv,pairwise_cons->xw,any_eq_false->yf,length_range->yr,zipWith->yt,toArray->yu,nodup_append->yw,mem_range'_1->yx,zipIdx_cons->za,nodup_range->zj,mem_flatMap->zo,range'_succ->zp,lookup_cons->Qn,any_eq_true->Qp,cons_append->Qq,zipIdx_nil->Qs,forIn_cons->Qt,mem_filter->Qv,range_succ->Qy,find?_some->R3,foldl->Rj,foldl_cons->Rk,nodup_nil->Rl,all_cons->Rm,map_append->Ro,drop_zero->Rr,map_drop->RB,any_map->RY,map_take->Sq,range'->Su
open Nat renaming le_refl->bo,lt_of_lt_of_le->cm,ne_of_lt->eu,lt_irrefl->iz,le_trans->jo,zero_le->mj,le_of_not_lt->ml,lt_or_gt_of_ne->sd,lt_succ_of_lt->tj,le_add_right->ux,le_of_ble_eq_true->vp,ne_of_gt->vq,le_of_lt->vx,min_eq_left->we,lt_of_le_of_lt->xr,lt_succ_self->zf,min_eq_right->zk,le_succ->RL,le_of_eq->RQ,succ_mul->RR,lt_trans->RT,le_total->RX,zero_add->RZ,log2_lt->Sn,add_mod->Sv,ble->SQ
open Sum renaming inl->bv,inr->qm
open Int renaming toNat_natCast->ca,emod_lt_of_pos->gv,emod_nonneg->ix,toNat_of_nonneg->jn,toNat->RK,sub_zero->RW,mul_one->Sg,mul_pos->Ss
open False renaming elim->cb
open PySem.PassesOwn renaming never->da,leaving->lr
open PySem.Str renaming ofString->ee
open PySem.Value renaming none->eg,bool->xn,float->zr,isStrOf->Rz,isInt->Sd,bytes->Se,type->Sz
open Ne renaming symm->fm
open Pure renaming pure->fo
open PySem.F renaming slot_dict_keyiterator_next->gh,plainAttrs_list->kn,args_tuple_add_2->mr,entry_tuple_add->ni,slot_tuple_add->og,args_dict_keyiterator_next_1->pi,entry_dict_keyiterator_next->qd,slot_tuple_iterator_next->qz,slot_range_iterator_next->rd,excBase_ValueError->sf,slot_list_append->ub,type_list_append->uc,plain_list_iadd->uj,slot_enumerate_next->vi,slot_dict_iter->zl,slot_zip_next->Qr,slot_int_rmul->Qx
open PyProof.Rows renaming callWith_type1->gq,envOfC->ir,slot_tuple_getitem->jz,IntsAre->lj,seqObj->mf,kindOf->pd,AllBare->pk,subscriptTail_builtinR->uu,boot_tuple->vb,boot_list->wr,subscriptTail->xg,callWith_builtin1->zh,entry_list_sort->R1,boot_range->Ra,chain_link->Rb,slicePart_none->Rg,SortKind->Rp,sortedHeap->Rq,slot_list_sort->Ru,args_list_sort->Rv,sortedHeap_old->Rx,boot_int->Sr,ite_ff->SB,ite_tt->SC,IsTup->SL
open Array renaming getElem?_eq_getElem->gy,getElem?_eq_some_iff->je,getElem?_toList->jg,getElem?_setIfInBounds_ne->ou,getD_eq_getD_getElem?->qw,length_toList->xa,toList->RN,getD->SH
open Option.some renaming injEq->io
open True renaming intro->ip
open PySem.PyData renaming depthAll->iq,canLayAll0->jr,canLay0->ki,eqv->kz,eqvAll->mv
open PySem.Obj renaming mapFields->iu,isFreed_of_fields->jf,cls_mapFields->nn,data_mapFields->qy,mapSeq->rm
open PySem.Builtin.SmallTypes renaming nextOf->ji,ownedTupleIsFree->mn
open PySem.Builtin.Slice renaming slicePlaces->jj,sliceAdjust->mm,sliceApplied->rj,slicePartIndex->Qw,sliceFields->Ry
open Classical renaming byContradiction->jk
open PySem.Challenge renaming pw_slantfloor_k73_stiff_or_free->jt,rw_slantfloor_k73_stiff_or_free->jv
open PySem.Builtin.Tuple renaming tupleExact->jw,tupleHashOf->sr,tupleItemsOf->Rh
open PySem.Builtin.List renaming listTooLong->jx,listUpdate->RH
open Prod.mk renaming injEq->jy
open ForInStep renaming yield->lc
open PySem.Calls renaming Name_function_global->ly,evalArgs_plain->pz,call_function_entry->su,loadGlobal_global->ud,callWith_builtin->uv
open PySem.Builtin.Range renaming rangeSize->nh,small->Sx
open PySem.Builtin.Dict_items renaming ownsTuple->qj
open PySem.Builtin.Dict renaming dictSlotNone->ss,showsAll->vn
open PySem.Around renaming under_plainId->wf,under->yg
open PySem.EntryCells renaming newEntry->wt
open PySem.Builtin.Int renaming intBits->ww
open PySem.W.Fast renaming te10156331382660048174->xi,te11892475500146522536->xj,te14364793385576792824->xk,te6613529449190102663->xx,te4187177175401517315->xy
open PySem.Code renaming isFrame->yh
open List.cons renaming injEq->Qz
open PySem.SeqAt renaming shaped->RV,eqv_refl->Sw
open PySem.Heap.SameBut renaming update->Sy
open PySem.SeqAt.Reads renaming unique->SG
open PySem.W.Looks renaming ld->SI
noncomputable abbrev Sm:=@if_neg
noncomputable abbrev SS:=@if_pos
local macro_rules | `(tactic| right)=>`(tactic| first | lia | omega)
local macro_rules | `(term| ⋯)=>`(by  right)
local macro_rules | `(term| ∅)=>`(by  decide)
local macro_rules | `(term| ↥$q)=>`({ nx:=λ_=>$q (.v .non),rt:=$q })
open Option (getD_none map_some isSome_map)
open PySem PySem.Spec PyProof.Rows
noncomputable section
set_option Elab.async false
set_option linter.all false
set_option bootstrap.genMatcherCode false
set_option compiler.extract_closed false
set_option genSizeOf false
set_option genSizeOfSpec false
set_option maxRecDepth 100000
set_option maxHeartbeats 1000000
theorem xA(_:True:=by first | exact .inl rfl | exact .inr rfl | assumption):True:=trivial
theorem hG(_:True:=by decide):True:=trivial
theorem b7(_:True:=by rfl):True:=trivial
theorem B1(_:True:=by intro _;rfl):True:=trivial
theorem Pf(_:True:=by intros;rfl):True:=trivial
theorem IL(_:True:=by with_unfolding_all rfl):True:=trivial
theorem B0(_:True:=by decide +kernel):True:=trivial
theorem Pe(_:True:=by first | exact nomark _ | rfl):True:=trivial
theorem QC(_:True:=by intro _ _;rfl):True:=trivial
theorem KP(_:True:=by first | exact .inl rfl | exact .inr rfl):True:=trivial
variable {us:List ac}{base h:br}{e tg:Expr}{i n:Nat}{A:bu}{a b f C:af}{α:Type}{u:ac}{P prog:ay}{w:bg}{N ps:List bf}{E:ac->ah->Prop}{s:ah}{pos p:gm}{pj:List (af×gj)}{K:aj}{es:List Expr}{T1:List gg}{mg:bf->Option ac}{outer:List ox}{SV:bf}{SU:Scope}{st:gg}
namespace L2
structure Like(o oe:gj):Prop where
  cls:oe.cls=o.cls
  dict:oe.dict=o.dict
  fl:∃us vs,o.data=.fields us/\oe.data=.fields vs /\ ∀i,i≠1->vs[i]?=us[i]?
noncomputable def iX(o:gj):Prop:=∃us:Array ac,o.data=.fields us/\us[2]?=aa .none
variable {o oe:gj}
theorem Like.mild(k:Like o oe)(m:iX o):iX oe:=by
  obtain⟨us,d,q⟩:=m;obtain⟨us',vs,d',dv,i⟩:=k.fl;rw[d] at d';cases d';exact⟨vs,dv,(i 2 ∅).trans q⟩
theorem Like.rfl'{us:Array ac}(d:o.data=.fields us):Like o o:=⟨rfl,rfl,us,us,d,d,λ_ _=>rfl⟩
noncomputable def Tr(h base:br)(e:af)(o:gj)(fl:ac):Prop:=
  ∃(oe:gj) (vs:Array ac) (T:af) (oT:gj) (ts:Array ac),h.get? e=aa oe/\Like o oe/\oe.data=.fields vs/\vs[1]?=aa (.ref T)/\base.get? T=aq/\T≠e/\h.get? T=aa oT/\oT.data=.fields ts/\ts[3]?=aa fl
structure Fly(base:br)(l:List ox)(e:af)(o:gj)(fl:ac)(h:br):Prop where
  st:base.StaysIn h
  no:base.get? e=aq
  fr:h.FunFrames base l
  tr:Tr h base e o fl
variable {fl:ac}
theorem Fly.there{l:List ox}{e:af}(x:Fly base l e o fl h):∃oe,h.get? e=aa oe/\Like o oe:=by
  obtain⟨oe,_,_,_,_,g,k,_⟩:=x.tr;exact⟨oe,g,k⟩
theorem zJ{vs:Array ac}{v:ac}(d:o.data=.fields vs):(iu (·.setIfInBounds i v) o).data=.fields (vs.setIfInBounds i v):=qy d _
theorem Like.set{v:ac}(k:Like o oe):Like o (iu (·.setIfInBounds 1 v) oe):=by
  obtain⟨us,vs,d,dv,i⟩:=k.fl;refine⟨(nn ..).trans k.cls,?_,us,_,d,zJ dv,λj hj=>?_⟩
  . rw[<- k.dict];obtain⟨c0,d0,a0,s0⟩:=oe;cases dv;rfl
  . rw[ou (λz=>hj z.symm)];exact i j hj
variable {Q:Unit->ah->Prop}{M:S9}{env:ox}
section
variable {L e:af}
theorem v6{vs:Array ac}{head:ac}{had:Bool}(hfr:A.frames=aa (env::outer))(fr:s.heap.FunFrames base (env::outer))(hf:env.frame=aa L)(st:base.StaysIn s.heap)(no:base.get? e=aq)
    (g:s.heap.get? e=aa oe) (k:Like o oe) (d:oe.data=.fields vs) (hsz:1<vs.size) (q:∀h',Fly base (env::outer) e o (li L) h'->s.heap.UpToSlots h'->Q () { s with heap:=h' }):
    bi M A (do let a <- frameOf env;let pl <- entryPlaceOf L had;let b <- wt head a .none (li L) .none pl;Sa (.ref e) 1 b) Q E s:=by
  have nfr:e ∉ (env::outer).filterMap (·.frame):=λhm=>by
    obtain⟨_,o',g',nf⟩:=fr.mem hm;rw[g] at g';cases g';exact nf vs d
  refine ae (wpAny_frameOf_fun hfr fr hf λh1 ⟨_,same,slot⟩=>ae (wpAny_entryPlaceOf λpl hpl=>?_));unfold wt newFields;refine ae (fj ?_ (hpl.sizeOk5 _ _ _ _ _));have h3:(([head,.ref L,.none,li L,.none]++(if pl.isEmpty then bc 6 eg else pl)).toArray:Array ac)[3]?=aa (li L):=by
    first | (simp;done) | (rcases hpl with rfl | ⟨_,_,_,_,_,_,_,rfl⟩<;>simp)
  generalize (([head,.ref L,.none,li L,.none]++(if pl.isEmpty then bc 6 eg else pl)).toArray:Array ac)=ts at h3;generalize hob:({ cls:=.type "traceback",dict:=aq,data:=.fields ts }:gj)=ob;have g1:h1.get? e=aa oe:=(same e nfr).trans g;have gT:(h1.push ob).get? h1.objs.size=aa ob:=by
    subst hob;exact bq h1 rfl
  have ne:h1.objs.size≠e:=vq (be g1);have st1:base.StaysIn h1:=λb u z=>(same b λhm=>by rw[(fr.mem hm).1] at z;cases z).trans (st b u z);have keep:∀b u,b≠e->h1.get? b=aa u->((h1.push ob).update e (iu (·.setIfInBounds 1 (.ref h1.objs.size)))).get? b=aa u:=λb u hb z=>
    (bx _ _ (fm hb)).trans (av _ z)
  have rec':∀b u,s.heap.get? b=aa u->(∀us,u.data ≠ .fields us)->b≠e:=λb u z nf q=>by
    rw[q,g] at z;cases z;exact nf vs d
  refine jd (av _ g1) d hsz (q _ ⟨λb u z=>keep b u (λq=>by rw[q,no] at z;cases z) (st1 b u z),no,fr.of_keeps λb u z nf=>?_,?_⟩ λb u z nf=>?_)
  . obtain⟨sl,z'⟩:=slot b u z;exact⟨_,keep b _ (rec' b u z nf) z',rfl⟩
  . refine⟨_,_,h1.objs.size,ob,ts,gz _ (av _ g1) (jf (zJ d)),k.set,zJ d,by simp[hsz],st1.fresh,ne,?_,by rw[<- hob],h3⟩;exact(bx _ _ (fm ne)).trans gT
  . obtain⟨sl,z'⟩:=slot b u z;exact⟨sl,keep b _ (rec' b u z nf) z'⟩
theorem Cr{us:Array ac}(hfr:A.frames=aa (env::outer))(fr:s.heap.FunFrames base (env::outer))(hf:env.frame=aa L)(st:base.StaysIn s.heap)(no:base.get? e=aq)
    (g:s.heap.get? e=aa o) (d:o.data=.fields us) (n1:us[1]?=aa .none) (q:∀h',Fly base (env::outer) e o (li L) h'->s.heap.UpToSlots h'->Q () { s with heap:=h' }):bi M A (qx (.ref e) env) Q E s:=by
  unfold qx;simp only[hf];refine ae (dj g d n1 ?_);rw[Sm ∅];exact v6 hfr fr hf st no g (Like.rfl' d) d (je.mp n1).1 q
theorem tL(hfr:A.frames=aa (env::outer))(hf:env.frame=aa L)(x:Fly base (env::outer) e o .none s.heap)
    (q:∀h',Fly base (env::outer) e o (li L) h'->s.heap.UpToSlots h'->Q () { s with heap:=h' }):bi M A (qx (.ref e) env) Q E s:=by
  obtain⟨st,no,fr,oe,vs,T,oT,ts,g,k,d,n1,nT,ne,gT,dT,n3⟩:=x;unfold qx;simp only[hf];refine ae (dj g d n1 ?_);rw[SS (show (Value.ref T != eg)=ai by simp)];refine ae (dj gT dT n3 ?_);rw[Sm (show ¬((eg==li L)=ai) by simp[li])];have oth:∀b,b≠T->(s.heap.update T (iu (·.setIfInBounds 3 eg))).get? b=s.heap.get? b:=λb hb=>bx _ _ (fm hb);have rec':∀b u,s.heap.get? b=aa u->(∀us,u.data ≠ .fields us)->b≠T:=λb u z nf q=>by
    rw[q,gT] at z;cases z;exact nf ts dT
  refine ae (jd gT dT (je.mp n3).1 (v6 hfr (fr.of_keeps λb u z nf=>⟨u,(oth b (rec' b u z nf)).trans z,rfl⟩) hf (λb u z=>(oth b λq=>by rw[q,nT] at z;cases z).trans (st b u z)) no ((oth e (fm ne)).trans g) k d (je.mp n1).1 λh' x' u'=>q h' x' λb u z nf=>u' b u ((oth b (rec' b u z nf)).trans z) nf))
theorem iC{l:List ox}(x:Fly base l e o fl s.heap)(q:∀h',Fly base l e o .none h'->s.heap.UpToSlots h'->Q () { s with heap:=h' }):bi M A (yz (.ref e) aq) Q E s:=by
  obtain⟨st,no,fr,oe,vs,T,oT,ts,g,k,d,n1,nT,ne,gT,dT,n3⟩:=x;have z3:=(je.mp n3).1;have oth:∀b,b≠T->(s.heap.update T (iu (·.setIfInBounds 3 ((aq:Option af).elim eg λf=>li f)))).get? b=s.heap.get? b:=λb hb=>bx _ _ (fm hb);have rec':∀b u,s.heap.get? b=aa u->(∀us,u.data ≠ .fields us)->b≠T:=λb u z nf q=>by
    rw[q,gT] at z;cases z;exact nf ts dT
  unfold yz;refine ae (dj g d n1 ?_);rw[SS (show (Value.ref T != eg)=ai by simp)];refine jd gT dT z3 (q _ ⟨λb u z=>(oth b λq=>by rw[q,nT] at z;cases z).trans (st b u z),no,fr.of_keeps λb u z nf=>⟨u,(oth b (rec' b u z nf)).trans z,rfl⟩,?_⟩ λb u z nf=>⟨u.slots,(oth b (rec' b u z nf)).trans z⟩);exact⟨oe,vs,T,_,_,(oth e (fm ne)).trans g,k,d,n1,nT,ne,gz _ gT (jf (zJ dT)),zJ dT,by simp[z3]⟩
theorem yZ{us:Array ac}(hfr:A.frames=aa (env::outer))(fr:s.heap.FunFrames base (env::outer))(hf:env.frame=aa L)(st:base.StaysIn s.heap)(no:base.get? e=aq)
    (g:s.heap.get? e=aa o) (d:o.data=.fields us) (n1:us[1]?=aa .none) (q:∀h',Fly base outer e o .none h'->s.heap.UpToSlots h'->Q () { s with heap:=h' }):bi M A (R4 env (.ref e)) Q E s:=by
  unfold R4;refine ae (Cr hfr fr hf st no g d n1 λh1 x1 u1=>iC x1 λh2 x2 u2=>q h2 ⟨x2.st,x2.no,?_,x2.tr⟩ (u1.trans u2));obtain⟨_,_,z⟩:=x2.fr;exact z
theorem FH(hfr:A.frames=aa (env::outer))(hf:env.frame=aa L)(x:Fly base (env::outer) e o .none s.heap)(q:∀h',Fly base outer e o .none h'->s.heap.UpToSlots h'->Q () { s with heap:=h' }):
    bi M A (R4 env (.ref e)) Q E s:=by
  unfold R4;refine ae (tL hfr hf x λh1 x1 u1=>iC x1 λh2 x2 u2=>q h2 ⟨x2.st,x2.no,?_,x2.tr⟩ (u1.trans u2));obtain⟨_,_,z⟩:=x2.fr;exact z
end
noncomputable def Qu(A:bu)(h:br):Prop:=A.handled=aq \/ ∃(a:af) (o:gj),A.handled=aa (.ref a)/\h.get? a=aa o/\iX o
variable {h':br}
theorem Qu.keeps(q:Qu A h)(k:∀b o,iX o->h.get? b=aa o->h'.get? b=aa o):Qu A h':=by
  rcases q with q | ⟨a,o,e,g,m⟩
  . exact .inl q
  . exact .inr ⟨a,o,e,k a o m g,m⟩
theorem uB:entryFor table "proto.unchain" = aa wj.«proto.unchain» := entryFor_of_fast (by kernel_rfl)
variable {l it:af}{xs:Array ac}{lo:Int}
theorem oG{e:ac}{Q:ac->ah->Prop}(g:s.heap.get? a=aa o)(m:iX o)(q:Q .none s):bi (bn prog w) A (runValue (.builtin "proto.unchain" ⟨[e,.ref a,.ref a,.bool ao],[]⟩)) Q E s:=by
  obtain⟨us,d,n2⟩:=m;refine runValue_entry uB ?_;unfold wj.«proto.unchain»;dsimp only;refine ae (dj g d n2 ?_);rw[SS ∅];exact az ⟨_,rfl,q⟩
theorem Bw{us:Array ac}{Q:α->ah->Prop}(q:Qu A s.heap)(g:s.heap.get? a=aa o)(d:o.data=.fields us)(hz:2<us.size)(hm:∀v,A.handled=aa v->v ≠ .ref a)
    (h:∀h' o',(∀b u,b≠a->s.heap.get? b=aa u->h'.get? b=aa u)->h'.get? a=aa o'->o'.cls=o.cls->E (.ref a) { s with heap:=h' }):bi (bn prog w) A (xz (α:=α) (.ref a)) Q E s:=by
  simp only[xz];refine ae (wpAny_handled ?_);rcases q with q | ⟨b,ob,q,gb,mb⟩
  . rw[q];exact ae (az (vt (h s.heap o (λ_ _ _ z=>z) g rfl)))
  . rw[q];have ne:b≠a:=λz=>hm _ q (by rw[z]);dsimp only;rw[SS (show (Value.ref b != Value.ref a)=ai by simpa using ne)];refine ae (gf (oG gb mb (ae ?_)));unfold updateField;refine ae (xl g ?_);rw[d];dsimp only;rw[SS hz];refine wpAny_update g (vt (h _ (iu (·.setIfInBounds 2 (.ref b)) o) (λc u hc z=>(bx _ _ (fm hc)).trans z) (gz _ g (jf (zJ d))) (nn ..)))
theorem iJ{Q:α->ah->Prop}(q:Qu A s.heap)(h:∀h' e,(∀b u,s.heap.get? b=aa u->h'.get? b=aa u)->(∃o,h'.get? e=aa o/\o.cls=.type "StopIteration")->E (.ref e) { s with heap:=h' }):
    bi (bn prog w) A (newExc (.type "StopIteration") [] >>= λe=>xz (α:=α) e) Q E s:=by
  refine ae ?_;simp only[newExc,newTuple];refine ae (fj (ae (m:=R6 _ _) (wpAny_of_eq (a:=eg) (by first | rfl | (simp only[R6];rfl)) (fj ?_ (by size_fits)))) (by size_fits));refine Bw (q.keeps λb u _ z=>av _ (av _ z)) (bq _ rfl) rfl (by simp;right) (λv e z=>?_) λh' o' k g c=>h h' _ (λb u z=>k b u ?_ (av _ (av _ z))) ⟨o',g,c⟩
  . subst z;rcases q with q | ⟨b,ob,q,gb,_⟩
    . rw[q] at e;cases e
    . rw[q] at e;cases e;exact iz _ (cm (be gb) (by rw[nq];exact RL _))
  . intro e;subst e;exact iz _ (cm (be z) (by rw[nq];exact RL _))
theorem z4{Q:Option ac->ah->Prop}(q:Qu A s.heap)(t:s.heap.IsListIter it l i)(il:s.heap.IsList l xs)(n:xs[i]?=aq)(h:∀h',pq it s.heap h'->Q aq { s with heap:=h' }):
    bi (bn prog w) A (lu (.ref it)) Q E s:=by
  obtain⟨o,g,c,d⟩:=id t;obtain⟨ol,gl,_,nl,dl⟩:=il;unfold lu;refine ae (lf (ef (name:=ee "__next__") t.typeIs mx (et mx t.typeIs wu ?_ (xm _))));refine ae (m:=vw (.ref it) 0) (dj g d (x:=.ref l) rfl ?_);rw[Sm (show ¬((Value.ref l==eg)=ai) from λz=>nomatch z)];refine ae (m:=vw (.ref it) 1) (dj g d (x:=.int i 0) rfl (ae (m:=RD (.ref l)) (nv gl dl ?_)));simp only[ca,n];have ne:∀b u,iX u->s.heap.get? b=aa u->b≠it:=λb u m gb z=>by
    subst z;rw[g] at gb;cases gb;obtain⟨us,du,z2⟩:=m;rw[d] at du;cases du;simp at z2
  refine ae (ul (ae (jd g d (by simp) (iJ (q.keeps λb u m z=>(bx _ _ (fm (ne b u m z))).trans z) λh' e k ⟨oe,ge,ce⟩=>?_))));refine ae (ka (T:="StopIteration") (b:=ai) ⟨oe,ge,ce⟩ lv (az (h _ λb u hb z=>k b u ((bx _ _ (fm hb)).trans z))))
theorem Cv{Q:Option ac->ah->Prop}(q:Qu A s.heap)(t:s.heap.IsTupleIter it l i)(il:s.heap.IsTuple l xs)(n:xs[i]?=aq)(h:∀h',pq it s.heap h'->Q aq { s with heap:=h' }):
    bi (bn prog w) A (lu (.ref it)) Q E s:=by
  obtain⟨o,g,c,d⟩:=id t;obtain⟨ol,gl,_,nl,dl⟩:=il;unfold lu;refine ae (lf (ef (name:=ee "__next__") t.typeIs qz (et qz t.typeIs F.entry_tuple_iterator_next ?_ (F.args_tuple_iterator_next_1 _))));refine ae (m:=vw (.ref it) 0) (dj g d (x:=.ref l) rfl ?_);rw[Sm (show ¬((Value.ref l==eg)=ai) from λz=>nomatch z)];refine ae (m:=vw (.ref it) 1) (dj g d (x:=.int i 0) rfl (ae (m:=RD (.ref l)) (nv gl dl ?_)));simp only[ca,n];have ne:∀b u,iX u->s.heap.get? b=aa u->b≠it:=λb u m gb z=>by
    subst z;rw[g] at gb;cases gb;obtain⟨us,du,z2⟩:=m;rw[d] at du;cases du;simp at z2
  refine ae (ul (ae (jd g d (by simp) (iJ (q.keeps λb u m z=>(bx _ _ (fm (ne b u m z))).trans z) λh' e k ⟨oe,ge,ce⟩=>?_))));refine ae (ka (T:="StopIteration") (b:=ai) ⟨oe,ge,ce⟩ lv (az (h _ λb u hb z=>k b u ((bx _ _ (fm hb)).trans z))))
theorem Cw{x left step:Int}{Q:Option ac->ah->Prop}(q:Qu A s.heap)(t:sw s.heap it x left step)(n:left<=0)(h:∀h',pq it s.heap h'->Q aq { s with heap:=h' }):
    bi (bn prog w) A (lu (.ref it)) Q E s:=by
  have ty:s.TypeIs (.ref it) "range_iterator" := ⟨_,t,rfl⟩;unfold lu;refine ae (lf (ef (name:=ee "__next__") ty rd (et rd ty F.entry_range_iterator_next ?_ (F.args_range_iterator_next_1 _))));refine ae (m:=vw (.ref it) 0) (dj t rfl (x:=li x) rfl (ae (m:=vw (.ref it) 1) (dj t rfl (x:=li left) rfl (ae (m:=vw (.ref it) 2) (dj t rfl (x:=li step) rfl ?_)))));refine(show bi _ _ (ite (left<=0) _ _) _ _ s from ?_);rw[SS n];refine ae (ul (ae (iJ q λh' e k zz=>?_)));obtain⟨oe,ge,ce⟩:=zz;refine ae (ka (T:="StopIteration") (b:=ai) ⟨oe,ge,ce⟩ lv (az (h _ λb u hb z=>k b u z)))
theorem nM{Q:ac->ah->Prop}(q:Qu A s.heap)(t:s.heap.IsListIter it l i)(il:s.heap.IsList l xs)(n:xs[i]?=aq)
    (h:∀h' e,pq it s.heap h'->(∃o,h'.get? e=aa o/\o.cls=.type "StopIteration")->E (.ref e) { s with heap:=h' }):bi (bn prog w) A (ji (.ref it)) Q E s:=by
  obtain⟨o,g,c,d⟩:=id t;obtain⟨ol,gl,_,nl,dl⟩:=il;unfold ji;refine ae (ef (name:=ee "__next__") t.typeIs mx (et mx t.typeIs wu ?_ (xm _)));refine ae (m:=vw (.ref it) 0) (dj g d (x:=.ref l) rfl ?_);rw[Sm (show ¬((Value.ref l==eg)=ai) from λz=>nomatch z)];refine ae (m:=vw (.ref it) 1) (dj g d (x:=.int i 0) rfl (ae (m:=RD (.ref l)) (nv gl dl ?_)));simp only[ca,n];have ne:∀b u,iX u->s.heap.get? b=aa u->b≠it:=λb u m gb z=>by
    subst z;rw[g] at gb;cases gb;obtain⟨us,du,z2⟩:=m;rw[d] at du;cases du;simp at z2
  exact ae (ul (ae (jd g d (by simp) (iJ (q.keeps λb u m z=>(bx _ _ (fm (ne b u m z))).trans z) λh' e k z=>h h' e (λb u hb z=>k b u ((bx _ _ (fm hb)).trans z)) z))))
theorem FP{e:af}{old:ac}{Q:Option ac->ah->Prop}(q:Qu A s.heap)(he:IsEnum s.heap e it i old)(t:s.heap.IsListIter it l i)(il:s.heap.IsList l xs)(n:xs[i]?=aq)
    (h:∀h',pq it s.heap h'->Q aq { s with heap:=h' }):bi (bn prog w) A (lu (.ref e)) Q E s:=by
  have ty:s.TypeIs (.ref e) "enumerate" := ⟨_,he,rfl⟩;unfold lu;refine ae (lf (ef (name:=ee "__next__") ty vi (et vi ty F.entry_enumerate_next ?_ (F.args_enumerate_next_1 _))));refine ae (m:=vw (.ref e) 2) (dj he rfl (x:=.ref it) rfl (ae (nM q t il n λh' x k zz=>?_)));obtain⟨oe,ge,ce⟩:=zz;exact ae (ka (T:="StopIteration") (b:=ai) ⟨oe,ge,ce⟩ lv (az (h _ k)))
theorem HU{z TI TO i1 i2 l1 l2:af}{k1 k2:Nat}{ys:Array ac}{a b:ac}{Q:Option ac->ah->Prop}(q:Qu A s.heap)(D:Sb z TI TO i1 i2 l1 l2)(hz:SK s.heap z TI TO .none)(pI:R7 s.heap TI (.ref i1) (.ref i2))(pO:R7 s.heap TO a b)
    (t1:s.heap.IsListIter i1 l1 k1) (t2:s.heap.IsListIter i2 l2 k2) (il1:s.heap.IsList l1 xs) (il2:s.heap.IsList l2 ys) (n:xs[k1]?=aq \/ ys[k2]?=aq)
    (h:∀h',(∀c o,c≠z->c≠TO->c≠i1->c≠i2->s.heap.get? c=aa o->h'.get? c=aa o)->Q aq { s with heap:=h' }):bi (bn prog w) A (lu (.ref z)) Q E s:=by
  have ty:s.TypeIs (.ref z) "zip" := ⟨_,hz,rfl⟩;have fin:∀h' e,(∃o,h'.get? e=aa o/\o.cls=.type "StopIteration")->(∀c o,c≠z->c≠TO->c≠i1->c≠i2->s.heap.get? c=aa o->h'.get? c=aa o) ->
      bi (bn prog w) A (isInstance (.ref e) (.type "StopIteration") >>= λy=>if y=ai then fo aq else throw (.ref e)) Q E { s with heap:=h' }:=λh' e ⟨oe,ge,ce⟩ k=>
    ae (ka (T:="StopIteration") (b:=ai) ⟨oe,ge,ce⟩ lv (az (h _ k)))
  have mz:∀f0,¬iX { cls:=.type "zip",dict:=aq,data:=.fields #[f0,.bool ao,.bool ao,.ref TI,.ref TO],slots:=#[] }:=λf0 zq0=>by
    obtain⟨us,du,z2⟩:=zq0;cases du;simp at z2
  have mi:∀{h1:br} {i l:af} {k:Nat},h1.IsListIter i l k -> ∀u,iX u->h1.get? i≠aa u:=λ⟨o,g,_,d⟩ u ⟨us,du,z2⟩ gu=>by
    rw[g] at gu;cases gu;rw[d] at du;cases du;simp at z2
  have mp:∀{h1:br} {p:af} {x y:ac},R7 h1 p x y -> ∀u,iX u->h1.get? p≠aa u:=λg u ⟨us,du,z2⟩ gu=>by
    rw[g] at gu;cases gu;cases du
  unfold lu;refine ae (lf (ef (name:=ee "__next__") ty Qr (et Qr ty F.entry_zip_next ?_ (F.args_zip_next_1 _))));refine ae (m:=vw (.ref z) 2) (dj hz rfl (x:=.bool ao) rfl (ae (m:=vw (.ref z) 3) (dj hz rfl (x:=.ref TI) rfl (ae (nv pI rfl ?_)))));refine ae (m:=mn (.ref z)) ?_;unfold mn;refine ae (dj hz rfl (x:=.none) rfl (az ?_));simp only[if_true];refine ae (ul (ae (dj hz rfl (x:=.ref TO) rfl (ae (re hz (by simp) λh1 hz1 s1=>ae ?_)))));replace hz1:SK h1 z TI TO .ellipsis:=hz1;have q1:Qu A h1:=q.keeps λc u m g=>s1.extBut c u (λe=>by subst e;rw[hz] at g;cases g;exact mz _ m) g;simp only[za,Qs,Qt,List.forIn_nil];refine ae (ae (wpAny_onRaise (ae (m:=ji (.ref i1)) ?_)));have t1':=t1.extBut s1.extBut D.i1z;have il1':=il1.extBut s1.extBut D.l1z;cases hx:xs[k1]? with
  |none=>
    refine nM q1 t1' il1' hx λh2 e s2 zz=>?_;obtain⟨oe,ge,ce⟩:=zz;have hz2:SK h2 z TI TO .ellipsis:=s2 _ _ D.i1z.symm hz1;have ne:e≠z:=λy=>by subst y;rw[hz2] at ge;cases ge;simp at ce
    exact re hz2 (by simp) λh3 _ s3=>fin h3 e ⟨oe,s3.extBut _ _ ne ge,ce⟩ λc o c1 _ c3 _ g=>s3.extBut _ _ c1 (s2 _ _ c3 (s1.extBut _ _ c1 g))
  |some x=>
    have hy:ys[k2]?=aq:=n.elim (λy=>by rw[hx] at y;cases y) id;refine wpAny_nextOf_list_item t1' il1' hx λh2 t2' s2=>az ?_;have pO2:R7 h2 TO a b:=s2.extBut _ _ D.TOi1 (s1.extBut _ _ D.TOz pO);have q2:Qu A h2:=q1.keeps λc u m g=>s2.extBut c u (λe=>by subst e;exact mi t1' u m g) g;refine ae (nv pO2 rfl (ae (wpAny_updateSeq_pair pO2 λh3 pO3 s3=>ae (wpAny_letGo (az ?_)))));have q3:Qu A h3:=q2.keeps λc u m g=>s3.extBut c u (λe=>by subst e;exact mp pO2 u m g) g;refine ae (ae (wpAny_onRaise (ae (m:=ji (.ref i2)) ?_)));refine nM q3 (((t2.extBut s1.extBut D.i2z).extBut s2.extBut D.i12.symm).extBut s3.extBut D.TOi2.symm) (((il2.extBut s1.extBut D.l2z).extBut s2.extBut D.l2i1).extBut s3.extBut D.l2TO) hy λh4 e s4 zz=>?_;obtain⟨oe,ge,ce⟩:=zz;have hz4:SK h4 z TI TO .ellipsis:=s4 _ _ D.i2z.symm (s3.extBut _ _ D.TOz.symm (s2.extBut _ _ D.i1z.symm hz1));have ne:e≠z:=λy=>by subst y;rw[hz4] at ge;cases ge;simp at ce
    exact re hz4 (by simp) λh5 _ s5=>fin h5 e ⟨oe,s5.extBut _ _ ne ge,ce⟩ λc o c1 c2 c3 c4 g=>s5.extBut _ _ c1 (s4 _ _ c4 (s3.extBut _ _ c2 (s2.extBut _ _ c3 (s1.extBut _ _ c1 g))))
theorem Bk(hh:A.handled=aa (.ref a))(m:iX o)(I ax:af)(hne:ax≠I)(xs:Array ac):
    Walks prog w A I [I,ax,a] [I] xs.size (λi v=>xs[i]?=aa v) (λi h=>(h.IsListIter I ax i/\h.IsList ax xs)/\h.get? a=aa o) where
  sub:=λb hb=>by simp at hb;simp[hb]
  frame:=λ_ _ _ st k=>⟨⟨st.1.1.at λo e=>k I (by simp) o e,st.1.2.at λo e=>k ax (by simp) o e⟩,k a (by simp) _ st.2⟩
  item:=λi s Q E hi st h=>by
    have na:a≠I:=λe=>by
      subst e;obtain⟨o',g,_,d⟩:=st.1.1;obtain⟨us,du,z2⟩:=m;rw[st.2] at g;cases g;rw[d] at du;cases du;simp at z2
    exact um st.1.1 st.1.2 (x:=xs[i]) (by simp[hi]) λh' t sb=>h _ h' s.toks (by simp[hi]) ⟨⟨t,st.1.2.extBut sb.extBut hne⟩,sb.extBut _ _ na st.2⟩ λb o hb e=>sb.extBut b o (λz=>hb (by simp[z])) e
  done:=λs Q E st h=>z4 (.inr ⟨a,o,hh,st.2,m⟩) st.1.1 st.1.2 (by simp) λh' k=>h h' s.toks λb o hb e=>k b o (λz=>hb (by simp[z])) e
  self:=λ_ _ _ _ st q=>vj st.1.1 q
theorem Ki{xs:Array (Int×SR)}{Q:ac->ah->Prop}(q:Qu A s.heap)(il:s.heap.IsList l (Sc xs))
    (h:∀h' tk t',(∀b o,s.heap.get? b=aa o->h'.get? b=aa o)->Q (.int (preSum (numAt xs) xs.size) t') { s with heap:=h',toks:=tk }):bi (bn prog w) A (call (.builtin "sum") [.ref l]) Q E s:=by
  rcases q with q | ⟨a,o,q,g,m⟩
  . exact sum_intListG q il h
  . refine call_sum_walkG (iter_intList il λs2 e st fp ne=>?_);subst e;refine⟨_,_,_,_,_,_,numAt xs,rfl,Bk (A:=A.in1) q m _ l ne (Sc xs),⟨st,av _ g⟩,λb hb=>?_,λ_ _=>intItems_at,λh' tk t' k=>?_⟩
    . rcases cr.mp hb with e | hb
      . exact fp b (by simp[e])
      . rcases cr.mp hb with e | hb
        . exact fp b (by simp[e])
        . have e:b=a:=by simpa using hb
          subst e;exact be (av _ g)
    . have:=h h' tk t' (old_kept k);simpa [Sc] using this
theorem Ah{c:Int}{Q:Option ac->ah->Prop}(hi:i<n)(t:sw s.heap it (lo+(i:Nat)*c) ((n:Int)-(i:Nat)) c)
    (h:∀v h' tk,(∃t,v=.int (lo+i*c) t)->sw h' it (lo+((i+1:Nat):Int)*c) ((n:Int)-((i+1:Nat):Int)) c->(∀b o,b ∉ [it]->s.heap.get? b=aa o->h'.get? b=aa o)->Q (aa v) { s with heap:=h',toks:=tk }):
    bi (bn prog w) A (lu (.ref it)) Q E s:=by
  refine wpAny_pyNext_range_item t ⋯ λh' t' sb=>h _ h' _ ⟨_,rfl⟩ ?_ λb o hb e=>sb.extBut b o (λz=>hb (by simp[z])) e;rw[show ((i+1:Nat):Int)=(i:Int)+1 by simp,show lo+((i:Int)+1)*c=lo+i*c+c by rw[Int.add_mul,Int.one_mul,Int.add_assoc],show (n:Int)-((i:Int)+1)=n-i-1 by right];exact t'
noncomputable abbrev bI:=Sum Int bf
noncomputable def tH:bI->ac->Bool
  | .inl k,v=>Sd k v
  | .inr x,v=>Rz x v
noncomputable def OT(w:bg):bI->Int
  | .inl k=>RM k
  | .inr x=>hashStr w x
theorem cN:∀{k:bI} {v:ac},tH k v=ai->(∃i t,k=bv i/\v=Value.int i t) \/ (∃x t,k=qm x/\v=Value.str x t)
  | .inl i,v,h=>by
    obtain⟨t,e⟩:=Value.isInt_shape (k:=i) (v:=v) h;exact .inl ⟨i,t,rfl,e⟩
  | .inr x,v,h=>by
    obtain⟨t,e⟩:=Value.isStrOf_shape (x:=x) (v:=v) h;exact .inr ⟨x,t,rfl,e⟩
theorem Cj(i:Int)(t:SR):tH (.inl i) (.int i t)=ai:=by simp[tH,Sd]
theorem Ci(x:bf)(t:SR):tH (.inr x) (.str x t)=ai:=by simp[tH,Rz]
theorem Je(a b:Int):decide ((bv a:bI)=bv b)=(a==b):=by
  by_cases e:a=b
  . subst e;simp
  . have h:¬(bv a:bI)=bv b:=λq=>e (Sum.inl.inj q);rw[decide_eq_false h];exact(beq_eq_false_iff_ne.mpr e).symm
theorem Jb(a b:bf):decide ((qm a:bI)=qm b)=decide (a=b):=by
  by_cases e:a=b
  . subst e;simp
  . have h:¬(qm a:bI)=qm b:=λq=>e (qm.inj q);rw[decide_eq_false h,decide_eq_false e]
theorem Jd(a:Int)(b:bf):decide ((bv a:bI)=qm b)=ao:=decide_eq_false (λq=>nomatch q)
theorem Jc(a:bf)(b:Int):decide ((qm a:bI)=bv b)=ao:=decide_eq_false (λq=>nomatch q)
noncomputable def cY(prog:ay)(w:bg):PySem.KeyKind prog w bI where
  is:=tH
  hash:=OT w
  inj:=λv a b ha hb=>by
    rcases cN ha with⟨i,t,rfl,rfl⟩ | ⟨x,t,rfl,rfl⟩
    . rcases cN hb with⟨j,u,rfl,e⟩ | ⟨y,u,rfl,e⟩
      . injection e with e1 _;rw[e1]
      . exact nomatch e
    . rcases cN hb with⟨j,u,rfl,e⟩ | ⟨y,u,rfl,e⟩
      . exact nomatch e
      . injection e with e1 _;rw[e1]
  byValue:=λk v h=>by
    rcases cN h with⟨i,t,rfl,rfl⟩ | ⟨x,t,rfl,rfl⟩<;>rfl
  pyHash:=λhv h=>by
    rcases cN hv with⟨i,t,rfl,rfl⟩ | ⟨x,t,rfl,rfl⟩
    . exact wpAny_pyHash_int h
    . exact wpAny_pyHash_str h
  eqBool:=λhu hv h=>by
    rcases cN hu with⟨i,t,rfl,rfl⟩ | ⟨x,t,rfl,rfl⟩
    . rcases cN hv with⟨j,u,rfl,rfl⟩ | ⟨y,u,rfl,rfl⟩
      . rw[Je] at h;exact zb h
      . rw[Jd] at h;exact SeqAt.EqAt.int_str i t y u _ _ _ _ h
    . rcases cN hv with⟨j,u,rfl,rfl⟩ | ⟨y,u,rfl,rfl⟩
      . rw[Jc] at h;exact SeqAt.EqAt.str_int x t j u _ _ _ _ h
      . rw[Jb] at h;exact wpAny_eqBool_str h
  «strs» := λk x t v h=>by
    rcases cN h with⟨i,u,rfl,e⟩ | ⟨y,u,rfl,e⟩
    . exact nomatch e
    . injection e with e1 _;subst e1;cases v<;>rfl
theorem AY(prog:ay)(w:bg)(k:bI)(v:ac):(cY prog w).is k v=tH k v:=rfl
theorem yO(prog:ay)(w:bg)(i:Int)(t:SR):(cY prog w).is (.inl i) (.int i t)=ai:=Cj i t
theorem yN(prog:ay)(w:bg)(x:bf)(t:SR):(cY prog w).is (.inr x) (.str x t)=ai:=Ci x t
inductive V where
  |non | bl (b:Bool) | int (i:Int) | str (x:bf) | byt (b:Array UInt8) | flt (b:UInt64) | ref (a:af) | ty (n:String)
  deriving DecidableEq
noncomputable def bU:V->ac->Prop
  | .non,u=>u=eg
  | .bl b,u=>u=xn b
  | .int i,u=>∃t,u=Value.int i t
  | .str x,u=>∃t,u=Value.str x t
  | .byt b,u=>∃t,u=Se b t
  | .flt b,u=>∃t,u=zr b t
  | .ref a,u=>u=Value.ref a
  | .ty n,u=>u=Sz n
noncomputable abbrev aY:List V->List ac->Prop:=Paired bU
theorem aY.length{xs:List V}{us:List ac}(r:aY xs us):xs.length=us.length:=Paired.length r
theorem aY.get:∀{xs:List V} {us:List ac} {i:Nat} {x:V},aY xs us->xs[i]?=aa x -> ∃u,us[i]?=aa u/\bU x u
  |_,_,_,_,.nil,e=>by simp at e
  |_,_,0,_,.cons r _,e=>by simp at e;subst e;exact⟨_,rfl,r⟩
  |_,_,i+1,x,.cons _ t,e=>by
    obtain⟨u,h1,h2⟩:=aY.get (i:=i) (x:=x) t (by simpa using e);exact⟨u,by simpa using h1,h2⟩
theorem aY.set{x:V}{u:ac}(r:bU x u):∀{xs:List V} {us:List ac} (i:Nat),aY xs us->aY (xs.set i x) (us.set i u)
  |_,_,_,.nil=>.nil
  |_,_,0,.cons _ t=>.cons r t
  |_,_,i+1,.cons q t=>.cons q (aY.set r i t)
theorem aY.append:∀{xs ys:List V} {us ws:List ac},aY xs us->aY ys ws->aY (xs++ys) (us++ws)
  |_,_,_,_,.nil,s=>s
  |_,_,_,_,.cons r t,s=>.cons r (aY.append t s)
theorem aY.take:∀{xs:List V} {us:List ac} (n:Nat),aY xs us->aY (xs.take n) (us.take n)
  |_,_,0,_=>.nil
  |_,_,_+1,.nil=>.nil
  |_,_,n+1,.cons r t=>.cons r (aY.take n t)
theorem aY.drop:∀{xs:List V} {us:List ac} (n:Nat),aY xs us->aY (xs.drop n) (us.drop n)
  |_,_,0,r=>r
  |_,_,_+1,.nil=>.nil
  |_,_,n+1,.cons _ t=>aY.drop n t
noncomputable def mS:Option V->Option ac->Prop
  |some v,aa u=>bU v u
  |none,aq=>True
  |_,_=>False
variable {κ:Type}
noncomputable def KV:List (κ×V)->List (κ×ac)->Prop:=Paired λ(p:κ×V) (q:κ×ac)=>p.1=q.1/\bU p.2 q.2
noncomputable def kV:bI->V
  | .inl i=>.int i
  | .inr x=>.str x
inductive HO where
  /-- a list -/
  |lst (xs:List V)
  /-- a tuple (never changes) -/
  |tup (xs:List V)
  /-- a dict whose keys are ints and texts;one whose keys are tuples of ints and texts (the empty one is both) -/
  |dK (kvs:List (bI×V)) | dT (ep:Nat) (kvs:List (List bI×V))
  /-- a set of ints: its members,its size -/
  |set (S:Int->Bool) (n:Nat)
  /-- an instance of the class at C,its dict at dx,its attributes -/
  |ins (C dx:af) (fs:List (bf×V))
  /-- the dict of the instance at x -/
  |own (x:af)
  /-- the dict of an exception -/
  |xd (fs:List (bf×V))
  /-- a bound method,f of x -/
  |met (f x:af)
  /-- a range object lo,lo+1,.. below hi -/
  |rng (lo hi:Int)
  /-- a thing that is known to the object (the script;a dict while a loop walks it): read,never written while it is so -/
  |frz (o:gj) (u:HO)
  /-- a code object's table -/
  |tbl (ps:Array ac)
  /-- a code object's table whose lambdas are named q;such a lambda's code -/
  |lam (q:bf) | cod (q:bf)
  /-- any other thing,by what is ai of its one object (a def of one's own: SetO a S n:=HO.ext λh=>..) -/
  |ext (φ:br->Prop)
noncomputable abbrev Hp:=af->Option HO
noncomputable def upd(H:Hp)(a:af)(o:HO):Hp:=λb=>if b=a then aa o else H b
variable {H:Hp}
theorem bC{o:HO}:upd H a o a=aa o:=by unfold upd;rw[SS rfl]
theorem aQ{o:HO}(h:b≠a):upd H a o b=H b:=by unfold upd;rw[Sm h]
theorem Ld{o u:HO}(h:H a=aa o)(h':H b=aa u)(d:o≠u):a≠b:=by
  intro e;subst e;rw[h] at h';exact d (Option.some.inj h')
theorem aX{o:HO}(h:H a=aa o)(h':H b=aq):a≠b:=by
  intro e;subst e;rw[h] at h';cases h'
section
variable (P:ay)(w:bg)
noncomputable def cB(H:Hp)(h:br)(a:af):HO->Prop
  | .lst xs=>xs.length<=bh /\ ∃(its:List ac) (n:Nat),aY xs its/\h.get? a=aa { cls:=.type "list",data:=.seq its.toArray n }
  | .tup xs=>xs.length<=bh /\ ∃its:List ac,aY xs its/\SL h a its.toArray
  | .dK kvs=>kvs.length<=bh/\(a==gk)=ao /\ ∃vs,KV kvs vs/\h.DictOf (cY P w) a vs
  | .dT ep kvs=>kvs.length<=bh/\(a==gk)=ao /\ ∃xs:List (List bI×af×ac),
      Paired (λ(p:List bI×V) (q:List bI×af×ac)=>p.1=q.1/\H q.2.1=aa (.tup (p.1.map kV))/\bU p.2 q.2.2) kvs xs /\
      ∃o es,h.get? a=aa o/\o.ExactDict/\o.data=.dict es ep/\es.toList=xs.map (entryOfKey (wl (cY P w)))/\(xs.map (·.1)).Nodup
  | .set S n=>h.SetOf (intKind P w) a S n
  | .ins C dx fs=>H dx=aa (.own a)/\fs.length<=1000/\dx≠a/\h.get? a=aa (oz C dx) /\
      ∃mA,h.Ns1 dx mA/\(∀f,mS (fs.lookup f) (mA f))/\ya mA (fs.map (·.1))
  | .own _=>∃o,h.get? a=aa o
  | .xd fs=>∃mA,h.Ns1 a mA /\ ∀f,mS (fs.lookup f) (mA f)
  | .rng lo hi=>∃t u v,h.get? a=aa { cls:=.type "range",data:=.fields #[.int lo t,.int hi u,.int 1 v] }
  | .frz o u=>h.get? a=aa o/\cB H h a u
  | .tbl ps=>h.get? a=aa { cls:=.none,data:=.fields ps }
  | .lam q=>∃ps:Array ac,h.get? a=aa (W.tabObj ps)/\TriplesOk ps.toList /\ ∀p:gm,codeAmong p ps.toList=aq \/ ∃c,codeAmong p ps.toList=aa (.ref c)/\H c=aa (.cod q)
  | .cod q=>h.CodeRec (.ref a) q
  | .met f x=>h.get? a=aa (zt (.ref f) (.ref x))
  | .ext φ=>φ h/\(∃o,h.get? a=aa o) /\ ∀h1 h2:br,φ h1->(∀o,h1.get? a=aa o->h2.get? a=aa o)->φ h2
noncomputable def jL(H:Hp)(h:br):Prop:=∀a o,H a=aa o->cB P w H h a o
end
variable {H':Hp}
section
variable {o:HO}
theorem cB.lt(x:cB P w H h a o):a<h.objs.size:=by
  cases o with
  |lst xs=>obtain⟨_,_,_,_,e⟩:=x;exact be e
  |tup xs=>obtain⟨_,_,_,p⟩:=x;exact p.lt
  |dK kvs=>obtain⟨_,_,_,_,o,_,_,e,_⟩:=x;exact be e
  |dT ep kvs=>obtain⟨_,_,_,_,o,_,e,_⟩:=x;exact be e
  |set S n=>obtain⟨o,_,_,_,e,_⟩:=x;exact be e
  |ins C dx fs=>obtain⟨_,_,_,e,_⟩:=x;exact be e
  |own y=>obtain⟨_,e⟩:=x;exact be e
  |xd fs=>obtain⟨_,⟨_,_,_,e,_⟩,_⟩:=x;exact be e
  |rng lo hi=>obtain⟨_,_,_,e⟩:=x;exact be e
  |frz ob u=>obtain⟨e,_⟩:=x;exact be e
  |tbl ps=>exact be (show h.get? a=aa _ from x)
  |lam q=>obtain⟨_,e,_⟩:=x;exact be e
  |cod q=>obtain⟨_,_,_,_,e,e2,_⟩:=x;cases e;exact be e2
  |met f y=>exact be (show h.get? a=aa _ from x)
  |ext φ=>obtain⟨_,⟨_,e⟩,_⟩:=x;exact be e
theorem Paired.mapP{α β:Type}{F G:α->β->Prop}:∀{l₁:List α} {l₂:List β},Paired F l₁ l₂->(∀a b,F a b->G a b)->Paired G l₁ l₂
  |_,_,.nil,_=>.nil
  |_,_,.cons r t,f=>.cons (f _ _ r) (Paired.mapP t f)
theorem cB.stay(x:cB P w H h a o)(k:∀b u,(b=a \/ H b=aa (.own a))->h.get? b=aa u->h'.get? b=aa u)
    (ho:∀b,H b=aa (.own a)->H' b=aa (.own a)) (ht:∀b xs,H b=aa (.tup xs)->H' b=aa (.tup xs)) (hc:∀b q,H b=aa (.cod q)->H' b=aa (.cod q)):cB P w H' h' a o:=by
  induction o with
  |lst xs=>obtain⟨z,its,n,r,e⟩:=x;exact⟨z,its,n,r,k _ _ (.inl rfl) e⟩
  |tup xs=>obtain⟨z,its,r,ob,e,c⟩:=x;exact⟨z,its,r,ob,k _ _ (.inl rfl) e,c⟩
  |dK kvs=>obtain⟨z,y,vs,r,ob,es,ep,e,c⟩:=x;exact⟨z,y,vs,r,ob,es,ep,k _ _ (.inl rfl) e,c⟩
  |dT ep kvs=>
    obtain⟨z,y,xs,r,ob,es,e,c⟩:=x;exact⟨z,y,xs,Paired.mapP r λp q z=>⟨z.1,ht _ _ z.2.1,z.2.2⟩,ob,es,k _ _ (.inl rfl) e,c⟩
  |set S n=>obtain⟨ob,es,ep,t,e,c⟩:=x;exact⟨ob,es,ep,t,k _ _ (.inl rfl) e,c⟩
  |ins C dx fs=>
    obtain⟨d,z,ne,e,mA,⟨od,es,ep,e2,c⟩,r⟩:=x;exact⟨ho _ d,z,ne,k _ _ (.inl rfl) e,mA,⟨od,es,ep,k _ _ (.inr d) e2,c⟩,r⟩
  |own y=>obtain⟨ob,e⟩:=x;exact⟨ob,k _ _ (.inl rfl) e⟩
  |xd fs=>obtain⟨mA,⟨od,es,ep,e,c⟩,r⟩:=x;exact⟨mA,⟨od,es,ep,k _ _ (.inl rfl) e,c⟩,r⟩
  |rng lo hi=>obtain⟨t,u,v,e⟩:=x;exact⟨t,u,v,k _ _ (.inl rfl) e⟩
  |frz ob u ih=>obtain⟨e,q⟩:=x;exact⟨k _ _ (.inl rfl) e,ih q⟩
  |tbl ps=>
    have e:h.get? a=aa { cls:=.none,data:=.fields ps }:=x;show h'.get? a=aa { cls:=.none,data:=.fields ps };exact k a _ (.inl rfl) e
  |lam q=>
    obtain⟨ps,e,t,f⟩:=x;exact⟨ps,k _ _ (.inl rfl) e,t,λp=>(f p).imp_right λzq1=>by obtain⟨c,e1,e2⟩:=zq1;exact⟨c,e1,hc _ _ e2⟩⟩
  |cod q=>
    obtain⟨_,o,vs,t,e,e2,e3⟩:=x;cases e;exact⟨a,o,vs,t,rfl,k _ _ (.inl rfl) e2,e3⟩
  |met f y=>
    have e:h.get? a=aa (zt (.ref f) (.ref y)):=x;show h'.get? a=aa (zt (.ref f) (.ref y));exact k a _ (.inl rfl) e
  |ext φ=>obtain⟨p,⟨o,e⟩,st⟩:=x;exact⟨st _ _ p λo q=>k _ _ (.inl rfl) q,⟨o,k _ _ (.inl rfl) e⟩,st⟩
theorem jL.lt(x:jL P w H h)(e:H a=aa o):a<h.objs.size:=(x a o e).lt
theorem jL.fresh(x:jL P w H h)(e:h.objs.size<=a):H a=aq:=by
  cases q:H a with
  |none=>rfl
  |some u=>exact absurd (cm (x.lt q) e) (iz _)
theorem jL.kept(x:jL P w H h)(k:∀b u,h.get? b=aa u->h'.get? b=aa u):jL P w H h':=λa o e=>
  (x a o e).stay (λb u _ q=>k b u q) (λ_ q=>q) (λ_ _ q=>q) λ_ _ q=>q
theorem jL.laid(x:jL P w H h)(k:∀b u,h.get? b=aa u->h'.get? b=aa u)(hp:h.objs.size<=a)(new:cB P w (upd H a o) h' a o):jL P w (upd H a o) h':=λb u e=>by
  have hn:=x.fresh hp;by_cases hb:b=a
  . subst hb;rw[bC] at e;cases e;exact new
  . rw[aQ hb] at e;exact(x b u e).stay (λc v _ q=>k c v q) (λc q=>by rw[aQ (aX q hn)];exact q) (λc xs q=>by rw[aQ (aX q hn)];exact q) λc xs q=>by rw[aQ (aX q hn)];exact q
end
noncomputable def Rd(H:Hp)(a:af)(u:HO):Prop:=H a=aa u \/ ∃o,H a=aa (.frz o u)
theorem Rd.ok{u:HO}(r:Rd H a u)(x:jL P w H h):cB P w H h a u:=by
  rcases r with r | ⟨o,r⟩
  . exact x a u r
  . obtain⟨_,q⟩:=x a _ r;exact q
noncomputable def DC:Option HO->Prop
  |some (.lst _)=>True
  |some (.dK _)=>True
  |some (.dT _ _)=>True
  |some (.set _ _)=>True
  |some (.ins _ _ _)=>True
  |some (.ext _)=>True
  |_=>False
section
variable {x e:af}{o':HO}
theorem jL.write(ok:jL P w H h)(mu:DC (H x))(he:e=x \/ H e=aa (.own x))(k:∀b u,b≠e->h.get? b=aa u->h'.get? b=aa u)(heo:∃u,h'.get? e=aa u)
    (new:cB P w (upd H x o') h' x o'):jL P w (upd H x o') h':=λb u q=>by
  have nown:∀c y,H c=aa (.own y)->c≠x:=λc y r z=>by subst z;rw[r] at mu;exact mu
  have ntup:∀c xs,H c=aa (.tup xs)->c≠x:=λc xs r z=>by subst z;rw[r] at mu;exact mu
  have ncod:∀c q,H c=aa (.cod q)->c≠x:=λc xs r z=>by subst z;rw[r] at mu;exact mu
  by_cases hb:b=x
  . subst hb;rw[bC] at q;cases q;exact new
  . rw[aQ hb] at q;by_cases hbe:b=e
    . have q':H b=aa (.own x):=by
        rcases he with z | z
        . exact absurd (hbe.trans z) hb
        . rw[hbe];exact z
      rw[q] at q';cases q';obtain⟨v,hv⟩:=heo;exact⟨v,by rw[hbe];exact hv⟩
    . refine(ok b u q).stay (λc v hc r=>k c v ?_ r) (λc r=>by rw[aQ (nown c b r)];exact r) (λc xs r=>by rw[aQ (ntup c xs r)];exact r) λc xs r=>by rw[aQ (ncod c xs r)];exact r
      rcases hc with rfl | hc
      . exact hbe
      . rintro rfl;rcases he with z | z
        . exact nown c b hc z
        . rw[hc] at z;cases z;exact hb rfl
end
structure Un(fs ex:List af)(H H':Hp)(h h':br):Prop where
  keep:∀b o,h.get? b=aa o->H b=aq->b ∉ fs->b ∉ ex->h'.get? b=aa o
  slot:∀b o,h.get? b=aa o->H b=aq->b∈fs->b ∉ ex -> ∃sl,h'.get? b=aa { o with slots:=sl }
  free:∀b o,h.get? b=aa o->H b=aq->b ∉ ex->H' b=aq
  there:∀b o,h.get? b=aa o->b ∉ ex -> ∃o',h'.get? b=aa o'
  tups:∀b xs,H b=aa (.tup xs)->H' b=aa (.tup xs)
  frzs:∀b o u,H b=aa (.frz o u)->H' b=aa (.frz o u)
  tbls:∀b ps,H b=aa (.tbl ps) -> ∃more,H' b=aa (.tbl (ps++more))
section
variable {fs fs' ex ex':List af}{H1 H2:Hp}{h1 h2:br}{x e:af}{o:HO}
theorem Un.any(u:Un fs ex H H1 h h1){ob:gj}(q:h.get? b=aa ob)(n:H b=aq)(hx:b ∉ ex):∃sl,h1.get? b=aa { ob with slots:=sl }:=by
  by_cases hb:b∈fs
  . exact u.slot b ob q n hb hx
  . exact⟨ob.slots,u.keep b ob q n hb hx⟩
theorem Un.kept(k:∀b u,h.get? b=aa u->h'.get? b=aa u):Un fs ex H H h h':=
  ⟨λb ob q _ _ _=>k b ob q,λb ob q _ _ _=>⟨ob.slots,k b ob q⟩,λ_ _ _ n _=>n,λb ob q _=>⟨ob,k b ob q⟩,λ_ _ q=>q,λ_ _ _ q=>q,λ_ ps q=>⟨#[],by rw[q];simp⟩⟩
theorem Un.refl:Un fs ex H H h h:=Un.kept λ_ _ q=>q
theorem Un.laid(k:∀b u,h.get? b=aa u->h'.get? b=aa u)(hp:h.objs.size<=a)(hn:H a=aq):Un fs ex H (upd H a o) h h' where
  keep:=λb u q _ _ _=>k b u q
  slot:=λb u q _ _ _=>⟨u.slots,k b u q⟩
  free:=λb u q n _=>by rw[aQ (eu (cm (be q) hp))];exact n
  there:=λb u q _=>⟨u,k b u q⟩
  tups:=λb xs q=>by rw[aQ (aX q hn)];exact q
  frzs:=λb u xs q=>by rw[aQ (aX q hn)];exact q
  tbls:=λb ps q=>⟨#[],by rw[aQ (aX q hn),q];simp⟩
theorem Un.write(mu:DC (H x))(he:e=x \/ H e=aa (.own x))(k:∀b u,b≠e->h.get? b=aa u->h'.get? b=aa u)(heo:∃u,h'.get? e=aa u):Un fs ex H (upd H x o) h h':=by
  have hx:∀b,H b=aq->b≠x:=λb n z=>by subst z;rw[n] at mu;exact mu
  have hb:∀b,H b=aq->b≠e:=λb n z=>by
    subst z;rcases he with r | r
    . exact hx b n r
    . rw[n] at r;cases r
  have hm:∀b u,H b=aa u -> ¬DC (aa u)->b≠x:=λb u q nm z=>by subst z;rw[q] at mu;exact nm mu
  refine⟨λb u q n _ _=>k b u (hb b n) q,λb u q n _ _=>⟨u.slots,k b u (hb b n) q⟩,λb u q n _=>by rw[aQ (hx b n)];exact n,λb u q _=>?_,
    λb xs q=>by rw[aQ (hm b _ q λz=>z)];exact q,λb u xs q=>by rw[aQ (hm b _ q λz=>z)];exact q,λb ps q=>⟨#[],by rw[aQ (hm b _ q λz=>z),q];simp⟩⟩
  by_cases hbe:b=e
  . subst hbe;exact heo
  . exact⟨u,k b u hbe q⟩
end
noncomputable def trk(h:br)(H:Hp):List af:=(fh h.objs.size).filter λa=>(H a).isSome
noncomputable def wE(h:br)(H:Hp):br:=nc h (trk h H)
theorem Co(h:br)(H:Hp):(wE h H).objs.size=h.objs.size:=W.hideAll_size _ _
theorem FB(e:h.get? b=aa o)(n:H b=aq):(wE h H).get? b=aa o:=
  wz _ e λhm=>by
    have q:(H b).isSome=ai:=(Qv.mp hm).2;rw[n] at q;simp at q
theorem Gh(e:(wE h H).get? b=aa o):h.get? b=aa o/\H b=aq:=by
  have e':h.get? b=aa o:=qo (trk h H) e;refine⟨e',?_⟩;cases q:H b with
  |none=>rfl
  |some x=>
    have hm:b∈trk h H:=Qv.mpr ⟨ng.mpr (be e'),by simp[q]⟩;have z:(wE h H).get? b=aq:=W.hideAll_none (trk h H) hm;rw[z] at e;cases e
structure Mod(K:aj)(mg:bf->Option ac)(base:br):Prop where
  kin:K.In base
  glob:base.Ns ft mg
  blt:∃mb,base.Ns R8 mb /\ ∀x:bf,x ≠ "__name__" -> mb x=kr x
  nolimit:base.NoLimit
/-- the context: a def's T1 (or a comprehension's block) running. base: fixed through the Tn law;s₀,HZ: the entry;outer: the frames whose slots others may change (a def's callers);stack: all frames that run;
   ex: iterators that were made ahead of the entry and are walked here (a comprehension's);fn: the names whose cells were made at the entry (a def: all;a comprehension's block: its own);calm: not within an except suite;pn: pj that every state bears;xe: what is wanted of an exception that leaves the code -/
structure Cx where
  prog:ay
  w:bg
  K:aj
  mg:bf->Option ac
  base:br
  A:bu
  N:List bf
  s₀:ah
  HZ:Hp
  env:ox
  outer:List ox
  stack:List ox
  ex:List af
  fn:bf->Bool
  calm:Bool
  pn:List (af×gj)
  xe:ac->ah->Prop
  hs:List af
noncomputable def frs(l:List ox):List af:=l.filterMap (·.frame)
noncomputable abbrev Cx.fs(X:Cx):List af:=frs X.outer
noncomputable def MB(sc:Scope)(x:bf):Prop:=sc.names.lookup x=aa .local \/ sc.names.lookup x=aa .cell \/ sc.names.lookup x=aa .free
noncomputable def xC(sc:Scope)(x:bf):Prop:=sc.names.lookup x=aa .local \/ sc.names.lookup x=aa .cell
noncomputable def Pa(env:ox)(h:br)(m:bf->Option ac)(x:bf)(u:ac):Prop:=
  (env.kindOf x=aa .local/\m x=aa u) \/ ((env.kindOf x=aa .cell \/ env.kindOf x=aa .free) /\ ∃c,env.cells.lookup x=aa c/\h.IsCell c (aa u))
structure Cx.Ok(X:Cx):Prop where
  mod:Mod X.K X.mg X.base
  kind:X.env.scope.kind=.function
  glob:X.env.globals=ft
  blt:X.env.builtins=R8
  above:X.s₀.heap.objs.size<=X.env.locals
  inj:∀x y c,X.env.cells.lookup x=aa c->X.env.cells.lookup y=aa c->x=y
  has:∀x,(X.env.kindOf x=aa .cell \/ X.env.kindOf x=aa .free) -> ∃c,X.env.cells.lookup x=aa c
  cab:∀x c,X.fn x=ai->X.env.cells.lookup x=aa c->X.s₀.heap.objs.size<=c
  hd:X.calm=ai->X.A.handled=aq
  frames:X.A.frames=aa X.stack
  stk:X.stack=X.outer \/ (X.stack=X.env::X.outer/\X.env.frame=aa X.env.locals)
  exf:∀b∈X.ex,b≠X.env.locals /\ ∀x c,X.env.cells.lookup x=aa c->c≠b
  bs:∀b o,X.base.get? b=aa o->X.s₀.heap.get? b=aa o/\X.HZ b=aq
  bsz:X.base.objs.size<=X.s₀.heap.objs.size
  noex:∀b o,X.base.get? b=aa o->b ∉ X.ex
  exfs:∀b∈X.ex,b ∉ X.fs
  funs:X.s₀.heap.FunFrames X.base X.outer
  frf:∀b∈X.fs,X.HZ b=aq
  hq:X.A.handled=aq \/ ∃a,a∈X.hs/\X.A.handled=aa (.ref a)
structure Inv(X:Cx)(pj:List (af×gj))(σ:List (Option V))(H:Hp)(s:ah):Prop where
  ok:X.Ok
  os:s.os=X.s₀.os
  bare:pk s.gens
  base:Un X.fs X.ex X.HZ H X.s₀.heap s.heap
  loc:∃m,s.heap.Ns X.env.locals m /\ ∀(i:Nat) (x:bf) (v:V),X.N[i]?=aa x->σ[i]?=aa (aa v)->MB X.env.scope x -> ∃u,bU v u/\Pa X.env s.heap m x u
  cell:∀x c,X.env.cells.lookup x=aa c -> ∃v,s.heap.IsCell c v
  free:H X.env.locals=aq
  freeC:∀x c,X.env.cells.lookup x=aa c->H c=aq
  pin:∀p∈X.pn++pj,s.heap.get? p.1=aa p.2/\H p.1=aq/\p.1≠X.env.locals/\p.1 ∉ X.fs /\ ∀v,p.2.data ≠ .cell v
  hok:jL X.prog X.w H s.heap
  len:σ.length=X.N.length
  mild:∀a∈X.hs,∃o u,H a=aa (.frz o u)/\iX o
variable {v:V}{g':Array yb}{t' j:Nat}{d':SM}{ch:List af}{s':ah}{X:Cx}
section
variable {σ:List (Option V)}
theorem Cx.Ok.nofr(ok:X.Ok)(e:X.base.get? b=aa o):b ∉ X.fs:=λhb=>by
  have:=(ok.funs.mem hb).1;rw[e] at this;cases this
theorem Inv.bs(I:Inv X pj σ H s):∀b o,X.base.get? b=aa o->s.heap.get? b=aa o/\H b=aq:=λb o e=>
  ⟨I.base.keep b o (I.ok.bs b o e).1 (I.ok.bs b o e).2 (I.ok.nofr e) (I.ok.noex b o e),I.base.free b o (I.ok.bs b o e).1 (I.ok.bs b o e).2 (I.ok.noex b o e)⟩
theorem Inv.qu(I:Inv X pj σ H s):Qu X.A s.heap:=by
  rcases I.ok.hq with e | ⟨a,ha,e⟩
  . exact .inl e
  . obtain⟨o,u,g,m⟩:=I.mild a ha;obtain⟨ho,_⟩:=(show cB X.prog X.w H s.heap a (.frz o u) from I.hok a _ g);exact .inr ⟨a,o,e,ho,m⟩
theorem Inv.bk(I:Inv X pj σ H s):∀b o,X.base.get? b=aa o->s.heap.get? b=aa o:=λb o e=>(I.bs b o e).1
theorem Inv.mod(I:Inv X pj σ H s):Mod X.K X.mg X.base:=I.ok.mod
theorem Inv.kIn(I:Inv X pj σ H s):X.K.In s.heap:=I.ok.mod.kin.keeps I.bk
theorem Inv.lt(I:Inv X pj σ H s):X.env.locals<s.heap.objs.size:=let ⟨_,hn,_⟩:=I.loc;hn.lt
theorem Inv.sz(I:Inv X pj σ H s):X.s₀.heap.objs.size<=s.heap.objs.size:=jo I.ok.above (vx I.lt)
theorem Inv.nofs(I:Inv X pj σ H s)(h:s.heap.objs.size<=a):a ∉ X.fs:=λhb=>by
  obtain⟨_,o,ho,_⟩:=I.ok.funs.mem hb;exact absurd (cm (be ho) (jo I.sz h)) (iz _)
theorem Inv.cne(I:Inv X pj σ H s):∀x c,X.env.cells.lookup x=aa c->c≠X.env.locals:=λx c e z=>by
  obtain⟨v,o,ho,hd⟩:=I.cell x c e;obtain⟨m,⟨o',es,ep,ho',hd',_⟩,_⟩:=I.loc;rw[z,ho'] at ho;cases ho;rw[hd'] at hd;cases hd
theorem Inv.funs(I:Inv X pj σ H s):s.heap.FunFrames X.base X.outer:=by
  have all:∀(l:List ox),(∀b∈frs l,b∈X.fs)->X.s₀.heap.FunFrames X.base l->s.heap.FunFrames X.base l:=by
    intro l;induction l with
    |nil=>intro _ _;trivial
    |cons env r ih=>
      intro hs hl;obtain⟨hk,⟨L,o,hf,hn,ho,hd⟩,hr⟩:=hl;have hL:L∈X.fs:=hs L (by unfold frs;rw[qk,hf];exact de);obtain⟨sl,e⟩:=I.base.slot L o ho (I.ok.frf L hL) hL λz=>I.ok.exfs L z hL;exact⟨hk,⟨L,_,hf,hn,e,hd⟩,ih (λb hb=>hs b (by unfold frs;rw[qk,hf];exact cp _ hb)) hr⟩
  exact all X.outer (λ_ hb=>hb) I.ok.funs
theorem Inv.stack(I:Inv X pj σ H s):s.heap.FunFrames X.base X.stack:=by
  rcases I.ok.stk with e | ⟨e,hf⟩
  . rw[e];exact I.funs
  . rw[e];obtain⟨m,hn,_⟩:=I.loc;refine .cons (by rw[I.ok.kind];decide) hf hn ?_ I.funs;exact Heap.get?_none_of_le (jo I.ok.bsz I.ok.above)
theorem Inv.stkSub(I:Inv X pj σ H s):∀b∈frs X.stack,b∈X.env.locals::X.fs:=λb hb=>by
  rcases I.ok.stk with e | ⟨e,hf⟩
  . rw[e] at hb;exact cp _ hb
  . rw[e] at hb;unfold frs at hb;rw[qk,hf] at hb;exact hb
theorem Inv.stkFree(I:Inv X pj σ H s):∀b∈frs X.stack,H b=aq:=λb hb=>by
  rcases cr.mp (I.stkSub b hb) with e | hb
  . rw[e];exact I.free
  . obtain⟨_,o,ho,_⟩:=I.ok.funs.mem hb;exact I.base.free b o ho (I.ok.frf b hb) λz=>I.ok.exfs b z hb
theorem Inv.step(I:Inv X pj σ H s)
    (hch:∀b∈ch,(b∈X.ex \/ X.s₀.heap.objs.size<=b)/\b≠X.env.locals/\(∀x c,X.env.cells.lookup x=aa c->c≠b) /\ ∀p∈X.pn++pj,p.1≠b)
    (keep:∀b o,b≠X.env.locals->b ∉ X.fs->b ∉ ch->s.heap.get? b=aa o->H b=aq->h'.get? b=aa o)
    (slot:∀b o,b≠X.env.locals->b∈X.fs->b ∉ ch->s.heap.get? b=aa o->H b=aq -> ∃sl,h'.get? b=aa { o with slots:=sl }) (free:∀b o,b ∉ ch->s.heap.get? b=aa o->H b=aq->H' b=aq)
    (there:∀b o,b ∉ ch->s.heap.get? b=aa o -> ∃o',h'.get? b=aa o')
    (tups:∀b xs,H b=aa (.tup xs)->H' b=aa (.tup xs)) (frzs:∀b o u,H b=aa (.frz o u)->H' b=aa (.frz o u)) (tbls:∀b ps,H b=aa (.tbl ps) -> ∃more,H' b=aa (.tbl (ps++more)))
    (ns:∀m,s.heap.Ns X.env.locals m->h'.Ns X.env.locals m) (hok:jL X.prog X.w H' h') (hg:pk g'):
    Inv X pj σ H' { s with heap:=h',gens:=g',drawn:=d',toks:=t' }:=by
  have neL:∀b o,X.s₀.heap.get? b=aa o->b≠X.env.locals:=λb o e=>eu (cm (be e) I.ok.above);have neC:∀b o,X.s₀.heap.get? b=aa o->b ∉ X.ex->b ∉ ch:=λb o e hx hb=>by
    rcases(hch b hb).1 with z | z
    . exact hx z
    . exact absurd (cm (be e) z) (iz _)
  have cellK:∀x c,X.env.cells.lookup x=aa c -> ∀v,s.heap.IsCell c v->h'.IsCell c v:=λx c e v zq2=>by
    obtain⟨o,ho,hd⟩:=zq2;have nch:c ∉ ch:=λz=>(hch c z).2.2.1 x c e rfl;by_cases hc:c∈X.fs
    . obtain⟨sl,q⟩:=slot c o (I.cne x c e) hc nch ho (I.freeC x c e);exact⟨_,q,hd⟩
    . exact⟨o,keep c o (I.cne x c e) hc nch ho (I.freeC x c e),hd⟩
  refine⟨I.ok,I.os,hg,⟨λb o e n hb hx=>?_,λb o e n hb hx=>?_,λb o e n hx=>?_,λb o e hx=>?_,λb xs e=>tups b xs (I.base.tups b xs e),λb o xs e=>frzs b o xs (I.base.frzs b o xs e),λb ps e=>?_⟩,?_,λx c e=>?_,?_,λx c e=>?_,λp hp=>?_,hok,I.len,λa ha=>let ⟨o,u,g,m⟩:=I.mild a ha;⟨o,u,frzs a o u g,m⟩⟩
  . exact keep b o (neL b o e) hb (neC b o e hx) (I.base.keep b o e n hb hx) (I.base.free b o e n hx)
  . obtain⟨sl,e1⟩:=I.base.slot b o e n hb hx;obtain⟨sl',e2⟩:=slot b _ (neL b o e) hb (neC b o e hx) e1 (I.base.free b o e n hx);exact⟨sl',e2⟩
  . obtain⟨o',e1⟩:=I.base.there b o e hx;exact free b o' (neC b o e hx) e1 (I.base.free b o e n hx)
  . obtain⟨o',e1⟩:=I.base.there b o e hx;exact there b o' (neC b o e hx) e1
  . obtain⟨m1,e1⟩:=I.base.tbls b ps e;obtain⟨m2,e2⟩:=tbls b _ e1;exact⟨m1++m2,by rw[e2,Array.append_assoc]⟩
  . obtain⟨m,hn,hl⟩:=I.loc;refine⟨m,ns m hn,λi x v e1 e2 e3=>?_⟩;obtain⟨u,r,l⟩:=hl i x v e1 e2 e3;refine⟨u,r,?_⟩;rcases l with l | ⟨k,c,e,z⟩
    . exact .inl l
    . exact .inr ⟨k,c,e,cellK x c e _ z⟩
  . obtain⟨v,z⟩:=I.cell x c e;exact⟨v,cellK x c e v z⟩
  . obtain⟨m,⟨o,_,_,ho,_⟩,_⟩:=I.loc;exact free _ o (λz=>(hch _ z).2.1 rfl) ho I.free
  . obtain⟨v,o,ho,hd⟩:=I.cell x c e;exact free c o (λz=>(hch c z).2.2.1 x c e rfl) ho (I.freeC x c e)
  . obtain⟨e,n,ne,nf,d⟩:=I.pin p hp;have nch:p.1 ∉ ch:=λz=>(hch p.1 z).2.2.2 p hp rfl;exact⟨keep p.1 p.2 ne nf nch e n,free p.1 p.2 nch e n,ne,nf,d⟩
theorem Inv.un(I:Inv X pj σ H s)(u:Un X.fs [] H H' s.heap h')(hok:jL X.prog X.w H' h'):Inv X pj σ H' { s with heap:=h',toks:=t' }:=by
  obtain⟨m,⟨o,es,ep,ho,r⟩,_⟩:=id I.loc;obtain⟨sl,hL⟩:=u.any ho I.free (by simp);exact I.step (g':=s.gens) (d':=s.drawn) (ch:=[]) (λ_ z=>nomatch z) (λb o _ hb _ e n=>u.keep b o e n hb (by simp)) (λb o _ hb _ e n=>u.slot b o e n hb (by simp)) (λb o _ e n=>u.free b o e n (by simp)) (λb o _ e=>u.there b o e (by simp)) u.tups u.frzs u.tbls (λm' hm=>by
    obtain⟨o',es',ep',ho',r'⟩:=hm;rw[ho] at ho';cases ho';exact⟨_,es',ep',hL,r'⟩) hok I.bare
theorem Inv.call(I:Inv X pj σ H s)(u:Un (frs X.stack) ch H H' s.heap h')(hok:jL X.prog X.w H' h')(hg:pk g')
    (hch:∀b∈ch,(b∈X.ex \/ X.s₀.heap.objs.size<=b)/\b≠X.env.locals/\(∀x c,X.env.cells.lookup x=aa c->c≠b) /\ ∀p∈X.pn++pj,p.1≠b):
    Inv X pj σ H' { s with heap:=h',gens:=g',drawn:=d',toks:=t' }:=by
  obtain⟨m,⟨o,es,ep,ho,r⟩,_⟩:=id I.loc;obtain⟨sl,hL⟩:=u.any ho I.free λz=>(hch _ z).2.1 rfl;exact I.step (ch:=ch) hch (λb o hL hb hc e n=>u.keep b o e n (λz=>(cr.mp (I.stkSub b z)).elim hL hb) hc) (λb o _ _ hc e n=>u.any e n hc) (λb o hc e n=>u.free b o e n hc) (λb o hc e=>u.there b o e hc) u.tups u.frzs u.tbls (λm' hm=>by
    obtain⟨o',es',ep',ho',r'⟩:=hm;rw[ho] at ho';cases ho';exact⟨_,es',ep',hL,r'⟩) hok hg
theorem Inv.turned(I:Inv X pj σ H s)(k:∀b o,b≠it->s.heap.get? b=aa o->h'.get? b=aa o)(hn:H it=aq)(hL:it≠X.env.locals)
    (h1:it∈X.ex \/ X.s₀.heap.objs.size<=it) (h2:∀x c,X.env.cells.lookup x=aa c->c≠it) (h3:∀p∈X.pn++pj,p.1≠it):Inv X pj σ H { s with heap:=h',toks:=t' }:=by
  have nit:∀b u,H b=aa u->b≠it:=λb u e z=>by rw[z,hn] at e;cases e
  refine I.step (g':=s.gens) (d':=s.drawn) (ch:=[it]) (λb hb=>?_) (λb o _ _ hc e _=>k b o (λz=>hc (by simp[z])) e) (λb o _ _ hc e _=>⟨o.slots,k b o (λz=>hc (by simp[z])) e⟩) (λ_ _ _ _ n=>n)
    (λb o hc e=>⟨o,k b o (λz=>hc (by simp[z])) e⟩) (λ_ _ e=>e) (λ_ _ _ e=>e) (λb ps e=>⟨#[],by rw[e];simp⟩) (λm hm=>?_) (λb u e=>?_) I.bare
  . have e:b=it:=by simpa using hb
    subst e;exact⟨h1,hL,h2,h3⟩
  . obtain⟨o,es,ep,ho,r⟩:=hm;exact⟨o,es,ep,k _ o (fm hL) ho,r⟩
  . refine(I.hok b u e).stay (λc v hc q=>k c v ?_ q) (λ_ q=>q) (λ_ _ q=>q) λ_ _ q=>q;rcases hc with z | z
    . rw[z];exact nit b u e
    . exact nit c _ z
theorem Inv.tok(I:Inv X pj σ H s)(t:Nat):Inv X pj σ H { s with toks:=t }:=I.un (h':=s.heap) (t':=t) Un.refl I.hok
theorem Inv.kept{t':Nat}(I:Inv X pj σ H s)(k:∀b u,s.heap.get? b=aa u->h'.get? b=aa u):Inv X pj σ H { s with heap:=h',toks:=t' }:=I.un (Un.kept k) (I.hok.kept k)
theorem Inv.laid{a:af}{o:HO}{t':Nat}(I:Inv X pj σ H s)(k:∀b u,s.heap.get? b=aa u->h'.get? b=aa u)(hp:s.heap.objs.size<=a)(new:cB X.prog X.w (upd H a o) h' a o):
    Inv X pj σ (upd H a o) { s with heap:=h',toks:=t' }:=I.un (Un.laid k hp (I.hok.fresh hp)) (I.hok.laid k hp new)
theorem Inv.write{x e:af}{o:HO}{t':Nat}(I:Inv X pj σ H s)(mu:DC (H x))(he:e=x \/ H e=aa (.own x))(k:∀b u,b≠e->s.heap.get? b=aa u->h'.get? b=aa u)(heo:∃u,h'.get? e=aa u)
    (new:cB X.prog X.w (upd H x o) h' x o):Inv X pj σ (upd H x o) { s with heap:=h',toks:=t' }:=I.un (Un.write mu he k heo) (I.hok.write mu he k heo new)
theorem Inv.pins_of{pins':List (af×gj)}(I:Inv X pj σ H s)(h:∀p∈pins',s.heap.get? p.1=aa p.2/\H p.1=aq/\p.1≠X.env.locals/\p.1 ∉ X.fs /\ ∀v,p.2.data ≠ .cell v):Inv X pins' σ H s:=
  ⟨I.ok,I.os,I.bare,I.base,I.loc,I.cell,I.free,I.freeC,λp hp=>(fu.mp hp).elim (λz=>I.pin p (gw _ z)) (h p),I.hok,I.len,I.mild⟩
theorem yJ(hN:N.Nodup){x:bf}(a:N[i]?=aa x)(b:N[j]?=aa x):i=j:=by
  obtain⟨h1,e1⟩:=bj.mp a;obtain⟨h2,e2⟩:=bj.mp b;exact(List.getElem_inj hN).mp (e1.trans e2.symm)
theorem uN{x:bf}(I:Inv X pj σ H s)(hN:X.N.Nodup)(hi:X.N[i]?=aa x)(hx:xC X.env.scope x)(r:bU v u)
    (h:∀s',Inv X pj (σ.set i (aa v)) H s'->(∃a,ny a s.heap s'.heap/\(a=X.env.locals \/ X.env.cells.lookup x=aa a))->Q () s') (hf:autoParam (X.fn x=ai \/ X.env.scope.names.lookup x=aa .local) xA._auto_1):bi M A (RE X.env x u) Q E s:=by
  obtain⟨m,hn,hl⟩:=id I.loc;have hcls:(X.env.scope.kind == .class || (X.env.scope.kind == .module&&X.env.locals != X.env.globals))=ao:=by rw[I.ok.kind];rfl
  have hiσ:i<σ.length:=by rw[I.len];exact(bj.mp hi).1
  have cne:=I.cne;have tracked:∀{a:af} {h':br},(∃o,s.heap.get? a=aa o/\H a=aq)->ny a s.heap h'->jL X.prog X.w H h':=λ{a h'} ha hs b ob e=>by
    obtain⟨_,_,hfree⟩:=ha;refine(I.hok b ob e).stay (λc w' hc q=>(hs.2 c ?_).trans q) (λ_ q=>q) (λ_ _ q=>q) λ_ _ q=>q;rintro rfl;rcases hc with rfl | hc
    . rw[hfree] at e;cases e
    . rw[hfree] at hc;cases hc
  rcases hx with hk | hk
  . refine wpAny_storeName_local hk hn (λh' hn' hs=>?_) hcls;obtain⟨oL,_,_,hoL,_⟩:=id hn;refine h _ ⟨I.ok,I.os,I.bare,⟨λb o e n hb hx=>?_,λb o e n hb hx=>?_,I.base.free,λb o e hx=>?_,I.base.tups,I.base.frzs,I.base.tbls⟩,⟨_,hn',λj y v' e1 e2 e3=>?_⟩,λy c e=>?_,I.free,I.freeC,λp hp=>?_,tracked ⟨oL,hoL,I.free⟩ hs,by simpa using I.len,I.mild⟩ ⟨_,hs,.inl rfl⟩
    . exact(hs.2 b (eu (cm (be e) I.ok.above))).trans (I.base.keep b o e n hb hx)
    . obtain⟨sl,e1⟩:=I.base.slot b o e n hb hx;exact⟨sl,(hs.2 b (eu (cm (be e) I.ok.above))).trans e1⟩
    . obtain⟨o',e1⟩:=I.base.there b o e hx;exact⟨o',(hs.2 b (eu (cm (be e) I.ok.above))).trans e1⟩
    . by_cases hj:j=i
      . subst hj;rw[hi] at e1;cases e1;rw[gr hiσ] at e2;cases e2;exact⟨u,r,.inl ⟨hk,by simp⟩⟩
      . rw[er (fm hj)] at e2;obtain⟨u',r',q⟩:=hl j y v' e1 e2 e3;refine⟨u',r',?_⟩;rcases q with⟨k,e⟩ | ⟨k,c,e,z⟩
        . refine .inl ⟨k,?_⟩;have:y≠x:=λe=>hj (yJ hN e1 (e ▸ hi));simp[this,e]
        . exact .inr ⟨k,c,e,z.sameBut hs (cne y c e)⟩
    . obtain⟨w',z⟩:=I.cell y c e;exact⟨w',z.sameBut hs (cne y c e)⟩
    . obtain⟨e,n,ne,nf,d⟩:=I.pin p hp;exact⟨(hs.2 p.1 ne).trans e,n,ne,nf,d⟩
  . have hfn:X.fn x=ai:=by
      rcases hf with z | z
      . exact z
      . rw[z] at hk;cases hk
    obtain⟨c,hc⟩:=I.ok.has x (.inl hk);obtain⟨w',z⟩:=I.cell x c hc;refine wpAny_storeName_cell I.ok.kind hk hc z (λh' hc' hs=>?_);obtain⟨oc,hoc,hocd⟩:=id z;refine h { s with heap:=h' } ⟨I.ok,I.os,I.bare,⟨λb o e n hb hx=>?_,λb o e n hb hx=>?_,I.base.free,λb o e hx=>?_,I.base.tups,I.base.frzs,I.base.tbls⟩,⟨m,hn.sameBut hs (fm (cne x c hc)),λj y v' e1 e2 e3=>?_⟩,λy c' e=>?_,I.free,I.freeC,λp hp=>?_,tracked ⟨oc,hoc,I.freeC x c hc⟩ hs,by simpa using I.len,I.mild⟩ ⟨c,hs,.inr hc⟩
    . exact(hs.2 b (eu (cm (be e) (I.ok.cab x c hfn hc)))).trans (I.base.keep b o e n hb hx)
    . obtain⟨sl,e1⟩:=I.base.slot b o e n hb hx;exact⟨sl,(hs.2 b (eu (cm (be e) (I.ok.cab x c hfn hc)))).trans e1⟩
    . obtain⟨o',e1⟩:=I.base.there b o e hx;exact⟨o',(hs.2 b (eu (cm (be e) (I.ok.cab x c hfn hc)))).trans e1⟩
    . by_cases hj:j=i
      . subst hj;rw[hi] at e1;cases e1;rw[gr hiσ] at e2;cases e2;exact⟨u,r,.inr ⟨.inl hk,c,hc,hc'⟩⟩
      . rw[er (fm hj)] at e2;obtain⟨u',r',q⟩:=hl j y v' e1 e2 e3;refine⟨u',r',?_⟩;rcases q with q | ⟨k,c',e,z'⟩
        . exact .inl q
        . refine .inr ⟨k,c',e,z'.sameBut hs ?_⟩;rintro rfl;exact hj (yJ hN e1 (I.ok.inj _ _ _ e hc ▸ hi))
    . by_cases hcc:c'=c
      . subst hcc;exact⟨_,hc'⟩
      . obtain⟨w2,z2⟩:=I.cell y c' e;exact⟨w2,z2.sameBut hs hcc⟩
    . obtain⟨e,n,ne,nf,d⟩:=I.pin p hp;refine⟨(hs.2 p.1 ?_).trans e,n,ne,nf,d⟩;intro q;rw[q,hoc] at e;have q':oc=p.2:=Option.some.inj e;exact d w' (by rw[<- q'];exact hocd)
theorem lE{x:bf}(I:Inv X pj σ H s)(hN:X.N.Nodup)(hi:X.N[i]?=aa x)(hx:xC X.env.scope x)(r:bU v u)
    (h:∀s',Inv X pj (σ.set i (aa v)) H s'->Q () s') (hf:autoParam (X.fn x=ai \/ X.env.scope.names.lookup x=aa .local) xA._auto_1):bi M A (RE X.env x u) Q E s:=
  uN I hN hi hx r (λs' I' _=>h s' I') hf
theorem Inv.call'(I:Inv X pj σ H s)(ho:s'.os=s.os)(u:Un (frs X.stack) ch H H' s.heap s'.heap)(hok:jL X.prog X.w H' s'.heap)(hg:pk s'.gens)
    (hch:∀b∈ch,(b∈X.ex \/ X.s₀.heap.objs.size<=b)/\b≠X.env.locals/\(∀x c,X.env.cells.lookup x=aa c->c≠b) /\ ∀p∈X.pn++pj,p.1≠b):Inv X pj σ H' s':=by
  obtain⟨h',g',d',t',o'⟩:=s';have e:o'=s.os:=ho;subst e;exact I.call (g':=g') (t':=t') (d':=d') u hok hg hch
end
noncomputable abbrev XK:=ac->Option af->Hp->Prop
noncomputable abbrev St:=List (Option V)
noncomputable abbrev VK:=V->Hp->Prop
noncomputable abbrev TE:=St->Hp->VK->Prop
noncomputable abbrev TT:=St->Hp->(Bool->Hp->Prop)->Prop
noncomputable abbrev TA:=St->Hp->(List V->Hp->Prop)->Prop
structure Ends where
  nx:St->Hp->Prop
  rt:VK
  bk:St->Hp->Prop:=λ_ _=>False
  ct:St->Hp->Prop:=λ_ _=>False
noncomputable abbrev TS:=Ends->St->Hp->Prop
inductive EP(X:Cx)(pj:List (af×gj))(σ:St)(Q:VK)(u:ac)(s':ah):Prop
  |mk (v:V) (H':Hp) (I:Inv X pj σ H' s') (r:bU v u) (q:Q v H')
inductive TP(X:Cx)(pj:List (af×gj))(σ:St)(Q:Bool->Hp->Prop)(b:Bool)(s':ah):Prop
  |mk (H':Hp) (I:Inv X pj σ H' s') (q:Q b H')
inductive AP(X:Cx)(pj:List (af×gj))(σ:St)(Q:List V->Hp->Prop)(us:List ac)(s':ah):Prop
  |mk (vs:List V) (H':Hp) (I:Inv X pj σ H' s') (r:aY vs us) (q:Q vs H')
inductive NP(X:Cx)(pj:List (af×gj))(P:St->Hp->Prop)(s':ah):Prop
  |mk (σ':St) (H':Hp) (I:Inv X pj σ' H' s') (q:P σ' H')
inductive RP(X:Cx)(pj:List (af×gj))(P:VK)(u:ac)(s':ah):Prop
  |mk (v:V) (σ':St) (H':Hp) (I:Inv X pj σ' H' s') (r:bU v u) (q:P v H')
noncomputable def SP(X:Cx)(pj:List (af×gj))(D:Ends)(f:Flow)(s':ah):Prop:=
  match f with
  | .next=>NP X pj D.nx s'
  | .brk=>NP X pj D.bk s'
  | .cont=>NP X pj D.ct s'
  | .ret u=>RP X pj D.rt u s'
noncomputable def PE(X:Cx)(e:Expr)(t:TE):Prop:=
  ∀(pj:List (af×gj)) (s:ah) (σ:St) (H:Hp) (Q:VK),Inv X pj σ H s->t σ H Q->bi (bn X.prog X.w) X.A (di e X.env) (EP X pj σ Q) X.xe s
noncomputable def PT(X:Cx)(e:Expr)(t:TT):Prop:=
  ∀(pj:List (af×gj)) (s:ah) (σ:St) (H:Hp) (Q:Bool->Hp->Prop),Inv X pj σ H s->t σ H Q->bi (bn X.prog X.w) X.A (isTrue e X.env (di e X.env)) (TP X pj σ Q) X.xe s
noncomputable def PW(X:Cx)(e:Expr)(t:TT):Prop:=
  ∀(Tn:R5 ac) (pj:List (af×gj)) (s:ah) (σ:St) (H:Hp) (Q:Bool->Hp->Prop),Inv X pj σ H s->t σ H Q->bi (bn X.prog X.w) X.A (isTrue e X.env Tn) (TP X pj σ Q) X.xe s
theorem PW.pt{t:TT}(h:PW X e t):PT X e t:=h _
noncomputable def PA(X:Cx)(es:List Expr)(t:TA):Prop:=
  ∀(pos:gm) (pj:List (af×gj)) (s:ah) (σ:St) (H:Hp) (Q:List V->Hp->Prop),Inv X pj σ H s->t σ H Q->bi (bn X.prog X.w) X.A (spliced (dq pos (au es X.env))) (AP X pj σ Q) X.xe s
noncomputable def PS(X:Cx)(st:gg)(t:TS):Prop:=
  ∀(pj:List (af×gj)) (s:ah) (σ:St) (H:Hp) (D:Ends),Inv X pj σ H s->t D σ H->bi (bn X.prog X.w) X.A (exec st X.env) (SP X pj D) X.xe s
noncomputable def pP(X:Cx)(st:List gg)(t:TS):Prop:=
  ∀(pj:List (af×gj)) (s:ah) (σ:St) (H:Hp) (D:Ends),Inv X pj σ H s->t D σ H->bi (bn X.prog X.w) X.A (execs st X.env) (SP X pj D) X.xe s
theorem thn{t:R5 α}{Q Q':α->ah->Prop}(h:bi M A t Q E s)(hQ:∀a s,Q a s->Q' a s):bi M A t Q' E s:=df h hQ λ_ _ x=>x
variable {σ:St}{ta:TE}
section
noncomputable def rC(i:Nat):TE:=λσ H Q=>∃v,σ[i]?=aa (aa v)/\Q v H
noncomputable def tC(v:V):TE:=λ_ H Q=>Q v H
theorem J5{x:bf}(hN:X.N[i]?=aa x)(hv:MB X.env.scope x)(hd:autoParam ((x==("__debug__" : bf))=ao) hG._auto_1)(hcd:autoParam ((x==("__classdict__" : bf))=ao) hG._auto_1):PE X (.Name x pos) (rC i):=by
  intro pj s σ H Q I h;obtain⟨v,e,h⟩:=h;obtain⟨m,hn,hl⟩:=I.loc;obtain⟨u,r,l⟩:=hl i x v hN e hv;have fin:EP X pj σ Q u s:=⟨v,H,I,r,h⟩;rcases l with⟨hk,hm⟩ | ⟨hk,c,hc,SY⟩
  . exact R9 (vy I.ok.kind hk hn hm fin) hd
  . rcases hk with hk | hk
    . exact R9 (wv I.ok.kind hk hc SY fin) hd
    . exact R9 (wpAny_loadName_free I.ok.kind hk hc SY fin hcd) hd
theorem JB{i j pos}:PE X (.Constant (.int i) j pos) (tC (.int i)):=λ_ _ _ H _ I h=>wpAny_Constant_int ⟨.int i,H,I.tok _,⟨_,rfl⟩,h⟩
theorem LH{b j pos}:PE X (.Constant (.bool b) j pos) (tC (.bl b)):=λ_ _ _ H _ I h=>Constant_bool ⟨.bl b,H,I,rfl,h⟩
theorem EA{j pos}:PE X (.Constant .none j pos) (tC .non):=λ_ _ _ H _ I h=>Constant_none ⟨.non,H,I,rfl,h⟩
theorem J7{x j pos}:PE X (.Constant (.str x) j pos) (tC (.str x)):=λ_ _ _ H _ I h=>Calls.Constant_str ⟨.str x,H,I.tok _,⟨_,rfl⟩,h⟩
noncomputable def Gl(X:Cx)(x:bf):Prop:=X.env.kindOf x=aa .globalImplicit
theorem fX{x:bf}{Q:ac->ah->Prop}(I:Inv X pj σ H s)(hg:Gl X x)(hm:X.mg x=aa u)(h:Q u s)
    (hd:autoParam ((x==("__debug__" : bf))=ao) hG._auto_1):bi (bn X.prog X.w) X.A (di (.Name x pos) X.env) Q E s:=
  ly I.ok.kind hg (ud (by rw[I.ok.glob];exact I.mod.glob.keeps I.bk) hm h) hd
theorem nR{x:bf}{Q:ac->ah->Prop}(I:Inv X pj σ H s)(hg:Gl X x)(hm:X.mg x=aq)(hv:kr x=aa u)(h:Q u s)
    (hn:autoParam (x ≠ "__name__") hG._auto_1) (hd:autoParam ((x==("__debug__" : bf))=ao) hG._auto_1):bi (bn X.prog X.w) X.A (di (.Name x pos) X.env) Q E s:=by
  obtain⟨mb,h1,h2⟩:=I.mod.blt;exact ly I.ok.kind hg (Calls.loadGlobal_builtin (by rw[I.ok.glob];exact I.mod.glob.keeps I.bk) hm (by rw[I.ok.blt];exact h1.keeps I.bk) ((h2 x hn).trans hv) h) hd
theorem BK{x:bf}(hg:Gl X x)(hm:X.mg x=aa u)(r:bU v u)(hd:autoParam ((x==("__debug__" : bf))=ao) hG._auto_1):PE X (.Name x pos) (tC v):=
  λ_ _ _ H _ I h=>fX I hg hm ⟨v,H,I,r,h⟩ hd
theorem gP{x:bf}(hg:Gl X x)(hm:X.mg x=aq)(hv:kr x=aa u)(r:bU v u)(hn:autoParam (x ≠ "__name__") hG._auto_1)(hd:autoParam ((x==("__debug__" : bf))=ao) hG._auto_1):PE X (.Name x pos) (tC v):=
  λ_ _ _ H _ I h=>nR I hg hm hv ⟨v,H,I,r,h⟩ hn hd
variable {a b:Expr}{tb:TE}
variable {tA tB':TT}{SW:List Expr}
noncomputable def NZ(t u:TT):TT:=λσ H Q=>t σ H λc H1=>if c=ai then u σ H1 Q else Q ao H1
noncomputable def QJ(t u:TT):TT:=λσ H Q=>t σ H λc H1=>if c=ai then Q ai H1 else u σ H1 Q
noncomputable def NR(t:TT):TT:=λσ H Q=>t σ H λc H1=>Q (!c) H1
theorem GK(ha:PT X a tA):PW X (.BoolOp .And [a] pos) tA:=by
  intro wh pj s σ H Q I h;refine isTrue_and (thn (ha pj s σ H Q I h) λc s1 e=>?_);cases c with
  |true=>exact isTrue_and_nil e
  |false=>exact e
theorem Ip(ha:PT X a tA):PW X (.BoolOp .Or [a] pos) tA:=by
  intro wh pj s σ H Q I h;refine isTrue_or (thn (ha pj s σ H Q I h) λc s1 e=>?_);cases c with
  |false=>exact isTrue_or_nil e
  |true=>exact e
theorem Iq(ha:PT X a tA)(hb:PW X (.BoolOp .And (b::SW) pos) tB'):PW X (.BoolOp .And (a::b::SW) pos) (NZ tA tB'):=by
  intro wh pj s σ H Q I h;refine isTrue_and (thn (ha pj s σ H _ I h) λc s1 zz=>?_);obtain⟨H1,I1,q1⟩:=zz;cases c with
  |true=>exact hb wh pj s1 σ H1 Q I1 q1
  |false=>exact⟨H1,I1,q1⟩
theorem L9(ha:PT X a tA)(hb:PW X (.BoolOp .Or (b::SW) pos) tB'):PW X (.BoolOp .Or (a::b::SW) pos) (QJ tA tB'):=by
  intro wh pj s σ H Q I h;refine isTrue_or (thn (ha pj s σ H _ I h) λc s1 zz=>?_);obtain⟨H1,I1,q1⟩:=zz;cases c with
  |true=>exact⟨H1,I1,q1⟩
  |false=>exact hb wh pj s1 σ H1 Q I1 q1
theorem Iv(ha:PT X a tA):PT X (.UnaryOp .Not a pos) (NR tA):=by
  intro pj s σ H Q I h;exact isTrue_not (thn (ha pj s σ H (λc H1=>Q (!c) H1) I h) λc s' z=>by cases z;exact⟨_,by assumption,by assumption⟩)
noncomputable def Kh(ta tb:TE):TE:=λσ H Q=>ta σ H λx H1=>∃c,x=.bl c/\if c=ai then tb σ H1 Q else Q (.bl ao) H1
noncomputable def NQ(ta tb:TE):TE:=λσ H Q=>ta σ H λx H1=>∃c,x=.bl c/\if c=ai then Q (.bl ai) H1 else tb σ H1 Q
noncomputable def Ka(ta:TE):TE:=λσ H Q=>ta σ H λx H1=>∃c,x=.bl c/\Q (.bl (!c)) H1
theorem J8{op}{t:TE}(h:PE X a t):PE X (.BoolOp op [a] pos) t:=λpj s σ H Q I hw=>BoolOp_one (h pj s σ H Q I hw)
theorem JE(ha:PE X a ta)(hb:PE X (.BoolOp .And (b::SW) pos) tb):PE X (.BoolOp .And (a::b::SW) pos) (Kh ta tb):=by
  intro pj s σ H Q I h;refine BoolOp_and (thn (ha pj s σ H _ I h) λv s1 zz=>?_);obtain⟨x,H1,I1,r1,q1⟩:=zz;obtain⟨c,rfl,q1⟩:=q1;cases r1;refine fc ?_;cases c with
  |true=>exact hb pj s1 σ H1 Q I1 q1
  |false=>exact⟨.bl ao,H1,I1,rfl,q1⟩
theorem LD(ha:PE X a ta)(hb:PE X (.BoolOp .Or (b::SW) pos) tb):PE X (.BoolOp .Or (a::b::SW) pos) (NQ ta tb):=by
  intro pj s σ H Q I h;refine BoolOp_or (thn (ha pj s σ H _ I h) λv s1 zz=>?_);obtain⟨x,H1,I1,r1,q1⟩:=zz;obtain⟨c,rfl,q1⟩:=q1;cases r1;refine fc ?_;cases c with
  |false=>exact hb pj s1 σ H1 Q I1 q1
  |true=>exact⟨.bl ai,H1,I1,rfl,q1⟩
theorem J9(ha:PE X a ta):PE X (.UnaryOp .Not a pos) (Ka ta):=by
  intro pj s σ H Q I h;refine UnaryOp_ (thn (ha pj s σ H _ I h) λv s1 zz=>?_);obtain⟨x,H1,I1,r1,q1⟩:=zz;obtain⟨c,rfl,q1⟩:=q1;cases r1;exact not_of (fc ⟨.bl (!c),H1,I1,rfl,q1⟩)
noncomputable def QK(t:TT)(ta tb:TE):TE:=λσ H Q=>t σ H λc H1=>if c=ai then ta σ H1 Q else tb σ H1 Q
theorem ED{c:Expr}(hc:PT X c tA)(ha:PE X a ta)(hb:PE X b tb):PE X (.IfExp c a b pos) (QK tA ta tb):=by
  intro pj s σ H Q I h;refine wpAny_IfExp (thn (hc pj s σ H _ I h) λd s1 zz=>?_);obtain⟨H1,I1,q1⟩:=zz;cases d with
  |true=>exact ha pj s1 σ H1 Q I1 q1
  |false=>exact hb pj s1 σ H1 Q I1 q1
end
noncomputable def eT(K:aj)(H:Hp)(a:af)(xs:List V):Prop:=
  Rd H a (.lst xs) \/
    ∃(o:gj) (its:Array ac) (n:Nat),K.lookup a=aa o/\o.cls=.type "list" /\ o.dict=aq/\o.data=.seq its n/\its.size<=bh/\aY xs its.toList
noncomputable def kX(K:aj)(H:Hp)(a:af)(xs:List V):Prop:=
  Rd H a (.tup xs) \/
    ∃(o:gj) (its:Array ac) (n:Nat),K.lookup a=aa o/\o.cls=.type "tuple" /\ o.data=.seq its n/\its.size<=bh/\aY xs its.toList
noncomputable def PR:ac->Option V
  | .none=>aa .non
  | .bool b=>aa (.bl b)
  | .int i _=>aa (.int i)
  | .str x _=>aa (.str x)
  | .bytes b _=>aa (.byt b)
  | .float b _=>aa (.flt b)
  | .ref a=>aa (.ref a)
  | .type n=>aa (.ty n)
  |_=>aq
theorem bU.abs{x:V}(r:bU x u):PR u=aa x:=by
  cases x with
  |non=>cases r;rfl
  |bl _=>cases r;rfl
  |int _=>obtain⟨t,rfl⟩:=r;rfl
  |str _=>obtain⟨t,rfl⟩:=r;rfl
  |byt _=>obtain⟨t,rfl⟩:=r;rfl
  |flt _=>obtain⟨t,rfl⟩:=r;rfl
  |ref _=>cases r;rfl
  |ty _=>cases r;rfl
theorem bU.inj{x y:V}{u:ac}(r:bU x u)(q:bU y u):x=y:=Option.some.inj (r.abs.symm.trans q.abs)
theorem aY.inj:∀{xs ys:List V} {us:List ac},aY xs us->aY ys us->xs=ys
  |_,_,_,.nil,.nil=>rfl
  |_,_,_,.cons r t,.cons r' t'=>by rw[r.inj r',aY.inj t t']
section
variable {xs ys:List V}
theorem eT.of(h:H a=aa (.lst xs)):eT K H a xs:=.inl (.inl h)
theorem kX.of(h:H a=aa (.tup xs)):kX K H a xs:=.inl (.inl h)
theorem Inv.list(I:Inv X pj σ H s)(h:eT X.K H a xs):∃its:List ac,aY xs its/\PlainL s.heap a its.toArray/\xs.length<=bh:=by
  rcases h with h | ⟨o,its,n,hk,hc,hd,hs,hz,r⟩
  . obtain⟨z,its,n,r,e⟩:=h.ok I.hok;exact⟨its,r,⟨_,n,e,rfl,rfl,rfl⟩,z⟩
  . refine⟨its.toList,r,⟨o,n,I.kIn a o hk,hc,hd,by simpa using hs⟩,?_⟩;have e:=r.length;simp only[xa] at e;right
theorem Inv.tuple(I:Inv X pj σ H s)(h:kX X.K H a xs):∃its:List ac,aY xs its/\SL s.heap a its.toArray/\xs.length<=bh:=by
  rcases h with h | ⟨o,its,n,hk,hc,hs,hz,r⟩
  . obtain⟨z,its,r,p⟩:=h.ok I.hok;exact⟨its,r,p,z⟩
  . refine⟨its.toList,r,⟨o,I.kIn a o hk,hc,n,by simpa using hs⟩,?_⟩;have e:=r.length;simp only[xa] at e;right
theorem Inv.list_inj(I:Inv X pj σ H s)(h:eT X.K H a xs)(h':eT X.K H a ys):xs=ys:=by
  obtain⟨its,r,⟨o,n,e,_,_,d⟩,_⟩:=I.list h;obtain⟨its',r',⟨o',n',e',_,_,d'⟩,_⟩:=I.list h';rw[e] at e';cases e';rw[d] at d';injection d' with d1 _;have:its=its':=by simpa using congrArg RN d1
  subst this;exact r.inj r'
theorem Inv.tuple_inj(I:Inv X pj σ H s)(h:kX X.K H a xs)(h':kX X.K H a ys):xs=ys:=by
  obtain⟨its,r,⟨o,e,_,n,d⟩,_⟩:=I.tuple h;obtain⟨its',r',⟨o',e',_,n',d'⟩,_⟩:=I.tuple h';rw[e] at e';cases e';rw[d] at d';injection d' with d1 _;have:its=its':=by simpa using congrArg RN d1
  subst this;exact r.inj r'
end
noncomputable abbrev Cx.wish(X:Cx)(E:ac->ah->Prop):Cx:={ X with xe:=E }
noncomputable abbrev Cx.nox(X:Cx):Cx:=X.wish λ_ _=>False
theorem Cx.Ok.wish{X:Cx}(ok:X.Ok)(E:ac->ah->Prop):(X.wish E).Ok:=
  ⟨ok.mod,ok.kind,ok.glob,ok.blt,ok.above,ok.inj,ok.has,ok.cab,ok.hd,ok.frames,ok.stk,ok.exf,ok.bs,ok.bsz,ok.noex,ok.exfs,ok.funs,ok.frf,ok.hq⟩
theorem Cx.Ok.unwish(ok:(X.wish E).Ok):X.Ok:=
  ⟨ok.mod,ok.kind,ok.glob,ok.blt,ok.above,ok.inj,ok.has,ok.cab,ok.hd,ok.frames,ok.stk,ok.exf,ok.bs,ok.bsz,ok.noex,ok.exfs,ok.funs,ok.frf,ok.hq⟩
theorem Inv.wish(I:Inv X pj σ H s)(E:ac->ah->Prop):Inv (X.wish E) pj σ H s:=⟨I.ok.wish E,I.os,I.bare,I.base,I.loc,I.cell,I.free,I.freeC,I.pin,I.hok,I.len,I.mild⟩
theorem Inv.unwish(I:Inv (X.wish E) pj σ H s):Inv X pj σ H s:=⟨I.ok.unwish,I.os,I.bare,I.base,I.loc,I.cell,I.free,I.freeC,I.pin,I.hok,I.len,I.mild⟩
theorem SP.unwish{D:Ends}{f:Flow}{s':ah}(h:SP (X.wish E) pj D f s'):SP X pj D f s':=by
  cases f with
  |next=>obtain⟨σ',H',I,q⟩:=h;exact⟨σ',H',I.unwish,q⟩
  |brk=>obtain⟨σ',H',I,q⟩:=h;exact⟨σ',H',I.unwish,q⟩
  |cont=>obtain⟨σ',H',I,q⟩:=h;exact⟨σ',H',I.unwish,q⟩
  |ret u=>obtain⟨v,σ',H',I,r,q⟩:=h;exact⟨v,σ',H',I.unwish,r,q⟩
theorem pP.nox{st:List gg}{t:TS}(h:pP X.nox st t):pP X st t:=λpj s σ H D I hw=>
  df (h pj s σ H D (I.wish _) hw) (λ_ _ q=>q.unwish) λ_ _ z=>cb z
variable {tc:TT}{te:TE}
section
variable {SW:List gg}{t u:TS}
noncomputable def Kb:TS:=λD σ H=>D.nx σ H
noncomputable def NN(t u:TS):TS:=λD σ H=>t { D with nx:=u D } σ H
theorem BG:pP X [] Kb:=λ_ _ σ H _ I h=>jl ⟨σ,H,I,h⟩
theorem jR(h1:PS X st t)(h2:pP X SW u):pP X (st::SW) (NN t u):=by
  intro pj s σ H D I h;refine mh (thn (h1 pj s σ H { D with nx:=u D } I h) λf s1 q=>?_);cases f with
  |next=>
    obtain⟨σ',H',I',q⟩:=q;exact h2 pj s1 σ' H' D I' q
  |ret v=>exact q
  |brk=>exact q
  |cont=>exact q
theorem BF(h1:PS X st t):pP X [st] t:=by
  intro pj s σ H D I h;refine mh (thn (h1 pj s σ H D I h) λf s1 q=>?_);cases f with
  |next=>exact jl q
  |ret v=>exact q
  |brk=>exact q
  |cont=>exact q
theorem Inv.quiet(I:Inv X pj σ H s):interactive X.env=ao:=by simp[interactive,I.ok.kind]
noncomputable def Kd(te:TE):TS:=λD σ H=>te σ H λ_ H1=>D.nx σ H1
theorem rS(he:PE X e te)(hs:autoParam (eh e aq pos.line X.env=fo ao) b7._auto_1):PS X (.Expr e pos) (Kd te):=by
  intro pj s σ H D I h;exact vz (thn (he pj s σ H _ I h) λv s1 zq3=>by obtain⟨x,H1,I1,r1,q1⟩:=zq3;exact⟨σ,H1,I1,q1⟩) I.quiet hs
noncomputable def NO(te:TE):TS:=λD σ H=>te σ H D.rt
theorem Iw(he:PE X e te):PS X (.Return (aa e) pos) (NO te):=by
  intro pj s σ H D I h;exact yc (thn (he pj s σ H _ I h) λv s1 zq4=>by obtain⟨x,H1,I1,r1,q1⟩:=zq4;exact⟨x,σ,H1,I1,r1,q1⟩)
noncomputable def NT(c:TT)(t u:TS):TS:=λD σ H=>c σ H λb H1=>if b=ai then t D σ H1 else u D σ H1
theorem E3{c:Expr}{a b:List gg}(hc:PT X c tc)(ha:pP X a t)(hb:pP X b u):PS X (.If c a b pos) (NT tc t u):=by
  intro pj s σ H D I h;refine wpAny_If (thn (hc pj s σ H _ I h) λd s1 zz=>?_);obtain⟨H1,I1,q1⟩:=zz;cases d with
  |true=>exact ha pj s1 σ H1 D I1 q1
  |false=>exact hb pj s1 σ H1 D I1 q1
noncomputable def IV:TS:=λ_ _ _=>False
theorem Dz:PS X st IV:=λ_ _ _ _ _ _ h=>h.elim
end
noncomputable abbrev TG:=V->St->Hp->(St->Hp->Prop)->Prop
noncomputable abbrev IK:=List V->St->Hp->(St->Hp->Prop)->Prop
noncomputable def PG(X:Cx)(target:Expr)(t:TG):Prop:=
  ∀(pj:List (af×gj)) (s:ah) (σ:St) (H:Hp) (v:V) (u:ac) (Q:St->Hp->Prop),Inv X pj σ H s->bU v u->t v σ H Q ->
    bi (bn X.prog X.w) X.A (uo target X.env u) (λ_ s'=>∃σ' H',Inv X pj σ' H' s'/\Q σ' H') X.xe s
noncomputable def ME(X:Cx)(ts:List Expr)(t:IK):Prop:=
  ∀(pj:List (af×gj)) (s:ah) (σ:St) (H:Hp) (vs:List V) (us:List ac) (Q:St->Hp->Prop),Inv X pj σ H s->aY vs us->t vs σ H Q ->
    bi (bn X.prog X.w) X.A (assignInOrder ((lz ts X.env).map (·.2)) us) (λ_ s'=>∃σ' H',Inv X pj σ' H' s'/\Q σ' H') X.xe s
noncomputable abbrev Fj:=V->V->V->Hp->(Hp->Prop)->Prop
noncomputable def K4(X:Cx)(t:Fj):Prop:=
  ∀(pj:List (af×gj)) (s:ah) (σ:St) (H:Hp) (o i v:V) (ov iv u:ac) (Q:Hp->Prop),Inv X pj σ H s->bU o ov->bU i iv->bU v u->t o i v H Q ->
    bi (bn X.prog X.w) X.A (yd ov iv u) (λ_ s'=>∃H',Inv X pj σ H' s'/\Q H') X.xe s
noncomputable abbrev sB:=V->V->Hp->VK->Prop
noncomputable def PX(X:Cx)(op:ue)(t:sB):Prop:=
  ∀(pj:List (af×gj)) (s:ah) (σ:St) (H:Hp) (x y:V) (v u:ac) (Q:VK),Inv X pj σ H s->bU x v->bU y u->t x y H Q ->
    bi (bn X.prog X.w) X.A (zc op v u) (EP X pj σ Q) X.xe s
variable {to ti:TE}{g:TG}{T7 tpos:gm}{tb:TS}
noncomputable def yW(i:Nat):TG:=λv σ H Q=>Q (σ.set i (aa v)) H
theorem eR{x:bf}(hN:X.N.Nodup)(hi:X.N[i]?=aa x)(hx:xC X.env.scope x)(hf:autoParam (X.fn x=ai \/ X.env.scope.names.lookup x=aa .local) xA._auto_1):PG X (.Name x pos) (yW i):=by
  intro pj s σ H v u Q I r h;exact ye (lE I hN hi hx r (λs' I'=>⟨_,H,I',h⟩) hf)
noncomputable def Ln:IK:=λvs σ H Q=>vs=[]/\Q σ H
noncomputable def IG(t:TG)(u:IK):IK:=λvs σ H Q=>∃v r,vs=v::r/\t v σ H λσ' H'=>u r σ' H' Q
theorem p6:ME X [] Ln:=by
  intro pj s σ H vs us Q I r h;obtain⟨e,h⟩:=h;subst e;cases r;exact assignInOrder_nil ⟨σ,H,I,h⟩
theorem e7{t:TG}{u:IK}(h1:PG X e t)(h2:ME X es u)
    (hs:autoParam ((lz (e::es) X.env).map (·.2)=uo e X.env::(lz es X.env).map (·.2)) b7._auto_1):ME X (e::es) (IG t u):=by
  intro pj s σ H vs us Q I r h;obtain⟨v,vr,e1,h⟩:=h;subst e1;cases r with
  |cons r rr=>
    rw[hs];refine assignInOrder_cons (thn (h1 pj s σ H _ _ _ I r h) λ_ s1 zz=>?_);obtain⟨σ1,H1,I1,q1⟩:=zz;exact h2 pj s1 σ1 H1 _ _ Q I1 rr q1
noncomputable def Oo(K:aj)(n:Nat)(t:IK):TG:=λv σ H Q=>∃a xs,v=.ref a/\kX K H a xs/\xs.length=n/\t xs σ H Q
theorem J2{k:Nat}{t:IK}(hc:X.calm=ai)(h:ME X es t)
    (hn:autoParam ((lz es X.env).length=n) b7._auto_1) (hst:autoParam ((lz es X.env).findIdx? (·.1)=aq) b7._auto_1):PG X (.Tuple es k pos) (Oo X.K n t):=by
  intro pj s σ H v u Q I r hw;obtain⟨a,xs,e1,hq,hl,hw⟩:=hw;subst e1;cases r;obtain⟨its,rv,ht,hz⟩:=I.tuple hq;refine assign_Tuple_tuple (I.ok.hd hc) ht (by simp[hn,<- hl,rv.length]) hst λh' hx=>?_;have I1:Inv X pj σ H { s with heap:=h' }:=I.kept (t':=s.toks) λb o e=>hx b o (eu (be e)) e;exact h pj _ σ H xs _ Q I1 (by simpa using rv) hw
noncomputable def Op(to ti:TE)(t:Fj):TG:=λv σ H Q=>to σ H λo H1=>ti σ H1 λi H2=>t o i v H2 λH3=>Q σ H3
theorem J3{o i:Expr}{t:Fj}(ho:PE X o to)(hi:PE X i ti)(hs:K4 X t)
    (ha:autoParam (∀v,uo (.Subscript o i pos) X.env v=(do
      let ov <- ku [v] (di o X.env)
      let iv <- ku [v,ov] (di i X.env)
      qp pos
      ku [v,ov,iv] (yd ov iv v)
      RO [v,ov,iv] [])) B1._auto_1):PG X (.Subscript o i pos) (Op to ti t):=by
  intro pj s σ H v u Q I r h;rw[ha];refine ae (gf (thn (ho pj s σ H _ I h) λov s1 zz=>?_));obtain⟨x,H1,I1,r1,q1⟩:=zz;refine ae (gf (thn (hi pj s1 σ H1 _ I1 q1) λiv s2 zz=>?_));obtain⟨y,H2,I2,r2,q2⟩:=zz;refine ae (mq (ae (gf (thn (hs pj s2 σ H2 x y v ov iv u _ I2 r1 r2 r q2) λ_ s3 zz=>?_))));obtain⟨H3,I3,q3⟩:=zz;exact wpAny_release ⟨σ,H3,I3,q3⟩
noncomputable def G4(te:TE)(g:TG):TS:=λD σ H=>te σ H λx H1=>g x σ H1 D.nx
theorem Iz(he:PE X e te)(hg:PG X tg g)(hs:autoParam (swapsWithSole [tg] e pos.line X.env=fo ao) b7._auto_1)(hw:autoParam (swappedStores [tg] e X.env=fo aq) b7._auto_1)
    (h1:autoParam ((lz [tg] X.env).map (·.2)=[uo tg X.env]) b7._auto_1):PS X (.Assign [tg] e pos) (G4 te g):=by
  intro pj s σ H D I h;refine wpAny_Assign_stores (thn (he pj s σ H _ I h) λv s1 ⟨x,H1,I1,r1,q1⟩=>?_) hs hw;rw[h1];exact thn (hg pj s1 σ H1 x v _ I1 r1 q1) λ_ s2 q=>by obtain⟨σ',H',I',q⟩:=q;exact⟨σ',H',I',q⟩
theorem vP{x:bf}(hN:X.N.Nodup)(hi:X.N[i]?=aa x)(hx:xC X.env.scope x)(he:PE X e te)(hs:autoParam (eh e (aa (.Name x T7)) pos.line X.env=fo ao) b7._auto_1)(hf:autoParam (X.fn x=ai \/ X.env.scope.names.lookup x=aa .local) xA._auto_1):
    PS X (.Assign [.Name x T7] e pos) (G4 te (yW i)):=by
  intro pj s σ H D I h;refine sx (thn (he pj s σ H _ I h) λv s1 ⟨y,H1,I1,r1,q1⟩=>?_) hs;exact lE I1 hN hi hx r1 (λs2 I2=>⟨_,H1,I2,q1⟩) hf
noncomputable def NY(i:Nat)(te:TE)(ti:sB):TS:=λD σ H=>∃x,σ[i]?=aa (aa x)/\te σ H λy H1=>ti x y H1 λz H2=>D.nx (σ.set i (aa z)) H2
theorem Iy{x:bf}{op:ue}{ti:sB}(hN:X.N.Nodup)(hi:X.N[i]?=aa x)(hx:xC X.env.scope x)(he:PE X e te)(ho:PX X op ti)(hf:autoParam (X.fn x=ai \/ X.env.scope.names.lookup x=aa .local) xA._auto_1):
    PS X (.AugAssign (.Name x T7) op e pos) (NY i te ti):=by
  intro pj s σ H D I h;obtain⟨v,e1,h⟩:=h;obtain⟨m,hn,hl⟩:=I.loc;have vis:MB X.env.scope x:=by rcases hx with k | k;exact .inl k;exact .inr (.inl k)
  obtain⟨u,r,l⟩:=hl i x v hi e1 vis;refine wpAny_AugAssign_Name ?_;have go:bi (bn X.prog X.w) X.A (di e X.env) (λw s₂=>bi (bn X.prog X.w) X.A (zc op u w) (λr s₃=>bi (bn X.prog X.w) X.A (RE X.env x r) (λ_=>SP X pj D .next) X.xe s₃) X.xe s₂) X.xe s:=by
    refine thn (he pj s σ H _ I h) λw s1 zz=>?_;obtain⟨y,H1,I1,r1,q1⟩:=zz;refine thn (ho pj s1 σ H1 v y u w _ I1 r r1 q1) λz s2 zz=>?_;obtain⟨zv,H2,I2,r2,q2⟩:=zz;exact lE I2 hN hi hx r2 (λs3 I3=>⟨_,H2,I3,q2⟩) hf
  rcases l with⟨hk,hm⟩ | ⟨hk,c,hc,SY⟩
  . exact vy I.ok.kind hk hn hm go
  . rcases hk with hk | hk
    . exact wv I.ok.kind hk hc SY go
    . rcases hx with k | k
      . have:X.env.scope.names.lookup x=aa .free:=hk;rw[k] at this;cases this
      . have:X.env.scope.names.lookup x=aa .free:=hk;rw[k] at this;cases this
noncomputable def Kg(to ti te:TE)(tget:V->V->Hp->VK->Prop)(tip:sB)(tset:Fj):TS:=λD σ H=>to σ H λo H1=>ti σ H1 λi H2=>tget o i H2 λx H3=>te σ H3 λy H4=>tip x y H4 λz H5=>tset o i z H5 λH6=>D.nx σ H6
noncomputable def MG(X:Cx)(t:V->V->Hp->VK->Prop):Prop:=
  ∀(pj:List (af×gj)) (s:ah) (σ:St) (H:Hp) (o i:V) (ov iv:ac) (Q:VK),Inv X pj σ H s->bU o ov->bU i iv->t o i H Q ->
    bi (bn X.prog X.w) X.A (wm ov iv) (EP X pj σ Q) X.xe s
theorem GQ{o i:Expr}{tget:V->V->Hp->VK->Prop}{tip:sB}{tset:Fj}{op:ue}(ho:PE X o to)(hi:PE X i ti)(hg:MG X tget)(he:PE X e te)(hp:PX X op tip)(hs:K4 X tset)
    (ha:autoParam (∀ov iv new,augStore i ov iv new=(do ku [new,ov,iv] (yd ov iv new);RO [new,ov,iv] [];fo .next)) Pf._auto_1):PS X (.AugAssign (.Subscript o i tpos) op e pos) (Kg to ti te tget tip tset):=by
  intro pj s σ H D I h;refine wpAny_AugAssign_SubscriptAny (thn (ho pj s σ H _ I h) λov s1 ⟨x1,H1,I1,r1,q1⟩=>?_) ha;refine thn (hi pj s1 σ H1 _ I1 q1) λiv s2 zz=>?_;obtain⟨x2,H2,I2,r2,q2⟩:=zz;refine thn (hg pj s2 σ H2 x1 x2 ov iv _ I2 r1 r2 q2) λold s3 zz=>?_;obtain⟨x3,H3,I3,r3,q3⟩:=zz;refine thn (he pj s3 σ H3 _ I3 q3) λv s4 zz=>?_;obtain⟨x4,H4,I4,r4,q4⟩:=zz;refine thn (hp pj s4 σ H4 x3 x4 old v _ I4 r3 r4 q4) λnew s5 zz=>?_;obtain⟨x5,H5,I5,r5,q5⟩:=zz;exact thn (hs pj s5 σ H5 x1 x2 x5 ov iv new _ I5 r1 r2 r5 q5) λ_ s6 zq5=>by obtain⟨H6,I6,q6⟩:=zq5;exact⟨σ,H6,I6,q6⟩
noncomputable def QP(f:Int->Int->Int):sB:=λx y H Q=>∃i j,x=.int i/\y=.int j/\Q (.int (f i j)) H
theorem Jl:PX X .Add (QP λi j=>i+j):=by
  intro pj s σ H x y v u Q I r1 r2 h;obtain⟨i,j,e1,e2,q⟩:=h;subst e1;subst e2;obtain⟨t,rfl⟩:=r1;obtain⟨t',rfl⟩:=r2;exact iadd_int ⟨.int _,H,I.tok _,⟨_,rfl⟩,q⟩
noncomputable def IT(c:TT)(tb:TS):TS:=λD σ H=>∃W:Nat->St->Hp->Prop,(∃m,W m σ H) /\ ∀m σ H,W m σ H ->
  c σ H λb H1=>if b=ai then ∃N:St->Hp->Prop,(∀σ' H',N σ' H' -> ∃m',m'<m/\W m' σ' H')/\tb { D with nx:=N,ct:=N,bk:=D.nx } σ H1 else D.nx σ H1
theorem Dx{c:Expr}(hp:zd (bn X.prog X.w) X.A X.env X.xe)(hc:PT X c tc)(hb:pP X T1 tb):PS X (.While c T1 [] pos) (IT tc tb):=by
  intro pj s σ H D I h;obtain⟨W,⟨m0,w0⟩,turn⟩:=h;refine wpAny_While (codeAny_whileLoop (λn s'=>∃σ' H',Inv X pj σ' H' s'/\W n σ' H') ?_ m0 ⟨σ,H,I,w0⟩);rintro n s1 ⟨σ1,H1,I1,w1⟩;refine jm hp (thn (hc pj s1 σ1 H1 _ I1 (turn n σ1 H1 w1)) λb s2 zz=>?_);obtain⟨H2,I2,q2⟩:=zz;cases b with
  |true=>
    obtain⟨N,hN,q2⟩:=q2;rw[SS rfl];refine jm hp (thn (hb pj s2 σ1 H2 _ I2 q2) λf s3 q3=>?_);cases f with
    |next=>
      obtain⟨σ3,H3,I3,n3⟩:=q3;obtain⟨m',hm,w3⟩:=hN σ3 H3 n3;exact⟨m',hm,σ3,H3,I3,w3⟩
    |cont=>
      obtain⟨σ3,H3,I3,n3⟩:=q3;obtain⟨m',hm,w3⟩:=hN σ3 H3 n3;exact⟨m',hm,σ3,H3,I3,w3⟩
    |brk=>exact q3
    |ret v=>exact q3
  |false=>
    rw[Sm ie];exact jl ⟨σ1,H2,I2,q2⟩
structure It where
  go:Nat->Hp->Prop
  yld:Nat->Hp->V->Hp->Prop
  stop:Nat->Hp->Prop
noncomputable def tU(X:Cx)(pj:List (af×gj))(H:Hp)(b:af):Prop:=
  H b=aq/\b≠X.env.locals/\b ∉ X.fs/\(b∈X.ex \/ X.s₀.heap.objs.size<=b)/\(∀x c,X.env.cells.lookup x=aa c->c≠b) /\ ∀p∈X.pn++pj,p.1≠b
theorem Inv.fpOk(I:Inv X pj σ H s)(hb:s.heap.objs.size<=b)(hn:H' b=aq):tU X pj H' b:=by
  refine⟨hn,vq (cm I.lt hb),I.nofs hb,.inr (jo I.sz hb),λx c e z=>?_,λp hp z=>?_⟩
  . obtain⟨v,q⟩:=I.cell x c e;exact absurd (cm q.lt (by rw[z];exact hb)) (iz _)
  . exact absurd (cm (be (I.pin p hp).1) (by rw[z];exact hb)) (iz _)
structure Turn(P:ay)(w:bg)(K:aj)(tg:Expr)(J:It)(fp:List af)(it:af)(tn:Nat->br->Prop):Prop where
  mem:it∈fp
  obj:∀i h,tn i h -> ∀b∈fp,∃o,h.get? b=aa o /\ ∀v,o.data ≠ .cell v
  keep:∀i h h',tn i h->(∀b∈fp,∀o,h.get? b=aa o->h'.get? b=aa o)->tn i h'
  item:∀(X:Cx),X.prog=P->X.w=w->X.K=K->X.N=X.N -> ∀(i:Nat) (pj:List (af×gj)) (s:ah) (σ:St) (H:Hp) (E:ac->ah->Prop),Inv X pj σ H s->(∀b∈fp,tU X pj H b)->tn i s.heap->J.go i H ->
    bi (bn P w) X.A (lu (.ref it)) (λr s1=>∃u,r=aa u /\
      bi (bn P w) X.A (qh tg (.ref it) u) (λ_ s2=>∃x H',Inv X pj σ H' s2/\bU x u/\J.yld i H x H'/\tn (i+1) s2.heap /\ ∀b∈fp,H' b=aq) E s1) E s
  done:∀(X:Cx),X.prog=P->X.w=w->X.K=K->X.N=X.N -> ∀(i:Nat) (pj:List (af×gj)) (s:ah) (σ:St) (H:Hp) (E:ac->ah->Prop),Inv X pj σ H s->(∀b∈fp,tU X pj H b)->tn i s.heap->J.stop i H ->
    bi (bn P w) X.A (lu (.ref it)) (λr s1=>r=aq/\Inv X pj σ H s1) E s
  self:∀(A:bu) (i:Nat) (s:ah) (Q:ac->ah->Prop) (E:ac->ah->Prop),tn i s.heap->Q (.ref it) s->bi (bn P w) A (SA (.ref it)) Q E s
noncomputable abbrev TI:=St->Hp->(It->Hp->Prop)->Prop
noncomputable def Q8(X:Cx)(pj:List (af×gj))(σ:St)(tg:Expr)(R:It->Hp->Prop)(itv:ac)(s2:ah):Prop:=
  ∃(it:af) (fp:List af) (tn:Nat->br->Prop) (J:It) (H':Hp),itv=.ref it/\Inv X pj σ H' s2/\Turn X.prog X.w X.K tg J fp it tn/\tn 0 s2.heap/\(∀b∈fp,tU X pj H' b)/\R J H'
noncomputable def PI(X:Cx)(tg iter:Expr)(wi:TI):Prop:=
  ∀(pj:List (af×gj)) (s:ah) (σ:St) (H:Hp) (R:It->Hp->Prop),Inv X pj σ H s->wi σ H R ->
    bi (bn X.prog X.w) X.A (di iter X.env) (λv s1=>bi (bn X.prog X.w) X.A (SA v) (Q8 X pj σ tg R) X.xe s1) X.xe s
theorem FD{n:String}{vs:Array ac}(ho:s.heap.get? it=aa o)(hc:o.cls=.type n)(hd:o.data=.fields vs)
    (hn:["enumerate", "zip", "dict_itemiterator", "dict_reverseitemiterator", "odict_iterator", "itertools.zip_longest", "itertools.pairwise"].contains n=ao) (hQ:Q () s):bi M A (qh tg (.ref it) u) Q E s:=by
  unfold qh;cases tg<;>first
    |exact az hQ
    | (cases u<;>first
        |exact az hQ
        | (refine ae (xl ho ?_)
           rw[hc,hd];show bi M A (if (["enumerate", "zip", "dict_itemiterator", "dict_reverseitemiterator", "odict_iterator", "itertools.zip_longest", "itertools.pairwise"].contains n&&vs[0]?==aa (li _))=ai then _ else _) Q E s;rw[Sm (by intro h;rw[hn,Bool.false_and] at h;cases h)];exact az hQ))
noncomputable def MI(K:aj)(a:af):It:=
  ⟨λi H=>∃xs x,eT K H a xs/\xs[i]?=aa x,λi H x H'=>H'=H /\ ∀xs,eT K H a xs->xs[i]?=aa x,λi H=>∃xs,eT K H a xs/\xs.length<=i⟩
noncomputable def Pb(K:aj)(a:af):It:=
  ⟨λi H=>∃xs x,kX K H a xs/\xs[i]?=aa x,λi H x H'=>H'=H /\ ∀xs,kX K H a xs->xs[i]?=aa x,λi H=>∃xs,kX K H a xs/\xs.length<=i⟩
noncomputable def MH(lo:Int)(n:Nat):It:=⟨λi _=>i<n,λi H x H'=>H'=H/\x=.int (lo+i),λi _=>n<=i⟩
theorem Bl(a it:af):Turn P w K tg (MI K a) [it] it (λi h=>h.IsListIter it a i) where
  mem:=by simp
  obj:=λi h st b hb=>by
    have e:b=it:=by simpa using hb
    subst e;obtain⟨o,e,c,d⟩:=st;exact⟨o,e,λv z=>by rw[d] at z;cases z⟩
  keep:=λi h h' st k=>st.at λo e=>k it (by simp) o e
  item:=by
    intro X hP hw hK hc i pj s σ H E I hf st hg;subst hP hw hK;obtain⟨xs,x,hq,hx⟩:=hg;obtain⟨its,rv,p,hz⟩:=I.list hq;obtain⟨u,hu,ru⟩:=rv.get hx;obtain⟨f0,f1,f2,f3,f4,f5⟩:=hf it (by simp);refine um st p.isList (x:=u) (by simpa using hu) λh' st' sb=>?_;have I1:Inv X pj σ H { s with heap:=h' }:=I.turned (t':=s.toks) (λb o hb e=>(sb.2 b hb).trans e) f0 f1 f3 f4 f5;obtain⟨o,e,c,d⟩:=id st';exact⟨u,rfl,FD (s:={ s with heap:=h' }) e c d ∅ ⟨x,H,I1,ru,⟨rfl,λys hy=>by rw[I.list_inj hy hq];exact hx⟩,st',λb hb=>(hf b hb).1⟩⟩
  done:=by
    intro X hP hw hK hc i pj s σ H E I hf st hg;subst hP hw hK;obtain⟨xs,hq,hx⟩:=hg;obtain⟨its,rv,p,hz⟩:=I.list hq;obtain⟨f0,f1,f2,f3,f4,f5⟩:=hf it (by simp);have hl:=rv.length;exact z4 I.qu st p.isList (by simp;right) λh' eb=>⟨rfl,I.turned (t':=s.toks) (λb o hb e=>eb b o hb e) f0 f1 f3 f4 f5⟩
  self:=λ_ _ _ _ _ st h=>vj st h
theorem A1(a it:af):Turn P w K tg (Pb K a) [it] it (λi h=>h.IsTupleIter it a i) where
  mem:=by simp
  obj:=λi h st b hb=>by
    have e:b=it:=by simpa using hb
    subst e;obtain⟨o,e,c,d⟩:=st;exact⟨o,e,λv z=>by rw[d] at z;cases z⟩
  keep:=λi h h' st k=>st.at λo e=>k it (by simp) o e
  item:=by
    intro X hP hw hK hc i pj s σ H E I hf st hg;subst hP hw hK;obtain⟨xs,x,hq,hx⟩:=hg;obtain⟨its,rv,p,hz⟩:=I.tuple hq;obtain⟨u,hu,ru⟩:=rv.get hx;obtain⟨f0,f1,f2,f3,f4,f5⟩:=hf it (by simp);refine wpAny_pyNext_tuple_item st (show s.heap.IsTuple a its.toArray from p) (x:=u) (by simpa using hu) λh' st' sb=>?_;have I1:Inv X pj σ H { s with heap:=h' }:=I.turned (t':=s.toks) (λb o hb e=>(sb.2 b hb).trans e) f0 f1 f3 f4 f5;obtain⟨o,e,c,d⟩:=id st';exact⟨u,rfl,FD (s:={ s with heap:=h' }) e c d ∅ ⟨x,H,I1,ru,⟨rfl,λys hy=>by rw[I.tuple_inj hy hq];exact hx⟩,st',λb hb=>(hf b hb).1⟩⟩
  done:=by
    intro X hP hw hK hc i pj s σ H E I hf st hg;subst hP hw hK;obtain⟨xs,hq,hx⟩:=hg;obtain⟨its,rv,p,hz⟩:=I.tuple hq;obtain⟨f0,f1,f2,f3,f4,f5⟩:=hf it (by simp);have hl:=rv.length;exact Cv I.qu st (show s.heap.IsTuple a its.toArray from p) (by simp;right) λh' eb=>⟨rfl,I.turned (t':=s.toks) (λb o hb e=>eb b o hb e) f0 f1 f3 f4 f5⟩
  self:=λ_ _ _ _ _ st h=>wpAny_pyIter_tupleiter st h
theorem A2(it:af)(lo:Int)(n:Nat):Turn P w K tg (MH lo n) [it] it (λi h=>sw h it (lo+(i:Nat)*1) ((n:Int)-(i:Nat)) 1) where
  mem:=by simp
  obj:=λi h st b hb=>by
    have e:b=it:=by simpa using hb
    subst e;exact⟨_,st,λv z=>by
      have z':Data.fields _=Data.cell v:=z;cases z'⟩
  keep:=λi h h' st k=>k it (by simp) _ st
  item:=by
    intro X hP hw hK hc i pj s σ H E I hf st hg;subst hP hw hK;obtain⟨f0,f1,f2,f3,f4,f5⟩:=hf it (by simp);refine Ah hg st λv h' tk hv st' kk=>?_;obtain⟨t,rfl⟩:=hv;have I1:Inv X pj σ H { s with heap:=h',toks:=tk }:=I.turned (λb o hb e=>kk b o (by simpa using hb) e) f0 f1 f3 f4 f5;refine⟨_,rfl,FD (s:={ s with heap:=h',toks:=tk }) (n:="range_iterator") st' rfl rfl ∅ ⟨.int (lo+i),H,I1,⟨t,?_⟩,⟨rfl,rfl⟩,st',λb hb=>(hf b hb).1⟩⟩;rw[Sg]
  done:=by
    intro X hP hw hK hc i pj s σ H E I hf st hg;subst hP hw hK;obtain⟨f0,f1,f2,f3,f4,f5⟩:=hf it (by simp);exact Cw I.qu st (by have:n<=i:=hg;right) λh' eb=>⟨rfl,I.turned (t':=s.toks) (λb o hb e=>eb b o hb e) f0 f1 f3 f4 f5⟩
  self:=λ_ _ _ _ _ st h=>wpAny_pyIter_rangeiter st h
variable {fp:List af}
theorem xQ{R:It->Hp->Prop}{hi:Int}{t u v:SR}{tk:Nat}(I:Inv X pj σ H s)(h1:-(2 ^ 62)<=lo)(h2:lo<2 ^ 62)(h3:-(2 ^ 62)<=hi)(h4:hi<2 ^ 62)
    (q:R (MH lo (hi-lo).toNat) H):bi (bn X.prog X.w) X.A (SA (.ref s.heap.objs.size)) (Q8 X pj σ tg R) E { s with heap:=s.heap.push { cls:=.type "range",data:=.fields #[.int lo t,.int hi u,.int 1 v] },toks:=tk }:=by
  refine wpAny_pyIter_range (IsRange.new ..) (small_one h1 h2 h3 h4) ?_;have I1:Inv X pj σ H { s with heap:=s.heap.push { cls:=.type "range",data:=.fields #[.int lo t,.int hi u,.int 1 v] },toks:=tk }:=I.kept λb o e=>av _ e;refine⟨(s.heap.push { cls:=.type "range",data:=.fields #[.int lo t,.int hi u,.int 1 v] }).objs.size,[(s.heap.push { cls:=.type "range",data:=.fields #[.int lo t,.int hi u,.int 1 v] }).objs.size],_,_,H,rfl,
    I1.kept (t':=tk) λb o e=>av _ e,A2 _ lo (hi-lo).toNat,?_,λb hb=>?_,q⟩
  . have e1:lo+((0:Nat):Int)*1=lo:=by simp
    have e2:(((hi-lo).toNat:Nat):Int)-((0:Nat):Int)=nh lo hi 1:=by rw[rangeSize_one];split<;>right
    show sw _ _ (lo+((0:Nat):Int)*1) ((((hi-lo).toNat:Nat):Int)-((0:Nat):Int)) 1;rw[e1,e2];exact bq _ rfl
  . have e:b=(s.heap.push { cls:=.type "range",data:=.fields #[.int lo t,.int hi u,.int 1 v] }).objs.size:=by simpa using hb
    subst e;exact I1.fpOk (bo _) (I1.hok.fresh (bo _))
noncomputable def Lj(ta:TA):TI:=λσ H R=>ta σ H λvs H1=>∃j:Int,vs=[.int j] /\ -(2 ^ 62)<=j/\j<2 ^ 62/\R (MH 0 j.toNat) H1
noncomputable def Li(ta:TA):TI:=λσ H R=>ta σ H λvs H1=>∃i j:Int,vs=[.int i,.int j]/\(-(2 ^ 62)<=i/\i<2 ^ 62 /\ -(2 ^ 62)<=j/\j<2 ^ 62)/\R (MH i (j-i).toNat) H1
theorem C6{a:Expr}{ta:TA}(hg:Gl X "range")(hm:X.mg "range" = aq)(ha:PA X [a] ta)(hs:autoParam (au [a] X.env=[(ao,di a X.env)]) b7._auto_1):PI X tg (.Call (.Name "range" p) [a] [] pos) (Lj ta):=by
  intro pj s σ H R I h;refine Call_ (nR I hg hm Ra (gq (thn (ha pos pj s σ H _ I h) λus s1 ⟨vs,H1,I1,r1,q1⟩=>?_) hs rfl));obtain⟨j,e,q1,q2,q⟩:=q1;subst e;cases r1 with
  |cons r rr=>
    cases rr;obtain⟨t,rfl⟩:=r;exact call_range_1 (xQ I1 ⋯ ⋯ q1 q2 (by simpa using q))
theorem C5{a b:Expr}{ta:TA}(hg:Gl X "range")(hm:X.mg "range" = aq)(ha:PA X [a,b] ta)(hs:autoParam (au [a,b] X.env=[(ao,di a X.env),(ao,di b X.env)]) b7._auto_1)(hs2:autoParam (au [b] X.env=[(ao,di b X.env)]) b7._auto_1):
    PI X tg (.Call (.Name "range" p) [a,b] [] pos) (Li ta):=by
  intro pj s σ H R I h;refine Call_ (nR I hg hm Ra (gq (thn (ha pos pj s σ H _ I h) λus s1 ⟨vs,H1,I1,r1,q1⟩=>?_) (by rw[hs,hs2]) (by rw[hs2];rfl)));obtain⟨i,j,e,⟨q1,q2,q3,q4⟩,q⟩:=q1;subst e;cases r1 with
  |cons r rr=>
    cases rr with
    |cons r' rr=>
      cases rr;obtain⟨t,rfl⟩:=r;obtain⟨t',rfl⟩:=r';exact call_range_2 (xQ I1 q1 q2 q3 q4 q)
noncomputable def NU(wi:TI)(g:TG)(tb:TS):TS:=λD σ H=>wi σ H λJ H1=>∃W:Nat->Nat->St->Hp->Prop,(∃m,W 0 m σ H1) /\ ∀i m σ H,W i m σ H ->
  (J.stop i H/\D.nx σ H) \/ (J.go i H /\ ∃N:St->Hp->Prop,(∀σ' H',N σ' H' -> ∃m',m'<m/\W (i+1) m' σ' H') /\ ∀x H',J.yld i H x H'->g x σ H' λσ2 H2=>tb { D with nx:=N,ct:=N,bk:=D.nx } σ2 H2)
noncomputable def sX(fp:List af)(h:br):List (af×gj):=fp.filterMap λb=>(h.get? b).map λo=>(b,o)
theorem kH(hb:b∈fp)(e:h.get? b=aa o):(b,o)∈sX fp h:=tz.mpr ⟨b,hb,by rw[e];rfl⟩
theorem CP{p:af×gj}(hp:p∈sX fp h):p.1∈fp/\h.get? p.1=aa p.2:=by
  obtain⟨b,hb,e⟩:=tz.mp hp;cases q:h.get? b with
  |none=>rw[q] at e;cases e
  |some o=>
    rw[q] at e;have e':(b,o)=p:=Option.some.inj e;subst e';exact⟨hb,q⟩
theorem Inv.pinned(I:Inv X pj σ H s)(hf:∀b∈fp,tU X pj H b)(ho:∀b∈fp,∃o,s.heap.get? b=aa o /\ ∀v,o.data ≠ .cell v):Inv X (pj++sX fp s.heap) σ H s:=
  I.pins_of λp hp=>(fu.mp hp).elim (λz=>I.pin p (dh _ z)) λz=>by
    obtain⟨hb,e⟩:=CP z;obtain⟨f0,f1,f2,_⟩:=hf p.1 hb;obtain⟨o,e',d⟩:=ho p.1 hb;rw[e] at e';cases e';exact⟨e,f0,f1,f2,d⟩
theorem Inv.unpinned{pl:List (af×gj)}(I:Inv X (pj++pl) σ H s):Inv X pj σ H s:=I.pins_of λp hp=>I.pin p (dh _ (gw _ hp))
theorem AG{iter:Expr}{wi:TI}(hp:zd (bn X.prog X.w) X.A X.env X.xe)(hc:X.N=X.N)(hi:PI X tg iter wi)(hg:PG X tg g)(hb:pP X T1 tb)
    (hs:autoParam (∀x,fe iter X.env x=fo x) B1._auto_1):PS X (.For tg iter T1 [] pos) (NU wi g tb):=by
  intro pj s σ H D I h;refine wpAny_For (thn (hi pj s σ H _ I h) λv s1 h1=>thn h1 λitv s2 h2=>?_) hs;obtain⟨it,fp,tn,J,H2,e,I2,T,st2,f2,W,⟨m0,w0⟩,turn⟩:=h2;subst e;have stat:∀{H':Hp},(∀b∈fp,H' b=aq) -> ∀b∈fp,tU X pj H' b:=λhn b hb=>⟨hn b hb,(f2 b hb).2⟩;refine codeAny_forLoop_any (λn s'=>∃i σ' H',Inv X pj σ' H' s'/\tn i s'.heap/\(∀b∈fp,H' b=aq)/\W i n σ' H') ?_ m0 ⟨0,σ,H2,I2,st2,λb hb=>(f2 b hb).1,w0⟩;rintro n s3 ⟨i,σ3,H3,I3,st3,fr3,w3⟩;rcases turn i n σ3 H3 w3 with⟨stop,qn⟩ | ⟨go,N,hN,step⟩
  . refine jm hp (thn (T.done X rfl rfl rfl hc i pj s3 σ3 H3 X.xe I3 (stat fr3) st3 stop) λr s4 zz=>?_);obtain⟨hr,I4⟩:=zz;subst hr;exact jl ⟨σ3,H3,I4,qn⟩
  . refine jm hp (thn (T.item X rfl rfl rfl hc i pj s3 σ3 H3 X.xe I3 (stat fr3) st3 go) λr s4 zz=>?_);obtain⟨u,hr,h4⟩:=zz;subst hr;refine jm hp (thn h4 λ_ s5 zz=>?_);obtain⟨x,H5,I5,r5,y5,st5,fr5⟩:=zz;have I5':=I5.pinned (stat fr5) (T.obj _ _ st5);refine jm hp (thn (hg _ s5 σ3 H5 x u _ I5' r5 (step x H5 y5)) λ_ s6 zz=>?_);obtain⟨σ6,H6,I6,q6⟩:=zz;refine jm hp (thn (hb _ s6 σ6 H6 _ I6 q6) λf s7 q7=>?_);have Sh:∀{σ7:St} {H7:Hp},Inv X (pj++sX fp s5.heap) σ7 H7 s7->N σ7 H7 -> ∃m,m<n /\ ∃i σ' H',Inv X pj σ' H' s7/\tn i s7.heap/\(∀b∈fp,H' b=aq)/\W i m σ' H':=λ{σ7 H7} I7 n7=>by
      obtain⟨m',hm,w7⟩:=hN σ7 H7 n7;refine⟨m',hm,i+1,σ7,H7,I7.unpinned,T.keep _ _ _ st5 λb hb o e=>(I7.pin (b,o) (dh _ (dh _ (kH hb e)))).1,λb hb=>?_,w7⟩;obtain⟨o,e,d⟩:=T.obj _ _ st5 b hb;exact(I7.pin (b,o) (dh _ (dh _ (kH hb e)))).2.1
    cases f with
    |next=>obtain⟨σ7,H7,I7,n7⟩:=q7;exact Sh I7 n7
    |cont=>obtain⟨σ7,H7,I7,n7⟩:=q7;exact Sh I7 n7
    |brk=>obtain⟨σ7,H7,I7,q7⟩:=q7;exact⟨σ7,H7,I7.unpinned,q7⟩
    |ret v=>obtain⟨x7,σ7,H7,I7,r7,q7⟩:=q7;exact⟨x7,σ7,H7,I7.unpinned,r7,q7⟩
noncomputable abbrev R2:=V->V->Hp->VK->Prop
noncomputable def iA(X:Cx)(f:ac->ac->R5 ac)(r:R2):Prop:=
  ∀(pj:List (af×gj)) (s:ah) (σ:St) (H:Hp) (x y:V) (v u:ac) (Q:VK),Inv X pj σ H s->bU x v->bU y u->r x y H Q ->
    bi (bn X.prog X.w) X.A (f v u) (EP X pj σ Q) X.xe s
noncomputable def PU(X:Cx)(f:ac->R5 ac)(r:V->Hp->VK->Prop):Prop:=
  ∀(pj:List (af×gj)) (s:ah) (σ:St) (H:Hp) (x:V) (v:ac) (Q:VK),Inv X pj σ H s->bU x v->r x H Q ->
    bi (bn X.prog X.w) X.A (f v) (EP X pj σ Q) X.xe s
noncomputable def eB(X:Cx)(f:ac)(r:List V->Hp->VK->Prop):Prop:=
  ∀(pj:List (af×gj)) (s:ah) (σ:St) (H:Hp) (xs:List V) (us:List ac) (Q:VK),Inv X pj σ H s->aY xs us->r xs H Q ->
    bi (bn X.prog X.w) X.A (call f us) (EP X pj σ Q) X.xe s
noncomputable def PV(X:Cx)(r:V->Hp->(Bool->Hp->Prop)->Prop):Prop:=
  ∀(pj:List (af×gj)) (s:ah) (σ:St) (H:Hp) (x:V) (v:ac) (Q:Bool->Hp->Prop),Inv X pj σ H s->bU x v->r x H Q ->
    bi (bn X.prog X.w) X.A (truthy v) (TP X pj σ Q) X.xe s
noncomputable def KZ(r:R2)(ta tb:TE):TE:=λσ H Q=>ta σ H λx H1=>tb σ H1 λy H2=>r x y H2 Q
noncomputable def QF(r:V->Hp->VK->Prop)(ta:TE):TE:=λσ H Q=>ta σ H λx H1=>r x H1 Q
noncomputable def rI(C:Int->Int->Prop)(g:Int->Int->V):R2:=λx y H Q=>∃i j,x=.int i/\y=.int j/\C i j/\Q (g i j) H
noncomputable def vN(g:Int->Int->V):R2:=λx y H Q=>∃i j,x=.int i/\y=.int j/\Q (g i j) H
noncomputable def rU(g:Int->V):V->Hp->VK->Prop:=λx H Q=>∃i,x=.int i/\Q (g i) H
variable {op op':xb}{r r':R2}{y:V}
section
variable {a b c:Expr}{tb tc:TE}
theorem Jv(ha:PE X a ta)(hb:PE X b tb){R:V->V->Hp->Prop}(I:Inv X pj σ H s)
    (h:ta σ H λx H1=>tb σ H1 λy H2=>R x y H2) {Q:ac->ah->Prop} {f:ac->ac->R5 ac}
    (hf:∀v u s2 x y H2,Inv X pj σ H2 s2->bU x v->bU y u->R x y H2->bi (bn X.prog X.w) X.A (f v u) Q X.xe s2):
    bi (bn X.prog X.w) X.A (di a X.env) (λv s₁=>bi (bn X.prog X.w) X.A (di b X.env) (λu s₂=>bi (bn X.prog X.w) X.A (f v u) Q X.xe s₂) X.xe s₁) X.xe s:=by
  refine thn (ha pj s σ H _ I h) λv s1 zz=>?_;obtain⟨x,H1,I1,r1,q1⟩:=zz;refine thn (hb pj s1 σ H1 _ I1 q1) λu s2 zz=>?_;obtain⟨y,H2,I2,r2,q2⟩:=zz;exact hf v u s2 x y H2 I2 r1 r2 q2
theorem LF{op:ue}(ho:iA X (gn op) r)(ha:PE X a ta)(hb:PE X b tb):PE X (.BinOp a op b pos) (KZ r ta tb):=by
  intro pj s σ H Q I h;exact wpAny_BinOp (Jv ha hb I h λv u s2 x y H2 I2 rx ry q=>ho pj s2 σ H2 x y v u Q I2 rx ry q)
theorem LC{op:UnaryOp}{r:V->Hp->VK->Prop}(ho:PU X (unaryOp op) r)(ha:PE X a ta):PE X (.UnaryOp op a pos) (QF r ta):=by
  intro pj s σ H Q I h;exact UnaryOp_ (thn (ha pj s σ H _ I h) λv s1 zq6=>by obtain⟨x,H1,I1,r1,q1⟩:=zq6;exact ho pj s1 σ H1 x v Q I1 r1 q1)
theorem Mv{f:ac->ac->R5 ac}{C:Int->Int->Prop}{g:Int->Int->Int}
    (Si:∀(i j:Int) (t u:SR) (s:ah) (Q:ac->ah->Prop) (E:ac->ah->Prop),C i j->Q (.int (g i j) s.toks) { s with toks:=s.toks+1 }->bi (bn X.prog X.w) X.A (f (.int i t) (.int j u)) Q E s):
    iA X f (rI C λi j=>.int (g i j)):=by
  intro pj s σ H x y v u Q I rx ry h;obtain⟨i,j,rfl,rfl,hc,q⟩:=h;obtain⟨t,rfl⟩:=rx;obtain⟨t',rfl⟩:=ry;exact Si i j t t' s _ _ hc ⟨.int (g i j),H,I.tok _,⟨_,rfl⟩,q⟩
theorem JU{f:ac->ac->R5 ac}{g:Int->Int->Int}
    (Si:∀(i j:Int) (t u:SR) (s:ah) (Q:ac->ah->Prop) (E:ac->ah->Prop),Q (.int (g i j) s.toks) { s with toks:=s.toks+1 }->bi (bn X.prog X.w) X.A (f (.int i t) (.int j u)) Q E s):
    iA X f (vN λi j=>.int (g i j)):=by
  intro pj s σ H x y v u Q I rx ry h;obtain⟨i,j,rfl,rfl,q⟩:=h;obtain⟨t,rfl⟩:=rx;obtain⟨t',rfl⟩:=ry;exact Si i j t t' s _ _ ⟨.int (g i j),H,I.tok _,⟨_,rfl⟩,q⟩
theorem Gg{f:ac->ac->R5 ac}{g:Int->Int->Bool}
    (Si:∀(i j:Int) (t u:SR) (s:ah) (Q:ac->ah->Prop) (E:ac->ah->Prop),Q (.bool (g i j)) s->bi (bn X.prog X.w) X.A (f (.int i t) (.int j u)) Q E s):
    iA X f (vN λi j=>.bl (g i j)):=by
  intro pj s σ H x y v u Q I rx ry h;obtain⟨i,j,rfl,rfl,q⟩:=h;obtain⟨t,rfl⟩:=rx;obtain⟨t',rfl⟩:=ry;exact Si i j t t' s _ _ ⟨.bl (g i j),H,I,rfl,q⟩
noncomputable def Ft(i j:Int):Prop:=0<=j/\j<=1000000/\i.natAbs<2 ^ 64
noncomputable def KB(i j:Int):Prop:=(-(2 ^ 64)<i/\i<2 ^ 64) \/ (-(2 ^ 64)<j/\j<2 ^ 64)
theorem KB.ok{i j:Int}(h:KB i j):IntMulOk i j:=by
  rcases h with⟨h1,h2⟩ | ⟨h1,h2⟩
  . exact .of_left (intBits_le_64 h1 h2)
  . exact .of_right (intBits_le_64 h1 h2)
theorem JT:iA X (gn .Add) (vN λi j=>.int (i+j)):=JU λ_ _ _ _ _ _ _ q=>add_int q
theorem JK:iA X (gn .Sub) (vN λi j=>.int (i-j)):=JU λ_ _ _ _ _ _ _ q=>sub_int q
theorem JO:iA X (gn .Mod) (rI (λ_ j=>0<j) λi j=>.int (i % j)):=Mv λi j _ _ _ _ _ hc q=>by
  have h1:(0:Int)<j:=hc;exact mod_int' ⋯ (by rw[Int.fmod_eq_emod_of_nonneg i ⋯];exact q)
theorem JM:iA X (gn .Pow) (rI Ft λi j=>.int (i ^ j.toNat)):=Mv λ_ _ _ _ _ _ _ hc q=>pow_int_small hc.1 hc.2.1 hc.2.2 q
theorem HL:iA X (zc .Sub) (vN λi j=>.int (i-j)):=JU λ_ _ _ _ _ _ _ q=>isub_int q
theorem QD{f:ac->R5 ac}{g:Int->Int}
    (Si:∀(i:Int) (t:SR) (s:ah) (Q:ac->ah->Prop) (E:ac->ah->Prop),Q (.int (g i) s.toks) { s with toks:=s.toks+1 }->bi (bn X.prog X.w) X.A (f (.int i t)) Q E s):
    PU X f (rU λi=>.int (g i)):=by
  intro pj s σ H x v Q I rx h;obtain⟨i,rfl,q⟩:=h;obtain⟨t,rfl⟩:=rx;exact Si i t s _ _ ⟨.int (g i),H,I.tok _,⟨_,rfl⟩,q⟩
theorem IQ:PU X (unaryOp .USub) (rU λi=>.int (-i)):=QD λ_ _ _ _ _ q=>neg_int q
theorem FJ{Q:VK}{k k':Bool}(I:Inv X pj σ H s)(q:Q (.bl k) H)(e:k=k'):EP X pj σ Q (.bool k') s:=by
  subst e;exact⟨.bl k,H,I,rfl,q⟩
theorem ET:iA X (cj .Lt) (vN λi j=>.bl (decide (i<j))):=Gg λ_ _ _ _ _ _ _ q=>lt_int q
theorem BO:iA X (cj .LtE) (vN λi j=>.bl (decide (i<=j))):=Gg λ_ _ _ _ _ _ _ q=>le_int q
theorem Lb:iA X (cj .Gt) (vN λi j=>.bl (decide (j<i))):=Gg λ_ _ _ _ _ _ _ q=>gt_int q
theorem Lc:iA X (cj .GtE) (vN λi j=>.bl (decide (j<=i))):=Gg λ_ _ _ _ _ _ _ q=>ge_int q
theorem JP:iA X (cj .Is) (λx y H Q=>y=.non/\Q (.bl (decide (x=.non))) H):=by
  intro pj s σ H x y v u Q I rx ry h;obtain⟨rfl,q⟩:=h;cases ry;refine is_none_gen (FJ I q ?_);cases x<;>first
    | (cases rx;rfl)
    | (obtain⟨t,rfl⟩:=rx;rfl)
theorem Gc:iA X (cj .IsNot) (λx y H Q=>y=.non/\Q (.bl (!decide (x=.non))) H):=by
  intro pj s σ H x y v u Q I rx ry h;obtain⟨rfl,q⟩:=h;cases ry;refine isnot_none_gen (FJ I q ?_);cases x<;>first
    | (cases rx;rfl)
    | (obtain⟨t,rfl⟩:=rx;rfl)
theorem iA.or{f:ac->ac->R5 ac}(h:iA X f r)(h':iA X f r'):iA X f (λx y H Q=>r x y H Q \/ r' x y H Q):=by
  intro pj s σ H x y v u Q I rx ry q;rcases q with q | q
  . exact h pj s σ H x y v u Q I rx ry q
  . exact h' pj s σ H x y v u Q I rx ry q
theorem nomark(b:Expr)(h:autoParam (op ≠ .In) hG._auto_1)(h2:autoParam (op ≠ .NotIn) hG._auto_1):lg op b=ao:=by
  have e1:(op==CmpOp.In)=ao:=by cases op<;>first | rfl | exact absurd rfl h
  have e2:(op==CmpOp.NotIn)=ao:=by cases op<;>first | rfl | exact absurd rfl h2
  cases b<;>simp[lg,e1,e2]
theorem BL(ho:iA X (cj op) r)(ha:PE X a ta)(hb:PE X b tb)(hm:lg op b=ao):PE X (.Compare a [op] [b] pos) (KZ r ta tb):=by
  intro pj s σ H Q I h;exact wpAny_Compare1 (Jv ha hb I h λv u s2 x y H2 I2 rx ry q=>ho pj s2 σ H2 x y v u Q I2 rx ry q) hm
noncomputable def Hs(t:TE):TT:=λσ H Q=>t σ H λx H'=>∃k,x=.bl k/\Q k H'
theorem GN(ho:iA X (cj op) r)(ha:PE X a ta)(hb:PE X b tb)(hm:lg op b=ao):PT X (.Compare a [op] [b] pos) (Hs (KZ r ta tb)):=by
  intro pj s σ H Q I h;refine wpAny_isTrue_Compare1 (thn (ha pj s σ H _ I h) λv s1 ⟨x,H1,I1,r1,q1⟩=>thn (hb pj s1 σ H1 _ I1 q1) λu s2 ⟨y,H2,I2,r2,q2⟩=>
    thn (ho pj s2 σ H2 x y v u _ I2 r1 r2 q2) λc s3 ⟨z,H3,I3,r3,k,e,q3⟩=>?_) hm
  subst e;cases r3;exact fc ⟨H3,I3,q3⟩
noncomputable def A7(r r':R2)(ta tb tc:TE):TE:=λσ H Q=>ta σ H λx H1=>tb σ H1 λy H2=>r x y H2 λz H3=>∃k,z=.bl k /\
  (if k=ai then tc σ H3 λw' H4=>r' y w' H4 Q else Q (.bl ao) H3)
theorem EH(ho:iA X (cj op) r)(ho':iA X (cj op') r')(ha:PE X a ta)(hb:PE X b tb)(hc:PE X c tc)
    (hm:autoParam (uf [op,op'] [b,c]=ao) IL._auto_1):PE X (.Compare a [op,op'] [b,c] pos) (A7 r r' ta tb tc):=by
  intro pj s σ H Q I h;refine Compare_chain (thn (ha pj s σ H _ I h) λv s1 ⟨x,H1,I1,r1,q1⟩=>Rb (thn (hb pj s1 σ H1 _ I1 q1) λu s2 ⟨y,H2,I2,r2,q2⟩=>
    thn (ho pj s2 σ H2 x y v u _ I2 r1 r2 q2) λd s3 ⟨z,H3,I3,r3,k,e,q3⟩=>?_)) hm
  subst e;cases r3;refine fc ?_;cases k with
  |false=>exact SB ⟨.bl ao,H3,I3,rfl,q3⟩
  |true=>exact SC (chain_last (thn (hc pj s3 σ H3 _ I3 q3) λw' s4 ⟨z',H4,I4,r4,q4⟩=>ho' pj s4 σ H4 y z' u w' Q I4 r2 r4 q4))
theorem Dw(ho:iA X (cj op) r)(ho':iA X (cj op') r')(ha:PE X a ta)(hb:PE X b tb)(hc:PE X c tc)
    (hm:autoParam (uf [op,op'] [b,c]=ao) IL._auto_1):PT X (.Compare a [op,op'] [b,c] pos) (Hs (A7 r r' ta tb tc)):=by
  intro pj s σ H Q I h;refine isTrue_chain (thn (ha pj s σ H _ I h) λv s1 ⟨x,H1,I1,r1,q1⟩=>test_link (thn (hb pj s1 σ H1 _ I1 q1) λu s2 ⟨y,H2,I2,r2,q2⟩=>
    thn (ho pj s2 σ H2 x y v u _ I2 r1 r2 q2) λd s3 ⟨z,H3,I3,r3,k,e,q3⟩=>?_)) hm
  subst e;cases r3;refine fc ?_;cases k with
  |false=>
    obtain⟨k',e',q'⟩:=q3;cases e';exact SB ⟨H3,I3,q'⟩
  |true=>
    refine SC (test_last (thn (hc pj s3 σ H3 _ I3 q3) λw' s4 ⟨z',H4,I4,r4,q4⟩=>thn (ho' pj s4 σ H4 y z' u w' _ I4 r2 r4 q4) λd' s5 zz=>?_));obtain⟨z2,H5,I5,r5,k2,e2,q5⟩:=zz;subst e2;cases r5;exact fc ⟨H5,I5,q5⟩
noncomputable def MC(K:aj)(x:V)(H:Hp)(k:Bool):Prop:=
  match x with
  | .non=>k=ao
  | .bl b=>k=b
  | .int i=>k=(i != 0)
  | .str y=>y.length<=bh/\k=((y.length:Int) != 0)
  | .byt y=>y.size<=bh/\k=((y.size:Int) != 0)
  | .ref p=>(∃xs,eT K H p xs/\k = !xs.isEmpty) \/ (∃xs,kX K H p xs/\k = !xs.isEmpty) \/ ∃kvs,H p=aa (.dK kvs)/\k = !kvs.isEmpty
  |_=>False
theorem Ai{kvs:List (κ×V)}{vs:List (κ×ac)}(r:KV kvs vs):(!vs.isEmpty) = !kvs.isEmpty:=by
  cases r<;>rfl
theorem tJ{xs:List V}{its:List ac}(r:aY xs its):(!its.toArray.isEmpty) = !xs.isEmpty:=by
  cases r<;>simp
theorem lK:(bh:Nat)<2 ^ 63:=by rw[ii];decide
theorem IS:PV X (λx H Q=>∃k,MC X.K x H k/\Q k H):=by
  intro pj s σ H x v Q I rx h;obtain⟨k,e,q⟩:=h;have hl:=lK;have hs:bh=16777216:=ii;cases x with
  |non=>
    cases rx;have e':k=ao:=e;subst e';exact truthy_none ⟨H,I,q⟩
  |bl b=>
    cases rx;have e':k=b:=e;subst e';exact fc ⟨H,I,q⟩
  |int i=>
    obtain⟨t,rfl⟩:=rx;have e':k=(i != 0):=e;subst e';exact PySem.P.truthy_int ⟨H,I,q⟩
  |str y=>
    obtain⟨t,rfl⟩:=rx;obtain⟨hy,e'⟩:y.length<=bh/\k=((y.length:Int) != 0):=e;subst e';exact PySem.P.truthy_str ⋯ ⟨H,I.tok _,q⟩
  |byt y=>
    obtain⟨t,rfl⟩:=rx;obtain⟨hy,e'⟩:y.size<=bh/\k=((y.size:Int) != 0):=e;subst e';exact W.truthy_bytes ⋯ ⟨H,I.tok _,q⟩
  |ref p=>
    cases rx;have e':(∃xs,eT X.K H p xs/\k = !xs.isEmpty) \/ (∃xs,kX X.K H p xs/\k = !xs.isEmpty) \/ ∃kvs,H p=aa (.dK kvs)/\k = !kvs.isEmpty:=e;rcases e' with⟨xs,hx,e'⟩ | ⟨xs,hx,e'⟩ | ⟨kvs,hx,e'⟩
    . subst e';obtain⟨its,r,pl,hz⟩:=I.list hx;have hlen:=r.length;exact wpAny_truthy_list pl.isList (by simp only[bz];right) ⟨H,I.tok _,by rw[tJ r];exact q⟩
    . subst e';obtain⟨its,r,pl,hz⟩:=I.tuple hx;have hlen:=r.length;exact truthy_tuple pl (by simp only[bz];right) ⟨H,I.tok _,by rw[tJ r];exact q⟩
    . subst e';obtain⟨hz,hS,vs,r,m⟩:kvs.length<=bh/\(p==gk)=ao /\ ∃vs,KV kvs vs/\s.heap.DictOf (cY X.prog X.w) p vs:=I.hok p _ hx;have hlen:kvs.length=vs.length:=Paired.length r;exact wpAny_truthy_dict hS m ⋯ ⟨H,I.tok _,by rw[Ai r];exact q⟩
  |_=>exact(show False from e).elim
theorem Du(ha:PE X a ta)(he:∀Tn,isTrue a X.env Tn=(do let v <- Tn;qp a.pos;ku [v] (truthy v))):
    PT X a (λσ H Q=>ta σ H λx H'=>∃k,MC X.K x H' k/\Q k H'):=by
  intro pj s σ H Q I h;exact isTrue_plain (thn (ha pj s σ H _ I h) λv s1 zq0=>by obtain⟨x,H1,I1,r1,q1⟩:=zq0;exact IS pj s1 σ H1 x v Q I1 r1 q1) (he _)
theorem AU:iA X (gn .Add) (λx y H Q=>∃i j,x=.str i/\y=.str j/\i.length+j.length<=bh/\Q (.str (i++j)) H):=by
  intro pj s σ H x y v u Q I rx ry h;obtain⟨i,j,rfl,rfl,hz,q⟩:=h;obtain⟨t,rfl⟩:=rx;obtain⟨t',rfl⟩:=ry;exact add_str (λt' tk=>⟨.str (i++j),H,I.tok _,⟨_,rfl⟩,q⟩) hz
theorem iF{x:V}(r:aY [x] us):∃u,us=[u]/\bU x u:=by
  cases r with
  |cons r1 r2=>cases r2;exact⟨_,rfl,r1⟩
theorem B4{x:V}(r:aY [x,y] us):∃u w',us=[u,w']/\bU x u/\bU y w':=by
  cases r with
  |cons r1 r2=>
    cases r2 with
    |cons r3 r4=>cases r4;exact⟨_,_,rfl,r1,r3⟩
theorem Fc:eB X (.builtin "abs") (λxs H Q=>∃i,xs=[.int i]/\Q (.int (if i<0 then -i else i)) H):=by
  intro pj s σ H xs us Q I r h;obtain⟨i,rfl,q⟩:=h;obtain⟨u,rfl,t,rfl⟩:=iF r;exact call_abs_int λu tk=>⟨.int (if i<0 then -i else i),H,I.tok _,⟨_,rfl⟩,q⟩
theorem D7(hc:X.calm=ai):eB X (.builtin "max") (λxs H Q=>∃i j,xs=[.int i,.int j]/\Q (.int (if j > i then j else i)) H):=by
  intro pj s σ H xs us Q I r h;obtain⟨i,j,rfl,q⟩:=h;obtain⟨u,w',rfl,⟨t,rfl⟩,⟨t',rfl⟩⟩:=B4 r;refine max_two_ints (I.ok.hd hc) λh' tk k=>⟨_,H,I.kept k,?_,q⟩;by_cases hj:j > i
  . rw[SS hj,SS hj];exact⟨_,rfl⟩
  . rw[Sm hj,Sm hj];exact⟨_,rfl⟩
theorem D6(hc:X.calm=ai):eB X (.builtin "min") (λxs H Q=>∃i j,xs=[.int i,.int j]/\Q (.int (if j<i then j else i)) H):=by
  intro pj s σ H xs us Q I r h;obtain⟨i,j,rfl,q⟩:=h;obtain⟨u,w',rfl,⟨t,rfl⟩,⟨t',rfl⟩⟩:=B4 r;refine min_two_ints (I.ok.hd hc) λh' tk k=>⟨_,H,I.kept k,?_,q⟩;by_cases hj:j<i
  . rw[SS hj,SS hj];exact⟨_,rfl⟩
  . rw[Sm hj,Sm hj];exact⟨_,rfl⟩
theorem D9:eB X (.type "int") (λxs H Q=>(∃i,xs=[.int i]/\Q (.int i) H) \/ ∃k,xs=[.bl k]/\Q (.int (if k then 1 else 0)) H):=by
  intro pj s σ H xs us Q I r h;rcases h with⟨i,rfl,q⟩ | ⟨k,rfl,q⟩
  . obtain⟨u,rfl,t,rfl⟩:=iF r;exact call_int_int ⟨.int i,H,I,⟨_,rfl⟩,q⟩
  . obtain⟨u,rfl,r1⟩:=iF r;cases r1;exact call_int_bool ⟨.int (if k then 1 else 0),H,I.tok _,⟨_,rfl⟩,q⟩
end
structure ObjM(h:br)(x dx C:af)(mA:bf->Option ac):Prop where
  obj:h.get? x=aa (oz C dx)
  ns:h.Ns1 dx mA
  ne:dx≠x
variable {dx:af}{mA:bf->Option ac}
theorem CY(n:h.Ns1 dx mA):∃od,h.get? dx=aa od /\ ∀name,Rc name od=aa (mA name):=by
  obtain⟨o,es,ep,ho,hd,hk,_,hm⟩:=n;refine⟨o,ho,λname=>?_⟩;have e:=hm name;unfold nsFind findBy at e;rw[<- Array.find?_toList] at e;unfold Rc;rw[hd];dsimp only;split
  . rename_i y q;rw[q] at e;exact congrArg aa e
  . rename_i q;rw[q] at e;have a:es.toList.any (·.refKey)=ao:=by
      rw[yf];intro y hy;obtain⟨z,t,hkey⟩:=hk y (Array.mem_toList_iff.mp hy);simp[DictEntry.refKey,hkey]
    have a':¬es.toList.any (·.refKey)=ai:=by rw[a];exact ie
    rw[Sm a'];exact congrArg aa e
theorem ObjM.look{x:af}(I:ObjM h x dx C mA):∃od,W.InstAt h x (oz C dx) C (aa od) /\ ∀name,Rc name od=aa (mA name):=
  let ⟨od,ho,hl⟩:=CY I.ns
  ⟨od,⟨I.obj,rfl,rfl,ho⟩,hl⟩
variable {pl:R5 Bool}{kw:List (bf×ac)}{name:bf}
section
variable {x:af}{v:ac}
theorem HQ{expr:Bool}{Q:ac->ah->Prop}(X:K.In s.heap)(I:ObjM s.heap x dx C mA)(hg:xo K C name=ai)(hh:zu K C=ai)
    (ha:kf K (.ref C) name=aa aq) (hv:mA name=aa v) (hv':W.handedIn v=ai) (h:Q v { s with toks:=s.toks+1 }):
    bi (bn prog w) A (getAttr (.ref x) name expr) Q E s:=by
  obtain⟨od,J,hl⟩:=I.look;exact W.get_value X J (xc hg).1 (W.findObj_own hh ha rfl (by rw[hl,hv])) hv' h
theorem FE{Q:ac×List ac->ah->Prop}(X:K.In s.heap)(I:ObjM s.heap x dx C mA)(hg:xo K C name=ai)
    (hf:kf K (.ref C) name=aa (aa (.ref f))) (ht:SD K (.ref f)=ai) (hv:mA name=aq) (h:Q (.ref f,[.ref x]) s):
    bi (bn prog w) A (pc (.ref x) name pl) Q E s:=by
  obtain⟨od,J,hl⟩:=I.look;exact W.method_fn X J (xc hg).1 (xc hg).2 hf (beq_iff_eq.mp ht) (by show (Rc name od).map (·.isSome)=aa ao;rw[hl,hv];rfl) h
theorem G8{ns:List bf}(X:K.In s.heap)(I:ObjM s.heap x dx C mA)
    (hs:kf K (.ref C) "__setattr__" = aa (aa (.builtin "object.__setattr__"))) (hp:W.plainOver K C=ai) (ht:RF K C name=aa aq) (hh:zu K C=ai)
    (hw:ya mA ns) (hsz:ns.length<=bh)
    (h:∀h',ObjM h' x dx C (λy=>if y=name then aa v else mA y)->ny dx s.heap h'->Q () { s with heap:=h',toks:=s.toks+2 }):
    bi (bn prog w) A (setAttr (.ref x) name v) Q E s:=by
  obtain⟨od,J,hl⟩:=I.look;refine W.set_plain X J hs (W.osa_open (s:={ s with toks:=s.toks+1 }) (r:=aq) X J hp ht λb=>?_);obtain⟨cd,hc,hd'⟩:=W.any_some hh;have hx:s.heap.get? x=aa ⟨.ref C,aa dx,.plain,#[]⟩:=I.obj;refine ae (az (ae (ae (wpAny_loadPart hx (ae (SN.here (s:={ s with toks:=s.toks+1 }) (W.looks_clsIn X hc) ?_))))));rw[hd'];refine az (a:=aa dx) (ae (az (ae ?_)));refine wpAny_nsSet1 (s:={ s with toks:=s.toks+1 }) I.ns λh' hn2 hs2=>?_;obtain⟨oD,esD,epD,hoD,fY,hcD⟩:=hn2.count (PySem.Within.cons name v hw);refine ae (wpAny_lookBehind hoD (by rw[fY];exact pastItsLine_dict (jo hcD (by rw[cw];right))) ?_);exact az (h _ ⟨(hs2.2 _ (fm I.ne)).trans I.obj,hn2,I.ne⟩ hs2)
theorem Ei{R:SE->ah->Prop}{vs:List ac}(X:K.In s.heap)(hm:ze K C=ai)
    (hi:kf K (.ref C) "__init__" = aa (aa (.ref f))) (hf:W.typeIn K (.ref f)=aa (.type "function"))
    (h:qv (bn prog w) (A.under (.builtin "type.__call__" ⟨.ref C::vs,kw⟩)) (.call (.ref f) ⟨.ref (s.heap.objs.size+1)::vs,kw⟩) (W.InitBack (s.heap.objs.size+1) R)
      { s with heap:=(s.heap.push kq).push (oz C s.heap.objs.size) }):
    qv (bn prog w) A (.call (.ref C) ⟨vs,kw⟩) R s:=by
  obtain⟨hh,g,d,t,os⟩:=s;exact W.make_core (W.makes_of X hm) (W.looks_findIn X hi) (λself=>W.bind_fn X self hf) (.inl rfl) h
end
noncomputable def kC(f:bf)(v:V):List (bf×V)->List (bf×V)
  | []=>[(f,v)]
  | (g,x)::r=>if g=f then (g,v)::r else (g,x)::kC f v r
theorem qV(f g:bf)(v:V):∀fs:List (bf×V),(kC f v fs).lookup g=if g=f then aa v else fs.lookup g
  | []=>by
    show List.lookup g [(f,v)]=_;by_cases h:g=f
    . have hb:(g==f)=ai:=beq_iff_eq.mpr h;simp only[List.lookup,hb,SS h]
    . have hb:(g==f)=ao:=beq_eq_false_iff_ne.mpr h;simp only[List.lookup,hb,Sm h]
  | (k,x)::r=>by
    have ih:=qV f g v r;rw[show kC f v ((k,x)::r)=(if k=f then (k,v)::r else (k,x)::kC f v r) from rfl];by_cases hk:k=f
    . rw[SS hk];by_cases h:g=k
      . have hb:(g==k)=ai:=beq_iff_eq.mpr h;simp only[List.lookup,hb,SS (h.trans hk)]
      . have hb:(g==k)=ao:=beq_eq_false_iff_ne.mpr h;simp only[List.lookup,hb,Sm (λe:g=f=>h (e.trans hk.symm))]
    . rw[Sm hk];by_cases h:g=k
      . have hb:(g==k)=ai:=beq_iff_eq.mpr h;simp only[List.lookup,hb,Sm (λe:g=f=>hk (h.symm.trans e))]
      . have hb:(g==k)=ao:=beq_eq_false_iff_ne.mpr h;simp only[List.lookup,hb];exact ih
theorem qH(f:bf)(v:V):∀fs:List (bf×V),f∈(kC f v fs).map (·.1) /\ ∀g,g∈fs.map (·.1)->g∈(kC f v fs).map (·.1)
  | []=>⟨by simp[kC],λg h=>by simp at h⟩
  | (k,x)::r=>by
    obtain⟨i1,i2⟩:=qH f v r;rw[show kC f v ((k,x)::r)=(if k=f then (k,v)::r else (k,x)::kC f v r) from rfl];by_cases hk:k=f
    . rw[SS hk];subst hk;exact⟨by simp,λg h=>by simpa using h⟩
    . rw[Sm hk];refine⟨?_,λg h=>?_⟩
      . rw[cn];exact cp _ i1
      . rw[cn] at h ⊢;rcases cr.mp h with e | e
        . exact cr.mpr (.inl e)
        . exact cp _ (i2 g e)
theorem qW(f:bf)(v:V):∀fs:List (bf×V),(kC f v fs).length<=fs.length+1
  | []=>by simp[kC]
  | (k,x)::r=>by
    have ih:=qW f v r;rw[show kC f v ((k,x)::r)=(if k=f then (k,v)::r else (k,x)::kC f v r) from rfl];by_cases hk:k=f
    . rw[SS hk,cw,cw];right
    . rw[Sm hk,cw,cw];right
theorem mS.some_of{o:Option ac}(r:mS (aa v) o):∃u,o=aa u/\bU v u:=by
  cases o with
  |none=>exact(show False from r).elim
  |some u=>exact⟨u,rfl,r⟩
theorem mS.none_of{o:Option ac}(r:mS aq o):o=aq:=by
  cases o with
  |none=>rfl
  |some u=>exact(show False from r).elim
theorem Cp(r:bU v u):W.handedIn u=ai:=by
  cases v with
  |non=>cases (show u=eg from r);rfl
  |bl b=>cases (show u=xn b from r);rfl
  |int i=>obtain⟨t,e⟩:=(show ∃t,u=Value.int i t from r);cases e;rfl
  |str x=>obtain⟨t,e⟩:=(show ∃t,u=Value.str x t from r);cases e;rfl
  |byt b=>obtain⟨t,e⟩:=(show ∃t,u=Se b t from r);cases e;rfl
  |flt b=>obtain⟨t,e⟩:=(show ∃t,u=zr b t from r);cases e;rfl
  |ref a=>cases (show u=Value.ref a from r);rfl
  |ty n=>cases (show u=Sz n from r);rfl
section
variable {fs fs':List (bf×V)}
theorem rW(hok:jL P w H h)(e:H a=aa (.ins C dx fs)):∃mA,ObjM h a dx C mA/\(∀f,mS (fs.lookup f) (mA f))/\ya mA (fs.map (·.1))/\fs.length<=1000/\H dx=aa (.own a):=by
  obtain⟨d,z,ne,ob,mA,n,r,q⟩:=(show cB P w H h a (.ins C dx fs) from hok a _ e);exact⟨mA,⟨ob,n,ne⟩,r,q,z,d⟩
end
structure Cls(K:aj)(C:af):Prop where
  pg:xo K C Str.empty=ai
  hd:zu K C=ai
  po:W.plainOver K C=ai
  sa:kf K (.ref C) "__setattr__" = aa (aa (.builtin "object.__setattr__"))
theorem Cls.get(c:Cls K C)(f:bf):xo K C f=ai:=c.pg
noncomputable def hV(K:aj)(C:af)(f:bf):Prop:=kf K (.ref C) f=aa aq
theorem hV.taker{f:bf}(n:hV K C f):RF K C f=aa aq:=by
  unfold RF;rw[show kf K (.ref C) f=aa aq from n];rfl
structure Meth(K:aj)(C:af)(m:bf)(f:af):Prop where
  at_:kf K (.ref C) m=aa (aa (.ref f))
  fn:SD K (.ref f)=ai
  kp:ic K (.ref f)=ai
variable {m:bf}
section
variable {fs:List (bf×V)}{f:bf}
theorem Ak{b:Bool}{Q:ac->ah->Prop}(I:Inv X pj σ H s)(e:H a=aa (.ins C dx fs))(c:Cls X.K C)(n:hV X.K C f)(l:fs.lookup f=aa v)
    (h:∀u s',Inv X pj σ H s'->bU v u->Q u s'):bi (bn X.prog X.w) A (getAttr (.ref a) f b) Q E s:=by
  obtain⟨mA,O,r,_,_,_⟩:=rW I.hok e;obtain⟨u,hu,ru⟩:=mS.some_of (v:=v) (o:=mA f) (by rw[<- l];exact r f);exact HQ I.kIn O (c.get f) c.hd n hu (Cp ru) (h u _ (I.tok _) ru)
theorem nS{g:af}{Q:ac×List ac->ah->Prop}(I:Inv X pj σ H s)(e:H a=aa (.ins C dx fs))(c:Cls X.K C)(k:Meth X.K C m g)(l:fs.lookup m=aq)
    (h:Q (.ref g,[.ref a]) s):bi (bn X.prog X.w) A (pc (.ref a) m pl) Q E s:=by
  obtain⟨mA,O,r,_,_,_⟩:=rW I.hok e;have hn:mA m=aq:=mS.none_of (by rw[<- l];exact r m);exact FE I.kIn O (c.get m) k.at_ k.fn hn h
theorem A9(I:Inv X pj σ H s)(e:H a=aa (.ins C dx fs))(c:Cls X.K C)(n:hV X.K C f)(hl:fs.length<1000)(ry:bU y u)
    (h:∀s',Inv X pj σ (upd H a (.ins C dx (kC f y fs))) s'->Q () s'):bi (bn X.prog X.w) A (setAttr (.ref a) f u) Q E s:=by
  obtain⟨mA,O,r,wi,_,ho⟩:=rW I.hok e;have hz:(fs.map (·.1)).length<=bh:=by rw[bt,ii];right
  refine G8 I.kIn O c.sa c.po n.taker c.hd wi hz λh' O' sb=>h _ ?_;have hd:∃o,h'.get? dx=aa o:=let ⟨o,_,_,e',_⟩:=O'.ns;⟨o,e'⟩;refine I.write (x:=a) (e:=dx) (by rw[e];exact ip) (.inr ho) (λb q hb z=>(sb.2 b hb).trans z) hd ?_;refine⟨by rw[aQ O.ne];exact ho,?_,O.ne,O'.obj,_,O'.ns,λg=>?_,λg hg=>?_⟩
  . have:=qW f y fs;right
  . show mS ((kC f y fs).lookup g) (if g=f then aa u else mA g);rw[qV];by_cases q:g=f
    . rw[SS q,SS q];exact ry
    . rw[Sm q,Sm q];exact r g
  . by_cases q:g=f
    . rw[q];exact(qH f y fs).1
    . refine(qH f y fs).2 g (wi g λz=>hg ?_);show (if g=f then aa u else mA g)=aq;rw[Sm q];exact z
theorem Inv.made(I:Inv X pj σ H s):Inv X pj σ (upd (upd H s.heap.objs.size (.own (s.heap.objs.size+1))) (s.heap.objs.size+1) (.ins C s.heap.objs.size []))
    { s with heap:=(s.heap.push kq).push (oz C s.heap.objs.size) }:=by
  have e1:(s.heap.push kq).get? s.heap.objs.size=aa kq:=bq s.heap rfl;have e2:((s.heap.push kq).push (oz C s.heap.objs.size)).get? (s.heap.objs.size+1)=aa (oz C s.heap.objs.size):=by
    have:=bq (s.heap.push kq) (o:=oz C s.heap.objs.size) rfl;rwa[nq] at this
  have e3:(s.heap.push kq).Ns s.heap.objs.size (λ_=>aq):=⟨kq,#[],_,e1,rfl,(λe he=>absurd he (by simp)),λ_=>rfl⟩;have I1:=I.laid (a:=s.heap.objs.size) (o:=.own (s.heap.objs.size+1)) (h':=s.heap.push kq) (t':=s.toks) (λb u q=>av _ q) (bo _) ⟨_,e1⟩;refine I1.laid (a:=s.heap.objs.size+1) (o:=.ins C s.heap.objs.size []) (t':=s.toks) (λb u q=>av _ q) (RQ (nq _ _)) ?_;have ne:s.heap.objs.size≠s.heap.objs.size+1:=eu (zf _);refine⟨by rw[aQ ne,bC],mj _,ne,e2,λ_=>aq,(Heap.Ns1.of_empty e3).at λo q=>av _ q,λ_=>ip,λy hy=>absurd rfl hy⟩
theorem Hm{f:bf}{Q:ac->ah->Prop}(hb:iw e f env (di e env)=di e env)
    (h:bi (bn prog w) A (di e env) (λo s₁=>bi (bn prog w) A (getAttr o f ai) Q E s₁) E s):bi (bn prog w) A (di (.Attribute e f pos) env) Q E s:=
  Attribute_any_ h (by rw[arm_eval_Attribute,hb])
end
noncomputable def NV(K:aj)(ta:TE)(f:bf):TE:=λσ H Q=>ta σ H λx H1=>∃a C dx fs v,x=.ref a/\H1 a=aa (.ins C dx fs)/\Cls K C/\hV K C f/\fs.lookup f=aa v/\Q v H1
noncomputable def Ni(K:aj)(ta tv:TE)(f:bf):TS:=λD σ H=>tv σ H λy H1=>ta σ H1 λx H2=>∃a C dx fs,x=.ref a/\H2 a=aa (.ins C dx fs)/\Cls K C/\hV K C f/\fs.length<1000 /\
  D.nx σ (upd H2 a (.ins C dx (kC f y fs)))
section
variable {o T5:Expr}{f:bf}{tv:TE}
theorem JC(he:PE X e ta)(hb:iw e f X.env (di e X.env)=di e X.env):PE X (.Attribute e f pos) (NV X.K ta f):=by
  intro pj s σ H Q I h;refine Hm hb (thn (he pj s σ H _ I h) λu s1 zz=>?_);obtain⟨x,H1,I1,rx,a,C,dx,fs,v,ex,ea,c,n,l,q⟩:=zz;subst ex;obtain rfl:u=Value.ref a:=rx;exact Ak I1 ea c n l λu' s2 I2 ru=>⟨v,H1,I2,ru,q⟩
theorem Ix(ha:PE X o ta)(hv:PE X T5 tv)(hs:eh T5 (aa (.Attribute o f T7)) pos.line X.env=fo ao):PS X (.Assign [.Attribute o f T7] T5 pos) (Ni X.K ta tv f):=by
  intro pj s σ H D I h;refine plainObj_wpAny_Assign_Attribute (thn (hv pj s σ H _ I h) λu s1 ⟨y,H1,I1,ry,q⟩=>thn (ha pj s1 σ H1 _ I1 q) λov s2 ⟨x,H2,I2,rx,a,C,dx,fs,ex,ea,c,n,l,q2⟩=>?_) hs;subst ex;obtain rfl:ov=Value.ref a:=rx;exact A9 I2 ea c n l ry λs3 I3=>⟨σ,_,I3,q2⟩
end
section
variable {Q:ac->ah->Prop}{c:ac}{b:Bool}
inductive TyOf(K:aj)(H:Hp):V->ac->Prop where
  |non:TyOf K H .non (.type "NoneType")
  |bl (x:Bool):TyOf K H (.bl x) (.type "bool")
  |int (i:Int):TyOf K H (.int i) (.type "int")
  |str (x:bf):TyOf K H (.str x) (.type "str")
  |flt (x:UInt64):TyOf K H (.flt x) (.type "float")
  |lst {a:af} {xs:List V} (e:H a=aa (.lst xs)):TyOf K H (.ref a) (.type "list")
  |frz {a:af} {o:gj} {xs:List V} (e:H a=aa (.frz o (.lst xs))):TyOf K H (.ref a) (.type "list")
  |tup {a:af} {xs:List V} (e:H a=aa (.tup xs)):TyOf K H (.ref a) (.type "tuple")
  |dK {a:af} {kvs:List (bI×V)} (e:H a=aa (.dK kvs)):TyOf K H (.ref a) (.type "dict")
  |dT {a:af} {ep:Nat} {kvs:List (List bI×V)} (e:H a=aa (.dT ep kvs)):TyOf K H (.ref a) (.type "dict")
  |ins {a C dx:af} {fs:List (bf×V)} (e:H a=aa (.ins C dx fs)) (cl:Cls K C) (ha:kf K (.ref C) "__class__" = aa (aa (.builtin "object.__class__")))
      (hn:W.specialIn K (.builtin "object.__class__") "__get__" = aa (aa (.builtin "getset_descriptor.__get__"))) (htk:W.takesIn K (.builtin "object.__class__")=aa ai)
      (hm:W.mroIn K C (.type "object")=aa ai):TyOf K H (.ref a) (.ref C)
theorem Cm{x:V}{t:ac}(I:Inv X pj σ H s)(rx:bU x u)(ty:TyOf X.K H x t)(e:Sj X.K t c=aa b)(h:∀tk,Q (.bool b) { s with toks:=tk }):
    bi (bn X.prog X.w) A (call (.builtin "isinstance") [u,c]) Q E s:=by
  cases ty with
  |non=>cases (show u=eg from rx);exact lh W.kitx_none I.kIn ip e (λz=>nomatch z) h
  |bl y=>cases (show u=xn y from rx);exact lh W.kitx_bool I.kIn ip e (λz=>nomatch z) h
  |int i=>obtain⟨t,q⟩:=(show ∃t,u=Value.int i t from rx);cases q;exact lh W.kitx_int I.kIn ip e (λz=>nomatch z) h
  |str y=>obtain⟨t,q⟩:=(show ∃t,u=Value.str y t from rx);cases q;exact lh W.kitx_str I.kIn ip e (λz=>nomatch z) h
  |flt y=>obtain⟨t,q⟩:=(show ∃t,u=zr y t from rx);cases q;exact lh W.kitx_float I.kIn ip e (λz=>nomatch z) h
  | @lst a xs ea=>
    cases (show u=Value.ref a from rx);obtain⟨_,_,n,_,h1⟩:=(show cB X.prog X.w H s.heap a (.lst xs) from I.hok a _ ea);exact lh W.kitx_list I.kIn ⟨_,h1,rfl⟩ e (λz=>nomatch z) h
  | @frz a ob xs ea=>
    cases (show u=Value.ref a from rx);obtain⟨_,_,_,n,_,h1⟩:=(show cB X.prog X.w H s.heap a (.frz ob (.lst xs)) from I.hok a _ ea);exact lh W.kitx_list I.kIn ⟨_,h1,rfl⟩ e (λz=>nomatch z) h
  | @tup a xs ea=>
    cases (show u=Value.ref a from rx);obtain⟨_,_,_,p⟩:=(show cB X.prog X.w H s.heap a (.tup xs) from I.hok a _ ea);obtain⟨o,h1,h2,_⟩:=p;exact lh W.kitx_tuple I.kIn ⟨o,h1,h2⟩ e (λz=>nomatch z) h
  | @dK a kvs ea=>
    cases (show u=Value.ref a from rx);obtain⟨_,_,vs,_,p⟩:=(show cB X.prog X.w H s.heap a (.dK kvs) from I.hok a _ ea);obtain⟨o,es,ep,h1,h2,_⟩:=p;exact lh W.kitx_dict I.kIn ⟨o,h1,h2.1⟩ e (λz=>nomatch z) h
  | @dT a ep kvs ea=>
    cases (show u=Value.ref a from rx);obtain⟨_,_,xs,_,o,es,h1,h2,_⟩:=(show cB X.prog X.w H s.heap a (.dT ep kvs) from I.hok a _ ea);exact lh W.kitx_dict I.kIn ⟨o,h1,h2.1⟩ e (λz=>nomatch z) h
  | @ins a C dx fs ea cl ha hn htk hm=>
    cases (show u=Value.ref a from rx);obtain⟨mA,O,_⟩:=rW I.hok ea;obtain⟨od,J,_⟩:=O.look;exact lh (W.kitx_own (cl.get _) cl.hd ha hn htk hm) I.kIn J e (λz=>nomatch z) h
end
structure Room(k:Nat)(A:bu):Prop where
  hd:A.handled=aq
  dp:A.depth+3*k+5<rg
  un:A.units+16*k+200<ma
theorem Room.mono{k:Nat}(r:Room k A)(h:j<=k):Room j A:=⟨r.hd,by have:=r.dp;right,by have:=r.un;right⟩
theorem Room.deeper{k:Nat}{A:bu}(r:Room (k+1) A)(env:ox):Room k (A.deeper env):=
  ⟨r.hd,by have:=r.dp;show A.depth+1+3*k+5<_;right,by have:=r.un;show A.units+3+16*k+200<_;right⟩
theorem Ab:(A.under (.builtin "type.__call__" ⟨.ref C::us,kw⟩)).depth=A.depth+1:=by
  first | rfl | simp[yg,Code.weight,Code.isCreation,Code.isGuard,Code.isCaller,Code.frames,yh,guardIds]
theorem Aa:(A.under (.builtin "type.__call__" ⟨.ref C::us,kw⟩)).units=A.units+1:=by
  first | rfl | simp[yg,Code.cUnits,Code.frames,yh]
theorem Room.make{k:Nat}(r:Room (k+1) A)(C:af)(us:List ac)(kw:List (bf×ac)):Room k (A.under (.builtin "type.__call__" ⟨.ref C::us,kw⟩)):=
  ⟨r.hd,by have:=r.dp;rw[Ab];right,by have:=r.un;rw[Aa];right⟩
theorem Room.depth{k:Nat}{A:bu}(r:Room k A):A.depth<rg:=by have:=r.dp;right
theorem Room.units{k:Nat}{A:bu}(r:Room k A):A.units+64<ma:=by have:=r.un;right
noncomputable def IU:TA:=λ_ H Q=>Q [] H
noncomputable def Kf(ta:TE)(tr:TA):TA:=λσ H Q=>ta σ H λx H1=>tr σ H1 λxs H2=>Q (x::xs) H2
section
variable {t:TA}
theorem qA:PA X [] IU:=λ_ _ _ _ H Q I h=>Calls.spliced_nil ⟨[],H,I,.nil,h⟩
theorem kE(ha:PE X e te)(hr:PA X es t)(hs:autoParam (au (e::es) X.env=(ao,di e X.env)::au es X.env) b7._auto_1):PA X (e::es) (Kf te t):=by
  intro pos pj s σ H Q I h;rw[hs];show bi _ _ (spliced ((ao,di e X.env)::dq pos (au es X.env))) _ _ s;refine Calls.spliced_cons (thn (ha pj s σ H _ I h) λu s1 zz=>?_);obtain⟨x,H1,I1,r1,q1⟩:=zz;exact thn (hr pos pj s1 σ H1 _ I1 q1) λus s2 zq1=>by obtain⟨xs,H2,I2,r2,q2⟩:=zq1;exact⟨x::xs,H2,I2,.cons r1 r2,q2⟩
noncomputable def NM(t:TA):TE:=λσ H Q=>t σ H λxs H1=>xs.length<=bh /\ ∀p,H1 p=aq->Q (.ref p) (upd H1 p (.tup xs))
noncomputable def NS(t:TA):TE:=λσ H Q=>t σ H λxs H1=>xs.length<=bh /\ ∀p,H1 p=aq->Q (.ref p) (upd H1 p (.lst xs))
theorem J6{x1}(h:PA X es t):PE X (.Tuple es x1 pos) (NM t):=by
  intro pj s σ H Q I hq;refine wpAny_Tuple_spliced (thn (h pos pj s σ H _ I hq) λus s1 ⟨xs,H1,I1,r,z,q⟩=>⟨by rw[<- r.length];exact z,?_⟩);have hf:H1 s1.heap.objs.size=aq:=I1.hok.fresh (bo _);refine⟨.ref s1.heap.objs.size,upd H1 s1.heap.objs.size (.tup xs),I1.laid (t':=s1.toks) (λb u e=>av _ e) (bo _) ?_,rfl,q _ hf⟩;exact⟨z,us,r,⟨_,bq _ rfl,rfl,_,rfl⟩⟩
theorem JA(h:PA X es t):PE X (.List es pos) (NS t):=by
  intro pj s σ H Q I hq;refine wpAny_List_spliced (thn (h pos pj s σ H _ I hq) λus s1 ⟨xs,H1,I1,r,z,q⟩=>⟨by rw[<- r.length];exact z,?_⟩);have hf:H1 s1.heap.objs.size=aq:=I1.hok.fresh (bo _);refine⟨.ref s1.heap.objs.size,upd H1 s1.heap.objs.size (.lst xs),I1.laid (t':=s1.toks) (λb u e=>av _ e) (bo _) ?_,rfl,q _ hf⟩;exact⟨z,us,0,r,bq _ rfl⟩
end
noncomputable abbrev Sp:=List V->Hp->VK->XK->Prop
noncomputable abbrev A0:=List ox->Hp->ah->XK->ac->ah->Prop
structure Env0(P:ay)(w:bg)(K:aj)(mg:bf->Option ac)(base:br)(A:bu)(outer:List ox)(s:ah)(H:Hp):Prop where
  frames:A.frames=aa outer
  mod:Mod K mg base
  bs:∀b o,base.get? b=aa o->s.heap.get? b=aa o/\H b=aq
  bsz:base.objs.size<=s.heap.objs.size
  funs:s.heap.FunFrames base outer
  frf:∀b∈frs outer,H b=aq
  hok:jL P w H s.heap
  bare:pk s.gens
noncomputable def CE(outer:List ox)(P:ay)(w:bg)(H:Hp)(s:ah)(Q:VK)(u:ac)(s':ah):Prop:=
  ∃v H',s'.os=s.os/\pk s'.gens/\Un (frs outer) [] H H' s.heap s'.heap/\jL P w H' s'.heap/\bU v u/\Q v H'
noncomputable def CR(CX:A0)(outer:List ox)(P:ay)(w:bg)(H:Hp)(s:ah)(Q:VK)(E:XK)(r:SE)(s':ah):Prop:=
  match r with
  | .ok (.ret u)=>CE outer P w H s Q u s'
  | .ok _=>False
  | .error e=>CX outer H s E e s'
structure FnOk(P:ay)(w:bg)(K:aj)(mg:bf->Option ac)(base:br)(CX:A0)(k:Nat)(f:af)(fd:fv)(ps:List bf)(sp:Sp):Prop where
  len:∀vs H Q E,sp vs H Q E->vs.length=ps.length
  run:∀(A:bu) (outer:List ox) (s:ah) (H:Hp) (args:Args) (us:List ac) (vs:List V) (Q:VK) (E:XK),Room k A->Env0 P w K mg base A outer s H->uq s fd args (ps.zip us)->aY vs us->sp vs H Q E ->
    qv (bn P w) A (.call (.ref f) args) (CR CX outer P w H s Q E) s
theorem Env0.make(e:Env0 P w K mg base A outer s H)(C:af)(us:List ac)(kw:List (bf×ac)):
    Env0 P w K mg base (A.under (.builtin "type.__call__" ⟨.ref C::us,kw⟩)) outer s H:=⟨by first | exact e.frames | (simpa [yg,Code.envs,yh,pushEnvs] using e.frames),e.mod,e.bs,e.bsz,e.funs,e.frf,e.hok,e.bare⟩
theorem Inv.env0(I:Inv X pj σ H s):Env0 X.prog X.w X.K X.mg X.base X.A X.stack s H:=
  ⟨I.ok.frames,I.ok.mod,I.bs,jo I.ok.bsz I.sz,I.stack,I.stkFree,I.hok,I.bare⟩
theorem Inv.after{Q:VK}(I:Inv X pj σ H s)(h:CE X.stack X.prog X.w H s Q u s'):EP X pj σ Q u s':=by
  obtain⟨v,H',os,bare,un,hok,r,q⟩:=h;obtain⟨hh,g,d,t,os'⟩:=s';obtain rfl:os'=s.os:=os;exact⟨v,H',I.call (h':=hh) (g':=g) (d':=d) (t':=t) (ch:=[]) un hok bare (λb z=>absurd z (by simp)),r,q⟩
noncomputable def Ht(sp:Sp)(dvs:List V)(E:XK)(t:TA):TE:=λσ H Q=>t σ H λvs H1=>sp (vs++dvs) H1 Q E
noncomputable def DX(C:af)(m:bf)(sp:Sp)(dvs:List V)(E:XK)(ta:TE)(t:TA):TE:=λσ H Q=>ta σ H λx H1=>∃a dx fs,x=.ref a/\H1 a=aa (.ins C dx fs)/\fs.lookup m=aq /\
  t σ H1 λvs H2=>sp (x::(vs++dvs)) H2 Q E
noncomputable def Kc(C:af)(sp:Sp)(dvs:List V)(E:XK)(t:TA):TE:=λσ H Q=>t σ H λvs H1=>∀x dx,H1 x=aq->H1 dx=aq->dx≠x ->
  sp (.ref x::(vs++dvs)) (upd (upd H1 dx (.own x)) x (.ins C dx [])) (λv H2=>v=.non/\Q (.ref x) H2) E
noncomputable def dI(K:aj)(fd:fv)(ps:List bf)(ds:List ac):Prop:=
  ∀(s:ah) (us:List ac),K.In s.heap->(us++ds).length=ps.length->uq s fd ⟨us,[]⟩ (ps.zip (us++ds))
variable {fd:fv}
theorem dI.all(h:∀us:List ac,us.length=ps.length->Sk fd ⟨us,[]⟩=fo (ps.zip us)):dI K fd ps []:=λs us _ hl=>by
  rw[dr] at hl ⊢;exact .of_eq (h us hl)
noncomputable def qO(CX:A0)(X:Cx)(E:XK):Prop:=∀(pj:List (af×gj)) (σ:St) (H:Hp) (s:ah) (e:ac) (s':ah),Inv X pj σ H s->CX X.stack H s E e s'->X.xe e s'
variable {vs:List V}{CX:A0}{sp:Sp}{SZ:gm}
section
variable {k:Nat}{dvs:List V}{ds:List ac}{E:XK}{x:bf}{o:Expr}{t:TA}
theorem Df{Q:VK}(F:FnOk X.prog X.w X.K X.mg X.base CX k f fd ps sp)(hr:Room k X.A)(hb:dI X.K fd ps ds)(hd:aY dvs ds)(hx:qO CX X E)
    (I:Inv X pj σ H s) (r:aY vs us) (h:sp (vs++dvs) H Q E):bi (bn X.prog X.w) X.A (call (.ref f) us) (EP X pj σ Q) X.xe s:=by
  have r2:aY (vs++dvs) (us++ds):=r.append hd;have hl:(us++ds).length=ps.length:=by rw[<- r2.length];exact F.len _ _ _ _ h
  refine my (gt (F.run X.A X.stack s H ⟨us,[]⟩ (us++ds) (vs++dvs) Q E hr I.env0 (hb s us I.kIn hl) r2 h) λr s' hq=>?_);cases r with
  |error e=>exact hx pj σ H s e s' I hq
  |ok fl=>
    cases fl with
    |ret u=>exact I.after hq
    |next=>exact cb hq
    |brk=>exact cb hq
    |cont=>exact cb hq
theorem BM(F:FnOk X.prog X.w X.K X.mg X.base CX k f fd ps sp)(hr:Room k X.A)(hg:Gl X x)(hm:X.mg x=aa (.ref f))(hk:ic X.K (.ref f)=ai)(hb:dI X.K fd ps ds)(hd:aY dvs ds)(hx:qO CX X E)
    (ha:PA X (e::es) t) (hdb:autoParam ((x==("__debug__" : bf))=ao) hG._auto_1) (he:autoParam (au (e::es) X.env=(ao,di e X.env)::au es X.env) b7._auto_1) (hpl:autoParam ((dq pos (au es X.env)).any (·.1)=ao) b7._auto_1):
    PE X (.Call (.Name x p) (e::es) [] pos) (Ht sp dvs E t):=by
  intro pj s σ H Q I h;refine fx (fX I hg hm ?_ hdb);refine kx (h₀:=X.base) I.ok.mod.kin hk (thn (ha pos pj s σ H _ I h) λus s1 ⟨vs,H1,I1,r,q⟩=>⟨I1.kIn,?_⟩) he hpl;exact Df F hr hb hd hx I1 r q
theorem EC(he:PE X o ta)(c:Cls X.K C)(hm:Meth X.K C m f)(F:FnOk X.prog X.w X.K X.mg X.base CX k f fd ps sp)(hr:Room k X.A)(hb:dI X.K fd ps ds)(hd:aY dvs ds)(hx:qO CX X E)
    (ht:autoParam (di (.Call (.Attribute o m SZ) [] [] pos) X.env=(do
      let ov <- di o X.env
      qp SZ.atName
      let (f,first) <- ku [ov] (pc ov m pl)
      ug pos f first (dq pos (au [] X.env)) (nz pos (jp [] X.env)))) b7._auto_1):
    PE X (.Call (.Attribute o m SZ) [] [] pos) (DX C m sp dvs E ta IU):=by
  intro pj s σ H Q I h;refine vd (pl:=pl) (thn (he pj s σ H _ I h) λu s1 ⟨x,H1,I1,rx,a,dx,fs,ex,ea,l,q⟩=>?_) ht;subst ex;obtain rfl:u=Value.ref a:=rx;refine nS I1 ea c hm l ?_;exact RA (first:=[.ref a]) I1.kIn hm.kp (Df (us:=[.ref a]) (vs:=[.ref a]) F hr hb hd hx I1 (.cons rfl .nil) q)
structure Mk(K:aj)(C f:af):Prop where
  makes:ze K C=ai
  init:kf K (.ref C) "__init__" = aa (aa (.ref f))
  fn:SD K (.ref f)=ai
  kp:ic K (.ref C)=ai
theorem De{Q:VK}(M:Mk X.K C f)(F:FnOk X.prog X.w X.K X.mg X.base CX k f fd ps sp)(hr:Room (k+1) X.A)(hb:dI X.K fd ps ds)(hd:aY dvs ds)
    (hx:qO CX X E) (I:Inv X pj σ H s) (r:aY vs us)
    (h:∀x dx,H x=aq->H dx=aq->dx≠x->sp (.ref x::(vs++dvs)) (upd (upd H dx (.own x)) x (.ins C dx [])) (λv H2=>v=.non/\Q (.ref x) H2) E):
    bi (bn X.prog X.w) X.A (call (.ref C) us) (EP X pj σ Q) X.xe s:=by
  have hq:=h (s.heap.objs.size+1) s.heap.objs.size (I.hok.fresh (RL _)) (I.hok.fresh (bo _)) (eu (zf _));have I2:=Inv.made (C:=C) I;have r2:aY (V.ref (s.heap.objs.size+1)::(vs++dvs)) (Value.ref (s.heap.objs.size+1)::(us++ds)):=.cons rfl (r.append hd);have hl:(Value.ref (s.heap.objs.size+1)::us++ds).length=ps.length:=by
    have e:=r2.length;rw[F.len _ _ _ _ hq] at e;exact e.symm
  refine my (Ei (f:=f) I.kIn M.makes M.init (beq_iff_eq.mp M.fn) (gt (F.run _ X.stack _ _ ⟨Value.ref (s.heap.objs.size+1)::us,[]⟩ (Value.ref (s.heap.objs.size+1)::(us++ds)) _ _ E (hr.make C us [])
    (I2.env0.make C us []) (hb _ (Value.ref (s.heap.objs.size+1)::us) I2.kIn hl) r2 hq) λr s' hq'=>?_))
  cases r with
  |error e=>exact hx pj σ _ _ e s' I2 hq'
  |ok fl=>
    cases fl with
    |ret u=>
      obtain⟨v,H',I3,rv,ev,q3⟩:=I2.after hq';subst ev;exact⟨rv,⟨V.ref (s.heap.objs.size+1),H',I3,rfl,q3⟩⟩
    |next=>exact cb hq'
    |brk=>exact cb hq'
    |cont=>exact cb hq'
theorem GX(M:Mk X.K C f)(F:FnOk X.prog X.w X.K X.mg X.base CX k f fd ps sp)(hr:Room (k+1) X.A)(hg:Gl X x)(hm:X.mg x=aa (.ref C))(hb:dI X.K fd ps ds)(hd:aY dvs ds)(hx:qO CX X E)
    (ha:PA X (e::es) t) (hdb:autoParam ((x==("__debug__" : bf))=ao) hG._auto_1) (he:autoParam (au (e::es) X.env=(ao,di e X.env)::au es X.env) b7._auto_1) (hpl:autoParam ((dq pos (au es X.env)).any (·.1)=ao) b7._auto_1):
    PE X (.Call (.Name x p) (e::es) [] pos) (Kc C sp dvs E t):=by
  intro pj s σ H Q I h;refine fx (fX I hg hm ?_ hdb);refine kx (h₀:=X.base) I.ok.mod.kin M.kp (thn (ha pos pj s σ H _ I h) λus s1 ⟨vs,H1,I1,r,q⟩=>⟨I1.kIn,?_⟩) he hpl;exact De M F hr hb hd hx I1 r q
end
section
variable {k:Nat}{ks:List bf}{E:XK}{x:bf}{kpos:gm}{o:Expr}{kws:List sy}{t tk:TA}{nm:Option bf}
variable {g:List ac->List ac->List ac}{gV:List V->List V->List V}
end
structure FnScope(N P:List bf)(sc:Scope):Prop where
  kind:sc.kind=.function
  co:sc.isCoroutine=ao
  gen:sc.isGenerator=ao
  nd:N.Nodup
  pre:N.take P.length=P
  par:∀x∈P,sc.names.lookup x=aa .local \/ sc.names.lookup x=aa .cell
  nofree:∀y∈sc.names,y.2 ≠ .free
theorem v8{pd:bf->Option px}{x:bf}:∀{binds:List (bf×ac)} {m:bf->Option ac},(∀v,(x,v) ∉ binds)->Re pd binds m x=m x
  | [],_,_=>rfl
  | (n,v)::r,m,h=>by
    unfold Re;rw[v8 λw hw=>h w (cp _ hw)];split
    . have:x≠n:=by rintro rfl;exact h v de
      simp[this]
    . rfl
theorem vA{pd:bf->Option px}{x:bf}:∀{binds:List (bf×ac)} {m:bf->Option ac},(∀v,(x,v) ∉ binds)->Rf pd binds m x=m x
  | [],_,_=>rfl
  | (n,v)::r,m,h=>by
    unfold Rf;rw[vA λw hw=>h w (cp _ hw)];split
    . rfl
    . have:x≠n:=by rintro rfl;exact h v de
      simp[this]
theorem v9{pd:bf->Option px}{x:bf}{v:ac}:∀{P:List bf} {vs:List ac} {i:Nat} {m:bf->Option ac},P.Nodup->P[i]?=aa x->vs[i]?=aa v->pd x=aa .local ->
    Re pd (P.zip vs) m x=aa v
  | [],_,_,_,_,h,_,_=>by simp at h
  |_::_,[],_,_,_,_,h,_=>by simp at h
  |p::P,w::vs,0,m,nd,h1,h2,hk=>by
    simp at h1 h2;subst h1;subst h2;show Re pd ((p,w)::P.zip vs) m p=_;unfold Re;rw[v8 λv hv=>(ur.mp nd).1 (ut hv).1,SS hk];simp
  |p::P,w::vs,i+1,m,nd,h1,h2,hk=>by
    show Re pd ((p,w)::P.zip vs) m x=_;unfold Re;exact v9 (i:=i) (ur.mp nd).2 (by simpa using h1) (by simpa using h2) hk
theorem vB{pd:bf->Option px}{x:bf}{v:ac}:∀{P:List bf} {vs:List ac} {i:Nat} {m:bf->Option ac},P.Nodup->P[i]?=aa x->vs[i]?=aa v->pd x≠aa .local ->
    Rf pd (P.zip vs) m x=aa v
  | [],_,_,_,_,h,_,_=>by simp at h
  |_::_,[],_,_,_,_,h,_=>by simp at h
  |p::P,w::vs,0,m,nd,h1,h2,hk=>by
    simp at h1 h2;subst h1;subst h2;show Rf pd ((p,w)::P.zip vs) m p=_;unfold Rf;rw[vA λv hv=>(ur.mp nd).1 (ut hv).1,Sm hk];simp
  |p::P,w::vs,i+1,m,nd,h1,h2,hk=>by
    show Rf pd ((p,w)::P.zip vs) m x=_;unfold Rf;exact vB (i:=i) (ur.mp nd).2 (by simpa using h1) (by simpa using h2) hk
noncomputable def start(N:List bf)(vs:List V):St:=vs.map aa++bc (N.length-vs.length) aq
noncomputable def rK(A:bu):List af:=match A.handled with
  |some (.ref a)=>[a]
  |_=>[]
theorem Cn(h:A.handled=aq):rK A=[]:=by
  unfold rK;rw[h]
noncomputable def bP(CX:A0)(P:ay)(w:bg)(K:aj)(mg:bf->Option ac)(base:br)(N:List bf)(SV:bf)(SU:Scope)(f:af)(cd:ac)(A:bu)(outer:List ox)(s:ah)(H:Hp)(E:XK):Cx where
  prog:=P
  w:=w
  K:=K
  mg:=mg
  base:=base
  A:=A.deeper (ir SV SU s.heap.objs.size f cd)
  N:=N
  s₀:=s
  HZ:=H
  env:=ir SV SU s.heap.objs.size f cd
  outer:=outer
  stack:=ir SV SU s.heap.objs.size f cd::outer
  ex:=[]
  calm:=ai
  fn:=λ_=>ai
  pn:=[]
  hs:=rK A
  xe:=λe s'=>bi (bn P w) (A.deeper (ir SV SU s.heap.objs.size f cd)) (R4 (ir SV SU s.heap.objs.size f cd) e) (λ_ s''=>CX outer H s E e s'') (λe' s''=>CX outer H s E e' s'') s'
theorem zN{sc:Scope}{x:bf}(h:sc.names.lookup x=aa .cell):∃c,(wn n sc.names []).lookup x=aa c:=by
  have q:=pf sc.names n [] (.inl h);exact tf.mp q
theorem qI{cd:ac}{s1:ah}{E:XK}
    (S:FnScope N ps SU) (hd:A.handled=aq) (e0:Env0 P w K mg base A outer s H) (hl:vs.length=ps.length) (r:aY vs us)
    (x:InCallC s s.heap.objs.size (Re (ir SV SU s.heap.objs.size f cd).kindOf (ps.zip us) λ_=>aq) (wn (s.heap.objs.size+1) SU.names []) (Rf (ir SV SU s.heap.objs.size f cd).kindOf (ps.zip us) λ_=>aq) s1):
    Inv (bP CX P w K mg base N SV SU f cd A outer s H E) [] (start N vs) H s1:=by
  have hpl:ps.length<=N.length:=by have:=congrArg List.length S.pre;rw[jq] at this;right
  obtain⟨h1,tk,rfl,hk⟩:=x.done;have noA:∀b:af,b ∉ (bP CX P w K mg base N SV SU f cd A outer s H E).ex:=λb z=>absurd (show b∈([]:List af) from z) (by simp);refine⟨⟨e0.mod,S.kind,rfl,rfl,bo _,λy z c h1 h2=>?_,λy hy=>?_,λy c _ h=>?_,λ_=>hd,Around.frames_deeper e0.frames,.inr ⟨rfl,rfl⟩,λb z=>absurd z (noA b),e0.bs,e0.bsz,λb _ _=>noA b,λb z=>absurd z (noA b),e0.funs,e0.frf,.inl hd⟩,
    rfl,e0.bare,Un.kept hk,⟨_,x.toInCall.ns,λi y v h1 h2 h3=>?_⟩,λy c h=>⟨_,x.cell y c h⟩,e0.hok.fresh (bo _),λy c h=>?_,λp hp=>absurd (show p∈([]:List (af×gj)) from hp) (by simp),e0.hok.kept hk,?_,λa ha=>absurd (show a∈rK A from ha) (by rw[Cn hd];simp)⟩
  . exact name_of_addr x.apart (fg h1) (fg h2)
  . have hy:SU.names.lookup y=aa .cell \/ SU.names.lookup y=aa .free:=hy;rcases hy with hy | hy
    . exact zN hy
    . exact absurd rfl (S.nofree _ (fg hy))
  . exact vx (x.above y c (fg h))
  . have hi:i<vs.length:=by
      unfold start at h2;by_cases hi:i<vs.length
      . exact hi
      . rw[cg (by simpa using hi)] at h2;rw[fk] at h2;split at h2<;>cases h2
    have ha:vs[i]?=aa v:=by
      unfold start at h2;rw[bp (by simpa using hi),bw] at h2;cases e:vs[i]? with
      |none=>rw[e] at h2;cases h2
      |some a=>rw[e] at h2;cases h2;rfl
    obtain⟨u,hu,rv⟩:=r.get ha;have hp:ps[i]?=aa y:=by
      rw[<- S.pre,ua ⋯];exact h1
    have ndP:ps.Nodup:=by rw[<- S.pre];exact S.nd.sublist (List.take_sublist _ _)
    refine⟨u,rv,?_⟩;rcases S.par y (cq hp) with k | k
    . exact .inl ⟨k,v9 ndP hp hu k⟩
    . obtain⟨c,e⟩:=zN (n:=s.heap.objs.size+1) k;refine .inr ⟨.inl k,c,e,?_⟩;have q:=x.cell y c e;rw[vB ndP hp hu (by show SU.names.lookup y≠_;rw[k];decide)] at q;exact q
  . exact e0.hok.fresh (vx (x.above y c (fg h)))
  . unfold start;show _=N.length;rw[fy,bt,kg];right
theorem IH{k:Nat}{T8:zg}{dV kV doc pm cdv ct oc:ac}{an od:Option af}
    {osl:Array (Option ac)}   (lk:K.lookup f=aa ⟨oc,od,.func (oa name SV T8 T1 SU dV kV doc pm an cdv ct),osl⟩) (hcd:rh K cdv SV=ai) (S:FnScope N ps SU)
    (len:∀vs H Q E,sp vs H Q E->vs.length=ps.length)
    (T3:∀(A:bu) (outer:List ox) (s:ah) (H:Hp) (vs:List V) (Q:VK) (E:XK),Room k (A.deeper (ir SV SU s.heap.objs.size f cdv))->sp vs H Q E ->
      ∃t,pP (bP CX P w K mg base N SV SU f cdv A outer s H E) T1 t/\t { nx:=λ_ H'=>Q .non H',rt:=Q } (start N vs) H):
    FnOk P w K mg base CX (k+1) f (oa name SV T8 T1 SU dV kV doc pm an cdv ct) ps sp:=by
  refine⟨len,λA outer s H args us vs Q E hr e0 hb r hsp=>?_⟩;have hl:=len _ _ _ _ hsp;have KX:K.In s.heap:=e0.mod.kin.keeps λb o e=>(e0.bs b o e).1;have lim:s.heap.NoLimit:=e0.mod.nolimit.keeps λb o e=>(e0.bs b o e).1;have T0:∀y∈ps.zip us,SU.names.lookup y.1=aa .local \/ (SU.names.lookup y.1=aa .cell/\((wn (s.heap.objs.size+1) SU.names []).lookup y.1).isSome=ai):=λ⟨n,v⟩ hy=>by
    rcases S.par n (ut hy).1 with q | q
    . exact .inl q
    . exact .inr ⟨q,pf _ _ _ (.inl q)⟩
  refine oy hr.depth (KX _ _ lk) rfl S.co S.gen rfl (yi KX hcd) (hb _ _ _ _ ?_);refine md S.kind T0 λenv he s1 x=>?_;subst he;refine⟨lim.keeps x.toInCall.keep,yj ?_⟩;obtain⟨t,ht,hq⟩:=T3 A outer s H vs Q E (hr.deeper _) hsp;have I:Inv (bP CX P w K mg base N SV SU f cdv A outer s H E) [] (start N vs) H s1:=qI S hr.hd e0 hl r x;refine df (ht [] s1 (start N vs) H _ I hq) (λfl s' hs=>?_) λe s' hs=>hs;have fin:∀{σ':St} {H':Hp} {v:V} {u:ac},Inv (bP CX P w K mg base N SV SU f cdv A outer s H E) [] σ' H' s'->bU v u->Q v H'->CE outer P w H s Q u s':=
    λ{σ' H' v u} J rv q=>⟨v,H',J.os,J.bare,J.base,J.hok,rv,q⟩
  cases fl with
  |ret u=>
    obtain⟨v,σ',H',J,rv,q⟩:=hs;exact fin J rv q
  |next=>
    obtain⟨σ',H',J,q⟩:=hs;exact fin (v:=V.non) (u:=eg) J rfl q
  |brk=>
    obtain⟨_,_,_,q⟩:=hs;exact cb q
  |cont=>
    obtain⟨_,_,_,q⟩:=hs;exact cb q
section
variable {x:bf}{t:TA}{id T:String}{r:List V->Hp->VK->Prop}
noncomputable def NW(r:List V->Hp->VK->Prop)(t:TA):TE:=λσ H Q=>t σ H λvs H1=>r vs H1 Q
theorem xW(hc:eB X (.builtin id) r)(hg:Gl X x)(hm:X.mg x=aq)(hv:kr x=aa (.builtin id))(ha:PA X (e::es) t)(hn:autoParam (x ≠ "__name__") hG._auto_1)(hdb:autoParam ((x==("__debug__" : bf))=ao) hG._auto_1)
    (he:autoParam (au (e::es) X.env=(ao,di e X.env)::au es X.env) b7._auto_1) (hpl:autoParam ((dq pos (au es X.env)).any (·.1)=ao) b7._auto_1):PE X (.Call (.Name x p) (e::es) [] pos) (NW r t):=by
  intro pj s σ H Q I h;refine fx (nR I hg hm hv ?_ hn hdb);exact zh (thn (ha pos pj s σ H _ I h) λus s1 zq2=>by obtain⟨vs,H1,I1,r1,q1⟩:=zq2;exact hc pj s1 σ H1 vs us Q I1 r1 q1) he hpl
theorem q9(hc:eB X (.type T) r)(hg:Gl X x)(hm:X.mg x=aq)(hv:kr x=aa (.type T))(ha:PA X (e::es) t)(hn:autoParam (x ≠ "__name__") hG._auto_1)(hdb:autoParam ((x==("__debug__" : bf))=ao) hG._auto_1)
    (he:autoParam (au (e::es) X.env=(ao,di e X.env)::au es X.env) b7._auto_1) (hpl:autoParam ((dq pos (au es X.env)).any (·.1)=ao) b7._auto_1):PE X (.Call (.Name x p) (e::es) [] pos) (NW r t):=by
  intro pj s σ H Q I h;refine fx (nR I hg hm hv ?_ hn hdb);exact gq (thn (ha pos pj s σ H _ I h) λus s1 zq3=>by obtain⟨vs,H1,I1,r1,q1⟩:=zq3;exact hc pj s1 σ H1 vs us Q I1 r1 q1) he hpl
end
end L2
namespace HT
open PySem PyProof.Rows
section
open PySem.SeqAt
open PySem.AutoSeq1 (wpAny_loadPart')
open PySem.MeetsSeq PySem.MeetsSeq2 PySem.MeetsSeq3
end
variable {Q:ac->ah->Prop}{sl:af}{vl vu:ac}{lo hi:Option Int}
theorem Hl{t:af}{vs ws:List ac}(ht:SL s.heap t vs.toArray)(hb:SL s.heap b ws.toArray)(hv:vs≠[])
    (h1:ws=[]->Q (.ref t) s) (h2:ws≠[]->Q (.ref s.heap.objs.size) { s with heap:=s.heap.push { cls:=.type "tuple",data:=.seq (vs++ws).toArray } })
    (hsz:vs.length+ws.length<=bh):bi (bn prog w) A (gn .Add (.ref t) (.ref b)) Q E s:=by
  obtain⟨⟨cls,dd,data,sl⟩,ho,hc,n,hd⟩:=id ht;obtain⟨⟨cls2,dd2,data2,sl2⟩,ho2,hc2,n2,hd2⟩:=id hb;simp only at hc hd hc2 hd2;subst hc hd hc2 hd2;have e:vs.toArray++ws.toArray=(vs++ws).toArray:=by simp
  by_cases hw:ws=[]
  . exact yk ⟨_,ho,rfl⟩ ⟨_,ho2,rfl⟩ uh xf og ni (mr _ _)
      (tuple_addW1 t b vs.toArray ws.toArray n n2 dd dd2 sl sl2 (by simpa using hv) (by simp[hw])) ⟨ho,ho2,h1 hw⟩
  . refine yk ⟨_,ho,rfl⟩ ⟨_,ho2,rfl⟩ uh xf og ni (mr _ _)
      (tuple_addW2 t b vs.toArray ws.toArray n n2 dd dd2 sl sl2 (by simpa using hv) (by simpa using hw) (by rw[bz,bz];exact hsz)) ⟨ho,ho2,?_⟩
    rw[e];exact h2 hw
noncomputable def fJ(n d:Nat):Option Int->Nat
  |none=>d
  |some v=>if v<0 then (v+(n:Int)).toNat else min v.toNat n
theorem xN(n d:Nat):fJ n d aq=d:=rfl
theorem Ib(n d:Nat)(hd:d<=n)(o:Option Int):fJ n d o<=n:=by
  cases o with
  |none=>exact hd
  |some v=>
    show (if v<0 then (v+(n:Int)).toNat else min v.toNat n)<=n;by_cases hv:v<0
    . rw[SS hv];right
    . rw[Sm hv];exact Nat.min_le_right _ _
theorem Bg(v:Int)(n d:Nat):(if v<0 then max (v+(n:Int)) 0 else min v (n:Int))=((fJ n d (aa v):Nat):Int):=by
  show (if v<0 then max (v+(n:Int)) 0 else min v (n:Int))=(((if v<0 then (v+(n:Int)).toNat else min v.toNat n):Nat):Int);by_cases hv:v<0
  . simp only[SS hv];right
  . simp only[Sm hv];right
theorem Ay(lo hi:Option Int)(n:Nat):mm lo hi 1 (n:Int)=(((fJ n 0 lo:Nat):Int),((fJ n n hi:Nat):Int)):=by
  have h1:¬((1:Int)<0):=⋯;unfold mm;simp only[h1,if_false];refine Prod.ext ?_ ?_
  . cases lo with
    |none=>rfl
    |some v=>exact Bg v n 0
  . cases hi with
    |none=>rfl
    |some v=>exact Bg v n n
theorem AH(i j:Nat):jj (i:Int) (j:Int) 1=j-i:=by
  unfold jj;have h1:(1:Int) > 0:=⋯;simp only[h1,if_true,Int.ediv_one];split<;>right
theorem sO{v:ac}{o:Option Int}{Q:Option Int->ah->Prop}(p:xp v o)(h:Q o s):bi (bn prog w) A (Qw v) Q E s:=by
  cases p with
  |none=>exact Rg h
  |int i t=>exact slicePart_int h
theorem pX{Q:Int×Int×Nat->ah->Prop}(hs:s.heap.IsSliceOf sl vl vu .none)(pl:xp vl lo)(pu:xp vu hi)
    (h:Q (((fJ n 0 lo:Nat):Int),1,fJ n n hi-fJ n 0 lo) s):bi (bn prog w) A (rj (.ref sl) (fo (n:Int))) Q E s:=by
  obtain⟨os,hos,hcs,hds⟩:=id hs;unfold rj Ry;refine ae (ae (dj hos hds (x:=vl) rfl (ae (dj hos hds (x:=vu) rfl (ae (dj hos hds (x:=.none) rfl (az ?_)))))));refine ae (Rg ?_);show bi _ _ (if ((1:Int)==0)=ai then _ else _) _ _ s;rw[Sm ∅];refine ae (sO pl (ae (sO pu (ae (az ?_)))));show bi _ _ (match mm lo hi 1 (n:Int) with | (lo,hi)=>fo (lo,(1:Int),jj lo hi 1)) _ _ s;rw[Ay lo hi n];show bi _ _ (fo (((fJ n 0 lo:Nat):Int),(1:Int),jj ((fJ n 0 lo:Nat):Int) ((fJ n n hi:Nat):Int) 1)) _ _ s;rw[AH];exact az h
theorem E8(xs:Array ac)(i k:Nat):((fh k).filterMap λ(m:Nat)=>xs[((i:Int)+(m:Int)*1).toNat]?).toArray=((xs.toList.drop i).take k).toArray:=by
  have e:(λ(m:Nat)=>xs[((i:Int)+(m:Int)*1).toNat]?)=λm=>xs[i+m]?:=by
    funext m;have:((i:Int)+(m:Int)*1).toNat=i+m:=⋯;rw[this]
  rw[e];have:=pick_run xs i k;rw[List.filterMap_map] at this;have e2:((λx=>xs[x]?) ∘ λx=>i+x)=λm=>xs[i+m]?:=rfl;rw[e2] at this;rw[this]
theorem pE{t:af}{items:Array ac}(ht:SL s.heap t items)(hs:s.heap.IsSliceOf sl vl vu .none)(pl:xp vl lo)(pu:xp vu hi)
    (hw:¬(fJ items.size 0 lo=0/\fJ items.size items.size hi=items.size))
    (h:Q (.ref s.heap.objs.size) { s with heap:=s.heap.push { cls:=.type "tuple",data:=.seq ((items.toList.drop (fJ items.size 0 lo)).take (fJ items.size items.size hi-fJ items.size 0 lo)).toArray } })
    (hsz:items.size<=bh):bi (bn prog w) A (wm (.ref t) (.ref sl)) Q E s:=by
  have htake:sizeOk (.seq ((items.toList.drop (fJ items.size 0 lo)).take (fJ items.size items.size hi-fJ items.size 0 lo)).toArray):=by
    show ((items.toList.drop (fJ items.size 0 lo)).take (fJ items.size items.size hi-fJ items.size 0 lo)).toArray.size<=bh;rw[bz,jq,wc,xa];right
  have hj:fJ items.size items.size hi<=items.size:=Ib _ _ (bo _) hi;obtain⟨os,hos,hcs,hds⟩:=id hs;have hTs:s.TypeIs (.ref sl) "slice" := ⟨os,hos,hcs⟩;unfold wm
  try with_reducible refine gf ?_
  first | refine ae (az ?_) | skip
  refine ae (wpAny_sequenceKey ht.typeIs ∅ ?_);refine ae (ef (name:=ee "__getitem__") ht.typeIs jz
    (et jz ht.typeIs entry_tuple_getitem ?_ (args_tuple_getitem _ _)))
  show bi _ _ (Rh (.ref t) >>= _) _ _ s;refine ae (tupleItemsOf_ ht ?_);refine ae (wpAny_typeOf hTs ?_);rw[SS ∅];refine ae (pX hs pl pu ?_);have hno:¬((((fJ items.size 0 lo:Nat):Int)==0&&(1:Int)==1&&(fJ items.size items.size hi-fJ items.size 0 lo)==items.size)=ai):=by
    intro q;rw[cf,cf] at q;have q1:((fJ items.size 0 lo:Nat):Int)=0:=eq_of_beq q.1.1;have q2:fJ items.size items.size hi-fJ items.size 0 lo=items.size:=eq_of_beq q.2;exact hw ⟨⋯,⋯⟩
  show bi _ _ (if (((fJ items.size 0 lo:Nat):Int)==0&&(1:Int)==1&&(fJ items.size items.size hi-fJ items.size 0 lo)==items.size)=ai then _ else _) _ _ s;rw[Sm hno,E8]
  first
    |exact ae (m:=jw _) (fj (az ⟨_,rfl,az h⟩) htake)
    |exact ae (m:=jw _) (fj (ae (az (az ⟨_,rfl,az h⟩))) htake)
    |exact ae (ae (m:=jw _) (fj (az (az ⟨_,rfl,az h⟩)) htake))
    |exact ae (ae (m:=jw _) (fj (az ⟨_,rfl,az h⟩) htake))
end HT
variable {xs:List L2.V}{H:L2.Hp}{X:L2.Cx}{σ:L2.St}{ns:List Int}
namespace L2
noncomputable abbrev TO:=St->Hp->(Option Int->Hp->Prop)->Prop
noncomputable def PO(X:Cx)(e:Option Expr)(t:TO):Prop:=
  ∀(pj:List (af×gj)) (s:ah) (σ:St) (H:Hp) (Q:Option Int->Hp->Prop),Inv X pj σ H s->t σ H Q ->
    bi (bn X.prog X.w) X.A (evalPart e X.env) (λu s'=>∃o H',Inv X pj σ H' s'/\xp u o/\Q o H') X.xe s
noncomputable def G1:TO:=λ_ H Q=>Q aq H
noncomputable def KY(t:TE):TO:=λσ H Q=>t σ H λx H1=>∃i,x=.int i/\Q (aa i) H1
theorem Aj:∀{us:List ac},aY (ns.map V.int) us->lj us ns:=by
  induction ns with
  |nil=>intro us r;rw[wo] at r;cases r;exact .nil
  |cons n ns ih=>
    intro us r;rw[cn] at r;cases r with
    |cons r1 r2=>
      obtain⟨t,e⟩:=r1;subst e;exact .cons n t (ih r2)
variable {r:V->Option Int->Option Int->Hp->VK->Prop}
section
variable {te:TE}{lo hi:Option Expr}{tl th:TO}{p2:gm}
theorem GU:PO X aq G1:=by
  intro pj s σ H Q I h;rw[evalPart_none];exact az ⟨aq,H,I,.none,h⟩
theorem GT(h:PE X e te):PO X (aa e) (KY te):=by
  intro pj s σ H Q I hw;rw[evalPart_some];refine thn (h pj s σ H _ I hw) λu s1 zz=>?_;obtain⟨x,H1,I1,r1,q1⟩:=zz;obtain⟨i,rfl,q⟩:=q1;obtain⟨t,rfl⟩:=r1;exact⟨aa i,H1,I1,.int i t,q⟩
noncomputable def K3(X:Cx)(r:V->Option Int->Option Int->Hp->VK->Prop):Prop:=
  ∀(pj:List (af×gj)) (s:ah) (σ:St) (H:Hp) (x:V) (v vl vu:ac) (lo hi:Option Int) (sl:af) (Q:VK),Inv X pj σ H s->bU x v->s.heap.IsSliceOf sl vl vu .none->xp vl lo->xp vu hi->r x lo hi H Q ->
    ∃T id,typeLookup (.type T) "__getitem__" = fo (aa (.builtin id))/\s.TypeIs v T/\bi (bn X.prog X.w) X.A (wm v (.ref sl)) (EP X pj σ Q) X.xe s
theorem K3.or{r':V->Option Int->Option Int->Hp->VK->Prop}(h:K3 X r)(h':K3 X r'):K3 X (λx lo hi H Q=>r x lo hi H Q \/ r' x lo hi H Q):=by
  intro pj s σ H x v vl vu lo hi sl Q I rx hs pl pu q;rcases q with q | q
  . exact h pj s σ H x v vl vu lo hi sl Q I rx hs pl pu q
  . exact h' pj s σ H x v vl vu lo hi sl Q I rx hs pl pu q
noncomputable def QH(r:V->Option Int->Option Int->Hp->VK->Prop)(te:TE)(tl th:TO):TE:=λσ H Q=>te σ H λx H1=>tl σ H1 λl H2=>th σ H2 λu H3=>r x l u H3 Q
theorem E9(hr:K3 X r)(he:PE X e te)(hl:PO X lo tl)(hu:PO X hi th):PE X (.Subscript e (.Slice lo hi aq p2) pos) (QH r te tl th):=by
  intro pj s σ H Q I h;refine Subscript_ (thn (he pj s σ H _ I h) λv s1 zz=>?_);obtain⟨x,H1,I1,r1,q1⟩:=zz;refine wpAny_Slice (thn (hl pj s1 σ H1 _ I1 q1) λvl s2 ⟨l,H2,I2,pl,q2⟩=>thn (hu pj s2 σ H2 _ I2 q2) λvu s3 zz=>?_);obtain⟨u,H3,I3,pu,q3⟩:=zz;rw[evalPart_none];refine az ?_;have I4:Inv X pj σ H3 { s3 with heap:=s3.heap.push { cls:=.type "slice",data:=.fields #[vl,vu,.none] } }:=I3.kept (t':=s3.toks) λb ob q=>av _ q;obtain⟨T,id,hT,ht,hg⟩:=hr pj { s3 with heap:=s3.heap.push { cls:=.type "slice",data:=.fields #[vl,vu,.none] } } σ H3 x v vl vu l u s3.heap.objs.size Q I4 r1 (Heap.IsSliceOf.new ..) pl pu q3;show bi (bn X.prog X.w) X.A (xg e (.Slice lo hi aq p2) v (.ref s3.heap.objs.size)) (EP X pj σ Q) X.xe { s3 with heap:=s3.heap.push { cls:=.type "slice",data:=.fields #[vl,vu,.none] } };exact tail_any (ops:=[.ref s3.heap.objs.size,v]) ht hT hg (by with_unfolding_all rfl)
noncomputable def zK(xs:List V)(lo hi:Option Int):List V:=(xs.drop (HT.fJ xs.length 0 lo)).take (HT.fJ xs.length xs.length hi-HT.fJ xs.length 0 lo)
theorem r9(xs:List V)(lo hi:Option Int):(zK xs lo hi).length<=xs.length:=by
  unfold zK;rw[jq,wc];right
noncomputable def Nq(K:aj):V->Option Int->Option Int->Hp->VK->Prop:=λx lo hi H Q=>∃a xs,x=.ref a/\kX K H a xs /\
  ¬(HT.fJ xs.length 0 lo=0/\HT.fJ xs.length xs.length hi=xs.length) /\ ∀p,H p=aq->Q (.ref p) (upd H p (.tup (zK xs lo hi)))
theorem IZ:K3 X (Nq X.K):=by
  intro pj s σ H x v vl vu lo hi sl Q I rx hs pl pu h;obtain⟨a,xs,rfl,hx,hw,q⟩:=h;cases rx;obtain⟨its,r,ht,hz⟩:=I.tuple hx;have hlen:its.toArray.size=xs.length:=by rw[bz];exact r.length.symm
  refine⟨"tuple",_,jz.lookup,ht.typeIs,?_⟩;refine HT.pE ht hs pl pu (by rw[hlen];exact hw) ?_ (by rw[hlen];exact hz);rw[hlen];refine⟨.ref s.heap.objs.size,_,I.laid (t':=s.toks) (o:=.tup (zK xs lo hi)) (λb ob q=>av _ q) (bo _) ?_,rfl,q _ (I.hok.fresh (bo _))⟩;exact⟨jo (r9 xs lo hi) hz,_,(r.drop (HT.fJ xs.length 0 lo)).take (HT.fJ xs.length xs.length hi-HT.fJ xs.length 0 lo),IsTup.new _ _⟩
noncomputable def Kz(K:aj):R2:=λx y H Q=>∃a b xs ys,x=.ref a/\y=.ref b/\kX K H a xs/\kX K H b ys/\xs≠[]/\xs.length+ys.length<=bh /\
  (ys=[]->Q (.ref a) H)/\(ys≠[] -> ∀p,H p=aq->Q (.ref p) (upd H p (.tup (xs++ys))))
theorem aY.nil_iff(r:aY xs us):us=[] ↔ xs=[]:=by
  cases r with
  |nil=>simp
  |cons _ _=>simp
theorem Gf:iA X (gn .Add) (Kz X.K):=by
  intro pj s σ H x y v u Q I rx ry h;obtain⟨a,b,xs,ys,rfl,rfl,ha,hb,hx,hz,q1,q2⟩:=h;cases rx;cases ry;obtain⟨its,r1,p1,_⟩:=I.tuple ha;obtain⟨its2,r2,p2,_⟩:=I.tuple hb;refine HT.Hl p1 p2 (λz=>hx (r1.nil_iff.mp z)) (λz=>⟨.ref a,H,I,rfl,q1 (r2.nil_iff.mp z)⟩) (λz=>?_) (by rw[<- r1.length,<- r2.length];exact hz);refine⟨.ref s.heap.objs.size,_,I.laid (t':=s.toks) (o:=.tup (xs++ys)) (λb ob q=>av _ q) (bo _) ?_,rfl,q2 (λw=>z (r2.nil_iff.mpr w)) _ (I.hok.fresh (bo _))⟩;exact⟨by rw[fy];exact hz,_,r1.append r2,IsTup.new _ _⟩
end
noncomputable def qX(n:Nat)(i:Int):Option Nat:=if 0<=i then (if i<n then aa i.toNat else aq) else if -(n:Int)<=i then aa (i+n).toNat else aq
noncomputable def kW(xs:List α)(i:Int):Option α:=(qX xs.length i).bind λj=>xs[j]?
variable {i:Int}
theorem BV{j:Nat}(h:qX n i=aa j):seqIndex? i n=aa j/\j<n /\ -(n:Int)<=i/\i<n:=by
  unfold qX at h;by_cases h0:0<=i
  . rw[SS h0] at h;by_cases h1:i<n
    . rw[SS h1] at h;have e:i.toNat=j:=Option.some.inj h;exact⟨by rw[zw h0 h1,e],⋯,⋯,h1⟩
    . rw[Sm h1] at h;cases h
  . rw[Sm h0] at h;by_cases h1:-(n:Int)<=i
    . rw[SS h1] at h;have e:(i+n).toNat=j:=Option.some.inj h;exact⟨by rw[yl ⋯ h1,e],⋯,h1,⋯⟩
    . rw[Sm h1] at h;cases h
theorem wX{xs:List α}{v:α}(h:kW xs i=aa v):∃j,seqIndex? i xs.length=aa j/\xs[j]?=aa v/\j<xs.length /\ -(xs.length:Int)<=i/\i<xs.length:=by
  unfold kW at h;cases e:qX xs.length i with
  |none=>rw[e] at h;cases h
  |some j=>
    rw[e] at h;obtain⟨h1,h2,h3,h4⟩:=BV e;exact⟨j,h1,h,h2,h3,h4⟩
noncomputable def Bi(b:Expr):Prop:=∀o i,zx b ao o i=operate [o,i] (wm o i)
noncomputable def Fw(X:Cx)(r:R2):Prop:=
  ∀(T5 Tb:Expr) (pj:List (af×gj)) (s:ah) (σ:St) (H:Hp) (x y:V) (v u:ac) (Q:VK),Inv X pj σ H s->bU x v->bU y u->r x y H Q ->
    zx Tb ao v u=operate [v,u] (wm v u)->bi (bn X.prog X.w) X.A (xg T5 Tb v u) (EP X pj σ Q) X.xe s
noncomputable def PY(X:Cx)(id:String)(r:V->List V->Hp->VK->Prop):Prop:=
  ∀(pj:List (af×gj)) (s:ah) (σ:St) (H:Hp) (x:V) (xs:List V) (v:ac) (us:List ac) (Q:VK),Inv X pj σ H s->bU x v->aY xs us->r x xs H Q ->
    bi (bn X.prog X.w) X.A (call (.builtin id) (v::us)) (EP X pj σ Q) X.xe s
variable {ys:List V}{its its':List ac}
section
variable {X:Cx}{a b:Expr}{ta tb:TE}{pos:gm}
theorem Fw.or{r r':R2}(h:Fw X r)(h':Fw X r'):Fw X (λx y H Q=>r x y H Q \/ r' x y H Q):=by
  intro T5 Tb pj s σ H x y v u Q I rx ry q hs;rcases q with q | q
  . exact h T5 Tb pj s σ H x y v u Q I rx ry q hs
  . exact h' T5 Tb pj s σ H x y v u Q I rx ry q hs
theorem LG{r:R2}(hr:Fw X r)(ha:PE X a ta)(hb:PE X b tb)(hs:Bi b):PE X (.Subscript a b pos) (KZ r ta tb):=by
  intro pj s σ H Q I h;exact Subscript_ (Jv ha hb I h λv u s2 x y H2 I2 rx ry q=>hr a b pj s2 σ H2 x y v u Q I2 rx ry q (hs _ _))
noncomputable def Kx(K:aj):R2:=λx y H Q=>∃p xs i v,x=.ref p/\y=.int i/\eT K H p xs/\kW xs i=aa v/\Q v H
noncomputable def Kv(K:aj):R2:=λx y H Q=>∃p xs i v,x=.ref p/\y=.int i/\kX K H p xs/\kW xs i=aa v/\Q v H
noncomputable def Kw:R2:=λx y H Q=>∃z i c,x=.str z/\y=.int i/\z.length<=bh/\kW z.cps.toList i=aa c/\Q (.str ⟨#[c]⟩) H
theorem HI:Fw X (Kx X.K):=by
  intro T5 Tb pj s σ H x y v u Q I rx ry h hs;obtain⟨p,xs,i,z,rfl,rfl,hq,he,q⟩:=h;cases rx;obtain⟨t,rfl⟩:=ry;obtain⟨its,r,pl,hz⟩:=I.list hq;obtain⟨j,h1,h2,h3,h4,h5⟩:=wX he;obtain⟨w,ew,rw'⟩:=r.get h2;have hl:=r.length;have hn:=lK;have fin:EP X pj σ Q w s:=⟨z,H,I,rw',q⟩;by_cases h0:0<=i
  . have hj:i.toNat=j:=by
      rw[zw h0 h5] at h1;exact Option.some.inj h1
    exact item_listR pl.isList h0 ⋯ (by rw[hj];simpa using ew) fin hs
  . have hj:(i+(its.toArray.size:Int)).toNat=j:=by
      rw[yl ⋯ h4] at h1;rw[bz,<- hl];exact Option.some.inj h1
    exact uu (x:=w) pl.isList.typeIs yn.lookup
      (wpAny_getItem_list_neg (Q:=λr s'=>r=w/\EP X pj σ Q r s') pl.isList ⋯ (by rw[bz]<;>right) ⋯ (by rw[hj];simpa using ew) ⟨rfl,fin⟩) hs
theorem Jh:Fw X (Kv X.K):=by
  intro T5 Tb pj s σ H x y v u Q I rx ry h hs;obtain⟨p,xs,i,z,rfl,rfl,hq,he,q⟩:=h;cases rx;obtain⟨t,rfl⟩:=ry;obtain⟨its,r,pl,hz⟩:=I.tuple hq;obtain⟨j,h1,h2,h3,h4,h5⟩:=wX he;obtain⟨w,ew,rw'⟩:=r.get h2;have hl:=r.length;have hn:=lK;have fin:EP X pj σ Q w s:=⟨z,H,I,rw',q⟩;exact uu (x:=w) pl.typeIs slot_tuple_getitem.lookup
    (getItem_tuple (j:=j) (Q:=λr s'=>r=w/\EP X pj σ Q r s') pl ⋯ ⋯ (by rw[bz,<- hl];exact h1) (by simpa using ew) ⟨rfl,fin⟩) hs
theorem Ji:Fw X Kw:=by
  intro T5 Tb pj s σ H x y v u Q I rx ry h hs;obtain⟨z,i,c,rfl,rfl,hz,he,q⟩:=h;obtain⟨t,rfl⟩:=rx;obtain⟨t',rfl⟩:=ry;obtain⟨j,h1,h2,h3,h4,h5⟩:=wX he;have hl:z.cps.toList.length=z.length:=by simp[Str.length]
  rw[hl] at h1 h4 h5;have hn:=lK;exact tail_any (typeIs_str s z t) slot_str_getitem.lookup (getItem_str (c:=c) (by
    have e1:decide (i < -(2 ^ 63:Int))=ao:=decide_eq_false ⋯;have e2:decide (i >= 2 ^ 63)=ao:=decide_eq_false ⋯;rw[e1,e2,Bool.or_false]) (by rw[h1];simpa using h2) ⟨.str ⟨#[c]⟩,H,I.tok _,⟨_,rfl⟩,q⟩) hs
noncomputable def QM(K:aj):R2:=λx y H Q=>Kx K x y H Q \/ Kv K x y H Q \/ Kw x y H Q
theorem Jj:Fw X (QM X.K):=HI.or (Jh.or Ji)
theorem AZ(its:List ac)(n j:Nat)(u:ac):rm (·.setIfInBounds j u) { cls:=.type "list",data:=.seq its.toArray n }={ cls:=.type "list",data:=.seq (its.set j u).toArray n }:=by
  simp[rm]
theorem Inv.lst{pj:List (af×gj)}{σ:St}{H:Hp}{s:ah}{p:af}{xs:List V}(I:Inv X pj σ H s)(h:H p=aa (.lst xs)):
    ∃(its:List ac) (n:Nat),aY xs its/\s.heap.get? p=aa { cls:=.type "list",data:=.seq its.toArray n }/\xs.length<=bh:=by
  obtain⟨z,its,n,r,e⟩:=I.hok p _ h;exact⟨its,n,r,e,z⟩
theorem Inv.lstUpd{p:af}{n':Nat}{f:gj->gj}(I:Inv X pj σ H s)(h:H p=aa (.lst xs))
    (ho:s.heap.get? p=aa { cls:=.type "list",data:=.seq its.toArray n }) (hf:f { cls:=.type "list",data:=.seq its.toArray n }={ cls:=.type "list",data:=.seq its'.toArray n' }) (r:aY ys its') (hz:ys.length<=bh) (t:Nat):
    Inv X pj σ (upd H p (.lst ys)) { s with heap:=s.heap.update p f,toks:=t }:=by
  have e:(s.heap.update p f).get? p=aa { cls:=.type "list",data:=.seq its'.toArray n' }:=by
    rw[gz f ho (by rw[hf]<;>rfl),hf]
  refine I.write (x:=p) (e:=p) (by rw[h];trivial) (.inl rfl) (λb u hb q=>(bx _ _ (fm hb)).trans q) ⟨_,e⟩ ?_;exact⟨hz,its',n',r,e⟩
noncomputable def Ku:V->V->V->Hp->(Hp->Prop)->Prop:=λo i v H Q=>∃p xs k j,o=.ref p/\i=.int k/\H p=aa (.lst xs)/\qX xs.length k=aa j/\Q (upd H p (.lst (xs.set j v)))
theorem xL:K4 X Ku:=by
  intro pj s σ H o i v ov iv u Q I ro ri rv h;obtain⟨p,xs,k,j,rfl,rfl,hp,hj,q⟩:=h;cases ro;obtain⟨t,rfl⟩:=ri;obtain⟨its,n,r,ho,hz⟩:=I.lst hp;obtain⟨h1,h2,h3,h4⟩:=BV hj;have hl:=r.length;have hn:=lK;have I':Inv X pj σ (upd H p (.lst (xs.set j v))) { s with heap:=s.heap.update p (rm (·.setIfInBounds j u)) }:=
    I.lstUpd hp ho (AZ its n j u) (r.set rv j) (by rw[List.length_set];exact hz) s.toks
  by_cases h0:0<=k
  . have hk:k.toNat=j:=by
      rw[zw h0 h4] at h1;exact Option.some.inj h1
    exact W.ki_setAt ho h0 ⋯ (by rw[bz,<- hl];exact h4) (by rw[hk];exact⟨_,I',q⟩)
  . have hk:(k+(its.toArray.size:Int)).toNat=j:=by
      rw[yl ⋯ h3] at h1;rw[bz,<- hl];exact Option.some.inj h1
    exact W.ki_setBack ho ⋯ (by rw[bz,<- hl];exact h3) ⋯ (by rw[hk];exact⟨_,I',q⟩)
theorem vJ(lo hi:Option Int)(n:Nat):(nj lo hi aq n).1=((HT.fJ n 0 lo:Nat):Int)/\(nj lo hi aq n).2.1=((HT.fJ n n hi:Nat):Int)/\(nj lo hi aq n).2.2=1:=by
  refine⟨?_,?_,rfl⟩
  . cases lo with
    |none=>simp[nj,HT.fJ]
    |some i=>
      simp only[nj,HT.fJ,getD_none,show (1:Int) > 0 by decide,if_true];by_cases h:i<0
      . simp only[h,if_true]<;>right
      . simp only[h,if_false]<;>right
  . cases hi with
    |none=>simp[nj,HT.fJ]
    |some i=>
      simp only[nj,HT.fJ,getD_none,show (1:Int) > 0 by decide,if_true];by_cases h:i<0
      . simp only[h,if_true]<;>right
      . simp only[h,if_false]<;>right
theorem tX(its:List ac)(lo hi:Option Int):slicePick its.toArray lo hi aq=((its.drop (HT.fJ its.length 0 lo)).take (HT.fJ its.length its.length hi-HT.fJ its.length 0 lo)).toArray:=by
  obtain⟨h1,h2,h3⟩:=vJ lo hi its.toArray.size;unfold slicePick;rw[h1,h2,h3];simp only[sliceRange_one,pick_run,bz]<;>rfl
noncomputable def Nr(K:aj):V->Option Int->Option Int->Hp->VK->Prop:=λx lo hi H Q=>∃a xs,x=.ref a/\eT K H a xs /\ ∀p,H p=aq->Q (.ref p) (upd H p (.lst (zK xs lo hi)))
theorem G7:K3 X (Nr X.K):=by
  intro pj s σ H x v vl vu lo hi sl Q I rx hs pl pu h;obtain⟨a,xs,rfl,hx,q⟩:=h;cases rx;obtain⟨its,r,ht,hz⟩:=I.list hx;have hlen:=r.length;refine⟨"list",_,yn.lookup,ht.isList.typeIs,?_⟩;refine wpAny_getItem_list_slice ht.isList hs pl pu .none (by simp) ?_ (by rw[bz]<;>right);rw[tX,<- hlen];refine⟨.ref s.heap.objs.size,_,I.laid (t':=s.toks) (o:=.lst (zK xs lo hi)) (λb ob q=>av _ q) (bo _) ?_,rfl,q _ (I.hok.fresh (bo _))⟩;exact⟨jo (r9 xs lo hi) hz,_,0,(r.drop (HT.fJ xs.length 0 lo)).take (HT.fJ xs.length xs.length hi-HT.fJ xs.length 0 lo),bq _ rfl⟩
theorem wW:eB X (.builtin "len") (λxs H Q=>∃p ys,xs=[.ref p]/\(eT X.K H p ys \/ kX X.K H p ys)/\Q (.int ys.length) H):=by
  intro pj s σ H xs us Q I r h;obtain⟨p,ys,rfl,hq,q⟩:=h;obtain⟨u,rfl,rx⟩:=iF r;cases rx;have hn:=lK;rcases hq with hq | hq
  . obtain⟨its,r',pl,hz⟩:=I.list hq;have hlen:=r'.length;exact Calls.call_len_list pl.isList (by simp only[bz]<;>right) ⟨.int ys.length,H,I.tok _,⟨s.toks+1,by rw[bz,hlen]⟩,q⟩
  . obtain⟨its,r',pl,hz⟩:=I.tuple hq;have hlen:=r'.length;exact len_tuple pl (by simp only[bz]<;>right) ⟨.int ys.length,H,I.tok _,⟨s.toks+1,by rw[bz,hlen]⟩,q⟩
theorem wV:eB X (.builtin "len") (λxs H Q=>∃z,xs=[.str z]/\z.length<=bh/\Q (.int z.length) H):=by
  intro pj s σ H xs us Q I r h;obtain⟨z,rfl,hz,q⟩:=h;obtain⟨u,rfl,t,rfl⟩:=iF r;have hn:=lK;exact len_str ⋯ ⟨.int z.length,H,I.tok _,⟨_,rfl⟩,q⟩
theorem eB.or{f:ac}{r r':List V->Hp->VK->Prop}(h:eB X f r)(h':eB X f r'):eB X f (λxs H Q=>r xs H Q \/ r' xs H Q):=by
  intro pj s σ H xs us Q I rs q;rcases q with q | q
  . exact h pj s σ H xs us Q I rs q
  . exact h' pj s σ H xs us Q I rs q
theorem wU:eB X (.type "list") (λxs H Q=>∃p ys,xs=[.ref p]/\(eT X.K H p ys \/ kX X.K H p ys) /\ ∀l,H l=aq->Q (.ref l) (upd H l (.lst ys))):=by
  intro pj s σ H xs us Q I r h;obtain⟨p,ys,rfl,hq,q⟩:=h;obtain⟨u,rfl,rx⟩:=iF r;cases rx;have fin:∀(its:List ac),aY ys its->ys.length<=bh -> ∀(h':br) (c':Nat),(∀b o',s.heap.get? b=aa o'->h'.get? b=aa o') ->
      h'.get? s.heap.objs.size=aa { cls:=.type "list",dict:=aq,data:=.seq its.toArray c',slots:=#[] }->EP X pj σ Q (.ref s.heap.objs.size) { s with heap:=h' }:=λits r' hz h' c' kp e=>
    ⟨.ref s.heap.objs.size,_,I.laid (t':=s.toks) kp (bo _) (show cB X.prog X.w _ h' _ (.lst ys) from⟨hz,its,c',r',e⟩),rfl,q _ (I.hok.fresh (bo _))⟩
  rcases hq with hq | hq
  . obtain⟨its,r',pl,hz⟩:=I.list hq;have hlen:=r'.length;obtain⟨o,ho,hc,n,hd⟩:=pl.isList;exact call_list_seq p (.inl rfl) ho hc hd (λh' c' kp e=>fin its r' hz h' c' kp e) (by simp only[bz]<;>right)
  . obtain⟨its,r',pl,hz⟩:=I.tuple hq;have hlen:=r'.length;obtain⟨o,ho,hc,n,hd⟩:=pl;exact call_list_seq p (.inr rfl) ho hc hd (λh' c' kp e=>fin its r' hz h' c' kp e) (by simp only[bz]<;>right)
theorem uG:eB X (.type "tuple") (λxs H Q=>∃p ys,xs=[.ref p]/\((eT X.K H p ys /\ ∀l,H l=aq->Q (.ref l) (upd H l (.tup ys))) \/ (kX X.K H p ys/\Q (.ref p) H))):=by
  intro pj s σ H xs us Q I r h;obtain⟨p,ys,rfl,h⟩:=h;obtain⟨u,rfl,rx⟩:=iF r;cases rx;rcases h with⟨hq,q⟩ | ⟨hq,q⟩
  . obtain⟨its,r',pl,hz⟩:=I.list hq;have hlen:=r'.length;refine call_tuple_list pl.isList (λh' kp=>?_) (by simp only[bz]<;>right);have I1:Inv X pj σ H { s with heap:=h' }:=I.kept (t':=s.toks) kp;have I2:Inv X pj σ (upd H h'.objs.size (.tup ys)) { s with heap:=h'.push { cls:=.type "tuple",data:=.seq its.toArray } }:=
      I1.laid (t':=s.toks) (λb o e=>av _ e) (bo _) (show cB X.prog X.w _ _ _ (.tup ys) from⟨hz,its,r',IsTup.new _ _⟩)
    exact⟨.ref h'.objs.size,_,I2,rfl,q _ (I1.hok.fresh (bo _))⟩
  . obtain⟨its,r',pl,hz⟩:=I.tuple hq;exact call_tuple_same pl ⟨.ref p,H,I,rfl,q⟩
noncomputable def ND(K:aj)(T:String)(x:V)(H:Hp):Prop:=match x with
  | .str _=>T = "str"
  | .int _=>T = "int"
  | .ref p=>(T = "list" /\ ∃xs,eT K H p xs) \/ (T = "tuple" /\ ∃o,K.lookup p=aa o/\o.cls=.type "tuple" /\ o.dict=aq) \/
      (T = "dict" /\ ((∃kvs,H p=aa (.dK kvs)) \/ ∃ep kvs,H p=aa (.dT ep kvs))) \/ (T = "set" /\ ∃S n,H p=aa (.set S n))
  |_=>False
theorem DS{T:String}{x:V}{v:ac}(I:Inv X pj σ H s)(r:bU x v)(ty:ND X.K T x H):
    s.TypeIs v T /\ ∀a,v=.ref a -> ∃ob,s.heap.get? a=aa ob/\ob.dict=aq:=by
  cases x with
  |str z=>
    obtain⟨t,rfl⟩:=r;cases (show T = "str" from ty);exact⟨typeIs_str s z t,λ_ e=>nomatch e⟩
  |int i=>
    obtain⟨t,rfl⟩:=r;cases (show T = "int" from ty);exact⟨Ri s i t,λ_ e=>nomatch e⟩
  |ref p=>
    cases r;rcases ty with⟨rfl,xs,hq⟩ | ⟨rfl,o,hk,hc,hd⟩ | ⟨rfl,hk⟩ | ⟨rfl,S,n,hk⟩
    . obtain⟨its,_,pl,_⟩:=I.list hq;refine⟨pl.isList.typeIs,λa e=>?_⟩;cases e;obtain⟨o,n,e,c,hd,_⟩:=pl;exact⟨o,e,hd⟩
    . refine⟨⟨o,I.kIn p o hk,hc⟩,λa e=>?_⟩;cases e;exact⟨o,I.kIn _ o hk,hd⟩
    . have z:∃o,s.heap.get? p=aa o/\o.ExactDict:=by
        rcases hk with⟨kvs,hk⟩ | ⟨ep,kvs,hk⟩
        . obtain⟨_,_,_,_,o,_,_,e,ex,_⟩:=I.hok p _ hk;exact⟨o,e,ex⟩
        . obtain⟨_,_,_,_,o,_,e,ex,_⟩:=I.hok p _ hk;exact⟨o,e,ex⟩
      obtain⟨o,e,ex⟩:=z;refine⟨⟨o,e,ex.1⟩,λa e2=>?_⟩;cases e2;exact⟨o,e,ex.2.1⟩
    . obtain⟨o,_,_,_,e,ex,_⟩:=I.hok p _ hk;refine⟨⟨o,e,ex.1⟩,λa e2=>?_⟩;cases e2;exact⟨o,e,ex.2.1⟩
  |_=>exact cb ty
noncomputable def NX(K:aj)(T:String)(r:V->List V->Hp->VK->Prop)(to:TE):TE:=λσ H Q=>to σ H λx H1=>ND K T x H1/\r x [] H1 Q
noncomputable def QL(K:aj)(T:String)(r:V->List V->Hp->VK->Prop)(to:TE)(t:TA):TE:=λσ H Q=>to σ H λx H1=>ND K T x H1/\t σ H1 λxs H2=>r x xs H2 Q
variable {o e:Expr}{es:List Expr}{to:TE}{t:TA}{name:bf}{SZ SX:gm}{T id:String}{r:V->List V->Hp->VK->Prop}
theorem JD(pa:PlainAttrs T)(slot:Slot T name id)(hty:SF (.builtin id)=fo (.type "method_descriptor"))(hm:PY X id r)(ho:PE X o to)
    (T6:autoParam (iw o name X.env (di o X.env)=di o X.env) b7._auto_1) (Td:autoParam ((SZ.endLine==SX.line)=ai) b7._auto_1):PE X (.Call (.Attribute o name SZ) [] [] SX) (NX X.K T r to):=by
  intro pj s σ H Q I h;refine wpAny_Call_method0_late T6 Td (thn (ho pj s σ H _ I h) λv s1 zz=>?_);obtain⟨x,H1,I1,r1,ty,q1⟩:=zz;obtain⟨h1,h2⟩:=DS I1 r1 ty;exact⟨T,id,pa,slot,hty,h1,h2,uv rfl (PySem.evalArgs_none (hm pj s1 σ H1 x [] v [] Q I1 r1 .nil q1))⟩
theorem EJ(pa:PlainAttrs T)(slot:Slot T name id)(hty:SF (.builtin id)=fo (.type "method_descriptor"))(hm:PY X id r)(ho:PE X o to)(ha:PA X (e::es) t)
    (T6:autoParam (iw o name X.env (di o X.env)=di o X.env) b7._auto_1)
    (hfew:autoParam (((dq SX (au (e::es) X.env)).all (λx=>!x.1)&&(nz SX (jp [] X.env)).all (λx=>x.1.isSome)
      && decide ((e::es).length+([]:List sy).length+(if ([]:List sy).isEmpty then 0 else 1)<30))=ai) b7._auto_1)
    (Td:autoParam ((SZ.endLine==SX.line)=ai) b7._auto_1) (hs:autoParam (au (e::es) X.env=(ao,di e X.env)::au es X.env) b7._auto_1) (Tc:autoParam ((dq SX (au es X.env)).any (·.1)=ao) b7._auto_1):
    PE X (.Call (.Attribute o name SZ) (e::es) [] SX) (QL X.K T r to t):=by
  intro pj s σ H Q I h;refine wpAny_Call_method_late T6 hfew Td rfl (thn (ho pj s σ H _ I h) λv s1 zz=>?_);obtain⟨x,H1,I1,r1,ty,q1⟩:=zz;obtain⟨h1,h2⟩:=DS I1 r1 ty;refine⟨T,id,pa,slot,hty,h1,h2,?_⟩;have hA:=ha SX pj s1 σ H1 _ I1 q1;rw[hs] at hA ⊢;refine uv (by show (ao || (dq SX (au es X.env)).any (·.1))=ao;rw[Tc]<;>rfl) (pz ?_);exact thn hA λus s2 zq4=>by obtain⟨vs,H2,I2,r2,q2⟩:=zq4;exact hm pj s2 σ H2 x vs v us Q I2 r1 r2 q2
/- xs.append(e),list.index on a module's tuple .. are PY facts of 06m -/
end
noncomputable def PZ(X:Cx)(id:String)(r:V->List V->Hp->VK->Prop):Prop:=
  ∀(pj:List (af×gj)) (s:ah) (σ:St) (H:Hp) (x:V) (xs:List V) (v:ac) (us:List ac) (Q:VK),Inv X pj σ H s->bU x v->aY xs us->r x xs H Q ->
    bi (bn X.prog X.w) X.A (call (.builtin id) (v::us)) (EP X pj σ Q) X.xe s
theorem aY.one:∀{x:V} {us:List ac},aY [x] us -> ∃u,us=[u]/\bU x u
  |_,_,.cons r .nil=>⟨_,rfl,r⟩
theorem aY.zero:∀{us:List ac},aY [] us->us=[]
  |_,.nil=>rfl
theorem aY.dropLast{xs:List V}{us:List ac}(h:aY xs us):aY xs.dropLast us.dropLast:=by
  induction h with
  |nil=>exact .nil
  |cons r t ih=>
    cases t with
    |nil=>exact .nil
    |cons q t'=>exact .cons r ih
theorem aY.rep{xs:List V}{us:List ac}(h:aY xs us):∀k:Nat,aY (bc k xs).flatten (bc k us).flatten
  |0=>.nil
  |k+1=>by
    rw[kh,kh,oj,oj];exact aY.append h (aY.rep h k)
theorem Al(l:List α):l.eraseIdx (l.length-1)=l.dropLast:=by
  induction l with
  |nil=>rfl
  |cons a r ih=>
    cases r with
    |nil=>rfl
    |cons b r=>
      have e:(a::b::r).length-1=((b::r).length-1)+1:=by
        have h1:(a::b::r).length=r.length+2:=rfl;have h2:(b::r).length=r.length+1:=rfl;right
      rw[e,List.eraseIdx_cons_succ,ih]
      all_goals rfl
theorem v5(its:List ac):∀(k:Nat) (acc:List ac),
    Rj (λx1 x2=>x1++x2) acc.toArray (bc k its.toArray)=(acc++(bc k its).flatten).toArray
  |0,acc=>by simp
  |k+1,acc=>by
    have e:acc.toArray++its.toArray=(acc++its).toArray:=by simp
    have e2:(acc++its)++(bc k its).flatten=acc++(bc (k+1) its).flatten:=by
      rw[kh,oj,om]
    rw[<- e2,<- v5 its k (acc++its),<- e,kh,Rk]
variable {t':Nat}
section
variable {l:af}{zs:List V}
theorem Inv.lset{f:Array ac->Array ac}(I:Inv X pj σ H s)(hH:H l=aa (.lst xs))
    (e:s.heap.get? l=aa { cls:=.type "list",data:=.seq its.toArray n }) (hf:f its.toArray=its'.toArray) (hv:aY ys its') (hz:ys.length<=bh):
    Inv X pj σ (upd H l (.lst ys)) { s with heap:=s.heap.update l (rm f),toks:=t' }:=by
  have q:=PySem.IsL.update e f;rw[hf] at q;refine I.write (x:=l) (e:=l) (by rw[hH];exact trivial) (.inl rfl) (λb' u hb hu=>(bx s.heap (rm f) (fm hb)).trans hu) ⟨_,q⟩ ?_;exact⟨hz,its',_,hv,q⟩
theorem Inv.lnew(I:Inv X pj σ H s)(hv:aY ys its)(hz:ys.length<=bh):
    Inv X pj σ (upd H s.heap.objs.size (.lst ys)) { s with heap:=s.heap.push { cls:=.type "list",data:=.seq its.toArray },toks:=t' }:=
  I.laid (λ_ _ q=>av _ q) (bo _) ⟨hz,its,0,hv,bq _ rfl⟩
theorem Inv.fresh(I:Inv X pj σ H s):H s.heap.objs.size=aq:=I.hok.fresh (bo _)
theorem Inv.lstM(I:Inv X pj σ H s)(hH:H l=aa (.lst xs)):xs.length<=bh /\ ∃(its:List ac) (n:Nat),aY xs its/\xs.length=its.length/\s.heap.get? l=aa { cls:=.type "list",data:=.seq its.toArray n }:=by
  obtain⟨z,its,n,r,e⟩:=I.hok l _ hH;exact⟨z,its,n,r,r.length,e⟩
theorem yI(h:n<=bh):jx n=ao:=by
  unfold jx;exact decide_eq_false ⋯
end
noncomputable def GE:V->List V->Hp->VK->Prop:=λx vs H Q=>∃l xs y,x=.ref l/\vs=[y]/\H l=aa (.lst xs)/\xs.length<bh/\Q .non (upd H l (.lst (xs++[y])))
theorem qE:PZ X "list.append" GE:=by
  intro pj s σ H x vs v us Q I rx rv h;obtain⟨l,xs,y,rfl,rfl,hH,hz,q⟩:=h;cases rx;obtain⟨u,rfl,ru⟩:=rv.one;obtain⟨z,its,n,r,hl,e⟩:=I.lstM hH;refine uw F.slot_list_append ⟨_,e,rfl⟩ F.entry_list_append (F.args_list_append_2 _ _) (PySem.list_append l its.toArray n u (by rw[bz];right)) ⟨e,?_⟩;refine⟨.non,_,I.lset (its':=its++[u]) hH e (by simp) (r.append (.cons ru .nil)) ?_,rfl,q⟩;rw[fy,vk];right
noncomputable def GD:V->List V->Hp->VK->Prop:=λx vs H Q=>∃l b xs zs,x=.ref l/\vs=[.ref b]/\H l=aa (.lst xs)/\H b=aa (.lst zs)/\xs.length+zs.length<=bh/\Q .non (upd H l (.lst (xs++zs)))
theorem CS:PZ X "list.extend" GD:=by
  intro pj s σ H x vs v us Q I rx rv h;obtain⟨l,b,xs,zs,rfl,rfl,hH,hB,hz,q⟩:=h;cases rx;obtain⟨u,rfl,ru⟩:=rv.one;cases ru;obtain⟨z,its,n,r,hl,e⟩:=I.lstM hH;obtain⟨z2,its2,n2,r2,hl2,e2⟩:=I.lstM hB;have hsz:its.toArray.size+its2.toArray.size<=bh:=by rw[bz,bz];right
  have hlong:¬(!its.toArray.isEmpty&&jx (its.toArray.size+its2.toArray.size))=ai:=by
    rw[yI hsz,Bool.and_false];exact ie
  refine uw F.slot_list_extend ⟨_,e,rfl⟩ F.entry_list_extend (F.args_list_extend_2 _ _)
    (AutoSeq1.list_extend_list_list_0 l its.toArray n b its2.toArray n2 hlong (by rw[bz];right) ⋯) ⟨e,e2,?_⟩
  refine⟨.non,_,I.lset (its':=its++its2) hH e (by simp) (r.append r2) ?_,rfl,q⟩;rw[fy];right
noncomputable def Nu:V->List V->Hp->VK->Prop:=λx vs H Q=>∃l xs y,x=.ref l/\vs=[]/\H l=aa (.lst xs)/\xs[xs.length-1]?=aa y/\Q y (upd H l (.lst xs.dropLast))
theorem JV:PZ X "list.pop" Nu:=by
  intro pj s σ H x vs v us Q I rx rv h;obtain⟨l,xs,y,rfl,rfl,hH,hy,q⟩:=h;cases rx;have hus:=rv.zero;subst hus;obtain⟨z,its,n,r,hl,e⟩:=I.lstM hH;obtain⟨u,hu,ru⟩:=r.get hy;have hy':its.toArray[its.toArray.size-1]?=aa u:=by
    show its.toArray[its.length-1]?=aa u;rw[<- jg,<- hl];exact hu
  refine uw F.slot_list_pop ⟨_,e,rfl⟩ F.entry_list_pop (F.args_list_pop_1 _) (MeetsSeq.list_pop_last l its.toArray n u hy' (by rw[bz];right)) ⟨e,?_⟩;refine⟨y,_,I.lset (its':=its.dropLast) hH e ?_ r.dropLast ?_,ru,q⟩
  . show its.toArray.eraseIdxIfInBounds (its.toArray.size-1)=its.dropLast.toArray;rw[bz,List.eraseIdxIfInBounds_toArray,Al]
  . rw[List.length_dropLast];right
noncomputable def O0:R2:=λx y H Q=>∃l b xs zs,x=.ref l/\y=.ref b/\H l=aa (.lst xs)/\H b=aa (.lst zs)/\xs.length+zs.length<=bh /\ ∀p,H p=aq->Q (.ref p) (upd H p (.lst (xs++zs)))
theorem JS:iA X (gn .Add) O0:=by
  intro pj s σ H x y v u Q I rx ry h;obtain⟨l,b,xs,zs,rfl,rfl,hH,hB,hz,q⟩:=h;cases rx;cases ry;obtain⟨z,its,n,r,hl,e⟩:=I.lstM hH;obtain⟨z2,its2,n2,r2,hl2,e2⟩:=I.lstM hB;refine PySem.P.add_list e e2 ?_ (by rw[bz,bz];right);have ea:its.toArray++its2.toArray=(its++its2).toArray:=by simp
  rw[ea];exact⟨.ref _,_,I.lnew (t':=s.toks) (r.append r2) (by rw[fy];right),rfl,q _ I.fresh⟩
noncomputable def Nt:R2:=λx y H Q=>∃l k xs,x=.ref l/\y=.int k/\H l=aa (.lst xs) /\ -(2 ^ 63)<=k/\k<2 ^ 63/\xs.length*k.toNat<=bh /\
  ∀p,H p=aq->Q (.ref p) (upd H p (.lst (bc k.toNat xs).flatten))
theorem Gv(xs:List α)(k:Nat):(bc k xs).flatten.length=k*xs.length:=by
  induction k with
  |zero=>simp
  |succ k ih=>rw[kh,oj,fy,ih,RR,Nat.add_comm]
theorem JL:iA X (gn .Mult) Nt:=by
  intro pj s σ H x y v u Q I rx ry h;obtain⟨l,k,xs,rfl,rfl,hH,h1,h2,hz,q⟩:=h;cases rx;obtain⟨t,rfl⟩:=ry;obtain⟨z,its,n,r,hl,e⟩:=I.lstM hH;have hlen:its.toArray.size*k.toNat<=bh:=by rw[bz,<- hl];exact hz
  have hcap:¬its.toArray.size*k.toNat > (2 ^ 63-1) / 8:=by
    have:(bh:Nat)<=(2 ^ 63-1) / 8:=by decide
    right
  have hfit:¬(!Builtin.List.listFitsIndex k)=ai:=by
    rw[fitsIndex_both h1 h2];exact ie
  have hlong:¬jx (its.toArray.size*k.toNat)=ai:=by
    rw[yI hlen];exact ie
  have hnew:Rj (λx1 x2=>x1++x2) #[] (bc (if its.toArray.isEmpty=ai then 0 else k.toNat) its.toArray)=(bc k.toNat its).flatten.toArray:=by
    have f0:∀m:Nat,Rj (λx1 x2=>x1++x2) #[] (bc m its.toArray)=(bc m its).flatten.toArray:=λm=>by
      have:=v5 its m [];rw[xq] at this;exact this
    rw[f0];cases its with
    |nil=>simp
    |cons a r'=>rw[Sm (by simp)]
  refine wpAny_binaryOp_repeat_ref (T:="list") (U:="int") ∅ ⟨_,e,rfl⟩ (λs'=>Ri s' k t) noFill_list_mul F.fills_int_mul Qx repeat_list F.slot_int_index.lookup
    (uw Qx (Ri s k t) F.entry_int_rmul (F.args_int_rmul_2 _ _) (int___rmul___int_list k t l its.toArray n)
      ⟨e,rfl,⟨_,e,rfl⟩,uw F.slot_list_mul ⟨_,e,rfl⟩ F.entry_list_mul (F.args_list_mul_2 _ _) (AutoListH.list___mul___list_int_3 l its.toArray n k t hfit hcap hlong) ⟨e,?_⟩⟩)
  rw[hnew];exact⟨.ref _,_,I.lnew (t':=s.toks) (r.rep k.toNat) (by rw[Gv,Nat.mul_comm];exact hz),rfl,q _ I.fresh⟩
end L2
namespace Att
open PySem PySem.W PySem.Calls PyProof.Rows
variable {P:RS}
theorem rJ:∀(ns:List Int) (vs:List ac),WellAll P h vs (ns.map WData.int)->lj vs ns:=by
  intro ns;induction ns with
  |nil=>
    intro vs w;rw[wo] at w;cases w;exact .nil
  |cons n ns ih=>
    intro vs w;rw[cn] at w;cases w with
    |cons a b=>
      cases a;exact .cons _ _ (ih _ b)
variable {l:OpenLaw}
theorem Bt(hn:l.most=aa n){args:List WData}{vals:List ac}
    (hpre:l.row.toRowW.claim.pre args=ai) (hwl:WellAll P h vals args):
    ∃a vs ns,vals=[Value.ref a]/\args=[WData.list (ns.map WData.int)]/\h.get? a=aa { cls:=.type "list",data:=.seq vs.toArray }/\lj vs ns/\ns.length<=n:=by
  have hsh:WShape.hasAll [] args [.list .int]=ai:=(pre_splitW hpre).1;have hc:l.pre.holds [] { args:=args }=ai:=(pre_splitW hpre).2;obtain⟨d,r,rfl,h1,h2⟩:=hasAllW_cons hsh;obtain rfl:=hasAllW_nil h2;obtain⟨xs,rfl,h3⟩:=hasW_list h1;obtain⟨ns,rfl⟩:=items_int h3;have hlen:ns.length<=n:=by
    unfold OpenLaw.pre at hc;have h4:(WTm.not (.lt (.lit (.int (n:Int))) (.len (.arg 0)))).holds [] { args:=[.list (ns.map .int)] }=ai:=by
      have h4:=(holds_andW hc).1;rw[hn] at h4;exact h4
    have h5:=condW_of h4 (w_not (w_lt w_lit (w_len_list (w_arg rfl))));rw[bt] at h5;refine ml λq=>?_;have q':(n:Int)<((ns.length:Nat):Int):=⋯
    first
      | (rw[decide_eq_true q'] at h5;exact absurd h5 ∅)
      | (simp at h5;right)
  cases hwl with
  |cons w1 w2=>
    cases w2;cases w1 with
    |list ho Tq=>exact⟨_,_,ns,rfl,rfl,ho,rJ ns _ Tq,hlen⟩
theorem C3(l:OpenLaw)(args:List WData):l.row.toRowW.claim.post args (.bool ai) args=ai:=
  postW_of (r:=l.row.toRowW) (X:=(ai==ai))
    (show WShape.has [] (.bool ai) .bool=ai by first | rfl | decide | simp[WShape.has,WShape.arms,WShape.armsAll])
    (show (WTm.eq .res (.lit (.bool ai))).value [] { args:=args,res:=aa (.bool ai),after:=args }=aa (.bool (ai==ai)) from w_eq_bool (w_res rfl) w_lit) rfl
theorem zV{q:ay}{loose:List bf}{XP:(bf->Option ac)->br->Prop}{YP:bg->br->Prop}{d:DefRec}
    (hn:l.most=aa n) (hdf:d.params.defaults=[])
    (call:∀(w:bg) (s₀ s₁:ah) (mg mb:bf->Option ac) (fa:af) (o:gj) (pm cd doc:ac) (a:af) (vs:List ac) (ns:List Int),
      Ground q loose [] XP w s₀ mg mb s₁.heap->YP w s₁.heap ->
      s₁.heap.get? fa=aa o->o.data=.func (docDef d.name d.params d.body d.scope pm cd doc)->s₁.heap.CodeRec cd d.name->mg d.name=aa (.ref fa) ->
      s₁.heap.get? a=aa { cls:=.type "list",data:=.seq vs.toArray }->lj vs ns->ns.length<=n->s₁.gens = #[] ->
      qv (bn l.prog w) wp (.call (.ref fa) ⟨[.ref a],[]⟩) (λr s'=>r=.ok (.ret (.bool ai))/\OldK s₁.heap s'.heap/\s'.os=s₁.os/\pk s'.gens) s₁):
    WalkO q loose XP YP l.row.toRowW d [] (λf vs=>PySem.call f vs):=by
  intro w s₀ s₁ mg mb G Y fa o pm cd doc dV kV ho hd hcd hD hmg hg args vals as hpre hlay hrd hwl hlo;obtain rfl:dV=.none:=Dflts.none hD hdf;obtain rfl:kV=.none:=Dflts.noKw hD;obtain⟨a,vs,ns,rfl,rfl,hobj,hints,hlen⟩:=Bt hn hpre hwl;refine enter_call (gt (call w s₀ s₁ mg mb fa o pm cd doc a vs ns G Y ho (fd_plain hd) hcd hmg hobj hints hlen hg) λr s' hq=>?_);obtain⟨rfl,h2,h3,h4⟩:=hq;exact⟨.inl ⟨.bool ai,.bool ai,[],rfl,λ_=>rfl,.bool ai,C3 l _,λ_=>⟨List.Pairwise.nil,λ_ hm=>(nomatch hm)⟩⟩,h2,h3,h4⟩
section
variable {K:Frag}
end
end Att
variable {H' H1:L2.Hp}
namespace L2
theorem uM:∀{vs:List ac} {ns:List Int},lj vs ns->aY (ns.map V.int) vs
  |_,_,.nil=>.nil
  |_,_,.cons n t h=>.cons ⟨t,rfl⟩ (uM h)
noncomputable def Fp(H:Hp):Prop:=∀b,H b=aq \/ ∃o xs,H b=aa (.frz o (.lst xs))
variable {fd:fv}{sp:Sp}
theorem Ex{mb:bf->Option ac}{CX:A0}{k:Nat}{fa:af}{x:bf}{s₁:ah}{vs:List ac}
    (KX:K.In s₁.heap) (hns:s₁.heap.Ns ft mg) (hb:s₁.heap.Ns R8 mb) (hbb:∀x:bf,x ≠ "__name__" -> mb x=kr x) (hlim:s₁.heap.NoLimit) (hg:s₁.gens = #[])
    (ha:s₁.heap.get? a=aa { cls:=.type "list",data:=.seq vs.toArray }) (hi:lj vs ns) (hl:ns.length<=bh) (hr:Room k wp)
    (F:∀base:br,K.In base->base.Ns ft mg->FnOk P w K mg base CX k fa fd [x] sp) (hbind:∀(s:ah) (u:ac),uq s fd ⟨[u],[]⟩ [(x,u)])
    (hsp:∀H:Hp,Fp H->eT K H a (ns.map V.int)->sp [.ref a] H (λv _=>v=.bl ai) λ_ _ _=>False)
    (hCX:∀H e s',CX [] H s₁ (λ_ _ _=>False) e s'->False):
    qv (bn P w) wp (.call (.ref fa) ⟨[.ref a],[]⟩) (λr s'=>r=.ok (.ret (.bool ai))/\OldK s₁.heap s'.heap/\s'.os=s₁.os/\pk s'.gens) s₁:=by
  have rv:=uM hi;have lenV:=hi.length;have core:∀H:Hp,Fp H->eT K H a (ns.map V.int)->jL P w H s₁.heap->(∀b,H b≠aq->b=a)->(H a≠aq->K.lookup a=aq) ->
      qv (bn P w) wp (.call (.ref fa) ⟨[.ref a],[]⟩) (λr s'=>r=.ok (.ret (.bool ai))/\OldK s₁.heap s'.heap/\s'.os=s₁.os/\pk s'.gens) s₁:=by
    intro H hO hS hok hA hK;have base_of:∀{b:af} {o:gj},s₁.heap.get? b=aa o->H b=aq->(wE s₁.heap H).get? b=aa o:=λe n=>FB e n;have noA:∀{b:af} {o:gj} {es:Array ja} {ep:Nat},s₁.heap.get? b=aa o->o.data=.dict es ep->H b=aq:=λ{b o es ep} e d=>by
      cases q:H b with
      |none=>rfl
      |some u=>
        have e':b=a:=hA b (by rw[q];simp);subst e';rw[ha] at e;cases e;have d':Data.seq vs.toArray _=Data.dict es ep:=d;cases d'
    have nsK:∀{b:af} {m:bf->Option ac},s₁.heap.Ns b m->(wE s₁.heap H).Ns b m:=λ{b m} ⟨o,es,ep,e,d,r⟩=>⟨o,es,ep,base_of e (noA e d),d,r⟩;have hKb:K.In (wE s₁.heap H):=λb o e=>base_of (KX b o e) (by
      cases q:H b with
      |none=>rfl
      |some u=>
        have e':b=a:=hA b (by rw[q];simp);subst e';rw[hK (by rw[q];simp)] at e;cases e)
    have hM:Mod K mg (wE s₁.heap H):=⟨hKb,nsK hns,⟨mb,nsK hb,hbb⟩,let ⟨mc,h1,h2⟩:=hlim;⟨mc,nsK h1,h2⟩⟩;have e0:Env0 P w K mg (wE s₁.heap H) wp [] s₁ H:=⟨rfl,hM,λb o e=>Gh e,RQ (Co _ _),trivial,λb hb=>absurd (show b∈([]:List af) from hb) (by simp),hok,.of_eq hg⟩;refine gt ((F _ hKb (nsK hns)).run wp [] s₁ H ⟨[.ref a],[]⟩ [.ref a] [.ref a] _ _ hr e0 (hbind s₁ (.ref a)) (.cons rfl .nil) (hsp H hO hS)) λr s' h=>?_;cases r with
    |error e=>exact(hCX H e s' h).elim
    |ok fl=>
      cases fl with
      |next=>exact cb h
      |brk=>exact cb h
      |cont=>exact cb h
      |ret u=>
        obtain⟨v,H',os,bare,un,hok',r',q⟩:=h;have q':v=.bl ai:=q;subst q';obtain rfl:u=xn ai:=r';refine⟨rfl,OldK.of_keep λb o e=>?_,os,bare⟩;cases q:H b with
        |none=>exact un.keep b o e q (by intro z;exact absurd (show b∈([]:List af) from z) (by simp)) (by simp)
        |some u=>
          rcases hO b with z | ⟨ob,xs,z⟩
          . rw[q] at z;cases z
          . have z2:=un.frzs b ob _ z;obtain⟨e1,_⟩:=hok b _ z;obtain⟨e2,_⟩:=hok' b _ z2;rw[e] at e1;cases e1;exact e2
  cases hk:K.lookup a with
  |some o=>
    have e:=KX a o hk;rw[ha] at e;cases e;refine core (λ_=>aq) (λ_=>.inl rfl) (.inr ⟨_,vs.toArray,_,hk,rfl,rfl,rfl,by rw[bz,lenV];exact hl,by simpa using rv⟩) (λb u z=>by have z':(aq:Option HO)=aa u:=z;cases z') (λb z=>absurd rfl z) λz=>absurd rfl z
  |none=>
    refine core (λb=>if b=a then aa (.frz { cls:=.type "list",data:=.seq vs.toArray } (.lst (ns.map V.int))) else aq) (λb=>?_) (.inl (.inr ⟨{ cls:=.type "list",data:=.seq vs.toArray },SS rfl⟩)) (λb u z=>?_) (λb z=>?_) λ_=>hk
    . by_cases hb:b=a
      . exact .inr ⟨_,_,SS hb⟩
      . exact .inl (Sm hb)
    . by_cases hb:b=a
      . have z':=(SS hb).symm.trans z;cases z';subst hb;exact⟨ha,by rw[bt];exact hl,vs,_,rv,ha⟩
      . have z':=(Sm hb).symm.trans z;cases z'
    . by_cases hb:b=a
      . exact hb
      . exact absurd (Sm hb) z
theorem Fy{l:W.OpenLaw}{k:Nat}{q:ay}{loose:List bf}{XP:(bf->Option ac)->br->Prop}{YP:bg->br->Prop}{d:DefRec}{K:RS->aj}{CX:bg->A0}{sp:bg->Sp}{x:bf}
    (hn:l.most=aa n) (hn2:n<=bh) (hdf:d.params.defaults=[]) (hr:Room k wp)
    (hY:∀(w:bg) (h:br),YP w h->(K w.params).In h)
    (F:∀(w:bg) (mg:bf->Option ac) (fa:af) (h:br),(K w.params).In h->h.Ns ft mg->mg d.name=aa (.ref fa) ->
      ∃fd:fv,(∀(s:ah) (u:ac),uq s fd ⟨[u],[]⟩ [(x,u)]) /\
        ∀base:br,(K w.params).In base->base.Ns ft mg->FnOk l.prog w (K w.params) mg base (CX w) k fa fd [x] (sp w))
    (hsp:∀(w:bg) (H:Hp) (a:af) (ns:List Int),ns.length<=n->Fp H->eT (K w.params) H a (ns.map V.int)->sp w [.ref a] H (λv _=>v=.bl ai) λ_ _ _=>False)
    (hCX:∀(w:bg) (H:Hp) (s:ah) (e:ac) (s':ah),CX w [] H s (λ_ _ _=>False) e s'->False):
    W.WalkO q loose XP YP l.row.toRowW d [] (λf vs=>PySem.call f vs):=by
  refine Att.zV hn hdf λw s₀ s₁ mg mb fa o pm cd doc a vs ns G Y ho hd hcd hmg hobj hints hlen hg=>?_;have KX:=hY w _ Y;obtain⟨fd,hb,hF⟩:=F w mg fa _ KX G.T.g hmg;exact Ex KX G.T.g G.T.b G.T.builtins G.T.nolimit hg hobj hints (jo hlen hn2) hr hF hb (λH hO hS=>hsp w H a ns hlen hO hS) λH e s'=>hCX w H s₁ e s'
noncomputable def eG(s:gg)(j:Nat):gg:=match s with
  | .ClassDef _ _ _ T1 _ _ _ _ _ _ _=>T1.getD j (.Pass ⟨0,0,0,0⟩)
  |_=>.Pass ⟨0,0,0,0⟩
noncomputable def i7(s:gg):zg:=match s with
  | .FunctionDef _ a _ _ _ _ _ _ _ _=>a
  |_=>{ posonlyargs:=[],args:=[],vararg:=aq,kwonlyargs:=[],kw_defaults:=[],kwarg:=aq,defaults:=[] }
noncomputable def cM(s:gg):List gg:=match s with
  | .FunctionDef _ _ b _ _ _ _ _ _ _=>b
  |_=>[]
noncomputable def aB(s:gg):Scope:=match s with
  | .FunctionDef _ _ _ _ _ _ sc _ _ _=>sc
  |_=>{ kind:=.function,names:=[],isGenerator:=ao,isCoroutine:=ao }
noncomputable abbrev xD:A0:=λ_ _ _ _ _ _=>False
noncomputable abbrev E0:XK:=λ_ _ _=>False
theorem BN:qO xD X E0:=λ_ _ _ _ _ _ _ h=>h.elim
structure Fun(K:aj)(x qual:bf)(st:gg)(f:af)(fd:fv):Prop where
  ex:∃(oc:ac) (od:Option af) (kV doc pm:ac) (an:Option af) (cdv ct:ac) (osl:Array (Option ac)),
    fd=oa x qual (i7 st) (cM st) (aB st) .none kV doc pm an cdv ct/\K.lookup f=aa ⟨oc,od,.func fd,osl⟩/\rh K cdv qual=ai
  kp:ic K (.ref f)=ai
theorem Fun.ok{x:bf}{k:Nat}(F:Fun K x SV st f fd)(S:FnScope N ps (aB st))(len:∀vs H Q E,sp vs H Q E->vs.length=ps.length)
    (T3:∀(cdv:ac) (A:bu) (outer:List ox) (s:ah) (H:Hp) (vs:List V) (Q:VK) (E:XK),Room k (A.deeper (ir SV (aB st) s.heap.objs.size f cdv))->sp vs H Q E ->
      ∃t,pP (bP xD P w K mg base N SV (aB st) f cdv A outer s H E).nox (cM st) t/\t { nx:=λ_ H'=>Q .non H',rt:=Q } (start N vs) H):FnOk P w K mg base xD (k+1) f fd ps sp:=by
  obtain⟨oc,od,kV,doc,pm,an,cdv,ct,osl,rfl,lk,hcd⟩:=F.ex;refine IH lk hcd S len λA outer s H vs Q E hr hsp=>?_;obtain⟨t,h,q⟩:=T3 cdv A outer s H vs Q E hr hsp;exact⟨t,h.nox,q⟩
theorem Fun.binds{x:bf}(F:Fun K x SV st f fd)
    (h:∀(kV doc pm:ac) (an:Option af) (cdv ct:ac) (us:List ac),us.length=ps.length->Sk (oa x SV (i7 st) (cM st) (aB st) .none kV doc pm an cdv ct) ⟨us,[]⟩=fo (ps.zip us)):dI K fd ps []:=by
  obtain⟨oc,od,kV,doc,pm,an,cdv,ct,osl,rfl,lk,hcd⟩:=F.ex;exact .all (h kV doc pm an cdv ct)
theorem wG{x:bf}{oc:ac}{od an:Option af}{osl:Array (Option ac)}{kV doc pm cdv ct:ac}(l:K.lookup f=aa ⟨oc,od,.func (oa x SV (i7 st) (cM st) (aB st) .none kV doc pm an cdv ct),osl⟩)
    (c:rh K cdv SV=ai) (k:ic K (.ref f)=ai):Fun K x SV st f (oa x SV (i7 st) (cM st) (aB st) .none kV doc pm an cdv ct):=⟨⟨oc,od,kV,doc,pm,an,cdv,ct,osl,rfl,l,c⟩,k⟩
theorem dW{k:Nat}(hr:Room k A):A.units+1<ma:=xr (Nat.add_le_add_left (by decide:1<=64) _) hr.units
theorem Bs(h:n<=1000):n<bh:=xr h ∅
theorem pv(i:Nat){x:bf}(hN:autoParam (X.N[i]?=aa x) b7._auto_1)(hv:MB X.env.scope x:=by first | exact Or.inl rfl | exact Or.inr (.inl rfl) | exact Or.inr (.inr rfl))(hd:autoParam ((x==("__debug__" : bf))=ao) hG._auto_1)
    (hcd:autoParam ((x==("__classdict__" : bf))=ao) hG._auto_1):PE X (.Name x pos) (rC i):=J5 hN hv hd hcd
variable {B:Prop}
theorem iP{A:Prop}(h:B):if ao=ai then A else B:=by
  rw[Sm ie];exact h
theorem iO{A:Prop}(h:A):if ai=ai then A else B:=by
  rw[SS rfl];exact h
theorem eF{c A:Prop}[Decidable c](h1:c->A)(h2:¬c->B):if c then A else B:=by
  by_cases h:c
  . rw[SS h];exact h1 h
  . rw[Sm h];exact h2 h
noncomputable def aI(H H':Hp):Prop:=∀b o,H b=aa o->H' b=aa o
theorem aI.refl(H:Hp):aI H H:=λ_ _ h=>h
theorem aI.trans{H2:Hp}(a:aI H H1)(b:aI H1 H2):aI H H2:=λc o h=>b c o (a c o h)
theorem aI.free(e:aI H H'){l:af}(h:H' l=aq):H l=aq:=by
  cases q:H l with
  |none=>rfl
  |some o=>
    rw[e l o q] at h;cases h
end L2
set_option maxHeartbeats 4000000
variable {ifs:List Expr}{kvs:List (List L2.bI×L2.V)}{SX:gm}
namespace L2
noncomputable def MK(i j:Int):Prop:=0<j/\j<2 ^ 200
theorem EU:iA X (gn .FloorDiv) (rI MK λi j=>.int (i / j)):=Mv λi j _ _ _ _ _ hc q=>by
  have p1:(0:Int)<j:=hc.1;have p2:j<2 ^ 200:=hc.2;have p3:j.natAbs<2 ^ 200:=⋯;have p4:j.natAbs.log2<200:=(Sn ⋯).mpr p3;refine floordiv_int ⋯ ?_ (.inl (PyProof.noPylong_of_log2 ⋯));rw[Int.fdiv_eq_ediv_of_nonneg i ⋯];exact q
theorem EE{x:bf}{n:Int}(hm:∃t,X.mg x=aa (.int n t))(hg:autoParam (Gl X x) b7._auto_1)(hd:autoParam ((x==("__debug__" : bf))=ao) hG._auto_1):PE X (.Name x pos) (tC (.int n)):=by
  obtain⟨t,h⟩:=hm;exact BK hg h ⟨t,rfl⟩ hd
variable {t':Nat}{fp:List af}{ob:HO}{h':br}
theorem Inv.turnedL(I:Inv X pj σ H s)(hf:∀b∈fp,tU X pj H b)(k:∀b o,b ∉ fp->s.heap.get? b=aa o->h'.get? b=aa o):Inv X pj σ H { s with heap:=h',toks:=t' }:=by
  have nf:∀b u,H b=aa u->b ∉ fp:=λb u e z=>by have:=(hf b z).1;rw[e] at this;cases this
  refine I.step (g':=s.gens) (d':=s.drawn) (ch:=fp) (λb hb=>?_) (λb o _ _ hc e _=>k b o hc e) (λb o _ _ hc e _=>⟨o.slots,k b o hc e⟩) (λ_ _ _ _ n=>n) (λb o hc e=>⟨o,k b o hc e⟩) (λ_ _ e=>e) (λ_ _ _ e=>e)
    (λb ps e=>⟨#[],by rw[e];simp⟩) (λm hm=>?_) (λb u e=>?_) I.bare
  . obtain⟨_,f1,_,f3,f4,f5⟩:=hf b hb;exact⟨f3,f1,f4,f5⟩
  . obtain⟨o,es,ep,ho,r⟩:=hm;exact⟨o,es,ep,k _ o (λz=>(hf _ z).2.1 rfl) ho,r⟩
  . refine(I.hok b u e).stay (λc v hc q=>k c v ?_ q) (λ_ q=>q) (λ_ _ q=>q) λ_ _ q=>q;rcases hc with z | z
    . rw[z];exact nf b u e
    . exact nf c _ z
theorem Inv.turnedN{T:af}(I:Inv X pj σ H s)(hf:∀b∈fp,tU X pj H b)(k:∀b o,b ∉ fp->s.heap.get? b=aa o->h'.get? b=aa o)(hT:s.heap.objs.size<=T)
    (new:cB X.prog X.w (upd H T ob) h' T ob):Inv X pj σ (upd H T ob) { s with heap:=h',toks:=t' }:=by
  have hn:H T=aq:=I.hok.fresh hT;have nf:∀b u,H b=aa u->b ∉ fp:=λb u e z=>by have:=(hf b z).1;rw[e] at this;cases this
  have nT:∀b o,s.heap.get? b=aa o->b≠T:=λb o e=>eu (cm (be e) hT);refine I.step (g':=s.gens) (d':=s.drawn) (ch:=fp) (λb hb=>?_) (λb o _ _ hc e _=>k b o hc e) (λb o _ _ hc e _=>⟨o.slots,k b o hc e⟩) (λb o _ e n=>by rw[aQ (nT b o e)];exact n) (λb o hc e=>⟨o,k b o hc e⟩)
    (λb xs e=>by rw[aQ (aX e hn)];exact e) (λb _ _ e=>by rw[aQ (aX e hn)];exact e)
    (λb ps e=>⟨#[],by rw[aQ (aX e hn),e];simp⟩) (λm hm=>?_) (λb u e=>?_) I.bare
  . obtain⟨_,f1,_,f3,f4,f5⟩:=hf b hb;exact⟨f3,f1,f4,f5⟩
  . obtain⟨o,es,ep,ho,r⟩:=hm;exact⟨o,es,ep,k _ o (λz=>(hf _ z).2.1 rfl) ho,r⟩
  . by_cases hb:b=T
    . subst hb;rw[bC] at e;cases e;exact new
    . rw[aQ hb] at e;refine(I.hok b u e).stay (λc v hc q=>k c v ?_ q) (λc q=>by rw[aQ (aX q hn)];exact q) (λc xs q=>by rw[aQ (aX q hn)];exact q) λc xs q=>by rw[aQ (aX q hn)];exact q
      rcases hc with z | z
      . rw[z];exact nf b u e
      . exact nf c _ z
noncomputable def NB(K:aj)(a:af):It:=
  ⟨λi H=>∃xs x,eT K H a xs/\xs[i]?=aa x,λi H v H'=>∃T x,H T=aq/\v=.ref T/\H'=upd H T (.tup [.int i,x]) /\ ∀xs,eT K H a xs->xs[i]?=aa x,λi H=>∃xs,eT K H a xs/\xs.length<=i⟩
variable {elts:List Expr}{x1:Nat}
theorem Bm(a e it:af)(hne:e≠it):
    Turn P w K (.Tuple elts x1 pos) (NB K a) [e,it] e (λi h=>(∃old,IsEnum h e it (i:Nat) old)/\h.IsListIter it a i) where
  mem:=by simp
  obj:=λi h st b hb=>by
    obtain⟨⟨old,he⟩,o,ho,c,d⟩:=st;rcases cr.mp hb with rfl | hb
    . exact⟨_,he,λv z=>by cases z⟩
    . rw[dk.mp hb];exact⟨o,ho,λv z=>by rw[d] at z;cases z⟩
  keep:=λi h h' st k=>⟨let ⟨old,he⟩:=st.1;⟨old,k e (by simp) _ he⟩,st.2.at λo q=>k it (by simp) o q⟩
  item:=by
    intro X hP hw hK hc i pj s σ H E I hf st hg;subst hP hw hK;obtain⟨xs,x,hq,hx⟩:=hg;obtain⟨its,rv,p,hz⟩:=I.list hq;obtain⟨u,hu,ru⟩:=rv.get hx;obtain⟨⟨old,he⟩,hit⟩:=st;refine wpAny_pyNext_enum_item he hit p.isList (x:=u) (by simpa using hu) hne λh1 heo hit1 ht hsz hk=>⟨_,rfl,?_⟩;refine wpAny_letOwnedTupleGo_enum heo λh2 he2 hs2=>?_;have heL:e<s.heap.objs.size:=be he;have hn:H s.heap.objs.size=aq:=I.hok.fresh (bo _);have k2:∀b o,b ∉ [e,it]->s.heap.get? b=aa o->h2.get? b=aa o:=λb o hb q=>by
      have b1:b≠e:=λz=>hb (by simp[z]);have b2:b≠it:=λz=>hb (by simp[z]);exact(hs2.2 b b1).trans (hk b o b1 b2 q)
    have tt:h2.get? s.heap.objs.size=aa { cls:=.type "tuple",data:=.seq #[.int i s.toks,u] }:=(hs2.2 _ (vq heL)).trans ht;refine⟨.ref s.heap.objs.size,_,I.turnedN (ob:=.tup [.int i,x]) (T:=s.heap.objs.size) (t':=s.toks+1) hf k2 (bo _) ?_,rfl,⟨_,x,hn,rfl,rfl,λys hy=>by rw[I.list_inj hy hq];exact hx⟩,⟨⟨u,?_⟩,hit1.extBut hs2.extBut (fm hne)⟩,λb hb=>?_⟩
    . exact⟨(by decide:2<=bh),[.int i s.toks,u],.cons ⟨_,rfl⟩ (.cons ru .nil),_,tt,rfl,_,rfl⟩
    . have:((i+1:Nat):Int)=(i:Int)+1:=⋯;rw[this];exact he2
    . have hb1:=(hf b hb).1;rw[aQ ?_]
      . exact hb1
      . rintro rfl;obtain⟨o,ho,_⟩:=id hit;rcases cr.mp hb with z | z
        . exact absurd heL (by rw[<- z];exact iz _)
        . have:=be ho;rw[<- dk.mp z] at this;exact iz _ this
  done:=by
    intro X hP hw hK hc i pj s σ H E I hf st hg;subst hP hw hK;obtain⟨xs,hq,hx⟩:=hg;obtain⟨its,rv,p,hz⟩:=I.list hq;obtain⟨⟨old,he⟩,hit⟩:=st;have hl:=rv.length;exact FP I.qu he hit p.isList (by simp;right) λh1 eb=>⟨rfl,I.turnedL (t':=s.toks) hf λb o hb q=>eb b o (λz=>hb (by simp[z])) q⟩
  self:=λ_ _ _ _ _ st h=>by
    obtain⟨⟨old,he⟩,_⟩:=st;exact yo he h
variable {tp:gm}{ta:TA}
noncomputable def Ll(K:aj)(ta:TA):TI:=λσ H R=>ta σ H λvs H1=>∃a,vs=[.ref a]/\(∃xs,eT K H1 a xs)/\R (NB K a) H1
theorem GV{a:Expr}(hg:Gl X "enumerate")(hm:X.mg "enumerate" = aq)(ha:PA X [a] ta)(hs:autoParam (au [a] X.env=[(ao,di a X.env)]) b7._auto_1):
    PI X (.Tuple elts x1 tp) (.Call (.Name "enumerate" p) [a] [] pos) (Ll X.K ta):=by
  intro pj s σ H R I h;refine Call_ (nR I hg hm boot_enumerate (gq (thn (ha pos pj s σ H _ I h) λus s1 ⟨vs,H1,I1,r1,q1⟩=>?_) hs rfl));obtain⟨l,e,⟨xs,hq⟩,q⟩:=q1;subst e;obtain⟨u,rfl,ru⟩:=iF r1;cases ru;obtain⟨its,rv,pl,hz⟩:=I1.list hq;refine call_enumerate_list pl.isList λh1 he hit hsz hk=>yo he ?_;have I2:Inv X pj σ H1 { s1 with heap:=h1 }:=I1.kept (t':=s1.toks) hk;refine⟨s1.heap.objs.size+1,[s1.heap.objs.size+1,s1.heap.objs.size],_,_,H1,rfl,I2,Bm l _ _ (Nat.succ_ne_self _),⟨⟨_,he⟩,hit⟩,λb hb=>?_,q⟩;refine I1.fpOk ?_ (I1.hok.fresh ?_)
  all_goals
    rcases cr.mp hb with z | z
    . rw[z];exact RL _
    . rw[dk.mp z];exact bo _
noncomputable def Pc(a b:af):It:=
  ⟨λi H=>∃xs ys x y,H a=aa (.lst xs)/\H b=aa (.lst ys)/\xs[i]?=aa x/\ys[i]?=aa y,
   λi H v H'=>∃T x y,H T=aq/\v=.ref T/\H'=upd H T (.tup [x,y])/\(∀xs,H a=aa (.lst xs)->xs[i]?=aa x) /\ ∀ys,H b=aa (.lst ys)->ys[i]?=aa y,
   λi H=>∃xs ys,H a=aa (.lst xs)/\H b=aa (.lst ys)/\(xs.length<=i \/ ys.length<=i)⟩
structure ZApart(z TI TO i1 i2:af):Prop where
  a:TI≠z
  b:TO≠z
  c:i1≠z
  d:i2≠z
  e:TI≠TO
  f:TI≠i1
  g:TI≠i2
  h:TO≠i1
  i:TO≠i2
  j:i1≠i2
theorem DT(a b z TI TO i1 i2:af)(Z:ZApart z TI TO i1 i2):
    Turn P w K (.Tuple elts x1 pos) (Pc a b) [z,TI,TO,i1,i2] z (λi h=>SK h z TI TO .none/\R7 h TI (.ref i1) (.ref i2)/\(∃p q,R7 h TO p q)/\h.IsListIter i1 a i/\h.IsListIter i2 b i) where
  mem:=by simp
  obj:=λi h st c hc=>by
    obtain⟨hz,hI,⟨p,q,hO⟩,⟨o1,h1,_,d1⟩,⟨o2,h2,_,d2⟩⟩:=st;simp only[cr,gx,or_false] at hc;rcases hc with rfl | rfl | rfl | rfl | rfl
    . exact⟨_,hz,λv y=>by cases y⟩
    . exact⟨_,hI,λv y=>by cases y⟩
    . exact⟨_,hO,λv y=>by cases y⟩
    . exact⟨_,h1,λv y=>by rw[d1] at y;cases y⟩
    . exact⟨_,h2,λv y=>by rw[d2] at y;cases y⟩
  keep:=λi h h' st k=>by
    obtain⟨hz,hI,⟨p,q,hO⟩,h1,h2⟩:=st;exact⟨k z (by simp) _ hz,k TI (by simp) _ hI,⟨p,q,k TO (by simp) _ hO⟩,h1.at λo y=>k i1 (by simp) o y,h2.at λo y=>k i2 (by simp) o y⟩
  item:=by
    intro X hP hw hK hc i pj s σ H E I hf st hg;subst hP hw hK;obtain⟨xs,ys,x,y,ha,hb,hx,hy⟩:=hg;obtain⟨its,rv,pl,hz1⟩:=I.list (eT.of ha);obtain⟨its2,rv2,pl2,hz2⟩:=I.list (eT.of hb);obtain⟨u,hu,ru⟩:=rv.get hx;obtain⟨u2,hu2,ru2⟩:=rv2.get hy;obtain⟨hz,hI,⟨p,q,hO⟩,h1,h2⟩:=st;have na:∀c∈[z,TI,TO,i1,i2],a≠c:=λc hc=>aX ha (hf c hc).1;have nb:∀c∈[z,TI,TO,i1,i2],b≠c:=λc hc=>aX hb (hf c hc).1;have D:Sb z TI TO i1 i2 a b:=⟨Z.a,Z.b,Z.c,Z.d,Z.e,Z.f,Z.g,Z.h,Z.i,Z.j,na z (by simp),na TO (by simp),na i1 (by simp),na i2 (by simp),nb z (by simp),nb TO (by simp),nb i1 (by simp),nb i2 (by simp)⟩;refine wpAny_pyNext_zip_item D hz hI hO h1 h2 pl.isList pl2.isList (x:=u) (y:=u2) (by simpa using hu) (by simpa using hu2) λg a1 a2 a3 a4 a5 a6 hk=>⟨_,rfl,?_⟩;refine wpAny_letOwnedTupleGo_zip a1 λg2 hz2 hs2=>?_;have hn:H s.heap.objs.size=aq:=I.hok.fresh (bo _);have zL:z<s.heap.objs.size:=be hz;have lt:∀{c:af} {o:gj},s.heap.get? c=aa o->c≠s.heap.objs.size:=λe=>eu (be e);have k2:∀c o,c ∉ [z,TI,TO,i1,i2]->s.heap.get? c=aa o->g2.get? c=aa o:=λc o hc e=>by
      simp only[cr,gx,or_false,not_or] at hc;exact(hs2.2 c hc.1).trans (hk c o hc.1 hc.2.2.1 hc.2.2.2.1 hc.2.2.2.2 e)
    have tt:g2.get? s.heap.objs.size=aa { cls:=.type "tuple",data:=.seq #[u,u2] }:=(hs2.2 _ (vq zL)).trans a5;refine⟨.ref s.heap.objs.size,_,I.turnedN (ob:=.tup [x,y]) (T:=s.heap.objs.size) (t':=s.toks) hf k2 (bo _) ?_,rfl,
      ⟨_,x,y,hn,rfl,rfl,λzs hzs=>by rw[ha] at hzs;cases hzs;exact hx,λzs hzs=>by rw[hb] at hzs;cases hzs;exact hy⟩,
      ⟨hz2,hs2.extBut _ _ Z.a (hk _ _ Z.a Z.e Z.f Z.g hI),⟨_,_,hs2.extBut _ _ Z.b a2⟩,a3.extBut hs2.extBut Z.c,a4.extBut hs2.extBut Z.d⟩,λc hc=>?_⟩
    . exact⟨(by decide:2<=bh),[u,u2],.cons ru (.cons ru2 .nil),_,tt,rfl,_,rfl⟩
    . have hc1:=(hf c hc).1;have:c≠s.heap.objs.size:=by
        simp only[cr,gx,or_false] at hc;rcases hc with rfl | rfl | rfl | rfl | rfl
        . exact lt hz
        . exact lt hI
        . exact lt hO
        . obtain⟨o,e,_⟩:=h1;exact lt e
        . obtain⟨o,e,_⟩:=h2;exact lt e
      rw[aQ this];exact hc1
  done:=by
    intro X hP hw hK hc i pj s σ H E I hf st hg;subst hP hw hK;obtain⟨xs,ys,ha,hb,hor⟩:=hg;obtain⟨its,rv,pl,hz1⟩:=I.list (eT.of ha);obtain⟨its2,rv2,pl2,hz2⟩:=I.list (eT.of hb);obtain⟨hz,hI,⟨p,q,hO⟩,h1,h2⟩:=st;have na:∀c∈[z,TI,TO,i1,i2],a≠c:=λc hc=>aX ha (hf c hc).1;have nb:∀c∈[z,TI,TO,i1,i2],b≠c:=λc hc=>aX hb (hf c hc).1;have D:Sb z TI TO i1 i2 a b:=⟨Z.a,Z.b,Z.c,Z.d,Z.e,Z.f,Z.g,Z.h,Z.i,Z.j,na z (by simp),na TO (by simp),na i1 (by simp),na i2 (by simp),nb z (by simp),nb TO (by simp),nb i1 (by simp),nb i2 (by simp)⟩;have l1:=rv.length;have l2:=rv2.length;refine HU I.qu D hz hI hO h1 h2 pl.isList pl2.isList ?_ λg hk=>⟨rfl,I.turnedL (t':=s.toks) hf λc o hc e=>?_⟩
    . rcases hor with h | h
      . exact .inl (by simp;right)
      . exact .inr (by simp;right)
    . simp only[cr,gx,or_false,not_or] at hc;exact hk c o hc.1 hc.2.2.1 hc.2.2.2.1 hc.2.2.2.2 e
  self:=λ_ _ _ _ _ st h=>zi st.1 h
theorem zapart(n:Nat):ZApart (n+4) (n+2) (n+3) n (n+1):=
  ⟨λe=>by have e':(n+2:Nat)=n+4:=e;right,λe=>by have e':(n+3:Nat)=n+4:=e;right,λe=>by have e':(n:Nat)=n+4:=e;right,λe=>by have e':(n+1:Nat)=n+4:=e;right,
   λe=>by have e':(n+2:Nat)=n+3:=e;right,λe=>by have e':(n+2:Nat)=n:=e;right,λe=>by have e':(n+2:Nat)=n+1:=e;right,λe=>by have e':(n+3:Nat)=n:=e;right,
   λe=>by have e':(n+3:Nat)=n+1:=e;right,λe=>by have e':(n:Nat)=n+1:=e;right⟩
noncomputable def Ol(ta:TA):TI:=λσ H R=>ta σ H λvs H1=>∃a b,vs=[.ref a,.ref b]/\(∃xs,H1 a=aa (.lst xs))/\(∃ys,H1 b=aa (.lst ys))/\R (Pc a b) H1
theorem J0{a b:Expr}(hg:Gl X "zip")(hm:X.mg "zip" = aq)(ha:PA X [a,b] ta)
    (hs:autoParam (au [a,b] X.env=[(ao,di a X.env),(ao,di b X.env)]) b7._auto_1) (hs2:autoParam (au [b] X.env=[(ao,di b X.env)]) b7._auto_1):
    PI X (.Tuple elts x1 tp) (.Call (.Name "zip" p) [a,b] [] pos) (Ol ta):=by
  intro pj s σ H R I h;refine Call_ (nR I hg hm boot_zip (gq (thn (ha pos pj s σ H _ I h) λus s1 ⟨vs,H1,I1,r1,q1⟩=>?_) (by rw[hs,hs2]) (by rw[hs2];rfl)));obtain⟨l,l2,e,⟨xs,hl⟩,⟨ys,hl2⟩,q⟩:=q1;subst e;obtain⟨u,u2,rfl,ru,ru2⟩:=B4 r1;cases ru;cases ru2;obtain⟨its,rv,pl,hz⟩:=I1.list (eT.of hl);obtain⟨its2,rv2,pl2,hz2⟩:=I1.list (eT.of hl2);refine call_zip_2 pl.isList pl2.isList λh1 hz hI hO i1 i2 hsz hk=>zi hz ?_;have I2:Inv X pj σ H1 { s1 with heap:=h1 }:=I1.kept (t':=s1.toks) hk;refine⟨s1.heap.objs.size+4,[s1.heap.objs.size+4,s1.heap.objs.size+2,s1.heap.objs.size+3,s1.heap.objs.size,s1.heap.objs.size+1],_,_,H1,rfl,I2,
    DT l l2 _ _ _ _ _ (zapart s1.heap.objs.size),⟨hz,hI,⟨_,_,hO⟩,i1,i2⟩,λb hb=>?_,q⟩
  have hle:s1.heap.objs.size<=b:=by
    simp only[cr,gx,or_false] at hb;rcases hb with rfl | rfl | rfl | rfl | rfl
    . exact ux _ _
    . exact ux _ _
    . exact ux _ _
    . exact bo _
    . exact ux _ _
  exact I1.fpOk hle (I1.hok.fresh hle)
noncomputable def Nx(K:aj):List V->Hp->VK->Prop:=λxs H Q=>∃x T t b,xs=[x,.ty T]/\TyOf K H x t/\Sj K t (.type T)=aa b/\Q (.bl b) H
theorem Fb:eB X (.builtin "isinstance") (Nx X.K):=by
  intro pj s σ H xs us Q I r h;obtain⟨x,T,t,b,rfl,ty,k,q⟩:=h;obtain⟨u,u2,rfl,ru,ru2⟩:=B4 r;cases ru2;exact Cm I ru ty k λtk=>⟨.bl b,H,I.tok tk,rfl,q⟩
theorem sF:∀{bs:List Bool} {us:List ac},aY (bs.map V.bl) us->LSm.BoolsAre us bs
  | [],_,.nil=>.nil
  |_::_,_,.cons r t=>by cases r;exact .cons _ (sF t)
theorem sE:∀{ns:List Int} {us:List ac},aY (ns.map V.int) us->lj us ns
  | [],_,.nil=>.nil
  |_::_,_,.cons r t=>by obtain⟨t',rfl⟩:=r;exact .cons _ _ (sE t)
noncomputable def O1(K:aj):List V->Hp->VK->Prop:=λxs H Q=>∃(a:af) (bs:List Bool),xs=[.ref a]/\eT K H a (bs.map V.bl)/\Q (.bl (bs.all id)) H
theorem DA(hc:X.calm=ai):eB X (.builtin "all") (O1 X.K):=by
  intro pj s σ H xs us Q I r h;obtain⟨a,bs,rfl,hq,q⟩:=h;obtain⟨u,rfl,ru⟩:=iF r;cases ru;obtain⟨its,rv,pl,hz⟩:=I.list hq;have ba:=sF rv;have lt:a<s.heap.objs.size:=by obtain⟨_,e,_⟩:=pl.isList;exact be e
  refine call_all_walk (yq pl.isList ⟨s.heap.objs.size,[s.heap.objs.size,a],[s.heap.objs.size],its.toArray.size,_,_,λi=>(bs[i]?).getD ai,rfl,
    Walks.list (A:=X.A.in1) (I.ok.hd hc) _ a (eu lt) its.toArray,⟨⟨_,bq _ rfl,rfl,rfl⟩,pl.isList.push _⟩,λi v s' Q' E' hP hQ=>?_,λh' tk hk=>?_⟩)
  . obtain⟨b,e,rfl⟩:=ba.get i v (by simpa using hP);have hQ':Q' ((bs[i]?).getD ai) s':=hQ;rw[e] at hQ';exact fc hQ'
  . have e:((fh its.toArray.size).all λi=>(bs[i]?).getD ai)=bs.all id:=by
      have:=LSm.range_all bs;rw[<- ba.length] at this;simpa using this
    rw[e];exact⟨.bl _,H,I.kept (LSm.kept_iter hk),rfl,q⟩
noncomputable def Np(K:aj):List V->Hp->VK->Prop:=λxs H Q=>∃(a:af) (ns:List Int),xs=[.ref a]/\eT K H a (ns.map V.int)/\Q (.int ns.sum) H
theorem D4(hc:X.N=X.N):eB X (.builtin "sum") (Np X.K):=by
  intro pj s σ H xs us Q I r h;obtain⟨a,ns,rfl,hq,q⟩:=h;obtain⟨u,rfl,ru⟩:=iF r;cases ru;obtain⟨its,rv,pl,hz⟩:=I.list hq;have ia:=sE rv;obtain⟨ys,hy⟩:=ia.allInts.items;have e1:=nums_intItems ys;rw[<- hy,show numsOf its.toArray.toList=ns from ia.numsOf] at e1;refine Ki I.qu (hy ▸ pl.isList) λh' tk t' hk=>⟨.int ns.sum,H,I.kept hk,⟨t',?_⟩,q⟩;rw[preSum_eq,e1,lq (by simp)]
noncomputable def pick(js:List Nat)(σ:St):St:=js.map λj=>(σ[j]?).join
noncomputable def o9(X:Cx)(SU:Scope)(cl:List (bf×af))(fp:List af)(N:List bf)(s:ah)(H:Hp):Cx where
  prog:=X.prog
  w:=X.w
  K:=X.K
  mg:=X.mg
  base:=X.base
  A:=X.A
  N:=N
  s₀:=s
  HZ:=H
  env:=compEnvC SU cl s.heap.objs.size X.env
  outer:=X.stack
  stack:=X.stack
  ex:=fp
  fn:=λ_=>ao
  calm:=X.calm
  pn:=[]
  xe:=λ_ _=>False
  hs:=X.hs
noncomputable def KO(X:Cx)(ifs:List Expr)(t:TT):Prop:=
  ∀(pj:List (af×gj)) (s:ah) (σ:St) (H:Hp) (Q:Bool->Hp->Prop),Inv X pj σ H s->t σ H Q ->
    bi (bn X.prog X.w) X.A (forIn ifs ai λc r=>if r=ai then do let ok <- isTrue c X.env (di c X.env);fo (lc ok) else fo (lc r)) (TP X pj σ Q) X.xe s
theorem GM:KO X [] (λ_ H Q=>Q ai H):=λpj s σ H Q I h=>wpAny_tests_nil ⟨H,I,h⟩
noncomputable def vI(wi:TI)(k:Nat)(js:List Nat)(g:TG)(tt:TT)(te:TE):TE:=λσ H Q=>wi σ H λJ H1=>∀D,H1 D=aq -> ∃W:Nat->Nat->List V->Hp->Prop,(∃m,W 0 m [] (upd H1 D (.lst []))) /\ ∀i m acc H2,W i m acc H2->H2 D=aa (.lst acc) ->
  (J.stop i H2/\Q (.ref D) H2) \/ (J.go i H2 /\ ∀y H3,J.yld i H2 y H3 -> ∀old:St,old.length=k->g y (old++pick js σ) H3 λσ4 H4=>(∃new:St,new.length=k/\σ4=new++pick js σ)/\tt σ4 H4 λb H5=>
    if b=ai then te σ4 H5 λv H6=>H6 D=aa (.lst acc)/\acc.length<bh /\ ∃m',m'<m/\W (i+1) m' (acc++[v]) (upd H6 D (.lst (acc++[v])))
    else H5 D=aa (.lst acc) /\ ∃m',m'<m/\W (i+1) m' acc H5)
variable {elt tgt iter:Expr}
theorem uF{R:SE->ah->Prop}{it acc:ac}{env:ox}(J:Nat->ah->Prop)
    (turn:∀n s,J n s->bi (bn prog w) A (lu it) (λr s1=>match r with
      |none=>R (.ok .next) s1
      |some v=>bi (bn prog w) A (qh tgt it v) (λ_ s2=>bi (bn prog w) A (uo tgt env v) (λ_ s3=>
          bi (bn prog w) A (forIn ifs ai λc r=>if r=ai then do let ok <- isTrue c env (di c env);fo (lc ok) else fo (lc r)) (λb s3'=>
          if b=ai then bi (bn prog w) A (di elt env) (λy s4=>bi (bn prog w) A (call (.builtin "list.append") [acc,y]) (λ_ s5=>∃m,m<n/\J m s5) (λ_ _=>False) s4) (λ_ _=>False) s3'
          else ∃m,m<n/\J m s3') (λ_ _=>False) s3) (λ_ _=>False) s2) (λ_ _=>False) s1) (λ_ _=>False) s)
    (n:Nat) (h:J n s):qv (bn prog w) A (.compLoop (.ListComp elt [⟨tgt,iter,ifs,0⟩] SU pos) 0 it acc env) R s:=by
  refine codeAny_loop rfl J (λn' s' hJ=>?_) n h;show bi _ _ ((compTurn (.ListComp elt [⟨tgt,iter,ifs,0⟩] SU pos) 0 it acc env).onRaise (λz=>do qx z env;theTreesLotGoes z)) _ _ s';refine wpAny_noted ?_;rw[compTurn_list];have nope:∀{α:Type} {t:R5 α} {Q:α->ah->Prop} {E:ac->ah->Prop} {q:ah},bi (bn prog w) A t Q (λ_ _=>False) q->bi (bn prog w) A t Q E q:=λh=>df h (λ_ _ z=>z) λ_ _ z=>z.elim;refine ae (mq (ae (df (nope (turn n' s' hJ)) (λr s1 h1=>?_) λ_ _ z=>z)));cases r with
  |none=>exact az h1
  |some v=>
    refine ae (df (nope h1) (λ_ s2 h2=>?_) λ_ _ z=>z);refine ae (df (nope h2) (λ_ s3 h3=>?_) λ_ _ z=>z);refine ae (df (nope h3) (λb s4 h4=>?_) λ_ _ z=>z);cases b with
    |true=>
      have h4':=(show bi _ _ _ _ _ s4 by simpa using h4);simp only[if_true];refine ae (ae (df (nope h4') (λy s5 h5=>?_) λ_ _ z=>z));refine ae (df (nope h5) (λ_ s6 h6=>?_) λ_ _ z=>z);exact az (az ⟨rfl,h6⟩)
    |false=>
      have h4':∃m,m<n'/\J m s4:=by simpa using h4
      simp only[dw,if_false];exact ae (az (az ⟨rfl,h4'⟩))
variable {js:List Nat}{v:V}{cl:List (bf×af)}{tgs ns:List bf}{wi:TI}{g:TG}{tt:TT}{te:TE}
theorem E7(h:(pick js σ)[i]?=aa (aa v)):∃j,js[i]?=aa j/\σ[j]?=aa (aa v):=by
  unfold pick at h;rw[bw] at h;cases e:js[i]? with
  |none=>rw[e] at h;cases h
  |some j=>
    rw[e] at h;have h':(σ[j]?).join=aa v:=Option.some.inj h;refine⟨j,rfl,?_⟩;cases q:σ[j]? with
    |none=>rw[q] at h';cases h'
    |some o=>rw[q] at h';exact congrArg aa h'
theorem v7(hc:X.N=X.N)
    (hi:PI X tgt iter wi) (hg:∀(fp:List af) (s:ah) (H:Hp),PG (o9 X SU cl fp (tgs++ns) s H) tgt g) (ht:∀(fp:List af) (s:ah) (H:Hp),KO (o9 X SU cl fp (tgs++ns) s H) ifs tt)
    (he:∀(fp:List af) (s:ah) (H:Hp),PE (o9 X SU cl fp (tgs++ns) s H) elt te)
    (Te:ph SU X.env=fo cl) (Ta:∀x c,cl.lookup x=aa c->X.env.cells.lookup x=aa c)
    (Tp:∀x,((fz SU X.env).names.lookup x=aa .cell \/ (fz SU X.env).names.lookup x=aa .free) -> ∃c,cl.lookup x=aa c)
    (hjs:js.map (λj=>X.N[j]?)=ns.map aa) (hin:∀y∈ns,(fz SU X.env).names.lookup y=aa .cell \/ (fz SU X.env).names.lookup y=aa .free)
    (Tf:∀y∈ns,X.env.kindOf y=aa .cell \/ X.env.kindOf y=aa .free)
    (SY:autoParam (∀y∈SU.names,y.2 ≠ .cell) B0._auto_1) (T0:autoParam (SU.kind=.function) b7._auto_1)
    (T4:autoParam (∀y∈SU.names,y.2=.local->SU.names.lookup y.1=aa .local) B0._auto_1)
    (hs:autoParam (∀z,fe iter X.env z=fo z) B1._auto_1):
    ∀(pos0:gm) (pj:List (af×gj)) (s:ah) (σ:St) (H:Hp) (Q:VK) (I:Inv X pj σ H s) (h:vI wi tgs.length js g tt te σ H Q) (use:Option (ac->R5 Unit)) (R:ac->ah->Prop)
      (hfin:∀(D C:af) (H':Hp) (s':ah),Q (.ref D) H'->tU X pj H' C->(∃m,s'.heap.Ns C m)->(∀h',ny C s'.heap h'->Inv X pj σ H' { s' with heap:=h' })->So (bn X.prog X.w) X.A X.xe use R (.ref D) C (.ok .next) s'),
      bi (bn X.prog X.w) X.A (comprehension (.ListComp elt [⟨tgt,iter,ifs,0⟩] SU pos) SU X.env pos0 (newList []) ao (di iter X.env) use) R X.xe s:=by
  intro pos0 pj s σ H Q I h use R hfin;refine wpAny_comprehension_free (use:=use) rfl hs Te T0 T4 (thn (hi pj s σ H _ I h) λv s1 h1=>thn h1 λitv s2 h2=>?_);obtain⟨it,fp,tn,J,H2,rfl,I2,T,st2,f2,T1⟩:=h2;have hD:H2 s2.heap.objs.size=aq:=I2.hok.fresh (bo _);obtain⟨W,⟨m0,w0⟩,step⟩:=T1 _ hD;refine fj (wpAny_newFunctionEnv SY (by intro y hy;simp at hy) (λg1 hns hsb=>?_) T0) (by size_fits);dsimp only at hns hsb ⊢;have I3:Inv X pj σ (upd H2 s2.heap.objs.size (.lst [])) { s2 with heap:=s2.heap.push { cls:=.type "list",dict:=aq,data:=.seq ([]:List ac).toArray } }:=I2.lnew (t':=s2.toks) .nil (by simp);generalize hD':s2.heap.objs.size=D at *;generalize hH3:upd H2 D (.lst [])=H3 at *;generalize hS3:s2.heap.push { cls:=.type "list",dict:=aq,data:=.seq ([]:List ac).toArray }=g3 at *;have zs:g3.objs.size=D+1:=by rw[<- hS3,nq,hD']
  have f3:∀b∈fp,tU X pj H3 b:=λb hb=>by
    obtain⟨o,ho,_⟩:=T.obj _ _ st2 b hb;have lt:=be ho;refine⟨?_,(f2 b hb).2⟩;rw[<- hH3,aQ (eu (hD' ▸ lt))];exact(f2 b hb).1
  have ltf:∀b∈fp,b<g3.objs.size:=λb hb=>by
    obtain⟨o,ho,_⟩:=T.obj _ _ st2 b hb;rw[zs];exact tj (hD' ▸ be ho)
  have kept:∀b o,g3.get? b=aa o->g1.get? b=aa o:=λb o e=>hsb.extBut b o (eu (be e)) (av _ e);have cne:∀x c,cl.lookup x=aa c->c≠g3.objs.size:=λx c e=>by
    obtain⟨v,q⟩:=I3.cell x c (Ta x c e);exact eu q.lt
  have ok:(o9 X SU cl fp (tgs++ns) { s2 with heap:=g3 } H3).Ok:=by
    refine⟨I.ok.mod,T0,I.ok.glob,I.ok.blt,bo _,λy z c e1 e2=>I.ok.inj y z c (Ta y c e1) (Ta z c e2),λy hy=>Tp y hy,λy c e=>(nomatch e),I.ok.hd,I.ok.frames,.inl rfl,
      λb hb=>⟨eu (ltf b hb),λy c e=>(f3 b hb).2.2.2.2.1 y c (Ta y c e)⟩,I3.bs,jo I.ok.bsz I3.sz,λb o e hb=>?_,λb hb=>?_,I3.stack,I3.stkFree,I.ok.hq⟩
    . rcases(f3 b hb).2.2.2.1 with q | q
      . exact I.ok.noex b o e q
      . exact absurd (cm (be (I.ok.bs b o e).1) q) (iz _)
    . intro z;rcases cr.mp (I3.stkSub b z) with q | q
      . exact(f3 b hb).2.1 q
      . exact(f3 b hb).2.2.1 q
  have cells1:∀x c,cl.lookup x=aa c -> ∃v,g1.IsCell c v:=λx c e=>by
    obtain⟨v,o,ho,hd⟩:=I3.cell x c (Ta x c e);exact⟨v,o,kept _ _ ho,hd⟩
  have J4:Inv (o9 X SU cl fp (tgs++ns) { s2 with heap:=g3 } H3) [] (bc tgs.length aq++pick js σ) H3 { s2 with heap:=g1,toks:=s2.toks+([]:List (bf×ac)).length }:=by
    refine⟨ok,rfl,I3.bare,Un.kept kept,⟨_,hns,λi y v e1 e2 e3=>?_⟩,λy c e=>cells1 y c e,I3.hok.fresh (bo _),λy c e=>I3.freeC y c (Ta y c e),λp hp=>absurd (show p∈([]:List (af×gj)) from hp) (by simp),I3.hok.kept kept,?_,I3.mild⟩
    . have hi2:tgs.length<=i:=by
        by_cases hlt:i<tgs.length
        . rw[bp (by simpa using hlt),fk,SS hlt] at e2;cases e2
        . right
      rw[cg (by simpa using hi2),kg] at e2;have e1':(tgs++ns)[i]?=aa y:=e1;rw[cg hi2] at e1';obtain⟨j,hj,hσ⟩:=E7 e2;have hNj:X.N[j]?=aa y:=by
        have:=congrArg (λl=>l[i-tgs.length]?) hjs;simp only[bw,hj,e1',map_some] at this;exact Option.some.inj this
      have ym:y∈ns:=cq e1';obtain⟨m,hm,hl⟩:=I3.loc;have vis:MB X.env.scope y:=by
        rcases Tf y ym with q | q
        . exact .inr (.inl q)
        . exact .inr (.inr q)
      obtain⟨u,ru,lk⟩:=hl j y v hNj hσ vis;refine⟨u,ru,?_⟩;rcases lk with⟨q,_⟩ | ⟨_,c,hc1,hc2⟩
      . rcases Tf y ym with z | z
        . rw[z] at q;cases q
        . rw[z] at q;cases q
      . obtain⟨c',hc'⟩:=Tp y (hin y ym);have:=Ta y c' hc';rw[hc1] at this;cases this;obtain⟨o,ho,hd⟩:=hc2;exact .inr ⟨hin y ym,c,hc',o,kept _ _ ho,hd⟩
    . show _=(tgs++ns).length;have:=congrArg List.length hjs;simp only[bt] at this;simp[pick,this]
  have st4:tn 0 g1:=T.keep 0 _ _ st2 λb hb o e=>kept b o (by rw[<- hS3];exact av _ e);have fin:∀(H':Hp) (σ':St) (s':ah),Inv (o9 X SU cl fp (tgs++ns) { s2 with heap:=g3 } H3) [] σ' H' s'->Q (.ref D) H'->So (bn X.prog X.w) X.A X.xe use R (.ref D) g3.objs.size (.ok .next) s':=by
    intro H' σ' s' K q;obtain⟨m,hm,_⟩:=K.loc;refine hfin D g3.objs.size H' s' q (I3.fpOk (bo _) K.free) ⟨m,hm⟩ λh' hsb'=>?_;have ne:∀b o,g3.get? b=aa o->b≠g3.objs.size:=λb o e=>eu (be e);have B:Un (frs X.stack) fp H3 H' g3 s'.heap:=K.base;refine I3.call' (s':={ s' with heap:=h' }) (ch:=fp) K.os ⟨λb o e n hb hx=>(hsb'.2 b (ne b o e)).trans (B.keep b o e n hb hx),λb o e n hb hx=>?_,B.free,λb o e hx=>?_,B.tups,B.frzs,B.tbls⟩ (λb u e=>?_) K.bare (λb hb=>?_)
    . obtain⟨sl,e1⟩:=B.slot b o e n hb hx;exact⟨sl,(hsb'.2 b (ne b o e)).trans e1⟩
    . obtain⟨o',e1⟩:=B.there b o e hx;exact⟨o',(hsb'.2 b (ne b o e)).trans e1⟩
    . have nC:∀c v,H' c=aa v->c≠g3.objs.size:=λc v e z=>by
        have:H' g3.objs.size=aq:=K.free;rw[z,this] at e;cases e
      refine(K.hok b u e).stay (λc v hc q=>(hsb'.2 c ?_).trans q) (λ_ q=>q) (λ_ _ q=>q) λ_ _ q=>q;rcases hc with z | z
      . rw[z];exact nC b u e
      . exact nC c _ z
    . obtain⟨_,q1,_,q3,q4,q5⟩:=f3 b hb;exact⟨q3,q1,q4,q5⟩
  have loop:qv (bn X.prog X.w) X.A (.compLoop (.ListComp elt [⟨tgt,iter,ifs,0⟩] SU pos) 0 (.ref it) (.ref D) (compEnvC SU cl g3.objs.size X.env))
      (So (bn X.prog X.w) X.A X.xe use R (.ref D) g3.objs.size) { s2 with heap:=g1,toks:=s2.toks+([]:List (bf×ac)).length }:=by
    refine uF (λn s'=>∃i acc old H',Inv (o9 X SU cl fp (tgs++ns) { s2 with heap:=g3 } H3) [] (old++pick js σ) H' s'/\old.length=tgs.length/\tn i s'.heap/\(∀b∈fp,H' b=aq)/\H' D=aa (.lst acc)/\W i n acc H') ?_ m0
      ⟨0,[],bc tgs.length aq,H3,J4,by simp,st4,λb hb=>(f3 b hb).1,by rw[<- hH3];exact bC,w0⟩
    rintro n s' ⟨i,acc,old,H',K,lo,st,fr,hDl,w⟩;have fpk:∀{H'':Hp},(∀b∈fp,H'' b=aq) -> ∀b∈fp,tU (o9 X SU cl fp (tgs++ns) { s2 with heap:=g3 } H3) [] H'' b:=λhn b hb=>
      ⟨hn b hb,eu (ltf b hb),λz=>ok.exfs b hb z,.inl hb,λy c e=>(f3 b hb).2.2.2.2.1 y c (Ta y c e),λp hp=>absurd (show p∈([]:List (af×gj)) from hp) (by simp)⟩
    rcases step i n acc H' w hDl with⟨stop,q⟩ | ⟨go,next⟩
    . refine thn (T.done (o9 X SU cl fp (tgs++ns) { s2 with heap:=g3 } H3) rfl rfl rfl rfl i [] s' _ H' _ K (fpk fr) st stop) λr s1 zz=>?_;obtain⟨hr,K1⟩:=zz;subst hr;exact fin H' _ s1 K1 q
    . refine thn (T.item (o9 X SU cl fp (tgs++ns) { s2 with heap:=g3 } H3) rfl rfl rfl rfl i [] s' _ H' _ K (fpk fr) st go) λr s1 zz=>?_;obtain⟨u,hr,h4⟩:=zz;subst hr;refine thn h4 λ_ s5 zz=>?_;obtain⟨y,H5,K5,r5,y5,st5,fr5⟩:=zz;have K5':=K5.pinned (fpk fr5) (T.obj _ _ st5);refine thn (hg fp { s2 with heap:=g3 } H3 _ s5 _ H5 y u _ K5' r5 (next y H5 y5 old lo)) λ_ s6 ⟨σ6,H6,K6,⟨new,hnew,e6⟩,q6⟩=>?_;subst e6;refine thn (ht fp { s2 with heap:=g3 } H3 _ s6 _ H6 _ K6 q6) λb s6' zz=>?_;obtain⟨H6',K6',q6'⟩:=zz;have Sh:∀{s8:ah} {H8:Hp} {Tg:List V} {m':Nat},Inv (o9 X SU cl fp (tgs++ns) { s2 with heap:=g3 } H3) ([]++sX fp s5.heap) (new++pick js σ) H8 s8->H8 D=aa (.lst Tg)->m'<n->W (i+1) m' Tg H8 ->
          ∃m,m<n /\ ∃i acc old H',Inv (o9 X SU cl fp (tgs++ns) { s2 with heap:=g3 } H3) [] (old++pick js σ) H' s8/\old.length=tgs.length/\tn i s8.heap/\(∀b∈fp,H' b=aq)/\H' D=aa (.lst acc)/\W i m acc H':=by
        intro s8 H8 Tg m' K8 h8 hm' w8;refine⟨m',hm',i+1,Tg,new,H8,K8.unpinned,hnew,T.keep _ _ _ st5 λb hb o e=>(K8.pin (b,o) (dh _ (dh _ (kH hb e)))).1,λb hb=>?_,h8,w8⟩;obtain⟨o,e,d⟩:=T.obj _ _ st5 b hb;exact(K8.pin (b,o) (dh _ (dh _ (kH hb e)))).2.1
      cases b with
      |true=>
        refine iO ?_;rw[SS rfl] at q6';refine thn (he fp { s2 with heap:=g3 } H3 _ s6' _ H6' _ K6' q6') λvv s7 zz=>?_;obtain⟨v,H7,K7,r7,hD7,hlen,m',hm',w7⟩:=zz;refine thn (qE (X:=o9 X SU cl fp (tgs++ns) { s2 with heap:=g3 } H3) _ s7 _ H7 (.ref D) [v] (.ref D) [vv] (λ_ H8=>H8=upd H7 D (.lst (acc++[v]))) K7 rfl (.cons r7 .nil) ⟨D,acc,v,rfl,rfl,hD7,hlen,rfl⟩) λ_ s8 zz=>?_;obtain⟨_,H8,K8,_,e8⟩:=zz;subst e8;exact Sh K8 bC hm' w7
      |false=>
        refine iP ?_;have q6f:H6' D=aa (.lst acc) /\ ∃m',m'<n/\W (i+1) m' acc H6':=by simpa using q6'
        obtain⟨hD7,m',hm',w7⟩:=q6f;exact Sh K6' hD7 hm' w7
  exact codeAny_compStart_list loop (T.self _ 0 _ _ _ st4 loop)
theorem EG(hc:X.N=X.N)
    (hi:PI X tgt iter wi) (hg:∀(fp:List af) (s:ah) (H:Hp),PG (o9 X SU cl fp (tgs++ns) s H) tgt g) (ht:∀(fp:List af) (s:ah) (H:Hp),KO (o9 X SU cl fp (tgs++ns) s H) ifs tt)
    (he:∀(fp:List af) (s:ah) (H:Hp),PE (o9 X SU cl fp (tgs++ns) s H) elt te)
    (Te:ph SU X.env=fo cl) (Ta:∀x c,cl.lookup x=aa c->X.env.cells.lookup x=aa c)
    (Tp:∀x,((fz SU X.env).names.lookup x=aa .cell \/ (fz SU X.env).names.lookup x=aa .free) -> ∃c,cl.lookup x=aa c)
    (hjs:js.map (λj=>X.N[j]?)=ns.map aa) (hin:∀y∈ns,(fz SU X.env).names.lookup y=aa .cell \/ (fz SU X.env).names.lookup y=aa .free)
    (Tf:∀y∈ns,X.env.kindOf y=aa .cell \/ X.env.kindOf y=aa .free)
    (SY:autoParam (∀y∈SU.names,y.2 ≠ .cell) B0._auto_1) (T0:autoParam (SU.kind=.function) b7._auto_1)
    (T4:autoParam (∀y∈SU.names,y.2=.local->SU.names.lookup y.1=aa .local) B0._auto_1)
    (hs:autoParam (∀z,fe iter X.env z=fo z) B1._auto_1):
    PE X (.ListComp elt [⟨tgt,iter,ifs,0⟩] SU pos) (vI wi tgs.length js g tt te):=by
  intro pj s σ H Q I h;rw[eval_ListComp];refine v7 hc hi hg ht he Te Ta Tp hjs hin Tf SY T0 T4 hs _ pj s σ H Q I h aq _ ?_;intro D C H' s' q fp hm inv;obtain⟨m,hm⟩:=hm;exact⟨m,hm,λh' hs'=>⟨.ref D,H',inv h' hs',rfl,q⟩⟩
theorem E4{y:bf}{py spos:gm}{iy:Nat}(hN:X.N.Nodup)(hi2:X.N[iy]?=aa y)(hx2:xC X.env.scope y)(hc:X.N=X.N)
    (hi:PI X tgt iter wi) (hg:∀(fp:List af) (s:ah) (H:Hp),PG (o9 X SU cl fp (tgs++ns) s H) tgt g) (ht:∀(fp:List af) (s:ah) (H:Hp),KO (o9 X SU cl fp (tgs++ns) s H) ifs tt)
    (he:∀(fp:List af) (s:ah) (H:Hp),PE (o9 X SU cl fp (tgs++ns) s H) elt te)
    (Te:ph SU X.env=fo cl) (Ta:∀x c,cl.lookup x=aa c->X.env.cells.lookup x=aa c)
    (Tp:∀x,((fz SU X.env).names.lookup x=aa .cell \/ (fz SU X.env).names.lookup x=aa .free) -> ∃c,cl.lookup x=aa c)
    (hjs:js.map (λj=>X.N[j]?)=ns.map aa) (hin:∀y∈ns,(fz SU X.env).names.lookup y=aa .cell \/ (fz SU X.env).names.lookup y=aa .free)
    (Tf:∀y∈ns,X.env.kindOf y=aa .cell \/ X.env.kindOf y=aa .free)
    (SY:autoParam (∀y∈SU.names,y.2 ≠ .cell) B0._auto_1) (T0:autoParam (SU.kind=.function) b7._auto_1)
    (T4:autoParam (∀y∈SU.names,y.2=.local->SU.names.lookup y.1=aa .local) B0._auto_1)
    (hs:autoParam (∀z,fe iter X.env z=fo z) B1._auto_1)
    (hsw:autoParam (eh (.ListComp elt [⟨tgt,iter,ifs,0⟩] SU pos) (aa (.Name y py)) spos.line X.env=fo ai) b7._auto_1) (hf:autoParam (X.fn y=ai \/ X.env.scope.names.lookup y=aa .local) xA._auto_1):
    PS X (.Assign [.Name y py] (.ListComp elt [⟨tgt,iter,ifs,0⟩] SU pos) spos) (G4 (vI wi tgs.length js g tt te) (yW iy)):=by
  intro pj s σ H D I h;rw[exec_Assign_Name_used _ _ _ _ hsw];refine ae (mq (ae ?_));show bi _ X.A (do let _ <- comprehension (.ListComp elt [⟨tgt,iter,ifs,0⟩] SU pos) SU X.env _ (newList []) ao (di iter X.env) (aa (uo (.Name y py) X.env))) _ _ s;refine ae (df (v7 hc hi hg ht he Te Ta Tp hjs hin Tf SY T0 T4 hs _ pj s σ H _ I h (aa (uo (.Name y py) X.env)) (λ_ s'=>SP X pj D .next s') ?_) (λ_ s' hq=>az (az hq)) λ_ _ e=>e);intro E C H' s' q fp ⟨m,hm⟩ inv;have I1:Inv X pj σ H' s':=inv s'.heap ⟨rfl,λ_ _=>rfl⟩;show bi _ X.A (uo (.Name y py) X.env (.ref E)) _ _ _;refine ye (uN I1 hN hi2 hx2 (v:=.ref E) rfl (λs2 I2 hsb=>?_) hf);obtain⟨a,hsb,ha⟩:=hsb;have aC:a≠C:=by
    rcases ha with ha | ha
    . rw[ha];exact fm fp.2.1
    . exact fp.2.2.2.2.1 _ _ ha
  refine⟨m,hm.sameBut hsb (fm aC),λh' hs'=>⟨_,H',?_,q⟩⟩;refine I2.call' (s':={ s2 with heap:=h' }) (ch:=[C]) rfl ⟨λb o e n hb hx=>?_,λb o e n hb hx=>?_,λb o e n hx=>n,λb o e hx=>?_,λ_ _ e=>e,λ_ _ _ e=>e,λb ps e=>⟨#[],by simpa using e⟩⟩ ?_ I2.bare ?_
  . exact hs'.extBut b o (by simpa using hx) e
  . exact⟨o.slots,hs'.extBut b o (by simpa using hx) e⟩
  . exact⟨o,hs'.extBut b o (by simpa using hx) e⟩
  . have nC:∀c v,H' c=aa v->c≠C:=λc v e z=>by
      rw[z,fp.1] at e;cases e
    intro b u e;refine(I2.hok b u e).stay (λc v hc q=>(hs'.2 c ?_).trans q) (λ_ q=>q) (λ_ _ q=>q) λ_ _ q=>q;rcases hc with z | z
    . rw[z];exact nC b u e
    . exact nC c _ z
  . intro b hb;obtain rfl:b=C:=by simpa using hb
    exact⟨fp.2.2.2.1,fp.2.1,fp.2.2.2.2.1,fp.2.2.2.2.2⟩
variable {y:V}{o:Option V}{κ:Type}
section
variable [DecidableEq κ]
noncomputable def jA(kvs:List (κ×V))(k:κ):Option V:=(kvs.find? λkv=>decide (kv.1=k)).map (·.2)
noncomputable def j0(kvs:List (κ×V))(k:κ)(v:V):List (κ×V):=
  if (kvs.any λkv=>decide (kv.1=k))=ai then kvs.map (λkv=>if kv.1=k then (kv.1,v) else kv) else kvs++[(k,v)]
theorem kZ{p:κ×V}{r:List (κ×V)}{k:κ}(e:p.1=k):jA (p::r) k=aa p.2:=by simp[jA,rn,e]
theorem l5{p:κ×V}{r:List (κ×V)}{k:κ}(e:¬p.1=k):jA (p::r) k=jA r k:=by simp[jA,rn,e]
theorem xF(k:κ):∀kvs:List (κ×V),(kvs.any λkv=>decide (kv.1=k))=(jA kvs k).isSome
  | []=>rfl
  |p::r=>by
    rw[qc];by_cases e:p.1=k
    . simp only[kZ e,decide_eq_true e,Bool.true_or,xt]
    . rw[l5 e,decide_eq_false e,Bool.false_or];exact xF k r
theorem lL(kvs:List (κ×V))(k:κ)(v:V):(j0 kvs k v).length<=kvs.length+1:=by
  unfold j0;split
  . rw[bt];right
  . rw[fy,cw,xu];right
theorem mS.isSome_eq{u:Option ac}(r:mS o u):o.isSome=u.isSome:=by
  cases o with
  |none=>cases u with
    |none=>rfl
    |some _=>exact(show False from r).elim
  |some _=>cases u with
    |none=>exact(show False from r).elim
    |some _=>rfl
theorem KV.val{kvs:List (κ×V)}{vs:List (κ×ac)}(r:KV kvs vs)(k:κ):mS (jA kvs k) (wq vs k):=by
  unfold KV at r;induction r with
  |nil=>exact ip
  | @cons p q ps qs h t ih=>
    obtain⟨h1,h2⟩:=h;by_cases e:p.1=k
    . have e':q.1=k:=h1.symm.trans e;have b:wq (q::qs) k=aa q.2:=by simp[wq,rn,e']
      rw[kZ e,b];exact h2
    . have e':¬q.1=k:=λz=>e (h1.trans z);have b:wq (q::qs) k=wq qs k:=by simp[wq,rn,e']
      rw[l5 e,b];exact ih
theorem KV.any{kvs:List (κ×V)}{vs:List (κ×ac)}(r:KV kvs vs)(k:κ):(kvs.any λkv=>decide (kv.1=k))=vs.any λkv=>decide (kv.1=k):=by
  unfold KV at r;induction r with
  |nil=>rfl
  |cons h t ih=>rw[qc,qc,ih,h.1]
theorem KV.repl{kvs:List (κ×V)}{vs:List (κ×ac)}(r:KV kvs vs)(k:κ)(ry:bU y u):
    KV (kvs.map λkv=>if kv.1=k then (kv.1,y) else kv) (vs.map λkv=>if kv.1=k then (kv.1,u) else kv):=by
  unfold KV at r ⊢;induction r with
  |nil=>exact .nil
  | @cons p q ps qs h t ih=>
    rw[cn,cn];refine .cons ?_ ih;obtain⟨h1,h2⟩:=h;by_cases e:p.1=k
    . rw[SS e,SS (h1.symm.trans e)];exact⟨h1,ry⟩
    . rw[Sm e,Sm (λz=>e (h1.trans z))];exact⟨h1,h2⟩
theorem KV.put{kvs:List (κ×V)}{vs:List (κ×ac)}(r:KV kvs vs)(k:κ)(ry:bU y u):KV (j0 kvs k y) (stored vs k u):=by
  unfold j0 stored;rw[r.any k];by_cases e:(vs.any λkv=>decide (kv.1=k))=ai
  . rw[SS e,SS e];exact r.repl k ry
  . rw[Sm e,Sm e];exact Paired.snoc r ⟨rfl,ry⟩
theorem KV.length{kvs:List (κ×V)}{vs:List (κ×ac)}(r:KV kvs vs):kvs.length=vs.length:=Paired.length r
end
theorem yU{k:bI}(r:bU (kV k) u):(cY P w).is k u=ai:=by
  cases k with
  |inl i=>obtain⟨t,e⟩:=(show ∃t,u=Value.int i t from r);subst e;exact yO P w i t
  |inr x=>obtain⟨t,e⟩:=(show ∃t,u=Value.str x t from r);subst e;exact yN P w x t
theorem v3{P:ay}{w:bg}:∀{ks:List bI} {us:List ac},aY (ks.map kV) us->ItemsAre (cY P w) ks us
  | [],_,r=>by rw[wo] at r;cases r;exact .nil
  |k::ks,_,r=>by
    rw[cn] at r;cases r with
    |cons h t=>exact .cons (yU h) (v3 t)
noncomputable abbrev KT(H:Hp):List (List bI×V)->List (List bI×af×ac)->Prop:=Paired λp q=>p.1=q.1/\H q.2.1=aa (.tup (p.1.map kV))/\bU p.2 q.2.2
variable {xs:List (List bI×af×ac)}
theorem KT.val(r:KT H kvs xs)(k:List bI):mS (jA kvs k) ((zy xs k).map (·.2)):=by
  induction r with
  |nil=>exact ip
  | @cons p q ps qs h t ih=>
    obtain⟨h1,_,h2⟩:=h;by_cases e:p.1=k
    . have e':q.1=k:=h1.symm.trans e;have b:zy (q::qs) k=aa q.2:=by simp[zy,rn,e']
      rw[kZ e,b];exact h2
    . have e':¬q.1=k:=λz=>e (h1.trans z);have b:zy (q::qs) k=zy qs k:=by simp[zy,rn,e']
      rw[l5 e,b];exact ih
theorem KT.repl(r:KT H kvs xs)(k:List bI)(ry:bU y u):
    KT H (kvs.map λkv=>if kv.1=k then (kv.1,y) else kv) (xs.map (putAt k u)):=by
  induction r with
  |nil=>exact .nil
  | @cons p q ps qs h t ih=>
    rw[cn,cn];refine .cons ?_ ih;obtain⟨h1,h2,h3⟩:=h;unfold putAt;by_cases e:p.1=k
    . rw[SS e,SS (h1.symm.trans e)];exact⟨h1,h2,ry⟩
    . rw[Sm e,Sm (λz=>e (h1.trans z))];exact⟨h1,h2,h3⟩
theorem KT.put(r:KT H kvs xs)(k:List bI)(hb:H b=aa (.tup (k.map kV)))(ry:bU y u):
    KT H (j0 kvs k y) (storedH xs k b u):=by
  have e:(kvs.any λkv=>decide (kv.1=k))=(zy xs k).isSome:=by
    rw[xF,(r.val k).isSome_eq,isSome_map]
  unfold j0 storedH;rw[e];by_cases q:(zy xs k).isSome=ai
  . rw[SS q,SS q];exact r.repl k ry
  . rw[Sm q,Sm q];exact Paired.snoc r ⟨rfl,hb,ry⟩
theorem KT.keeps(r:KT H kvs xs)(ht:∀b ys,H b=aa (.tup ys)->H' b=aa (.tup ys)):KT H' kvs xs:=
  Paired.mapP r λ_ _ z=>⟨z.1,ht _ _ z.2.1,z.2.2⟩
variable {ep:Nat}
theorem Hz{u:HO}(ok:jL P w H h)(e:Rd H a u):cB P w H h a u:=e.ok ok
theorem zH{kvs:List (bI×V)}(ok:jL P w H h)(e:Rd H a (.dK kvs)):kvs.length<=bh/\(a==gk)=ao /\ ∃vs,KV kvs vs/\h.DictOf (cY P w) a vs:=
  show cB P w H h a (.dK kvs) from Hz ok e
theorem IJ{kvs:List (bI×V)}(ok:jL P w H h)(e:H a=aa (.dK kvs)):kvs.length<=bh/\(a==gk)=ao /\ ∃vs,KV kvs vs/\h.DictOf (cY P w) a vs:=zH ok (.inl e)
theorem wB{ks:List bI}(ok:jL P w H h)(e:H a=aa (.tup (ks.map kV))):(wl (cY P w)).is h ks a:=by
  obtain⟨_,its,r,o,h1,h2,n,h3⟩:=(show cB P w H h a (.tup (ks.map kV)) from ok a _ e);exact⟨o,its.toArray,n,h1,h2,h3,by simpa using v3 r⟩
theorem Bf(ok:jL P w H h)(e:Rd H a (.dT ep kvs)):kvs.length<=bh/\(a==gk)=ao /\
    ∃xs,KT H kvs xs/\h.DictOfH (wl (cY P w)) a xs:=by
  obtain⟨z,y,xs,r,o,es,h1,h2,h3,h4,h5⟩:=(show cB P w H h a (.dT ep kvs) from Hz ok e);refine⟨z,y,xs,r,o,es,ep,h1,h2,h3,h4,λx hx=>?_,h5⟩;have all:∀{l:List (List bI×V)} {m:List (List bI×af×ac)},KT H l m -> ∀x∈m,(wl (cY P w)).is h x.1 x.2.1:=by
    intro l m q;induction q with
    |nil=>intro x hx;exact nomatch hx
    | @cons p q ps qs hq t ih=>
      intro x hx;rcases cr.mp hx with e | hx
      . subst e;exact wB ok (by rw[<- hq.1];exact hq.2.1)
      . exact ih x hx
  exact all r x hx
theorem M1(ok:jL P w H h)(e:H a=aa (.dT ep kvs)):kvs.length<=bh/\(a==gk)=ao /\
    ∃xs,KT H kvs xs/\h.DictOfH (wl (cY P w)) a xs:=Bf ok (.inl e)
noncomputable def qP(H:Hp)(a:af)(y:V)(r:Option V):Prop:=
  (∃kvs k,Rd H a (.dK kvs)/\y=kV k/\r=jA kvs k) \/ ∃ep kvs k b,Rd H a (.dT ep kvs)/\y=.ref b/\H b=aa (.tup (k.map kV))/\r=jA kvs k
noncomputable def zY(H:Hp)(a:af)(y v:V)(R:Hp->Prop):Prop:=
  (∃kvs k,H a=aa (.dK kvs)/\y=kV k/\kvs.length<bh/\R (upd H a (.dK (j0 kvs k v)))) \/
  ∃ep kvs k b,H a=aa (.dT ep kvs)/\y=.ref b/\H b=aa (.tup (k.map kV))/\kvs.length<bh /\ ∀ep',R (upd H a (.dT ep' (j0 kvs k v)))
theorem qP.k{H:Hp}{a:af}{kvs:List (bI×V)}{k:bI}(e:H a=aa (.dK kvs)):qP H a (kV k) (jA kvs k):=.inl ⟨kvs,k,.inl e,rfl,rfl⟩
theorem qP.t{k:List bI}(e:H a=aa (.dT ep kvs))(eb:H b=aa (.tup (k.map kV))):qP H a (.ref b) (jA kvs k):=.inr ⟨ep,kvs,k,b,.inl e,rfl,eb,rfl⟩
theorem zY.k{H:Hp}{a:af}{kvs:List (bI×V)}{k:bI}{v:V}{R:Hp->Prop}(e:H a=aa (.dK kvs))(hl:kvs.length<bh)(r:R (upd H a (.dK (j0 kvs k v)))):zY H a (kV k) v R:=.inl ⟨kvs,k,e,rfl,hl,r⟩
theorem zY.t{k:List bI}{R:Hp->Prop}(e:H a=aa (.dT ep kvs))(eb:H b=aa (.tup (k.map kV)))(hl:kvs.length<bh)(r:∀ep',R (upd H a (.dT ep' (j0 kvs k v)))):zY H a (.ref b) v R:=.inr ⟨ep,kvs,k,b,e,rfl,eb,hl,r⟩
variable {Q:ac->ah->Prop}{r:ac}
theorem Inv.big(I:Inv X pj σ H s):gk<s.heap.objs.size:=by
  have h:ft<s.heap.objs.size:=(I.mod.glob.keeps I.bk).lt;exact RT ∅ h
theorem D1(hu:A.units+1<ma)(I:Inv X pj σ H s)(g:qP H a y (aa v))(ry:bU y u)(h:∀w' s',Inv X pj σ H s'->bU v w'->Q w' s'):
    bi (bn X.prog X.w) A (wm (.ref a) u) Q E s:=by
  rcases g with⟨kvs,k,e,ey,l⟩ | ⟨_,kvs,k,b,e,ey,eb,l⟩
  . subst ey;obtain⟨z,hd,vs,rel,dd⟩:=zH I.hok e;obtain⟨w',hw,rw'⟩:=mS.some_of (v:=v) (o:=wq vs k) (by rw[l];exact rel.val k);exact wpAny_getItem_of (yU ry) dd.mapOf hw (h w' _ (I.tok _) rw')
  . subst ey;cases (show u=Value.ref b from ry);obtain⟨z,hd,xs,rel,dd⟩:=Bf I.hok e;obtain⟨w',hw,rw'⟩:=mS.some_of (v:=v) (o:=(zy xs k).map (·.2)) (by rw[l];exact rel.val k);obtain⟨p,hp,hp2⟩:=ve.mp hw;refine wpAny_getItem_heap (rq hu) (wB I.hok eb) dd hp ?_;rw[hp2];exact h w' _ (I.tok _) rw'
theorem Hb(hu:A.units+1<ma)(I:Inv X pj σ H s)(g:qP H a y o)(ry:bU y u)(h:∀s',Inv X pj σ H s'->Q (.bool (!o.isSome)) s'):
    bi (bn X.prog X.w) A (cj .NotIn u (.ref a)) Q E s:=by
  rcases g with⟨kvs,k,e,ey,l⟩ | ⟨_,kvs,k,b,e,ey,eb,l⟩
  . subst ey;obtain⟨z,hd,vs,rel,dd⟩:=zH I.hok e;refine wpAny_notIn_of (yU ry) hd dd.mapOf ?_;rw[<- (rel.val k).isSome_eq,<- l];exact h _ (I.tok _)
  . subst ey;cases (show u=Value.ref b from ry);obtain⟨z,hd,xs,rel,dd⟩:=Bf I.hok e;refine wpAny_notIn_heap (rq hu) (wB I.hok eb) hd dd ?_;have q:=(rel.val k).isSome_eq;rw[isSome_map] at q;rw[<- q,<- l];exact h _ (I.tok _)
theorem wQ(I:Inv X pj σ H s)(mu:DC (H a))(hs:ny a s.heap h')(he:∃q,h'.get? a=aa q)(new:cB X.prog X.w (upd H a ob) h' a ob):
    Inv X pj σ (upd H a ob) { s with heap:=h',toks:=t' }:=
  I.write (x:=a) (e:=a) mu (.inl rfl) (λb q hb z=>(hs.2 b hb).trans z) he new
theorem FX{kvs:List (bI×V)}{vs:List (bI×ac)}(z:kvs.length<=bh)(hd:(a==gk)=ao)(rel:KV kvs vs)(dd:h'.DictOf (cY P w) a vs):
    cB P w H' h' a (.dK kvs):=⟨z,hd,vs,rel,dd⟩
theorem D0{R:Hp->Prop}{Q:Unit->ah->Prop}(hu:A.units+1<ma)(I:Inv X pj σ H s)(g:zY H a y v R)(ry:bU y u)(rv:bU v r)(h:∀H' s',R H'->Inv X pj σ H' s'->Q () s'):
    bi (bn X.prog X.w) A (yd (.ref a) u r) Q E s:=by
  rcases g with⟨kvs,k,e,ey,l,eH⟩ | ⟨ep0,kvs,k,b,e,ey,eb,l,eH⟩
  . subst ey;obtain⟨z,hd,vs,rel,dd⟩:=IJ I.hok e;have hz:vs.length<=bh:=by rw[<- rel.length];exact z
    have hl:(j0 kvs k v).length<=bh:=by have:=lL kvs k v;right
    refine wpAny_setItem_pairs (hsz:=hz) (yU ry) dd λh' dd' hs=>h _ _ eH ?_;have he:∃q,h'.get? a=aa q:=let ⟨q,_,_,hq,_⟩:=dd';⟨q,hq⟩;exact wQ I (by rw[e];exact ip) hs he (FX hl hd (rel.put k rv) dd')
  . subst ey;cases (show u=Value.ref b from ry);obtain⟨z,hd,xs,rel,dd⟩:=M1 I.hok e;have hz:xs.length<=bh:=by rw[<- Paired.length rel];exact z
    have hl:(j0 kvs k v).length<=bh:=by have:=lL kvs k v;right
    refine wpAny_setItem_heap (hsz:=hz) (rq hu) (wB I.hok eb) dd λh' dd' hs=>?_;obtain⟨q,es,ep,hq,h2,h3,h4,_,h5⟩:=dd';refine h _ _ (eH ep) ?_;refine wQ I (by rw[e];exact ip) hs ⟨q,hq⟩ ⟨hl,hd,_,(rel.put k eb rv).keeps λc ys ec=>?_,q,es,hq,h2,h3,h4,h5⟩;rw[aQ (Ld ec e (λz=>nomatch z))];exact ec
section
variable {kvs:List (bI×V)}{k:bI}
theorem M3(I:Inv X pj σ H s)(e:Rd H a (.dK kvs))(h:∀t s',Inv X pj σ H s'->Q (.int kvs.length t) s'):bi (bn X.prog X.w) A (call (.builtin "len") [.ref a]) Q E s:=by
  obtain⟨z,hd,vs,rel,dd⟩:=zH I.hok e;refine call_len_dict hd dd (by rw[<- rel.length];rw[ii] at z;right) ?_;rw[<- rel.length];exact h _ _ (I.tok _)
end
theorem zI(I:Inv X pj σ H s)(g:qP H a y o):s.TypeIs (.ref a) "dict" := by
  rcases g with⟨kvs,k,e,_,_⟩ | ⟨_,kvs,k,b,e,_,_,_⟩
  . obtain⟨_,_,vs,_,dd⟩:=zH I.hok e;exact dd.typeIs
  . obtain⟨_,_,xs,_,dd⟩:=Bf I.hok e;exact dd.typeIs
noncomputable def Kq(td ty tv:TE):TS:=λD σ H=>tv σ H λv H1=>td σ H1 λx H2=>ty σ H2 λy H3=>∃a,x=.ref a/\zY H3 a y v (D.nx σ)
variable {tv td:TE}{T5:Expr}{T7:gm}
section
variable {o i:Expr}{tpos:gm}{ty:TE}
theorem BH(hu:X.A.units+1<ma)(ho:PE X o td)(hi:PE X i ty)(hv:PE X T5 tv)(hs:eh T5 (aa (.Subscript o i T7)) pos.line X.env=fo ao):
    PS X (.Assign [.Subscript o i T7] T5 pos) (Kq td ty tv):=by
  intro pj s σ H D I h;refine wpAny_Assign_Subscript (thn (hv pj s σ H _ I h) λr s1 ⟨v,H1,I1,rv,q1⟩=>thn (ho pj s1 σ H1 _ I1 q1) λu s2 ⟨x,H2,I2,rx,q2⟩=>thn (hi pj s2 σ H2 _ I2 q2) λiv s3 ⟨y,H3,I3,ry,a,ex,g⟩=>?_) hs;subst ex;obtain rfl:u=Value.ref a:=rx;exact D0 hu I3 g ry rv λH4 s4 q3 I4=>⟨σ,H4,I4,q3⟩
end
theorem FY(h:br)(hb:gk<h.objs.size):cB P w H (h.push { cls:=.type "dict",data:=.dict #[] }) h.objs.size (.dK []):=
  ⟨mj _,beq_eq_false_iff_ne.mpr (fm (eu hb)),[],.nil,Heap.DictOf.new h⟩
theorem FU(h:br)(hb:gk<h.objs.size):cB P w H (h.push { cls:=.type "dict",data:=.dict #[] }) h.objs.size (.dT 0 []):=
  ⟨mj _,beq_eq_false_iff_ne.mpr (fm (eu hb)),[],.nil,_,#[],bq _ rfl,⟨rfl,rfl,rfl⟩,rfl,rfl,Rl⟩
noncomputable def IW:TE:=λ_ H Q=>∀p,H p=aq->Q (.ref p) (upd H p (.dT 0 []))
theorem EF:PE X (.Dict [] [] pos) IW:=λpj s σ H Q I h=>
  wpAny_Dict_empty ⟨.ref s.heap.objs.size,_,I.laid (a:=s.heap.objs.size) (o:=.dT 0 []) (t':=s.toks) (λ_ _ q=>av _ q) (bo _) (FU s.heap I.big),rfl,h _ (I.hok.fresh (bo _))⟩
noncomputable def A6:List (TE×TE)->St->Hp->(List (V×V)->Hp->Prop)->Prop
  | [],_,H,Q=>Q [] H
  | (tk,tv)::r,σ,H,Q=>tk σ H λx H1=>tv σ H1 λy H2=>A6 r σ H2 λps H3=>Q ((x,y)::ps) H3
noncomputable abbrev VV:List (V×V)->List (ac×ac)->Prop:=Paired λp q=>bU p.1 q.1/\bU p.2 q.2
noncomputable def NA(X:Cx)(pos:gm)(keys:List (Option Expr))(Ti:List Expr)(trs:List (TE×TE)):Prop:=
  ∀(pj:List (af×gj)) (s:ah) (σ:St) (H:Hp) (Q:List (V×V)->Hp->Prop),Inv X pj σ H s->A6 trs σ H Q ->
    bi (bn X.prog X.w) X.A (evalPairs (pairTrees keys Ti X.env pos)) (λvs s'=>∃ps H',Inv X pj σ H' s'/\VV ps vs/\Q ps H') X.xe s
theorem GS:NA X pos [] [] []:=λpj s σ H Q I h=>pairTrees_nil_walk ⟨[],H,I,.nil,h⟩
variable {trs:List (TE×TE)}
theorem E6{k v:Expr}{ks:List (Option Expr)}{vs:List Expr}{tk:TE}(hk:PE X k tk)(hv:PE X v tv)(hr:NA X pos ks vs trs):
    NA X pos (aa k::ks) (v::vs) ((tk,tv)::trs):=λpj s σ H Q I h=>
  pairTrees_cons_walk (thn (hk pj s σ H _ I h) λu s1 ⟨x,H1,I1,rx,q1⟩=>thn (hv pj s1 σ H1 _ I1 q1) λw2 s2 ⟨y,H2,I2,ry,q2⟩=>
    thn (hr pj s2 σ H2 _ I2 q2) λws s3 zq5=>by obtain⟨ps,H3,I3,rel,q3⟩:=zq5;exact⟨(x,y)::ps,H3,I3,.cons ⟨rx,ry⟩ rel,q3⟩)
noncomputable def tE(kvs more:List (bI×V)):List (bI×V):=more.foldl (λacc kv=>j0 acc kv.1 kv.2) kvs
theorem KV.merge:∀{more:List (bI×V)} {rs:List (bI×ac)} {kvs:List (bI×V)} {vs:List (bI×ac)},KV more rs->KV kvs vs->KV (tE kvs more) (merged vs rs):=by
  intro more rs kvs vs r;unfold KV at r;induction r generalizing kvs vs with
  |nil=>intro q;exact q
  | @cons p q ps qs h t ih=>
    intro r0;have e:KV (j0 kvs p.1 p.2) (stored vs q.1 q.2):=by
      have:=r0.put p.1 h.2;rw[<- h.1];exact this
    exact ih e
theorem mX:∀(more kvs:List (bI×V)),(tE kvs more).length<=kvs.length+more.length
  | [],kvs=>by show kvs.length<=kvs.length+0;right
  |p::r,kvs=>by
    have h1:=mX r (j0 kvs p.1 p.2);have h2:=lL kvs p.1 p.2;show (tE (j0 kvs p.1 p.2) r).length<=_;rw[cw];right
theorem tQ{P:ay}{w:bg}:∀{kvs:List (bI×V)} {ws:List (ac×ac)},VV (kvs.map λkv=>(kV kv.1,kv.2)) ws -> ∃rs,Carries (cY P w) ws rs/\KV kvs rs
  | [],_,r=>by rw[wo] at r;cases r;exact⟨[],ip,.nil⟩
  |p::kvs,_,r=>by
    rw[cn] at r;cases r with
    | @cons a b as bs h t=>
      obtain⟨rs,c,q⟩:=tQ (P:=P) (w:=w) t;obtain⟨b1,b2⟩:=b;exact⟨(p.1,b2)::rs,⟨yU h.1,rfl,c⟩,.cons ⟨rfl,h.2⟩ q⟩
noncomputable def Ke(trs:List (TE×TE)):TE:=λσ H Q=>∀p,H p=aq->A6 trs σ (upd H p (.dK [])) λps H2=>H2 p=aa (.dK []) /\ ∃kvs:List (bI×V),ps=kvs.map (λkv=>(kV kv.1,kv.2))/\kvs.length<=15/\Q (.ref p) (upd H2 p (.dK (tE [] kvs)))
theorem GY{keys:List (Option Expr)}{Ti:List Expr}(h:NA X pos keys Ti trs)(Tq:keys.all (·.isSome)=ai)(hl:keys.length=Ti.length)(h0:keys≠[])
    (h15:keys.length<=15):PE X (.Dict keys Ti pos) (Ke trs):=by
  intro pj s σ H Q I q;have hn:=I.hok.fresh (bo s.heap.objs.size);have I1:=I.laid (a:=s.heap.objs.size) (o:=.dK []) (h':=s.heap.push { cls:=.type "dict",data:=.dict #[] }) (t':=s.toks) (λ_ _ q=>av _ q) (bo _) (FY s.heap I.big);refine wpAny_Dict_walk (knd:=cY X.prog X.w) Tq hl h0 h15 (thn (h pj _ σ _ _ I1 (q _ hn)) λws s2 zz=>?_);obtain⟨ps,H2,I2,rel,e,kvs,ep,lk,q2⟩:=zz;subst ep;obtain⟨rs,c,rk⟩:=tQ (P:=X.prog) (w:=X.w) rel;obtain⟨z,hd,vs0,r0,dd⟩:=IJ I2.hok e;cases r0;refine⟨rs,c,dd,λh' dd' hs=>⟨.ref s.heap.objs.size,_,?_,rfl,q2⟩⟩;have hz:(tE [] kvs).length<=bh:=by
    have h1:=mX kvs [];rw[xu] at h1;rw[ii];right
  have he:∃q,h'.get? s.heap.objs.size=aa q:=let ⟨q,_,_,hq,_⟩:=dd';⟨q,hq⟩;exact wQ I2 (by rw[e];exact ip) hs he (FX hz hd (rk.merge .nil) dd')
section
variable {d:V}
end
section
variable {o f:Expr}{SZ:gm}{ty tx:TE}
end
section
variable {kvs:List (bI×V)}
end
theorem D8:eB X (.builtin "len") (λxs H Q=>∃a kvs,xs=[V.ref a]/\H a=aa (.dK kvs)/\Q (.int kvs.length) H):=by
  intro pj s σ H xs us Q I r h;obtain⟨a,kvs,rfl,ha,q⟩:=h;obtain⟨u,rfl,ru⟩:=iF r;cases ru;exact M3 I (.inl ha) λt s' I'=>⟨.int kvs.length,H,I',⟨t,rfl⟩,q⟩
section
variable [DecidableEq κ]
end
noncomputable abbrev Tk:=Int×Int×List Int
noncomputable def DV(k:Tk):Int:=reduceHash (sr [RM k.1,RM k.2.1,reduceHash (sr (k.2.2.map RM))])
noncomputable abbrev Ov(x:Tk×af):ja:=⟨DV x.1,.ref x.2,.bool ai⟩
noncomputable def ndict(a:af)(xs:List (Tk×af)):br->Prop:=λh=>xs.length<=bh/\(a==gk)=ao /\ ∃o es ep,h.get? a=aa o/\o.ExactDict/\o.data=.dict es ep/\es.toList=xs.map Ov/\(xs.map (·.1)).Nodup
noncomputable abbrev HO.dN(a:af)(xs:List (Tk×af)):HO:=.ext (ndict a xs)
noncomputable def TileAt(H:Hp)(k:Tk)(b:af):Prop:=∃c,H b=aa (.tup [.int k.1,.int k.2.1,.ref c])/\H c=aa (.tup (k.2.2.map V.int))
section
variable {xs:List (Tk×af)}{k:Tk}
end
section
variable {o i:Expr}{ty:TE}
end
end L2
variable {M F:af->Prop}{HZ:L2.Hp}
namespace Z
open L2
noncomputable abbrev St:=L2.St
inductive Dv where
 |non
 |bl (b:Bool)
 |int (i:Int)
 |str (x:bf)
 |tup (xs:List Dv)
 |lst (xs:List Dv)
 |dik (kvs:List (bI×Dv))
 |dit (kvs:List (List bI×Dv))
 |obj (C:af) (fs:List (bf×Dv))
 |scr (ns:List Int)
 /-- an exception that was caught,of the class at C -/
 |exc (C:af) (p:Option Int)
 /-- a dict by tiles whose values are True -/
 |dns (ks:List Tk)
noncomputable def hW:Dv->Bool
 | .lst _=>ao
 | .dik _=>ao
 | .dit _=>ao
 | .obj _ _=>ao
 | .dns _=>ao
 | .tup xs=>flatDs xs
 |_=>ai
where flatDs:List Dv->Bool
 | []=>ai
 |d::r=>hW d&&flatDs r
noncomputable abbrev flatDs:=hW.flatDs
noncomputable def Hq(K:aj)(H:Hp)(a:af)(ns:List Int):Prop:=
 (∃o,H a=aa (.frz o (.lst (ns.map V.int)))) \/
  ∃(o:gj) (its:Array ac) (n:Nat),K.lookup a=aa o/\o.cls=.type "list" /\ o.dict=aq/\o.data=.seq its n/\its.size<=bh/\aY (ns.map V.int) its.toList
theorem Hq.sq(h:Hq K H a ns):eT K H a (ns.map V.int):=by
 rcases h with⟨o,h⟩ | h
 ·exact .inl (.inr ⟨o,h⟩)
 ·exact .inr h
noncomputable def lV(H:Hp):Option Int->Option af->Prop
 |none,aq=>True
 |some n,aa d=>∃od,H d=aa (.frz od (.xd [("step",.int n)]))
 |_,_=>False
theorem lV.gen(h:∀a o u,H a=aa (.frz o u)->H' a=aa (.frz o u)):∀{p:Option Int} {d:Option af},lV H p d->lV H' p d
 |none,aq,z=>z
 |some _,aa _,⟨od,z⟩=>⟨od,h _ _ _ z⟩
 |none,aa _,z=>z.elim
 |some _,aq,z=>z.elim
noncomputable def MJ(H:Hp)(a C:af)(p:Option Int):Prop:=∃o u,H a=aa (.frz o u)/\o.cls=.ref C/\lV H p o.dict/\iX o
noncomputable def Q9(H:Hp)(a:af)(ks:List Tk):Prop:=∃xs,H a=aa (.dN a xs)/\ks=xs.map (·.1) /\ ∀x∈xs,TileAt H x.1 x.2
mutual
inductive Rep(K:aj)(M:af->Prop)(H:Hp):V->Dv->Prop
 |non:Rep K M H .non .non
 |bl (b:Bool):Rep K M H (.bl b) (.bl b)
 |int (i:Int):Rep K M H (.int i) (.int i)
 |str (x:bf):Rep K M H (.str x) (.str x)
 |tup {a:af} {xs:List V} {ds:List Dv}:H a=aa (.tup xs)->Reps K M H xs ds->Rep K M H (.ref a) (.tup ds)
 |lst {a:af} {xs:List V} {ds:List Dv}:H a=aa (.lst xs) -> ¬M a->Reps K M H xs ds->Rep K M H (.ref a) (.lst ds)
 |dik {a:af} {kvs:List (bI×V)} {ds:List (bI×Dv)}:H a=aa (.dK kvs) -> ¬M a->RepK K M H kvs ds->Rep K M H (.ref a) (.dik ds)
 |dit {a:af} {ep:Nat} {kvs:List (List bI×V)} {ds:List (List bI×Dv)}:H a=aa (.dT ep kvs) -> ¬M a->RepT K M H kvs ds->Rep K M H (.ref a) (.dit ds)
 |obj {a C dx:af} {fs:List (bf×V)} {ds:List (bf×Dv)}:H a=aa (.ins C dx fs) -> ¬M a->RepF K M H fs ds->Rep K M H (.ref a) (.obj C ds)
 |scr {a:af} {ns:List Int}:Hq K H a ns->Rep K M H (.ref a) (.scr ns)
 |exc {a C:af} {p:Option Int}:MJ H a C p->Rep K M H (.ref a) (.exc C p)
 |dns {a:af} {ks:List Tk}:Q9 H a ks -> ¬M a->Rep K M H (.ref a) (.dns ks)
inductive Reps(K:aj)(M:af->Prop)(H:Hp):List V->List Dv->Prop
 |nil:Reps K M H [] []
 |cons {x:V} {d:Dv} {xs:List V} {ds:List Dv}:Rep K M H x d->Reps K M H xs ds->Reps K M H (x::xs) (d::ds)
inductive RepK(K:aj)(M:af->Prop)(H:Hp):List (bI×V)->List (bI×Dv)->Prop
 |nil:RepK K M H [] []
 |cons {k:bI} {x:V} {d:Dv} {xs:List (bI×V)} {ds:List (bI×Dv)}:Rep K M H x d->RepK K M H xs ds->RepK K M H ((k,x)::xs) ((k,d)::ds)
inductive RepT(K:aj)(M:af->Prop)(H:Hp):List (List bI×V)->List (List bI×Dv)->Prop
 |nil:RepT K M H [] []
 |cons {k:List bI} {x:V} {d:Dv} {xs:List (List bI×V)} {ds:List (List bI×Dv)}:Rep K M H x d->RepT K M H xs ds->RepT K M H ((k,x)::xs) ((k,d)::ds)
inductive RepF(K:aj)(M:af->Prop)(H:Hp):List (bf×V)->List (bf×Dv)->Prop
 |nil:RepF K M H [] []
 |cons {k:bf} {x:V} {d:Dv} {xs:List (bf×V)} {ds:List (bf×Dv)}:Rep K M H x d->RepF K M H xs ds->RepF K M H ((k,x)::xs) ((k,d)::ds)
end
structure Gen(K:aj)(M M':af->Prop)(H H':Hp):Prop where
 l:∀a o,H a=aa o->DC (aa o) -> ¬M a->H' a=aa o /\ ¬M' a
 t:∀a xs,H a=aa (.tup xs)->H' a=aa (.tup xs)
 s:∀a ns,Hq K H a ns->Hq K H' a ns
 x:∀a o u,H a=aa (.frz o u)->H' a=aa (.frz o u)
variable {ds:List Dv}{o:HO}{M':af->Prop}{H'':Hp}
section
variable {M'':af->Prop}
theorem Reps.ind{P:List V->List Dv->Prop}(h0:P [] [])(h1:∀(x:V) (d:Dv) (xs:List V) (ds:List Dv),Rep K M H x d->Reps K M H xs ds->P xs ds->P (x::xs) (d::ds))(r:Reps K M H xs ds):P xs ds:=
 Reps.rec (motive_1:=λ_ _ _=>True) (motive_2:=λxs ds _=>P xs ds) (motive_3:=λ_ _ _=>True) (motive_4:=λ_ _ _=>True) (motive_5:=λ_ _ _=>True) trivial (λ_=>trivial) (λ_=>trivial) (λ_=>trivial) (λ_ _ _=>trivial) (λ_ _ _ _=>trivial) (λ_ _ _ _=>trivial) (λ_ _ _ _=>trivial) (λ_ _ _ _=>trivial) (λ_=>trivial) (λ_=>trivial) (λ_ _=>trivial) h0 (λa r _ ih=>h1 _ _ _ _ a r ih) trivial (λ_ _ _ _=>trivial) trivial (λ_ _ _ _=>trivial) trivial (λ_ _ _ _=>trivial) r
theorem RepK.ind{P:List (bI×V)->List (bI×Dv)->Prop}(h0:P [] [])(h1:∀(k:bI) (x:V) (d:Dv) (xs:List (bI×V)) (ds:List (bI×Dv)),Rep K M H x d->RepK K M H xs ds->P xs ds->P ((k,x)::xs) ((k,d)::ds)){xs:List (bI×V)}{ds:List (bI×Dv)}(r:RepK K M H xs ds):P xs ds:=
 RepK.rec (motive_1:=λ_ _ _=>True) (motive_2:=λ_ _ _=>True) (motive_3:=λxs ds _=>P xs ds) (motive_4:=λ_ _ _=>True) (motive_5:=λ_ _ _=>True) trivial (λ_=>trivial) (λ_=>trivial) (λ_=>trivial) (λ_ _ _=>trivial) (λ_ _ _ _=>trivial) (λ_ _ _ _=>trivial) (λ_ _ _ _=>trivial) (λ_ _ _ _=>trivial) (λ_=>trivial) (λ_=>trivial) (λ_ _=>trivial) trivial (λ_ _ _ _=>trivial) h0 (λa r _ ih=>h1 _ _ _ _ _ a r ih) trivial (λ_ _ _ _=>trivial) trivial (λ_ _ _ _=>trivial) r
theorem RepT.ind{P:List (List bI×V)->List (List bI×Dv)->Prop}(h0:P [] [])(h1:∀(k:List bI) (x:V) (d:Dv) (xs:List (List bI×V)) (ds:List (List bI×Dv)),Rep K M H x d->RepT K M H xs ds->P xs ds->P ((k,x)::xs) ((k,d)::ds)){xs:List (List bI×V)}{ds:List (List bI×Dv)}(r:RepT K M H xs ds):P xs ds:=
 RepT.rec (motive_1:=λ_ _ _=>True) (motive_2:=λ_ _ _=>True) (motive_3:=λ_ _ _=>True) (motive_4:=λxs ds _=>P xs ds) (motive_5:=λ_ _ _=>True) trivial (λ_=>trivial) (λ_=>trivial) (λ_=>trivial) (λ_ _ _=>trivial) (λ_ _ _ _=>trivial) (λ_ _ _ _=>trivial) (λ_ _ _ _=>trivial) (λ_ _ _ _=>trivial) (λ_=>trivial) (λ_=>trivial) (λ_ _=>trivial) trivial (λ_ _ _ _=>trivial) trivial (λ_ _ _ _=>trivial) h0 (λa r _ ih=>h1 _ _ _ _ _ a r ih) trivial (λ_ _ _ _=>trivial) r
theorem RepF.ind{P:List (bf×V)->List (bf×Dv)->Prop}(h0:P [] [])(h1:∀(k:bf) (x:V) (d:Dv) (xs:List (bf×V)) (ds:List (bf×Dv)),Rep K M H x d->RepF K M H xs ds->P xs ds->P ((k,x)::xs) ((k,d)::ds)){xs:List (bf×V)}{ds:List (bf×Dv)}(r:RepF K M H xs ds):P xs ds:=
 RepF.rec (motive_1:=λ_ _ _=>True) (motive_2:=λ_ _ _=>True) (motive_3:=λ_ _ _=>True) (motive_4:=λ_ _ _=>True) (motive_5:=λxs ds _=>P xs ds) trivial (λ_=>trivial) (λ_=>trivial) (λ_=>trivial) (λ_ _ _=>trivial) (λ_ _ _ _=>trivial) (λ_ _ _ _=>trivial) (λ_ _ _ _=>trivial) (λ_ _ _ _=>trivial) (λ_=>trivial) (λ_=>trivial) (λ_ _=>trivial) trivial (λ_ _ _ _=>trivial) trivial (λ_ _ _ _=>trivial) trivial (λ_ _ _ _=>trivial) h0 (λa r _ ih=>h1 _ _ _ _ _ a r ih) r
theorem _root_.L2.TileAt.gen{k:Tk}(t:TileAt H k b)(ht:∀a xs,H a=aa (.tup xs)->H' a=aa (.tup xs)):TileAt H' k b:=let ⟨c,e1,e2⟩:=t;⟨c,ht _ _ e1,ht _ _ e2⟩
theorem Rep.gen(G:Gen K M M' H H'){x:V}{d:Dv}(r:Rep K M H x d):Rep K M' H' x d:=
 Rep.rec (motive_1:=λx d _=>Rep K M' H' x d) (motive_2:=λxs ds _=>Reps K M' H' xs ds) (motive_3:=λxs ds _=>RepK K M' H' xs ds) (motive_4:=λxs ds _=>RepT K M' H' xs ds) (motive_5:=λxs ds _=>RepF K M' H' xs ds)
  .non .bl .int .str (λh _ r=>.tup (G.t _ _ h) r) (λh m _ r=>.lst (G.l _ _ h trivial m).1 (G.l _ _ h trivial m).2 r) (λh m _ r=>.dik (G.l _ _ h trivial m).1 (G.l _ _ h trivial m).2 r) (λh m _ r=>.dit (G.l _ _ h trivial m).1 (G.l _ _ h trivial m).2 r)
  (λh m _ r=>.obj (G.l _ _ h trivial m).1 (G.l _ _ h trivial m).2 r) (λh=>.scr (G.s _ _ h)) (λzq6=>by obtain⟨o,u,h,z,y,m⟩:=zq6;exact .exc ⟨o,u,G.x _ _ _ h,z,y.gen G.x,m⟩) (λ⟨xs,h,e,t⟩ m=>.dns ⟨xs,(G.l _ _ h trivial m).1,e,λx hx=>(t x hx).gen G.t⟩ (G.l _ _ h trivial m).2) .nil (λ_ _ a r=>.cons a r) .nil (λ_ _ a r=>.cons a r) .nil (λ_ _ a r=>.cons a r) .nil (λ_ _ a r=>.cons a r) r
theorem Reps.gen(G:Gen K M M' H H'){xs:List V}{ds:List Dv}(r:Reps K M H xs ds):Reps K M' H' xs ds:=r.ind .nil λ_ _ _ _ a _ ih=>.cons (a.gen G) ih
theorem RepK.gen(G:Gen K M M' H H'){xs:List (bI×V)}{ds:List (bI×Dv)}(r:RepK K M H xs ds):RepK K M' H' xs ds:=r.ind .nil λ_ _ _ _ _ a _ ih=>.cons (a.gen G) ih
theorem RepT.gen(G:Gen K M M' H H'){xs:List (List bI×V)}{ds:List (List bI×Dv)}(r:RepT K M H xs ds):RepT K M' H' xs ds:=r.ind .nil λ_ _ _ _ _ a _ ih=>.cons (a.gen G) ih
theorem RepF.gen(G:Gen K M M' H H'){xs:List (bf×V)}{ds:List (bf×Dv)}(r:RepF K M H xs ds):RepF K M' H' xs ds:=r.ind .nil λ_ _ _ _ _ a _ ih=>.cons (a.gen G) ih
theorem aI.scr(S:aI H H')(h:Hq K H a ns):Hq K H' a ns:=by
 rcases h with⟨o,h⟩ | h
 ·exact .inl ⟨o,S _ _ h⟩
 ·exact .inr h
theorem Gen.mono(S:aI H H'):Gen K M M H H':=⟨λa o h _ m=>⟨S _ _ h,m⟩,λ_ _ h=>S _ _ h,λ_ _ h=>aI.scr S h,λ_ _ _ h=>S _ _ h⟩
theorem Gen.weak(h:∀a,M' a->M a):Gen K M M' H H:=⟨λa o e _ m=>⟨e,λz=>m (h a z)⟩,λ_ _ h=>h,λ_ _ h=>h,λ_ _ _ h=>h⟩
theorem Gen.fresh{p:af}(hp:H p=aq):Gen K M (λb=>M b \/ b=p) H H:=
 ⟨λa o e _ m=>⟨e,λz=>z.elim m λz=>by rw[z,hp] at e;cases e⟩,λ_ _ h=>h,λ_ _ h=>h,λ_ _ _ h=>h⟩
theorem Gen.trans(a:Gen K M M' H H')(b:Gen K M' M'' H' H''):Gen K M M'' H H'':=
 ⟨λc o e mu m=>b.l c o (a.l c o e mu m).1 mu (a.l c o e mu m).2,λc xs h=>b.t c xs (a.t c xs h),λc ns h=>b.s c ns (a.s c ns h),λc o u h=>b.x c o u (a.x c o u h)⟩
theorem AV{p:af}{u:HO}(mu:DC (H p))(e:H a=aa u)(n:¬DC (aa u)):a≠p:=λz=>by
 subst z;rw[e] at mu;exact n mu
theorem Gen.write{p:af}(hM:M p)(mu:DC (H p)):Gen K M M H (upd H p o):=by
 refine⟨λa u e _ m=>⟨?_,m⟩,λa xs h=>?_,λa ns h=>?_,λa o u h=>by rw[aQ (AV mu h λz=>z)];exact h⟩
 ·rw[aQ λz=>m (by rw[z];exact hM)];exact e
 ·rw[aQ (AV mu h λz=>z)];exact h
 ·rcases h with⟨u,h⟩ | h
  ·exact .inl ⟨u,by rw[aQ (AV mu h λz=>z)];exact h⟩
  ·exact .inr h
end
theorem Rep.mono{x:V}{d:Dv}(S:aI H H')(h:Rep K M H x d):Rep K M H' x d:=h.gen (.mono S)
theorem Rep.weak{x:V}{d:Dv}(w:∀a,M' a->M a)(h:Rep K M H x d):Rep K M' H x d:=h.gen (.weak w)
theorem Reps.mono{xs:List V}{ds:List Dv}(S:aI H H')(h:Reps K M H xs ds):Reps K M H' xs ds:=h.gen (.mono S)
theorem Reps.weak{xs:List V}{ds:List Dv}(w:∀a,M' a->M a)(h:Reps K M H xs ds):Reps K M' H xs ds:=h.gen (.weak w)
theorem dP{d:Dv}(f:flatDs (d::ds)=ai):hW d=ai/\flatDs ds=ai:=by
 have f':(hW d&&flatDs ds)=ai:=f;rwa[cf] at f'
theorem Rep.flat{x:V}{d:Dv}(f:hW d=ai)(r:Rep K M H x d):Rep K M' H x d:=
 Rep.rec (motive_1:=λx d _=>hW d=ai->Rep K M' H x d) (motive_2:=λxs ds _=>flatDs ds=ai->Reps K M' H xs ds) (motive_3:=λ_ _ _=>True) (motive_4:=λ_ _ _=>True) (motive_5:=λ_ _ _=>True)
  (λ_=>.non) (λb _=>.bl b) (λi _=>.int i) (λx _=>.str x) (λh _ ih f=>.tup h (ih (by rw[hW] at f;exact f))) (λ_ _ _ _ f=>by simp[hW] at f) (λ_ _ _ _ f=>by simp[hW] at f) (λ_ _ _ _ f=>by simp[hW] at f)
  (λ_ _ _ _ f=>by simp[hW] at f) (λh _=>.scr h) (λh _=>.exc h) (λ_ _ f=>by simp[hW] at f) (λ_=>.nil) (λ_ _ a r f=>.cons (a (dP f).1) (r (dP f).2)) trivial (λ_ _ _ _=>trivial) trivial (λ_ _ _ _=>trivial) trivial (λ_ _ _ _=>trivial) r f
theorem Reps.flat{xs:List V}{ds:List Dv}(f:flatDs ds=ai)(r:Reps K M H xs ds):Reps K M' H xs ds:=
 r.ind (P:=λxs ds=>flatDs ds=ai->Reps K M' H xs ds) (λ_=>.nil) (λ_ _ _ _ a _ ih f=>.cons (a.flat (dP f).1) (ih (dP f).2)) f
theorem RepF.flat{xs:List (bf×V)}{ds:List (bf×Dv)}(f:flatDs (ds.map (·.2))=ai)(r:RepF K M H xs ds):RepF K M' H xs ds:=
 r.ind (P:=λxs ds=>flatDs (ds.map (·.2))=ai->RepF K M' H xs ds) (λ_=>.nil) (λ_ _ _ _ _ a _ ih f=>.cons (a.flat (dP f).1) (ih (dP f).2)) f
theorem RepK.flat{xs:List (bI×V)}{ds:List (bI×Dv)}(f:flatDs (ds.map (·.2))=ai)(r:RepK K M H xs ds):RepK K M' H xs ds:=
 r.ind (P:=λxs ds=>flatDs (ds.map (·.2))=ai->RepK K M' H xs ds) (λ_=>.nil) (λ_ _ _ _ _ a _ ih f=>.cons (a.flat (dP f).1) (ih (dP f).2)) f
theorem RepT.flat{xs:List (List bI×V)}{ds:List (List bI×Dv)}(f:flatDs (ds.map (·.2))=ai)(r:RepT K M H xs ds):RepT K M' H xs ds:=
 r.ind (P:=λxs ds=>flatDs (ds.map (·.2))=ai->RepT K M' H xs ds) (λ_=>.nil) (λ_ _ _ _ _ a _ ih f=>.cons (a.flat (dP f).1) (ih (dP f).2)) f
theorem Reps.length{xs:List V}{ds:List Dv}(r:Reps K M H xs ds):xs.length=ds.length:=r.ind (P:=λxs ds=>xs.length=ds.length) rfl λ_ _ _ _ _ _ ih=>congrArg (· + 1) ih
theorem Reps.append{ys:List V}{es:List Dv}(r:Reps K M H xs ds)(s:Reps K M H ys es):Reps K M H (xs++ys) (ds++es):=r.ind (P:=λxs ds=>Reps K M H (xs++ys) (ds++es)) s λ_ _ _ _ a _ ih=>.cons a ih
theorem Reps.get{d:Dv}(r:Reps K M H xs ds)(e:ds[i]?=aa d):∃x,xs[i]?=aa x/\Rep K M H x d:=
 r.ind (P:=λxs ds=>∀i,ds[i]?=aa d -> ∃x,xs[i]?=aa x/\Rep K M H x d) (λi e=>by rw[List.getElem?_nil] at e;cases e) (λx y xs ys a _ ih i e=>by
  cases i with
  |zero=>rw[List.getElem?_cons_zero] at e;cases e;exact⟨x,rfl,a⟩
  |succ i=>exact ih i e) i e
theorem Reps.take{xs:List V}{ds:List Dv}(n:Nat)(r:Reps K M H xs ds):Reps K M H (xs.take n) (ds.take n):=
 r.ind (P:=λxs ds=>∀n,Reps K M H (xs.take n) (ds.take n)) (λn=>by cases n<;>exact .nil) (λ_ _ _ _ a r ih n=>by cases n with
  |zero=>exact .nil
  |succ n=>exact .cons a (ih n)) n
theorem Reps.drop{xs:List V}{ds:List Dv}(n:Nat)(r:Reps K M H xs ds):Reps K M H (xs.drop n) (ds.drop n):=
 r.ind (P:=λxs ds=>∀n,Reps K M H (xs.drop n) (ds.drop n)) (λn=>by cases n<;>exact .nil) (λ_ _ _ _ a r ih n=>by cases n with
  |zero=>exact .cons a r
  |succ n=>exact ih n) n
theorem Reps.set{x:V}{d:Dv}(a:Rep K M H x d){xs:List V}{ds:List Dv}(n:Nat)(r:Reps K M H xs ds):Reps K M H (xs.set n x) (ds.set n d):=
 r.ind (P:=λxs ds=>∀n,Reps K M H (xs.set n x) (ds.set n d)) (λ_=>.nil) (λ_ _ _ _ b r ih n=>by cases n with
  |zero=>exact .cons a r
  |succ n=>exact .cons b (ih n)) n
theorem Reps.repl{xs:List V}{ds:List Dv}(h:Reps K M H xs ds):∀n:Nat,Reps K M H (bc n xs).flatten (bc n ds).flatten
 |0=>.nil
 |n+1=>by
  rw[kh,kh,oj,oj];exact h.append (Reps.repl h n)
theorem Reps.ints:∀ns:List Int,Reps K M H (ns.map V.int) (ns.map Dv.int)
 | []=>.nil
 |n::r=>.cons (.int n) (Reps.ints r)
noncomputable def dO(K:aj)(M:af->Prop)(H:Hp)(a:af):Dv->Prop
 | .lst ds=>∃xs,H a=aa (.lst xs)/\Reps K M H xs ds
 | .dik ds=>∃kvs,H a=aa (.dK kvs)/\RepK K M H kvs ds
 | .dit ds=>∃ep kvs,H a=aa (.dT ep kvs)/\RepT K M H kvs ds
 | .obj C ds=>∃dx fs,H a=aa (.ins C dx fs)/\RepF K M H fs ds
 | .dns ks=>Q9 H a ks
 |_=>False
noncomputable def FI:Dv->Bool
 | .lst ds=>flatDs ds
 | .dik ds=>flatDs (ds.map (·.2))
 | .dit ds=>flatDs (ds.map (·.2))
 | .obj _ ds=>flatDs (ds.map (·.2))
 | .dns _=>ai
 |_=>ao
theorem dO.gen{d:Dv}(G:Gen K M M' H H')(ha:∀o,H a=aa o->H' a=aa o)(h:dO K M H a d):dO K M' H' a d:=by
 cases d with
 |lst ds=>obtain⟨xs,e,r⟩:=h;exact⟨xs,ha _ e,r.gen G⟩
 |dik ds=>obtain⟨xs,e,r⟩:=h;exact⟨xs,ha _ e,r.gen G⟩
 |dit ds=>obtain⟨ep,xs,e,r⟩:=h;exact⟨ep,xs,ha _ e,r.gen G⟩
 |obj C ds=>obtain⟨dx,fs,e,r⟩:=h;exact⟨dx,fs,ha _ e,r.gen G⟩
 |dns ks=>obtain⟨xs,e,k,t⟩:=h;exact⟨xs,ha _ e,k,λx hx=>(t x hx).gen G.t⟩
 |_=>exact h.elim
theorem dO.mono{d:Dv}(S:aI H H')(h:dO K M H a d):dO K M H' a d:=h.gen (.mono S) λo e=>S _ _ e
theorem dO.weak{d:Dv}(w:∀a,M' a->M a)(h:dO K M H a d):dO K M' H a d:=h.gen (.weak w) λ_ e=>e
theorem dO.flat{d:Dv}(f:FI d=ai)(h:dO K M H a d):dO K M' H a d:=by
 cases d with
 |lst ds=>obtain⟨xs,e,r⟩:=h;exact⟨xs,e,r.flat f⟩
 |dik ds=>obtain⟨xs,e,r⟩:=h;exact⟨xs,e,r.flat f⟩
 |dit ds=>obtain⟨ep,xs,e,r⟩:=h;exact⟨ep,xs,e,r.flat f⟩
 |obj C ds=>obtain⟨dx,fs,e,r⟩:=h;exact⟨dx,fs,e,r.flat f⟩
 |dns ks=>exact h
 |_=>exact h.elim
theorem dO.mut{d:Dv}(h:dO K M H a d):∃o,H a=aa o/\DC (aa o):=by
 cases d with
 |lst ds=>obtain⟨xs,e,r⟩:=h;exact⟨_,e,trivial⟩
 |dik ds=>obtain⟨xs,e,r⟩:=h;exact⟨_,e,trivial⟩
 |dit ds=>obtain⟨ep,xs,e,r⟩:=h;exact⟨_,e,trivial⟩
 |obj C ds=>obtain⟨dx,fs,e,r⟩:=h;exact⟨_,e,trivial⟩
 |dns ks=>obtain⟨xs,e,_⟩:=h;exact⟨_,e,trivial⟩
 |_=>exact h.elim
theorem dO.rep{d:Dv}(h:dO K M H a d)(m:¬M a):Rep K M H (.ref a) d:=by
 cases d with
 |lst ds=>obtain⟨xs,e,r⟩:=h;exact .lst e m r
 |dik ds=>obtain⟨xs,e,r⟩:=h;exact .dik e m r
 |dit ds=>obtain⟨ep,xs,e,r⟩:=h;exact .dit e m r
 |obj C ds=>obtain⟨dx,fs,e,r⟩:=h;exact .obj e m r
 |dns ks=>exact .dns h m
 |_=>exact h.elim
inductive Sl where
 |un
 |v (d:Dv)
 |own (a:af) (d:Dv)
noncomputable def MM(F:af->Prop)(ρ:List Sl):af->Prop:=λa=>F a \/ ∃d,Sl.own a d∈ρ
noncomputable def uJ(K:aj)(M:af->Prop)(H:Hp)(o:Option (Option V)):Sl->Prop
 | .un=>True
 | .v d=>∃x,o=aa (aa x)/\Rep K M H x d
 | .own a d=>o=aa (aa (.ref a))/\dO K M H a d
noncomputable abbrev Lg:Bool:=ao
noncomputable def K9(K:aj)(P:af)(q:bf):Prop:=Lg=ai /\ ∃(C f:af) (o:ac) (od:Option af) (fd:fv) (sl:Array (Option ac)) (c:af) (oc:ac) (odc:Option af) (vs:Array ac) (slc:Array (Option ac)),
 W.nsIn K ft "Sides" = aa (aa (.ref C))/\kf K (.ref C) "last" = aa (aa (.ref f))/\K.lookup f=aa ⟨o,od,.func fd,sl⟩/\fd.code=.ref c/\K.lookup c=aa ⟨oc,odc,.fields vs,slc⟩/\vs[11]?=aa (.ref P) /\
 q = "Sides.last" ++ ".<locals>." ++ "<lambda>"
noncomputable def vC(K:aj)(H:Hp):Prop:=∀P q,K9 K P q->H P=aa (.lam q)
structure OldF(K:aj)(F:af->Prop)(HZ:Hp):Prop where
 f:∀a,F a->HZ a≠aq
 t:vC K HZ
theorem vC.mono(t:vC K H)(S:aI H H'):vC K H':=λP q z=>S _ _ (t P q z)
structure Fr(K:aj)(HZ:Hp)(F:af->Prop)(σ:St)(H:Hp)(ρ:List Sl):Prop where
 len:σ.length=ρ.length
 sl:∀(i:Nat) (s:Sl),ρ[i]?=aa s->uJ K (MM F ρ) H σ[i]? s
 nd:∀(i j:Nat) (a:af) (d d':Dv),ρ[i]?=aa (.own a d)->ρ[j]?=aa (.own a d')->i=j
 new:∀(a:af) (d:Dv),Sl.own a d∈ρ->HZ a=aq
 same:aI HZ H
 old:OldF K F HZ
variable {σ:St}{ρ:List Sl}
theorem uJ.mono{o:Option (Option V)}{s:Sl}(S:aI H H')(h:uJ K M H o s):uJ K M H' o s:=by
 cases s with
 |un=>trivial
 |v d=>obtain⟨x,e,r⟩:=h;exact⟨x,e,r.mono S⟩
 |own a d=>exact⟨h.1,h.2.mono S⟩
theorem uJ.weak{o:Option (Option V)}{s:Sl}(w:∀a,M' a->M a)(h:uJ K M H o s):uJ K M' H o s:=by
 cases s with
 |un=>trivial
 |v d=>obtain⟨x,e,r⟩:=h;exact⟨x,e,r.weak w⟩
 |own a d=>exact⟨h.1,h.2.weak w⟩
theorem Fr.tab(fr:Fr K HZ F σ H ρ):vC K H:=fr.old.t.mono fr.same
theorem Fr.mono(fr:Fr K HZ F σ H ρ)(S:aI H H'):Fr K HZ F σ H' ρ:=⟨fr.len,λi s e=>(fr.sl i s e).mono S,fr.nd,fr.new,fr.same.trans S,fr.old⟩
theorem Fr.at_own(fr:Fr K HZ F σ H ρ){d:Dv}(h:Sl.own a d∈ρ):∃i:Nat,ρ[i]?=aa (.own a d)/\σ[i]?=aa (aa (.ref a))/\dO K (MM F ρ) H a d:=by
 obtain⟨i,e⟩:=jb.mp h;have:=fr.sl i _ e;exact⟨i,e,this.1,this.2⟩
theorem Fr.dom(fr:Fr K HZ F σ H ρ)(m:MM F ρ a):H a≠aq:=by
 rcases m with m | ⟨d,m⟩
 ·intro e;exact fr.old.f a m (fr.same.free e)
 ·obtain⟨_,_,_,o⟩:=fr.at_own m;obtain⟨u,e,_⟩:=o.mut;rw[e];simp
theorem Fr.fresh(fr:Fr K HZ F σ H ρ)(e:H a=aq):¬MM F ρ a:=λm=>fr.dom m e
inductive R where
 |v (d:Dv)
 |ow (a:af) (d:Dv)
 |nw (d:Dv)
noncomputable def R.d:R->Dv
 | .v d=>d
 | .ow _ d=>d
 | .nw d=>d
noncomputable def R.free:R->Bool
 | .ow _ _=>ao
 |_=>ai
noncomputable def uK(ρ:List Sl):af->Dv->Prop:=λa d=>Sl.own a d∈ρ
noncomputable def vE:af->Dv->Prop:=λ_ _=>False
noncomputable def d5(K:aj)(M:af->Prop)(O:af->Dv->Prop)(H:Hp)(x:V)(r:R)(H':Hp):Prop:=match r with
 | .v d=>Rep K M H' x d
 | .ow a d=>x=.ref a/\O a d/\dO K M H' a d
 | .nw d=>∃a,x=.ref a/\H a=aq/\dO K (λb=>M b \/ b=a) H' a d
noncomputable def dG(K:aj)(M:af->Prop)(H:Hp)(x:V)(d:Dv):Prop:=Rep K M H x d \/ ∃a,x=.ref a/\dO K M H a d
section
variable {K:aj}{M M':af->Prop}{O:af->Dv->Prop}{H H' H'':Hp}{x:V}{r:R}
theorem d5.mono(h:d5 K M O H x r H')(S:aI H' H''):d5 K M O H x r H'':=by
 cases r with
 |v d=>exact Rep.mono S h
 |ow a d=>exact⟨h.1,h.2.1,h.2.2.mono S⟩
 |nw d=>obtain⟨a,e,n,o⟩:=h;exact⟨a,e,n,o.mono S⟩
theorem d5.ahead(h:d5 K M O H1 x r H')(S:aI H H1):d5 K M O H x r H':=by
 cases r with
 |v d=>exact h
 |ow a d=>exact h
 |nw d=>obtain⟨a,e,n,o⟩:=h;exact⟨a,e,S.free n,o⟩
theorem d5.c(h:d5 K M O H x r H'):dG K M H' x r.d:=by
 cases r with
 |v d=>exact .inl h
 |ow a d=>exact .inr ⟨a,h.1,h.2.2⟩
 |nw d=>obtain⟨a,e,n,o⟩:=h;exact .inr ⟨a,e,o.weak λb z=>.inl z⟩
theorem d5.rep(h:d5 K M O H x r H')(hM:∀a,M a->H a≠aq)(f:r.free=ai):Rep K M H' x r.d:=by
 cases r with
 |v d=>exact h
 |ow a d=>simp[R.free] at f
 |nw d=>
  obtain⟨a,e,n,o⟩:=h;subst e;exact(o.weak λb z=>.inl z).rep λz=>hM a z n
theorem dG.lst{ds:List Dv}(h:dG K M H x (.lst ds)):∃a xs,x=.ref a/\H a=aa (.lst xs)/\Reps K M H xs ds:=by
 rcases h with h | ⟨a,e,xs,h1,h2⟩
 ·cases h with
  |lst h1 _ h2=>exact⟨_,_,rfl,h1,h2⟩
 ·exact⟨a,xs,e,h1,h2⟩
theorem dG.tup{ds:List Dv}(h:dG K M H x (.tup ds)):∃a xs,x=.ref a/\H a=aa (.tup xs)/\Reps K M H xs ds:=by
 rcases h with h | ⟨a,e,o⟩
 ·cases h with
  |tup h1 h2=>exact⟨_,_,rfl,h1,h2⟩
 ·exact o.elim
theorem dG.int{i:Int}(h:dG K M H x (.int i)):x=.int i:=by
 rcases h with h | ⟨a,e,o⟩
 ·cases h;rfl
 ·exact o.elim
theorem dG.bl{b:Bool}(h:dG K M H x (.bl b)):x=.bl b:=by
 rcases h with h | ⟨a,e,o⟩
 ·cases h;rfl
 ·exact o.elim
theorem dG.non(h:dG K M H x .non):x=.non:=by
 rcases h with h | ⟨a,e,o⟩
 ·cases h;rfl
 ·exact o.elim
theorem dG.str{s:bf}(h:dG K M H x (.str s)):x=.str s:=by
 rcases h with h | ⟨a,e,o⟩
 ·cases h;rfl
 ·exact o.elim
theorem dG.scr{ns:List Int}(h:dG K M H x (.scr ns)):∃a,x=.ref a/\Hq K H a ns:=by
 rcases h with h | ⟨a,e,o⟩
 ·cases h with
  |scr h=>exact⟨_,rfl,h⟩
 ·exact o.elim
theorem dG.dik{ds:List (bI×Dv)}(h:dG K M H x (.dik ds)):∃a kvs,x=.ref a/\H a=aa (.dK kvs)/\RepK K M H kvs ds:=by
 rcases h with h | ⟨a,e,xs,h1,h2⟩
 ·cases h with
  |dik h1 _ h2=>exact⟨_,_,rfl,h1,h2⟩
 ·exact⟨a,xs,e,h1,h2⟩
theorem dG.dit{ds:List (List bI×Dv)}(h:dG K M H x (.dit ds)):∃a ep kvs,x=.ref a/\H a=aa (.dT ep kvs)/\RepT K M H kvs ds:=by
 rcases h with h | ⟨a,e,ep0,xs,h1,h2⟩
 ·cases h with
  |dit h1 _ h2=>exact⟨_,_,_,rfl,h1,h2⟩
 ·exact⟨a,ep0,xs,e,h1,h2⟩
theorem dG.obj{C:af}{ds:List (bf×Dv)}(h:dG K M H x (.obj C ds)):∃a dx fs,x=.ref a/\H a=aa (.ins C dx fs)/\RepF K M H fs ds:=by
 rcases h with h | ⟨a,e,dx,fs,h1,h2⟩
 ·cases h with
  |obj h1 _ h2=>exact⟨_,_,_,rfl,h1,h2⟩
 ·exact⟨a,dx,fs,e,h1,h2⟩
end
noncomputable abbrev cQ:=List Sl->(R->Prop)->Prop
noncomputable abbrev iY:=List Sl->(List R->Prop)->Prop
noncomputable abbrev jZ:=List Sl->(Bool->Prop)->Prop
noncomputable def iW(K:aj)(M:af->Prop)(O:af->Dv->Prop)(H:Hp)(xs:List V)(rs:List R)(H':Hp):Prop:=Paired (λx r=>d5 K M O H x r H') xs rs
noncomputable def zZ(K:aj)(M:af->Prop)(H:Hp):List V->List Dv->Prop:=Paired (dG K M H)
variable {O:af->Dv->Prop}
theorem iW.ahead{xs:List V}{rs:List R}(h:iW K M O H1 xs rs H')(S:aI H H1):iW K M O H xs rs H':=Paired.mapP h λ_ _ q=>q.ahead S
theorem iW.c:∀{xs:List V} {rs:List R},iW K M O H xs rs H'->zZ K M H' xs (rs.map R.d)
 |_,_,.nil=>.nil
 |_,_,.cons a t=>.cons a.c (iW.c t)
theorem iW.reps(hM:∀a,M a->H a≠aq):∀{xs:List V} {rs:List R},iW K M O H xs rs H'->rs.all R.free=ai->Reps K M H' xs (rs.map R.d)
 |_,_,.nil,_=>.nil
 |_,_,.cons a t,f=>by
  rw[Rm,cf] at f;exact .cons (a.rep hM f.1) (iW.reps hM t f.2)
inductive lift(K:aj)(HZ:Hp)(F:af->Prop)(t:cQ)(σ:St)(H:Hp)(Q:VK):Prop
 |mk (ρ:List Sl) (fr:Fr K HZ F σ H ρ) (h:t ρ λr=>∀x H',aI H H'->d5 K (MM F ρ) (uK ρ) H x r H'->Q x H')
inductive liftA(K:aj)(HZ:Hp)(F:af->Prop)(t:iY)(σ:St)(H:Hp)(Q:List V->Hp->Prop):Prop
 |mk (ρ:List Sl) (fr:Fr K HZ F σ H ρ) (h:t ρ λrs=>∀xs H',aI H H'->iW K (MM F ρ) (uK ρ) H xs rs H'->Q xs H')
inductive liftT(K:aj)(HZ:Hp)(F:af->Prop)(t:jZ)(σ:St)(H:Hp)(Q:Bool->Hp->Prop):Prop
 |mk (ρ:List Sl) (fr:Fr K HZ F σ H ρ) (h:t ρ λb=>∀H',aI H H'->Q b H')
structure QE(X:Cx)(e:Expr)(t:cQ):Prop where
 mono:∀(ρ:List Sl) (Q Q':R->Prop),(∀r,Q r->Q' r)->t ρ Q->t ρ Q'
 run:∀(HZ:Hp) (F:af->Prop),PE X e (lift X.K HZ F t)
structure QA(X:Cx)(es:List Expr)(t:iY):Prop where
 mono:∀(ρ:List Sl) (Q Q':List R->Prop),(∀r,Q r->Q' r)->t ρ Q->t ρ Q'
 run:∀(HZ:Hp) (F:af->Prop),PA X es (liftA X.K HZ F t)
structure QT(X:Cx)(e:Expr)(t:jZ):Prop where
 mono:∀(ρ:List Sl) (Q Q':Bool->Prop),(∀r,Q r->Q' r)->t ρ Q->t ρ Q'
 run:∀(HZ:Hp) (F:af->Prop),PT X e (liftT X.K HZ F t)
structure QW(X:Cx)(e:Expr)(t:jZ):Prop where
 mono:∀(ρ:List Sl) (Q Q':Bool->Prop),(∀r,Q r->Q' r)->t ρ Q->t ρ Q'
 run:∀(HZ:Hp) (F:af->Prop),PW X e (liftT X.K HZ F t)
variable {t':TT}{op:xb}{SW:List Expr}{ta te:cQ}{ts:iY}
section
variable {a b c:Expr}{tb tc:cQ}
theorem bX{t t':TE}(h:PE X e t)(w:∀σ H Q,t' σ H Q->t σ H Q):PE X e t':=λpj s σ H Q I q=>h pj s σ H Q I (w σ H Q q)
theorem Fo{t t':TA}(h:PA X es t)(w:∀σ H Q,t' σ H Q->t σ H Q):PA X es t':=λpos pj s σ H Q I q=>h pos pj s σ H Q I (w σ H Q q)
theorem x8{t:TT}(h:PT X e t)(w:∀σ H Q,t' σ H Q->t σ H Q):PT X e t':=λpj s σ H Q I q=>h pj s σ H Q I (w σ H Q q)
theorem Fk{t:TT}(h:PW X e t)(w:∀σ H Q,t' σ H Q->t σ H Q):PW X e t':=λwh pj s σ H Q I q=>h wh pj s σ H Q I (w σ H Q q)
theorem QW.qt{t:jZ}(h:QW X e t):QT X e t:=⟨h.mono,λHZ F=>(h.run HZ F).pt⟩
theorem QE.step{Q:R->Prop}{Q':VK}(h:QE X e te)(fr:Fr X.K HZ F σ H ρ)(q:te ρ Q)
  (k:∀r x H',Q r->aI H H'->d5 X.K (MM F ρ) (uK ρ) H x r H'->Q' x H'):lift X.K HZ F te σ H Q':=⟨ρ,fr,h.mono _ _ _ (λr qr x H' S rx=>k r x H' qr S rx) q⟩
theorem QA.step{Q:List R->Prop}{Q':List V->Hp->Prop}(h:QA X es ts)(fr:Fr X.K HZ F σ H ρ)(q:ts ρ Q)
  (k:∀rs xs H',Q rs->aI H H'->iW X.K (MM F ρ) (uK ρ) H xs rs H'->Q' xs H'):liftA X.K HZ F ts σ H Q':=⟨ρ,fr,h.mono _ _ _ (λr qr x H' S rx=>k r x H' qr S rx) q⟩
theorem QT.step{t:jZ}{Q:Bool->Prop}{Q':Bool->Hp->Prop}(h:QT X e t)(fr:Fr X.K HZ F σ H ρ)(q:t ρ Q)
  (k:∀b H',Q b->aI H H'->Q' b H'):liftT X.K HZ F t σ H Q':=⟨ρ,fr,h.mono _ _ _ (λr qr H' S=>k r H' qr S) q⟩
noncomputable def a8(i:Nat):cQ:=λρ Q=>match ρ[i]? with
 |some (.v d)=>Q (.v d)
 |some (.own a d)=>Q (.ow a d)
 |_=>False
theorem a7(i:Nat){x:bf}(h:PE X (.Name x pos) (rC i)):QE X (.Name x pos) (a8 i):=by
 refine⟨λρ Q Q' w h=>?_,λHZ F=>bX h λσ H Q ⟨ρ,fr,q⟩=>?_⟩
 ·unfold a8 at *;split at h
  ·exact w _ h
  ·exact w _ h
  ·exact h
 ·unfold a8 at q;split at q
  ·rename_i d e;obtain⟨x,hx,r⟩:=fr.sl i _ e;exact⟨x,hx,q x H (aI.refl _) r⟩
  ·rename_i a d e;obtain⟨hx,r⟩:=fr.sl i _ e;exact⟨.ref a,hx,q _ H (aI.refl _) ⟨rfl,cq e,r⟩⟩
  ·exact q.elim
noncomputable def eC(d:Dv):cQ:=λ_ Q=>Q (.v d)
theorem L7{v:V}{d:Dv}(h:PE X e (tC v))(r:∀M H,Rep X.K M H v d):QE X e (eC d):=
 ⟨λ_ _ _ w q=>w _ q,λHZ F=>bX h λσ H Q zq0=>by obtain⟨ρ,fr,q⟩:=zq0;exact q v H (aI.refl _) (r _ _)⟩
theorem aH{i j pos}:QE X (.Constant (.int i) j pos) (eC (.int i)):=L7 JB λ_ _=>.int i
theorem jC{b j pos}:QE X (.Constant (.bool b) j pos) (eC (.bl b)):=L7 LH λ_ _=>.bl b
theorem lI{j pos}:QE X (.Constant .none j pos) (eC .non):=L7 EA λ_ _=>.non
theorem jQ{x j pos}:QE X (.Constant (.str x) j pos) (eC (.str x)):=L7 J7 λ_ _=>.str x
theorem oY{x:bf}{n:Int}(hm:∃t,X.mg x=aa (.int n t))(hg:autoParam (Gl X x) b7._auto_1)(hd:autoParam ((x==("__debug__" : bf))=ao) hG._auto_1):QE X (.Name x pos) (eC (.int n)):=L7 (EE hm hg hd) λ_ _=>.int n
noncomputable def aF:iY:=λ_ Q=>Q []
noncomputable def a9(te:cQ)(ts:iY):iY:=λρ Q=>te ρ λr=>ts ρ λrs=>Q (r::rs)
theorem aD:QA X [] aF:=⟨λ_ _ _ w q=>w _ q,λHZ F=>Fo qA λσ H Q zq1=>by obtain⟨ρ,fr,q⟩:=zq1;exact q [] H (aI.refl _) .nil⟩
theorem aA(ha:QE X e te)(hr:QA X es ts)(hs:autoParam (au (e::es) X.env=(ao,di e X.env)::au es X.env) b7._auto_1):QA X (e::es) (a9 te ts):=by
 refine⟨λρ Q Q' w h=>ha.mono _ _ _ (λr q=>hr.mono _ _ _ (λrs q=>w _ q) q) h,λHZ F=>Fo (kE (ha.run HZ F) (hr.run HZ F) hs) λσ H Q zz=>?_⟩;obtain⟨ρ,fr,q⟩:=zz;refine ha.step fr q λr x H1 q1 S1 r1=>?_;refine hr.step (fr.mono S1) q1 λrs xs H2 q2 S2 r2=>?_;exact q2 _ H2 (S1.trans S2) (.cons (r1.mono S2) (r2.ahead S1))
noncomputable def tV(X:Cx)(f:ac->ac->R5 ac)(p:Dv->Dv->(R->Prop)->Prop):Prop:=
 (∀dx dy (Q Q':R->Prop),(∀r,Q r->Q' r)->p dx dy Q->p dx dy Q') /\ ∃r:R2,iA X f r /\ ∀(M:af->Prop) (O:af->Dv->Prop) (H:Hp) (x y:V) (dx dy:Dv) (Q:VK),dG X.K M H x dx->dG X.K M H y dy ->
  p dx dy (λrr=>∀z H',aI H H'->d5 X.K M O H z rr H'->Q z H')->r x y H Q
noncomputable def aL(p:Dv->Dv->(R->Prop)->Prop)(ta tb:cQ):cQ:=λρ Q=>ta ρ λx=>tb ρ λy=>p x.d y.d Q
theorem rZ{p:Dv->Dv->(R->Prop)->Prop}{r:R2}(ha:QE X a ta)(hb:QE X b tb) (hr:∀(M:af->Prop) (O:af->Dv->Prop) (H:Hp) (x y:V) (dx dy:Dv) (Q:VK),dG X.K M H x dx->dG X.K M H y dy ->
  p dx dy (λrr=>∀z H',aI H H'->d5 X.K M O H z rr H'->Q z H')->r x y H Q) (mo:∀dx dy (Q Q':R->Prop),(∀r,Q r->Q' r)->p dx dy Q->p dx dy Q') (HZ:Hp) (F:af->Prop) (σ:St) (H:Hp) (Q:VK)
  (h:lift X.K HZ F (aL p ta tb) σ H Q):KZ r (lift X.K HZ F ta) (lift X.K HZ F tb) σ H Q:=by
 obtain⟨ρ,fr,q⟩:=h;refine ha.step fr q λrx x H1 q1 S1 r1=>?_;refine hb.step (fr.mono S1) q1 λry y H2 q2 S2 r2=>?_;refine hr (MM F ρ) (uK ρ) H2 x y _ _ Q (r1.mono S2).c r2.c (mo _ _ _ _ (λrr k z H' S rz=>?_) q2);exact k z H' ((S1.trans S2).trans S) (rz.ahead (S1.trans S2))
theorem pG{p:Dv->Dv->(R->Prop)->Prop}(ha:QE X a ta)(hb:QE X b tb)(mo:∀dx dy (Q Q':R->Prop),(∀r,Q r->Q' r)->p dx dy Q->p dx dy Q')(ρ:List Sl)(Q Q':R->Prop)(w:∀r,Q r->Q' r)(h:aL p ta tb ρ Q):aL p ta tb ρ Q':=
 ha.mono _ _ _ (λrx h=>hb.mono _ _ _ (λry h=>mo _ _ _ _ w h) h) h
theorem bF{op:ue}{p:Dv->Dv->(R->Prop)->Prop}(ho:tV X (gn op) p)(ha:QE X a ta)(hb:QE X b tb):QE X (.BinOp a op b pos) (aL p ta tb):=by
 obtain⟨mo,r,hR,hr⟩:=ho;exact⟨pG ha hb mo,λHZ F=>bX (LF hR (ha.run HZ F) (hb.run HZ F)) (rZ ha hb hr mo HZ F)⟩
theorem mV{p:Dv->Dv->(R->Prop)->Prop}(ho:tV X (cj op) p)(ha:QE X a ta)(hb:QE X b tb)(hm:autoParam (lg op b=ao) Pe._auto_1):QE X (.Compare a [op] [b] pos) (aL p ta tb):=by
 obtain⟨mo,r,hR,hr⟩:=ho;exact⟨pG ha hb mo,λHZ F=>bX (BL hR (ha.run HZ F) (hb.run HZ F) hm) (rZ ha hb hr mo HZ F)⟩
noncomputable def b6(te:cQ):jZ:=λρ Q=>te ρ λr=>match r.d with
 | .bl c=>Q c
 |_=>False
theorem tM(mo:∀(ρ:List Sl) (Q Q':R->Prop),(∀r,Q r->Q' r)->te ρ Q->te ρ Q')(ρ:List Sl)(Q Q':Bool->Prop)(w:∀r,Q r->Q' r)(h:b6 te ρ Q):b6 te ρ Q':=by
 refine mo _ _ _ (λr q=>?_) h;split at q
 ·exact w _ q
 ·exact q.elim
theorem FQ{Q:Bool->Hp->Prop}(mo:∀(ρ:List Sl) (Q Q':R->Prop),(∀r,Q r->Q' r)->te ρ Q->te ρ Q')(h:liftT X.K HZ F (b6 te) σ H Q):lift X.K HZ F te σ H λx H'=>∃k,x=.bl k/\Q k H':=by
 obtain⟨ρ,fr,q⟩:=h;refine⟨ρ,fr,mo _ _ _ (λr q x H' S rx=>?_) q⟩;split at q
 ·rename_i c e;have:=rx.c;rw[e] at this;exact⟨c,this.bl,q H' S⟩
 ·exact q.elim
theorem b8{p:Dv->Dv->(R->Prop)->Prop}(ho:tV X (cj op) p)(ha:QE X a ta)(hb:QE X b tb)(hm:autoParam (lg op b=ao) Pe._auto_1):QT X (.Compare a [op] [b] pos) (b6 (aL p ta tb)):=by
 obtain⟨mo,r,hR,hr⟩:=ho;have m1:=pG ha hb mo;exact⟨tM m1,λHZ F=>x8 (GN hR (ha.run HZ F) (hb.run HZ F) hm) λσ H Q h=>rZ ha hb hr mo HZ F σ H _ (FQ m1 h)⟩
noncomputable def uC(t u:jZ):jZ:=λρ Q=>t ρ λc=>if c=ai then u ρ Q else Q ao
noncomputable def rY(t u:jZ):jZ:=λρ Q=>t ρ λc=>if c=ai then Q ai else u ρ Q
noncomputable def i6(t:jZ):jZ:=λρ Q=>t ρ λc=>Q (!c)
theorem kA{t:jZ}(h:QT X a t):QW X (.BoolOp .And [a] pos) t:=⟨h.mono,λHZ F=>GK (h.run HZ F)⟩
theorem gF{t:jZ}(h:QT X a t):QW X (.BoolOp .Or [a] pos) t:=⟨h.mono,λHZ F=>Ip (h.run HZ F)⟩
theorem nF{t u:jZ}(h:QT X a t)(k:QW X (.BoolOp .And (b::SW) pos) u):QW X (.BoolOp .And (a::b::SW) pos) (uC t u):=by
 refine⟨λρ Q Q' w q=>h.mono _ _ _ (λc q=>?_) q,λHZ F=>Fk (Iq (h.run HZ F) (k.run HZ F)) λσ H Q ⟨ρ,fr,q⟩=>?_⟩
 ·split at q
  ·rw[SS ‹_›];exact k.mono _ _ _ w q
  ·rw[Sm ‹_›];exact w _ q
 ·refine h.step fr q λc H1 q1 S1=>?_;cases c with
  |true=>
   simp only[if_true] at q1;exact iO ⟨ρ,fr.mono S1,k.mono _ _ _ (λb q H' S=>q H' (S1.trans S)) q1⟩
  |false=>
   simp only[dw,if_false] at q1;exact iP (q1 H1 S1)
theorem fB{t u:jZ}(h:QT X a t)(k:QW X (.BoolOp .Or (b::SW) pos) u):QW X (.BoolOp .Or (a::b::SW) pos) (rY t u):=by
 refine⟨λρ Q Q' w q=>h.mono _ _ _ (λc q=>?_) q,λHZ F=>Fk (L9 (h.run HZ F) (k.run HZ F)) λσ H Q ⟨ρ,fr,q⟩=>?_⟩
 ·split at q
  ·rw[SS ‹_›];exact w _ q
  ·rw[Sm ‹_›];exact k.mono _ _ _ w q
 ·refine h.step fr q λc H1 q1 S1=>?_;cases c with
  |true=>
   simp only[if_true] at q1;exact iO (q1 H1 S1)
  |false=>
   simp only[dw,if_false] at q1;exact iP ⟨ρ,fr.mono S1,k.mono _ _ _ (λb q H' S=>q H' (S1.trans S)) q1⟩
theorem d9{t:jZ}(h:QT X a t):QT X (.UnaryOp .Not a pos) (i6 t):=
 ⟨λρ Q Q' w q=>h.mono _ _ _ (λc q=>w _ q) q,λHZ F=>x8 (Iv (h.run HZ F)) λσ H Q zq2=>by obtain⟨ρ,fr,q⟩:=zq2;exact h.step fr q λc H1 q1 S1=>q1 H1 S1⟩
noncomputable def mY(ta tb:cQ):cQ:=λρ Q=>ta ρ λr=>match r.d with
 | .bl c=>if c=ai then tb ρ Q else Q (.v (.bl ao))
 |_=>False
noncomputable def HV(ta tb:cQ):cQ:=λρ Q=>ta ρ λr=>match r.d with
 | .bl c=>if c=ai then Q (.v (.bl ai)) else tb ρ Q
 |_=>False
noncomputable def z7(ta:cQ):cQ:=λρ Q=>ta ρ λr=>match r.d with
 | .bl c=>Q (.v (.bl (!c)))
 |_=>False
theorem qS{op}(h:QE X a ta):QE X (.BoolOp op [a] pos) ta:=⟨h.mono,λHZ F=>J8 (h.run HZ F)⟩
theorem sU(h:QE X a ta)(k:QE X (.BoolOp .And (b::SW) pos) tb):QE X (.BoolOp .And (a::b::SW) pos) (mY ta tb):=by
 refine⟨λρ Q Q' w q=>h.mono _ _ _ (λc q=>?_) q,λHZ F=>bX (JE (h.run HZ F) (k.run HZ F)) λσ H Q ⟨ρ,fr,q⟩=>?_⟩
 ·split at q
  ·split at q
   ·rw[SS ‹_›];exact k.mono _ _ _ w q
   ·rw[Sm ‹_›];exact w _ q
  ·exact q
 ·refine h.step fr q λr x H1 q1 S1 r1=>?_;split at q1
  ·rename_i c e;have rc:=r1.c;rw[e] at rc;refine⟨c,rc.bl,?_⟩;cases c with
   |true=>
    simp only[if_true] at q1;exact iO ⟨ρ,fr.mono S1,k.mono _ _ _ (λb q z H' S rz=>q z H' (S1.trans S) (rz.ahead S1)) q1⟩
   |false=>
    simp only[dw,if_false] at q1;exact iP (q1 _ H1 S1 (Rep.bl ao))
  ·exact q1.elim
theorem O2(h:QE X a ta)(k:QE X (.BoolOp .Or (b::SW) pos) tb):QE X (.BoolOp .Or (a::b::SW) pos) (HV ta tb):=by
 refine⟨λρ Q Q' w q=>h.mono _ _ _ (λc q=>?_) q,λHZ F=>bX (LD (h.run HZ F) (k.run HZ F)) λσ H Q ⟨ρ,fr,q⟩=>?_⟩
 ·split at q
  ·split at q
   ·rw[SS ‹_›];exact w _ q
   ·rw[Sm ‹_›];exact k.mono _ _ _ w q
  ·exact q
 ·refine h.step fr q λr x H1 q1 S1 r1=>?_;split at q1
  ·rename_i c e;have rc:=r1.c;rw[e] at rc;refine⟨c,rc.bl,?_⟩;cases c with
   |true=>
    simp only[if_true] at q1;exact iO (q1 _ H1 S1 (Rep.bl ai))
   |false=>
    simp only[dw,if_false] at q1;exact iP ⟨ρ,fr.mono S1,k.mono _ _ _ (λb q z H' S rz=>q z H' (S1.trans S) (rz.ahead S1)) q1⟩
  ·exact q1.elim
theorem IA(h:QE X a ta):QE X (.UnaryOp .Not a pos) (z7 ta):=by
 refine⟨λρ Q Q' w q=>h.mono _ _ _ (λc q=>?_) q,λHZ F=>bX (J9 (h.run HZ F)) λσ H Q ⟨ρ,fr,q⟩=>?_⟩
 ·split at q
  ·exact w _ q
  ·exact q
 ·refine h.step fr q λr x H1 q1 S1 r1=>?_;split at q1
  ·rename_i c e;have rc:=r1.c;rw[e] at rc;exact⟨c,rc.bl,q1 _ H1 S1 (Rep.bl _)⟩
  ·exact q1.elim
noncomputable def N3(t:jZ)(ta tb:cQ):cQ:=λρ Q=>t ρ λc=>if c=ai then ta ρ Q else tb ρ Q
theorem GG{t:jZ}(hc:QT X c t)(ha:QE X a ta)(hb:QE X b tb):QE X (.IfExp c a b pos) (N3 t ta tb):=by
 refine⟨λρ Q Q' w q=>hc.mono _ _ _ (λc q=>?_) q,λHZ F=>bX (ED (hc.run HZ F) (ha.run HZ F) (hb.run HZ F)) λσ H Q ⟨ρ,fr,q⟩=>?_⟩
 ·split at q
  ·rw[SS ‹_›];exact ha.mono _ _ _ w q
  ·rw[Sm ‹_›];exact hb.mono _ _ _ w q
 ·refine hc.step fr q λc H1 q1 S1=>?_;cases c with
  |true=>
   simp only[if_true] at q1;exact iO ⟨ρ,fr.mono S1,ha.mono _ _ _ (λb q z H' S rz=>q z H' (S1.trans S) (rz.ahead S1)) q1⟩
  |false=>
   simp only[dw,if_false] at q1;exact iP ⟨ρ,fr.mono S1,hb.mono _ _ _ (λb q z H' S rz=>q z H' (S1.trans S) (rz.ahead S1)) q1⟩
noncomputable def i5(ts:iY):cQ:=λρ Q=>ts ρ λrs=>rs.all R.free=ai/\rs.length<=1000/\Q (.v (.tup (rs.map R.d)))
noncomputable def jU(ts:iY):cQ:=λρ Q=>ts ρ λrs=>rs.all R.free=ai/\rs.length<=1000/\Q (.nw (.lst (rs.map R.d)))
theorem qQ(h:n<=1000):n<=bh:=vx (Bs h)
theorem aI.new'{l:af}(hl:H l=aq):aI H (upd H l o):=λb q e=>by rw[aQ (aX e hl)];exact e
theorem j4{x1}(h:QA X es ts):QE X (.Tuple es x1 pos) (i5 ts):=by
 refine⟨λρ Q Q' w q=>h.mono _ _ _ (λrs q=>⟨q.1,q.2.1,w _ q.2.2⟩) q,λHZ F=>bX (J6 (h.run HZ F)) λσ H Q zz=>?_⟩;obtain⟨ρ,fr,q⟩:=zz;refine h.step fr q λrs xs H1 ⟨q1,q2,q3⟩ S1 r1=>?_;have hl:xs.length=rs.length:=Paired.length r1;refine⟨qQ ⋯,λp hp=>q3 _ _ (S1.trans (aI.new' hp)) ?_⟩;exact .tup bC ((r1.reps (λa m=>fr.dom m) q1).mono (aI.new' hp))
theorem iK(h:QA X es ts):QE X (.List es pos) (jU ts):=by
 refine⟨λρ Q Q' w q=>h.mono _ _ _ (λrs q=>⟨q.1,q.2.1,w _ q.2.2⟩) q,λHZ F=>bX (JA (h.run HZ F)) λσ H Q zz=>?_⟩;obtain⟨ρ,fr,q⟩:=zz;refine h.step fr q λrs xs H1 ⟨q1,q2,q3⟩ S1 r1=>?_;have hl:xs.length=rs.length:=Paired.length r1;refine⟨qQ ⋯,λp hp=>q3 _ _ (S1.trans (aI.new' hp)) ?_⟩;exact⟨p,rfl,S1.free hp,xs,bC,((r1.reps (λa m=>fr.dom m) q1).gen (.fresh hp)).mono (aI.new' hp)⟩
end
noncomputable abbrev tW:Nat:=1000000
theorem gY(h:n<=tW):n<=bh:=jo h (by rw[ii];decide)
theorem jF{p:af}(hp:H p=aq)(r:Reps K M H xs ds):d5 K M O H (.ref p) (.nw (.lst ds)) (upd H p (.lst xs)):=⟨p,rfl,hp,xs,bC,(r.gen (.fresh hp)).mono (aI.new' hp)⟩
theorem DR{p:af}(hp:H p=aq)(r:Reps K M H xs ds):d5 K M O H (.ref p) (.v (.tup ds)) (upd H p (.tup xs)):=Rep.tup bC (r.mono (aI.new' hp))
noncomputable def d4:Dv->Dv->(R->Prop)->Prop
 | .int i,.int j,Q=>Q (.v (.int (i+j)))
 | .lst xs,.lst ys,Q=>xs.length+ys.length<=tW/\Q (.nw (.lst (xs++ys)))
 | .str x,.str y,Q=>x.length+y.length<=tW/\Q (.v (.str (x++y)))
 |_,_,_=>False
noncomputable def nK:Dv->Dv->(R->Prop)->Prop
 | .int i,.int j,Q=>Q (.v (.int (i-j)))
 |_,_,_=>False
noncomputable def rA(i j:Int):Prop:=KB i j \/ (i.natAbs<2 ^ 4000/\j.natAbs<2 ^ 4000)
noncomputable def eE:Dv->Dv->(R->Prop)->Prop
 | .int i,.int j,Q=>rA i j/\Q (.v (.int (i*j)))
 | .lst xs,.int k,Q=>(-(2 ^ 63)<=k/\k<2 ^ 63/\xs.length*k.toNat<=tW)/\Q (.nw (.lst (bc k.toNat xs).flatten))
 |_,_,_=>False
noncomputable def iM:Dv->Dv->(R->Prop)->Prop
 | .int i,.int j,Q=>(0<j/\j<2 ^ 200)/\Q (.v (.int (i / j)))
 |_,_,_=>False
noncomputable def LZ:Dv->Dv->(R->Prop)->Prop
 | .int i,.int j,Q=>(j≠0/\j.natAbs<2 ^ 4000)/\Q (.v (.int (i.fdiv j)))
 |_,_,_=>False
noncomputable def f6:Dv->Dv->(R->Prop)->Prop
 | .int i,.int j,Q=>0<j/\Q (.v (.int (i % j)))
 |_,_,_=>False
noncomputable def rE:Dv->Dv->(R->Prop)->Prop
 | .int i,.int j,Q=>Ft i j/\Q (.v (.int (i ^ j.toNat)))
 |_,_,_=>False
variable {f:Int->Int->Bool}
theorem CK:∀dx dy (Q Q':R->Prop),(∀r,Q r->Q' r)->d4 dx dy Q->d4 dx dy Q':=by
 intro dx dy Q Q' w h;unfold d4 at h;split at h
 ·exact w _ h
 ·exact⟨h.1,w _ h.2⟩
 ·exact⟨h.1,w _ h.2⟩
 ·exact h.elim
theorem bW:tV X (gn .Add) d4:=by
 refine⟨CK,_,JT.or (JS.or AU),λM O H x y dx dy Q cx cy h=>?_⟩;unfold d4 at h;split at h
 ·obtain rfl:=cx.int;obtain rfl:=cy.int;exact .inl ⟨_,_,rfl,rfl,h _ H (aI.refl _) (Rep.int _)⟩
 ·obtain⟨a,xs,rfl,ea,ra⟩:=cx.lst;obtain⟨b,ys,rfl,eb,rb⟩:=cy.lst;have l1:=ra.length;have l2:=rb.length;exact .inr (.inl ⟨a,b,xs,ys,rfl,rfl,ea,eb,gY ⋯,λp hp=>h.2 _ _ (aI.new' hp) (jF hp (ra.append rb))⟩)
 ·obtain rfl:=cx.str;obtain rfl:=cy.str;exact .inr (.inr ⟨_,_,rfl,rfl,gY h.1,h.2 _ H (aI.refl _) (Rep.str _)⟩)
 ·exact h.elim
theorem CF:∀dx dy (Q Q':R->Prop),(∀r,Q r->Q' r)->nK dx dy Q->nK dx dy Q':=by
 intro dx dy Q Q' w h;unfold nK at h;split at h
 ·exact w _ h
 ·exact h.elim
theorem mD:tV X (gn .Sub) nK:=by
 refine⟨CF,_,JK,λM O H x y dx dy Q cx cy h=>?_⟩;unfold nK at h;split at h
 ·obtain rfl:=cx.int;obtain rfl:=cy.int;exact⟨_,_,rfl,rfl,h _ H (aI.refl _) (Rep.int _)⟩
 ·exact h.elim
theorem rA.ok{i j:Int}(h:rA i j):IntMulOk i j:=by
 rcases h with h | ⟨h1,h2⟩
 ·exact h.ok
 ·have key:∀{z:Int},z.natAbs<2 ^ 4000->ww z<=2 ^ 20:=λ{z} hz=>by
   have hl:z.natAbs≠0->z.natAbs.log2<4000:=λh0=>(Sn h0).mpr hz;clear hz h1 h2;unfold ww;by_cases h0:z=0
   ·simp[h0]
   ·have:=hl ⋯;simp[h0];right
  exact IntMulOk.of_bits (key h1) (key h2)
theorem Gd:iA X (gn .Mult) (rI rA λi j=>.int (i*j)):=Mv λ_ _ _ _ _ _ _ hc q=>mul_int q hc.ok
theorem CH:∀dx dy (Q Q':R->Prop),(∀r,Q r->Q' r)->eE dx dy Q->eE dx dy Q':=by
 intro dx dy Q Q' w h;unfold eE at h;split at h
 ·exact⟨h.1,w _ h.2⟩
 ·exact⟨h.1,w _ h.2⟩
 ·exact h.elim
theorem cX:tV X (gn .Mult) eE:=by
 refine⟨CH,_,Gd.or JL,λM O H x y dx dy Q cx cy h=>?_⟩;unfold eE at h;split at h
 ·obtain rfl:=cx.int;obtain rfl:=cy.int;exact .inl ⟨_,_,rfl,rfl,h.1,h.2 _ H (aI.refl _) (Rep.int _)⟩
 ·obtain⟨a,xs,rfl,ea,ra⟩:=cx.lst;obtain rfl:=cy.int;have l1:=ra.length;exact .inr ⟨a,_,xs,rfl,rfl,ea,h.1.1,h.1.2.1,gY (by rw[l1];exact h.1.2.2),λp hp=>h.2 _ _ (aI.new' hp) (jF hp (ra.repl _))⟩
 ·exact h.elim
theorem CJ:∀dx dy (Q Q':R->Prop),(∀r,Q r->Q' r)->iM dx dy Q->iM dx dy Q':=by
 intro dx dy Q Q' w h;unfold iM at h;split at h
 ·exact⟨h.1,w _ h.2⟩
 ·exact h.elim
theorem fW:tV X (gn .FloorDiv) iM:=by
 refine⟨CJ,_,EU,λM O H x y dx dy Q cx cy h=>?_⟩;unfold iM at h;split at h
 ·obtain rfl:=cx.int;obtain rfl:=cy.int;exact⟨_,_,rfl,rfl,h.1,h.2 _ H (aI.refl _) (Rep.int _)⟩
 ·exact h.elim
theorem CI:∀dx dy (Q Q':R->Prop),(∀r,Q r->Q' r)->f6 dx dy Q->f6 dx dy Q':=by
 intro dx dy Q Q' w h;unfold f6 at h;split at h
 ·exact⟨h.1,w _ h.2⟩
 ·exact h.elim
theorem d6:tV X (gn .Mod) f6:=by
 refine⟨CI,_,JO,λM O H x y dx dy Q cx cy h=>?_⟩;unfold f6 at h;split at h
 ·obtain rfl:=cx.int;obtain rfl:=cy.int;exact⟨_,_,rfl,rfl,h.1,h.2 _ H (aI.refl _) (Rep.int _)⟩
 ·exact h.elim
theorem CG:∀dx dy (Q Q':R->Prop),(∀r,Q r->Q' r)->rE dx dy Q->rE dx dy Q':=by
 intro dx dy Q Q' w h;unfold rE at h;split at h
 ·exact⟨h.1,w _ h.2⟩
 ·exact h.elim
theorem pA:tV X (gn .Pow) rE:=by
 refine⟨CG,_,JM,λM O H x y dx dy Q cx cy h=>?_⟩;unfold rE at h;split at h
 ·obtain rfl:=cx.int;obtain rfl:=cy.int;exact⟨_,_,rfl,rfl,h.1,h.2 _ H (aI.refl _) (Rep.int _)⟩
 ·exact h.elim
noncomputable def FS(ta:cQ):cQ:=λρ Q=>ta ρ λr=>match r.d with
 | .int i=>Q (.v (.int (-i)))
 |_=>False
theorem L1{a:Expr}(h:QE X a ta):QE X (.UnaryOp .USub a pos) (FS ta):=by
 refine⟨λρ Q Q' w q=>h.mono _ _ _ (λc q=>?_) q,λHZ F=>bX (LC IQ (h.run HZ F)) λσ H Q ⟨ρ,fr,q⟩=>?_⟩
 ·split at q
  ·exact w _ q
  ·exact q
 ·refine h.step fr q λr x H1 q1 S1 r1=>?_;split at q1
  ·rename_i i e;have rc:=r1.c;rw[e] at rc;exact⟨i,rc.int,q1 _ H1 S1 (Rep.int _)⟩
  ·exact q1.elim
noncomputable def uX(f:Int->Int->Bool):Dv->Dv->(R->Prop)->Prop
 | .int i,.int j,Q=>Q (.v (.bl (f i j)))
 |_,_,_=>False
theorem t7:∀dx dy (Q Q':R->Prop),(∀r,Q r->Q' r)->uX f dx dy Q->uX f dx dy Q':=by
 intro dx dy Q Q' w h;unfold uX at h;split at h
 ·exact w _ h
 ·exact h.elim
theorem vU{g:ac->ac->R5 ac}(h:iA X g (vN λi j=>.bl (f i j))):tV X g (uX f):=by
 refine⟨t7,_,h,λM O H x y dx dy Q cx cy h=>?_⟩;unfold uX at h;split at h
 ·obtain rfl:=cx.int;obtain rfl:=cy.int;exact⟨_,_,rfl,rfl,h _ H (aI.refl _) (Rep.bl _)⟩
 ·exact h.elim
noncomputable abbrev AR:=uX λi j=>decide (i<j)
noncomputable abbrev LP:=uX λi j=>decide (i<=j)
noncomputable abbrev Fu:=uX λi j=>decide (j<i)
noncomputable abbrev LX:=uX λi j=>decide (j<=i)
theorem iN:tV X (cj .Lt) AR:=vU ET
theorem ER:tV X (cj .LtE) LP:=vU BO
theorem nL:tV X (cj .Gt) Fu:=vU Lb
theorem vV:tV X (cj .GtE) LX:=vU Lc
noncomputable def qK(p p':Dv->Dv->(R->Prop)->Prop)(ta tb tc:cQ):cQ:=λρ Q=>ta ρ λx=>tb ρ λy=>p x.d y.d λz=>match z.d with
 | .bl k=>if k=ai then tc ρ λw=>p' y.d w.d Q else Q (.v (.bl ao))
 |_=>False
noncomputable def isN:Dv->Bool
 | .non=>ai
 |_=>ao
noncomputable def rF:Dv->Dv->(R->Prop)->Prop
 |d,.non,Q=>Q (.v (.bl (isN d)))
 |_,_,_=>False
noncomputable def yB:Dv->Dv->(R->Prop)->Prop
 |d,.non,Q=>Q (.v (.bl (!isN d)))
 |_,_,_=>False
theorem dG.non_iff{x:V}{d:Dv}(h:dG K M H x d):decide (x=.non)=isN d:=by
 rcases h with h | ⟨a,rfl,o⟩
 ·cases h<;>simp[isN]
 ·cases d<;>first | exact o.elim | simp[isN]
theorem mE:tV X (cj .Is) rF:=by
 refine⟨λdx dy Q Q' w h=>?_,_,JP,λM O H x y dx dy Q cx cy h=>?_⟩
 ·unfold rF at h;split at h
  ·exact w _ h
  ·exact h.elim
 ·unfold rF at h;split at h
  ·refine⟨cy.non,?_⟩;rw[cx.non_iff];exact h _ H (aI.refl _) (Rep.bl _)
  ·exact h.elim
theorem EQ:tV X (cj .IsNot) yB:=by
 refine⟨λdx dy Q Q' w h=>?_,_,Gc,λM O H x y dx dy Q cx cy h=>?_⟩
 ·unfold yB at h;split at h
  ·exact w _ h
  ·exact h.elim
 ·unfold yB at h;split at h
  ·refine⟨cy.non,?_⟩;rw[cx.non_iff];exact h _ H (aI.refl _) (Rep.bl _)
  ·exact h.elim
noncomputable def iZ:Dv->RU
 | .non=>.none
 | .bl b=>.bool b
 | .int i=>.int i
 | .str x=>.str x
 | .tup xs=>.tuple (pyDs xs)
 | .lst xs=>.list (pyDs xs)
 | .scr ns=>.list (ns.map .int)
 |_=>.dict []
where pyDs:List Dv->List RU
 | []=>[]
 |d::r=>iZ d::pyDs r
noncomputable abbrev pyDs:=iZ.pyDs
noncomputable def d7:Nat->Dv->Bool
 |_,.non=>ai
 |_,.bl _=>ai
 |_,.int _=>ai
 |_,.str x=>PyData.strOk x
 |n+1,.tup xs=>okDs n xs
 |n+1,.lst xs=>okDs n xs
 |_+1,.scr _=>ai
 |_,_=>ao
where okDs:Nat->List Dv->Bool
 |_,[]=>ai
 |n,d::r=>d7 n d&&okDs n r
noncomputable abbrev okDs:=d7.okDs
noncomputable def eqD(a b:Dv):Bool:=kz (iZ a) (iZ b)
theorem zQ(ns:List Int):jr (ns.map .int)=ai:=by
 induction ns with
 |nil=>rfl
 |cons n r ih=>rw[cn,jr,ih];rfl
theorem Aq(ns:List Int):iq (ns.map .int)=0:=by
 induction ns with
 |nil=>rfl
 |cons n r ih=>rw[cn,iq,ih];rfl
mutual
theorem mF:∀(n:Nat) (d:Dv),d7 n d=ai->(iZ d).canLay0=ai/\(iZ d).depth<=n
 |_,.non,_=>⟨by simp[iZ,ki],by simp[iZ,PyData.depth]⟩
 |_,.bl _,_=>⟨by simp[iZ,ki],by simp[iZ,PyData.depth]⟩
 |_,.int _,_=>⟨by simp[iZ,ki],by simp[iZ,PyData.depth]⟩
 |_,.str x,h=>⟨by rw[iZ,ki];cases ‹Nat›<;>simpa [d7] using h,by simp[iZ,PyData.depth]⟩
 |0,.tup _,h=>by simp[d7] at h
 |0,.lst _,h=>by simp[d7] at h
 |0,.scr _,h=>by simp[d7] at h
 |n+1,.tup xs,h=>by
  have:=t9 n xs (by rw[d7] at h;exact h);exact⟨by rw[iZ,ki];exact this.1,by rw[iZ,PyData.depth];have h2:iq (iZ.pyDs xs)<=n:=this.2;right⟩
 |n+1,.lst xs,h=>by
  have:=t9 n xs (by rw[d7] at h;exact h);exact⟨by rw[iZ,ki];exact this.1,by rw[iZ,PyData.depth];have h2:iq (iZ.pyDs xs)<=n:=this.2;right⟩
 |n+1,.scr ns,_=>⟨by rw[iZ,ki];exact zQ ns,by rw[iZ,PyData.depth,Aq];right⟩
 |0,.dik _,h=>by simp[d7] at h
 |0,.dit _,h=>by simp[d7] at h
 |0,.obj _ _,h=>by simp[d7] at h
 |0,.exc _ _,h=>by simp[d7] at h
 |_+1,.exc _ _,h=>by simp[d7] at h
 |0,.dns _,h=>by simp[d7] at h
 |_+1,.dns _,h=>by simp[d7] at h
 |_+1,.dik _,h=>by simp[d7] at h
 |_+1,.dit _,h=>by simp[d7] at h
 |_+1,.obj _ _,h=>by simp[d7] at h
theorem t9:∀(n:Nat) (ds:List Dv),okDs n ds=ai->jr (pyDs ds)=ai/\iq (pyDs ds)<=n
 |_,[],_=>⟨by simp[iZ.pyDs,jr],by simp[iZ.pyDs,iq]⟩
 |n,d::r,h=>by
  have h':(d7 n d&&okDs n r)=ai:=h;rw[cf] at h';have h1:=mF n d h'.1;have h2:=t9 n r h'.2;refine⟨by show jr (iZ d::pyDs r)=ai;rw[jr,h1.1,h2.1];rfl,?_⟩;show iq (iZ d::pyDs r)<=n;rw[iq];right
end
theorem kF{d:Dv}(h:d7 n d=ai)(hn:n<=64):RV (iZ d)=ai:=by
 obtain⟨h1,h2⟩:=mF n d h;unfold RV;rw[h1,decide_eq_true ⋯];rfl
theorem tK{h:br}:∀{ns:List Int} {us:List ac},aY (ns.map V.int) us -> ∃as,Rn h us (ns.map PyData.int) as
 | [],_,.nil=>⟨_,.nil⟩
 |n::r,_,.cons a t=>by
  obtain⟨tk,rfl⟩:=a;obtain⟨as,q⟩:=tK (h:=h) t;exact⟨_,.cons (.int n tk) q⟩
theorem rT{d:Dv}(f:okDs n (d::ds)=ai):d7 n d=ai/\okDs n ds=ai:=by
 have f':(d7 n d&&okDs n ds)=ai:=f;rwa[cf] at f'
theorem Rep.reads(I:Inv X pj σ H s){x:V}{d:Dv}(q:Rep X.K M H x d)(ok:d7 n d=ai)(r:bU x u):∃as,RG s.heap u (iZ d) as:=by
 refine Rep.rec (motive_1:=λx d _=>∀n u,d7 n d=ai->bU x u -> ∃as,RG s.heap u (iZ d) as) (motive_2:=λxs ds _=>∀n us,okDs n ds=ai->aY xs us -> ∃as,Rn s.heap us (pyDs ds) as) (motive_3:=λ_ _ _=>True) (motive_4:=λ_ _ _=>True) (motive_5:=λ_ _ _=>True)
  (λn u _ r=>by cases r;exact⟨_,.none⟩) (λb n u _ r=>by cases r;exact⟨_,.bool b⟩) (λi n u _ r=>by obtain⟨t,rfl⟩:=r;exact⟨_,.int i t⟩) (λy n u _ r=>by obtain⟨t,rfl⟩:=r;exact⟨_,.str y t⟩) ?tup ?lst ?dik ?dit ?obj ?scr ?exc ?dns ?nil ?cons
  trivial (λ_ _ _ _=>trivial) trivial (λ_ _ _ _=>trivial) trivial (λ_ _ _ _=>trivial) q n u ok r
 case tup=>
  intro a xs ds e _ ih n u ok r;cases n with
  |zero=>simp[d7] at ok
  |succ n=>
   cases r;obtain⟨_,its,rv,o,ho,hc,m,hd⟩:=I.hok _ _ e;obtain⟨as,ra⟩:=ih n its (by rw[d7] at ok;exact ok) rv;exact⟨_,.tuple ho hc hd ra⟩
 case lst=>
  intro a xs ds e _ _ ih n u ok r;cases n with
  |zero=>simp[d7] at ok
  |succ n=>
   cases r;obtain⟨_,its,m,rv,ho⟩:=I.hok _ _ e;obtain⟨as,ra⟩:=ih n its (by rw[d7] at ok;exact ok) rv;exact⟨_,.list ho rfl rfl ra⟩
 case dik=>intro a xs ds _ _ _ _ n u ok;cases n<;>simp[d7] at ok
 case dit=>intro a ep xs ds _ _ _ _ n u ok;cases n<;>simp[d7] at ok
 case obj=>intro a C dx xs ds _ _ _ _ n u ok;cases n<;>simp[d7] at ok
 case scr=>
  intro a ns e n u _ r;cases r;obtain⟨its,rv,pl,_⟩:=I.list e.sq;obtain⟨o,ho,hc,m,hd⟩:=pl.isList;obtain⟨as,ra⟩:=tK (h:=s.heap) rv;exact⟨_,.list ho hc hd (by simpa using ra)⟩
 case exc=>intro a C p _ n u ok;cases n<;>simp[d7] at ok
 case dns=>intro a ks _ _ n u ok;cases n<;>simp[d7] at ok
 case nil=>intro n us _ r;cases r;exact⟨_,.nil⟩
 case cons=>
  intro x d xs ds _ _ i1 i2 n us ok r;cases r with
  |cons r1 r2=>
   obtain⟨as,ra⟩:=i1 n _ (rT ok).1 r1;obtain⟨bs,rb⟩:=i2 n _ (rT ok).2 r2;exact⟨_,.cons ra rb⟩
theorem Reps.reads(I:Inv X pj σ H s){n:Nat}{xs:List V}{ds:List Dv}{us:List ac}(q:Reps X.K M H xs ds)(ok:okDs n ds=ai)(r:aY xs us):∃as,Rn s.heap us (pyDs ds) as:=
 q.ind (P:=λxs ds=>∀us,okDs n ds=ai->aY xs us -> ∃as,Rn s.heap us (pyDs ds) as) (λus _ r=>by cases r;exact⟨_,.nil⟩) (λx d xs ds a _ ih us ok r=>by
  cases r with
  |cons r1 r2=>
   obtain⟨as,ra⟩:=a.reads I (rT ok).1 r1;obtain⟨bs,rb⟩:=ih _ (rT ok).2 r2;exact⟨_,.cons ra rb⟩) us ok r
theorem dG.reads(I:Inv X pj σ H s){n:Nat}{x:V}{d:Dv}{u:ac}(c:dG X.K M H x d)(ok:d7 n d=ai)(r:bU x u):∃as,RG s.heap u (iZ d) as:=by
 rcases c with c | ⟨a,rfl,o⟩
 ·exact c.reads I ok r
 ·cases d with
  |lst ds=>
   obtain⟨xs,e,q⟩:=o;cases r;cases n with
   |zero=>simp[d7] at ok
   |succ n=>
    obtain⟨_,its,m,rv,ho⟩:=I.hok _ _ e;obtain⟨as,ra⟩:=Reps.reads I q (by rw[d7] at ok;exact ok) rv;exact⟨_,.list ho rfl rfl ra⟩
  |dik _=>cases n<;>simp[d7] at ok
  |dit _=>cases n<;>simp[d7] at ok
  |obj _ _=>cases n<;>simp[d7] at ok
  |dns _=>cases n<;>simp[d7] at ok
  |_=>exact o.elim
noncomputable def u7:Dv->Dv->(R->Prop)->Prop
 | .int i,.int j,Q=>Q (.v (.bl (decide (i=j))))
 |dx,dy,Q=>(d7 8 dx=ai/\d7 8 dy=ai)/\Q (.v (.bl (eqD dx dy)))
noncomputable def vT:Dv->Dv->(R->Prop)->Prop
 | .int i,.int j,Q=>Q (.v (.bl (!decide (i=j))))
 |dx,dy,Q=>(d7 8 dx=ai/\d7 8 dy=ai)/\Q (.v (.bl (!eqD dx dy)))
noncomputable def Nz(K:aj):R2:=λx y H Q=>∃M dx dy,dG K M H x dx/\dG K M H y dy/\d7 8 dx=ai/\d7 8 dy=ai/\Q (.bl (eqD dx dy)) H
noncomputable def Nv(K:aj):R2:=λx y H Q=>∃M dx dy,dG K M H x dx/\dG K M H y dy/\d7 8 dx=ai/\d7 8 dy=ai/\Q (.bl (!eqD dx dy)) H
theorem JR(hu:X.A.units+64<ma):iA X (cj .Eq) (Nz X.K):=by
 intro pj s σ H x y v u Q I rx ry h;obtain⟨M,dx,dy,r1,r2,o1,o2,q⟩:=h;obtain⟨as,ra⟩:=r1.reads I o1 rx;obtain⟨bs,rb⟩:=r2.reads I o2 ry;exact SeqAt.compareEq_shaped ra rb (kF o1 ∅) (kF o2 ∅) hu ⟨.bl _,H,I,rfl,q⟩
theorem JN(hu:X.A.units+64<ma):iA X (cj .NotEq) (Nv X.K):=by
 intro pj s σ H x y v u Q I rx ry h;obtain⟨M,dx,dy,r1,r2,o1,o2,q⟩:=h;obtain⟨as,ra⟩:=r1.reads I o1 rx;obtain⟨bs,rb⟩:=r2.reads I o2 ry;exact SeqAt.compareNe_shaped ra rb (kF o1 ∅) (kF o2 ∅) hu ⟨.bl _,H,I,rfl,q⟩
theorem rX(i j:Int):eqD (.int i) (.int j)=decide (i=j):=by
 show kz (.int i) (.int j)=_;rw[kz];exact Bool.beq_eq_decide_eq i j
theorem jE(hu:X.A.units+64<ma):tV X (cj .Eq) u7:=by
 refine⟨λdx dy Q Q' w h=>?_,_,JR hu,λM O H x y dx dy Q cx cy h=>?_⟩
 ·unfold u7 at *;split at h
  ·exact w _ h
  ·exact⟨h.1,w _ h.2⟩
 ·unfold u7 at h;split at h
  ·refine⟨M,_,_,cx,cy,by simp[d7],by simp[d7],?_⟩;rw[rX];exact h _ H (aI.refl _) (Rep.bl _)
  ·exact⟨M,_,_,cx,cy,h.1.1,h.1.2,h.2 _ H (aI.refl _) (Rep.bl _)⟩
theorem jD(hu:X.A.units+64<ma):tV X (cj .NotEq) vT:=by
 refine⟨λdx dy Q Q' w h=>?_,_,JN hu,λM O H x y dx dy Q cx cy h=>?_⟩
 ·unfold vT at *;split at h
  ·exact w _ h
  ·exact⟨h.1,w _ h.2⟩
 ·unfold vT at h;split at h
  ·refine⟨M,_,_,cx,cy,by simp[d7],by simp[d7],?_⟩;rw[rX];exact h _ H (aI.refl _) (Rep.bl _)
  ·exact⟨M,_,_,cx,cy,h.1.1,h.1.2,h.2 _ H (aI.refl _) (Rep.bl _)⟩
structure En where
 nx:List Sl->Prop
 rt:R->Prop
 bk:List Sl->Prop:=λ_=>False
 ct:List Sl->Prop:=λ_=>False
noncomputable abbrev bV:=En->List Sl->Prop
structure EnLe(E E':En):Prop where
 nx:∀ρ,E.nx ρ->E'.nx ρ
 rt:∀r,E.rt r->E'.rt r
 bk:∀ρ,E.bk ρ->E'.bk ρ
 ct:∀ρ,E.ct ρ->E'.ct ρ
structure Ent(K:aj)(HZ:Hp)(F:af->Prop)(E:En)(D:Ends):Prop where
 nx:∀ρ σ H,Fr K HZ F σ H ρ->E.nx ρ->D.nx σ H
 bk:∀ρ σ H,Fr K HZ F σ H ρ->E.bk ρ->D.bk σ H
 ct:∀ρ σ H,Fr K HZ F σ H ρ->E.ct ρ->D.ct σ H
 rt:∀r x H,aI HZ H->d5 K F vE HZ x r H->E.rt r->D.rt x H
inductive liftS(K:aj)(HZ:Hp)(F:af->Prop)(t:bV)(D:Ends)(σ:St)(H:Hp):Prop
 |mk (ρ:List Sl) (E:En) (fr:Fr K HZ F σ H ρ) (h:t E ρ) (en:Ent K HZ F E D)
structure QS(X:Cx)(st:gg)(t:bV):Prop where
 mono:∀E E' ρ,EnLe E E'->t E ρ->t E' ρ
 run:∀(HZ:Hp) (F:af->Prop),PS X st (liftS X.K HZ F t)
structure QSs(X:Cx)(sts:List gg)(t:bV):Prop where
 mono:∀E E' ρ,EnLe E E'->t E ρ->t E' ρ
 run:∀(HZ:Hp) (F:af->Prop),pP X sts (liftS X.K HZ F t)
variable {E:En}{sts:List gg}
section
variable {t u:bV}{c:Expr}
theorem cA{t t':TS}(h:PS X st t)(w:∀D σ H,t' D σ H->t D σ H):PS X st t':=λpj s σ H D I q=>h pj s σ H D I (w D σ H q)
theorem sC{t t':TS}(h:pP X sts t)(w:∀D σ H,t' D σ H->t D σ H):pP X sts t':=λpj s σ H D I q=>h pj s σ H D I (w D σ H q)
noncomputable def bN:bV:=λE ρ=>E.nx ρ
noncomputable def aN(t u:bV):bV:=λE ρ=>t { E with nx:=u E } ρ
theorem bJ:QSs X [] bN:=⟨λE E' ρ w h=>w.nx _ h,λHZ F=>sC BG λD σ H zq3=>by obtain⟨ρ,E,fr,h,en⟩:=zq3;exact en.nx _ _ _ fr h⟩
theorem EnLe.with_nx{E':En}{a b:List Sl->Prop}(w:EnLe E E')(h:∀ρ,a ρ->b ρ):EnLe { E with nx:=a } { E' with nx:=b }:=⟨h,w.rt,w.bk,w.ct⟩
theorem aE(h1:QS X st t)(h2:QSs X sts u):QSs X (st::sts) (aN t u):=by
 refine⟨λE E' ρ w h=>h1.mono _ _ _ (w.with_nx λρ h=>h2.mono _ _ _ w h) h,λHZ F=>sC (jR (h1.run HZ F) (h2.run HZ F)) λD σ H zz=>?_⟩;obtain⟨ρ,E,fr,h,en⟩:=zz;exact⟨ρ,_,fr,h,λρ' σ' H' fr' h'=>⟨ρ',E,fr',h',en⟩,en.bk,en.ct,en.rt⟩
theorem aG(h1:QS X st t):QSs X [st] t:=⟨h1.mono,λHZ F=>BF (h1.run HZ F)⟩
noncomputable def Dd:bV:=λE ρ=>E.bk ρ
noncomputable def Hy:bV:=λE ρ=>E.ct ρ
noncomputable def fU:bV:=λ_ _=>False
theorem fV:QS X st fU:=⟨λ_ _ _ _ h=>h,λHZ F=>cA Dz λD σ H zq4=>by obtain⟨ρ,E,fr,h,en⟩:=zq4;exact h⟩
noncomputable def xO(te:cQ):bV:=λE ρ=>te ρ λ_=>E.nx ρ
theorem Do(he:QE X e te)(hs:autoParam (eh e aq pos.line X.env=fo ao) b7._auto_1):QS X (.Expr e pos) (xO te):=
 ⟨λE E' ρ w h=>he.mono _ _ _ (λ_ q=>w.nx _ q) h,λHZ F=>cA (rS (he.run HZ F) hs) λD σ H zq5=>by obtain⟨ρ,E,fr,h,en⟩:=zq5;exact he.step fr h λr x H1 q S1 _=>en.nx _ _ _ (fr.mono S1) q⟩
noncomputable def R.out:R->R
 | .ow _ d=>.nw d
 |r=>r
theorem d5.out{K:aj}{HZ H H':Hp}{F:af->Prop}{σ:St}{ρ:List Sl}{x:V}{r:R}(fr:Fr K HZ F σ H ρ)(h:d5 K (MM F ρ) (uK ρ) H x r H'):d5 K F vE HZ x r.out H':=by
 cases r with
 |v d=>exact Rep.weak (λa z=>.inl z) h
 |nw d=>
  obtain⟨a,e,n,o⟩:=h;exact⟨a,e,fr.same.free n,o.weak λb z=>z.elim (λz=>.inl (.inl z)) .inr⟩
 |ow a d=>
  obtain⟨e,m,o⟩:=h;refine⟨a,e,fr.new a d m,o.weak λb z=>?_⟩;rcases z with z | z
  ·exact .inl z
  ·rw[z];exact .inr ⟨d,m⟩
noncomputable def bR(te:cQ):bV:=λE ρ=>te ρ λr=>E.rt r.out
noncomputable def Hx:bV:=λE _=>E.rt (.v .non)
theorem bD(he:QE X e te):QS X (.Return (aa e) pos) (bR te):=
 ⟨λE E' ρ w h=>he.mono _ _ _ (λ_ q=>w.rt _ q) h,λHZ F=>cA (Iw (he.run HZ F)) λD σ H zq6=>by obtain⟨ρ,E,fr,h,en⟩:=zq6;exact he.step fr h λr x H1 q S1 r1=>en.rt _ _ _ (fr.same.trans S1) (d5.out fr r1) q⟩
noncomputable def iB(c:jZ)(t u:bV):bV:=λE ρ=>c ρ λb=>if b=ai then t E ρ else u E ρ
theorem dZ{a b:List gg}{tc:jZ}(hc:QT X c tc)(ha:QSs X a t)(hb:QSs X b u):QS X (.If c a b pos) (iB tc t u):=by
 refine⟨λE E' ρ w h=>hc.mono _ _ _ (λk q=>?_) h,λHZ F=>cA (E3 (hc.run HZ F) (ha.run HZ F) (hb.run HZ F)) λD σ H ⟨ρ,E,fr,h,en⟩=>?_⟩
 ·split at q
  ·rw[SS ‹_›];exact ha.mono _ _ _ w q
  ·rw[Sm ‹_›];exact hb.mono _ _ _ w q
 ·refine hc.step fr h λk H1 q S1=>?_;cases k with
  |true=>exact iO ⟨ρ,E,fr.mono S1,by simpa using q,en⟩
  |false=>exact iP ⟨ρ,E,fr.mono S1,by simpa using q,en⟩
end
theorem dX{l:List α}{j:Nat}{a b:α}(h:(l.set i a)[j]?=aa b):(i=j/\i<l.length/\b=a) \/ (i≠j/\l[j]?=aa b):=by
 by_cases e:i=j
 ·subst e;by_cases hl:i<l.length
  ·rw[gr hl] at h;exact .inl ⟨rfl,hl,(Option.some.inj h).symm⟩
  ·rw[jh (by simp;right)] at h;cases h
 ·rw[er e] at h;exact .inr ⟨e,h⟩
theorem MM.set{i:Nat}{s:Sl}(a:af)(h:MM F (ρ.set i s) a):MM F ρ a \/ ∃d,s=.own a d:=by
 rcases h with h | ⟨d,h⟩
 ·exact .inl (.inl h)
 ·rcases ij h with h | h
  ·exact .inl (.inr ⟨d,h⟩)
  ·exact .inr ⟨d,h.symm⟩
theorem Fr.setv(fr:Fr K HZ F σ H ρ){x:V}{d:Dv}(r:Rep K (MM F ρ) H x d):Fr K HZ F (σ.set i (aa x)) H (ρ.set i (.v d)):=by
 have wk:∀a,MM F (ρ.set i (.v d)) a->MM F ρ a:=λa h=>by
  rcases MM.set a h with h | ⟨_,h⟩
  ·exact h
  ·cases h
 refine⟨by simp[fr.len],λj s e=>?_,λj k a d1 d2 e1 e2=>?_,λa d1 h=>?_,fr.same,fr.old⟩
 ·rcases dX e with⟨rfl,hl,rfl⟩ | ⟨ne,e⟩
  ·exact⟨x,by rw[gr (by rw[fr.len];exact hl)],r.weak wk⟩
  ·rw[er ne];exact(fr.sl j s e).weak wk
 ·rcases dX e1 with⟨_,_,z⟩ | ⟨_,e1⟩
  ·cases z
  ·rcases dX e2 with⟨_,_,z⟩ | ⟨_,e2⟩
   ·cases z
   ·exact fr.nd j k a d1 d2 e1 e2
 ·rcases ij h with h | h
  ·exact fr.new a d1 h
  ·cases h
theorem Fr.setu(fr:Fr K HZ F σ H ρ){o:Option V}:Fr K HZ F (σ.set i o) H (ρ.set i .un):=by
 have wk:∀a,MM F (ρ.set i .un) a->MM F ρ a:=λa h=>by
  rcases MM.set a h with h | ⟨_,h⟩
  ·exact h
  ·cases h
 refine⟨by simp[fr.len],λj s e=>?_,λj k a d1 d2 e1 e2=>?_,λa d1 h=>?_,fr.same,fr.old⟩
 ·rcases dX e with⟨rfl,hl,rfl⟩ | ⟨ne,e⟩
  ·trivial
  ·rw[er ne];exact(fr.sl j s e).weak wk
 ·rcases dX e1 with⟨_,_,z⟩ | ⟨_,e1⟩
  ·cases z
  ·rcases dX e2 with⟨_,_,z⟩ | ⟨_,e2⟩
   ·cases z
   ·exact fr.nd j k a d1 d2 e1 e2
 ·rcases ij h with h | h
  ·exact fr.new a d1 h
  ·cases h
theorem uJ.gen{M M':af->Prop}{o:Option (Option V)}{s:Sl}(G:Gen K M M' H H')(hs:∀a d,s=.own a d -> ∀u,H a=aa u->H' a=aa u)(h:uJ K M H o s):uJ K M' H' o s:=by
 cases s with
 |un=>trivial
 |v d=>obtain⟨x,e,r⟩:=h;exact⟨x,e,r.gen G⟩
 |own a d=>exact⟨h.1,h.2.gen G (hs a d rfl)⟩
theorem Fr.seto(fr:Fr K HZ F σ H ρ)(S:aI H H'){d:Dv}(ha:H a=aq)(o:dO K (λb=>MM F ρ b \/ b=a) H' a d):Fr K HZ F (σ.set i (aa (.ref a))) H' (ρ.set i (.own a d)):=by
 have wk:∀b,MM F (ρ.set i (.own a d)) b->MM F ρ b \/ b=a:=λb h=>by
  rcases MM.set b h with h | ⟨_,h⟩
  ·exact .inl h
  ·cases h;exact .inr rfl
 have G:Gen K (MM F ρ) (MM F (ρ.set i (.own a d))) H H':=((Gen.fresh ha).trans (.mono S)).trans (.weak wk);have ne:∀(j:Nat) (b:af) (d':Dv),ρ[j]?=aa (Sl.own b d')->b≠a:=λj b d' e z=>by
  have:=(fr.sl j _ e).2.mut;obtain⟨u,hu,_⟩:=this;rw[z,ha] at hu;cases hu
 refine⟨by simp[fr.len],λj s e=>?_,λj k b d1 d2 e1 e2=>?_,λb d1 h=>?_,fr.same.trans S,fr.old⟩
 ·rcases dX e with⟨rfl,hl,rfl⟩ | ⟨hne,e⟩
  ·exact⟨by rw[gr (by rw[fr.len];exact hl)],o.weak wk⟩
  ·rw[er hne];exact(fr.sl j s e).gen G λb d' _ u hu=>S _ _ hu
 ·rcases dX e1 with⟨h1,_,z⟩ | ⟨_,e1⟩
  ·rcases dX e2 with⟨h2,_,z'⟩ | ⟨_,e2⟩
   ·right
   ·cases z;exact absurd rfl (ne k _ _ e2)
  ·rcases dX e2 with⟨h2,_,z'⟩ | ⟨_,e2⟩
   ·cases z';exact absurd rfl (ne j _ _ e1)
   ·exact fr.nd j k b d1 d2 e1 e2
 ·rcases ij h with h | h
  ·exact fr.new b d1 h
  ·cases h;exact fr.same.free ha
theorem Fr.write(fr:Fr K HZ F σ H ρ){i:Nat}{a:af}{d d':Dv}{o:HO}(hi:ρ[i]?=aa (.own a d))(n:dO K (MM F ρ) (upd H a o) a d'):Fr K HZ F σ (upd H a o) (ρ.set i (.own a d')):=by
 have mem:Sl.own a d∈ρ:=cq hi;have wk:∀b,MM F (ρ.set i (.own a d')) b->MM F ρ b:=λb h=>by
  rcases MM.set b h with h | ⟨_,h⟩
  ·exact h
  ·cases h;exact .inr ⟨d,mem⟩
 obtain⟨hs,ow⟩:=fr.sl i _ hi;obtain⟨u,hu,mu⟩:=ow.mut;have mu':DC (H a):=by rw[hu];exact mu
 have G:Gen K (MM F ρ) (MM F (ρ.set i (.own a d'))) H (upd H a o):=(Gen.write (.inr ⟨d,mem⟩) mu').trans (.weak wk);refine⟨by simp[fr.len],λj s e=>?_,λj k b d1 d2 e1 e2=>?_,λb d1 h=>?_,λb q e=>?_,fr.old⟩
 ·rcases dX e with⟨rfl,hl,rfl⟩ | ⟨hne,ej⟩
  ·exact⟨hs,n.weak wk⟩
  ·refine(fr.sl j s ej).gen G λb d2 es u hu=>?_;subst es;rw[aQ λz=>hne ?_]
   ·exact hu
   ·subst z;exact fr.nd i j _ d d2 hi ej
 ·rcases dX e1 with⟨h1,_,z⟩ | ⟨_,e1⟩
  ·cases z;rcases dX e2 with⟨h2,_,z'⟩ | ⟨_,e2⟩
   ·right
   ·rw[<- h1];exact fr.nd i k _ d d2 hi e2
  ·rcases dX e2 with⟨h2,_,z'⟩ | ⟨_,e2⟩
   ·cases z';rw[<- h2];exact fr.nd j i _ d1 d e1 hi
   ·exact fr.nd j k b d1 d2 e1 e2
 ·rcases ij h with h | h
  ·exact fr.new b d1 h
  ·cases h;exact fr.new _ d mem
 ·rw[aQ ?_]
  ·exact fr.same b q e
  ·intro z;subst z;rw[fr.new _ d mem] at e;cases e
noncomputable def freeze(i:Nat)(ρ:List Sl):List Sl:=match ρ[i]? with
 |some (.own _ d)=>ρ.set i (.v d)
 |_=>ρ
section
variable {T7:gm}{t:bV}
noncomputable def cC(i:Nat)(te:cQ):bV:=λE ρ=>te ρ λr=>match r with
 | .v d=>E.nx (ρ.set i (.v d))
 | .nw d=>E.nx (ρ.set i (.v d))
 | .ow _ _=>False
noncomputable def kT(i:Nat)(te:cQ):bV:=λE ρ=>te ρ λr=>match r with
 | .v d=>E.nx (ρ.set i (.v d))
 | .nw d=>∀a,E.nx (ρ.set i (.own a d))
 | .ow _ _=>False
noncomputable def Kp(i:Nat)(t:bV):bV:=λE ρ=>t E (freeze i ρ)
theorem cE{x:bf}(hN:X.N.Nodup)(hi:X.N[i]?=aa x)(hx:xC X.env.scope x)(he:QE X e te)(hs:autoParam (eh e (aa (.Name x T7)) pos.line X.env=fo ao) b7._auto_1)(hf:autoParam (X.fn x=ai \/ X.env.scope.names.lookup x=aa .local) xA._auto_1):
  QS X (.Assign [.Name x T7] e pos) (cC i te):=by
 refine⟨λE E' ρ w h=>he.mono _ _ _ (λr q=>?_) h,λHZ F=>cA (vP hN hi hx (he.run HZ F) hs hf) λD σ H ⟨ρ,E,fr,h,en⟩=>?_⟩
 ·cases r with
  |v d=>exact w.nx _ q
  |nw d=>exact w.nx _ q
  |ow a d=>exact q
 ·refine he.step fr h λr x H1 q S1 r1=>?_;cases r with
  |v d=>exact en.nx _ _ _ ((fr.mono S1).setv r1) q
  |nw d=>exact en.nx _ _ _ ((fr.mono S1).setv (r1.rep (λa m=>fr.dom m) rfl)) q
  |ow a d=>exact q.elim
theorem kB{x:bf}(hN:X.N.Nodup)(hi:X.N[i]?=aa x)(hx:xC X.env.scope x)(he:QE X e te)(hs:autoParam (eh e (aa (.Name x T7)) pos.line X.env=fo ao) b7._auto_1)(hf:autoParam (X.fn x=ai \/ X.env.scope.names.lookup x=aa .local) xA._auto_1):
  QS X (.Assign [.Name x T7] e pos) (kT i te):=by
 refine⟨λE E' ρ w h=>he.mono _ _ _ (λr q=>?_) h,λHZ F=>cA (vP hN hi hx (he.run HZ F) hs hf) λD σ H ⟨ρ,E,fr,h,en⟩=>?_⟩
 ·cases r with
  |v d=>exact w.nx _ q
  |nw d=>exact λa=>w.nx _ (q a)
  |ow a d=>exact q
 ·refine he.step fr h λr x H1 q S1 r1=>?_;cases r with
  |v d=>exact en.nx _ _ _ ((fr.mono S1).setv r1) q
  |nw d=>
   obtain⟨a,rfl,ha,o⟩:=r1;exact en.nx _ _ _ (fr.seto S1 ha o) (q a)
  |ow a d=>exact q.elim
noncomputable def Bv(i:Nat)(p:Dv->Dv->(R->Prop)->Prop)(te:cQ):bV:=λE ρ=>match ρ[i]? with
 |some (.v d)=>te ρ λr=>p d r.d λz=>match z with
  | .v d'=>E.nx (ρ.set i (.v d'))
  |_=>False
 |_=>False
noncomputable def QB(X:Cx)(op:ue)(p:Dv->Dv->(R->Prop)->Prop):Prop:=tV X (zc op) p
theorem L8{x:bf}{op:ue}{p:Dv->Dv->(R->Prop)->Prop}(ho:QB X op p)(hN:X.N.Nodup)(hi:X.N[i]?=aa x)(hx:xC X.env.scope x)(he:QE X e te)(hf:autoParam (X.fn x=ai \/ X.env.scope.names.lookup x=aa .local) xA._auto_1):
  QS X (.AugAssign (.Name x T7) op e pos) (Bv i p te):=by
 obtain⟨mo,r2,hR,hr⟩:=ho;refine⟨λE E' ρ w h=>?_,λHZ F=>cA (Iy hN hi hx (he.run HZ F) (λpj s σ H x y v u Q I rx ry h=>hR pj s σ H x y v u Q I rx ry h) hf) λD σ H ⟨ρ,E,fr,h,en⟩=>?_⟩
 ·unfold Bv at *;split at h
  ·refine he.mono _ _ _ (λr q=>mo _ _ _ _ (λz q=>?_) q) h;split at q
   ·exact w.nx _ q
   ·exact q
  ·exact h
 ·unfold Bv at h;split at h
  ·rename_i d ed;obtain⟨x,ex,rx⟩:=fr.sl i _ ed;refine⟨x,ex,he.step fr h λr y H1 q S1 r1=>?_⟩;refine hr (MM F ρ) (uK ρ) H1 x y _ _ _ (.inl (rx.mono S1)) r1.c (mo _ _ _ _ (λz q z' H' S' rz=>?_) q);split at q
   ·exact en.nx _ _ _ (((fr.mono S1).mono S').setv rz) q
   ·exact q.elim
  ·exact h.elim
noncomputable def tY(i:Nat)(te:cQ):bV:=λE ρ=>match ρ[i]? with
 |some (.own a (.lst xs))=>te ρ λr=>(r.free=ai/\xs.length<tW)/\E.nx (ρ.set i (.own a (.lst (xs++[r.d]))))
 |_=>False
theorem qG(h:n<tW):n<bh:=cm h (gY (bo _))
theorem BE{x:bf}{p1 p2 p3:gm}(hv:PE X (.Name x p1) (rC i))(he:QE X e te)(hs:autoParam (eh (.Call (.Attribute (.Name x p1) "append" p2) [e] [] p3) aq pos.line X.env=fo ao) b7._auto_1)
  (T6:autoParam (iw (.Name x p1) "append" X.env (di (.Name x p1) X.env)=di (.Name x p1) X.env) b7._auto_1)
  (hfew:autoParam (((dq p3 (au [e] X.env)).all (λx=>!x.1)&&(nz p3 (jp [] X.env)).all (λx=>x.1.isSome)
   && decide ([e].length+([]:List sy).length+(if ([]:List sy).isEmpty then 0 else 1)<30))=ai) b7._auto_1)
  (Td:autoParam ((p2.endLine==p3.line)=ai) b7._auto_1) (hst:autoParam (au [e] X.env=(ao,di e X.env)::au [] X.env) b7._auto_1) (Tc:autoParam ((dq p3 (au [] X.env)).any (·.1)=ao) b7._auto_1):
  QS X (.Expr (.Call (.Attribute (.Name x p1) "append" p2) [e] [] p3) pos) (tY i te):=by
 refine⟨λE E' ρ w h=>?_,λHZ F=>cA (rS (EJ kn ub uc qE hv (kE (he.run HZ F) qA hst) T6 hfew Td hst Tc) hs) λD σ H ⟨ρ,E,fr,h,en⟩=>?_⟩
 ·unfold tY at *;split at h
  ·exact he.mono _ _ _ (λr q=>⟨q.1,w.nx _ q.2⟩) h
  ·exact h
 ·unfold tY at h;split at h
  ·rename_i a xs hx;obtain⟨hs1,vs,hv1,rv1⟩:=fr.sl i _ hx;refine⟨_,hs1,.inl ⟨rfl,_,eT.of hv1⟩,he.step fr h λr y H1 q S1 r1=>?_⟩;obtain⟨⟨qf,ql⟩,q2⟩:=q;have rep:=r1.rep (λa m=>fr.dom m) qf;have hv2:=S1 _ _ hv1;refine⟨a,vs,y,rfl,rfl,hv2,by rw[rv1.length];exact qG ql,?_⟩;refine en.nx _ _ _ ((fr.mono S1).write (d':=.lst (xs++[r.d])) hx ⟨_,bC,?_⟩) q2;have G:Gen X.K (MM F ρ) (MM F ρ) H1 (upd H1 a (.lst (vs++[y]))):=Gen.write (.inr ⟨_,cq hx⟩) (by rw[hv2];trivial);exact((rv1.mono S1).append (.cons rep .nil)).gen G
  ·exact h.elim
end
open Classical in
noncomputable def prot(H:Hp)(ρ:List Sl):Hp:=λb=>if ∃d,Sl.own b d∈ρ then aq else H b
section
variable {σ':St}{ρ':List Sl}
theorem sW{d:Dv}(h:Sl.own b d∈ρ):prot H ρ b=aq:=by unfold prot;rw[SS ⟨d,h⟩]
theorem c8(h:¬ ∃d,Sl.own b d∈ρ):prot H ρ b=H b:=by unfold prot;rw[Sm h]
theorem mC(h:prot H ρ b=aa o):H b=aa o:=by
 by_cases c:∃d,Sl.own b d∈ρ
 ·obtain⟨d,c⟩:=c;rw[sW c] at h;cases h
 ·rw[c8 c] at h;exact h
theorem C2(h:prot H ρ b=aq):(∃d,Sl.own b d∈ρ) \/ H b=aq:=by
 by_cases c:∃d,Sl.own b d∈ρ
 ·exact .inl c
 ·rw[c8 c] at h;exact .inr h
theorem Fr.prot(fr:Fr K HZ F σ H ρ):Fr K (prot H ρ) F σ H ρ:=by
 refine⟨fr.len,fr.sl,fr.nd,λa d h=>sW h,λb o h=>mC h,λa h=>?_,λP q z=>?_⟩
 ·rw[c8 ?_]
  ·exact fr.dom (.inl h)
  ·rintro⟨d,c⟩;exact fr.old.f a h (fr.new a d c)
 ·have e:=fr.old.t P q z;rw[c8 ?_]
  ·exact fr.same _ _ e
  ·rintro⟨d,c⟩;rw[fr.new P d c] at e;cases e
theorem Fr.free_of(fr:Fr K HZ F σ H ρ)(h:Z.prot H ρ b=aq):HZ b=aq:=by
 rcases C2 h with⟨d,c⟩ | h
 ·exact fr.new b d c
 ·exact fr.same.free h
theorem Fr.same_of(fr:Fr K HZ F σ H ρ)(S:aI (Z.prot H ρ) H'):aI HZ H':=λb o e=>by
 refine S b o ?_;rw[c8 ?_]
 ·exact fr.same b o e
 ·rintro⟨d,c⟩;rw[fr.new b d c] at e;cases e
theorem Fr.unprot(fr:Fr K HZ F σ H ρ)(g:Fr K (Z.prot H ρ) F σ' H' ρ'):Fr K HZ F σ' H' ρ':=
 ⟨g.len,g.sl,g.nd,λa d h=>fr.free_of (g.new a d h),fr.same_of g.same,fr.old⟩
theorem Fr.gen(fr:Fr K HZ F σ H ρ)(g:Fr K (Z.prot H ρ) F σ' H' ρ'):Gen K (MM F ρ) (MM F ρ') H H':=by
 have no:∀a o,H a=aa o -> ¬MM F ρ a->Z.prot H ρ a=aa o:=λa o e m=>by
  rw[c8 λc=>m (.inr c)];exact e
 have no2:∀a o,H a=aa o -> ¬DC (aa o)->Z.prot H ρ a=aa o:=λa o e m=>by
  rw[c8 ?_]
  ·exact e
  ·rintro⟨d,c⟩;obtain⟨_,_,_,ow⟩:=fr.at_own c;obtain⟨u,hu,mu⟩:=ow.mut;rw[e] at hu;cases hu;exact m mu
 refine⟨λa o e mu m=>⟨g.same _ _ (no a o e m),?_⟩,λa xs e=>g.same _ _ (no2 a _ e λz=>z),λa ns e=>?_,λa o u e=>g.same _ _ (no2 a _ e λz=>z)⟩
 ·rintro(h | ⟨d,h⟩)
  ·exact m (.inl h)
  ·have:=g.new a d h;rw[no a o e m] at this;cases this
 ·rcases e with⟨o,e⟩ | e
  ·exact .inl ⟨o,g.same _ _ (no2 a _ e λz=>z)⟩
  ·exact .inr e
theorem Ent.prot{E:En}{D:Ends}(fr:Fr K HZ F σ H ρ)(en:Ent K HZ F E D):Ent K (Z.prot H ρ) F E D:=by
 refine⟨λρ' σ' H' g h=>en.nx _ _ _ (fr.unprot g) h,λρ' σ' H' g h=>en.bk _ _ _ (fr.unprot g) h,λρ' σ' H' g h=>en.ct _ _ _ (fr.unprot g) h,λr x H' S rr h=>en.rt r x H' (fr.same_of S) ?_ h⟩;cases r with
 |v d=>exact rr
 |ow a d=>exact rr
 |nw d=>obtain⟨a,e,n,o⟩:=rr;exact⟨a,e,fr.free_of n,o⟩
end
noncomputable abbrev sB:=List Sl->(List Dv->List (af×List Dv)->Prop)->Prop
noncomputable def guard(ogs:List (af×List Dv))(ρ:List Sl):Prop:=∀p∈ogs,Sl.own p.1 (.lst p.2)∈ρ
noncomputable def x9(K:aj)(P:Hp)(M:af->Prop)(H1:Hp)(J:It)(ds:List Dv)(ogs:List (af×List Dv)):Prop:=
 ∀(i:Nat) (H':Hp) (M':af->Prop),aI P H'->Gen K M M' H1 H'->(∀p∈ogs,dO K M' H' p.1 (.lst p.2)) ->
  (∀d,ds[i]?=aa d->J.go i H' /\ ∀y H'',J.yld i H' y H''->aI H' H''/\Rep K M' H'' y d)/\(ds.length<=i->J.stop i H')
structure QI(X:Cx)(tg iter:Expr)(ti:sB):Prop where
 mono:∀(ρ:List Sl) (Q Q':List Dv->List (af×List Dv)->Prop),(∀ds g,Q ds g->Q' ds g)->ti ρ Q->ti ρ Q'
 run:∀(HZ:Hp) (F:af->Prop),∃wi,PI X tg iter wi /\ ∀(σ:St) (H:Hp) (ρ:List Sl) (R:It->Hp->Prop),Fr X.K HZ F σ H ρ ->
  ti ρ (λds ogs=>∀J H1,aI H H1->guard ogs ρ->x9 X.K (prot H1 ρ) (MM F ρ) H1 J ds ogs->R J H1)->wi σ H R
variable {P:Hp}{l:Expr}{lo:Int}
section
variable {tl:cQ}
noncomputable def Lh(K:aj)(tl:TE):TI:=λσ H R=>tl σ H λx H1=>∃a,x=.ref a/\(((∃xs,eT K H1 a xs)/\R (MI K a) H1) \/ ((∃xs,kX K H1 a xs)/\R (Pb K a) H1))
theorem J1{tl:TE}(hl:PE X l tl):PI X tg l (Lh X.K tl):=by
 intro pj s σ H R I h;refine thn (hl pj s σ H _ I h) λv s1 zz=>?_;obtain⟨x,H1,I1,r1,q1⟩:=zz;obtain⟨a,e,q1⟩:=q1;subst e;cases r1;rcases q1 with⟨⟨xs,hq⟩,q⟩ | ⟨⟨xs,hq⟩,q⟩
 ·obtain⟨its,rv,p,hz⟩:=I1.list hq;refine yq p.isList ?_;refine⟨s1.heap.objs.size,[s1.heap.objs.size],_,_,H1,rfl,I1.kept (t':=s1.toks) λb o e=>av _ e,Bl a _,⟨_,bq _ rfl,rfl,rfl⟩,λb hb=>?_,q⟩;have e:b=s1.heap.objs.size:=by simpa using hb
  subst e;exact I1.fpOk (bo _) (I1.hok.fresh (bo _))
 ·obtain⟨its,rv,p,hz⟩:=I1.tuple hq;refine wpAny_pyIter_tuple (show s1.heap.IsTuple a its.toArray from p) ?_;refine⟨s1.heap.objs.size,[s1.heap.objs.size],_,_,H1,rfl,I1.kept (t':=s1.toks) λb o e=>av _ e,A1 a _,⟨_,bq _ rfl,rfl,rfl⟩,λb hb=>?_,q⟩;have e:b=s1.heap.objs.size:=by simpa using hb
  subst e;exact I1.fpOk (bo _) (I1.hok.fresh (bo _))
noncomputable def kJ(tl:cQ):sB:=λρ Q=>tl ρ λr=>match r with
 | .v (.lst ds)=>Q ds []
 | .nw (.lst ds)=>Q ds []
 | .ow a (.lst ds)=>Q ds [(a,ds)]
 | .v (.tup ds)=>Q ds []
 | .v (.scr ns)=>Q (ns.map .int) []
 |_=>False
theorem uZ(hP:P a=aa (.lst xs))(r:Reps K M H1 xs ds):x9 K P M H1 (MI K a) ds []:=by
 intro i H' M' S G _;have h':=S _ _ hP;refine⟨λd e=>?_,λh=>⟨xs,eT.of h',by rw[r.length];exact h⟩⟩;obtain⟨x,hx,rx⟩:=r.get e;refine⟨⟨xs,x,eT.of h',hx⟩,λy H'' zz=>?_⟩;obtain⟨e1,e2⟩:=zz;subst e1;have:=e2 xs (eT.of h');rw[hx] at this;cases this;exact⟨aI.refl _,rx.gen G⟩
theorem F6:x9 K P M H1 (MI K a) ds [(a,ds)]:=by
 intro i H' M' S G ow;obtain⟨xs,h',r⟩:=ow (a,ds) (by simp);refine⟨λd e=>?_,λh=>⟨xs,eT.of h',by rw[r.length];exact h⟩⟩;obtain⟨x,hx,rx⟩:=r.get e;refine⟨⟨xs,x,eT.of h',hx⟩,λy H'' zz=>?_⟩;obtain⟨e1,e2⟩:=zz;subst e1;have:=e2 xs (eT.of h');rw[hx] at this;cases this;exact⟨aI.refl _,rx⟩
theorem F4(hP:P a=aa (.tup xs))(r:Reps K M H1 xs ds):x9 K P M H1 (Pb K a) ds []:=by
 intro i H' M' S G _;have h':=S _ _ hP;refine⟨λd e=>?_,λh=>⟨xs,kX.of h',by rw[r.length];exact h⟩⟩;obtain⟨x,hx,rx⟩:=r.get e;refine⟨⟨xs,x,kX.of h',hx⟩,λy H'' zz=>?_⟩;obtain⟨e1,e2⟩:=zz;subst e1;have:=e2 xs (kX.of h');rw[hx] at this;cases this;exact⟨aI.refl _,rx.gen G⟩
theorem F5(hP:Hq K P a ns):x9 K P M H1 (MI K a) (ns.map .int) []:=by
 intro i H' M' S G _;have h':=(aI.scr S hP).sq;refine⟨λd e=>?_,λh=>⟨_,h',by simpa using h⟩⟩;have r:Reps K M' H' (ns.map V.int) (ns.map .int):=Reps.ints ns;obtain⟨x,hx,rx⟩:=r.get e;refine⟨⟨_,x,h',hx⟩,λy H'' zz=>?_⟩;obtain⟨e1,e2⟩:=zz;subst e1;have:=e2 _ h';rw[hx] at this;cases this;exact⟨aI.refl _,rx⟩
theorem BP(fr:Fr K HZ F σ H ρ)(e:H a=aa o)(m:¬DC (aa o)):¬ ∃d,Sl.own a d∈ρ:=by
 rintro⟨d,c⟩;obtain⟨_,_,_,ow⟩:=fr.at_own c;obtain⟨u,hu,mu⟩:=ow.mut;rw[e] at hu;cases hu;exact m mu
theorem eZ(h:QE X l tl):QI X tg l (kJ tl):=by
 refine⟨λρ Q Q' w q=>h.mono _ _ _ (λr q=>?_) q,λHZ F=>⟨_,J1 (h.run HZ F),λσ H ρ R fr q=>?_⟩⟩
 ·unfold kJ at *;split at q<;>first | exact w _ _ q | exact q
 ·refine h.step fr q λr x H1 q S1 r1=>?_;have fr1:=fr.mono S1;split at q
  ·rename_i ds;cases r1 with
   |lst e m rs=>
    exact⟨_,rfl,.inl ⟨⟨_,eT.of e⟩,q _ H1 S1 (by intro p hp;simp at hp) (uZ (by rw[c8 λc=>m (.inr c)];exact e) rs)⟩⟩
  ·rename_i ds;obtain⟨a,rfl,n,xs,e,rs⟩:=r1;exact⟨_,rfl,.inl ⟨⟨_,eT.of e⟩,q _ H1 S1 (by intro p hp;simp at hp) (uZ (by rw[c8 λc=>fr.fresh n (.inr c)];exact e) (rs.weak λb z=>.inl z))⟩⟩
  ·rename_i a ds;obtain⟨rfl,m,xs,e,rs⟩:=r1;exact⟨_,rfl,.inl ⟨⟨_,eT.of e⟩,q _ H1 S1 (by intro p hp;simp at hp;subst hp;exact m) F6⟩⟩
  ·rename_i ds;cases r1 with
   |tup e rs=>exact⟨_,rfl,.inr ⟨⟨_,kX.of e⟩,q _ H1 S1 (by intro p hp;simp at hp) (F4 (by rw[c8 (BP fr1 e λz=>z)];exact e) rs)⟩⟩
  ·rename_i ns;cases r1 with
   |scr e=>
    refine⟨_,rfl,.inl ⟨⟨_,e.sq⟩,q _ H1 S1 (by intro p hp;simp at hp) (F5 ?_)⟩⟩;rcases e with⟨o,e⟩ | e
    ·exact .inl ⟨o,by rw[c8 (BP fr1 e λz=>z)];exact e⟩
    ·exact .inr e
  ·exact q.elim
noncomputable def aR(lo:Int)(n:Nat):List Dv:=(fh n).map λ(k:Nat)=>Dv.int (lo+(k:Int))
theorem AE{d:Dv}(h:(aR lo n)[i]?=aa d):i<n/\d=.int (lo+i):=by
 unfold aR at h;rw[bw] at h;cases e:(fh n)[i]? with
 |none=>rw[e] at h;cases h
 |some k=>
  rw[e] at h;obtain⟨h1,h2⟩:=bj.mp e;simp at h1 h2;subst h2;exact⟨h1,(Option.some.inj h).symm⟩
theorem tI:x9 K P M H1 (MH lo n) (aR lo n) []:=by
 intro i H' M' S G _;refine⟨λd e=>?_,λh=>(show n<=i by simpa [aR] using h)⟩;obtain⟨h1,h2⟩:=AE e;subst h2;refine⟨h1,λy H'' zz=>?_⟩;obtain⟨e1,e2⟩:=zz;subst e1 e2;exact⟨aI.refl _,.int _⟩
noncomputable def cZ(ts:iY):sB:=λρ Q=>ts ρ λrs=>match rs.map R.d with
 | [.int j]=>(-(2 ^ 62)<=j/\j<2 ^ 62)/\Q (aR 0 j.toNat) []
 |_=>False
noncomputable def pD(ts:iY):sB:=λρ Q=>ts ρ λrs=>match rs.map R.d with
 | [.int i,.int j]=>(-(2 ^ 62)<=i/\i<2 ^ 62 /\ -(2 ^ 62)<=j/\j<2 ^ 62)/\Q (aR i (j-i).toNat) []
 |_=>False
theorem dC{d:Dv}(h:zZ K M H xs [d]):∃x,xs=[x]/\dG K M H x d:=by
 cases h with
 |cons a t=>cases t;exact⟨_,rfl,a⟩
theorem As{d d':Dv}(h:zZ K M H xs [d,d']):∃x y,xs=[x,y]/\dG K M H x d/\dG K M H y d':=by
 cases h with
 |cons a t=>
  obtain⟨y,rfl,b⟩:=dC t;exact⟨_,_,rfl,a,b⟩
theorem cG{a:Expr}(hg:Gl X "range")(hm:X.mg "range" = aq)(ha:QA X [a] ts)(hs:autoParam (au [a] X.env=[(ao,di a X.env)]) b7._auto_1):QI X tg (.Call (.Name "range" p) [a] [] pos) (cZ ts):=by
 refine⟨λρ Q Q' w q=>ha.mono _ _ _ (λr q=>?_) q,λHZ F=>⟨_,C6 hg hm (ha.run HZ F) hs,λσ H ρ R fr q=>?_⟩⟩
 ·split at q
  ·exact⟨q.1,w _ _ q.2⟩
  ·exact q
 ·refine ha.step fr q λrs xs H1 q S1 r1=>?_;split at q
  ·rename_i j e;have c:=r1.c;rw[e] at c;obtain⟨x,rfl,cx⟩:=dC c;obtain rfl:=cx.int;exact⟨j,rfl,q.1.1,q.1.2,q.2 _ H1 S1 (by intro p hp;simp at hp) tI⟩
  ·exact q.elim
theorem uQ{a b:Expr}(hg:Gl X "range")(hm:X.mg "range" = aq)(ha:QA X [a,b] ts)(hs:autoParam (au [a,b] X.env=[(ao,di a X.env),(ao,di b X.env)]) b7._auto_1)(hs2:autoParam (au [b] X.env=[(ao,di b X.env)]) b7._auto_1):
  QI X tg (.Call (.Name "range" p) [a,b] [] pos) (pD ts):=by
 refine⟨λρ Q Q' w q=>ha.mono _ _ _ (λr q=>?_) q,λHZ F=>⟨_,C5 hg hm (ha.run HZ F) hs hs2,λσ H ρ R fr q=>?_⟩⟩
 ·split at q
  ·exact⟨q.1,w _ _ q.2⟩
  ·exact q
 ·refine ha.step fr q λrs xs H1 q S1 r1=>?_;split at q
  ·rename_i i j e;have c:=r1.c;rw[e] at c;obtain⟨x,y,rfl,cx,cy⟩:=As c;obtain rfl:=cx.int;obtain rfl:=cy.int;exact⟨i,j,rfl,q.1,q.2 _ H1 S1 (by intro p hp;simp at hp) tI⟩
  ·exact q.elim
end
noncomputable abbrev vD:=Dv->List Sl->(List Sl->Prop)->Prop
structure QG(X:Cx)(tg:Expr)(k:Nat)(g:vD):Prop where
 mono:∀d ρ (Q Q':List Sl->Prop),(∀ρ,Q ρ->Q' ρ)->g d ρ Q->g d ρ Q'
 agree:∀d ρ (Q:List Sl->Prop),g d ρ Q->g d ρ λρ1=>Q ρ1/\ρ1.length=ρ.length /\ ∀j,k<=j->ρ1[j]?=ρ[j]?
 run:∃t,PG X tg t /\ ∀(HZ:Hp) (F:af->Prop) (v:V) (d:Dv) (σ:St) (H:Hp) (ρ:List Sl) (Q:St->Hp->Prop),Fr X.K HZ F σ H ρ->Rep X.K (MM F ρ) H v d ->
  g d ρ (λρ1=>∀σ1,Fr X.K HZ F σ1 H ρ1->(∀j,k<=j->σ1[j]?=σ[j]?)->Q σ1 H)->t v σ H Q
noncomputable def gN(i:Nat):vD:=λd ρ Q=>Q (ρ.set i (.v d))
noncomputable def lH:List Nat->List Dv->List Sl->List Sl
 |i::is,d::ds,ρ=>lH is ds (ρ.set i (.v d))
 |_,_,ρ=>ρ
noncomputable def gT(is:List Nat):vD:=λd ρ Q=>match d with
 | .tup ds=>ds.length=is.length/\Q (lH is ds ρ)
 |_=>False
noncomputable def On:List Nat->IK
 | []=>Ln
 |i::is=>IG (yW i) (On is)
theorem sP:∀(is:List Nat) (ds:List Dv) (ρ:List Sl),(lH is ds ρ).length=ρ.length
 | [],_,_=>rfl
 |_::_,[],_=>rfl
 |i::is,d::ds,ρ=>by rw[lH,sP is ds];simp
theorem sQ{k:Nat}:∀(is:List Nat) (ds:List Dv) (ρ:List Sl),(∀i∈is,i<k) -> ∀j,k<=j->(lH is ds ρ)[j]?=ρ[j]?
 | [],_,_,_,_,_=>rfl
 |_::_,[],_,_,_,_=>rfl
 |i::is,d::ds,ρ,h,j,hj=>by
  have:=h i (by simp);rw[lH,sQ is ds _ (λi hi=>h i (by simp[hi])) j hj,er ⋯]
theorem gB{k:Nat}{x:bf}(hN:X.N.Nodup)(hi:X.N[i]?=aa x)(hx:xC X.env.scope x)(hk:autoParam (i<k) hG._auto_1)(hf:autoParam (X.fn x=ai \/ X.env.scope.names.lookup x=aa .local) xA._auto_1):QG X (.Name x pos) k (gN i):=by
 refine⟨λd ρ Q Q' w q=>w _ q,λd ρ Q q=>⟨q,by simp,λj hj=>by rw[er ⋯]⟩,_,eR hN hi hx hf,λHZ F v d σ H ρ Q fr r q=>?_⟩;exact q _ (fr.setv r) λj hj=>by rw[er ⋯]
theorem BY{K:aj}{HZ:Hp}{F:af->Prop}{H:Hp}{k:Nat}:∀(is:List Nat) (ds:List Dv) (vs:List V) (σ:St) (ρ:List Sl) (Q:St->Hp->Prop),(∀i∈is,i<k)->ds.length=is.length->Fr K HZ F σ H ρ->Reps K (MM F ρ) H vs ds ->
  (∀σ1,Fr K HZ F σ1 H (lH is ds ρ)->(∀j,k<=j->σ1[j]?=σ[j]?)->Q σ1 H)->On is vs σ H Q
 | [],[],_,σ,ρ,Q,_,_,fr,.nil,q=>⟨rfl,q σ fr λ_ _=>rfl⟩
 |i::is,d::ds,_,σ,ρ,Q,hk,hl,fr,.cons (x:=x) a r,q=>by
  refine⟨x,_,rfl,?_⟩;have wk:∀b,MM F (ρ.set i (.v d)) b->MM F ρ b:=λb h=>by
   rcases MM.set b h with h | ⟨_,h⟩
   ·exact h
   ·cases h
  refine BY is ds _ _ (ρ.set i (.v d)) Q (λi hi=>hk i (by simp[hi])) (by simpa using hl) (fr.setv a) (r.weak wk) λσ1 f1 e1=>q σ1 f1 λj hj=>?_;have:=hk i (by simp);rw[e1 j hj,er ⋯]
theorem Dm{x1 k:Nat}{is:List Nat}(hc:X.calm=ai)(h:ME X es (On is))(hk:autoParam (∀i∈is,i<k) hG._auto_1)(hl:autoParam (is.length=n) b7._auto_1)
  (hn:autoParam ((lz es X.env).length=n) b7._auto_1) (hst:autoParam ((lz es X.env).findIdx? (·.1)=aq) b7._auto_1):QG X (.Tuple es x1 pos) k (gT is):=by
 refine⟨λd ρ Q Q' w q=>?_,λd ρ Q q=>?_,_,J2 hc h hn hst,λHZ F v d σ H ρ Q fr r q=>?_⟩
 ·unfold gT at *;split at q
  ·exact⟨q.1,w _ q.2⟩
  ·exact q
 ·unfold gT at *;split at q
  ·exact⟨q.1,q.2,sP _ _ _,sQ _ _ _ hk⟩
  ·exact q
 ·unfold gT at q;split at q
  ·cases r with
   |tup e rs=>exact⟨_,_,rfl,kX.of e,by rw[rs.length,q.1,hl],BY is _ _ σ ρ Q hk q.1 fr rs q.2⟩
  ·exact q.elim
noncomputable def aT(g:vD)(tb:bV)(ogs:List (af×List Dv)):List Dv->bV
 | []=>λE ρ=>guard ogs ρ/\E.nx ρ
 |d::r=>λE ρ=>guard ogs ρ/\g d ρ λρ1=>tb { E with nx:=aT g tb ogs r E,ct:=aT g tb ogs r E,bk:=E.nx } ρ1
noncomputable def fK(ti:sB)(g:vD)(tb:bV):bV:=λE ρ=>ti ρ λds ogs=>aT g tb ogs ds E ρ
section
variable {iter c:Expr}{ti:sB}{g:vD}{tb:bV}{k:Nat}
theorem iQ(mg:∀d ρ (Q Q':List Sl->Prop),(∀ρ,Q ρ->Q' ρ)->g d ρ Q->g d ρ Q')(mb:∀E E' ρ,EnLe E E'->tb E ρ->tb E' ρ)(ogs:List (af×List Dv)):∀(ds:List Dv) (E E':En) (ρ:List Sl),EnLe E E'->aT g tb ogs ds E ρ->aT g tb ogs ds E' ρ
 | [],E,E',ρ,w,h=>⟨h.1,w.nx _ h.2⟩
 |d::r,E,E',ρ,w,h=>by
  have w2:EnLe { E with nx:=aT g tb ogs r E,ct:=aT g tb ogs r E,bk:=E.nx } { E' with nx:=aT g tb ogs r E',ct:=aT g tb ogs r E',bk:=E'.nx }:=
   ⟨λρ h=>iQ mg mb ogs r E E' ρ w h,w.rt,w.nx,λρ h=>iQ mg mb ogs r E E' ρ w h⟩
  exact⟨h.1,mg _ _ _ _ (λρ1 h=>mb _ _ _ w2 h) h.2⟩
theorem bE(ogs:List (af×List Dv))(E:En)(ρ:List Sl):aT g tb ogs [] E ρ=(guard ogs ρ/\E.nx ρ):=rfl
theorem aS(ogs:List (af×List Dv))(d:Dv)(r:List Dv)(E:En)(ρ:List Sl):aT g tb ogs (d::r) E ρ=(guard ogs ρ/\g d ρ λρ1=>tb { E with nx:=aT g tb ogs r E,ct:=aT g tb ogs r E,bk:=E.nx } ρ1):=rfl
theorem lM{ogs:List (af×List Dv)}:∀{ds:List Dv},aT g tb ogs ds E ρ->guard ogs ρ
 | [],h=>by rw[bE] at h;exact h.1
 |_::_,h=>by rw[aS] at h;exact h.1
theorem eN(hp:zd (bn X.prog X.w) X.A X.env X.xe)(hc:X.N=X.N)(hi:QI X tg iter ti)(hg:QG X tg k g)(hb:QSs X T1 tb)(hs:autoParam (∀x,fe iter X.env x=fo x) B1._auto_1):QS X (.For tg iter T1 [] pos) (fK ti g tb):=by
 refine⟨λE E' ρ w h=>hi.mono _ _ _ (λds ogs h=>iQ hg.mono hb.mono ogs ds E E' ρ w h) h,λHZ F=>?_⟩;obtain⟨wi,hwi,wiq⟩:=hi.run HZ F;obtain⟨tt,htt,ttq⟩:=hg.run;have hb':pP X T1 (λD σ H=>∃P,liftS X.K P F tb D σ H):=λpj s σ H D I zq0=>by obtain⟨P,q⟩:=zq0;exact hb.run P F pj s σ H D I q
 refine cA (AG hp hc hwi htt hb' hs) λD σ H zz=>?_;obtain⟨ρ,E,fr,h,en⟩:=zz;refine wiq σ H ρ _ fr (hi.mono _ _ _ (λds ogs q J H2 S2 _ ok=>?_) h);have fr2:=fr.mono S2;have en2:Ent X.K (prot H2 ρ) F E D:=en.prot fr2;refine⟨λi m σ' H'=>m=ds.length-i/\i<=ds.length /\ ∃ρ',Fr X.K (prot H2 ρ) F σ' H' ρ'/\aT g tb ogs (ds.drop i) E ρ',⟨ds.length,by simp,mj _,ρ,fr2.prot,by simpa using q⟩,?_⟩;rintro i m σ' H' ⟨rfl,hil,ρ',fr',q'⟩;have gd:guard ogs ρ':=lM q';have Gn:=fr2.gen fr';have oks:=ok i H' (MM F ρ') fr'.same Gn λp hp=>let ⟨_,_,_,h⟩:=fr'.at_own (gd p hp);h;by_cases hlt:i<ds.length
 ·have hd:ds[i]?=aa ds[i]:=by simp[hlt]
  have hdr:ds.drop i=ds[i]::ds.drop (i+1):=ik hlt;rw[hdr,aS] at q';obtain⟨go,yld⟩:=oks.1 _ hd;refine .inr ⟨go,λσ2 H2'=>∃ρ2,Fr X.K (prot H2 ρ) F σ2 H2' ρ2/\aT g tb ogs (ds.drop (i+1)) E ρ2,λσ2 H2' zq1=>by obtain⟨ρ2,f2',q2⟩:=zq1;exact⟨ds.length-(i+1),⋯,rfl,hlt,ρ2,f2',q2⟩,λy H3 hy=>?_⟩;obtain⟨S3,ry⟩:=yld y H3 hy;refine ttq _ F y _ σ' H3 ρ' _ (fr'.mono S3) ry (hg.mono _ _ _ _ (λρ1 q1 σ1 f1 _=>?_) q'.2);exact⟨_,ρ1,_,f1,q1,λρ3 σ3 H3' f3 q3=>⟨ρ3,f3,q3⟩,en2.nx,λρ3 σ3 H3' f3 q3=>⟨ρ3,f3,q3⟩,en2.rt⟩
 ·have e:i=ds.length:=⋯;subst e;rw[tm,bE] at q';exact .inl ⟨oks.2 (bo _),en2.nx _ _ _ fr' q'.2⟩
end
end Z
variable {Q:Z.R->Prop}{te:Z.cQ}{ds:List Z.Dv}{ρ:List Z.Sl}{ts:Z.iY}
namespace Z
open L2
noncomputable def Db(tc:jZ)(tb:bV):bV:=λE ρ=>∃I:Nat->List Sl->Prop,(∃m,I m ρ) /\ ∀m ρ,I m ρ->tc ρ λb=>
 if b=ai then tb { E with nx:=λρ'=>∃m',m'<m/\I m' ρ',ct:=λρ'=>∃m',m'<m/\I m' ρ',bk:=E.nx } ρ else E.nx ρ
variable {js:List Nat}{σ:St}{j:Nat}{g:vD}{elt iter:Expr}{ti:sB}
section
variable {c:Expr}{tb:bV}{k:Nat}{tc:jZ}
theorem GF(hp:zd (bn X.prog X.w) X.A X.env X.xe)(hc:QT X c tc)(hb:QSs X T1 tb):QS X (.While c T1 [] pos) (Db tc tb):=by
 refine⟨λE E' ρ w h=>?_,λHZ F=>cA (Dx hp (hc.run HZ F) (hb.run HZ F)) λD σ H ⟨ρ,E,fr,h,en⟩=>?_⟩
 ·obtain⟨I,i0,step⟩:=h;refine⟨I,i0,λm ρ hI=>hc.mono _ _ _ (λb q=>?_) (step m ρ hI)⟩;have w2:EnLe { E with nx:=λρ'=>∃m',m'<m/\I m' ρ',ct:=λρ'=>∃m',m'<m/\I m' ρ',bk:=E.nx } { E' with nx:=λρ'=>∃m',m'<m/\I m' ρ',ct:=λρ'=>∃m',m'<m/\I m' ρ',bk:=E'.nx }:=
   ⟨λ_ h=>h,w.rt,w.nx,λ_ h=>h⟩
  split at q
  ·rw[SS ‹_›];exact hb.mono _ _ _ w2 q
  ·rw[Sm ‹_›];exact w.nx _ q
 ·obtain⟨I,⟨m0,i0⟩,step⟩:=h;refine⟨λm σ H=>∃ρ,Fr X.K HZ F σ H ρ/\I m ρ,⟨m0,ρ,fr,i0⟩,?_⟩;rintro m σ H ⟨ρ,fr,hI⟩;refine hc.step fr (step m ρ hI) λb H1 q S1=>?_;cases b with
  |true=>
   simp only[if_true] at q;refine iO ⟨λσ' H'=>∃m',m'<m /\ ∃ρ',Fr X.K HZ F σ' H' ρ'/\I m' ρ',λσ' H' zq2=>by obtain⟨m',l,h⟩:=zq2;exact⟨m',l,h⟩,ρ,_,fr.mono S1,q,?_,en.nx,?_,en.rt⟩
   ·rintro ρ' σ' H' fr' ⟨m',l,h⟩;exact⟨m',l,ρ',fr',h⟩
   ·rintro ρ' σ' H' fr' ⟨m',l,h⟩;exact⟨m',l,ρ',fr',h⟩
  |false=>exact iP (en.nx _ _ _ (fr.mono S1) (by simpa using q))
noncomputable def dM(js:List Nat)(ρ:List Sl):List Sl:=js.map λj=>(ρ[j]?).getD .un
noncomputable def cT(ρ0:List Sl)(g:vD)(tt:jZ)(te:cQ):List Dv->List Dv->(R->Prop)->Prop
 | [],acc,Q=>Q (.nw (.lst acc))
 |d::r,acc,Q=>g d ρ0 λρ1=>tt ρ1 λb=>if b=ai then te ρ1 λv=>(v.free=ai/\acc.length<tW)/\cT ρ0 g tt te r (acc++[v.d]) Q else cT ρ0 g tt te r acc Q
noncomputable def hX(k:Nat)(js:List Nat)(ti:sB)(g:vD)(tt:jZ)(te:cQ):cQ:=λρ Q=>ti ρ λds _=>cT (bc k .un++dM js ρ) g tt te ds [] Q
structure QTs(X:Cx)(ifs:List Expr)(t:jZ):Prop where
 mono:∀(ρ:List Sl) (Q Q':Bool->Prop),(∀r,Q r->Q' r)->t ρ Q->t ρ Q'
 run:∀(HZ:Hp) (F:af->Prop),KO X ifs (liftT X.K HZ F t)
noncomputable def dS:jZ:=λ_ Q=>Q ai
theorem hZ:QTs X [] dS:=⟨λ_ _ _ w q=>w _ q,λHZ F pj s σ H Q I zq3=>by obtain⟨ρ,fr,q⟩:=zq3;exact GM pj s σ H Q I (q H (aI.refl _))⟩
theorem jS{s:Sl}(h:(dM js ρ)[i]?=aa s)(hs:s ≠ .un):∃j,js[i]?=aa j/\ρ[j]?=aa s:=by
 unfold dM at h;rw[bw] at h;cases e:js[i]? with
 |none=>rw[e] at h;cases h
 |some j=>
  rw[e] at h;refine⟨j,rfl,?_⟩;have h':(ρ[j]?).getD .un=s:=Option.some.inj h;cases q:ρ[j]? with
  |none=>rw[q] at h';exact absurd h'.symm hs
  |some o=>rw[q] at h';exact congrArg aa h'
theorem BJ{x:V}(hj:js[i]?=aa j)(h:σ[j]?=aa (aa x)):(pick js σ)[i]?=aa (aa x):=by
 unfold pick;rw[bw,hj,map_some,h];rfl
theorem j8{ρ0:List Sl}{tt:jZ}(mg:∀d ρ (Q Q':List Sl->Prop),(∀ρ,Q ρ->Q' ρ)->g d ρ Q->g d ρ Q')(mt:∀(ρ:List Sl) (Q Q':Bool->Prop),(∀r,Q r->Q' r)->tt ρ Q->tt ρ Q')(me:∀(ρ:List Sl) (Q Q':R->Prop),(∀r,Q r->Q' r)->te ρ Q->te ρ Q'):
  ∀(ds acc:List Dv) (Q Q':R->Prop),(∀r,Q r->Q' r)->cT ρ0 g tt te ds acc Q->cT ρ0 g tt te ds acc Q'
 | [],acc,Q,Q',w,h=>w _ h
 |d::r,acc,Q,Q',w,h=>by
  refine mg _ _ _ _ (λρ1 h=>mt _ _ _ (λb h=>?_) h) h;split at h
  ·rw[SS ‹_›];exact me _ _ _ (λv h=>⟨h.1,j8 mg mt me r _ Q Q' w h.2⟩) h
  ·rw[Sm ‹_›];exact j8 mg mt me r _ Q Q' w h
theorem CQ{l:List Nat}(hN:l.Nodup){x:Nat}(a:l[i]?=aa x)(b:l[j]?=aa x):i=j:=by
 obtain⟨h1,e1⟩:=bj.mp a;obtain⟨h2,e2⟩:=bj.mp b;have P:=gp.mp hN;rcases Nat.lt_trichotomy i j with h | h | h
 ·exact absurd (e1.trans e2.symm) (P i j h1 h2 h)
 ·exact h
 ·exact absurd (e2.trans e1.symm) (P j i h2 h1 h)
theorem Fr.block{H2:Hp}{k:Nat}{D:af}{old:St}(fr:Fr K HZ F σ H ρ)(S:aI H H2)(hD:H D=aq)(hD2:H2 D≠aq)(nd:js.Nodup)(lo:old.length=k):
  ∃(P:Hp) (F':af->Prop),Fr K P F' (old++pick js σ) H2 (bc k .un++dM js ρ)/\(∀a,MM F' (bc k .un++dM js ρ) a ↔ MM F ρ a \/ a=D)/\(∀a,F' a ↔ (MM F ρ a \/ a=D) /\ ¬ ∃d,Sl.own a d∈dM js ρ):=by
 have mem:∀{a:af} {d:Dv},Sl.own a d∈bc k Sl.un++dM js ρ->Sl.own a d∈dM js ρ:=λh=>by
  rcases fu.mp h with h | h
  ·cases ga h
  ·exact h
 have sub:∀{a:af} {d:Dv},Sl.own a d∈dM js ρ->Sl.own a d∈ρ:=λh=>by
  obtain⟨i,e⟩:=jb.mp h;obtain⟨j,_,e2⟩:=jS e (by intro z;cases z);exact cq e2
 refine⟨Z.prot H2 (dM js ρ),λa=>(MM F ρ a \/ a=D) /\ ¬ ∃d,Sl.own a d∈dM js ρ,?_,λa=>⟨λh=>?_,λh=>?_⟩,λa=>Iff.rfl⟩
 ·have iff:∀a,MM (λa=>(MM F ρ a \/ a=D) /\ ¬ ∃d,Sl.own a d∈dM js ρ) (bc k .un++dM js ρ) a->MM F ρ a \/ a=D:=λa h=>by
   rcases h with h | ⟨d,h⟩
   ·exact h.1
   ·exact .inl (.inr ⟨d,sub (mem h)⟩)
  have G:Gen K (MM F ρ) (MM (λa=>(MM F ρ a \/ a=D) /\ ¬ ∃d,Sl.own a d∈dM js ρ) (bc k .un++dM js ρ)) H H2:=((Gen.fresh hD).trans (.mono S)).trans (.weak iff);refine⟨by simp[pick,dM,lo],λi s e=>?_,λi j a d d' e1 e2=>?_,λa d h=>sW (mem h),λb o h=>mC h,λa h=>?_,λPt q z=>?_⟩
  ·by_cases hi:i<k
   ·rw[bp (by simpa using hi),fk,SS hi] at e;cases e;trivial
   ·rw[cg (by simpa using ml hi),kg] at e;rw[cg (by rw[lo];exact ml hi),lo];cases s with
    |un=>trivial
    |v d=>
     obtain⟨j,hj,e2⟩:=jS e (by intro z;cases z);obtain⟨x,hx,r⟩:=fr.sl j _ e2;exact⟨x,BJ hj hx,r.gen G⟩
    |own a d=>
     obtain⟨j,hj,e2⟩:=jS e (by intro z;cases z);obtain⟨hx,r⟩:=fr.sl j _ e2;exact⟨BJ hj hx,r.gen G λo e=>S _ _ e⟩
  ·have ge:∀{i:Nat} {d:Dv},(bc k Sl.un++dM js ρ)[i]?=aa (.own a d)->k<=i/\(dM js ρ)[i-k]?=aa (.own a d):=λ{i d} e=>by
    by_cases hi:i<k
    ·rw[bp (by simpa using hi),fk,SS hi] at e;cases e
    ·rw[cg (by simpa using ml hi),kg] at e;exact⟨ml hi,e⟩
   obtain⟨k1,e1⟩:=ge e1;obtain⟨k2,e2⟩:=ge e2;obtain⟨j1,hj1,e1⟩:=jS e1 (by intro z;cases z);obtain⟨j2,hj2,e2⟩:=jS e2 (by intro z;cases z);have:=fr.nd j1 j2 a d d' e1 e2;subst this;have:=CQ nd hj1 hj2;right
  ·rw[c8 h.2];rcases h.1 with m | m
   ·intro z;exact fr.dom m (S.free z)
   ·rw[m];exact hD2
  ·have e:=fr.old.t Pt q z;rw[c8 ?_]
   ·exact S _ _ (fr.same _ _ e)
   ·rintro⟨d,c⟩;rw[fr.new Pt d (sub c)] at e;cases e
 ·rcases h with h | ⟨d,h⟩
  ·exact h.1
  ·exact .inl (.inr ⟨d,sub (mem h)⟩)
 ·by_cases c:∃d,Sl.own a d∈dM js ρ
  ·obtain⟨d,c⟩:=c;exact .inr ⟨d,dh _ c⟩
  ·exact .inl ⟨h,c⟩
end
inductive liftG(K:aj)(k:Nat)(g:vD)(v:V)(σ:St)(H:Hp)(Q:St->Hp->Prop):Prop
 |mk (d:Dv) (HZ:Hp) (F:af->Prop) (ρ:List Sl) (fr:Fr K HZ F σ H ρ) (r:Rep K (MM F ρ) H v d) (h:g d ρ (λρ1=>∀σ1,Fr K HZ F σ1 H ρ1->(∀j,k<=j->σ1[j]?=σ[j]?)->Q σ1 H))
theorem QG.pg{k:Nat}(h:QG X tg k g):PG X tg (liftG X.K k g):=by
 obtain⟨t,ht,tq⟩:=h.run;intro pj s σ H v u Q I r ⟨d,HZ,F,ρ,fr,rv,q⟩;exact ht pj s σ H v u Q I r (tq HZ F v d σ H ρ Q fr rv q)
theorem QE.pe(h:QE X e te):PE X e (λσ H Q=>∃HZ F,lift X.K HZ F te σ H Q):=λpj s σ H Q I zq4=>by obtain⟨HZ,F,q⟩:=zq4;exact h.run HZ F pj s σ H Q I q
variable {tt:jZ}
theorem QTs.pt(h:QTs X ifs tt):KO X ifs (λσ H Q=>∃HZ F,liftT X.K HZ F tt σ H Q):=λpj s σ H Q I zq5=>by obtain⟨HZ,F,q⟩:=zq5;exact h.run HZ F pj s σ H Q I q
theorem xJ{l a b:List α}{k:Nat}(ha:a.length=k)(hl:l.length=k+b.length)(h:∀j,k<=j->l[j]?=(a++b)[j]?):l=l.take k++b:=by
 refine oo λj=>?_;by_cases hj:j<k
 ·rw[bp (by rw[jq];right),ua hj]
 ·rw[h j ⋯,cg ⋯,cg (by rw[jq];right),ha,jq,we ⋯]
theorem Im{tgt:Expr}{cl:List (bf×af)}{tgs ns:List bf}{k:Nat}(hc:X.N=X.N)(hk:tgs.length=k)
  (hi:QI X tgt iter ti) (hg:∀(fp:List af) (s:ah) (H:Hp),QG (o9 X SU cl fp (tgs++ns) s H) tgt k g) (ht:∀(fp:List af) (s:ah) (H:Hp),QTs (o9 X SU cl fp (tgs++ns) s H) ifs tt)
  (he:∀(fp:List af) (s:ah) (H:Hp),QE (o9 X SU cl fp (tgs++ns) s H) elt te)
  (Te:ph SU X.env=fo cl) (Ta:∀x c,cl.lookup x=aa c->X.env.cells.lookup x=aa c)
  (Tp:∀x,((fz SU X.env).names.lookup x=aa .cell \/ (fz SU X.env).names.lookup x=aa .free) -> ∃c,cl.lookup x=aa c)
  (hjs:js.map (λj=>X.N[j]?)=ns.map aa) (hin:∀y∈ns,(fz SU X.env).names.lookup y=aa .cell \/ (fz SU X.env).names.lookup y=aa .free)
  (Tf:∀y∈ns,X.env.kindOf y=aa .cell \/ X.env.kindOf y=aa .free) (nd:js.Nodup)
  (SY:autoParam (∀y∈SU.names,y.2 ≠ .cell) B0._auto_1) (T0:autoParam (SU.kind=.function) b7._auto_1)
  (T4:autoParam (∀y∈SU.names,y.2=.local->SU.names.lookup y.1=aa .local) B0._auto_1)
  (hs:autoParam (∀z,fe iter X.env z=fo z) B1._auto_1):
  QE X (.ListComp elt [⟨tgt,iter,ifs,0⟩] SU pos) (hX k js ti g tt te):=by
 have mg:=(hg [] X.s₀ λ_=>aq).mono;have ag:=(hg [] X.s₀ λ_=>aq).agree;have mt:=(ht [] X.s₀ λ_=>aq).mono;have me:=(he [] X.s₀ λ_=>aq).mono;refine⟨λρ Q Q' w h=>hi.mono _ _ _ (λds ogs h=>j8 mg mt me ds [] Q Q' w h) h,λHZ F=>?_⟩;obtain⟨wi,hwi,wiq⟩:=hi.run HZ F;refine bX (EG (tgs:=tgs) (ns:=ns) (js:=js) (g:=liftG X.K k g) (tt:=λσ H Q=>∃HZ F,liftT X.K HZ F tt σ H Q) (te:=λσ H Q=>∃HZ F,lift X.K HZ F te σ H Q) hc hwi (λfp s H=>(hg fp s H).pg) (λfp s H=>(ht fp s H).pt) (λfp s H=>(he fp s H).pe) Te Ta Tp hjs hin Tf SY T0 T4 hs) λσ H Q zz=>?_;obtain⟨ρ,fr,h⟩:=zz;subst hk;refine wiq σ H ρ _ fr (hi.mono _ _ _ (λds ogs q J H1 S1 gd ok=>?_) h);intro D hD;have fr1:=fr.mono S1;refine⟨λi m acc H2=>m=ds.length-i/\i<=ds.length/\aI H1 H2 /\ ∃accD,Reps X.K (λa=>MM F ρ a \/ a=D) H2 acc accD /\
  cT (bc tgs.length .un++dM js ρ) g tt te (ds.drop i) accD (λr=>∀x H',aI H H'->d5 X.K (MM F ρ) (uK ρ) H x r H'->Q x H'),
  ⟨ds.length,by simp,mj _,aI.new' hD,[],.nil,by simpa using q⟩,?_⟩
 rintro i m acc H2 ⟨rfl,hil,S2,accD,ra,q⟩ hDl;have G2:Gen X.K (MM F ρ) (λa=>MM F ρ a \/ a=D) H1 H2:=(Gen.fresh hD).trans (.mono S2);have oks:=ok i H2 (λa=>MM F ρ a \/ a=D) (λb o e=>S2 _ _ (mC e)) G2 λp hp=>by
  obtain⟨_,_,_,ow⟩:=fr1.at_own (gd p hp);exact ow.gen G2 λo e=>S2 _ _ e
 by_cases hlt:i<ds.length
 ·have hd:ds[i]?=aa ds[i]:=by simp[hlt]
  rw[ik hlt] at q;obtain⟨go,yld⟩:=oks.1 _ hd;refine .inr ⟨go,λy H3 hy old lo=>?_⟩;obtain⟨S3,ry⟩:=yld y H3 hy;have hD3:=S3 _ _ hDl;obtain⟨P,F',fr',iff,iffF⟩:=fr1.block (js:=js) (old:=old) (S2.trans S3) hD (by rw[hD3];simp) nd lo;refine⟨_,P,F',_,fr',ry.weak λa z=>(iff a).mp z,mg _ _ _ _ (λρ1 q1 σ1 f1 a1=>?_) (ag _ _ _ q)⟩;obtain⟨q1,l1,b1⟩:=q1;have up:∀a,MM F ρ a \/ a=D->MM F' ρ1 a:=λa z=>by
   rcases(iff a).mpr z with z | ⟨d,z⟩
   ·exact .inl z
   ·refine .inr ⟨d,?_⟩;obtain⟨j,e⟩:=jb.mp z;have hj:tgs.length<=j:=by
     by_cases hj:j<tgs.length
     ·rw[bp (by simpa using hj),fk,SS hj] at e;cases e
     ·right
    rw[<- b1 j hj] at e;exact cq e
  have hlen:σ1.length=tgs.length+(pick js σ).length:=by
   have:=f1.len;rw[l1] at this;simp[pick,dM] at this ⊢;right
  refine⟨⟨σ1.take tgs.length,by rw[jq];right,xJ lo hlen a1⟩,P,F',ρ1,f1,mt _ _ _ (λb q5 H5 S5=>?_) q1⟩;have S25:=(S2.trans S3).trans S5;cases b with
  |true=>
   simp only[if_true] at q5;refine iO ⟨P,F',ρ1,f1.mono S5,me _ _ _ (λr q6 x H6 S6 rx=>?_) q5⟩;have hD6:=S6 _ _ (S5 _ _ hD3);obtain⟨⟨rf,rl⟩,q6⟩:=q6;have rep:=(rx.rep (λa z=>(f1.mono S5).dom z) rf).weak up;refine⟨hD6,by rw[ra.length];exact qG rl,ds.length-(i+1),⋯,rfl,hlt,λb o e=>?_,_,?_,q6⟩
   ·rw[aQ (aX e hD)];exact S6 _ _ (S25 _ _ e)
   ·have G6:Gen X.K (λa=>MM F ρ a \/ a=D) (λa=>MM F ρ a \/ a=D) H6 (upd H6 D (.lst (acc++[x]))):=Gen.write (.inr rfl) (by rw[hD6];trivial);exact((ra.mono ((S3.trans S5).trans S6)).append (.cons rep .nil)).gen G6
  |false=>
   simp only[dw,if_false] at q5;exact iP ⟨S5 _ _ hD3,ds.length-(i+1),⋯,rfl,hlt,S25,accD,ra.mono (S3.trans S5),q5⟩
 ·have e:i=ds.length:=⋯;subst e;rw[tm] at q;exact .inl ⟨oks.2 (bo _),q (.ref D) H2 (S1.trans S2) ⟨D,rfl,S1.free hD,acc,hDl,ra⟩⟩
noncomputable def jY(X:Cx)(f:ac)(p:List Dv->(R->Prop)->Prop):Prop:=
 (∀ds (Q Q':R->Prop),(∀r,Q r->Q' r)->p ds Q->p ds Q') /\ ∃r:List V->Hp->VK->Prop,eB X f r /\ ∀(M:af->Prop) (O:af->Dv->Prop) (H:Hp) (xs:List V) (ds:List Dv) (Q:VK),zZ X.K M H xs ds ->
  p ds (λrr=>∀z H',aI H H'->d5 X.K M O H z rr H'->Q z H')->r xs H Q
noncomputable def gC(p:List Dv->(R->Prop)->Prop)(ts:iY):cQ:=λρ Q=>ts ρ λrs=>p (rs.map R.d) Q
variable {T:String}
section
variable {x:bf}{id:String}{pp:List Dv->(R->Prop)->Prop}
theorem Be{r:List V->Hp->VK->Prop}(ha:QA X es ts)(mo:∀ds (Q Q':R->Prop),(∀r,Q r->Q' r)->pp ds Q->pp ds Q')
  (hr:∀(M:af->Prop) (O:af->Dv->Prop) (H:Hp) (xs:List V) (ds:List Dv) (Q:VK),zZ X.K M H xs ds->pp ds (λrr=>∀z H',aI H H'->d5 X.K M O H z rr H'->Q z H')->r xs H Q)
  (HZ:Hp) (F:af->Prop) (σ:St) (H:Hp) (Q:VK) (h:lift X.K HZ F (gC pp ts) σ H Q):NW r (liftA X.K HZ F ts) σ H Q:=by
 obtain⟨ρ,fr,h⟩:=h;refine ha.step fr h λrs xs H1 q S1 r1=>?_;exact hr (MM F ρ) (uK ρ) H1 xs _ Q r1.c (mo _ _ _ (λrr k z H' S rz=>k z H' (S1.trans S) (rz.ahead S1)) q)
theorem b5(hc:jY X (.builtin id) pp)(hg:Gl X x)(hm:X.mg x=aq)(hv:kr x=aa (.builtin id))(ha:QA X (e::es) ts)(hn:autoParam (x ≠ "__name__") hG._auto_1)(hdb:autoParam ((x==("__debug__" : bf))=ao) hG._auto_1)
  (he:autoParam (au (e::es) X.env=(ao,di e X.env)::au es X.env) b7._auto_1) (hpl:autoParam ((dq pos (au es X.env)).any (·.1)=ao) b7._auto_1):QE X (.Call (.Name x p) (e::es) [] pos) (gC pp ts):=by
 obtain⟨mo,r,hR,hr⟩:=hc;exact⟨λρ Q Q' w q=>ha.mono _ _ _ (λrs q=>mo _ _ _ w q) q,λHZ F=>bX (xW hR hg hm hv (ha.run HZ F) hn hdb he hpl) (Be ha mo hr HZ F)⟩
theorem oZ(hc:jY X (.type T) pp)(hg:Gl X x)(hm:X.mg x=aq)(hv:kr x=aa (.type T))(ha:QA X (e::es) ts)(hn:autoParam (x ≠ "__name__") hG._auto_1)(hdb:autoParam ((x==("__debug__" : bf))=ao) hG._auto_1)
  (he:autoParam (au (e::es) X.env=(ao,di e X.env)::au es X.env) b7._auto_1) (hpl:autoParam ((dq pos (au es X.env)).any (·.1)=ao) b7._auto_1):QE X (.Call (.Name x p) (e::es) [] pos) (gC pp ts):=by
 obtain⟨mo,r,hR,hr⟩:=hc;exact⟨λρ Q Q' w q=>ha.mono _ _ _ (λrs q=>mo _ _ _ w q) q,λHZ F=>bX (q9 hR hg hm hv (ha.run HZ F) hn hdb he hpl) (Be ha mo hr HZ F)⟩
noncomputable def dA:List Dv->(R->Prop)->Prop
 | [.lst xs],Q=>Q (.v (.int xs.length))
 | [.tup xs],Q=>Q (.v (.int xs.length))
 | [.scr ns],Q=>Q (.v (.int ns.length))
 | [.str y],Q=>y.length<=tW/\Q (.v (.int y.length))
 | [.dik kvs],Q=>Q (.v (.int kvs.length))
 |_,_=>False
theorem RepK.length{K:aj}{M:af->Prop}{H:Hp}{xs:List (bI×V)}{ds:List (bI×Dv)}(r:RepK K M H xs ds):xs.length=ds.length:=r.ind (P:=λxs ds=>xs.length=ds.length) rfl λ_ _ _ _ _ _ _ ih=>congrArg (· + 1) ih
theorem c7:jY X (.builtin "len") dA:=by
 refine⟨λds Q Q' w h=>?_,_,wW.or (wV.or D8),λM O H xs ds Q c h=>?_⟩
 ·unfold dA at *;split at h<;>first | exact w _ h | exact⟨h.1,w _ h.2⟩ | exact h
 ·unfold dA at h;split at h
  ·obtain⟨x,rfl,cx⟩:=dC c;obtain⟨a,ys,rfl,ea,ra⟩:=cx.lst;refine .inl ⟨a,ys,rfl,.inl (eT.of ea),?_⟩;rw[ra.length];exact h _ H (aI.refl _) (Rep.int _)
  ·obtain⟨x,rfl,cx⟩:=dC c;obtain⟨a,ys,rfl,ea,ra⟩:=cx.tup;refine .inl ⟨a,ys,rfl,.inr (kX.of ea),?_⟩;rw[ra.length];exact h _ H (aI.refl _) (Rep.int _)
  ·obtain⟨x,rfl,cx⟩:=dC c;obtain⟨a,rfl,ea⟩:=cx.scr;refine .inl ⟨a,_,rfl,.inl ea.sq,?_⟩;rw[bt];exact h _ H (aI.refl _) (Rep.int _)
  ·obtain⟨x,rfl,cx⟩:=dC c;obtain rfl:=cx.str;exact .inr (.inl ⟨_,rfl,gY h.1,h.2 _ H (aI.refl _) (Rep.int _)⟩)
  ·obtain⟨x,rfl,cx⟩:=dC c;obtain⟨a,ys,rfl,ea,ra⟩:=cx.dik;refine .inr (.inr ⟨a,ys,rfl,ea,?_⟩);rw[ra.length];exact h _ H (aI.refl _) (Rep.int _)
  ·exact h.elim
noncomputable def CL:List Dv->(R->Prop)->Prop
 | [.int i],Q=>Q (.v (.int (if i<0 then -i else i)))
 |_,_=>False
theorem Fa:jY X (.builtin "abs") CL:=by
 refine⟨λds Q Q' w h=>?_,_,Fc,λM O H xs ds Q c h=>?_⟩
 ·unfold CL at *;split at h<;>first | exact w _ h | exact h
 ·unfold CL at h;split at h
  ·obtain⟨x,rfl,cx⟩:=dC c;obtain rfl:=cx.int;exact⟨_,rfl,h _ H (aI.refl _) (Rep.int _)⟩
  ·exact h.elim
noncomputable def uT:List Dv->(R->Prop)->Prop
 | [.int i,.int j],Q=>Q (.v (.int (if j<i then j else i)))
 |_,_=>False
noncomputable def uU:List Dv->(R->Prop)->Prop
 | [.int i,.int j],Q=>Q (.v (.int (if j > i then j else i)))
 |_,_=>False
theorem Hf(hc:X.calm=ai):jY X (.builtin "min") uT:=by
 refine⟨λds Q Q' w h=>?_,_,D6 hc,λM O H xs ds Q c h=>?_⟩
 ·unfold uT at *;split at h<;>first | exact w _ h | exact h
 ·unfold uT at h;split at h
  ·obtain⟨x,y,rfl,cx,cy⟩:=As c;obtain rfl:=cx.int;obtain rfl:=cy.int;exact⟨_,_,rfl,h _ H (aI.refl _) (Rep.int _)⟩
  ·exact h.elim
theorem Hg(hc:X.calm=ai):jY X (.builtin "max") uU:=by
 refine⟨λds Q Q' w h=>?_,_,D7 hc,λM O H xs ds Q c h=>?_⟩
 ·unfold uU at *;split at h<;>first | exact w _ h | exact h
 ·unfold uU at h;split at h
  ·obtain⟨x,y,rfl,cx,cy⟩:=As c;obtain rfl:=cx.int;obtain rfl:=cy.int;exact⟨_,_,rfl,h _ H (aI.refl _) (Rep.int _)⟩
  ·exact h.elim
noncomputable def EM:List Dv->(R->Prop)->Prop
 | [.lst ds],Q=>∃ns:List Int,ds=ns.map .int/\Q (.v (.int ns.sum))
 |_,_=>False
noncomputable def EO:List Dv->(R->Prop)->Prop
 | [.lst ds],Q=>∃bs:List Bool,ds=bs.map .bl/\Q (.v (.bl (bs.all _root_.id)))
 |_,_=>False
theorem Reps.of_ints{K:aj}{M:af->Prop}{H:Hp}:∀{xs:List V} {ns:List Int},Reps K M H xs (ns.map .int)->xs=ns.map V.int
 |_,[],.nil=>rfl
 |_,n::r,.cons a t=>by cases a;rw[Reps.of_ints t];rfl
theorem Reps.of_bls{K:aj}{M:af->Prop}{H:Hp}:∀{xs:List V} {ns:List Bool},Reps K M H xs (ns.map .bl)->xs=ns.map V.bl
 |_,[],.nil=>rfl
 |_,n::r,.cons a t=>by cases a;rw[Reps.of_bls t];rfl
theorem Jt(hc:X.N=X.N):jY X (.builtin "sum") EM:=by
 refine⟨λds Q Q' w h=>?_,_,D4 hc,λM O H xs ds Q c h=>?_⟩
 ·unfold EM at *;split at h
  ·obtain⟨ns,e,h⟩:=h;exact⟨ns,e,w _ h⟩
  ·exact h
 ·unfold EM at h;split at h
  ·obtain⟨ns,rfl,h⟩:=h;obtain⟨x,rfl,cx⟩:=dC c;obtain⟨a,ys,rfl,ea,ra⟩:=cx.lst;obtain rfl:=ra.of_ints;exact⟨a,ns,rfl,eT.of ea,h _ H (aI.refl _) (Rep.int _)⟩
  ·exact h.elim
theorem Ju(hc:X.calm=ai):jY X (.builtin "all") EO:=by
 refine⟨λds Q Q' w h=>?_,_,DA hc,λM O H xs ds Q c h=>?_⟩
 ·unfold EO at *;split at h
  ·obtain⟨ns,e,h⟩:=h;exact⟨ns,e,w _ h⟩
  ·exact h
 ·unfold EO at h;split at h
  ·obtain⟨ns,rfl,h⟩:=h;obtain⟨x,rfl,cx⟩:=dC c;obtain⟨a,ys,rfl,ea,ra⟩:=cx.lst;obtain rfl:=ra.of_bls;exact⟨a,ns,rfl,eT.of ea,h _ H (aI.refl _) (Rep.bl _)⟩
  ·exact h.elim
noncomputable def uV:List Dv->(R->Prop)->Prop
 | [.lst ds],Q=>Q (.nw (.lst ds))
 | [.tup ds],Q=>Q (.nw (.lst ds))
 | [.scr ns],Q=>Q (.nw (.lst (ns.map .int)))
 |_,_=>False
theorem Hh:jY X (.type "list") uV:=by
 refine⟨λds Q Q' w h=>?_,_,wU,λM O H xs ds Q c h=>?_⟩
 ·unfold uV at *;split at h<;>first | exact w _ h | exact h
 ·unfold uV at h;split at h
  ·obtain⟨x,rfl,cx⟩:=dC c;obtain⟨a,ys,rfl,ea,ra⟩:=cx.lst;exact⟨a,ys,rfl,.inl (eT.of ea),λl hl=>h _ _ (aI.new' hl) (jF hl ra)⟩
  ·obtain⟨x,rfl,cx⟩:=dC c;obtain⟨a,ys,rfl,ea,ra⟩:=cx.tup;exact⟨a,ys,rfl,.inr (kX.of ea),λl hl=>h _ _ (aI.new' hl) (jF hl ra)⟩
  ·obtain⟨x,rfl,cx⟩:=dC c;obtain⟨a,rfl,ea⟩:=cx.scr;exact⟨a,_,rfl,.inl ea.sq,λl hl=>h _ _ (aI.new' hl) (jF hl (Reps.ints _))⟩
  ·exact h.elim
noncomputable def nJ:List Dv->(R->Prop)->Prop
 | [.lst ds],Q=>Q (.v (.tup ds))
 | [.tup ds],Q=>Q (.v (.tup ds))
 |_,_=>False
theorem zO:jY X (.type "tuple") nJ:=by
 refine⟨λds Q Q' w h=>?_,_,uG,λM O H xs ds Q c h=>?_⟩
 ·unfold nJ at *;split at h<;>first | exact w _ h | exact h
 ·unfold nJ at h;split at h
  ·obtain⟨x,rfl,cx⟩:=dC c;obtain⟨a,ys,rfl,ea,ra⟩:=cx.lst;exact⟨a,ys,rfl,.inl ⟨eT.of ea,λl hl=>h _ _ (aI.new' hl) (DR hl ra)⟩⟩
  ·obtain⟨x,rfl,cx⟩:=dC c;obtain⟨a,ys,rfl,ea,ra⟩:=cx.tup;exact⟨a,ys,rfl,.inr ⟨kX.of ea,h _ H (aI.refl _) (Rep.tup ea ra)⟩⟩
  ·exact h.elim
noncomputable def ML:Dv->String
 | .non=>"NoneType"
 | .bl _=>"bool"
 | .int _=>"int"
 | .str _=>"str"
 | .tup _=>"tuple"
 | .lst _=>"list"
 | .scr _=>"list"
 | .dik _=>"dict"
 | .dit _=>"dict"
 | .obj _ _=>""
 | .exc _ _=>""
 | .dns _=>""
noncomputable def HK(T:String)(d:Dv):Bool:=ML d==T || (T == "int" && ML d == "bool")
noncomputable def xH:Dv->Bool
 | .obj _ _=>ao
 | .exc _ _=>ao
 | .dns _=>ao
 | .scr _=>ao
 |_=>ai
noncomputable def qJ(T:String)(te:cQ):cQ:=λρ Q=>te ρ λr=>xH r.d=ai/\Q (.v (.bl (HK T r.d)))
theorem HE(hT:T = "int" \/ T = "bool" \/ T = "tuple" \/ T = "list" \/ T = "str")(d:Dv)(ho:xH d=ai):Sj K (.type (ML d)) (.type T)=aa (HK T d):=by
 rcases hT with rfl | rfl | rfl | rfl | rfl<;>cases d<;>first | (simp[xH] at ho;done) | with_unfolding_all rfl
theorem dG.ty{x:V}{d:Dv}(c:dG K M H x d)(ho:xH d=ai):TyOf K H x (.type (ML d)):=by
 cases d with
 |non=>obtain rfl:=c.non;exact .non
 |bl b=>obtain rfl:=c.bl;exact .bl b
 |int i=>obtain rfl:=c.int;exact .int i
 |str y=>obtain rfl:=c.str;exact .str y
 |tup ds=>obtain⟨a,xs,rfl,e,_⟩:=c.tup;exact .tup e
 |lst ds=>obtain⟨a,xs,rfl,e,_⟩:=c.lst;exact .lst e
 |dik ds=>obtain⟨a,xs,rfl,e,_⟩:=c.dik;exact .dK e
 |dit ds=>obtain⟨a,ep,xs,rfl,e,_⟩:=c.dit;exact .dT e
 |obj C fs=>simp[xH] at ho
 |scr ns=>simp[xH] at ho
 |exc C p=>simp[xH] at ho
 |dns ks=>simp[xH] at ho
theorem mU{p2:gm}(hT:T = "int" \/ T = "bool" \/ T = "tuple" \/ T = "list" \/ T = "str")(hg:Gl X "isinstance")(hm:X.mg "isinstance" = aq)(ha:QE X e te)(hty:PE X (.Name x p2) (tC (.ty T)))
  (he:autoParam (au [e,.Name x p2] X.env=(ao,di e X.env)::au [.Name x p2] X.env) b7._auto_1) (he2:autoParam (au [Expr.Name x p2] X.env=(ao,di (.Name x p2) X.env)::au [] X.env) b7._auto_1) (hpl:autoParam ((dq pos (au [.Name x p2] X.env)).any (·.1)=ao) b7._auto_1):
  QE X (.Call (.Name "isinstance" p) [e,.Name x p2] [] pos) (qJ T te):=by
 refine⟨λρ Q Q' w q=>ha.mono _ _ _ (λr q=>⟨q.1,w _ q.2⟩) q,λHZ F=>bX (xW Fb hg hm boot_isinstance (kE (ha.run HZ F) (kE hty qA he2) he) ∅ ∅ he hpl) λσ H Q zz=>?_⟩;obtain⟨ρ,fr,h⟩:=zz;refine ha.step fr h λr x H1 q S1 r1=>?_;exact⟨x,T,_,_,rfl,r1.c.ty q.1,HE hT _ q.1,q.2 _ H1 S1 (Rep.bl _)⟩
end
noncomputable def kD:bI->Dv
 | .inl i=>.int i
 | .inr x=>.str x
noncomputable def dB:Dv->Dv->(R->Prop)->Prop
 | .lst xs,.int i,Q=>match kW xs i with
  |some d=>Q (.v d)
  |none=>False
 | .tup xs,.int i,Q=>match kW xs i with
  |some d=>Q (.v d)
  |none=>False
 | .scr ns,.int i,Q=>match kW ns i with
  |some n=>Q (.v (.int n))
  |none=>False
 | .str z,.int i,Q=>z.length<=tW/\match kW z.cps.toList i with
  |some c=>Q (.v (.str ⟨#[c]⟩))
  |none=>False
 | .dik kvs,.int i,Q=>match kvs.find? (λkv=>decide (kv.1=bv i)) with
  |some kv=>Q (.v kv.2)
  |none=>False
 | .dik kvs,.str x,Q=>match kvs.find? (λkv=>decide (kv.1=qm x)) with
  |some kv=>Q (.v kv.2)
  |none=>False
 | .dit kvs,.tup ds,Q=>∃k:List bI,ds=k.map kD/\match kvs.find? (λkv=>decide (kv.1=k)) with
  |some kv=>Q (.v kv.2)
  |none=>False
 |_,_,_=>False
variable {tb ta:cQ}{a b:Expr}
theorem Reps.at{K:aj}{M:af->Prop}{H:Hp}{xs:List V}{ds:List Dv}{i:Int}{d:Dv}(r:Reps K M H xs ds)(h:kW ds i=aa d):∃x,kW xs i=aa x/\Rep K M H x d:=by
 unfold kW at *;rw[r.length];cases e:qX ds.length i with
 |none=>rw[e] at h;cases h
 |some j=>
  rw[e] at h;obtain⟨x,hx,rx⟩:=r.get (i:=j) h;exact⟨x,hx,rx⟩
theorem Hn{β:Type}{f:α->β}{l:List α}{i:Int}:kW (l.map f) i=(kW l i).map f:=by
 unfold kW;rw[bt];cases qX l.length i with
 |none=>rfl
 |some j=>simp
theorem RepK.val{k:bI}{xs:List (bI×V)}{ds:List (bI×Dv)}(r:RepK K M H xs ds):(∀kv,ds.find? (λkv=>decide (kv.1=k))=aa kv -> ∃x,jA xs k=aa x/\Rep K M H x kv.2)/\(ds.find? (λkv=>decide (kv.1=k))=aq->jA xs k=aq):=
 r.ind (P:=λxs ds=>(∀kv,ds.find? (λkv=>decide (kv.1=k))=aa kv -> ∃x,jA xs k=aa x/\Rep K M H x kv.2)/\(ds.find? (λkv=>decide (kv.1=k))=aq->jA xs k=aq)) ⟨λ_ h=>(by cases h),λ_=>rfl⟩ λk' x d xs ds a _ ih=>by
  by_cases e:k'=k
  ·rw[uy (by simpa using e),kZ e];exact⟨λkv h=>by cases h;exact⟨x,rfl,a⟩,λh=>by cases h⟩
  ·rw[uz (by simpa using e),l5 e];exact ih
theorem RepT.val{k:List bI}{xs:List (List bI×V)}{ds:List (List bI×Dv)}(r:RepT K M H xs ds):(∀kv,ds.find? (λkv=>decide (kv.1=k))=aa kv -> ∃x,jA xs k=aa x/\Rep K M H x kv.2)/\(ds.find? (λkv=>decide (kv.1=k))=aq->jA xs k=aq):=
 r.ind (P:=λxs ds=>(∀kv,ds.find? (λkv=>decide (kv.1=k))=aa kv -> ∃x,jA xs k=aa x/\Rep K M H x kv.2)/\(ds.find? (λkv=>decide (kv.1=k))=aq->jA xs k=aq)) ⟨λ_ h=>(by cases h),λ_=>rfl⟩ λk' x d xs ds a _ ih=>by
  by_cases e:k'=k
  ·rw[uy (by simpa using e),kZ e];exact⟨λkv h=>by cases h;exact⟨x,rfl,a⟩,λh=>by cases h⟩
  ·rw[uz (by simpa using e),l5 e];exact ih
theorem Reps.keys{K:aj}{M:af->Prop}{H:Hp}:∀{xs:List V} {k:List bI},Reps K M H xs (k.map kD)->xs=k.map kV
 |_,[],.nil=>rfl
 |_,.inl i::r,.cons a t=>by cases a;rw[Reps.keys t];rfl
 |_,.inr x::r,.cons a t=>by cases a;rw[Reps.keys t];rfl
noncomputable def Nw:R2:=λx y H Q=>∃a v,x=.ref a/\qP H a y (aa v)/\Q v H
theorem HJ(hu:X.A.units+1<ma):Fw X Nw:=by
 intro T5 Tb pj s σ H x y v u Q I rx ry h hs;obtain⟨a,z,rfl,g,q⟩:=h;cases rx;have hT:=zI I g;unfold xg;refine ae ?_;rw[getitemInPython_of_ne hT.not_modules];refine ae (wpAny_specialOf hT PySem.F.slot_dict_getitem.lookup ?_);have fin:bi (bn X.prog X.w) X.A (zx Tb ao (.ref a) u) (λr s₃=>bi (bn X.prog X.w) X.A (letTemporaryGo T5 (.ref a) r >>= λ_=>fo r) (EP X pj σ Q) X.xe s₃) X.xe s:=by
  rw[hs];exact wpAny_operating (df (D1 hu I g ry λw' s' I' rw'=>show EP X pj σ Q w' s' from⟨z,H,I',rw',q⟩) (λr s₃ h₃=>ae (wpAny_letTemporaryGo (az h₃))) λ_ _ x=>x)
 first
  |exact az (ae fin)
  |exact ae (az (ae fin))
  |exact ae fin
theorem yC:∀dx dy (Q Q':R->Prop),(∀r,Q r->Q' r)->dB dx dy Q->dB dx dy Q':=by
 intro dx dy Q Q' w h;unfold dB at *;split at h
 ·split at h
  ·exact w _ h
  ·exact h
 ·split at h
  ·exact w _ h
  ·exact h
 ·split at h
  ·exact w _ h
  ·exact h
 ·refine⟨h.1,?_⟩;have h2:=h.2;split at h2
  ·exact w _ h2
  ·exact h2
 ·split at h
  ·exact w _ h
  ·exact h
 ·split at h
  ·exact w _ h
  ·exact h
 ·obtain⟨k,e,h⟩:=h;refine⟨k,e,?_⟩;split at h
  ·exact w _ h
  ·exact h
 ·exact h
theorem c6(hu:X.A.units+1<ma)(ha:QE X a ta)(hb:QE X b tb)(hs:autoParam (Bi b) QC._auto_1):QE X (.Subscript a b pos) (aL dB ta tb):=by
 refine⟨pG ha hb yC,λHZ F=>bX (LG (Jj.or (HJ hu)) (ha.run HZ F) (hb.run HZ F) hs) (rZ ha hb (λM O H x y dx dy Q cx cy h=>?_) yC HZ F)⟩;unfold dB at h;split at h
 ·rename_i xs i;split at h
  ·rename_i d hd;obtain⟨p,vs,rfl,ea,ra⟩:=cx.lst;obtain rfl:=cy.int;obtain⟨z,hz,rz⟩:=ra.at hd;exact .inl (.inl ⟨p,vs,i,z,rfl,rfl,eT.of ea,hz,h _ H (aI.refl _) rz⟩)
  ·exact h.elim
 ·rename_i xs i;split at h
  ·rename_i d hd;obtain⟨p,vs,rfl,ea,ra⟩:=cx.tup;obtain rfl:=cy.int;obtain⟨z,hz,rz⟩:=ra.at hd;exact .inl (.inr (.inl ⟨p,vs,i,z,rfl,rfl,kX.of ea,hz,h _ H (aI.refl _) rz⟩))
  ·exact h.elim
 ·rename_i ns i;split at h
  ·rename_i n hn;obtain⟨p,rfl,ea⟩:=cx.scr;obtain rfl:=cy.int;refine .inl (.inl ⟨p,_,i,.int n,rfl,rfl,ea.sq,?_,h _ H (aI.refl _) (Rep.int _)⟩);rw[Hn,hn];rfl
  ·exact h.elim
 ·rename_i z i;obtain⟨hl,h⟩:=h;split at h
  ·rename_i c hc;obtain rfl:=cx.str;obtain rfl:=cy.int;exact .inl (.inr (.inr ⟨z,i,c,rfl,rfl,gY hl,hc,h _ H (aI.refl _) (Rep.str _)⟩))
  ·exact h.elim
 ·split at h
  ·rename_i kv hk;obtain⟨p,kvs,rfl,ea,ra⟩:=cx.dik;obtain rfl:=cy.int;obtain⟨z,hz,rz⟩:=ra.val.1 kv hk;exact .inr ⟨p,z,rfl,by rw[<- hz];exact qP.k (k:=bv _) ea,h _ H (aI.refl _) rz⟩
  ·exact h.elim
 ·split at h
  ·rename_i kv hk;obtain⟨p,kvs,rfl,ea,ra⟩:=cx.dik;obtain rfl:=cy.str;obtain⟨z,hz,rz⟩:=ra.val.1 kv hk;exact .inr ⟨p,z,rfl,by rw[<- hz];exact qP.k (k:=qm _) ea,h _ H (aI.refl _) rz⟩
  ·exact h.elim
 ·obtain⟨k,rfl,h⟩:=h;split at h
  ·rename_i kv hk;obtain⟨p,ep,kvs,rfl,ea,ra⟩:=cx.dit;obtain⟨b,ys,rfl,eb,rb⟩:=cy.tup;obtain rfl:=rb.keys;obtain⟨z,hz,rz⟩:=ra.val.1 kv hk;exact .inr ⟨p,z,rfl,by rw[<- hz];exact qP.t ea eb,h _ H (aI.refl _) rz⟩
  ·exact h.elim
 ·exact h.elim
noncomputable abbrev MD:=List Sl->(Option Int->Prop)->Prop
structure QO(X:Cx)(e:Option Expr)(t:MD):Prop where
 mono:∀(ρ:List Sl) (Q Q':Option Int->Prop),(∀r,Q r->Q' r)->t ρ Q->t ρ Q'
 run:∀(HZ:Hp) (F:af->Prop),PO X e (λσ H Q=>∃ρ,Fr X.K HZ F σ H ρ/\t ρ λo=>∀H',aI H H'->Q o H')
noncomputable def fZ:MD:=λ_ Q=>Q aq
noncomputable def lN(te:cQ):MD:=λρ Q=>te ρ λr=>match r.d with
 | .int i=>Q (aa i)
 |_=>False
theorem Fm{e:Option Expr}{t t':TO}(h:PO X e t)(w:∀σ H Q,t' σ H Q->t σ H Q):PO X e t':=λpj s σ H Q I q=>h pj s σ H Q I (w σ H Q q)
theorem oW:QO X aq fZ:=⟨λ_ _ _ w q=>w _ q,λHZ F=>Fm GU λσ H Q zq6=>by obtain⟨ρ,fr,q⟩:=zq6;exact q H (aI.refl _)⟩
theorem oV(h:QE X e te):QO X (aa e) (lN te):=by
 refine⟨λρ Q Q' w q=>h.mono _ _ _ (λr q=>?_) q,λHZ F=>Fm (GT (h.run HZ F)) λσ H Q ⟨ρ,fr,q⟩=>?_⟩
 ·split at q
  ·exact w _ q
  ·exact q
 ·refine h.step fr q λr x H1 q S1 r1=>?_;split at q
  ·rename_i i e;have c:=r1.c;rw[e] at c;exact⟨i,c.int,q H1 S1⟩
  ·exact q.elim
noncomputable def cut(xs:List α)(lo hi:Option Int):List α:=(xs.drop (HT.fJ xs.length 0 lo)).take (HT.fJ xs.length xs.length hi-HT.fJ xs.length 0 lo)
noncomputable def ID:Dv->Option Int->Option Int->(R->Prop)->Prop
 | .lst xs,lo,hi,Q=>Q (.nw (.lst (cut xs lo hi)))
 | .scr ns,lo,hi,Q=>Q (.nw (.lst ((cut ns lo hi).map .int)))
 | .tup xs,lo,hi,Q=>¬(HT.fJ xs.length 0 lo=0/\HT.fJ xs.length xs.length hi=xs.length)/\Q (.v (.tup (cut xs lo hi)))
 |_,_,_,_=>False
noncomputable def FR(te:cQ)(tl th:MD):cQ:=λρ Q=>te ρ λr=>tl ρ λlo=>th ρ λhi=>ID r.d lo hi Q
theorem EN:∀d lo hi (Q Q':R->Prop),(∀r,Q r->Q' r)->ID d lo hi Q->ID d lo hi Q':=by
 intro d lo hi Q Q' w h;unfold ID at *;split at h<;>first | exact w _ h | exact⟨h.1,w _ h.2⟩ | exact h
theorem Reps.cut{K:aj}{M:af->Prop}{H:Hp}{xs:List V}{ds:List Dv}(r:Reps K M H xs ds)(lo hi:Option Int):Reps K M H (zK xs lo hi) (Z.cut ds lo hi):=by
 unfold zK Z.cut;rw[r.length];exact(r.drop _).take _
theorem oX{lo hi:Option Expr}{tl th:MD}{p2:gm}(he:QE X e te)(hl:QO X lo tl)(hh:QO X hi th):QE X (.Subscript e (.Slice lo hi aq p2) pos) (FR te tl th):=by
 refine⟨λρ Q Q' w q=>he.mono _ _ _ (λr q=>hl.mono _ _ _ (λl q=>hh.mono _ _ _ (λu q=>EN _ _ _ _ _ w q) q) q) q,λHZ F=>bX (E9 (G7.or IZ) (he.run HZ F) (hl.run HZ F) (hh.run HZ F)) λσ H Q zz=>?_⟩;obtain⟨ρ,fr,q⟩:=zz;refine he.step fr q λr x H1 q S1 r1=>?_;refine⟨ρ,fr.mono S1,hl.mono _ _ _ (λl q H2 S2=>?_) q⟩;refine⟨ρ,(fr.mono S1).mono S2,hh.mono _ _ _ (λu q H3 S3=>?_) q⟩;have S13:=(S1.trans S2).trans S3;have c:=(r1.mono (S2.trans S3)).c;generalize r.d=d at q c;unfold ID at q;split at q
 ·obtain⟨a,xs,rfl,ea,ra⟩:=c.lst;exact .inl ⟨a,xs,rfl,eT.of ea,λp hp=>q _ _ (S13.trans (aI.new' hp)) ((jF hp (ra.cut _ _)).ahead S13)⟩
 ·obtain⟨a,rfl,ea⟩:=c.scr;refine .inl ⟨a,_,rfl,ea.sq,λp hp=>q _ _ (S13.trans (aI.new' hp)) (d5.ahead (jF hp ?_) S13)⟩;have:∀(ns:List Int) l u,(Z.cut ns l u).map Dv.int=Z.cut (ns.map Dv.int) l u:=λns l u=>by
   unfold Z.cut;simp[Sq,RB]
  rw[this];exact(Reps.ints _).cut _ _
 ·obtain⟨a,xs,rfl,ea,ra⟩:=c.tup;exact .inr ⟨a,xs,rfl,kX.of ea,by rw[ra.length];exact q.1,λp hp=>q.2 _ _ (S13.trans (aI.new' hp)) (d5.ahead (DR hp (ra.cut _ _)) S13)⟩
 ·exact q.elim
section
variable {c:Expr}{tc:cQ}
theorem GJ{op op':xb}{f f':Int->Int->Bool}(ho:iA X (cj op) (vN λi j=>.bl (f i j)))(ho':iA X (cj op') (vN λi j=>.bl (f' i j)))(ha:QE X a ta)(hb:QE X b tb)(hc:QE X c tc)
  (hm:autoParam (uf [op,op'] [b,c]=ao) IL._auto_1):QE X (.Compare a [op,op'] [b,c] pos) (qK (uX f) (uX f') ta tb tc):=by
 refine⟨λρ Q Q' w q=>ha.mono _ _ _ (λrx q=>hb.mono _ _ _ (λry q=>t7 _ _ _ _ (λz q=>?_) q) q) q,λHZ F=>bX (EH ho ho' (ha.run HZ F) (hb.run HZ F) (hc.run HZ F) hm) λσ H Q ⟨ρ,fr,q⟩=>?_⟩
 ·split at q
  ·split at q
   ·rw[SS ‹_›];exact hc.mono _ _ _ (λw' q=>t7 _ _ _ _ w q) q
   ·rw[Sm ‹_›];exact w _ q
  ·exact q
 ·refine ha.step fr q λrx x H1 q1 S1 r1=>?_;refine hb.step (fr.mono S1) q1 λry y H2 q2 S2 r2=>?_;have cx:=(r1.mono S2).c;have cy:=r2.c;generalize rx.d=dx at q2 cx;generalize ry.d=dy at q2 cy;unfold uX at q2;split at q2
  ·rename_i Q2 i j;obtain rfl:=cx.int;obtain rfl:=cy.int;refine⟨_,_,rfl,rfl,f i j,rfl,?_⟩;have S12:=S1.trans S2;replace q2:=(show (if f i j=ai then tc ρ (λw=>uX f' (.int j) w.d (λr=>∀x H',aI H H'->d5 X.K (MM F ρ) (Z.uK ρ) H x r H'->Q x H')) else (∀x H',aI H H'->d5 X.K (MM F ρ) (Z.uK ρ) H x (.v (.bl ao)) H'->Q x H')) from q2);cases h:f i j with
   |true=>
    rw[h] at q2;simp only[if_true] at q2;refine iO (hc.step ((fr.mono S1).mono S2) q2 λrw' z H3 q3 S3 r3=>?_);have cz:=r3.c;generalize rw'.d=dz at q3 cz;cases dz with
    |int l=>
     obtain rfl:=cz.int;exact⟨_,_,rfl,rfl,q3 _ H3 (S12.trans S3) (Rep.bl _)⟩
    |_=>exact(show False from q3).elim
   |false=>
    rw[h] at q2;simp only[dw,if_false] at q2;exact iP (q2 _ H2 S12 (Rep.bl _))
  ·exact q2.elim
noncomputable def mM:Dv->Option Bool
 | .non=>aa ao
 | .bl b=>aa b
 | .int i=>aa (i != 0)
 | .lst xs=>aa (!xs.isEmpty)
 | .tup xs=>aa (!xs.isEmpty)
 | .dik xs=>aa (!xs.isEmpty)
 | .scr xs=>aa (!xs.isEmpty)
 |_=>aq
noncomputable def gH(te:cQ):jZ:=λρ Q=>te ρ λr=>match mM r.d with
 |some k=>Q k
 |none=>False
theorem Reps.empty(r:Reps K M H xs ds):xs.isEmpty=ds.isEmpty:=by cases r<;>rfl
theorem cL(h:QE X e te)(he:autoParam (∀Tn,isTrue e X.env Tn=(do let v <- Tn;qp e.pos;ku [v] (truthy v))) B1._auto_1):QT X e (gH te):=by
 refine⟨λρ Q Q' w q=>h.mono _ _ _ (λr q=>?_) q,λHZ F=>x8 (Du (h.run HZ F) he) λσ H Q ⟨ρ,fr,q⟩=>?_⟩
 ·split at q
  ·exact w _ q
  ·exact q
 ·refine h.step fr q λr x H1 q S1 r1=>?_;have cx:=r1.c;generalize r.d=d at q cx;split at q
  ·rename_i k hk;refine⟨k,?_,q H1 S1⟩;cases d with
   |non=>obtain rfl:=cx.non;simp only[mM,io] at hk;subst hk;rfl
   |bl b=>obtain rfl:=cx.bl;simp only[mM,io] at hk;exact hk.symm
   |int i=>obtain rfl:=cx.int;simp only[mM,io] at hk;exact hk.symm
   |lst ds=>
    obtain⟨a,xs,rfl,ea,ra⟩:=cx.lst;simp only[mM,io] at hk;exact .inl ⟨xs,eT.of ea,by rw[ra.empty];exact hk.symm⟩
   |tup ds=>
    obtain⟨a,xs,rfl,ea,ra⟩:=cx.tup;simp only[mM,io] at hk;exact .inr (.inl ⟨xs,kX.of ea,by rw[ra.empty];exact hk.symm⟩)
   |dik ds=>
    obtain⟨a,xs,rfl,ea,ra⟩:=cx.dik;simp only[mM,io] at hk;exact .inr (.inr ⟨xs,ea,by rw[<- hk];cases ra<;>rfl⟩)
   |scr ns=>
    obtain⟨a,rfl,ea⟩:=cx.scr;simp only[mM,io] at hk;exact .inl ⟨_,ea.sq,by rw[<- hk];cases ns<;>rfl⟩
   |_=>simp[mM] at hk
  ·exact q.elim
end
noncomputable abbrev Fn:=List Dv->(R->Prop)->Prop
inductive low(K:aj)(sp:Fn)(vs:List V)(H:Hp)(Q:VK)(E:XK):Prop
 |mk (F:af->Prop) (ds:List Dv) (hF:OldF K F H) (r:Reps K F H vs ds) (q:sp ds (λr=>∀x H',aI H H'->d5 K F vE H x r H'->Q x H'))
structure MonoF(sp:Fn):Prop where
 mo:∀ds (Q Q':R->Prop),(∀r,Q r->Q' r)->sp ds Q->sp ds Q'
structure Def(P:ay)(w:bg)(K:aj)(mg:bf->Option ac)(base:br)(k:Nat)(x:bf)(ps:List bf)(sp:Sp):Prop where
 ex:∃f fd,mg x=aa (.ref f)/\ic K (.ref f)=ai/\dI K fd ps []/\FnOk P w K mg base xD k f fd ps sp
structure At(K:aj)(mg:bf->Option ac)(x nm:bf)(st:gg)(ps:List bf):Prop where
 ex:∃f fd,mg x=aa (.ref f)/\Fun K nm nm st f fd/\dI K fd ps []
structure MDef(P:ay)(w:bg)(K:aj)(mg:bf->Option ac)(base:br)(k:Nat)(C:af)(m:bf)(ps:List bf)(sp:Sp):Prop where
 ex:∃f fd,Meth K C m f/\dI K fd ps []/\FnOk P w K mg base xD k f fd ps sp
structure MAt(K:aj)(C:af)(m qual:bf)(st:gg)(ps:List bf):Prop where
 ex:∃f fd,Meth K C m f/\Fun K m qual st f fd/\dI K fd ps []
theorem At.ok{P:ay}{w:bg}{K:aj}{mg:bf->Option ac}{base:br}{k:Nat}{x nm:bf}{st:gg}{ps N:List bf}{sp:Sp}(a:At K mg x nm st ps)(S:FnScope N ps (aB st))(len:∀vs H Q E,sp vs H Q E->vs.length=ps.length)
  (T3:∀(f:af) (cdv:ac) (A:bu) (outer:List ox) (s:ah) (H:Hp) (vs:List V) (Q:VK) (E:XK),Room k (A.deeper (ir nm (aB st) s.heap.objs.size f cdv))->sp vs H Q E ->
   ∃t,pP (bP xD P w K mg base N nm (aB st) f cdv A outer s H E).nox (cM st) t/\t { nx:=λ_ H'=>Q .non H',rt:=Q } (start N vs) H):Def P w K mg base (k+1) x ps sp:=by
 obtain⟨f,fd,hm,F,hb⟩:=a.ex;exact⟨f,fd,hm,F.kp,hb,F.ok S len (T3 f)⟩
theorem MAt.ok{P:ay}{w:bg}{K:aj}{mg:bf->Option ac}{base:br}{k:Nat}{C:af}{m SV:bf}{st:gg}{ps N:List bf}{sp:Sp}(a:MAt K C m SV st ps)(S:FnScope N ps (aB st))(len:∀vs H Q E,sp vs H Q E->vs.length=ps.length)
  (T3:∀(f:af) (cdv:ac) (A:bu) (outer:List ox) (s:ah) (H:Hp) (vs:List V) (Q:VK) (E:XK),Room k (A.deeper (ir SV (aB st) s.heap.objs.size f cdv))->sp vs H Q E ->
   ∃t,pP (bP xD P w K mg base N SV (aB st) f cdv A outer s H E).nox (cM st) t/\t { nx:=λ_ H'=>Q .non H',rt:=Q } (start N vs) H):MDef P w K mg base (k+1) C m ps sp:=by
 obtain⟨f,fd,hm,F,hb⟩:=a.ex;exact⟨f,fd,hm,hb,F.ok S len (T3 f)⟩
noncomputable def aJ(N:List bf)(ds:List Dv):List Sl:=ds.map .v++bc (N.length-ds.length) .un
variable {vs:List V}
theorem sI(hF:OldF K F H)(r:Reps K F H vs ds):Fr K H F (start N vs) H (aJ N ds):=by
 have no:∀{a:af} {d:Dv},Sl.own a d∈aJ N ds->False:=λ{a d} h=>by
  rcases fu.mp h with h | h
  ·obtain⟨z,_,e⟩:=ig.mp h;cases e
  ·cases ga h
 have wk:∀a,MM F (aJ N ds) a->F a:=λa h=>by
  rcases h with h | ⟨d,h⟩
  ·exact h
  ·exact(no h).elim
 have hl:=r.length;refine⟨by simp[L2.start,aJ,hl],λi s e=>?_,λi j a d d' e _=>(no (cq e)).elim,λa d h=>(no h).elim,aI.refl _,hF⟩;unfold aJ at e;by_cases hi:i<ds.length
 ·rw[bp (by simpa using hi),bw] at e;cases q:ds[i]? with
  |none=>rw[q] at e;cases e
  |some d=>
   rw[q] at e;cases e;obtain⟨x,hx,rx⟩:=r.get q;refine⟨x,?_,rx.weak wk⟩;unfold L2.start;rw[bp (by simpa using(bj.mp hx).1),bw,hx];rfl
 ·rw[cg (by simpa using ml hi)] at e;have:=cq e;cases ga this;trivial
variable {E:XK}{sp:Fn}
theorem pL{sts:List gg}{t:bV}{Q:VK}(h:QSs X sts t)(hsp:∀ds Q,sp ds Q->t ↥Q (aJ N ds))(q:low X.K sp vs H Q E):
  ∃t',pP X sts t'/\t' { nx:=λ_ H'=>Q .non H',rt:=Q } (start N vs) H:=by
 obtain⟨F,ds,hF,r,q⟩:=q;exact⟨_,h.run H F,aJ N ds,_,sI hF r,hsp ds _ q,λρ σ H' fr q=>q .non H' fr.same Rep.non,λ_ _ _ _ z=>z.elim,λ_ _ _ _ z=>z.elim,λrr x H' S rx q=>q x H' S rx⟩
theorem pC(h:∀ds Q,sp ds Q->ds.length=n):∀vs H Q E,low K sp vs H Q E->vs.length=n:=λvs H Q E zq0=>by obtain⟨F,ds,_,r,q⟩:=zq0;(rw[r.length];exact h _ _ q)
theorem At.okP{k:Nat}{x nm:bf}{t:bV}(a:At K mg x nm st ps)(S:FnScope N ps (aB st))
  (hq:∀(f:af) (cdv:ac) (A:bu) (outer:List ox) (s:ah) (H:Hp) (E:XK),Room k (A.deeper (ir nm (aB st) s.heap.objs.size f cdv))->QSs (bP xD P w K mg base N nm (aB st) f cdv A outer s H E).nox (cM st) t)
  (len:∀ds Q,sp ds Q->ds.length=ps.length) (hsp:∀ds Q,sp ds Q->t ↥Q (aJ N ds)):Def P w K mg base (k+1) x ps (low K sp):=
 a.ok S (pC len) λf cdv A outer s H vs Q E hr q=>pL (hq f cdv A outer s H E hr) hsp q
variable {m:bf}
theorem MAt.okP{k:Nat}{t:bV}(a:MAt K C m SV st ps)(S:FnScope N ps (aB st))
  (hq:∀(f:af) (cdv:ac) (A:bu) (outer:List ox) (s:ah) (H:Hp) (E:XK),Room k (A.deeper (ir SV (aB st) s.heap.objs.size f cdv))->QSs (bP xD P w K mg base N SV (aB st) f cdv A outer s H E).nox (cM st) t)
  (len:∀ds Q,sp ds Q->ds.length=ps.length) (hsp:∀ds Q,sp ds Q->t ↥Q (aJ N ds)):MDef P w K mg base (k+1) C m ps (low K sp):=
 a.ok S (pC len) λf cdv A outer s H vs Q E hr q=>pL (hq f cdv A outer s H E hr) hsp q
noncomputable def R.flat:R->Bool
 | .v d=>hW d
 | .nw d=>FI d
 | .ow _ _=>ao
noncomputable def back(rs:List R)(Q:R->Prop):R->Prop:=λr=>(rs.all R.free=ai \/ r.flat=ai)/\Q r
noncomputable def aU(sp:Fn)(ts:iY):cQ:=λρ Q=>ts ρ λrs=>sp (rs.map R.d) (back rs Q)
variable {rs:List R}
noncomputable def lent(M:af->Prop)(rs:List R):af->Prop:=λa=>M a /\ ∀d,R.ow a d ∉ rs
theorem gG(fr:Fr K HZ F σ H ρ){all:List R}:∀{xs:List V} {rs:List R},(∀r∈rs,r∈all)->Paired (λx r=>d5 K (MM F ρ) (Z.uK ρ) H x r H1) xs rs->Reps K (lent (MM F ρ) all) H1 xs (rs.map R.d)
 |_,_,_,.nil=>.nil
 |_,r::_,hs,.cons a t=>by
  refine .cons ?_ (gG fr (λr hr=>hs r (by simp[hr])) t);have wk:∀a,lent (MM F ρ) all a->MM F ρ a:=λa z=>z.1;cases r with
  |v d=>exact Rep.weak wk a
  |nw d=>exact(d5.rep a (λa m=>fr.dom m) rfl).weak wk
  |ow b d=>
   obtain⟨rfl,_,o⟩:=a;exact(o.weak wk).rep λz=>z.2 d (hs _ (by simp))
theorem Fh(h:rs.all R.free=ai)(a:af)(d:Dv):R.ow a d ∉ rs:=λz=>by
 have:=tu.mp h _ z;simp[R.free] at this
theorem mG{x:V}{r:R}{O:af->Dv->Prop}(fr:Fr K HZ F σ H ρ)(S1:aI H H1)(h:d5 K (lent (MM F ρ) rs) vE H1 x r H')(f:rs.all R.free=ai \/ r.flat=ai):d5 K (MM F ρ) O H x r H':=by
 rcases f with f | f
 ·have wk:∀a,MM F ρ a->lent (MM F ρ) rs a:=λa z=>⟨z,λd=>Fh f a d⟩;cases r with
  |v d=>exact Rep.weak wk h
  |ow a d=>exact h.2.1.elim
  |nw d=>
   obtain⟨a,e,n,o⟩:=h;exact⟨a,e,S1.free n,o.weak λb z=>z.elim (λz=>.inl (wk b z)) .inr⟩
 ·cases r with
  |v d=>exact Rep.flat f h
  |ow a d=>exact h.2.1.elim
  |nw d=>
   obtain⟨a,e,n,o⟩:=h;exact⟨a,e,S1.free n,o.flat f⟩
variable {Q':R->Prop}
section
variable {k:Nat}{x:bf}{o:Expr}{to:cQ}{SZ:gm}
theorem lU{Q:VK}(mo:MonoF sp)(fr:Fr X.K HZ F σ H ρ)(S1:aI H H1)(r1:iW X.K (MM F ρ) (Z.uK ρ) H xs rs H1)(q:sp (rs.map R.d) (back rs Q'))
  (w:∀r,Q' r -> ∀x H',aI H H'->d5 X.K (MM F ρ) (Z.uK ρ) H x r H'->Q x H'):low X.K sp xs H1 Q E:=by
 refine⟨lent (MM F ρ) rs,_,⟨λa z=>(fr.mono S1).dom z.1,(fr.mono S1).tab⟩,gG fr (λ_ h=>h) r1,mo.mo _ _ _ (λr q x H' S rx=>?_) q⟩;exact w r q.2 x H' (S1.trans S) (mG fr S1 rx q.1)
theorem iE(w:∀r,Q r->Q' r):∀r,back rs Q r->back rs Q' r:=λr h=>⟨h.1,w r h.2⟩
theorem b9(d:Def X.prog X.w X.K X.mg X.base k x ps (low X.K sp))(mo:MonoF sp)(hr:Room k X.A)(ha:QA X (e::es) ts)(hg:autoParam (Gl X x) b7._auto_1)
  (hdb:autoParam ((x==("__debug__" : bf))=ao) hG._auto_1) (he:autoParam (au (e::es) X.env=(ao,di e X.env)::au es X.env) b7._auto_1) (hpl:autoParam ((dq pos (au es X.env)).any (·.1)=ao) b7._auto_1):
  QE X (.Call (.Name x p) (e::es) [] pos) (aU sp ts):=by
 obtain⟨f,fd,hm,hk,hb,FO⟩:=d.ex;refine⟨λρ Q Q' w q=>ha.mono _ _ _ (λrs q=>mo.mo _ _ _ (iE w) q) q,λHZ F=>bX (BM FO hr hg hm hk hb .nil BN (ha.run HZ F) hdb he hpl) λσ H Q zz=>?_⟩;obtain⟨ρ,fr,h⟩:=zz;refine ha.step fr h λrs xs H1 q S1 r1=>?_;rw[dr];exact lU mo fr S1 r1 q λr z=>z
noncomputable def kU(C:af)(m:bf)(sp:Fn)(to:cQ)(ts:iY):cQ:=λρ Q=>to ρ λro=>match ro.d with
 | .obj C' fs=>(C'=C/\fs.lookup m=aq)/\ts ρ λrs=>sp (ro.d::rs.map R.d) (back (ro::rs) Q)
 |_=>False
theorem RepF.lookup{K:aj}{M:af->Prop}{H:Hp}{f:bf}{xs:List (bf×V)}{ds:List (bf×Dv)}(r:RepF K M H xs ds):(ds.lookup f=aq->xs.lookup f=aq) /\ ∀d,ds.lookup f=aa d -> ∃x,xs.lookup f=aa x/\Rep K M H x d:=
 r.ind (P:=λxs ds=>(ds.lookup f=aq->xs.lookup f=aq) /\ ∀d,ds.lookup f=aa d -> ∃x,xs.lookup f=aa x/\Rep K M H x d) ⟨λ_=>rfl,λd h=>by cases h⟩ λk x d xs ds a _ ih=>by
  rw[Qn,Qn];cases h:f==k with
  |true=>
   refine⟨λz=>?_,λd' z=>?_⟩
   ·cases z
   ·cases z;exact⟨x,rfl,a⟩
  |false=>exact ih
theorem rR(c:Cls X.K C)(d:MDef X.prog X.w X.K X.mg X.base k C m ps (low X.K sp))(mo:MonoF sp)(hr:Room k X.A)(ho:QE X o to){pl:R5 Bool}
  (ht:autoParam (di (.Call (.Attribute o m SZ) [] [] pos) X.env=(do
   let ov <- di o X.env
   qp SZ.atName
   let (f,first) <- ku [ov] (pc ov m pl)
   ug pos f first (dq pos (au [] X.env)) (nz pos (jp [] X.env)))) b7._auto_1):
  QE X (.Call (.Attribute o m SZ) [] [] pos) (kU C m sp to aF):=by
 obtain⟨f,fd,hm,hb,FO⟩:=d.ex;refine⟨λρ Q Q' w q=>ho.mono _ _ _ (λro q=>?_) q,λHZ F=>bX (EC (pl:=pl) (ho.run HZ F) c hm FO hr hb .nil BN ht) λσ H Q ⟨ρ,fr,h⟩=>?_⟩
 ·split at q
  ·exact⟨q.1,mo.mo _ _ _ (iE w) q.2⟩
  ·exact q
 ·refine ho.step fr h λro x H1 q S1 r1=>?_;split at q
  ·rename_i C' fs e;obtain⟨⟨rfl,hl⟩,q⟩:=q;have cx:=r1.c;rw[e] at cx;obtain⟨a,dx,fs',rfl,ea,ra⟩:=cx.obj;refine⟨a,dx,fs',rfl,ea,ra.lookup.1 hl,?_⟩;exact lU (rs:=[ro]) (xs:=[.ref a]) (E:=E0) mo fr S1 (.cons r1 .nil) q λr z=>z
  ·exact q.elim
noncomputable def FT(C:af)(f:bf)(to:cQ):cQ:=λρ Q=>to ρ λro=>match ro.d with
 | .obj C' fs=>C'=C/\match fs.lookup f with
  |some d=>Q (.v d)
  |none=>False
 |_=>False
theorem IB{f:bf}(c:Cls X.K C)(n:hV X.K C f)(ho:QE X o to)(hb:autoParam (iw o f X.env (di o X.env)=di o X.env) b7._auto_1):QE X (.Attribute o f pos) (FT C f to):=by
 refine⟨λρ Q Q' w q=>ho.mono _ _ _ (λro q=>?_) q,λHZ F=>bX (JC (ho.run HZ F) hb) λσ H Q ⟨ρ,fr,h⟩=>?_⟩
 ·split at q
  ·refine⟨q.1,?_⟩;have q2:=q.2;split at q2
   ·exact w _ q2
   ·exact q2
  ·exact q
 ·refine ho.step fr h λro x H1 q S1 r1=>?_;split at q
  ·rename_i C' fs e;obtain⟨rfl,q⟩:=q;have cx:=r1.c;rw[e] at cx;obtain⟨a,dx,fs',rfl,ea,ra⟩:=cx.obj;split at q
   ·rename_i d hd;obtain⟨z,hz,rz⟩:=ra.lookup.2 d hd;exact⟨a,_,dx,fs',z,rfl,ea,c,n,hz,q _ H1 S1 rz⟩
   ·exact q.elim
  ·exact q.elim
end
end Z
namespace L2
noncomputable def qY(lo:Int)(n:Nat):List V:=(fh n).map λ(k:Nat)=>V.int (lo+(k:Int))
theorem D5:eB X (.type "range") (λxs H Q=>∃j:Int,xs=[.int j] /\ ∀p,H p=aq->Q (.ref p) (upd H p (.rng 0 j))):=by
 intro pj s σ H xs us Q I r h;obtain⟨j,rfl,q⟩:=h;obtain⟨u,rfl,ru⟩:=iF r;obtain⟨t,rfl⟩:=ru;exact call_range_1 ⟨.ref s.heap.objs.size,_,I.laid (o:=.rng 0 j) (λb o e=>av _ e) (bo _) ⟨_,_,_,bq _ rfl⟩,rfl,q _ (I.hok.fresh (bo _))⟩
theorem uI(hc:X.calm=ai):eB X (.type "list") (λxs H Q=>∃p lo hi,xs=[.ref p]/\H p=aa (.rng lo hi)/\(-(2 ^ 62)<=lo/\lo<2 ^ 62 /\ -(2 ^ 62)<=hi/\hi<2 ^ 62)/\(hi-lo).toNat<=1000000 /\ ∀l,H l=aq->Q (.ref l) (upd H l (.lst (qY lo (hi-lo).toNat)))):=by
 intro pj s σ H xs us Q I r h;obtain⟨p,lo,hi,rfl,hp,⟨b1,b2,b3,b4⟩,hn,q⟩:=h;obtain⟨u,rfl,ru⟩:=iF r;cases ru;obtain⟨t,t2,t3,e⟩:=I.hok _ _ hp;refine call_list_range (n:=(hi-lo).toNat) (I.ok.hd hc) e (small_one b1 b2 b3 b4) (by rw[rangeSize_one];split<;>right) ⋯ λh' tk acc c' hk hS hacc=>?_;refine⟨.ref s.heap.objs.size,_,I.laid (o:=.lst (qY lo (hi-lo).toNat)) hk (bo _) ?_,rfl,q _ (I.hok.fresh (bo _))⟩;have hl:acc.size=(hi-lo).toNat:=hacc.1;refine⟨by simp only[qY,bt,yr];rw[ii];right,acc.toList,c',?_,by simpa using hS⟩;have key:∀(n:Nat) (l:List ac),l.length=n->(∀(i:Nat) (v:ac),l[i]?=aa v -> ∃t,v=Value.int (lo+(i:Int)*1) t)->aY (qY lo n) l:=by
  intro n;induction n with
  |zero=>intro l hl _;rw[ui.mp hl];exact .nil
  |succ n ih=>
   intro l hl hi;have hne:l≠[]:=by intro z;rw[z] at hl;cases hl
   have e1:l=l.dropLast++[l.getLast hne]:=(qi hne).symm;rw[e1];unfold qY;rw[Qy,Ro];have l1:l.dropLast.length=n:=by simp[hl]
   refine aY.append (ih l.dropLast l1 λi v hv=>hi i v ?_) (.cons ?_ .nil)
   ·have hlt:i<l.dropLast.length:=(bj.mp hv).1;rw[e1,bp hlt];exact hv
   ·obtain⟨t,ht⟩:=hi n (l.getLast hne) (by simp[List.getLast_eq_getElem,hl]);rw[ht,Sg];exact⟨t,rfl⟩
 refine key _ _ (by simpa using hl) λi v hv=>?_;exact hacc.2 i v (by simpa using hv)
end L2
namespace Z
open L2
variable {σ:St}{P:Hp}{elts:List Expr}{x1:Nat}{tp:gm}
section
variable {a b c:Expr}{ta tb:cQ}{p2:gm}
noncomputable def Ie(lo c:Int)(n:Nat):List Dv:=(fh n).map λ(k:Nat)=>Dv.int (lo+(k:Int)*c)
noncomputable def BX(ts:iY):sB:=λρ Q=>ts ρ λrs=>match rs.map R.d with
 | [.int i,.int j,.int c]=>(c≠0/\c.natAbs<1000/\Sx i j c=ai/\0<=nh i j c)/\Q (Ie i c (nh i j c).toNat) []
 |_=>False
noncomputable def HW(ts:iY):cQ:=λρ Q=>ts ρ λrs=>match rs.map R.d with
 | [.int j]=>(-(2 ^ 62)<=j/\j<2 ^ 62/\j.toNat<=1000000)/\Q (.nw (.lst (aR 0 j.toNat)))
 |_=>False
noncomputable def Lv(ts:iY):cQ:=λρ Q=>ts ρ λrs=>match rs.map R.d with
 | [.int i,.int j]=>((-(2 ^ 62)<=i/\i<2 ^ 62 /\ -(2 ^ 62)<=j/\j<2 ^ 62)/\(j-i).toNat<=1000000)/\Q (.nw (.lst (aR i (j-i).toNat)))
 |_=>False
theorem AD(lo:Int)(n:Nat):Reps K M H (qY lo n) (aR lo n):=by
 unfold qY aR;induction (fh n) with
 |nil=>exact .nil
 |cons k r ih=>exact .cons (.int _) ih
theorem vO{pos2:gm}(hc:X.calm=ai)(hg:Gl X "list")(hm:X.mg "list" = aq)(hg2:Gl X "range")(hm2:X.mg "range" = aq)(ha:QA X [a] ts)
  (h1:autoParam (au [.Call (.Name "range" p2) [a] [] pos2] X.env=(ao,di (.Call (.Name "range" p2) [a] [] pos2) X.env)::au [] X.env) b7._auto_1) (h2:autoParam ((dq pos (au [] X.env)).any (·.1)=ao) b7._auto_1)
  (h3:autoParam (au [a] X.env=(ao,di a X.env)::au [] X.env) b7._auto_1) (h4:autoParam ((dq pos2 (au [] X.env)).any (·.1)=ao) b7._auto_1):
  QE X (.Call (.Name "list" p) [.Call (.Name "range" p2) [a] [] pos2] [] pos) (HW ts):=by
 refine⟨λρ Q Q' w q=>ha.mono _ _ _ (λr q=>?_) q,λHZ F=>bX (q9 (uI hc) hg hm wr (kE (q9 D5 hg2 hm2 Ra (ha.run HZ F) ∅ ∅ h3 h4) qA h1) ∅ ∅ h1 h2) λσ H Q ⟨ρ,fr,q⟩=>?_⟩
 ·split at q
  ·exact⟨q.1,w _ q.2⟩
  ·exact q
 ·refine ha.step fr q λrs xs H1 q S1 r1=>?_;split at q
  ·rename_i j e;have cc:=r1.c;rw[e] at cc;obtain⟨x,rfl,cx⟩:=dC cc;obtain rfl:=cx.int;obtain⟨⟨b1,b2,b3⟩,q⟩:=q;refine⟨j,rfl,λr hr=>⟨r,0,j,rfl,bC,⟨⋯,⋯,b1,b2⟩,by rw[RW];exact b3,λl hl=>?_⟩⟩;have S2:aI H (upd (upd H1 r (.rng 0 j)) l (.lst (qY 0 (j-0).toNat))):=(S1.trans (aI.new' hr)).trans (aI.new' hl);rw[RW] at S2 ⊢;exact q _ _ S2 (d5.ahead (jF hl (AD 0 _)) (S1.trans (aI.new' hr)))
  ·exact q.elim
noncomputable def qZ(ds:List Dv):List Dv:=(ds.zipIdx).map λq=>.tup [.int (q.2:Int),q.1]
theorem Ct{d:Dv}(h:(qZ ds)[i]?=aa d):∃d0,ds[i]?=aa d0/\d=.tup [.int i,d0]:=by
 unfold qZ at h;rw[bw,List.getElem?_zipIdx] at h;cases e:ds[i]? with
 |none=>rw[e] at h;cases h
 |some d0=>
  rw[e] at h;refine⟨d0,rfl,?_⟩;simp at h;exact h.symm
noncomputable def wD(ts:iY):sB:=λρ Q=>ts ρ λrs=>match rs with
 | [.v (.lst ds)]=>Q (qZ ds) []
 | [.nw (.lst ds)]=>Q (qZ ds) []
 | [.ow a (.lst ds)]=>Q (qZ ds) [(a,ds)]
 |_=>False
structure Walked(K:aj)(P:Hp)(M:af->Prop)(H1:Hp)(a:af)(ds:List Dv)(ogs:List (af×List Dv)):Prop where
 at_:∀(H':Hp) (M':af->Prop),aI P H'->Gen K M M' H1 H'->(∀p∈ogs,dO K M' H' p.1 (.lst p.2)) -> ∃xs,H' a=aa (.lst xs)/\Reps K M' H' xs ds
noncomputable def mW:R->List (af×List Dv)
 | .ow a (.lst ds)=>[(a,ds)]
 |_=>[]
theorem walked{x:V}{r:R}(fr:Fr K HZ F σ H ρ)(S1:aI H H1)(r1:d5 K (MM F ρ) (Z.uK ρ) H x r H1)(hd:r.d=.lst ds):
  ∃a xs,x=.ref a/\H1 a=aa (.lst xs)/\guard (mW r) ρ/\Walked K (prot H1 ρ) (MM F ρ) H1 a ds (mW r):=by
 cases r with
 |v d=>
  have e:d=.lst ds:=hd;subst e;cases r1 with
  |lst e m rs=>
   refine⟨_,_,rfl,e,by intro p hp;simp[mW] at hp,⟨λH' M' S G _=>⟨_,S _ _ (by rw[c8 λc=>m (.inr c)];exact e),rs.gen G⟩⟩⟩
 |nw d=>
  have e:d=.lst ds:=hd;subst e;obtain⟨a,rfl,n,xs,e,rs⟩:=r1;exact⟨_,_,rfl,e,by intro p hp;simp[mW] at hp,⟨λH' M' S G _=>⟨_,S _ _ (by rw[c8 λc=>fr.fresh n (.inr c)];exact e),(rs.weak λb z=>.inl z).gen G⟩⟩⟩
 |ow a d=>
  have e:d=.lst ds:=hd;subst e;obtain⟨rfl,m,xs,e,rs⟩:=r1;refine⟨_,_,rfl,e,by intro p hp;simp[mW] at hp;subst hp;exact m,⟨λH' M' S G ow=>?_⟩⟩;exact ow (a,ds) (by simp[mW])
theorem Ck{a:af}{ogs:List (af×List Dv)}(w:Walked K P M H1 a ds ogs):x9 K P M H1 (NB K a) (qZ ds) ogs:=by
 intro i H' M' S G ow;obtain⟨xs,h',r⟩:=w.at_ H' M' S G ow;refine⟨λd e=>?_,λh=>⟨xs,eT.of h',by rw[r.length];simpa [qZ] using h⟩⟩;obtain⟨d0,e0,rfl⟩:=Ct e;obtain⟨x,hx,rx⟩:=r.get e0;refine⟨⟨xs,x,eT.of h',hx⟩,λy H'' zz=>?_⟩;obtain⟨T,z,hT,e1,e2,hz⟩:=zz;subst e1 e2;have:=hz xs (eT.of h');rw[hx] at this;cases this;exact⟨aI.new' hT,.tup bC (.cons (.int _) (.cons (rx.mono (aI.new' hT)) .nil))⟩
theorem GH(hg:Gl X "enumerate")(hm:X.mg "enumerate" = aq)(ha:QA X [a] ts)(hs:autoParam (au [a] X.env=[(ao,di a X.env)]) b7._auto_1):QI X (.Tuple elts x1 tp) (.Call (.Name "enumerate" p) [a] [] pos) (wD ts):=by
 refine⟨λρ Q Q' w q=>ha.mono _ _ _ (λr q=>?_) q,λHZ F=>⟨_,GV hg hm (ha.run HZ F) hs,λσ H ρ R fr q=>?_⟩⟩
 ·split at q<;>first | exact w _ _ q | exact q
 ·refine ha.step fr q λrs xs H1 q S1 r1=>?_;have one:∀{r:Z.R} {ds:List Dv},rs=[r]->r.d=.lst ds->(∀J H1',aI H H1'->guard (mW r) ρ->x9 X.K (prot H1' ρ) (MM F ρ) H1' J (qZ ds) (mW r)->R J H1') -> ∃a,xs=[V.ref a]/\(∃xs,eT X.K H1 a xs)/\R (NB X.K a) H1:=by
   intro r ds e hd k;subst e;cases r1 with
   |cons a1 t1=>
    cases t1;obtain⟨a,ys,rfl,ea,gd,wk⟩:=walked fr S1 a1 hd;exact⟨a,rfl,⟨ys,eT.of ea⟩,k _ H1 S1 gd (Ck wk)⟩
  split at q
  ·exact one rfl rfl q
  ·exact one rfl rfl q
  ·exact one rfl rfl q
  ·exact q.elim
noncomputable def xE(xs ys:List Dv):List Dv:=yt (λx y=>.tup [x,y]) xs ys
noncomputable def BW(ts:iY):sB:=λρ Q=>ts ρ λrs=>match rs with
 | [r,r']=>match r.d,r'.d with
  | .lst xs,.lst ys=>Q (xE xs ys) (mW r++mW r')
  |_,_=>False
 |_=>False
theorem F3{a b:af}{es:List Dv}{o1 o2:List (af×List Dv)}(w1:Walked K P M H1 a ds o1)(w2:Walked K P M H1 b es o2):x9 K P M H1 (Pc a b) (xE ds es) (o1++o2):=by
 intro i H' M' S G ow;obtain⟨xs,h1,r1⟩:=w1.at_ H' M' S G λp hp=>ow p (gw _ hp);obtain⟨ys,h2,r2⟩:=w2.at_ H' M' S G λp hp=>ow p (dh _ hp);refine⟨λd e=>?_,λh=>⟨xs,ys,h1,h2,?_⟩⟩
 ·unfold xE at e;rw[List.getElem?_zipWith] at e;cases e1:ds[i]? with
  |none=>rw[e1] at e;cases e
  |some d1=>
   cases e2:es[i]? with
   |none=>rw[e1,e2] at e;cases e
   |some d2=>
    rw[e1,e2] at e;cases e;obtain⟨x,hx,rx⟩:=r1.get e1;obtain⟨y,hy,ry⟩:=r2.get e2;refine⟨⟨xs,ys,x,y,h1,h2,hx,hy⟩,λz H'' zz=>?_⟩;obtain⟨T,z1,z2,hT,e3,e4,k1,k2⟩:=zz;subst e3 e4;have q1:=k1 xs h1;have q2:=k2 ys h2;rw[hx] at q1;rw[hy] at q2;cases q1;cases q2;exact⟨aI.new' hT,.tup bC (.cons (rx.mono (aI.new' hT)) (.cons (ry.mono (aI.new' hT)) .nil))⟩
 ·rw[r1.length,r2.length];simp only[xE,List.length_zipWith] at h;right
theorem Il(hg:Gl X "zip")(hm:X.mg "zip" = aq)(ha:QA X [a,b] ts)(hs:autoParam (au [a,b] X.env=[(ao,di a X.env),(ao,di b X.env)]) b7._auto_1)(hs2:autoParam (au [b] X.env=[(ao,di b X.env)]) b7._auto_1):
  QI X (.Tuple elts x1 tp) (.Call (.Name "zip" p) [a,b] [] pos) (BW ts):=by
 refine⟨λρ Q Q' w q=>ha.mono _ _ _ (λr q=>?_) q,λHZ F=>⟨_,J0 hg hm (ha.run HZ F) hs hs2,λσ H ρ R fr q=>?_⟩⟩
 ·split at q
  ·split at q
   ·exact w _ _ q
   ·exact q
  ·exact q
 ·refine ha.step fr q λrs xs H1 q S1 r1=>?_;split at q
  ·rename_i r r';split at q
   ·rename_i ds es h1 h2;cases r1 with
    |cons a1 t1=>
     cases t1 with
     |cons a2 t2=>
      cases t2;obtain⟨a,ys,rfl,ea,gd,wk⟩:=walked fr S1 a1 h1;obtain⟨b,zs,rfl,eb,gd2,wk2⟩:=walked fr S1 a2 h2;refine⟨a,b,rfl,⟨ys,ea⟩,⟨zs,eb⟩,q _ H1 S1 (λp hp=>?_) (F3 wk wk2)⟩;rcases fu.mp hp with h | h
      ·exact gd p h
      ·exact gd2 p h
   ·exact q.elim
  ·exact q.elim
end
noncomputable def dR(env:ox):List (bf×px)->List (bf×af)->List (bf×af)
 | [],acc=>acc
 | (n,k)::r,acc=>if (k == .free)=ai then (match env.cells.lookup n with | some c=>dR env r ((n,c)::acc) | none=>dR env r acc) else dR env r acc
variable {env:ox}
theorem mZ(h:(SU.names.all λy=>!(y.2 == .free) || (env.cells.lookup y.1).isSome)=ai):ph SU env=fo (dR env SU.names []):=by
 unfold ph;have key:∀(l:List (bf×px)) (acc:List (bf×af)),(l.all λy=>!(y.2 == .free) || (env.cells.lookup y.1).isSome)=ai ->
   (forIn (m:=R5) l acc λx r=>(match x with | (name,kind)=>if (kind==NameKind.free)=ai then (do let c <- cellOf env name;fo (lc ((name,c)::r))) else fo (lc r)))=fo (dR env l acc):=by
  intro l;induction l with
  |nil=>intro acc _;rfl
  |cons y r ih=>
   intro acc hl;obtain⟨n,k⟩:=y;rw[Rm,cf] at hl;rw[Qt];unfold dR;by_cases hk:(k==NameKind.free)=ai
   ·rw[SS hk];have h1:(env.cells.lookup n).isSome=ai:=by
     have:=hl.1;simpa [hk] using this
    obtain⟨c,hc⟩:=tf.mp h1;have e:cellOf env n=fo c:=by unfold cellOf;rw[hc]
    simp only[hk,if_true,e,hc];exact ih _ hl.2
   ·rw[Sm hk];simp only[hk];exact ih _ hl.2
 dsimp only;have h2:=key SU.names [] h;refine Eq.trans (congrArg (λt:R5 (List (bf×af))=>t >>= λr=>fo r) h2) ?_;rfl
theorem jV{env:ox}:∀(l:List (bf×px)) (acc:List (bf×af)),(∀q∈acc,env.cells.lookup q.1=aa q.2) -> ∀q∈dR env l acc,env.cells.lookup q.1=aa q.2
 | [],acc,h,q,hq=>h q hq
 | (n,k)::r,acc,h,q,hq=>by
  unfold dR at hq;split at hq
  ·split at hq
   ·rename_i c hc;refine jV r _ (λq' hq'=>?_) q hq;rcases cr.mp hq' with e | e
    ·rw[e];exact hc
    ·exact h q' e
   ·exact jV r acc h q hq
  ·exact jV r acc h q hq
theorem kQ{env:ox}:∀(l:List (bf×px)) (acc:List (bf×af)),∀q∈acc,q∈dR env l acc
 | [],acc,q,hq=>hq
 | (n,k)::r,acc,q,hq=>by
  unfold dR;split
  ·split
   ·exact kQ r _ q (cp _ hq)
   ·exact kQ r acc q hq
  ·exact kQ r acc q hq
theorem iV{env:ox}{x:bf}:∀(l:List (bf×px)) (acc:List (bf×af)),(l.all λy=>!(y.2 == .free) || (env.cells.lookup y.1).isSome)=ai->(x,NameKind.free)∈l -> ∃c,(x,c)∈dR env l acc
 | [],_,_,h=>by simp at h
 | (n,k)::r,acc,hl,h=>by
  rw[Rm,cf] at hl;unfold dR;rcases cr.mp h with e | e
  ·cases e;rw[SS (by rfl)];have h1:(env.cells.lookup x).isSome=ai:=by simpa using hl.1
   obtain⟨c,hc⟩:=tf.mp h1;rw[hc];exact⟨c,kQ r _ _ (by simp)⟩
  ·split
   ·split
    ·exact iV r _ hl.2 e
    ·exact iV r _ hl.2 e
   ·exact iV r _ hl.2 e
theorem jG{α:Type}{x:bf}{c:α}:∀{l:List (bf×α)},(x,c)∈l -> ∃c',l.lookup x=aa c'
 | (n,d)::r,h=>by
  rw[Qn];cases e:x==n with
  |true=>exact⟨d,rfl⟩
  |false=>
   rcases cr.mp h with z | z
   ·cases z;simp at e
   ·exact jG z
theorem oU{x:bf}(SY:∀y∈SU.names,y.2 ≠ .cell)(h:(fz SU env).names.lookup x=aa .cell \/ (fz SU env).names.lookup x=aa .free):(x,NameKind.free)∈SU.names:=by
 have:(x,NameKind.cell)∈(fz SU env).names \/ (x,NameKind.free)∈(fz SU env).names:=h.imp fg fg;rcases this with h | h
 ·obtain⟨⟨n,k⟩,hm,e⟩:=ig.mp h;dsimp only at e;split at e
  ·rename_i hc;rw[cf,cf,beq_iff_eq] at hc;cases e;rw[hc.1.1] at hm;exact hm
  ·cases e;exact absurd rfl (SY _ hm)
 ·obtain⟨⟨n,k⟩,hm,e⟩:=ig.mp h;dsimp only at e;split at e
  ·cases e
  ·cases e;exact hm
theorem xT{elt iter tgt:Expr}(tgs ns:List bf)(js:List Nat){k:Nat}{ti:sB}{g:vD}{tt:jZ}(hc:X.N=X.N)(hi:QI X tgt iter ti)
  (hg:∀(fp:List af) (s:ah) (H:Hp),QG (o9 X SU (dR X.env SU.names []) fp (tgs++ns) s H) tgt k g) (ht:∀(fp:List af) (s:ah) (H:Hp),QTs (o9 X SU (dR X.env SU.names []) fp (tgs++ns) s H) ifs tt)
  (he:∀(fp:List af) (s:ah) (H:Hp),QE (o9 X SU (dR X.env SU.names []) fp (tgs++ns) s H) elt te) (hk:autoParam (tgs.length=k) b7._auto_1)
  (Tq:autoParam ((SU.names.all λy=>!(y.2 == .free) || (X.env.cells.lookup y.1).isSome)=ai) b7._auto_1) (hjs:autoParam (js.map (λj=>X.N[j]?)=ns.map aa) b7._auto_1)
  (hin:autoParam ((ns.all λy=>(fz SU X.env).names.lookup y==aa .cell || (fz SU X.env).names.lookup y==aa .free)=ai) b7._auto_1) (Tf:autoParam ((ns.all λy=>X.env.kindOf y==aa .cell || X.env.kindOf y==aa .free)=ai) b7._auto_1)
  (nd:autoParam (js.Nodup) hG._auto_1) (SY:autoParam (∀y∈SU.names,y.2 ≠ .cell) B0._auto_1) (T0:autoParam (SU.kind=.function) b7._auto_1)
  (T4:autoParam (∀y∈SU.names,y.2=.local->SU.names.lookup y.1=aa .local) B0._auto_1) (hs:autoParam (∀z,fe iter X.env z=fo z) B1._auto_1):
  QE X (.ListComp elt [⟨tgt,iter,ifs,0⟩] SU pos) (hX k js ti g tt te):=by
 refine Im hc hk hi hg ht he (mZ Tq) (λx c e=>jV SU.names [] (by simp) (x,c) (fg e)) (λx h=>?_) hjs (λy hy=>?_) (λy hy=>?_) nd SY T0 T4 hs
 ·obtain⟨c,hc⟩:=iV SU.names [] Tq (oU SY h);exact jG hc
 ·have:=tu.mp hin y hy;simpa using this
 ·have:=tu.mp Tf y hy;simpa using this
open Classical in
noncomputable def uA(h:br)(db:RU)(u:ac):Bool:=if q:∃d as,RG h u d as then kz (choose q) db else ao
theorem Bb{db d:RU}{as:List af}(ok:d.canLay0=ai)(r:RG h u d as):uA h db u=kz d db:=by
 unfold uA;have q:∃d as,RG h u d as:=⟨d,as,r⟩;rw[dif_pos q];obtain⟨as',r'⟩:=Classical.choose_spec q;rw[SG d _ u as as' ok r r']
theorem tT(I:Inv X pj σ H s){db:RU}{dx:Dv}(hb:db=iZ dx):∀{xs:List V} {ds:List Dv} {us:List ac},Reps X.K M H xs ds->okDs 8 ds=ai->aY xs us->us.any (uA s.heap db)=ds.any λd=>eqD d dx
 |_,_,_,.nil,_,r=>by cases r;rfl
 |_,_,_,.cons a q,ok,r=>by
  have ok':(d7 8 _&&okDs 8 _)=ai:=ok;rw[cf] at ok';cases r with
  |cons r1 r2=>
   obtain⟨as,ra⟩:=Rep.reads I a ok'.1 r1;rw[qc,qc,tT I hb q ok'.2 r2,Bb (mF 8 _ ok'.1).1 ra,hb];rfl
theorem tF(I:Inv X pj σ H s){A:bu}{v:ac}{dx:Dv}{bs:List af}(rb:RG s.heap v (iZ dx) bs)(ob:d7 8 dx=ai)(hu:A.units+64<ma):∀{xs:List V} {ds:List Dv} {us:List ac},Reps X.K M H xs ds->okDs 8 ds=ai->aY xs us -> ∀u∈us,SeqAt.EqAt A s u v (uA s.heap (iZ dx) u)
 |_,_,_,.nil,_,r,u,hm=>by cases r;simp at hm
 |_,_,_,.cons a q,ok,r,u,hm=>by
  have ok':(d7 8 _&&okDs 8 _)=ai:=ok;rw[cf] at ok';cases r with
  |cons r1 r2=>
   rcases cr.mp hm with e | hm
   ·subst e;obtain⟨as,ra⟩:=Rep.reads I a ok'.1 r1;obtain⟨l1,l2⟩:=mF 8 _ ok'.1;obtain⟨m1,m2⟩:=mF 8 _ ob;rw[Bb l1 ra];exact SeqAt.eqAt_reads _ _ A s u v as bs ra rb l1 m1 ⋯
   ·exact tF I rb ob hu q ok'.2 r2 u hm
noncomputable def Ny(K:aj)(neg:Bool):R2:=λx y H Q=>∃M dx ds p xs,dG K M H x dx/\y=.ref p/\(eT K H p xs \/ kX K H p xs)/\Reps K M H xs ds/\d7 8 dx=ai/\okDs 8 ds=ai /\
 Q (.bl (if neg then !(ds.any λd=>eqD d dx) else ds.any λd=>eqD d dx)) H
theorem v4(h:A.units+65<ma):A.in1.units+64<ma:=by
 have:A.in1.units<=A.units+1:=by unfold Around.in1;simp[Around.units]
 right
theorem CN(hu:X.A.units+65<ma):iA X (cj .NotIn) (Ny X.K ai):=by
 intro pj s σ H x y v u Q I rx ry h;obtain⟨M,dx,ds,p,xs,cx,rfl,hq,rs,o1,o2,q⟩:=h;cases ry;obtain⟨bs,rb⟩:=cx.reads I o1 rx;rcases hq with hq | hq
 ·obtain⟨its,r,pl,hz⟩:=I.list hq;refine SeqAt.notIn_listAt (uA s.heap (iZ dx)) pl.isList (λw hw=>tF I rb o1 (v4 hu) rs o2 r w (by simpa using hw)) ⟨.bl _,H,I,rfl,?_⟩;rw[show its.toArray.any (uA s.heap (iZ dx))=its.any (uA s.heap (iZ dx)) by simp,tT I rfl rs o2 r];exact q
 ·obtain⟨its,r,pl,hz⟩:=I.tuple hq;refine SeqAt.notIn_tupleAt (uA s.heap (iZ dx)) pl (λw hw=>tF I rb o1 (v4 hu) rs o2 r w (by simpa using hw)) ⟨.bl _,H,I,rfl,?_⟩;rw[show its.toArray.any (uA s.heap (iZ dx))=its.any (uA s.heap (iZ dx)) by simp,tT I rfl rs o2 r];exact q
end Z
variable {sp:Z.Fn}
namespace Z
open L2
theorem G0{k:Nat}(r:Room k A):A.units+65<ma:=by have:=r.un;right
noncomputable def LO:Dv->Dv->(R->Prop)->Prop
 | .int i,.int j,Q=>j≠0/\Q (.v (.int (i.fmod j)))
 |_,_,_=>False
noncomputable def isB(b:Bool):Dv->Bool
 | .bl c=>c==b
 |_=>ao
noncomputable def OG:Dv->Dv->(R->Prop)->Prop
 |d,.bl b,Q=>Q (.v (.bl (isB b d)))
 |_,_,_=>False
noncomputable def LM:Dv->Dv->(R->Prop)->Prop
 |d,.bl b,Q=>Q (.v (.bl (!isB b d)))
 |_,_,_=>False
noncomputable def Hw(i:Nat)(tk tv:cQ):bV:=λE ρ=>match ρ[i]? with
 |some (.own a (.lst xs))=>tv ρ λr=>tk ρ λk=>match k.d with
  | .int n=>match qX xs.length n with
   |some j=>r.free=ai/\E.nx (ρ.set i (.own a (.lst (xs.set j r.d))))
   |none=>False
  |_=>False
 |_=>False
noncomputable def inD(d:Dv)(ds:List Dv):Bool:=ds.any λe=>eqD e d
noncomputable def t4:Dv->Dv->(R->Prop)->Prop
 |d,.lst ds,Q=>(d7 8 d=ai/\okDs 8 ds=ai)/\Q (.v (.bl (!inD d ds)))
 |d,.tup ds,Q=>(d7 8 d=ai/\okDs 8 ds=ai)/\Q (.v (.bl (!inD d ds)))
 |_,_,_=>False
theorem CM(hu:X.A.units+65<ma)(_hu1:X.A.units+1<ma):tV X (cj .NotIn) t4:=by
 refine⟨λdx dy Q Q' w h=>?_,_,CN hu,λM O H x y dx dy Q cx cy h=>?_⟩
 ·unfold t4 at h;split at h
  ·exact⟨h.1,w _ h.2⟩
  ·exact⟨h.1,w _ h.2⟩
  ·exact h.elim
 ·unfold t4 at h;split at h
  ·obtain⟨a,xs,rfl,ea,ra⟩:=cy.lst;exact⟨M,_,_,a,xs,cx,rfl,.inl (eT.of ea),ra,h.1.1,h.1.2,h.2 _ H (aI.refl _) (Rep.bl _)⟩
  ·obtain⟨a,xs,rfl,ea,ra⟩:=cy.tup;exact⟨M,_,_,a,xs,cx,rfl,.inr (kX.of ea),ra,h.1.1,h.1.2,h.2 _ H (aI.refl _) (Rep.bl _)⟩
  ·exact h.elim
structure QX(X:Cx)(st:gg)(i:Nat)(te:cQ):Prop where
 mono:∀(ρ:List Sl) (Q Q':R->Prop),(∀r,Q r->Q' r)->te ρ Q->te ρ Q'
 run:∀(HZ:Hp) (F:af->Prop),PS X st (G4 (lift X.K HZ F te) (yW i))
variable {σ:St}
theorem QX.step{Q':VK}(h:QX X st i te)(fr:Fr X.K HZ F σ H ρ)(q:te ρ Q)
  (k:∀r x H',Q r->aI H H'->d5 X.K (MM F ρ) (uK ρ) H x r H'->Q' x H'):lift X.K HZ F te σ H Q':=⟨ρ,fr,h.mono _ _ _ (λr qr x H' S rx=>k r x H' qr S rx) q⟩
theorem Ii(he:QX X st i te):QS X st (cC i te):=by
 refine⟨λE E' ρ w h=>he.mono _ _ _ (λr q=>?_) h,λHZ F=>cA (he.run HZ F) λD σ H ⟨ρ,E,fr,h,en⟩=>?_⟩
 ·cases r with
  |v d=>exact w.nx _ q
  |nw d=>exact w.nx _ q
  |ow a d=>exact q
 ·refine he.step fr h λr x H1 q S1 r1=>?_;cases r with
  |v d=>exact en.nx _ _ _ ((fr.mono S1).setv r1) q
  |nw d=>exact en.nx _ _ _ ((fr.mono S1).setv (r1.rep (λa m=>fr.dom m) rfl)) q
  |ow a d=>exact q.elim
variable {y:bf}{py spos:gm}{iy:Nat}{elt iter tgt:Expr}{ti:sB}{g:vD}{tt:jZ}
theorem GI{cl:List (bf×af)}{tgs ns:List bf}{js:List Nat}{k:Nat}(hN:X.N.Nodup)(hi2:X.N[iy]?=aa y)(hx2:xC X.env.scope y)(hc:X.N=X.N)(hk:tgs.length=k)
  (hi:QI X tgt iter ti) (hg:∀(fp:List af) (s:ah) (H:Hp),QG (o9 X SU cl fp (tgs++ns) s H) tgt k g) (ht:∀(fp:List af) (s:ah) (H:Hp),QTs (o9 X SU cl fp (tgs++ns) s H) ifs tt)
  (he:∀(fp:List af) (s:ah) (H:Hp),QE (o9 X SU cl fp (tgs++ns) s H) elt te)
  (Te:ph SU X.env=fo cl) (Ta:∀x c,cl.lookup x=aa c->X.env.cells.lookup x=aa c)
  (Tp:∀x,((fz SU X.env).names.lookup x=aa .cell \/ (fz SU X.env).names.lookup x=aa .free) -> ∃c,cl.lookup x=aa c)
  (hjs:js.map (λj=>X.N[j]?)=ns.map aa) (hin:∀y∈ns,(fz SU X.env).names.lookup y=aa .cell \/ (fz SU X.env).names.lookup y=aa .free)
  (Tf:∀y∈ns,X.env.kindOf y=aa .cell \/ X.env.kindOf y=aa .free) (nd:js.Nodup)
  (SY:autoParam (∀y∈SU.names,y.2 ≠ .cell) B0._auto_1) (T0:autoParam (SU.kind=.function) b7._auto_1)
  (T4:autoParam (∀y∈SU.names,y.2=.local->SU.names.lookup y.1=aa .local) B0._auto_1)
  (hs:autoParam (∀z,fe iter X.env z=fo z) B1._auto_1)
  (hsw:autoParam (eh (.ListComp elt [⟨tgt,iter,ifs,0⟩] SU pos) (aa (.Name y py)) spos.line X.env=fo ai) b7._auto_1) (hf:autoParam (X.fn y=ai \/ X.env.scope.names.lookup y=aa .local) xA._auto_1):
  QX X (.Assign [.Name y py] (.ListComp elt [⟨tgt,iter,ifs,0⟩] SU pos) spos) iy (hX k js ti g tt te):=by
 have mg:=(hg [] X.s₀ λ_=>aq).mono;have ag:=(hg [] X.s₀ λ_=>aq).agree;have mt:=(ht [] X.s₀ λ_=>aq).mono;have me:=(he [] X.s₀ λ_=>aq).mono;refine⟨λρ Q Q' w h=>hi.mono _ _ _ (λds ogs h=>j8 mg mt me ds [] Q Q' w h) h,λHZ F=>?_⟩;obtain⟨wi,hwi,wiq⟩:=hi.run HZ F
 suffices key:∀σ H Q,lift X.K HZ F (hX k js ti g tt te) σ H Q->vI wi tgs.length js (liftG X.K k g) (λσ H Q=>∃HZ F,liftT X.K HZ F tt σ H Q) (λσ H Q=>∃HZ F,lift X.K HZ F te σ H Q) σ H Q from
  cA (E4 (tgs:=tgs) (ns:=ns) (js:=js) (g:=liftG X.K k g) (tt:=λσ H Q=>∃HZ F,liftT X.K HZ F tt σ H Q) (te:=λσ H Q=>∃HZ F,lift X.K HZ F te σ H Q) hN hi2 hx2 hc hwi (λfp s H=>(hg fp s H).pg) (λfp s H=>(ht fp s H).pt) (λfp s H=>(he fp s H).pe) Te Ta Tp hjs hin Tf SY T0 T4 hs hsw hf) λD σ H h=>key σ H _ h
 intro σ H Q ⟨ρ,fr,h⟩;subst hk;refine wiq σ H ρ _ fr (hi.mono _ _ _ (λds ogs q J H1 S1 gd ok=>?_) h);intro D hD;have fr1:=fr.mono S1;refine⟨λi m acc H2=>m=ds.length-i/\i<=ds.length/\aI H1 H2 /\ ∃accD,Reps X.K (λa=>MM F ρ a \/ a=D) H2 acc accD /\
  cT (bc tgs.length .un++dM js ρ) g tt te (ds.drop i) accD (λr=>∀x H',aI H H'->d5 X.K (MM F ρ) (uK ρ) H x r H'->Q x H'),
  ⟨ds.length,by simp,mj _,aI.new' hD,[],.nil,by simpa using q⟩,?_⟩
 rintro i m acc H2 ⟨rfl,hil,S2,accD,ra,q⟩ hDl;have G2:Gen X.K (MM F ρ) (λa=>MM F ρ a \/ a=D) H1 H2:=(Gen.fresh hD).trans (.mono S2);have oks:=ok i H2 (λa=>MM F ρ a \/ a=D) (λb o e=>S2 _ _ (mC e)) G2 λp hp=>by
  obtain⟨_,_,_,ow⟩:=fr1.at_own (gd p hp);exact ow.gen G2 λo e=>S2 _ _ e
 by_cases hlt:i<ds.length
 ·have hd:ds[i]?=aa ds[i]:=by simp[hlt]
  rw[ik hlt] at q;obtain⟨go,yld⟩:=oks.1 _ hd;refine .inr ⟨go,λy H3 hy old lo=>?_⟩;obtain⟨S3,ry⟩:=yld y H3 hy;have hD3:=S3 _ _ hDl;obtain⟨P,F',fr',iff,iffF⟩:=fr1.block (js:=js) (old:=old) (S2.trans S3) hD (by rw[hD3];simp) nd lo;refine⟨_,P,F',_,fr',ry.weak λa z=>(iff a).mp z,mg _ _ _ _ (λρ1 q1 σ1 f1 a1=>?_) (ag _ _ _ q)⟩;obtain⟨q1,l1,b1⟩:=q1;have up:∀a,MM F ρ a \/ a=D->MM F' ρ1 a:=λa z=>by
   rcases(iff a).mpr z with z | ⟨d,z⟩
   ·exact .inl z
   ·refine .inr ⟨d,?_⟩;obtain⟨j,e⟩:=jb.mp z;have hj:tgs.length<=j:=by
     by_cases hj:j<tgs.length
     ·rw[bp (by simpa using hj),fk,SS hj] at e;cases e
     ·right
    rw[<- b1 j hj] at e;exact cq e
  have hlen:σ1.length=tgs.length+(pick js σ).length:=by
   have:=f1.len;rw[l1] at this;simp[pick,dM] at this ⊢;right
  refine⟨⟨σ1.take tgs.length,by rw[jq];right,xJ lo hlen a1⟩,P,F',ρ1,f1,mt _ _ _ (λb q5 H5 S5=>?_) q1⟩;have S25:=(S2.trans S3).trans S5;cases b with
  |true=>
   simp only[if_true] at q5;refine iO ⟨P,F',ρ1,f1.mono S5,me _ _ _ (λr q6 x H6 S6 rx=>?_) q5⟩;have hD6:=S6 _ _ (S5 _ _ hD3);obtain⟨⟨rf,rl⟩,q6⟩:=q6;have rep:=(rx.rep (λa z=>(f1.mono S5).dom z) rf).weak up;refine⟨hD6,by rw[ra.length];exact qG rl,ds.length-(i+1),⋯,rfl,hlt,λb o e=>?_,_,?_,q6⟩
   ·rw[aQ (aX e hD)];exact S6 _ _ (S25 _ _ e)
   ·have G6:Gen X.K (λa=>MM F ρ a \/ a=D) (λa=>MM F ρ a \/ a=D) H6 (upd H6 D (.lst (acc++[x]))):=Gen.write (.inr rfl) (by rw[hD6];trivial);exact((ra.mono ((S3.trans S5).trans S6)).append (.cons rep .nil)).gen G6
  |false=>
   simp only[dw,if_false] at q5;exact iP ⟨S5 _ _ hD3,ds.length-(i+1),⋯,rfl,hlt,S25,accD,ra.mono (S3.trans S5),q5⟩
 ·have e:i=ds.length:=⋯;subst e;rw[tm] at q;exact .inl ⟨oks.2 (bo _),q (.ref D) H2 (S1.trans S2) ⟨D,rfl,S1.free hD,acc,hDl,ra⟩⟩
theorem L3(tgs ns:List bf)(js:List Nat){k:Nat}(hN:X.N.Nodup)(hi2:X.N[iy]?=aa y)(hx2:xC X.env.scope y)(hc:X.N=X.N)(hi:QI X tgt iter ti)
  (hg:∀(fp:List af) (s:ah) (H:Hp),QG (o9 X SU (dR X.env SU.names []) fp (tgs++ns) s H) tgt k g) (ht:∀(fp:List af) (s:ah) (H:Hp),QTs (o9 X SU (dR X.env SU.names []) fp (tgs++ns) s H) ifs tt)
  (he:∀(fp:List af) (s:ah) (H:Hp),QE (o9 X SU (dR X.env SU.names []) fp (tgs++ns) s H) elt te) (hk:autoParam (tgs.length=k) b7._auto_1)
  (Tq:autoParam ((SU.names.all λy=>!(y.2 == .free) || (X.env.cells.lookup y.1).isSome)=ai) b7._auto_1) (hjs:autoParam (js.map (λj=>X.N[j]?)=ns.map aa) b7._auto_1)
  (hin:autoParam ((ns.all λy=>(fz SU X.env).names.lookup y==aa .cell || (fz SU X.env).names.lookup y==aa .free)=ai) b7._auto_1) (Tf:autoParam ((ns.all λy=>X.env.kindOf y==aa .cell || X.env.kindOf y==aa .free)=ai) b7._auto_1)
  (nd:autoParam (js.Nodup) hG._auto_1) (SY:autoParam (∀y∈SU.names,y.2 ≠ .cell) B0._auto_1) (T0:autoParam (SU.kind=.function) b7._auto_1)
  (T4:autoParam (∀y∈SU.names,y.2=.local->SU.names.lookup y.1=aa .local) B0._auto_1) (hs:autoParam (∀z,fe iter X.env z=fo z) B1._auto_1)
  (hsw:autoParam (eh (.ListComp elt [⟨tgt,iter,ifs,0⟩] SU pos) (aa (.Name y py)) spos.line X.env=fo ai) b7._auto_1) (hf:autoParam (X.fn y=ai \/ X.env.scope.names.lookup y=aa .local) xA._auto_1):
  QX X (.Assign [.Name y py] (.ListComp elt [⟨tgt,iter,ifs,0⟩] SU pos) spos) iy (hX k js ti g tt te):=by
 refine GI hN hi2 hx2 hc hk hi hg ht he (mZ Tq) (λx c e=>jV SU.names [] (by simp) (x,c) (fg e)) (λx h=>?_) hjs (λy hy=>?_) (λy hy=>?_) nd SY T0 T4 hs hsw hf
 ·obtain⟨c,hc⟩:=iV SU.names [] Tq (oU SY h);exact jG hc
 ·have:=tu.mp hin y hy;simpa using this
 ·have:=tu.mp Tf y hy;simpa using this
noncomputable def LW:Dv->Dv->(R->Prop)->Prop
 | .int i,.int j,Q=>Q (.v (.int (i+j)))
 | .str x,.str y,Q=>x.length+y.length<=tW/\Q (.v (.str (x++y)))
 |_,_,_=>False
noncomputable def yE:Dv->Dv->(R->Prop)->Prop
 | .int i,.int j,Q=>Q (.v (.int (i-j)))
 |_,_,_=>False
noncomputable def LU:Dv->Dv->(R->Prop)->Prop
 | .int i,.int j,Q=>rA i j/\Q (.v (.int (i*j)))
 |_,_,_=>False
theorem F8:QB X .Sub yE:=by
 refine⟨λdx dy Q Q' w h=>?_,_,HL,λM O H x y dx dy Q cx cy h=>?_⟩
 ·unfold yE at h;split at h
  ·exact w _ h
  ·exact h.elim
 ·unfold yE at h;split at h
  ·obtain rfl:=cx.int;obtain rfl:=cy.int;exact⟨_,_,rfl,rfl,h _ H (aI.refl _) (Rep.int _)⟩
  ·exact h.elim
noncomputable def Kt(te:cQ)(g:vD):bV:=λE ρ=>te ρ λr=>r.free=ai/\g r.d ρ E.nx
theorem Dj{a b c:Expr}{ta tb tc:cQ}{op op':xb}{f f':Int->Int->Bool}(ho:iA X (cj op) (vN λi j=>.bl (f i j)))(ho':iA X (cj op') (vN λi j=>.bl (f' i j)))(ha:QE X a ta)(hb:QE X b tb)(hc:QE X c tc)
  (hm:autoParam (uf [op,op'] [b,c]=ao) IL._auto_1):QT X (.Compare a [op,op'] [b,c] pos) (b6 (qK (uX f) (uX f') ta tb tc)):=by
 have Q0:=GJ (pos:=pos) ho ho' ha hb hc hm;have low:∀(HZ:Hp) (F:af->Prop) (σ:St) (H:Hp) (Q:VK),lift X.K HZ F (qK (uX f) (uX f') ta tb tc) σ H Q->A7 (vN λi j=>.bl (f i j)) (vN λi j=>.bl (f' i j)) (lift X.K HZ F ta) (lift X.K HZ F tb) (lift X.K HZ F tc) σ H Q:=by
  rintro HZ F σ H Q ⟨ρ,fr,q⟩;refine ha.step fr q λrx x H1 q1 S1 r1=>?_;refine hb.step (fr.mono S1) q1 λry y H2 q2 S2 r2=>?_;have cx:=(r1.mono S2).c;have cy:=r2.c;generalize rx.d=dx at q2 cx;generalize ry.d=dy at q2 cy;unfold uX at q2;split at q2
  ·rename_i Q2 i j;obtain rfl:=cx.int;obtain rfl:=cy.int;refine⟨_,_,rfl,rfl,f i j,rfl,?_⟩;have S12:=S1.trans S2;replace q2:=(show (if f i j=ai then tc ρ (λw=>uX f' (.int j) w.d (λr=>∀x H',aI H H'->d5 X.K (MM F ρ) (Z.uK ρ) H x r H'->Q x H')) else (∀x H',aI H H'->d5 X.K (MM F ρ) (Z.uK ρ) H x (.v (.bl ao)) H'->Q x H')) from q2);cases h:f i j with
   |true=>
    rw[h] at q2;simp only[if_true] at q2;refine iO (hc.step ((fr.mono S1).mono S2) q2 λrw' z H3 q3 S3 r3=>?_);have cz:=r3.c;generalize rw'.d=dz at q3 cz;cases dz with
    |int l=>
     obtain rfl:=cz.int;exact⟨_,_,rfl,rfl,q3 _ H3 (S12.trans S3) (Rep.bl _)⟩
    |_=>exact(show False from q3).elim
   |false=>
    rw[h] at q2;simp only[dw,if_false] at q2;exact iP (q2 _ H2 S12 (Rep.bl _))
  ·exact q2.elim
 refine⟨λρ Q Q' w q=>tM Q0.mono ρ Q Q' w q,λHZ F=>x8 (Dw ho ho' (ha.run HZ F) (hb.run HZ F) (hc.run HZ F) hm) λσ H Q zz=>?_⟩;obtain⟨ρ,fr,q⟩:=zz;refine low HZ F σ H _ (Q0.step fr q λr x H1 q S1 r1=>?_);have cx:=r1.c;generalize r.d=d at q cx;split at q
 ·obtain rfl:=cx.bl;exact⟨_,rfl,q H1 S1⟩
 ·exact q.elim
variable {f:bf}{p1:gm}
noncomputable def Bu(i:Nat)(te:cQ):bV:=λE ρ=>match ρ[i]? with
 |some (.own a (.lst xs))=>te ρ λr=>match r.d with
  | .lst ys=>xs.length+ys.length<=tW/\E.nx (ρ.set i (.own a (.lst (xs++ys))))
  |_=>False
 |_=>False
theorem L5{x:bf}{p2 p3:gm}(hv:PE X (.Name x p1) (rC i))(he:QE X e te)(hs:autoParam (eh (.Call (.Attribute (.Name x p1) "extend" p2) [e] [] p3) aq pos.line X.env=fo ao) b7._auto_1)
  (T6:autoParam (iw (.Name x p1) "extend" X.env (di (.Name x p1) X.env)=di (.Name x p1) X.env) b7._auto_1)
  (hfew:autoParam (((dq p3 (au [e] X.env)).all (λx=>!x.1)&&(nz p3 (jp [] X.env)).all (λx=>x.1.isSome)
   && decide ([e].length+([]:List sy).length+(if ([]:List sy).isEmpty then 0 else 1)<30))=ai) b7._auto_1)
  (Td:autoParam ((p2.endLine==p3.line)=ai) b7._auto_1) (hst:autoParam (au [e] X.env=(ao,di e X.env)::au [] X.env) b7._auto_1) (Tc:autoParam ((dq p3 (au [] X.env)).any (·.1)=ao) b7._auto_1):
  QS X (.Expr (.Call (.Attribute (.Name x p1) "extend" p2) [e] [] p3) pos) (Bu i te):=by
 refine⟨λE E' ρ w h=>?_,λHZ F=>cA (rS (EJ kn PySem.F.slot_list_extend PySem.F.type_list_extend CS hv (kE (he.run HZ F) qA hst) T6 hfew Td hst Tc) hs) λD σ H ⟨ρ,E,fr,h,en⟩=>?_⟩
 ·unfold Bu at *;split at h
  ·refine he.mono _ _ _ (λr q=>?_) h;split at q
   ·exact⟨q.1,w.nx _ q.2⟩
   ·exact q
  ·exact h
 ·unfold Bu at h;split at h
  ·rename_i a xs hx;obtain⟨hs1,vs,hv1,rv1⟩:=fr.sl i _ hx;refine⟨_,hs1,.inl ⟨rfl,_,eT.of hv1⟩,he.step fr h λr y H1 q S1 r1=>?_⟩;have cy:=r1.c;generalize r.d=d at q cy;split at q
   ·rename_i ys;obtain⟨b,zs,rfl,eb,rb⟩:=cy.lst;obtain⟨ql,q2⟩:=q;have hv2:=S1 _ _ hv1;refine⟨a,b,vs,zs,rfl,rfl,hv2,eb,gY (by rw[rv1.length,rb.length];exact ql),?_⟩;refine en.nx _ _ _ ((fr.mono S1).write (d':=.lst (xs++ys)) hx ⟨_,bC,?_⟩) q2;have G:Gen X.K (MM F ρ) (MM F ρ) H1 (upd H1 a (.lst (vs++zs))):=Gen.write (.inr ⟨_,cq hx⟩) (by rw[hv2];trivial);exact((rv1.mono S1).append rb).gen G
   ·exact q.elim
  ·exact h.elim
noncomputable def Ds(f:bf)(d:Dv):List (bf×Dv)->List (bf×Dv)
 | []=>[(f,d)]
 | (g,x)::r=>if g=f then (g,d)::r else (g,x)::Ds f d r
theorem RepF.put{x:V}{d:Dv}(a:Rep K M H x d){xs:List (bf×V)}{ds:List (bf×Dv)}(r:RepF K M H xs ds):RepF K M H (kC f x xs) (Ds f d ds):=
 r.ind (P:=λxs ds=>RepF K M H (kC f x xs) (Ds f d ds)) (.cons a .nil) λk _ _ _ _ b r ih=>by
  show RepF K M H (if k=f then _ else _) (if k=f then _ else _);split
  ·exact .cons a r
  ·exact .cons b ih
theorem RepF.length{K:aj}{M:af->Prop}{H:Hp}{xs:List (bf×V)}{ds:List (bf×Dv)}(r:RepF K M H xs ds):xs.length=ds.length:=r.ind (P:=λxs ds=>xs.length=ds.length) rfl λ_ _ _ _ _ _ _ ih=>congrArg (· + 1) ih
noncomputable def sS(C:af)(i:Nat)(f:bf)(te:cQ):bV:=λE ρ=>match ρ[i]? with
 |some (.own a (.obj C' fs))=>te ρ λr=>(C'=C/\r.free=ai/\fs.length<1000)/\E.nx (ρ.set i (.own a (.obj C' (Ds f r.d fs))))
 |_=>False
theorem Dq{x:bf}{p2:gm}(c:Cls X.K C)(n:hV X.K C f)(hv:PE X (.Name x p1) (rC i))(he:QE X e te)
  (hs:autoParam (eh e (aa (.Attribute (.Name x p1) f p2)) pos.line X.env=fo ao) b7._auto_1):QS X (.Assign [.Attribute (.Name x p1) f p2] e pos) (sS C i f te):=by
 refine⟨λE E' ρ w h=>?_,λHZ F=>cA (Ix hv he.pe hs) λD σ H ⟨ρ,E,fr,h,en⟩=>?_⟩
 ·unfold sS at *;split at h
  ·exact he.mono _ _ _ (λr q=>⟨q.1,w.nx _ q.2⟩) h
  ·exact h
 ·unfold sS at h;split at h
  ·rename_i a C' fs hx;refine⟨HZ,F,he.step fr h λr y H1 q S1 r1=>?_⟩;obtain⟨⟨rfl,qf,ql⟩,q2⟩:=q;have fr1:=fr.mono S1;obtain⟨hs1,dx,fs1,hv1,rv1⟩:=fr1.sl i _ hx;have rep:=r1.rep (λa m=>fr.dom m) qf;refine⟨_,hs1,a,C',dx,fs1,rfl,hv1,c,n,by rw[rv1.length];exact ql,?_⟩;refine en.nx _ _ _ (fr1.write (d':=.obj C' (Ds f r.d fs)) hx ⟨dx,_,bC,?_⟩) q2;have G:Gen X.K (MM F ρ) (MM F ρ) H1 (upd H1 a (.ins C' dx (kC f y fs1))):=Gen.write (.inr ⟨_,cq hx⟩) (by rw[hv1];trivial);exact(RepF.put rep rv1).gen G
  ·exact h.elim
noncomputable def ON(K:aj)(C:af)(sp:Fn):Sp:=λvs H Q _=>∃(x dx:af) (vs':List V) (H0:Hp) (F:af->Prop) (ds:List Dv),vs=.ref x::vs'/\H=upd (upd H0 dx (.own x)) x (.ins C dx [])/\H0 x=aq/\H0 dx=aq/\dx≠x/\OldF K F H0/\Reps K F H0 vs' ds /\
 sp ds (λr=>∀H',aI H0 H'->d5 K F vE H0 (.ref x) r H'->Q .non H')
structure IDef(P:ay)(w:bg)(K:aj)(mg:bf->Option ac)(base:br)(k:Nat)(x:bf)(C:af)(ps:List bf)(sp:Fn):Prop where
 ex:∃f fd,Mk K C f/\mg x=aa (.ref C)/\dI K fd ps []/\FnOk P w K mg base xD k f fd ps (ON K C sp)
structure IAt(K:aj)(mg:bf->Option ac)(x:bf)(C:af)(qual:bf)(st:gg)(ps:List bf):Prop where
 ex:∃f fd,Mk K C f/\mg x=aa (.ref C)/\Fun K "__init__" qual st f fd/\dI K fd ps []
noncomputable def hU(C a:af)(N:List bf)(ds:List Dv):List Sl:=.own a (.obj C [])::(ds.map .v++bc (N.length-(ds.length+1)) .un)
variable {H0:Hp}{dx:af}
theorem Da{x:af}{o o':HO}(hx:H0 x=aq)(hd:H0 dx=aq):aI H0 (upd (upd H0 dx o) x o'):=λb q e=>by
 rw[aQ (aX e hx),aQ (aX e hd)];exact e
theorem Bq{x:af}{vs:List V}(hx:H0 x=aq)(hd:H0 dx=aq)(hF:OldF K F H0)(r:Reps K F H0 vs ds):
  Fr K H0 F (start N (.ref x::vs)) (upd (upd H0 dx (.own x)) x (.ins C dx [])) (hU C x N ds):=by
 have S:aI H0 (upd (upd H0 dx (.own x)) x (.ins C dx [])):=Da hx hd;have only:∀{a:af} {d:Dv},Sl.own a d∈hU C x N ds->a=x:=λ{a d} h=>by
  rcases cr.mp h with h | h
  ·cases h;rfl
  ·rcases fu.mp h with h | h
   ·obtain⟨z,_,e⟩:=ig.mp h;cases e
   ·cases ga h
 have wk:∀a,MM F (hU C x N ds) a->F a \/ a=x:=λa h=>by
  rcases h with h | ⟨d,h⟩
  ·exact .inl h
  ·exact .inr (only h)
 have G:Gen K F (MM F (hU C x N ds)) H0 (upd (upd H0 dx (.own x)) x (.ins C dx [])):=((Gen.fresh hx).trans (.mono S)).trans (.weak wk);have hl:=r.length;have r':=r.gen G;have zero:∀(i:Nat) (a:af) (d:Dv),(hU C x N ds)[i]?=aa (.own a d)->i=0:=λi a d e=>by
  cases i with
  |zero=>rfl
  |succ i=>
   have e':(ds.map Sl.v++bc (N.length-(ds.length+1)) Sl.un)[i]?=aa (.own a d):=e;have:=cq e';rcases fu.mp this with h | h
   ·obtain⟨z,_,e⟩:=ig.mp h;cases e
   ·cases ga h
 refine⟨by simp[L2.start,hU,hl],λi s e=>?_,λi j a d d' e1 e2=>?_,λa d h=>by rw[only h];exact hx,S,hF⟩
 ·cases i with
  |zero=>
   cases e;exact⟨rfl,dx,[],bC,.nil⟩
  |succ i=>
   have e':(ds.map Sl.v++bc (N.length-(ds.length+1)) Sl.un)[i]?=aa s:=e;have es:(start N (.ref x::vs))[i+1]?=(vs.map aa++bc (N.length-(vs.length+1)) aq)[i]?:=by simp[L2.start]
   rw[es];by_cases hi:i<ds.length
   ·rw[bp (by simpa using hi),bw] at e';cases q:ds[i]? with
    |none=>rw[q] at e';cases e'
    |some d=>
     rw[q] at e';cases e';obtain⟨y,hy,ry⟩:=r'.get q;refine⟨y,?_,ry⟩;rw[bp (by simpa using(bj.mp hy).1),bw,hy];rfl
   ·rw[cg (by simpa using ml hi)] at e';have:=cq e';cases ga this;trivial
 ·rw[zero i a d e1,zero j a d' e2]
theorem IAt.okP{k:Nat}{x:bf}{t:bV}(m:IAt K mg x C SV st ps)(S:FnScope N ps (aB st))
  (hq:∀(f:af) (cdv:ac) (A:bu) (outer:List ox) (s:ah) (H:Hp) (E:XK),Room k (A.deeper (ir SV (aB st) s.heap.objs.size f cdv))->QSs (bP xD P w K mg base N SV (aB st) f cdv A outer s H E).nox (cM st) t)
  (len:∀ds Q,sp ds Q->ds.length+1=ps.length) (hsp:∀ds Q,sp ds Q -> ∀a,t { nx:=λρ=>∃d,ρ[0]?=aa (.own a d)/\Q (.nw d),rt:=λ_=>False } (hU C a N ds)):IDef P w K mg base (k+1) x C ps sp:=by
 obtain⟨f,fd,M,hm,FF,hb⟩:=m.ex;refine⟨f,fd,M,hm,hb,FF.ok S (λvs H Q E zz=>?_) λcdv A outer s H vs Q E hr q=>?_⟩
 ·obtain⟨a,dx,vs',H0,F,ds,e,_,_,_,_,_,r,q⟩:=zz;rw[e,cw,r.length];exact len _ _ q
 ·obtain⟨a,dx,vs',H0,F,ds,rfl,rfl,hx,hd,hn,hF,r,q⟩:=q;refine⟨_,(hq f cdv A outer s _ E hr).run H0 F,hU C a N ds,_,Bq hx hd hF r,hsp ds _ q a,?_,λ_ _ _ _ z=>z.elim,λ_ _ _ _ z=>z.elim,λ_ _ _ _ _ z=>z.elim⟩;rintro ρ σ H' fr ⟨d,hd',q⟩;have mem:Sl.own a d∈ρ:=cq hd';exact q H' fr.same ⟨a,rfl,hx,(fr.sl 0 _ hd').2.weak λb z=>z.elim .inl λz=>.inr ⟨d,by rw[z];exact mem⟩⟩
noncomputable def z8(sp:Fn)(ts:iY):cQ:=λρ Q=>ts ρ λrs=>sp (rs.map R.d) (back rs Q)
section
variable {k:Nat}{x:bf}
theorem Ik(d:IDef X.prog X.w X.K X.mg X.base k x C ps sp)(mo:MonoF sp)(hr:Room (k+1) X.A)(ha:QA X (e::es) ts)(hg:autoParam (Gl X x) b7._auto_1)
  (hdb:autoParam ((x==("__debug__" : bf))=ao) hG._auto_1) (he:autoParam (au (e::es) X.env=(ao,di e X.env)::au es X.env) b7._auto_1) (hpl:autoParam ((dq pos (au es X.env)).any (·.1)=ao) b7._auto_1):
  QE X (.Call (.Name x p) (e::es) [] pos) (z8 sp ts):=by
 obtain⟨f,fd,M,hm,hb,FO⟩:=d.ex;refine⟨λρ Q Q' w q=>ha.mono _ _ _ (λrs q=>mo.mo _ _ _ (iE w) q) q,λHZ F=>bX (GX M FO hr hg hm hb .nil BN (ha.run HZ F) hdb he hpl) λσ H Q zz=>?_⟩;obtain⟨ρ,fr,h⟩:=zz;refine ha.step fr h λrs xs H1 q S1 r1=>?_;intro a dx hx hd hn;rw[dr];refine⟨a,dx,xs,H1,lent (MM F ρ) rs,rs.map R.d,rfl,rfl,hx,hd,hn,⟨λb z=>(fr.mono S1).dom z.1,(fr.mono S1).tab⟩,gG fr (λ_ h=>h) r1,mo.mo _ _ _ (λr q H' S rx=>?_) q⟩;exact⟨rfl,q.2 _ H' (S1.trans S) (mG fr S1 rx q.1)⟩
end
noncomputable def IX(a:af)(N:List bf):List Dv->List Sl
 | []=>[]
 |d::ds=>.own a d::(ds.map .v++bc (N.length-(ds.length+1)) .un)
noncomputable def Ko(i:Nat)(sp:Fn)(ts:iY):bV:=λE ρ=>ts ρ λrs=>match rs with
 | .ow a d::SW=>ρ[i]?=aa (.own a d)/\SW.all R.free=ai/\sp (d::SW.map R.d) (λr=>match r with | .nw d'=>∀b,E.nx (ρ.set i (.own b d')) | _=>False)
 |_=>False
section
variable {k:Nat}{x:bf}{pos2:gm}
end
noncomputable def O4:Dv->Dv->(R->Prop)->Prop
 | .int i,.int j,Q=>Ft i j/\Q (.v (.int (i*2 ^ j.toNat)))
 |_,_,_=>False
end Z
namespace L2
open AutoSeq1
section
variable {r:af}{a b c:Int}{t u v:SR}
end
end L2
namespace L2
end L2
namespace Z
open L2
section
variable {a:Expr}{p2:gm}
noncomputable def Lu(ts:iY):cQ:=λρ Q=>ts ρ λrs=>match rs.map R.d with
 | [.int j]=>(-(2 ^ 62)<=j/\j<2 ^ 62/\j.toNat<=1000000)/\Q (.v (.tup (aR 0 j.toNat)))
 |_=>False
end
end Z
namespace Tim
open PySem PySem.W PyProof.Rows
noncomputable def ask(lt:Nat->Nat->Bool)(N:Nat){α:Type}:KasT α->(α->Prop)->Prop
 | .ret a,Q=>Q a
 | .ask i j k,Q=>(i<N/\j<N/\i≠j)/\ask lt N (k (lt i j)) Q
theorem jX{lt:Nat->Nat->Bool}{N:Nat}{α β:Type}{f:α->KasT β}{Q:β->Prop}:∀(t:KasT α),ask lt N t (λa=>ask lt N (f a) Q)->ask lt N (t.bind f) Q
 | .ret _,h=>h
 | .ask i j k,h=>⟨h.1,jX (k (lt i j)) h.2⟩
theorem Fe{lt:Nat->Nat->Bool}{N:Nat}{α:Type}{cmp:Nat->Nat->(Bool->ah->Prop)->ah->Prop}{s:ah}(hc:∀i j C,i<N->j<N->i≠j->C (lt i j) s->cmp i j C s){Q:α->ah->Prop}:
  ∀(t:KasT α),ask lt N t (λa=>Q a s)->t.kasWp cmp Q s
 | .ret _,h=>h
 | .ask i j k,h=>hc i j _ h.1.1 h.1.2.1 h.1.2.2 (Fe hc (k (lt i j)) h.2)
structure Weak(lt:Nat->Nat->Bool):Prop where
 irr:∀a,lt a a=ao
 tr:∀a b c,lt a b=ai->lt b c=ai->lt a c=ai
 nt:∀a b c,lt a c=ai->lt a b=ai \/ lt b c=ai
noncomputable def cK(p:Array Nat)(k:Nat):Nat:=p.getD k 0
variable {p:Array Nat}{j:Nat}
theorem zW{q:Array Nat}(h:p[i]?=q[j]?):cK p i=cK q j:=by
 unfold cK;rw[qw,qw,h]
theorem jJ(hj:j<=p.size)(k:Nat):cK (kas_rev p i j) k=if i<=k/\k<j then cK p (i+j-1-k) else cK p k:=by
 have e:=getElem?_mirror_all (i:=i) hj k;split
 ·rename_i h;rw[SS h] at e;exact zW e
 ·rename_i h;rw[Sm h] at e;exact zW e
theorem Jx{k d:Nat}(hs:k<p.size)(hd:d<=k)(u:Nat):cK (bubble p k d) u=if u=k-d then cK p k else if k-d<u/\u<=k then cK p (u-1) else cK p u:=by
 have e:=getElem?_bubble hs d hd u;by_cases h1:u=k-d
 ·rw[SS h1] at e ⊢;exact zW e
 ·rw[Sm h1] at e ⊢;by_cases h2:k-d<u/\u<=k
  ·rw[SS h2] at e ⊢;exact zW e
  ·rw[Sm h2] at e ⊢;exact zW e
noncomputable def Pm(N:Nat)(p:Array Nat):Prop:=p.Perm (yu (fh N))
variable {q a b:Nat}{Q:Nat×Array Nat->Prop}
section
variable {lt:Nat->Nat->Bool}{N:Nat}
theorem Pm.size(h:Pm N p):p.size=N:=by
 have:=Array.Perm.size_eq h;simpa using this
theorem Pm.list(h:Pm N p):p.toList.Perm (fh N):=by
 have:=Array.perm_iff_toList_perm.mp h;simpa using this
theorem oB{k:Nat}(hk:k<p.size):cK p k=p.toList[k]'(by simpa using hk):=by
 unfold cK;simp[SH,hk]
theorem Pm.ltN(h:Pm N p){k:Nat}(hk:k<N):cK p k<N:=by
 have hs:k<p.size:=by rw[h.size];exact hk
 rw[oB hs];exact ng.mp (h.list.mem_iff.mp (jc _))
theorem Pm.ne(h:Pm N p)(hi:i<N)(hj:j<N)(n:i≠j):cK p i≠cK p j:=by
 have nd:p.toList.Nodup:=h.list.nodup_iff.mpr zj;rw[oB (by rw[h.size];exact hi),oB (by rw[h.size];exact hj)];intro e;rcases sd n with z | z
 ·exact gp.mp nd i j _ _ z e
 ·exact gp.mp nd j i _ _ z e.symm
theorem Pm.rev(h:Pm N p)(i j:Nat):Pm N (kas_rev p i j):=Array.Perm.trans (mirror_perm _ _ _ _) h
theorem Pm.bub(h:Pm N p)(i j:Nat):Pm N (bubble p i j):=Array.Perm.trans (bubble_perm _ _ _) h
noncomputable def Tl(N:Nat)(p:Array Nat)(k:Nat):Prop:=∀i,k<=i->i<N->cK p i=i
theorem Tl.up{k m:Nat}(h:Tl N p k)(hm:k<=m):Tl N p m:=λi hi hn=>h i (jo hm hi) hn
theorem Tl.below{k:Nat}(h:Tl N p k)(P:Pm N p)(hk:i<k)(hn:i<N):cK p i<k:=by
 have:=P.ltN hn;apply Nat.lt_of_not_le;intro z;have e:=h _ z this;exact P.ne hn this ⋯ e.symm
theorem Tl.rev{k:Nat}(h:Tl N p k)(P:Pm N p)(hj:j<=k)(hN:j<=N):Tl N (kas_rev p i j) k:=λu hu hn=>by
 rw[jJ (by rw[P.size];exact hN),Sm ⋯];exact h u hu hn
noncomputable def DD(lt:Nat->Nat->Bool)(a b:Nat):Prop:=lt b a=ao/\(lt a b=ai \/ a<b)
theorem DD.trans(W:Weak lt){c:Nat}(h:DD lt a b)(k:DD lt b c):DD lt a c:=by
 have n1:lt c a=ao:=by
  cases e:lt c a with
  |false=>rfl
  |true=>
   rcases W.nt c b a e with z | z
   ·rw[k.1] at z;cases z
   ·rw[h.1] at z;cases z
 refine⟨n1,?_⟩;rcases h.2 with x | x
 ·rcases W.nt a c b x with z | z
  ·exact .inl z
  ·rw[k.1] at z;cases z
 ·rcases k.2 with y | y
  ·rcases W.nt b a c y with z | z
   ·rw[h.1] at z;cases z
   ·exact .inl z
  ·exact .inr (RT x y)
theorem Weak.asym(W:Weak lt)(h:lt a b=ai):lt b a=ao:=by
 cases e:lt b a with
 |false=>rfl
 |true=>have:=W.tr _ _ _ h e;rw[W.irr] at this;cases this
theorem DD.of(W:Weak lt)(h:lt a b=ai):DD lt a b:=⟨W.asym h,.inl h⟩
noncomputable def Up(lt:Nat->Nat->Bool)(p:Array Nat)(k:Nat):Prop:=∀u v,u<v->v<k->DD lt (cK p u) (cK p v)
noncomputable def Dn(lt:Nat->Nat->Bool)(p:Array Nat)(k:Nat):Prop:=∀u v,u<v->v<k->DD lt (cK p v) (cK p u)
theorem Up.rev{k:Nat}(h:Up lt p k)(hk:k<=p.size):Dn lt (kas_rev p 0 k) k:=λu v huv hv=>by
 rw[jJ hk,jJ hk,SS (by omega),SS (by omega)];exact h _ _ (by omega) (by omega)
theorem Dn.rev{k:Nat}(h:Dn lt p k)(hk:k<=p.size):Up lt (kas_rev p 0 k) k:=λu v huv hv=>by
 rw[jJ hk,jJ hk,SS ⋯,SS ⋯];exact h _ _ ⋯ ⋯
theorem Up.snoc(W:Weak lt){k:Nat}(h:Up lt p k)(t:Tl N p k)(P:Pm N p)(h1:1<=k)(hk:k<N)(n:lt (cK p k) (cK p (k-1))=ao):Up lt p (k+1):=λu v huv hv=>by
 by_cases e:v=k
 ·subst e;have one:DD lt (cK p (v-1)) (cK p v):=⟨n,.inr (by rw[t v (bo _) hk];exact t.below P ⋯ ⋯)⟩;by_cases e2:u=v-1
  ·rw[e2];exact one
  ·exact(h u (v-1) ⋯ ⋯).trans W one
 ·exact h u v huv ⋯
theorem wY(W:Weak lt)(P:Pm N p){Q:Nat->Prop}:∀(f n:Nat),1<=n->n+f<=N->Up lt p n->Tl N p n ->
  (∀m,n<=m->m<=n+f->Up lt p m->(m=n+f \/ m<N/\lt (cK p m) (cK p (m-1))=ai)->Q m)->ask lt N (kas_asc p f n) Q
 |0,n,_,hn,u,t,k=>k n (bo _) (bo _) u (.inl rfl)
 |f+1,n,h1,hn,u,t,k=>by
  refine⟨⟨P.ltN ⋯,P.ltN ⋯,P.ne ⋯ ⋯ ⋯⟩,?_⟩;show ask lt N (if lt (cK p n) (cK p (n-1))=ai then KasT.ret n else kas_asc p f (n+1)) Q;cases e:lt (cK p n) (cK p (n-1)) with
  |true=>
   rw[SS rfl];exact k n (bo _) ⋯ u (.inr ⟨⋯,e⟩)
  |false=>
   rw[Sm (by simp)];exact wY W P f (n+1) ⋯ ⋯ (u.snoc W t P h1 ⋯ e) (t.up ⋯) λm a b c d=>k m ⋯ ⋯ c (d.elim (λz=>.inl ⋯) .inr)
structure Run(lt:Nat->Nat->Bool)(N:Nat)(p:Array Nat)(n q:Nat):Prop where
 pm:Pm N p
 tl:Tl N p n
 le:q+1<=n
 hi:n<=N
 dn:Dn lt p (n-(q+1))
 same:∀u v,n-(q+1)<=u->u<v->v<n->lt (cK p u) (cK p v)=ao/\lt (cK p v) (cK p u)=ao/\cK p u<cK p v
 less:∀u v,u<n-(q+1)->n-(q+1)<=v->v<n->lt (cK p v) (cK p u)=ai
theorem Run.turn(W:Weak lt)(h:Run lt N p n q):Dn lt (kas_rev p (n-(q+1)) n) n:=λu v huv hv=>by
 have hs:n<=p.size:=by rw[h.pm.size];exact h.hi
 have hl:=h.le;rw[jJ hs,jJ hs];by_cases c:n-(q+1)<=v
 ·rw[SS ⟨c,hv⟩];by_cases d:n-(q+1)<=u
  ·rw[SS ⟨d,by omega⟩];obtain⟨a,b,e⟩:=h.same (n-(q+1)+n-1-v) (n-(q+1)+n-1-u) (by omega) (by omega) (by omega);exact⟨b,.inr e⟩
  ·rw[Sm (by omega)];exact DD.of W (h.less u _ (by omega) (by omega) (by omega))
 ·rw[Sm (by omega),Sm (by omega)];exact h.dn u v huv (by omega)
theorem Run.flat(W:Weak lt)(h:Run lt N p n 0):Dn lt p n:=λu v huv hv=>by
 by_cases c:n-1<=v
 ·exact DD.of W (h.less u v ⋯ ⋯ hv)
 ·exact h.dn u v huv ⋯
theorem Run.done(W:Weak lt)(h:Run lt N p n q):∃p',(if q > 0 then kas_rev p (n-(q+1)) n else p)=p'/\Pm N p'/\Tl N p' n/\Dn lt p' n /\ ∀u,u<n -> ∃w,w<n/\cK p' u=cK p w:=by
 by_cases c:q > 0
 ·refine⟨_,SS c,h.pm.rev _ _,h.tl.rev h.pm (bo _) h.hi,h.turn W,λu hu=>?_⟩;have hl:=h.le;rw[jJ (by rw[h.pm.size];exact h.hi)];split
  ·exact⟨_,⋯,rfl⟩
  ·exact⟨u,hu,rfl⟩
 ·have:q=0:=⋯;subst this;exact⟨_,Sm c,h.pm,h.tl,h.flat W,λu hu=>⟨u,hu,rfl⟩⟩
theorem Run.next(W:Weak lt)(h:Run lt N p n q)(hn:n<N)(e:lt (cK p n) (cK p (n-1))=ai):Run lt N (if q > 0 then kas_rev p (n-(q+1)) n else p) (n+1) 0:=by
 have hl:=h.le;have all:∀w,w<n->lt (cK p n) (cK p w)=ai:=λw hw=>by
  by_cases c:w=n-1
  ·rw[c];exact e
  ·by_cases d:w<n-(q+1)
   ·exact W.tr _ _ _ e (h.less w (n-1) d ⋯ ⋯)
   ·rcases W.nt _ (cK p w) _ e with z | z
    ·exact z
    ·rw[(h.same w (n-1) ⋯ ⋯ ⋯).1] at z;cases z
 obtain⟨p',ep,P,T,D,A⟩:=h.done W;rw[ep];have en:cK p' n=cK p n:=by rw[T n (bo _) hn,h.tl n (bo _) hn]
 refine⟨P,T.up ⋯,⋯,hn,by simpa using D,λu v a b c=>by right,λu v a b c=>?_⟩;have:v=n:=⋯;subst this;obtain⟨w,hw,ew⟩:=A u ⋯;rw[en,ew];exact all w hw
theorem Run.more(W:Weak lt)(h:Run lt N p n q)(hn:n<N)(e:lt (cK p n) (cK p (n-1))=ao)(d:lt (cK p (n-1)) (cK p n)=ao):Run lt N p (n+1) (q+1):=by
 have hl:=h.le;have en:=h.tl n (bo _) hn;have sz:n+1-(q+1+1)=n-(q+1):=⋯;refine⟨h.pm,h.tl.up ⋯,⋯,hn,by rw[sz];exact h.dn,λu v a b c=>?_,λu v a b c=>?_⟩
 ·rw[sz] at a;by_cases z:v=n
  ·subst z;have lw:cK p u<cK p v:=by rw[en];exact h.tl.below h.pm b ⋯
   by_cases y:u=v-1
   ·subst y;exact⟨d,e,lw⟩
   ·obtain⟨s1,s2,_⟩:=h.same u (v-1) a ⋯ ⋯;refine⟨?_,?_,lw⟩
    ·cases q1:lt (cK p u) (cK p v) with
     |false=>rfl
     |true=>
      rcases W.nt _ (cK p (v-1)) _ q1 with x | x
      ·rw[s1] at x;cases x
      ·rw[d] at x;cases x
    ·cases q1:lt (cK p v) (cK p u) with
     |false=>rfl
     |true=>
      rcases W.nt _ (cK p (v-1)) _ q1 with x | x
      ·rw[e] at x;cases x
      ·rw[s2] at x;cases x
  ·exact h.same u v a b ⋯
 ·rw[sz] at a b;by_cases z:v=n
  ·subst z;rcases W.nt _ (cK p v) _ (h.less u (v-1) a ⋯ ⋯) with x | x
   ·rw[d] at x;cases x
   ·exact x
  ·exact h.less u v a b ⋯
theorem pJ(W:Weak lt){Q:Array Nat×Nat×Nat->Prop}:∀(f:Nat) (p:Array Nat) (n q:Nat),n+f<=N->Run lt N p n q->(∀p' n' q',n<=n'->n'<=n+f->Run lt N p' n' q'->Q (p',n',q'))->ask lt N (kas_desc f p n q) Q
 |0,p,n,q,hn,r,k=>k p n q (bo _) (bo _) r
 |f+1,p,n,q,hn,r,k=>by
  have hl:=r.le;refine⟨⟨r.pm.ltN ⋯,r.pm.ltN ⋯,r.pm.ne ⋯ ⋯ ⋯⟩,?_⟩;show ask lt N (if lt (cK p n) (cK p (n-1))=ai then (if q > 0 then kas_desc f (kas_rev p (n-(q+1)) n) (n+1) 0 else kas_desc f p (n+1) 0)
   else .ask (p.getD (n-1) 0) (p.getD n 0) λd=>if d=ai then .ret (p,n,q) else kas_desc f p (n+1) (q+1)) Q
  cases e:lt (cK p n) (cK p (n-1)) with
  |true=>
   rw[SS rfl];have r':=r.next W ⋯ e;by_cases c:q > 0
   ·rw[SS c] at r' ⊢;exact pJ W f _ (n+1) 0 ⋯ r' λp' n' q' a b c=>k p' n' q' ⋯ ⋯ c
   ·rw[Sm c] at r' ⊢;exact pJ W f _ (n+1) 0 ⋯ r' λp' n' q' a b c=>k p' n' q' ⋯ ⋯ c
  |false=>
   rw[Sm (by simp)];refine⟨⟨r.pm.ltN ⋯,r.pm.ltN ⋯,r.pm.ne ⋯ ⋯ ⋯⟩,?_⟩;show ask lt N (if lt (cK p (n-1)) (cK p n)=ai then .ret (p,n,q) else kas_desc f p (n+1) (q+1)) Q;cases d:lt (cK p (n-1)) (cK p n) with
   |true=>
    rw[SS rfl];exact k p n q (bo _) ⋯ r
   |false=>
    rw[Sm (by simp)];exact pJ W f _ (n+1) (q+1) ⋯ (r.more W ⋯ e d) λp' n' q' a b c=>k p' n' q' ⋯ ⋯ c
noncomputable def Pd(lt:Nat->Nat->Bool)(N:Nat)(r:Nat×Array Nat):Prop:=1<=r.1/\r.1<=N/\Pm N r.2/\Up lt r.2 r.1/\Tl N r.2 r.1
theorem xI(W:Weak lt)(P:Pm N p)(h1:1<=n)(hn:n<=N)(D:Dn lt p n)(T:Tl N p n)(k:∀r,Pd lt N r->Q r):ask lt N (kas_tail3 n N p) Q:=by
 unfold kas_tail3;have P':=P.rev 0 n;have T':Tl N (kas_rev p 0 n) n:=T.rev P (bo _) hn;refine jX _ (wY W P' (N-n) n h1 ⋯ (D.rev (by rw[P.size];exact hn)) T' λm a b c d=>?_);exact k _ ⟨by show 1<=m;right,by show m<=N;right,P',c,T'.up a⟩
theorem xX(W:Weak lt)(P:Pm N p)(h1:1<=n)(hn:n<N)(D:Dn lt p n)(T:Tl N p n)(e:∀w,w<n->lt (cK p n) (cK p w)=ai)(k:∀r,Pd lt N r->Q r):ask lt N (kas_descPart n N p) Q:=by
 unfold kas_descPart;have r0:Run lt N p (n+1) 0:=⟨P,T.up ⋯,⋯,hn,by simpa using D,λu v a b c=>by right,λu v a b c=>by
  have:v=n:=⋯;subst this;exact e u ⋯⟩
 refine jX _ (pJ W _ p (n+1) 0 ⋯ r0 λp' n' q' a b r=>?_);obtain⟨p2,ep,P2,T2,D2,_⟩:=r.done W;show ask lt N (if q' > 0 then kas_tail3 n' N (kas_rev p' (n'-(q'+1)) n') else kas_tail3 n' N p') Q;by_cases c:q' > 0
 ·rw[SS c] at ep ⊢;rw[ep];exact xI W P2 ⋯ ⋯ D2 T2 k
 ·rw[Sm c] at ep ⊢;rw[ep];exact xI W P2 ⋯ ⋯ D2 T2 k
theorem D3(W:Weak lt)(P:Pm N p)(h1:1<=N)(T:Tl N p 0)(k:∀r,Pd lt N r->Q r):ask lt N (kas_count N p) Q:=by
 unfold kas_count;refine jX _ (wY W P (N-1) 1 (bo _) ⋯ (λu v a b=>by right) (T.up ⋯) λm a b c d=>?_);by_cases z:m=N
 ·rw[SS (by simpa using z)];exact k _ ⟨a,by show m<=N;right,P,c,T.up ⋯⟩
 ·rw[Sm (by simpa using z)];have hm:m<N/\lt (cK p m) (cK p (m-1))=ai:=d.resolve_left ⋯;by_cases y:m > 1
  ·rw[SS y];refine⟨⟨P.ltN ⋯,P.ltN ⋯,P.ne ⋯ ⋯ ⋯⟩,?_⟩;show ask lt N (if lt (cK p 0) (cK p (m-1))=ai then .ret (m,p) else kas_descPart m N (kas_rev p 0 m)) Q;cases e:lt (cK p 0) (cK p (m-1)) with
   |true=>
    rw[SS rfl];exact k _ ⟨a,by show m<=N;right,P,c,T.up ⋯⟩
   |false=>
    rw[Sm (by simp)];have hs:m<=p.size:=by rw[P.size];right
    refine xX W (P.rev _ _) a hm.1 (c.rev hs) ((T.up (mj m)).rev P (bo _) ⋯) (λw hw=>?_) k;rw[jJ hs,jJ hs,Sm ⋯,SS ⋯];have m0:lt (cK p m) (cK p 0)=ai:=by
     rcases W.nt _ (cK p 0) _ hm.2 with x | x
     ·exact x
     ·rw[e] at x;cases x
    by_cases w0:0+m-1-w=0
    ·rw[w0];exact m0
    ·rcases W.nt _ (cK p (0+m-1-w)) _ m0 with x | x
     ·exact x
     ·rw[(c 0 (0+m-1-w) ⋯ ⋯).1] at x;cases x
  ·rw[Sm y];have:m=1:=⋯;subst this;refine xX W P a hm.1 (λu v a b=>by right) (T.up ⋯) (λw hw=>?_) k;have:w=0:=⋯;subst this;exact hm.2
theorem q8(W:Weak lt)(P:Pm N p){k:Nat}(hk:k<N)(U:Up lt p k){Q:Nat->Prop}:∀(f l r:Nat),l<=r->r<=k->r-l<=f->(∀u,u<l->lt (cK p k) (cK p u)=ao)->(∀u,r<=u->u<k->lt (cK p k) (cK p u)=ai) ->
  (∀l',l'<=k->(∀u,u<l'->lt (cK p k) (cK p u)=ao)->(∀u,l'<=u->u<k->lt (cK p k) (cK p u)=ai)->Q l')->ask lt N (kas_place p k f l r) Q
 |0,l,r,hl,hr,hf,a,b,g=>by
  have:r=l:=⋯;subst this;exact g r hr a b
 |f+1,l,r,hl,hr,hf,a,b,g=>by
  unfold kas_place;by_cases c:l >= r
  ·rw[SS c];have:r=l:=⋯;subst this;exact g r hr a b
  ·rw[Sm c];have hm:(l+r) / 2<r:=⋯;have hm2:l<=(l+r) / 2:=⋯;generalize (l+r) / 2=mid at *;refine⟨⟨P.ltN hk,P.ltN ⋯,P.ne hk ⋯ ⋯⟩,?_⟩;show ask lt N (if lt (cK p k) (cK p mid)=ai then kas_place p k f l mid else kas_place p k f (mid+1) r) Q;cases e:lt (cK p k) (cK p mid) with
   |true=>
    rw[SS rfl];refine q8 W P hk U f l mid hm2 ⋯ ⋯ a (λu h1 h2=>?_) g;by_cases z:u=mid
    ·rw[z];exact e
    ·rcases W.nt _ (cK p u) _ e with x | x
     ·exact x
     ·rw[(U mid u ⋯ h2).1] at x;cases x
   |false=>
    rw[Sm (by simp)];refine q8 W P hk U f (mid+1) r ⋯ hr ⋯ (λu hu=>?_) b g;by_cases z:u=mid
    ·rw[z];exact e
    ·cases q:lt (cK p k) (cK p u) with
     |false=>rfl
     |true=>
      rcases W.nt _ (cK p mid) _ q with x | x
      ·rw[e] at x;cases x
      ·rw[(U u mid ⋯ ⋯).1] at x;cases x
theorem Bh(W:Weak lt){Q:Array Nat->Prop}:∀(f:Nat) (p:Array Nat) (k:Nat),k+f=N->Pm N p->Up lt p k->Tl N p k->(∀p',Pm N p'->Up lt p' N->Q p')->ask lt N (kas_bin f p k) Q
 |0,p,k,hk,P,U,T,g=>by
  have:k=N:=⋯;subst this;exact g p P U
 |f+1,p,k,hk,P,U,T,g=>by
  refine jX _ (q8 W P ⋯ U k 0 k (mj _) (bo _) ⋯ (λu h=>by right) (λu h1 h2=>by right) λl hl a b=>?_);have hs:k<p.size:=by rw[P.size];right
  have e:∀u,cK (bubble p k (k-l)) u=if u=l then cK p k else if l<u/\u<=k then cK p (u-1) else cK p u:=λu=>by
   rw[Jx hs ⋯ u,show k-(k-l)=l by right]
  refine Bh W f _ (k+1) ⋯ (P.bub _ _) (λu v huv hv=>?_) (λi hi hn=>?_) g
  ·have tk:=T k (bo _) ⋯;rw[e u,e v];by_cases u1:u=l
   ·rw[SS u1,Sm ⋯,SS ⋯];exact DD.of W (b (v-1) ⋯ ⋯)
   ·rw[Sm u1];by_cases v1:v=l
    ·rw[SS v1,Sm ⋯];exact⟨a u ⋯,.inr (by rw[tk];exact T.below P ⋯ ⋯)⟩
    ·rw[Sm v1];by_cases u2:l<u
     ·rw[SS ⋯,SS ⋯];exact U _ _ ⋯ ⋯
     ·rw[Sm ⋯];by_cases v2:l<v
      ·rw[SS ⋯];exact U _ _ ⋯ ⋯
      ·rw[Sm ⋯];exact U _ _ ⋯ ⋯
  ·rw[e i,Sm ⋯,Sm ⋯];exact T i ⋯ hn
theorem DZ(W:Weak lt)(h1:1<=N){Q:Array Nat->Prop}(k:∀p',Pm N p'->Up lt p' N->Q p'):ask lt N (kas_sort N) Q:=by
 unfold kas_sort;refine jX _ (D3 W (Array.Perm.refl _) h1 (λi _ hi=>by simp[cK,SH,hi]) λr g=>?_);obtain⟨a,b,c,d,e⟩:=g;by_cases z:r.1<N
 ·rw[SS z];have:max r.1 1=r.1:=⋯;rw[this];exact Bh W _ r.2 r.1 ⋯ c d e k
 ·rw[Sm z];have:r.1=N:=⋯;rw[this] at d;exact k _ c d
end
end Tim
namespace L2
open PySem PySem.Spec PySem.W PyProof.Rows Tim
noncomputable abbrev picked(vs:List ac)(p:Array Nat):List ac:=p.toList.map λi=>vs.getD i eg
structure Cmp(prog:ay)(w:bg)(s:ah)(a:af)(vs:List ac)(lt:Nat->Nat->Bool)(κ:Rp):Prop where
 wk:Weak lt
 kind:∀(A:bu) (h:br) (Q:Rp->ah->Prop),(∀b o,b≠a->s.heap.get? b=aa o->h.get? b=aa o)->Q κ { s with heap:=h }->bi (bn prog w) A (keyKind' vs.toArray) Q (λ_ _=>False) { s with heap:=h }
 less:∀(A:bu) (h:br) (i j:Nat) (C:Bool->ah->Prop),(∀b o,b≠a->s.heap.get? b=aa o->h.get? b=aa o)->i<vs.length->j<vs.length->i≠j->C (lt i j) { s with heap:=h } ->
  bi (bn prog w) A (keyLt' κ (vs.getD i eg) (vs.getD j eg)) C (λ_ _=>False) { s with heap:=h }
theorem C4(vs:List ac):picked vs (yu (fh vs.length))=vs:=by
 apply oo;intro i;by_cases h:i<vs.length
 ·simp[picked,h]
 ·simp[picked,h]
theorem Br{vs:List ac}{lt:Nat->Nat->Bool}{κ:Rp}{P:Fin->ah->Prop}(ho:s.heap.get? a=aa (mf "list" vs.toArray n))(h64:vs.length<64)(c:2<=vs.length->Cmp prog w s a vs lt κ)
  (k:∀p,Pm vs.length p->Up lt p vs.length->P (.done (.ret .none)) { s with heap:=Rq s.heap a vs (picked vs p).toArray }):bi (bn prog w) A (wj.«list.sort» ⟨[.ref a],[]⟩) P E s:=by
 have la:a<s.heap.objs.size:=be ho
 let h1:=s.heap.update a (rm λ_=>#[])
 let h2:=h1.push (mf "tuple" vs.toArray 0)
 let h3:=h2.push (mf "list" #[] 0)
 obtain⟨m,g1⟩:∃m,h1.get? a=aa (mf "list" #[] m):=⟨_,get?_update_seq ho λ_=>#[]⟩;have sz1:h1.objs.size=s.heap.objs.size:=Heap.size_update ..;have keep:∀b o,b≠a->s.heap.get? b=aa o->h3.get? b=aa o:=λb o hb e=>
  av _ (av _ ((Heap.get?_update_ne _ _ _ _ hb).trans e))
 have g3:h3.get? a=aa (mf "list" #[] m):=av _ (av _ g1);have line:vs.length<=bh:=by rw[ii];right
 have fin:∀p,Pm vs.length p->Up lt p vs.length->bi (bn prog w) A (do
   let touched:=(<- seqEpoch a) != m
   RH (.ref a) λ_=>(picked vs p).toArray
   if touched then Si "list.sort.modified";raiseError "ValueError" "list modified during sort"
   ret .none) P E { s with heap:=h3 }:=λp pm up=>by
  have sz:(picked vs p).toArray.size=vs.length:=by simp[picked,pm.size]
  refine ae (seqEpoch_at g3 rfl (ae (listUpdate_at g3 rfl ?_ (mj _) (by rw[sz];right))));rw[show (m != m)=ao by simp];exact az (k p pm up)
 rw[list_sort_plain];refine ae (listItems_at ho rfl (ae (listUpdate_at ho rfl ?_ (by simpa using line) (mj _))));refine ae (seqEpoch_at g1 rfl (ae (wpAny_newTuple (ae (xh (gf ?_) (mj _))) (by simpa using line))));show bi (bn prog w) A _ P E { s with heap:=h3 };dsimp only;by_cases two:2<=vs.length
 ·have big:¬vs.toArray.size<2:=by simpa using two
  rw[Sm big,Sm big];have cc:=c two;refine ae (df (cc.kind A h3 (λx s'=>x=κ/\s'={ s with heap:=h3 }) keep ⟨rfl,rfl⟩) (λx s' e=>?_) λ_ _ z=>z.elim);obtain⟨rfl,rfl⟩:=e;have tree:(kas_sort vs.length).kasWp (kas_ask prog w A x vs) (λp s'=>(Pm vs.length p/\Up lt p vs.length)/\s'={ s with heap:=h3 }) { s with heap:=h3 }:=
   Fe (lt:=lt) (N:=vs.length) (λi j C hi hj hn q=>cc.less A h3 i j C keep hi hj hn q) _ (DZ cc.wk ⋯ λp a b=>⟨⟨a,b⟩,rfl⟩)
  refine ae (df (kat_run (E:=E) (Q:=λst' s'=>∃p,(Pm vs.length p/\Up lt p vs.length)/\arrOf st'=p.map (kas_item (vs.toArray.zip vs.toArray))/\failedOf st'=aq/\s'={ s with heap:=h3 })
   rfl two h64 (λp st' s' _ a b q=>⟨p,q.1,a,b,q.2⟩) tree) (λr s' q=>?_) λ_ _ z=>z)
  obtain⟨⟨⟩,st'⟩:=r;obtain⟨p,⟨pm,up⟩,e1,e2,rfl⟩:=q;dsimp only at e1 e2 ⊢;rw[kat_snds rfl e1,e2];exact fin p pm up
 ·have few:vs.toArray.size<2:=by simp;right
  rw[SS few,SS few];refine ae (az ?_);rw[StateT.run_pure];refine ae (az ?_);dsimp only;have e:((arrOf (SortSt.mk' general' (vs.toArray.zip vs.toArray) #[] 7 aq)).map λx=>x.2)=(picked vs (yu (fh vs.length))).toArray:=by
   rw[C4];apply Array.toList_inj.mp;show ((vs.toArray.zip vs.toArray).map λx=>x.2).toList=_;simp;apply oo;intro i;by_cases hi:i<vs.length
   ·simp[hi]
   ·simp[hi]
  rw[e];exact fin _ (Array.Perm.refl _) λu v h1 h2=>by right
noncomputable def kI:List Int->List Int->Bool
 | [],[]=>ao
 | [],_::_=>ai
 |_::_,[]=>ao
 |a::r,b::t=>if a=b then kI r t else decide (a<b)
theorem yQ:∀a,kI a a=ao
 | []=>rfl
 |a::r=>by rw[kI,SS rfl];exact yQ r
theorem wA:∀a b c,kI a b=ai->kI b c=ai->kI a c=ai
 | [],[],_,h,_=>by cases h
 | [],_::_,[],_,k=>by cases k
 | [],_::_,_::_,_,_=>rfl
 |_::_,[],_,h,_=>by cases h
 |_::_,_::_,[],_,k=>by cases k
 |a::r,b::t,c::u,h,k=>by
  unfold kI at h k ⊢;by_cases e:a=b
  ·rw[SS e] at h;subst e;by_cases e2:a=c
   ·rw[SS e2] at k ⊢;exact wA r t u h k
   ·rw[Sm e2] at k ⊢;exact k
  ·rw[Sm e] at h;have h1:=of_decide_eq_true h;by_cases e2:b=c
   ·subst e2;rw[Sm e];exact h
   ·rw[Sm e2] at k;have h2:=of_decide_eq_true k;rw[Sm ⋯];exact decide_eq_true ⋯
theorem tG:∀a b,a≠b->kI a b=ai \/ kI b a=ai
 | [],[],h=>absurd rfl h
 | [],_::_,_=>.inl rfl
 |_::_,[],_=>.inr rfl
 |a::r,b::t,h=>by
  unfold kI;by_cases e:a=b
  ·subst e;rw[SS rfl,SS rfl];exact tG r t λz=>h (by rw[z])
  ·rw[Sm e,Sm (fm e)];rcases Int.lt_or_gt_of_ne e with z | z
   ·exact .inl (decide_eq_true z)
   ·exact .inr (decide_eq_true z)
theorem CZ(f:Nat->List Int):Weak λi j=>kI (f i) (f j):=by
 refine⟨λa=>yQ _,λa b c=>wA _ _ _,λa b c h=>?_⟩;by_cases e:f a=f b
 ·exact .inr (by rw[<- e];exact h)
 ·rcases tG _ _ e with z | z
  ·exact .inl z
  ·exact .inr (wA _ _ _ z h)
section
variable {C:Bool->ah->Prop}{fin:Bool}
theorem yP:∀(ns ms:List Int) (us vs ru rv:List ac) (i:Nat),lj us ns->lj vs ms->ns.length=ms.length->ns≠ms->C (kI ns ms) s->KatLex prog w A ai fin C ((us++ru).zip (vs++rv)) i s
 | [],[],_,_,_,_,_,_,_,_,n,_=>absurd rfl n
 | [],_::_,_,_,_,_,_,_,_,l,_,_=>by cases l
 |_::_,[],_,_,_,_,_,_,_,l,_,_=>by cases l
 |a::r,b::t,_,_,ru,rv,i,.cons _ x hu,.cons _ y hv,l,n,q=>by
  unfold kI at q;refine kat_cons (zb (kat_go (λe=>kat_yes ?_) λe=>kat_no ?_))
  ·have e':a=b:=by simpa using e
   rw[SS e'] at q;exact yP r t _ _ ru rv (i+1) hu hv (by simpa using l) (λz=>n (by rw[e',z])) q
  ·have e':¬a=b:=by simpa using e
   rw[Sm e'] at q;by_cases z:i=0
   ·rw[show (ai&&i==0)=ai by simp[z]];exact oneLt_int q
   ·rw[show (ai&&i==0)=ao by simp[z]];exact kat_one _ _ (lt_int q)
end
variable {N:Nat}{p:Array Nat}
noncomputable abbrev N9:=af×List Int×List V
theorem GW(P:Pm N p)(xs:List α)(hl:xs.length=N)(d:α):(p.toList.map λi=>xs.getD i d).Perm xs:=by
 have e:(fh N).map (λi=>xs.getD i d)=xs:=by
  apply oo;intro i;by_cases h:i<N
  ·simp[h,hl]
  ·simp[h,hl]
 have:=P.list.map λi=>xs.getD i d;rwa[e] at this
theorem xG{lt:Nat->Nat->Bool}(P:Pm N p)(U:Up lt p N)(xs:List α)(d:α)(Rel:α->α->Prop)(hR:∀i j,i<N->j<N->DD lt i j->Rel (xs.getD i d) (xs.getD j d)):
  (p.toList.map λi=>xs.getD i d).Pairwise Rel:=by
 rw[oq];rw[gp];intro i j hi hj hij;have si:i<p.size:=by simpa using hi
 have sj:j<p.size:=by simpa using hj
 have b:=U i j hij (by rw[<- P.size];exact sj);rw[oB si,oB sj] at b;have:=P.ltN (k:=i) (by rw[<- P.size];exact si);have:=P.ltN (k:=j) (by rw[<- P.size];exact sj);rw[oB si] at *;rw[oB sj] at *;exact hR _ _ (by assumption) (by assumption) b
end L2
namespace Z
open L2
noncomputable def Ly:cQ:=λ_ Q=>Q (.nw (.dit []))
theorem BD:QE X (.Dict [] [] pos) Ly:=
 ⟨λρ Q Q' w q=>w _ q,λHZ F=>bX EF λσ H Q ⟨ρ,fr,q⟩ p hp=>q _ _ (aI.new' hp) ⟨p,rfl,hp,0,[],bC,.nil⟩⟩
noncomputable def Bx(kvs:List (List bI×Dv))(k:List bI)(d:Dv):List (List bI×Dv):=
 if kvs.any (λkv=>decide (kv.1=k)) then kvs.map (λkv=>if kv.1=k then (kv.1,d) else kv) else kvs++[(k,d)]
theorem RepT.any{K:aj}{M:af->Prop}{H:Hp}{k:List bI}{xs:List (List bI×V)}{ds:List (List bI×Dv)}(r:RepT K M H xs ds):xs.any (λkv=>decide (kv.1=k))=ds.any (λkv=>decide (kv.1=k)):=
 r.ind (P:=λxs ds=>xs.any (λkv=>decide (kv.1=k))=ds.any (λkv=>decide (kv.1=k))) rfl λ_ _ _ _ _ _ _ ih=>by rw[qc,qc,ih]
theorem RepT.len{xs:List (List bI×V)}{ds:List (List bI×Dv)}(r:RepT K M H xs ds):xs.length=ds.length:=r.ind (P:=λxs ds=>xs.length=ds.length) rfl λ_ _ _ _ _ _ _ ih=>congrArg (· + 1) ih
theorem RepT.snoc{k:List bI}{x:V}{d:Dv}(a:Rep K M H x d){xs:List (List bI×V)}{ds:List (List bI×Dv)}(r:RepT K M H xs ds):RepT K M H (xs++[(k,x)]) (ds++[(k,d)]):=
 r.ind (P:=λxs ds=>RepT K M H (xs++[(k,x)]) (ds++[(k,d)])) (.cons a .nil) λ_ _ _ _ _ b _ ih=>.cons b ih
theorem RepT.repl{k:List bI}{x:V}{d:Dv}(a:Rep K M H x d){xs:List (List bI×V)}{ds:List (List bI×Dv)}(r:RepT K M H xs ds):
  RepT K M H (xs.map λkv=>if kv.1=k then (kv.1,x) else kv) (ds.map λkv=>if kv.1=k then (kv.1,d) else kv):=
 r.ind (P:=λxs ds=>RepT K M H (xs.map λkv=>if kv.1=k then (kv.1,x) else kv) (ds.map λkv=>if kv.1=k then (kv.1,d) else kv)) .nil λk' _ _ _ _ b _ ih=>by
  rw[cn,cn];by_cases e:k'=k
  ·rw[SS e,SS e];exact .cons a ih
  ·rw[Sm e,Sm e];exact .cons b ih
theorem RepT.put{k:List bI}{x:V}{d:Dv}{xs:List (List bI×V)}{ds:List (List bI×Dv)}(r:RepT K M H xs ds)(a:Rep K M H x d):RepT K M H (j0 xs k x) (Bx ds k d):=by
 unfold j0 Bx;rw[r.any (k:=k)];split
 ·exact r.repl a
 ·exact r.snoc a
noncomputable def AA(i:Nat)(tk tv:cQ):bV:=λE ρ=>match ρ[i]? with
 |some (.own a (.dit kvs))=>tv ρ λr=>tk ρ λkk=>∃k:List bI,kk.d=.tup (k.map kD)/\(r.free=ai/\kvs.length<tW)/\E.nx (ρ.set i (.own a (.dit (Bx kvs k r.d))))
 |_=>False
theorem I8{x:bf}{p1 p2:gm}{k:Expr}{tk:cQ}(hu:X.A.units+1<ma)(hv:PE X (.Name x p1) (rC i))(hk:QE X k tk)(he:QE X e te)
  (hs:autoParam (eh e (aa (.Subscript (.Name x p1) k p2)) pos.line X.env=fo ao) b7._auto_1):QS X (.Assign [.Subscript (.Name x p1) k p2] e pos) (AA i tk te):=by
 refine⟨λE E' ρ w h=>?_,λHZ F=>cA (BH hu hv (hk.run HZ F) (he.run HZ F) hs) λD σ H ⟨ρ,E,fr,h,en⟩=>?_⟩
 ·unfold AA at *;split at h
  ·exact he.mono _ _ _ (λr q=>hk.mono _ _ _ (λkk zq1=>by obtain⟨k,a,b,c⟩:=zq1;exact⟨k,a,b,w.nx _ c⟩) q) h
  ·exact h
 ·unfold AA at h;split at h
  ·rename_i a kvs hx;refine he.step fr h λr y H1 q S1 r1=>?_;have fr1:=fr.mono S1;obtain⟨hs1,ep,vs,hv1,rv1⟩:=fr1.sl i _ hx;refine⟨_,hs1,hk.step fr1 q λkk z H2 q S2 rk=>?_⟩;obtain⟨ks,ek,⟨qf,ql⟩,q2⟩:=q;have ck:=rk.c;rw[ek] at ck;obtain⟨b,zs,rfl,eb,rb⟩:=ck.tup;have ez:zs=ks.map kV:=rb.keys;have rep:=(r1.rep (λa m=>fr.dom m) qf).mono S2;have hv2:=S2 _ _ hv1;refine⟨a,rfl,zY.t hv2 (ez ▸ eb) (by rw[rv1.len];exact qG ql) λep2=>?_⟩;refine en.nx _ _ _ ((fr1.mono S2).write (d':=.dit (Bx kvs ks r.d)) hx ⟨_,_,bC,?_⟩) q2;have G:Gen X.K (MM F ρ) (MM F ρ) H2 (upd H2 a (.dT ep2 (j0 vs ks y))):=Gen.write (.inr ⟨_,cq hx⟩) (by rw[hv2];trivial);exact((rv1.gen (.mono S2)).put rep).gen G
  ·exact h.elim
noncomputable def Dc(i:Nat):bV:=λE ρ=>match ρ[i]? with
 |some (.own a (.lst _))=>E.nx (ρ.set i (.own a (.lst [])))
 |_=>False
noncomputable def xM(i:Nat):bV:=λE ρ=>match ρ[i]? with
 |some (.own a (.lst xs))=>E.nx (ρ.set i (.own a (.lst xs.reverse)))
 |_=>False
theorem C7{β:Type}{f:α->β}{zs ws:List β}(hp:zs.Perm ws):∀{its:List α},its.map f=ws -> ∃jts:List α,jts.Perm its/\zs=jts.map f:=by
 induction hp with
 |nil=>intro its hz;exact⟨its,.refl _,hz.symm⟩
 |cons x p ih=>
  intro its hz;cases its with
  |nil=>cases hz
  |cons t r=>
   rw[cn] at hz;injection hz with h1 h2;obtain⟨j,hj,e⟩:=ih h2;exact⟨t::j,hj.cons t,by rw[cn,h1,e]⟩
 |swap x y l=>
  intro its hz
  match its,hz with
  |t::u::r,hz=>
   simp only[cn,Qz] at hz;obtain⟨h1,h2,h3⟩:=hz;exact⟨u::t::r,.swap _ _ _,by simp only[cn,h1,h2,h3]⟩
 |trans p1 p2 ih1 ih2=>
  intro its hz;obtain⟨j,hj,e⟩:=ih2 hz;obtain⟨j2,hj2,e2⟩:=ih1 e.symm;exact⟨j2,hj2.trans hj,e2⟩
variable {j:Int}
theorem Mu{i:Int}:(d4 (.int i) (.int j) Q)=(Q (.v (.int (i+j)))):=rfl
theorem MY{i:Int}:(nK (.int i) (.int j) Q)=(Q (.v (.int (i-j)))):=rfl
theorem Mi{i:Int}:(eE (.int i) (.int j) Q)=(rA i j/\Q (.v (.int (i*j)))):=rfl
theorem Mr{i:Int}:(iM (.int i) (.int j) Q)=((0<j/\j<2 ^ 200)/\Q (.v (.int (i / j)))):=rfl
theorem LY{i:Int}:(LZ (.int i) (.int j) Q)=((j≠0/\j.natAbs<2 ^ 4000)/\Q (.v (.int (i.fdiv j)))):=rfl
theorem Mj{i:Int}:(f6 (.int i) (.int j) Q)=(0<j/\Q (.v (.int (i % j)))):=rfl
theorem LN{i:Int}:(LO (.int i) (.int j) Q)=(j≠0/\Q (.v (.int (i.fmod j)))):=rfl
theorem Ma{i:Int}:(rE (.int i) (.int j) Q)=(Ft i j/\Q (.v (.int (i ^ j.toNat)))):=rfl
variable {xs:List Dv}
theorem Mt{ys:List Dv}:(d4 (.lst xs) (.lst ys) Q)=((xs.length+ys.length<=tW/\Q (.nw (.lst (xs++ys))))):=rfl
theorem Ms{x y:bf}:(d4 (.str x) (.str y) Q)=((x.length+y.length<=tW/\Q (.v (.str (x++y))))):=rfl
theorem Mh{k:Int}:(eE (.lst xs) (.int k) Q)=(((-(2 ^ 63)<=k/\k<2 ^ 63/\xs.length*k.toNat<=tW)/\Q (.nw (.lst (bc k.toNat xs).flatten)))):=rfl
theorem OH{f:Int->Int->Bool}{i:Int}:(uX f (.int i) (.int j) Q)=(Q (.v (.bl (f i j)))):=rfl
theorem OE{d:Dv}:(rF d .non Q)=(Q (.v (.bl (isN d)))):=rfl
theorem Mb{d:Dv}:(yB d .non Q)=(Q (.v (.bl (!isN d)))):=rfl
variable {b:Bool}
theorem OF{d:Dv}:(OG d (.bl b) Q)=(Q (.v (.bl (isB b d)))):=rfl
theorem Mc{d:Dv}:(LM d (.bl b) Q)=(Q (.v (.bl (!isB b d)))):=rfl
theorem OI{i:Int}:(u7 (.int i) (.int j) Q)=(Q (.v (.bl (decide (i=j))))):=rfl
theorem O5{i:Int}:(vT (.int i) (.int j) Q)=(Q (.v (.bl (!decide (i=j))))):=rfl
theorem OJ{x:Bool}{d:Dv}:(u7 (.bl x) d Q)=(((d7 8 (.bl x)=ai/\d7 8 d=ai)/\Q (.v (.bl (eqD (.bl x) d))))):=rfl
theorem O6{x:Bool}{d:Dv}:(vT (.bl x) d Q)=(((d7 8 (.bl x)=ai/\d7 8 d=ai)/\Q (.v (.bl (!eqD (.bl x) d))))):=rfl
theorem Mn{x:List Dv}{d:Dv}:(u7 (.tup x) d Q)=(((d7 8 (.tup x)=ai/\d7 8 d=ai)/\Q (.v (.bl (eqD (.tup x) d))))):=rfl
theorem Md{x:List Dv}{d:Dv}:(vT (.tup x) d Q)=(((d7 8 (.tup x)=ai/\d7 8 d=ai)/\Q (.v (.bl (!eqD (.tup x) d))))):=rfl
theorem Mq{x:List Dv}{d:Dv}:(u7 (.lst x) d Q)=(((d7 8 (.lst x)=ai/\d7 8 d=ai)/\Q (.v (.bl (eqD (.lst x) d))))):=rfl
theorem Mg{x:List Dv}{d:Dv}:(vT (.lst x) d Q)=(((d7 8 (.lst x)=ai/\d7 8 d=ai)/\Q (.v (.bl (!eqD (.lst x) d))))):=rfl
theorem Mo{x:bf}{d:Dv}:(u7 (.str x) d Q)=(((d7 8 (.str x)=ai/\d7 8 d=ai)/\Q (.v (.bl (eqD (.str x) d))))):=rfl
theorem Me{x:bf}{d:Dv}:(vT (.str x) d Q)=(((d7 8 (.str x)=ai/\d7 8 d=ai)/\Q (.v (.bl (!eqD (.str x) d))))):=rfl
theorem Mp{x:List Int}{d:Dv}:(u7 (.scr x) d Q)=(((d7 8 (.scr x)=ai/\d7 8 d=ai)/\Q (.v (.bl (eqD (.scr x) d))))):=rfl
theorem Mf{x:List Int}{d:Dv}:(vT (.scr x) d Q)=(((d7 8 (.scr x)=ai/\d7 8 d=ai)/\Q (.v (.bl (!eqD (.scr x) d))))):=rfl
theorem Pn{i:Int}:(dB (.lst xs) (.int i) Q)=((match kW xs i with | some d=>Q (.v d) | none=>False)):=rfl
theorem Pk{i:Int}:(dB (.tup xs) (.int i) Q)=((match kW xs i with | some d=>Q (.v d) | none=>False)):=rfl
theorem Pl{i:Int}:(dB (.scr ns) (.int i) Q)=((match kW ns i with | some n=>Q (.v (.int n)) | none=>False)):=rfl
variable {lo hi:Option Int}
theorem Pj:(ID (.lst xs) lo hi Q)=(Q (.nw (.lst (cut xs lo hi)))):=rfl
theorem Pi:(ID (.scr ns) lo hi Q)=(Q (.nw (.lst ((cut ns lo hi).map .int)))):=rfl
theorem Ph:(ID (.tup xs) lo hi Q)=((¬(HT.fJ xs.length 0 lo=0/\HT.fJ xs.length xs.length hi=xs.length)/\Q (.v (.tup (cut xs lo hi))))):=rfl
theorem OB:(dA [(.lst xs)] Q)=(Q (.v (.int xs.length))):=rfl
theorem O9:(dA [(.tup xs)] Q)=(Q (.v (.int xs.length))):=rfl
theorem OA:(dA [.scr ns] Q)=(Q (.v (.int ns.length))):=rfl
theorem OM{i:Int}:(CL [.int i] Q)=(Q (.v (.int (if i<0 then -i else i)))):=rfl
theorem O7{i:Int}:(uT [.int i,.int j] Q)=(Q (.v (.int (if j<i then j else i)))):=rfl
theorem O8{i:Int}:(uU [.int i,.int j] Q)=(Q (.v (.int (if j > i then j else i)))):=rfl
theorem LL:(nJ [.lst xs] Q)=(Q (.v (.tup xs))):=rfl
theorem LK:(nJ [.tup xs] Q)=(Q (.v (.tup xs))):=rfl
theorem Mm:(uV [.lst xs] Q)=(Q (.nw (.lst xs))):=rfl
theorem Ml:(uV [.tup xs] Q)=(Q (.nw (.lst xs))):=rfl
theorem OL:(EO [.lst ds] Q)=((∃bs:List Bool,ds=bs.map .bl/\Q (.v (.bl (bs.all _root_.id))))):=rfl
theorem O3:(EM [.lst ds] Q)=((∃ns:List Int,ds=ns.map .int/\Q (.v (.int ns.sum)))):=rfl
theorem Qi{d:Dv}:(R.d (.v d))=(d):=rfl
theorem Qk{d:Dv}:(R.d (.nw d))=(d):=rfl
theorem Qj{d:Dv}:(R.d (.ow a d))=(d):=rfl
theorem QZ{d:Dv}:(R.out (.v d))=(.v d):=rfl
theorem Qb{d:Dv}:(R.out (.nw d))=(.nw d):=rfl
theorem Qa{d:Dv}:(R.out (.ow a d))=(.nw d):=rfl
theorem Qf{d:Dv}:(R.free (.v d))=(ai):=rfl
theorem Qh{d:Dv}:(R.free (.nw d))=(ai):=rfl
theorem Qg{d:Dv}:(R.free (.ow a d))=(ao):=rfl
theorem Qc{d:Dv}:(R.flat (.v d))=(hW d):=rfl
theorem Qe{d:Dv}:(R.flat (.nw d))=(FI d):=rfl
theorem Qd{d:Dv}:(R.flat (.ow a d))=(ao):=rfl
theorem Ou{a:Bool}:(eqD (.bl a) (.bl b))=((a==b)):=by cases a<;>cases b<;>simp[eqD,iZ,kz]
variable {ρ0:List Sl}{g:vD}{tt:jZ}{acc:List Dv}
theorem iU:(cT ρ0 g tt te [] acc Q)=(Q (.nw (.lst acc))):=rfl
theorem h7{d:Dv}{r:List Dv}:(cT ρ0 g tt te (d::r) acc Q)=((g d ρ0 λρ1=>tt ρ1 λb=>if b=ai then te ρ1 λv=>(v.free=ai/\acc.length<tW)/\cT ρ0 g tt te r (acc++[v.d]) Q else cT ρ0 g tt te r acc Q)):=rfl
theorem g9{xs:List α}{i:Int}(h0:0<=i)(h1:i<xs.length):kW xs i=xs[i.toNat]?:=by
 unfold kW qX;rw[SS h0,SS h1];rfl
theorem MA{x:α}{r:List α}:kW (x::r) 0=aa x:=by rw[g9 ∅ (by simp<;>right)];rfl
theorem Q7{x y:α}{r:List α}:kW (x::y::r) 1=aa y:=by rw[g9 ∅ (by simp<;>right)];rfl
theorem Q6{x y z:α}{r:List α}:kW (x::y::z::r) 2=aa z:=by rw[g9 ∅ (by simp<;>right)];rfl
theorem Q5{x y z w:α}{r:List α}:kW (x::y::z::w::r) 3=aa w:=by rw[g9 ∅ (by simp<;>right)];rfl
theorem Q4{x y z w v:α}{r:List α}:kW (x::y::z::w::v::r) 4=aa v:=by rw[g9 ∅ (by simp<;>right)];rfl
theorem Oj{c:Bool}:isB b (.bl c)=(c==b):=rfl
theorem Mw{i:Int}:isB b (.int i)=ao:=rfl
theorem Pr:isN .non=ai:=rfl
theorem Pv:isN (.bl b)=ao:=rfl
theorem Pu{i:Int}:isN (.int i)=ao:=rfl
theorem Pp{i:bf}:isN (.str i)=ao:=rfl
theorem Po{i:List Dv}:isN (.tup i)=ao:=rfl
theorem Ps{i:List Dv}:isN (.lst i)=ao:=rfl
theorem Pq{i:List (bf×Dv)}:isN (.obj C i)=ao:=rfl
theorem NK:mM (.bl b)=aa b:=rfl
theorem NG:mM .non=aa ao:=rfl
theorem NJ{i:Int}:mM (.int i)=aa (i != 0):=rfl
theorem NH:mM (.lst xs)=aa (!xs.isEmpty):=rfl
theorem NE:mM (.tup xs)=aa (!xs.isEmpty):=rfl
theorem NI{xs:List (bI×Dv)}:mM (.dik xs)=aa (!xs.isEmpty):=rfl
theorem NF{xs:List Int}:mM (.scr xs)=aa (!xs.isEmpty):=rfl
theorem Oi:qX 1 0=aa 0:=rfl
theorem Oh:qX 2 0=aa 0:=rfl
theorem Og:qX 2 1=aa 1:=rfl
theorem Of:qX 3 0=aa 0:=rfl
theorem Oe:qX 3 1=aa 1:=rfl
theorem Od:qX 3 2=aa 2:=rfl
theorem Oc:qX 4 0=aa 0:=rfl
theorem Ob:qX 4 1=aa 1:=rfl
theorem Oa:qX 4 2=aa 2:=rfl
theorem OZ:qX 4 3=aa 3:=rfl
theorem OY:qX 5 0=aa 0:=rfl
theorem OX:qX 5 1=aa 1:=rfl
theorem OW:qX 5 2=aa 2:=rfl
theorem OV:qX 5 3=aa 3:=rfl
theorem OU:qX 5 4=aa 4:=rfl
theorem bO{lo:Int}:aR lo 0=[]:=rfl
theorem bH{lo:Int}:aR lo (n+1)=.int lo::aR (lo+1) n:=by
 unfold aR;rw[List.range_succ_eq_map,cn,mw];congr 1
 ·simp
 ·apply se;intro k _;show Dv.int _=Dv.int _;congr 1;show lo+((k+1:Nat):Int)=lo+1+k;right
theorem LV{i:Int}:(LW (.int i) (.int j) Q)=(Q (.v (.int (i+j)))):=rfl
theorem LR{i:Int}:(yE (.int i) (.int j) Q)=(Q (.v (.int (i-j)))):=rfl
theorem LS{i:Int}:(LU (.int i) (.int j) Q)=(rA i j/\Q (.v (.int (i*j)))):=rfl
theorem tP{xs:List α}{k:Int}(h0:0<=k):cut xs (aa k) aq=xs.drop k.toNat:=by
 unfold cut;have e:HT.fJ xs.length 0 (aa k)=min k.toNat xs.length:=by show (if k<0 then _ else _)=_;rw[Sm ⋯]
 rw[e,HT.xN];rcases RX k.toNat xs.length with h | h
 ·rw[we h];exact lq (by rw[wc];exact bo _)
 ·rw[zk h,ot (bo _),ot h,List.take_nil]
theorem FZ{xs:List α}{k:Int}(h0:0<=k):cut xs aq (aa k)=xs.take k.toNat:=by
 unfold cut;have e:HT.fJ xs.length xs.length (aa k)=min k.toNat xs.length:=by show (if k<0 then _ else _)=_;rw[Sm ⋯]
 rw[e,HT.xN,Rr,Nat.sub_zero];rcases RX k.toNat xs.length with h | h
 ·rw[we h]
 ·rw[zk h,lq (bo _),lq h]
theorem Kk{d:Dv}:IX a N (d::ds)=.own a d::(ds.map .v++bc (N.length-(ds.length+1)) .un):=rfl
theorem MZ{i:Int}:(O4 (.int i) (.int j) Q)=(Ft i j/\Q (.v (.int (i*2 ^ j.toNat)))):=rfl
theorem F1:∀{a b:List bI},a.map kD=b.map kD->a=b
 | [],[],_=>rfl
 | [],_::_,h=>by cases h
 |_::_,[],h=>by cases h
 |a::r,b::t,h=>by
  rw[cn,cn] at h;injection h with h1 h2;have e:a=b:=by cases a<;>cases b<;>first | (injection h1 with h1;rw[h1]) | cases h1
  rw[e,F1 h2]
theorem OD{kvs:List (List bI×Dv)}{a b:Int}:(dB (.dit kvs) (.tup [.int a,.int b]) Q)=(match kvs.find? (λkv=>decide (kv.1=[bv a,bv b])) with | some kv=>Q (.v kv.2) | none=>False):=by
 apply propext;constructor
 ·rintro⟨k,e,h⟩;have:k=[bv a,bv b]:=F1 (e.symm.trans rfl);subst this;exact h
 ·exact λh=>⟨[bv a,bv b],rfl,h⟩
end Z
namespace Sf
structure Rw where
 x:Int
 y:Int
 m:Int
noncomputable def Rw.up(r:Rw):Prop:=0<r.y \/ (r.y=0/\0<r.x)
noncomputable def crs(a b:Rw):Int:=a.x*b.y-b.x*a.y
noncomputable def place(v:Rw)(rows:List Rw):Nat:=rows.countP λr=>decide (0<crs r v)
noncomputable def wZ(rows:List Rw):Prop:=rows.Pairwise λa b=>0<crs a b
structure Pre(s:Int)(rows:List Rw):Prop where
 srt:wZ rows
 ok:∀r∈rows,r.up /\ -s<=r.x/\r.x<=s/\r.y<=s/\1<=r.m
noncomputable def many(rows:List Rw):Int:=(rows.map (·.m)).sum
structure Good(rows:List Rw):Prop where
 lo:2<=rows.length
 hi:rows.length<=6
 srt:wZ rows
 ok:∀r∈rows,r.up /\ -999999999999<=r.x/\r.x<=999999999999/\r.y<=999999999999/\1<=r.m
 tot:many rows<=12
noncomputable def bK:Nat->List Rw->List Int
 |_,[]=>[]
 |k,r::rs=>bc r.m.toNat (k:Int)++bK (k+1) rs
noncomputable abbrev aM(rows:List Rw):List Int:=bK 0 rows
end Sf
namespace L2
section
variable {D:Ends}{Q:VK}{t u:TS}{te ta tb tc:TE}{g:TG}
end
end L2
namespace Z
open L2
theorem Bp(h:∀Q:R->Prop,Q (.v (.bl ai))->sp [.scr ns] Q)(hO:Fp H)(hT:vC K H)(hS:eT K H a (ns.map V.int)):low K sp [.ref a] H (λv _=>v=.bl ai) (λ_ _ _=>False):=by
 refine⟨λ_=>False,[.scr ns],⟨λ_ z=>z.elim,hT⟩,.cons (.scr ?_) .nil,h _ λx H' S r=>?_⟩
 ·rcases hS with(h | h) | h
  ·rcases hO a with z | ⟨o,xs,z⟩
   ·rw[z] at h;cases h
   ·rw[z] at h;cases h
  ·exact .inl h
  ·exact .inr h
 ·have r':Rep K (λ_=>False) H' x (.bl ai):=r;cases r';rfl
end Z
namespace L2
noncomputable def Ky(K:aj):R2:=λx y H Q=>∃a b xs ys,x=.ref a/\y=.ref b/\kX K H a xs/\kX K H b ys/\xs.length+ys.length<=bh /\
 (xs=[]->Q (.ref b) H)/\(xs≠[]->ys=[]->Q (.ref a) H)/\(xs≠[]->ys≠[] -> ∀p,H p=aq->Q (.ref p) (upd H p (.tup (xs++ys))))
theorem Ge:iA X (gn .Add) (Ky X.K):=by
 intro pj s σ H x y v u Q I rx ry h;obtain⟨a,b,xs,ys,rfl,rfl,ha,hb,hz,q0,q1,q2⟩:=h;by_cases hx:xs=[]
 ·cases rx;cases ry;obtain⟨its,r1,p1,_⟩:=I.tuple ha;obtain⟨its2,r2,p2,_⟩:=I.tuple hb;have hv:=r1.nil_iff.mpr hx;obtain⟨⟨cls,dd,data,sl⟩,ho,hc,n,hd⟩:=id p1;obtain⟨⟨cls2,dd2,data2,sl2⟩,ho2,hc2,n2,hd2⟩:=id p2;simp only at hc hd hc2 hd2;subst hc hd hc2 hd2;exact yk ⟨_,ho,rfl⟩ ⟨_,ho2,rfl⟩ uh xf og ni (mr _ _)
   (tuple_addW0 a b its.toArray its2.toArray n n2 dd dd2 sl sl2 (by simp[hv])) ⟨ho,ho2,.ref b,H,I,rfl,q0 hx⟩
 ·exact Gf pj s σ H _ _ v u Q I rx ry ⟨a,b,xs,ys,rfl,rfl,ha,hb,hx,hz,q1 hx,q2 hx⟩
end L2
namespace Z
open L2
noncomputable def yF:Dv->Dv->(R->Prop)->Prop
 | .tup xs,.tup ys,Q=>xs.length+ys.length<=tW/\Q (.v (.tup (xs++ys)))
 |_,_,_=>False
theorem La{xs ys:List Dv}:yF (.tup xs) (.tup ys) Q=(xs.length+ys.length<=tW/\Q (.v (.tup (xs++ys)))):=rfl
theorem ES:tV X (gn .Add) yF:=by
 refine⟨λdx dy Q Q' w h=>?_,_,Ge,λM O H x y dx dy Q cx cy h=>?_⟩
 ·unfold yF at *;split at h
  ·exact⟨h.1,w _ h.2⟩
  ·exact h
 ·unfold yF at h;split at h
  ·obtain⟨a,xs,rfl,ea,ra⟩:=cx.tup;obtain⟨b,ys,rfl,eb,rb⟩:=cy.tup;have l1:=ra.length;have l2:=rb.length;refine⟨a,b,xs,ys,rfl,rfl,kX.of ea,kX.of eb,gY ⋯,λe=>?_,λ_ e=>?_,λ_ _ p hp=>h.2 _ _ (aI.new' hp) (DR hp (ra.append rb))⟩
   ·subst e;cases ra;exact h.2 _ H (aI.refl _) (Rep.tup eb rb)
   ·subst e;cases rb;refine h.2 _ H (aI.refl _) ?_;rw[dr];exact Rep.tup ea ra
  ·exact h.elim
noncomputable def uW:List Dv->(R->Prop)->Prop
 | [.int i],Q=>Q (.v (.int i))
 | [.bl b],Q=>Q (.v (.int (if b=ai then 1 else 0)))
 |_,_=>False
theorem Gb{b:Bool}:uW [.bl b] Q=Q (.v (.int (if b=ai then 1 else 0))):=rfl
theorem Hi:jY X (.type "int") uW:=by
 refine⟨λds Q Q' w h=>?_,_,D9,λM O H xs ds Q c h=>?_⟩
 ·unfold uW at *;split at h<;>first | exact w _ h | exact h
 ·unfold uW at h;split at h
  ·obtain⟨x,rfl,cx⟩:=dC c;obtain rfl:=cx.int;exact .inl ⟨_,rfl,h _ H (aI.refl _) (Rep.int _)⟩
  ·obtain⟨x,rfl,cx⟩:=dC c;obtain rfl:=cx.bl;exact .inr ⟨_,rfl,h _ H (aI.refl _) (Rep.int _)⟩
  ·exact h.elim
end Z
namespace L2
variable {it:af}{ep:Nat}{es:Array ja}{Q:Option ac->ah->Prop}
structure Ent(h:br)(d:af)(es:Array ja)(ep:Nat):Prop where
 at_:∃o,h.get? d=aa o/\o.ExactDict/\o.data=.dict es ep
theorem HG{d:af}{en:ja}(k:s.heap.IsKeyIter it d i n ep)(g:Ent s.heap d es ep)(hn:es.size=n)(he:es[i]?=aa en)
  (q:∀h',h'.IsKeyIter it d (i+1) n ep->ny it s.heap h'->Q (aa en.key) { s with heap:=h' }):bi (bn prog w) A (lu (.ref it)) Q E s:=by
 obtain⟨⟨od,gd,_,dd⟩⟩:=g;obtain⟨oi,gi,ci,fi⟩:=id k;have up:(s.heap.update it (iu (·.setIfInBounds 1 (li ((i:Int)+1))))).IsKeyIter it d (i+1) n ep:=
  ⟨_,gz _ gi (jf (qy fi _)),(nn ..).trans ci,by rw[qy fi];simp[li]⟩
 have fin:=q _ up (Sy ..);unfold lu;refine ae (lf (ef (name:=ee "__next__") k.typeIs gh (et gh k.typeIs qd (ae (az (ae (ae ?a)))) (pi _))));refine ae (im k.typeIs (az (ae (Rs gi fi ?b))));rw[show (if qj "dict_keyiterator" = ai then 2 else 0)=0 by decide];show bi _ _ (ite ((Value.ref d==eg)=ai) _ _) _ _ s;rw[Sm (by exact λz=>nomatch z)];refine ae (az (ae (tw gd dd ?c)));rw[Sm (by rw[hn];simp)];refine ae (az (ae (vf gd dd ?d)));rw[Sm (by simp)];refine az ?e;simp only[show ¬((i:Int)<0) by right,ite_false,ca,he];refine ae (ae (im k.typeIs (az (ae (vm k.typeIs ?f)))));show bi _ _ (Sa (.ref it) 1 (li ((i:Int)+1)) >>= _) _ _ s;refine ae (jd gi fi (by simp) (ae (gf (ae (vm (s:={ s with heap:=s.heap.update it (iu (·.setIfInBounds 1 (li ((i:Int)+1)))) }) up.typeIs ?g)))));show bi _ _ (fo en.key) _ _ _;exact az (az ⟨_,rfl,az fin⟩)
theorem Jg{d:af}(qu:Qu A s.heap)(k:s.heap.IsKeyIter it d i n ep)(g:Ent s.heap d es ep)(hn:es.size=n)(hi:n<=i)
  (q:∀h',pq it s.heap h'->Q aq { s with heap:=h' }):bi (bn prog w) A (lu (.ref it)) Q E s:=by
 obtain⟨⟨od,gd,_,dd⟩⟩:=g;obtain⟨oi,gi,ci,fi⟩:=id k;have he:es[i]?=aq:=Array.getElem?_eq_none ⋯;unfold lu;refine ae (lf (ef (name:=ee "__next__") k.typeIs gh (et gh k.typeIs qd (ae (az (ae (ae ?a)))) (pi _))));refine ae (im k.typeIs (az (ae (Rs gi fi ?b))));rw[show (if qj "dict_keyiterator" = ai then 2 else 0)=0 by decide];show bi _ _ (ite ((Value.ref d==eg)=ai) _ _) _ _ s;rw[Sm (by exact λz=>nomatch z)];refine ae (az (ae (tw gd dd ?c)));rw[Sm (by rw[hn];simp)];refine ae (az (ae (vf gd dd ?d)));rw[Sm (by simp)];refine az ?e;simp only[show ¬((i:Int)<0) by right,ite_false,ca,he];refine ae (ae (im k.typeIs (az ?f)));show bi _ _ (Sa (.ref it) 0 .none >>= _) _ _ s;have ne:∀b u,iX u->s.heap.get? b=aa u->b≠it:=λb u m gb z=>by
  subst z;rw[gi] at gb;cases gb;obtain⟨us,du,z2⟩:=m;rw[fi] at du;cases du;simp at z2
 refine ae (jd gi fi (by simp) (iJ (qu.keeps λb u m z=>(bx _ _ (fm (ne b u m z))).trans z) λh' e kk ⟨oe,ge,ce⟩=>?_));exact ae (ka (T:="StopIteration") (b:=ai) ⟨oe,ge,ce⟩ lv (az (q _ λb u hb z=>kk b u ((bx _ _ (fm hb)).trans z))))
theorem HH{d:af}{Q:ac->ah->Prop}(hd:(d==gk)=ao)(g:Ent s.heap d es ep)
  (q:Q (.ref s.heap.objs.size) { s with heap:=s.heap.push { cls:=.type "dict_keyiterator",data:=.fields #[.ref d,.int 0 0,.int es.size 0,.int ep 0] } }):bi (bn prog w) A (SA (.ref d)) Q E s:=by
 obtain⟨⟨od,gd,ex,dd⟩⟩:=g;have ty:s.TypeIs (.ref d) "dict" := ⟨od,gd,ex.1⟩;refine wpAny_pyIter_slot ty zl (et zl ty F.entry_dict_iter (ae (show bi _ _ (ss _ _) _ _ s from ?a)) (F.args_dict_iter_1 _));unfold ss;refine ae (wpAny_notOrdered_dict ty (show bi _ _ (fo (Value.ref d)) _ _ s from az (show bi _ _ (vn d >>= _) _ _ s from ae ?b)));unfold vn;rw[Sm (by rw[hd];exact ie)];refine az (ae (tw gd dd (ae (vf gd dd (ae (fj (az ⟨_,rfl, "dict_keyiterator",_,⟨_,bq _ rfl,rfl⟩,gh.lookup,?c⟩)))))));simpa [li] using q
end L2
namespace Z
open L2
section
variable {l:Expr}{tl:cQ}
end
end Z
namespace L2
variable {h':br}
theorem cB.at{o:HO}(x:cB P w H h a o):∃ob,h.get? a=aa ob:=by
 cases o with
 |lst xs=>obtain⟨_,_,_,_,e⟩:=x;exact⟨_,e⟩
 |tup xs=>obtain⟨_,_,_,_,e,_⟩:=x;exact⟨_,e⟩
 |dK kvs=>obtain⟨_,_,_,_,o,_,_,e,_⟩:=x;exact⟨_,e⟩
 |dT ep kvs=>obtain⟨_,_,_,_,o,_,e,_⟩:=x;exact⟨_,e⟩
 |set S n=>obtain⟨o,_,_,_,e,_⟩:=x;exact⟨_,e⟩
 |ins C dx fs=>obtain⟨_,_,_,e,_⟩:=x;exact⟨_,e⟩
 |own y=>exact x
 |xd fs=>obtain⟨_,⟨_,_,_,e,_⟩,_⟩:=x;exact⟨_,e⟩
 |lam q=>obtain⟨_,e,_⟩:=x;exact⟨_,e⟩
 |cod q=>obtain⟨_,_,_,_,e,e2,_⟩:=x;cases e;exact⟨_,e2⟩
 |rng lo hi=>obtain⟨_,_,_,e⟩:=x;exact⟨_,e⟩
 |frz ob u=>obtain⟨e,_⟩:=x;exact⟨_,e⟩
 |tbl ps=>exact⟨_,(show h.get? a=aa _ from x)⟩
 |met f y=>exact⟨_,(show h.get? a=aa _ from x)⟩
 |ext φ=>obtain⟨_,e,_⟩:=x;exact e
theorem jL.out(x:jL P w H h)(e:h.get? a=aq):H a=aq:=by
 cases q:H a with
 |none=>rfl
 |some u=>
  obtain⟨o,z⟩:=(x a u q).at;rw[e] at z;cases z
noncomputable abbrev II:List ac:=[.type "ValueError",.type "Exception",.type "BaseException",.type "object"]
noncomputable def uL(K:aj)(C:af):Prop:=SO K C II "ValueError.__new__" = ai
theorem uL.cls(X:K.In h)(q:uL K C):∃bm N nm qn bs hd sn sub ab col dd k0 k1 k2 k3 k5 mN,
  h.get? C=aa (Qo nm qn C N bs bm hd sn sub ab col dd k0 k1 k2 k3 k5 "ValueError.__new__")/\h.Ns N mN/\mN "__init__" = aq/\OwnTail h II bm:=by
 unfold uL SO at q;split at q
 ·rename_i dd cd sl ho;split at q
  ·rename_i C1 bm a0 a1 a2 a3 n a5 hm hs;rw[cf,cf,cf,cf,cf] at q;obtain⟨⟨⟨⟨⟨e1,e2⟩,e3⟩,e4⟩,e5⟩,e6⟩:=q;cases beq_iff_eq.mp e1;cases beq_iff_eq.mp e2;cases cd with
   |mk nm bs mro ns qn hd sn sub ab col del=>
    dsimp only at hm e3 e5 e6;cases hm;have dz:del=ao:=by cases del<;>simp_all
    cases dz;cases sl with
    |mk l=>
     dsimp only at hs;cases hs;exact⟨bm,ns,nm,qn,bs,hd,sn,sub,ab,col,dd,a0,a1,a2,a3,a5,_,X _ _ ho,.of_isNs (W.isNs_of_in X e5),W.nsMap_none_of_in X e5 (beq_iff_eq.mp e6),W.tail_of_in X e4⟩
  ·cases q
 ·cases q
noncomputable def fM(P:ay)(w:bg):A0:=λouter H s E e s'=>∃(a:af) (o:gj) (C:af) (H':Hp) (B:br),e=.ref a/\s'.os=s.os/\pk s'.gens/\Un (frs outer) [] H H' s.heap s'.heap/\jL P w H' s'.heap /\
 Fly B outer a o .none s'.heap/\(∀b o,s'.heap.get? b=aa o->b ∉ frs outer->(H' b≠aq \/ ∃u,s.heap.get? b=aa u)->B.get? b=aa o)/\s.heap.get? a=aq/\H' a=aq/\E (.ref C) o.dict H'/\o.cls=.ref C/\iX o
section
variable {fs:List af}{h0 h1 h2 B:br}
theorem Un.fly(u:Un fs [] H H' h0 h1)(k:∀b o,h1.get? b=aa o->b ∉ fs->(H' b≠aq \/ ∃u,h0.get? b=aa u)->B.get? b=aa o)(hB:B.StaysIn h2)
  (sl:∀b∈fs,∀o,h1.get? b=aa o -> ∃z,h2.get? b=aa { o with slots:=z }):Un fs [] H H' h0 h2 where
 keep:=λb o e n hb hx=>hB b o (k b o (u.keep b o e n hb hx) hb (.inr ⟨_,e⟩))
 slot:=λb o e n hb hx=>by
  obtain⟨z,q⟩:=u.slot b o e n hb hx;obtain⟨z',q'⟩:=sl b hb _ q;exact⟨z',q'⟩
 free:=u.free
 there:=λb o e hx=>by
  obtain⟨o',q⟩:=u.there b o e hx;by_cases hb:b∈fs
  ·obtain⟨z,q'⟩:=sl b hb _ q;exact⟨_,q'⟩
  ·exact⟨_,hB b o' (k b o' q hb (.inr ⟨_,e⟩))⟩
 tups:=u.tups
 frzs:=u.frzs
 tbls:=u.tbls
theorem jL.fly(x:jL P w H' h1)(nf:∀b∈fs,H' b=aq)(k:∀b o,h1.get? b=aa o->b ∉ fs->(H' b≠aq \/ ∃u,h0.get? b=aa u)->B.get? b=aa o)(hB:B.StaysIn h2):jL P w H' h2:=λb o e=>
 (x b o e).stay (λc v hc q=>by
  have hn:H' c≠aq:=by
   rcases hc with z | z
   ·rw[z,e];simp
   ·rw[z];simp
  exact hB c v (k c v q (λm=>hn (nf c m)) (.inl hn))) (λ_ q=>q) (λ_ _ q=>q) λ_ _ q=>q
end
section
variable {cd:ac}{s0:ah}{H0:Hp}{E:XK}
theorem Fx(I:Inv (bP (fM P w) P w K mg base N SV SU f cd A outer s0 H0 E) pj σ H s)(m:Rt s.heap h' a (.ref C) us)
  (hE:E (.ref C) aq H):(bP (fM P w) P w K mg base N SV SU f cd A outer s0 H0 E).xe (.ref a) { s with heap:=h' }:=by
 have hin:∀env∈(bP (fM P w) P w K mg base N SV SU f cd A outer s0 H0 E).stack,∀b,env.frame=aa b->b∈frs (bP (fM P w) P w K mg base N SV SU f cd A outer s0 H0 E).stack:=λenv he b hb=>tz.mpr ⟨env,he,hb⟩;obtain⟨t,ge,_,_⟩:=m.there;have nb:(nc s.heap (frs (bP (fM P w) P w K mg base N SV SU f cd A outer s0 H0 E).stack)).get? a=aq:=by
  cases q:(nc s.heap (frs (bP (fM P w) P w K mg base N SV SU f cd A outer s0 H0 E).stack)).get? a with
  |none=>rfl
  |some o'=>
   have:=qo _ q;rw[m.new] at this;cases this
 refine yZ (base:=nc s.heap (frs (bP (fM P w) P w K mg base N SV SU f cd A outer s0 H0 E).stack)) I.ok.frames ((zm I.stack hin).of_keeps λb o hb _=>⟨o,m.keeps b o hb,rfl⟩) rfl (λb o q=>m.keeps b o (qo _ q)) nb ge rfl rfl λh2 x1 x4=>?_;have fs:∀b,b∈frs (bP (fM P w) P w K mg base N SV SU f cd A outer s0 H0 E).stack->b=(ir SV SU s0.heap.objs.size f cd).locals \/ b∈frs outer:=λb hb=>cr.mp (I.stkSub b hb);have k1:∀b o,s.heap.get? b=aa o->b ∉ frs outer->(H b≠aq \/ ∃u,s0.heap.get? b=aa u)->(nc s.heap (frs (bP (fM P w) P w K mg base N SV SU f cd A outer s0 H0 E).stack)).get? b=aa o:=λb o e nb hc=>by
  refine wz _ e λhm=>?_;rcases fs b hm with z | z
  ·rcases hc with hc | ⟨u,hu⟩
   ·exact hc (I.stkFree b hm)
   ·have:b<s0.heap.objs.size:=be hu;have h2:s0.heap.objs.size<=b:=by rw[z];exact I.ok.above
    exact absurd (cm this h2) (iz _)
  ·exact nb z
 have sl:∀b∈frs outer,∀o,s.heap.get? b=aa o -> ∃z,h2.get? b=aa { o with slots:=z }:=λb hb o e=>by
  obtain⟨_,o',q,nf⟩:=I.funs.mem hb;rw[e] at q;cases q;exact x4 b o (m.keeps b o e) nf
 refine⟨a,_,C,H,_,rfl,I.os,I.bare,Un.fly I.base k1 x1.st sl,jL.fly (fs:=frs outer) I.hok (λb hb=>?_) k1 x1.st,x1,λb o e nb hc=>?_,?_,I.hok.out m.new,hE,rfl,⟨_,rfl,rfl⟩⟩
 ·obtain⟨_,o,q,_⟩:=I.ok.funs.mem hb;exact I.base.free b o q (I.ok.frf b hb) (λz=>nomatch z)
 ·have:∃o',s.heap.get? b=aa o':=by
   rcases hc with hc | ⟨u,hu⟩
   ·cases q:H b with
    |none=>exact(hc q).elim
    |some v=>exact(I.hok b v q).at
   ·exact I.base.there b u hu (λz=>nomatch z)
  obtain⟨o',q⟩:=this;have q1:=k1 b o' q nb hc;have q2:=x1.st b o' q1;rw[e] at q2;cases q2;exact q1
 ·cases q:s0.heap.get? a with
  |none=>rfl
  |some o=>
   obtain⟨o',q'⟩:=I.base.there a o q (λz=>nomatch z);rw[m.new] at q';cases q'
end
section
variable {x:bf}{t:TA}{np:gm}
theorem Dy{Ψ:Hp->Prop}(hh:X.A.handled=aq)(hm:X.mg x=aa (.ref C))(hg:Gl X x)(q:uL X.K C)(ha:PA X (e::es) t)
  (hx:∀(pj:List (af×gj)) (σ:St) (H:Hp) (s:ah) (h':br) (a:af) (us:List ac),Inv X pj σ H s->Rt s.heap h' a (.ref C) us->Ψ H->X.xe (.ref a) { s with heap:=h' })
  (hdb:autoParam ((x==("__debug__" : bf))=ao) hG._auto_1) (he:autoParam (au (e::es) X.env=(ao,di e X.env)::au es X.env) b7._auto_1) (hpl:autoParam ((dq SX (au es X.env)).any (·.1)=ao) b7._auto_1):
  PS X (.Raise (aa (.Call (.Name x np) (e::es) [] SX)) aq pos) (λ_ σ H=>t σ H λvs H1=>vs.length<=bh/\Ψ H1):=by
 intro pj s σ H D I h;obtain⟨bm,N,nm,qn,bs,hd,sn,sub,ab,col,dd,a0,a1,a2,a3,a5,mN,c1,c2,c3,c4⟩:=q.cls I.ok.mod.kin;refine wpAny_Raise_call_subT (N:=N) (bm:=bm) (C:=C) (q:=qn) (nm:=nm) (bs:=bs) (sn:=sn) (hdct:=hd) (sub:=sub) (col:=col) (ab:=ab) (dd:=dd) (k5:=a5) (k0:=a0) (k1:=a1) (k2:=a2) (k3:=a3) sf (mN:=mN) (c4.hasType rfl) hh ?_ c3 (fX I hg hm ⟨rfl,?_⟩ hdb)
 ·rw[he];show (ao || (dq SX (au es X.env)).any (·.1))=ao;rw[hpl];rfl
 ·have h1:=ha SX pj s σ H _ I h;rw[he] at h1 ⊢;refine pz (df h1 (λus s1 z=>?_) λ_ _ z=>z);obtain⟨vs,H1,I1,r,l,p⟩:=z;exact⟨rfl,by rw[<- r.length];exact l,I1.bk _ _ c1,c2.keeps I1.bk,c4.keeps I1.bk,λh' a m=>hx pj σ H1 s1 h' a us I1 m p⟩
end
noncomputable abbrev Cx.inx(X:Cx)(a:af):Cx:={ X with A:=X.A.mark (aa (.ref a)),calm:=ao,xe:=λ_ _=>False,hs:=a::X.hs }
theorem Cx.Ok.inx(ok:X.Ok)(a:af):(X.inx a).Ok:=
 ⟨ok.mod,ok.kind,ok.glob,ok.blt,ok.above,ok.inj,ok.has,ok.cab,(λz=>nomatch z),ok.frames,ok.stk,ok.exf,ok.bs,ok.bsz,ok.noex,ok.exfs,ok.funs,ok.frf,.inr ⟨a,de,rfl⟩⟩
theorem Inv.inx(I:Inv X pj σ H s)(a:af)(m:∃o u,H a=aa (.frz o u)/\iX o):Inv (X.inx a) pj σ H s:=⟨I.ok.inx a,I.os,I.bare,I.base,I.loc,I.cell,I.free,I.freeC,I.pin,I.hok,I.len,λb hb=>(cr.mp hb).elim (λe=>e ▸ m) (I.mild b)⟩
theorem Inv.outx(ok:X.Ok)(I:Inv (X.inx a) pj σ H s):Inv X pj σ H s:=⟨ok,I.os,I.bare,I.base,I.loc,I.cell,I.free,I.freeC,I.pin,I.hok,I.len,λb hb=>I.mild b (cp _ hb)⟩
section
variable {s1 s2:ah}{E:XK}{e:ac}{D:Ends}
end
variable {sp:Sp}{fd:fv}
section
variable {k:Nat}{x:bf}{Tj:gm}{t:TA}
end
section
open PySem.Calls PySem.Builtin PySem.Builtin.ObjectAttr PySem.Builtin.Getset_descriptor
variable {M:S9}{x:af}
end
noncomputable abbrev cR(A:bu):bu:={ A with handled:=aq }
noncomputable def KA(A:bu)(H:Hp):Prop:=A.handled=aq \/ ∃a o u,A.handled=aa (.ref a)/\H a=aa (.frz o u)/\iX o
theorem Inv.hdOk(I:Inv X pj σ H s):KA X.A H:=by
 rcases I.ok.hq with e | ⟨a,ha,e⟩
 ·exact .inl e
 ·obtain⟨o,u,g,m⟩:=I.mild a ha;exact .inr ⟨a,o,u,e,g,m⟩
structure FnOkH(P:ay)(w:bg)(K:aj)(mg:bf->Option ac)(base:br)(k:Nat)(f:af)(fd:fv)(ps:List bf)(sp:Sp):Prop where
 len:∀vs H Q E,sp vs H Q E->vs.length=ps.length
 run:∀(A:bu) (outer:List ox) (s:ah) (H:Hp) (args:Args) (us:List ac) (vs:List V) (Q:VK) (E:XK),Room k (cR A)->KA A H->Env0 P w K mg base A outer s H->uq s fd args (ps.zip us)->aY vs us->sp vs H Q E ->
  qv (bn P w) A (.call (.ref f) args) (CR xD outer P w H s Q E) s
noncomputable abbrev M4(P:ay)(w:bg)(K:aj)(mg:bf->Option ac)(base:br)(N:List bf)(SV:bf)(SU:Scope)(f:af)(cd:ac)(A:bu)(outer:List ox)(s:ah)(H:Hp)(E:XK):Cx:=
 { bP xD P w K mg base N SV SU f cd A outer s H E with calm:=ao,xe:=λ_ _=>False }
theorem FG{k:Nat}{name:bf}{T8:zg}{dV kV doc pm cdv ct oc:ac}{an od:Option af}
  {osl:Array (Option ac)}   (lk:K.lookup f=aa ⟨oc,od,.func (oa name SV T8 T1 SU dV kV doc pm an cdv ct),osl⟩) (hcd:rh K cdv SV=ai) (S:FnScope N ps SU)
  (len:∀vs H Q E,sp vs H Q E->vs.length=ps.length)
  (T3:∀(A:bu) (outer:List ox) (s:ah) (H:Hp) (vs:List V) (Q:VK) (E:XK),Room k (cR (A.deeper (ir SV SU s.heap.objs.size f cdv)))->sp vs H Q E ->
   ∃t,pP (M4 P w K mg base N SV SU f cdv A outer s H E) T1 t/\t { nx:=λ_ H'=>Q .non H',rt:=Q } (start N vs) H):
  FnOkH P w K mg base (k+1) f (oa name SV T8 T1 SU dV kV doc pm an cdv ct) ps sp:=by
 refine⟨len,λA outer s H args us vs Q E hr hdk e0 hb r hsp=>?_⟩;have hl:=len _ _ _ _ hsp;have KX:K.In s.heap:=e0.mod.kin.keeps λb o e=>(e0.bs b o e).1;have lim:s.heap.NoLimit:=e0.mod.nolimit.keeps λb o e=>(e0.bs b o e).1;have T0:∀y∈ps.zip us,SU.names.lookup y.1=aa .local \/ (SU.names.lookup y.1=aa .cell/\((wn (s.heap.objs.size+1) SU.names []).lookup y.1).isSome=ai):=λ⟨n,v⟩ hy=>by
  rcases S.par n (ut hy).1 with q | q
  ·exact .inl q
  ·exact .inr ⟨q,pf _ _ _ (.inl q)⟩
 refine oy (show A.depth<rg from hr.depth) (KX _ _ lk) rfl S.co S.gen rfl (yi KX hcd) (hb _ _ _ _ ?_);refine md S.kind T0 λenv he s1 x=>?_;subst he;refine⟨lim.keeps x.toInCall.keep,yj ?_⟩;obtain⟨t,ht,hq⟩:=T3 A outer s H vs Q E (hr.deeper _) hsp;have e1:Env0 P w K mg base (cR A) outer s H:=⟨e0.frames,e0.mod,e0.bs,e0.bsz,e0.funs,e0.frf,e0.hok,e0.bare⟩;have I0:Inv (bP xD P w K mg base N SV SU f cdv (cR A) outer s H E) [] (start N vs) H s1:=qI S rfl e1 hl r x;have I:Inv (M4 P w K mg base N SV SU f cdv A outer s H E) [] (start N vs) H s1:=
  ⟨⟨I0.ok.mod,I0.ok.kind,I0.ok.glob,I0.ok.blt,I0.ok.above,I0.ok.inj,I0.ok.has,I0.ok.cab,(λz=>nomatch z),I0.ok.frames,I0.ok.stk,I0.ok.exf,I0.ok.bs,I0.ok.bsz,I0.ok.noex,I0.ok.exfs,I0.ok.funs,I0.ok.frf,(show A.handled=aq \/ ∃a,a∈rK A/\A.handled=aa (.ref a) from hdk.elim .inl λzq2=>by obtain⟨a,_,_,e,_,_⟩:=zq2;exact .inr ⟨a,by unfold rK;rw[e];exact de,e⟩)⟩,
   I0.os,I0.bare,I0.base,I0.loc,I0.cell,I0.free,I0.freeC,I0.pin,I0.hok,I0.len,(show ∀a∈rK A,∃o u,H a=aa (.frz o u)/\iX o from λb hb=>by
    unfold rK at hb;rcases hdk with e | ⟨a,o,u,e,g,m⟩
    ·rw[e] at hb;simp at hb
    ·rw[e] at hb;have:b=a:=by simpa using hb
     subst this;exact⟨o,u,g,m⟩)⟩
 refine df (ht [] s1 (start N vs) H _ I hq) (λfl s' hs=>?_) λe s' hs=>hs.elim;have fin:∀{σ':St} {H':Hp} {v:V} {u:ac},Inv (M4 P w K mg base N SV SU f cdv A outer s H E) [] σ' H' s'->bU v u->Q v H'->CE outer P w H s Q u s':=
  λ{σ' H' v u} J rv q=>⟨v,H',J.os,J.bare,J.base,J.hok,rv,q⟩
 cases fl with
 |ret u=>
  obtain⟨v,σ',H',J,rv,q⟩:=hs;exact fin J rv q
 |next=>
  obtain⟨σ',H',J,q⟩:=hs;exact fin (v:=V.non) (u:=eg) J rfl q
 |brk=>
  obtain⟨_,_,_,q⟩:=hs;exact cb q
 |cont=>
  obtain⟨_,_,_,q⟩:=hs;exact cb q
section
variable {k:Nat}{E:XK}{x:bf}{t:TA}
theorem EI(F:FnOkH X.prog X.w X.K X.mg X.base k f fd ps sp)(hr:Room k (cR X.A))(hg:Gl X x)(hm:X.mg x=aa (.ref f))(hk:ic X.K (.ref f)=ai)(hb:dI X.K fd ps [])
  (ha:PA X (e::es) t) (hdb:autoParam ((x==("__debug__" : bf))=ao) hG._auto_1) (he:autoParam (au (e::es) X.env=(ao,di e X.env)::au es X.env) b7._auto_1) (hpl:autoParam ((dq pos (au es X.env)).any (·.1)=ao) b7._auto_1):
  PE X (.Call (.Name x p) (e::es) [] pos) (Ht sp [] E t):=by
 intro pj s σ H Q I h;refine fx (fX I hg hm ?_ hdb);refine kx (h₀:=X.base) I.ok.mod.kin hk (thn (ha pos pj s σ H _ I h) λus s1 ⟨vs,H1,I1,r,q⟩=>⟨I1.kIn,?_⟩) he hpl;replace q:sp (vs++[]) H1 Q E:=q;rw[dr] at q;have hl:us.length=ps.length:=by rw[<- r.length];exact F.len _ _ _ _ q
 have hb1:=hb s1 us I1.kIn (by rw[dr];exact hl);rw[dr] at hb1;refine my (gt (F.run X.A X.stack s1 H1 ⟨us,[]⟩ us vs Q E hr I1.hdOk I1.env0 hb1 r q) λr s' hq=>?_);cases r with
 |error e=>exact cb hq
 |ok fl=>
  cases fl with
  |ret u=>exact I1.after hq
  |next=>exact cb hq
  |brk=>exact cb hq
  |cont=>exact cb hq
end
end L2
namespace Z
open L2
noncomputable abbrev rN:=af×Option Int
noncomputable abbrev n4:=List Dv->(R->Prop)->(rN->Prop)->Prop
inductive lowX(K:aj)(sp:n4)(vs:List V)(H:Hp)(Q:VK)(E:XK):Prop
 |mk (F:af->Prop) (ds:List Dv) (Ψ:rN->Prop) (hF:OldF K F H) (r:Reps K F H vs ds) (q:sp ds (λr=>∀x H',aI H H'->d5 K F vE H x r H'->Q x H') Ψ) (hE:∀C p dd H',Ψ (C,p)->aI H H'->lV H' p dd->E (.ref C) dd H')
structure MonoX(sp:n4):Prop where
 mo:∀ds (Q Q':R->Prop) (Ψ Ψ':rN->Prop),(∀r,Q r->Q' r)->(∀C,Ψ C->Ψ' C)->sp ds Q Ψ->sp ds Q' Ψ'
structure DefX(P:ay)(w:bg)(K:aj)(mg:bf->Option ac)(base:br)(k:Nat)(x:bf)(ps:List bf)(sp:Sp):Prop where
 ex:∃f fd,mg x=aa (.ref f)/\ic K (.ref f)=ai/\dI K fd ps []/\FnOk P w K mg base (fM P w) k f fd ps sp
structure QxS(X:Cx)(HZ:Hp)(F:af->Prop)(st:gg)(t:bV):Prop where
 mono:∀E E' ρ,EnLe E E'->t E ρ->t E' ρ
 run:PS X st (liftS X.K HZ F t)
structure QxB(X:Cx)(HZ:Hp)(F:af->Prop)(sts:List gg)(t:bV):Prop where
 mono:∀E E' ρ,EnLe E E'->t E ρ->t E' ρ
 run:pP X sts (liftS X.K HZ F t)
section
variable {sts a b:List gg}{t u:bV}{c:Expr}{tc:jZ}
theorem QS.x(h:QS X st t):QxS X HZ F st t:=⟨h.mono,h.run HZ F⟩
theorem QSs.x(h:QSs X sts t):QxB X HZ F sts t:=⟨h.mono,h.run HZ F⟩
theorem oE(h:QxS X HZ F st t):QxB X HZ F [st] t:=⟨h.mono,BF h.run⟩
theorem eU(h1:QxS X HZ F st t)(h2:QxB X HZ F sts u):QxB X HZ F (st::sts) (aN t u):=by
 refine⟨λE E' ρ w h=>h1.mono _ _ _ (w.with_nx λρ h=>h2.mono _ _ _ w h) h,sC (jR h1.run h2.run) λD σ H z=>?_⟩;obtain⟨ρ,E,fr,h,en⟩:=z;exact⟨ρ,_,fr,h,λρ' σ' H' fr' h'=>⟨ρ',E,fr',h',en⟩,en.bk,en.ct,en.rt⟩
theorem KR(hc:QT X c tc)(ha:QxB X HZ F a t)(hb:QxB X HZ F b u):QxS X HZ F (.If c a b pos) (iB tc t u):=by
 refine⟨λE E' ρ w h=>hc.mono _ _ _ (λk q=>?_) h,cA (E3 (hc.run HZ F) ha.run hb.run) λD σ H z=>?_⟩
 ·cases k with
  |true=>exact iO (ha.mono _ _ _ w (by simpa using q))
  |false=>exact iP (hb.mono _ _ _ w (by simpa using q))
 ·obtain⟨ρ,E,fr,h,en⟩:=z;refine hc.step fr h λk H1 q S1=>?_;cases k with
  |true=>exact iO ⟨ρ,E,fr.mono S1,by simpa using q,en⟩
  |false=>exact iP ⟨ρ,E,fr.mono S1,by simpa using q,en⟩
end
noncomputable def vK(Ψ:rN->Prop)(C:af)(ts:iY):bV:=λ_ ρ=>ts ρ λrs=>rs.length<=1000/\Ψ (C,aq)
theorem iW.len{K:aj}{M:af->Prop}{O:af->Dv->Prop}{H H':Hp}:∀{xs:List V} {rs:List R},iW K M O H xs rs H'->xs.length=rs.length
 |_,_,.nil=>rfl
 |_,_,.cons _ t=>by rw[cw,cw,iW.len t]
section
variable {cd:ac}{s0:ah}{H0:Hp}{E:XK}
end
variable {nm:bf}
theorem At.okX{k:Nat}{x:bf}{sp:n4}{t:(rN->Prop)->bV}(a:At K mg x nm st ps)(S:FnScope N ps (aB st))
  (hq:∀(f:af) (cdv:ac) (A:bu) (outer:List ox) (s:ah) (H:Hp) (E:XK) (F:af->Prop) (Ψ:rN->Prop),Room k (A.deeper (ir nm (aB st) s.heap.objs.size f cdv))->(∀C p dd H',Ψ (C,p)->aI H H'->lV H' p dd->E (.ref C) dd H') ->
   QxB (bP (fM P w) P w K mg base N nm (aB st) f cdv A outer s H E) H F (cM st) (t Ψ))
  (len:∀ds Q Ψ,sp ds Q Ψ->ds.length=ps.length) (hsp:∀ds Q Ψ,sp ds Q Ψ->t Ψ ↥Q (aJ N ds)):DefX P w K mg base (k+1) x ps (lowX K sp):=by
 obtain⟨f,fd,hm,F,hb⟩:=a.ex;obtain⟨oc,od,kV,doc,pm,an,cdv,ct,osl,rfl,lk,hcd⟩:=F.ex;refine⟨f,_,hm,F.kp,hb,IH lk hcd S (λvs H Q E z=>?_) λA outer s H vs Q E hr z=>?_⟩
 ·obtain⟨F,ds,Ψ,hF,r,q,hE⟩:=z;rw[r.length];exact len _ _ _ q
 ·obtain⟨F,ds,Ψ,hF,r,q,hE⟩:=z;exact⟨_,(hq f cdv A outer s H E F Ψ hr hE).run,aJ N ds,_,sI hF r,hsp ds _ Ψ q,λρ σ H' fr q=>q .non H' fr.same Rep.non,λ_ _ _ _ z=>z.elim,λ_ _ _ _ z=>z.elim,λrr x H' S rx q=>q x H' S rx⟩
section
variable {k:Nat}{sp:n4}{x:bf}{Tj:gm}
end
structure DefH(P:ay)(w:bg)(K:aj)(mg:bf->Option ac)(base:br)(k:Nat)(x:bf)(ps:List bf)(sp:Sp):Prop where
 ex:∃f fd,mg x=aa (.ref f)/\ic K (.ref f)=ai/\dI K fd ps []/\FnOkH P w K mg base k f fd ps sp
theorem At.okH{k:Nat}{x:bf}{t:bV}(a:At K mg x nm st ps)(S:FnScope N ps (aB st))
  (hq:∀(f:af) (cdv:ac) (A:bu) (outer:List ox) (s:ah) (H:Hp) (E:XK),Room k (cR (A.deeper (ir nm (aB st) s.heap.objs.size f cdv)))->QSs (M4 P w K mg base N nm (aB st) f cdv A outer s H E) (cM st) t)
  (len:∀ds Q,sp ds Q->ds.length=ps.length) (hsp:∀ds Q,sp ds Q->t ↥Q (aJ N ds)):DefH P w K mg base (k+1) x ps (low K sp):=by
 obtain⟨f,fd,hm,F,hb⟩:=a.ex;obtain⟨oc,od,kV,doc,pm,an,cdv,ct,osl,rfl,lk,hcd⟩:=F.ex;exact⟨f,_,hm,F.kp,hb,FG lk hcd S (pC len) λA outer s H vs Q E hr z=>pL (hq f cdv A outer s H E hr) hsp z⟩
theorem Room.inx{k:Nat}(r:Room k A)(v:Option ac):Room k (cR (A.mark v)):=⟨rfl,r.dp,r.un⟩
section
variable {k:Nat}{x:bf}
theorem p5(d:DefH X.prog X.w X.K X.mg X.base k x ps (low X.K sp))(mo:MonoF sp)(hr:Room k (cR X.A))(ha:QA X (e::es) ts)(hg:autoParam (Gl X x) b7._auto_1)
  (hdb:autoParam ((x==("__debug__" : bf))=ao) hG._auto_1) (he:autoParam (au (e::es) X.env=(ao,di e X.env)::au es X.env) b7._auto_1) (hpl:autoParam ((dq pos (au es X.env)).any (·.1)=ao) b7._auto_1):
  QE X (.Call (.Name x p) (e::es) [] pos) (aU sp ts):=by
 obtain⟨f,fd,hm,hk,hb,FO⟩:=d.ex;refine⟨λρ Q Q' w q=>ha.mono _ _ _ (λrs q=>mo.mo _ _ _ (iE w) q) q,λHZ F=>bX (EI (E:=E0) FO hr hg hm hk hb (ha.run HZ F) hdb he hpl) λσ H Q z=>?_⟩;obtain⟨ρ,fr,h⟩:=z;refine ha.step fr h λrs xs H1 q S1 r1=>?_;rw[dr];exact lU mo fr S1 r1 q λr z=>z
end
end Z
namespace L2
end L2
namespace Z
open L2
section
variable {l o:Expr}{tl to:cQ}{SZ:gm}
end
end Z
namespace L2
open PySem PySem.Spec PySem.W PyProof.Rows Tim
variable {es:Array ja}{ep:Nat}
theorem He{its:List N9}{k:Nat}(two:2<=(its.map λt=>Value.ref t.1).length)(hits:∀t∈its,t.2.1.length=k+1)(hd:its.Pairwise (λt u=>t.2.1≠u.2.1))
  (tup:∀t∈its,∃(o:gj) (a b:List ac) (n:Nat),s.heap.get? t.1=aa o/\o.cls=.type "tuple" /\ o.data=.seq (a++b).toArray n/\lj a t.2.1) (far:∀t∈its,t.1≠a):
  Cmp prog w s a (its.map λt=>Value.ref t.1) (λi j=>kI (its.getD i (0,[],[])).2.1 (its.getD j (0,[],[])).2.1) (tuples' ai):=by
 have len:(its.map λt=>Value.ref t.1).length=its.length:=by simp
 let num:Nat->List Int:=λi=>(its.getD i (0,[],[])).2.1
 have get:∀i,i<its.length->(its.map λt=>Value.ref t.1).getD i eg=Value.ref (its.getD i (0,[],[])).1:=λi hi=>by simp[hi]
 have mem:∀i,i<its.length->its.getD i (0,[],[])∈its:=λi hi=>by
  rw[gc,dm hi];exact jc hi
 have ne:∀i j,i<its.length->j<its.length->i≠j->num i≠num j:=λi j hi hj n=>by
  have e:∀i,i<its.length->num i=(its[i]!).2.1:=λi hi=>by simp[num,hi]
  have pw:=gp.mp hd;have ei:its.getD i (0,[],[])=its[i]:=by simp[hi]
  have ej:its.getD j (0,[],[])=its[j]:=by simp[hj]
  show (its.getD i (0,[],[])).2.1≠(its.getD j (0,[],[])).2.1;rw[ei,ej];rcases sd n with z | z
  ·exact pw i j hi hj z
  ·exact(pw j i hj hi z).symm
 refine⟨CZ num,λA h Q' hk q'=>?_,λA h i j C hk hi hj hn q'=>?_⟩
 ·have go:∀l:List N9,(∀t∈l,t∈its) -> ∃fs:List ac,KatTups h (l.map λt=>Value.ref t.1) fs/\fs.length=l.length /\ ∀v∈fs,∃x y,v=Value.int x y:=by
   intro l;induction l with
   |nil=>intro _;exact⟨[],.nil,rfl,λv hv=>by cases hv⟩
   |cons t r ih=>
    intro hm;obtain⟨fs,kt,e,al⟩:=ih λu hu=>hm u (cp _ hu);have ht:=hm t (de ..);obtain⟨o,a,b,n,ho,hc,hd',ia⟩:=tup t ht;obtain⟨x,SW,ex⟩:∃x SW,t.2.1=x::SW:=by
     have:=hits t ht;cases e':t.2.1 with
     |nil=>rw[e'] at this;cases this
     |cons x SW=>exact⟨x,SW,rfl⟩
    rw[ex] at ia;cases ia with
    |cons _ y ia'=>
     refine⟨Value.int x y::fs,KatTups.cons (hk _ _ (far t ht) ho) hc hd' (by simp) kt,by simp[e],λv hv=>?_⟩;rcases cr.mp hv with rfl | hv
     ·exact⟨x,y,rfl⟩
     ·exact al v hv
  obtain⟨fs,kt,e,al⟩:=go its λ_ h=>h;refine kat_kind (s:={ s with heap:=h }) (T:=.type "int") kt (by rw[e];simp at two;right) (λv hv=>?_) ∅ q';obtain⟨x,y,rfl⟩:=al v hv;exact Looks.of_pure rfl
 ·rw[len] at hi hj;rw[get i hi,get j hj];obtain⟨o,a,b,n,ho,hc,hd',ia⟩:=tup _ (mem i hi);obtain⟨o2,a2,b2,n2,ho2,hc2,hd2,ia2⟩:=tup _ (mem j hj);refine kat_lt (s:={ s with heap:=h }) (hk _ _ (far _ (mem i hi)) ho) hd' (hk _ _ (far _ (mem j hj)) ho2) hd2 ?_;exact yP _ _ a a2 b b2 0 ia ia2 (by rw[hits _ (mem i hi),hits _ (mem j hj)]) (ne i j hi hj hn) q'
theorem Ent.keep{h':br}{d:af}(x:Ent h d es ep)(k:∀o,h.get? d=aa o->h'.get? d=aa o):Ent h' d es ep:=by
 obtain⟨⟨o,g,r⟩⟩:=x;exact⟨⟨o,k o g,r⟩⟩
theorem Ent.lt{d:af}(x:Ent h d es ep):d<h.objs.size:=by
 obtain⟨⟨o,g,r⟩⟩:=x;exact be g
theorem Cu(hh:A.handled=aq)(I d:af)(hne:d≠I)(es:Array ja)(ep:Nat):
  Walks prog w A I [I,d] [I] es.size (λi v=>∃en,es[i]?=aa en/\v=en.key) (λi h=>h.IsKeyIter I d i es.size ep/\Ent h d es ep) where
 sub:=λb hb=>by rw[dk.mp hb];exact de ..
 frame:=λi h h' st k=>⟨st.1.at λo e=>k I (by simp) o e,st.2.keep λo e=>k d (by simp) o e⟩
 item:=λi s Q E hi st q=>by
  have hx:es[i]?=aa es[i]:=gy hi;exact HG st.1 st.2 rfl hx λh' st' sb=>q _ h' s.toks ⟨_,hx,rfl⟩ ⟨st',st.2.keep λo e=>(sb.2 d hne).trans e⟩ λb o hb e=>(sb.2 b (by simpa using hb)).trans e
 done:=λs Q E st q=>Jg (.inl hh) st.1 st.2 rfl (bo _) λh' eb=>q h' s.toks λb o hb e=>eb b o (by simpa using hb) e
 self:=λi s Q E st q=>wpAny_pyIter_keyiter st.1 q
theorem Bc{d:af}(lo:(d==gk)=ao):W.KdlSrc prog w "dict" d d es.size (λi v=>∃en,es[i]?=aa en/\v=en.key) (λh=>Ent h d es ep) where
 type:=λs x=>by
  obtain⟨⟨o,g,ex,_⟩⟩:=x;exact⟨o,g,ex.1⟩
 there:=λh x=>⟨x.lt,x.lt⟩
 keep:=λh h' x k=>x.keep λo e=>k d (.inl rfl) o e
 notList:=by decide
 notTuple:=by decide
 hint:=λA E s Q x q=>W.kdl_hint_dict (by obtain⟨⟨o,g,ex,_⟩⟩:=x;exact⟨o,g,ex.1⟩) q
 iter:=λA s hh x=>⟨_,_,λE Q q=>HH lo x q,Cu hh _ d (eu x.lt) es ep,⟨_,bq _ rfl,rfl,rfl⟩,x.keep λo e=>av _ e⟩
theorem zM{T:String}{r d:af}{P:Nat->ac->Prop}{OK:br->Prop}{R:List ac->ah->Prop}(K:W.KdlSrc prog w T r d n P OK)(hq:A.handled=aq)(ok:OK s.heap)(le:n<=bh)
  (fin:∀(h1:br) (tk:Nat) (acc:Array ac),(∀b o,s.heap.get? b=aa o->h1.get? b=aa o)->s.heap.objs.size<h1.objs.size->ItemsOf P acc n->R acc.toList { s with heap:=h1,toks:=tk }):bi (bn prog w) A (collect (.ref r)) R E s:=by
 obtain⟨l1,l2⟩:=K.there _ ok
 let N:=s.heap.objs.size
 let hN:=s.heap.push { cls:=.type "list",data:=.seq ([]:List ac).toArray }
 have oN:hN.get? N=aa { cls:=.type "list",data:=.seq #[] }:=bq _ rfl;have up:∀b o,s.heap.get? b=aa o->hN.get? b=aa o:=λb o e=>av _ e
 let G:SE->ah->Prop:=λq s2=>∃(h1:br) (tk:Nat) (acc:Array ac) (c:Nat),q=.ok (.ret (.ref N))/\s2={ s with heap:=h1,toks:=tk }/\(∀b o,s.heap.get? b=aa o->h1.get? b=aa o)/\h1.get? N=aa { cls:=.type "list",dict:=aq,data:=.seq acc c,slots:=#[] }/\ItemsOf P acc n
 have gone:=W.kdl_extend (A:=A) (s:={ s with heap:=hN }) (R:=G) K hq (K.keep _ _ ok λb _ o e=>up b o e) N (vq l1) (vq l2) (.ref N) 0 oN
  (λh1 tk acc c k g it=>⟨h1,tk,acc,c,rfl,rfl,λb o e=>k b o (eu (be e)) (up b o e),g,it⟩) le
 have last:∀(h1:br) (tk:Nat) (acc:Array ac) (c:Nat),(∀b o,s.heap.get? b=aa o->h1.get? b=aa o)->h1.get? N=aa { cls:=.type "list",dict:=aq,data:=.seq acc c,slots:=#[] }->ItemsOf P acc n ->
   bi (bn prog w) A (do let o <- load N;match o.data with | .seq xs _=>fo xs.toList | _=>unsupported "internal:collect") R E { s with heap:=h1,toks:=tk }:=λh1 tk acc c k g it=>
  ae (xl g (az (fin h1 tk acc k (be g) it)))
 unfold collect;refine ae (wpAny_runValue (R0 PySem.F.entry_proto_collect ?_));rw[wf PySem.F.plain_proto_collect _];refine ae (m:=newList []) (fj (az ⟨plainId_quiet uj _,R0 PySem.F.entry_list_iadd ?_⟩));rw[wf uj _];refine df gone (λfin2 s2 z=>?_) λe s2 z=>?_
 ·cases fin2 with
  |done f=>obtain⟨h1,tk,acc,c,e,rfl,k,g,it⟩:=z;cases e;exact last h1 tk acc c k g it
  |again c1=>exact⟨z.1,gt z.2 λq s3 y=>by obtain⟨h1,tk,acc,c,rfl,rfl,k,g,it⟩:=y;exact last h1 tk acc c k g it⟩
 ·obtain⟨_,_,_,_,z,_⟩:=z;cases z
theorem A8{d:af}{vs:List ac}{lt:Nat->Nat->Bool}{κ:Rp}{Q:ac->ah->Prop}(hh:A.handled=aq)(lo:(d==gk)=ao)(x:Ent s.heap d es ep)(hv:es.toList.map (·.key)=vs)(h64:vs.length<64)
  (c:∀(h1:br) (tk:Nat),(∀b o,s.heap.get? b=aa o->h1.get? b=aa o)->2<=vs.length->Cmp prog w { s with heap:=h1.push (mf "list" vs.toArray 0),toks:=tk } h1.objs.size vs lt κ)
  (k:∀(h1:br) (tk:Nat) p,(∀b o,s.heap.get? b=aa o->h1.get? b=aa o)->s.heap.objs.size<h1.objs.size->Pm vs.length p->Up lt p vs.length->Q (.ref h1.objs.size) { s with heap:=Rq (h1.push (mf "list" vs.toArray 0)) h1.objs.size vs (picked vs p).toArray,toks:=tk }):
  bi (bn prog w) A (call (.builtin "sorted") [.ref d]) Q E s:=by
 have line:vs.length<=bh:=by rw[ii];right
 have hn:es.size=vs.length:=by rw[<- hv];simp
 refine su kind_sorted plain_sorted entry_sorted (args_sorted1 _) ?_;unfold wj.«sorted»;refine ae (m:=checkCount "sorted" 1 1 _) (az (ae (zM (Bc lo) hh x (by rw[hn];exact line) λh1 tk acc old big it=>?_)));have ea:acc.toList=vs:=by
  apply oo;intro i;rw[<- hv];by_cases hi:i<acc.size
  ·obtain⟨en,e1,e2⟩:=it.2 i acc[i] (gy hi);rw[jg,gy hi,bw,jg,e1,e2];rfl
  ·have:es.size<=i:=by rw[<- it.1];right
   rw[jh (by simpa using hi),jh (by simpa using this)]
 rw[ea];refine ae (xh ?_ line);have mine:(h1.push (mf "list" vs.toArray 0)).get? h1.objs.size=aa (mf "list" vs.toArray 0):=bq h1 rfl;refine ae (gf (et Ru ⟨_,mine,rfl⟩ R1 ?_ (Rv _)));refine Br (s:={ s with heap:=h1.push (mf "list" vs.toArray 0),toks:=tk }) (lt:=lt) (κ:=κ) mine h64 (λtwo=>c h1 tk old two) λp a b=>⟨_,rfl,az ⟨_,rfl,k h1 tk p old big a b⟩⟩
theorem Jk{xs:List (List bI×af×ac)}(r:KT H kvs xs){kns:List (List Int)}(hk:kvs.map (·.1)=kns.map λl=>l.map bv):
  ∃its:List N9,its.map (·.2.1)=kns/\xs.map (λq=>Value.ref q.2.1)=its.map (λt=>Value.ref t.1)/\(∀t∈its,H t.1=aa (.tup (t.2.1.map V.int))/\t.2.2=[])/\xs.map (·.1)=kns.map λl=>l.map bv:=by
 induction r generalizing kns with
 |nil=>
  cases kns with
  |nil=>exact⟨[],rfl,rfl,λt ht=>(gx ht).elim,rfl⟩
  |cons _ _=>cases hk
 | @cons p q ps qs h t ih=>
  cases kns with
  |nil=>cases hk
  |cons l kns=>
   rw[cn,cn] at hk;injection hk with h1 h2;obtain⟨its,e1,e2,e3,e4⟩:=ih h2;refine⟨(q.2.1,l,[])::its,by rw[cn,e1],by rw[cn,cn,e2],λt ht=>?_,by rw[cn,cn,e4,<- h.1,h1]⟩;rcases cr.mp ht with rfl | ht
   ·refine⟨?_,rfl⟩;have:=h.2.1;rw[h1,mw] at this;exact this
   ·exact e3 t ht
theorem wT(hc:X.calm=ai):eB X (.builtin "sorted") (λxs H Q=>∃(p:af) (ep:Nat) (kvs:List (List bI×V)) (kns:List (List Int)) (k:Nat),xs=[.ref p]/\H p=aa (.dT ep kvs)/\kvs.map (·.1)=kns.map (λl=>l.map bv)/\kvs.length<64/\(∀l∈kns,l.length=k+1) /\
  ∀its':List (af×List Int),(its'.map (·.2)).Perm kns->its'.Pairwise (λt u=>kI t.2 u.2=ai)->(∀t∈its',H t.1=aa (.tup (t.2.map V.int))) -> ∀l,H l=aq->Q (.ref l) (upd H l (.lst (its'.map λt=>V.ref t.1)))):=by
 intro pj s σ H xs us Q I r h;obtain⟨p,ep,kvs,kns,k,rfl,hp,hk,h64,hlen,q⟩:=h;obtain⟨u,rfl,ru⟩:=iF r;cases ru;obtain⟨hz,hsys,xs,rx,o,es,g,ex,dd,he,nd⟩:=(show cB X.prog X.w H s.heap p (.dT ep kvs) from I.hok p _ hp);obtain⟨its,e1,e2,e3,e4⟩:=Jk rx hk;have ln:its.length=kvs.length:=by
  have a:=congrArg List.length e1;have b:=congrArg List.length hk;simp at a b;right
 have pw0:its.Pairwise (λt u=>t.2.1≠u.2.1):=by
  rw[e4] at nd;have nd2:kns.Nodup:=by
   rw[sg] at nd ⊢;rw[oq] at nd;exact nd.imp λh z=>h (by rw[z])
  rw[<- e1,sg,oq] at nd2;exact nd2
 have hits:∀t∈its,t.2.1.length=k+1:=λt ht=>hlen _ (by rw[<- e1];exact List.mem_map_of_mem ht);have tup:∀t∈its,∃(o:gj) (a b:List ac) (n:Nat),s.heap.get? t.1=aa o/\o.cls=.type "tuple" /\ o.data=.seq (a++b).toArray n/\lj a t.2.1:=λt ht=>by
  obtain⟨z,r',⟨o,ho,hc,n,hd'⟩,_⟩:=I.tuple (kX.of (e3 t ht).1);exact⟨o,z,[],n,ho,hc,by rw[dr];exact hd',Aj r'⟩
 have hv:es.toList.map (·.key)=its.map (λt=>Value.ref t.1):=by
  rw[he,mw,<- e2];rfl
 have hl:(its.map λt=>Value.ref t.1).length=its.length:=bt ..;refine A8 (I.ok.hd hc) hsys ⟨⟨o,g,ex,dd⟩⟩ hv (by rw[hl,ln];exact h64) (λh1 tk old two=>He (k:=k) two hits pw0 (λt ht=>?_) (λt ht=>?_)) λh1 tk p' old big pm up=>?_
 ·obtain⟨o,a,b,n,ho,r⟩:=tup t ht;exact⟨o,a,b,n,av _ (old _ _ ho),r⟩
 ·obtain⟨o,a,b,n,ho,r⟩:=tup t ht;exact eu (be (old _ _ ho))
 ·rw[hl] at pm up
  let its':=p'.toList.map λi=>its.getD i (0,[],[])
  have perm:its'.Perm its:=GW pm its rfl _;have ne:∀i j,i<its.length->j<its.length->i≠j->(its.getD i (0,[],[])).2.1≠(its.getD j (0,[],[])).2.1:=λi j hi hj n=>by
   have pw:=gp.mp pw0;have ei:its.getD i (0,[],[])=its[i]:=by simp[hi]
   have ej:its.getD j (0,[],[])=its[j]:=by simp[hj]
   rw[ei,ej];rcases sd n with z | z
   ·exact pw i j hi hj z
   ·exact(pw j i hj hi z).symm
  have pw:its'.Pairwise (λt u=>kI t.2.1 u.2.1=ai):=xG pm up its _ _ λi j hi hj b=>by
   rcases b.2 with z | z
   ·exact z
   ·rcases tG _ _ (ne i j hi hj (eu z)) with y | y
    ·exact y
    ·have b1:kI (its.getD j (0,[],[])).2.1 (its.getD i (0,[],[])).2.1=ao:=b.1;rw[b1] at y;cases y
  have ep:picked (its.map λt=>Value.ref t.1) p'=its'.map λt=>Value.ref t.1:=by
   unfold picked;rw[mw];apply se;intro i hi;have hi':i<its.length:=ng.mp (pm.list.mem_iff.mp hi);simp[hi']
  rw[ep];have mine:(h1.push (mf "list" (its.map λt=>Value.ref t.1).toArray 0)).get? h1.objs.size=aa (mf "list" (its.map λt=>Value.ref t.1).toArray 0):=bq h1 rfl;have rel:∀l:List N9,aY (l.map λt=>V.ref t.1) (l.map λt=>Value.ref t.1):=λl=>by
   induction l with
   |nil=>exact .nil
   |cons t r ih=>exact .cons rfl ih
  have hle:(its'.map λt=>V.ref t.1).length<=bh:=by rw[ii,bt,perm.length_eq];right
  have q':=q (its'.map λt=>(t.1,t.2.1)) (by rw[mw,<- e1];exact perm.map _) (by rw[oq];exact pw) (λt ht=>by
   obtain⟨u,hu,rfl⟩:=ig.mp ht;exact(e3 u (perm.mem_iff.mp hu)).1)
  rw[mw] at q';obtain⟨c,at1⟩:=sortedHeap_at (out:=(its'.map λt=>Value.ref t.1).toArray) mine;have low:∀b o,s.heap.get? b=aa o->b<h1.objs.size:=λb o e=>be (old b o e);have le:s.heap.objs.size<=h1.objs.size:=vx big;exact⟨.ref h1.objs.size,_,I.laid (λb o e=>(Rx (eu (low b o e)) (by rw[size_push'];exact tj (low b o e))).trans (av _ (old b o e))) le (show cB X.prog X.w _ _ _ (.lst _) from⟨hle,_,c,rel its',at1⟩),rfl,q' _ (I.hok.fresh le)⟩
end L2
namespace L2
theorem Cq:MG X (λo i H Q=>∃p xs k v,o=.ref p/\i=.int (k:Nat)/\H p=aa (.lst xs)/\xs[k]?=aa v/\Q v H):=by
 intro pj s σ H o i ov iv Q I ro ri h;obtain⟨p,xs,k,v,rfl,rfl,hp,hv,q⟩:=h;cases ro;obtain⟨t,rfl⟩:=ri;obtain⟨its,r,pl,hz⟩:=I.list (eT.of hp);obtain⟨w,ew,rw'⟩:=r.get hv;have hl:=r.length;have hk:=(bj.mp hv).1;have hn:=lK;exact wpAny_getItem_list pl.isList ⋯ ⋯ (by rw[ca];simpa using ew) ⟨v,H,I,rw',q⟩
structure Words(K:aj)(wa:af)(ys:List bf):Prop where
 at_:∃(o:gj) (vs:List ac) (n:Nat),K.lookup wa=aa o/\o.cls=.type "tuple" /\ o.data=.seq vs.toArray n/\StrsAre vs ys
theorem JQ{wa:af}{ys:List bf}(W:Words X.K wa ys):iA X (cj .In) (λx y H Q=>∃z,x=.str z/\y=.ref wa/\Q (.bl (ys.any (· == z))) H):=by
 intro pj s σ H x y v u Q I rx ry h;obtain⟨z,rfl,rfl,q⟩:=h;obtain⟨t,rfl⟩:=rx;cases ry;obtain⟨o,vs,n,hk,hc,hd,hs⟩:=W.at_;exact in_tuple_strs (items:=vs.toArray) ⟨o,I.kIn wa o hk,hc,n,hd⟩ (by simpa using hs) ⟨.bl _,H,I,rfl,q⟩
noncomputable def G3(r r' r'':R2)(ta tb tc td:TE):TE:=λσ H Q=>ta σ H λx H1=>tb σ H1 λy H2=>r x y H2 λz H3=>∃k,z=.bl k /\
 (if k=ai then tc σ H3 λw' H4=>r' y w' H4 λz' H5=>∃k',z'=.bl k'/\(if k'=ai then td σ H5 λu' H6=>r'' w' u' H6 Q else Q (.bl ao) H5) else Q (.bl ao) H3)
theorem C9{a b c d:Expr}{ta tb tc td:TE}{op op' op'':xb}{r r' r'':R2}(ho:iA X (cj op) r)(ho':iA X (cj op') r')(ho'':iA X (cj op'') r'')(ha:PE X a ta)(hb:PE X b tb)(hc:PE X c tc)(hd:PE X d td)
  (hm:autoParam (uf [op,op',op''] [b,c,d]=ao) IL._auto_1):PE X (.Compare a [op,op',op''] [b,c,d] pos) (G3 r r' r'' ta tb tc td):=by
 intro pj s σ H Q I h;refine Compare_chain (thn (ha pj s σ H _ I h) λv s1 ⟨x,H1,I1,r1,q1⟩=>Rb (thn (hb pj s1 σ H1 _ I1 q1) λu s2 ⟨y,H2,I2,r2,q2⟩=>
  thn (ho pj s2 σ H2 x y v u _ I2 r1 r2 q2) λd1 s3 ⟨z,H3,I3,r3,k,e,q3⟩=>?_)) hm
 subst e;cases r3;refine fc ?_;cases k with
 |false=>exact SB ⟨.bl ao,H3,I3,rfl,q3⟩
 |true=>
  refine SC (Rb (thn (hc pj s3 σ H3 _ I3 q3) λu3 s4 ⟨y4,H4,I4,r4,q4⟩=>thn (ho' pj s4 σ H4 y y4 u u3 _ I4 r2 r4 q4) λd2 s5 zz=>?_));obtain⟨z5,H5,I5,r5,k5,e5,q5⟩:=zz;subst e5;cases r5;refine fc ?_;cases k5 with
  |false=>exact SB ⟨.bl ao,H5,I5,rfl,q5⟩
  |true=>exact SC (chain_last (thn (hd pj s5 σ H5 _ I5 q5) λw6 s6 ⟨z6,H6,I6,r6,q6⟩=>ho'' pj s6 σ H6 y4 z6 u3 w6 Q I6 r4 r6 q6))
end L2
namespace Z
open L2
section
variable {a b c d:Expr}{ta tb tc td:cQ}
noncomputable def Bd(f g h:Int->Int->Bool)(ta tb tc td:cQ):cQ:=λρ Q=>ta ρ λx=>tb ρ λy=>∃i j,x.d=.int i/\y.d=.int j /\
 if f i j=ai then tc ρ λz=>∃k,z.d=.int k/\(if g j k=ai then td ρ λu=>∃l,u.d=.int l/\Q (.v (.bl (h k l))) else Q (.v (.bl ao))) else Q (.v (.bl ao))
theorem Dp{op op' op'':xb}{f g h:Int->Int->Bool}(ho:iA X (cj op) (vN λi j=>.bl (f i j)))(ho':iA X (cj op') (vN λi j=>.bl (g i j)))(ho'':iA X (cj op'') (vN λi j=>.bl (h i j)))(ha:QE X a ta)(hb:QE X b tb)(hc:QE X c tc)(hd:QE X d td)
  (hm:autoParam (uf [op,op',op''] [b,c,d]=ao) IL._auto_1):QE X (.Compare a [op,op',op''] [b,c,d] pos) (Bd f g h ta tb tc td):=by
 refine⟨λρ Q Q' w q=>ha.mono _ _ _ (λx q=>hb.mono _ _ _ (λy q=>?_) q) q,λHZ F=>bX (C9 ho ho' ho'' (ha.run HZ F) (hb.run HZ F) (hc.run HZ F) (hd.run HZ F) hm) λσ H Q ⟨ρ,fr,q⟩=>?_⟩
 ·obtain⟨i,j,e1,e2,q⟩:=q;refine⟨i,j,e1,e2,?_⟩;cases hf:f i j with
  |false=>rw[hf] at q;exact iP (w _ (by simpa using q))
  |true=>
   rw[hf] at q;refine iO (hc.mono _ _ _ (λz q=>?_) (by simpa using q));obtain⟨k,e3,q⟩:=q;refine⟨k,e3,?_⟩;cases hg:g j k with
   |false=>rw[hg] at q;exact iP (w _ (by simpa using q))
   |true=>rw[hg] at q;exact iO (hd.mono _ (λu=>∃l,u.d=Dv.int l/\Q (.v (.bl (h k l)))) _ (λu q=>by obtain⟨l,e4,q⟩:=q;exact⟨l,e4,w _ q⟩) (by simpa using q))
 ·refine ha.step fr q λrx x H1 q1 S1 r1=>?_;refine hb.step (fr.mono S1) q1 λry y H2 q2 S2 r2=>?_;have cx:=(r1.mono S2).c;have cy:=r2.c;obtain⟨i,j,e1,e2,q2⟩:=q2;rw[e1] at cx;rw[e2] at cy;obtain rfl:=cx.int;obtain rfl:=cy.int;have S12:=S1.trans S2;refine⟨_,_,rfl,rfl,f i j,rfl,?_⟩;cases hf:f i j with
  |false=>
   rw[hf] at q2;simp only[dw,if_false] at q2;exact iP (q2 _ H2 S12 (Rep.bl _))
  |true=>
   rw[hf] at q2;refine iO (hc.step ((fr.mono S1).mono S2) (show tc ρ _ by simpa using q2) λrz z H3 q3 S3 r3=>?_);have cz:=r3.c;obtain⟨k,e3,q3⟩:=q3;rw[e3] at cz;obtain rfl:=cz.int;have S13:=S12.trans S3;refine⟨_,_,rfl,rfl,g j k,rfl,?_⟩;cases hg:g j k with
   |false=>
    rw[hg] at q3;simp only[dw,if_false] at q3;exact iP (q3 _ H3 S13 (Rep.bl _))
   |true=>
    rw[hg] at q3;refine iO (hd.step (((fr.mono S1).mono S2).mono S3) (show td ρ _ by simpa using q3) λru u H4 q4 S4 r4=>?_);have cu:=r4.c;obtain⟨l,e4,q4⟩:=q4;rw[e4] at cu;obtain rfl:=cu.int;exact⟨_,_,rfl,rfl,q4 _ H4 (S13.trans S4) (Rep.bl _)⟩
noncomputable def Lx(ys:List bf)(te:cQ):cQ:=λρ Q=>te ρ λr=>∃z,r.d=.str z/\Q (.v (.bl (ys.any (· == z))))
theorem L4{y:bf}{p2:gm}{wa:af}{ys:List bf}(he:QE X e te)(hmy:X.mg y=aa (.ref wa))(W:Words X.K wa ys)(hgy:autoParam (Gl X y) b7._auto_1)(hdy:autoParam ((y==("__debug__" : bf))=ao) hG._auto_1)(hmk:autoParam (lg .In (.Name y p2)=ao) IL._auto_1):
  QE X (.Compare e [.In] [.Name y p2] pos) (Lx ys te):=by
 refine⟨λρ Q Q' w q=>he.mono _ _ _ (λr zq3=>by obtain⟨z,e1,q⟩:=zq3;exact⟨z,e1,w _ q⟩) q,λHZ F=>bX (BL (JQ W) (he.run HZ F) (BK (v:=.ref wa) hgy hmy rfl hdy) hmk) λσ H Q zz=>?_⟩;obtain⟨ρ,fr,q⟩:=zz;refine he.step fr q λr x H1 q S1 r1=>?_;obtain⟨z,e1,q⟩:=q;have cx:=r1.c;rw[e1] at cx;obtain rfl:=cx.str;exact⟨_,rfl,rfl,q _ H1 S1 (Rep.bl _)⟩
noncomputable def B9(i:Nat)(tk te:cQ):bV:=λE ρ=>match ρ[i]? with
 |some (.own a (.lst xs))=>tk ρ λk=>∃(n:Nat) (x:Int),k.d=.int n/\xs[n]?=aa (.int x)/\te ρ λr=>∃y:Int,r.d=.int y/\E.nx (ρ.set i (.own a (.lst (xs.set n (.int (x+y))))))
 |_=>False
theorem Io{x:bf}{p1 p2:gm}{k:Expr}{tk:cQ}(hv:PE X (.Name x p1) (rC i))(hk:QE X k tk)(he:QE X e te)
  (ha:autoParam (∀ov iv new,augStore k ov iv new=(do ku [new,ov,iv] (yd ov iv new);RO [new,ov,iv] [];fo .next)) Pf._auto_1):QS X (.AugAssign (.Subscript (.Name x p1) k p2) .Add e pos) (B9 i tk te):=by
 refine⟨λE E' ρ w h=>?_,λHZ F=>cA (GQ hv (hk.run HZ F) Cq (he.run HZ F) Jl xL ha) λD σ H ⟨ρ,E,fr,h,en⟩=>?_⟩
 ·unfold B9 at *;split at h
  ·exact hk.mono _ _ _ (λkk zq5=>by obtain⟨n,z,e1,e2,q⟩:=zq5;exact⟨n,z,e1,e2,he.mono _ _ _ (λr zq4=>by obtain⟨y,e3,q⟩:=zq4;exact⟨y,e3,w.nx _ q⟩) q⟩) h
  ·exact h
 ·unfold B9 at h;split at h
  ·rename_i a xs hx;obtain⟨hs1,vs,hv1,rv1⟩:=fr.sl i _ hx;refine⟨_,hs1,hk.step fr h λkk z H1 q S1 rk=>?_⟩;obtain⟨n,zz,e1,e2,q⟩:=q;have ck:=rk.c;rw[e1] at ck;obtain rfl:=ck.int;obtain⟨v,hv2,rv2⟩:=rv1.get e2;cases rv2;have h1:=S1 _ _ hv1;refine⟨a,vs,n,_,rfl,rfl,h1,hv2,he.step (fr.mono S1) q λr y H2 q S2 r2=>?_⟩;obtain⟨yy,e3,q⟩:=q;have cy:=r2.c;rw[e3] at cy;obtain rfl:=cy.int;have h2:=S2 _ _ h1;have hn:=(bj.mp e2).1;refine⟨_,_,rfl,rfl,a,vs,n,n,rfl,rfl,h2,?_,?_⟩
   ·unfold qX;rw[rv1.length,SS ⋯,SS ⋯,ca]
   refine en.nx _ _ _ (((fr.mono S1).mono S2).write (d':=.lst (xs.set n (.int (zz+yy)))) hx ⟨_,bC,?_⟩) q;have G:Gen X.K (MM F ρ) (MM F ρ) H2 (upd H2 a (.lst (vs.set n (.int (zz+yy))))):=Gen.write (.inr ⟨_,cq hx⟩) (by rw[h2];trivial);exact(Reps.set (Rep.int _) n ((rv1.mono S1).mono S2)).gen G
  ·exact h.elim
end
end Z
namespace L2
theorem CO(hu:X.A.units+1<ma):iA X (cj .NotIn) (λx y H Q=>∃a o,y=.ref a/\qP H a x o/\Q (.bl (!o.isSome)) H):=by
 intro pj s σ H x y v u Q I rx ry h;obtain⟨a,o,rfl,g,q⟩:=h;cases ry;exact Hb hu I g rx λs' I'=>⟨.bl (!o.isSome),H,I',rfl,q⟩
end L2
namespace Z
open L2
variable {xs:List (bI×V)}{p1:gm}
section
variable {a b c d:Expr}{ta tb tc td:cQ}
noncomputable abbrev KD:=List (bI×Dv)
noncomputable def hasK(kvs:KD)(i:Int):Bool:=kvs.any λkv=>decide (kv.1=bv i)
noncomputable def uR(kvs:KD)(k:bI)(d:Dv):KD:=if kvs.any (λkv=>decide (kv.1=k)) then kvs.map (λkv=>if kv.1=k then (kv.1,d) else kv) else kvs++[(k,d)]
theorem RepK.any{K:aj}{M:af->Prop}{H:Hp}{k:bI}{xs:List (bI×V)}{ds:KD}(r:RepK K M H xs ds):xs.any (λkv=>decide (kv.1=k))=ds.any (λkv=>decide (kv.1=k)):=
 r.ind (P:=λxs ds=>xs.any (λkv=>decide (kv.1=k))=ds.any (λkv=>decide (kv.1=k))) rfl λ_ _ _ _ _ _ _ ih=>by rw[qc,qc,ih]
theorem RepK.put{k:bI}{x:V}{d:Dv}{ds:KD}(r:RepK K M H xs ds)(a:Rep K M H x d):RepK K M H (j0 xs k x) (uR ds k d):=by
 unfold j0 uR;rw[r.any (k:=k)];split
 ·exact r.ind (P:=λxs ds=>RepK K M H (xs.map λkv=>if kv.1=k then (kv.1,x) else kv) (ds.map λkv=>if kv.1=k then (kv.1,d) else kv)) .nil λk' _ _ _ _ b _ ih=>by
   rw[cn,cn];by_cases e:k'=k
   ·rw[SS e,SS e];exact .cons a ih
   ·rw[Sm e,Sm e];exact .cons b ih
 ·exact r.ind (P:=λxs ds=>RepK K M H (xs++[(k,x)]) (ds++[(k,d)])) (.cons a .nil) λ_ _ _ _ _ b _ ih=>.cons b ih
theorem RepK.has{k:bI}{ds:KD}(r:RepK K M H xs ds):(jA xs k).isSome=ds.any λkv=>decide (kv.1=k):=by
 have h:=r.val (k:=k);cases e:ds.find? (λkv=>decide (kv.1=k)) with
 |none=>
  rw[h.2 e,Option.isSome_none];symm;rw[yf];exact xv.mp e
 |some kv=>
  obtain⟨x,hx,_⟩:=h.1 kv e;rw[hx,xt];symm;rw[Qp];exact⟨kv,sv e,by have:=R3 (p:=λkv:bI×Dv=>decide (kv.1=k)) e;exact this⟩
noncomputable def p9:Dv->Dv->(R->Prop)->Prop
 | .int i,.dik kvs,Q=>Q (.v (.bl (!hasK kvs i)))
 |_,_,_=>False
theorem AT(hu:X.A.units+1<ma):tV X (cj .NotIn) p9:=by
 refine⟨λdx dy Q Q' w h=>?_,_,CO hu,λM O H x y dx dy Q cx cy h=>?_⟩
 ·unfold p9 at *;split at h
  ·exact w _ h
  ·exact h
 ·unfold p9 at h;split at h
  ·obtain rfl:=cx.int;obtain⟨a,kvs,rfl,ea,ra⟩:=cy.dik;refine⟨a,_,rfl,qP.k (k:=bv _) ea,?_⟩;rw[ra.has];exact h _ H (aI.refl _) (Rep.bl _)
  ·exact h.elim
noncomputable def Lz(te:cQ):cQ:=λρ Q=>te ρ λr=>∃i,r.d=.int i/\Q (.nw (.dik [(bv i,.non)]))
theorem L6{k:Nat}{p2:gm}(he:QE X e te):QE X (.Dict [aa e] [.Constant .none k p2] pos) (Lz te):=by
 refine⟨λρ Q Q' w q=>he.mono _ _ _ (λr q=>?_) q,λHZ F=>bX (GY (E6 (he.run HZ F) EA GS) rfl rfl (by simp) (by simp)) λσ H Q ⟨ρ,fr,q⟩=>?_⟩
 ·obtain⟨i,e1,q⟩:=q;exact⟨i,e1,w _ q⟩
 ·intro p hp;have S0:aI H (upd H p (.dK [])):=aI.new' hp;refine he.step (fr.mono S0) q λr x H1 q S1 r1=>?_;obtain⟨i,e1,q⟩:=q;have cx:=r1.c;rw[e1] at cx;obtain rfl:=cx.int;refine⟨S1 _ _ bC,[(bv i,.non)],rfl,by simp,q _ _ (λb o e=>?_) ⟨p,rfl,hp,_,bC,.cons .non .nil⟩⟩;by_cases hb:b=p
  ·rw[hb,hp] at e;cases e
  ·rw[aQ hb];exact S1 _ _ (S0 _ _ e)
noncomputable def B8(i:Nat)(tk tv:cQ):bV:=λE ρ=>match ρ[i]? with
 |some (.own a (.dik kvs))=>tv ρ λr=>tk ρ λkk=>∃k:Int,kk.d=.int k/\(r.free=ai/\kvs.length<tW)/\E.nx (ρ.set i (.own a (.dik (uR kvs (bv k) r.d))))
 |_=>False
theorem Ij{x:bf}{p2:gm}{k:Expr}{tk:cQ}(hu:X.A.units+1<ma)(hv:PE X (.Name x p1) (rC i))(hk:QE X k tk)(he:QE X e te)
  (hs:autoParam (eh e (aa (.Subscript (.Name x p1) k p2)) pos.line X.env=fo ao) b7._auto_1):QS X (.Assign [.Subscript (.Name x p1) k p2] e pos) (B8 i tk te):=by
 refine⟨λE E' ρ w h=>?_,λHZ F=>cA (BH hu hv (hk.run HZ F) (he.run HZ F) hs) λD σ H ⟨ρ,E,fr,h,en⟩=>?_⟩
 ·unfold B8 at *;split at h
  ·exact he.mono _ _ _ (λr q=>hk.mono _ _ _ (λkk zq6=>by obtain⟨k,a,b,c⟩:=zq6;exact⟨k,a,b,w.nx _ c⟩) q) h
  ·exact h
 ·unfold B8 at h;split at h
  ·rename_i a kvs hx;refine he.step fr h λr y H1 q S1 r1=>?_;have fr1:=fr.mono S1;obtain⟨hs1,vs,hv1,rv1⟩:=fr1.sl i _ hx;refine⟨_,hs1,hk.step fr1 q λkk z H2 q S2 rk=>?_⟩;obtain⟨ks,ek,⟨qf,ql⟩,q2⟩:=q;have ck:=rk.c;rw[ek] at ck;obtain rfl:=ck.int;have rep:=(r1.rep (λa m=>fr.dom m) qf).mono S2;have hv2:=S2 _ _ hv1;refine⟨a,rfl,zY.k (k:=bv ks) hv2 (by rw[rv1.length];exact qG ql) ?_⟩;refine en.nx _ _ _ ((fr1.mono S2).write (d':=.dik (uR kvs (bv ks) r.d)) hx ⟨_,bC,?_⟩) q2;have G:Gen X.K (MM F ρ) (MM F ρ) H2 (upd H2 a (.dK (j0 vs (bv ks) y))):=Gen.write (.inr ⟨_,cq hx⟩) (by rw[hv2];trivial);exact((rv1.gen (.mono S2)).put rep).gen G
  ·exact h.elim
noncomputable def iL:List Dv->(R->Prop)->Prop
 | [.dit kvs],Q=>∃(kns:List (List Int)) (k:Nat),kvs.map (·.1)=kns.map (λl=>l.map bv)/\kvs.length<64/\(∀l∈kns,l.length=k+1) /\ ∀ls:List (List Int),ls.Perm kns->ls.Pairwise (λt u=>kI t u=ai)->Q (.nw (.lst (ls.map λl=>.tup (l.map .int))))
 |_,_=>False
theorem RepT.keys{xs:List (List bI×V)}{ds:List (List bI×Dv)}(r:RepT K M H xs ds):xs.map (·.1)=ds.map (·.1):=
 r.ind (P:=λxs ds=>xs.map (·.1)=ds.map (·.1)) rfl λ_ _ _ _ _ _ _ ih=>by rw[cn,cn,ih]
theorem Au(hc:X.calm=ai):jY X (.builtin "sorted") iL:=by
 refine⟨λds Q Q' w h=>?_,_,wT hc,λM O H xs ds Q c h=>?_⟩
 ·unfold iL at *;split at h
  ·obtain⟨kns,k,a,b,c,q⟩:=h;exact⟨kns,k,a,b,c,λls x y=>w _ (q ls x y)⟩
  ·exact h
 ·unfold iL at h;split at h
  ·obtain⟨x,rfl,cx⟩:=dC c;obtain⟨a,ep,kvs',rfl,ea,ra⟩:=cx.dit;obtain⟨kns,k,e1,e2,e3,q⟩:=h;refine⟨a,ep,kvs',kns,k,rfl,ea,by rw[ra.keys];exact e1,by rw[ra.len];exact e2,e3,λits' p1 p2 p3 l hl=>?_⟩;refine q (its'.map (·.2)) p1 (by rw[oq];exact p2) _ _ (aI.new' hl) (jF hl ?_);clear q p1 p2;induction its' with
   |nil=>exact .nil
   |cons t r ih=>
    refine .cons (.tup (p3 t (de ..)) (Reps.ints _)) (ih λu hu=>p3 u (cp _ hu))
  ·exact h.elim
end
noncomputable def G9(i j:Nat):bV:=λE ρ=>match ρ[i]? with
 |some (.own a (.lst xs))=>∃ys d,xs=ys++[d]/\E.nx ((ρ.set i (.own a (.lst ys))).set j (.v d))
 |_=>False
theorem Reps.unsnoc{d:Dv}:∀{ys:List Dv} {xs:List V},Reps K M H xs (ys++[d]) -> ∃vs v,xs=vs++[v]/\Reps K M H vs ys/\Rep K M H v d:=by
 intro ys;induction ys with
 |nil=>
  intro xs h;cases h with
  |cons a t=>cases t;exact⟨[],_,rfl,.nil,a⟩
 |cons y ys ih=>
  intro xs h;cases h with
  |cons a t=>
   obtain⟨vs,v,rfl,r1,r2⟩:=ih t;exact⟨_::vs,v,rfl,.cons a r1,r2⟩
theorem L0{j:Nat}{x y:bf}{p2 p3 py:gm}(hv:PE X (.Name x p1) (rC i))(hN:X.N.Nodup)(hj:X.N[j]?=aa y)(hy:xC X.env.scope y)
  (hs:autoParam (eh (.Call (.Attribute (.Name x p1) "pop" p2) [] [] p3) (aa (.Name y py)) pos.line X.env=fo ao) b7._auto_1)
  (T6:autoParam (iw (.Name x p1) "pop" X.env (di (.Name x p1) X.env)=di (.Name x p1) X.env) b7._auto_1) (Td:autoParam ((p2.endLine==p3.line)=ai) b7._auto_1) (hf:autoParam (X.fn y=ai \/ X.env.scope.names.lookup y=aa .local) xA._auto_1):
  QS X (.Assign [.Name y py] (.Call (.Attribute (.Name x p1) "pop" p2) [] [] p3) pos) (G9 i j):=by
 refine⟨λE E' ρ w h=>?_,λHZ F=>cA (vP hN hj hy (JD kn PySem.F.slot_list_pop PySem.F.type_list_pop JV hv T6 Td) hs hf) λD σ H ⟨ρ,E,fr,h,en⟩=>?_⟩
 ·unfold G9 at *;split at h
  ·obtain⟨ys,d,e,q⟩:=h;exact⟨ys,d,e,w.nx _ q⟩
  ·exact h
 ·unfold G9 at h;split at h
  ·rename_i a xs hx;obtain⟨hs1,vs,hv1,rv1⟩:=fr.sl i _ hx;obtain⟨ys,d,rfl,q⟩:=h;obtain⟨ws,v,rfl,r1,r2⟩:=rv1.unsnoc;have G:Gen X.K (MM F ρ) (MM F ρ) H (upd H a (.lst ws)):=Gen.write (.inr ⟨_,cq hx⟩) (by rw[hv1];trivial);have fr1:=fr.write (d':=.lst ys) hx ⟨ws,bC,r1.gen G⟩;refine⟨_,hs1,.inl ⟨rfl,_,eT.of hv1⟩,a,ws++[v],v,rfl,rfl,hv1,by simp,?_⟩;rw[List.dropLast_concat];refine en.nx _ _ _ (fr1.setv ((r2.gen G).weak λb z=>?_)) q;rcases MM.set b z with z | ⟨_,z⟩
   ·exact z
   ·cases z;exact .inr ⟨_,cq hx⟩
  ·exact h.elim
variable {kvs:KD}
theorem KC{i:Int}:(p9 (.int i) (.dik kvs) Q)=(Q (.v (.bl (!hasK kvs i)))):=rfl
theorem JJ{kvs:List (List bI×Dv)}:(iL [.dit kvs] Q)=(∃(kns:List (List Int)) (k:Nat),kvs.map (·.1)=kns.map (λl=>l.map bv)/\kvs.length<64/\(∀l∈kns,l.length=k+1) /\ ∀ls:List (List Int),ls.Perm kns->ls.Pairwise (λt u=>kI t u=ai)->Q (.nw (.lst (ls.map λl=>.tup (l.map .int))))):=rfl
theorem OC:(dA [.dik kvs] Q)=(Q (.v (.int kvs.length))):=rfl
end Z
namespace L2
variable {s2 s0:ah}{cd:ac}{H0:Hp}{E:XK}
section
variable {E':XK}
theorem KQ{e:ac}(I:Inv (bP (fM P w) P w K mg base N SV SU f cd A outer s0 H0 E) pj σ H s)
  (cx:fM P w (bP (fM P w) P w K mg base N SV SU f cd A outer s0 H0 E).stack H s E' e s2) (hE:∀C dd H',E' (.ref C) dd H'->E (.ref C) dd H'):(bP (fM P w) P w K mg base N SV SU f cd A outer s0 H0 E).xe e s2:=by
 obtain⟨a,o0,C,H',B,rfl,os,bare,un,hok,fl,k,na,nH,hE',hc0,hm0⟩:=cx;have nfr:∀b∈frs (bP (fM P w) P w K mg base N SV SU f cd A outer s0 H0 E).stack,H' b=aq:=λb hb=>by
  obtain⟨_,o,q,_⟩:=I.stack.mem hb;exact un.free b o q (I.stkFree b hb) (λz=>nomatch z)
 have I2:Inv (bP (fM P w) P w K mg base N SV SU f cd A outer s0 H0 E) pj σ H' s2:=I.call' os un hok bare (λ_ z=>nomatch z);have mem:∀b,b∈frs (bP (fM P w) P w K mg base N SV SU f cd A outer s0 H0 E).stack->b=(ir SV SU s0.heap.objs.size f cd).locals \/ b∈frs outer:=λb hb=>cr.mp (I.stkSub b hb);have k1:∀b o,s2.heap.get? b=aa o->b ∉ frs outer->(H' b≠aq \/ ∃u,s0.heap.get? b=aa u)->B.get? b=aa o:=λb o q nb hc=>by
  refine k b o q (λhm=>?_) ?_
  ·rcases mem b hm with z | z
   ·rcases hc with hc | ⟨u,hu⟩
    ·exact hc (nfr b hm)
    ·have h1:b<s0.heap.objs.size:=be hu;have h2:s0.heap.objs.size<=b:=by rw[z];exact I.ok.above
     exact absurd (cm h1 h2) (iz _)
   ·exact nb z
  ·rcases hc with hc | ⟨u,hu⟩
   ·exact .inl hc
   ·exact .inr (I.base.there b u hu (λz=>nomatch z))
 refine FH I.ok.frames rfl fl λh' fl' u'=>?_;have sl:∀b∈frs outer,∀o,s2.heap.get? b=aa o -> ∃z,h'.get? b=aa { o with slots:=z }:=λb hb o q=>by
  obtain⟨_,o',q',nf⟩:=I2.funs.mem hb;rw[q] at q';cases q';exact u' b o q nf
 refine⟨a,o0,C,H',B,rfl,os.trans I.os,bare,Un.fly I2.base k1 fl'.st sl,jL.fly (fs:=frs outer) I2.hok (λb hb=>?_) k1 fl'.st,fl',λb o q nb hc=>?_,?_,nH,hE C _ H' hE',hc0,hm0⟩
 ·obtain⟨_,o,q,_⟩:=I.ok.funs.mem hb;exact I2.base.free b o q (I.ok.frf b hb) (λz=>nomatch z)
 ·have:∃o',s2.heap.get? b=aa o':=by
   rcases hc with hc | ⟨u,hu⟩
   ·cases q:H' b with
    |none=>exact(hc q).elim
    |some v=>exact(I2.hok b v q).at
   ·exact I2.base.there b u hu (λz=>nomatch z)
  obtain⟨o',q2⟩:=this;have q3:=k1 b o' q2 nb hc;have q4:=fl'.st b o' q3;rw[q] at q4;cases q4;exact q3
 ·cases q:s0.heap.get? a with
  |none=>rfl
  |some o=>
   obtain⟨o',q'⟩:=I.base.there a o q (λz=>nomatch z);rw[na] at q';cases q'
end
variable {b0:gg}{hb:List gg}{Ts np:gm}{th:TS}{C0 C1:af}
section
variable {s1:ah}{e:ac}{D:Ends}
theorem Hk{c:bf}{SW:List ExceptHandler}(I1:Inv X pj σ H1 s1)(cx:fM X.prog X.w X.stack H1 s1 E e s2)
  (hst:X.stack=X.env::X.outer) (hfr:X.env.frame=aa X.env.locals) (hg:Gl X c) (hm:X.mg c=aa (.ref C1))
  (hx:sh X.K (.ref C0) (.ref C1)=aa ai) (hE:∀C dd H',E (.ref C) dd H'->C=C0 /\ ∀a o,H' a=aq->o.cls=.ref C0->o.dict=dd->iX o->th D σ (upd H' a (.frz o (.own a))))
  (T3:∀a,pP (X.inx a) (b0::hb) th) (hdb:autoParam ((c==("__debug__" : bf))=ao) hG._auto_1):
  bi (bn X.prog X.w) X.A (qx e X.env) (λ_ s3=>bi (bn X.prog X.w) X.A (yz e aq) (λ_ s4=>
   bi (bn X.prog X.w) X.A (handleBy e X.env (.ExceptHandler (aa (.Name c np)) aq (b0::hb) Ts::SW)) (SP X pj D) X.xe s4) X.xe s3) X.xe s2:=by
 obtain⟨a,o0,C,H',B,rfl,os,bare,un,hok,fl,k,na,nH,hE',hc0,hm0⟩:=cx;obtain⟨rfl,go⟩:=hE C _ H' hE';have ff:X.A.frames=aa (X.env::X.outer):=by rw[<- hst];exact I1.ok.frames
 have nfr:∀b∈frs X.stack,H' b=aq:=λb hb=>by
  obtain⟨_,o,q,_⟩:=I1.stack.mem hb;exact un.free b o q (I1.stkFree b hb) (λz=>nomatch z)
 have sl:∀{h:br},s2.heap.UpToSlots h -> ∀b∈frs X.stack,∀o,s2.heap.get? b=aa o -> ∃z,h.get? b=aa { o with slots:=z }:=λ{h} u b hb o e=>by
  obtain⟨_,o1,q,nf⟩:=I1.stack.mem hb;obtain⟨z,q2⟩:=un.slot b o1 q (I1.stkFree b hb) hb (λz=>nomatch z);rw[e] at q2;cases q2;exact u b _ e nf
 have inv:∀h,B.StaysIn h->s2.heap.UpToSlots h->Inv X pj σ H' { s2 with heap:=h }:=λh hB u=>
  I1.call' os (un.fly k hB (sl u)) (jL.fly hok nfr k hB) bare (λ_ z=>nomatch z)
 rw[hst] at fl;refine tL ff hfr fl λh4 hl4 u4=>?_;refine iC hl4 λh5 hl5 u5=>?_;have I5:=inv h5 hl5.st (u4.trans u5);obtain⟨o5,he5,lk5⟩:=hl5.there;have hc5:o5.cls=.ref C:=lk5.cls.trans hc0;have nu:∀b u,H' b=aa u->b≠a:=λb u e z=>by rw[z,nH] at e;cases e
 have invx:∀h oh,B.StaysIn h->s2.heap.UpToSlots h->h.get? a=aa oh->Inv X pj σ (upd H' a (.frz oh (.own a))) { s2 with heap:=h }:=λh oh hB u g=>by
  have un6:=un.fly k hB (sl u);refine I1.call' os (ch:=[]) ⟨un6.keep,un6.slot,λb o e n hx=>?_,un6.there,λb xs e=>?_,λb o u e=>?_,λb ps e=>?_⟩ (λb u' e=>?_) bare (λ_ z=>nomatch z)
  ·rw[aQ (λz=>by rw[z,na] at e;cases e)];exact un6.free b o e n hx
  ·rw[aQ (nu b _ (un6.tups b xs e))];exact un6.tups b xs e
  ·rw[aQ (nu b _ (un6.frzs b o u e))];exact un6.frzs b o u e
  ·obtain⟨m,q⟩:=un6.tbls b ps e;exact⟨m,by rw[aQ (nu b _ q)];exact q⟩
  ·by_cases hb:b=a
   ·subst hb;rw[bC] at e;cases e;exact⟨g,_,g⟩
   ·rw[aQ hb] at e;exact((inv h hB u).hok b u' e).stay (λ_ _ _ q=>q) (λc q=>by rw[aQ (nu c _ q)];exact q) (λc xs q=>by rw[aQ (nu c _ q)];exact q) λc xs q=>by rw[aQ (nu c _ q)];exact q
 have I5x:=(invx h5 o5 hl5.st (u4.trans u5) he5).inx a ⟨o5,_,bC,lk5.mild hm0⟩;refine wx (vo (fX (X:=X.inx a) I5x hg hm ?_ hdb)) (λz=>nomatch z);have LT:SN (bn X.prog X.w) h5 (SF (.ref a)) (.ref C):=hc5 ▸ (SI he5).andThen .now;refine(W.exm_one I5.kIn LT hx).here (va ?_);refine iC hl5 λh6 hl6 u6=>?_;obtain⟨o6,he6,lk6⟩:=hl6.there;have I7:=invx h6 o6 hl6.st ((u4.trans u5).trans u6) he6;refine df (T3 a pj _ _ _ D (I7.inx a ⟨o6,_,bC,lk6.mild hm0⟩) (go a o6 nH (lk6.cls.trans hc0) lk6.dict (lk6.mild hm0))) (λf s8 q=>?_) λ_ _ z=>z.elim;cases f with
 |next=>
  obtain⟨σ',H'',I9,q⟩:=q;exact⟨σ',H'',I9.outx I1.ok,q⟩
 |brk=>
  obtain⟨σ',H'',I9,q⟩:=q;exact⟨σ',H'',I9.outx I1.ok,q⟩
 |cont=>
  obtain⟨σ',H'',I9,q⟩:=q;exact⟨σ',H'',I9.outx I1.ok,q⟩
 |ret u=>
  obtain⟨v,σ',H'',I9,r,q⟩:=q;exact⟨v,σ',H'',I9.outx I1.ok,r,q⟩
end
variable {fd:fv}{sp:Sp}
section
variable {k:Nat}{x:bf}{Tj:gm}{t:TA}
theorem GP{c:bf}{To:List gg}{to:TS}(hno:∀e s,¬X.xe e s)(F:FnOk X.prog X.w X.K X.mg X.base (fM X.prog X.w) k f fd ps sp)(hr:Room k X.A)(hg:Gl X x)
  (hm:X.mg x=aa (.ref f)) (hkp:ic X.K (.ref f)=ai) (hbd:dI X.K fd ps []) (ha:PA X (e::es) t)
  (hst:X.stack=X.env::X.outer) (hfr:X.env.frame=aa X.env.locals) (hgc:Gl X c) (hmc:X.mg c=aa (.ref C1))
  (hx:sh X.K (.ref C0) (.ref C1)=aa ai) (T3:∀a,pP (X.inx a) (b0::hb) th) (hel:pP X To to)
  (hdb:autoParam ((x==("__debug__" : bf))=ao) hG._auto_1) (hdc:autoParam ((c==("__debug__" : bf))=ao) hG._auto_1) (he:autoParam (au (e::es) X.env=(ao,di e X.env)::au es X.env) b7._auto_1) (hpl:autoParam ((dq SX (au es X.env)).any (·.1)=ao) b7._auto_1)
  (hs:autoParam (eh (.Call (.Name x p) (e::es) [] SX) aq Tj.line X.env=fo ao) b7._auto_1):
  PS X (.Try [.Expr (.Call (.Name x p) (e::es) [] SX) Tj] [.ExceptHandler (aa (.Name c np)) aq (b0::hb) Ts] To [] pos)
   (λD σ H=>t σ H λvs H1=>sp vs H1 (λ_ H2=>to D σ H2) (λcv dd H2=>∀C,cv=.ref C->C=C0 /\ ∀a o,H2 a=aq->o.cls=.ref C0->o.dict=dd->iX o->th D σ (upd H2 a (.frz o (.own a))))):=by
 intro pj s σ H D I h;refine zn (mh (vz (fx (fX I hg hm ?_ hdb)) I.quiet hs));refine kx (h₀:=X.base) I.ok.mod.kin hkp (df (ha SX pj s σ H _ I h) (λus s1 z=>?_) λe s z=>(hno e s z).elim) he hpl;obtain⟨vs,H1,I1,r,q⟩:=z;refine⟨I1.kIn,?_⟩;have hl:us.length=ps.length:=by rw[<- r.length];exact F.len _ _ _ _ q
 have hb1:=hbd s1 us I1.kIn (by rw[dr];exact hl);rw[dr] at hb1;refine my (gt (F.run X.A X.stack s1 H1 ⟨us,[]⟩ us vs _ _ hr I1.env0 hb1 r q) λr s2 hq=>?_);cases r with
 |error e=>
  dsimp only[CR] at hq;exact Hk I1 hq hst hfr hgc hmc hx (λC dd H' z=>z C rfl) T3 hdc
 |ok fl=>
  cases fl with
  |ret u=>
   obtain⟨v,H2,I2,_,q2⟩:=I1.after hq;exact jl (hel pj s2 σ H2 D I2 q2)
  |next=>exact cb hq
  |brk=>exact cb hq
  |cont=>exact cb hq
end
section
variable {fa:af}{E0:XK}
variable {k:Nat}{x:bf}{t:TA}
theorem E5{y:bf}{j:Nat}{yp:gm}(F:FnOk P w K mg base (fM P w) k f fd ps sp)(hr:Room k (bP (fM P w) P w K mg base N SV SU fa cd A outer s0 H0 E0).A)(hg:Gl (bP (fM P w) P w K mg base N SV SU fa cd A outer s0 H0 E0) x)
  (hm:mg x=aa (.ref f)) (hkp:ic K (.ref f)=ai) (hbd:dI K fd ps []) (ha:PA (bP (fM P w) P w K mg base N SV SU fa cd A outer s0 H0 E0) (e::es) t)
  (hN:N.Nodup) (hj:N[j]?=aa y) (hy:xC (bP (fM P w) P w K mg base N SV SU fa cd A outer s0 H0 E0).env.scope y)
  (hdb:autoParam ((x==("__debug__" : bf))=ao) hG._auto_1) (he:autoParam (au (e::es) (bP (fM P w) P w K mg base N SV SU fa cd A outer s0 H0 E0).env=(ao,di e (bP (fM P w) P w K mg base N SV SU fa cd A outer s0 H0 E0).env)::au es (bP (fM P w) P w K mg base N SV SU fa cd A outer s0 H0 E0).env) b7._auto_1) (hpl:autoParam ((dq SX (au es (bP (fM P w) P w K mg base N SV SU fa cd A outer s0 H0 E0).env)).any (·.1)=ao) b7._auto_1)
  (hs:autoParam (eh (.Call (.Name x p) (e::es) [] SX) (aa (.Name y yp)) pos.line (bP (fM P w) P w K mg base N SV SU fa cd A outer s0 H0 E0).env=fo ao) b7._auto_1) (hf:autoParam ((bP (fM P w) P w K mg base N SV SU fa cd A outer s0 H0 E0).fn y=ai \/ (bP (fM P w) P w K mg base N SV SU fa cd A outer s0 H0 E0).env.scope.names.lookup y=aa .local) xA._auto_1):
  PS (bP (fM P w) P w K mg base N SV SU fa cd A outer s0 H0 E0) (.Assign [.Name y yp] (.Call (.Name x p) (e::es) [] SX) pos)
   (λD σ H=>t σ H λvs H1=>sp vs H1 (λv H2=>D.nx (σ.set j (aa v)) H2) (λcv dd H2=>∀C,cv=.ref C->E0 (.ref C) dd H2)):=by
 intro pj s σ H D I h;refine sx (fx (fX I hg hm ?_ hdb)) hs;refine kx (h₀:=base) I.ok.mod.kin hkp (df (ha SX pj s σ H _ I h) (λus s1 z=>?_) λe s z=>z) he hpl;obtain⟨vs,H1,I1,r,q⟩:=z;refine⟨I1.kIn,?_⟩;have hl:us.length=ps.length:=by rw[<- r.length];exact F.len _ _ _ _ q
 have hb1:=hbd s1 us I1.kIn (by rw[dr];exact hl);rw[dr] at hb1;refine my (gt (F.run (bP (fM P w) P w K mg base N SV SU fa cd A outer s0 H0 E0).A (bP (fM P w) P w K mg base N SV SU fa cd A outer s0 H0 E0).stack s1 H1 ⟨us,[]⟩ us vs _ _ hr I1.env0 hb1 r q) λr s2 hq=>?_);cases r with
 |error e=>
  dsimp only[CR] at hq;exact KQ I1 hq λC dd H' z=>z C rfl
 |ok fl=>
  cases fl with
  |ret u=>
   obtain⟨v,H2,I2,r2,q2⟩:=I1.after hq;exact lE I2 hN hj hy r2 (λs3 I3=>⟨_,H2,I3,q2⟩) hf
  |next=>exact cb hq
  |brk=>exact cb hq
  |cont=>exact cb hq
end
end L2
namespace Z
open L2
variable {np:gm}{y:bf}{tb:bV}
section
variable {cd:ac}{s0:ah}{H0:Hp}{E:XK}{Ψ:rN->Prop}
theorem DJ{x:bf}(hS:∀H',aI HZ H'->aI H0 H')(hh:(A.deeper (ir SV SU s0.heap.objs.size f cd)).handled=aq)(hE:∀C p dd H',Ψ (C,p)->aI H0 H'->lV H' p dd->E (.ref C) dd H')
  (hm:mg x=aa (.ref C)) (q:uL K C) (hg:Gl (bP (fM P w) P w K mg base N SV SU f cd A outer s0 H0 E) x) (ha:QA (bP (fM P w) P w K mg base N SV SU f cd A outer s0 H0 E) (e::es) ts)
  (hdb:autoParam ((x==("__debug__" : bf))=ao) hG._auto_1) (he:autoParam (au (e::es) (bP (fM P w) P w K mg base N SV SU f cd A outer s0 H0 E).env=(ao,di e (bP (fM P w) P w K mg base N SV SU f cd A outer s0 H0 E).env)::au es (bP (fM P w) P w K mg base N SV SU f cd A outer s0 H0 E).env) b7._auto_1)
  (hpl:autoParam ((dq SX (au es (bP (fM P w) P w K mg base N SV SU f cd A outer s0 H0 E).env)).any (·.1)=ao) b7._auto_1):
  QxS (bP (fM P w) P w K mg base N SV SU f cd A outer s0 H0 E) HZ F (.Raise (aa (.Call (.Name x np) (e::es) [] SX)) aq pos) (vK Ψ C ts):=by
 refine⟨λE E' ρ w h=>h,cA (Dy (X:=bP (fM P w) P w K mg base N SV SU f cd A outer s0 H0 E) (Ψ:=λH1=>E (.ref C) aq H1) hh hm hg q (ha.run HZ F) (λpj σ H s h' a us I m p=>Fx I m p) hdb he hpl) λD σ H z=>?_⟩;obtain⟨ρ,E',fr,h,en⟩:=z;refine ha.step fr h λrs xs H1 q1 S1 r1=>⟨?_,hE C aq aq H1 q1.2 (hS _ (fr.same.trans S1)) trivial⟩;rw[r1.len];exact jo q1.1 ∅
noncomputable def sR(j:Nat)(sp:n4)(ts:iY)(Ψ:rN->Prop):bV:=λE ρ=>ts ρ λrs=>sp (rs.map R.d) (back rs λr=>match r with
 | .v d=>E.nx (ρ.set j (.v d))
 | .nw d=>E.nx (ρ.set j (.v d))
 | .ow _ _=>False) Ψ
theorem B2{k:Nat}{sp:n4}{x:bf}{j:Nat}{yp:gm}(hS:∀H',aI HZ H'->aI H0 H')(hE:∀C p dd H',Ψ (C,p)->aI H0 H'->lV H' p dd->E (.ref C) dd H')
  (d:DefX P w K mg base k x ps (lowX K sp)) (mo:MonoX sp) (hr:Room k (bP (fM P w) P w K mg base N SV SU f cd A outer s0 H0 E).A) (ha:QA (bP (fM P w) P w K mg base N SV SU f cd A outer s0 H0 E) (e::es) ts)
  (hN:N.Nodup) (hj:autoParam (N[j]?=aa y) b7._auto_1) (hy:autoParam (xC (bP (fM P w) P w K mg base N SV SU f cd A outer s0 H0 E).env.scope y) KP._auto_1) (hg:autoParam (Gl (bP (fM P w) P w K mg base N SV SU f cd A outer s0 H0 E) x) b7._auto_1)
  (hdb:autoParam ((x==("__debug__" : bf))=ao) hG._auto_1) (he:autoParam (au (e::es) (bP (fM P w) P w K mg base N SV SU f cd A outer s0 H0 E).env=(ao,di e (bP (fM P w) P w K mg base N SV SU f cd A outer s0 H0 E).env)::au es (bP (fM P w) P w K mg base N SV SU f cd A outer s0 H0 E).env) b7._auto_1) (hpl:autoParam ((dq SX (au es (bP (fM P w) P w K mg base N SV SU f cd A outer s0 H0 E).env)).any (·.1)=ao) b7._auto_1)
  (hs:autoParam (eh (.Call (.Name x p) (e::es) [] SX) (aa (.Name y yp)) pos.line (bP (fM P w) P w K mg base N SV SU f cd A outer s0 H0 E).env=fo ao) b7._auto_1) (hf:autoParam ((bP (fM P w) P w K mg base N SV SU f cd A outer s0 H0 E).fn y=ai \/ (bP (fM P w) P w K mg base N SV SU f cd A outer s0 H0 E).env.scope.names.lookup y=aa .local) xA._auto_1):
  QxS (bP (fM P w) P w K mg base N SV SU f cd A outer s0 H0 E) HZ F (.Assign [.Name y yp] (.Call (.Name x p) (e::es) [] SX) pos) (sR j sp ts Ψ):=by
 obtain⟨fa,fd,hm,hkp,hbd,FO⟩:=d.ex;refine⟨λE1 E2 ρ w1 h=>ha.mono _ _ _ (λrs q=>mo.mo _ _ _ _ _ (λr q=>⟨q.1,?_⟩) (λC q=>q) q) h,cA (E5 FO hr hg hm hkp hbd (ha.run HZ F) hN hj hy hdb he hpl hs hf) λD σ H z=>?_⟩
 ·cases r with
  |v d=>exact w1.nx _ q.2
  |nw d=>exact w1.nx _ q.2
  |ow a d=>exact q.2
 ·obtain⟨ρ,E',fr,h,en⟩:=z;refine ha.step fr h λrs xs H1 q S1 r1=>?_;have fr1:=fr.mono S1;refine⟨lent (MM F ρ) rs,_,Ψ,⟨λa z=>fr1.dom z.1,fr1.tab⟩,gG fr (λ_ h=>h) r1,mo.mo _ _ _ _ _ (λr q x H' S rx=>?_) (λC q=>q) q,λC p dd H2 q S2 py C' ec=>?_⟩
  ·have b:d5 K (MM F ρ) (Z.uK ρ) H x r H':=mG fr S1 rx q.1;have fr2:=fr1.mono S;cases r with
   |v d=>exact en.nx _ _ _ (fr2.setv b) q.2
   |nw d=>exact en.nx _ _ _ (fr2.setv (b.rep (λa m=>fr.dom m) rfl)) q.2
   |ow a d=>exact q.2.elim
  ·cases ec;exact hE C p dd H2 q (hS _ ((fr.same.trans S1).trans S2)) py
theorem KS{iter:Expr}{ti:sB}{g:vD}{k:Nat}(hS:∀H',aI HZ H'->aI H0 H')(hi:QI (bP (fM P w) P w K mg base N SV SU f cd A outer s0 H0 E) tg iter ti)(hg:QG (bP (fM P w) P w K mg base N SV SU f cd A outer s0 H0 E) tg k g)
  (hb:∀H₁:Hp,(∀H',aI H₁ H'->aI H0 H')->QxB (bP (fM P w) P w K mg base N SV SU f cd A outer s0 H0 E) H₁ F T1 tb) (hs:autoParam (∀x,fe iter (bP (fM P w) P w K mg base N SV SU f cd A outer s0 H0 E).env x=fo x) B1._auto_1):
  QxS (bP (fM P w) P w K mg base N SV SU f cd A outer s0 H0 E) HZ F (.For tg iter T1 [] pos) (fK ti g tb):=by
 have mb:=(hb HZ hS).mono;refine⟨λE E' ρ w h=>hi.mono _ _ _ (λds ogs h=>iQ hg.mono mb ogs ds E E' ρ w h) h,?_⟩;obtain⟨wi,hwi,wiq⟩:=hi.run HZ F;obtain⟨tt,htt,ttq⟩:=hg.run;have hb':pP (bP (fM P w) P w K mg base N SV SU f cd A outer s0 H0 E) T1 (λD σ H=>∃P',(∀H',aI P' H'->aI H0 H')/\liftS K P' F tb D σ H):=λpj s σ H D I zq0=>by obtain⟨P',h1,q⟩:=zq0;exact(hb P' h1).run pj s σ H D I q
 refine cA (AG lr rfl hwi htt hb' hs) λD σ H z=>?_;obtain⟨ρ,E',fr,h,en⟩:=z;refine wiq σ H ρ _ fr (hi.mono _ _ _ (λds ogs q J H2 S2 _ ok=>?_) h);have fr2:=fr.mono S2;have en2:Ent K (prot H2 ρ) F E' D:=en.prot fr2;refine⟨λi m σ' H'=>m=ds.length-i/\i<=ds.length /\ ∃ρ',Fr K (prot H2 ρ) F σ' H' ρ'/\aT g tb ogs (ds.drop i) E' ρ',⟨ds.length,by simp,mj _,ρ,fr2.prot,by simpa using q⟩,?_⟩;rintro i m σ' H' ⟨rfl,hil,ρ',fr',q'⟩;have gd:guard ogs ρ':=lM q';have Gn:=fr2.gen fr';have oks:=ok i H' (MM F ρ') fr'.same Gn λp hp=>let ⟨_,_,_,h⟩:=fr'.at_own (gd p hp);h;by_cases hlt:i<ds.length
 ·have hd:ds[i]?=aa ds[i]:=by simp[hlt]
  have hdr:ds.drop i=ds[i]::ds.drop (i+1):=ik hlt;rw[hdr,aS] at q';obtain⟨go,yld⟩:=oks.1 _ hd;refine .inr ⟨go,λσ2 H2'=>∃ρ2,Fr K (prot H2 ρ) F σ2 H2' ρ2/\aT g tb ogs (ds.drop (i+1)) E' ρ2,λσ2 H2' zq1=>by obtain⟨ρ2,f2',q2⟩:=zq1;exact⟨ds.length-(i+1),⋯,rfl,hlt,ρ2,f2',q2⟩,λy H3 hy=>?_⟩;obtain⟨S3,ry⟩:=yld y H3 hy;refine ttq _ F y _ σ' H3 ρ' _ (fr'.mono S3) ry (hg.mono _ _ _ _ (λρ1 q1 σ1 f1 _=>?_) q'.2);exact⟨prot H2 ρ,λH' S=>hS _ (fr2.same_of S),ρ1,_,f1,q1,λρ3 σ3 H3' f3 q3=>⟨ρ3,f3,q3⟩,en2.nx,λρ3 σ3 H3' f3 q3=>⟨ρ3,f3,q3⟩,en2.rt⟩
 ·have e:i=ds.length:=⋯;subst e;rw[tm,bE] at q';exact .inl ⟨oks.2 (bo _),en2.nx _ _ _ fr' q'.2⟩
end
noncomputable def Hv(C0:af)(sp:n4)(ts:iY)(th to:bV):bV:=λE ρ=>ts ρ λrs=>sp (rs.map R.d) (λ_=>to E ρ) (λx=>x.1=C0/\th E ρ)
section
variable {k:Nat}{sp:n4}{x:bf}{Tj:gm}
theorem Ih{c:bf}{b0:gg}{hb To:List gg}{Ts:gm}{th to:bV}{C0 C1:af}(hno:∀e s,¬X.xe e s)(d:DefX X.prog X.w X.K X.mg X.base k x ps (lowX X.K sp))(mo:MonoX sp)(hr:Room k X.A)(ha:QA X (e::es) ts)
  (hmc:X.mg c=aa (.ref C1)) (hx:sh X.K (.ref C0) (.ref C1)=aa ai) (T3:∀a,QSs (X.inx a) (b0::hb) th) (hel:QSs X To to)
  (hst:autoParam (X.stack=X.env::X.outer) b7._auto_1) (hfr:autoParam (X.env.frame=aa X.env.locals) b7._auto_1) (hg:autoParam (Gl X x) b7._auto_1) (hgc:autoParam (Gl X c) b7._auto_1)
  (hdb:autoParam ((x==("__debug__" : bf))=ao) hG._auto_1) (hdc:autoParam ((c==("__debug__" : bf))=ao) hG._auto_1) (he:autoParam (au (e::es) X.env=(ao,di e X.env)::au es X.env) b7._auto_1) (hpl:autoParam ((dq SX (au es X.env)).any (·.1)=ao) b7._auto_1)
  (hs:autoParam (eh (.Call (.Name x p) (e::es) [] SX) aq Tj.line X.env=fo ao) b7._auto_1):
  QS X (.Try [.Expr (.Call (.Name x p) (e::es) [] SX) Tj] [.ExceptHandler (aa (.Name c np)) aq (b0::hb) Ts] To [] pos) (Hv C0 sp ts th to):=by
 obtain⟨f,fd,hm,hkp,hbd,FO⟩:=d.ex;refine⟨λE E' ρ w h=>ha.mono _ _ _ (λrs q=>mo.mo _ _ _ _ _ (λ_ q=>hel.mono _ _ _ w q) (λC q=>⟨q.1,(T3 0).mono _ _ _ w q.2⟩) q) h,λHZ F=>cA (GP (th:=liftS X.K HZ F th) (to:=liftS X.K HZ F to) hno FO hr hg hm hkp hbd (ha.run HZ F) hst hfr hgc hmc hx (λa=>(T3 a).run HZ F) (hel.run HZ F) hdb hdc he hpl hs) λD σ H z=>?_⟩;obtain⟨ρ,E,fr,h,en⟩:=z;refine ha.step fr h λrs xs H1 q S1 r1=>?_;have fr1:=fr.mono S1;refine⟨lent (MM F ρ) rs,_,λx=>x.1=C0/\th E ρ,⟨λa z=>fr1.dom z.1,fr1.tab⟩,gG fr (λ_ h=>h) r1,mo.mo _ _ _ _ _ (λr q x H' S rx=>?_) (λC q=>q) q,λC p dd H2 q S2 py=>?_⟩
 ·exact⟨ρ,E,fr1.mono S,q,en⟩
 ·intro C' ec;cases ec;exact⟨q.1,λa o hn hc _ _=>⟨ρ,E,(fr1.mono S2).mono (aI.new' hn),q.2,en⟩⟩
end
section
variable {M':af->Prop}
end
section
variable {k:Nat}{f:bf}{e1 e2 z c:Expr}{tt:jZ}{tr:bV}{te2:cQ}{SW:List gg}{T7 SZ ipos q1 q2 q3 q4 q5 r1 r3 r4 r5:gm}
end
theorem DefX.calm{k:Nat}{x:bf}{sp:n4}(d:DefX P w K mg base k x ps (lowX K sp)):Def P w K mg base k x ps (low K λds Q=>sp ds Q λ_=>False):=by
 obtain⟨f,fd,hm,hk,hb,FO⟩:=d.ex;refine⟨f,fd,hm,hk,hb,λvs H Q E q=>?_,λA outer s H args us vs Q E hr he hbd hv q=>?_⟩
 ·obtain⟨F,ds,hF,r,q⟩:=q;exact FO.len vs H Q (λ_ _ _=>False) ⟨F,ds,λ_=>False,hF,r,q,λ_ _ _ _ z=>z.elim⟩
 ·obtain⟨F,ds,hF,r,q⟩:=q;refine gt (FO.run A outer s H args us vs Q (λ_ _ _=>False) hr he hbd hv ⟨F,ds,λ_=>False,hF,r,q,λ_ _ _ _ z=>z.elim⟩) λrr s' hq=>?_;cases rr with
  |ok o=>cases o<;>exact hq
  |error e=>
   obtain⟨_,_,_,_,_,_,_,_,_,_,_,_,_,_,z,_⟩:=hq;exact z.elim
theorem DefH.calm{k:Nat}{x:bf}{sp:Sp}(d:DefH P w K mg base k x ps sp):Def P w K mg base k x ps sp:=by
 obtain⟨f,fd,hm,hk,hb,FO⟩:=d.ex;exact⟨f,fd,hm,hk,hb,FO.len,λA outer s H args us vs Q E hr he hbd hv q=>FO.run A outer s H args us vs Q E ⟨rfl,hr.dp,hr.un⟩ (.inl hr.hd) he hbd hv q⟩
theorem MonoX.calm{sp:n4}(m:MonoX sp):MonoF λds Q=>sp ds Q λ_=>False:=⟨λds Q Q' w h=>m.mo ds Q Q' _ _ w (λ_ z=>z) h⟩
end Z
namespace L2
section
variable {fa:af}{cd:ac}{s0:ah}{H0:Hp}{E0:XK}
variable {k:Nat}{fd:fv}{sp:Sp}{x:bf}{t:TA}
end
end L2
namespace Z
open L2
section
variable {o:Expr}{to:cQ}{SZ:gm}
end
section
variable {cd:ac}{s0:ah}{H0:Hp}{E:XK}{Ψ:rN->Prop}
end
end Z
namespace L2
variable {Q:Flow->ah->Prop}{np:gm}
section
variable {env:ox}
theorem AF{o:gj}{us:Array ac}{Q:α->ah->Prop}(q:Qu A s.heap)(g:s.heap.get? a=aa o)(d:o.data=.fields us)(hz:2<us.size)(hm:∀v,A.handled=aa v->v ≠ .ref a)
  (h:∀h' o' vs,(∀b u,b≠a->s.heap.get? b=aa u->h'.get? b=aa u)->h'.get? a=aa o'->o'.cls=o.cls->o'.dict=o.dict->o'.data=.fields vs->vs[1]?=us[1]?->(A.handled=aq->vs[2]?=us[2]?)->E (.ref a) { s with heap:=h' }):bi (bn prog w) A (xz (α:=α) (.ref a)) Q E s:=by
 simp only[xz];refine ae (wpAny_handled ?_);rcases q with q | ⟨b,ob,q,gb,mb⟩
 ·rw[q];exact ae (az (vt (h s.heap o us (λ_ _ _ z=>z) g rfl rfl d rfl λ_=>rfl)))
 ·rw[q];have ne:b≠a:=λz=>hm _ q (by rw[z]);dsimp only;rw[SS (show (Value.ref b != Value.ref a)=ai by simpa using ne)];refine ae (gf (oG gb mb (ae ?_)));unfold updateField;refine ae (xl g ?_);rw[d];dsimp only;rw[SS hz];refine wpAny_update g (vt (h _ (iu (·.setIfInBounds 2 (.ref b)) o) _ (λc u hc z=>(bx _ _ (fm hc)).trans z) (gz _ g (jf (zJ d))) (nn ..) ?_ (zJ d) ?_ λz=>by rw[q] at z;cases z))
  ·obtain⟨c0,d0,a0,s0⟩:=o;cases d;rfl
  ·rw[ou ∅]
structure MadeH(hd:Option ac)(h h':br)(a C:af):Prop where
 keeps:∀b o,h.get? b=aa o->h'.get? b=aa o
 new:h.get? a=aq
 there:∃o us,h'.get? a=aa o/\o.cls=.ref C/\o.dict=aq/\o.data=.fields us/\us[1]?=aa .none/\(hd=aq->us[2]?=aa .none)
section
variable {nm q:bf}{N:af}{bs bm bmB:List ac}{hdct:Bool}{sn:List bf}{sub:List ac}{ab:Bool}{col:Option Bool}{dd:Option af}{k0 k1 k2 k3 k5:Option ac}{B newId initId:String}
theorem xR{x:R5 ac}(T6:bm.contains (.type "BaseException")=ai)
  (h:bi (bn prog w) A x (λv s₁=>∃e t,v=.ref e/\s₁.heap.get? C=aa (Qo nm q C N bs bm hdct sn sub ab col dd k0 k1 k2 k3 k5 newId)/\Qu A s₁.heap/\(∀v,A.handled=aa v->v ≠ .ref e) /\
   s₁.heap.get? e=aa { cls:=.ref C,data:=.fields #[.ref t,.none,.none,.none,.bool ao,.none] } /\
   ∀h' o' vs,(∀b u,b≠e->s₁.heap.get? b=aa u->h'.get? b=aa u)->h'.get? e=aa o'->o'.cls=.ref C->o'.dict=aq->o'.data=.fields vs->vs[1]?=aa .none->(A.handled=aq->vs[2]?=aa .none)->E (.ref e) { s₁ with heap:=h' }) E s):
  bi (bn prog w) A (raiseStmt env (aa x) aq) Q E s:=by
 have hcB:(Value.ref C::bm).contains (.type "BaseException")=ai:=by rw[List.contains_cons,Bool.or_eq_true];exact .inr T6
 unfold raiseStmt;refine ae (df h (λv s₁ z=>?_) λ_ _ z=>z);obtain⟨e,t,rfl,hC,qu,hm,he,hE⟩:=z;obtain⟨hp,g,d,tk,os⟩:=s₁
 repeat (first | (with_reducible refine wpAny_isSubtype_exc hC ?_;rw[hcB]) | with_reducible refine yv he ?_ | with_reducible refine yv hC ?_ | wp_step)
 exact AF qu he rfl (vp rfl) hm λh' o' vs k g' c dd' dt v1 v2=>hE h' o' vs k g' c dd' dt v1 v2
theorem xS(F:ExcBaseFacts B newId initId bmB){mN:bf->Option ac}{x:bf}{args:List Expr}
  (T6:bm.contains (.type "BaseException")=ai) (Tc:(dq SX (au args env)).any (·.1)=ao) (hni:mN "__init__" = aq)
  (h:bi (bn prog w) A (di (.Name x np) env) (λf s₁=>f=.ref C/\bi (bn prog w) A (evalArgs (.ref C) ai (dq SX (au args env)) [])
   (λa s₂=>a.kw=[]/\a.pos.length<=bh/\s₂.heap.get? C=aa (Qo nm q C N bs bm hdct sn sub ab col dd k0 k1 k2 k3 k5 newId)/\s₂.heap.Ns N mN/\OwnTail s₂.heap bmB bm/\Qu A s₂.heap /\
    ∀h' e,MadeH A.handled s₂.heap h' e C->E (.ref e) { s₂ with heap:=h' }) E s₁) E s):
  bi (bn prog w) A (exec (.Raise (aa (.Call (.Name x np) args [] SX)) aq pos) env) Q E s:=by
 rw[arm_exec_Raise];simp only[evalOpt,Option.map];refine ae (mq (xR (C:=C) (nm:=nm) (q:=q) (N:=N) (bs:=bs) (bm:=bm) (hdct:=hdct) (sn:=sn) (sub:=sub) (ab:=ab) (col:=col) (dd:=dd) (k0:=k0) (k1:=k1) (k2:=k2) (k3:=k3) (k5:=k5) (newId:=newId) T6 ?_));refine ae (df (wpAny_Call_ofName (df h (λf s₁ z=>?_) λ_ _ z=>z)) (λv s₃ z=>ae (mq (az z))) λ_ _ z=>z);obtain⟨rfl,z⟩:=z;unfold ug;refine ae (gf (df z (λa s₂ z2=>ae (mq ?_)) λ_ _ z=>z));obtain⟨ap,ak⟩:=a;obtain⟨hk,hl,hC,hn,T,qu,go⟩:=z2;obtain rfl:ak=[]:=hk;obtain⟨hp,g,d,tk,os⟩:=s₂;simp only[Tc];refine ae (wpAny_keeperOf_exc hC (ae (wpAny_call_exc_subT (hrest:=hl) F T hC hn hni λh1 e hm=>ae (gf (wpAny_point (az ?_))))));obtain⟨t,ht,_,_⟩:=hm.there;refine⟨e,t,rfl,hm.keeps _ _ hC,qu.keeps λb o _ z=>hm.keeps b o z,λv hv z=>?_,ht,λh' o' vs k g' c dd' dt v1 v2=>go h' e ⟨λb o z=>k b o (λq=>?_) (hm.keeps b o z),hm.new,o',vs,g',c,dd',dt,v1,v2⟩⟩
 ·subst z;rcases qu with q | ⟨b,ob,q,gb,_⟩
  ·rw[q] at hv;cases hv
  ·rw[q] at hv;cases hv;have:=hm.new;rw[gb] at this;cases this
 ·subst q;have:=hm.new;rw[z] at this;cases this
end
end
structure FnOkG(P:ay)(w:bg)(K:aj)(mg:bf->Option ac)(base:br)(CX:Option ac->A0)(k:Nat)(f:af)(fd:fv)(ps:List bf)(sp:Sp):Prop where
 len:∀vs H Q E,sp vs H Q E->vs.length=ps.length
 run:∀(A:bu) (outer:List ox) (s:ah) (H:Hp) (args:Args) (us:List ac) (vs:List V) (Q:VK) (E:XK),Room k (cR A)->KA A H->Env0 P w K mg base A outer s H->uq s fd args (ps.zip us)->aY vs us->sp vs H Q E ->
  qv (bn P w) A (.call (.ref f) args) (CR (CX A.handled) outer P w H s Q E) s
noncomputable abbrev g6(CX:Option ac->A0)(P:ay)(w:bg)(K:aj)(mg:bf->Option ac)(base:br)(N:List bf)(SV:bf)(SU:Scope)(f:af)(cd:ac)(A:bu)(outer:List ox)(s:ah)(H:Hp)(E:XK):Cx:=
 { bP (CX A.handled) P w K mg base N SV SU f cd A outer s H E with calm:=ao }
variable {sp:Sp}
theorem Jq{CX:Option ac->A0}{k:Nat}{name:bf}{T8:zg}{dV kV doc pm cdv ct oc:ac}{an od:Option af}
  {osl:Array (Option ac)}   (lk:K.lookup f=aa ⟨oc,od,.func (oa name SV T8 T1 SU dV kV doc pm an cdv ct),osl⟩) (hcd:rh K cdv SV=ai) (S:FnScope N ps SU)
  (len:∀vs H Q E,sp vs H Q E->vs.length=ps.length)
  (T3:∀(A:bu) (outer:List ox) (s:ah) (H:Hp) (vs:List V) (Q:VK) (E:XK),Room k (cR (A.deeper (ir SV SU s.heap.objs.size f cdv)))->sp vs H Q E ->
   ∃t,pP (g6 CX P w K mg base N SV SU f cdv A outer s H E) T1 t/\t { nx:=λ_ H'=>Q .non H',rt:=Q } (start N vs) H):
  FnOkG P w K mg base CX (k+1) f (oa name SV T8 T1 SU dV kV doc pm an cdv ct) ps sp:=by
 refine⟨len,λA outer s H args us vs Q E hr hdk e0 hb r hsp=>?_⟩;have hl:=len _ _ _ _ hsp;have KX:K.In s.heap:=e0.mod.kin.keeps λb o e=>(e0.bs b o e).1;have lim:s.heap.NoLimit:=e0.mod.nolimit.keeps λb o e=>(e0.bs b o e).1;have T0:∀y∈ps.zip us,SU.names.lookup y.1=aa .local \/ (SU.names.lookup y.1=aa .cell/\((wn (s.heap.objs.size+1) SU.names []).lookup y.1).isSome=ai):=λ⟨n,v⟩ hy=>by
  rcases S.par n (ut hy).1 with q | q
  ·exact .inl q
  ·exact .inr ⟨q,pf _ _ _ (.inl q)⟩
 refine oy (show A.depth<rg from hr.depth) (KX _ _ lk) rfl S.co S.gen rfl (yi KX hcd) (hb _ _ _ _ ?_);refine md S.kind T0 λenv he s1 x=>?_;subst he;refine⟨lim.keeps x.toInCall.keep,yj ?_⟩;obtain⟨t,ht,hq⟩:=T3 A outer s H vs Q E (hr.deeper _) hsp;have e1:Env0 P w K mg base (cR A) outer s H:=⟨e0.frames,e0.mod,e0.bs,e0.bsz,e0.funs,e0.frf,e0.hok,e0.bare⟩;have I0:Inv (bP (CX A.handled) P w K mg base N SV SU f cdv (cR A) outer s H E) [] (start N vs) H s1:=qI S rfl e1 hl r x;have I:Inv (g6 CX P w K mg base N SV SU f cdv A outer s H E) [] (start N vs) H s1:=
  ⟨⟨I0.ok.mod,I0.ok.kind,I0.ok.glob,I0.ok.blt,I0.ok.above,I0.ok.inj,I0.ok.has,I0.ok.cab,(λz=>nomatch z),I0.ok.frames,I0.ok.stk,I0.ok.exf,I0.ok.bs,I0.ok.bsz,I0.ok.noex,I0.ok.exfs,I0.ok.funs,I0.ok.frf,(show A.handled=aq \/ ∃a,a∈rK A/\A.handled=aa (.ref a) from hdk.elim .inl λzq2=>by obtain⟨a,_,_,e,_,_⟩:=zq2;exact .inr ⟨a,by unfold rK;rw[e];exact de,e⟩)⟩,
   I0.os,I0.bare,I0.base,I0.loc,I0.cell,I0.free,I0.freeC,I0.pin,I0.hok,I0.len,(show ∀a∈rK A,∃o u,H a=aa (.frz o u)/\iX o from λb hb=>by
    unfold rK at hb;rcases hdk with e | ⟨a,o,u,e,g,m⟩
    ·rw[e] at hb;simp at hb
    ·rw[e] at hb;have:b=a:=by simpa using hb
     subst this;exact⟨o,u,g,m⟩)⟩
 refine df (ht [] s1 (start N vs) H _ I hq) (λfl s' hs=>?_) λe s' hs=>hs;have fin:∀{σ':St} {H':Hp} {v:V} {u:ac},Inv (g6 CX P w K mg base N SV SU f cdv A outer s H E) [] σ' H' s'->bU v u->Q v H'->CE outer P w H s Q u s':=
  λ{σ' H' v u} J rv q=>⟨v,H',J.os,J.bare,J.base,J.hok,rv,q⟩
 cases fl with
 |ret u=>
  obtain⟨v,σ',H',J,rv,q⟩:=hs;exact fin J rv q
 |next=>
  obtain⟨σ',H',J,q⟩:=hs;exact fin (v:=V.non) (u:=eg) J rfl q
 |brk=>
  obtain⟨_,_,_,q⟩:=hs;exact cb q
 |cont=>
  obtain⟨_,_,_,q⟩:=hs;exact cb q
noncomputable def bY(P:ay)(w:bg)(hd:Option ac):A0:=λouter H s E e s'=>∃(a:af) (o:gj) (C:af) (H':Hp) (B:br),e=.ref a/\s'.os=s.os/\pk s'.gens/\Un (frs outer) [] H H' s.heap s'.heap/\jL P w H' s'.heap /\
 Fly B outer a o .none s'.heap/\(∀b o,s'.heap.get? b=aa o->b ∉ frs outer->(H' b≠aq \/ ∃u,s.heap.get? b=aa u)->B.get? b=aa o)/\s.heap.get? a=aq/\H' a=aq/\E (.ref C) o.dict H'/\o.cls=.ref C/\(hd=aq->iX o)
variable {cd:ac}{s0:ah}{H0:Hp}
section
variable {E:XK}
theorem DH{h':br}(I:Inv (g6 (bY P w) P w K mg base N SV SU f cd A outer s0 H0 E) pj σ H s)(m:MadeH A.handled s.heap h' a C)
  (hE:E (.ref C) aq H):(g6 (bY P w) P w K mg base N SV SU f cd A outer s0 H0 E).xe (.ref a) { s with heap:=h' }:=by
 have hin:∀env∈(g6 (bY P w) P w K mg base N SV SU f cd A outer s0 H0 E).stack,∀b,env.frame=aa b->b∈frs (g6 (bY P w) P w K mg base N SV SU f cd A outer s0 H0 E).stack:=λenv he b hb=>tz.mpr ⟨env,he,hb⟩;obtain⟨ob,vs,ge,oc,od,dt,v1,v2⟩:=m.there;have nb:(nc s.heap (frs (g6 (bY P w) P w K mg base N SV SU f cd A outer s0 H0 E).stack)).get? a=aq:=by
  cases q:(nc s.heap (frs (g6 (bY P w) P w K mg base N SV SU f cd A outer s0 H0 E).stack)).get? a with
  |none=>rfl
  |some o'=>
   have:=qo _ q;rw[m.new] at this;cases this
 refine yZ (base:=nc s.heap (frs (g6 (bY P w) P w K mg base N SV SU f cd A outer s0 H0 E).stack)) I.ok.frames ((zm I.stack hin).of_keeps λb o hb _=>⟨o,m.keeps b o hb,rfl⟩) rfl (λb o q=>m.keeps b o (qo _ q)) nb ge dt v1 λh2 x1 x4=>?_;have fs:∀b,b∈frs (g6 (bY P w) P w K mg base N SV SU f cd A outer s0 H0 E).stack->b=(ir SV SU s0.heap.objs.size f cd).locals \/ b∈frs outer:=λb hb=>cr.mp (I.stkSub b hb);have k1:∀b o,s.heap.get? b=aa o->b ∉ frs outer->(H b≠aq \/ ∃u,s0.heap.get? b=aa u)->(nc s.heap (frs (g6 (bY P w) P w K mg base N SV SU f cd A outer s0 H0 E).stack)).get? b=aa o:=λb o e nb hc=>by
  refine wz _ e λhm=>?_;rcases fs b hm with z | z
  ·rcases hc with hc | ⟨u,hu⟩
   ·exact hc (I.stkFree b hm)
   ·have:b<s0.heap.objs.size:=be hu;have h2:s0.heap.objs.size<=b:=by rw[z];exact I.ok.above
    exact absurd (cm this h2) (iz _)
  ·exact nb z
 have sl:∀b∈frs outer,∀o,s.heap.get? b=aa o -> ∃z,h2.get? b=aa { o with slots:=z }:=λb hb o e=>by
  obtain⟨_,o',q,nf⟩:=I.funs.mem hb;rw[e] at q;cases q;exact x4 b o (m.keeps b o e) nf
 refine⟨a,_,C,H,_,rfl,I.os,I.bare,Un.fly I.base k1 x1.st sl,jL.fly (fs:=frs outer) I.hok (λb hb=>?_) k1 x1.st,x1,λb o e nb hc=>?_,?_,I.hok.out m.new,by rw[od];exact hE,oc,λz=>⟨vs,dt,v2 z⟩⟩
 ·obtain⟨_,o,q,_⟩:=I.ok.funs.mem hb;exact I.base.free b o q (I.ok.frf b hb) (λz=>nomatch z)
 ·have:∃o',s.heap.get? b=aa o':=by
   rcases hc with hc | ⟨u,hu⟩
   ·cases q:H b with
    |none=>exact(hc q).elim
    |some v=>exact(I.hok b v q).at
   ·exact I.base.there b u hu (λz=>nomatch z)
  obtain⟨o',q⟩:=this;have q1:=k1 b o' q nb hc;have q2:=x1.st b o' q1;rw[e] at q2;cases q2;exact q1
 ·cases q:s0.heap.get? a with
  |none=>rfl
  |some o=>
   obtain⟨o',q'⟩:=I.base.there a o q (λz=>nomatch z);rw[m.new] at q';cases q'
end
variable {s2:ah}
section
variable {E E':XK}
theorem IM{e:ac}(I:Inv (g6 (bY P w) P w K mg base N SV SU f cd A outer s0 H0 E) pj σ H s)
  (cx:bY P w A.handled (g6 (bY P w) P w K mg base N SV SU f cd A outer s0 H0 E).stack H s E' e s2) (hE:∀C dd H',E' (.ref C) dd H'->E (.ref C) dd H'):(g6 (bY P w) P w K mg base N SV SU f cd A outer s0 H0 E).xe e s2:=by
 obtain⟨a,o0,C,H',B,rfl,os,bare,un,hok,fl,k,na,nH,hE',hc0,hm0⟩:=cx;have nfr:∀b∈frs (g6 (bY P w) P w K mg base N SV SU f cd A outer s0 H0 E).stack,H' b=aq:=λb hb=>by
  obtain⟨_,o,q,_⟩:=I.stack.mem hb;exact un.free b o q (I.stkFree b hb) (λz=>nomatch z)
 have I2:Inv (g6 (bY P w) P w K mg base N SV SU f cd A outer s0 H0 E) pj σ H' s2:=I.call' os un hok bare (λ_ z=>nomatch z);have mem:∀b,b∈frs (g6 (bY P w) P w K mg base N SV SU f cd A outer s0 H0 E).stack->b=(ir SV SU s0.heap.objs.size f cd).locals \/ b∈frs outer:=λb hb=>cr.mp (I.stkSub b hb);have k1:∀b o,s2.heap.get? b=aa o->b ∉ frs outer->(H' b≠aq \/ ∃u,s0.heap.get? b=aa u)->B.get? b=aa o:=λb o q nb hc=>by
  refine k b o q (λhm=>?_) ?_
  ·rcases mem b hm with z | z
   ·rcases hc with hc | ⟨u,hu⟩
    ·exact hc (nfr b hm)
    ·have h1:b<s0.heap.objs.size:=be hu;have h2:s0.heap.objs.size<=b:=by rw[z];exact I.ok.above
     exact absurd (cm h1 h2) (iz _)
   ·exact nb z
  ·rcases hc with hc | ⟨u,hu⟩
   ·exact .inl hc
   ·exact .inr (I.base.there b u hu (λz=>nomatch z))
 refine FH I.ok.frames rfl fl λh' fl' u'=>?_;have sl:∀b∈frs outer,∀o,s2.heap.get? b=aa o -> ∃z,h'.get? b=aa { o with slots:=z }:=λb hb o q=>by
  obtain⟨_,o',q',nf⟩:=I2.funs.mem hb;rw[q] at q';cases q';exact u' b o q nf
 refine⟨a,o0,C,H',B,rfl,os.trans I.os,bare,Un.fly I2.base k1 fl'.st sl,jL.fly (fs:=frs outer) I2.hok (λb hb=>?_) k1 fl'.st,fl',λb o q nb hc=>?_,?_,nH,hE C _ H' hE',hc0,hm0⟩
 ·obtain⟨_,o,q,_⟩:=I.ok.funs.mem hb;exact I2.base.free b o q (I.ok.frf b hb) (λz=>nomatch z)
 ·have:∃o',s2.heap.get? b=aa o':=by
   rcases hc with hc | ⟨u,hu⟩
   ·cases q:H' b with
    |none=>exact(hc q).elim
    |some v=>exact(I2.hok b v q).at
   ·exact I2.base.there b u hu (λz=>nomatch z)
  obtain⟨o',q2⟩:=this;have q3:=k1 b o' q2 nb hc;have q4:=fl'.st b o' q3;rw[q] at q4;cases q4;exact q3
 ·cases q:s0.heap.get? a with
  |none=>rfl
  |some o=>
   obtain⟨o',q'⟩:=I.base.there a o q (λz=>nomatch z);rw[na] at q';cases q'
end
variable {fd:fv}
section
variable {fa:af}{E0:XK}
variable {k:Nat}{x:bf}{t:TA}
theorem Bz{y:bf}{j:Nat}{yp:gm}(F:FnOkG P w K mg base (bY P w) k f fd ps sp)(hr:Room k (cR (g6 (bY P w) P w K mg base N SV SU fa cd A outer s0 H0 E0).A))(hg:Gl (g6 (bY P w) P w K mg base N SV SU fa cd A outer s0 H0 E0) x)
  (hm:mg x=aa (.ref f)) (hkp:ic K (.ref f)=ai) (hbd:dI K fd ps []) (ha:PA (g6 (bY P w) P w K mg base N SV SU fa cd A outer s0 H0 E0) (e::es) t)
  (hN:N.Nodup) (hj:N[j]?=aa y) (hy:xC (g6 (bY P w) P w K mg base N SV SU fa cd A outer s0 H0 E0).env.scope y)
  (hdb:autoParam ((x==("__debug__" : bf))=ao) hG._auto_1) (he:autoParam (au (e::es) (g6 (bY P w) P w K mg base N SV SU fa cd A outer s0 H0 E0).env=(ao,di e (g6 (bY P w) P w K mg base N SV SU fa cd A outer s0 H0 E0).env)::au es (g6 (bY P w) P w K mg base N SV SU fa cd A outer s0 H0 E0).env) b7._auto_1) (hpl:autoParam ((dq SX (au es (g6 (bY P w) P w K mg base N SV SU fa cd A outer s0 H0 E0).env)).any (·.1)=ao) b7._auto_1)
  (hs:autoParam (eh (.Call (.Name x p) (e::es) [] SX) (aa (.Name y yp)) pos.line (g6 (bY P w) P w K mg base N SV SU fa cd A outer s0 H0 E0).env=fo ao) b7._auto_1) (hf:autoParam ((g6 (bY P w) P w K mg base N SV SU fa cd A outer s0 H0 E0).fn y=ai \/ (g6 (bY P w) P w K mg base N SV SU fa cd A outer s0 H0 E0).env.scope.names.lookup y=aa .local) xA._auto_1):
  PS (g6 (bY P w) P w K mg base N SV SU fa cd A outer s0 H0 E0) (.Assign [.Name y yp] (.Call (.Name x p) (e::es) [] SX) pos)
   (λD σ H=>t σ H λvs H1=>sp vs H1 (λv H2=>D.nx (σ.set j (aa v)) H2) (λcv dd H2=>∀C,cv=.ref C->E0 (.ref C) dd H2)):=by
 intro pj s σ H D I h;refine sx (fx (fX I hg hm ?_ hdb)) hs;refine kx (h₀:=base) I.ok.mod.kin hkp (df (ha SX pj s σ H _ I h) (λus s1 z=>?_) λe s z=>z) he hpl;obtain⟨vs,H1,I1,r,q⟩:=z;refine⟨I1.kIn,?_⟩;have hl:us.length=ps.length:=by rw[<- r.length];exact F.len _ _ _ _ q
 have hb1:=hbd s1 us I1.kIn (by rw[dr];exact hl);rw[dr] at hb1;refine my (gt (F.run (g6 (bY P w) P w K mg base N SV SU fa cd A outer s0 H0 E0).A (g6 (bY P w) P w K mg base N SV SU fa cd A outer s0 H0 E0).stack s1 H1 ⟨us,[]⟩ us vs _ _ hr I1.hdOk I1.env0 hb1 r q) λr s2 hq=>?_);cases r with
 |error e=>
  dsimp only[CR] at hq;exact IM I1 hq λC dd H' z=>z C rfl
 |ok fl=>
  cases fl with
  |ret u=>
   obtain⟨v,H2,I2,r2,q2⟩:=I1.after hq;exact lE I2 hN hj hy r2 (λs3 I3=>⟨_,H2,I3,q2⟩) hf
  |next=>exact cb hq
  |brk=>exact cb hq
  |cont=>exact cb hq
end
section
variable {x:bf}{t:TA}
theorem By{Ψ:Hp->Prop}(hm:X.mg x=aa (.ref C))(hg:Gl X x)(q:uL X.K C)(ha:PA X (e::es) t)
  (hx:∀(pj:List (af×gj)) (σ:St) (H:Hp) (s:ah) (h':br) (a:af),Inv X pj σ H s->MadeH X.A.handled s.heap h' a C->Ψ H->X.xe (.ref a) { s with heap:=h' })
  (hdb:autoParam ((x==("__debug__" : bf))=ao) hG._auto_1) (he:autoParam (au (e::es) X.env=(ao,di e X.env)::au es X.env) b7._auto_1) (hpl:autoParam ((dq SX (au es X.env)).any (·.1)=ao) b7._auto_1):
  PS X (.Raise (aa (.Call (.Name x np) (e::es) [] SX)) aq pos) (λ_ σ H=>t σ H λvs H1=>vs.length<=bh/\Ψ H1):=by
 intro pj s σ H D I h;obtain⟨bm,N,nm,qn,bs,hd,sn,sub,ab,col,dd,a0,a1,a2,a3,a5,mN,c1,c2,c3,c4⟩:=q.cls I.ok.mod.kin;refine xS (N:=N) (bm:=bm) (C:=C) (q:=qn) (nm:=nm) (bs:=bs) (sn:=sn) (hdct:=hd) (sub:=sub) (col:=col) (ab:=ab) (dd:=dd) (k5:=a5) (k0:=a0) (k1:=a1) (k2:=a2) (k3:=a3) sf (mN:=mN) (c4.hasType rfl) ?_ c3 (fX I hg hm ⟨rfl,?_⟩ hdb)
 ·rw[he];show (ao || (dq SX (au es X.env)).any (·.1))=ao;rw[hpl];rfl
 ·have h1:=ha SX pj s σ H _ I h;rw[he] at h1 ⊢;refine pz (df h1 (λus s1 z=>?_) λ_ _ z=>z);obtain⟨vs,H1,I1,r,l,p⟩:=z;exact⟨rfl,by rw[<- r.length];exact l,I1.bk _ _ c1,c2.keeps I1.bk,c4.keeps I1.bk,I1.qu,λh' a m=>hx pj σ H1 s1 h' a I1 m p⟩
end
variable {bb:Bool}{kj:Nat}{kp rp Ts:gm}{C0 C1:af}
section
variable {s1:ah}{E:XK}{e:ac}{D:Ends}
theorem Hj{c:bf}{SW:List ExceptHandler}(I1:Inv X pj σ H1 s1)(cx:bY X.prog X.w X.A.handled X.stack H1 s1 E e s2)
  (hst:X.stack=X.env::X.outer) (hfr:X.env.frame=aa X.env.locals) (hg:Gl X c) (hm:X.mg c=aa (.ref C1))
  (hx:sh X.K (.ref C0) (.ref C1)=aa ai) (hE:∀C dd H',E (.ref C) dd H'->C=C0/\D.rt (.bl bb) H') (hdb:autoParam ((c==("__debug__" : bf))=ao) hG._auto_1):
  bi (bn X.prog X.w) X.A (qx e X.env) (λ_ s3=>bi (bn X.prog X.w) X.A (yz e aq) (λ_ s4=>
   bi (bn X.prog X.w) X.A (handleBy e X.env (.ExceptHandler (aa (.Name c np)) aq [.Return (aa (.Constant (.bool bb) kj kp)) rp] Ts::SW)) (SP X pj D) X.xe s4) X.xe s3) X.xe s2:=by
 obtain⟨a,o0,C,H',B,rfl,os,bare,un,hok,fl,k,na,nH,hE',hc0,hm0⟩:=cx;obtain⟨rfl,go⟩:=hE C _ H' hE';have ff:X.A.frames=aa (X.env::X.outer):=by rw[<- hst];exact I1.ok.frames
 have nfr:∀b∈frs X.stack,H' b=aq:=λb hb=>by
  obtain⟨_,o,q,_⟩:=I1.stack.mem hb;exact un.free b o q (I1.stkFree b hb) (λz=>nomatch z)
 have sl:∀{h:br},s2.heap.UpToSlots h -> ∀b∈frs X.stack,∀o,s2.heap.get? b=aa o -> ∃z,h.get? b=aa { o with slots:=z }:=λ{h} u b hb o e=>by
  obtain⟨_,o1,q,nf⟩:=I1.stack.mem hb;obtain⟨z,q2⟩:=un.slot b o1 q (I1.stkFree b hb) hb (λz=>nomatch z);rw[e] at q2;cases q2;exact u b _ e nf
 have inv:∀h,B.StaysIn h->s2.heap.UpToSlots h->Inv X pj σ H' { s2 with heap:=h }:=λh hB u=>
  I1.call' os (un.fly k hB (sl u)) (jL.fly hok nfr k hB) bare (λ_ z=>nomatch z)
 rw[hst] at fl;refine tL ff hfr fl λh4 hl4 u4=>?_;refine iC hl4 λh5 hl5 u5=>?_;have I5:=inv h5 hl5.st (u4.trans u5);obtain⟨o5,he5,lk5⟩:=hl5.there;have hc5:o5.cls=.ref C:=lk5.cls.trans hc0;refine wx (vo (ly I5.ok.kind hg (ud (by rw[I5.ok.glob];exact I5.mod.glob.keeps I5.bk) hm ?_) hdb)) (λz=>nomatch z);have LT:SN (bn X.prog X.w) h5 (SF (.ref a)) (.ref C):=hc5 ▸ (SI he5).andThen .now;refine(W.exm_one I5.kIn LT hx).here (va ?_);refine iC hl5 λh6 hl6 u6=>?_;exact mh (yc (Constant_bool ⟨.bl bb,σ,H',inv h6 hl6.st ((u4.trans u5).trans u6),rfl,go⟩))
end
section
variable {k:Nat}{x:bf}{Tj:gm}{t:TA}
theorem GO{c:bf}(hno:∀e s,¬X.xe e s)(F:FnOkG X.prog X.w X.K X.mg X.base (bY X.prog X.w) k f fd ps sp)(hr:Room k (cR X.A))(hg:Gl X x)
  (hm:X.mg x=aa (.ref f)) (hkp:ic X.K (.ref f)=ai) (hbd:dI X.K fd ps []) (ha:PA X (e::es) t)
  (hst:X.stack=X.env::X.outer) (hfr:X.env.frame=aa X.env.locals) (hgc:Gl X c) (hmc:X.mg c=aa (.ref C1))
  (hx:sh X.K (.ref C0) (.ref C1)=aa ai) 
  (hdb:autoParam ((x==("__debug__" : bf))=ao) hG._auto_1) (hdc:autoParam ((c==("__debug__" : bf))=ao) hG._auto_1) (he:autoParam (au (e::es) X.env=(ao,di e X.env)::au es X.env) b7._auto_1) (hpl:autoParam ((dq SX (au es X.env)).any (·.1)=ao) b7._auto_1)
  (hs:autoParam (eh (.Call (.Name x p) (e::es) [] SX) aq Tj.line X.env=fo ao) b7._auto_1):
  PS X (.Try [.Expr (.Call (.Name x p) (e::es) [] SX) Tj] [.ExceptHandler (aa (.Name c np)) aq [.Return (aa (.Constant (.bool bb) kj kp)) rp] Ts] [] [] pos)
   (λD σ H=>t σ H λvs H1=>sp vs H1 (λ_ H2=>D.nx σ H2) (λcv dd H2=>∀C,cv=.ref C->C=C0/\D.rt (.bl bb) H2)):=by
 intro pj s σ H D I h;refine zn (mh (vz (fx (fX I hg hm ?_ hdb)) I.quiet hs));refine kx (h₀:=X.base) I.ok.mod.kin hkp (df (ha SX pj s σ H _ I h) (λus s1 z=>?_) λe s z=>(hno e s z).elim) he hpl;obtain⟨vs,H1,I1,r,q⟩:=z;refine⟨I1.kIn,?_⟩;have hl:us.length=ps.length:=by rw[<- r.length];exact F.len _ _ _ _ q
 have hb1:=hbd s1 us I1.kIn (by rw[dr];exact hl);rw[dr] at hb1;refine my (gt (F.run X.A X.stack s1 H1 ⟨us,[]⟩ us vs _ _ hr I1.hdOk I1.env0 hb1 r q) λr s2 hq=>?_);cases r with
 |error e=>
  dsimp only[CR] at hq;exact Hj I1 hq hst hfr hgc hmc hx (λC dd H' z=>z C rfl) hdc
 |ok fl=>
  cases fl with
  |ret u=>
   obtain⟨v,H2,I2,_,q2⟩:=I1.after hq;exact jl (jl ⟨σ,H2,I2,q2⟩)
  |next=>exact cb hq
  |brk=>exact cb hq
  |cont=>exact cb hq
end
variable {pl:R5 Bool}
section
variable {k:Nat}{ds:List ac}{dvs:List V}{E:XK}{x m:bf}{SZ:gm}{o:Expr}{t:TA}{ta:TE}
theorem BA{Q:VK}{vs:List V}(F:FnOkH X.prog X.w X.K X.mg X.base k f fd ps sp)(hr:Room k (cR X.A))(hb:dI X.K fd ps ds)(hd:aY dvs ds)
  (I:Inv X pj σ H s) (r:aY vs us) (h:sp (vs++dvs) H Q E):bi (bn X.prog X.w) X.A (call (.ref f) us) (EP X pj σ Q) X.xe s:=by
 have r2:aY (vs++dvs) (us++ds):=r.append hd;have hl:(us++ds).length=ps.length:=by rw[<- r2.length];exact F.len _ _ _ _ h
 refine my (gt (F.run X.A X.stack s H ⟨us,[]⟩ (us++ds) (vs++dvs) Q E hr I.hdOk I.env0 (hb s us I.kIn hl) r2 h) λr s' hq=>?_);cases r with
 |error e=>exact cb hq
 |ok fl=>
  cases fl with
  |ret u=>exact I.after hq
  |next=>exact cb hq
  |brk=>exact cb hq
  |cont=>exact cb hq
theorem EB(he:PE X o ta)(c:Cls X.K C)(hm:Meth X.K C m f)(F:FnOkH X.prog X.w X.K X.mg X.base k f fd ps sp)(hr:Room k (cR X.A))(hb:dI X.K fd ps ds)(hd:aY dvs ds)(ha:PA X (e::es) t)
  (hst:autoParam (au (e::es) X.env=(ao,di e X.env)::au es X.env) b7._auto_1) (hpl:autoParam ((dq pos (au es X.env)).any (·.1)=ao) b7._auto_1)
  (ht:autoParam (di (.Call (.Attribute o m SZ) (e::es) [] pos) X.env=(do
   let ov <- di o X.env
   qp SZ.atName
   let (f,first) <- ku [ov] (pc ov m pl)
   ug pos f first (dq pos (au (e::es) X.env)) (nz pos (jp [] X.env)))) b7._auto_1):
  PE X (.Call (.Attribute o m SZ) (e::es) [] pos) (DX C m sp dvs E ta t):=by
 intro pj s σ H Q I h;refine vd (pl:=pl) (thn (he pj s σ H _ I h) λu s1 ⟨x,H1,I1,rx,a,dx,fs,ex,ea,l,q⟩=>?_) ht;subst ex;obtain rfl:u=Value.ref a:=rx;refine nS I1 ea c hm l ?_;refine kx (first:=[.ref a]) (h₀:=X.base) I.ok.mod.kin hm.kp (thn (ha pos pj s1 σ H1 _ I1 q) λus s2 ⟨vs,H2,I2,r,q2⟩=>⟨I2.kIn,?_⟩) hst hpl;exact BA (us:=.ref a::us) (vs:=.ref a::vs) F hr hb hd I2 (.cons rfl r) q2
theorem C8(he:PE X o ta)(c:Cls X.K C)(hm:Meth X.K C m f)(F:FnOkH X.prog X.w X.K X.mg X.base k f fd ps sp)(hr:Room k (cR X.A))(hb:dI X.K fd ps ds)(hd:aY dvs ds)
  (ht:autoParam (di (.Call (.Attribute o m SZ) [] [] pos) X.env=(do
   let ov <- di o X.env
   qp SZ.atName
   let (f,first) <- ku [ov] (pc ov m pl)
   ug pos f first (dq pos (au [] X.env)) (nz pos (jp [] X.env)))) b7._auto_1):
  PE X (.Call (.Attribute o m SZ) [] [] pos) (DX C m sp dvs E ta IU):=by
 intro pj s σ H Q I h;refine vd (pl:=pl) (thn (he pj s σ H _ I h) λu s1 ⟨x,H1,I1,rx,a,dx,fs,ex,ea,l,q⟩=>?_) ht;subst ex;obtain rfl:u=Value.ref a:=rx;refine nS I1 ea c hm l ?_;exact RA (first:=[.ref a]) I1.kIn hm.kp (BA (us:=[.ref a]) (vs:=[.ref a]) F hr hb hd I1 (.cons rfl .nil) q)
end
end L2
namespace Z
open L2
structure MDefH(P:ay)(w:bg)(K:aj)(mg:bf->Option ac)(base:br)(k:Nat)(C:af)(m:bf)(ps:List bf)(sp:Sp):Prop where
 ex:∃f fd,Meth K C m f/\dI K fd ps []/\FnOkH P w K mg base k f fd ps sp
variable {m:bf}
theorem MDefH.calm{k:Nat}{sp:Sp}(d:MDefH P w K mg base k C m ps sp):MDef P w K mg base k C m ps sp:=by
 obtain⟨f,fd,hm,hb,FO⟩:=d.ex;exact⟨f,fd,hm,hb,FO.len,λA outer s H args us vs Q E hr he hbd hv q=>FO.run A outer s H args us vs Q E ⟨rfl,hr.dp,hr.un⟩ (.inl hr.hd) he hbd hv q⟩
theorem MAt.okH{k:Nat}{t:bV}(a:MAt K C m SV st ps)(S:FnScope N ps (aB st))
  (hq:∀(f:af) (cdv:ac) (A:bu) (outer:List ox) (s:ah) (H:Hp) (E:XK),Room k (cR (A.deeper (ir SV (aB st) s.heap.objs.size f cdv)))->QSs (M4 P w K mg base N SV (aB st) f cdv A outer s H E) (cM st) t)
  (len:∀ds Q,sp ds Q->ds.length=ps.length) (hsp:∀ds Q,sp ds Q->t ↥Q (aJ N ds)):MDefH P w K mg base (k+1) C m ps (low K sp):=by
 obtain⟨f,fd,hm,F,hb⟩:=a.ex;obtain⟨oc,od,kV,doc,pm,an,cdv,ct,osl,rfl,lk,hcd⟩:=F.ex;exact⟨f,_,hm,hb,FG lk hcd S (pC len) λA outer s H vs Q E hr z=>pL (hq f cdv A outer s H E hr) hsp z⟩
variable {pl:R5 Bool}
section
variable {k:Nat}{x:bf}{o:Expr}{to:cQ}{SZ:gm}
theorem BC(c:Cls X.K C)(d:MDefH X.prog X.w X.K X.mg X.base k C m ps (low X.K sp))(mo:MonoF sp)(hr:Room k (cR X.A))(ho:QE X o to)(ha:QA X (e::es) ts)
  (hst:autoParam (au (e::es) X.env=(ao,di e X.env)::au es X.env) b7._auto_1) (hpl:autoParam ((dq pos (au es X.env)).any (·.1)=ao) b7._auto_1)
  (ht:autoParam (di (.Call (.Attribute o m SZ) (e::es) [] pos) X.env=(do
   let ov <- di o X.env
   qp SZ.atName
   let (f,first) <- ku [ov] (pc ov m pl)
   ug pos f first (dq pos (au (e::es) X.env)) (nz pos (jp [] X.env)))) b7._auto_1):
  QE X (.Call (.Attribute o m SZ) (e::es) [] pos) (kU C m sp to ts):=by
 obtain⟨f,fd,hm,hb,FO⟩:=d.ex;refine⟨λρ Q Q' w q=>ho.mono _ _ _ (λro q=>?_) q,λHZ F=>bX (EB (E:=E0) (pl:=pl) (ho.run HZ F) c hm FO hr hb .nil (ha.run HZ F) hst hpl ht) λσ H Q ⟨ρ,fr,h⟩=>?_⟩
 ·split at q
  ·exact⟨q.1,ha.mono _ _ _ (λrs q=>mo.mo _ _ _ (iE w) q) q.2⟩
  ·exact q
 ·refine ho.step fr h λro x H1 q S1 r1=>?_;split at q
  ·rename_i C' fs e;obtain⟨⟨rfl,hl⟩,q⟩:=q;have cx:=r1.c;rw[e] at cx;obtain⟨a,dx,fs',rfl,ea,ra⟩:=cx.obj;refine⟨a,dx,fs',rfl,ea,ra.lookup.1 hl,ha.step (fr.mono S1) q λrs xs H2 q S2 r2=>?_⟩;rw[dr];exact lU (rs:=ro::rs) (xs:=.ref a::xs) mo fr (S1.trans S2) (.cons (r1.mono S2) (r2.ahead S1)) q λr z=>z
  ·exact q.elim
theorem Dl(c:Cls X.K C)(d:MDefH X.prog X.w X.K X.mg X.base k C m ps (low X.K sp))(mo:MonoF sp)(hr:Room k (cR X.A))(ho:QE X o to)
  (ht:autoParam (di (.Call (.Attribute o m SZ) [] [] pos) X.env=(do
   let ov <- di o X.env
   qp SZ.atName
   let (f,first) <- ku [ov] (pc ov m pl)
   ug pos f first (dq pos (au [] X.env)) (nz pos (jp [] X.env)))) b7._auto_1):
  QE X (.Call (.Attribute o m SZ) [] [] pos) (kU C m sp to aF):=by
 obtain⟨f,fd,hm,hb,FO⟩:=d.ex;refine⟨λρ Q Q' w q=>ho.mono _ _ _ (λro q=>?_) q,λHZ F=>bX (C8 (E:=E0) (pl:=pl) (ho.run HZ F) c hm FO hr hb .nil ht) λσ H Q ⟨ρ,fr,h⟩=>?_⟩
 ·split at q
  ·exact⟨q.1,mo.mo _ _ _ (iE w) q.2⟩
  ·exact q
 ·refine ho.step fr h λro x H1 q S1 r1=>?_;split at q
  ·rename_i C' fs e;obtain⟨⟨rfl,hl⟩,q⟩:=q;have cx:=r1.c;rw[e] at cx;obtain⟨a,dx,fs',rfl,ea,ra⟩:=cx.obj;refine⟨a,dx,fs',rfl,ea,ra.lookup.1 hl,?_⟩;exact lU (rs:=[ro]) (xs:=[.ref a]) (E:=E0) mo fr S1 (.cons r1 .nil) q λr z=>z
  ·exact q.elim
end
structure DefXH(P:ay)(w:bg)(K:aj)(mg:bf->Option ac)(base:br)(k:Nat)(x:bf)(ps:List bf)(sp:Sp):Prop where
 ex:∃f fd,mg x=aa (.ref f)/\ic K (.ref f)=ai/\dI K fd ps []/\FnOkG P w K mg base (bY P w) k f fd ps sp
theorem At.okXH{k:Nat}{x nm:bf}{sp:n4}{t:(rN->Prop)->bV}(a:At K mg x nm st ps)(S:FnScope N ps (aB st))
  (hq:∀(f:af) (cdv:ac) (A:bu) (outer:List ox) (s:ah) (H:Hp) (E:XK) (F:af->Prop) (Ψ:rN->Prop),Room k (cR (A.deeper (ir nm (aB st) s.heap.objs.size f cdv)))->(∀C p dd H',Ψ (C,p)->aI H H'->lV H' p dd->E (.ref C) dd H') ->
   QxB (g6 (bY P w) P w K mg base N nm (aB st) f cdv A outer s H E) H F (cM st) (t Ψ))
  (len:∀ds Q Ψ,sp ds Q Ψ->ds.length=ps.length) (hsp:∀ds Q Ψ,sp ds Q Ψ->t Ψ ↥Q (aJ N ds)):DefXH P w K mg base (k+1) x ps (lowX K sp):=by
 obtain⟨f,fd,hm,F,hb⟩:=a.ex;obtain⟨oc,od,kV,doc,pm,an,cdv,ct,osl,rfl,lk,hcd⟩:=F.ex;refine⟨f,_,hm,F.kp,hb,Jq lk hcd S (λvs H Q E z=>?_) λA outer s H vs Q E hr z=>?_⟩
 ·obtain⟨F,ds,Ψ,hF,r,q,hE⟩:=z;rw[r.length];exact len _ _ _ q
 ·obtain⟨F,ds,Ψ,hF,r,q,hE⟩:=z;exact⟨_,(hq f cdv A outer s H E F Ψ hr hE).run,aJ N ds,_,sI hF r,hsp ds _ Ψ q,λρ σ H' fr q=>q .non H' fr.same Rep.non,λ_ _ _ _ z=>z.elim,λ_ _ _ _ z=>z.elim,λrr x H' S rx q=>q x H' S rx⟩
variable {np:gm}
section
variable {cd:ac}{s0:ah}{H0:Hp}{E:XK}{Ψ:rN->Prop}
theorem DI{x:bf}(hS:∀H',aI HZ H'->aI H0 H')(hE:∀C p dd H',Ψ (C,p)->aI H0 H'->lV H' p dd->E (.ref C) dd H')
  (hm:mg x=aa (.ref C)) (q:uL K C) (hg:Gl (g6 (bY P w) P w K mg base N SV SU f cd A outer s0 H0 E) x) (ha:QA (g6 (bY P w) P w K mg base N SV SU f cd A outer s0 H0 E) (e::es) ts)
  (hdb:autoParam ((x==("__debug__" : bf))=ao) hG._auto_1) (he:autoParam (au (e::es) (g6 (bY P w) P w K mg base N SV SU f cd A outer s0 H0 E).env=(ao,di e (g6 (bY P w) P w K mg base N SV SU f cd A outer s0 H0 E).env)::au es (g6 (bY P w) P w K mg base N SV SU f cd A outer s0 H0 E).env) b7._auto_1)
  (hpl:autoParam ((dq SX (au es (g6 (bY P w) P w K mg base N SV SU f cd A outer s0 H0 E).env)).any (·.1)=ao) b7._auto_1):
  QxS (g6 (bY P w) P w K mg base N SV SU f cd A outer s0 H0 E) HZ F (.Raise (aa (.Call (.Name x np) (e::es) [] SX)) aq pos) (vK Ψ C ts):=by
 refine⟨λE E' ρ w h=>h,cA (By (X:=g6 (bY P w) P w K mg base N SV SU f cd A outer s0 H0 E) (Ψ:=λH1=>E (.ref C) aq H1) hm hg q (ha.run HZ F) (λpj σ H s h' a I m p=>DH I m p) hdb he hpl) λD σ H z=>?_⟩;obtain⟨ρ,E',fr,h,en⟩:=z;refine ha.step fr h λrs xs H1 q1 S1 r1=>⟨?_,hE C aq aq H1 q1.2 (hS _ (fr.same.trans S1)) trivial⟩;rw[r1.len];exact jo q1.1 ∅
theorem DK{k:Nat}{sp:n4}{x y:bf}{j:Nat}{yp:gm}(hS:∀H',aI HZ H'->aI H0 H')(hE:∀C p dd H',Ψ (C,p)->aI H0 H'->lV H' p dd->E (.ref C) dd H')
  (d:DefXH P w K mg base k x ps (lowX K sp)) (mo:MonoX sp) (hr:Room k (cR (g6 (bY P w) P w K mg base N SV SU f cd A outer s0 H0 E).A)) (ha:QA (g6 (bY P w) P w K mg base N SV SU f cd A outer s0 H0 E) (e::es) ts)
  (hN:N.Nodup) (hj:autoParam (N[j]?=aa y) b7._auto_1) (hy:autoParam (xC (g6 (bY P w) P w K mg base N SV SU f cd A outer s0 H0 E).env.scope y) KP._auto_1) (hg:autoParam (Gl (g6 (bY P w) P w K mg base N SV SU f cd A outer s0 H0 E) x) b7._auto_1)
  (hdb:autoParam ((x==("__debug__" : bf))=ao) hG._auto_1) (he:autoParam (au (e::es) (g6 (bY P w) P w K mg base N SV SU f cd A outer s0 H0 E).env=(ao,di e (g6 (bY P w) P w K mg base N SV SU f cd A outer s0 H0 E).env)::au es (g6 (bY P w) P w K mg base N SV SU f cd A outer s0 H0 E).env) b7._auto_1) (hpl:autoParam ((dq SX (au es (g6 (bY P w) P w K mg base N SV SU f cd A outer s0 H0 E).env)).any (·.1)=ao) b7._auto_1)
  (hs:autoParam (eh (.Call (.Name x p) (e::es) [] SX) (aa (.Name y yp)) pos.line (g6 (bY P w) P w K mg base N SV SU f cd A outer s0 H0 E).env=fo ao) b7._auto_1) (hf:autoParam ((g6 (bY P w) P w K mg base N SV SU f cd A outer s0 H0 E).fn y=ai \/ (g6 (bY P w) P w K mg base N SV SU f cd A outer s0 H0 E).env.scope.names.lookup y=aa .local) xA._auto_1):
  QxS (g6 (bY P w) P w K mg base N SV SU f cd A outer s0 H0 E) HZ F (.Assign [.Name y yp] (.Call (.Name x p) (e::es) [] SX) pos) (sR j sp ts Ψ):=by
 obtain⟨fa,fd,hm,hkp,hbd,FO⟩:=d.ex;refine⟨λE1 E2 ρ w1 h=>ha.mono _ _ _ (λrs q=>mo.mo _ _ _ _ _ (λr q=>⟨q.1,?_⟩) (λC q=>q) q) h,cA (Bz FO hr hg hm hkp hbd (ha.run HZ F) hN hj hy hdb he hpl hs hf) λD σ H z=>?_⟩
 ·cases r with
  |v d=>exact w1.nx _ q.2
  |nw d=>exact w1.nx _ q.2
  |ow a d=>exact q.2
 ·obtain⟨ρ,E',fr,h,en⟩:=z;refine ha.step fr h λrs xs H1 q S1 r1=>?_;have fr1:=fr.mono S1;refine⟨lent (MM F ρ) rs,_,Ψ,⟨λa z=>fr1.dom z.1,fr1.tab⟩,gG fr (λ_ h=>h) r1,mo.mo _ _ _ _ _ (λr q x H' S rx=>?_) (λC q=>q) q,λC p dd H2 q S2 py C' ec=>?_⟩
  ·have b:d5 K (MM F ρ) (Z.uK ρ) H x r H':=mG fr S1 rx q.1;have fr2:=fr1.mono S;cases r with
   |v d=>exact en.nx _ _ _ (fr2.setv b) q.2
   |nw d=>exact en.nx _ _ _ (fr2.setv (b.rep (λa m=>fr.dom m) rfl)) q.2
   |ow a d=>exact q.2.elim
  ·cases ec;exact hE C p dd H2 q (hS _ ((fr.same.trans S1).trans S2)) py
theorem IN{iter:Expr}{ti:sB}{g:vD}{tb:bV}{k:Nat}(hS:∀H',aI HZ H'->aI H0 H')(hi:QI (g6 (bY P w) P w K mg base N SV SU f cd A outer s0 H0 E) tg iter ti)(hg:QG (g6 (bY P w) P w K mg base N SV SU f cd A outer s0 H0 E) tg k g)
  (hb:∀H₁:Hp,(∀H',aI H₁ H'->aI H0 H')->QxB (g6 (bY P w) P w K mg base N SV SU f cd A outer s0 H0 E) H₁ F T1 tb) (hs:autoParam (∀x,fe iter (g6 (bY P w) P w K mg base N SV SU f cd A outer s0 H0 E).env x=fo x) B1._auto_1):
  QxS (g6 (bY P w) P w K mg base N SV SU f cd A outer s0 H0 E) HZ F (.For tg iter T1 [] pos) (fK ti g tb):=by
 have mb:=(hb HZ hS).mono;refine⟨λE E' ρ w h=>hi.mono _ _ _ (λds ogs h=>iQ hg.mono mb ogs ds E E' ρ w h) h,?_⟩;obtain⟨wi,hwi,wiq⟩:=hi.run HZ F;obtain⟨tt,htt,ttq⟩:=hg.run;have hb':pP (g6 (bY P w) P w K mg base N SV SU f cd A outer s0 H0 E) T1 (λD σ H=>∃P',(∀H',aI P' H'->aI H0 H')/\liftS K P' F tb D σ H):=λpj s σ H D I zq3=>by obtain⟨P',h1,q⟩:=zq3;exact(hb P' h1).run pj s σ H D I q
 refine cA (AG lr rfl hwi htt hb' hs) λD σ H z=>?_;obtain⟨ρ,E',fr,h,en⟩:=z;refine wiq σ H ρ _ fr (hi.mono _ _ _ (λds ogs q J H2 S2 _ ok=>?_) h);have fr2:=fr.mono S2;have en2:Ent K (prot H2 ρ) F E' D:=en.prot fr2;refine⟨λi m σ' H'=>m=ds.length-i/\i<=ds.length /\ ∃ρ',Fr K (prot H2 ρ) F σ' H' ρ'/\aT g tb ogs (ds.drop i) E' ρ',⟨ds.length,by simp,mj _,ρ,fr2.prot,by simpa using q⟩,?_⟩;rintro i m σ' H' ⟨rfl,hil,ρ',fr',q'⟩;have gd:guard ogs ρ':=lM q';have Gn:=fr2.gen fr';have oks:=ok i H' (MM F ρ') fr'.same Gn λp hp=>let ⟨_,_,_,h⟩:=fr'.at_own (gd p hp);h;by_cases hlt:i<ds.length
 ·have hd:ds[i]?=aa ds[i]:=by simp[hlt]
  have hdr:ds.drop i=ds[i]::ds.drop (i+1):=ik hlt;rw[hdr,aS] at q';obtain⟨go,yld⟩:=oks.1 _ hd;refine .inr ⟨go,λσ2 H2'=>∃ρ2,Fr K (prot H2 ρ) F σ2 H2' ρ2/\aT g tb ogs (ds.drop (i+1)) E' ρ2,λσ2 H2' zq4=>by obtain⟨ρ2,f2',q2⟩:=zq4;exact⟨ds.length-(i+1),⋯,rfl,hlt,ρ2,f2',q2⟩,λy H3 hy=>?_⟩;obtain⟨S3,ry⟩:=yld y H3 hy;refine ttq _ F y _ σ' H3 ρ' _ (fr'.mono S3) ry (hg.mono _ _ _ _ (λρ1 q1 σ1 f1 _=>?_) q'.2);exact⟨prot H2 ρ,λH' S=>hS _ (fr2.same_of S),ρ1,_,f1,q1,λρ3 σ3 H3' f3 q3=>⟨ρ3,f3,q3⟩,en2.nx,λρ3 σ3 H3' f3 q3=>⟨ρ3,f3,q3⟩,en2.rt⟩
 ·have e:i=ds.length:=⋯;subst e;rw[tm,bE] at q';exact .inl ⟨oks.2 (bo _),en2.nx _ _ _ fr' q'.2⟩
end
noncomputable def Hu(C0:af)(b:Bool)(sp:n4)(ts:iY):bV:=λE ρ=>ts ρ λrs=>sp (rs.map R.d) (λ_=>E.nx ρ) (λx=>x.1=C0/\E.rt (.v (.bl b)))
section
variable {k:Nat}{sp:n4}{x:bf}{Tj:gm}
theorem Ig{c:bf}{bb:Bool}{kj:Nat}{kp rp Ts:gm}{C0 C1:af}(hno:∀e s,¬X.xe e s)(d:DefXH X.prog X.w X.K X.mg X.base k x ps (lowX X.K sp))(mo:MonoX sp)(hr:Room k (cR X.A))(ha:QA X (e::es) ts)
  (hmc:X.mg c=aa (.ref C1)) (hx:sh X.K (.ref C0) (.ref C1)=aa ai)
  (hst:autoParam (X.stack=X.env::X.outer) b7._auto_1) (hfr:autoParam (X.env.frame=aa X.env.locals) b7._auto_1) (hg:autoParam (Gl X x) b7._auto_1) (hgc:autoParam (Gl X c) b7._auto_1)
  (hdb:autoParam ((x==("__debug__" : bf))=ao) hG._auto_1) (hdc:autoParam ((c==("__debug__" : bf))=ao) hG._auto_1) (he:autoParam (au (e::es) X.env=(ao,di e X.env)::au es X.env) b7._auto_1) (hpl:autoParam ((dq SX (au es X.env)).any (·.1)=ao) b7._auto_1)
  (hs:autoParam (eh (.Call (.Name x p) (e::es) [] SX) aq Tj.line X.env=fo ao) b7._auto_1):
  QS X (.Try [.Expr (.Call (.Name x p) (e::es) [] SX) Tj] [.ExceptHandler (aa (.Name c np)) aq [.Return (aa (.Constant (.bool bb) kj kp)) rp] Ts] [] [] pos) (Hu C0 bb sp ts):=by
 obtain⟨f,fd,hm,hkp,hbd,FO⟩:=d.ex;refine⟨λE E' ρ w h=>ha.mono _ _ _ (λrs q=>mo.mo _ _ _ _ _ (λ_ q=>w.nx _ q) (λC q=>⟨q.1,w.rt _ q.2⟩) q) h,λHZ F=>cA (GO hno FO hr hg hm hkp hbd (ha.run HZ F) hst hfr hgc hmc hx hdb hdc he hpl hs) λD σ H z=>?_⟩;obtain⟨ρ,E,fr,h,en⟩:=z;refine ha.step fr h λrs xs H1 q S1 r1=>?_;have fr1:=fr.mono S1;refine⟨lent (MM F ρ) rs,_,λx=>x.1=C0/\E.rt (.v (.bl bb)),⟨λa z=>fr1.dom z.1,fr1.tab⟩,gG fr (λ_ h=>h) r1,mo.mo _ _ _ _ _ (λr q x H' S rx=>en.nx _ _ _ (fr1.mono S) q) (λC q=>q) q,λC p dd H2 q S2 py C' ec=>?_⟩;cases ec;exact⟨q.1,en.rt (.v (.bl bb)) _ _ ((fr.same.trans S1).trans S2) (show Rep _ _ _ _ _ from Rep.bl _) q.2⟩
end
end Z
namespace L2
open PySem PySem.Spec PySem.W PyProof.Rows Tim
theorem xK{d:af}{es:Array ja}{ep:Nat}{vs:List ac}{Q:ac->ah->Prop}(hh:A.handled=aq)(lo:(d==gk)=ao)(x:Ent s.heap d es ep)(hv:es.toList.map (·.key)=vs)(hi:lj vs ns)(h64:vs.length<64)
  (k:∀(h1:br) (tk:Nat) (out:Array ac) (ms:List Int),(∀b o,s.heap.get? b=aa o->h1.get? b=aa o)->s.heap.objs.size<h1.objs.size->lj out.toList ms->ms.Perm ns->ms.Pairwise (· <= ·)->Q (.ref h1.objs.size) { s with heap:=Rq (h1.push (mf "list" vs.toArray 0)) h1.objs.size vs out,toks:=tk }):
  bi (bn prog w) A (call (.builtin "sorted") [.ref d]) Q E s:=by
 have line:vs.length<=bh:=by rw[ii];right
 have hn:es.size=vs.length:=by rw[<- hv];simp
 refine su kind_sorted plain_sorted entry_sorted (args_sorted1 _) ?_;unfold wj.«sorted»;refine ae (m:=checkCount "sorted" 1 1 _) (az (ae (zM (Bc lo) hh x (by rw[hn];exact line) λh1 tk acc old big it=>?_)));have ea:acc.toList=vs:=by
  apply oo;intro i;rw[<- hv];by_cases hi:i<acc.size
  ·obtain⟨en,e1,e2⟩:=it.2 i acc[i] (gy hi);rw[jg,gy hi,bw,jg,e1,e2];rfl
  ·have:es.size<=i:=by rw[<- it.1];right
   rw[jh (by simpa using hi),jh (by simpa using this)]
 rw[ea];refine ae (xh ?_ line);have mine:(h1.push (mf "list" vs.toArray 0)).get? h1.objs.size=aa (mf "list" vs.toArray 0):=bq h1 rfl;exact ae (gf (et Ru ⟨_,mine,rfl⟩ R1 (list_sort_tree (s:={ s with heap:=h1.push (mf "list" vs.toArray 0),toks:=tk }) mine hi h64 λout ms a1 a2 a3=>⟨_,rfl,az ⟨_,rfl,k h1 tk out ms old big a1 a2 a3⟩⟩) (Rv _)))
theorem Ch{es:List ja}{kvs:List (bI×ac)}(h:Pairs (cY P w) es kvs):∀{ns:List Int},kvs.map (·.1)=ns.map bv->lj (es.map (·.key)) ns:=by
 induction h with
 |nil=>
  intro ns e;cases ns with
  |nil=>exact .nil
  |cons _ _=>cases e
 | @cons e kv es kvs h1 h2 _ ih=>
  intro ns q;cases ns with
  |nil=>cases q
  |cons n ns=>
   rw[cn,cn] at q;injection q with q1 q2;rw[q1,AY] at h1;rcases cN h1 with⟨i,t,e1,e2⟩ | ⟨x,t,e1,e2⟩
   ·cases e1;rw[cn,e2];exact .cons _ _ (ih q2)
   ·cases e1
theorem uH(hc:X.calm=ai):eB X (.builtin "sorted") (λxs H Q=>∃(p:af) (kvs:List (bI×V)) (ns:List Int),xs=[.ref p]/\H p=aa (.dK kvs)/\kvs.map (·.1)=ns.map bv/\ns.length<64 /\
  ∀ms:List Int,ms.Perm ns->ms.Pairwise (· <= ·) -> ∀l,H l=aq->Q (.ref l) (upd H l (.lst (ms.map V.int)))):=by
 intro pj s σ H xs us Q I r h;obtain⟨p,kvs,ns,rfl,hp,hk,h64,q⟩:=h;obtain⟨u,rfl,ru⟩:=iF r;cases ru;obtain⟨hz,hsys,vs,rv,o,es,ep,g,ex,dd,ko,pr,nd⟩:=(show cB X.prog X.w H s.heap p (.dK kvs) from I.hok p _ hp);have ev:vs.map (·.1)=ns.map bv:=by
  rw[<- hk];clear pr nd hk hp hz q;induction rv with
  |nil=>rfl
  |cons a _ ih=>rw[cn,cn,ih,a.1]
 have ia:=Ch pr ev;refine xK (I.ok.hd hc) hsys ⟨⟨o,g,ex,dd⟩⟩ rfl ia (by rw[ia.length];exact h64) λh1 tk out ms old big a1 a2 a3=>?_;have mine:(h1.push (mf "list" (es.toList.map (·.key)).toArray 0)).get? h1.objs.size=aa (mf "list" (es.toList.map (·.key)).toArray 0):=bq h1 rfl;obtain⟨c,at1⟩:=sortedHeap_at (out:=out) mine;have back:∀{us:List ac} {ns:List Int},lj us ns->aY (ns.map V.int) us:=λh=>by
  induction h with
  |nil=>exact .nil
  |cons a t _ ih=>exact .cons ⟨t,rfl⟩ ih
 have eo:out.toList.toArray=out:=by cases out;rfl
 have low:∀b o,s.heap.get? b=aa o->b<h1.objs.size:=λb o e=>be (old b o e);have le:s.heap.objs.size<=h1.objs.size:=vx big;have hle:(ms.map V.int).length<=bh:=by rw[ii,bt,a2.length_eq];right
 exact⟨.ref h1.objs.size,_,I.laid (λb o e=>(Rx (eu (low b o e)) (by rw[size_push'];exact tj (low b o e))).trans (av _ (old b o e))) le (show cB X.prog X.w _ _ _ (.lst _) from⟨hle,out.toList,c,back a1,by rw[eo];exact at1⟩),rfl,q ms a2 a3 _ (I.hok.fresh le)⟩
end L2
namespace Z
open L2
noncomputable def jT:List Dv->(R->Prop)->Prop
 | [.dik kvs],Q=>∃ns:List Int,kvs.map (·.1)=ns.map bv/\ns.length<64 /\ ∀ms:List Int,ms.Perm ns->ms.Pairwise (· <= ·)->Q (.nw (.lst (ms.map .int)))
 |_,_=>False
theorem IC{kvs:List (bI×Dv)}:(jT [.dik kvs] Q)=(∃ns:List Int,kvs.map (·.1)=ns.map bv/\ns.length<64 /\ ∀ms:List Int,ms.Perm ns->ms.Pairwise (· <= ·)->Q (.nw (.lst (ms.map .int)))):=rfl
theorem RepK.keys{xs:List (bI×V)}{ds:List (bI×Dv)}(r:RepK K M H xs ds):xs.map (·.1)=ds.map (·.1):=
 r.ind (P:=λxs ds=>xs.map (·.1)=ds.map (·.1)) rfl λ_ _ _ _ _ _ _ ih=>by rw[cn,cn,ih]
theorem zP(hc:X.calm=ai):jY X (.builtin "sorted") jT:=by
 refine⟨λds Q Q' w h=>?_,_,uH hc,λM O H xs ds Q c h=>?_⟩
 ·unfold jT at *;split at h
  ·obtain⟨ns,a,b,q⟩:=h;exact⟨ns,a,b,λms x y=>w _ (q ms x y)⟩
  ·exact h
 ·unfold jT at h;split at h
  ·obtain⟨x,rfl,cx⟩:=dC c;obtain⟨a,kvs',rfl,ea,ra⟩:=cx.dik;obtain⟨ns,e1,e2,q⟩:=h;exact⟨a,kvs',ns,rfl,ea,by rw[ra.keys];exact e1,e2,λms p1 p2 l hl=>q ms p1 p2 _ _ (aI.new' hl) (jF hl (Reps.ints _))⟩
  ·exact h.elim
noncomputable def Fd:V->Bool
 | .int _=>ai
 | .non=>ai
 |_=>ao
noncomputable def begD:Dv->Bool
 | .int _=>ai
 | .non=>ai
 |_=>ao
noncomputable def Ax:Dv->Bool
 | .int _=>ai
 | .lst []=>ai
 | .lst (d::ds)=>!begD d&&flatDs (d::ds)
 | .obj _ fs=>flatDs (fs.map (·.2))
 |_=>ao
noncomputable def oR(i:Nat)(sp:Fn)(ts:iY)(tt:jZ)(tb:bV)(te te2:cQ)(tr:bV):bV:=λE ρ=>i<ρ.length/\ts ρ λrs=>(rs.all R.free=ai/\(rs.map R.d).all Ax=ai)/\sp (rs.map R.d) λr=>match r with
 | .v (.lst (d::ds))=>begD d=ai/\tt (ρ.set i (.v (.lst (d::ds)))) λb=>if b=ai then tb { E with nx:=λ_=>False } (ρ.set i (.v (.lst (d::ds)))) else
   ds.length+1<tW/\te (ρ.set i (.v (.lst (d::ds)))) (λ_=>True)/\te2 (ρ.set i .un) (λ_=>True)/\tr E (ρ.set i .un)
 |_=>False
section
variable {M':af->Prop}
theorem Jo{x:V}{d:Dv}(r:Rep K M H x d)(h:begD d=ao):Fd x=ao:=by
 cases r<;>first | rfl | exact uk h
theorem HP{x:V}{d:Dv}(r:Rep K M H x d)(h:begD d=ai):Fd x=ai:=by
 cases r<;>first | rfl | exact uk h
theorem Ff{x:V}{d:Dv}(r:Rep K M H x d)(h:Ax d=ai):(∀c,x=.ref c -> ¬M c /\ ∀v zs,Fd v=ai->H c≠aa (.lst (v::zs))) /\ ∀M':af->Prop,(∀c,x=.ref c -> ¬M' c)->Rep K M' H x d:=by
 cases r with
 |int=>exact⟨λc z=>(nomatch z),λ_ _=>.int _⟩
 | @lst a xs ds e m r=>
  have f:flatDs ds=ai:=by
   cases ds with
   |nil=>rfl
   |cons d ds=>exact(wg.mp h).2
  refine⟨λc z=>?_,λM' m'=>.lst e (m' a rfl) (r.flat f)⟩;cases z;refine⟨m,λv zs hv z=>?_⟩;rw[e] at z;cases z;cases r with
  |cons a1 _=>
   have:=Jo a1 (by have:=(wg.mp h).1;simpa using this);rw[hv] at this;cases this
 | @obj a C dx fs ds e m r=>
  refine⟨λc z=>?_,λM' m'=>.obj e (m' a rfl) (r.flat h)⟩;cases z;exact⟨m,λv zs _ z=>by rw[e] at z;cases z⟩
 |_=>exact uk h
theorem Fg(r:Reps K M H xs ds):ds.all Ax=ai->(∀c,V.ref c∈xs -> ¬M c /\ ∀v zs,Fd v=ai->H c≠aa (.lst (v::zs))) /\ ∀M':af->Prop,(∀c,V.ref c∈xs -> ¬M' c)->Reps K M' H xs ds:=
 r.ind (P:=λxs ds=>ds.all Ax=ai->(∀c,V.ref c∈xs -> ¬M c /\ ∀v zs,Fd v=ai->H c≠aa (.lst (v::zs))) /\ ∀M':af->Prop,(∀c,V.ref c∈xs -> ¬M' c)->Reps K M' H xs ds)
  (λ_=>⟨λc z=>(nomatch z),λ_ _=>.nil⟩) λx d xs ds a _ ih h=>by
   rw[Rm,cf] at h;obtain⟨h1,h3⟩:=Ff a h.1;obtain⟨i1,i2⟩:=ih h.2;refine⟨λb hb=>?_,λM' hm=>.cons (h3 M' λc z=>hm c (z ▸ de ..)) (i2 M' λb hb=>hm b (cp _ hb))⟩;rcases cr.mp hb with e | hb
   ·exact h1 b e.symm
   ·exact i1 b hb
end
section
variable {k:Nat}{y f:bf}{e1 e2 z c:Expr}{tt:jZ}{tb tr:bV}{te2:cQ}{SW:List gg}{T7 SZ ipos q1 q3 q4 q5 r1 r2 r3:gm}
theorem Dk(d:Def X.prog X.w X.K X.mg X.base k f ps (low X.K sp))(mo:MonoF sp)(hr:Room k X.A)(ha:QA X (e::es) ts)(hc:QT X c tt)(hb:QSs X T1 tb)(he:QE X e1 te)(he2:QE X e2 te2)(hz:QE X z (eC (.int 0)))(hrest:QSs X SW tr)
  (hN:X.N.Nodup) (hi:X.N[i]?=aa y) (hy:xC X.env.scope y) (hv:PE X (.Name y q1) (rC i)) (hv2:PE X (.Name y r1) (rC i))
  (hg:autoParam (Gl X f) b7._auto_1) (hdb:autoParam ((f==("__debug__" : bf))=ao) hG._auto_1) (hst0:autoParam (au (e::es) X.env=(ao,di e X.env)::au es X.env) b7._auto_1) (hpl:autoParam ((dq SX (au es X.env)).any (·.1)=ao) b7._auto_1)
  (hs0:autoParam (eh (.Call (.Name f p) (e::es) [] SX) (aa (.Name y T7)) SZ.line X.env=fo ao) b7._auto_1) (hf:autoParam (X.fn y=ai \/ X.env.scope.names.lookup y=aa .local) xA._auto_1)
  (hs1:autoParam (eh (.Call (.Attribute (.Name y q1) "append" q3) [e1] [] q4) aq q5.line X.env=fo ao) b7._auto_1)
  (hbase1:autoParam (iw (.Name y q1) "append" X.env (di (.Name y q1) X.env)=di (.Name y q1) X.env) b7._auto_1)
  (hfew1:autoParam (((dq q4 (au [e1] X.env)).all (λx=>!x.1)&&(nz q4 (jp [] X.env)).all (λx=>x.1.isSome)
   && decide ([e1].length+([]:List sy).length+(if ([]:List sy).isEmpty then 0 else 1)<30))=ai) b7._auto_1)
  (hline1:autoParam ((q3.endLine==q4.line)=ai) b7._auto_1) (hst1:autoParam (au [e1] X.env=(ao,di e1 X.env)::au [] X.env) b7._auto_1) (hplain1:autoParam ((dq q4 (au [] X.env)).any (·.1)=ao) b7._auto_1)
  (hasg:autoParam (∀v,uo (.Subscript (.Name y r1) z r2) X.env v=(do
   let ov <- ku [v] (di (.Name y r1) X.env)
   let iv <- ku [v,ov] (di z X.env)
   qp r2
   ku [v,ov,iv] (yd ov iv v)
   RO [v,ov,iv] [])) B1._auto_1)
  (hs2:autoParam (swapsWithSole [.Subscript (.Name y r1) z r2] e2 r3.line X.env=fo ao) b7._auto_1) (hw2:autoParam (swappedStores [.Subscript (.Name y r1) z r2] e2 X.env=fo aq) b7._auto_1)
  (h12:autoParam ((lz [.Subscript (.Name y r1) z r2] X.env).map (·.2)=[uo (.Subscript (.Name y r1) z r2) X.env]) b7._auto_1):
  QSs X (.Assign [.Name y T7] (.Call (.Name f p) (e::es) [] SX) SZ :: .If c T1 [] ipos :: .Expr (.Call (.Attribute (.Name y q1) "append" q3) [e1] [] q4) q5 :: .Assign [.Subscript (.Name y r1) z r2] e2 r3::SW) (oR i sp ts tt tb te te2 tr):=by
 obtain⟨fa,fd,hm,hk,hbd,FO⟩:=d.ex;refine⟨λE E' ρ w h=>?_,λHZ F=>?_⟩
 ·unfold oR at h ⊢;refine⟨h.1,ha.mono _ _ _ (λrs q=>⟨q.1,mo.mo _ _ _ (λr q=>?_) q.2⟩) h.2⟩;split at q
  ·refine⟨q.1,hc.mono _ _ _ (λb q=>?_) q.2⟩;split at q
   ·rw[SS ‹_›];exact hb.mono _ _ _ (w.with_nx λ_ h=>h) q
   ·rw[Sm ‹_›];exact⟨q.1,q.2.1,q.2.2.1,hrest.mono _ _ _ w q.2.2.2⟩
  ·exact q
 ·refine sC (jR (vP hN hi hy (BM FO hr hg hm hk hbd .nil BN (ha.run HZ F) hdb hst0 hpl) hs0 hf) (jR (E3 (hc.run HZ F) (hb.run HZ F) BG)
   (jR (rS (EJ kn ub uc qE hv (kE (he.run HZ F) qA hst1) hbase1 hfew1 hline1 hst1 hplain1) hs1)
    (jR (Iz (he2.run HZ F) (J3 hv2 (hz.run HZ F) xL hasg) hs2 hw2 h12) (hrest.run HZ F))))) λD σ H ⟨ρ,E,fr,h,en⟩=>?_
  unfold oR at h;obtain⟨il,h⟩:=h;refine ha.step fr h λrs xs H1 q S1 rr=>?_;obtain⟨⟨qf,qa⟩,q⟩:=q;have fr1:=fr.mono S1;have reps:=rr.reps (λa m=>fr.dom m) qf;obtain⟨ar,aw⟩:=Fg reps qa;rw[dr];refine⟨λb=>H1 b≠aq/\V.ref b ∉ xs,_,⟨λb z=>z.1,fr1.tab⟩,aw _ λb hb z=>z.2 hb,mo.mo _ _ _ (λr q x H2 S2 rx=>?_) q⟩;split at q
  ·rename_i d0 ds;obtain⟨hd0,q⟩:=q;have wk:∀b,MM F ρ b->(λb=>H1 b≠aq/\V.ref b ∉ xs) b:=λb z=>⟨fr1.dom z,λhb=>(ar b hb).1 z⟩;have rep:Rep X.K (MM F ρ) H2 x (.lst (d0::ds)):=(show Rep _ _ _ _ _ from rx).weak wk;cases (show Rep _ _ _ x (.lst (d0::ds)) from rx) with
   | @lst a vs _ ea na rv=>
    cases rv with
    | @cons v0 _ vs0 _ r0 rt=>
     have ha1:H1 a=aq:=by
      cases hq:H1 a with
      |none=>rfl
      |some o=>
       refine absurd ⟨(by rw[hq];exact Option.some_ne_none _),λhx=>?_⟩ na;have:=S2 _ _ hq;rw[ea] at this;cases this;exact(ar a hx).2 _ _ (HP r0 hd0) hq
     have fr2:Fr X.K HZ F (σ.set i (aa (.ref a))) H2 (ρ.set i (.v (.lst (d0::ds)))):=(fr1.mono S2).setv rep;have hsi:(σ.set i (aa (.ref a)))[i]?=aa (aa (.ref a)):=gr (by rw[fr.len];exact il);refine hc.step fr2 q λbb H3 q S3=>?_;cases bb with
     |true=>exact iO ⟨_,{ E with nx:=λ_=>False },fr2.mono S3,by simpa using q,λ_ _ _ _ z=>z.elim,en.bk,en.ct,en.rt⟩
     |false=>
      obtain⟨l1,qe,qe2,qr⟩:=(show ds.length+1<tW/\_ from by simpa using q);have fr3:=fr2.mono S3;have ea3:=S3 _ _ ea;refine iP ⟨_,hsi,.inl ⟨rfl,_,eT.of ea3⟩,he.step fr3 qe λr1 y1 H5 _ S5 _=>?_⟩;have ea5:=S5 _ _ ea3;refine⟨a,_,y1,rfl,rfl,ea5,by rw[cw,rt.length];exact qG l1,?_⟩;have ha0:=S1.free ha1;have S05:aI H H5:=S1.trans (S2.trans (S3.trans S5));have S06:aI H (upd H5 a (.lst (v0::vs0++[y1]))):=λc o e=>by
       rw[aQ (aX e ha0)];exact S05 _ _ e
      have fr6:Fr X.K HZ F (σ.set i (aa (.ref a))) (upd H5 a (.lst (v0::vs0++[y1]))) (ρ.set i .un):=(fr.mono S06).setu;refine he2.step fr6 qe2 λr2 y2 H7 _ S7 _=>?_;refine⟨_,hsi,hz.step (fr6.mono S7) (Q:=λr=>r=.v (.int 0)) rfl λr y0 H8 e0 S8 r8=>?_⟩;subst e0;cases r8;have ea8:=S8 _ _ (S7 _ _ bC);have lp:(0:Int)<((v0::vs0++[y1]).length:Nat):=by rw[Qq,cw];right
      refine⟨a,_,0,0,rfl,rfl,ea8,by unfold qX;rw[SS ∅,SS lp];rfl,?_⟩;have S09:aI H (upd H8 a (.lst ((v0::vs0++[y1]).set 0 y2))):=λc o e=>by
       rw[aQ (aX e ha0)];exact S8 _ _ (S7 _ _ (S06 _ _ e))
      exact⟨_,E,(fr.mono S09).setu,qr,en⟩
  ·exact q.elim
end
inductive DF(K:aj)(mg:bf->Option ac)(x nm:bf)(st:gg):Prop
 |mk {f:af} {od an:Option af} {sl:Array (Option ac)} {oc kV dc pm cd ct:ac} (a:mg x=aa (.ref f))
  (l:K.lookup f=aa ⟨oc,od,.func (oa nm nm (i7 st) (cM st) (aB st) .none kV dc pm an cd ct),sl⟩) (c:rh K cd nm=ai) (k:ic K (.ref f)=ai)
inductive MF(K:aj)(C:af)(m qual:bf)(st:gg):Prop
 |mk {f:af} {od an:Option af} {sl:Array (Option ac)} {oc kV dc pm cd ct:ac} (a:kf K (.ref C) m=aa (aa (.ref f))) (i:SD K (.ref f)=ai)
  (l:K.lookup f=aa ⟨oc,od,.func (oa m qual (i7 st) (cM st) (aB st) .none kV dc pm an cd ct),sl⟩) (c:rh K cd qual=ai) (k:ic K (.ref f)=ai)
noncomputable abbrev Az(x SV:bf)(st:gg)(ps:List bf):Prop:=∀(kV doc pm:ac) (an:Option af) (cdv ct:ac) (us:List ac),us.length=ps.length->Sk (oa x SV (i7 st) (cM st) (aB st) .none kV doc pm an cdv ct) ⟨us,[]⟩=fo (ps.zip us)
theorem PP{p:List ac->Prop}(h:∀(a:ac) (us:List ac),us.length=n->p (a::us)):∀us:List ac,us.length=n+1->p us
 | [],e=>by cases e
 |a::us,e=>h a us (Nat.succ.inj e)
theorem PQ{p:List ac->Prop}(h:p []):∀us:List ac,us.length=0->p us
 | [],_=>h
 |_::_,e=>by cases e
theorem DF.at{x nm:bf}(d:DF K mg x nm st)(h:Az nm nm st ps:=by intro _ _ _ _ _ _;(repeat refine Z.PP λ_=>?_);exact Z.PQ rfl):At K mg x nm st ps:=by
 obtain⟨a,l,c,k⟩:=d;have F:=wG l c k;exact⟨_,_,a,F,F.binds h⟩
theorem MF.at{m:bf}(d:MF K C m SV st)(h:Az m SV st ps:=by intro _ _ _ _ _ _;(repeat refine Z.PP λ_=>?_);exact Z.PQ rfl):MAt K C m SV st ps:=by
 obtain⟨a,i,l,c,k⟩:=d;have F:=wG l c k;exact⟨_,_,⟨a,i,k⟩,F,F.binds h⟩
theorem MF.ini{x:bf}(d:MF K C "__init__" SV st)(e:mg x=aa (.ref C))(mk:ze K C=ai)(kc:ic K (.ref C)=ai)
  (h:Az "__init__" SV st ps:=by intro _ _ _ _ _ _;(repeat refine Z.PP λ_=>?_);exact Z.PQ rfl):IAt K mg x C SV st ps:=by
 obtain⟨a,i,l,c,k⟩:=d;have F:=wG l c k;exact⟨_,_,⟨mk,a,i,kc⟩,e,F,F.binds h⟩
theorem QU{x:bf}{n:Int}{t:SR}(h:mg x=aa (.int n t)):∃t,mg x=aa (.int n t):=⟨_,h⟩
end Z
namespace Z
theorem Q1:type_of% @Ly.eq_1:=@Ly.eq_1
theorem Nd:type_of% @AA.eq_1:=@AA.eq_1
theorem Kr:type_of% @Dc.eq_1:=@Dc.eq_1
theorem Ia:type_of% @xM.eq_1:=@xM.eq_1
theorem Oz:type_of% @Lu.eq_1:=@Lu.eq_1
theorem Nj:type_of% @Bu.eq_1:=@Bu.eq_1
theorem MU:type_of% @sS.eq_1:=@sS.eq_1
theorem N2:type_of% @z8.eq_1:=@z8.eq_1
theorem Nf:type_of% @Ko.eq_1:=@Ko.eq_1
theorem N1:type_of% @kU.eq_1:=@kU.eq_1
theorem P9:type_of% @FT.eq_1:=@FT.eq_1
theorem Kl:type_of% @hU.eq_1:=@hU.eq_1
theorem Nl:type_of% @Kt.eq_1:=@Kt.eq_1
theorem KH:type_of% @BX.eq_1:=@BX.eq_1
theorem Lk:type_of% @wD.eq_1:=@wD.eq_1
theorem Mx:type_of% @BW.eq_1:=@BW.eq_1
theorem P7:type_of% @HW.eq_1:=@HW.eq_1
theorem P6:type_of% @Lv.eq_1:=@Lv.eq_1
theorem Nb:type_of% @aN.eq_1:=@aN.eq_1
theorem MR:type_of% @bN.eq_1:=@bN.eq_1
theorem Ks:type_of% @Dd.eq_1:=@Dd.eq_1
theorem MT:type_of% @Hy.eq_1:=@Hy.eq_1
theorem Kn:type_of% @fU.eq_1:=@fU.eq_1
theorem MS:type_of% @xO.eq_1:=@xO.eq_1
theorem Nc:type_of% @bR.eq_1:=@bR.eq_1
theorem MQ:type_of% @Hx.eq_1:=@Hx.eq_1
theorem Pg:type_of% @iB.eq_1:=@iB.eq_1
theorem Na:type_of% @cC.eq_1:=@cC.eq_1
theorem MO:type_of% @kT.eq_1:=@kT.eq_1
theorem Ng:type_of% @Kp.eq_1:=@Kp.eq_1
theorem Lo:type_of% @freeze.eq_1:=@freeze.eq_1
theorem Nk:type_of% @Bv.eq_1:=@Bv.eq_1
theorem Nm:type_of% @tY.eq_1:=@tY.eq_1
theorem MP:type_of% @Hw.eq_1:=@Hw.eq_1
theorem Nh:type_of% @fK.eq_1:=@fK.eq_1
theorem Ow:type_of% @a8.eq_1:=@a8.eq_1
theorem QY:type_of% @eC.eq_1:=@eC.eq_1
theorem N4:type_of% @a9.eq_1:=@a9.eq_1
theorem P3:type_of% @aF.eq_1:=@aF.eq_1
theorem Py:type_of% @aL.eq_1:=@aL.eq_1
theorem My:type_of% @b6.eq_1:=@b6.eq_1
theorem PB:type_of% @uC.eq_1:=@uC.eq_1
theorem Px:type_of% @rY.eq_1:=@rY.eq_1
theorem P1:type_of% @i6.eq_1:=@i6.eq_1
theorem N7:type_of% @mY.eq_1:=@mY.eq_1
theorem P0:type_of% @HV.eq_1:=@HV.eq_1
theorem N0:type_of% @z7.eq_1:=@z7.eq_1
theorem Pz:type_of% @N3.eq_1:=@N3.eq_1
theorem Ox:type_of% @i5.eq_1:=@i5.eq_1
theorem P5:type_of% @jU.eq_1:=@jU.eq_1
theorem P4:type_of% @FS.eq_1:=@FS.eq_1
theorem Oy:type_of% @gH.eq_1:=@gH.eq_1
theorem N6:type_of% @aU.eq_1:=@aU.eq_1
theorem PN:type_of% @back.eq_1:=@back.eq_1
theorem Q3:type_of% @gC.eq_1:=@gC.eq_1
theorem P8:type_of% @qJ.eq_1:=@qJ.eq_1
theorem N5:type_of% @hX.eq_1:=@hX.eq_1
theorem MN:type_of% @dS.eq_1:=@dS.eq_1
theorem Pw:type_of% @FR.eq_1:=@FR.eq_1
theorem Mz:type_of% @lN.eq_1:=@lN.eq_1
theorem KL:type_of% @fZ.eq_1:=@fZ.eq_1
theorem Om:type_of% @kJ.eq_1:=@kJ.eq_1
theorem KJ:type_of% @cZ.eq_1:=@cZ.eq_1
theorem KI:type_of% @pD.eq_1:=@pD.eq_1
theorem QR:type_of% @gN.eq_1:=@gN.eq_1
theorem QQ:type_of% @gT.eq_1:=@gT.eq_1
theorem Kj:type_of% @aJ.eq_1:=@aJ.eq_1
theorem M0:type_of% @qK.eq_1:=@qK.eq_1
theorem MX:type_of% @dM.eq_1:=@dM.eq_1
end Z
local macro_rules | `(tactic| push_cast [$xs,*])=>do
  let a:Array (Lean.TSyntax `Lean.Parser.Tactic.simpLemma) <- (("Q1 Nd Kr Ia OD Oz MZ Nj MU N2 Nf N1 P9 Kl Kk Nl LV LR LS KH Lk Mx P7 P6 Nb MR Ks MT Kn MS Nc MQ Pg Na MO Ng Lo Nk Nm MP Nh Ow QY N4 P3 Py My PB Px P1 N7 P0 N0 Pz Ox P5 P4 Oy N6 PN Q3 P8 N5 MN Pw Mz KL Om KJ KI QR QQ Kj M0 Mu MY Mi Mr LY Mj LN Ma Mt Ms Mh OH OE Mb OF Mc OI O5 OJ O6 Mn Md Mq Mg Mo Me Mp Mf Pn Pk Pl Pj Pi Ph OB O9 OA OM O7 O8 LL LK Mm Ml OL O3 iU h7 MX reduceIte Z.Lz Z.B8 Z.G9 Z.B9 Z.Lx Z.Bd Z.KC Z.JJ Z.OC Z.sR Z.Hv Z.vK Z.IC Z.oR Z.Hu".splitOn " ").toArray.mapM λn=>`(Lean.Parser.Tactic.simpLemma| ↓ $(Lean.mkIdent n.toName):term))
  let b:Array (Lean.TSyntax `Lean.Parser.Tactic.simpLemma) <- (("Qi Qk Qj QZ Qb Qa Qf Qh Qg Qc Qe Qd Ou bE aS Oj Mw Pr Pv Pu Pp Po Ps Pq NK NG NJ NH NE NI NF MA Q7 Q6 Q5 Q4 Oi Oh Og Of Oe Od Oc Ob Oa OZ OY OX OW OV OU beq_self_eq_true List.getElem?_cons_zero List.getElem?_cons_succ List.set_cons_zero List.set_cons_succ List.map_cons List.map_nil List.cons_append List.nil_append List.append_nil List.length_cons List.length_nil List.replicate_succ List.replicate_zero List.all_cons List.all_nil Option.getD_some Bool.and_true Bool.true_and if_true Bool.false_eq_true if_false true_and and_true true_or decide_eq_true_eq decide_true decide_false Bool.not_true Bool.not_false List.not_mem_nil false_imp_iff implies_true lH Nat.reduceSub Nat.reduceAdd Int.reduceEq Int.reduceMul Int.reduceAdd Int.reduceSub Int.reduceNeg Z.guard Int.reduceLT Int.reduceLE Int.reduceToNat Int.reducePow Nat.reduceLT Nat.reduceLeDiff Nat.reducePow tW".splitOn " ").toArray.mapM λn=>`(Lean.Parser.Tactic.simpLemma| $(Lean.mkIdent n.toName):term))
  `(tactic| simp only[$a,*,$b,*,$xs,*])
local macro_rules | `(tactic| ac_nf)=>`(tactic| push_cast [Z.lH])
namespace Lw
open L2 Z
noncomputable def top(i:Nat):gg:=jt.main.body.getD i (.Pass ⟨0,0,0,0⟩)
noncomputable abbrev nE:bV:=
 (bR (mY (qJ "int" (a8 0)) (z7 (qJ "bool" (a8 0)))))
variable {bZ cU bL bA c5 bM aW aV:Fn}{aO:af}{bT:n4}
section
local macro_rules | `(tactic| norm_cast)=>`(tactic| exact⟨rfl,rfl,rfl,by decide +kernel,rfl,by decide +kernel,by decide +kernel⟩)
theorem zG(P:ay)(w:bg)(mg:bf->Option ac)(base:br)(m:At K mg "is_whole" "is_whole" (top 6) ["thing"])(aK:mg "isinstance" = aq)(oF:mg "int" = aq)(pQ:mg "bool" = aq)(len:∀ds Q,sp ds Q->ds.length=1)(hsp:∀ds Q,sp ds Q->nE  ↥Q (aJ ["thing"] ds)):DefH P w K mg base 1 "is_whole" ["thing"] (low K sp):=by
 have sc:FnScope ["thing"] ["thing"] (aB (top 6)):=by norm_cast
 refine m.okH (k:=0) (t:=nE ) sc (λf cdv A outer s H E hr=>?_) len hsp
 ·
  exact(aG (bD (sU (mU (.inl rfl) rfl aK (a7 0 (pv 0)) (gP (v:=.ty "int") rfl oF Sr rfl)) (qS (IA (mU (.inr (.inl rfl)) rfl aK (a7 0 (pv 0)) (gP (v:=.ty "bool") rfl pQ boot_bool rfl)))))))
noncomputable abbrev n5:bV:=
 (aN (cC 1 (i5 (a9 (aL dB (a8 0) (eC (.int 0))) (a9 (aL dB (a8 0) (eC (.int 1))) aF))))
 (aN (cC 2 (i5 (a9 (aL dB (a8 0) (eC (.int 1))) (a9 (aL dB (a8 0) (eC (.int 0))) aF))))
 (aN (iB (b6 (aL u7 (aL dB (a8 0) (eC (.int 2))) (eC (.str "brace")))) (bR (jU (a9 (a8 1) (a9 (a8 2) aF)))) bN)
 (bR (N3 (b6 (aL u7 (aL dB (a8 0) (eC (.int 2))) (eC (.str "more")))) (jU (a9 (a8 1) aF)) (jU (a9 (a8 2) aF)))))))
theorem z9(P:ay)(w:bg)(mg:bf->Option ac)(base:br)(m:At K mg "pulls_of" "pulls_of" (top 11) ["hold"])(len:∀ds Q,sp ds Q->ds.length=1)(hsp:∀ds Q,sp ds Q->n5  ↥Q (aJ ["hold", "there", "back"] ds)):DefH P w K mg base 1 "pulls_of" ["hold"] (low K sp):=by
 have sc:FnScope ["hold", "there", "back"] ["hold"] (aB (top 11)):=by norm_cast
 refine m.okH (k:=0) (t:=n5 ) sc (λf cdv A outer s H E hr=>?_) len hsp
 ·
  have hu:=hr.units;have hu1:=dW hr;exact(aE (cE (i:=1) sc.nd rfl (.inl rfl) (j4 (aA (c6 hu1 (a7 0 (pv 0)) aH) (aA (c6 hu1 (a7 0 (pv 0)) aH) aD))))
 (aE (cE (i:=2) sc.nd rfl (.inl rfl) (j4 (aA (c6 hu1 (a7 0 (pv 0)) aH) (aA (c6 hu1 (a7 0 (pv 0)) aH) aD))))
 (aE (dZ (b8 (jE hu) (c6 hu1 (a7 0 (pv 0)) aH) jQ) (aG (bD (iK (aA (a7 1 (pv 1)) (aA (a7 2 (pv 2)) aD))))) bJ)
 (aG (bD (GG (b8 (jE hu) (c6 hu1 (a7 0 (pv 0)) aH) jQ) (iK (aA (a7 1 (pv 1)) aD)) (iK (aA (a7 2 (pv 2)) aD))))))))
noncomputable abbrev j9:bV:=
 (iB (uC (b6 (aL u7 (a8 5) (a8 4))) (b6 (aL p9 (a8 6) (a8 2)))) (aN (B8 2 (a8 6) (a8 4))
 (tY 3 (a8 6))) bN)
noncomputable abbrev zS:bV:=
 (aN (G9 3 4)
 (fK (kJ (a8 0)) (gT [5,6]) j9))
noncomputable abbrev pR:bV:=
 (aN (kT 2 (Lz (a8 1)))
 (aN (kT 3 (jU (a9 (a8 1) aF)))
 (aN (Db (gH (a8 3)) zS)
 (bR (a8 2)))))
theorem Am(P:ay)(w:bg)(mg:bf->Option ac)(base:br)(m:At K mg "reached" "reached" (top 14) ["arrows", "start"])(len:∀ds Q,sp ds Q->ds.length=2)(hsp:∀ds Q,sp ds Q->pR  ↥Q (aJ ["arrows", "start", "told", "waiting", "band", "x", "y"] ds)):Def P w K mg base 1 "reached" ["arrows", "start"] (low K sp):=by
 have sc:FnScope ["arrows", "start", "told", "waiting", "band", "x", "y"] ["arrows", "start"] (aB (top 14)):=by norm_cast
 refine m.okP (k:=0) (t:=pR ) sc (λf cdv A outer s H E hr=>?_) len hsp
 ·
  have hu:=hr.units;have hu1:=dW hr;exact(aE (kB (i:=2) sc.nd rfl (.inl rfl) (L6 (a7 1 (pv 1))))
 (aE (kB (i:=3) sc.nd rfl (.inl rfl) (iK (aA (a7 1 (pv 1)) aD)))
 (aE (GF da (cL (a7 3 (pv 3))) (aE (L0 (i:=3) (j:=4) (pv 3) sc.nd rfl (.inl rfl))
 (aG (eN da rfl (eZ (a7 0 (pv 0))) (Dm (k:=7) (is:=[5,6]) rfl (e7 (eR (i:=5) sc.nd rfl (.inl rfl)) (e7 (eR (i:=6) sc.nd rfl (.inl rfl)) p6))) (aG (dZ (QW.qt (nF (b8 (jE hu) (a7 5 (pv 5)) (a7 4 (pv 4))) (kA (b8 (AT hu1) (a7 6 (pv 6)) (a7 2 (pv 2)))))) (aE (Ij hu1 (i:=2) (pv 2) (a7 6 (pv 6)) (a7 4 (pv 4)))
 (aG (BE (i:=3) (pv 3) (a7 6 (pv 6))))) bJ))))))
 (aG (bD (a7 2 (pv 2)))))))
noncomputable abbrev iG:bV:=
 (bR (hX 2 [] (kJ (a8 0)) (gT [0,1]) dS (i5 (a9 (a8 1) (a9 (a8 0) aF)))))
theorem rL(P:ay)(w:bg)(mg:bf->Option ac)(base:br)(m:At K mg "turned_round" "turned_round" (top 15) ["arrows"])(len:∀ds Q,sp ds Q->ds.length=1)(hsp:∀ds Q,sp ds Q->iG  ↥Q (aJ ["arrows"] ds)):Def P w K mg base 1 "turned_round" ["arrows"] (low K sp):=by
 have sc:FnScope ["arrows"] ["arrows"] (aB (top 15)):=by norm_cast
 refine m.okP (k:=0) (t:=iG ) sc (λf cdv A outer s H E hr=>?_) len hsp
 ·
  exact(aG (bD (xT ["x", "y"] [] [] rfl (eZ (a7 0 (pv 0))) (λfp s H=>(Dm (k:=2) (is:=[0,1]) rfl (e7 (eR (i:=0) (show lb (["x", "y"]:List bf) by decide +kernel) rfl (.inl rfl)) (e7 (eR (i:=1) (show lb (["x", "y"]:List bf) by decide +kernel) rfl (.inl rfl)) p6)))) (λfp s H=>hZ) (λfp s H=>(j4 (aA (a7 1 (pv 1)) (aA (a7 0 (pv 0)) aD)))))))
noncomputable abbrev eW(bZ:Fn):bV:=
 (aN (iB (rY (i6 (gH (qJ "tuple" (a8 0)))) (b6 (aL vT (gC dA (a9 (a8 0) aF)) (eC (.int 3))))) (bR (eC (.bl ao))) bN)
 (bR (gC EO (a9 (hX 1 [] (kJ (a8 0)) (gN 0) dS (aU bZ (a9 (a8 0) aF))) aF))))
theorem mQ(P:ay)(w:bg)(mg:bf->Option ac)(base:br)(m:At K mg "has_three_wholes" "has_three_wholes" (top 23) ["direction"])(aK:mg "isinstance" = aq)(eD:mg "tuple" = aq)(aZ:mg "len" = aq)(DQ:mg "all" = aq)(o8:Def P w K mg base 1 "is_whole" ["thing"] (low K bZ))(j6:MonoF bZ)(len:∀ds Q,sp ds Q->ds.length=1)(hsp:∀ds Q,sp ds Q->eW bZ ↥Q (aJ ["direction"] ds)):Def P w K mg base 2 "has_three_wholes" ["direction"] (low K sp):=by
 have sc:FnScope ["direction"] ["direction"] (aB (top 23)):=by norm_cast
 refine m.okP (k:=1) (t:=eW bZ) sc (λf cdv A outer s H E hr=>?_) len hsp
 ·
  have hu:=hr.units;exact(aE (dZ (QW.qt (fB (d9 (cL (mU (.inr (.inr (.inl rfl))) rfl aK (a7 0 (pv 0)) (gP (v:=.ty "tuple") rfl eD vb rfl)))) (gF (b8 (jD hu) (b5 c7 rfl aZ fb (aA (a7 0 (pv 0)) aD)) aH)))) (aG (bD jC)) bJ)
 (aG (bD (b5 (Ju rfl) rfl DQ boot_all (aA (xT ["part"] [] [] rfl (eZ (a7 0 (pv 0))) (λfp s H=>(gB (i:=0) (k:=1) (show lb (["part"]:List bf) by decide +kernel) rfl (.inl rfl))) (λfp s H=>hZ) (λfp s H=>(b9 o8 j6 (hr.mono ∅) (aA (a7 0 (pv 0)) aD)))) aD)))))
noncomputable abbrev fQ:bV:=
 (bR (mY (aL LP (gC CL (a9 (aL dB (a8 0) (eC (.int 0))) aF)) (eC (.int 999999999999))) (aL LP (gC CL (a9 (aL dB (a8 0) (eC (.int 1))) aF)) (eC (.int 999999999999)))))
theorem nV(P:ay)(w:bg)(mg:bf->Option ac)(base:br)(m:At K mg "has_few_figures" "has_few_figures" (top 24) ["direction"])(B3:mg "abs" = aq)(fO:∃t,mg "LARGEST_PART" = aa (.int 999999999999 t))(len:∀ds Q,sp ds Q->ds.length=1)(hsp:∀ds Q,sp ds Q->fQ  ↥Q (aJ ["direction"] ds)):Def P w K mg base 1 "has_few_figures" ["direction"] (low K sp):=by
 have sc:FnScope ["direction"] ["direction"] (aB (top 24)):=by norm_cast
 refine m.okP (k:=0) (t:=fQ ) sc (λf cdv A outer s H E hr=>?_) len hsp
 ·
  have hu1:=dW hr;exact(aG (bD (sU (mV ER (b5 Fa rfl B3 boot_abs (aA (c6 hu1 (a7 0 (pv 0)) aH) aD)) (oY fO)) (qS (mV ER (b5 Fa rfl B3 boot_abs (aA (c6 hu1 (a7 0 (pv 0)) aH) aD)) (oY fO))))))
noncomputable abbrev l6:bV:=
 (bR (HV (aL Fu (aL dB (a8 0) (eC (.int 1))) (eC (.int 0))) (mY (aL u7 (aL dB (a8 0) (eC (.int 1))) (eC (.int 0))) (aL Fu (aL dB (a8 0) (eC (.int 0))) (eC (.int 0))))))
theorem wI(P:ay)(w:bg)(mg:bf->Option ac)(base:br)(m:At K mg "points_up" "points_up" (top 25) ["direction"])(len:∀ds Q,sp ds Q->ds.length=1)(hsp:∀ds Q,sp ds Q->l6  ↥Q (aJ ["direction"] ds)):Def P w K mg base 1 "points_up" ["direction"] (low K sp):=by
 have sc:FnScope ["direction"] ["direction"] (aB (top 25)):=by norm_cast
 refine m.okP (k:=0) (t:=l6 ) sc (λf cdv A outer s H E hr=>?_) len hsp
 ·
  have hu:=hr.units;have hu1:=dW hr;exact(aG (bD (O2 (mV nL (c6 hu1 (a7 0 (pv 0)) aH) aH) (qS (sU (mV (jE hu) (c6 hu1 (a7 0 (pv 0)) aH) aH) (qS (mV nL (c6 hu1 (a7 0 (pv 0)) aH) aH)))))))
noncomputable abbrev l7:bV:=
 (bR (aL Fu (aL nK (aL eE (aL dB (a8 1) (eC (.int 0))) (aL dB (a8 0) (eC (.int 1)))) (aL eE (aL dB (a8 0) (eC (.int 0))) (aL dB (a8 1) (eC (.int 1))))) (eC (.int 0))))
theorem wJ(P:ay)(w:bg)(mg:bf->Option ac)(base:br)(m:At K mg "lies_left" "lies_left" (top 26) ["direction", "ahead"])(len:∀ds Q,sp ds Q->ds.length=2)(hsp:∀ds Q,sp ds Q->l7  ↥Q (aJ ["direction", "ahead"] ds)):Def P w K mg base 1 "lies_left" ["direction", "ahead"] (low K sp):=by
 have sc:FnScope ["direction", "ahead"] ["direction", "ahead"] (aB (top 26)):=by norm_cast
 refine m.okP (k:=0) (t:=l7 ) sc (λf cdv A outer s H E hr=>?_) len hsp
 ·
  have hu1:=dW hr;exact(aG (bD (mV nL (bF mD (bF cX (c6 hu1 (a7 1 (pv 1)) aH) (c6 hu1 (a7 0 (pv 0)) aH)) (bF cX (c6 hu1 (a7 0 (pv 0)) aH) (c6 hu1 (a7 1 (pv 1)) aH))) aH)))
noncomputable abbrev fR(c9 cJ fE:Fn):bV:=
 (aN (iB (i6 (gH (aU c9 (a9 (a8 0) aF)))) fU bN)
 (aN (iB (i6 (gH (aU cJ (a9 (a8 0) aF)))) fU bN)
 (aN (iB (i6 (gH (aU fE (a9 (a8 0) aF)))) fU bN)
 (iB (b6 (aL AR (aL dB (a8 0) (eC (.int 2))) (eC (.int 1)))) fU bN))))
theorem nX(P:ay)(w:bg)(mg:bf->Option ac)(base:br){c9 cJ fE:Fn}(m:At K mg "check_direction" "check_direction" (top 27) ["direction"])(f8:Def P w K mg base 2 "has_three_wholes" ["direction"] (low K c9))(mO:MonoF c9)(g4:Def P w K mg base 1 "has_few_figures" ["direction"] (low K cJ))(nP:MonoF cJ)(lO:Def P w K mg base 1 "points_up" ["direction"] (low K fE))(vX:MonoF fE)(len:∀ds Q,sp ds Q->ds.length=1)(hsp:∀ds Q,sp ds Q->fR c9 cJ fE ↥Q (aJ ["direction"] ds)):Def P w K mg base 3 "check_direction" ["direction"] (low K sp):=by
 have sc:FnScope ["direction"] ["direction"] (aB (top 27)):=by norm_cast
 refine m.okP (k:=2) (t:=fR c9 cJ fE) sc (λf cdv A outer s H E hr=>?_) len hsp
 ·
  have hu1:=dW hr;exact(aE (dZ (d9 (cL (b9 f8 mO (hr.mono ∅) (aA (a7 0 (pv 0)) aD)))) (aG fV) bJ)
 (aE (dZ (d9 (cL (b9 g4 nP (hr.mono ∅) (aA (a7 0 (pv 0)) aD)))) (aG fV) bJ)
 (aE (dZ (d9 (cL (b9 lO vX (hr.mono ∅) (aA (a7 0 (pv 0)) aD)))) (aG fV) bJ)
 (aG (dZ (b8 iN (c6 hu1 (a7 0 (pv 0)) aH) aH) (aG fV) bJ)))))
noncomputable abbrev h9(bG cO:Fn):bV:=
 (xO (aU bG (a9 (a8 1) aF)))
noncomputable abbrev eA(bG cO:Fn):bV:=
 (iB (i6 (gH (aU cO (a9 (a8 1) (a9 (a8 2) aF))))) fU bN)
noncomputable abbrev eX(bG cO:Fn):bV:=
 (aN (iB (i6 (gH (qJ "list" (a8 0)))) fU bN)
 (aN (iB (i6 (b6 (qK LP LP (eC (.int 2)) (gC dA (a9 (a8 0) aF)) (eC (.int 6))))) fU bN)
 (aN (fK (kJ (a8 0)) (gN 1) (h9 bG cO))
 (aN (iB (b6 (aL Fu (gC EM (a9 (hX 1 [] (kJ (a8 0)) (gN 0) dS (aL dB (a8 0) (eC (.int 2)))) aF)) (eC (.int 12)))) fU bN)
 (fK (BW (a9 (a8 0) (a9 (FR (a8 0) (lN (eC (.int 1))) fZ) aF))) (gT [2,1]) (eA bG cO))))))
theorem mR(P:ay)(w:bg)(mg:bf->Option ac)(base:br){bG cO:Fn}(m:At K mg "check_directions" "check_directions" (top 28) ["directions"])(aK:mg "isinstance" = aq)(eV:mg "list" = aq)(aZ:mg "len" = aq)(DN:mg "sum" = aq)(DM:mg "zip" = aq)(eO:∃t,mg "FEWEST_DIRECTIONS" = aa (.int 2 t))(fN:∃t,mg "MOST_DIRECTIONS" = aa (.int 6 t))(k4:∃t,mg "MOST_BANDS" = aa (.int 12 t))(g5:Def P w K mg base 3 "check_direction" ["direction"] (low K bG))(nQ:MonoF bG)(lP:Def P w K mg base 1 "lies_left" ["direction", "ahead"] (low K cO))(vY:MonoF cO)(len:∀ds Q,sp ds Q->ds.length=1)(hsp:∀ds Q,sp ds Q->eX bG cO ↥Q (aJ ["directions", "direction", "ahead"] ds)):Def P w K mg base 4 "check_directions" ["directions"] (low K sp):=by
 have sc:FnScope ["directions", "direction", "ahead"] ["directions"] (aB (top 28)):=by norm_cast
 refine m.okP (k:=3) (t:=eX bG cO) sc (λf cdv A outer s H E hr=>?_) len hsp
 ·
  have hu1:=dW hr;exact(aE (dZ (d9 (cL (mU (.inr (.inr (.inr (.inl rfl)))) rfl aK (a7 0 (pv 0)) (gP (v:=.ty "list") rfl eV wr rfl)))) (aG fV) bJ)
 (aE (dZ (d9 (Dj BO BO (oY eO) (b5 c7 rfl aZ fb (aA (a7 0 (pv 0)) aD)) (oY fN))) (aG fV) bJ)
 (aE (eN da rfl (eZ (a7 0 (pv 0))) (gB (i:=1) (k:=3) sc.nd rfl (.inl rfl)) (aG (Do (b9 g5 nQ (hr.mono ∅) (aA (a7 1 (pv 1)) aD)))))
 (aE (dZ (b8 nL (b5 (Jt rfl) rfl DN boot_sum (aA (xT ["direction"] [] [] rfl (eZ (a7 0 (pv 0))) (λfp s H=>(gB (i:=0) (k:=1) (show lb (["direction"]:List bf) by decide +kernel) rfl (.inl rfl))) (λfp s H=>hZ) (λfp s H=>(c6 hu1 (a7 0 (pv 0)) aH))) aD)) (oY k4)) (aG fV) bJ)
 (aG (eN da rfl (Il rfl DM (aA (a7 0 (pv 0)) (aA (oX (a7 0 (pv 0)) (oV aH) oW) aD))) (Dm (k:=3) (is:=[2,1]) rfl (e7 (eR (i:=2) sc.nd rfl (.inl rfl)) (e7 (eR (i:=1) sc.nd rfl (.inl rfl)) p6))) (aG (dZ (d9 (cL (b9 lP vY (hr.mono ∅) (aA (a7 1 (pv 1)) (aA (a7 2 (pv 2)) aD))))) (aG fV) bJ))))))))
noncomputable abbrev pM(C:af)(bQ:Fn):bV:=
 (Bu 2 (aL eE (jU (a9 (a8 3) aF)) (aL dB (a8 4) (eC (.int 2)))))
noncomputable abbrev A5(C:af)(bQ:Fn):bV:=
 (aN (xO (aU bQ (a9 (a8 1) aF)))
 (aN (kT 2 (jU aF))
 (aN (fK (wD (a9 (a8 1) aF)) (gT [3,4]) (pM C bQ))
 (aN (sS C 0 "kinds" (gC nJ (a9 (a8 2) aF)))
 (sS C 0 "vectors" (gC nJ (a9 (hX 1 [] (kJ (a8 1)) (gN 0) dS (i5 (a9 (aL dB (a8 0) (eC (.int 0))) (a9 (aL dB (a8 0) (eC (.int 1))) aF)))) aF)))))))
theorem Ha(P:ay)(w:bg)(mg:bf->Option ac)(base:br){bQ:Fn}(m:IAt K mg "Sides" C "Sides.__init__" (eG (top 29) 0) ["self", "directions"])(kY:mg "enumerate" = aq)(eD:mg "tuple" = aq)(cl:Cls K C)(i3:hV K C "kinds")(qD:hV K C "vectors")(f9:Def P w K mg base 4 "check_directions" ["directions"] (low K bQ))(mP:MonoF bQ)(len:∀ds Q,sp ds Q->ds.length+1=2)(hsp:∀ds Q,sp ds Q -> ∀a,A5 C bQ { nx:=λρ=>∃d,ρ[0]?=aa (.own a d)/\Q (.nw d),rt:=λ_=>False } (hU C a ["self", "directions", "kinds", "number", "direction"] ds)):IDef P w K mg base 5 "Sides" C ["self", "directions"] sp:=by
 have sc:FnScope ["self", "directions", "kinds", "number", "direction"] ["self", "directions"] (aB (eG (top 29) 0)):=by norm_cast
 refine m.okP (k:=4) (t:=A5 C bQ) sc (λf cdv A outer s H E hr=>?_) len hsp
 ·
  have hu1:=dW hr;exact(aE (Do (b9 f9 mP (hr.mono ∅) (aA (a7 1 (pv 1)) aD)))
 (aE (kB (i:=2) sc.nd rfl (.inl rfl) (iK aD))
 (aE (eN da rfl (GH rfl kY (aA (a7 1 (pv 1)) aD)) (Dm (k:=5) (is:=[3,4]) rfl (e7 (eR (i:=3) sc.nd rfl (.inl rfl)) (e7 (eR (i:=4) sc.nd rfl (.inl rfl)) p6))) (aG (L5 (i:=2) (pv 2) (bF cX (iK (aA (a7 3 (pv 3)) aD)) (c6 hu1 (a7 4 (pv 4)) aH)))))
 (aE (Dq (i:=0) cl i3 (pv 0) (oZ zO rfl eD vb (aA (a7 2 (pv 2)) aD)))
 (aG (Dq (i:=0) cl qD (pv 0) (oZ zO rfl eD vb (aA (xT ["direction"] [] [] rfl (eZ (a7 1 (pv 1))) (λfp s H=>(gB (i:=0) (k:=1) (show lb (["direction"]:List bf) by decide +kernel) rfl (.inl rfl))) (λfp s H=>hZ) (λfp s H=>(j4 (aA (c6 hu1 (a7 0 (pv 0)) aH) (aA (c6 hu1 (a7 0 (pv 0)) aH) aD))))) aD))))))))
noncomputable abbrev A3(C:af):bV:=
 (bR (gC dA (a9 (FT C "kinds" (a8 0)) aF)))
theorem HX(P:ay)(w:bg)(mg:bf->Option ac)(base:br)(m:MAt K C "many" "Sides.many" (eG (top 29) 1) ["self"])(aZ:mg "len" = aq)(cl:Cls K C)(i3:hV K C "kinds")(len:∀ds Q,sp ds Q->ds.length=1)(hsp:∀ds Q,sp ds Q->A3 C  ↥Q (aJ ["self"] ds)):MDefH P w K mg base 1 C "many" ["self"] (low K sp):=by
 have sc:FnScope ["self"] ["self"] (aB (eG (top 29) 1)):=by norm_cast
 refine m.okH (k:=0) (t:=A3 C ) sc (λf cdv A outer s H E hr=>?_) len hsp
 ·
  exact(aG (bD (b5 c7 rfl aZ fb (aA (IB cl i3 (a7 0 (pv 0))) aD))))
noncomputable abbrev A4(C:af):bV:=
 (bR (aL dB (FT C "kinds" (a8 0)) (a8 1)))
theorem HY(P:ay)(w:bg)(mg:bf->Option ac)(base:br)(m:MAt K C "kind" "Sides.kind" (eG (top 29) 2) ["self", "band"])(cl:Cls K C)(i3:hV K C "kinds")(len:∀ds Q,sp ds Q->ds.length=2)(hsp:∀ds Q,sp ds Q->A4 C  ↥Q (aJ ["self", "band"] ds)):MDefH P w K mg base 1 C "kind" ["self", "band"] (low K sp):=by
 have sc:FnScope ["self", "band"] ["self", "band"] (aB (eG (top 29) 2)):=by norm_cast
 refine m.okH (k:=0) (t:=A4 C ) sc (λf cdv A outer s H E hr=>?_) len hsp
 ·
  have hu1:=dW hr;exact(aG (bD (c6 hu1 (IB cl i3 (a7 0 (pv 0))) (a7 1 (pv 1)))))
noncomputable abbrev pT(C:af)(cU oA bZ:Fn):bV:=
 (aN (iB (rY (i6 (gH (aU bZ (a9 (a8 1) aF)))) (i6 (gH (aU bZ (a9 (a8 2) aF))))) (bR (eC (.bl ao))) bN)
 (bR (mY (Bd (λi j=>decide (i<=j)) (λi j=>decide (i<j)) (λi j=>decide (i<j)) (eC (.int 0)) (a8 1) (a8 2) (kU C "many" cU (a8 0) aF)) (aL vT (kU C "kind" oA (a8 0) (a9 (a8 1) aF)) (kU C "kind" oA (a8 0) (a9 (a8 2) aF))))))
theorem Ao(P:ay)(w:bg)(mg:bf->Option ac)(base:br){oA:Fn}(m:At K mg "is_pair" "is_pair" (top 9) ["sides", "a", "b"])(cl:Cls K C)(gZ:DefH P w K mg base 1 "is_whole" ["thing"] (low K bZ))(j6:MonoF bZ)(s9:MDefH P w K mg base 1 C "many" ["self"] (low K cU))(gQ:MonoF cU)(pK:MDefH P w K mg base 1 C "kind" ["self", "band"] (low K oA))(rV:MonoF oA)(len:∀ds Q,sp ds Q->ds.length=3)(hsp:∀ds Q,sp ds Q->pT C cU oA bZ ↥Q (aJ ["sides", "a", "b"] ds)):DefH P w K mg base 2 "is_pair" ["sides", "a", "b"] (low K sp):=by
 have sc:FnScope ["sides", "a", "b"] ["sides", "a", "b"] (aB (top 9)):=by norm_cast
 refine m.okH (k:=1) (t:=pT C cU oA bZ) sc (λf cdv A outer s H E hr=>?_) len hsp
 ·
  have hu:=hr.units;exact(aE (dZ (QW.qt (fB (d9 (cL (p5 gZ j6 (hr.mono ∅) (aA (a7 1 (pv 1)) aD)))) (gF (d9 (cL (p5 gZ j6 (hr.mono ∅) (aA (a7 2 (pv 2)) aD))))))) (aG (bD jC)) bJ)
 (aG (bD (sU (Dp BO ET ET aH (a7 1 (pv 1)) (a7 2 (pv 2)) (Dl cl s9 gQ (hr.mono ∅) (a7 0 (pv 0)))) (qS (mV (jD hu) (BC cl pK rV (hr.mono ∅) (a7 0 (pv 0)) (aA (a7 1 (pv 1)) aD)) (BC cl pK rV (hr.mono ∅) (a7 0 (pv 0)) (aA (a7 2 (pv 2)) aD))))))))
noncomputable abbrev pU(iD:Fn):bV:=
 (aN (iB (rY (i6 (gH (qJ "tuple" (a8 1)))) (b6 (aL vT (gC dA (a9 (a8 1) aF)) (eC (.int 3))))) (bR (eC (.bl ao))) bN)
 (bR (mY (aU iD (a9 (a8 0) (a9 (aL dB (a8 1) (eC (.int 0))) (a9 (aL dB (a8 1) (eC (.int 1))) aF)))) (Lx ["brace", "more", "less"] (aL dB (a8 1) (eC (.int 2)))))))
theorem Ap(P:ay)(w:bg)(mg:bf->Option ac)(base:br){iD:Fn}{mL:af}(m:At K mg "is_hold" "is_hold" (top 10) ["sides", "thing"])(aK:mg "isinstance" = aq)(eD:mg "tuple" = aq)(aZ:mg "len" = aq)(wF:mg "WORDS" = aa (.ref mL))(sD:Words K mL ["brace", "more", "less"])(kO:DefH P w K mg base 2 "is_pair" ["sides", "a", "b"] (low K iD))(AX:MonoF iD)(len:∀ds Q,sp ds Q->ds.length=2)(hsp:∀ds Q,sp ds Q->pU iD ↥Q (aJ ["sides", "thing"] ds)):DefH P w K mg base 3 "is_hold" ["sides", "thing"] (low K sp):=by
 have sc:FnScope ["sides", "thing"] ["sides", "thing"] (aB (top 10)):=by norm_cast
 refine m.okH (k:=2) (t:=pU iD) sc (λf cdv A outer s H E hr=>?_) len hsp
 ·
  have hu:=hr.units;have hu1:=dW hr;exact(aE (dZ (QW.qt (fB (d9 (cL (mU (.inr (.inr (.inl rfl))) rfl aK (a7 1 (pv 1)) (gP (v:=.ty "tuple") rfl eD vb rfl)))) (gF (b8 (jD hu) (b5 c7 rfl aZ fb (aA (a7 1 (pv 1)) aD)) aH)))) (aG (bD jC)) bJ)
 (aG (bD (sU (p5 kO AX (hr.mono ∅) (aA (a7 0 (pv 0)) (aA (c6 hu1 (a7 1 (pv 1)) aH) (aA (c6 hu1 (a7 1 (pv 1)) aH) aD)))) (qS (L4 (c6 hu1 (a7 1 (pv 1)) aH) wF sD))))))
noncomputable abbrev kR(aO:af)(Ψ:rN->Prop)(bL bA:Fn):bV:=
 (AA 2 (a8 4) (eC (.bl ai)))
noncomputable abbrev cV(aO:af)(Ψ:rN->Prop)(bL bA:Fn):bV:=
 (aN (iB (i6 (gH (aU bL (a9 (a8 0) (a9 (a8 3) aF))))) (vK Ψ aO (a9 (eC (.str "a hold is a pair and one of the words brace, more, less")) aF)) bN)
 (fK (kJ (aU bA (a9 (a8 3) aF))) (gN 4) (kR aO Ψ bL bA)))
noncomputable abbrev sG(aO:af)(Ψ:rN->Prop)(bL bA:Fn):bV:=
 (aN (kT 2 Ly)
 (aN (fK (kJ (a8 1)) (gN 3) (cV aO Ψ bL bA))
 (bR (gC iL (a9 (a8 2) aF)))))
theorem Cy(P:ay)(w:bg)(mg:bf->Option ac)(base:br){sp:n4}(m:At K mg "pulls" "pulls" (top 12) ["sides", "holds"])(jM:mg "sorted" = aq)(eP:mg "NoHold" = aa (.ref aO))(jP:uL K aO)(qM:Def P w K mg base 3 "is_hold" ["sides", "thing"] (low K bL))(nO:MonoF bL)(nY:Def P w K mg base 1 "pulls_of" ["hold"] (low K bA))(lJ:MonoF bA)(len:∀ds Q Ψ,sp ds Q Ψ->ds.length=2)(hsp:∀ds Q Ψ,sp ds Q Ψ->sG aO Ψ bL bA ↥Q (aJ ["sides", "holds", "told", "hold", "pull"] ds)):DefX P w K mg base 4 "pulls" ["sides", "holds"] (lowX K sp):=by
 have sc:FnScope ["sides", "holds", "told", "hold", "pull"] ["sides", "holds"] (aB (top 12)):=by norm_cast
 refine m.okX (k:=3) (t:=λΨ=>sG aO Ψ bL bA) sc (λf cdv A outer s H E F Ψ hr hE=>?_) len hsp
 ·
  have hS:∀H2,aI H H2->aI H H2:=λ_ z=>z;have hu1:=dW hr;exact(eU (QS.x (kB (i:=2) sc.nd rfl (.inl rfl) BD))
 (eU (KS hS (eZ (a7 1 (pv 1))) (gB (i:=3) (k:=5) sc.nd rfl (.inl rfl)) (λP hS=>(eU (KR (d9 (cL (b9 qM nO (hr.mono ∅) (aA (a7 0 (pv 0)) (aA (a7 3 (pv 3)) aD))))) (oE (DJ hS hr.hd hE eP jP rfl (aA jQ aD))) (QSs.x bJ))
 (oE (QS.x (eN lr rfl (eZ (b9 nY lJ (hr.mono ∅) (aA (a7 3 (pv 3)) aD))) (gB (i:=4) (k:=5) sc.nd rfl (.inl rfl)) (aG (I8 hu1 (i:=2) (pv 2) (a7 4 (pv 4)) jC))))))))
 (oE (QS.x (bD (b5 (Au rfl) rfl jM boot_sorted (aA (a7 2 (pv 2)) aD)))))))
noncomputable abbrev zU(aO:af)(Ψ:rN->Prop)(bL bA:Fn):bV:=
 (AA 2 (a8 4) (eC (.bl ai)))
noncomputable abbrev zT(aO:af)(Ψ:rN->Prop)(bL bA:Fn):bV:=
 (aN (iB (i6 (gH (aU bL (a9 (a8 0) (a9 (a8 3) aF))))) (vK Ψ aO (a9 (eC (.str "a hold is a pair and one of the words brace, more, less")) aF)) bN)
 (fK (kJ (aU bA (a9 (a8 3) aF))) (gN 4) (zU aO Ψ bL bA)))
noncomputable abbrev pS(aO:af)(Ψ:rN->Prop)(bL bA:Fn):bV:=
 (aN (kT 2 Ly)
 (aN (fK (kJ (a8 1)) (gN 3) (zT aO Ψ bL bA))
 fU))
theorem An(P:ay)(w:bg)(mg:bf->Option ac)(base:br){sp:n4}(m:At K mg "pulls" "pulls" (top 12) ["sides", "holds"])(eP:mg "NoHold" = aa (.ref aO))(jP:uL K aO)(kP:DefH P w K mg base 3 "is_hold" ["sides", "thing"] (low K bL))(nO:MonoF bL)(j7:DefH P w K mg base 1 "pulls_of" ["hold"] (low K bA))(lJ:MonoF bA)(len:∀ds Q Ψ,sp ds Q Ψ->ds.length=2)(hsp:∀ds Q Ψ,sp ds Q Ψ->pS aO Ψ bL bA ↥Q (aJ ["sides", "holds", "told", "hold", "pull"] ds)):DefXH P w K mg base 4 "pulls" ["sides", "holds"] (lowX K sp):=by
 have sc:FnScope ["sides", "holds", "told", "hold", "pull"] ["sides", "holds"] (aB (top 12)):=by norm_cast
 refine m.okXH (k:=3) (t:=λΨ=>pS aO Ψ bL bA) sc (λf cdv A outer s H E F Ψ hr hE=>?_) len hsp
 ·
  have hS:∀H2,aI H H2->aI H H2:=λ_ z=>z;have hu1:=dW hr;exact(eU (QS.x (kB (i:=2) sc.nd rfl (.inl rfl) BD))
 (eU (IN hS (eZ (a7 1 (pv 1))) (gB (i:=3) (k:=5) sc.nd rfl (.inl rfl)) (λP hS=>(eU (KR (d9 (cL (p5 kP nO (hr.mono ∅) (aA (a7 0 (pv 0)) (aA (a7 3 (pv 3)) aD))))) (oE (DI hS hE eP jP rfl (aA jQ aD))) (QSs.x bJ))
 (oE (QS.x (eN lr rfl (eZ (p5 j7 lJ (hr.mono ∅) (aA (a7 3 (pv 3)) aD))) (gB (i:=4) (k:=5) sc.nd rfl (.inl rfl)) (aG (I8 hu1 (i:=2) (pv 2) (a7 4 (pv 4)) jC))))))))
 (oE (QS.x fV))))
noncomputable abbrev mK(Ψ:rN->Prop)(C:af)(c5 cU:Fn)(bT:n4):bV:=
 (aN (cC 4 (gC jT (a9 (aU c5 (a9 (a8 2) (a9 (a8 3) aF))) aF)))
 (iB (b6 (aL AR (gC dA (a9 (a8 4) aF)) (kU C "many" cU (a8 0) aF))) (bR (a8 4)) bN))
noncomputable abbrev vG(Ψ:rN->Prop)(C:af)(c5 cU:Fn)(bT:n4):bV:=
 (aN (sR 2 bT (a9 (a8 0) (a9 (a8 1) aF)) Ψ)
 (aN (fK (cZ (a9 (kU C "many" cU (a8 0) aF) aF)) (gN 3) (mK Ψ C c5 cU bT))
 (bR (eC .non))))
theorem FV(P:ay)(w:bg)(mg:bf->Option ac)(base:br){sp:n4}(m:At K mg "free" "free" (top 17) ["sides", "holds"])(aP:mg "range" = aq)(jM:mg "sorted" = aq)(aZ:mg "len" = aq)(cl:Cls K C)(iS:DefX P w K mg base 4 "pulls" ["sides", "holds"] (lowX K bT))(fC:MonoX bT)(gJ:Def P w K mg base 1 "reached" ["arrows", "start"] (low K c5))(f7:MonoF c5)(nZ:MDef P w K mg base 1 C "many" ["self"] (low K cU))(gQ:MonoF cU)(len:∀ds Q Ψ,sp ds Q Ψ->ds.length=2)(hsp:∀ds Q Ψ,sp ds Q Ψ->vG Ψ C c5 cU bT ↥Q (aJ ["sides", "holds", "arrows", "band", "some"] ds)):DefX P w K mg base 5 "free" ["sides", "holds"] (lowX K sp):=by
 have sc:FnScope ["sides", "holds", "arrows", "band", "some"] ["sides", "holds"] (aB (top 17)):=by norm_cast
 refine m.okX (k:=4) (t:=λΨ=>vG Ψ C c5 cU bT) sc (λf cdv A outer s H E F Ψ hr hE=>?_) len hsp
 ·
  have hS:∀H2,aI H H2->aI H H2:=λ_ z=>z;exact(eU (B2 (j:=2) hS hE iS fC (hr.mono ∅) (aA (a7 0 (pv 0)) (aA (a7 1 (pv 1)) aD)) sc.nd)
 (eU (QS.x (eN lr rfl (cG rfl aP (aA (rR cl nZ gQ (hr.mono ∅) (a7 0 (pv 0))) aD)) (gB (i:=3) (k:=5) sc.nd rfl (.inl rfl)) (aE (cE (i:=4) sc.nd rfl (.inl rfl) (b5 (zP rfl) rfl jM boot_sorted (aA (b9 gJ f7 (hr.mono ∅) (aA (a7 2 (pv 2)) (aA (a7 3 (pv 3)) aD))) aD)))
 (aG (dZ (b8 iN (b5 c7 rfl aZ fb (aA (a7 4 (pv 4)) aD)) (rR cl nZ gQ (hr.mono ∅) (a7 0 (pv 0)))) (aG (bD (a7 4 (pv 4)))) bJ)))))
 (oE (QS.x (bD lI)))))
noncomputable abbrev sH(Ψ:rN->Prop)(bT:n4):bV:=
 (aN (sR 2 bT (a9 (a8 0) (a9 (a8 1) aF)) Ψ)
 (aN fU
 fU))
theorem Cz(P:ay)(w:bg)(mg:bf->Option ac)(base:br){sp:n4}(m:At K mg "free" "free" (top 17) ["sides", "holds"])(qL:DefXH P w K mg base 4 "pulls" ["sides", "holds"] (lowX K bT))(fC:MonoX bT)(len:∀ds Q Ψ,sp ds Q Ψ->ds.length=2)(hsp:∀ds Q Ψ,sp ds Q Ψ->sH Ψ bT ↥Q (aJ ["sides", "holds", "arrows", "band", "some"] ds)):DefXH P w K mg base 5 "free" ["sides", "holds"] (lowX K sp):=by
 have sc:FnScope ["sides", "holds", "arrows", "band", "some"] ["sides", "holds"] (aB (top 17)):=by norm_cast
 refine m.okXH (k:=4) (t:=λΨ=>sH Ψ bT) sc (λf cdv A outer s H E F Ψ hr hE=>?_) len hsp
 ·
  have hS:∀H2,aI H H2->aI H H2:=λ_ z=>z;exact(eU (DK (j:=2) hS hE qL fC (hr.mono ∅) (aA (a7 0 (pv 0)) (aA (a7 1 (pv 1)) aD)) sc.nd)
 (eU (QS.x fV)
 (oE (QS.x fV))))
noncomputable abbrev vH(C:af)(cU:Fn):bV:=
 (bR (HW (a9 (kU C "many" cU (a8 0) aF) aF)))
theorem FW(P:ay)(w:bg)(mg:bf->Option ac)(base:br)(m:MAt K C "first" "Sides.first" (eG (top 29) 5) ["self"])(eV:mg "list" = aq)(aP:mg "range" = aq)(cl:Cls K C)(nZ:MDef P w K mg base 1 C "many" ["self"] (low K cU))(gQ:MonoF cU)(len:∀ds Q,sp ds Q->ds.length=1)(hsp:∀ds Q,sp ds Q->vH C cU ↥Q (aJ ["self"] ds)):MDef P w K mg base 2 C "first" ["self"] (low K sp):=by
 have sc:FnScope ["self"] ["self"] (aB (eG (top 29) 5)):=by norm_cast
 refine m.okP (k:=1) (t:=vH C cU) sc (λf cdv A outer s H E hr=>?_) len hsp
 ·
  exact(aG (bD (vO rfl rfl eV rfl aP (aA (rR cl nZ gQ (hr.mono ∅) (a7 0 (pv 0))) aD))))
noncomputable abbrev fP(Ψ:rN->Prop)(C:af)(c5 dD mH:Fn)(bT:n4):bV:=
 (aN (sR 2 bT (a9 (a8 0) (a9 (a8 1) aF)) Ψ)
 (aN (cC 3 (aU c5 (a9 (a8 2) (a9 (eC (.int 0)) aF))))
 (aN (cC 4 (aU c5 (a9 (aU dD (a9 (a8 2) aF)) (a9 (eC (.int 0)) aF))))
 (aN (cC 5 (kU C "first" mH (a8 0) aF))
 (aN (iB (rY (b6 (aL AR (gC dA (a9 (a8 3) aF)) (gC dA (a9 (a8 5) aF)))) (b6 (aL AR (gC dA (a9 (a8 4) aF)) (gC dA (a9 (a8 5) aF))))) (bR (eC .non)) bN)
 (bR (i5 (a9 (hX 1 [3] (kJ (a8 5)) (gN 0) dS (aL dB (a8 1) (a8 0))) (a9 (hX 1 [4] (kJ (a8 5)) (gN 0) dS (aL dB (a8 1) (a8 0))) aF)))))))))
theorem nU(P:ay)(w:bg)(mg:bf->Option ac)(base:br){dD mH:Fn}{sp:n4}(m:At K mg "there_and_back" "there_and_back" (top 16) ["sides", "holds"])(aZ:mg "len" = aq)(cl:Cls K C)(iS:DefX P w K mg base 4 "pulls" ["sides", "holds"] (lowX K bT))(fC:MonoX bT)(gJ:Def P w K mg base 1 "reached" ["arrows", "start"] (low K c5))(f7:MonoF c5)(iR:Def P w K mg base 1 "turned_round" ["arrows"] (low K dD))(rG:MonoF dD)(wR:MDef P w K mg base 2 C "first" ["self"] (low K mH))(tD:MonoF mH)(len:∀ds Q Ψ,sp ds Q Ψ->ds.length=2)(hsp:∀ds Q Ψ,sp ds Q Ψ->fP Ψ C c5 dD mH bT ↥Q (aJ ["sides", "holds", "arrows", "there", "back", "bands"] ds)):DefX P w K mg base 5 "there_and_back" ["sides", "holds"] (lowX K sp):=by
 have sc:FnScope ["sides", "holds", "arrows", "there", "back", "bands"] ["sides", "holds"] (aB (top 16)):=by norm_cast
 refine m.okX (k:=4) (t:=λΨ=>fP Ψ C c5 dD mH bT) sc (λf cdv A outer s H E F Ψ hr hE=>?_) len hsp
 ·
  have hS:∀H2,aI H H2->aI H H2:=λ_ z=>z;have hu1:=dW hr;exact(eU (B2 (j:=2) hS hE iS fC (hr.mono ∅) (aA (a7 0 (pv 0)) (aA (a7 1 (pv 1)) aD)) sc.nd)
 (eU (QS.x (cE (i:=3) sc.nd rfl (.inr rfl) (b9 gJ f7 (hr.mono ∅) (aA (a7 2 (pv 2)) (aA aH aD)))))
 (eU (QS.x (cE (i:=4) sc.nd rfl (.inr rfl) (b9 gJ f7 (hr.mono ∅) (aA (b9 iR rG (hr.mono ∅) (aA (a7 2 (pv 2)) aD)) (aA aH aD)))))
 (eU (QS.x (cE (i:=5) sc.nd rfl (.inl rfl) (rR cl wR tD (hr.mono ∅) (a7 0 (pv 0)))))
 (eU (QS.x (dZ (QW.qt (fB (b8 iN (b5 c7 rfl aZ fb (aA (a7 3 (pv 3)) aD)) (b5 c7 rfl aZ fb (aA (a7 5 (pv 5)) aD))) (gF (b8 iN (b5 c7 rfl aZ fb (aA (a7 4 (pv 4)) aD)) (b5 c7 rfl aZ fb (aA (a7 5 (pv 5)) aD)))))) (aG (bD lI)) bJ))
 (oE (QS.x (bD (j4 (aA (xT ["band"] ["there"] [3] rfl (eZ (a7 5 (pv 5))) (λfp s H=>(gB (i:=0) (k:=1) (show lb (["band", "there"]:List bf) by decide +kernel) rfl (.inl rfl))) (λfp s H=>hZ) (λfp s H=>(c6 hu1 (a7 1 (pv 1)) (a7 0 (pv 0))))) (aA (xT ["band"] ["back"] [4] rfl (eZ (a7 5 (pv 5))) (λfp s H=>(gB (i:=0) (k:=1) (show lb (["band", "back"]:List bf) by decide +kernel) rfl (.inl rfl))) (λfp s H=>hZ) (λfp s H=>(c6 hu1 (a7 1 (pv 1)) (a7 0 (pv 0))))) aD)))))))))))
noncomputable abbrev g8:bV:=
 (cC 3 (aL d4 (aL eE (a8 3) (eC (.int 2147483647))) (aL f6 (aL eE (aL f6 (aL d4 (aL eE (a8 2) (eC (.int 48271))) (aL eE (aL eE (aL d4 (a8 4) (eC (.int 5))) (aL d4 (aL d4 (a8 4) (a8 1)) (eC (.int 2)))) (eC (.int 69621)))) (eC (.int 2147483647))) (eC (.int 16807))) (eC (.int 2147483629)))))
noncomputable abbrev nD:bV:=
 (aN (cC 2 (eC (.int 0)))
 (aN (iB (b6 (aL AR (a8 1) (gC dA (a9 (a8 0) aF)))) (cC 2 (aL dB (a8 0) (a8 1))) bN)
 (aN (iB (rY (b6 (aL AR (a8 2) (eC (.int 0)))) (b6 (aL Fu (a8 2) (aL rE (eC (.int 10)) (eC (.int 15)))))) (bR (a8 2)) bN)
 (aN (cC 3 (eC (.int 0)))
 (aN (fK (cZ (a9 (eC (.int 14)) aF)) (gN 4) g8)
 (bR (a8 3)))))))
theorem zF(P:ay)(w:bg)(mg:bf->Option ac)(base:br)(m:At K mg "_law_deep" "_law_deep" (top 31) ["_law_script", "_law_k"])(aZ:mg "len" = aq)(aP:mg "range" = aq)(len:∀ds Q,sp ds Q->ds.length=2)(hsp:∀ds Q,sp ds Q->nD  ↥Q (aJ ["_law_script", "_law_k", "_law_cell", "_law_deep_here", "_law_j"] ds)):Def P w K mg base 1 "_law_deep" ["_law_script", "_law_k"] (low K sp):=by
 have sc:FnScope ["_law_script", "_law_k", "_law_cell", "_law_deep_here", "_law_j"] ["_law_script", "_law_k"] (aB (top 31)):=by norm_cast
 refine m.okP (k:=0) (t:=nD ) sc (λf cdv A outer s H E hr=>?_) len hsp
 ·
  have hu1:=dW hr;exact(aE (cE (i:=2) sc.nd rfl (.inl rfl) aH)
 (aE (dZ (b8 iN (a7 1 (pv 1)) (b5 c7 rfl aZ fb (aA (a7 0 (pv 0)) aD))) (aG (cE (i:=2) sc.nd rfl (.inl rfl) (c6 hu1 (a7 0 (pv 0)) (a7 1 (pv 1))))) bJ)
 (aE (dZ (QW.qt (fB (b8 iN (a7 2 (pv 2)) aH) (gF (b8 nL (a7 2 (pv 2)) (bF pA aH aH))))) (aG (bD (a7 2 (pv 2)))) bJ)
 (aE (cE (i:=3) sc.nd rfl (.inl rfl) aH)
 (aE (eN da rfl (cG rfl aP (aA aH aD)) (gB (i:=4) (k:=5) sc.nd rfl (.inl rfl)) (aG (cE (i:=3) sc.nd rfl (.inl rfl) (bF bW (bF cX (a7 3 (pv 3)) aH) (bF d6 (bF cX (bF d6 (bF bW (bF cX (a7 2 (pv 2)) aH) (bF cX (bF cX (bF bW (a7 4 (pv 4)) aH) (bF bW (bF bW (a7 4 (pv 4)) (a7 1 (pv 1))) aH)) aH)) aH) aH) aH)))))
 (aG (bD (a7 3 (pv 3)))))))))
noncomputable abbrev l8:bV:=
 (bR (mY (qJ "int" (a8 0)) (z7 (qJ "bool" (a8 0)))))
theorem wK(P:ay)(w:bg)(mg:bf->Option ac)(base:br)(m:At K mg "_law_whole" "_law_whole" (top 32) ["_law_found"])(aK:mg "isinstance" = aq)(oF:mg "int" = aq)(pQ:mg "bool" = aq)(len:∀ds Q,sp ds Q->ds.length=1)(hsp:∀ds Q,sp ds Q->l8  ↥Q (aJ ["_law_found"] ds)):Def P w K mg base 1 "_law_whole" ["_law_found"] (low K sp):=by
 have sc:FnScope ["_law_found"] ["_law_found"] (aB (top 32)):=by norm_cast
 refine m.okP (k:=0) (t:=l8 ) sc (λf cdv A outer s H E hr=>?_) len hsp
 ·
  exact(aG (bD (sU (mU (.inl rfl) rfl aK (a7 0 (pv 0)) (gP (v:=.ty "int") rfl oF Sr rfl)) (qS (IA (mU (.inr (.inl rfl)) rfl aK (a7 0 (pv 0)) (gP (v:=.ty "bool") rfl pQ boot_bool rfl)))))))
noncomputable abbrev nB:bV:=
 (aN (cC 2 (aL d4 (eC (.int 1)) (aL f6 (a8 1) (aL rE (eC (.int 10)) (eC (.int 11))))))
 (aN (cC 3 (aL nK (aL f6 (aL iM (a8 1) (eC (.int 7))) (aL eE (eC (.int 2)) (aL rE (eC (.int 10)) (eC (.int 10))))) (aL rE (eC (.int 10)) (eC (.int 10)))))
 (aN (cC 4 (aL d4 (eC (.int 1)) (aL f6 (aL iM (a8 1) (eC (.int 11))) (aL rE (eC (.int 10)) (eC (.int 10))))))
 (bR (hX 1 [2,4,0,3] (cZ (a9 (gC dA (a9 (a8 0) aF)) aF)) (gN 0) dS (i5 (a9 (aL nK (a8 1) (aL eE (a8 0) (a8 4))) (a9 (aL eE (a8 0) (a8 2)) (a9 (aL dB (a8 3) (a8 0)) aF)))))))))
theorem zE(P:ay)(w:bg)(mg:bf->Option ac)(base:br)(m:At K mg "_law_dirs" "_law_dirs" (top 33) ["_law_counts_here", "_law_cell"])(aZ:mg "len" = aq)(aP:mg "range" = aq)(len:∀ds Q,sp ds Q->ds.length=2)(hsp:∀ds Q,sp ds Q->nB  ↥Q (aJ ["_law_counts_here", "_law_cell", "_law_a", "_law_s", "_law_t"] ds)):Def P w K mg base 1 "_law_dirs" ["_law_counts_here", "_law_cell"] (low K sp):=by
 have sc:FnScope ["_law_counts_here", "_law_cell", "_law_a", "_law_s", "_law_t"] ["_law_counts_here", "_law_cell"] (aB (top 33)):=by norm_cast
 refine m.okP (k:=0) (t:=nB ) sc (λf cdv A outer s H E hr=>?_) len hsp
 ·
  have hu1:=dW hr;exact(aE (cE (i:=2) sc.nd rfl (.inr rfl) (bF bW aH (bF d6 (a7 1 (pv 1)) (bF pA aH aH))))
 (aE (cE (i:=3) sc.nd rfl (.inr rfl) (bF mD (bF d6 (bF fW (a7 1 (pv 1)) aH) (bF cX aH (bF pA aH aH))) (bF pA aH aH)))
 (aE (cE (i:=4) sc.nd rfl (.inr rfl) (bF bW aH (bF d6 (bF fW (a7 1 (pv 1)) aH) (bF pA aH aH))))
 (aG (bD (xT ["_law_k"] ["_law_a", "_law_t", "_law_counts_here", "_law_s"] [2,4,0,3] rfl (cG rfl aP (aA (b5 c7 rfl aZ fb (aA (a7 0 (pv 0)) aD)) aD)) (λfp s H=>(gB (i:=0) (k:=1) (show lb (["_law_k", "_law_a", "_law_t", "_law_counts_here", "_law_s"]:List bf) by decide +kernel) rfl (.inl rfl))) (λfp s H=>hZ) (λfp s H=>(j4 (aA (bF mD (a7 1 (pv 1)) (bF cX (a7 0 (pv 0)) (a7 4 (pv 4)))) (aA (bF cX (a7 0 (pv 0)) (a7 2 (pv 2))) (aA (c6 hu1 (a7 3 (pv 3)) (a7 0 (pv 0))) aD)))))))))))
noncomputable abbrev gW:bV:=
 (cC 1 (aL d4 (a8 1) (aL eE (jU (a9 (a8 2) aF)) (aL dB (a8 0) (a8 2)))))
noncomputable abbrev lB:bV:=
 (aN (cC 1 (jU aF))
 (aN (fK (cZ (a9 (gC dA (a9 (a8 0) aF)) aF)) (gN 2) gW)
 (bR (a8 1))))
theorem wN(P:ay)(w:bg)(mg:bf->Option ac)(base:br)(m:At K mg "_law_kinds" "_law_kinds" (top 34) ["_law_counts_here"])(aZ:mg "len" = aq)(aP:mg "range" = aq)(len:∀ds Q,sp ds Q->ds.length=1)(hsp:∀ds Q,sp ds Q->lB  ↥Q (aJ ["_law_counts_here", "_law_kinds_here", "_law_k"] ds)):Def P w K mg base 1 "_law_kinds" ["_law_counts_here"] (low K sp):=by
 have sc:FnScope ["_law_counts_here", "_law_kinds_here", "_law_k"] ["_law_counts_here"] (aB (top 34)):=by norm_cast
 refine m.okP (k:=0) (t:=lB ) sc (λf cdv A outer s H E hr=>?_) len hsp
 ·
  have hu1:=dW hr;exact(aE (cE (i:=1) sc.nd rfl (.inl rfl) (iK aD))
 (aE (eN da rfl (cG rfl aP (aA (b5 c7 rfl aZ fb (aA (a7 0 (pv 0)) aD)) aD)) (gB (i:=2) (k:=3) sc.nd rfl (.inl rfl)) (aG (cE (i:=1) sc.nd rfl (.inl rfl) (bF bW (a7 1 (pv 1)) (bF cX (iK (aA (a7 2 (pv 2)) aD)) (c6 hu1 (a7 0 (pv 0)) (a7 2 (pv 2))))))))
 (aG (bD (a7 1 (pv 1))))))
noncomputable abbrev g7:bV:=
 (aN (cC 5 (aL f6 (a8 1) (aL d4 (a8 3) (eC (.int 1)))))
 (aN (cC 1 (aL iM (a8 1) (aL d4 (a8 3) (eC (.int 1)))))
 (aN (B9 2 (a8 4) (a8 5))
 (Bv 3 yE (a8 5)))))
noncomputable abbrev k6:bV:=
 (aN (kT 2 (aL eE (jU (a9 (eC (.int 1)) aF)) (a8 0)))
 (aN (cC 3 (aL nK (eC (.int 12)) (a8 0)))
 (aN (fK (cZ (a9 (a8 0) aF)) (gN 4) g7)
 (bR (a8 2)))))
theorem uD(P:ay)(w:bg)(mg:bf->Option ac)(base:br)(m:At K mg "_law_parted" "_law_parted" (top 35) ["_law_many", "_law_rest"])(aP:mg "range" = aq)(len:∀ds Q,sp ds Q->ds.length=2)(hsp:∀ds Q,sp ds Q->k6  ↥Q (aJ ["_law_many", "_law_rest", "_law_counts_here", "_law_left", "_law_k", "_law_extra"] ds)):Def P w K mg base 1 "_law_parted" ["_law_many", "_law_rest"] (low K sp):=by
 have sc:FnScope ["_law_many", "_law_rest", "_law_counts_here", "_law_left", "_law_k", "_law_extra"] ["_law_many", "_law_rest"] (aB (top 35)):=by norm_cast
 refine m.okP (k:=0) (t:=k6 ) sc (λf cdv A outer s H E hr=>?_) len hsp
 ·
  exact(aE (kB (i:=2) sc.nd rfl (.inl rfl) (bF cX (iK (aA aH aD)) (a7 0 (pv 0))))
 (aE (cE (i:=3) sc.nd rfl (.inl rfl) (bF mD aH (a7 0 (pv 0))))
 (aE (eN da rfl (cG rfl aP (aA (a7 0 (pv 0)) aD)) (gB (i:=4) (k:=6) sc.nd rfl (.inl rfl)) (aE (cE (i:=5) sc.nd rfl (.inl rfl) (bF d6 (a7 1 (pv 1)) (bF bW (a7 3 (pv 3)) aH)))
 (aE (cE (i:=1) sc.nd rfl (.inl rfl) (bF fW (a7 1 (pv 1)) (bF bW (a7 3 (pv 3)) aH)))
 (aE (Io (i:=2) (pv 2) (a7 4 (pv 4)) (a7 5 (pv 5)))
 (aG (L8 (i:=3) F8 sc.nd rfl (.inl rfl) (a7 5 (pv 5))))))))
 (aG (bD (a7 2 (pv 2)))))))
noncomputable abbrev k7(eJ:Fn):bV:=
 (aN (iB (b6 (aL u7 (aL f6 (aL iM (a8 0) (eC (.int 64))) (eC (.int 4))) (eC (.int 1)))) (bR (aU eJ (a9 (aL d4 (eC (.int 2)) (aL f6 (a8 0) (eC (.int 5)))) (a9 (aL iM (a8 0) (eC (.int 256))) aF)))) bN)
 (bR (hX 1 [0] (cZ (a9 (aL d4 (eC (.int 2)) (aL f6 (a8 0) (eC (.int 5)))) aF)) (gN 0) dS (aL d4 (eC (.int 1)) (aL f6 (aL iM (a8 1) (aL d4 (eC (.int 5)) (a8 0))) (eC (.int 2)))))))
theorem uE(P:ay)(w:bg)(mg:bf->Option ac)(base:br){eJ:Fn}(m:At K mg "_law_counts" "_law_counts" (top 36) ["_law_cell"])(aP:mg "range" = aq)(kL:Def P w K mg base 1 "_law_parted" ["_law_many", "_law_rest"] (low K eJ))(u8:MonoF eJ)(len:∀ds Q,sp ds Q->ds.length=1)(hsp:∀ds Q,sp ds Q->k7 eJ ↥Q (aJ ["_law_cell"] ds)):Def P w K mg base 2 "_law_counts" ["_law_cell"] (low K sp):=by
 have sc:FnScope ["_law_cell"] ["_law_cell"] (aB (top 36)):=by norm_cast
 refine m.okP (k:=1) (t:=k7 eJ) sc (λf cdv A outer s H E hr=>?_) len hsp
 ·
  have hu:=hr.units;exact(aE (dZ (b8 (jE hu) (bF d6 (bF fW (a7 0 (pv 0)) aH) aH) aH) (aG (bD (b9 kL u8 (hr.mono ∅) (aA (bF bW aH (bF d6 (a7 0 (pv 0)) aH)) (aA (bF fW (a7 0 (pv 0)) aH) aD))))) bJ)
 (aG (bD (xT ["_law_k"] ["_law_cell"] [0] rfl (cG rfl aP (aA (bF bW aH (bF d6 (a7 0 (pv 0)) aH)) aD)) (λfp s H=>(gB (i:=0) (k:=1) (show lb (["_law_k", "_law_cell"]:List bf) by decide +kernel) rfl (.inl rfl))) (λfp s H=>hZ) (λfp s H=>(bF bW aH (bF d6 (bF fW (a7 1 (pv 1)) (bF bW aH (a7 0 (pv 0)))) aH)))))))
noncomputable abbrev gU:bV:=
 (iB (b6 (aL AR (aL dB (a8 0) (a8 2)) (aL dB (a8 0) (a8 3)))) (tY 1 (i5 (a9 (a8 2) (a9 (a8 3) aF)))) bN)
noncomputable abbrev gS:bV:=
 (fK (pD (a9 (aL d4 (a8 2) (eC (.int 1))) (a9 (gC dA (a9 (a8 0) aF)) aF))) (gN 3) gU)
noncomputable abbrev lA:bV:=
 (aN (kT 1 (jU aF))
 (aN (fK (cZ (a9 (gC dA (a9 (a8 0) aF)) aF)) (gN 2) gS)
 (bR (a8 1))))
theorem wM(P:ay)(w:bg)(mg:bf->Option ac)(base:br)(m:At K mg "_law_pairs" "_law_pairs" (top 37) ["_law_kinds_here"])(aZ:mg "len" = aq)(aP:mg "range" = aq)(len:∀ds Q,sp ds Q->ds.length=1)(hsp:∀ds Q,sp ds Q->lA  ↥Q (aJ ["_law_kinds_here", "_law_pairs_here", "_law_a", "_law_b"] ds)):Def P w K mg base 1 "_law_pairs" ["_law_kinds_here"] (low K sp):=by
 have sc:FnScope ["_law_kinds_here", "_law_pairs_here", "_law_a", "_law_b"] ["_law_kinds_here"] (aB (top 37)):=by norm_cast
 refine m.okP (k:=0) (t:=lA ) sc (λf cdv A outer s H E hr=>?_) len hsp
 ·
  have hu1:=dW hr;exact(aE (kB (i:=1) sc.nd rfl (.inl rfl) (iK aD))
 (aE (eN da rfl (cG rfl aP (aA (b5 c7 rfl aZ fb (aA (a7 0 (pv 0)) aD)) aD)) (gB (i:=2) (k:=4) sc.nd rfl (.inl rfl)) (aG (eN da rfl (uQ rfl aP (aA (bF bW (a7 2 (pv 2)) aH) (aA (b5 c7 rfl aZ fb (aA (a7 0 (pv 0)) aD)) aD))) (gB (i:=3) (k:=4) sc.nd rfl (.inl rfl)) (aG (dZ (b8 iN (c6 hu1 (a7 0 (pv 0)) (a7 2 (pv 2))) (c6 hu1 (a7 0 (pv 0)) (a7 3 (pv 3)))) (aG (BE (i:=1) (pv 1) (j4 (aA (a7 2 (pv 2)) (aA (a7 3 (pv 3)) aD))))) bJ)))))
 (aG (bD (a7 1 (pv 1))))))
noncomputable abbrev gX:bV:=
 (aN (cC 5 (aL f6 (a8 1) (aL eE (eC (.int 3)) (gC dA (a9 (a8 0) aF)))))
 (aN (cC 1 (aL iM (a8 1) (aL eE (eC (.int 3)) (gC dA (a9 (a8 0) aF)))))
 (tY 3 (aL yF (aL dB (a8 0) (aL iM (a8 5) (eC (.int 3)))) (i5 (a9 (aL dB (jU (a9 (eC (.str "brace")) (a9 (eC (.str "more")) (a9 (eC (.str "less")) aF)))) (aL f6 (a8 5) (eC (.int 3)))) aF))))))
noncomputable abbrev lC:bV:=
 (aN (kT 3 (jU aF))
 (aN (fK (cZ (a9 (a8 2) aF)) (gN 4) gX)
 (bR (a8 3))))
theorem wO(P:ay)(w:bg)(mg:bf->Option ac)(base:br)(m:At K mg "_law_holds" "_law_holds" (top 38) ["_law_pairs_here", "_law_cell", "_law_many"])(aP:mg "range" = aq)(aZ:mg "len" = aq)(len:∀ds Q,sp ds Q->ds.length=3)(hsp:∀ds Q,sp ds Q->lC  ↥Q (aJ ["_law_pairs_here", "_law_cell", "_law_many", "_law_holds_here", "_law_k", "_law_digit"] ds)):Def P w K mg base 1 "_law_holds" ["_law_pairs_here", "_law_cell", "_law_many"] (low K sp):=by
 have sc:FnScope ["_law_pairs_here", "_law_cell", "_law_many", "_law_holds_here", "_law_k", "_law_digit"] ["_law_pairs_here", "_law_cell", "_law_many"] (aB (top 38)):=by norm_cast
 refine m.okP (k:=0) (t:=lC ) sc (λf cdv A outer s H E hr=>?_) len hsp
 ·
  have hu1:=dW hr;exact(aE (kB (i:=3) sc.nd rfl (.inl rfl) (iK aD))
 (aE (eN da rfl (cG rfl aP (aA (a7 2 (pv 2)) aD)) (gB (i:=4) (k:=6) sc.nd rfl (.inl rfl)) (aE (cE (i:=5) sc.nd rfl (.inl rfl) (bF d6 (a7 1 (pv 1)) (bF cX aH (b5 c7 rfl aZ fb (aA (a7 0 (pv 0)) aD)))))
 (aE (cE (i:=1) sc.nd rfl (.inl rfl) (bF fW (a7 1 (pv 1)) (bF cX aH (b5 c7 rfl aZ fb (aA (a7 0 (pv 0)) aD)))))
 (aG (BE (i:=3) (pv 3) (bF ES (c6 hu1 (a7 0 (pv 0)) (bF fW (a7 5 (pv 5)) aH)) (j4 (aA (c6 hu1 (iK (aA jQ (aA jQ (aA jQ aD)))) (bF d6 (a7 5 (pv 5)) aH)) aD))))))))
 (aG (bD (a7 3 (pv 3))))))
noncomputable abbrev kS:bV:=
 (aN (cC 6 (gC uT (a9 (aL dB (a8 3) (a8 5)) (a9 (aL dB (a8 3) (aL d4 (a8 5) (eC (.int 1)))) aF))))
 (aN (cC 7 (gC uU (a9 (aL dB (a8 3) (a8 5)) (a9 (aL dB (a8 3) (aL d4 (a8 5) (eC (.int 1)))) aF))))
 (aN (cC 8 (aL dB (jU (a9 (eC (.str "more")) (a9 (eC (.str "less")) aF))) (gC uW (a9 (aL Fu (aL dB (a8 3) (a8 5)) (aL dB (a8 3) (aL d4 (a8 5) (eC (.int 1))))) aF))))
 (aN (iB (b6 (aL u7 (aL f6 (aL d4 (aL iM (a8 1) (eC (.int 3))) (a8 5)) (eC (.int 11))) (eC (.int 0)))) (cC 8 (eC (.str "brace"))) bN)
 (iB (b6 (aL AR (aL dB (a8 0) (a8 6)) (aL dB (a8 0) (a8 7)))) (tY 4 (i5 (a9 (a8 6) (a9 (a8 7) (a9 (a8 8) aF))))) bN)))))
noncomputable abbrev n9:bV:=
 (aN (cC 3 (hX 1 [0,1] (cZ (a9 (aL d4 (a8 2) (eC (.int 1))) aF)) (gN 0) dS (aL f6 (aL d4 (aL iM (a8 2) (eC (.int 7))) (aL eE (aL eE (eC (.int 5)) (a8 0)) (a8 0))) (gC dA (a9 (a8 1) aF)))))
 (aN (kT 4 (jU aF))
 (aN (fK (cZ (a9 (a8 2) aF)) (gN 5) kS)
 (bR (a8 4)))))
theorem zC(P:ay)(w:bg)(mg:bf->Option ac)(base:br)(m:At K mg "_law_ring" "_law_ring" (top 39) ["_law_kinds_here", "_law_cell", "_law_many"])(aP:mg "range" = aq)(aZ:mg "len" = aq)(DO:mg "min" = aq)(DP:mg "max" = aq)(oF:mg "int" = aq)(len:∀ds Q,sp ds Q->ds.length=3)(hsp:∀ds Q,sp ds Q->n9  ↥Q (aJ ["_law_kinds_here", "_law_cell", "_law_many", "_law_row", "_law_holds_here", "_law_k", "_law_a", "_law_b", "_law_word"] ds)):Def P w K mg base 1 "_law_ring" ["_law_kinds_here", "_law_cell", "_law_many"] (low K sp):=by
 have sc:FnScope ["_law_kinds_here", "_law_cell", "_law_many", "_law_row", "_law_holds_here", "_law_k", "_law_a", "_law_b", "_law_word"] ["_law_kinds_here", "_law_cell", "_law_many"] (aB (top 39)):=by norm_cast
 refine m.okP (k:=0) (t:=n9 ) sc (λf cdv A outer s H E hr=>?_) len hsp
 ·
  have hu:=hr.units;have hu1:=dW hr;exact(aE (Ii (L3 (iy:=3) ["_law_k"] ["_law_kinds_here", "_law_cell"] [0,1] sc.nd rfl (.inl rfl) rfl (cG rfl aP (aA (bF bW (a7 2 (pv 2)) aH) aD)) (λfp s H=>(gB (i:=0) (k:=1) (show lb (["_law_k", "_law_kinds_here", "_law_cell"]:List bf) by decide +kernel) rfl (.inl rfl))) (λfp s H=>hZ) (λfp s H=>(bF d6 (bF bW (bF fW (a7 2 (pv 2)) aH) (bF cX (bF cX aH (a7 0 (pv 0))) (a7 0 (pv 0)))) (b5 c7 rfl aZ fb (aA (a7 1 (pv 1)) aD))))))
 (aE (kB (i:=4) sc.nd rfl (.inl rfl) (iK aD))
 (aE (eN da rfl (cG rfl aP (aA (a7 2 (pv 2)) aD)) (gB (i:=5) (k:=9) sc.nd rfl (.inl rfl)) (aE (cE (i:=6) sc.nd rfl (.inl rfl) (b5 (Hf rfl) rfl DO boot_min (aA (c6 hu1 (a7 3 (pv 3)) (a7 5 (pv 5))) (aA (c6 hu1 (a7 3 (pv 3)) (bF bW (a7 5 (pv 5)) aH)) aD))))
 (aE (cE (i:=7) sc.nd rfl (.inl rfl) (b5 (Hg rfl) rfl DP boot_max (aA (c6 hu1 (a7 3 (pv 3)) (a7 5 (pv 5))) (aA (c6 hu1 (a7 3 (pv 3)) (bF bW (a7 5 (pv 5)) aH)) aD))))
 (aE (cE (i:=8) sc.nd rfl (.inl rfl) (c6 hu1 (iK (aA jQ (aA jQ aD))) (oZ Hi rfl oF Sr (aA (mV nL (c6 hu1 (a7 3 (pv 3)) (a7 5 (pv 5))) (c6 hu1 (a7 3 (pv 3)) (bF bW (a7 5 (pv 5)) aH))) aD))))
 (aE (dZ (b8 (jE hu) (bF d6 (bF bW (bF fW (a7 1 (pv 1)) aH) (a7 5 (pv 5))) aH) aH) (aG (cE (i:=8) sc.nd rfl (.inl rfl) jQ)) bJ)
 (aG (dZ (b8 iN (c6 hu1 (a7 0 (pv 0)) (a7 6 (pv 6))) (c6 hu1 (a7 0 (pv 0)) (a7 7 (pv 7)))) (aG (BE (i:=4) (pv 4) (j4 (aA (a7 6 (pv 6)) (aA (a7 7 (pv 7)) (aA (a7 8 (pv 8)) aD)))))) bJ)))))))
 (aG (bD (a7 4 (pv 4)))))))
noncomputable abbrev lD(bM fF fH gL:Fn):bV:=
 (aN (cC 2 (aL f6 (aU bM (a9 (a8 0) (a9 (eC (.int 2)) aF))) (eC (.int 31))))
 (aN (iB (b6 (aL u7 (aL f6 (aL iM (aU bM (a9 (a8 0) (a9 (eC (.int 2)) aF))) (eC (.int 31))) (eC (.int 2))) (eC (.int 0)))) (bR (aU fH (a9 (aU fF (a9 (a8 1) aF)) (a9 (aU bM (a9 (a8 0) (a9 (eC (.int 3)) aF))) (a9 (a8 2) aF))))) bN)
 (bR (aU gL (a9 (a8 1) (a9 (aU bM (a9 (a8 0) (a9 (eC (.int 3)) aF))) (a9 (aL eE (eC (.int 2)) (a8 2)) aF)))))))
theorem wP(P:ay)(w:bg)(mg:bf->Option ac)(base:br){fF fH gL:Fn}(m:At K mg "_law_drawn" "_law_drawn" (top 40) ["_law_script", "_law_kinds_here"])(cS:Def P w K mg base 1 "_law_deep" ["_law_script", "_law_k"] (low K bM))(dH:MonoF bM)(lQ:Def P w K mg base 1 "_law_pairs" ["_law_kinds_here"] (low K fF))(vZ:MonoF fF)(lS:Def P w K mg base 1 "_law_holds" ["_law_pairs_here", "_law_cell", "_law_many"] (low K fH))(w5:MonoF fH)(o4:Def P w K mg base 1 "_law_ring" ["_law_kinds_here", "_law_cell", "_law_many"] (low K gL))(yL:MonoF gL)(len:∀ds Q,sp ds Q->ds.length=2)(hsp:∀ds Q,sp ds Q->lD bM fF fH gL ↥Q (aJ ["_law_script", "_law_kinds_here", "_law_many"] ds)):Def P w K mg base 2 "_law_drawn" ["_law_script", "_law_kinds_here"] (low K sp):=by
 have sc:FnScope ["_law_script", "_law_kinds_here", "_law_many"] ["_law_script", "_law_kinds_here"] (aB (top 40)):=by norm_cast
 refine m.okP (k:=1) (t:=lD bM fF fH gL) sc (λf cdv A outer s H E hr=>?_) len hsp
 ·
  have hu:=hr.units;exact(aE (cE (i:=2) sc.nd rfl (.inl rfl) (bF d6 (b9 cS dH (hr.mono ∅) (aA (a7 0 (pv 0)) (aA aH aD))) aH))
 (aE (dZ (b8 (jE hu) (bF d6 (bF fW (b9 cS dH (hr.mono ∅) (aA (a7 0 (pv 0)) (aA aH aD))) aH) aH) aH) (aG (bD (b9 lS w5 (hr.mono ∅) (aA (b9 lQ vZ (hr.mono ∅) (aA (a7 1 (pv 1)) aD)) (aA (b9 cS dH (hr.mono ∅) (aA (a7 0 (pv 0)) (aA aH aD))) (aA (a7 2 (pv 2)) aD)))))) bJ)
 (aG (bD (b9 o4 yL (hr.mono ∅) (aA (a7 1 (pv 1)) (aA (b9 cS dH (hr.mono ∅) (aA (a7 0 (pv 0)) (aA aH aD))) (aA (bF cX aH (a7 2 (pv 2))) aD))))))))
noncomputable abbrev gR:bV:=
 (iB (rY (uC (b6 (aL u7 (i5 (a9 (a8 3) (a9 (a8 4) aF))) (i5 (a9 (a8 1) (a9 (a8 2) aF))))) (b6 (aL vT (a8 5) (eC (.str "less"))))) (uC (b6 (aL u7 (i5 (a9 (a8 4) (a9 (a8 3) aF))) (i5 (a9 (a8 1) (a9 (a8 2) aF))))) (b6 (aL vT (a8 5) (eC (.str "more")))))) (bR (eC (.bl ai))) bN)
noncomputable abbrev l9:bV:=
 (aN (fK (kJ (a8 0)) (gT [3,4,5]) gR)
 (bR (eC (.bl ao))))
theorem wL(P:ay)(w:bg)(mg:bf->Option ac)(base:br)(m:At K mg "_law_pulls" "_law_pulls" (top 41) ["_law_holds_here", "_law_x", "_law_y"])(len:∀ds Q,sp ds Q->ds.length=3)(hsp:∀ds Q,sp ds Q->l9  ↥Q (aJ ["_law_holds_here", "_law_x", "_law_y", "_law_a", "_law_b", "_law_word"] ds)):Def P w K mg base 1 "_law_pulls" ["_law_holds_here", "_law_x", "_law_y"] (low K sp):=by
 have sc:FnScope ["_law_holds_here", "_law_x", "_law_y", "_law_a", "_law_b", "_law_word"] ["_law_holds_here", "_law_x", "_law_y"] (aB (top 41)):=by norm_cast
 refine m.okP (k:=0) (t:=l9 ) sc (λf cdv A outer s H E hr=>?_) len hsp
 ·
  have hu:=hr.units;exact(aE (eN da rfl (eZ (a7 0 (pv 0))) (Dm (k:=6) (is:=[3,4,5]) rfl (e7 (eR (i:=3) sc.nd rfl (.inl rfl)) (e7 (eR (i:=4) sc.nd rfl (.inl rfl)) (e7 (eR (i:=5) sc.nd rfl (.inl rfl)) p6)))) (aG (dZ (QW.qt (fB (QW.qt (nF (b8 (jE hu) (j4 (aA (a7 3 (pv 3)) (aA (a7 4 (pv 4)) aD))) (j4 (aA (a7 1 (pv 1)) (aA (a7 2 (pv 2)) aD)))) (kA (b8 (jD hu) (a7 5 (pv 5)) jQ)))) (gF (QW.qt (nF (b8 (jE hu) (j4 (aA (a7 4 (pv 4)) (aA (a7 3 (pv 3)) aD))) (j4 (aA (a7 1 (pv 1)) (aA (a7 2 (pv 2)) aD)))) (kA (b8 (jD hu) (a7 5 (pv 5)) jQ))))))) (aG (bD jC)) bJ)))
 (aG (bD jC)))
noncomputable abbrev cW:bV:=
 (iB (b6 (aL vT (a8 2) (eC (.int 0)))) (cC 2 (aL dB (a8 0) (a8 2))) bN)
noncomputable abbrev dL:bV:=
 (aN (cC 2 (a8 1))
 (aN (fK (cZ (a9 (gC dA (a9 (a8 0) aF)) aF)) (gN 3) cW)
 (iB (b6 (aL vT (a8 2) (eC (.int 0)))) (bR (eC (.bl ao))) bN)))
noncomputable abbrev gD:bV:=
 (aN (fK (cZ (a9 (gC dA (a9 (a8 0) aF)) aF)) (gN 1) dL)
 (bR (eC (.bl ai))))
theorem pH(P:ay)(w:bg)(mg:bf->Option ac)(base:br)(m:At K mg "_law_comes_home" "_law_comes_home" (top 42) ["_law_row"])(aZ:mg "len" = aq)(aP:mg "range" = aq)(len:∀ds Q,sp ds Q->ds.length=1)(hsp:∀ds Q,sp ds Q->gD  ↥Q (aJ ["_law_row", "_law_band", "_law_at", "_law_k"] ds)):Def P w K mg base 1 "_law_comes_home" ["_law_row"] (low K sp):=by
 have sc:FnScope ["_law_row", "_law_band", "_law_at", "_law_k"] ["_law_row"] (aB (top 42)):=by norm_cast
 refine m.okP (k:=0) (t:=gD ) sc (λf cdv A outer s H E hr=>?_) len hsp
 ·
  have hu:=hr.units;have hu1:=dW hr;exact(aE (eN da rfl (cG rfl aP (aA (b5 c7 rfl aZ fb (aA (a7 0 (pv 0)) aD)) aD)) (gB (i:=1) (k:=4) sc.nd rfl (.inl rfl)) (aE (cE (i:=2) sc.nd rfl (.inl rfl) (a7 1 (pv 1)))
 (aE (eN da rfl (cG rfl aP (aA (b5 c7 rfl aZ fb (aA (a7 0 (pv 0)) aD)) aD)) (gB (i:=3) (k:=4) sc.nd rfl (.inl rfl)) (aG (dZ (b8 (jD hu) (a7 2 (pv 2)) aH) (aG (cE (i:=2) sc.nd rfl (.inl rfl) (c6 hu1 (a7 0 (pv 0)) (a7 2 (pv 2))))) bJ)))
 (aG (dZ (b8 (jD hu) (a7 2 (pv 2)) aH) (aG (bD jC)) bJ)))))
 (aG (bD jC)))
noncomputable abbrev i9(aW:Fn):bV:=
 (iB (rY (i6 (gH (aU aW (a9 (a8 2) aF)))) (rY (b6 (aL AR (a8 2) (eC (.int 0)))) (b6 (aL LX (a8 2) (a8 1))))) (bR (eC (.bl ao))) bN)
noncomputable abbrev nA(aW:Fn):bV:=
 (aN (iB (rY (i6 (gH (qJ "list" (a8 0)))) (rY (b6 (aL vT (gC dA (a9 (a8 0) aF)) (a8 1))) (b6 (aL yB (aL dB (a8 0) (eC (.int 0))) (eC .non))))) (bR (eC (.bl ao))) bN)
 (aN (fK (kJ (FR (a8 0) (lN (eC (.int 1))) fZ)) (gN 2) (i9 aW))
 (bR (eC (.bl ai)))))
theorem zD(P:ay)(w:bg)(mg:bf->Option ac)(base:br)(m:At K mg "_law_list" "_law_list" (top 43) ["_law_row", "_law_many"])(aK:mg "isinstance" = aq)(eV:mg "list" = aq)(aZ:mg "len" = aq)(fD:Def P w K mg base 1 "_law_whole" ["_law_found"] (low K aW))(kG:MonoF aW)(len:∀ds Q,sp ds Q->ds.length=2)(hsp:∀ds Q,sp ds Q->nA aW ↥Q (aJ ["_law_row", "_law_many", "_law_band"] ds)):Def P w K mg base 2 "_law_list" ["_law_row", "_law_many"] (low K sp):=by
 have sc:FnScope ["_law_row", "_law_many", "_law_band"] ["_law_row", "_law_many"] (aB (top 43)):=by norm_cast
 refine m.okP (k:=1) (t:=nA aW) sc (λf cdv A outer s H E hr=>?_) len hsp
 ·
  have hu:=hr.units;have hu1:=dW hr;exact(aE (dZ (QW.qt (fB (d9 (cL (mU (.inr (.inr (.inr (.inl rfl)))) rfl aK (a7 0 (pv 0)) (gP (v:=.ty "list") rfl eV wr rfl)))) (fB (b8 (jD hu) (b5 c7 rfl aZ fb (aA (a7 0 (pv 0)) aD)) (a7 1 (pv 1))) (gF (b8 EQ (c6 hu1 (a7 0 (pv 0)) aH) lI))))) (aG (bD jC)) bJ)
 (aE (eN da rfl (eZ (oX (a7 0 (pv 0)) (oV aH) oW)) (gB (i:=2) (k:=3) sc.nd rfl (.inl rfl)) (aG (dZ (QW.qt (fB (d9 (cL (b9 fD kG (hr.mono ∅) (aA (a7 2 (pv 2)) aD)))) (fB (b8 iN (a7 2 (pv 2)) aH) (gF (b8 vV (a7 2 (pv 2)) (a7 1 (pv 1))))))) (aG (bD jC)) bJ)))
 (aG (bD jC))))
noncomputable abbrev i8(dJ aV bS:Fn):bV:=
 (iB (rY (i6 (gH (aU aV (a9 (a8 1) (a9 (aL dB (aL dB (a8 0) (eC (.int 0))) (a8 3)) (a9 (a8 3) aF)))))) (i6 (gH (aU aV (a9 (a8 1) (a9 (a8 3) (a9 (aL dB (aL dB (a8 0) (eC (.int 1))) (a8 3)) aF))))))) (bR (eC (.bl ao))) bN)
noncomputable abbrev n6(dJ aV bS:Fn):bV:=
 (aN (iB (rY (i6 (gH (qJ "tuple" (a8 0)))) (rY (b6 (aL vT (gC dA (a9 (a8 0) aF)) (eC (.int 2)))) (rY (i6 (gH (aU dJ (a9 (aL dB (a8 0) (eC (.int 0))) (a9 (a8 2) aF))))) (i6 (gH (aU dJ (a9 (aL dB (a8 0) (eC (.int 1))) (a9 (a8 2) aF)))))))) (bR (eC (.bl ao))) bN)
 (aN (fK (pD (a9 (eC (.int 1)) (a9 (a8 2) aF))) (gN 3) (i8 dJ aV bS))
 (bR (mY (aU bS (a9 (aL dB (a8 0) (eC (.int 0))) aF)) (aU bS (a9 (aL dB (a8 0) (eC (.int 1))) aF))))))
theorem zA(P:ay)(w:bg)(mg:bf->Option ac)(base:br){dJ bS:Fn}(m:At K mg "_law_ways" "_law_ways" (top 44) ["_law_told_here", "_law_holds_here", "_law_many"])(aK:mg "isinstance" = aq)(eD:mg "tuple" = aq)(aZ:mg "len" = aq)(aP:mg "range" = aq)(kM:Def P w K mg base 2 "_law_list" ["_law_row", "_law_many"] (low K dJ))(qU:MonoF dJ)(e9:Def P w K mg base 1 "_law_pulls" ["_law_holds_here", "_law_x", "_law_y"] (low K aV))(i4:MonoF aV)(eI:Def P w K mg base 1 "_law_comes_home" ["_law_row"] (low K bS))(j5:MonoF bS)(len:∀ds Q,sp ds Q->ds.length=3)(hsp:∀ds Q,sp ds Q->n6 dJ aV bS ↥Q (aJ ["_law_told_here", "_law_holds_here", "_law_many", "_law_band"] ds)):Def P w K mg base 3 "_law_ways" ["_law_told_here", "_law_holds_here", "_law_many"] (low K sp):=by
 have sc:FnScope ["_law_told_here", "_law_holds_here", "_law_many", "_law_band"] ["_law_told_here", "_law_holds_here", "_law_many"] (aB (top 44)):=by norm_cast
 refine m.okP (k:=2) (t:=n6 dJ aV bS) sc (λf cdv A outer s H E hr=>?_) len hsp
 ·
  have hu:=hr.units;have hu1:=dW hr;exact(aE (dZ (QW.qt (fB (d9 (cL (mU (.inr (.inr (.inl rfl))) rfl aK (a7 0 (pv 0)) (gP (v:=.ty "tuple") rfl eD vb rfl)))) (fB (b8 (jD hu) (b5 c7 rfl aZ fb (aA (a7 0 (pv 0)) aD)) aH) (fB (d9 (cL (b9 kM qU (hr.mono ∅) (aA (c6 hu1 (a7 0 (pv 0)) aH) (aA (a7 2 (pv 2)) aD))))) (gF (d9 (cL (b9 kM qU (hr.mono ∅) (aA (c6 hu1 (a7 0 (pv 0)) aH) (aA (a7 2 (pv 2)) aD)))))))))) (aG (bD jC)) bJ)
 (aE (eN da rfl (uQ rfl aP (aA aH (aA (a7 2 (pv 2)) aD))) (gB (i:=3) (k:=4) sc.nd rfl (.inl rfl)) (aG (dZ (QW.qt (fB (d9 (cL (b9 e9 i4 (hr.mono ∅) (aA (a7 1 (pv 1)) (aA (c6 hu1 (c6 hu1 (a7 0 (pv 0)) aH) (a7 3 (pv 3))) (aA (a7 3 (pv 3)) aD)))))) (gF (d9 (cL (b9 e9 i4 (hr.mono ∅) (aA (a7 1 (pv 1)) (aA (a7 3 (pv 3)) (aA (c6 hu1 (c6 hu1 (a7 0 (pv 0)) aH) (a7 3 (pv 3))) aD))))))))) (aG (bD jC)) bJ)))
 (aG (bD (sU (b9 eI j5 (hr.mono ∅) (aA (c6 hu1 (a7 0 (pv 0)) aH) aD)) (qS (b9 eI j5 (hr.mono ∅) (aA (c6 hu1 (a7 0 (pv 0)) aH) aD))))))))
noncomputable abbrev eM(aW aV:Fn):bV:=
 (iB (rY (i6 (gH (aU aW (a9 (aL dB (a8 0) (a8 3)) aF)))) (rY (b6 (aL AR (aL dB (a8 0) (a8 3)) (eC (.int 0)))) (rY (b6 (aL LX (aL dB (a8 0) (a8 3)) (a8 2))) (uC (b6 (aL Fu (a8 3) (eC (.int 0)))) (b6 (aL LX (aL dB (a8 0) (aL nK (a8 3) (eC (.int 1)))) (aL dB (a8 0) (a8 3)))))))) (bR (eC (.bl ao))) bN)
noncomputable abbrev dF(aW aV:Fn):bV:=
 (iB (uC (b6 (aL t4 (a8 5) (a8 0))) (gH (aU aV (a9 (a8 1) (a9 (a8 4) (a9 (a8 5) aF)))))) (bR (eC (.bl ao))) bN)
noncomputable abbrev eL(aW aV:Fn):bV:=
 (fK (cZ (a9 (a8 2) aF)) (gN 5) (dF aW aV))
noncomputable abbrev iH(aW aV:Fn):bV:=
 (aN (iB (rY (i6 (gH (qJ "list" (a8 0)))) (rY (b6 (aL AR (gC dA (a9 (a8 0) aF)) (eC (.int 1)))) (b6 (aL LX (gC dA (a9 (a8 0) aF)) (a8 2))))) (bR (eC (.bl ao))) bN)
 (aN (fK (cZ (a9 (gC dA (a9 (a8 0) aF)) aF)) (gN 3) (eM aW aV))
 (aN (fK (kJ (a8 0)) (gN 4) (eL aW aV))
 (bR (eC (.bl ai))))))
theorem rM(P:ay)(w:bg)(mg:bf->Option ac)(base:br)(m:At K mg "_law_free_set" "_law_free_set" (top 45) ["_law_some", "_law_holds_here", "_law_many"])(aK:mg "isinstance" = aq)(eV:mg "list" = aq)(aZ:mg "len" = aq)(aP:mg "range" = aq)(fD:Def P w K mg base 1 "_law_whole" ["_law_found"] (low K aW))(kG:MonoF aW)(e9:Def P w K mg base 1 "_law_pulls" ["_law_holds_here", "_law_x", "_law_y"] (low K aV))(i4:MonoF aV)(len:∀ds Q,sp ds Q->ds.length=3)(hsp:∀ds Q,sp ds Q->iH aW aV ↥Q (aJ ["_law_some", "_law_holds_here", "_law_many", "_law_k", "_law_x", "_law_y"] ds)):Def P w K mg base 2 "_law_free_set" ["_law_some", "_law_holds_here", "_law_many"] (low K sp):=by
 have sc:FnScope ["_law_some", "_law_holds_here", "_law_many", "_law_k", "_law_x", "_law_y"] ["_law_some", "_law_holds_here", "_law_many"] (aB (top 45)):=by norm_cast
 refine m.okP (k:=1) (t:=iH aW aV) sc (λf cdv A outer s H E hr=>?_) len hsp
 ·
  have hu1:=dW hr;have hu65:=G0 hr;exact(aE (dZ (QW.qt (fB (d9 (cL (mU (.inr (.inr (.inr (.inl rfl)))) rfl aK (a7 0 (pv 0)) (gP (v:=.ty "list") rfl eV wr rfl)))) (fB (b8 iN (b5 c7 rfl aZ fb (aA (a7 0 (pv 0)) aD)) aH) (gF (b8 vV (b5 c7 rfl aZ fb (aA (a7 0 (pv 0)) aD)) (a7 2 (pv 2))))))) (aG (bD jC)) bJ)
 (aE (eN da rfl (cG rfl aP (aA (b5 c7 rfl aZ fb (aA (a7 0 (pv 0)) aD)) aD)) (gB (i:=3) (k:=6) sc.nd rfl (.inl rfl)) (aG (dZ (QW.qt (fB (d9 (cL (b9 fD kG (hr.mono ∅) (aA (c6 hu1 (a7 0 (pv 0)) (a7 3 (pv 3))) aD)))) (fB (b8 iN (c6 hu1 (a7 0 (pv 0)) (a7 3 (pv 3))) aH) (fB (b8 vV (c6 hu1 (a7 0 (pv 0)) (a7 3 (pv 3))) (a7 2 (pv 2))) (gF (QW.qt (nF (b8 nL (a7 3 (pv 3)) aH) (kA (b8 vV (c6 hu1 (a7 0 (pv 0)) (bF mD (a7 3 (pv 3)) aH)) (c6 hu1 (a7 0 (pv 0)) (a7 3 (pv 3)))))))))))) (aG (bD jC)) bJ)))
 (aE (eN da rfl (eZ (a7 0 (pv 0))) (gB (i:=4) (k:=6) sc.nd rfl (.inl rfl)) (aG (eN da rfl (cG rfl aP (aA (a7 2 (pv 2)) aD)) (gB (i:=5) (k:=6) sc.nd rfl (.inl rfl)) (aG (dZ (QW.qt (nF (b8 (CM hu65 hu1) (a7 5 (pv 5)) (a7 0 (pv 0))) (kA (cL (b9 e9 i4 (hr.mono ∅) (aA (a7 1 (pv 1)) (aA (a7 4 (pv 4)) (aA (a7 5 (pv 5)) aD)))))))) (aG (bD jC)) bJ)))))
 (aG (bD jC)))))
noncomputable abbrev n8(cP qN dE gK:Fn):bV:=
 (aN (cC 3 (gC uV (a9 (a8 1) aF)))
 (aN (cC 4 (aU cP (a9 (a8 0) (a9 (a8 3) aF))))
 (aN (cC 5 (aU qN (a9 (a8 0) (a9 (a8 3) aF))))
 (aN (iB (rY (b6 (aL vT (a8 3) (a8 1))) (b6 (aL u7 (aL rF (a8 4) (eC .non)) (aL rF (a8 5) (eC .non))))) (bR (eC .non)) bN)
 (aN (iB (uC (b6 (aL rF (a8 4) (eC .non))) (gH (aU dE (a9 (a8 5) (a9 (a8 1) (a9 (a8 2) aF)))))) (bR (a8 5)) bN)
 (aN (iB (uC (b6 (aL rF (a8 5) (eC .non))) (gH (aU gK (a9 (a8 4) (a9 (a8 1) (a9 (a8 2) aF)))))) (bR (aL dB (a8 4) (eC (.int 0)))) bN)
 (bR (eC .non))))))))
theorem zB(P:ay)(w:bg)(mg:bf->Option ac)(base:br){cP qN dE gK:Fn}(m:At K mg "_law_told" "_law_told" (top 46) ["_law_sides", "_law_holds_here", "_law_many"])(eV:mg "list" = aq)(gI:Def P w K mg base 5 "there_and_back" ["sides", "holds"] (low K cP))(pB:MonoF cP)(Ar:Def P w K mg base 5 "free" ["sides", "holds"] (low K qN))(Gq:MonoF qN)(iT:Def P w K mg base 2 "_law_free_set" ["_law_some", "_law_holds_here", "_law_many"] (low K dE))(rH:MonoF dE)(o3:Def P w K mg base 3 "_law_ways" ["_law_told_here", "_law_holds_here", "_law_many"] (low K gK))(yK:MonoF gK)(len:∀ds Q,sp ds Q->ds.length=3)(hsp:∀ds Q,sp ds Q->n8 cP qN dE gK ↥Q (aJ ["_law_sides", "_law_holds_here", "_law_many", "_law_handed", "_law_ways_here", "_law_some"] ds)):Def P w K mg base 6 "_law_told" ["_law_sides", "_law_holds_here", "_law_many"] (low K sp):=by
 have sc:FnScope ["_law_sides", "_law_holds_here", "_law_many", "_law_handed", "_law_ways_here", "_law_some"] ["_law_sides", "_law_holds_here", "_law_many"] (aB (top 46)):=by norm_cast
 refine m.okP (k:=5) (t:=n8 cP qN dE gK) sc (λf cdv A outer s H E hr=>?_) len hsp
 ·
  have hu:=hr.units;have hu1:=dW hr;exact(aE (cE (i:=3) sc.nd rfl (.inl rfl) (oZ Hh rfl eV wr (aA (a7 1 (pv 1)) aD)))
 (aE (cE (i:=4) sc.nd rfl (.inl rfl) (b9 gI pB (hr.mono ∅) (aA (a7 0 (pv 0)) (aA (a7 3 (pv 3)) aD))))
 (aE (cE (i:=5) sc.nd rfl (.inl rfl) (b9 Ar Gq (hr.mono ∅) (aA (a7 0 (pv 0)) (aA (a7 3 (pv 3)) aD))))
 (aE (dZ (QW.qt (fB (b8 (jD hu) (a7 3 (pv 3)) (a7 1 (pv 1))) (gF (b8 (jE hu) (mV mE (a7 4 (pv 4)) lI) (mV mE (a7 5 (pv 5)) lI))))) (aG (bD lI)) bJ)
 (aE (dZ (QW.qt (nF (b8 mE (a7 4 (pv 4)) lI) (kA (cL (b9 iT rH (hr.mono ∅) (aA (a7 5 (pv 5)) (aA (a7 1 (pv 1)) (aA (a7 2 (pv 2)) aD)))))))) (aG (bD (a7 5 (pv 5)))) bJ)
 (aE (dZ (QW.qt (nF (b8 mE (a7 5 (pv 5)) lI) (kA (cL (b9 o3 yK (hr.mono ∅) (aA (a7 4 (pv 4)) (aA (a7 1 (pv 1)) (aA (a7 2 (pv 2)) aD)))))))) (aG (bD (c6 hu1 (a7 4 (pv 4)) aH))) bJ)
 (aG (bD lI))))))))
noncomputable abbrev jB(aO:af)(cI jW:n4):bV:=
 (aN (Hv aO cI (a9 (a8 0) (a9 (a8 1) aF)) (Hu aO ai jW (a9 (a8 0) (a9 (a8 1) aF))) bN)
 (bR (eC (.bl ao))))
theorem tN(P:ay)(w:bg)(mg:bf->Option ac)(base:br){cI jW:n4}(m:At K mg "_law_refused" "_law_refused" (top 47) ["_law_sides", "_law_holds_here"])(eP:mg "NoHold" = aa (.ref aO))(x_NoHold:sh K (.ref aO) (.ref aO)=aa ai)(dY:DefX P w K mg base 5 "there_and_back" ["sides", "holds"] (lowX K cI))(nN:MonoX cI)(tO:DefXH P w K mg base 5 "free" ["sides", "holds"] (lowX K jW))(CV:MonoX jW)(len:∀ds Q,sp ds Q->ds.length=2)(hsp:∀ds Q,sp ds Q->jB aO cI jW ↥Q (aJ ["_law_sides", "_law_holds_here"] ds)):Def P w K mg base 6 "_law_refused" ["_law_sides", "_law_holds_here"] (low K sp):=by
 have sc:FnScope ["_law_sides", "_law_holds_here"] ["_law_sides", "_law_holds_here"] (aB (top 47)):=by norm_cast
 refine m.okP (k:=5) (t:=jB aO cI jW) sc (λf cdv A outer s H E hr=>?_) len hsp
 ·
  exact(aE (Ih (λ_ _ z=>z) dY nN (hr.mono ∅) (aA (a7 0 (pv 0)) (aA (a7 1 (pv 1)) aD)) eP x_NoHold (λa=>(aG (Ig (λ_ _ z=>z) tO CV (Room.inx (hr.mono ∅) _) (aA (a7 0 (pv 0)) (aA (a7 1 (pv 1)) aD)) eP x_NoHold))) bJ)
 (aG (bD jC)))
noncomputable abbrev DW(bM eK fG gM fI fA dQ mJ:Fn):bV:=
 (aN (cC 1 (aU eK (a9 (aU bM (a9 (a8 0) (a9 (eC (.int 0)) aF))) aF)))
 (aN (cC 2 (aU fG (a9 (a8 1) aF)))
 (aN (cC 3 (z8 mJ (a9 (aU gM (a9 (a8 1) (a9 (aU bM (a9 (a8 0) (a9 (eC (.int 1)) aF))) aF))) aF)))
 (aN (cC 4 (FR (aU fI (a9 (a8 0) (a9 (a8 2) aF))) fZ (lN (eC (.int 59)))))
 (oR 5 fA (a9 (a8 3) (a9 (a8 4) (a9 (gC dA (a9 (a8 2) aF)) aF))) (b6 (aL rF (a8 5) (eC .non))) (bR (eC (.bl ao))) (FS (eC (.int 1))) (eC (.int 3))
 (aN (iB (b6 (aL rF (aU fA (a9 (a8 3) (a9 (a8 4) (a9 (gC dA (a9 (a8 2) aF)) aF)))) (eC .non))) (bR (eC (.bl ao))) bN)
 (aN (cC 6 (aL f6 (aU bM (a9 (a8 0) (a9 (eC (.int 4)) aF))) (aL d4 (gC dA (a9 (a8 4) aF)) (eC (.int 1)))))
 (bR (aU dQ (a9 (a8 3) (a9 (aL d4 (aL d4 (FR (a8 4) fZ (lN (a8 6))) (jU (a9 (i5 (a9 (eC (.int 0)) (a9 (aL nK (gC dA (a9 (a8 2) aF)) (eC (.int 1))) (a9 (eC (.str "held")) aF)))) aF))) (FR (a8 4) (lN (a8 6)) fZ)) aF)))))))))))
theorem Jr(P:ay)(w:bg)(mg:bf->Option ac)(base:br){eK fG gM fI fA dQ mJ:Fn}{fL:af}{fdL:fv}(F:Fun K "law" "law" (top 48) fL fdL)(aZ:mg "len" = aq)(cS:Def P w K mg base 1 "_law_deep" ["_law_script", "_law_k"] (low K bM))(dH:MonoF bM)(kN:Def P w K mg base 2 "_law_counts" ["_law_cell"] (low K eK))(u9:MonoF eK)(lR:Def P w K mg base 1 "_law_kinds" ["_law_counts_here"] (low K fG))(w4:MonoF fG)(o7:Def P w K mg base 1 "_law_dirs" ["_law_counts_here", "_law_cell"] (low K gM))(yM:MonoF gM)(lT:Def P w K mg base 2 "_law_drawn" ["_law_script", "_law_kinds_here"] (low K fI))(w9:MonoF fI)(kK:Def P w K mg base 6 "_law_told" ["_law_sides", "_law_holds_here", "_law_many"] (low K fA))(qT:MonoF fA)(jI:Def P w K mg base 6 "_law_refused" ["_law_sides", "_law_holds_here"] (low K dQ))(tB:MonoF dQ)(wS:IDef P w K mg base 5 "Sides" C ["self", "directions"] mJ)(Eh:MonoF mJ)(len:∀ds Q,sp ds Q->ds.length=1)(hsp:∀ds Q,sp ds Q->DW bM eK fG gM fI fA dQ mJ ↥Q (aJ ["_law_script", "_law_counts_here", "_law_kinds_here", "_law_sides", "_law_holds_here", "_law_told_here", "_law_at"] ds)):FnOk P w K mg base xD 7 fL fdL ["_law_script"] (low K sp):=by
 have sc:FnScope ["_law_script", "_law_counts_here", "_law_kinds_here", "_law_sides", "_law_holds_here", "_law_told_here", "_law_at"] ["_law_script"] (aB (top 48)):=by norm_cast
 refine F.ok (k:=6) sc (pC len) λcdv A outer s H vs Q E hr qq=>pL (N:=["_law_script", "_law_counts_here", "_law_kinds_here", "_law_sides", "_law_holds_here", "_law_told_here", "_law_at"]) (t:=DW bM eK fG gM fI fA dQ mJ) ?_ hsp qq
 ·
  exact(aE (cE (i:=1) sc.nd rfl (.inl rfl) (b9 kN u9 (hr.mono ∅) (aA (b9 cS dH (hr.mono ∅) (aA (a7 0 (pv 0)) (aA aH aD))) aD)))
 (aE (cE (i:=2) sc.nd rfl (.inl rfl) (b9 lR w4 (hr.mono ∅) (aA (a7 1 (pv 1)) aD)))
 (aE (cE (i:=3) sc.nd rfl (.inl rfl) (Ik wS Eh (hr.mono ∅) (aA (b9 o7 yM (hr.mono ∅) (aA (a7 1 (pv 1)) (aA (b9 cS dH (hr.mono ∅) (aA (a7 0 (pv 0)) (aA aH aD))) aD))) aD)))
 (aE (cE (i:=4) sc.nd rfl (.inl rfl) (oX (b9 lT w9 (hr.mono ∅) (aA (a7 0 (pv 0)) (aA (a7 2 (pv 2)) aD))) oW (oV aH)))
 (Dk (i:=5) kK qT (hr.mono ∅) (aA (a7 3 (pv 3)) (aA (a7 4 (pv 4)) (aA (b5 c7 rfl aZ fb (aA (a7 2 (pv 2)) aD)) aD))) (b8 mE (a7 5 (pv 5)) lI) (aG (bD jC)) (L1 aH) aH aH
 (aE (dZ (b8 mE (b9 kK qT (hr.mono ∅) (aA (a7 3 (pv 3)) (aA (a7 4 (pv 4)) (aA (b5 c7 rfl aZ fb (aA (a7 2 (pv 2)) aD)) aD)))) lI) (aG (bD jC)) bJ)
 (aE (cE (i:=6) sc.nd rfl (.inl rfl) (bF d6 (b9 cS dH (hr.mono ∅) (aA (a7 0 (pv 0)) (aA aH aD))) (bF bW (b5 c7 rfl aZ fb (aA (a7 4 (pv 4)) aD)) aH)))
 (aG (bD (b9 jI tB (hr.mono ∅) (aA (a7 3 (pv 3)) (aA (bF bW (bF bW (oX (a7 4 (pv 4)) oW (oV (a7 6 (pv 6)))) (iK (aA (j4 (aA aH (aA (bF mD (b5 c7 rfl aZ fb (aA (a7 2 (pv 2)) aD)) aH) (aA jQ aD)))) aD))) (oX (a7 4 (pv 4)) (oV (a7 6 (pv 6))) oW)) aD))))))) sc.nd rfl (.inl rfl) (pv 5) (pv 5))))))
end
end Lw
variable {ks:List Int}
namespace Fl
variable {l:List Int}{y:Int}
section
variable {p:Nat}{x:Int}
end
variable {e r:List Int}
section
variable {x:Int}
end
end Fl
namespace Lw
open L2 Z
open Sf (Rw crs wZ Pre Good aM bK)
noncomputable abbrev rD(r:Rw):Dv:=.tup [.int r.x,.int r.y,.int r.m]
noncomputable abbrev xB(rows:List Rw):List Dv:=rows.map rD
noncomputable abbrev d8(r:List Int):List Dv:=r.map Dv.int
noncomputable abbrev vF(rows:List Rw):List Dv:=rows.map λr=>.tup [.int r.x,.int r.y]
noncomputable abbrev d3(C:af)(rows:List Rw):Dv:=.obj C [("kinds",.tup (d8 (aM rows))),("vectors",.tup (vF rows))]
noncomputable abbrev Qm:Int:=999999999999
noncomputable def KF(r:Rw):Prop:=r.up /\ -999999999999<=r.x/\r.x<=999999999999/\r.y<=999999999999/\1<=r.m
noncomputable def sM:Fn:=λds Q=>∃n:Int,ds=[.int n]/\Q (.v (.bl ai))
noncomputable def oI:Fn:=λds Q=>∃r:Rw,ds=[rD r]/\Q (.v (.bl ai))
noncomputable def pV:Fn:=λds Q=>∃r:Rw,ds=[rD r]/\KF r/\Q (.v (.bl ai))
noncomputable def k8:Fn:=λds Q=>∃r a:Rw,ds=[rD r,rD a]/\KF r/\KF a/\0<crs a r/\Q (.v (.bl ai))
noncomputable def k9:Fn:=λds Q=>∃r:Rw,ds=[rD r]/\KF r/\Q (.v .non)
noncomputable def pW:Fn:=λds Q=>∃rows:List Rw,ds=[.lst (xB rows)]/\Good rows/\Q (.v .non)
noncomputable def lF(C:af):Fn:=λds Q=>∃rows:List Rw,ds=[.lst (xB rows)]/\Good rows/\Q (.nw (d3 C rows))
theorem HA:∀ds Q,sM ds Q->ds.length=1:=by rintro ds Q ⟨_,rfl,_⟩;rfl
theorem Ca:∀ds Q,oI ds Q->ds.length=1:=by rintro ds Q ⟨_,rfl,_⟩;rfl
theorem BU:∀ds Q,pV ds Q->ds.length=1:=by rintro ds Q ⟨_,rfl,_⟩;rfl
theorem Ep:∀ds Q,k8 ds Q->ds.length=2:=by rintro ds Q ⟨_,_,rfl,_⟩;rfl
theorem Ew:∀ds Q,k9 ds Q->ds.length=1:=by rintro ds Q ⟨_,rfl,_⟩;rfl
theorem HC:∀ds Q,pW ds Q->ds.length=1:=by rintro ds Q ⟨_,rfl,_⟩;rfl
theorem Cb:∀ds Q,lF C ds Q->ds.length+1=2:=by rintro ds Q ⟨_,rfl,_⟩;rfl
theorem Ed:MonoF sM:=⟨λds Q Q' w z=>by obtain⟨r,e,h⟩:=z;exact⟨r,e,w _ h⟩⟩
theorem EW:MonoF oI:=⟨λds Q Q' w z=>by obtain⟨r,e,h⟩:=z;exact⟨r,e,w _ h⟩⟩
theorem Ef:MonoF pV:=⟨λds Q Q' w z=>by obtain⟨r,e,a,h⟩:=z;exact⟨r,e,a,w _ h⟩⟩
theorem Go:MonoF k8:=⟨λds Q Q' w z=>by obtain⟨r,e,a,b,c,d,h⟩:=z;exact⟨r,e,a,b,c,d,w _ h⟩⟩
theorem Gs:MonoF k9:=⟨λds Q Q' w z=>by obtain⟨r,e,a,h⟩:=z;exact⟨r,e,a,w _ h⟩⟩
theorem JZ:MonoF pW:=⟨λds Q Q' w z=>by obtain⟨r,e,a,h⟩:=z;exact⟨r,e,a,w _ h⟩⟩
theorem EY:MonoF (lF C):=⟨λds Q Q' w z=>by obtain⟨r,e,a,h⟩:=z;exact⟨r,e,a,w _ h⟩⟩
theorem AQ:∀ds Q,sM ds Q->nE ↥Q (aJ ["thing"] ds):=by
 rintro ds Q ⟨n,rfl,q⟩;ac_nf;exact⟨rfl,rfl,q⟩
theorem nG:∀ds Q,oI ds Q->eW sM ↥Q (aJ ["direction"] ds):=by
 rintro ds Q ⟨r,rfl,q⟩;ac_nf;refine⟨rfl,?_⟩;rw[show HK "tuple" (rD r)=ai from rfl];ac_nf;rw[show (!decide (((0+1+1+1:Nat):Int)=3))=ao from rfl];ac_nf;refine⟨_,rfl,?_⟩;ac_nf;refine⟨_,rfl,?_⟩;ac_nf;refine⟨_,rfl,?_⟩;ac_nf;exact⟨[ai,ai,ai],rfl,q⟩
theorem p7:∀ds Q,pV ds Q->fQ ↥Q (aJ ["direction"] ds):=by
 rintro ds Q ⟨r,rfl,⟨hu,h1,h2,h3,_⟩,q⟩;have hy:0<=r.y:=by rcases hu with h | h<;>right
 ac_nf;rw[SS (show (if r.x<0 then -r.x else r.x)<=999999999999 by split<;>right),decide_eq_true (show (if r.y<0 then -r.y else r.y)<=999999999999 by split<;>right)];exact q
theorem xY:∀ds Q,pV ds Q->l6 ↥Q (aJ ["direction"] ds):=by
 rintro ds Q ⟨r,rfl,⟨hu,h1,h2,h3,_⟩,q⟩;ac_nf;rcases hu with h | ⟨h,h'⟩
 ·rw[SS h];exact q
 ·rw[Sm ⋯,SS h,decide_eq_true h'];exact q
theorem xZ:∀ds Q,k8 ds Q->l7 ↥Q (aJ ["direction", "ahead"] ds):=by
 rintro ds Q ⟨r,a,rfl,⟨hu,h1,h2,h3,_⟩,⟨gu,g1,g2,g3,_⟩,hc,q⟩;ac_nf;refine⟨.inl (.inl ⟨⋯,⋯⟩),.inl (.inl ⟨⋯,⋯⟩),?_⟩;rw[decide_eq_true (show 0<a.x*r.y-r.x*a.y from hc)];exact q
theorem p8:∀ds Q,k9 ds Q->fR oI pV pV ↥Q (aJ ["direction"] ds):=by
 rintro ds Q ⟨r,rfl,ok,q⟩;ac_nf;refine⟨r,rfl,?_⟩;ac_nf;refine⟨r,rfl,ok,?_⟩;ac_nf;refine⟨r,rfl,ok,?_⟩;ac_nf;rw[Sm (by have:=ok.2.2.2.2;right)];exact q
variable {E:En}
theorem M9{x:Sl}:∀(rows:List Rw) (s t:Sl),(∀r∈rows,KF r)->(∀s,E.nx [x,s,t])->aT (gN 1) (h9 k9 k8) [] (xB rows) E [x,s,t]:=by
 intro rows;induction rows with
 |nil=>
  intro s t _ h;ac_nf;exact h s
 |cons r rs ih=>
  intro s t ok h;ac_nf;refine⟨r,rfl,ok r (by simp),?_⟩;ac_nf;exact ih _ _ (λr hr=>ok r (by simp[hr])) h
theorem M7:∀(rows:List Rw) (acc:List Int),acc.length+rows.length<=100->Q (.nw (.lst (d8 (acc++rows.map (·.m)))))->cT [.un] (gN 0) dS (aL dB (a8 0) (eC (.int 2))) (xB rows) (d8 acc) Q:=by
 intro rows;induction rows with
 |nil=>
  intro acc _ h;ac_nf;simpa using h
 |cons r rs ih=>
  intro acc hl h;simp only[cw] at hl;push_cast [bt];refine⟨⋯,?_⟩;rw[show d8 acc++[Dv.int r.m]=d8 (acc++[r.m]) by simp];exact ih _ (by simp;right) (by simpa using h)
theorem M8{x:Sl}:∀(rows:List Rw) (s t:Sl),wZ rows->(∀r∈rows,KF r)->(∀s t,E.nx [x,s,t])->aT (gT [2,1]) (eA k9 k8) [] (xE (xB rows) (xB (rows.drop 1))) E [x,s,t]:=by
 intro rows;induction rows with
 |nil=>
  intro s t _ _ h;push_cast [xE,List.zipWith_nil_left];exact h s t
 |cons a rs ih=>
  intro s t srt ok h;cases rs with
  |nil=>
   push_cast [xE,List.drop,yt];exact h s t
  |cons b rs=>
   push_cast [xE,List.drop,yt];refine⟨b,a,rfl,ok b (by simp),ok a (by simp),?_,?_⟩
   ·exact(xw.mp srt).1 b (by simp)
   ·ac_nf;exact ih _ _ (xw.mp srt).2 (λr hr=>ok r (by simp at hr ⊢;exact .inr hr)) h
theorem nI:∀ds Q,pW ds Q->eX k9 k8 ↥Q (aJ ["directions", "direction", "ahead"] ds):=by
 rintro ds Q ⟨rows,rfl,G,q⟩;have lo:=G.lo;have hi:=G.hi;push_cast [bt];refine⟨rfl,?_⟩;rw[show HK "list" (.lst (xB rows))=ai from rfl];ac_nf;rw[SS ⋯,decide_eq_true (show (rows.length:Int)<=6 by right)];ac_nf;refine M9 rows _ _ G.ok λs=>?_;ac_nf;refine M7 rows [] (by simp;right) ?_;refine⟨rows.map (·.m),by simp,?_⟩;ac_nf;rw[Sm (by have:=G.tot;unfold Sf.many at this;right)];show aT (gT [2,1]) (eA k9 k8) [] _ _ _;rw[tP ∅,show (xB rows).drop (RK 1)=xB (rows.drop 1) by simp[xB]];exact M8 rows _ _ G.srt G.ok λs t=>q
theorem CW{rows:List Rw}(h:∀r∈rows,1<=r.m):∀k,Sf.many (rows.take k)<=Sf.many rows:=by
 induction rows with
 |nil=>intro k;simp
 |cons r rs ih=>
  intro k;cases k with
  |zero=>
   have:=ih (λr hr=>h r (by simp[hr])) 0;have hm:=h r (by simp);simp only[Sf.many,List.take_zero,wo,List.sum_nil,cn,sk] at *;right
  |succ k=>
   have:=ih (λr hr=>h r (by simp[hr])) k;simp only[Sf.many,List.take_succ_cons,cn,sk] at *;right
theorem Jn{x y:Sl}:∀(rs:List Rw) (k:Nat) (ks:List Int) (s t:Sl),(∀r∈rs,1<=r.m)->(ks.length:Int)+Sf.many rs<=12->(∀s t,E.nx [x,y,.own a (.lst (d8 (ks++bK k rs))),s,t]) ->
  aT (gT [3,4]) (pM C pW) [] (((xB rs).zipIdx k).map λq=>.tup [.int (q.2:Int),q.1]) E [x,y,.own a (.lst (d8 ks)),s,t]:=by
 intro rs;induction rs with
 |nil=>
  intro k ks s t _ _ h;push_cast [Qs];simpa [bK] using h s t
 |cons r rs ih=>
  intro k ks s t ok hb h;have hm:=ok r (by simp);have hp:0<=Sf.many rs:=by
   have:=CW (λr hr=>ok r (by simp[hr])) (rows:=rs) 0;simpa [Sf.many] using this
  have hb':(ks.length:Int)+(r.m+Sf.many rs)<=12:=by simpa [Sf.many] using hb
  push_cast [za,pM,bt];refine⟨⟨⋯,⋯,⋯⟩,?_⟩;have e:(bc r.m.toNat [Dv.int (k:Int)]).flatten=d8 (bc r.m.toNat (k:Int)):=by
   rw[ju];simp
  rw[e];refine⟨by simp;right,?_⟩;rw[show d8 ks++d8 (bc r.m.toNat (k:Int))=d8 (ks++bc r.m.toNat (k:Int)) by simp];refine ih (k+1) _ _ _ (λr hr=>ok r (by simp[hr])) (by simp;right) λs t=>?_;rw[om];exact h s t
theorem Jm:∀(rows:List Rw) (acc:List Rw),acc.length+rows.length<=100->Q (.nw (.lst (vF (acc++rows))))->cT [.un] (gN 0) dS (i5 (a9 (aL dB (a8 0) (eC (.int 0))) (a9 (aL dB (a8 0) (eC (.int 1))) aF))) (xB rows) (vF acc) Q:=by
 intro rows;induction rows with
 |nil=>
  intro acc _ h;ac_nf;simpa using h
 |cons r rs ih=>
  intro acc hl h;simp only[cw] at hl;push_cast [bt];refine⟨⋯,?_⟩;rw[show vF acc++[Dv.tup [Dv.int r.x,Dv.int r.y]]=vF (acc++[r]) by simp];exact ih _ (by simp;right) (by simpa using h)
theorem JI:∀ds Q,lF C ds Q -> ∀a,A5 C pW { nx:=λρ=>∃d,ρ[0]?=aa (.own a d)/\Q (.nw d),rt:=λ_=>False } (hU C a ["self", "directions", "kinds", "number", "direction"] ds):=by
 rintro ds Q ⟨rows,rfl,G,q⟩ a;have hi:=G.hi;ac_nf;refine⟨rows,rfl,G,?_⟩;ac_nf;intro b;show aT (gT [3,4]) (pM C pW) [] (((xB rows).zipIdx 0).map λq=>.tup [.int (q.2:Int),q.1]) _ [_,_,.own b (.lst (d8 [])),_,_];refine Jn rows 0 [] _ _ (λr hr=>(G.ok r hr).2.2.2.2) (by simpa using G.tot) λs t=>?_;ac_nf;refine Jm rows [] (by simp;right) ?_;ac_nf;exact⟨(by decide:1<1000),_,rfl,q⟩
end Lw
variable {ar:List (Int×Int)}
namespace Lw
open L2 Z
open Sf (Rw crs wZ Pre Good aM bK)
theorem eS{r:List Int}{k:Nat}(h:k<r.length):kW (d8 r) (k:Int)=aa (.int (r.getD k 0)):=by
 rw[g9 ⋯ (by simp;right)];simp[List.getD,h]
noncomputable def rQ(C:af):Fn:=λds Q=>∃(rows:List Rw) (b:Nat),ds=[d3 C rows,.int b]/\b<(aM rows).length/\Q (.v (.int ((aM rows).getD b 0)))
theorem Er:∀ds Q,rQ C ds Q->ds.length=2:=by rintro ds Q ⟨_,_,rfl,_⟩;rfl
theorem rV:MonoF (rQ C):=⟨λds Q Q' w z=>by obtain⟨r,b,e,a,h⟩:=z;exact⟨r,b,e,a,w _ h⟩⟩
theorem JH:∀ds Q,rQ C ds Q->A4 C ↥Q (aJ ["self", "band"] ds):=by
 rintro ds Q ⟨rows,b,rfl,hb,h⟩;ac_nf;rw[show List.lookup (ee "kinds") [(ee "kinds",Dv.tup (d8 (aM rows))),(ee "vectors",Dv.tup (vF rows))]=aa (Dv.tup (d8 (aM rows))) from rfl];ac_nf;rw[eS hb];exact h
noncomputable def j3(C:af):Fn:=λds Q=>∃rows:List Rw,ds=[d3 C rows]/\Q (.v (.int (aM rows).length))
theorem Em:∀ds Q,j3 C ds Q->ds.length=1:=by rintro ds Q ⟨_,rfl,_⟩;rfl
theorem gQ:MonoF (j3 C):=⟨λds Q Q' w z=>by obtain⟨r,e,h⟩:=z;exact⟨r,e,w _ h⟩⟩
theorem JG:∀ds Q,j3 C ds Q->A3 C ↥Q (aJ ["self"] ds):=by
 rintro ds Q ⟨rows,rfl,h⟩;ac_nf;rw[show List.lookup (ee "kinds") [(ee "kinds",Dv.tup (d8 (aM rows))),(ee "vectors",Dv.tup (vF rows))]=aa (Dv.tup (d8 (aM rows))) from rfl];push_cast [bt];exact h
noncomputable abbrev pN(l:List (Int×Int)):List Dv:=l.map λt=>.tup [.int t.1,.int t.2]
noncomputable abbrev wC(ps:List (Int×Dv)):KD:=ps.map λp=>(bv p.1,p.2)
noncomputable abbrev ky(ps:List (Int×Dv)):List Int:=ps.map (·.1)
theorem FC(ps:List (Int×Dv))(i:Int):hasK (wC ps) i=decide (i∈ky ps):=by
 unfold hasK;rw[RY,vg,Qp,decide_eq_true_eq,ig];constructor
 ·rintro⟨p,h1,h2⟩;have:bv p.1=(bv i:bI):=by simpa using h2
  injection this with e;exact⟨p,h1,e⟩
 ·rintro⟨p,h1,rfl⟩;exact⟨p,h1,by simp⟩
variable {ps:List (Int×Dv)}
theorem Iu{i:Int}(d:Dv)(h:i ∉ ky ps):uR (wC ps) (bv i) d=wC (ps++[(i,d)]):=by
 unfold uR;have:(wC ps).any (λkv=>decide (kv.1=bv i))=ao:=by
  have:=FC ps i;unfold hasK at this;rw[this,decide_eq_false h]
 rw[this];simp
inductive Rch(ar:List (Int×Int))(s:Int):Int->Prop
 |base:Rch ar s s
 |step {x y:Int}:Rch ar s x->(x,y)∈ar->Rch ar s y
structure Tree(ar:List (Int×Int))(s:Int)(ps:List (Int×Dv)):Prop where
 fst:ps[0]?=aa (s,.non)
 nxt:∀(j:Nat) (k:Int) (d:Dv),ps[j+1]?=aa (k,d) -> ∃(i:Nat) (p:Int),i<=j/\(ky ps)[i]?=aa p/\d=.int p/\(p,k)∈ar
variable {s:Int}
theorem Tree.snoc{b y:Int}(t:Tree ar s ps)(hb:b∈ky ps)(m:(b,y)∈ar):Tree ar s (ps++[(y,.int b)]):=by
 have l0:0<ps.length:=(bj.mp t.fst).1;have keep:∀{i:Nat} {p:Int},(ky ps)[i]?=aa p->(ky (ps++[(y,Dv.int b)]))[i]?=aa p:=λ{i p} e=>by
  rw[show ky (ps++[(y,Dv.int b)])=ky ps++[y] by simp,bp (bj.mp e).1,e]
 refine⟨by rw[bp l0,t.fst],λj k d e=>?_⟩;by_cases hj:j+1<ps.length
 ·rw[bp hj] at e;obtain⟨i,p,h1,h2,h3,h4⟩:=t.nxt j k d e;exact⟨i,p,h1,keep h2,h3,h4⟩
 ·have hl:=(bj.mp e).1;rw[fy,vk] at hl;rw[cg ⋯,show j+1-ps.length=0 by right] at e;cases e;obtain⟨i,hi,ei⟩:=List.mem_iff_getElem.mp hb;rw[bt] at hi;exact⟨i,b,⋯,keep (by rw[dm (by rw[bt];exact hi),ei]),rfl,m⟩
structure RI(ar:List (Int×Int))(s:Int)(ps:List (Int×Dv))(ws:List Int):Prop where
 nd:(ky ps).Nodup
 st:s∈ky ps
 rch:∀k∈ky ps,Rch ar s k
 sub:∀w∈ws,w∈ky ps
 tre:Tree ar s ps
 done:∀k∈ky ps,k ∉ ws -> ∀y,(k,y)∈ar->y∈ky ps
structure RJ(ar:List (Int×Int))(s:Int)(band:Int)(todo:List (Int×Int))(ps:List (Int×Dv))(ws:List Int):Prop where
 nd:(ky ps).Nodup
 st:s∈ky ps
 rch:∀k∈ky ps,Rch ar s k
 sub:∀w∈ws,w∈ky ps
 bd:band∈ky ps
 tre:Tree ar s ps
 done:∀k∈ky ps,k ∉ ws -> ∀y,(k,y)∈ar->y∈ky ps \/ (k=band/\(k,y)∈todo)
theorem GC{T9:Int}{E:En}{a1 a2:af}{x0 x1:Sl}:∀(Th:List (Int×Int)) (ps:List (Int×Dv)) (ws:List Int) (s5 s6:Sl),(∀p∈Th,p∈ar)->RJ ar s T9 Th ps ws->ps.length+Th.length<=10000->ws.length<=ps.length ->
  (∀(ps':List (Int×Dv)) (ws':List Int) (t:Nat) (s5 s6:Sl),RJ ar s T9 [] ps' ws'->ps'.length=ps.length+t->ws'.length=ws.length+t->t<=Th.length->E.nx [x0,x1,.own a1 (.dik (wC ps')),.own a2 (.lst (d8 ws')),.v (.int T9),s5,s6]) ->
  aT (gT [5,6]) j9 [] (pN Th) E [x0,x1,.own a1 (.dik (wC ps)),.own a2 (.lst (d8 ws)),.v (.int T9),s5,s6]:=by
 intro Th;induction Th with
 |nil=>
  intro ps ws s5 s6 hm J hl hw h;rw[show pN []=[] from rfl,bE];exact⟨λp hp=>by simp at hp,h ps ws 0 s5 s6 J rfl rfl (bo _)⟩
 |cons p Th ih=>
  intro ps ws s5 s6 hm J hl hw h;obtain⟨x,y⟩:=p;rw[cw] at hl;have hm':∀p∈Th,p∈ar:=λp hp=>hm p (cp _ hp);have hxy:(x,y)∈ar:=hm _ (de ..);rw[show pN ((x,y)::Th)=.tup [.int x,.int y]::pN Th from rfl,aS];refine⟨λp hp=>by simp at hp,?_⟩;have nx:=λps ws s5 s6=>ih ps ws s5 s6 hm';generalize aT (gT [5,6]) j9 [] (pN Th) E=G at nx ⊢;have stay:(x=T9->y∈ky ps)->G [x0,x1,.own a1 (.dik (wC ps)),.own a2 (.lst (d8 ws)),.v (.int T9),.v (.int x),.v (.int y)]:=λhy=>by
   refine nx ps ws _ _ ⟨J.nd,J.st,J.rch,J.sub,J.bd,J.tre,λk hk hn z hz=>?_⟩ ⋯ hw λps' ws' t s5 s6 J' e1 e2 e3=>h ps' ws' t s5 s6 J' e1 e2 (by rw[cw];right);rcases J.done k hk hn z hz with q | ⟨q1,q2⟩
   ·exact .inl q
   ·rcases cr.mp q2 with q2 | q2
    ·cases q2;exact .inl (hy q1)
    ·exact .inr ⟨q1,q2⟩
  push_cast [j9,FC];refine eF (λe=>?_) λe=>stay λz=>absurd z e;by_cases hy:y∈ky ps
  ·rw[decide_eq_true hy];exact iP (stay λ_=>hy)
  ·rw[decide_eq_false hy];refine iO ?_;push_cast [bt];refine⟨y,rfl,?_⟩;rw[Iu _ hy,show d8 ws++[Dv.int y]=d8 (ws++[y]) by simp];have ke:ky (ps++[(y,Dv.int T9)])=ky ps++[y]:=by simp
   refine⟨⋯,⋯,?_⟩;refine nx (ps++[(y,.int T9)]) (ws++[y]) _ _ ⟨?_,?_,λk hk=>?_,λw hw'=>?_,?_,J.tre.snoc J.bd (e ▸ hxy),λk hk hn z hz=>?_⟩ (by simp;right) (by simp;right) λps' ws' t s5 s6 J' e1 e2 e3=>h ps' ws' (t+1) s5 s6 J' (by rw[e1];simp;right) (by rw[e2];simp;right) (by rw[cw];right)
   ·rw[ke,yw];exact⟨J.nd,by simp,λa ha b hb=>by rw[dk.mp hb];exact λz=>hy (z ▸ ha)⟩
   ·rw[ke];exact gw _ J.st
   ·rw[ke] at hk;rcases fu.mp hk with hk | hk
    ·exact J.rch k hk
    ·rw[dk.mp hk];exact .step (J.rch T9 J.bd) (e ▸ hxy)
   ·rw[ke];rcases fu.mp hw' with hw' | hw'
    ·exact gw _ (J.sub w hw')
    ·exact dh _ hw'
   ·rw[ke];exact gw _ J.bd
   ·rw[ke] at hk ⊢;have hn1:k ∉ ws:=λz=>hn (gw _ z);have hk1:k∈ky ps:=by
     rcases fu.mp hk with hk | hk
     ·exact hk
     ·exact absurd (dh _ hk) hn
    rcases J.done k hk1 hn1 z hz with q | ⟨q1,q2⟩
    ·exact .inl (gw _ q)
    ·rcases cr.mp q2 with q2 | q2
     ·cases q2;exact .inl (dh _ (dk.mpr rfl))
     ·exact .inr ⟨q1,q2⟩
noncomputable def eY:Fn:=λds Q=>∃(ar:List (Int×Int)) (s:Int),ds=[.lst (pN ar),.int s]/\ar.length<=200 /\ ∀ps:List (Int×Dv),(ky ps).Nodup->(∀k,k∈ky ps ↔ Rch ar s k)->Tree ar s ps->Q (.nw (.dik (wC ps)))
theorem yR:∀ds Q,eY ds Q->ds.length=2:=by rintro ds Q ⟨_,_,rfl,_⟩;rfl
theorem f7:MonoF eY:=⟨λds Q Q' w z=>by obtain⟨p,q,e,a,h⟩:=z;exact⟨p,q,e,a,λps x y z=>w _ (h ps x y z)⟩⟩
theorem Ez(nd:(ky ps).Nodup)(h:∀k∈ky ps,Rch ar s k):ps.length<=ar.length+1:=by
 have sub:∀k∈ky ps,k∈s::ar.map (·.2):=λk hk=>by
  cases h k hk with
  |base=>exact de ..
  |step _ m=>exact cp _ (ig.mpr ⟨_,m,rfl⟩)
 have:=nd.length_le_of_subset (l₂:=s::ar.map (·.2)) (λk hk=>sub k hk);simpa using this
theorem CA:∀ds Q,eY ds Q->pR ↥Q (aJ ["arrows", "start", "told", "waiting", "band", "x", "y"] ds):=by
 rintro ds Q ⟨ar,s,rfl,hl,h⟩;ac_nf;refine⟨s,rfl,λa1=>?_⟩;intro a2;refine⟨λm ρ=>∃(ps:List (Int×Dv)) (ws:List Int) (s4 s5 s6:Sl),ρ=[.v (.lst (pN ar)),.v (.int s),.own a1 (.dik (wC ps)),.own a2 (.lst (d8 ws)),s4,s5,s6]/\RI ar s ps ws/\ws.length<=ps.length/\m+2*ps.length=1000+ws.length,⟨999,[(s,.non)],[s],_,_,_,rfl,⟨by simp,by simp,λk hk=>?_,λw hw=>?_,⟨rfl,λj k d z=>(nomatch z)⟩,λk hk hn=>?_⟩,by simp,rfl⟩,λm ρ I=>?_⟩
 ·rw[show ky [(s,Dv.non)]=[s] from rfl] at hk;rw[dk.mp hk];exact .base
 ·exact hw
 ·exact absurd hk hn
 ·obtain⟨ps,ws,s4,s5,s6,rfl,I,hw,hm⟩:=I;ac_nf;cases ws with
  |nil=>
   refine iP (h ps I.nd (λk=>⟨I.rch k,λr=>?_⟩) I.tre);induction r with
   |base=>exact I.st
   |step _ m ih=>exact I.done _ ih (λz=>nomatch z) _ m
  |cons w ws0=>
   refine iO ?_;have el:w::ws0=(w::ws0).dropLast++[(w::ws0).getLast (by simp)]:=(qi _).symm;generalize (w::ws0).dropLast=vs at el;generalize (w::ws0).getLast _=T9 at el;rw[el] at I hw hm ⊢;refine⟨d8 vs,.int T9,by simp,?_⟩;have lp:=Ez I.nd I.rch;have bm:T9∈ky ps:=I.sub T9 (dh _ (dk.mpr rfl));refine GC ar ps vs _ _ (λ_ h=>h) ⟨I.nd,I.st,I.rch,λw hw=>I.sub w (gw _ hw),bm,I.tre,λk hk hn y hy=>?_⟩ ⋯ (by simp at hw;right) λps' ws' t s5 s6 J e1 e2 e3=>?_
   ·by_cases e:k=T9
    ·exact .inr ⟨e,hy⟩
    ·refine .inl (I.done k hk (λz=>?_) y hy);rcases fu.mp z with z | z
     ·exact hn z
     ·exact e (dk.mp z)
   ·have lp':=Ez J.nd J.rch;simp only[fy,cw,xu] at hw hm;refine⟨1000+ws'.length-2*ps'.length,⋯,ps',ws',_,s5,s6,rfl,⟨J.nd,J.st,J.rch,J.sub,J.tre,λk hk hn y hy=>?_⟩,⋯,⋯⟩;rcases J.done k hk hn y hy with q | ⟨_,q⟩
    ·exact q
    ·exact nomatch q
end Lw
namespace Lw
open L2 Z
open Sf (Rw crs wZ Pre Good aM bK)
structure Hd where
 a:Nat
 b:Nat
 w:Nat
noncomputable def wd(w:Nat):bf:=if w=0 then "brace" else if w=1 then "more" else "less"
noncomputable abbrev fY(h:Hd):Dv:=.tup [.int h.a,.int h.b,.str (wd h.w)]
noncomputable def GR(ks:List Int)(a b:Nat):Bool:=decide (a<b)&&(decide (b<ks.length) && !decide (ks.getD a 0=ks.getD b 0))
noncomputable def Fq(rows:List Rw)(h:Hd):Prop:=GR (aM rows) h.a h.b=ai
noncomputable def cH(h:Hd):List (Int×Int):=if h.w=0 then [((h.a:Int),(h.b:Int)),((h.b:Int),(h.a:Int))] else if h.w=1 then [((h.a:Int),(h.b:Int))] else [((h.b:Int),(h.a:Int))]
noncomputable def jK(hs:List Hd):List (Int×Int):=hs.flatMap cH
variable {ar':List (Int×Int)}{s y:Int}
theorem Rch.mono(h:∀p,p∈ar->p∈ar')(r:Rch ar s y):Rch ar' s y:=by
 induction r with
 |base=>exact .base
 |step _ m ih=>exact .step ih (h _ m)
theorem vM(h:∀p,p∈ar ↔ p∈ar'):Rch ar s y ↔ Rch ar' s y:=⟨λr=>r.mono λp m=>(h p).mp m,λr=>r.mono λp m=>(h p).mpr m⟩
theorem DL(w:Nat):d7 8 (.str (wd w))=ai:=by
 unfold wd;split
 ·decide +kernel
 ·split<;>decide +kernel
variable {w:Nat}
theorem FM:eqD (.str (wd w)) (.str "brace")=decide (w=0):=by
 unfold wd;by_cases h:w=0
 ·rw[SS h,decide_eq_true h];decide +kernel
 ·rw[Sm h,decide_eq_false h];split<;>decide +kernel
theorem Ba(h:w≠0):eqD (.str (wd w)) (.str "more")=decide (w=1):=by
 unfold wd;rw[Sm h];by_cases h:w=1
 ·rw[SS h,decide_eq_true h];decide +kernel
 ·rw[Sm h,decide_eq_false h];decide +kernel
theorem FA(w:Nat):(["brace", "more", "less"]:List bf).any (· == wd w)=ai:=by
 unfold wd;split
 ·decide +kernel
 ·split<;>decide +kernel
noncomputable def rP(C:af):Fn:=λds Q=>∃(rows:List Rw) (a b:Nat),ds=[d3 C rows,.int a,.int b]/\Q (.v (.bl (GR (aM rows) a b)))
theorem El:∀ds Q,rP C ds Q->ds.length=3:=by rintro ds Q ⟨_,_,_,rfl,_⟩;rfl
theorem Gk:MonoF (rP C):=⟨λds Q Q' w z=>by obtain⟨p,q,r,e,h⟩:=z;exact⟨p,q,r,e,w _ h⟩⟩
theorem CC:∀ds Q,rP C ds Q->pT C (j3 C) (rQ C) sM ↥Q (aJ ["sides", "a", "b"] ds):=by
 rintro ds Q ⟨rows,a,b,rfl,h⟩;unfold GR at h;ac_nf;refine⟨_,rfl,?_⟩;ac_nf;refine⟨_,rfl,?_⟩;ac_nf;refine⟨_,_,rfl,rfl,?_⟩;rw[SS (show (0:Int)<=a by right)];refine⟨_,rfl,?_⟩;by_cases h1:a<b
 ·rw[decide_eq_true h1,RC] at h;rw[SS (show (a:Int)<b by right)];refine⟨rfl,rows,rfl,?_⟩;ac_nf;refine⟨_,rfl,?_⟩;by_cases h2:b<(aM rows).length
  ·rw[decide_eq_true h2,RC] at h;rw[SS (show (b:Int)<(aM rows).length by right)];refine⟨rfl,rows,a,rfl,⋯,?_⟩;ac_nf;refine⟨rfl,rows,b,rfl,h2,?_⟩;ac_nf;exact h
  ·rw[decide_eq_false h2] at h;rw[Sm (show ¬(b:Int)<(aM rows).length by right)];exact h
 ·rw[decide_eq_false h1] at h;rw[Sm (show ¬(a:Int)<b by right)];exact h
noncomputable abbrev Aw(a b:Nat):Dv:=.tup [.int a,.int b,.str "held"]
inductive HoldB(ks:List Int):Dv->Bool->Prop
 |ok (h:Hd):HoldB ks (fY h) (GR ks h.a h.b)
 |bad (a b:Nat):HoldB ks (Aw a b) ao
theorem HN:(["brace", "more", "less"]:List bf).any (· == ("held" : bf))=ao:=by decide +kernel
noncomputable def dU(C:af):Fn:=λds Q=>∃(rows:List Rw) (d:Dv) (b:Bool),ds=[d3 C rows,d]/\HoldB (aM rows) d b/\Q (.v (.bl b))
theorem Et:∀ds Q,dU C ds Q->ds.length=2:=by rintro ds Q ⟨_,_,_,rfl,_⟩;rfl
theorem BQ:MonoF (dU C):=⟨λds Q Q' w z=>by obtain⟨p,q,b,e,a,h⟩:=z;exact⟨p,q,b,e,a,w _ h⟩⟩
theorem CD:∀ds Q,dU C ds Q->pU (rP C) ↥Q (aJ ["sides", "thing"] ds):=by
 rintro ds Q ⟨rows,d,b,rfl,hb,q⟩;cases hb with
 |ok h=>
  ac_nf;refine⟨rfl,?_⟩;refine⟨rows,h.a,h.b,rfl,?_⟩;cases e:GR (aM rows) h.a h.b with
  |false=>
   rw[e] at q;ac_nf;exact q
  |true=>
   rw[e] at q;ac_nf;refine⟨_,rfl,?_⟩;rw[FA];exact q
 |bad a b=>
  ac_nf;refine⟨rfl,?_⟩;refine⟨rows,a,b,rfl,?_⟩;cases e:GR (aM rows) a b with
  |false=>
   ac_nf;exact q
  |true=>
   ac_nf;refine⟨_,rfl,?_⟩;rw[HN];exact q
noncomputable def fS:Fn:=λds Q=>∃h:Hd,ds=[fY h]/\Q (.nw (.lst (pN (cH h))))
theorem Gy:∀ds Q,fS ds Q->ds.length=1:=by rintro ds Q ⟨_,rfl,_⟩;rfl
theorem EZ:MonoF fS:=⟨λds Q Q' w z=>by obtain⟨p,e,h⟩:=z;exact⟨p,e,w _ h⟩⟩
theorem AI:∀ds Q,fS ds Q->n5 ↥Q (aJ ["hold", "there", "back"] ds):=by
 rintro ds Q ⟨h,rfl,q⟩;ac_nf;refine⟨⟨DL _,by decide +kernel⟩,?_⟩;rw[FM];unfold cH at q;by_cases e:h.w=0
 ·rw[SS e] at q;rw[decide_eq_true e];exact iO q
 ·rw[Sm e] at q;rw[decide_eq_false e];refine iP ⟨⟨DL _,by decide +kernel⟩,?_⟩;rw[Ba e];by_cases e1:h.w=1
  ·rw[SS e1] at q;rw[decide_eq_true e1];exact iO q
  ·rw[Sm e1] at q;rw[decide_eq_false e1];exact iP q
end Lw
namespace Lw
open L2 Z
open Sf (Rw crs wZ Pre Good aM bK)
noncomputable abbrev p2(p:Int×Int):List Int:=[p.1,p.2]
noncomputable abbrev Hr(ks:List (Int×Int)):List (List bI×Dv):=ks.map λp=>([bv p.1,bv p.2],.bl ai)
noncomputable def jH(ks:List (Int×Int))(p:Int×Int):List (Int×Int):=if p∈ks then ks else ks++[p]
theorem Jf(p q:Int×Int):([bv p.1,bv p.2]:List bI)=[bv q.1,bv q.2] ↔ p=q:=by
 constructor
 ·intro h;injection h with h1 h2;injection h2 with h2 _;injection h1 with h1;injection h2 with h2;exact Prod.ext h1 h2
 ·rintro rfl;rfl
theorem Ir(ks:List (Int×Int))(p:Int×Int):Bx (Hr ks) [bv p.1,bv p.2] (.bl ai)=Hr (jH ks p):=by
 unfold Bx jH;have e:(Hr ks).any (λkv=>decide (kv.1=[bv p.1,bv p.2]))=decide (p∈ks):=by
  rw[RY,vg,Qp,decide_eq_true_eq];constructor
  ·rintro⟨q,h1,h2⟩;have:=(Jf q p).mp (by simpa using h2);exact this ▸ h1
  ·exact λh=>⟨p,h,by simp⟩
 rw[e];by_cases h:p∈ks
 ·rw[decide_eq_true h,SS rfl,SS h,mw];apply se;intro q _;show (if [bv q.1,bv q.2]=[bv p.1,bv p.2] then _ else _)=_;split<;>rfl
 ·rw[decide_eq_false h,Sm ∅,Sm h];simp
theorem F9(ks:List (Int×Int))(p q:Int×Int):q∈jH ks p ↔ q∈ks \/ q=p:=by
 unfold jH;split
 ·rename_i h;exact⟨.inl,λz=>z.elim id λz=>z ▸ h⟩
 ·rw[fu,dk]
theorem HM{ks:List (Int×Int)}(h:ks.Nodup)(p:Int×Int):(jH ks p).Nodup:=by
 unfold jH;split
 ·exact h
 ·rename_i hp;rw[yw];exact⟨h,by simp,λa ha b hb=>by rw[dk.mp hb];exact λz=>hp (z ▸ ha)⟩
theorem yV(ks:List (Int×Int))(p:Int×Int):(jH ks p).length<=ks.length+1:=by
 unfold jH;split
 ·right
 ·simp
theorem yX(q:Int×Int):∀(ps ks:List (Int×Int)),q∈ps.foldl jH ks ↔ q∈ks \/ q∈ps
 | [],ks=>by simp
 |p::ps,ks=>by
  rw[Rk,yX q ps,F9,cr,or_assoc]
theorem BZ:∀(ps:List (Int×Int)) {ks:List (Int×Int)},ks.Nodup->(ps.foldl jH ks).Nodup
 | [],_,h=>h
 |p::ps,_,h=>BZ ps (HM h p)
theorem yY:∀(ps ks:List (Int×Int)),(ps.foldl jH ks).length<=ks.length+ps.length
 | [],ks=>by simp
 |p::ps,ks=>by
  have h1:=yY ps (jH ks p);have h2:=yV ks p;rw[Rk,cw];right
variable {XN:af}{E:En}{x1:Sl}
theorem Dt{Ψ:rN->Prop}{x0 x3:Sl}:∀(ps ks:List (Int×Int)) (s4:Sl),ks.length+ps.length<=10000->(∀s4,E.nx [x0,x1,.own a (.dit (Hr (ps.foldl jH ks))),x3,s4]) ->
  aT (gN 4) (kR XN Ψ (dU C) fS) [] (pN ps) E [x0,x1,.own a (.dit (Hr ks)),x3,s4]:=by
 intro ps;induction ps with
 |nil=>
  intro ks s4 hl h;rw[show pN []=[] from rfl,bE];exact⟨λp hp=>by simp at hp,h _⟩
 |cons p ps ih=>
  intro ks s4 hl h;rw[cw] at hl;rw[show pN (p::ps)=.tup [.int p.1,.int p.2]::pN ps from rfl,aS];refine⟨λp hp=>by simp at hp,?_⟩;have nx:=λks s4=>ih ks s4;generalize aT (gN 4) (kR XN Ψ (dU C) fS) [] (pN ps) E=G at nx ⊢;push_cast [kR];refine⟨[bv p.1,bv p.2],rfl,by rw[bt];right,?_⟩;rw[Ir];have:=yV ks p;exact nx _ _ ⋯ h
noncomputable def Bj(hs:List Hd):Prop:=∃L:List (Int×Int),L.length<=63 /\ ∀p∈jK hs,p∈L
theorem Ho(hs:List Hd):(jK hs).length<=2*hs.length:=by
 unfold jK;induction hs with
 |nil=>simp
 |cons h hs ih=>
  have pl:(cH h).length<=2:=by unfold cH;split<;>(try split)<;>simp
  rw[vc,fy,cw];right
theorem GL{hs:List Hd}(fw:Bj hs){Q:R->Prop}(h:∀ar:List (Int×Int),ar.length<=63->(∀p,p∈ar ↔ p∈jK hs)->Q (.nw (.lst (pN ar)))){E:En}(hE:∀r,Q r->E.rt r){x0 x1 s3 s4:Sl}{a:af}:
  bR (gC iL (a9 (a8 2) aF)) E [x0,x1,.own a (.dit (Hr ((jK hs).foldl jH []))),s3,s4]:=by
 have mem:=λq=>yX q (jK hs) [];have nd:((jK hs).foldl jH []).Nodup:=BZ (jK hs) Rl;obtain⟨L,hL,hm⟩:=fw;have ln:((jK hs).foldl jH []).length<=63:=jo (nd.length_le_of_subset (l₂:=L) λp hp=>hm p (by have:=(mem p).mp hp;simpa using this)) hL;generalize (jK hs).foldl jH []=ks at ln mem ⊢;ac_nf;refine⟨ks.map p2,1,by rw[mw,mw];rfl,by rw[bt];right,λl hl=>?_,λls pm _=>?_⟩
 ·obtain⟨p,_,rfl⟩:=ig.mp hl;rfl
 ·obtain⟨ps,pp,rfl⟩:=C7 pm (its:=ks) rfl;rw[mw];refine hE _ (h ps (by rw[pp.length_eq];exact ln) λp=>?_);rw[pp.mem_iff,mem p];simp
noncomputable def gE(C XN:af):n4:=λds Q Ψ=>∃(rows:List Rw) (hs:List Hd),hs.length<=100/\(∀h∈hs,Fq rows h) /\
 ((ds=[d3 C rows,.lst (hs.map fY)]/\Bj hs /\ ∀ar:List (Int×Int),ar.length<=63->(∀p,p∈ar ↔ p∈jK hs)->Q (.nw (.lst (pN ar)))) \/ (∃a b SW,ds=[d3 C rows,.lst (hs.map fY++Aw a b::SW)]/\Ψ (XN,aq)))
theorem Ac:∀ds Q Ψ,gE C XN ds Q Ψ->ds.length=2:=by rintro ds Q Ψ ⟨_,_,_,_,⟨rfl,_⟩ | ⟨_,_,_,rfl,_⟩⟩<;>rfl
theorem fC:MonoX (gE C XN):=⟨λds Q Q' Ψ Ψ' w w' z=>by
 obtain⟨p,q,a,b,z⟩:=z;refine⟨p,q,a,b,?_⟩;rcases z with⟨e,x,z⟩ | ⟨x,y,r,e,z⟩
 ·exact .inl ⟨e,x,λar h1 h2=>w _ (z ar h1 h2)⟩
 ·exact .inr ⟨x,y,r,e,w' _ z⟩⟩
theorem sV{Ψ:rN->Prop}{rows:List Rw}(SW:List Dv):∀(hs:List Hd) (ks:List (Int×Int)) (s3 s4:Sl),ks.length+2*hs.length<=10000->(∀h∈hs,Fq rows h) ->
  (∀s3 s4,aT (gN 3) (cV XN Ψ (dU C) fS) [] SW E [.v (d3 C rows),x1,.own a (.dit (Hr ((jK hs).foldl jH ks))),s3,s4]) ->
  aT (gN 3) (cV XN Ψ (dU C) fS) [] (hs.map fY++SW) E [.v (d3 C rows),x1,.own a (.dit (Hr ks)),s3,s4]:=by
 intro hs;induction hs with
 |nil=>
  intro ks s3 s4 hl _ h;exact h _ _
 |cons hd hs ih=>
  intro ks s3 s4 hl ok h;rw[cw] at hl;rw[cn,Qq,aS];refine⟨λp hp=>by simp at hp,?_⟩;have e2:(jK (hd::hs)).foldl jH ks=(jK hs).foldl jH ((cH hd).foldl jH ks):=by
   unfold jK;rw[vc,List.foldl_append]
  rw[e2] at h;have nx:=λks s3 s4 hl h=>ih ks s3 s4 hl (λz hz=>ok z (cp _ hz)) h;generalize aT (gN 3) (cV XN Ψ (dU C) fS) [] (hs.map fY++SW) E=G at nx ⊢;generalize aT (gN 3) (cV XN Ψ (dU C) fS) [] SW E=G2 at h nx;have pl:(cH hd).length<=2:=by unfold cH;split<;>(try split)<;>simp
  push_cast [cV];refine⟨rows,_,_,rfl,.ok hd,?_⟩;rw[show GR (aM rows) hd.a hd.b=ai from ok hd (de ..)];ac_nf;refine⟨hd,rfl,?_⟩;ac_nf;refine Dt (cH hd) ks _ ⋯ λs4=>?_;have:=yY (cH hd) ks;exact nx _ _ _ ⋯ h
theorem EK:∀ds Q Ψ,gE C XN ds Q Ψ->sG XN Ψ (dU C) fS ↥Q (aJ ["sides", "holds", "told", "hold", "pull"] ds):=by
 rintro ds Q Ψ ⟨rows,hs,hl,ok,⟨rfl,fw,h⟩ | ⟨a,b,SW,rfl,h⟩⟩
 ·have e:=λ(s3 s4:Sl) (a:af)=>@GL hs fw Q h ↥Q (λr q=>q) (.v (d3 C rows)) (.v (.lst (hs.map fY))) s3 s4 a;ac_nf;intro a;have k:=sV (C:=C) (XN:=XN) (Ψ:=Ψ) (rows:=rows) (x1:=.v (.lst (hs.map fY))) (a:=a) (E:={ nx:=bR (gC iL (a9 (a8 2) aF)) ↥Q,rt:=Q }) [] hs [] .un .un (by simp;right) ok λs3 s4=>by
   rw[bE];exact⟨λp hp=>by simp at hp,e s3 s4 a⟩
  rw[dr] at k;exact k
 ·ac_nf;intro ad;refine sV _ hs [] .un .un (by simp;right) ok λs3 s4=>?_;rw[aS];refine⟨λp hp=>by simp at hp,?_⟩;generalize aT (gN 3) (cV XN Ψ (dU C) fS) [] SW _=G;push_cast [cV];refine⟨rows,_,_,rfl,.bad a b,?_⟩;ac_nf;exact h
noncomputable abbrev tr(l:List (Int×Int)):List (Int×Int):=l.map λp=>(p.2,p.1)
noncomputable def B7:Fn:=λds Q=>∃ar:List (Int×Int),ds=[.lst (pN ar)]/\ar.length<=1000/\Q (.nw (.lst (pN (tr ar))))
theorem Ja:∀ds Q,B7 ds Q->ds.length=1:=by rintro ds Q ⟨_,rfl,_⟩;rfl
theorem Le:MonoF B7:=⟨λds Q Q' w z=>by obtain⟨p,e,a,h⟩:=z;exact⟨p,e,a,w _ h⟩⟩
theorem NL:∀(l acc:List (Int×Int)),acc.length+l.length<=10000->Q (.nw (.lst (pN (acc++tr l)))) ->
  cT [.un,.un] (gT [0,1]) dS (i5 (a9 (a8 1) (a9 (a8 0) aF))) (pN l) (pN acc) Q:=by
 intro l;induction l with
 |nil=>
  intro acc _ h;rw[show pN []=[] from rfl,iU];simpa using h
 |cons p l ih=>
  intro acc hl h;rw[cw] at hl;have nx:=ih (acc++[(p.2,p.1)]) (by simp;right) (by simpa using h);rw[show pN (p::l)=.tup [.int p.1,.int p.2]::pN l from rfl,h7];generalize cT [.un,.un] (gT [0,1]) dS (i5 (a9 (a8 1) (a9 (a8 0) aF))) (pN l)=G at nx ⊢;push_cast [bt];refine⟨⋯,?_⟩;rw[show pN acc++[Dv.tup [Dv.int p.2,Dv.int p.1]]=pN (acc++[(p.2,p.1)]) by simp];exact nx
theorem sY:∀ds Q,B7 ds Q->iG ↥Q (aJ ["arrows"] ds):=by
 rintro ds Q ⟨ar,rfl,hl,h⟩;ac_nf;exact NL ar [] (by simp;right) h
end Lw
variable {hs:List Lw.Hd}
namespace Lw
open L2 Z
open Sf (Rw crs wZ Pre Good aM bK)
open Classical in
noncomputable def rB(ar:List (Int×Int))(p:Int×Int):Bool:=decide (Rch ar p.1 p.2)
variable {p:Int×Int}
theorem QN:rB ar p=ai ↔ Rch ar p.1 p.2:=by
 unfold rB;exact@decide_eq_true_iff _ (Classical.propDecidable _)
theorem sA:p∈jK hs ↔ ∃h∈hs,p∈cH h:=by
 unfold jK;rw[zo]
theorem Bj.sub{os:List Hd}(f:Bj hs)(h:∀x∈os,x∈hs):Bj os:=by
 obtain⟨L,hL,hm⟩:=f;refine⟨L,hL,λp hp=>hm p ?_⟩;obtain⟨x,h1,h2⟩:=sA.mp hp;exact sA.mpr ⟨x,h x h1,h2⟩
theorem Jw{f:α->Dv}{l:List α}{k:Nat}{x:α}(h:l[k]?=aa x):kW (l.map f) (k:Int)=aa (f x):=by
 have hk:=(bj.mp h).1;rw[g9 ⋯ (by simp;right),ca,bw,h];rfl
end Lw
namespace Lw
open L2 Z
open Sf (Rw crs wZ Pre Good aM bK)
theorem IY{u k:Int}(h0:-1000000<k)(hk:k<1000000):rA u k:=.inl (.inr ⟨⋯,⋯⟩)
noncomputable def bB:Nat->List Nat->List Int
 |_,[]=>[]
 |k,c::cs=>bc c (k:Int)++bB (k+1) cs
theorem tR:∀(k:Nat) (cs:List Nat) (c:Nat),bB k (cs++[c])=bB k cs++bc c ((k+cs.length:Nat):Int)
 |_,[],_=>by simp[bB]
 |k,a::rs,c=>by
  simp only[Qq,bB,tR (k+1) rs c,om,cw];congr 3;right
theorem gO:∀(k:Nat) (cs:List Nat),(bB k cs).length=cs.sum
 |_,[]=>rfl
 |k,c::cs=>by simp[bB,gO (k+1) cs]
structure Cnt(cs:List Nat):Prop where
 lo:2<=cs.length
 hi:cs.length<=6
 ok:∀c∈cs,1<=c
 tot:cs.sum<=12
noncomputable def eQ:Fn:=λds Q=>∃(ns:List Int) (k:Nat),ds=[.scr ns,.int k] /\ ∀c:Int,Q (.v (.int c))
theorem Ev:∀ds Q,eQ ds Q->ds.length=2:=by rintro ds Q ⟨_,_,rfl,_⟩;rfl
theorem BR:MonoF eQ:=⟨λds Q Q' w z=>by obtain⟨p,q,e,h⟩:=z;exact⟨p,q,e,λn=>w _ (h n)⟩⟩
variable {E:En}
theorem Js{x0:Sl}{k0 c:Int}(hc:0<=c/\c<=1000000000000000)(h:∀(d:Int) (s4:Sl),E.nx [x0,.v (.int k0),.v (.int c),.v (.int d),s4]):∀(i k:Nat) (d:Int) (s4:Sl),k+i<=14 ->
  aT (gN 4) g8 [] (aR k i) E [x0,.v (.int k0),.v (.int c),.v (.int d),s4]:=by
 intro i;induction i with
 |zero=>
  intro k d s4 _;rw[bO,bE];exact⟨λp hp=>by simp at hp,h _ _⟩
 |succ i ih=>
  intro k d s4 hk;rw[bH,aS];refine⟨λp hp=>by simp at hp,?_⟩;rw[show ((k:Int)+1)=((k+1:Nat):Int) by right];have nx:=λd s4=>ih (k+1) d s4 ⋯;generalize aT (gN 4) g8 [] (aR ((k+1:Nat):Int) i) E=G at nx ⊢;push_cast [g8];exact⟨.inl (.inr ⟨by decide,by decide⟩),.inl (.inr ⟨by decide,by decide⟩),.inl (.inl ⟨⋯,⋯⟩),.inl (.inr ⟨by decide,by decide⟩),.inl (.inr ⟨by decide,by decide⟩),nx _ _⟩
theorem PH{k c:Int}(h:∀c:Int,Q (.v (.int c))):(aN (iB (rY (b6 (aL AR (a8 2) (eC (.int 0)))) (b6 (aL Fu (a8 2) (aL rE (eC (.int 10)) (eC (.int 15)))))) (bR (a8 2)) bN)
 (aN (cC 3 (eC (.int 0)))
 (aN (fK (cZ (a9 (eC (.int 14)) aF)) (gN 4) g8)
 (bR (a8 3))))) ↥Q [.v (.scr ns),.v (.int k),.v (.int c),.un,.un]:=by
 ac_nf;refine eF (λ_=>h c) λe=>⟨⟨by decide,by decide,by decide⟩,eF (λ_=>h c) λe2=>?_⟩;refine Js ⟨⋯,⋯⟩ (λd s4=>?_) 14 0 0 _ ∅;ac_nf;exact h d
theorem PJ{k:Nat}{tl:bV}(h:∀c:Int,tl E [.v (.scr ns),.v (.int k),.v (.int c),.un,.un]):(aN (cC 2 (eC (.int 0)))
 (aN (iB (b6 (aL AR (a8 1) (gC dA (a9 (a8 0) aF)))) (cC 2 (aL dB (a8 0) (a8 1))) bN) tl)) E [.v (.scr ns),.v (.int k),.un,.un,.un]:=by
 ac_nf;refine eF (λ_=>?_) λ_=>h 0;obtain⟨n,hn⟩:∃n,kW ns (k:Int)=aa n:=by
  rw[g9 ⋯ ⋯];exact⟨_,dm ⋯⟩
 rw[hn];exact h n
theorem AO:∀ds Q,eQ ds Q->nD ↥Q (aJ ["_law_script", "_law_k", "_law_cell", "_law_deep_here", "_law_j"] ds):=by
 rintro ds Q ⟨ns,k,rfl,h⟩;exact PJ λc=>PH h
end Lw
namespace Lw
open L2 Z
open Sf (Rw crs wZ Pre Good aM bK)
noncomputable abbrev cD(cs:List Nat):List Dv:=cs.map λc:Nat=>Dv.int (c:Int)
noncomputable def lX:Fn:=λds Q=>∃(m:Nat) (o:Int),ds=[.int m,.int o]/\2<=m/\m<=6 /\ ∀cs,Cnt cs->Q (.nw (.lst (cD cs)))
theorem Ad:∀ds Q,lX ds Q->ds.length=2:=by rintro ds Q ⟨_,_,rfl,_⟩;rfl
theorem CT:MonoF lX:=⟨λds Q Q' w z=>by obtain⟨p,q,e,a,b,h⟩:=z;exact⟨p,q,e,a,b,λcs g=>w _ (h cs g)⟩⟩
variable {cs:List Nat}
theorem Av{k:Nat}(h:k<cs.length):(cD cs)[k]?=aa (.int (cs[k]:Nat)):=by
 rw[bw,dm h];rfl
theorem B5:∀(cs:List Nat) (k x:Nat) (h:k<cs.length),(cs.set k (cs[k]+x)).sum=cs.sum+x
 |c::cs,0,x,_=>by simp;right
 |c::cs,k+1,x,h=>by
  have:=B5 cs k x (by simpa using h);simp[this];right
theorem DY:∀(cs:List Nat) (c:Nat),c∈cs->c<=cs.sum
 |d::cs,c,h=>by
  rw[sk];rcases cr.mp h with rfl | h
  ·right
  ·have:=DY cs c h;right
variable {E:En}
theorem JF{x0:Sl}(hn:n<=6)(h:∀(cs:List Nat) (o l:Int) (s4 s5:Sl),cs.length=n->(∀c∈cs,1<=c)->cs.sum<=12->E.nx [x0,.v (.int o),.own a (.lst (cD cs)),.v (.int l),s4,s5]):∀(i k:Nat) (cs:List Nat) (o:Int) (l:Nat) (s4 s5:Sl),k+i=n->cs.length=n->(∀c∈cs,1<=c)->cs.sum+l<=12 ->
  aT (gN 4) g7 [] (aR k i) E [x0,.v (.int o),.own a (.lst (cD cs)),.v (.int l),s4,s5]:=by
 intro i;induction i with
 |zero=>
  intro k cs o l s4 s5 _ h1 h2 h3;rw[bO,bE];exact⟨λp hp=>by simp at hp,h _ _ _ _ _ h1 h2 ⋯⟩
 |succ i ih=>
  intro k cs o l s4 s5 hk h1 h2 h3;rw[bH,aS];refine⟨λp hp=>by simp at hp,?_⟩;rw[show ((k:Int)+1)=((k+1:Nat):Int) by right];have nx:=λcs o l s4 s5=>ih (k+1) cs o l s4 s5 ⋯;generalize aT (gN 4) g7 [] (aR ((k+1:Nat):Int) i) E=G at nx ⊢;have kl:k<cs.length:=⋯;obtain⟨x,ex,hx⟩:∃x:Nat,o % ((l:Int)+1)=x/\x<=l:=⟨(o % ((l:Int)+1)).toNat,by rw[jn (ix _ ⋯)],by have:=gv o (show (0:Int)<(l:Int)+1 by right);right⟩;push_cast [g7];rw[ex];refine⟨⋯,⟨⋯,⋯⟩,k,cs[k],rfl,Av kl,x,rfl,?_⟩;rw[show (l:Int)-x=((l-x:Nat):Int) by right];have e:(cD cs).set k (.int ((cs[k]:Nat)+(x:Nat)))=cD (cs.set k (cs[k]+x)):=by
   show _=(cs.set k (cs[k]+x)).map λc:Nat=>Dv.int (c:Int);rw[List.map_set];rfl
  rw[e];refine nx _ _ _ _ _ (by simpa using h1) (λc hc=>?_) (by rw[B5 cs k x kl];right);rcases ij hc with hc | rfl
  ·exact h2 c hc
  ·have:=h2 _ (jc kl);right
theorem vQ:∀ds Q,lX ds Q->k6 ↥Q (aJ ["_law_many", "_law_rest", "_law_counts_here", "_law_left", "_law_k", "_law_extra"] ds):=by
 rintro ds Q ⟨m,o,rfl,h1,h2,h⟩;have e:(bc (m:Int).toNat [Dv.int 1]).flatten=cD (bc m 1):=by
  rw[ca];simp[ju]
 ac_nf;rw[e];refine⟨⟨⋯,⋯,by simp;right⟩,λa=>?_⟩;refine⟨⋯,?_⟩;rw[ca,show (12:Int)-m=((12-m:Nat):Int) by right];refine JF h2 (λcs o l s4 s5 e1 e2 e3=>?_) m 0 _ _ _ _ _ ⋯ (by simp) (λc hc=>by rw[ga hc];decide) (by simp;right);ac_nf;exact h cs ⟨⋯,⋯,e2,e3⟩
theorem B6:∀(cs:List Nat),(∀c∈cs,c<=2)->cs.sum<=2*cs.length
 | [],_=>by simp
 |c::cs,h=>by
  have h1:=h c (de ..);have h2:=B6 cs λd hd=>h d (cp _ hd);rw[sk,cw];right
theorem M6{x:Int}:∀(i k:Nat) (acc:List Nat),k+i<=1000->acc.length+i<=1000->(∀c∈acc,1<=c/\c<=2)->(∀cs:List Nat,(∀c∈cs,1<=c/\c<=2)->cs.length=acc.length+i->Q (.nw (.lst (cD cs)))) ->
  cT [.un,.v (.int x)] (gN 0) dS (aL d4 (eC (.int 1)) (aL f6 (aL iM (a8 1) (aL d4 (eC (.int 5)) (a8 0))) (eC (.int 2)))) (aR k i) (cD acc) Q:=by
 intro i;induction i with
 |zero=>
  intro k acc _ _ ha h;rw[bO,iU];exact h acc ha rfl
 |succ i ih=>
  intro k acc hk hl ha h;rw[bH,h7];rw[show ((k:Int)+1)=((k+1:Nat):Int) by right];have nx:=λacc=>ih (k+1) acc;generalize cT [.un,.v (.int x)] (gN 0) dS (aL d4 (eC (.int 1)) (aL f6 (aL iM (a8 1) (aL d4 (eC (.int 5)) (a8 0))) (eC (.int 2)))) (aR ((k+1:Nat):Int) i)=G at nx ⊢;obtain⟨y,ey,hy⟩:∃y:Nat,x / (5+(k:Int)) % 2=y/\y<=1:=⟨(x / (5+(k:Int)) % 2).toNat,⋯,⋯⟩;push_cast [bt];rw[ey];refine⟨⋯,⋯,?_⟩;rw[show cD acc++[Dv.int (1+(y:Int))]=cD (acc++[1+y]) by simp];refine nx _ ⋯ (by simp;right) (λc hc=>?_) λcs h1 h2=>h cs h1 (by rw[h2];simp;right);rcases fu.mp hc with hc | hc
  ·exact ha c hc
  ·rw[dk.mp hc];right
noncomputable def iI:Fn:=λds Q=>∃c:Int,ds=[.int c] /\ ∀cs,Cnt cs->Q (.nw (.lst (cD cs)))
theorem yS:∀ds Q,iI ds Q->ds.length=1:=by rintro ds Q ⟨_,rfl,_⟩;rfl
theorem AW:MonoF iI:=⟨λds Q Q' w z=>by obtain⟨p,e,h⟩:=z;exact⟨p,e,λcs g=>w _ (h cs g)⟩⟩
theorem vR:∀ds Q,iI ds Q->k7 lX ↥Q (aJ ["_law_cell"] ds):=by
 rintro ds Q ⟨c,rfl,h⟩;obtain⟨m,em,h1,h2⟩:∃m:Nat,2+c % 5=m/\2<=m/\m<=6:=⟨(2+c % 5).toNat,by have:=ix c (show (5:Int)≠0 by decide);right,by have:=ix c (show (5:Int)≠0 by decide);right,by have:=gv c (show (0:Int)<5 by decide);right⟩;ac_nf;rw[em];refine eF (λ_=>?_) λ_=>?_
 ·refine⟨m,_,rfl,h1,h2,λcs g=>?_⟩;ac_nf;exact h cs g
 ·refine⟨⋯,?_⟩;rw[ca];refine M6 m 0 [] ⋯ (by simp;right) (λc hc=>nomatch hc) λcs a b=>?_;rw[xu,RZ] at b;have:=B6 cs λc hc=>(a c hc).2;exact h cs ⟨⋯,⋯,λc hc=>(a c hc).1,⋯⟩
noncomputable def jN:Fn:=λds Q=>∃cs:List Nat,ds=[.lst (cD cs)]/\Cnt cs/\Q (.v (.lst (d8 (bB 0 cs))))
theorem Af:∀ds Q,jN ds Q->ds.length=1:=by rintro ds Q ⟨_,rfl,_⟩;rfl
theorem CU:MonoF jN:=⟨λds Q Q' w z=>by obtain⟨p,e,a,h⟩:=z;exact⟨p,e,a,w _ h⟩⟩
theorem HF(C:Cnt cs)(h:∀s2,E.nx [.v (.lst (cD cs)),.v (.lst (d8 (bB 0 cs))),s2]):∀(i k:Nat) (s2:Sl),k+i=cs.length ->
  aT (gN 2) gW [] (aR k i) E [.v (.lst (cD cs)),.v (.lst (d8 (bB 0 (cs.take k)))),s2]:=by
 intro i;induction i with
 |zero=>
  intro k s2 hk;rw[bO,bE];rw[lq ⋯];exact⟨λp hp=>by simp at hp,h _⟩
 |succ i ih=>
  intro k s2 hk;rw[bH,aS];refine⟨λp hp=>by simp at hp,?_⟩;rw[show ((k:Int)+1)=((k+1:Nat):Int) by right];have nx:=λs2=>ih (k+1) s2 ⋯;generalize aT (gN 2) gW [] (aR ((k+1:Nat):Int) i) E=G at nx ⊢;have kl:k<cs.length:=⋯;have at_:kW (cD cs) (k:Int)=aa (.int (cs[k]:Nat)):=by
   rw[g9 ⋯ (by simp;right),ca];exact Av kl
  have tot:=C.tot;have le:cs[k]<=cs.sum:=DY cs _ (jc kl);have tl:(cs.take k).sum<=cs.sum:=by
   have:=List.sum_append (l₁:=cs.take k) (l₂:=cs.drop k);rw[List.take_append_drop] at this;right
  have e:d8 (bB 0 (cs.take k))++(bc (cs[k]) [Dv.int (k:Int)]).flatten=d8 (bB 0 (cs.take (k+1))):=by
   rw[List.take_succ_eq_append_getElem kl,tR];show _=List.map Dv.int _;rw[Ro,jq,we ⋯,RZ,ju];simp
  push_cast [gW];rw[at_];ac_nf;rw[ca,e];refine⟨⟨⋯,⋯,⋯⟩,?_,nx _⟩;simp[gO];right
theorem y8:∀ds Q,jN ds Q->lB ↥Q (aJ ["_law_counts_here", "_law_kinds_here", "_law_k"] ds):=by
 rintro ds Q ⟨cs,rfl,C,h⟩;have hi:=C.hi;push_cast [bt];refine⟨⋯,?_⟩;rw[ca];refine HF C (λs2=>?_) cs.length 0 _ ⋯;ac_nf;exact h
noncomputable def tZ(a s t:Int)(k c:Nat):Rw:=⟨a-k*s,k*t,c⟩
noncomputable def jO(a s t:Int):Nat->List Nat->List Rw
 |_,[]=>[]
 |k,c::cs=>tZ a s t k c::jO a s t (k+1) cs
theorem BB{a s t:Int}{k c:Nat}:jO a s t k (c::cs)=tZ a s t k c::jO a s t (k+1) cs:=rfl
theorem pZ(a s t:Int):∀(k:Nat) (cs:List Nat),(jO a s t k cs).length=cs.length
 |_,[]=>rfl
 |k,c::cs=>by rw[BB,cw,cw,pZ]
theorem qR(a s t:Int):∀(k:Nat) (cs:List Nat),bK k (jO a s t k cs)=bB k cs
 |_,[]=>rfl
 |k,c::cs=>by
  show _++bK (k+1) (jO a s t (k+1) cs)=_++bB (k+1) cs;rw[qR a s t (k+1) cs];rfl
theorem sT(a s t:Int):∀(k:Nat) (cs:List Nat),Sf.many (jO a s t k cs)=((cs.sum:Nat):Int)
 |_,[]=>rfl
 |k,c::cs=>by
  have:=sT a s t (k+1) cs;show (c:Int)+Sf.many (jO a s t (k+1) cs)=_;rw[this,sk];right
theorem pY(a s t:Int):∀(k:Nat) (cs:List Nat) (r:Rw),r∈jO a s t k cs -> ∃j c,r=tZ a s t j c/\k<=j/\j<k+cs.length/\c∈cs
 |_,[],_,h=>nomatch h
 |k,c::cs,r,h=>by
  rcases cr.mp h with rfl | h
  ·exact⟨k,c,rfl,⋯,by simp,de ..⟩
  ·obtain⟨j,d,e,h1,h2,h3⟩:=pY a s t (k+1) cs r h;exact⟨j,d,e,⋯,by simp;right,cp _ h3⟩
theorem M5(a s t:Int)(i j c d:Nat):crs (tZ a s t i c) (tZ a s t j d)=a*t*((j:Int)-i):=by
 unfold crs tZ;dsimp only
 grind
theorem uO{a s t:Int}(ha:0<a)(ht:0<t):∀(k:Nat) (cs:List Nat),wZ (jO a s t k cs)
 |_,[]=>.nil
 |k,c::cs=>by
  refine .cons (λr hr=>?_) (uO ha ht (k+1) cs);obtain⟨j,d,rfl,h1,_,_⟩:=pY a s t (k+1) cs r hr;rw[M5];exact Ss (Ss ha ht) ⋯
end Lw
namespace Lw
open L2 Z
open Sf (Rw crs wZ Pre Good aM bK)
variable {a s:Int}{cs:List Nat}
theorem M2{t:Int}(C:Cnt cs):∀(i k:Nat) (acc:List Rw),k+i=cs.length->acc.length+i<=1000->Q (.nw (.lst (xB (acc++jO a s t k (cs.drop k))))) ->
  cT [.un,.v (.int a),.v (.int t),.v (.lst (cD cs)),.v (.int s)] (gN 0) dS (i5 (a9 (aL nK (a8 1) (aL eE (a8 0) (a8 4))) (a9 (aL eE (a8 0) (a8 2)) (a9 (aL dB (a8 3) (a8 0)) aF)))) (aR k i) (xB acc) Q:=by
 intro i;induction i with
 |zero=>
  intro k acc hk _ h;rw[bO,iU];rw[ot ⋯,show jO a s t k []=[] from rfl,dr] at h;exact h
 |succ i ih=>
  intro k acc hk hl h;have kl:k<cs.length:=⋯;have hi:=C.hi;have at_:kW (cD cs) (k:Int)=aa (.int (cs[k]:Nat)):=by
   rw[g9 ⋯ (by simp;right),ca];exact Av kl
  rw[bH,h7];rw[show ((k:Int)+1)=((k+1:Nat):Int) by right];rw[ik kl,BB] at h;have nx:=ih (k+1) (acc++[tZ a s t k cs[k]]) ⋯ (by simp;right) (by simpa using h);generalize cT [.un,.v (.int a),.v (.int t),.v (.lst (cD cs)),.v (.int s)] (gN 0) dS (i5 (a9 (aL nK (a8 1) (aL eE (a8 0) (a8 4))) (a9 (aL eE (a8 0) (a8 2)) (a9 (aL dB (a8 3) (a8 0)) aF)))) (aR ((k+1:Nat):Int) i)=G at nx ⊢;ac_nf;rw[at_];push_cast [bt];refine⟨.inl (.inl ⟨⋯,⋯⟩),.inl (.inl ⟨⋯,⋯⟩),⋯,?_⟩;rw[show xB acc++[Dv.tup [Dv.int (a-k*s),Dv.int (k*t),Dv.int (cs[k]:Nat)]]=xB (acc++[tZ a s t k cs[k]]) by simp[tZ]];exact nx
noncomputable def oQ:Fn:=λds Q=>∃(cs:List Nat) (c:Int),ds=[.lst (cD cs),.int c]/\Cnt cs /\ ∀rows,Good rows->aM rows=bB 0 cs->Q (.nw (.lst (xB rows)))
theorem Eu:∀ds Q,oQ ds Q->ds.length=2:=by rintro ds Q ⟨_,_,rfl,_⟩;rfl
theorem Gr:MonoF oQ:=⟨λds Q Q' w z=>by obtain⟨p,q,e,a,h⟩:=z;exact⟨p,q,e,a,λr x y=>w _ (h r x y)⟩⟩
theorem AC{t:Int}(ha:1<=a)(ha2:a<=100000000000)(hs:-10000000000<=s)(hs2:s<=10000000000)(ht:1<=t)(ht2:t<=10000000000)(C:Cnt cs):Good (jO a s t 0 cs):=by
 have lo:=C.lo;have hi:=C.hi;have tt:=C.tot;refine⟨by rw[pZ];right,by rw[pZ];right,uO ⋯ ⋯ 0 cs,λr hr=>?_,by rw[sT];right⟩;obtain⟨j,c,rfl,_,h2,h3⟩:=pY a s t 0 cs r hr;have h1:=C.ok c h3;have hj:j=0 \/ j=1 \/ j=2 \/ j=3 \/ j=4 \/ j=5:=⋯;unfold tZ Rw.up;dsimp only;rcases hj with rfl | rfl | rfl | rfl | rfl | rfl
 all_goals refine⟨?_,?_,?_,?_,?_⟩<;>right
theorem AN:∀ds Q,oQ ds Q->nB ↥Q (aJ ["_law_counts_here", "_law_cell", "_law_a", "_law_s", "_law_t"] ds):=by
 rintro ds Q ⟨cs,c,rfl,C,h⟩;have hi:=C.hi;have a0:=ix c (show (100000000000:Int)≠0 by decide);have a1:=gv c (show (0:Int)<100000000000 by decide);have b0:=ix (c / 7) (show (20000000000:Int)≠0 by decide);have b1:=gv (c / 7) (show (0:Int)<20000000000 by decide);have c0:=ix (c / 11) (show (10000000000:Int)≠0 by decide);have c1:=gv (c / 11) (show (0:Int)<10000000000 by decide);push_cast [bt];refine⟨⟨by decide,by decide,by decide⟩,⟨by decide,by decide,by decide⟩,.inl (.inr ⟨by decide,by decide⟩),⟨by decide,by decide,by decide⟩,⟨by decide,by decide,by decide⟩,⋯,?_⟩;rw[ca];refine M2 C cs.length 0 [] ⋯ (by simp;right) ?_;rw[xq,Rr];exact h _ (AC ⋯ ⋯ ⋯ ⋯ ⋯ ⋯ C) (qR _ _ _ 0 cs)
end Lw
namespace Lw
open L2 Z
open Sf (Rw crs wZ Pre Good aM bK)
theorem zR:∀(k:Nat) (cs:List Nat) (x:Int),x∈bB k cs->(k:Int)<=x
 |_,[],_,h=>nomatch h
 |k,c::cs,x,h=>by
  rcases fu.mp h with h | h
  ·rw[ga h];right
  ·have:=zR (k+1) cs x h;right
noncomputable def Wl(ks:List Int)(a b:Nat):Prop:=a<b/\b<ks.length/\ks.getD a 0<ks.getD b 0
theorem Wl.ok{rows:List Rw}{h:Hd}(w:Wl (aM rows) h.a h.b):Fq rows h:=by
 obtain⟨h1,h2,h3⟩:=w;unfold Fq GR;rw[decide_eq_true h1,decide_eq_true h2,decide_eq_false ⋯];rfl
theorem t8{cs:List Nat}(C:Cnt cs):∃b,Wl (bB 0 cs) 0 b:=by
 have lo:=C.lo
 match cs,C,lo with
 |c::d::cs,C,_=>
  have c1:=C.ok c (de ..);have d1:=C.ok d (cp _ (de ..));have e:bB 0 (c::d::cs)=bc c (0:Int)++bB 1 (d::cs):=rfl;have l:=gO 0 (c::d::cs);rw[sk,sk] at l;refine⟨c,⋯,⋯,?_⟩;have g0:(bB 0 (c::d::cs)).getD 0 0=0:=by
   rw[e,gc,bp (by rw[kg];right),fk,SS ⋯];rfl
  have hm:(bB 0 (c::d::cs)).getD c 0∈bB 1 (d::cs):=by
   rw[e,gc,cg (by simp),kg];have hl:c-c<(bB 1 (d::cs)).length:=by
    rw[gO,sk];right
   rw[dm hl];exact jc hl
  have:=zR 1 _ _ hm;rw[g0];right
noncomputable def t6(ks:List Int)(a:Nat):Nat->Nat->List (Nat×Nat)
 |0,_=>[]
 |i+1,b=>if ks.getD a 0<ks.getD b 0 then (a,b)::t6 ks a i (b+1) else t6 ks a i (b+1)
noncomputable def t0(ks:List Int):Nat->Nat->List (Nat×Nat)
 |0,_=>[]
 |i+1,a=>t6 ks a (ks.length-(a+1)) (a+1)++t0 ks i (a+1)
theorem AS{a b:Nat}:t6 ks a (i+1) b=if ks.getD a 0<ks.getD b 0 then (a,b)::t6 ks a i (b+1) else t6 ks a i (b+1):=rfl
theorem vS{a:Nat}:t0 ks (i+1) a=t6 ks a (ks.length-(a+1)) (a+1)++t0 ks i (a+1):=rfl
theorem yD{ks:List Int}{a:Nat}{p:Nat×Nat}:∀i b,p∈t6 ks a i b ↔ p.1=a/\b<=p.2/\p.2<b+i/\ks.getD a 0<ks.getD p.2 0
 |0,b=>by
  constructor
  ·intro z;cases z
  ·intro z;right
 |i+1,b=>by
  rw[AS];have ih:=yD (ks:=ks) (a:=a) (p:=p) i (b+1);split
  ·rename_i c;rw[cr,ih];constructor
   ·rintro(rfl | ⟨h1,h2,h3,h4⟩)
    ·exact⟨rfl,by dsimp only;right,by dsimp only;right,c⟩
    ·exact⟨h1,⋯,⋯,h4⟩
   ·rintro⟨h1,h2,h3,h4⟩;by_cases e:p.2=b
    ·exact .inl (Prod.ext h1 e)
    ·exact .inr ⟨h1,⋯,⋯,h4⟩
  ·rename_i c;rw[ih];constructor
   ·rintro⟨h1,h2,h3,h4⟩;exact⟨h1,⋯,⋯,h4⟩
   ·rintro⟨h1,h2,h3,h4⟩;have e:p.2≠b:=λe=>c (e ▸ h4);exact⟨h1,⋯,⋯,h4⟩
theorem t5{ks:List Int}{a:Nat}:∀i b,(t6 ks a i b).length<=i
 |0,b=>bo _
 |i+1,b=>by
  have:=t5 (ks:=ks) (a:=a) i (b+1);rw[AS];split
  ·rw[cw];right
  ·right
theorem qC{ks:List Int}{p:Nat×Nat}:∀i a,p∈t0 ks i a ↔ a<=p.1/\p.1<a+i/\Wl ks p.1 p.2
 |0,a=>by
  constructor
  ·intro z;cases z
  ·intro z;right
 |i+1,a=>by
  rw[vS,fu,yD,qC i (a+1)];unfold Wl;constructor
  ·rintro(⟨h1,h2,h3,h4⟩ | ⟨h1,h2,h3⟩)
   ·exact⟨⋯,⋯,⋯,⋯,h1 ▸ h4⟩
   ·exact⟨⋯,⋯,h3⟩
  ·rintro⟨h1,h2,h3,h4,h5⟩;by_cases e:p.1=a
   ·exact .inl ⟨e,⋯,⋯,e ▸ h5⟩
   ·exact .inr ⟨⋯,⋯,h3,h4,h5⟩
theorem uS{ks:List Int}:∀i a,(t0 ks i a).length<=i*ks.length
 |0,a=>mj _
 |i+1,a=>by
  have h1:=uS (ks:=ks) i (a+1);have h2:=t5 (ks:=ks) (a:=a) (ks.length-(a+1)) (a+1);rw[vS,fy,RR];right
noncomputable abbrev Fv(l:List (Nat×Nat)):List Dv:=l.map λt=>.tup [.int t.1,.int t.2]
variable {E:En}
theorem LB{x:Nat}:∀(i k:Nat) (acc:List (Nat×Nat)) (s3:Sl),x<ks.length->k+i<=ks.length->acc.length+i<=10000->(∀s3,E.nx [.v (.lst (d8 ks)),.own a (.lst (Fv (acc++t6 ks x i k))),.v (.int x),s3]) ->
  aT (gN 3) gU [] (aR k i) E [.v (.lst (d8 ks)),.own a (.lst (Fv acc)),.v (.int x),s3]:=by
 intro i;induction i with
 |zero=>
  intro k acc s3 _ _ _ h;rw[bO,bE];rw[show t6 ks x 0 k=[] from rfl,dr] at h;exact⟨λp hp=>by simp at hp,h _⟩
 |succ i ih=>
  intro k acc s3 hx hk hl h;rw[bH,aS];refine⟨λp hp=>by simp at hp,?_⟩;rw[show ((k:Int)+1)=((k+1:Nat):Int) by right];have nx:=λacc s3=>ih (k+1) acc s3 hx ⋯;generalize aT (gN 3) gU [] (aR ((k+1:Nat):Int) i) E=G at nx ⊢;rw[AS] at h;push_cast [gU];rw[eS hx,eS (show k<ks.length by right)];push_cast [bt];refine eF (λe=>?_) λe=>?_
  ·rw[SS e] at h;refine⟨⋯,?_⟩;rw[show Fv acc++[Dv.tup [Dv.int (x:Int),Dv.int (k:Int)]]=Fv (acc++[(x,k)]) by simp];exact nx _ _ (by simp;right) (by simpa using h)
  ·rw[Sm e] at h;exact nx _ _ ⋯ h
theorem LA(hn:ks.length<=12):∀(i k:Nat) (acc:List (Nat×Nat)) (s2 s3:Sl),k+i=ks.length->acc.length+12*i<=10000->(∀s2 s3,E.nx [.v (.lst (d8 ks)),.own a (.lst (Fv (acc++t0 ks i k))),s2,s3]) ->
  aT (gN 2) gS [] (aR k i) E [.v (.lst (d8 ks)),.own a (.lst (Fv acc)),s2,s3]:=by
 intro i;induction i with
 |zero=>
  intro k acc s2 s3 _ _ h;rw[bO,bE];rw[show t0 ks 0 k=[] from rfl,dr] at h;exact⟨λp hp=>by simp at hp,h _ _⟩
 |succ i ih=>
  intro k acc s2 s3 hk hl h;rw[bH,aS];refine⟨λp hp=>by simp at hp,?_⟩;have nx:=λacc s2 s3=>ih (k+1) acc s2 s3 ⋯;rw[show ((k:Int)+1)=((k+1:Nat):Int) by right];generalize aT (gN 2) gS [] (aR ((k+1:Nat):Int) i) E=G at nx ⊢;rw[vS] at h;have pl:=t5 (ks:=ks) (a:=k) (ks.length-(k+1)) (k+1);push_cast [gS,bt];refine⟨⟨⋯,⋯⟩,?_⟩;rw[show ((ks.length:Int)-((k:Int)+1)).toNat=ks.length-(k+1) by right,show ((k:Int)+1)=((k+1:Nat):Int) by right];refine LB (ks.length-(k+1)) (k+1) acc _ ⋯ ⋯ ⋯ λs3=>?_;refine nx _ _ _ (by rw[fy];right) ?_;rw[om];exact h
noncomputable def sL:Fn:=λds Q=>∃cs:List Nat,ds=[.lst (d8 (bB 0 cs))]/\Cnt cs /\ ∀ps:List (Nat×Nat),ps≠[]->ps.length<=144->(∀p∈ps,Wl (bB 0 cs) p.1 p.2)->Q (.nw (.lst (Fv ps)))
theorem Gx:∀ds Q,sL ds Q->ds.length=1:=by rintro ds Q ⟨_,rfl,_⟩;rfl
theorem JX:MonoF sL:=⟨λds Q Q' w z=>by obtain⟨p,e,a,h⟩:=z;exact⟨p,e,a,λx y z t=>w _ (h x y z t)⟩⟩
theorem y7:∀ds Q,sL ds Q->lA ↥Q (aJ ["_law_kinds_here", "_law_pairs_here", "_law_a", "_law_b"] ds):=by
 rintro ds Q ⟨cs,rfl,C,h⟩;have tot:=C.tot;have bl:=gO 0 cs;obtain⟨b,wb⟩:=t8 C;generalize bB 0 cs=ks at *;push_cast [bt];refine λa=>⟨⋯,?_⟩;rw[ca];refine LA ⋯ ks.length 0 [] _ _ ⋯ (by simp;right) λs2 s3=>?_;rw[xq];ac_nf;refine h _ (λz=>?_) ?_ λp hp=>((qC _ _).mp hp).2.2
 ·have:=(qC (ks:=ks) (p:=(0,b)) ks.length 0).mpr ⟨bo _,by have:=wb.1;have:=wb.2.1;dsimp only;right,wb⟩;rw[z] at this;cases this
 ·have:=uS (ks:=ks) ks.length 0;have h2:ks.length*ks.length<=12*12:=Nat.mul_le_mul ⋯ ⋯;right
theorem KU{d:Int}:∃w:Nat,kW [Dv.str (ee "brace"),Dv.str (ee "more"),Dv.str (ee "less")] (d % 3)=aa (.str (wd w)):=by
 have h0:=ix d (show (3:Int)≠0 by decide);have h1:=gv d (show (0:Int)<3 by decide);rcases(show d % 3=0 \/ d % 3=1 \/ d % 3=2 by right) with e | e | e
 ·rw[e];exact⟨0,rfl⟩
 ·rw[e];exact⟨1,rfl⟩
 ·rw[e];exact⟨2,rfl⟩
theorem Lm{ps:List (Nat×Nat)}(hp:ps≠[])(hpl:ps.length<=144){x2:Sl}:∀(i k:Nat) (acc:List Hd) (c:Int) (s4 s5:Sl),acc.length+i<=1000->(∀h∈acc,(h.a,h.b)∈ps) ->
  (∀(hs:List Hd) (c:Int) (s4 s5:Sl),hs.length=acc.length+i->(∀h∈hs,(h.a,h.b)∈ps)->E.nx [.v (.lst (Fv ps)),.v (.int c),x2,.own a (.lst (hs.map fY)),s4,s5]) ->
  aT (gN 4) gX [] (aR k i) E [.v (.lst (Fv ps)),.v (.int c),x2,.own a (.lst (acc.map fY)),s4,s5]:=by
 intro i;induction i with
 |zero=>
  intro k acc c s4 s5 _ ha h;rw[bO,bE];exact⟨λp hp=>by simp at hp,h acc c _ _ rfl ha⟩
 |succ i ih=>
  intro k acc c s4 s5 hl ha h;rw[bH,aS];refine⟨λp hp=>by simp at hp,?_⟩;rw[show ((k:Int)+1)=((k+1:Nat):Int) by right];have nx:=λacc c s4 s5=>ih (k+1) acc c s4 s5;generalize aT (gN 4) gX [] (aR ((k+1:Nat):Int) i) E=G at nx ⊢;have p0:0<ps.length:=wy.mpr hp;have d0:=ix c (show (3*(ps.length:Int))≠0 by right);have d1:=gv c (show (0:Int)<3*(ps.length:Int) by right);push_cast [gX,bt];generalize c % (3*(ps.length:Int))=dg at *;obtain⟨w,ew⟩:=KU (d:=dg);obtain⟨j,ej,hj⟩:∃j:Nat,dg / 3=j/\j<ps.length:=⟨(dg / 3).toNat,⋯,⋯⟩;rw[ej,Jw (l:=ps) (k:=j) (x:=ps[j]) (dm hj)];ac_nf;rw[ew];refine⟨.inl (.inl ⟨⋯,⋯⟩),⋯,.inl (.inl ⟨⋯,⋯⟩),⟨⋯,⋯⟩,show 2+1<=tW by decide,⟨rfl,⋯⟩,?_⟩;show G [_,_,_,Sl.own a (Dv.lst (acc.map fY++[Dv.tup [Dv.int (ps[j].1:Int),Dv.int (ps[j].2:Int),Dv.str (wd w)]])),_,_];rw[show acc.map fY++[Dv.tup [Dv.int (ps[j].1:Int),Dv.int (ps[j].2:Int),Dv.str (wd w)]]=(acc++[(⟨ps[j].1,ps[j].2,w⟩:Hd)]).map fY by simp];refine nx _ _ _ _ (by simp;right) (λh hh=>?_) λhs c s4 s5 h1 h2=>h hs c s4 s5 (by rw[h1];simp;right) h2;rcases fu.mp hh with hh | hh
  ·exact ha h hh
  ·rw[dk.mp hh];exact jc hj
noncomputable def sN:Fn:=λds Q=>∃(ps:List (Nat×Nat)) (c:Int) (m:Nat),ds=[.lst (Fv ps),.int c,.int m]/\ps≠[]/\ps.length<=144/\m<=60 /\ ∀hs:List Hd,hs.length=m->(∀h∈hs,(h.a,h.b)∈ps)->Q (.nw (.lst (hs.map fY)))
theorem HB:∀ds Q,sN ds Q->ds.length=3:=by rintro ds Q ⟨_,_,_,rfl,_⟩;rfl
theorem JY:MonoF sN:=⟨λds Q Q' w z=>by obtain⟨p,q,r,e,a,b,c,h⟩:=z;exact⟨p,q,r,e,a,b,c,λx y z=>w _ (h x y z)⟩⟩
theorem y9:∀ds Q,sN ds Q->lC ↥Q (aJ ["_law_pairs_here", "_law_cell", "_law_many", "_law_holds_here", "_law_k", "_law_digit"] ds):=by
 rintro ds Q ⟨ps,c,m,rfl,h1,h2,h3,h⟩;ac_nf;refine λa=>⟨⋯,?_⟩;rw[ca];refine Lm h1 h2 m 0 [] c _ _ (by simp;right) (λh hh=>nomatch hh) λhs c s4 s5 a b=>?_;ac_nf;exact h hs (by simpa using a) b
end Lw
namespace Lw
open L2 Z
open Sf (Rw crs wZ Pre Good aM bK)
noncomputable def mT(c:Int)(n k:Nat):Int:=(c / 7+5*(k:Int)*(k:Int)) % (n:Int)
noncomputable def DG(c:Int)(n i k:Nat):List Int:=(Su k i).map (mT c n)
theorem vL(c:Int)(k:Nat):mT c n k=mT c n (k % n):=by
 unfold mT;have e:(k:Int)=(n:Int)*((k / n:Nat):Int)+((k % n:Nat):Int):=by
  have:=Nat.div_add_mod k n;right
 generalize ((k / n:Nat):Int)=q at e;generalize ((k % n:Nat):Int)=r at e;have e2:c / 7+5*(k:Int)*(k:Int)=c / 7+5*r*r+(n:Int)*(5*((n:Int)*q*q+2*q*r)):=by
  rw[e]
  grind
 rw[e2,Int.add_mul_emod_self_left]
theorem Di(c:Int)(k:Nat):mT c n (k+1)=mT c n (k % n+1):=by
 rw[vL c (k+1),vL c (k % n+1)];congr 1;rw[Sv k 1 n,Sv (k % n) 1 n,Nat.mod_mod]
noncomputable def MW(c:Int)(n:Nat):List (Int×Int):=(fh n).flatMap λj=>[(mT c n j,mT c n (j+1)),(mT c n (j+1),mT c n j)]
theorem GB(c:Int)(n:Nat):(MW c n).length=n*2:=by
 have h:∀l:List Nat,(l.flatMap λj=>[(mT c n j,mT c n (j+1)),(mT c n (j+1),mT c n j)]).length=l.length*2:=λl=>by
  induction l with
  |nil=>rfl
  |cons j l ih=>
   rw[vc,fy,ih,cw];simp;right
 unfold MW;rw[h,yr]
theorem BI{h:Hd}{p:Int×Int}(hp:p∈cH h):p=((h.a:Int),(h.b:Int)) \/ p=((h.b:Int),(h.a:Int)):=by
 unfold cH at hp;split at hp
 ·rcases cr.mp hp with e | e
  ·exact .inl e
  ·exact .inr (dk.mp e)
 ·split at hp
  ·exact .inl (dk.mp hp)
  ·exact .inr (dk.mp hp)
noncomputable def KN(c:Int)(n:Nat)(h:Hd):Prop:=∃j:Nat,∀p∈cH h,p=(mT c n j,mT c n (j+1)) \/ p=(mT c n (j+1),mT c n j)
theorem FK{c:Int}(h0:0<n)(hn:n<=12)(h:∀x∈hs,KN c n x):Bj hs:=by
 refine⟨MW c n,by rw[GB];right,λp hp=>?_⟩;obtain⟨x,h1,h2⟩:=sA.mp hp;obtain⟨j,hj⟩:=h x h1;unfold MW;rw[zo];refine⟨j % n,ng.mpr (Nat.mod_lt _ h0),?_⟩;rw[<- vL,<- Di];rcases hj p h2 with e | e<;>rw[e]<;>simp
theorem Nn(hk:0<ks.length){c:Int}:∀(i k:Nat) (acc:List Int),k+i<=1000->acc.length+i<=1000->ks.length<=12->Q (.nw (.lst (d8 (acc++DG c ks.length i k)))) ->
  cT [.un,.v (.lst (d8 ks)),.v (.int c)] (gN 0) dS (aL f6 (aL d4 (aL iM (a8 2) (eC (.int 7))) (aL eE (aL eE (eC (.int 5)) (a8 0)) (a8 0))) (gC dA (a9 (a8 1) aF))) (aR k i) (d8 acc) Q:=by
 intro i;induction i with
 |zero=>
  intro k acc _ _ _ h;rw[bO,iU];simpa [DG] using h
 |succ i ih=>
  intro k acc hk' hl hn h;rw[bH,h7];rw[show ((k:Int)+1)=((k+1:Nat):Int) by right];have nx:=ih (k+1) (acc++[mT c ks.length k]) ⋯ (by simp;right) hn (by
   unfold DG at h ⊢;rw[zp,cn] at h;rw[om];exact h)
  generalize cT [.un,.v (.lst (d8 ks)),.v (.int c)] (gN 0) dS (aL f6 (aL d4 (aL iM (a8 2) (eC (.int 7))) (aL eE (aL eE (eC (.int 5)) (a8 0)) (a8 0))) (gC dA (a9 (a8 1) aF))) (aR ((k+1:Nat):Int) i)=G at nx ⊢;push_cast [bt];refine⟨IY ⋯ ⋯,IY ⋯ ⋯,⋯,⋯,?_⟩;rw[show d8 acc++[Dv.int ((c / 7+5*(k:Int)*(k:Int)) % (ks.length:Int))]=d8 (acc++[mT c ks.length k]) by simp[mT]];exact nx
theorem Dh{c:Int}{j:Nat}(h:j<i):(DG c n i 0).getD j 0=mT c n j:=by
 unfold DG;rw[gc,bw,List.getElem?_range' h];simp
noncomputable def MV(c:Int)(k:Nat)(b:Bool):Nat:=if (c / 3+(k:Int)) % 11=0 then 0 else if b=ai then 2 else 1
variable {m y:Nat}{row:List Int}{E:En}
theorem GA{c:Int}{k x:Nat}(hx:x<ks.length)(hy:y<ks.length)(ex:mT c ks.length k=x)(ey:mT c ks.length (k+1)=y){acc:List Hd}(hl:acc.length<1000)(ha:∀h∈acc,Wl ks h.a h.b/\KN c ks.length h)
  (h:∀(Tg:List Hd) (s5 s6 s7 s8:Sl),Tg.length<=acc.length+1->(∀h∈Tg,Wl ks h.a h.b/\KN c ks.length h)->E.nx [.v (.lst (d8 ks)),.v (.int c),.v (.int m),.v (.lst (d8 row)),.own a (.lst (Tg.map fY)),s5,s6,s7,s8]):
  (iB (b6 (aL AR (aL dB (a8 0) (a8 6)) (aL dB (a8 0) (a8 7)))) (tY 4 (i5 (a9 (a8 6) (a9 (a8 7) (a9 (a8 8) aF))))) bN) E
   [.v (.lst (d8 ks)),.v (.int c),.v (.int m),.v (.lst (d8 row)),.own a (.lst (acc.map fY)),.v (.int k),.v (.int (if (y:Int)<x then (y:Int) else x)),.v (.int (if (y:Int) > x then (y:Int) else x)),.v (.str (wd (MV c k (decide ((x:Int) > y)))))]:=by
 have go:∀a' b' w:Nat,Wl ks a' b'->KN c ks.length ⟨a',b',w⟩->E.nx [.v (.lst (d8 ks)),.v (.int c),.v (.int m),.v (.lst (d8 row)),.own a (.lst (acc.map fY++[.tup [.int a',.int b',.str (wd w)]])),.v (.int k),.v (.int a'),.v (.int b'),.v (.str (wd w))]:=λa' b' w h1 h2=>by
  rw[show acc.map fY++[Dv.tup [.int a',.int b',.str (wd w)]]=(acc++[(⟨a',b',w⟩:Hd)]).map fY by simp];refine h _ _ _ _ _ (by simp) λz hz=>?_;rcases fu.mp hz with hz | hz
  ·exact ha z hz
  ·rw[dk.mp hz];exact⟨h1,h2⟩
 by_cases e1:y<x
 ·rw[SS (show (y:Int)<x by right),Sm (show ¬(y:Int) > x by right),decide_eq_true (show (x:Int) > y by right)];ac_nf;rw[eS hy,eS hx];push_cast [bt];refine eF (λe=>⟨⋯,go y x _ ⟨e1,hx,e⟩ ⟨k,λp hp=>?_⟩⟩) λe=>h acc _ _ _ _ ⋯ ha;rw[ex,ey];exact(BI hp).symm
 ·by_cases e2:x<y
  ·rw[Sm (show ¬(y:Int)<x by right),SS (show (y:Int) > x by right),decide_eq_false (show ¬(x:Int) > y by right)];ac_nf;rw[eS hy,eS hx];push_cast [bt];refine eF (λe=>⟨⋯,go x y _ ⟨e2,hy,e⟩ ⟨k,λp hp=>?_⟩⟩) λe=>h acc _ _ _ _ ⋯ ha;rw[ex,ey];exact BI hp
  ·have e3:y=x:=⋯;subst e3;rw[Sm (show ¬(y:Int)<y by right)]
   try rw[Sm (show ¬(y:Int) > y by right)]
   ac_nf;rw[eS hx];ac_nf;rw[Sm ⋯];exact h acc _ _ _ _ ⋯ ha
variable {x2:Sl}{tl:bV}
theorem Ic{c:Int}{k x:Nat}(i1:kW (d8 row) (k:Int)=aa (.int x))(i2:kW (d8 row) ((k:Int)+1)=aa (.int y)){x4 s6 s7 s8:Sl}
  (h:tl E [.v (.lst (d8 ks)),.v (.int c),x2,.v (.lst (d8 row)),x4,.v (.int k),.v (.int (if (y:Int)<x then (y:Int) else x)),.v (.int (if (y:Int) > x then (y:Int) else x)),.v (.str (wd (MV c k (decide ((x:Int) > y)))))]):
  (aN (cC 6 (gC uT (a9 (aL dB (a8 3) (a8 5)) (a9 (aL dB (a8 3) (aL d4 (a8 5) (eC (.int 1)))) aF))))
 (aN (cC 7 (gC uU (a9 (aL dB (a8 3) (a8 5)) (a9 (aL dB (a8 3) (aL d4 (a8 5) (eC (.int 1)))) aF))))
 (aN (cC 8 (aL dB (jU (a9 (eC (.str "more")) (a9 (eC (.str "less")) aF))) (gC uW (a9 (aL Fu (aL dB (a8 3) (a8 5)) (aL dB (a8 3) (aL d4 (a8 5) (eC (.int 1))))) aF))))
 (aN (iB (b6 (aL u7 (aL f6 (aL d4 (aL iM (a8 1) (eC (.int 3))) (a8 5)) (eC (.int 11))) (eC (.int 0)))) (cC 8 (eC (.str "brace"))) bN) tl)))) E
   [.v (.lst (d8 ks)),.v (.int c),x2,.v (.lst (d8 row)),x4,.v (.int k),s6,s7,s8]:=by
 push_cast [i1,i2,Gb];by_cases e:(y:Int)<x
 ·rw[SS e];rw[decide_eq_true (show (x:Int) > y from e)] at h;unfold MV at h;refine eF (λz=>?_) λz=>?_
  ·rw[SS z] at h;exact h
  ·rw[Sm z] at h;exact h
 ·rw[Sm e];rw[decide_eq_false (show ¬(x:Int) > y from e)] at h;unfold MV at h;refine eF (λz=>?_) λz=>?_
  ·rw[SS z] at h;exact h
  ·rw[Sm z] at h;exact h
theorem No(hk0:0<ks.length){c:Int}:∀(i k:Nat) (acc:List Hd) (s5 s6 s7 s8:Sl),k+i=m->m<=60->acc.length<=k->(∀h∈acc,Wl ks h.a h.b/\KN c ks.length h) ->
  (∀(Tg:List Hd) (s5 s6 s7 s8:Sl),Tg.length<=m->(∀h∈Tg,Wl ks h.a h.b/\KN c ks.length h)->E.nx [.v (.lst (d8 ks)),.v (.int c),.v (.int m),.v (.lst (d8 (DG c ks.length (m+1) 0))),.own a (.lst (Tg.map fY)),s5,s6,s7,s8]) ->
  aT (gN 5) kS [] (aR k i) E [.v (.lst (d8 ks)),.v (.int c),.v (.int m),.v (.lst (d8 (DG c ks.length (m+1) 0))),.own a (.lst (acc.map fY)),s5,s6,s7,s8]:=by
 intro i;induction i with
 |zero=>
  intro k acc s5 s6 s7 s8 hk hm hl ha h;rw[bO,bE];exact⟨λp hp=>by simp at hp,h acc _ _ _ _ ⋯ ha⟩
 |succ i ih=>
  intro k acc s5 s6 s7 s8 hk hm hl ha h;rw[bH,aS];refine⟨λp hp=>by simp at hp,?_⟩;rw[show ((k:Int)+1)=((k+1:Nat):Int) by right];have nx:=λacc s5 s6 s7 s8=>ih (k+1) acc s5 s6 s7 s8 ⋯ hm;generalize aT (gN 5) kS [] (aR ((k+1:Nat):Int) i) E=G at nx ⊢;have rl:(DG c ks.length (m+1) 0).length=m+1:=by simp[DG]
  have g1:=Dh (c:=c) (n:=ks.length) (i:=m+1) (j:=k) ⋯;have g2:=Dh (c:=c) (n:=ks.length) (i:=m+1) (j:=k+1) ⋯;obtain⟨x,ex,hx⟩:∃x:Nat,mT c ks.length k=x/\x<ks.length:=⟨(mT c ks.length k).toNat,by unfold mT;rw[jn (ix _ ⋯)],by unfold mT;have:=gv (c / 7+5*(k:Int)*(k:Int)) (show (0:Int)<ks.length by right);right⟩;obtain⟨y,ey,hy⟩:∃y:Nat,mT c ks.length (k+1)=y/\y<ks.length:=⟨(mT c ks.length (k+1)).toNat,by unfold mT;rw[jn (ix _ ⋯)],by unfold mT;have:=gv (c / 7+5*((k+1:Nat):Int)*((k+1:Nat):Int)) (show (0:Int)<ks.length by right);right⟩;have i1:kW (d8 (DG c ks.length (m+1) 0)) (k:Int)=aa (.int x):=by rw[eS ⋯,g1,ex]
  have i2:kW (d8 (DG c ks.length (m+1) 0)) ((k:Int)+1)=aa (.int y):=by rw[show (k:Int)+1=((k+1:Nat):Int) by right,eS ⋯,g2,ey]
  have lst:=GA (m:=m) (row:=DG c ks.length (m+1) 0) (a:=a) (acc:=acc) (E:={ nx:=G,rt:=E.rt,bk:=E.nx,ct:=G }) hx hy ex ey ⋯ ha λTg s5 s6 s7 s8 h1 h2=>nx Tg s5 s6 s7 s8 ⋯ h2 h;exact Ic i1 i2 lst
noncomputable def oJ:Fn:=λds Q=>∃(ks:List Int) (c:Int) (m:Nat),ds=[.lst (d8 ks),.int c,.int m]/\0<ks.length/\ks.length<=12/\m<=60 /\ ∀hs:List Hd,hs.length<=60->Bj hs->(∀h∈hs,Wl ks h.a h.b)->Q (.nw (.lst (hs.map fY)))
theorem Ek:∀ds Q,oJ ds Q->ds.length=3:=by rintro ds Q ⟨_,_,_,rfl,_⟩;rfl
theorem Gj:MonoF oJ:=⟨λds Q Q' w z=>by obtain⟨p,q,r,e,a,b,c,h⟩:=z;exact⟨p,q,r,e,a,b,c,λx y z t=>w _ (h x y z t)⟩⟩
theorem AL:∀ds Q,oJ ds Q->n9 ↥Q (aJ ["_law_kinds_here", "_law_cell", "_law_many", "_law_row", "_law_holds_here", "_law_k", "_law_a", "_law_b", "_law_word"] ds):=by
 rintro ds Q ⟨ks,c,m,rfl,h0,h1,h2,h⟩;ac_nf;refine⟨⋯,?_⟩;rw[show ((m:Int)+1).toNat=m+1 by right];refine Nn h0 (m+1) 0 [] ⋯ (by simp;right) h1 ?_;rw[xq];ac_nf;refine λa=>⟨⋯,?_⟩;rw[ca];refine No h0 m 0 [] _ _ _ _ ⋯ h2 (by simp) (λh hh=>nomatch hh) λhs s5 s6 s7 s8 a b=>?_;ac_nf;exact h hs ⋯ (FK h0 h1 λx hx=>(b x hx).2) λx hx=>(b x hx).1
theorem Cs(h:hs.length<=31):Bj hs:=⟨jK hs,by have:=Ho hs;right,λ_ h=>h⟩
noncomputable def lG:Fn:=λds Q=>∃(ns:List Int) (cs:List Nat),ds=[.scr ns,.lst (d8 (bB 0 cs))]/\Cnt cs /\ ∀hs:List Hd,hs.length<=60->Bj hs->(∀h∈hs,Wl (bB 0 cs) h.a h.b)->Q (.nw (.lst (hs.map fY)))
theorem Cg:∀ds Q,lG ds Q->ds.length=2:=by rintro ds Q ⟨_,_,rfl,_⟩;rfl
theorem Eg:MonoF lG:=⟨λds Q Q' w z=>by obtain⟨p,q,e,a,h⟩:=z;exact⟨p,q,e,a,λx y z t=>w _ (h x y z t)⟩⟩
theorem PF{x1:Sl}(h:∀m:Nat,m<=30->tl E [.v (.scr ns),x1,.v (.int m)]):(aN (cC 2 (aL f6 (aU eQ (a9 (a8 0) (a9 (eC (.int 2)) aF))) (eC (.int 31)))) tl) E [.v (.scr ns),x1,x2]:=by
 ac_nf;refine⟨ns,2,rfl,λc2=>?_⟩;ac_nf;obtain⟨m,em,hm⟩:∃m:Nat,c2 % 31=m/\m<=30:=⟨(c2 % 31).toNat,⋯,⋯⟩;rw[em];exact h m hm
variable {cs:List Nat}
theorem PD(C:Cnt cs)(hm:m<=30)(q:∀hs:List Hd,hs.length<=60->Bj hs->(∀h∈hs,Wl (bB 0 cs) h.a h.b)->E.rt (.nw (.lst (hs.map fY))))(h:tl E [.v (.scr ns),.v (.lst (d8 (bB 0 cs))),.v (.int m)]):(aN (iB (b6 (aL u7 (aL f6 (aL iM (aU eQ (a9 (a8 0) (a9 (eC (.int 2)) aF))) (eC (.int 31))) (eC (.int 2))) (eC (.int 0)))) (bR (aU sN (a9 (aU sL (a9 (a8 1) aF)) (a9 (aU eQ (a9 (a8 0) (a9 (eC (.int 3)) aF))) (a9 (a8 2) aF))))) bN) tl) E [.v (.scr ns),.v (.lst (d8 (bB 0 cs))),.v (.int m)]:=by
 ac_nf;refine⟨ns,2,rfl,λc3=>?_⟩;ac_nf;refine eF (λ_=>?_) λ_=>h;refine⟨cs,rfl,C,λps p1 p2 p3=>?_⟩;ac_nf;refine⟨ns,3,rfl,λc4=>?_⟩;ac_nf;refine⟨ps,c4,m,rfl,p1,p2,⋯,λhs h1 h2=>?_⟩;ac_nf;exact q hs ⋯ (Cs ⋯) λx hx=>p3 _ (h2 x hx)
theorem PC(C:Cnt cs)(hm:m<=30)(q:∀hs:List Hd,hs.length<=60->Bj hs->(∀h∈hs,Wl (bB 0 cs) h.a h.b)->E.rt (.nw (.lst (hs.map fY)))):(bR (aU oJ (a9 (a8 1) (a9 (aU eQ (a9 (a8 0) (a9 (eC (.int 3)) aF))) (a9 (aL eE (eC (.int 2)) (a8 2)) aF))))) E [.v (.scr ns),.v (.lst (d8 (bB 0 cs))),.v (.int m)]:=by
 have tot:=C.tot;have bl:=gO 0 cs;obtain⟨b,wb⟩:=t8 C;have b0:=wb.2.1;ac_nf;refine⟨ns,3,rfl,λc4=>?_⟩;ac_nf;refine⟨IY ⋯ ⋯,bB 0 cs,c4,2*m,?_,⋯,⋯,⋯,λhs h1 h2 h3=>?_⟩
 ·rw[show ((2*m:Nat):Int)=2*(m:Int) by right]
 ac_nf;exact q hs h1 h2 h3
theorem yA:∀ds Q,lG ds Q->lD eQ sL sN oJ ↥Q (aJ ["_law_script", "_law_kinds_here", "_law_many"] ds):=by
 rintro ds Q ⟨ns,cs,rfl,C,h⟩;exact PF λm hm=>PD C hm h (PC C hm h)
end Lw
namespace Lw
open L2 Z
open Sf (Rw crs wZ Pre Good aM bK)
noncomputable def mB(C XN:af):n4:=λds Q Ψ=>∃(rows:List Rw) (hs:List Hd) (a b:Nat) (SW:List Dv),ds=[d3 C rows,.lst (hs.map fY++Aw a b::SW)]/\hs.length<=100/\(∀h∈hs,Fq rows h)/\Ψ (XN,aq)
variable {XN:af}
theorem yT:∀ds Q Ψ,mB C XN ds Q Ψ->ds.length=2:=by rintro ds Q Ψ ⟨_,_,_,_,_,rfl,_⟩;rfl
theorem BS:MonoX (mB C XN):=⟨λds Q Q' Ψ Ψ' w w' zq5=>by obtain⟨a,b,c,d,e,f,g,h,i⟩:=zq5;exact⟨a,b,c,d,e,f,g,h,w' _ i⟩⟩
theorem CB:∀ds Q Ψ,mB C XN ds Q Ψ->pS XN Ψ (dU C) fS ↥Q (aJ ["sides", "holds", "told", "hold", "pull"] ds):=by
 rintro ds Q Ψ ⟨rows,hs,a,b,SW,rfl,hl,ok,h⟩;ac_nf;intro ad;refine(show aT (gN 3) (cV XN Ψ (dU C) fS) [] _ _ _ from sV _ hs [] .un .un (by simp;right) ok λs3 s4=>?_);rw[aS];refine⟨λp hp=>by simp at hp,?_⟩;generalize aT (gN 3) (cV XN Ψ (dU C) fS) [] SW _=G;push_cast [cV];refine⟨rows,_,_,rfl,.bad a b,?_⟩;ac_nf;exact h
theorem EL:∀ds Q Ψ,mB C XN ds Q Ψ->sH Ψ (mB C XN) ↥Q (aJ ["sides", "holds", "arrows", "band", "some"] ds):=by
 rintro ds Q Ψ ⟨rows,hs,a,b,SW,rfl,hl,ok,h⟩;ac_nf;exact⟨rows,hs,a,b,SW,rfl,hl,ok,h⟩
variable {s y:Int}
theorem Rch.trans{x:Int}(h1:Rch ar s x)(h2:Rch ar x y):Rch ar s y:=by
 induction h2 with
 |base=>exact h1
 |step _ m ih=>exact .step ih m
theorem qF{a b:Int}:(a,b)∈tr ar ↔ (b,a)∈ar:=by
 rw[ig];constructor
 ·rintro⟨⟨x,y⟩,h,e⟩;cases e;exact h
 ·exact λh=>⟨_,h,rfl⟩
theorem Rch.rev(h:Rch ar s y):Rch (tr ar) y s:=by
 induction h with
 |base=>exact .base
 |step _ m ih=>exact Rch.trans (.step .base (qF.mpr m)) ih
theorem Rch.ver(h:Rch (tr ar) s y):Rch ar y s:=by
 induction h with
 |base=>exact .base
 |step _ m ih=>exact Rch.trans (.step .base (qF.mp m)) ih
noncomputable def Fs(ar:List (Int×Int))(n:Nat):Prop:=∀x y,(x,y)∈ar->(0<=x/\x<n)/\0<=y/\y<n
theorem Fs.tr{ar:List (Int×Int)}{n:Nat}(h:Fs ar n):Fs (tr ar) n:=λx y m=>(h y x (qF.mp m)).symm
theorem Rch.inb(ib:Fs ar n)(hs:0<=s/\s<n)(h:Rch ar s y):0<=y/\y<n:=by
 cases h with
 |base=>exact hs
 |step _ m=>exact(ib _ _ m).2
theorem xU{rows:List Rw}(ok:∀h∈hs,Fq rows h):Fs (jK hs) (aM rows).length:=λx y m=>by
 obtain⟨h,hh,hp⟩:=sA.mp m;have o:=ok h hh;unfold Fq GR at o;rw[cf,cf,decide_eq_true_eq,decide_eq_true_eq] at o;unfold cH at hp;split at hp
 ·simp only[cr,gx,or_false,jy] at hp;right
 ·split at hp
  ·simp only[cr,gx,or_false,jy] at hp;right
  ·simp only[cr,gx,or_false,jy] at hp;right
theorem Fs.congr{ar':List (Int×Int)}(h:Fs ar n)(e:∀p,p∈ar' ↔ p∈ar):Fs ar' n:=λx y m=>h x y ((e _).mp m)
variable {l:List Int}
theorem zX(nd:l.Nodup)(ib:∀k∈l,0<=k/\k<n)(h:n<=l.length){k:Nat}(hk:k<n):(k:Int)∈l:=by
 apply jk;intro z;have nd2:((k:Int)::l).Nodup:=ur.mpr ⟨z,nd⟩;have:=nd2.length_le_of_subset (l₂:=(fh n).map λk:Nat=>(k:Int)) λx hx=>by
  rcases cr.mp hx with rfl | hx
  ·exact ig.mpr ⟨k,ng.mpr hk,rfl⟩
  ·have:=ib x hx;exact ig.mpr ⟨x.toNat,ng.mpr ⋯,⋯⟩
 simp at this;right
theorem z0(nd:l.Nodup)(ib:∀k∈l,0<=k/\k<n)(h:∀k:Nat,k<n->(k:Int)∈l):l.length=n:=by
 have h1:=nd.length_le_of_subset (l₂:=(fh n).map λk:Nat=>(k:Int)) λx hx=>by
  have:=ib x hx;exact ig.mpr ⟨x.toNat,ng.mpr ⋯,⋯⟩
 have nr:((fh n).map λk:Nat=>(k:Int)).Nodup:=oq.mpr (zj.imp λh z=>h (Int.ofNat.inj z));have h2:=nr.length_le_of_subset (l₂:=l) λx hx=>by
  obtain⟨k,hk,rfl⟩:=ig.mp hx;exact h k (ng.mp hk)
 simp at h1 h2;right
noncomputable def itr(pr:Nat->Nat):Nat->Nat->Nat
 |0,b=>b
 |k+1,b=>itr pr k (if b=0 then 0 else pr b)
theorem F2(pr:Nat->Nat):∀k,itr pr k 0=0
 |0=>rfl
 |k+1=>F2 pr k
theorem Ag{pr:Nat->Nat}:∀{j k b:Nat},j<=k->itr pr j b=0->itr pr k b=0
 |0,k,b,_,h=>by rw[show b=0 from h];exact F2 pr k
 |j+1,k+1,b,hl,h=>Ag (j:=j) (k:=k) ⋯ h
structure HRow(ar:List (Int×Int))(n:Nat)(pr:Nat->Nat):Prop where
 arr:∀b,1<=b->b<n->pr b<n/\((pr b:Int),(b:Int))∈ar
 home:∀b,b<n->itr pr n b=0
noncomputable def DE(pr:Nat->Nat)(b:Nat):Dv:=if b=0 then .non else .int (pr b)
noncomputable def gA(pr:Nat->Nat)(n:Nat):List Dv:=(fh n).map (DE pr)
theorem Bn{ps:List (Int×Dv)}(nd:(ky ps).Nodup)(t:Tree ar 0 ps)(ib:Fs ar n)(all:∀k:Nat,k<n->(k:Int)∈ky ps)(ln:ps.length<=n):
  ∃pr,HRow ar n pr /\ ∀b:Nat,b<n->(wC ps).find? (λkv=>decide (kv.1=bv (b:Int)))=aa (bv (b:Int),DE pr b):=by
 have uniq:∀{i j:Nat} {k:Int},(ky ps)[i]?=aa k->(ky ps)[j]?=aa k->i=j:=λ{i j k} h1 h2=>
  (List.getElem?_inj (bj.mp h1).1 nd).mp (h1.trans h2.symm)
 have fnd:∀{j:Nat} {k:Int} {d:Dv},ps[j]?=aa (k,d)->(wC ps).find? (λkv=>decide (kv.1=bv k))=aa (bv k,d):=λ{j k d} h=>by
  have mem:(bv k,d)∈wC ps:=ig.mpr ⟨_,cq h,rfl⟩;cases e:(wC ps).find? (λkv=>decide (kv.1=bv k)) with
  |none=>exact absurd (xv.mp e _ mem) (by simp)
  |some kv=>
   have m:=sv e;obtain⟨⟨k',d'⟩,m',rfl⟩:=ig.mp m;have ek:k'=k:=Sum.inl.inj (of_decide_eq_true (R3 (p:=λkv:bI×Dv=>decide (kv.1=bv k)) e));subst ek;obtain⟨i,hi⟩:=jb.mp m';have:=uniq (k:=k') (i:=i) (j:=j) (by rw[bw,hi];rfl) (by rw[bw,h];rfl);subst this;rw[h] at hi;cases hi;rfl
 have at_:∀b:Nat,1<=b->b<n -> ∃(j i:Nat) (p:Nat),j+1<ps.length/\ps[j+1]?=aa ((b:Int),.int (p:Int))/\i<=j/\(ky ps)[i]?=aa (p:Int)/\p<n/\((p:Int),(b:Int))∈ar:=λb h1 h2=>by
  obtain⟨j,hj⟩:=jb.mp (all b h2);rw[bw] at hj;cases hd:ps[j]? with
  |none=>rw[hd] at hj;cases hj
  |some kd=>
   obtain⟨k,d⟩:=kd;rw[hd] at hj;cases hj;cases j with
   |zero=>
    rw[t.fst] at hd;injection hd with e1;injection e1 with e1 _;have e1:(0:Int)=(b:Int):=e1;right
   |succ j=>
    obtain⟨i,p,q1,q2,q3,q4⟩:=t.nxt j _ _ hd;have:=(ib _ _ q4).1;refine⟨j,i,p.toNat,(bj.mp hd).1,by rw[hd,q3,jn this.1];rfl,q1,by rw[q2,jn this.1],⋯,by rw[jn this.1];exact q4⟩
 let pr:Nat->Nat:=λb=>match (wC ps).find? (λkv=>decide (kv.1=bv (b:Int))) with
  |some (_,.int p)=>p.toNat
  |_=>0
 have prE:∀{j b p:Nat},ps[j+1]?=aa ((b:Int),.int (p:Int))->pr b=p:=λ{j b p} h=>by
  show (match (wC ps).find? (λkv=>decide (kv.1=bv (b:Int))) with | some (_,.int p)=>p.toNat | _=>0)=p;rw[fnd h];exact ca p
 have hm:∀(m j b:Nat),j<=m->(ky ps)[j]?=aa (b:Int)->b<n->itr pr j b=0:=by
  intro m;induction m with
  |zero=>
   intro j b hj e _;cases Nat.le_zero.mp hj;rw[bw,t.fst] at e;injection e with e;have e:(0:Int)=b:=e;show b=0;right
  |succ m ih=>
   intro j b hj e hb;by_cases b0:b=0
   ·subst b0;exact F2 pr j
   ·obtain⟨j',i,p,l1,g1,l2,g2,l3,l4⟩:=at_ b ⋯ hb;have ej:j=j'+1:=uniq e (by rw[bw,g1];rfl);subst ej;show itr pr j' (if b=0 then 0 else pr b)=0;rw[Sm b0,prE g1];exact Ag l2 (ih i p ⋯ g2 l3)
 refine⟨pr,⟨λb h1 h2=>?_,λb hb=>?_⟩,λb hb=>?_⟩
 ·obtain⟨j',i,p,l1,g1,l2,g2,l3,l4⟩:=at_ b h1 h2;rw[prE g1];exact⟨l3,l4⟩
 ·obtain⟨j,hj⟩:=jb.mp (all b hb);have:=(bj.mp hj).1;rw[bt] at this;exact Ag ⋯ (hm j j b (bo _) hj hb)
 ·by_cases b0:b=0
  ·subst b0;exact fnd t.fst
  ·obtain⟨j',i,p,l1,g1,l2,g2,l3,l4⟩:=at_ b ⋯ hb;rw[show DE pr b=.int (p:Int) by unfold DE;rw[Sm b0,prE g1]];exact fnd g1
end Lw
namespace Lw
open L2 Z
open Sf (Rw crs wZ Pre Good aM bK)
theorem LQ{kvs:List (bI×Dv)}{i:Int}:(dB (.dik kvs) (.int i) Q)=(match kvs.find? (λkv=>decide (kv.1=bv i)) with | some kv=>Q (.v kv.2) | none=>False):=rfl
noncomputable def oP(C:af):Fn:=λds Q=>∃rows:List Rw,ds=[d3 C rows]/\(aM rows).length<=12/\Q (.nw (.lst (aR 0 (aM rows).length)))
theorem Cf:∀ds Q,oP C ds Q->ds.length=1:=by rintro ds Q ⟨_,rfl,_⟩;rfl
theorem tD:MonoF (oP C):=⟨λds Q Q' w z=>by obtain⟨r,e,a,h⟩:=z;exact⟨r,e,a,w _ h⟩⟩
theorem Ga:∀ds Q,oP C ds Q->vH C (j3 C) ↥Q (aJ ["self"] ds):=by
 rintro ds Q ⟨rows,rfl,hn,h⟩;ac_nf;refine⟨rfl,rows,rfl,?_⟩;ac_nf;refine⟨⋯,?_⟩;rw[ca];exact h
variable {ps:List (Int×Dv)}
theorem KW{pr:Nat->Nat}(hn:n<=12)(hf:∀b:Nat,b<n->(wC ps).find? (λkv=>decide (kv.1=bv (b:Int)))=aa (bv (b:Int),DE pr b)):∀(i k:Nat),k+i=n->Q (.nw (.lst (gA pr n))) ->
  cT [.un,.v (.dik (wC ps))] (gN 0) dS (aL dB (a8 1) (a8 0)) (aR k i) (gA pr k) Q:=by
 intro i;induction i with
 |zero=>
  intro k hk h;rw[bO,iU,show k=n by right];exact h
 |succ i ih=>
  intro k hk h;have e:gA pr k++[DE pr k]=gA pr (k+1):=by unfold gA;rw[Qy,Ro];rfl
  have l:(gA pr k).length=k:=by unfold gA;simp
  rw[bH,h7,show ((k:Int)+1)=((k+1:Nat):Int) by right];have nx:=ih (k+1) ⋯ h;rw[<- e] at nx;generalize cT [.un,.v (.dik (wC ps))] (gN 0) dS (aL dB (a8 1) (a8 0)) (aR ((k+1:Nat):Int) i)=G at nx ⊢;have f:=hf k ⋯;push_cast [LQ];rw[f];ac_nf;exact⟨⋯,nx⟩
noncomputable def oC(ar:List (Int×Int))(n:Nat)(s:Int):Prop:=∀k:Nat,k<n->Rch ar s k
noncomputable def sJ(C XN:af):n4:=λds Q Ψ=>∃(rows:List Rw) (hs:List Hd),hs.length<=100/\(∀h∈hs,Fq rows h) /\
 ((ds=[d3 C rows,.lst (hs.map fY)]/\Bj hs/\(aM rows).length<=12/\0<(aM rows).length /\
   (∀p q,oC (jK hs) (aM rows).length 0->oC (tr (jK hs)) (aM rows).length 0->HRow (jK hs) (aM rows).length p->HRow (tr (jK hs)) (aM rows).length q->Q (.v (.tup [.lst (gA p (aM rows).length),.lst (gA q (aM rows).length)]))) /\
   (¬(oC (jK hs) (aM rows).length 0/\oC (tr (jK hs)) (aM rows).length 0)->Q (.v .non)))
  \/ (∃a b SW,ds=[d3 C rows,.lst (hs.map fY++Aw a b::SW)]/\Ψ (XN,aq)))
variable {XN:af}
theorem Gu:∀ds Q Ψ,sJ C XN ds Q Ψ->ds.length=2:=by rintro ds Q Ψ ⟨_,_,_,_,⟨rfl,_⟩ | ⟨_,_,_,rfl,_⟩⟩<;>rfl
theorem EX:MonoX (sJ C XN):=⟨λds Q Q' Ψ Ψ' w w' z=>by
 obtain⟨p,q,a,b,z⟩:=z;refine⟨p,q,a,b,?_⟩;rcases z with⟨e,x,y,y',z1,z2⟩ | ⟨x,y,r,e,z⟩
 ·exact .inl ⟨e,x,y,y',λp q h1 h2 h3 h4=>w _ (z1 p q h1 h2 h3 h4),λh=>w _ (z2 h)⟩
 ·exact .inr ⟨x,y,r,e,w' _ z⟩⟩
variable {ar':List (Int×Int)}
theorem Tree.mono(h:∀p,p∈ar->p∈ar'){s:Int}(t:Tree ar s ps):Tree ar' s ps:=
 ⟨t.fst,λj k d e=>by obtain⟨i,p,h1,h2,h3,h4⟩:=t.nxt j k d e;exact⟨i,p,h1,h2,h3,h _ h4⟩⟩
theorem uP(ib:Fs ar n)(n0:0<n)(nd:(ky ps).Nodup)(km:∀k,k∈ky ps ↔ Rch ar 0 k)(t:Tree ar 0 ps):
  (ps.length<n ↔ ¬oC ar n 0)/\(¬ps.length<n -> ∃pr,HRow ar n pr /\ ∀b:Nat,b<n->(wC ps).find? (λkv=>decide (kv.1=bv (b:Int)))=aa (bv (b:Int),DE pr b)):=by
 have kb:∀k∈ky ps,0<=k/\k<n:=λk hk=>Rch.inb ib ⟨⋯,⋯⟩ ((km k).mp hk);have ll:(ky ps).length=ps.length:=bt ..;have al:¬ps.length<n->oC ar n 0:=λh k hk=>(km k).mp (zX nd kb ⋯ hk);have fw:oC ar n 0->ps.length=n:=λh=>by
  have:=z0 nd kb λk hk=>(km k).mpr (h k hk);right
 refine⟨⟨λh z=>?_,λh=>?_⟩,λh=>?_⟩
 ·have:=fw z;right
 ·exact jk λz=>h (al z)
 ·have a:=al h;exact Bn nd t ib (λk hk=>(km k).mpr (a k hk)) (by have:=fw a;right)
theorem DU(h:∀p,p∈ar ↔ p∈ar'):∀p,p∈tr ar ↔ p∈tr ar':=λp=>by
 obtain⟨a,b⟩:=p;rw[qF,qF,h]
theorem LI:∀ds Q Ψ,sJ C XN ds Q Ψ->fP Ψ C eY B7 (oP C) (gE C XN) ↥Q (aJ ["sides", "holds", "arrows", "there", "back", "bands"] ds):=by
 rintro ds Q Ψ ⟨rows,hs,hl,ok,⟨rfl,fw,hn,n0,h1,h2⟩ | ⟨a,b,SW,rfl,h⟩⟩
 ·have ib:=xU ok;ac_nf;refine⟨rows,hs,hl,ok,.inl ⟨rfl,fw,λar al am=>?_⟩⟩;ac_nf;refine⟨ar,0,rfl,⋯,λps nd km t=>?_⟩;ac_nf;refine⟨ar,rfl,⋯,?_⟩;ac_nf;refine⟨tr ar,0,rfl,by simp;right,λqs nd2 km2 t2=>?_⟩;ac_nf;refine⟨rfl,rows,rfl,hn,?_⟩;have km:∀k,k∈ky ps ↔ Rch (jK hs) 0 k:=λk=>(km k).trans (vM am);have km2:∀k,k∈ky qs ↔ Rch (tr (jK hs)) 0 k:=λk=>(km2 k).trans (vM (DU am));obtain⟨r1,r2⟩:=uP ib n0 nd km (t.mono λp hp=>(am p).mp hp);obtain⟨r3,r4⟩:=uP ib.tr n0 nd2 km2 (t2.mono λp hp=>(DU am p).mp hp);have ll:∀m:Nat,(aR 0 m).length=m:=λm=>by unfold aR;simp
  push_cast [bt,ll];refine eF (λz=>?_) λz=>eF (λz2=>?_) λz2=>?_
  ·exact h2 λy=>r1.mp ⋯ y.1
  ·exact h2 λy=>r3.mp ⋯ y.2
  ·obtain⟨p,hp,fp⟩:=r2 ⋯;obtain⟨q,hq,fq⟩:=r4 ⋯;refine KW hn fp (aM rows).length 0 ⋯ ?_;ac_nf;refine KW hn fq (aM rows).length 0 ⋯ ?_;ac_nf;exact h1 p q (jk λy=>z (by have:=r1.mpr y;right)) (jk λy=>z2 (by have:=r3.mpr y;right)) hp hq
 ·ac_nf;exact⟨rows,hs,hl,ok,.inr ⟨a,b,SW,rfl,h⟩⟩
structure FreeS(ar:List (Int×Int))(n:Nat)(ms:List Int):Prop where
 up:ms.Pairwise (· < ·)
 inb:∀x∈ms,0<=x/\x<n
 ne:ms≠[]
 few:ms.length<n
 cl:∀x∈ms,∀y,(x,y)∈ar->y∈ms
noncomputable def oO(C XN:af):n4:=λds Q Ψ=>∃(rows:List Rw) (hs:List Hd),hs.length<=100/\(∀h∈hs,Fq rows h) /\
 ((ds=[d3 C rows,.lst (hs.map fY)]/\Bj hs/\(aM rows).length<=12 /\
   (∀(b:Nat) ms,b<(aM rows).length -> ¬oC (jK hs) (aM rows).length b->FreeS (jK hs) (aM rows).length ms->Q (.v (.lst (d8 ms)))) /\
   ((∀b:Nat,b<(aM rows).length->oC (jK hs) (aM rows).length b)->Q (.v .non)))
  \/ (∃a b SW,ds=[d3 C rows,.lst (hs.map fY++Aw a b::SW)]/\Ψ (XN,aq)))
theorem Ce:∀ds Q Ψ,oO C XN ds Q Ψ->ds.length=2:=by rintro ds Q Ψ ⟨_,_,_,_,⟨rfl,_⟩ | ⟨_,_,_,rfl,_⟩⟩<;>rfl
theorem Ee:MonoX (oO C XN):=⟨λds Q Q' Ψ Ψ' w w' z=>by
 obtain⟨p,q,a,b,z⟩:=z;refine⟨p,q,a,b,?_⟩;rcases z with⟨e,x,y,z1,z2⟩ | ⟨x,y,r,e,z⟩
 ·exact .inl ⟨e,x,y,λb ms h1 h2 h3=>w _ (z1 b ms h1 h2 h3),λh=>w _ (z2 h)⟩
 ·exact .inr ⟨x,y,r,e,w' _ z⟩⟩
theorem Jp{Ψ:rN->Prop}{rows:List Rw}(al:ar.length<=63)(am:∀p,p∈ar ↔ p∈ar')(hn:(aM rows).length<=12)(ib:Fs ar' (aM rows).length){E:En}{x1:Sl}
  (h1:∀(b:Nat) ms,b<(aM rows).length -> ¬oC ar' (aM rows).length b->FreeS ar' (aM rows).length ms->E.rt (.v (.lst (d8 ms)))) (h2:(∀b:Nat,b<(aM rows).length->oC ar' (aM rows).length b) -> ∀s3 s4,E.nx [.v (d3 C rows),x1,.v (.lst (pN ar)),s3,s4]):
  ∀(i k:Nat) (s3 s4:Sl),k+i=(aM rows).length->(∀b:Nat,b<k->oC ar' (aM rows).length b) ->
  aT (gN 3) (mK Ψ C eY (j3 C) (gE C XN)) [] (aR k i) E [.v (d3 C rows),x1,.v (.lst (pN ar)),s3,s4]:=by
 intro i;induction i with
 |zero=>
  intro k s3 s4 hk ha;rw[bO,bE];exact⟨λp hp=>by simp at hp,h2 (λb hb=>ha b ⋯) _ _⟩
 |succ i ih=>
  intro k s3 s4 hk ha;rw[bH,aS,show ((k:Int)+1)=((k+1:Nat):Int) by right];refine⟨λp hp=>by simp at hp,?_⟩;have nx:=λs3 s4=>ih (k+1) s3 s4 ⋯;generalize aT (gN 3) (mK Ψ C eY (j3 C) (gE C XN)) [] (aR ((k+1:Nat):Int) i) E=G at nx ⊢;push_cast [mK];refine⟨ar,k,rfl,⋯,λps nd km _=>?_⟩;have km:∀y,y∈ky ps ↔ Rch ar' k y:=λy=>(km y).trans (vM am);have kb:∀y∈ky ps,0<=y/\y<(aM rows).length:=λy hy=>Rch.inb ib ⟨⋯,⋯⟩ ((km y).mp hy);have ll:(ky ps).length=ps.length:=bt ..;have le:ps.length<=(aM rows).length:=by
   have:=nd.length_le_of_subset (l₂:=(fh (aM rows).length).map λk:Nat=>(k:Int)) λx hx=>by
    have:=kb x hx;exact ig.mpr ⟨x.toNat,ng.mpr ⋯,⋯⟩
   simp at this;right
  ac_nf;refine⟨ky ps,by rw[mw,mw];rfl,⋯,λms pm up=>?_⟩;have lm:=pm.length_eq;push_cast [bt];refine⟨rfl,rows,rfl,?_⟩;ac_nf;refine eF (λlt=>?_) λge=>?_
  ·refine h1 k ms ⋯ (λa=>?_) ⟨?_,λx hx=>kb x (pm.mem_iff.mp hx),λe=>?_,⋯,λx hx y hy=>?_⟩
   ·have:=z0 nd kb λy hy=>(km y).mpr (a y hy);right
   ·have nm:ms.Nodup:=pm.nodup_iff.mpr nd;exact(up.and nm).imp λ{a b} z=>by have z1:=z.1;have z2:=z.2;right
   ·have:(k:Int)∈ms:=pm.mem_iff.mpr ((km k).mpr .base);rw[e] at this;cases this
   ·exact pm.mem_iff.mpr ((km y).mpr (.step ((km x).mp (pm.mem_iff.mp hx)) hy))
  ·refine nx _ _ λb hb=>?_;by_cases e:b=k
   ·subst e;exact λy hy=>(km y).mp (zX nd kb ⋯ hy)
   ·exact ha b ⋯
theorem GZ:∀ds Q Ψ,oO C XN ds Q Ψ->vG Ψ C eY (j3 C) (gE C XN) ↥Q (aJ ["sides", "holds", "arrows", "band", "some"] ds):=by
 rintro ds Q Ψ ⟨rows,hs,hl,ok,⟨rfl,fw,hn,h1,h2⟩ | ⟨a,b,SW,rfl,h⟩⟩
 ·ac_nf;refine⟨rows,hs,hl,ok,.inl ⟨rfl,fw,λar al am=>?_⟩⟩;ac_nf;refine⟨rfl,rows,rfl,?_⟩;ac_nf;refine⟨⋯,?_⟩;rw[ca];refine Jp al am hn (xU ok) h1 (λa s3 s4=>?_) (aM rows).length 0 _ _ ⋯ (λb hb=>by right);ac_nf;exact h2 a
 ·ac_nf;exact⟨rows,hs,hl,ok,.inr ⟨a,b,SW,rfl,h⟩⟩
theorem Bo(n0:0<n):(oC ar n 0/\oC (tr ar) n 0) ↔ ∀b:Nat,b<n->oC ar n b:=by
 constructor
 ·exact λh b hb k hk=>(Rch.ver (h.2 b hb)).trans (h.1 k hk)
 ·exact λh=>⟨h 0 n0,λk hk=>Rch.rev (h k hk 0 n0)⟩
end Lw
namespace Lw
open L2 Z
open Sf (Rw crs wZ Pre Good aM bK)
theorem wH{α:Type}(f:α->Dv)(hf:∀a b,eqD (f a) (f b)=ai ↔ a=b):∀l m:List α,mv (pyDs (l.map f)) (pyDs (m.map f))=ai ↔ l=m
 | [],[]=>by simp[iZ.pyDs,mv]
 | [],_::_=>by simp[iZ.pyDs,mv]
 |_::_,[]=>by simp[iZ.pyDs,mv]
 |a::l,b::m=>by
  show mv (iZ (f a)::pyDs (l.map f)) (iZ (f b)::pyDs (m.map f))=ai ↔ _;have h:=hf a b;unfold eqD at h;rw[mv,cf,wH f hf l m,h,Qz]
theorem Lr(f:α->Dv)(hf:∀a b,eqD (f a) (f b)=ai ↔ a=b)(l m:List α):eqD (.lst (l.map f)) (.lst (m.map f))=ai ↔ l=m:=by
 unfold eqD;show kz (.list (pyDs _)) (.list (pyDs _))=ai ↔ _;rw[kz];exact wH f hf l m
theorem FN(f:α->Dv)(hf:∀a b,eqD (f a) (f b)=ai ↔ a=b)(l m:List α):eqD (.tup (l.map f)) (.tup (m.map f))=ai ↔ l=m:=by
 unfold eqD;show kz (.tuple (pyDs _)) (.tuple (pyDs _))=ai ↔ _;rw[kz];exact wH f hf l m
theorem Ls(a b:Int):eqD (.int a) (.int b)=ai ↔ a=b:=by rw[Z.rX,decide_eq_true_eq]
theorem HS(l m:List Int):eqD (.tup (d8 l)) (.tup (d8 m))=decide (l=m):=by
 rw[vg,decide_eq_true_eq];exact FN _ Ls l m
variable {w:Nat}
theorem HR:eqD (.str (wd w)) (.str "less")=decide (w≠0/\w≠1):=by
 unfold wd;by_cases h:w=0
 ·rw[SS h,decide_eq_false (λz=>z.1 h)];decide +kernel
 ·rw[Sm h];by_cases h1:w=1
  ·rw[SS h1,decide_eq_false (λz=>z.2 h1)];decide +kernel
  ·rw[Sm h1,decide_eq_true ⟨h,h1⟩];decide +kernel
theorem FL:eqD (.str (wd w)) (.str "more")=decide (w=1):=by
 by_cases h:w=0
 ·subst h;decide +kernel
 ·exact Ba h
theorem Lp(a b x y:Int):eqD (.tup [.int a,.int b]) (.tup [.int x,.int y])=decide (a=x/\b=y):=by
 rw[show (Dv.tup [.int a,.int b])=.tup (d8 [a,b]) from rfl,show (Dv.tup [.int x,.int y])=.tup (d8 [x,y]) from rfl,HS];exact decide_eq_decide.mpr ⟨λe=>by cases e;exact⟨rfl,rfl⟩,λe=>by rw[e.1,e.2]⟩
noncomputable def fT:Fn:=λds Q=>∃(hs:List Hd) (x y:Int),ds=[.lst (hs.map fY),.int x,.int y]/\Q (.v (.bl (decide ((x,y)∈jK hs))))
theorem Gz:∀ds Q,fT ds Q->ds.length=3:=by rintro ds Q ⟨_,_,_,rfl,_⟩;rfl
theorem Eb:MonoF fT:=⟨λds Q Q' w z=>by obtain⟨p,q,r,e,h⟩:=z;exact⟨p,q,r,e,w _ h⟩⟩
variable {y:Int}
theorem xV{h:Hd}{x:Int}:(x,y)∈cH h ↔ ((h.a:Int)=x/\(h.b:Int)=y /\ ¬(h.w≠0/\h.w≠1)) \/ ((h.b:Int)=x/\(h.a:Int)=y/\h.w≠1):=by
 unfold cH;split
 ·simp only[cr,gx,or_false,jy];right
 ·split
  ·simp only[cr,gx,or_false,jy];right
  ·simp only[cr,gx,or_false,jy];right
variable {x0:Sl}{E:En}
theorem Lf{x:Int}:∀(hs:List Hd) (s3 s4 s5:Sl),((x,y)∈jK hs->E.rt (.v (.bl ai)))->((x,y) ∉ jK hs -> ∀s3 s4 s5,E.nx [x0,.v (.int x),.v (.int y),s3,s4,s5]) ->
  aT (gT [3,4,5]) gR [] (hs.map fY) E [x0,.v (.int x),.v (.int y),s3,s4,s5]:=by
 intro hs;induction hs with
 |nil=>
  intro s3 s4 s5 _ h;rw[wo,bE];exact⟨λp hp=>by simp at hp,h (λz=>by cases z) _ _ _⟩
 |cons hd hs ih=>
  intro s3 s4 s5 h1 h2;have ea:(x,y)∈jK (hd::hs) ↔ (x,y)∈cH hd \/ (x,y)∈jK hs:=by unfold jK;rw[vc,fu]
  rw[ea] at h1 h2;rw[cn,aS];refine⟨λp hp=>by simp at hp,?_⟩;have nx:=λ(no:(x,y) ∉ cH hd) s3 s4 s5=>ih s3 s4 s5 (λz=>h1 (.inr z)) (λz=>h2 λq=>q.elim no z);have yes:(x,y)∈cH hd->E.rt (.v (.bl ai)):=λz=>h1 (.inl z);generalize aT (gT [3,4,5]) gR [] (hs.map fY) E=G at nx ⊢;rw[xV] at nx yes;push_cast [gR,Lp,HR,FL];have ok2:∀a b:Int,d7 8 (.tup [.int a,.int b])=ai:=λ_ _=>rfl;have kw:=DL hd.w;have kl:d7 8 (.str "less")=ai:=by decide +kernel
  have km:d7 8 (.str "more")=ai:=by decide +kernel
  refine⟨⟨ok2 ..,ok2 ..⟩,eF (λe1=>⟨⟨kw,kl⟩,eF (λe2=>yes (.inl ⟨e1.1,e1.2,λz=>by rw[decide_eq_true z] at e2;cases e2⟩)) λe2=>?_⟩) λe1=>?_⟩
  ·refine⟨⟨ok2 ..,ok2 ..⟩,eF (λe3=>⟨⟨kw,km⟩,eF (λe4=>yes (.inr ⟨e3.1,e3.2,by simpa using e4⟩)) λe4=>nx (λz=>?_) _ _ _⟩) λe3=>nx (λz=>?_) _ _ _⟩
   ·simp at e2 e4;right
   ·simp at e2;right
  ·refine⟨⟨ok2 ..,ok2 ..⟩,eF (λe3=>⟨⟨kw,km⟩,eF (λe4=>yes (.inr ⟨e3.1,e3.2,by simpa using e4⟩)) λe4=>nx (λz=>?_) _ _ _⟩) λe3=>nx (λz=>?_) _ _ _⟩
   ·simp at e4;right
   ·right
theorem y6:∀ds Q,fT ds Q->l9 ↥Q (aJ ["_law_holds_here", "_law_x", "_law_y", "_law_a", "_law_b", "_law_word"] ds):=by
 rintro ds Q ⟨hs,x,y,rfl,h⟩;ac_nf;refine Lf hs _ _ _ (λm=>by rw[decide_eq_true m] at h;exact h) λm s3 s4 s5=>?_;rw[decide_eq_false m] at h;ac_nf;exact h
variable {pr:Nat->Nat}
theorem tS{b:Nat}(h:b<n):kW (gA pr n) (b:Int)=aa (DE pr b):=by
 unfold gA;rw[g9 ⋯ (by simp;right),ca,bw,List.getElem?_range h];rfl
theorem oS(pr:Nat->Nat)(n:Nat):(gA pr n).length=n:=by unfold gA;simp
theorem PM(hp:∀b,1<=b->b<n->pr b<n){x1:Sl}:∀(i k b:Nat) (s:Sl),b<n->(∀s,E.nx [.v (.lst (gA pr n)),x1,.v (.int (itr pr i b:Nat)),s]) ->
  aT (gN 3) cW [] (aR k i) E [.v (.lst (gA pr n)),x1,.v (.int b),s]:=by
 intro i;induction i with
 |zero=>
  intro k b s _ h;rw[bO,bE];exact⟨λp hp=>by simp at hp,h _⟩
 |succ i ih=>
  intro k b s hb h;rw[bH,aS,show ((k:Int)+1)=((k+1:Nat):Int) by right];refine⟨λp hp=>by simp at hp,?_⟩;have nx:=λb s hb h=>ih (k+1) b s hb h;generalize aT (gN 3) cW [] (aR ((k+1:Nat):Int) i) E=G at nx ⊢;have a:=tS (pr:=pr) hb;have h:∀s,E.nx [.v (.lst (gA pr n)),x1,.v (.int (itr pr i (if b=0 then 0 else pr b):Nat)),s]:=h;push_cast [cW];refine eF (λz=>?_) λz=>?_
  ·have e:b≠0:=λq=>by subst q;simp at z
   rw[Sm e] at h;rw[a,DE,Sm e];ac_nf;exact nx _ _ (hp b ⋯ hb) h
  ·have e:b=0:=by simpa using z
   subst e;rw[SS rfl] at h;exact nx 0 _ hb h
theorem PL(hn:n<=12)(hp:∀b,1<=b->b<n->pr b<n)(hh:∀b,b<n->itr pr n b=0)(h:∀x1 x2 x3,E.nx [.v (.lst (gA pr n)),x1,x2,x3]):∀(i k:Nat) (x1 x2 x3:Sl),k+i=n ->
  aT (gN 1) dL [] (aR k i) E [.v (.lst (gA pr n)),x1,x2,x3]:=by
 intro i;induction i with
 |zero=>
  intro k x1 x2 x3 _;rw[bO,bE];exact⟨λp hp=>by simp at hp,h _ _ _⟩
 |succ i ih=>
  intro k x1 x2 x3 hk;rw[bH,aS,show ((k:Int)+1)=((k+1:Nat):Int) by right];refine⟨λp hp=>by simp at hp,?_⟩;have nx:=λx1 x2 x3=>ih (k+1) x1 x2 x3 ⋯;generalize aT (gN 1) dL [] (aR ((k+1:Nat):Int) i) E=G at nx ⊢;have W:=λ(E:En) (s:Sl)=>PM hp (E:=E) (x1:=.v (.int (k:Nat))) n 0 k s ⋯;unfold dL;generalize cW=B at W ⊢;push_cast [oS];refine⟨⋯,?_⟩;rw[ca];refine W _ _ λs=>?_;rw[hh k ⋯];ac_nf;exact nx _ _ _
noncomputable def lZ:Fn:=λds Q=>∃(pr:Nat->Nat) (n:Nat),ds=[.lst (gA pr n)]/\n<=12/\(∀b,1<=b->b<n->pr b<n)/\(∀b,b<n->itr pr n b=0)/\Q (.v (.bl ai))
theorem Es:∀ds Q,lZ ds Q->ds.length=1:=by rintro ds Q ⟨_,_,rfl,_⟩;rfl
theorem Gp:MonoF lZ:=⟨λds Q Q' w z=>by obtain⟨p,q,e,a,b,c,h⟩:=z;exact⟨p,q,e,a,b,c,w _ h⟩⟩
theorem qB:∀ds Q,lZ ds Q->gD ↥Q (aJ ["_law_row", "_law_band", "_law_at", "_law_k"] ds):=by
 rintro ds Q ⟨pr,n,rfl,hn,hp,hh,h⟩;push_cast [oS];refine⟨⋯,?_⟩;rw[ca];refine PL hn hp hh (λx1 x2 x3=>?_) n 0 _ _ _ ⋯;ac_nf;exact h
noncomputable def cF:Fn:=λds Q=>∃n:Int,ds=[.int n]/\Q (.v (.bl ai))
theorem Ae:∀ds Q,cF ds Q->ds.length=1:=by rintro ds Q ⟨_,rfl,_⟩;rfl
theorem uY:MonoF cF:=⟨λds Q Q' w z=>by obtain⟨p,e,h⟩:=z;exact⟨p,e,w _ h⟩⟩
theorem y3:∀ds Q,cF ds Q->l8 ↥Q (aJ ["_law_found"] ds):=by
 rintro ds Q ⟨n,rfl,h⟩;ac_nf;exact⟨rfl,rfl,h⟩
theorem OO(h:∀s,E.nx [x0,.v (.int n),s]):∀(l:List Nat) (s:Sl),(∀x∈l,x<n) ->
  aT (gN 2) (i9 cF) [] (l.map λx:Nat=>Dv.int (x:Int)) E [x0,.v (.int n),s]:=by
 intro l;induction l with
 |nil=>
  intro s _;rw[wo,bE];exact⟨λp hp=>by simp at hp,h _⟩
 |cons x l ih=>
  intro s hl;rw[cn,aS];refine⟨λp hp=>by simp at hp,?_⟩;have nx:=λs=>ih s λy hy=>hl y (cp _ hy);have lx:=hl x (de ..);generalize aT (gN 2) (i9 cF) [] (l.map λx:Nat=>Dv.int (x:Int)) E=G at nx ⊢;push_cast [i9];refine⟨_,rfl,?_⟩;ac_nf;refine eF (λz=>absurd z ⋯) λ_=>eF (λz=>absurd z ⋯) λ_=>nx _
noncomputable def lY:Fn:=λds Q=>∃(pr:Nat->Nat) (n:Nat),ds=[.lst (gA pr n),.int n]/\0<n/\n<=12/\(∀b,1<=b->b<n->pr b<n)/\Q (.v (.bl ai))
theorem Eo:∀ds Q,lY ds Q->ds.length=2:=by rintro ds Q ⟨_,_,rfl,_⟩;rfl
theorem Gm:MonoF lY:=⟨λds Q Q' w z=>by obtain⟨p,q,e,a,b,c,h⟩:=z;exact⟨p,q,e,a,b,c,w _ h⟩⟩
theorem Dg(pr:Nat->Nat)(n:Nat):(gA pr n).drop 1=((Su 1 (n-1)).map pr).map λx:Nat=>Dv.int (x:Int):=by
 unfold gA;cases n with
 |zero=>rfl
 |succ n=>
  rw[List.range_eq_range',zp,cn,List.drop_one,List.tail_cons,mw];refine se λb hb=>?_;have:=yx.mp hb;show DE pr b=_;rw[DE,Sm ⋯];rfl
theorem AM:∀ds Q,lY ds Q->nA cF ↥Q (aJ ["_law_row", "_law_many", "_law_band"] ds):=by
 rintro ds Q ⟨pr,n,rfl,n0,hn,hp,h⟩;have a0:=tS (pr:=pr) (n:=n) (b:=0) n0;have a0:kW (gA pr n) 0=aa .non:=a0;push_cast [oS,a0];refine⟨rfl,eF (λz=>(show False from by have z:(ao=ai):=z;cases z).elim) λ_=>?_⟩;rw[tP ⋯,show RK 1=1 from rfl,Dg];refine OO (λs=>?_) _ _ λx hx=>?_
 ·ac_nf;exact h
 ·obtain⟨b,hb,rfl⟩:=ig.mp hx;have:=yx.mp hb;exact hp b ⋯ ⋯
end Lw
namespace Lw
open L2 Z
open Sf (Rw crs wZ Pre Good aM bK)
structure HRw(hs:List Hd)(n:Nat)(p q:Nat->Nat):Prop where
 n0:0<n
 hn:n<=12
 p:HRow (jK hs) n p
 q:HRow (tr (jK hs)) n q
noncomputable abbrev IR(p q:Nat->Nat)(n:Nat):Dv:=.tup [.lst (gA p n),.lst (gA q n)]
noncomputable def oK:Fn:=λds Q=>∃(hs:List Hd) (n:Nat) (p q:Nat->Nat),ds=[IR p q n,.lst (hs.map fY),.int n]/\HRw hs n p q/\Q (.v (.bl ai))
theorem Cc:∀ds Q,oK ds Q->ds.length=3:=by rintro ds Q ⟨_,_,_,_,rfl,_⟩;rfl
theorem Ea:MonoF oK:=⟨λds Q Q' w z=>by obtain⟨p,q,r,s,e,a,h⟩:=z;exact⟨p,q,r,s,e,a,w _ h⟩⟩
variable {E:En}
theorem NC{p q:Nat->Nat}(H:HRw hs n p q)(h:∀s,E.nx [.v (IR p q n),.v (.lst (hs.map fY)),.v (.int n),s]):∀(i k:Nat) (s:Sl),1<=k->k+i<=n ->
  aT (gN 3) (i8 lY fT lZ) [] (aR k i) E [.v (IR p q n),.v (.lst (hs.map fY)),.v (.int n),s]:=by
 intro i;induction i with
 |zero=>
  intro k s _ _;rw[bO,bE];exact⟨λp hp=>by simp at hp,h _⟩
 |succ i ih=>
  intro k s k1 hk;rw[bH,aS,show ((k:Int)+1)=((k+1:Nat):Int) by right];refine⟨λp hp=>by simp at hp,?_⟩;have nx:=λs=>ih (k+1) s ⋯ ⋯;generalize aT (gN 3) (i8 lY fT lZ) [] (aR ((k+1:Nat):Int) i) E=G at nx ⊢;have a1:=tS (pr:=p) (show k<n by right);have a2:=tS (pr:=q) (show k<n by right);rw[DE,Sm ⋯] at a1 a2;have m1:=(H.p.arr k k1 ⋯).2;have m2:=qF.mp (H.q.arr k k1 ⋯).2;push_cast [i8,a1,a2];refine⟨hs,_,_,rfl,?_⟩;rw[decide_eq_true m1];ac_nf;refine⟨hs,_,_,rfl,?_⟩;rw[decide_eq_true m2];ac_nf;exact nx _
theorem AJ:∀ds Q,oK ds Q->n6 lY fT lZ ↥Q (aJ ["_law_told_here", "_law_holds_here", "_law_many", "_law_band"] ds):=by
 rintro ds Q ⟨hs,n,p,q,rfl,H,h⟩;have n0:=H.n0;have hn:=H.hn;have pb:∀b,1<=b->b<n->p b<n:=λb h1 h2=>(H.p.arr b h1 h2).1;have qb:∀b,1<=b->b<n->q b<n:=λb h1 h2=>(H.q.arr b h1 h2).1;ac_nf;refine⟨rfl,⟨p,n,rfl,n0,hn,pb,?_⟩⟩;ac_nf;refine⟨q,n,rfl,n0,hn,qb,?_⟩;ac_nf;refine⟨⋯,?_⟩;refine NC H (λs=>?_) _ 1 _ ⋯ ⋯;ac_nf;refine⟨p,n,rfl,hn,pb,H.p.home,?_⟩;ac_nf;refine⟨q,n,rfl,hn,qb,H.q.home,?_⟩;ac_nf;exact h
theorem IE(n:Nat):∀l:List Int,okDs n (d8 l)=ai
 | []=>rfl
 |x::l=>by
  show (d7 n (.int x)&&okDs n (d8 l))=ai;rw[IE n l];rfl
theorem IF(i:Int):∀l:List Int,inD (.int i) (d8 l)=decide (i∈l)
 | []=>rfl
 |x::l=>by
  show (eqD (.int x) (.int i) || inD (.int i) (d8 l))=_;rw[IF i l,Z.rX,<- Bool.decide_or];exact decide_eq_decide.mpr ⟨λz=>by rcases z with rfl | z;exact de ..;exact cp _ z,λz=>by rcases cr.mp z with rfl | z;exact .inl rfl;exact .inr z⟩
variable {ms:List Int}
theorem Ot(F:FreeS (jK hs) n ms){x1 x4 x5:Sl}(h:∀s,E.nx [.v (.lst (d8 ms)),x1,.v (.int n),s,x4,x5]):∀(i k:Nat) (s:Sl),k+i=ms.length ->
  aT (gN 3) (eM cF fT) [] (aR k i) E [.v (.lst (d8 ms)),x1,.v (.int n),s,x4,x5]:=by
 intro i;induction i with
 |zero=>
  intro k s _;rw[bO,bE];exact⟨λp hp=>by simp at hp,h _⟩
 |succ i ih=>
  intro k s hk;rw[bH,aS,show ((k:Int)+1)=((k+1:Nat):Int) by right];refine⟨λp hp=>by simp at hp,?_⟩;have nx:=λs=>ih (k+1) s ⋯;generalize aT (gN 3) (eM cF fT) [] (aR ((k+1:Nat):Int) i) E=G at nx ⊢;have a:=eS (r:=ms) (show k<ms.length by right);have mem:ms.getD k 0∈ms:=by
   rw[gc,dm (show k<ms.length by right)];exact jc _
  have b:=F.inb _ mem;push_cast [eM,a];refine⟨_,rfl,?_⟩;ac_nf;refine eF (λz=>absurd z ⋯) λ_=>eF (λz=>absurd z ⋯) λ_=>eF (λz=>?_) λz=>nx _;have a2:=eS (r:=ms) (show k-1<ms.length by right);rw[show ((k-1:Nat):Int)=(k:Int)-1 by right] at a2;rw[a2];ac_nf;refine eF (λy=>?_) λy=>nx _;have:=gp.mp F.up (k-1) k ⋯ ⋯ ⋯;rw[gc,dm (show k<ms.length by right),gc,dm (show k-1<ms.length by right)] at y;simp only[Option.getD_some] at y;right
variable {x3:Sl}
theorem Os(F:FreeS (jK hs) n ms){x:Int}(hx:x∈ms)(h:∀s,E.nx [.v (.lst (d8 ms)),.v (.lst (hs.map fY)),.v (.int n),x3,.v (.int x),s]):∀(i k:Nat) (s:Sl),
  aT (gN 5) (dF cF fT) [] (aR k i) E [.v (.lst (d8 ms)),.v (.lst (hs.map fY)),.v (.int n),x3,.v (.int x),s]:=by
 intro i;induction i with
 |zero=>
  intro k s;rw[bO,bE];exact⟨λp hp=>by simp at hp,h _⟩
 |succ i ih=>
  intro k s;rw[bH,aS,show ((k:Int)+1)=((k+1:Nat):Int) by right];refine⟨λp hp=>by simp at hp,?_⟩;have nx:=λs=>ih (k+1) s;generalize aT (gN 5) (dF cF fT) [] (aR ((k+1:Nat):Int) i) E=G at nx ⊢;push_cast [dF,t4,IF];refine⟨⟨rfl,IE 8 _⟩,eF (λz=>⟨hs,_,_,rfl,?_⟩) λ_=>nx _⟩;have nk:(k:Int) ∉ ms:=λq=>by rw[decide_eq_true q] at z;cases z
  rw[decide_eq_false (λm=>nk (F.cl x hx _ m))];ac_nf;exact nx _
theorem Oq(hn:n<=12)(F:FreeS (jK hs) n ms)(h:∀s t,E.nx [.v (.lst (d8 ms)),.v (.lst (hs.map fY)),.v (.int n),x3,s,t]):∀(l:List Int) (s t:Sl),(∀x∈l,x∈ms) ->
  aT (gN 4) (eL cF fT) [] (d8 l) E [.v (.lst (d8 ms)),.v (.lst (hs.map fY)),.v (.int n),x3,s,t]:=by
 intro l;induction l with
 |nil=>
  intro s t _;rw[show d8 []=[] from rfl,bE];exact⟨λp hp=>by simp at hp,h _ _⟩
 |cons x l ih=>
  intro s t hl;rw[show d8 (x::l)=.int x::d8 l from rfl,aS];refine⟨λp hp=>by simp at hp,?_⟩;have nx:=λs t=>ih s t λy hy=>hl y (cp _ hy);have W:=λ(E:En) (s:Sl)=>Os F (hl x (de ..)) (E:=E) (x3:=x3) (s:=s);generalize aT (gN 4) (eL cF fT) [] (d8 l) E=G at nx ⊢;unfold eL;generalize dF cF fT=B at W ⊢;ac_nf;refine⟨⋯,?_⟩;exact W _ _ (λs=>nx _ _) _ 0
noncomputable def oM:Fn:=λds Q=>∃(hs:List Hd) (n:Nat) (ms:List Int),ds=[.lst (d8 ms),.lst (hs.map fY),.int n]/\n<=12/\FreeS (jK hs) n ms/\Q (.v (.bl ai))
theorem Cd:∀ds Q,oM ds Q->ds.length=3:=by rintro ds Q ⟨_,_,_,rfl,_⟩;rfl
theorem Ec:MonoF oM:=⟨λds Q Q' w z=>by obtain⟨p,q,r,e,a,b,h⟩:=z;exact⟨p,q,r,e,a,b,w _ h⟩⟩
theorem sZ:∀ds Q,oM ds Q->iH cF fT ↥Q (aJ ["_law_some", "_law_holds_here", "_law_many", "_law_k", "_law_x", "_law_y"] ds):=by
 rintro ds Q ⟨hs,n,ms,rfl,hn,F,h⟩;have few:=F.few;have ne:0<ms.length:=wy.mpr F.ne;push_cast [bt];refine⟨rfl,eF (λz=>(show False from by have z:(ao=ai):=z;cases z).elim) λ_=>eF (λz=>absurd z ⋯) λ_=>eF (λz=>absurd z ⋯) λ_=>⟨⋯,?_⟩⟩;rw[ca];refine Ot F (λs=>?_) ms.length 0 _ ⋯;ac_nf;refine Oq hn F (λs t=>?_) ms _ _ λx hx=>hx;ac_nf;exact h
end Lw
namespace Lw
open L2 Z
open Sf (Rw crs wZ Pre Good aM bK)
theorem vW(n:Nat):∀l:List Dv,(∀d∈l,d7 n d=ai)->okDs n l=ai
 | [],_=>rfl
 |d::r,h=>by
  show (d7 n d&&okDs n r)=ai;rw[h d (by simp),vW n r λx hx=>h x (by simp[hx])];rfl
theorem IP(w:Nat):d7 6 (.str (wd w))=ai:=by
 unfold wd;split
 ·decide +kernel
 ·split<;>decide +kernel
theorem yG(hs:List Hd):d7 8 (.lst (hs.map fY))=ai:=vW 7 _ λd hd=>by
 obtain⟨h,_,rfl⟩:=ig.mp hd;refine vW 6 _ λd hd=>?_;simp only[cr,gx,or_false] at hd;rcases hd with rfl | rfl | rfl
 ·rfl
 ·rfl
 ·exact IP _
theorem Lq(hs:List Hd):eqD (.lst (hs.map fY)) (.lst (hs.map fY))=ai:=Sw _ (mF 8 _ (yG hs)).1
theorem F7{A B:Prop}{i:Decidable ((!eqD (.lst (hs.map fY)) (.lst (hs.map fY)))=ai)}(h:B):@ite Prop ((!eqD (.lst (hs.map fY)) (.lst (hs.map fY)))=ai) i A B:=by
 rw[Sm (by rw[Lq];decide)];exact h
structure Dr(rows:List Rw)(hs:List Hd):Prop where
 n0:0<(aM rows).length
 hn:(aM rows).length<=12
 l1:hs.length<=59
 fw:Bj hs
 ok:∀x∈hs,Fq rows x
noncomputable abbrev Km(C XN:af):Fn:=λds Q=>sJ C XN ds Q λ_=>False
noncomputable abbrev G5(C XN:af):Fn:=λds Q=>oO C XN ds Q λ_=>False
noncomputable def lW(C:af):Fn:=λds Q=>∃(rows:List Rw) (hs:List Hd),ds=[d3 C rows,.lst (hs.map fY),.int ((aM rows).length:Nat)]/\Dr rows hs /\ ∀(d:Dv) (l:List Dv),begD d=ai->l.length<=11->Q (.v (.lst (d::l)))
theorem Ej:∀ds Q,lW C ds Q->ds.length=3:=by rintro ds Q ⟨_,_,rfl,_⟩;rfl
theorem Gi:MonoF (lW C):=⟨λds Q Q' w z=>by obtain⟨p,q,e,a,h⟩:=z;exact⟨p,q,e,a,λd l h1 h2=>w _ (h d l h1 h2)⟩⟩
variable {XN:af}
theorem AK:∀ds Q,lW C ds Q->n8 (Km C XN) (G5 C XN) oM oK ↥Q (aJ ["_law_sides", "_law_holds_here", "_law_many", "_law_handed", "_law_ways_here", "_law_some"] ds):=by
 rintro ds Q ⟨rows,hs,rfl,D,h⟩;have l1:=D.l1;have st:=Bo (ar:=jK hs) D.n0;ac_nf;refine⟨rows,hs,⋯,D.ok,.inl ⟨rfl,D.fw,D.hn,D.n0,λp q a1 a2 hp hq=>?_,λno=>?_⟩⟩
 ·ac_nf;refine⟨rows,hs,⋯,D.ok,.inl ⟨rfl,D.fw,D.hn,λb ms hb nb _=>absurd (st.mp ⟨a1,a2⟩ b hb) nb,λ_=>?_⟩⟩;ac_nf;refine⟨⟨yG hs,yG hs⟩,F7 ?_⟩;refine⟨⟨rfl,rfl⟩,eF (λz=>by cases z) λ_=>⟨hs,_,p,q,rfl,⟨D.n0,D.hn,hp,hq⟩,?_⟩⟩;have e:gA p (aM rows).length=.non::(gA p (aM rows).length).drop 1:=by
   have a:=tS (pr:=p) (n:=(aM rows).length) (b:=0) D.n0;have hl:=oS p (aM rows).length;have n0:=D.n0;generalize gA p (aM rows).length=l at a hl;cases l with
   |nil=>simp at hl;right
   |cons d l=>
    have a:kW (d::l) 0=aa .non:=a;rw[MA] at a;cases a;rfl
  have hl:=oS p (aM rows).length;have hn:=D.hn;ac_nf;rw[e];exact h _ _ rfl (by rw[wc];right)
 ·ac_nf;refine⟨rows,hs,⋯,D.ok,.inl ⟨rfl,D.fw,D.hn,λb ms hb nb F=>?_,λal=>absurd (st.mpr al) no⟩⟩;ac_nf;refine⟨⟨yG hs,yG hs⟩,F7 ?_⟩;refine⟨⟨rfl,rfl⟩,eF (λz=>by cases z) λ_=>⟨hs,_,ms,rfl,D.hn,F,?_⟩⟩;have few:=F.few;have ne:=F.ne;have hn:=D.hn;ac_nf;cases ms with
  |nil=>exact absurd rfl ne
  |cons x ms=>
   rw[cw] at few;exact h _ _ rfl (by rw[bt];right)
noncomputable def sK(C:af):Fn:=λds Q=>∃(rows:List Rw) (hs:List Hd) (a b:Nat) (SW:List Dv),ds=[d3 C rows,.lst (hs.map fY++Aw a b::SW)]/\hs.length<=100/\(∀h∈hs,Fq rows h)/\Q (.v (.bl ai))
theorem Gw:∀ds Q,sK C ds Q->ds.length=2:=by rintro ds Q ⟨_,_,_,_,_,rfl,_⟩;rfl
theorem JW:MonoF (sK C):=⟨λds Q Q' w z=>by obtain⟨p,q,a,b,r,e,c,d,h⟩:=z;exact⟨p,q,a,b,r,e,c,d,w _ h⟩⟩
theorem u0:∀ds Q,sK C ds Q->jB XN (sJ C XN) (mB C XN) ↥Q (aJ ["_law_sides", "_law_holds_here"] ds):=by
 rintro ds Q ⟨rows,hs,a,b,SW,rfl,hl,ok,h⟩;ac_nf;refine⟨rows,hs,hl,ok,.inr ⟨a,b,SW,rfl,rfl,?_⟩⟩;exact⟨rows,hs,a,b,SW,rfl,hl,ok,rfl,h⟩
theorem pF:∀l:List Dv,(∀d∈l,hW d=ai)->flatDs l=ai
 | [],_=>rfl
 |d::r,h=>by
  show (hW d&&flatDs r)=ai;rw[h d (de ..),pF r λx hx=>h x (cp _ hx)];rfl
theorem K0(hs:List Hd):Ax (.lst (hs.map fY))=ai:=by
 have f:flatDs (hs.map fY)=ai:=pF _ λd hd=>by
  obtain⟨h,_,rfl⟩:=ig.mp hd;rfl
 cases hs with
 |nil=>rfl
 |cons h hs=>exact f
theorem Jy(C:af)(rows:List Rw):Ax (d3 C rows)=ai:=by
 show (flatDs (d8 (aM rows))&&(flatDs (vF rows)&&ai))=ai;rw[pF (d8 (aM rows)) λd hd=>by
  obtain⟨h,_,rfl⟩:=ig.mp hd;rfl]
 rw[pF (vF rows) λd hd=>by
  obtain⟨h,_,rfl⟩:=ig.mp hd;rfl]
 rfl
theorem Jz(i:Int):Ax (.int i)=ai:=rfl
noncomputable def spLaw:Fn:=λds Q=>∃ns:List Int,ds=[.scr ns]/\ns.length<=63/\Q (.v (.bl ai))
theorem H9:∀ds Q,spLaw ds Q->ds.length=1:=by rintro ds Q ⟨d,rfl,_⟩;rfl
noncomputable abbrev six(C:af)(rows:List Rw)(hs:List Hd)(ns:List Int)(x1 x5 x6:Sl):List Sl:=[.v (.scr ns),x1,.v (.lst (d8 (aM rows))),.v (d3 C rows),.v (.lst (hs.map fY)),x5,x6]
variable {tl:bV}{E:En}{x5 x6:Sl}
theorem OS(h:∀rows hs x1,Dr rows hs->tl E (six C rows hs ns x1 x5 x6)):
  (aN (cC 1 (aU iI (a9 (aU eQ (a9 (a8 0) (a9 (eC (.int 0)) aF))) aF))) (aN (cC 2 (aU jN (a9 (a8 1) aF))) (aN (cC 3 (z8 (lF C) (a9 (aU oQ (a9 (a8 1) (a9 (aU eQ (a9 (a8 0) (a9 (eC (.int 1)) aF))) aF))) aF))) (aN (cC 4 (FR (aU lG (a9 (a8 0) (a9 (a8 2) aF))) fZ (lN (eC (.int 59))))) tl)))) E [.v (.scr ns),.un,.un,.un,.un,x5,x6]:=by
 ac_nf;refine⟨ns,0,rfl,λc0=>?_⟩;ac_nf;refine⟨c0,rfl,λcs C=>?_⟩;have tot:=C.tot;have bl:=gO 0 cs;obtain⟨b0,wb⟩:=t8 C;have n0:=wb.2.1;ac_nf;refine⟨cs,rfl,C,?_⟩;ac_nf;refine⟨ns,1,rfl,λc1=>?_⟩;ac_nf;refine⟨cs,c1,rfl,C,λrows g ek=>?_⟩;ac_nf;refine⟨rows,rfl,g,?_⟩;ac_nf;refine⟨ns,cs,rfl,C,λhs0 l0 f0 w0=>?_⟩;ac_nf;rw[FZ ⋯,<- Sq,<- ek];rw[<- ek] at n0 bl w0;exact h rows _ _ ⟨⋯,⋯,by rw[jq,show RK 59=59 from rfl];right,f0.sub λx hx=>qg hx,λx hx=>Wl.ok (w0 x (qg hx))⟩
variable {x1:Sl}{rows:List Rw}
theorem OR(D:Dr rows hs)(h:tl E (six C rows hs ns x1 .un x6)):
  (oR 5 (lW C) (a9 (a8 3) (a9 (a8 4) (a9 (gC dA (a9 (a8 2) aF)) aF))) (b6 (aL rF (a8 5) (eC .non))) (bR (eC (.bl ao))) (FS (eC (.int 1))) (eC (.int 3)) tl) E (six C rows hs ns x1 x5 x6):=by
 push_cast [K0,Jy,Jz,bt];refine⟨rows,hs,rfl,D,λd l hb hl=>?_⟩;ac_nf;exact⟨hb,⋯,h⟩
theorem OQ(D:Dr rows hs)(h:tl E (six C rows hs ns x1 .un x6)):
  (aN (iB (b6 (aL rF (aU (lW C) (a9 (a8 3) (a9 (a8 4) (a9 (gC dA (a9 (a8 2) aF)) aF)))) (eC .non))) (bR (eC (.bl ao))) bN) tl) E (six C rows hs ns x1 .un x6):=by
 push_cast [bt];refine⟨rows,hs,rfl,D,λd l hb hl=>?_⟩;ac_nf;exact h
theorem OP(D:Dr rows hs)(h:E.rt (.v (.bl ai))):
  (aN (cC 6 (aL f6 (aU eQ (a9 (a8 0) (a9 (eC (.int 4)) aF))) (aL d4 (gC dA (a9 (a8 4) aF)) (eC (.int 1))))) (bR (aU (sK C) (a9 (a8 3) (a9 (aL d4 (aL d4 (FR (a8 4) fZ (lN (a8 6))) (jU (a9 (i5 (a9 (eC (.int 0)) (a9 (aL nK (gC dA (a9 (a8 2) aF)) (eC (.int 1))) (a9 (eC (.str "held")) aF)))) aF))) (FR (a8 4) (lN (a8 6)) fZ)) aF))))) E (six C rows hs ns x1 x5 x6):=by
 have l1:=D.l1;have n0:=D.n0;ac_nf;refine⟨ns,4,rfl,λc4=>?_⟩;push_cast [bt];obtain⟨k,ek4,hk⟩:∃k:Nat,c4 % ((hs.length:Int)+1)=k/\k<=hs.length:=⟨(c4 % ((hs.length:Int)+1)).toNat,by rw[jn (ix _ ⋯)],by have:=gv c4 (show (0:Int)<(hs.length:Int)+1 by right);right⟩;rw[ek4,FZ ⋯,tP ⋯,ca,<- Sq,<- RB];have e3:(hs.take k).map fY++[Dv.tup [Dv.int 0,Dv.int (((aM rows).length:Int)-1),Dv.str (ee "held")]]++(hs.drop k).map fY=(hs.take k).map fY++Aw 0 ((aM rows).length-1)::(hs.drop k).map fY:=by
  rw[om,List.singleton_append,show ((aM rows).length:Int)-1=(((aM rows).length-1:Nat):Int) by right];rfl
 rw[e3];refine⟨⋯,by simp;right,by simp;right,rows,hs.take k,0,_,_,rfl,by simp;right,λx hx=>D.ok x (qg hx),?_⟩;ac_nf;exact h
theorem LJ:∀ds Q,spLaw ds Q->DW eQ iI jN oQ lG (lW C) (sK C) (lF C) ↥Q (aJ ["_law_script", "_law_counts_here", "_law_kinds_here", "_law_sides", "_law_holds_here", "_law_told_here", "_law_at"] ds):=by
 rintro ds Q ⟨ns,rfl,hl,h⟩;exact OS λrows hs x1 D=>OR D (OQ D (OP D h))
end Lw
namespace Hd
open PySem PySem.W
noncomputable def KG:List gj->Nat->BT->Option (BT×Nat)
 | [],n,t=>aa (t,n)
 |o::r,n,t=>match ((t.ins n o).get n).isSome with
  |true=>KG r (n+1) (t.ins n o)
  |false=>aq
theorem yH{life:Life}:∀(l:List gj) (n:Nat) (t:BT) {t':BT} {n':Nat},KG l n t=aa (t',n')->absHeap t' n' life=⟨((absHeap t n life).objs.toList++l).toArray,life⟩
 | [],n,t,t',n',h=>by
  cases h;rw[dr];rfl
 |o::r,n,t,t',n',h=>by
  rw[KG] at h;cases g:((t.ins n o).get n).isSome with
  |false=>rw[g] at h;cases h
  |true=>
   rw[g] at h;rw[yH r (n+1) (t.ins n o) h,absHeap_ins g];show Heap.mk _ _=Heap.mk _ _;congr 1;show (((absHeap t n life).objs.push o).toList++r).toArray=_;simp
theorem EV{t:BT}(e:KG h.objs.toList 0 .nil=aa (t,n)):absHeap t n h.life=h:=by
 rw[yH (life:=h.life) _ _ _ e];rfl
noncomputable def rO(st:SharedT->sm->Option (SharedT×sm))(th:sm->Bool)(ok:sm->Bool):Nat->SharedT->sm->Option SharedT
 |0,_,_=>aq
 |n+1,s,t=>match th t with
  |true=>aa s
  |false=>match ok t with
   |false=>aq
   |true=>match SQ s.toks 1000000 with
    |false=>aq
    |true=>match st s t with
     |some (s',t')=>rO st th ok n s' t'
     |none=>aq
theorem oH{tb:String->Option wj}{p:ay}{w:bg}{n₀:Nat}{ann:Option ac}:∀(n:Nat) (s:SharedT) (t:sm) {s':SharedT},rO (stepT (SJ tb) p w) through (stepOk n₀ ann) n s t=aa s'->topRun tb p w n₀ ann n s.abs t=aa s'.abs
 |0,_,_,_,h=>by cases h
 |n+1,s,t,s',h=>by
  unfold rO at h;unfold topRun;cases ht:through t with
  |true=>rw[ht] at h;cases h;rfl
  |false=>
   rw[ht] at h;cases hk:stepOk n₀ ann t with
   |false=>rw[hk] at h;cases h
   |true=>
    rw[hk] at h;dsimp only at h ⊢;cases hb:SQ s.toks 1000000 with
    |false=>rw[hb] at h;cases h
    |true=>
     rw[hb] at h;dsimp only at h;cases hs:stepT (SJ tb) p w s t with
     |none=>rw[hs] at h;cases h
     |some x=>
      obtain⟨s1,t1⟩:=x;rw[hs] at h;rw[stepT_spec hs];exact oH n s1 t1 h
noncomputable def AB(st:SharedT->sm->Option (SharedT×sm))(th:sm->Bool)(ok:sm->Bool)(M:Nat)(h:br)(gs:Array yb)(d:SM)(k:Nat)(os:OsState)(t:sm):Option SharedT:=
 match KG h.objs.toList 0 .nil with
 |some (b,n)=>rO st th ok M ⟨b,n,h.life,gs,d,k,os⟩ t
 |none=>aq
variable {p:ay}{ann:Option ac}{M:Nat}
theorem xP{tb:String->Option wj}{n₀:Nat}{gs:Array yb}{d:SM}{k:Nat}{os:OsState}{t:sm}{s':SharedT}
  (e:AB (stepT (SJ tb) p w) through (stepOk n₀ ann) M h gs d k os t=aa s'):topRun tb p w n₀ ann M ⟨h,gs,d,k,os⟩ t=aa s'.abs:=by
 unfold AB at e;cases q:KG h.objs.toList 0 .nil with
 |none=>rw[q] at e;cases e
 |some x=>
  obtain⟨b,n⟩:=x;rw[q] at e;have:=oH M _ _ e;unfold SharedT.abs at this;dsimp only at this;rw[EV q] at this;exact this
theorem HD{q:ay}{loose:List bf}{Xt:ah->Bool}{Yf:ah->α}{Ya:bg->α}{N:Nat}{g0:Bool}{HZ:RS->br}{gs₀:Array yb}{d₀:SM}{k₀:Nat}{m₀:Nat}
  (open_:∀w:bg,(fencedOpening zq p w N).map (λs=>(s.heap,s.gens,s.drawn,s.toks))=aa (HZ w.params,gs₀,d₀,k₀))
  (size:∀w:bg,((HZ w.params).isNs ft&&gs₀.size==0,(HZ w.params).objs.size,(HZ w.params).nsMap ft "__annotations__")=(ai,m₀,ann)) (le:SQ M N=ai)
  (run:∀(w:bg) (os:OsState),(AB (stepT (SJ zq) p w) through (stepOk m₀ ann) M (HZ w.params) gs₀ d₀ k₀ os (topStub p)).map (λs=>
    ((staticsOk (vh p.main.body) (HZ w.params) s.abs.heap&&namesBound p s.abs.heap&&gensDone s.abs&&laidKept (HZ w.params) s.abs.heap),openSeen q loose (vh p.main.body) Xt g0 s.abs,Yf s.abs))=aa (ai,openGood q loose,Ya w)):
  LeftO p q loose Xt Yf Ya N g0:=λw=>by
 obtain⟨⟨h,gs,d,k,os⟩,e,e'⟩:=ve.mp (open_ w);obtain⟨rfl,rfl,rfl,rfl⟩:h=HZ w.params/\gs=gs₀/\d=d₀/\k=k₀:=by simpa using e'
 obtain⟨z1,z2,z3⟩:_/\_/\_:=by simpa only[jy] using size w
 obtain⟨s',r,l⟩:=ve.mp (run w os);obtain⟨l1,l2,l3⟩:_/\_/\_:=by simpa only[jy] using l
 have r:=topRun_mono (N-M) _ _ _ _ (xP r);rw[show M+(N-M)=N by have:=vp le;right] at r;have t:topFrom zq p w N ⟨HZ w.params,gs,d,k,os⟩=aa s'.abs:=by
  unfold topFrom;dsimp only;rw[z1,z2,z3,r];show (match staticsOk (vh p.main.body) (HZ w.params) s'.abs.heap&&namesBound p s'.abs.heap&&gensDone s'.abs&&laidKept (HZ w.params) s'.abs.heap with | true=>_ | false=>_)=_;rw[l1]
 unfold openEnds;rw[e];show (topFrom zq p w N _).map _=_;rw[t];exact congrArg aa (Prod.ext l2 l3)
end Hd
namespace Lw
open L2 Z
theorem law_start(hl:ns.length<=63)(hO:Fp H)(hS:eT K H a (ns.map V.int)):low K spLaw [.ref a] H (λv _=>v=.bl ai) (λ_ _ _=>False):=
 Bp (λQ q=>⟨ns,rfl,hl,q⟩) hO (λP q z=>nomatch z.1) hS
theorem Ql(h:us.length=1):∃a0,us=[a0]:=by
 cases us with
 |nil=>cases h
 |cons a r=>obtain⟨rfl⟩:=ui.mp (Nat.succ.inj h);exact⟨a,rfl⟩
theorem K2{fa:af}(X:K.In h)(G:h.Ns ft mg)(hfa:mg "law" = aa (.ref fa))
  {od0 an0:Option af} {sl0:Array (Option ac)} {oc0 kV0 dc0 pm0 cd0 ct0:ac} {f0:af}
  {mL:af}
  {odW:Option af} {slW:Array (Option ac)} {tW1 tW2 tW3:SR} {nW:Nat}
  {aO:af}
  (aC:mg "Sides" = aa (.ref C))
  (m1:MF K C "__init__" "Sides.__init__" (eG (top 29) 0))
  (m2:MF K C "many" "Sides.many" (eG (top 29) 1))
  (m3:MF K C "kind" "Sides.kind" (eG (top 29) 2))
  (m4:MF K C "first" "Sides.first" (eG (top 29) 5))
  (cl:Cls K C) (mk:ze K C=ai) (kc:ic K (.ref C)=ai)
  (i3:kf K (.ref C) "kinds" = aa aq)
  (qD:kf K (.ref C) "vectors" = aa aq)
  (m5:DF K mg "is_whole" "is_whole" (top 6))
  (m6:DF K mg "is_pair" "is_pair" (top 9))
  (m7:DF K mg "is_hold" "is_hold" (top 10))
  (m8:DF K mg "pulls_of" "pulls_of" (top 11))
  (m9:DF K mg "pulls" "pulls" (top 12))
  (m10:DF K mg "reached" "reached" (top 14))
  (m11:DF K mg "turned_round" "turned_round" (top 15))
  (m12:DF K mg "there_and_back" "there_and_back" (top 16))
  (m13:DF K mg "free" "free" (top 17))
  (m14:DF K mg "has_three_wholes" "has_three_wholes" (top 23))
  (m15:DF K mg "has_few_figures" "has_few_figures" (top 24))
  (m16:DF K mg "points_up" "points_up" (top 25))
  (m17:DF K mg "lies_left" "lies_left" (top 26))
  (m18:DF K mg "check_direction" "check_direction" (top 27))
  (m19:DF K mg "check_directions" "check_directions" (top 28))
  (m20:DF K mg "_law_deep" "_law_deep" (top 31))
  (m21:DF K mg "_law_whole" "_law_whole" (top 32))
  (m22:DF K mg "_law_dirs" "_law_dirs" (top 33))
  (m23:DF K mg "_law_kinds" "_law_kinds" (top 34))
  (m24:DF K mg "_law_parted" "_law_parted" (top 35))
  (m25:DF K mg "_law_counts" "_law_counts" (top 36))
  (m26:DF K mg "_law_pairs" "_law_pairs" (top 37))
  (m27:DF K mg "_law_holds" "_law_holds" (top 38))
  (m28:DF K mg "_law_ring" "_law_ring" (top 39))
  (m29:DF K mg "_law_drawn" "_law_drawn" (top 40))
  (m30:DF K mg "_law_pulls" "_law_pulls" (top 41))
  (m31:DF K mg "_law_comes_home" "_law_comes_home" (top 42))
  (m32:DF K mg "_law_list" "_law_list" (top 43))
  (m33:DF K mg "_law_ways" "_law_ways" (top 44))
  (m34:DF K mg "_law_free_set" "_law_free_set" (top 45))
  (m35:DF K mg "_law_told" "_law_told" (top 46))
  (m36:DF K mg "_law_refused" "_law_refused" (top 47))
  (a0:mg "law" = aa (.ref f0))
  (l0:K.lookup f0=aa ⟨oc0,od0,.func (oa "law" "law" (i7 (top 48)) (cM (top 48)) (aB (top 48)) .none kV0 dc0 pm0 an0 cd0 ct0),sl0⟩) (c0:rh K cd0 "law" = ai) (k0:ic K (.ref f0)=ai)
  (eO:∃t,mg "FEWEST_DIRECTIONS" = aa (.int 2 t))
  (fN:∃t,mg "MOST_DIRECTIONS" = aa (.int 6 t))
  (k4:∃t,mg "MOST_BANDS" = aa (.int 12 t))
  (fO:∃t,mg "LARGEST_PART" = aa (.int 999999999999 t))
  (Fz:mg "ValueError" = aq)
  (B3:mg "abs" = aq)
  (DQ:mg "all" = aq)
  (pQ:mg "bool" = aq)
  (kY:mg "enumerate" = aq)
  (oF:mg "int" = aq)
  (aK:mg "isinstance" = aq)
  (aZ:mg "len" = aq)
  (eV:mg "list" = aq)
  (DP:mg "max" = aq)
  (DO:mg "min" = aq)
  (aP:mg "range" = aq)
  (jM:mg "sorted" = aq)
  (DN:mg "sum" = aq)
  (eD:mg "tuple" = aq)
  (DM:mg "zip" = aq)
  (Fi:W.nsIn K ft "WORDS" = aa (aa (.ref mL)))
  (Ey:K.lookup mL=aa ⟨.type "tuple",odW,.seq #[.str "brace" tW1,.str "more" tW2,.str "less" tW3] nW,slW⟩)
  (DB:W.nsIn K ft "NoHold" = aa (aa (.ref aO)))
  (rq_NoHold:SO K aO [.type "ValueError",.type "Exception",.type "BaseException",.type "object"] "ValueError.__new__" = ai)
  (x_NoHold:sh K (.ref aO) (.ref aO)=aa ai):
  ∃fd:fv,(∀(s:ah) (v:ac),uq s fd ⟨[v],[]⟩ [("_law_script",v)]) /\ ∀base:br,K.In base->base.Ns ft mg->FnOk P w K mg base xD 7 fa fd ["_law_script"] ((low K spLaw)):=by
 have e:=hfa.symm.trans a0;cases e;have F0:=wG (st:=(top 48)) l0 c0 k0;have wF:=W.mg_of X G Fi;have sD:Words K mL ["brace", "more", "less"]:=⟨⟨_,[.str "brace" tW1,.str "more" tW2,.str "less" tW3],nW,Ey,rfl,rfl,.cons _ _ (.cons _ _ (.cons _ _ .nil))⟩⟩;have eP:=W.mg_of X G DB;have jP:uL K aO:=rq_NoHold;refine⟨oa "law" "law" (i7 (top 48)) (cM (top 48)) (aB (top 48)) .none kV0 dc0 pm0 an0 cd0 ct0,λs v=>.of_eq rfl,λbase _ _=>?_⟩;have mI:IAt K mg "Sides" C "Sides.__init__" (eG (top 29) 0) ["self", "directions"]:=m1.ini aC mk kc;have gZ:=zG P w mg base m5.at aK oF pQ HA AQ;have o8:=gZ.calm;have j7:=z9 P w mg base m8.at  Gy AI;have nY:=j7.calm;have gJ:=Am P w mg base m10.at  yR CA;have iR:=rL P w mg base m11.at  Ja sY;have f8:=mQ P w mg base m14.at aK eD aZ DQ o8 Ed Ca nG;have g4:=nV P w mg base m15.at B3 fO BU p7;have lO:=wI P w mg base m16.at  BU xY;have lP:=wJ P w mg base m17.at  Ep xZ;have g5:=nX P w mg base m18.at f8 EW g4 Ef lO Ef Ew p8;have f9:=mR P w mg base m19.at aK eV aZ DN DM eO fN k4 g5 Gs lP Go HC nI;have wS:=Ha P w mg base mI kY eD cl i3 qD f9 JZ Cb JI;have s9:=HX P w mg base m2.at aZ cl i3 Em JG;have nZ:=s9.calm;have pK:=HY P w mg base m3.at cl i3 Er JH;have PK:=pK.calm;have kO:=Ao P w mg base m6.at cl gZ Ed s9 gQ pK rV El CC;have KM:=kO.calm;have kP:=Ap P w mg base m7.at aK eD aZ wF sD kO Gk Et CD;have qM:=kP.calm;have iS:=Cy P w mg base m9.at jM eP jP qM BQ nY EZ Ac EK;have N8:=iS.calm;have qL:=An P w mg base m9.at eP jP kP BQ j7 EZ yT CB;have Hc:=FV P w mg base m13.at aP jM aZ cl iS fC gJ f7 nZ gQ Ce GZ;have Ar:=Hc.calm;have tO:=Cz P w mg base m13.at qL BS yT EL;have wR:=FW P w mg base m4.at eV aP cl nZ gQ Cf Ga;have dY:=nU P w mg base m12.at aZ cl iS fC gJ f7 iR Le wR tD Gu LI;have gI:=dY.calm;have cS:=zF P w mg base m20.at aZ aP Ev AO;have fD:=wK P w mg base m21.at aK oF pQ Ae y3;have o7:=zE P w mg base m22.at aZ aP Eu AN;have lR:=wN P w mg base m23.at aZ aP Af y8;have kL:=uD P w mg base m24.at aP Ad vQ;have kN:=uE P w mg base m25.at aP kL CT yS vR;have lQ:=wM P w mg base m26.at aZ aP Gx y7;have lS:=wO P w mg base m27.at aP aZ HB y9;have o4:=zC P w mg base m28.at aP aZ DO DP oF Ek AL;have lT:=wP P w mg base m29.at cS BR lQ JX lS JY o4 Gj Cg yA;have e9:=wL P w mg base m30.at  Gz y6;have eI:=pH P w mg base m31.at aZ aP Es qB;have kM:=zD P w mg base m32.at aK eV aZ fD uY Eo AM;have o3:=zA P w mg base m33.at aK eD aZ aP kM Gm e9 Eb eI Gp Cc AJ;have iT:=rM P w mg base m34.at aK eV aZ aP fD uY e9 Eb Cd sZ;have kK:=zB P w mg base m35.at eV gI EX.calm Ar Ee.calm iT Ec o3 Ea Ej AK;have jI:=tN P w mg base m36.at eP x_NoHold dY EX tO BS Gw u0;exact Jr P w mg base F0 aZ cS BR kN AW lR CU o7 Gr lT Eg kK Gi jI JW wS EY H9 LJ
theorem walk{l:W.OpenLaw}{q:ay}{loose:List bf}{XP:(bf->Option ac)->br->Prop}{YP:bg->br->Prop}{d:DefRec}{K:RS->aj}(hn:l.most=aa 63)(hdf:d.params.defaults=[])
  (hY:∀(w:bg) (h:br),YP w h->(K w.params).In h)
  (F:∀(w:bg) (mg:bf->Option ac) (fa:af) (h:br),(K w.params).In h->h.Ns ft mg->mg d.name=aa (.ref fa) ->
   ∃fd:fv,(∀(s:ah) (u:ac),uq s fd ⟨[u],[]⟩ [("_law_script",u)]) /\ ∀base:br,(K w.params).In base->base.Ns ft mg->FnOk l.prog w (K w.params) mg base xD 7 fa fd ["_law_script"] ((low (K w.params) spLaw))):
  W.WalkO q loose XP YP l.row.toRowW d [] (λf vs=>PySem.call f vs):=
 L2.Fy (n:=63) (k:=7) (x:="_law_script") (CX:=λ_=>xD) (sp:=λw=>(low (K w.params) spLaw)) hn ∅ hdf ⟨rfl,by decide,by decide⟩ hY F (λ_ H a ns hl hO hS=>law_start hl hO hS) λ_ _ _ _ _ z=>z
end Lw
noncomputable def Hd.QV:PySem.Program:=PySem.W.view jt [0,2,3,4,6,8,9,10,11,12,14,15,16,17,19,20,21,22,23,24,25,26,27,28,29,31,32,33,34,35,36,37,38,39,40,41,42,43,44,45,46,47,48]
open PySem PySem.W PyProof.Rows
local macro_rules | `(tactic| o_head $H)=>`(tactic| refine holds_open (q:=Hd.QV) (loose:=[]) (Xt:=λs=>xlAt Hd.QV [] s&&recOk (RowW.records (OpenRow.toRowW (OpenLaw.row PySem.Challenge.rw_slantfloor_k73_stiff_or_free))) s) (XP:=XL Hd.QV []) (Yf:=Hook.obs $H) (Ya:=Hook.val $H) (YP:=Hook.says $H) (N:=4442) ?hl (Hook.of $H) (Hook.keeps $H) (λs e=>xl_of s (Bool.and_eq_true_iff.mp e).1) XL.keeps (by rfl) (by rfl) (by rfl) (λs e=>recFacts_of (Bool.and_eq_true_iff.mp e).2) (by rfl) (by first | assumption | decide +kernel) (by decide +kernel) ⟨rfl,rfl,rfl,rfl,rfl,by decide +kernel⟩ ?hw ?hc)
set_option maxRecDepth 100000 in
noncomputable def PySem.W.Fast.tw14204844855180610775:=PySem.Challenge.rw_slantfloor_k73_stiff_or_free
theorem PySem.W.Fast.te14204844855180610775:PySem.Challenge.rw_slantfloor_k73_stiff_or_free=PySem.W.Fast.tw14204844855180610775:=rfl
set_option maxHeartbeats 0 in
theorem PySem.Challenge.cw_slantfloor_k73_stiff_or_free_holds : PySem.Challenge.rw_slantfloor_k73_stiff_or_free.Holds := by
 w_on;o_law;k_head
 (case hl=>exact Hd.HD (HZ:=boot_heap) (gs₀:=Array.mk []) (d₀:=boot_drawn) (k₀:=boot_toks) (m₀:=11) (ann:=aa (.ref 6)) (M:=4442) (boot_open (by kernel_rfl) rfl (λs=>by kernel_rfl)) (λw=>by kernel_rfl) rfl (λw os=>by rw[xi,xj,xk,xx,xy];kernel_rfl))
 (case hw=>w_witness2)
 k_fill
 refine Lw.walk (l:=jv) rfl rfl (λw h Y=>by first | exact PySem.W.kIn_of Y | exact PySem.W.km_in_of Y) ?F
 case F=>
  intro w mg fa h KX G hmg;apply Lw.K2 KX G hmg
  any_goals first | refine' Z.DF.mk (mg_of KX G ?_) ?_ ?_ ?_ | refine' Z.MF.mk ?_ ?_ ?_ ?_ ?_ | refine' mg_none_of KX G ?_ | refine' mg_of KX G ?_ | refine' Z.QU (mg_of KX G ?_) | refine' Z.exS (mg_of KX G ?_) | refine' L2.Cls.mk ?_ ?_ ?_ ?_
  any_goals k_is
  (case rq_NoHold=>k_exc)
  (case x_NoHold=>kts_exm)

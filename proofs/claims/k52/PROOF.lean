import PyProof.Rows.All
import Lean
import Wide.FinOn
import OpenK.KOwn
import KE.KNest
import KE.RegKIsAll
import KE.RegKTryMore
import PyProof.EqAt
import PyProof.EqKinds
import PyProof.TupleCall
import PyProof.NeKinds
import PyProof.NeData
import PyProof.EqLayable
import PyProof.ZipIter
import PyProof.EnumMake
import KE.LcSums
import PyProof.CompFree
import PyProof.ListRange
import PyProof.Rows.Range3
import PyProof.TupleOfSeq
import KE.KSortTup
import PyProof.Rows.TupAdd
import PyProof.DictWalks
import PyProof.AutoListH
import PyProof.StrWalks
import PyProof.SliceStr2
import PyProof.StrBlock2
import PyProof.StrLaws
import PyProof.StrCalls
import PyProof.CallStr
import KE.KIntText
import KE.KDictSum
import PyProof.Rows.SetFrom
import PyProof.SetRoads
import PyProof.Rows.StrInSeq3
import Open.Boot
import Open.Tree
import PySem.Challenge.RW_slantfloor_k52_whole_ways_of_flips
open Option renaming some->aa,none->aq,map_some->sm,isSome_iff_exists->ux,map_eq_some_iff->wr
open PySem renaming Value->ac,Addr->ae,wpAny_bind->af,Shared->ah,Program->ar,wpAny_pure->aw,starEach->bb,sizeLine->bf,Str->bi,World->bm,wpAny->bu,model->bv,Around->bx,Heap->cm,compareOp->df,boot_len->dv,wpAny_field->ef,mem_of_lookup->er,eval->fe,wpAny_truthy_bool->ff,wpAny_callSpecial?_slot->fg,wpAny_call_entry->fj,relabel->fm,sysModules->fq,foldedSetIterable->fu,mainGlobals->gg,binaryOp->gw,wpAny_mono->ii,backTo->ip,sizeLine_eq->iq,FuncData->ir,wpAny_newObj_type->iu,swapsWith->jd,Stmt->jm,Obj->jq,Pos->jr,wpAny_passesOwn->kg,attributeBase->ko,wpAny_isInstance->lg,cLine->lq,bootBuiltins->mh,wpAny_holding->mw,assignEach->nq,behindInMarks->oq,slot_listiter_next->oz,wpAny_Call_Name_kw->pd,keywordEach->pq,sliceBounds->pz,wpAny_seqItems->qh,isSubtype_stop->qi,wpAny_dictEntries->qw,pyNext->ri,closureFor->rn,wpAny_attempt->sf,NameKind->sk,wpAny_execs_nil->ss,letOwnedTupleGo->su,wpAny_setField_rec->uc,tupleKind_room_in1->uj,Thread->uo,IsRangeIter->uv,wpAny_newList->vf,getMethod->vg,backToKw->vh,noFill_tuple_add->vi,wpAny_rule->vx,wpAny_pyNext_list_item->vy,standAt->wa,holding->wc,codeAny->wd,codeAny_mono->we,call_meets->wl,importedModules->wt,Env->wu,wpAny_pyIter_listiter->ww,field->xb,wpAny_setField->xc,Builtin->xo,tupleKind->xp,Keyword->xr,callerA->xt,valueAt->xx,entry_listiter_next->xz,seq_tuple_add->yj,args_listiter_next->yx,assign->zd,IsPart->zg,Model->zq,Within->zr,GenState->zv,wpAny_assign_Name->zw,BindsTo->Sy,concat_meets->T1,getItem->T5,slot_list_getitem->T6,wpAny_pyIter_enum->T7,wpAny_pyIter_list->T8,wpAny_eqBool_int->Tr,wpAny_execs_cons->Ts,PassesOwn->Tt,lastMarks->Tu,wpAny_pyIter_zip->TB,treeTable->TQ,CmpOp->TV,subscripted->TX,atKey->TY,codeAny_builtin->Ub,size_of_entries->Uc,wpAny_dictEpoch->Ud,wpAny_load->Uf,firstArgMember->Ug,IsPair->Uh,builtinsNs->Ui,wpAny_Name->Uj,recursionLimit->Um,callWith->Uo,bindL->Uq,bindC->Ur,typeIs_int->Uv,ReadsAll->Uz,Sem->UN,seqItems?->UR,again->UT,cellsFrom->UV,Reads->UW,hashInt->UY,truthy->UZ,Params->V2,PyData->V4,raiseNew->Vc,ZipApart->Vd,intItems->Ve,rule->Vj,bindArgs->Vm,compPost->Vp,rawInt->Vx,denote->VD,IsZip->VE,Drawn->VF
open Bool renaming true->ai,false->ak,and_eq_true->dj,false_eq_true->dk,false_ne_true->ju,eq_iff_iff->oy,or_eq_false_iff->sr,not_eq_true'->vd,or_eq_true->Ue,decide_or->UI,not_true->UP,true_or->V3
open PySem.W renaming Frag->aj,findIn->lj,emptyDict->mf,kia_one->nh,keepIn->ot,instObj->rj,fnOf->ve,codeIn->xf,plainGet_of->yi,plainGet->zf,callWith_K->Sz,makesIn->Tv,cellsFrom_some->Tx,methodObj->TU,hasDictIn->TW,methodCall_KW->U6,lookIn->Ul,takerIn->UU,kitOne->Vl,isFn->Vy
open List renaming replicate->ao,getElem?_eq_getElem->au,getElem?_eq_some_iff->av,length_map->ay,mem_cons_of_mem->bg,length_cons->bh,getElem?_append_left->bj,length_append->bq,mem_cons->br,getElem?_append_right->bt,mem_of_getElem?->bw,map_cons->cf,getElem?_map->cg,size_toArray->ci,mem_cons_self->cj,eq_of_mem_replicate->cr,mem_append_right->cu,length_take->cv,pairwise_iff_getElem->cw,mem_append->de,mem_singleton->dg,append_assoc->dh,mem_iff_getElem->dm,getElem?_set_ne->dr,mem_filter->dw,length_singleton->ed,pairwise_cons->ee,drop_eq_getElem_cons->eg,getD->eo,not_mem_nil->fc,getElem?_set_self->fk,mem_map->fv,getElem_take->fw,perm_ext_iff_of_nodup->fx,getElem?_replicate->gh,getElem_mem->gm,filter_cons->gn,cons_append->gv,range->ig,append_nil->im,pairwise_map->io,filter_eq_nil_iff->je,mem_append_left->jf,replicate_succ->jv,Nodup->jw,filter_cons_of_pos->jx,filter_cons_of_neg->jy,mem_or_eq_of_mem_set->ki,flatten_replicate_singleton->kj,getElem?_take_of_lt->kq,nil_append->kz,length_replicate->lr,mem_iff_getElem?->ls,pairwise_append->mv,take_of_length_le->nk,map_congr_left->nv,ext_getElem?->oa,map_map->og,length_filter_le->oh,mem_of_find?_eq_some->oj,filter_append->ox,nodup_cons->ph,getElem?_cons_zero->qd,flatten_cons->qm,any_cons->qo,find?_cons_of_pos->qp,find?_cons_of_neg->qv,getElem?_eq_none->rg,perm_append_comm->rh,find?_cons->rq,take_append_drop->se,take_append_of_le_length->sn,dropLast_concat_getLast->sv,filterMap_cons->sw,take_succ_cons->sx,filter_eq_self->sy,length_reverse->ug,map_append->uk,getD_eq_getElem?_getD->ul,length_drop->uy,map_nil->uz,all_eq_true->va,length_eq_zero_iff->vk,pairwise_mergeSort->vp,sum_cons->vq,pairwise_singleton->vw,reverse_cons->wj,drop_of_length_le->wn,singleton_append->wz,perm_middle->xn,mem_range->xq,mergeSort_perm->ye,flatMap_append->yf,mem_map_of_mem->yg,mem_filterMap->ze,length_nil->zh,find?_eq_none->zj,find?_some->zl,filter_filter->zm,any_eq_false->Sw,take_sublist->T0,zipWith->T9,toArray->Ta,flatMap_cons->Tf,reverse_perm->Tj,filter_congr->Tn,zipIdx_cons->Tq,range'_succ->TF,getElem_map->TH,take_take->TJ,drop_length->TZ,lookup_cons->U0,range'->U1,mem_flatMap->U2,zipIdx_nil->U4,forIn_cons->U5,of_mem_zip->Us,foldl->Uw,nodup_nil->Uy,perm_cons->UD,drop_drop->UJ,map_drop->UO,nil_perm->UQ,all_cons->Vq,map_take->Vr,find?->Vu
open PySem.Heap renaming get?_push_of_some->ap,lt_size->be,get?_push_size->cp,get?_update_other->el,size_push->qg,SameBut->tj,ExtBut->uu,size_update->vo,get?_update_ne->yd
open Nat renaming le_refl->bo,lt_of_lt_of_le->di,ne_of_lt->fh,le_of_not_lt->jn,le_trans->lh,mul_le_mul->mj,zero_add->mr,zero_le->nj,min_eq_left->nr,lt_irrefl->ny,lt_trichotomy->sh,le_succ->tf,add_comm->uh,lt_of_le_of_lt->ui,add_mul_mod_self_right->um,succ_mul->vj,le_add_right->wm,add_mul->wq,add_mul_div_right->wx,le_of_ble_eq_true->wy,not_succ_lt_self->xg,mul_le_mul_right->xm,lt_or_gt_of_ne->zi,le_of_lt->zt,lt_succ_self->Tw,min_eq_right->TD,div_eq_of_lt->TK,mod_eq_of_lt->TM,mul_assoc->TN,lt_trans->Ux,add_zero->UG,zero_mul->UH,mul_comm->V1,le_total->V7,sub_zero->V8,mul_add->Va,ne_of_gt->Vh,le_of_eq->Vk,log2_lt->Vo,lt_or_ge->Vs,lt_asymm->Vt,mod_lt->VB,ble->VG
open Int renaming toNat_natCast->bp,lt_or_gt_of_ne->fy,emod_lt_of_pos->pi,lt_trichotomy->qy,le_refl->vc,emod_nonneg->xj,lt_trans->Td,lt_asymm->Te,ofNat_lt->Tg,ne_of_lt->To,mul_nonneg->UE,mul_le_mul->UF,sub_zero->V6,le_of_lt->V9,mul_one->Vi,not_lt->VC
open PySem.PassesOwn renaming never->cq
open Ne renaming symm->dq
open Sum renaming inl->dt,inr->vz
open Classical renaming byContradiction->eh,not_not->qx
open PySem.PyData renaming eqv->fi,eqvAll->fz,depthAll->jh,canLayAll0->kh,canLay0->lv
open PySem.Str renaming ofString->gf
open PyProof.Rows renaming callWith_type1->gp,slot_tuple_getitem->lc,IntsAre->nz,seqObj->om,envOfC->qj,kindOf->rm,boot_tuple->sd,AllBare->uw,boot_sorted->vb,boot_list->vm,SortKind->vn,subscriptTail_builtinR->wf,subscriptTail->yl,listUpdate_at->yo,sortedAll_old->yp,listItems_at->Tb,sortedAll_at->Tc,cnt->Tp,callWith_builtin1->Tz,get?_update_seq->U9,entry_list_sort->Ua,boot_range->Uk,slicePart_none->Ut,slot_list_sort->UB,args_list_sort->UC,IsTup->US
open Option.some renaming injEq->gr
open Pure renaming pure->ie
open False renaming elim->jg
open List.cons renaming injEq->ji
open PySem.Challenge renaming pw_slantfloor_k52_whole_ways_of_flips->jj,rw_slantfloor_k52_whole_ways_of_flips->jl
open Prod.mk renaming injEq->jo
open PySem.Value renaming none->jt,bool->yy,type->yz,float->TR,isStrOf->UM,isInt->Vf,bytes->Vg
open PySem.Builtin.SmallTypes renaming nextOf->jz,ownedTupleIsFree->oo
open PySem.Builtin.Slice renaming slicePlaces->ke,sliceAdjust->oi,sliceApplied->ue,slicePartIndex->U7,sliceFields->UK
open True renaming intro->km
open PySem.Builtin.Tuple renaming tupleExact->ku,tupleHashOf->uq,tupleItemsOf->Uu
open PySem.Builtin.List renaming listTooLong->kx,listExtendWith->tw,listUpdate->UX
open ForInStep renaming yield->ml
open List.Perm renaming append_left->ni
open PySem.F renaming args_tuple_add_2->ou,entry_tuple_add->px,plainAttrs_list->qe,slot_tuple_add->qk,slot_tuple_iterator_next->tz,slot_range_iterator_next->ub,slot_enumerate_next->wv,slot_dict_ne->xi,slot_zip_next->U3,slot_int_rmul->U8
open PySem.Builtin.Range renaming rangeSize->pk,small->Vw
open Array renaming getD_eq_getD_getElem?->tu,length_toList->yh,toList->V0,getD->VA
open PySem.Calls renaming Name_function_global->ud,call_function_entry->ur,callWith_builtin->wg
open PySem.Obj renaming mapSeq->uf,mapFields->UL
open PySem.Builtin.Dict renaming dictSlotArgs->ut,samePairs->wo,showsAll->Vb
open PySem.SeqAt renaming canLay_of_shaped->wp,eqAt_reads->TC,EqAt->UA,shaped->V5,eqv_refl->Vv
open Std.Legacy.Range renaming forIn_eq_forIn_range'->xh
open PySem.Builtin.Int renaming intBits->ya
open PySem.W.Fast renaming te10156331382660048174->yq,te11892475500146522536->yr,te14364793385576792824->yt,te6613529449190102663->zo,te4187177175401517315->zp
open PySem.Code renaming isFrame->Sx
open PySem.SeqAt.Reads renaming unique->Vz
noncomputable abbrev Vn:=@if_neg
noncomputable abbrev VH:=@if_pos
local macro_rules | `(tactic| ac_rfl)=>`(tactic| first | lia | omega)
local macro_rules | `(term| ⋯)=>`(by  ac_rfl)
local macro_rules | `(term| ∅)=>`(by  decide)
local macro_rules | `(term| ↥$q)=>`({ nx:=λ_=>$q (.v .non),rt:=$q })
open List (map_id)
open Option (getD_none getD_some bind_some)
open PySem PySem.Spec PyProof.Rows
noncomputable section
set_option Elab.async false
set_option linter.all false
set_option bootstrap.genMatcherCode false
set_option compiler.extract_closed false
set_option genSizeOf false
set_option genSizeOfSpec false
set_option maxRecDepth 100000
set_option maxHeartbeats 1000000
theorem HB(_:True:=by first | exact .inl rfl | exact .inr rfl | assumption):True:=trivial
theorem oQ(_:True:=by decide):True:=trivial
theorem EJ(_:True:=by intro _;rfl):True:=trivial
theorem cF(_:True:=by rfl):True:=trivial
theorem Nr(_:True:=by with_unfolding_all rfl):True:=trivial
theorem CD(_:True:=by decide +kernel):True:=trivial
theorem Rb(_:True:=by first | exact nomark _ | rfl):True:=trivial
theorem SI(_:True:=by intro _ _;rfl):True:=trivial
variable {i n:Nat}{A:bx}{h base:cm}{e tg:Expr}{a C:ae}{α:Type}{x:bi}{u:ac}{P prog:ar}{w:bm}{N ps:List bi}{E:ac->ah->Prop}{s:ah}{pj:List (ae×jq)}{K:aj}{es:List Expr}{p:jr}{mg:bi->Option ac}{outer:List wu}{VI:Scope}
namespace L2
noncomputable def sX(o:jq):Prop:=∃us:Array ac,o.data=.fields us/\us[2]?=aa .none
variable {o:jq}
theorem RM{vs:Array ac}{v:ac}(d:o.data=.fields vs):(UL (·.setIfInBounds i v) o).data=.fields (vs.setIfInBounds i v):=Obj.data_mapFields d _
variable {M:zq}{env:wu}
section
variable {L e:ae}
end
noncomputable def Qu(A:bx)(h:cm):Prop:=A.handled=aq \/ ∃(a:ae) (o:jq),A.handled=aa (.ref a)/\h.get? a=aa o/\sX o
variable {h':cm}
theorem Qu.keeps(q:Qu A h)(k:∀b o,sX o->h.get? b=aa o->h'.get? b=aa o):Qu A h':=by
  rcases q with q | ⟨a,o,e,g,m⟩
  . exact .inl q
  . exact .inr ⟨a,o,e,k a o m g,m⟩
theorem vL:entryFor table "proto.unchain" = aa xo.«proto.unchain» := entryFor_of_fast (by kernel_rfl)
variable {Q:ac->ah->Prop}{it l:ae}{xs:Array ac}{lo:Int}
theorem xF{e:ac}(g:s.heap.get? a=aa o)(m:sX o)(q:Q .none s):bu (bv prog w) A (runValue (.builtin "proto.unchain" ⟨[e,.ref a,.ref a,.bool ak],[]⟩)) Q E s:=by
  obtain⟨us,d,n2⟩:=m;refine runValue_entry vL ?_;unfold xo.«proto.unchain»;dsimp only;refine af (ef g d n2 ?_);rw[VH ∅];exact aw ⟨_,rfl,q⟩
theorem DL{us:Array ac}{Q:α->ah->Prop}(q:Qu A s.heap)(g:s.heap.get? a=aa o)(d:o.data=.fields us)(hz:2<us.size)(hm:∀v,A.handled=aa v->v ≠ .ref a)
    (h:∀h' o',(∀b u,b≠a->s.heap.get? b=aa u->h'.get? b=aa u)->h'.get? a=aa o'->o'.cls=o.cls->E (.ref a) { s with heap:=h' }):bu (bv prog w) A (Vc (α:=α) (.ref a)) Q E s:=by
  simp only[Vc];refine af (wpAny_handled ?_);rcases q with q | ⟨b,ob,q,gb,mb⟩
  . rw[q];exact af (aw (wpAny_throw (h s.heap o (λ_ _ _ z=>z) g rfl)))
  . rw[q];have ne:b≠a:=λz=>hm _ q (by rw[z]);dsimp only;rw[VH (show (Value.ref b != Value.ref a)=ai by simpa using ne)];refine af (mw (xF gb mb (af ?_)));unfold updateField;refine af (Uf g ?_);rw[d];dsimp only;rw[VH hz];refine wpAny_update g (wpAny_throw (h _ (UL (·.setIfInBounds 2 (.ref b)) o) (λc u hc z=>(el _ _ (dq hc)).trans z) (Heap.get?_update_self _ g (Obj.isFreed_of_fields (RM d))) (Obj.cls_mapFields ..)))
theorem lI{Q:α->ah->Prop}(q:Qu A s.heap)(h:∀h' e,(∀b u,s.heap.get? b=aa u->h'.get? b=aa u)->(∃o,h'.get? e=aa o/\o.cls=.type "StopIteration")->E (.ref e) { s with heap:=h' }):
    bu (bv prog w) A (newExc (.type "StopIteration") [] >>= λe=>Vc (α:=α) e) Q E s:=by
  refine af ?_;simp only[newExc,newTuple];refine af (iu (af (m:=Ug _ _) (wpAny_of_eq (a:=jt) (by first | rfl | (simp only[Ug];rfl)) (iu ?_ (by size_fits)))) (by size_fits));refine DL (q.keeps λb u _ z=>ap _ (ap _ z)) (cp _ rfl) rfl (by simp;ac_rfl) (λv e z=>?_) λh' o' k g c=>h h' _ (λb u z=>k b u ?_ (ap _ (ap _ z))) ⟨o',g,c⟩
  . subst z;rcases q with q | ⟨b,ob,q,gb,_⟩
    . rw[q] at e;cases e
    . rw[q] at e;cases e;exact ny _ (di (be gb) (by rw[qg];exact tf _))
  . intro e;subst e;exact ny _ (di (be z) (by rw[qg];exact tf _))
theorem Ar{Q:Option ac->ah->Prop}(q:Qu A s.heap)(t:s.heap.IsListIter it l i)(il:s.heap.IsList l xs)(n:xs[i]?=aq)(h:∀h',uu it s.heap h'->Q aq { s with heap:=h' }):
    bu (bv prog w) A (ri (.ref it)) Q E s:=by
  obtain⟨o,g,c,d⟩:=id t;obtain⟨ol,gl,_,nl,dl⟩:=il;unfold ri;refine af (sf (fg (name:=gf "__next__") t.typeIs oz (fj oz t.typeIs xz ?_ (yx _))));refine af (m:=xb (.ref it) 0) (ef g d (x:=.ref l) rfl ?_);rw[Vn (show ¬((Value.ref l==jt)=ai) from λz=>nomatch z)];refine af (m:=xb (.ref it) 1) (ef g d (x:=.int i 0) rfl (af (m:=UR (.ref l)) (qh gl dl ?_)));simp only[bp,n];have ne:∀b u,sX u->s.heap.get? b=aa u->b≠it:=λb u m gb z=>by
    subst z;rw[g] at gb;cases gb;obtain⟨us,du,z2⟩:=m;rw[d] at du;cases du;simp at z2
  refine af (vx (af (xc g d (by simp) (lI (q.keeps λb u m z=>(el _ _ (dq (ne b u m z))).trans z) λh' e k ⟨oe,ge,ce⟩=>?_))));refine af (lg (T:="StopIteration") (b:=ai) ⟨oe,ge,ce⟩ qi (aw (h _ λb u hb z=>k b u ((el _ _ (dq hb)).trans z))))
theorem E5{Q:Option ac->ah->Prop}(q:Qu A s.heap)(t:s.heap.IsTupleIter it l i)(il:s.heap.IsTuple l xs)(n:xs[i]?=aq)(h:∀h',uu it s.heap h'->Q aq { s with heap:=h' }):
    bu (bv prog w) A (ri (.ref it)) Q E s:=by
  obtain⟨o,g,c,d⟩:=id t;obtain⟨ol,gl,_,nl,dl⟩:=il;unfold ri;refine af (sf (fg (name:=gf "__next__") t.typeIs tz (fj tz t.typeIs F.entry_tuple_iterator_next ?_ (F.args_tuple_iterator_next_1 _))));refine af (m:=xb (.ref it) 0) (ef g d (x:=.ref l) rfl ?_);rw[Vn (show ¬((Value.ref l==jt)=ai) from λz=>nomatch z)];refine af (m:=xb (.ref it) 1) (ef g d (x:=.int i 0) rfl (af (m:=UR (.ref l)) (qh gl dl ?_)));simp only[bp,n];have ne:∀b u,sX u->s.heap.get? b=aa u->b≠it:=λb u m gb z=>by
    subst z;rw[g] at gb;cases gb;obtain⟨us,du,z2⟩:=m;rw[d] at du;cases du;simp at z2
  refine af (vx (af (xc g d (by simp) (lI (q.keeps λb u m z=>(el _ _ (dq (ne b u m z))).trans z) λh' e k ⟨oe,ge,ce⟩=>?_))));refine af (lg (T:="StopIteration") (b:=ai) ⟨oe,ge,ce⟩ qi (aw (h _ λb u hb z=>k b u ((el _ _ (dq hb)).trans z))))
theorem E6{x left step:Int}{Q:Option ac->ah->Prop}(q:Qu A s.heap)(t:uv s.heap it x left step)(n:left<=0)(h:∀h',uu it s.heap h'->Q aq { s with heap:=h' }):
    bu (bv prog w) A (ri (.ref it)) Q E s:=by
  have ty:s.TypeIs (.ref it) "range_iterator" := ⟨_,t,rfl⟩;unfold ri;refine af (sf (fg (name:=gf "__next__") ty ub (fj ub ty F.entry_range_iterator_next ?_ (F.args_range_iterator_next_1 _))));refine af (m:=xb (.ref it) 0) (ef t rfl (x:=Vx x) rfl (af (m:=xb (.ref it) 1) (ef t rfl (x:=Vx left) rfl (af (m:=xb (.ref it) 2) (ef t rfl (x:=Vx step) rfl ?_)))));refine(show bu _ _ (ite (left<=0) _ _) _ _ s from ?_);rw[VH n];refine af (vx (af (lI q λh' e k zz=>?_)));obtain⟨oe,ge,ce⟩:=zz;refine af (lg (T:="StopIteration") (b:=ai) ⟨oe,ge,ce⟩ qi (aw (h _ λb u hb z=>k b u z)))
theorem p7(q:Qu A s.heap)(t:s.heap.IsListIter it l i)(il:s.heap.IsList l xs)(n:xs[i]?=aq)
    (h:∀h' e,uu it s.heap h'->(∃o,h'.get? e=aa o/\o.cls=.type "StopIteration")->E (.ref e) { s with heap:=h' }):bu (bv prog w) A (jz (.ref it)) Q E s:=by
  obtain⟨o,g,c,d⟩:=id t;obtain⟨ol,gl,_,nl,dl⟩:=il;unfold jz;refine af (fg (name:=gf "__next__") t.typeIs oz (fj oz t.typeIs xz ?_ (yx _)));refine af (m:=xb (.ref it) 0) (ef g d (x:=.ref l) rfl ?_);rw[Vn (show ¬((Value.ref l==jt)=ai) from λz=>nomatch z)];refine af (m:=xb (.ref it) 1) (ef g d (x:=.int i 0) rfl (af (m:=UR (.ref l)) (qh gl dl ?_)));simp only[bp,n];have ne:∀b u,sX u->s.heap.get? b=aa u->b≠it:=λb u m gb z=>by
    subst z;rw[g] at gb;cases gb;obtain⟨us,du,z2⟩:=m;rw[d] at du;cases du;simp at z2
  exact af (vx (af (xc g d (by simp) (lI (q.keeps λb u m z=>(el _ _ (dq (ne b u m z))).trans z) λh' e k z=>h h' e (λb u hb z=>k b u ((el _ _ (dq hb)).trans z)) z))))
theorem GX{e:ae}{old:ac}{Q:Option ac->ah->Prop}(q:Qu A s.heap)(he:IsEnum s.heap e it i old)(t:s.heap.IsListIter it l i)(il:s.heap.IsList l xs)(n:xs[i]?=aq)
    (h:∀h',uu it s.heap h'->Q aq { s with heap:=h' }):bu (bv prog w) A (ri (.ref e)) Q E s:=by
  have ty:s.TypeIs (.ref e) "enumerate" := ⟨_,he,rfl⟩;unfold ri;refine af (sf (fg (name:=gf "__next__") ty wv (fj wv ty F.entry_enumerate_next ?_ (F.args_enumerate_next_1 _))));refine af (m:=xb (.ref e) 2) (ef he rfl (x:=.ref it) rfl (af (p7 q t il n λh' x k zz=>?_)));obtain⟨oe,ge,ce⟩:=zz;exact af (lg (T:="StopIteration") (b:=ai) ⟨oe,ge,ce⟩ qi (aw (h _ k)))
theorem Ir{z TI TO i1 i2 l1 l2:ae}{k1 k2:Nat}{ys:Array ac}{a b:ac}{Q:Option ac->ah->Prop}(q:Qu A s.heap)(D:Vd z TI TO i1 i2 l1 l2)(hz:VE s.heap z TI TO .none)(pI:Uh s.heap TI (.ref i1) (.ref i2))(pO:Uh s.heap TO a b)
    (t1:s.heap.IsListIter i1 l1 k1) (t2:s.heap.IsListIter i2 l2 k2) (il1:s.heap.IsList l1 xs) (il2:s.heap.IsList l2 ys) (n:xs[k1]?=aq \/ ys[k2]?=aq)
    (h:∀h',(∀c o,c≠z->c≠TO->c≠i1->c≠i2->s.heap.get? c=aa o->h'.get? c=aa o)->Q aq { s with heap:=h' }):bu (bv prog w) A (ri (.ref z)) Q E s:=by
  have ty:s.TypeIs (.ref z) "zip" := ⟨_,hz,rfl⟩;have fin:∀h' e,(∃o,h'.get? e=aa o/\o.cls=.type "StopIteration")->(∀c o,c≠z->c≠TO->c≠i1->c≠i2->s.heap.get? c=aa o->h'.get? c=aa o) ->
      bu (bv prog w) A (isInstance (.ref e) (.type "StopIteration") >>= λy=>if y=ai then ie aq else throw (.ref e)) Q E { s with heap:=h' }:=λh' e ⟨oe,ge,ce⟩ k=>
    af (lg (T:="StopIteration") (b:=ai) ⟨oe,ge,ce⟩ qi (aw (h _ k)))
  have mz:∀f0,¬sX { cls:=.type "zip",dict:=aq,data:=.fields #[f0,.bool ak,.bool ak,.ref TI,.ref TO],slots:=#[] }:=λf0 zq0=>by
    obtain⟨us,du,z2⟩:=zq0;cases du;simp at z2
  have mi:∀{h1:cm} {i l:ae} {k:Nat},h1.IsListIter i l k -> ∀u,sX u->h1.get? i≠aa u:=λ⟨o,g,_,d⟩ u ⟨us,du,z2⟩ gu=>by
    rw[g] at gu;cases gu;rw[d] at du;cases du;simp at z2
  have mp:∀{h1:cm} {p:ae} {x y:ac},Uh h1 p x y -> ∀u,sX u->h1.get? p≠aa u:=λg u ⟨us,du,z2⟩ gu=>by
    rw[g] at gu;cases gu;cases du
  unfold ri;refine af (sf (fg (name:=gf "__next__") ty U3 (fj U3 ty F.entry_zip_next ?_ (F.args_zip_next_1 _))));refine af (m:=xb (.ref z) 2) (ef hz rfl (x:=.bool ak) rfl (af (m:=xb (.ref z) 3) (ef hz rfl (x:=.ref TI) rfl (af (qh pI rfl ?_)))));refine af (m:=oo (.ref z)) ?_;unfold oo;refine af (ef hz rfl (x:=.none) rfl (aw ?_));simp only[if_true];refine af (vx (af (ef hz rfl (x:=.ref TO) rfl (af (uc hz (by simp) λh1 hz1 s1=>af ?_)))));replace hz1:VE h1 z TI TO .ellipsis:=hz1;have q1:Qu A h1:=q.keeps λc u m g=>s1.extBut c u (λe=>by subst e;rw[hz] at g;cases g;exact mz _ m) g;simp only[Tq,U4,U5,List.forIn_nil];refine af (af (wpAny_onRaise (af (m:=jz (.ref i1)) ?_)));have t1':=t1.extBut s1.extBut D.i1z;have il1':=il1.extBut s1.extBut D.l1z;cases hx:xs[k1]? with
  |none=>
    refine p7 q1 t1' il1' hx λh2 e s2 zz=>?_;obtain⟨oe,ge,ce⟩:=zz;have hz2:VE h2 z TI TO .ellipsis:=s2 _ _ D.i1z.symm hz1;have ne:e≠z:=λy=>by subst y;rw[hz2] at ge;cases ge;simp at ce
    exact uc hz2 (by simp) λh3 _ s3=>fin h3 e ⟨oe,s3.extBut _ _ ne ge,ce⟩ λc o c1 _ c3 _ g=>s3.extBut _ _ c1 (s2 _ _ c3 (s1.extBut _ _ c1 g))
  |some x=>
    have hy:ys[k2]?=aq:=n.elim (λy=>by rw[hx] at y;cases y) id;refine wpAny_nextOf_list_item t1' il1' hx λh2 t2' s2=>aw ?_;have pO2:Uh h2 TO a b:=s2.extBut _ _ D.TOi1 (s1.extBut _ _ D.TOz pO);have q2:Qu A h2:=q1.keeps λc u m g=>s2.extBut c u (λe=>by subst e;exact mi t1' u m g) g;refine af (qh pO2 rfl (af (wpAny_updateSeq_pair pO2 λh3 pO3 s3=>af (wpAny_letGo (aw ?_)))));have q3:Qu A h3:=q2.keeps λc u m g=>s3.extBut c u (λe=>by subst e;exact mp pO2 u m g) g;refine af (af (wpAny_onRaise (af (m:=jz (.ref i2)) ?_)));refine p7 q3 (((t2.extBut s1.extBut D.i2z).extBut s2.extBut D.i12.symm).extBut s3.extBut D.TOi2.symm) (((il2.extBut s1.extBut D.l2z).extBut s2.extBut D.l2i1).extBut s3.extBut D.l2TO) hy λh4 e s4 zz=>?_;obtain⟨oe,ge,ce⟩:=zz;have hz4:VE h4 z TI TO .ellipsis:=s4 _ _ D.i2z.symm (s3.extBut _ _ D.TOz.symm (s2.extBut _ _ D.i1z.symm hz1));have ne:e≠z:=λy=>by subst y;rw[hz4] at ge;cases ge;simp at ce
    exact uc hz4 (by simp) λh5 _ s5=>fin h5 e ⟨oe,s5.extBut _ _ ne ge,ce⟩ λc o c1 c2 c3 c4 g=>s5.extBut _ _ c1 (s4 _ _ c4 (s3.extBut _ _ c2 (s2.extBut _ _ c3 (s1.extBut _ _ c1 g))))
theorem D6(hh:A.handled=aa (.ref a))(m:sX o)(I ax:ae)(hne:ax≠I)(xs:Array ac):
    Walks prog w A I [I,ax,a] [I] xs.size (λi v=>xs[i]?=aa v) (λi h=>(h.IsListIter I ax i/\h.IsList ax xs)/\h.get? a=aa o) where
  sub:=λb hb=>by simp at hb;simp[hb]
  frame:=λ_ _ _ st k=>⟨⟨st.1.1.at λo e=>k I (by simp) o e,st.1.2.at λo e=>k ax (by simp) o e⟩,k a (by simp) _ st.2⟩
  item:=λi s Q E hi st h=>by
    have na:a≠I:=λe=>by
      subst e;obtain⟨o',g,_,d⟩:=st.1.1;obtain⟨us,du,z2⟩:=m;rw[st.2] at g;cases g;rw[d] at du;cases du;simp at z2
    exact vy st.1.1 st.1.2 (x:=xs[i]) (by simp[hi]) λh' t sb=>h _ h' s.toks (by simp[hi]) ⟨⟨t,st.1.2.extBut sb.extBut hne⟩,sb.extBut _ _ na st.2⟩ λb o hb e=>sb.extBut b o (λz=>hb (by simp[z])) e
  done:=λs Q E st h=>Ar (.inr ⟨a,o,hh,st.2,m⟩) st.1.1 st.1.2 (by simp) λh' k=>h h' s.toks λb o hb e=>k b o (λz=>hb (by simp[z])) e
  self:=λ_ _ _ _ st q=>ww st.1.1 q
theorem Lz{xs:Array (Int×Tok)}(q:Qu A s.heap)(il:s.heap.IsList l (Ve xs))
    (h:∀h' tk t',(∀b o,s.heap.get? b=aa o->h'.get? b=aa o)->Q (.int (preSum (numAt xs) xs.size) t') { s with heap:=h',toks:=tk }):bu (bv prog w) A (call (.builtin "sum") [.ref l]) Q E s:=by
  rcases q with q | ⟨a,o,q,g,m⟩
  . exact sum_intListG q il h
  . refine call_sum_walkG (iter_intList il λs2 e st fp ne=>?_);subst e;refine⟨_,_,_,_,_,_,numAt xs,rfl,D6 (A:=A.in1) q m _ l ne (Ve xs),⟨st,ap _ g⟩,λb hb=>?_,λ_ _=>intItems_at,λh' tk t' k=>?_⟩
    . rcases br.mp hb with e | hb
      . exact fp b (by simp[e])
      . rcases br.mp hb with e | hb
        . exact fp b (by simp[e])
        . have e:b=a:=by simpa using hb
          subst e;exact be (ap _ g)
    . have:=h h' tk t' (old_kept k);simpa [Ve] using this
theorem By{c:Int}{Q:Option ac->ah->Prop}(hi:i<n)(t:uv s.heap it (lo+(i:Nat)*c) ((n:Int)-(i:Nat)) c)
    (h:∀v h' tk,(∃t,v=.int (lo+i*c) t)->uv h' it (lo+((i+1:Nat):Int)*c) ((n:Int)-((i+1:Nat):Int)) c->(∀b o,b ∉ [it]->s.heap.get? b=aa o->h'.get? b=aa o)->Q (aa v) { s with heap:=h',toks:=tk }):
    bu (bv prog w) A (ri (.ref it)) Q E s:=by
  refine wpAny_pyNext_range_item t ⋯ λh' t' sb=>h _ h' _ ⟨_,rfl⟩ ?_ λb o hb e=>sb.extBut b o (λz=>hb (by simp[z])) e;rw[show ((i+1:Nat):Int)=(i:Int)+1 by simp,show lo+((i:Int)+1)*c=lo+i*c+c by rw[Int.add_mul,Int.one_mul,Int.add_assoc],show (n:Int)-((i:Int)+1)=n-i-1 by ac_rfl];exact t'
noncomputable abbrev cB:=Sum Int bi
noncomputable def wP:cB->ac->Bool
  | .inl k,v=>Vf k v
  | .inr x,v=>UM x v
noncomputable def Qh(w:bm):cB->Int
  | .inl k=>UY k
  | .inr x=>hashStr w x
theorem dL:∀{k:cB} {v:ac},wP k v=ai->(∃i t,k=dt i/\v=Value.int i t) \/ (∃x t,k=vz x/\v=Value.str x t)
  | .inl i,v,h=>by
    obtain⟨t,e⟩:=Value.isInt_shape (k:=i) (v:=v) h;exact .inl ⟨i,t,rfl,e⟩
  | .inr x,v,h=>by
    obtain⟨t,e⟩:=Value.isStrOf_shape (x:=x) (v:=v) h;exact .inr ⟨x,t,rfl,e⟩
theorem Du(i:Int)(t:Tok):wP (.inl i) (.int i t)=ai:=by simp[wP,Vf]
theorem Dt(x:bi)(t:Tok):wP (.inr x) (.str x t)=ai:=by simp[wP,UM]
theorem Ky(a b:Int):decide ((dt a:cB)=dt b)=(a==b):=by
  by_cases e:a=b
  . subst e;simp
  . have h:¬(dt a:cB)=dt b:=λq=>e (dt.inj q);rw[decide_eq_false h];exact(beq_eq_false_iff_ne.mpr e).symm
theorem Kv(a b:bi):decide ((vz a:cB)=vz b)=decide (a=b):=by
  by_cases e:a=b
  . subst e;simp
  . have h:¬(vz a:cB)=vz b:=λq=>e (vz.inj q);rw[decide_eq_false h,decide_eq_false e]
theorem Kx(a:Int)(b:bi):decide ((dt a:cB)=vz b)=ak:=decide_eq_false (λq=>nomatch q)
theorem Kw(a:bi)(b:Int):decide ((vz a:cB)=dt b)=ak:=decide_eq_false (λq=>nomatch q)
noncomputable def eU(prog:ar)(w:bm):PySem.KeyKind prog w cB where
  is:=wP
  hash:=Qh w
  inj:=λv a b ha hb=>by
    rcases dL ha with⟨i,t,rfl,rfl⟩ | ⟨x,t,rfl,rfl⟩
    . rcases dL hb with⟨j,u,rfl,e⟩ | ⟨y,u,rfl,e⟩
      . injection e with e1 _;rw[e1]
      . exact nomatch e
    . rcases dL hb with⟨j,u,rfl,e⟩ | ⟨y,u,rfl,e⟩
      . exact nomatch e
      . injection e with e1 _;rw[e1]
  byValue:=λk v h=>by
    rcases dL h with⟨i,t,rfl,rfl⟩ | ⟨x,t,rfl,rfl⟩<;>rfl
  pyHash:=λhv h=>by
    rcases dL hv with⟨i,t,rfl,rfl⟩ | ⟨x,t,rfl,rfl⟩
    . exact wpAny_pyHash_int h
    . exact wpAny_pyHash_str h
  eqBool:=λhu hv h=>by
    rcases dL hu with⟨i,t,rfl,rfl⟩ | ⟨x,t,rfl,rfl⟩
    . rcases dL hv with⟨j,u,rfl,rfl⟩ | ⟨y,u,rfl,rfl⟩
      . rw[Ky] at h;exact Tr h
      . rw[Kx] at h;exact SeqAt.EqAt.int_str i t y u _ _ _ _ h
    . rcases dL hv with⟨j,u,rfl,rfl⟩ | ⟨y,u,rfl,rfl⟩
      . rw[Kw] at h;exact SeqAt.EqAt.str_int x t j u _ _ _ _ h
      . rw[Kv] at h;exact wpAny_eqBool_str h
  «strs» := λk x t v h=>by
    rcases dL h with⟨i,u,rfl,e⟩ | ⟨y,u,rfl,e⟩
    . exact nomatch e
    . injection e with e1 _;subst e1;cases v<;>rfl
theorem Ae(prog:ar)(w:bm)(i:Int)(t:Tok):(eU prog w).is (.inl i) (.int i t)=ai:=Du i t
theorem Ad(prog:ar)(w:bm)(x:bi)(t:Tok):(eU prog w).is (.inr x) (.str x t)=ai:=Dt x t
inductive V where
  |non | bl (b:Bool) | int (i:Int) | str (x:bi) | byt (b:Array UInt8) | flt (b:UInt64) | ref (a:ae) | ty (n:String)
  deriving DecidableEq
noncomputable def cG:V->ac->Prop
  | .non,u=>u=jt
  | .bl b,u=>u=yy b
  | .int i,u=>∃t,u=Value.int i t
  | .str x,u=>∃t,u=Value.str x t
  | .byt b,u=>∃t,u=Vg b t
  | .flt b,u=>∃t,u=TR b t
  | .ref a,u=>u=Value.ref a
  | .ty n,u=>u=yz n
noncomputable abbrev b8:List V->List ac->Prop:=Paired cG
theorem b8.length{xs:List V}{us:List ac}(r:b8 xs us):xs.length=us.length:=Paired.length r
theorem b8.get:∀{xs:List V} {us:List ac} {i:Nat} {x:V},b8 xs us->xs[i]?=aa x -> ∃u,us[i]?=aa u/\cG x u
  |_,_,_,_,.nil,e=>by simp at e
  |_,_,0,_,.cons r _,e=>by simp at e;subst e;exact⟨_,rfl,r⟩
  |_,_,i+1,x,.cons _ t,e=>by
    obtain⟨u,h1,h2⟩:=b8.get (i:=i) (x:=x) t (by simpa using e);exact⟨u,by simpa using h1,h2⟩
theorem b8.append:∀{xs ys:List V} {us ws:List ac},b8 xs us->b8 ys ws->b8 (xs++ys) (us++ws)
  |_,_,_,_,.nil,s=>s
  |_,_,_,_,.cons r t,s=>.cons r (b8.append t s)
theorem b8.take:∀{xs:List V} {us:List ac} (n:Nat),b8 xs us->b8 (xs.take n) (us.take n)
  |_,_,0,_=>.nil
  |_,_,_+1,.nil=>.nil
  |_,_,n+1,.cons r t=>.cons r (b8.take n t)
theorem b8.drop:∀{xs:List V} {us:List ac} (n:Nat),b8 xs us->b8 (xs.drop n) (us.drop n)
  |_,_,0,r=>r
  |_,_,_+1,.nil=>.nil
  |_,_,n+1,.cons _ t=>b8.drop n t
noncomputable def oJ:Option V->Option ac->Prop
  |some v,aa u=>cG v u
  |none,aq=>True
  |_,_=>False
variable {κ:Type}
noncomputable def KV:List (κ×V)->List (κ×ac)->Prop:=Paired λ(p:κ×V) (q:κ×ac)=>p.1=q.1/\cG p.2 q.2
noncomputable def kV:cB->V
  | .inl i=>.int i
  | .inr x=>.str x
inductive HO where
  /-- a list -/
  |lst (xs:List V)
  /-- a tuple (never changes) -/
  |tup (xs:List V)
  /-- a dict whose keys are ints and texts;one whose keys are tuples of ints and texts (the empty one is both) -/
  |dK (kvs:List (cB×V)) | dT (ep:Nat) (kvs:List (List cB×V))
  /-- a set of ints: its members,its size -/
  |set (S:Int->Bool) (n:Nat)
  /-- an instance of the class at C,its dict at dx,its attributes -/
  |ins (C dx:ae) (fs:List (bi×V))
  /-- the dict of the instance at x -/
  |own (x:ae)
  /-- the dict of an exception -/
  |xd (fs:List (bi×V))
  /-- a bound method,f of x -/
  |met (f x:ae)
  /-- a range object lo,lo+1,.. below hi -/
  |rng (lo hi:Int)
  /-- a thing that is known to the object (the script;a dict while a loop walks it): read,never written while it is so -/
  |frz (o:jq) (u:HO)
  /-- a code object's table -/
  |tbl (ps:Array ac)
  /-- a code object's table whose lambdas are named q;such a lambda's code -/
  |lam (q:bi) | cod (q:bi)
  /-- any other thing,by what is ai of its one object (a def of one's own: SetO a S n:=HO.ext λh=>..) -/
  |ext (φ:cm->Prop)
noncomputable abbrev Hp:=ae->Option HO
noncomputable def upd(H:Hp)(a:ae)(o:HO):Hp:=λb=>if b=a then aa o else H b
variable {H:Hp}
theorem bT{o:HO}:upd H a o a=aa o:=by unfold upd;rw[VH rfl]
variable {b:ae}
theorem bC{o:HO}(h:b≠a):upd H a o b=H b:=by unfold upd;rw[Vn h]
theorem My{o u:HO}(h:H a=aa o)(h':H b=aa u)(d:o≠u):a≠b:=by
  intro e;subst e;rw[h] at h';exact d (Option.some.inj h')
theorem b7{o:HO}(h:H a=aa o)(h':H b=aq):a≠b:=by
  intro e;subst e;rw[h] at h';cases h'
section
variable (P:ar)(w:bm)
noncomputable def cZ(H:Hp)(h:cm)(a:ae):HO->Prop
  | .lst xs=>xs.length<=bf /\ ∃(its:List ac) (n:Nat),b8 xs its/\h.get? a=aa { cls:=.type "list",data:=.seq its.toArray n }
  | .tup xs=>xs.length<=bf /\ ∃its:List ac,b8 xs its/\US h a its.toArray
  | .dK kvs=>kvs.length<=bf/\(a==fq)=ak /\ ∃vs,KV kvs vs/\h.DictOf (eU P w) a vs
  | .dT ep kvs=>kvs.length<=bf/\(a==fq)=ak /\ ∃xs:List (List cB×ae×ac),
      Paired (λ(p:List cB×V) (q:List cB×ae×ac)=>p.1=q.1/\H q.2.1=aa (.tup (p.1.map kV))/\cG p.2 q.2.2) kvs xs /\
      ∃o es,h.get? a=aa o/\o.ExactDict/\o.data=.dict es ep/\es.toList=xs.map (entryOfKey (xp (eU P w)))/\(xs.map (·.1)).Nodup
  | .set S n=>h.SetOf (intKind P w) a S n
  | .ins C dx fs=>H dx=aa (.own a)/\fs.length<=1000/\dx≠a/\h.get? a=aa (rj C dx) /\
      ∃mA,h.Ns1 dx mA/\(∀f,oJ (fs.lookup f) (mA f))/\zr mA (fs.map (·.1))
  | .own _=>∃o,h.get? a=aa o
  | .xd fs=>∃mA,h.Ns1 a mA /\ ∀f,oJ (fs.lookup f) (mA f)
  | .rng lo hi=>∃t u v,h.get? a=aa { cls:=.type "range",data:=.fields #[.int lo t,.int hi u,.int 1 v] }
  | .frz o u=>h.get? a=aa o/\cZ H h a u
  | .tbl ps=>h.get? a=aa { cls:=.none,data:=.fields ps }
  | .lam q=>∃ps:Array ac,h.get? a=aa (W.tabObj ps)/\TriplesOk ps.toList /\ ∀p:jr,codeAmong p ps.toList=aq \/ ∃c,codeAmong p ps.toList=aa (.ref c)/\H c=aa (.cod q)
  | .cod q=>h.CodeRec (.ref a) q
  | .met f x=>h.get? a=aa (TU (.ref f) (.ref x))
  | .ext φ=>φ h/\(∃o,h.get? a=aa o) /\ ∀h1 h2:cm,φ h1->(∀o,h1.get? a=aa o->h2.get? a=aa o)->φ h2
noncomputable def pU(H:Hp)(h:cm):Prop:=∀a o,H a=aa o->cZ P w H h a o
end
variable {H':Hp}
section
variable {o:HO}
theorem cZ.lt(x:cZ P w H h a o):a<h.objs.size:=by
  cases o with
  |lst xs=>obtain⟨_,_,_,_,e⟩:=x;exact be e
  |tup xs=>obtain⟨_,_,_,p⟩:=x;exact p.lt
  |dK kvs=>obtain⟨_,_,_,_,o,_,_,e,_⟩:=x;exact be e
  |dT ep kvs=>obtain⟨_,_,_,_,o,_,e,_⟩:=x;exact be e
  |set S n=>obtain⟨o,_,_,_,e,_⟩:=x;exact be e
  |ins C dx fs=>obtain⟨_,_,_,e,_⟩:=x;exact be e
  |own y=>obtain⟨_,e⟩:=x;exact be e
  |xd fs=>obtain⟨_,⟨_,_,_,e,_⟩,_⟩:=x;exact be e
  |rng lo hi=>obtain⟨_,_,_,e⟩:=x;exact be e
  |frz ob u=>obtain⟨e,_⟩:=x;exact be e
  |tbl ps=>exact be (show h.get? a=aa _ from x)
  |lam q=>obtain⟨_,e,_⟩:=x;exact be e
  |cod q=>obtain⟨_,_,_,_,e,e2,_⟩:=x;cases e;exact be e2
  |met f y=>exact be (show h.get? a=aa _ from x)
  |ext φ=>obtain⟨_,⟨_,e⟩,_⟩:=x;exact be e
theorem Paired.mapP{α β:Type}{F G:α->β->Prop}:∀{l₁:List α} {l₂:List β},Paired F l₁ l₂->(∀a b,F a b->G a b)->Paired G l₁ l₂
  |_,_,.nil,_=>.nil
  |_,_,.cons r t,f=>.cons (f _ _ r) (Paired.mapP t f)
theorem cZ.stay(x:cZ P w H h a o)(k:∀b u,(b=a \/ H b=aa (.own a))->h.get? b=aa u->h'.get? b=aa u)
    (ho:∀b,H b=aa (.own a)->H' b=aa (.own a)) (ht:∀b xs,H b=aa (.tup xs)->H' b=aa (.tup xs)) (hc:∀b q,H b=aa (.cod q)->H' b=aa (.cod q)):cZ P w H' h' a o:=by
  induction o with
  |lst xs=>obtain⟨z,its,n,r,e⟩:=x;exact⟨z,its,n,r,k _ _ (.inl rfl) e⟩
  |tup xs=>obtain⟨z,its,r,ob,e,c⟩:=x;exact⟨z,its,r,ob,k _ _ (.inl rfl) e,c⟩
  |dK kvs=>obtain⟨z,y,vs,r,ob,es,ep,e,c⟩:=x;exact⟨z,y,vs,r,ob,es,ep,k _ _ (.inl rfl) e,c⟩
  |dT ep kvs=>
    obtain⟨z,y,xs,r,ob,es,e,c⟩:=x;exact⟨z,y,xs,Paired.mapP r λp q z=>⟨z.1,ht _ _ z.2.1,z.2.2⟩,ob,es,k _ _ (.inl rfl) e,c⟩
  |set S n=>obtain⟨ob,es,ep,t,e,c⟩:=x;exact⟨ob,es,ep,t,k _ _ (.inl rfl) e,c⟩
  |ins C dx fs=>
    obtain⟨d,z,ne,e,mA,⟨od,es,ep,e2,c⟩,r⟩:=x;exact⟨ho _ d,z,ne,k _ _ (.inl rfl) e,mA,⟨od,es,ep,k _ _ (.inr d) e2,c⟩,r⟩
  |own y=>obtain⟨ob,e⟩:=x;exact⟨ob,k _ _ (.inl rfl) e⟩
  |xd fs=>obtain⟨mA,⟨od,es,ep,e,c⟩,r⟩:=x;exact⟨mA,⟨od,es,ep,k _ _ (.inl rfl) e,c⟩,r⟩
  |rng lo hi=>obtain⟨t,u,v,e⟩:=x;exact⟨t,u,v,k _ _ (.inl rfl) e⟩
  |frz ob u ih=>obtain⟨e,q⟩:=x;exact⟨k _ _ (.inl rfl) e,ih q⟩
  |tbl ps=>
    have e:h.get? a=aa { cls:=.none,data:=.fields ps }:=x;show h'.get? a=aa { cls:=.none,data:=.fields ps };exact k a _ (.inl rfl) e
  |lam q=>
    obtain⟨ps,e,t,f⟩:=x;exact⟨ps,k _ _ (.inl rfl) e,t,λp=>(f p).imp_right λzq1=>by obtain⟨c,e1,e2⟩:=zq1;exact⟨c,e1,hc _ _ e2⟩⟩
  |cod q=>
    obtain⟨_,o,vs,t,e,e2,e3⟩:=x;cases e;exact⟨a,o,vs,t,rfl,k _ _ (.inl rfl) e2,e3⟩
  |met f y=>
    have e:h.get? a=aa (TU (.ref f) (.ref y)):=x;show h'.get? a=aa (TU (.ref f) (.ref y));exact k a _ (.inl rfl) e
  |ext φ=>obtain⟨p,⟨o,e⟩,st⟩:=x;exact⟨st _ _ p λo q=>k _ _ (.inl rfl) q,⟨o,k _ _ (.inl rfl) e⟩,st⟩
theorem pU.lt(x:pU P w H h)(e:H a=aa o):a<h.objs.size:=(x a o e).lt
theorem pU.fresh(x:pU P w H h)(e:h.objs.size<=a):H a=aq:=by
  cases q:H a with
  |none=>rfl
  |some u=>exact absurd (di (x.lt q) e) (ny _)
theorem pU.kept(x:pU P w H h)(k:∀b u,h.get? b=aa u->h'.get? b=aa u):pU P w H h':=λa o e=>
  (x a o e).stay (λb u _ q=>k b u q) (λ_ q=>q) (λ_ _ q=>q) λ_ _ q=>q
theorem pU.laid(x:pU P w H h)(k:∀b u,h.get? b=aa u->h'.get? b=aa u)(hp:h.objs.size<=a)(new:cZ P w (upd H a o) h' a o):pU P w (upd H a o) h':=λb u e=>by
  have hn:=x.fresh hp;by_cases hb:b=a
  . subst hb;rw[bT] at e;cases e;exact new
  . rw[bC hb] at e;exact(x b u e).stay (λc v _ q=>k c v q) (λc q=>by rw[bC (b7 q hn)];exact q) (λc xs q=>by rw[bC (b7 q hn)];exact q) λc xs q=>by rw[bC (b7 q hn)];exact q
end
noncomputable def Rd(H:Hp)(a:ae)(u:HO):Prop:=H a=aa u \/ ∃o,H a=aa (.frz o u)
theorem Rd.ok{u:HO}(r:Rd H a u)(x:pU P w H h):cZ P w H h a u:=by
  rcases r with r | ⟨o,r⟩
  . exact x a u r
  . obtain⟨_,q⟩:=x a _ r;exact q
noncomputable def EH:Option HO->Prop
  |some (.lst _)=>True
  |some (.dK _)=>True
  |some (.dT _ _)=>True
  |some (.set _ _)=>True
  |some (.ins _ _ _)=>True
  |some (.ext _)=>True
  |_=>False
section
variable {x e:ae}{o':HO}
theorem pU.write(ok:pU P w H h)(mu:EH (H x))(he:e=x \/ H e=aa (.own x))(k:∀b u,b≠e->h.get? b=aa u->h'.get? b=aa u)(heo:∃u,h'.get? e=aa u)
    (new:cZ P w (upd H x o') h' x o'):pU P w (upd H x o') h':=λb u q=>by
  have nown:∀c y,H c=aa (.own y)->c≠x:=λc y r z=>by subst z;rw[r] at mu;exact mu
  have ntup:∀c xs,H c=aa (.tup xs)->c≠x:=λc xs r z=>by subst z;rw[r] at mu;exact mu
  have ncod:∀c q,H c=aa (.cod q)->c≠x:=λc xs r z=>by subst z;rw[r] at mu;exact mu
  by_cases hb:b=x
  . subst hb;rw[bT] at q;cases q;exact new
  . rw[bC hb] at q;by_cases hbe:b=e
    . have q':H b=aa (.own x):=by
        rcases he with z | z
        . exact absurd (hbe.trans z) hb
        . rw[hbe];exact z
      rw[q] at q';cases q';obtain⟨v,hv⟩:=heo;exact⟨v,by rw[hbe];exact hv⟩
    . refine(ok b u q).stay (λc v hc r=>k c v ?_ r) (λc r=>by rw[bC (nown c b r)];exact r) (λc xs r=>by rw[bC (ntup c xs r)];exact r) λc xs r=>by rw[bC (ncod c xs r)];exact r
      rcases hc with rfl | hc
      . exact hbe
      . rintro rfl;rcases he with z | z
        . exact nown c b hc z
        . rw[hc] at z;cases z;exact hb rfl
end
structure Un(fs ex:List ae)(H H':Hp)(h h':cm):Prop where
  keep:∀b o,h.get? b=aa o->H b=aq->b ∉ fs->b ∉ ex->h'.get? b=aa o
  slot:∀b o,h.get? b=aa o->H b=aq->b∈fs->b ∉ ex -> ∃sl,h'.get? b=aa { o with slots:=sl }
  free:∀b o,h.get? b=aa o->H b=aq->b ∉ ex->H' b=aq
  there:∀b o,h.get? b=aa o->b ∉ ex -> ∃o',h'.get? b=aa o'
  tups:∀b xs,H b=aa (.tup xs)->H' b=aa (.tup xs)
  frzs:∀b o u,H b=aa (.frz o u)->H' b=aa (.frz o u)
  tbls:∀b ps,H b=aa (.tbl ps) -> ∃more,H' b=aa (.tbl (ps++more))
section
variable {fs fs' ex ex':List ae}{H1 H2:Hp}{h1 h2:cm}{x e:ae}{o:HO}
theorem Un.any(u:Un fs ex H H1 h h1){ob:jq}(q:h.get? b=aa ob)(n:H b=aq)(hx:b ∉ ex):∃sl,h1.get? b=aa { ob with slots:=sl }:=by
  by_cases hb:b∈fs
  . exact u.slot b ob q n hb hx
  . exact⟨ob.slots,u.keep b ob q n hb hx⟩
theorem Un.kept(k:∀b u,h.get? b=aa u->h'.get? b=aa u):Un fs ex H H h h':=
  ⟨λb ob q _ _ _=>k b ob q,λb ob q _ _ _=>⟨ob.slots,k b ob q⟩,λ_ _ _ n _=>n,λb ob q _=>⟨ob,k b ob q⟩,λ_ _ q=>q,λ_ _ _ q=>q,λ_ ps q=>⟨#[],by rw[q];simp⟩⟩
theorem Un.refl:Un fs ex H H h h:=Un.kept λ_ _ q=>q
theorem Un.laid(k:∀b u,h.get? b=aa u->h'.get? b=aa u)(hp:h.objs.size<=a)(hn:H a=aq):Un fs ex H (upd H a o) h h' where
  keep:=λb u q _ _ _=>k b u q
  slot:=λb u q _ _ _=>⟨u.slots,k b u q⟩
  free:=λb u q n _=>by rw[bC (fh (di (be q) hp))];exact n
  there:=λb u q _=>⟨u,k b u q⟩
  tups:=λb xs q=>by rw[bC (b7 q hn)];exact q
  frzs:=λb u xs q=>by rw[bC (b7 q hn)];exact q
  tbls:=λb ps q=>⟨#[],by rw[bC (b7 q hn),q];simp⟩
theorem Un.write(mu:EH (H x))(he:e=x \/ H e=aa (.own x))(k:∀b u,b≠e->h.get? b=aa u->h'.get? b=aa u)(heo:∃u,h'.get? e=aa u):Un fs ex H (upd H x o) h h':=by
  have hx:∀b,H b=aq->b≠x:=λb n z=>by subst z;rw[n] at mu;exact mu
  have hb:∀b,H b=aq->b≠e:=λb n z=>by
    subst z;rcases he with r | r
    . exact hx b n r
    . rw[n] at r;cases r
  have hm:∀b u,H b=aa u -> ¬EH (aa u)->b≠x:=λb u q nm z=>by subst z;rw[q] at mu;exact nm mu
  refine⟨λb u q n _ _=>k b u (hb b n) q,λb u q n _ _=>⟨u.slots,k b u (hb b n) q⟩,λb u q n _=>by rw[bC (hx b n)];exact n,λb u q _=>?_,
    λb xs q=>by rw[bC (hm b _ q λz=>z)];exact q,λb u xs q=>by rw[bC (hm b _ q λz=>z)];exact q,λb ps q=>⟨#[],by rw[bC (hm b _ q λz=>z),q];simp⟩⟩
  by_cases hbe:b=e
  . subst hbe;exact heo
  . exact⟨u,k b u hbe q⟩
end
noncomputable def trk(h:cm)(H:Hp):List ae:=(ig h.objs.size).filter λa=>(H a).isSome
noncomputable def yJ(h:cm)(H:Hp):cm:=W.hideAll h (trk h H)
theorem E2(h:cm)(H:Hp):(yJ h H).objs.size=h.objs.size:=W.hideAll_size _ _
theorem GP(e:h.get? b=aa o)(n:H b=aq):(yJ h H).get? b=aa o:=
  W.hideAll_get _ e λhm=>by
    have q:(H b).isSome=ai:=(dw.mp hm).2;rw[n] at q;simp at q
theorem IC(e:(yJ h H).get? b=aa o):h.get? b=aa o/\H b=aq:=by
  have e':h.get? b=aa o:=W.of_hideAll (trk h H) e;refine⟨e',?_⟩;cases q:H b with
  |none=>rfl
  |some x=>
    have hm:b∈trk h H:=dw.mpr ⟨xq.mpr (be e'),by simp[q]⟩;have z:(yJ h H).get? b=aq:=W.hideAll_none (trk h H) hm;rw[z] at e;cases e
structure Mod(K:aj)(mg:bi->Option ac)(base:cm):Prop where
  kin:K.In base
  glob:base.Ns gg mg
  blt:∃mb,base.Ns Ui mb /\ ∀x:bi,x ≠ "__name__" -> mb x=mh x
  nolimit:base.NoLimit
/-- the context: a def's VU (or a comprehension's block) running. base: fixed through the VT law;s₀,HZ: the entry;outer: the frames whose slots others may change (a def's callers);stack: all frames that run;
   ex: iterators that were made ahead of the entry and are walked here (a comprehension's);fn: the names whose VZ were made at the entry (a def: all;a comprehension's block: its own);calm: not within an except suite;pn: pj that every state bears;xe: what is wanted of an exception that leaves the code -/
structure Cx where
  prog:ar
  w:bm
  K:aj
  mg:bi->Option ac
  base:cm
  A:bx
  N:List bi
  s₀:ah
  HZ:Hp
  env:wu
  outer:List wu
  stack:List wu
  ex:List ae
  fn:bi->Bool
  calm:Bool
  pn:List (ae×jq)
  xe:ac->ah->Prop
  hs:List ae
noncomputable def frs(l:List wu):List ae:=l.filterMap (·.frame)
noncomputable abbrev Cx.fs(X:Cx):List ae:=frs X.outer
noncomputable def Ol(sc:Scope)(x:bi):Prop:=sc.names.lookup x=aa .local \/ sc.names.lookup x=aa .cell \/ sc.names.lookup x=aa .free
noncomputable def HE(sc:Scope)(x:bi):Prop:=sc.names.lookup x=aa .local \/ sc.names.lookup x=aa .cell
noncomputable def RW(env:wu)(h:cm)(m:bi->Option ac)(x:bi)(u:ac):Prop:=
  (env.kindOf x=aa .local/\m x=aa u) \/ ((env.kindOf x=aa .cell \/ env.kindOf x=aa .free) /\ ∃c,env.cells.lookup x=aa c/\h.IsCell c (aa u))
structure Cx.Ok(X:Cx):Prop where
  mod:Mod X.K X.mg X.base
  kind:X.env.scope.kind=.function
  glob:X.env.globals=gg
  blt:X.env.builtins=Ui
  above:X.s₀.heap.objs.size<=X.env.locals
  inj:∀x y c,X.env.cells.lookup x=aa c->X.env.cells.lookup y=aa c->x=y
  has:∀x,(X.env.kindOf x=aa .cell \/ X.env.kindOf x=aa .free) -> ∃c,X.env.cells.lookup x=aa c
  cab:∀x c,X.fn x=ai->X.env.cells.lookup x=aa c->X.s₀.heap.objs.size<=c
  hd:X.calm=ai->X.A.handled=aq
  frames:X.A.frames=aa X.stack
  stk:X.stack=X.outer \/ (X.stack=X.env::X.outer/\X.env.frame=aa X.env.locals)
  exf:∀b∈X.ex,b≠X.env.locals /\ ∀x c,X.env.cells.lookup x=aa c->c≠b
  bs:∀b o,X.base.get? b=aa o->X.s₀.heap.get? b=aa o/\X.HZ b=aq
  bsz:X.base.objs.size<=X.s₀.heap.objs.size
  noex:∀b o,X.base.get? b=aa o->b ∉ X.ex
  exfs:∀b∈X.ex,b ∉ X.fs
  funs:X.s₀.heap.FunFrames X.base X.outer
  frf:∀b∈X.fs,X.HZ b=aq
  hq:X.A.handled=aq \/ ∃a,a∈X.hs/\X.A.handled=aa (.ref a)
structure Inv(X:Cx)(pj:List (ae×jq))(σ:List (Option V))(H:Hp)(s:ah):Prop where
  ok:X.Ok
  os:s.os=X.s₀.os
  bare:uw s.gens
  base:Un X.fs X.ex X.HZ H X.s₀.heap s.heap
  loc:∃m,s.heap.Ns X.env.locals m /\ ∀(i:Nat) (x:bi) (v:V),X.N[i]?=aa x->σ[i]?=aa (aa v)->Ol X.env.scope x -> ∃u,cG v u/\RW X.env s.heap m x u
  cell:∀x c,X.env.cells.lookup x=aa c -> ∃v,s.heap.IsCell c v
  free:H X.env.locals=aq
  freeC:∀x c,X.env.cells.lookup x=aa c->H c=aq
  pin:∀p∈X.pn++pj,s.heap.get? p.1=aa p.2/\H p.1=aq/\p.1≠X.env.locals/\p.1 ∉ X.fs /\ ∀v,p.2.data ≠ .cell v
  hok:pU X.prog X.w H s.heap
  len:σ.length=X.N.length
  mild:∀a∈X.hs,∃o u,H a=aa (.frz o u)/\sX o
variable {v:V}{g':Array zv}{t' j:Nat}{d':VF}{ch:List ae}{s':ah}{X:Cx}
section
variable {σ:List (Option V)}
theorem Cx.Ok.nofr(ok:X.Ok)(e:X.base.get? b=aa o):b ∉ X.fs:=λhb=>by
  have:=(ok.funs.mem hb).1;rw[e] at this;cases this
theorem Inv.bs(I:Inv X pj σ H s):∀b o,X.base.get? b=aa o->s.heap.get? b=aa o/\H b=aq:=λb o e=>
  ⟨I.base.keep b o (I.ok.bs b o e).1 (I.ok.bs b o e).2 (I.ok.nofr e) (I.ok.noex b o e),I.base.free b o (I.ok.bs b o e).1 (I.ok.bs b o e).2 (I.ok.noex b o e)⟩
theorem Inv.qu(I:Inv X pj σ H s):Qu X.A s.heap:=by
  rcases I.ok.hq with e | ⟨a,ha,e⟩
  . exact .inl e
  . obtain⟨o,u,g,m⟩:=I.mild a ha;obtain⟨ho,_⟩:=(show cZ X.prog X.w H s.heap a (.frz o u) from I.hok a _ g);exact .inr ⟨a,o,e,ho,m⟩
theorem Inv.bk(I:Inv X pj σ H s):∀b o,X.base.get? b=aa o->s.heap.get? b=aa o:=λb o e=>(I.bs b o e).1
theorem Inv.mod(I:Inv X pj σ H s):Mod X.K X.mg X.base:=I.ok.mod
theorem Inv.kIn(I:Inv X pj σ H s):X.K.In s.heap:=I.ok.mod.kin.keeps I.bk
theorem Inv.lt(I:Inv X pj σ H s):X.env.locals<s.heap.objs.size:=let ⟨_,hn,_⟩:=I.loc;hn.lt
theorem Inv.sz(I:Inv X pj σ H s):X.s₀.heap.objs.size<=s.heap.objs.size:=lh I.ok.above (zt I.lt)
theorem Inv.nofs(I:Inv X pj σ H s)(h:s.heap.objs.size<=a):a ∉ X.fs:=λhb=>by
  obtain⟨_,o,ho,_⟩:=I.ok.funs.mem hb;exact absurd (di (be ho) (lh I.sz h)) (ny _)
theorem Inv.cne(I:Inv X pj σ H s):∀x c,X.env.cells.lookup x=aa c->c≠X.env.locals:=λx c e z=>by
  obtain⟨v,o,ho,hd⟩:=I.cell x c e;obtain⟨m,⟨o',es,ep,ho',hd',_⟩,_⟩:=I.loc;rw[z,ho'] at ho;cases ho;rw[hd'] at hd;cases hd
theorem Inv.funs(I:Inv X pj σ H s):s.heap.FunFrames X.base X.outer:=by
  have all:∀(l:List wu),(∀b∈frs l,b∈X.fs)->X.s₀.heap.FunFrames X.base l->s.heap.FunFrames X.base l:=by
    intro l;induction l with
    |nil=>intro _ _;trivial
    |cons env r ih=>
      intro hs hl;obtain⟨hk,⟨L,o,hf,hn,ho,hd⟩,hr⟩:=hl;have hL:L∈X.fs:=hs L (by unfold frs;rw[sw,hf];exact cj);obtain⟨sl,e⟩:=I.base.slot L o ho (I.ok.frf L hL) hL λz=>I.ok.exfs L z hL;exact⟨hk,⟨L,_,hf,hn,e,hd⟩,ih (λb hb=>hs b (by unfold frs;rw[sw,hf];exact bg _ hb)) hr⟩
  exact all X.outer (λ_ hb=>hb) I.ok.funs
theorem Inv.stack(I:Inv X pj σ H s):s.heap.FunFrames X.base X.stack:=by
  rcases I.ok.stk with e | ⟨e,hf⟩
  . rw[e];exact I.funs
  . rw[e];obtain⟨m,hn,_⟩:=I.loc;refine .cons (by rw[I.ok.kind];decide) hf hn ?_ I.funs;exact Heap.get?_none_of_le (lh I.ok.bsz I.ok.above)
theorem Inv.stkSub(I:Inv X pj σ H s):∀b∈frs X.stack,b∈X.env.locals::X.fs:=λb hb=>by
  rcases I.ok.stk with e | ⟨e,hf⟩
  . rw[e] at hb;exact bg _ hb
  . rw[e] at hb;unfold frs at hb;rw[sw,hf] at hb;exact hb
theorem Inv.stkFree(I:Inv X pj σ H s):∀b∈frs X.stack,H b=aq:=λb hb=>by
  rcases br.mp (I.stkSub b hb) with e | hb
  . rw[e];exact I.free
  . obtain⟨_,o,ho,_⟩:=I.ok.funs.mem hb;exact I.base.free b o ho (I.ok.frf b hb) λz=>I.ok.exfs b z hb
theorem Inv.step(I:Inv X pj σ H s)
    (hch:∀b∈ch,(b∈X.ex \/ X.s₀.heap.objs.size<=b)/\b≠X.env.locals/\(∀x c,X.env.cells.lookup x=aa c->c≠b) /\ ∀p∈X.pn++pj,p.1≠b)
    (keep:∀b o,b≠X.env.locals->b ∉ X.fs->b ∉ ch->s.heap.get? b=aa o->H b=aq->h'.get? b=aa o)
    (slot:∀b o,b≠X.env.locals->b∈X.fs->b ∉ ch->s.heap.get? b=aa o->H b=aq -> ∃sl,h'.get? b=aa { o with slots:=sl }) (free:∀b o,b ∉ ch->s.heap.get? b=aa o->H b=aq->H' b=aq)
    (there:∀b o,b ∉ ch->s.heap.get? b=aa o -> ∃o',h'.get? b=aa o')
    (tups:∀b xs,H b=aa (.tup xs)->H' b=aa (.tup xs)) (frzs:∀b o u,H b=aa (.frz o u)->H' b=aa (.frz o u)) (tbls:∀b ps,H b=aa (.tbl ps) -> ∃more,H' b=aa (.tbl (ps++more)))
    (ns:∀m,s.heap.Ns X.env.locals m->h'.Ns X.env.locals m) (hok:pU X.prog X.w H' h') (hg:uw g'):
    Inv X pj σ H' { s with heap:=h',gens:=g',drawn:=d',toks:=t' }:=by
  have neL:∀b o,X.s₀.heap.get? b=aa o->b≠X.env.locals:=λb o e=>fh (di (be e) I.ok.above);have neC:∀b o,X.s₀.heap.get? b=aa o->b ∉ X.ex->b ∉ ch:=λb o e hx hb=>by
    rcases(hch b hb).1 with z | z
    . exact hx z
    . exact absurd (di (be e) z) (ny _)
  have cellK:∀x c,X.env.cells.lookup x=aa c -> ∀v,s.heap.IsCell c v->h'.IsCell c v:=λx c e v zq2=>by
    obtain⟨o,ho,hd⟩:=zq2;have nch:c ∉ ch:=λz=>(hch c z).2.2.1 x c e rfl;by_cases hc:c∈X.fs
    . obtain⟨sl,q⟩:=slot c o (I.cne x c e) hc nch ho (I.freeC x c e);exact⟨_,q,hd⟩
    . exact⟨o,keep c o (I.cne x c e) hc nch ho (I.freeC x c e),hd⟩
  refine⟨I.ok,I.os,hg,⟨λb o e n hb hx=>?_,λb o e n hb hx=>?_,λb o e n hx=>?_,λb o e hx=>?_,λb xs e=>tups b xs (I.base.tups b xs e),λb o xs e=>frzs b o xs (I.base.frzs b o xs e),λb ps e=>?_⟩,?_,λx c e=>?_,?_,λx c e=>?_,λp hp=>?_,hok,I.len,λa ha=>let ⟨o,u,g,m⟩:=I.mild a ha;⟨o,u,frzs a o u g,m⟩⟩
  . exact keep b o (neL b o e) hb (neC b o e hx) (I.base.keep b o e n hb hx) (I.base.free b o e n hx)
  . obtain⟨sl,e1⟩:=I.base.slot b o e n hb hx;obtain⟨sl',e2⟩:=slot b _ (neL b o e) hb (neC b o e hx) e1 (I.base.free b o e n hx);exact⟨sl',e2⟩
  . obtain⟨o',e1⟩:=I.base.there b o e hx;exact free b o' (neC b o e hx) e1 (I.base.free b o e n hx)
  . obtain⟨o',e1⟩:=I.base.there b o e hx;exact there b o' (neC b o e hx) e1
  . obtain⟨m1,e1⟩:=I.base.tbls b ps e;obtain⟨m2,e2⟩:=tbls b _ e1;exact⟨m1++m2,by rw[e2,Array.append_assoc]⟩
  . obtain⟨m,hn,hl⟩:=I.loc;refine⟨m,ns m hn,λi x v e1 e2 e3=>?_⟩;obtain⟨u,r,l⟩:=hl i x v e1 e2 e3;refine⟨u,r,?_⟩;rcases l with l | ⟨k,c,e,z⟩
    . exact .inl l
    . exact .inr ⟨k,c,e,cellK x c e _ z⟩
  . obtain⟨v,z⟩:=I.cell x c e;exact⟨v,cellK x c e v z⟩
  . obtain⟨m,⟨o,_,_,ho,_⟩,_⟩:=I.loc;exact free _ o (λz=>(hch _ z).2.1 rfl) ho I.free
  . obtain⟨v,o,ho,hd⟩:=I.cell x c e;exact free c o (λz=>(hch c z).2.2.1 x c e rfl) ho (I.freeC x c e)
  . obtain⟨e,n,ne,nf,d⟩:=I.pin p hp;have nch:p.1 ∉ ch:=λz=>(hch p.1 z).2.2.2 p hp rfl;exact⟨keep p.1 p.2 ne nf nch e n,free p.1 p.2 nch e n,ne,nf,d⟩
theorem Inv.un(I:Inv X pj σ H s)(u:Un X.fs [] H H' s.heap h')(hok:pU X.prog X.w H' h'):Inv X pj σ H' { s with heap:=h',toks:=t' }:=by
  obtain⟨m,⟨o,es,ep,ho,r⟩,_⟩:=id I.loc;obtain⟨sl,hL⟩:=u.any ho I.free (by simp);exact I.step (g':=s.gens) (d':=s.drawn) (ch:=[]) (λ_ z=>nomatch z) (λb o _ hb _ e n=>u.keep b o e n hb (by simp)) (λb o _ hb _ e n=>u.slot b o e n hb (by simp)) (λb o _ e n=>u.free b o e n (by simp)) (λb o _ e=>u.there b o e (by simp)) u.tups u.frzs u.tbls (λm' hm=>by
    obtain⟨o',es',ep',ho',r'⟩:=hm;rw[ho] at ho';cases ho';exact⟨_,es',ep',hL,r'⟩) hok I.bare
theorem Inv.call(I:Inv X pj σ H s)(u:Un (frs X.stack) ch H H' s.heap h')(hok:pU X.prog X.w H' h')(hg:uw g')
    (hch:∀b∈ch,(b∈X.ex \/ X.s₀.heap.objs.size<=b)/\b≠X.env.locals/\(∀x c,X.env.cells.lookup x=aa c->c≠b) /\ ∀p∈X.pn++pj,p.1≠b):
    Inv X pj σ H' { s with heap:=h',gens:=g',drawn:=d',toks:=t' }:=by
  obtain⟨m,⟨o,es,ep,ho,r⟩,_⟩:=id I.loc;obtain⟨sl,hL⟩:=u.any ho I.free λz=>(hch _ z).2.1 rfl;exact I.step (ch:=ch) hch (λb o hL hb hc e n=>u.keep b o e n (λz=>(br.mp (I.stkSub b z)).elim hL hb) hc) (λb o _ _ hc e n=>u.any e n hc) (λb o hc e n=>u.free b o e n hc) (λb o hc e=>u.there b o e hc) u.tups u.frzs u.tbls (λm' hm=>by
    obtain⟨o',es',ep',ho',r'⟩:=hm;rw[ho] at ho';cases ho';exact⟨_,es',ep',hL,r'⟩) hok hg
theorem Inv.turned(I:Inv X pj σ H s)(k:∀b o,b≠it->s.heap.get? b=aa o->h'.get? b=aa o)(hn:H it=aq)(hL:it≠X.env.locals)
    (h1:it∈X.ex \/ X.s₀.heap.objs.size<=it) (h2:∀x c,X.env.cells.lookup x=aa c->c≠it) (h3:∀p∈X.pn++pj,p.1≠it):Inv X pj σ H { s with heap:=h',toks:=t' }:=by
  have nit:∀b u,H b=aa u->b≠it:=λb u e z=>by rw[z,hn] at e;cases e
  refine I.step (g':=s.gens) (d':=s.drawn) (ch:=[it]) (λb hb=>?_) (λb o _ _ hc e _=>k b o (λz=>hc (by simp[z])) e) (λb o _ _ hc e _=>⟨o.slots,k b o (λz=>hc (by simp[z])) e⟩) (λ_ _ _ _ n=>n)
    (λb o hc e=>⟨o,k b o (λz=>hc (by simp[z])) e⟩) (λ_ _ e=>e) (λ_ _ _ e=>e) (λb ps e=>⟨#[],by rw[e];simp⟩) (λm hm=>?_) (λb u e=>?_) I.bare
  . have e:b=it:=by simpa using hb
    subst e;exact⟨h1,hL,h2,h3⟩
  . obtain⟨o,es,ep,ho,r⟩:=hm;exact⟨o,es,ep,k _ o (dq hL) ho,r⟩
  . refine(I.hok b u e).stay (λc v hc q=>k c v ?_ q) (λ_ q=>q) (λ_ _ q=>q) λ_ _ q=>q;rcases hc with z | z
    . rw[z];exact nit b u e
    . exact nit c _ z
theorem Inv.tok(I:Inv X pj σ H s)(t:Nat):Inv X pj σ H { s with toks:=t }:=I.un (h':=s.heap) (t':=t) Un.refl I.hok
theorem Inv.kept{t':Nat}(I:Inv X pj σ H s)(k:∀b u,s.heap.get? b=aa u->h'.get? b=aa u):Inv X pj σ H { s with heap:=h',toks:=t' }:=I.un (Un.kept k) (I.hok.kept k)
theorem Inv.laid{a:ae}{o:HO}{t':Nat}(I:Inv X pj σ H s)(k:∀b u,s.heap.get? b=aa u->h'.get? b=aa u)(hp:s.heap.objs.size<=a)(new:cZ X.prog X.w (upd H a o) h' a o):
    Inv X pj σ (upd H a o) { s with heap:=h',toks:=t' }:=I.un (Un.laid k hp (I.hok.fresh hp)) (I.hok.laid k hp new)
theorem Inv.write{x e:ae}{o:HO}{t':Nat}(I:Inv X pj σ H s)(mu:EH (H x))(he:e=x \/ H e=aa (.own x))(k:∀b u,b≠e->s.heap.get? b=aa u->h'.get? b=aa u)(heo:∃u,h'.get? e=aa u)
    (new:cZ X.prog X.w (upd H x o) h' x o):Inv X pj σ (upd H x o) { s with heap:=h',toks:=t' }:=I.un (Un.write mu he k heo) (I.hok.write mu he k heo new)
theorem Inv.pins_of{pins':List (ae×jq)}(I:Inv X pj σ H s)(h:∀p∈pins',s.heap.get? p.1=aa p.2/\H p.1=aq/\p.1≠X.env.locals/\p.1 ∉ X.fs /\ ∀v,p.2.data ≠ .cell v):Inv X pins' σ H s:=
  ⟨I.ok,I.os,I.bare,I.base,I.loc,I.cell,I.free,I.freeC,λp hp=>(de.mp hp).elim (λz=>I.pin p (jf _ z)) (h p),I.hok,I.len,I.mild⟩
theorem AZ(hN:N.Nodup)(a:N[i]?=aa x)(b:N[j]?=aa x):i=j:=by
  obtain⟨h1,e1⟩:=av.mp a;obtain⟨h2,e2⟩:=av.mp b;exact(List.getElem_inj hN).mp (e1.trans e2.symm)
theorem w9{Q:Unit->ah->Prop}(I:Inv X pj σ H s)(hN:X.N.Nodup)(hi:X.N[i]?=aa x)(hx:HE X.env.scope x)(r:cG v u)
    (h:∀s',Inv X pj (σ.set i (aa v)) H s'->(∃a,tj a s.heap s'.heap/\(a=X.env.locals \/ X.env.cells.lookup x=aa a))->Q () s') (hf:autoParam (X.fn x=ai \/ X.env.scope.names.lookup x=aa .local) HB._auto_1):bu M A (storeName X.env x u) Q E s:=by
  obtain⟨m,hn,hl⟩:=id I.loc;have hcls:(X.env.scope.kind == .class || (X.env.scope.kind == .module&&X.env.locals != X.env.globals))=ak:=by rw[I.ok.kind];rfl
  have hiσ:i<σ.length:=by rw[I.len];exact(av.mp hi).1
  have cne:=I.cne;have tracked:∀{a:ae} {h':cm},(∃o,s.heap.get? a=aa o/\H a=aq)->tj a s.heap h'->pU X.prog X.w H h':=λ{a h'} ha hs b ob e=>by
    obtain⟨_,_,hfree⟩:=ha;refine(I.hok b ob e).stay (λc w' hc q=>(hs.2 c ?_).trans q) (λ_ q=>q) (λ_ _ q=>q) λ_ _ q=>q;rintro rfl;rcases hc with rfl | hc
    . rw[hfree] at e;cases e
    . rw[hfree] at hc;cases hc
  rcases hx with hk | hk
  . refine wpAny_storeName_local hk hn (λh' hn' hs=>?_) hcls;obtain⟨oL,_,_,hoL,_⟩:=id hn;refine h _ ⟨I.ok,I.os,I.bare,⟨λb o e n hb hx=>?_,λb o e n hb hx=>?_,I.base.free,λb o e hx=>?_,I.base.tups,I.base.frzs,I.base.tbls⟩,⟨_,hn',λj y v' e1 e2 e3=>?_⟩,λy c e=>?_,I.free,I.freeC,λp hp=>?_,tracked ⟨oL,hoL,I.free⟩ hs,by simpa using I.len,I.mild⟩ ⟨_,hs,.inl rfl⟩
    . exact(hs.2 b (fh (di (be e) I.ok.above))).trans (I.base.keep b o e n hb hx)
    . obtain⟨sl,e1⟩:=I.base.slot b o e n hb hx;exact⟨sl,(hs.2 b (fh (di (be e) I.ok.above))).trans e1⟩
    . obtain⟨o',e1⟩:=I.base.there b o e hx;exact⟨o',(hs.2 b (fh (di (be e) I.ok.above))).trans e1⟩
    . by_cases hj:j=i
      . subst hj;rw[hi] at e1;cases e1;rw[fk hiσ] at e2;cases e2;exact⟨u,r,.inl ⟨hk,by simp⟩⟩
      . rw[dr (dq hj)] at e2;obtain⟨u',r',q⟩:=hl j y v' e1 e2 e3;refine⟨u',r',?_⟩;rcases q with⟨k,e⟩ | ⟨k,c,e,z⟩
        . refine .inl ⟨k,?_⟩;have:y≠x:=λe=>hj (AZ hN e1 (e ▸ hi));simp[this,e]
        . exact .inr ⟨k,c,e,z.sameBut hs (cne y c e)⟩
    . obtain⟨w',z⟩:=I.cell y c e;exact⟨w',z.sameBut hs (cne y c e)⟩
    . obtain⟨e,n,ne,nf,d⟩:=I.pin p hp;exact⟨(hs.2 p.1 ne).trans e,n,ne,nf,d⟩
  . have hfn:X.fn x=ai:=by
      rcases hf with z | z
      . exact z
      . rw[z] at hk;cases hk
    obtain⟨c,hc⟩:=I.ok.has x (.inl hk);obtain⟨w',z⟩:=I.cell x c hc;refine wpAny_storeName_cell I.ok.kind hk hc z (λh' hc' hs=>?_);obtain⟨oc,hoc,hocd⟩:=id z;refine h { s with heap:=h' } ⟨I.ok,I.os,I.bare,⟨λb o e n hb hx=>?_,λb o e n hb hx=>?_,I.base.free,λb o e hx=>?_,I.base.tups,I.base.frzs,I.base.tbls⟩,⟨m,hn.sameBut hs (dq (cne x c hc)),λj y v' e1 e2 e3=>?_⟩,λy c' e=>?_,I.free,I.freeC,λp hp=>?_,tracked ⟨oc,hoc,I.freeC x c hc⟩ hs,by simpa using I.len,I.mild⟩ ⟨c,hs,.inr hc⟩
    . exact(hs.2 b (fh (di (be e) (I.ok.cab x c hfn hc)))).trans (I.base.keep b o e n hb hx)
    . obtain⟨sl,e1⟩:=I.base.slot b o e n hb hx;exact⟨sl,(hs.2 b (fh (di (be e) (I.ok.cab x c hfn hc)))).trans e1⟩
    . obtain⟨o',e1⟩:=I.base.there b o e hx;exact⟨o',(hs.2 b (fh (di (be e) (I.ok.cab x c hfn hc)))).trans e1⟩
    . by_cases hj:j=i
      . subst hj;rw[hi] at e1;cases e1;rw[fk hiσ] at e2;cases e2;exact⟨u,r,.inr ⟨.inl hk,c,hc,hc'⟩⟩
      . rw[dr (dq hj)] at e2;obtain⟨u',r',q⟩:=hl j y v' e1 e2 e3;refine⟨u',r',?_⟩;rcases q with q | ⟨k,c',e,z'⟩
        . exact .inl q
        . refine .inr ⟨k,c',e,z'.sameBut hs ?_⟩;rintro rfl;exact hj (AZ hN e1 (I.ok.inj _ _ _ e hc ▸ hi))
    . by_cases hcc:c'=c
      . subst hcc;exact⟨_,hc'⟩
      . obtain⟨w2,z2⟩:=I.cell y c' e;exact⟨w2,z2.sameBut hs hcc⟩
    . obtain⟨e,n,ne,nf,d⟩:=I.pin p hp;refine⟨(hs.2 p.1 ?_).trans e,n,ne,nf,d⟩;intro q;rw[q,hoc] at e;have q':oc=p.2:=Option.some.inj e;exact d w' (by rw[<- q'];exact hocd)
theorem zW{Q:Unit->ah->Prop}(I:Inv X pj σ H s)(hN:X.N.Nodup)(hi:X.N[i]?=aa x)(hx:HE X.env.scope x)(r:cG v u)
    (h:∀s',Inv X pj (σ.set i (aa v)) H s'->Q () s') (hf:autoParam (X.fn x=ai \/ X.env.scope.names.lookup x=aa .local) HB._auto_1):bu M A (storeName X.env x u) Q E s:=
  w9 I hN hi hx r (λs' I' _=>h s' I') hf
theorem Inv.call'(I:Inv X pj σ H s)(ho:s'.os=s.os)(u:Un (frs X.stack) ch H H' s.heap s'.heap)(hok:pU X.prog X.w H' s'.heap)(hg:uw s'.gens)
    (hch:∀b∈ch,(b∈X.ex \/ X.s₀.heap.objs.size<=b)/\b≠X.env.locals/\(∀x c,X.env.cells.lookup x=aa c->c≠b) /\ ∀p∈X.pn++pj,p.1≠b):Inv X pj σ H' s':=by
  obtain⟨h',g',d',t',o'⟩:=s';have e:o'=s.os:=ho;subst e;exact I.call (g':=g') (t':=t') (d':=d') u hok hg hch
end
noncomputable abbrev XK:=ac->Option ae->Hp->Prop
noncomputable abbrev St:=List (Option V)
noncomputable abbrev VK:=V->Hp->Prop
noncomputable abbrev TE:=St->Hp->VK->Prop
noncomputable abbrev TT:=St->Hp->(Bool->Hp->Prop)->Prop
noncomputable abbrev TA:=St->Hp->(List V->Hp->Prop)->Prop
structure Ends where
  nx:St->Hp->Prop
  rt:VK
  bk:St->Hp->Prop:=λ_ _=>False
  ct:St->Hp->Prop:=λ_ _=>False
noncomputable abbrev TS:=Ends->St->Hp->Prop
inductive EP(X:Cx)(pj:List (ae×jq))(σ:St)(Q:VK)(u:ac)(s':ah):Prop
  |mk (v:V) (H':Hp) (I:Inv X pj σ H' s') (r:cG v u) (q:Q v H')
inductive TP(X:Cx)(pj:List (ae×jq))(σ:St)(Q:Bool->Hp->Prop)(b:Bool)(s':ah):Prop
  |mk (H':Hp) (I:Inv X pj σ H' s') (q:Q b H')
inductive AP(X:Cx)(pj:List (ae×jq))(σ:St)(Q:List V->Hp->Prop)(us:List ac)(s':ah):Prop
  |mk (vs:List V) (H':Hp) (I:Inv X pj σ H' s') (r:b8 vs us) (q:Q vs H')
inductive NP(X:Cx)(pj:List (ae×jq))(P:St->Hp->Prop)(s':ah):Prop
  |mk (σ':St) (H':Hp) (I:Inv X pj σ' H' s') (q:P σ' H')
inductive RP(X:Cx)(pj:List (ae×jq))(P:VK)(u:ac)(s':ah):Prop
  |mk (v:V) (σ':St) (H':Hp) (I:Inv X pj σ' H' s') (r:cG v u) (q:P v H')
noncomputable def SP(X:Cx)(pj:List (ae×jq))(D:Ends)(f:Flow)(s':ah):Prop:=
  match f with
  | .next=>NP X pj D.nx s'
  | .brk=>NP X pj D.bk s'
  | .cont=>NP X pj D.ct s'
  | .ret u=>RP X pj D.rt u s'
noncomputable def PE(X:Cx)(e:Expr)(t:TE):Prop:=
  ∀(pj:List (ae×jq)) (s:ah) (σ:St) (H:Hp) (Q:VK),Inv X pj σ H s->t σ H Q->bu (bv X.prog X.w) X.A (fe e X.env) (EP X pj σ Q) X.xe s
noncomputable def PT(X:Cx)(e:Expr)(t:TT):Prop:=
  ∀(pj:List (ae×jq)) (s:ah) (σ:St) (H:Hp) (Q:Bool->Hp->Prop),Inv X pj σ H s->t σ H Q->bu (bv X.prog X.w) X.A (isTrue e X.env (fe e X.env)) (TP X pj σ Q) X.xe s
noncomputable def PW(X:Cx)(e:Expr)(t:TT):Prop:=
  ∀(VT:UN ac) (pj:List (ae×jq)) (s:ah) (σ:St) (H:Hp) (Q:Bool->Hp->Prop),Inv X pj σ H s->t σ H Q->bu (bv X.prog X.w) X.A (isTrue e X.env VT) (TP X pj σ Q) X.xe s
theorem PW.pt{t:TT}(h:PW X e t):PT X e t:=h _
noncomputable def PA(X:Cx)(es:List Expr)(t:TA):Prop:=
  ∀(pos:jr) (pj:List (ae×jq)) (s:ah) (σ:St) (H:Hp) (Q:List V->Hp->Prop),Inv X pj σ H s->t σ H Q->bu (bv X.prog X.w) X.A (spliced (ip pos (bb es X.env))) (AP X pj σ Q) X.xe s
noncomputable def PS(X:Cx)(st:jm)(t:TS):Prop:=
  ∀(pj:List (ae×jq)) (s:ah) (σ:St) (H:Hp) (D:Ends),Inv X pj σ H s->t D σ H->bu (bv X.prog X.w) X.A (exec st X.env) (SP X pj D) X.xe s
noncomputable def xC(X:Cx)(st:List jm)(t:TS):Prop:=
  ∀(pj:List (ae×jq)) (s:ah) (σ:St) (H:Hp) (D:Ends),Inv X pj σ H s->t D σ H->bu (bv X.prog X.w) X.A (execs st X.env) (SP X pj D) X.xe s
theorem thn{t:UN α}{Q Q':α->ah->Prop}(h:bu M A t Q E s)(hQ:∀a s,Q a s->Q' a s):bu M A t Q' E s:=ii h hQ λ_ _ x=>x
variable {σ:St}{ta:TE}
section
noncomputable def zV(i:Nat):TE:=λσ H Q=>∃v,σ[i]?=aa (aa v)/\Q v H
noncomputable def tC(v:V):TE:=λ_ H Q=>Q v H
theorem KA{pos:jr}(hN:X.N[i]?=aa x)(hv:Ol X.env.scope x)(hd:autoParam ((x==("__debug__" : bi))=ak) oQ._auto_1)(hcd:autoParam ((x==("__classdict__" : bi))=ak) oQ._auto_1):PE X (.Name x pos) (zV i):=by
  intro pj s σ H Q I h;obtain⟨v,e,h⟩:=h;obtain⟨m,hn,hl⟩:=I.loc;obtain⟨u,r,l⟩:=hl i x v hN e hv;have fin:EP X pj σ Q u s:=⟨v,H,I,r,h⟩;rcases l with⟨hk,hm⟩ | ⟨hk,c,hc,VP⟩
  . exact Uj (wpAny_loadName_local I.ok.kind hk hn hm fin) hd
  . rcases hk with hk | hk
    . exact Uj (wpAny_loadName_cell I.ok.kind hk hc VP fin) hd
    . exact Uj (wpAny_loadName_free I.ok.kind hk hc VP fin hcd) hd
theorem KH{i j pos}:PE X (.Constant (.int i) j pos) (tC (.int i)):=λ_ _ _ H _ I h=>wpAny_Constant_int ⟨.int i,H,I.tok _,⟨_,rfl⟩,h⟩
theorem Mb{b j pos}:PE X (.Constant (.bool b) j pos) (tC (.bl b)):=λ_ _ _ H _ I h=>Constant_bool ⟨.bl b,H,I,rfl,h⟩
theorem KF{j pos}:PE X (.Constant .none j pos) (tC .non):=λ_ _ _ H _ I h=>Constant_none ⟨.non,H,I,rfl,h⟩
noncomputable def Gl(X:Cx)(x:bi):Prop:=X.env.kindOf x=aa .globalImplicit
theorem yC{pos:jr}(I:Inv X pj σ H s)(hg:Gl X x)(hm:X.mg x=aa u)(h:Q u s)
    (hd:autoParam ((x==("__debug__" : bi))=ak) oQ._auto_1):bu (bv X.prog X.w) X.A (fe (.Name x pos) X.env) Q E s:=
  ud I.ok.kind hg (Calls.loadGlobal_global (by rw[I.ok.glob];exact I.mod.glob.keeps I.bk) hm h) hd
theorem pD{pos:jr}(I:Inv X pj σ H s)(hg:Gl X x)(hm:X.mg x=aq)(hv:mh x=aa u)(h:Q u s)
    (hn:autoParam (x ≠ "__name__") oQ._auto_1) (hd:autoParam ((x==("__debug__" : bi))=ak) oQ._auto_1):bu (bv X.prog X.w) X.A (fe (.Name x pos) X.env) Q E s:=by
  obtain⟨mb,h1,h2⟩:=I.mod.blt;exact ud I.ok.kind hg (Calls.loadGlobal_builtin (by rw[I.ok.glob];exact I.mod.glob.keeps I.bk) hm (by rw[I.ok.blt];exact h1.keeps I.bk) ((h2 x hn).trans hv) h) hd
theorem Ht{pos:jr}(hg:Gl X x)(hm:X.mg x=aa u)(r:cG v u)(hd:autoParam ((x==("__debug__" : bi))=ak) oQ._auto_1):PE X (.Name x pos) (tC v):=
  λ_ _ _ H _ I h=>yC I hg hm ⟨v,H,I,r,h⟩ hd
theorem jW{pos:jr}(hg:Gl X x)(hm:X.mg x=aq)(hv:mh x=aa u)(r:cG v u)(hn:autoParam (x ≠ "__name__") oQ._auto_1)(hd:autoParam ((x==("__debug__" : bi))=ak) oQ._auto_1):PE X (.Name x pos) (tC v):=
  λ_ _ _ H _ I h=>pD I hg hm hv ⟨v,H,I,r,h⟩ hn hd
variable {a b:Expr}{tb:TE}{pos:jr}
noncomputable def tB(t:TE):TT:=λσ H Q=>t σ H λx H1=>∃c,x=.bl c/\Q c H1
theorem Jx{t:TE}(h:PE X e t)(he:autoParam (∀VT,isTrue e X.env VT=(do let v <- VT;wa e.pos;wc [v] (UZ v))) EJ._auto_1):PT X e (tB t):=by
  intro pj s σ H Q I hw;refine isTrue_plain (thn (h pj s σ H _ I hw) λv s1 ⟨x,H1,I1,r1,q1⟩=>?_) (he _);obtain⟨d,rfl,q⟩:=q1;cases r1;exact ff ⟨H1,I1,q⟩
variable {tA tB':TT}{VL:List Expr}
noncomputable def PP(t u:TT):TT:=λσ H Q=>t σ H λc H1=>if c=ai then u σ H1 Q else Q ak H1
noncomputable def SM(t u:TT):TT:=λσ H Q=>t σ H λc H1=>if c=ai then Q ai H1 else u σ H1 Q
noncomputable def PF(t:TT):TT:=λσ H Q=>t σ H λc H1=>Q (!c) H1
theorem Hc(ha:PT X a tA):PW X (.BoolOp .And [a] pos) tA:=by
  intro wh pj s σ H Q I h;refine isTrue_and (thn (ha pj s σ H Q I h) λc s1 e=>?_);cases c with
  |true=>exact isTrue_and_nil e
  |false=>exact e
theorem F3(ha:PT X a tA):PW X (.BoolOp .Or [a] pos) tA:=by
  intro wh pj s σ H Q I h;refine isTrue_or (thn (ha pj s σ H Q I h) λc s1 e=>?_);cases c with
  |false=>exact isTrue_or_nil e
  |true=>exact e
theorem Jw(ha:PT X a tA)(hb:PW X (.BoolOp .And (b::VL) pos) tB'):PW X (.BoolOp .And (a::b::VL) pos) (PP tA tB'):=by
  intro wh pj s σ H Q I h;refine isTrue_and (thn (ha pj s σ H _ I h) λc s1 zz=>?_);obtain⟨H1,I1,q1⟩:=zz;cases c with
  |true=>exact hb wh pj s1 σ H1 Q I1 q1
  |false=>exact⟨H1,I1,q1⟩
theorem JK(ha:PT X a tA)(hb:PW X (.BoolOp .Or (b::VL) pos) tB'):PW X (.BoolOp .Or (a::b::VL) pos) (SM tA tB'):=by
  intro wh pj s σ H Q I h;refine isTrue_or (thn (ha pj s σ H _ I h) λc s1 zz=>?_);obtain⟨H1,I1,q1⟩:=zz;cases c with
  |true=>exact⟨H1,I1,q1⟩
  |false=>exact hb wh pj s1 σ H1 Q I1 q1
theorem F7(ha:PT X a tA):PT X (.UnaryOp .Not a pos) (PF tA):=by
  intro pj s σ H Q I h;exact isTrue_not (thn (ha pj s σ H (λc H1=>Q (!c) H1) I h) λc s' z=>by cases z;exact⟨_,by assumption,by assumption⟩)
noncomputable def Lx(ta tb:TE):TE:=λσ H Q=>ta σ H λx H1=>∃c,x=.bl c/\if c=ai then tb σ H1 Q else Q (.bl ak) H1
noncomputable def PD(ta tb:TE):TE:=λσ H Q=>ta σ H λx H1=>∃c,x=.bl c/\if c=ai then Q (.bl ai) H1 else tb σ H1 Q
noncomputable def Ln(ta:TE):TE:=λσ H Q=>ta σ H λx H1=>∃c,x=.bl c/\Q (.bl (!c)) H1
theorem KC{op}{t:TE}(h:PE X a t):PE X (.BoolOp op [a] pos) t:=λpj s σ H Q I hw=>BoolOp_one (h pj s σ H Q I hw)
theorem KL(ha:PE X a ta)(hb:PE X (.BoolOp .And (b::VL) pos) tb):PE X (.BoolOp .And (a::b::VL) pos) (Lx ta tb):=by
  intro pj s σ H Q I h;refine BoolOp_and (thn (ha pj s σ H _ I h) λv s1 zz=>?_);obtain⟨x,H1,I1,r1,q1⟩:=zz;obtain⟨c,rfl,q1⟩:=q1;cases r1;refine ff ?_;cases c with
  |true=>exact hb pj s1 σ H1 Q I1 q1
  |false=>exact⟨.bl ak,H1,I1,rfl,q1⟩
theorem MY(ha:PE X a ta)(hb:PE X (.BoolOp .Or (b::VL) pos) tb):PE X (.BoolOp .Or (a::b::VL) pos) (PD ta tb):=by
  intro pj s σ H Q I h;refine BoolOp_or (thn (ha pj s σ H _ I h) λv s1 zz=>?_);obtain⟨x,H1,I1,r1,q1⟩:=zz;obtain⟨c,rfl,q1⟩:=q1;cases r1;refine ff ?_;cases c with
  |false=>exact hb pj s1 σ H1 Q I1 q1
  |true=>exact⟨.bl ai,H1,I1,rfl,q1⟩
theorem KD(ha:PE X a ta):PE X (.UnaryOp .Not a pos) (Ln ta):=by
  intro pj s σ H Q I h;refine UnaryOp_ (thn (ha pj s σ H _ I h) λv s1 zz=>?_);obtain⟨x,H1,I1,r1,q1⟩:=zz;obtain⟨c,rfl,q1⟩:=q1;cases r1;exact not_of (ff ⟨.bl (!c),H1,I1,rfl,q1⟩)
end
noncomputable def fS(K:aj)(H:Hp)(a:ae)(xs:List V):Prop:=
  Rd H a (.lst xs) \/
    ∃(o:jq) (its:Array ac) (n:Nat),K.lookup a=aa o/\o.cls=.type "list" /\ o.dict=aq/\o.data=.seq its n/\its.size<=bf/\b8 xs its.toList
noncomputable def kX(K:aj)(H:Hp)(a:ae)(xs:List V):Prop:=
  Rd H a (.tup xs) \/
    ∃(o:jq) (its:Array ac) (n:Nat),K.lookup a=aa o/\o.cls=.type "tuple" /\ o.data=.seq its n/\its.size<=bf/\b8 xs its.toList
noncomputable def RR:ac->Option V
  | .none=>aa .non
  | .bool b=>aa (.bl b)
  | .int i _=>aa (.int i)
  | .str x _=>aa (.str x)
  | .bytes b _=>aa (.byt b)
  | .float b _=>aa (.flt b)
  | .ref a=>aa (.ref a)
  | .type n=>aa (.ty n)
  |_=>aq
theorem cG.abs{x:V}(r:cG x u):RR u=aa x:=by
  cases x with
  |non=>cases r;rfl
  |bl _=>cases r;rfl
  |int _=>obtain⟨t,rfl⟩:=r;rfl
  |str _=>obtain⟨t,rfl⟩:=r;rfl
  |byt _=>obtain⟨t,rfl⟩:=r;rfl
  |flt _=>obtain⟨t,rfl⟩:=r;rfl
  |ref _=>cases r;rfl
  |ty _=>cases r;rfl
theorem cG.inj{x y:V}{u:ac}(r:cG x u)(q:cG y u):x=y:=Option.some.inj (r.abs.symm.trans q.abs)
theorem b8.inj:∀{xs ys:List V} {us:List ac},b8 xs us->b8 ys us->xs=ys
  |_,_,_,.nil,.nil=>rfl
  |_,_,_,.cons r t,.cons r' t'=>by rw[r.inj r',b8.inj t t']
section
variable {xs ys:List V}
theorem fS.of(h:H a=aa (.lst xs)):fS K H a xs:=.inl (.inl h)
theorem kX.of(h:H a=aa (.tup xs)):kX K H a xs:=.inl (.inl h)
theorem Inv.list(I:Inv X pj σ H s)(h:fS X.K H a xs):∃its:List ac,b8 xs its/\PlainL s.heap a its.toArray/\xs.length<=bf:=by
  rcases h with h | ⟨o,its,n,hk,hc,hd,hs,hz,r⟩
  . obtain⟨z,its,n,r,e⟩:=h.ok I.hok;exact⟨its,r,⟨_,n,e,rfl,rfl,rfl⟩,z⟩
  . refine⟨its.toList,r,⟨o,n,I.kIn a o hk,hc,hd,by simpa using hs⟩,?_⟩;have e:=r.length;simp only[yh] at e;ac_rfl
theorem Inv.tuple(I:Inv X pj σ H s)(h:kX X.K H a xs):∃its:List ac,b8 xs its/\US s.heap a its.toArray/\xs.length<=bf:=by
  rcases h with h | ⟨o,its,n,hk,hc,hs,hz,r⟩
  . obtain⟨z,its,r,p⟩:=h.ok I.hok;exact⟨its,r,p,z⟩
  . refine⟨its.toList,r,⟨o,I.kIn a o hk,hc,n,by simpa using hs⟩,?_⟩;have e:=r.length;simp only[yh] at e;ac_rfl
theorem Inv.list_inj(I:Inv X pj σ H s)(h:fS X.K H a xs)(h':fS X.K H a ys):xs=ys:=by
  obtain⟨its,r,⟨o,n,e,_,_,d⟩,_⟩:=I.list h;obtain⟨its',r',⟨o',n',e',_,_,d'⟩,_⟩:=I.list h';rw[e] at e';cases e';rw[d] at d';injection d' with d1 _;have:its=its':=by simpa using congrArg V0 d1
  subst this;exact r.inj r'
theorem Inv.tuple_inj(I:Inv X pj σ H s)(h:kX X.K H a xs)(h':kX X.K H a ys):xs=ys:=by
  obtain⟨its,r,⟨o,e,_,n,d⟩,_⟩:=I.tuple h;obtain⟨its',r',⟨o',e',_,n',d'⟩,_⟩:=I.tuple h';rw[e] at e';cases e';rw[d] at d';injection d' with d1 _;have:its=its':=by simpa using congrArg V0 d1
  subst this;exact r.inj r'
end
noncomputable abbrev Cx.wish(X:Cx)(E:ac->ah->Prop):Cx:={ X with xe:=E }
noncomputable abbrev Cx.nox(X:Cx):Cx:=X.wish λ_ _=>False
theorem Cx.Ok.wish{X:Cx}(ok:X.Ok)(E:ac->ah->Prop):(X.wish E).Ok:=
  ⟨ok.mod,ok.kind,ok.glob,ok.blt,ok.above,ok.inj,ok.has,ok.cab,ok.hd,ok.frames,ok.stk,ok.exf,ok.bs,ok.bsz,ok.noex,ok.exfs,ok.funs,ok.frf,ok.hq⟩
theorem Cx.Ok.unwish(ok:(X.wish E).Ok):X.Ok:=
  ⟨ok.mod,ok.kind,ok.glob,ok.blt,ok.above,ok.inj,ok.has,ok.cab,ok.hd,ok.frames,ok.stk,ok.exf,ok.bs,ok.bsz,ok.noex,ok.exfs,ok.funs,ok.frf,ok.hq⟩
theorem Inv.wish(I:Inv X pj σ H s)(E:ac->ah->Prop):Inv (X.wish E) pj σ H s:=⟨I.ok.wish E,I.os,I.bare,I.base,I.loc,I.cell,I.free,I.freeC,I.pin,I.hok,I.len,I.mild⟩
theorem Inv.unwish(I:Inv (X.wish E) pj σ H s):Inv X pj σ H s:=⟨I.ok.unwish,I.os,I.bare,I.base,I.loc,I.cell,I.free,I.freeC,I.pin,I.hok,I.len,I.mild⟩
theorem SP.unwish{D:Ends}{f:Flow}{s':ah}(h:SP (X.wish E) pj D f s'):SP X pj D f s':=by
  cases f with
  |next=>obtain⟨σ',H',I,q⟩:=h;exact⟨σ',H',I.unwish,q⟩
  |brk=>obtain⟨σ',H',I,q⟩:=h;exact⟨σ',H',I.unwish,q⟩
  |cont=>obtain⟨σ',H',I,q⟩:=h;exact⟨σ',H',I.unwish,q⟩
  |ret u=>obtain⟨v,σ',H',I,r,q⟩:=h;exact⟨v,σ',H',I.unwish,r,q⟩
theorem xC.nox{st:List jm}{t:TS}(h:xC X.nox st t):xC X st t:=λpj s σ H D I hw=>
  ii (h pj s σ H D (I.wish _) hw) (λ_ _ q=>q.unwish) λ_ _ z=>jg z
variable {tc:TT}{te:TE}
section
variable {st:jm}{VL:List jm}{t u:TS}{pos:jr}
noncomputable def Lp:TS:=λD σ H=>D.nx σ H
noncomputable def PB(t u:TS):TS:=λD σ H=>t { D with nx:=u D } σ H
theorem Hj:xC X [] Lp:=λ_ _ σ H _ I h=>ss ⟨σ,H,I,h⟩
theorem F9(h1:PS X st t)(h2:xC X VL u):xC X (st::VL) (PB t u):=by
  intro pj s σ H D I h;refine Ts (thn (h1 pj s σ H { D with nx:=u D } I h) λf s1 q=>?_);cases f with
  |next=>
    obtain⟨σ',H',I',q⟩:=q;exact h2 pj s1 σ' H' D I' q
  |ret v=>exact q
  |brk=>exact q
  |cont=>exact q
theorem Hi(h1:PS X st t):xC X [st] t:=by
  intro pj s σ H D I h;refine Ts (thn (h1 pj s σ H D I h) λf s1 q=>?_);cases f with
  |next=>exact ss q
  |ret v=>exact q
  |brk=>exact q
  |cont=>exact q
noncomputable def Ls:TS:=λD σ H=>D.ct σ H
theorem AD:PS X (.Continue pos) Ls:=λ_ _ σ H _ I h=>wpAny_Continue ⟨σ,H,I,h⟩
theorem Inv.quiet(I:Inv X pj σ H s):interactive X.env=ak:=by simp[interactive,I.ok.kind]
noncomputable def Lr(te:TE):TS:=λD σ H=>te σ H λ_ H1=>D.nx σ H1
theorem t7(he:PE X e te)(hs:autoParam (jd e aq pos.line X.env=ie ak) cF._auto_1):PS X (.Expr e pos) (Lr te):=by
  intro pj s σ H D I h;exact wpAny_Expr_any (thn (he pj s σ H _ I h) λv s1 zq3=>by obtain⟨x,H1,I1,r1,q1⟩:=zq3;exact⟨σ,H1,I1,q1⟩) I.quiet hs
noncomputable def PC(te:TE):TS:=λD σ H=>te σ H D.rt
theorem FC(he:PE X e te):PS X (.Return (aa e) pos) (PC te):=by
  intro pj s σ H D I h;exact wpAny_Return_some (thn (he pj s σ H _ I h) λv s1 zq4=>by obtain⟨x,H1,I1,r1,q1⟩:=zq4;exact⟨x,σ,H1,I1,r1,q1⟩)
noncomputable def PJ(c:TT)(t u:TS):TS:=λD σ H=>c σ H λb H1=>if b=ai then t D σ H1 else u D σ H1
theorem JL{c:Expr}{a b:List jm}(hc:PT X c tc)(ha:xC X a t)(hb:xC X b u):PS X (.If c a b pos) (PJ tc t u):=by
  intro pj s σ H D I h;refine wpAny_If (thn (hc pj s σ H _ I h) λd s1 zz=>?_);obtain⟨H1,I1,q1⟩:=zz;cases d with
  |true=>exact ha pj s1 σ H1 D I1 q1
  |false=>exact hb pj s1 σ H1 D I1 q1
noncomputable def Jl:TS:=λ_ _ _=>False
theorem FD:PS X st Jl:=λ_ _ _ _ _ _ h=>h.elim
end
noncomputable abbrev TG:=V->St->Hp->(St->Hp->Prop)->Prop
noncomputable abbrev Jb:=List V->St->Hp->(St->Hp->Prop)->Prop
noncomputable def PG(X:Cx)(target:Expr)(t:TG):Prop:=
  ∀(pj:List (ae×jq)) (s:ah) (σ:St) (H:Hp) (v:V) (u:ac) (Q:St->Hp->Prop),Inv X pj σ H s->cG v u->t v σ H Q ->
    bu (bv X.prog X.w) X.A (zd target X.env u) (λ_ s'=>∃σ' H',Inv X pj σ' H' s'/\Q σ' H') X.xe s
noncomputable def Nm(X:Cx)(ts:List Expr)(t:Jb):Prop:=
  ∀(pj:List (ae×jq)) (s:ah) (σ:St) (H:Hp) (vs:List V) (us:List ac) (Q:St->Hp->Prop),Inv X pj σ H s->b8 vs us->t vs σ H Q ->
    bu (bv X.prog X.w) X.A (assignInOrder ((nq ts X.env).map (·.2)) us) (λ_ s'=>∃σ' H',Inv X pj σ' H' s'/\Q σ' H') X.xe s
variable {g:TG}{W8:jr}{VU:List jm}{tb:TS}
section
variable {pos:jr}
noncomputable def Ak(i:Nat):TG:=λv σ H Q=>Q (σ.set i (aa v)) H
theorem dW(hN:X.N.Nodup)(hi:X.N[i]?=aa x)(hx:HE X.env.scope x)(hf:autoParam (X.fn x=ai \/ X.env.scope.names.lookup x=aa .local) HB._auto_1):PG X (.Name x pos) (Ak i):=by
  intro pj s σ H v u Q I r h;exact zw (zW I hN hi hx r (λs' I'=>⟨_,H,I',h⟩) hf)
noncomputable def NJ:Jb:=λvs σ H Q=>vs=[]/\Q σ H
noncomputable def JS(t:TG)(u:Jb):Jb:=λvs σ H Q=>∃v r,vs=v::r/\t v σ H λσ' H'=>u r σ' H' Q
theorem nR:Nm X [] NJ:=by
  intro pj s σ H vs us Q I r h;obtain⟨e,h⟩:=h;subst e;cases r;exact assignInOrder_nil ⟨σ,H,I,h⟩
theorem d7{t:TG}{u:Jb}(h1:PG X e t)(h2:Nm X es u)
    (hs:autoParam ((nq (e::es) X.env).map (·.2)=zd e X.env::(nq es X.env).map (·.2)) cF._auto_1):Nm X (e::es) (JS t u):=by
  intro pj s σ H vs us Q I r h;obtain⟨v,vr,e1,h⟩:=h;subst e1;cases r with
  |cons r rr=>
    rw[hs];refine assignInOrder_cons (thn (h1 pj s σ H _ _ _ I r h) λ_ s1 zz=>?_);obtain⟨σ1,H1,I1,q1⟩:=zz;exact h2 pj s1 σ1 H1 _ _ Q I1 rr q1
noncomputable def R3(K:aj)(n:Nat)(t:Jb):TG:=λv σ H Q=>∃a xs,v=.ref a/\kX K H a xs/\xs.length=n/\t xs σ H Q
theorem K9{k:Nat}{t:Jb}(hc:X.calm=ai)(h:Nm X es t)
    (hn:autoParam ((nq es X.env).length=n) cF._auto_1) (hst:autoParam ((nq es X.env).findIdx? (·.1)=aq) cF._auto_1):PG X (.Tuple es k pos) (R3 X.K n t):=by
  intro pj s σ H v u Q I r hw;obtain⟨a,xs,e1,hq,hl,hw⟩:=hw;subst e1;cases r;obtain⟨its,rv,ht,hz⟩:=I.tuple hq;refine assign_Tuple_tuple (I.ok.hd hc) ht (by simp[hn,<- hl,rv.length]) hst λh' hx=>?_;have I1:Inv X pj σ H { s with heap:=h' }:=I.kept (t':=s.toks) λb o e=>hx b o (fh (be e)) e;exact h pj _ σ H xs _ Q I1 (by simpa using rv) hw
noncomputable def HP(te:TE)(g:TG):TS:=λD σ H=>te σ H λx H1=>g x σ H1 D.nx
theorem K0(he:PE X e te)(hg:PG X tg g)(hs:autoParam (swapsWithSole [tg] e pos.line X.env=ie ak) cF._auto_1)(hw:autoParam (swappedStores [tg] e X.env=ie aq) cF._auto_1)
    (h1:autoParam ((nq [tg] X.env).map (·.2)=[zd tg X.env]) cF._auto_1):PS X (.Assign [tg] e pos) (HP te g):=by
  intro pj s σ H D I h;refine wpAny_Assign_stores (thn (he pj s σ H _ I h) λv s1 ⟨x,H1,I1,r1,q1⟩=>?_) hs hw;rw[h1];exact thn (hg pj s1 σ H1 x v _ I1 r1 q1) λ_ s2 q=>by obtain⟨σ',H',I',q⟩:=q;exact⟨σ',H',I',q⟩
theorem FB(hN:X.N.Nodup)(hi:X.N[i]?=aa x)(hx:HE X.env.scope x)(he:PE X e te)(hs:autoParam (jd e (aa (.Name x W8)) pos.line X.env=ie ak) cF._auto_1)(hf:autoParam (X.fn x=ai \/ X.env.scope.names.lookup x=aa .local) HB._auto_1):
    PS X (.Assign [.Name x W8] e pos) (HP te (Ak i)):=by
  intro pj s σ H D I h;refine wpAny_Assign_Name (thn (he pj s σ H _ I h) λv s1 ⟨y,H1,I1,r1,q1⟩=>?_) hs;exact zW I1 hN hi hx r1 (λs2 I2=>⟨_,H1,I2,q1⟩) hf
noncomputable def Jk(c:TT)(tb:TS):TS:=λD σ H=>∃W:Nat->St->Hp->Prop,(∃m,W m σ H) /\ ∀m σ H,W m σ H ->
  c σ H λb H1=>if b=ai then ∃N:St->Hp->Prop,(∀σ' H',N σ' H' -> ∃m',m'<m/\W m' σ' H')/\tb { D with nx:=N,ct:=N,bk:=D.nx } σ H1 else D.nx σ H1
theorem FA{c:Expr}(hp:Tt (bv X.prog X.w) X.A X.env X.xe)(hc:PT X c tc)(hb:xC X VU tb):PS X (.While c VU [] pos) (Jk tc tb):=by
  intro pj s σ H D I h;obtain⟨W,⟨m0,w0⟩,turn⟩:=h;refine wpAny_While (codeAny_whileLoop (λn s'=>∃σ' H',Inv X pj σ' H' s'/\W n σ' H') ?_ m0 ⟨σ,H,I,w0⟩);rintro n s1 ⟨σ1,H1,I1,w1⟩;refine kg hp (thn (hc pj s1 σ1 H1 _ I1 (turn n σ1 H1 w1)) λb s2 zz=>?_);obtain⟨H2,I2,q2⟩:=zz;cases b with
  |true=>
    obtain⟨N,hN,q2⟩:=q2;rw[VH rfl];refine kg hp (thn (hb pj s2 σ1 H2 _ I2 q2) λf s3 q3=>?_);cases f with
    |next=>
      obtain⟨σ3,H3,I3,n3⟩:=q3;obtain⟨m',hm,w3⟩:=hN σ3 H3 n3;exact⟨m',hm,σ3,H3,I3,w3⟩
    |cont=>
      obtain⟨σ3,H3,I3,n3⟩:=q3;obtain⟨m',hm,w3⟩:=hN σ3 H3 n3;exact⟨m',hm,σ3,H3,I3,w3⟩
    |brk=>exact q3
    |ret v=>exact q3
  |false=>
    rw[Vn ju];exact ss ⟨σ1,H2,I2,q2⟩
end
structure It where
  go:Nat->Hp->Prop
  yld:Nat->Hp->V->Hp->Prop
  stop:Nat->Hp->Prop
noncomputable def vB(X:Cx)(pj:List (ae×jq))(H:Hp)(b:ae):Prop:=
  H b=aq/\b≠X.env.locals/\b ∉ X.fs/\(b∈X.ex \/ X.s₀.heap.objs.size<=b)/\(∀x c,X.env.cells.lookup x=aa c->c≠b) /\ ∀p∈X.pn++pj,p.1≠b
theorem Inv.fpOk(I:Inv X pj σ H s)(hb:s.heap.objs.size<=b)(hn:H' b=aq):vB X pj H' b:=by
  refine⟨hn,Vh (di I.lt hb),I.nofs hb,.inr (lh I.sz hb),λx c e z=>?_,λp hp z=>?_⟩
  . obtain⟨v,q⟩:=I.cell x c e;exact absurd (di q.lt (by rw[z];exact hb)) (ny _)
  . exact absurd (di (be (I.pin p hp).1) (by rw[z];exact hb)) (ny _)
structure Turn(P:ar)(w:bm)(K:aj)(tg:Expr)(J:It)(fp:List ae)(it:ae)(tn:Nat->cm->Prop):Prop where
  mem:it∈fp
  obj:∀i h,tn i h -> ∀b∈fp,∃o,h.get? b=aa o /\ ∀v,o.data ≠ .cell v
  keep:∀i h h',tn i h->(∀b∈fp,∀o,h.get? b=aa o->h'.get? b=aa o)->tn i h'
  item:∀(X:Cx),X.prog=P->X.w=w->X.K=K->X.N=X.N -> ∀(i:Nat) (pj:List (ae×jq)) (s:ah) (σ:St) (H:Hp) (E:ac->ah->Prop),Inv X pj σ H s->(∀b∈fp,vB X pj H b)->tn i s.heap->J.go i H ->
    bu (bv P w) X.A (ri (.ref it)) (λr s1=>∃u,r=aa u /\
      bu (bv P w) X.A (su tg (.ref it) u) (λ_ s2=>∃x H',Inv X pj σ H' s2/\cG x u/\J.yld i H x H'/\tn (i+1) s2.heap /\ ∀b∈fp,H' b=aq) E s1) E s
  done:∀(X:Cx),X.prog=P->X.w=w->X.K=K->X.N=X.N -> ∀(i:Nat) (pj:List (ae×jq)) (s:ah) (σ:St) (H:Hp) (E:ac->ah->Prop),Inv X pj σ H s->(∀b∈fp,vB X pj H b)->tn i s.heap->J.stop i H ->
    bu (bv P w) X.A (ri (.ref it)) (λr s1=>r=aq/\Inv X pj σ H s1) E s
  self:∀(A:bx) (i:Nat) (s:ah) (Q:ac->ah->Prop) (E:ac->ah->Prop),tn i s.heap->Q (.ref it) s->bu (bv P w) A (pyIter (.ref it)) Q E s
noncomputable abbrev TI:=St->Hp->(It->Hp->Prop)->Prop
noncomputable def SG(X:Cx)(pj:List (ae×jq))(σ:St)(tg:Expr)(R:It->Hp->Prop)(itv:ac)(s2:ah):Prop:=
  ∃(it:ae) (fp:List ae) (tn:Nat->cm->Prop) (J:It) (H':Hp),itv=.ref it/\Inv X pj σ H' s2/\Turn X.prog X.w X.K tg J fp it tn/\tn 0 s2.heap/\(∀b∈fp,vB X pj H' b)/\R J H'
noncomputable def PI(X:Cx)(tg VO:Expr)(wi:TI):Prop:=
  ∀(pj:List (ae×jq)) (s:ah) (σ:St) (H:Hp) (R:It->Hp->Prop),Inv X pj σ H s->wi σ H R ->
    bu (bv X.prog X.w) X.A (fe VO X.env) (λv s1=>bu (bv X.prog X.w) X.A (pyIter v) (SG X pj σ tg R) X.xe s1) X.xe s
theorem GQ{n:String}{vs:Array ac}{Q:Unit->ah->Prop}(ho:s.heap.get? it=aa o)(hc:o.cls=.type n)(hd:o.data=.fields vs)
    (hn:["enumerate", "zip", "dict_itemiterator", "dict_reverseitemiterator", "odict_iterator", "itertools.zip_longest", "itertools.pairwise"].contains n=ak) (hQ:Q () s):bu M A (su tg (.ref it) u) Q E s:=by
  unfold su;cases tg<;>first
    |exact aw hQ
    | (cases u<;>first
        |exact aw hQ
        | (refine af (Uf ho ?_)
           rw[hc,hd];show bu M A (if (["enumerate", "zip", "dict_itemiterator", "dict_reverseitemiterator", "odict_iterator", "itertools.zip_longest", "itertools.pairwise"].contains n&&vs[0]?==aa (Vx _))=ai then _ else _) Q E s;rw[Vn (by intro h;rw[hn,Bool.false_and] at h;cases h)];exact aw hQ))
noncomputable def No(K:aj)(a:ae):It:=
  ⟨λi H=>∃xs x,fS K H a xs/\xs[i]?=aa x,λi H x H'=>H'=H /\ ∀xs,fS K H a xs->xs[i]?=aa x,λi H=>∃xs,fS K H a xs/\xs.length<=i⟩
noncomputable def RX(K:aj)(a:ae):It:=
  ⟨λi H=>∃xs x,kX K H a xs/\xs[i]?=aa x,λi H x H'=>H'=H /\ ∀xs,kX K H a xs->xs[i]?=aa x,λi H=>∃xs,kX K H a xs/\xs.length<=i⟩
noncomputable def Nn(lo:Int)(n:Nat):It:=⟨λi _=>i<n,λi H x H'=>H'=H/\x=.int (lo+i),λi _=>n<=i⟩
theorem D7(a it:ae):Turn P w K tg (No K a) [it] it (λi h=>h.IsListIter it a i) where
  mem:=by simp
  obj:=λi h st b hb=>by
    have e:b=it:=by simpa using hb
    subst e;obtain⟨o,e,c,d⟩:=st;exact⟨o,e,λv z=>by rw[d] at z;cases z⟩
  keep:=λi h h' st k=>st.at λo e=>k it (by simp) o e
  item:=by
    intro X hP hw hK hc i pj s σ H E I hf st hg;subst hP hw hK;obtain⟨xs,x,hq,hx⟩:=hg;obtain⟨its,rv,p,hz⟩:=I.list hq;obtain⟨u,hu,ru⟩:=rv.get hx;obtain⟨f0,f1,f2,f3,f4,f5⟩:=hf it (by simp);refine vy st p.isList (x:=u) (by simpa using hu) λh' st' sb=>?_;have I1:Inv X pj σ H { s with heap:=h' }:=I.turned (t':=s.toks) (λb o hb e=>(sb.2 b hb).trans e) f0 f1 f3 f4 f5;obtain⟨o,e,c,d⟩:=id st';exact⟨u,rfl,GQ (s:={ s with heap:=h' }) e c d ∅ ⟨x,H,I1,ru,⟨rfl,λys hy=>by rw[I.list_inj hy hq];exact hx⟩,st',λb hb=>(hf b hb).1⟩⟩
  done:=by
    intro X hP hw hK hc i pj s σ H E I hf st hg;subst hP hw hK;obtain⟨xs,hq,hx⟩:=hg;obtain⟨its,rv,p,hz⟩:=I.list hq;obtain⟨f0,f1,f2,f3,f4,f5⟩:=hf it (by simp);have hl:=rv.length;exact Ar I.qu st p.isList (by simp;ac_rfl) λh' eb=>⟨rfl,I.turned (t':=s.toks) (λb o hb e=>eb b o hb e) f0 f1 f3 f4 f5⟩
  self:=λ_ _ _ _ _ st h=>ww st h
theorem BM(a it:ae):Turn P w K tg (RX K a) [it] it (λi h=>h.IsTupleIter it a i) where
  mem:=by simp
  obj:=λi h st b hb=>by
    have e:b=it:=by simpa using hb
    subst e;obtain⟨o,e,c,d⟩:=st;exact⟨o,e,λv z=>by rw[d] at z;cases z⟩
  keep:=λi h h' st k=>st.at λo e=>k it (by simp) o e
  item:=by
    intro X hP hw hK hc i pj s σ H E I hf st hg;subst hP hw hK;obtain⟨xs,x,hq,hx⟩:=hg;obtain⟨its,rv,p,hz⟩:=I.tuple hq;obtain⟨u,hu,ru⟩:=rv.get hx;obtain⟨f0,f1,f2,f3,f4,f5⟩:=hf it (by simp);refine wpAny_pyNext_tuple_item st (show s.heap.IsTuple a its.toArray from p) (x:=u) (by simpa using hu) λh' st' sb=>?_;have I1:Inv X pj σ H { s with heap:=h' }:=I.turned (t':=s.toks) (λb o hb e=>(sb.2 b hb).trans e) f0 f1 f3 f4 f5;obtain⟨o,e,c,d⟩:=id st';exact⟨u,rfl,GQ (s:={ s with heap:=h' }) e c d ∅ ⟨x,H,I1,ru,⟨rfl,λys hy=>by rw[I.tuple_inj hy hq];exact hx⟩,st',λb hb=>(hf b hb).1⟩⟩
  done:=by
    intro X hP hw hK hc i pj s σ H E I hf st hg;subst hP hw hK;obtain⟨xs,hq,hx⟩:=hg;obtain⟨its,rv,p,hz⟩:=I.tuple hq;obtain⟨f0,f1,f2,f3,f4,f5⟩:=hf it (by simp);have hl:=rv.length;exact E5 I.qu st (show s.heap.IsTuple a its.toArray from p) (by simp;ac_rfl) λh' eb=>⟨rfl,I.turned (t':=s.toks) (λb o hb e=>eb b o hb e) f0 f1 f3 f4 f5⟩
  self:=λ_ _ _ _ _ st h=>wpAny_pyIter_tupleiter st h
theorem BN(it:ae)(lo:Int)(n:Nat):Turn P w K tg (Nn lo n) [it] it (λi h=>uv h it (lo+(i:Nat)*1) ((n:Int)-(i:Nat)) 1) where
  mem:=by simp
  obj:=λi h st b hb=>by
    have e:b=it:=by simpa using hb
    subst e;exact⟨_,st,λv z=>by
      have z':Data.fields _=Data.cell v:=z;cases z'⟩
  keep:=λi h h' st k=>k it (by simp) _ st
  item:=by
    intro X hP hw hK hc i pj s σ H E I hf st hg;subst hP hw hK;obtain⟨f0,f1,f2,f3,f4,f5⟩:=hf it (by simp);refine By hg st λv h' tk hv st' kk=>?_;obtain⟨t,rfl⟩:=hv;have I1:Inv X pj σ H { s with heap:=h',toks:=tk }:=I.turned (λb o hb e=>kk b o (by simpa using hb) e) f0 f1 f3 f4 f5;refine⟨_,rfl,GQ (s:={ s with heap:=h',toks:=tk }) (n:="range_iterator") st' rfl rfl ∅ ⟨.int (lo+i),H,I1,⟨t,?_⟩,⟨rfl,rfl⟩,st',λb hb=>(hf b hb).1⟩⟩;rw[Vi]
  done:=by
    intro X hP hw hK hc i pj s σ H E I hf st hg;subst hP hw hK;obtain⟨f0,f1,f2,f3,f4,f5⟩:=hf it (by simp);exact E6 I.qu st (by have:n<=i:=hg;ac_rfl) λh' eb=>⟨rfl,I.turned (t':=s.toks) (λb o hb e=>eb b o hb e) f0 f1 f3 f4 f5⟩
  self:=λ_ _ _ _ _ st h=>wpAny_pyIter_rangeiter st h
variable {fp:List ae}
theorem A7{R:It->Hp->Prop}{hi:Int}{t u v:Tok}{tk:Nat}(I:Inv X pj σ H s)(h1:-(2 ^ 62)<=lo)(h2:lo<2 ^ 62)(h3:-(2 ^ 62)<=hi)(h4:hi<2 ^ 62)
    (q:R (Nn lo (hi-lo).toNat) H):bu (bv X.prog X.w) X.A (pyIter (.ref s.heap.objs.size)) (SG X pj σ tg R) E { s with heap:=s.heap.push { cls:=.type "range",data:=.fields #[.int lo t,.int hi u,.int 1 v] },toks:=tk }:=by
  refine wpAny_pyIter_range (IsRange.new ..) (small_one h1 h2 h3 h4) ?_;have I1:Inv X pj σ H { s with heap:=s.heap.push { cls:=.type "range",data:=.fields #[.int lo t,.int hi u,.int 1 v] },toks:=tk }:=I.kept λb o e=>ap _ e;refine⟨(s.heap.push { cls:=.type "range",data:=.fields #[.int lo t,.int hi u,.int 1 v] }).objs.size,[(s.heap.push { cls:=.type "range",data:=.fields #[.int lo t,.int hi u,.int 1 v] }).objs.size],_,_,H,rfl,
    I1.kept (t':=tk) λb o e=>ap _ e,BN _ lo (hi-lo).toNat,?_,λb hb=>?_,q⟩
  . have e1:lo+((0:Nat):Int)*1=lo:=by simp
    have e2:(((hi-lo).toNat:Nat):Int)-((0:Nat):Int)=pk lo hi 1:=by rw[rangeSize_one];split<;>ac_rfl
    show uv _ _ (lo+((0:Nat):Int)*1) ((((hi-lo).toNat:Nat):Int)-((0:Nat):Int)) 1;rw[e1,e2];exact cp _ rfl
  . have e:b=(s.heap.push { cls:=.type "range",data:=.fields #[.int lo t,.int hi u,.int 1 v] }).objs.size:=by simpa using hb
    subst e;exact I1.fpOk (bo _) (I1.hok.fresh (bo _))
noncomputable def NF(ta:TA):TI:=λσ H R=>ta σ H λvs H1=>∃j:Int,vs=[.int j] /\ -(2 ^ 62)<=j/\j<2 ^ 62/\R (Nn 0 j.toNat) H1
noncomputable def NE(ta:TA):TI:=λσ H R=>ta σ H λvs H1=>∃i j:Int,vs=[.int i,.int j]/\(-(2 ^ 62)<=i/\i<2 ^ 62 /\ -(2 ^ 62)<=j/\j<2 ^ 62)/\R (Nn i (j-i).toNat) H1
theorem DS{a:Expr}{ta:TA}{pos:jr}(hg:Gl X "range")(hm:X.mg "range" = aq)(ha:PA X [a] ta)(hs:autoParam (bb [a] X.env=[(ak,fe a X.env)]) cF._auto_1):PI X tg (.Call (.Name "range" p) [a] [] pos) (NF ta):=by
  intro pj s σ H R I h;refine Call_ (pD I hg hm Uk (gp (thn (ha pos pj s σ H _ I h) λus s1 ⟨vs,H1,I1,r1,q1⟩=>?_) hs rfl));obtain⟨j,e,q1,q2,q⟩:=q1;subst e;cases r1 with
  |cons r rr=>
    cases rr;obtain⟨t,rfl⟩:=r;exact call_range_1 (A7 I1 ⋯ ⋯ q1 q2 (by simpa using q))
theorem DR{a b:Expr}{ta:TA}{pos:jr}(hg:Gl X "range")(hm:X.mg "range" = aq)(ha:PA X [a,b] ta)(hs:autoParam (bb [a,b] X.env=[(ak,fe a X.env),(ak,fe b X.env)]) cF._auto_1)(hs2:autoParam (bb [b] X.env=[(ak,fe b X.env)]) cF._auto_1):
    PI X tg (.Call (.Name "range" p) [a,b] [] pos) (NE ta):=by
  intro pj s σ H R I h;refine Call_ (pD I hg hm Uk (gp (thn (ha pos pj s σ H _ I h) λus s1 ⟨vs,H1,I1,r1,q1⟩=>?_) (by rw[hs,hs2]) (by rw[hs2];rfl)));obtain⟨i,j,e,⟨q1,q2,q3,q4⟩,q⟩:=q1;subst e;cases r1 with
  |cons r rr=>
    cases rr with
    |cons r' rr=>
      cases rr;obtain⟨t,rfl⟩:=r;obtain⟨t',rfl⟩:=r';exact call_range_2 (A7 I1 q1 q2 q3 q4 q)
noncomputable def PK(wi:TI)(g:TG)(tb:TS):TS:=λD σ H=>wi σ H λJ H1=>∃W:Nat->Nat->St->Hp->Prop,(∃m,W 0 m σ H1) /\ ∀i m σ H,W i m σ H ->
  (J.stop i H/\D.nx σ H) \/ (J.go i H /\ ∃N:St->Hp->Prop,(∀σ' H',N σ' H' -> ∃m',m'<m/\W (i+1) m' σ' H') /\ ∀x H',J.yld i H x H'->g x σ H' λσ2 H2=>tb { D with nx:=N,ct:=N,bk:=D.nx } σ2 H2)
noncomputable def tZ(fp:List ae)(h:cm):List (ae×jq):=fp.filterMap λb=>(h.get? b).map λo=>(b,o)
theorem lM(hb:b∈fp)(e:h.get? b=aa o):(b,o)∈tZ fp h:=ze.mpr ⟨b,hb,by rw[e];rfl⟩
theorem De{p:ae×jq}(hp:p∈tZ fp h):p.1∈fp/\h.get? p.1=aa p.2:=by
  obtain⟨b,hb,e⟩:=ze.mp hp;cases q:h.get? b with
  |none=>rw[q] at e;cases e
  |some o=>
    rw[q] at e;have e':(b,o)=p:=Option.some.inj e;subst e';exact⟨hb,q⟩
theorem Inv.pinned(I:Inv X pj σ H s)(hf:∀b∈fp,vB X pj H b)(ho:∀b∈fp,∃o,s.heap.get? b=aa o /\ ∀v,o.data ≠ .cell v):Inv X (pj++tZ fp s.heap) σ H s:=
  I.pins_of λp hp=>(de.mp hp).elim (λz=>I.pin p (cu _ z)) λz=>by
    obtain⟨hb,e⟩:=De z;obtain⟨f0,f1,f2,_⟩:=hf p.1 hb;obtain⟨o,e',d⟩:=ho p.1 hb;rw[e] at e';cases e';exact⟨e,f0,f1,f2,d⟩
theorem Inv.unpinned{pl:List (ae×jq)}(I:Inv X (pj++pl) σ H s):Inv X pj σ H s:=I.pins_of λp hp=>I.pin p (cu _ (jf _ hp))
theorem Jy{VO:Expr}{wi:TI}{pos:jr}(hp:Tt (bv X.prog X.w) X.A X.env X.xe)(hc:X.N=X.N)(hi:PI X tg VO wi)(hg:PG X tg g)(hb:xC X VU tb)
    (hs:autoParam (∀x,fu VO X.env x=ie x) EJ._auto_1):PS X (.For tg VO VU [] pos) (PK wi g tb):=by
  intro pj s σ H D I h;refine wpAny_For (thn (hi pj s σ H _ I h) λv s1 h1=>thn h1 λitv s2 h2=>?_) hs;obtain⟨it,fp,tn,J,H2,e,I2,T,st2,f2,W,⟨m0,w0⟩,turn⟩:=h2;subst e;have stat:∀{H':Hp},(∀b∈fp,H' b=aq) -> ∀b∈fp,vB X pj H' b:=λhn b hb=>⟨hn b hb,(f2 b hb).2⟩;refine codeAny_forLoop_any (λn s'=>∃i σ' H',Inv X pj σ' H' s'/\tn i s'.heap/\(∀b∈fp,H' b=aq)/\W i n σ' H') ?_ m0 ⟨0,σ,H2,I2,st2,λb hb=>(f2 b hb).1,w0⟩;rintro n s3 ⟨i,σ3,H3,I3,st3,fr3,w3⟩;rcases turn i n σ3 H3 w3 with⟨stop,qn⟩ | ⟨go,N,hN,step⟩
  . refine kg hp (thn (T.done X rfl rfl rfl hc i pj s3 σ3 H3 X.xe I3 (stat fr3) st3 stop) λr s4 zz=>?_);obtain⟨hr,I4⟩:=zz;subst hr;exact ss ⟨σ3,H3,I4,qn⟩
  . refine kg hp (thn (T.item X rfl rfl rfl hc i pj s3 σ3 H3 X.xe I3 (stat fr3) st3 go) λr s4 zz=>?_);obtain⟨u,hr,h4⟩:=zz;subst hr;refine kg hp (thn h4 λ_ s5 zz=>?_);obtain⟨x,H5,I5,r5,y5,st5,fr5⟩:=zz;have I5':=I5.pinned (stat fr5) (T.obj _ _ st5);refine kg hp (thn (hg _ s5 σ3 H5 x u _ I5' r5 (step x H5 y5)) λ_ s6 zz=>?_);obtain⟨σ6,H6,I6,q6⟩:=zz;refine kg hp (thn (hb _ s6 σ6 H6 _ I6 q6) λf s7 q7=>?_);have UT:∀{σ7:St} {H7:Hp},Inv X (pj++tZ fp s5.heap) σ7 H7 s7->N σ7 H7 -> ∃m,m<n /\ ∃i σ' H',Inv X pj σ' H' s7/\tn i s7.heap/\(∀b∈fp,H' b=aq)/\W i m σ' H':=λ{σ7 H7} I7 n7=>by
      obtain⟨m',hm,w7⟩:=hN σ7 H7 n7;refine⟨m',hm,i+1,σ7,H7,I7.unpinned,T.keep _ _ _ st5 λb hb o e=>(I7.pin (b,o) (cu _ (cu _ (lM hb e)))).1,λb hb=>?_,w7⟩;obtain⟨o,e,d⟩:=T.obj _ _ st5 b hb;exact(I7.pin (b,o) (cu _ (cu _ (lM hb e)))).2.1
    cases f with
    |next=>obtain⟨σ7,H7,I7,n7⟩:=q7;exact UT I7 n7
    |cont=>obtain⟨σ7,H7,I7,n7⟩:=q7;exact UT I7 n7
    |brk=>obtain⟨σ7,H7,I7,q7⟩:=q7;exact⟨σ7,H7,I7.unpinned,q7⟩
    |ret v=>obtain⟨x7,σ7,H7,I7,r7,q7⟩:=q7;exact⟨x7,σ7,H7,I7.unpinned,r7,q7⟩
noncomputable abbrev R2:=V->V->Hp->VK->Prop
noncomputable def l6(X:Cx)(f:ac->ac->UN ac)(r:R2):Prop:=
  ∀(pj:List (ae×jq)) (s:ah) (σ:St) (H:Hp) (x y:V) (v u:ac) (Q:VK),Inv X pj σ H s->cG x v->cG y u->r x y H Q ->
    bu (bv X.prog X.w) X.A (f v u) (EP X pj σ Q) X.xe s
noncomputable def RS(X:Cx)(f:ac->UN ac)(r:V->Hp->VK->Prop):Prop:=
  ∀(pj:List (ae×jq)) (s:ah) (σ:St) (H:Hp) (x:V) (v:ac) (Q:VK),Inv X pj σ H s->cG x v->r x H Q ->
    bu (bv X.prog X.w) X.A (f v) (EP X pj σ Q) X.xe s
noncomputable def fO(X:Cx)(f:ac)(r:List V->Hp->VK->Prop):Prop:=
  ∀(pj:List (ae×jq)) (s:ah) (σ:St) (H:Hp) (xs:List V) (us:List ac) (Q:VK),Inv X pj σ H s->b8 xs us->r xs H Q ->
    bu (bv X.prog X.w) X.A (call f us) (EP X pj σ Q) X.xe s
noncomputable def RT(X:Cx)(r:V->Hp->(Bool->Hp->Prop)->Prop):Prop:=
  ∀(pj:List (ae×jq)) (s:ah) (σ:St) (H:Hp) (x:V) (v:ac) (Q:Bool->Hp->Prop),Inv X pj σ H s->cG x v->r x H Q ->
    bu (bv X.prog X.w) X.A (UZ v) (TP X pj σ Q) X.xe s
noncomputable def Lm(r:R2)(ta tb:TE):TE:=λσ H Q=>ta σ H λx H1=>tb σ H1 λy H2=>r x y H2 Q
noncomputable def SK(r:V->Hp->VK->Prop)(ta:TE):TE:=λσ H Q=>ta σ H λx H1=>r x H1 Q
noncomputable def rI(C:Int->Int->Prop)(g:Int->Int->V):R2:=λx y H Q=>∃i j,x=.int i/\y=.int j/\C i j/\Q (g i j) H
noncomputable def CP(g:Int->Int->V):R2:=λx y H Q=>∃i j,x=.int i/\y=.int j/\Q (g i j) H
noncomputable def rU(g:Int->V):V->Hp->VK->Prop:=λx H Q=>∃i,x=.int i/\Q (g i) H
variable {us:List ac}{op op':TV}{r r':R2}{y:V}
section
variable {a b c:Expr}{tb tc:TE}{pos:jr}
theorem LL(ha:PE X a ta)(hb:PE X b tb){R:V->V->Hp->Prop}(I:Inv X pj σ H s)
    (h:ta σ H λx H1=>tb σ H1 λy H2=>R x y H2)  {f:ac->ac->UN ac}
    (hf:∀v u s2 x y H2,Inv X pj σ H2 s2->cG x v->cG y u->R x y H2->bu (bv X.prog X.w) X.A (f v u) Q X.xe s2):
    bu (bv X.prog X.w) X.A (fe a X.env) (λv s₁=>bu (bv X.prog X.w) X.A (fe b X.env) (λu s₂=>bu (bv X.prog X.w) X.A (f v u) Q X.xe s₂) X.xe s₁) X.xe s:=by
  refine thn (ha pj s σ H _ I h) λv s1 zz=>?_;obtain⟨x,H1,I1,r1,q1⟩:=zz;refine thn (hb pj s1 σ H1 _ I1 q1) λu s2 zz=>?_;obtain⟨y,H2,I2,r2,q2⟩:=zz;exact hf v u s2 x y H2 I2 r1 r2 q2
theorem MZ{op:Operator}(ho:l6 X (gw op) r)(ha:PE X a ta)(hb:PE X b tb):PE X (.BinOp a op b pos) (Lm r ta tb):=by
  intro pj s σ H Q I h;exact wpAny_BinOp (LL ha hb I h λv u s2 x y H2 I2 rx ry q=>ho pj s2 σ H2 x y v u Q I2 rx ry q)
theorem MX{op:UnaryOp}{r:V->Hp->VK->Prop}(ho:RS X (unaryOp op) r)(ha:PE X a ta):PE X (.UnaryOp op a pos) (SK r ta):=by
  intro pj s σ H Q I h;exact UnaryOp_ (thn (ha pj s σ H _ I h) λv s1 zq5=>by obtain⟨x,H1,I1,r1,q1⟩:=zq5;exact ho pj s1 σ H1 x v Q I1 r1 q1)
theorem QL{f:ac->ac->UN ac}{C:Int->Int->Prop}{g:Int->Int->Int}
    (Vj:∀(i j:Int) (t u:Tok) (s:ah) (Q:ac->ah->Prop) (E:ac->ah->Prop),C i j->Q (.int (g i j) s.toks) { s with toks:=s.toks+1 }->bu (bv X.prog X.w) X.A (f (.int i t) (.int j u)) Q E s):
    l6 X f (rI C λi j=>.int (g i j)):=by
  intro pj s σ H x y v u Q I rx ry h;obtain⟨i,j,rfl,rfl,hc,q⟩:=h;obtain⟨t,rfl⟩:=rx;obtain⟨t',rfl⟩:=ry;exact Vj i j t t' s _ _ hc ⟨.int (g i j),H,I.tok _,⟨_,rfl⟩,q⟩
theorem Mw{f:ac->ac->UN ac}{g:Int->Int->Int}
    (Vj:∀(i j:Int) (t u:Tok) (s:ah) (Q:ac->ah->Prop) (E:ac->ah->Prop),Q (.int (g i j) s.toks) { s with toks:=s.toks+1 }->bu (bv X.prog X.w) X.A (f (.int i t) (.int j u)) Q E s):
    l6 X f (CP λi j=>.int (g i j)):=by
  intro pj s σ H x y v u Q I rx ry h;obtain⟨i,j,rfl,rfl,q⟩:=h;obtain⟨t,rfl⟩:=rx;obtain⟨t',rfl⟩:=ry;exact Vj i j t t' s _ _ ⟨.int (g i j),H,I.tok _,⟨_,rfl⟩,q⟩
theorem Kd{f:ac->ac->UN ac}{g:Int->Int->Bool}
    (Vj:∀(i j:Int) (t u:Tok) (s:ah) (Q:ac->ah->Prop) (E:ac->ah->Prop),Q (.bool (g i j)) s->bu (bv X.prog X.w) X.A (f (.int i t) (.int j u)) Q E s):
    l6 X f (CP λi j=>.bl (g i j)):=by
  intro pj s σ H x y v u Q I rx ry h;obtain⟨i,j,rfl,rfl,q⟩:=h;obtain⟨t,rfl⟩:=rx;obtain⟨t',rfl⟩:=ry;exact Vj i j t t' s _ _ ⟨.bl (g i j),H,I,rfl,q⟩
noncomputable def J6(i j:Int):Prop:=0<=j/\j<=1000000/\i.natAbs<2 ^ 64
noncomputable def LU(i j:Int):Prop:=(-(2 ^ 64)<i/\i<2 ^ 64) \/ (-(2 ^ 64)<j/\j<2 ^ 64)
theorem LU.ok{i j:Int}(h:LU i j):IntMulOk i j:=by
  rcases h with⟨h1,h2⟩ | ⟨h1,h2⟩
  . exact .of_left (intBits_le_64 h1 h2)
  . exact .of_right (intBits_le_64 h1 h2)
theorem Kc:l6 X (gw .Add) (CP λi j=>.int (i+j)):=Mw λ_ _ _ _ _ _ _ q=>add_int q
theorem KQ:l6 X (gw .Sub) (CP λi j=>.int (i-j)):=Mw λ_ _ _ _ _ _ _ q=>sub_int q
theorem KW:l6 X (gw .Mod) (rI (λ_ j=>0<j) λi j=>.int (i % j)):=QL λi j _ _ _ _ _ hc q=>by
  have h1:(0:Int)<j:=hc;exact mod_int' ⋯ (by rw[Int.fmod_eq_emod_of_nonneg i ⋯];exact q)
theorem SJ{f:ac->UN ac}{g:Int->Int}
    (Vj:∀(i:Int) (t:Tok) (s:ah) (Q:ac->ah->Prop) (E:ac->ah->Prop),Q (.int (g i) s.toks) { s with toks:=s.toks+1 }->bu (bv X.prog X.w) X.A (f (.int i t)) Q E s):
    RS X f (rU λi=>.int (g i)):=by
  intro pj s σ H x v Q I rx h;obtain⟨i,rfl,q⟩:=h;obtain⟨t,rfl⟩:=rx;exact Vj i t s _ _ ⟨.int (g i),H,I.tok _,⟨_,rfl⟩,q⟩
theorem Jg:RS X (unaryOp .USub) (rU λi=>.int (-i)):=SJ λ_ _ _ _ _ q=>neg_int q
theorem GU{Q:VK}{k k':Bool}(I:Inv X pj σ H s)(q:Q (.bl k) H)(e:k=k'):EP X pj σ Q (.bool k') s:=by
  subst e;exact⟨.bl k,H,I,rfl,q⟩
theorem Fa:l6 X (df .Lt) (CP λi j=>.bl (decide (i<j))):=Kd λ_ _ _ _ _ _ _ q=>lt_int q
theorem AW:l6 X (df .LtE) (CP λi j=>.bl (decide (i<=j))):=Kd λ_ _ _ _ _ _ _ q=>le_int q
theorem Mv:l6 X (df .Gt) (CP λi j=>.bl (decide (j<i))):=Kd λ_ _ _ _ _ _ _ q=>gt_int q
theorem KY:l6 X (df .Is) (λx y H Q=>y=.non/\Q (.bl (decide (x=.non))) H):=by
  intro pj s σ H x y v u Q I rx ry h;obtain⟨rfl,q⟩:=h;cases ry;refine is_none_gen (GU I q ?_);cases x<;>first
    | (cases rx;rfl)
    | (obtain⟨t,rfl⟩:=rx;rfl)
theorem I8:l6 X (df .IsNot) (λx y H Q=>y=.non/\Q (.bl (!decide (x=.non))) H):=by
  intro pj s σ H x y v u Q I rx ry h;obtain⟨rfl,q⟩:=h;cases ry;refine isnot_none_gen (GU I q ?_);cases x<;>first
    | (cases rx;rfl)
    | (obtain⟨t,rfl⟩:=rx;rfl)
theorem l6.or{f:ac->ac->UN ac}(h:l6 X f r)(h':l6 X f r'):l6 X f (λx y H Q=>r x y H Q \/ r' x y H Q):=by
  intro pj s σ H x y v u Q I rx ry q;rcases q with q | q
  . exact h pj s σ H x y v u Q I rx ry q
  . exact h' pj s σ H x y v u Q I rx ry q
theorem nomark(b:Expr)(h:autoParam (op ≠ .In) oQ._auto_1)(h2:autoParam (op ≠ .NotIn) oQ._auto_1):oq op b=ak:=by
  have e1:(op==CmpOp.In)=ak:=by cases op<;>first | rfl | exact absurd rfl h
  have e2:(op==CmpOp.NotIn)=ak:=by cases op<;>first | rfl | exact absurd rfl h2
  cases b<;>simp[oq,e1,e2]
theorem Hu(ho:l6 X (df op) r)(ha:PE X a ta)(hb:PE X b tb)(hm:oq op b=ak):PE X (.Compare a [op] [b] pos) (Lm r ta tb):=by
  intro pj s σ H Q I h;exact wpAny_Compare1 (LL ha hb I h λv u s2 x y H2 I2 rx ry q=>ho pj s2 σ H2 x y v u Q I2 rx ry q) hm
noncomputable def JA(t:TE):TT:=λσ H Q=>t σ H λx H'=>∃k,x=.bl k/\Q k H'
theorem Hh(ho:l6 X (df op) r)(ha:PE X a ta)(hb:PE X b tb)(hm:oq op b=ak):PT X (.Compare a [op] [b] pos) (JA (Lm r ta tb)):=by
  intro pj s σ H Q I h;refine wpAny_isTrue_Compare1 (thn (ha pj s σ H _ I h) λv s1 ⟨x,H1,I1,r1,q1⟩=>thn (hb pj s1 σ H1 _ I1 q1) λu s2 ⟨y,H2,I2,r2,q2⟩=>
    thn (ho pj s2 σ H2 x y v u _ I2 r1 r2 q2) λc s3 ⟨z,H3,I3,r3,k,e,q3⟩=>?_) hm
  subst e;cases r3;exact ff ⟨H3,I3,q3⟩
noncomputable def BS(r r':R2)(ta tb tc:TE):TE:=λσ H Q=>ta σ H λx H1=>tb σ H1 λy H2=>r x y H2 λz H3=>∃k,z=.bl k /\
  (if k=ai then tc σ H3 λw' H4=>r' y w' H4 Q else Q (.bl ak) H3)
theorem FN(ho:l6 X (df op) r)(ho':l6 X (df op') r')(ha:PE X a ta)(hb:PE X b tb)(hc:PE X c tc)
    (hm:autoParam (Tu [op,op'] [b,c]=ak) Nr._auto_1):PE X (.Compare a [op,op'] [b,c] pos) (BS r r' ta tb tc):=by
  intro pj s σ H Q I h;refine Compare_chain (thn (ha pj s σ H _ I h) λv s1 ⟨x,H1,I1,r1,q1⟩=>chain_link (thn (hb pj s1 σ H1 _ I1 q1) λu s2 ⟨y,H2,I2,r2,q2⟩=>
    thn (ho pj s2 σ H2 x y v u _ I2 r1 r2 q2) λd s3 ⟨z,H3,I3,r3,k,e,q3⟩=>?_)) hm
  subst e;cases r3;refine ff ?_;cases k with
  |false=>exact ite_ff ⟨.bl ak,H3,I3,rfl,q3⟩
  |true=>exact ite_tt (chain_last (thn (hc pj s3 σ H3 _ I3 q3) λw' s4 ⟨z',H4,I4,r4,q4⟩=>ho' pj s4 σ H4 y z' u w' Q I4 r2 r4 q4))
theorem F8(ho:l6 X (df op) r)(ho':l6 X (df op') r')(ha:PE X a ta)(hb:PE X b tb)(hc:PE X c tc)
    (hm:autoParam (Tu [op,op'] [b,c]=ak) Nr._auto_1):PT X (.Compare a [op,op'] [b,c] pos) (JA (BS r r' ta tb tc)):=by
  intro pj s σ H Q I h;refine isTrue_chain (thn (ha pj s σ H _ I h) λv s1 ⟨x,H1,I1,r1,q1⟩=>test_link (thn (hb pj s1 σ H1 _ I1 q1) λu s2 ⟨y,H2,I2,r2,q2⟩=>
    thn (ho pj s2 σ H2 x y v u _ I2 r1 r2 q2) λd s3 ⟨z,H3,I3,r3,k,e,q3⟩=>?_)) hm
  subst e;cases r3;refine ff ?_;cases k with
  |false=>
    obtain⟨k',e',q'⟩:=q3;cases e';exact ite_ff ⟨H3,I3,q'⟩
  |true=>
    refine ite_tt (test_last (thn (hc pj s3 σ H3 _ I3 q3) λw' s4 ⟨z',H4,I4,r4,q4⟩=>thn (ho' pj s4 σ H4 y z' u w' _ I4 r2 r4 q4) λd' s5 zz=>?_));obtain⟨z2,H5,I5,r5,k2,e2,q5⟩:=zz;subst e2;cases r5;exact ff ⟨H5,I5,q5⟩
noncomputable def Nk(K:aj)(x:V)(H:Hp)(k:Bool):Prop:=
  match x with
  | .non=>k=ak
  | .bl b=>k=b
  | .int i=>k=(i != 0)
  | .str y=>y.length<=bf/\k=((y.length:Int) != 0)
  | .byt y=>y.size<=bf/\k=((y.size:Int) != 0)
  | .ref p=>(∃xs,fS K H p xs/\k = !xs.isEmpty) \/ (∃xs,kX K H p xs/\k = !xs.isEmpty) \/ ∃kvs,H p=aa (.dK kvs)/\k = !kvs.isEmpty
  |_=>False
theorem Bz{kvs:List (κ×V)}{vs:List (κ×ac)}(r:KV kvs vs):(!vs.isEmpty) = !kvs.isEmpty:=by
  cases r<;>rfl
theorem uL{xs:List V}{its:List ac}(r:b8 xs its):(!its.toArray.isEmpty) = !xs.isEmpty:=by
  cases r<;>simp
theorem rS:(bf:Nat)<2 ^ 63:=by rw[iq];decide
theorem Jh:RT X (λx H Q=>∃k,Nk X.K x H k/\Q k H):=by
  intro pj s σ H x v Q I rx h;obtain⟨k,e,q⟩:=h;have hl:=rS;have hs:bf=16777216:=iq;cases x with
  |non=>
    cases rx;have e':k=ak:=e;subst e';exact truthy_none ⟨H,I,q⟩
  |bl b=>
    cases rx;have e':k=b:=e;subst e';exact ff ⟨H,I,q⟩
  |int i=>
    obtain⟨t,rfl⟩:=rx;have e':k=(i != 0):=e;subst e';exact PySem.P.truthy_int ⟨H,I,q⟩
  |str y=>
    obtain⟨t,rfl⟩:=rx;obtain⟨hy,e'⟩:y.length<=bf/\k=((y.length:Int) != 0):=e;subst e';exact PySem.P.truthy_str ⋯ ⟨H,I.tok _,q⟩
  |byt y=>
    obtain⟨t,rfl⟩:=rx;obtain⟨hy,e'⟩:y.size<=bf/\k=((y.size:Int) != 0):=e;subst e';exact W.truthy_bytes ⋯ ⟨H,I.tok _,q⟩
  |ref p=>
    cases rx;have e':(∃xs,fS X.K H p xs/\k = !xs.isEmpty) \/ (∃xs,kX X.K H p xs/\k = !xs.isEmpty) \/ ∃kvs,H p=aa (.dK kvs)/\k = !kvs.isEmpty:=e;rcases e' with⟨xs,hx,e'⟩ | ⟨xs,hx,e'⟩ | ⟨kvs,hx,e'⟩
    . subst e';obtain⟨its,r,pl,hz⟩:=I.list hx;have hlen:=r.length;exact wpAny_truthy_list pl.isList (by simp only[ci];ac_rfl) ⟨H,I.tok _,by rw[uL r];exact q⟩
    . subst e';obtain⟨its,r,pl,hz⟩:=I.tuple hx;have hlen:=r.length;exact truthy_tuple pl (by simp only[ci];ac_rfl) ⟨H,I.tok _,by rw[uL r];exact q⟩
    . subst e';obtain⟨hz,hS,vs,r,m⟩:kvs.length<=bf/\(p==fq)=ak /\ ∃vs,KV kvs vs/\s.heap.DictOf (eU X.prog X.w) p vs:=I.hok p _ hx;have hlen:kvs.length=vs.length:=Paired.length r;exact wpAny_truthy_dict hS m ⋯ ⟨H,I.tok _,by rw[Bz r];exact q⟩
  |_=>exact(show False from e).elim
theorem F6(ha:PE X a ta)(he:∀VT,isTrue a X.env VT=(do let v <- VT;wa a.pos;wc [v] (UZ v))):
    PT X a (λσ H Q=>ta σ H λx H'=>∃k,Nk X.K x H' k/\Q k H'):=by
  intro pj s σ H Q I h;exact isTrue_plain (thn (ha pj s σ H _ I h) λv s1 zq6=>by obtain⟨x,H1,I1,r1,q1⟩:=zq6;exact Jh pj s1 σ H1 x v Q I1 r1 q1) (he _)
theorem Bm:l6 X (gw .Add) (λx y H Q=>∃i j,x=.str i/\y=.str j/\i.length+j.length<=bf/\Q (.str (i++j)) H):=by
  intro pj s σ H x y v u Q I rx ry h;obtain⟨i,j,rfl,rfl,hz,q⟩:=h;obtain⟨t,rfl⟩:=rx;obtain⟨t',rfl⟩:=ry;exact add_str (λt' tk=>⟨.str (i++j),H,I.tok _,⟨_,rfl⟩,q⟩) hz
theorem jQ{x:V}(r:b8 [x] us):∃u,us=[u]/\cG x u:=by
  cases r with
  |cons r1 r2=>cases r2;exact⟨_,rfl,r1⟩
theorem ES{x:V}(r:b8 [x,y] us):∃u w',us=[u,w']/\cG x u/\cG y w':=by
  cases r with
  |cons r1 r2=>
    cases r2 with
    |cons r3 r4=>cases r4;exact⟨_,_,rfl,r1,r3⟩
theorem Gm:fO X (.builtin "abs") (λxs H Q=>∃i,xs=[.int i]/\Q (.int (if i<0 then -i else i)) H):=by
  intro pj s σ H xs us Q I r h;obtain⟨i,rfl,q⟩:=h;obtain⟨u,rfl,t,rfl⟩:=jQ r;exact call_abs_int λu tk=>⟨.int (if i<0 then -i else i),H,I.tok _,⟨_,rfl⟩,q⟩
theorem EF(hc:X.calm=ai):fO X (.builtin "min") (λxs H Q=>∃i j,xs=[.int i,.int j]/\Q (.int (if j<i then j else i)) H):=by
  intro pj s σ H xs us Q I r h;obtain⟨i,j,rfl,q⟩:=h;obtain⟨u,w',rfl,⟨t,rfl⟩,⟨t',rfl⟩⟩:=ES r;refine min_two_ints (I.ok.hd hc) λh' tk k=>⟨_,H,I.kept k,?_,q⟩;by_cases hj:j<i
  . rw[VH hj,VH hj];exact⟨_,rfl⟩
  . rw[Vn hj,Vn hj];exact⟨_,rfl⟩
end
structure ObjM(h:cm)(x dx C:ae)(mA:bi->Option ac):Prop where
  obj:h.get? x=aa (rj C dx)
  ns:h.Ns1 dx mA
  ne:dx≠x
variable {dx:ae}{mA:bi->Option ac}
theorem Dk(n:h.Ns1 dx mA):∃od,h.get? dx=aa od /\ ∀name,Ul name od=aa (mA name):=by
  obtain⟨o,es,ep,ho,hd,hk,_,hm⟩:=n;refine⟨o,ho,λname=>?_⟩;have e:=hm name;unfold nsFind findBy at e;rw[<- Array.find?_toList] at e;unfold Ul;rw[hd];dsimp only;split
  . rename_i y q;rw[q] at e;exact congrArg aa e
  . rename_i q;rw[q] at e;have a:es.toList.any (·.refKey)=ak:=by
      rw[Sw];intro y hy;obtain⟨z,t,hkey⟩:=hk y (Array.mem_toList_iff.mp hy);simp[DictEntry.refKey,hkey]
    have a':¬es.toList.any (·.refKey)=ai:=by rw[a];exact ju
    rw[Vn a'];exact congrArg aa e
theorem ObjM.look{x:ae}(I:ObjM h x dx C mA):∃od,W.InstAt h x (rj C dx) C (aa od) /\ ∀name,Ul name od=aa (mA name):=
  let ⟨od,ho,hl⟩:=Dk I.ns
  ⟨od,⟨I.obj,rfl,rfl,ho⟩,hl⟩
variable {pl:UN Bool}{f:ae}{kw:List (bi×ac)}{name:bi}
section
variable {x:ae}{v:ac}
theorem Im{expr:Bool}(X:K.In s.heap)(I:ObjM s.heap x dx C mA)(hg:zf K C name=ai)(hh:TW K C=ai)
    (ha:lj K (.ref C) name=aa aq) (hv:mA name=aa v) (hv':W.handedIn v=ai) (h:Q v { s with toks:=s.toks+1 }):
    bu (bv prog w) A (getAttr (.ref x) name expr) Q E s:=by
  obtain⟨od,J,hl⟩:=I.look;exact W.get_value X J (yi hg).1 (W.findObj_own hh ha rfl (by rw[hl,hv])) hv' h
theorem GR{Q:ac×List ac->ah->Prop}(X:K.In s.heap)(I:ObjM s.heap x dx C mA)(hg:zf K C name=ai)
    (hf:lj K (.ref C) name=aa (aa (.ref f))) (ht:Vy K (.ref f)=ai) (hv:mA name=aq) (h:Q (.ref f,[.ref x]) s):
    bu (bv prog w) A (vg (.ref x) name pl) Q E s:=by
  obtain⟨od,J,hl⟩:=I.look;exact W.method_fn X J (yi hg).1 (yi hg).2 hf (beq_iff_eq.mp ht) (by show (Ul name od).map (·.isSome)=aa ak;rw[hl,hv];rfl) h
theorem HU{ns:List bi}{Q:Unit->ah->Prop}(X:K.In s.heap)(I:ObjM s.heap x dx C mA)
    (hs:lj K (.ref C) "__setattr__" = aa (aa (.builtin "object.__setattr__"))) (hp:W.plainOver K C=ai) (ht:UU K C name=aa aq) (hh:TW K C=ai)
    (hw:zr mA ns) (hsz:ns.length<=bf)
    (h:∀h',ObjM h' x dx C (λy=>if y=name then aa v else mA y)->tj dx s.heap h'->Q () { s with heap:=h',toks:=s.toks+2 }):
    bu (bv prog w) A (setAttr (.ref x) name v) Q E s:=by
  obtain⟨od,J,hl⟩:=I.look;refine W.set_plain X J hs (W.osa_open (s:={ s with toks:=s.toks+1 }) (r:=aq) X J hp ht λb=>?_);obtain⟨cd,hc,hd'⟩:=W.any_some hh;have hx:s.heap.get? x=aa ⟨.ref C,aa dx,.plain,#[]⟩:=I.obj;refine af (aw (af (af (wpAny_loadPart hx (af (W.Looks.here (s:={ s with toks:=s.toks+1 }) (W.looks_clsIn X hc) ?_))))));rw[hd'];refine aw (a:=aa dx) (af (aw (af ?_)));refine wpAny_nsSet1 (s:={ s with toks:=s.toks+1 }) I.ns λh' hn2 hs2=>?_;obtain⟨oD,esD,epD,hoD,hdD,hcD⟩:=hn2.count (PySem.Within.cons name v hw);refine af (wpAny_lookBehind hoD (by rw[hdD];exact pastItsLine_dict (lh hcD (by rw[bh];ac_rfl))) ?_);exact aw (h _ ⟨(hs2.2 _ (dq I.ne)).trans I.obj,hn2,I.ne⟩ hs2)
theorem Fu{R:Result->ah->Prop}{vs:List ac}(X:K.In s.heap)(hm:Tv K C=ai)
    (hi:lj K (.ref C) "__init__" = aa (aa (.ref f))) (hf:W.typeIn K (.ref f)=aa (.type "function"))
    (h:wd (bv prog w) (A.under (.builtin "type.__call__" ⟨.ref C::vs,kw⟩)) (.call (.ref f) ⟨.ref (s.heap.objs.size+1)::vs,kw⟩) (W.InitBack (s.heap.objs.size+1) R)
      { s with heap:=(s.heap.push mf).push (rj C s.heap.objs.size) }):
    wd (bv prog w) A (.call (.ref C) ⟨vs,kw⟩) R s:=by
  obtain⟨hh,g,d,t,os⟩:=s;exact W.make_core (W.makes_of X hm) (W.looks_findIn X hi) (λself=>W.bind_fn X self hf) (.inl rfl) h
end
noncomputable def lJ(f:bi)(v:V):List (bi×V)->List (bi×V)
  | []=>[(f,v)]
  | (g,x)::r=>if g=f then (g,v)::r else (g,x)::lJ f v r
theorem sG(f g:bi)(v:V):∀fs:List (bi×V),(lJ f v fs).lookup g=if g=f then aa v else fs.lookup g
  | []=>by
    show List.lookup g [(f,v)]=_;by_cases h:g=f
    . have hb:(g==f)=ai:=beq_iff_eq.mpr h;simp only[List.lookup,hb,VH h]
    . have hb:(g==f)=ak:=beq_eq_false_iff_ne.mpr h;simp only[List.lookup,hb,Vn h]
  | (k,x)::r=>by
    have ih:=sG f g v r;rw[show lJ f v ((k,x)::r)=(if k=f then (k,v)::r else (k,x)::lJ f v r) from rfl];by_cases hk:k=f
    . rw[VH hk];by_cases h:g=k
      . have hb:(g==k)=ai:=beq_iff_eq.mpr h;simp only[List.lookup,hb,VH (h.trans hk)]
      . have hb:(g==k)=ak:=beq_eq_false_iff_ne.mpr h;simp only[List.lookup,hb,Vn (λe:g=f=>h (e.trans hk.symm))]
    . rw[Vn hk];by_cases h:g=k
      . have hb:(g==k)=ai:=beq_iff_eq.mpr h;simp only[List.lookup,hb,Vn (λe:g=f=>hk (h.symm.trans e))]
      . have hb:(g==k)=ak:=beq_eq_false_iff_ne.mpr h;simp only[List.lookup,hb];exact ih
theorem rV(f:bi)(v:V):∀fs:List (bi×V),f∈(lJ f v fs).map (·.1) /\ ∀g,g∈fs.map (·.1)->g∈(lJ f v fs).map (·.1)
  | []=>⟨by simp[lJ],λg h=>by simp at h⟩
  | (k,x)::r=>by
    obtain⟨i1,i2⟩:=rV f v r;rw[show lJ f v ((k,x)::r)=(if k=f then (k,v)::r else (k,x)::lJ f v r) from rfl];by_cases hk:k=f
    . rw[VH hk];subst hk;exact⟨by simp,λg h=>by simpa using h⟩
    . rw[Vn hk];refine⟨?_,λg h=>?_⟩
      . rw[cf];exact bg _ i1
      . rw[cf] at h ⊢;rcases br.mp h with e | e
        . exact br.mpr (.inl e)
        . exact bg _ (i2 g e)
theorem sI(f:bi)(v:V):∀fs:List (bi×V),(lJ f v fs).length<=fs.length+1
  | []=>by simp[lJ]
  | (k,x)::r=>by
    have ih:=sI f v r;rw[show lJ f v ((k,x)::r)=(if k=f then (k,v)::r else (k,x)::lJ f v r) from rfl];by_cases hk:k=f
    . rw[VH hk,bh,bh];ac_rfl
    . rw[Vn hk,bh,bh];ac_rfl
theorem oJ.some_of{o:Option ac}(r:oJ (aa v) o):∃u,o=aa u/\cG v u:=by
  cases o with
  |none=>exact(show False from r).elim
  |some u=>exact⟨u,rfl,r⟩
theorem oJ.none_of{o:Option ac}(r:oJ aq o):o=aq:=by
  cases o with
  |none=>rfl
  |some u=>exact(show False from r).elim
theorem E3(r:cG v u):W.handedIn u=ai:=by
  cases v with
  |non=>cases (show u=jt from r);rfl
  |bl b=>cases (show u=yy b from r);rfl
  |int i=>obtain⟨t,e⟩:=(show ∃t,u=Value.int i t from r);cases e;rfl
  |str x=>obtain⟨t,e⟩:=(show ∃t,u=Value.str x t from r);cases e;rfl
  |byt b=>obtain⟨t,e⟩:=(show ∃t,u=Vg b t from r);cases e;rfl
  |flt b=>obtain⟨t,e⟩:=(show ∃t,u=TR b t from r);cases e;rfl
  |ref a=>cases (show u=Value.ref a from r);rfl
  |ty n=>cases (show u=yz n from r);rfl
section
variable {fs fs':List (bi×V)}
theorem t9(hok:pU P w H h)(e:H a=aa (.ins C dx fs)):∃mA,ObjM h a dx C mA/\(∀f,oJ (fs.lookup f) (mA f))/\zr mA (fs.map (·.1))/\fs.length<=1000/\H dx=aa (.own a):=by
  obtain⟨d,z,ne,ob,mA,n,r,q⟩:=(show cZ P w H h a (.ins C dx fs) from hok a _ e);exact⟨mA,⟨ob,n,ne⟩,r,q,z,d⟩
end
structure Cls(K:aj)(C:ae):Prop where
  pg:zf K C Str.empty=ai
  hd:TW K C=ai
  po:W.plainOver K C=ai
  sa:lj K (.ref C) "__setattr__" = aa (aa (.builtin "object.__setattr__"))
theorem Cls.get(c:Cls K C)(f:bi):zf K C f=ai:=c.pg
noncomputable def j4(K:aj)(C:ae)(f:bi):Prop:=lj K (.ref C) f=aa aq
theorem j4.taker{f:bi}(n:j4 K C f):UU K C f=aa aq:=by
  unfold UU;rw[show lj K (.ref C) f=aa aq from n];rfl
structure Meth(K:aj)(C:ae)(m:bi)(f:ae):Prop where
  at_:lj K (.ref C) m=aa (aa (.ref f))
  fn:Vy K (.ref f)=ai
  kp:ot K (.ref f)=ai
variable {m:bi}
section
variable {fs:List (bi×V)}{f:bi}
theorem C0{b:Bool}(I:Inv X pj σ H s)(e:H a=aa (.ins C dx fs))(c:Cls X.K C)(n:j4 X.K C f)(l:fs.lookup f=aa v)
    (h:∀u s',Inv X pj σ H s'->cG v u->Q u s'):bu (bv X.prog X.w) A (getAttr (.ref a) f b) Q E s:=by
  obtain⟨mA,O,r,_,_,_⟩:=t9 I.hok e;obtain⟨u,hu,ru⟩:=oJ.some_of (v:=v) (o:=mA f) (by rw[<- l];exact r f);exact Im I.kIn O (c.get f) c.hd n hu (E3 ru) (h u _ (I.tok _) ru)
theorem uO{g:ae}{Q:ac×List ac->ah->Prop}(I:Inv X pj σ H s)(e:H a=aa (.ins C dx fs))(c:Cls X.K C)(k:Meth X.K C m g)(l:fs.lookup m=aq)
    (h:Q (.ref g,[.ref a]) s):bu (bv X.prog X.w) A (vg (.ref a) m pl) Q E s:=by
  obtain⟨mA,O,r,_,_,_⟩:=t9 I.hok e;have hn:mA m=aq:=oJ.none_of (by rw[<- l];exact r m);exact GR I.kIn O (c.get m) k.at_ k.fn hn h
theorem BV{Q:Unit->ah->Prop}(I:Inv X pj σ H s)(e:H a=aa (.ins C dx fs))(c:Cls X.K C)(n:j4 X.K C f)(hl:fs.length<1000)(ry:cG y u)
    (h:∀s',Inv X pj σ (upd H a (.ins C dx (lJ f y fs))) s'->Q () s'):bu (bv X.prog X.w) A (setAttr (.ref a) f u) Q E s:=by
  obtain⟨mA,O,r,wi,_,ho⟩:=t9 I.hok e;have hz:(fs.map (·.1)).length<=bf:=by rw[ay,iq];ac_rfl
  refine HU I.kIn O c.sa c.po n.taker c.hd wi hz λh' O' sb=>h _ ?_;have hd:∃o,h'.get? dx=aa o:=let ⟨o,_,_,e',_⟩:=O'.ns;⟨o,e'⟩;refine I.write (x:=a) (e:=dx) (by rw[e];exact km) (.inr ho) (λb q hb z=>(sb.2 b hb).trans z) hd ?_;refine⟨by rw[bC O.ne];exact ho,?_,O.ne,O'.obj,_,O'.ns,λg=>?_,λg hg=>?_⟩
  . have:=sI f y fs;ac_rfl
  . show oJ ((lJ f y fs).lookup g) (if g=f then aa u else mA g);rw[sG];by_cases q:g=f
    . rw[VH q,VH q];exact ry
    . rw[Vn q,Vn q];exact r g
  . by_cases q:g=f
    . rw[q];exact(rV f y fs).1
    . refine(rV f y fs).2 g (wi g λz=>hg ?_);show (if g=f then aa u else mA g)=aq;rw[Vn q];exact z
theorem Inv.made(I:Inv X pj σ H s):Inv X pj σ (upd (upd H s.heap.objs.size (.own (s.heap.objs.size+1))) (s.heap.objs.size+1) (.ins C s.heap.objs.size []))
    { s with heap:=(s.heap.push mf).push (rj C s.heap.objs.size) }:=by
  have e1:(s.heap.push mf).get? s.heap.objs.size=aa mf:=cp s.heap rfl;have e2:((s.heap.push mf).push (rj C s.heap.objs.size)).get? (s.heap.objs.size+1)=aa (rj C s.heap.objs.size):=by
    have:=cp (s.heap.push mf) (o:=rj C s.heap.objs.size) rfl;rwa[qg] at this
  have e3:(s.heap.push mf).Ns s.heap.objs.size (λ_=>aq):=⟨mf,#[],_,e1,rfl,(λe he=>absurd he (by simp)),λ_=>rfl⟩;have I1:=I.laid (a:=s.heap.objs.size) (o:=.own (s.heap.objs.size+1)) (h':=s.heap.push mf) (t':=s.toks) (λb u q=>ap _ q) (bo _) ⟨_,e1⟩;refine I1.laid (a:=s.heap.objs.size+1) (o:=.ins C s.heap.objs.size []) (t':=s.toks) (λb u q=>ap _ q) (Vk (qg _ _)) ?_;have ne:s.heap.objs.size≠s.heap.objs.size+1:=fh (Tw _);refine⟨by rw[bC ne,bT],nj _,ne,e2,λ_=>aq,(Heap.Ns1.of_empty e3).at λo q=>ap _ q,λ_=>km,λy hy=>absurd rfl hy⟩
theorem J2{f:bi}{pos:jr}(hb:ko e f env (fe e env)=fe e env)
    (h:bu (bv prog w) A (fe e env) (λo s₁=>bu (bv prog w) A (getAttr o f ai) Q E s₁) E s):bu (bv prog w) A (fe (.Attribute e f pos) env) Q E s:=
  Attribute_any_ h (by rw[arm_eval_Attribute,hb])
end
noncomputable def PL(K:aj)(ta:TE)(f:bi):TE:=λσ H Q=>ta σ H λx H1=>∃a C dx fs v,x=.ref a/\H1 a=aa (.ins C dx fs)/\Cls K C/\j4 K C f/\fs.lookup f=aa v/\Q v H1
noncomputable def Pa(K:aj)(ta tv:TE)(f:bi):TS:=λD σ H=>tv σ H λy H1=>ta σ H1 λx H2=>∃a C dx fs,x=.ref a/\H2 a=aa (.ins C dx fs)/\Cls K C/\j4 K C f/\fs.length<1000 /\
  D.nx σ (upd H2 a (.ins C dx (lJ f y fs)))
section
variable {o VR:Expr}{f:bi}{pos tpos:jr}{tv:TE}
theorem KI(he:PE X e ta)(hb:ko e f X.env (fe e X.env)=fe e X.env):PE X (.Attribute e f pos) (PL X.K ta f):=by
  intro pj s σ H Q I h;refine J2 hb (thn (he pj s σ H _ I h) λu s1 zz=>?_);obtain⟨x,H1,I1,rx,a,C,dx,fs,v,ex,ea,c,n,l,q⟩:=zz;subst ex;obtain rfl:u=Value.ref a:=rx;exact C0 I1 ea c n l λu' s2 I2 ru=>⟨v,H1,I2,ru,q⟩
theorem Jz(ha:PE X o ta)(hv:PE X VR tv)(hs:jd VR (aa (.Attribute o f W8)) pos.line X.env=ie ak):PS X (.Assign [.Attribute o f W8] VR pos) (Pa X.K ta tv f):=by
  intro pj s σ H D I h;refine plainObj_wpAny_Assign_Attribute (thn (hv pj s σ H _ I h) λu s1 ⟨y,H1,I1,ry,q⟩=>thn (ha pj s1 σ H1 _ I1 q) λov s2 ⟨x,H2,I2,rx,a,C,dx,fs,ex,ea,c,n,l,q2⟩=>?_) hs;subst ex;obtain rfl:ov=Value.ref a:=rx;exact BV I2 ea c n l ry λs3 I3=>⟨σ,_,I3,q2⟩
end
section
variable {c:ac}{b:Bool}
inductive TyOf(K:aj)(H:Hp):V->ac->Prop where
  |non:TyOf K H .non (.type "NoneType")
  |bl (x:Bool):TyOf K H (.bl x) (.type "bool")
  |int (i:Int):TyOf K H (.int i) (.type "int")
  |str (x:bi):TyOf K H (.str x) (.type "str")
  |flt (x:UInt64):TyOf K H (.flt x) (.type "float")
  |lst {a:ae} {xs:List V} (e:H a=aa (.lst xs)):TyOf K H (.ref a) (.type "list")
  |frz {a:ae} {o:jq} {xs:List V} (e:H a=aa (.frz o (.lst xs))):TyOf K H (.ref a) (.type "list")
  |tup {a:ae} {xs:List V} (e:H a=aa (.tup xs)):TyOf K H (.ref a) (.type "tuple")
  |dK {a:ae} {kvs:List (cB×V)} (e:H a=aa (.dK kvs)):TyOf K H (.ref a) (.type "dict")
  |dT {a:ae} {ep:Nat} {kvs:List (List cB×V)} (e:H a=aa (.dT ep kvs)):TyOf K H (.ref a) (.type "dict")
  |ins {a C dx:ae} {fs:List (bi×V)} (e:H a=aa (.ins C dx fs)) (cl:Cls K C) (ha:lj K (.ref C) "__class__" = aa (aa (.builtin "object.__class__")))
      (hn:W.specialIn K (.builtin "object.__class__") "__get__" = aa (aa (.builtin "getset_descriptor.__get__"))) (htk:W.takesIn K (.builtin "object.__class__")=aa ai)
      (hm:W.mroIn K C (.type "object")=aa ai):TyOf K H (.ref a) (.ref C)
theorem Dx{x:V}{t:ac}(I:Inv X pj σ H s)(rx:cG x u)(ty:TyOf X.K H x t)(e:Vl X.K t c=aa b)(h:∀tk,Q (.bool b) { s with toks:=tk }):
    bu (bv X.prog X.w) A (call (.builtin "isinstance") [u,c]) Q E s:=by
  cases ty with
  |non=>cases (show u=jt from rx);exact nh W.kitx_none I.kIn km e (λz=>nomatch z) h
  |bl y=>cases (show u=yy y from rx);exact nh W.kitx_bool I.kIn km e (λz=>nomatch z) h
  |int i=>obtain⟨t,q⟩:=(show ∃t,u=Value.int i t from rx);cases q;exact nh W.kitx_int I.kIn km e (λz=>nomatch z) h
  |str y=>obtain⟨t,q⟩:=(show ∃t,u=Value.str y t from rx);cases q;exact nh W.kitx_str I.kIn km e (λz=>nomatch z) h
  |flt y=>obtain⟨t,q⟩:=(show ∃t,u=TR y t from rx);cases q;exact nh W.kitx_float I.kIn km e (λz=>nomatch z) h
  | @lst a xs ea=>
    cases (show u=Value.ref a from rx);obtain⟨_,_,n,_,h1⟩:=(show cZ X.prog X.w H s.heap a (.lst xs) from I.hok a _ ea);exact nh W.kitx_list I.kIn ⟨_,h1,rfl⟩ e (λz=>nomatch z) h
  | @frz a ob xs ea=>
    cases (show u=Value.ref a from rx);obtain⟨_,_,_,n,_,h1⟩:=(show cZ X.prog X.w H s.heap a (.frz ob (.lst xs)) from I.hok a _ ea);exact nh W.kitx_list I.kIn ⟨_,h1,rfl⟩ e (λz=>nomatch z) h
  | @tup a xs ea=>
    cases (show u=Value.ref a from rx);obtain⟨_,_,_,p⟩:=(show cZ X.prog X.w H s.heap a (.tup xs) from I.hok a _ ea);obtain⟨o,h1,h2,_⟩:=p;exact nh W.kitx_tuple I.kIn ⟨o,h1,h2⟩ e (λz=>nomatch z) h
  | @dK a kvs ea=>
    cases (show u=Value.ref a from rx);obtain⟨_,_,vs,_,p⟩:=(show cZ X.prog X.w H s.heap a (.dK kvs) from I.hok a _ ea);obtain⟨o,es,ep,h1,h2,_⟩:=p;exact nh W.kitx_dict I.kIn ⟨o,h1,h2.1⟩ e (λz=>nomatch z) h
  | @dT a ep kvs ea=>
    cases (show u=Value.ref a from rx);obtain⟨_,_,xs,_,o,es,h1,h2,_⟩:=(show cZ X.prog X.w H s.heap a (.dT ep kvs) from I.hok a _ ea);exact nh W.kitx_dict I.kIn ⟨o,h1,h2.1⟩ e (λz=>nomatch z) h
  | @ins a C dx fs ea cl ha hn htk hm=>
    cases (show u=Value.ref a from rx);obtain⟨mA,O,_⟩:=t9 I.hok ea;obtain⟨od,J,_⟩:=O.look;exact nh (W.kitx_own (cl.get _) cl.hd ha hn htk hm) I.kIn J e (λz=>nomatch z) h
end
structure Room(k:Nat)(A:bx):Prop where
  hd:A.handled=aq
  dp:A.depth+3*k+5<Um
  un:A.units+16*k+200<lq
theorem Room.mono{k:Nat}(r:Room k A)(h:j<=k):Room j A:=⟨r.hd,by have:=r.dp;ac_rfl,by have:=r.un;ac_rfl⟩
theorem Room.deeper{k:Nat}{A:bx}(r:Room (k+1) A)(env:wu):Room k (A.deeper env):=
  ⟨r.hd,by have:=r.dp;show A.depth+1+3*k+5<_;ac_rfl,by have:=r.un;show A.units+3+16*k+200<_;ac_rfl⟩
theorem Br:(A.under (.builtin "type.__call__" ⟨.ref C::us,kw⟩)).depth=A.depth+1:=by
  first | rfl | simp[Around.under,Code.weight,Code.isCreation,Code.isGuard,Code.isCaller,Code.frames,Sx,guardIds]
theorem Bq:(A.under (.builtin "type.__call__" ⟨.ref C::us,kw⟩)).units=A.units+1:=by
  first | rfl | simp[Around.under,Code.cUnits,Code.frames,Sx]
theorem Room.make{k:Nat}(r:Room (k+1) A)(C:ae)(us:List ac)(kw:List (bi×ac)):Room k (A.under (.builtin "type.__call__" ⟨.ref C::us,kw⟩)):=
  ⟨r.hd,by have:=r.dp;rw[Br];ac_rfl,by have:=r.un;rw[Bq];ac_rfl⟩
theorem Room.depth{k:Nat}{A:bx}(r:Room k A):A.depth<Um:=by have:=r.dp;ac_rfl
theorem Room.units{k:Nat}{A:bx}(r:Room k A):A.units+64<lq:=by have:=r.un;ac_rfl
noncomputable def Lo:TA:=λ_ H Q=>Q [] H
noncomputable def Lu(ta:TE)(tr:TA):TA:=λσ H Q=>ta σ H λx H1=>tr σ H1 λxs H2=>Q (x::xs) H2
section
variable {t:TA}{pos:jr}
theorem u0:PA X [] Lo:=λ_ _ _ _ H Q I h=>Calls.spliced_nil ⟨[],H,I,.nil,h⟩
theorem nS(ha:PE X e te)(hr:PA X es t)(hs:autoParam (bb (e::es) X.env=(ak,fe e X.env)::bb es X.env) cF._auto_1):PA X (e::es) (Lu te t):=by
  intro pos pj s σ H Q I h;rw[hs];show bu _ _ (spliced ((ak,fe e X.env)::ip pos (bb es X.env))) _ _ s;refine Calls.spliced_cons (thn (ha pj s σ H _ I h) λu s1 zz=>?_);obtain⟨x,H1,I1,r1,q1⟩:=zz;exact thn (hr pos pj s1 σ H1 _ I1 q1) λus s2 zq0=>by obtain⟨xs,H2,I2,r2,q2⟩:=zq0;exact⟨x::xs,H2,I2,.cons r1 r2,q2⟩
noncomputable def P7(t:TA):TE:=λσ H Q=>t σ H λxs H1=>xs.length<=bf /\ ∀p,H1 p=aq->Q (.ref p) (upd H1 p (.tup xs))
noncomputable def PH(t:TA):TE:=λσ H Q=>t σ H λxs H1=>xs.length<=bf /\ ∀p,H1 p=aq->Q (.ref p) (upd H1 p (.lst xs))
theorem KB{x1}(h:PA X es t):PE X (.Tuple es x1 pos) (P7 t):=by
  intro pj s σ H Q I hq;refine wpAny_Tuple_spliced (thn (h pos pj s σ H _ I hq) λus s1 ⟨xs,H1,I1,r,z,q⟩=>⟨by rw[<- r.length];exact z,?_⟩);have hf:H1 s1.heap.objs.size=aq:=I1.hok.fresh (bo _);refine⟨.ref s1.heap.objs.size,upd H1 s1.heap.objs.size (.tup xs),I1.laid (t':=s1.toks) (λb u e=>ap _ e) (bo _) ?_,rfl,q _ hf⟩;exact⟨z,us,r,⟨_,cp _ rfl,rfl,_,rfl⟩⟩
theorem KG(h:PA X es t):PE X (.List es pos) (PH t):=by
  intro pj s σ H Q I hq;refine wpAny_List_spliced (thn (h pos pj s σ H _ I hq) λus s1 ⟨xs,H1,I1,r,z,q⟩=>⟨by rw[<- r.length];exact z,?_⟩);have hf:H1 s1.heap.objs.size=aq:=I1.hok.fresh (bo _);refine⟨.ref s1.heap.objs.size,upd H1 s1.heap.objs.size (.lst xs),I1.laid (t':=s1.toks) (λb u e=>ap _ e) (bo _) ?_,rfl,q _ hf⟩;exact⟨z,us,0,r,cp _ rfl⟩
end
noncomputable abbrev Sp:=List V->Hp->VK->XK->Prop
noncomputable abbrev HA:=List wu->Hp->ah->XK->ac->ah->Prop
structure Env0(P:ar)(w:bm)(K:aj)(mg:bi->Option ac)(base:cm)(A:bx)(outer:List wu)(s:ah)(H:Hp):Prop where
  frames:A.frames=aa outer
  mod:Mod K mg base
  bs:∀b o,base.get? b=aa o->s.heap.get? b=aa o/\H b=aq
  bsz:base.objs.size<=s.heap.objs.size
  funs:s.heap.FunFrames base outer
  frf:∀b∈frs outer,H b=aq
  hok:pU P w H s.heap
  bare:uw s.gens
noncomputable def CE(outer:List wu)(P:ar)(w:bm)(H:Hp)(s:ah)(Q:VK)(u:ac)(s':ah):Prop:=
  ∃v H',s'.os=s.os/\uw s'.gens/\Un (frs outer) [] H H' s.heap s'.heap/\pU P w H' s'.heap/\cG v u/\Q v H'
noncomputable def CR(CX:HA)(outer:List wu)(P:ar)(w:bm)(H:Hp)(s:ah)(Q:VK)(E:XK)(r:Result)(s':ah):Prop:=
  match r with
  | .ok (.ret u)=>CE outer P w H s Q u s'
  | .ok _=>False
  | .error e=>CX outer H s E e s'
structure FnOk(P:ar)(w:bm)(K:aj)(mg:bi->Option ac)(base:cm)(CX:HA)(k:Nat)(f:ae)(fd:ir)(ps:List bi)(sp:Sp):Prop where
  len:∀vs H Q E,sp vs H Q E->vs.length=ps.length
  run:∀(A:bx) (outer:List wu) (s:ah) (H:Hp) (args:Args) (us:List ac) (vs:List V) (Q:VK) (E:XK),Room k A->Env0 P w K mg base A outer s H->Sy s fd args (ps.zip us)->b8 vs us->sp vs H Q E ->
    wd (bv P w) A (.call (.ref f) args) (CR CX outer P w H s Q E) s
theorem Env0.make(e:Env0 P w K mg base A outer s H)(C:ae)(us:List ac)(kw:List (bi×ac)):
    Env0 P w K mg base (A.under (.builtin "type.__call__" ⟨.ref C::us,kw⟩)) outer s H:=⟨by first | exact e.frames | (simpa [Around.under,Code.envs,Sx,pushEnvs] using e.frames),e.mod,e.bs,e.bsz,e.funs,e.frf,e.hok,e.bare⟩
theorem Inv.env0(I:Inv X pj σ H s):Env0 X.prog X.w X.K X.mg X.base X.A X.stack s H:=
  ⟨I.ok.frames,I.ok.mod,I.bs,lh I.ok.bsz I.sz,I.stack,I.stkFree,I.hok,I.bare⟩
theorem Inv.after{Q:VK}(I:Inv X pj σ H s)(h:CE X.stack X.prog X.w H s Q u s'):EP X pj σ Q u s':=by
  obtain⟨v,H',os,bare,un,hok,r,q⟩:=h;obtain⟨hh,g,d,t,os'⟩:=s';obtain rfl:os'=s.os:=os;exact⟨v,H',I.call (h':=hh) (g':=g) (d':=d) (t':=t) (ch:=[]) un hok bare (λb z=>absurd z (by simp)),r,q⟩
noncomputable def Lv(sp:Sp)(dvs:List V)(E:XK)(t:TA):TE:=λσ H Q=>t σ H λvs H1=>sp (vs++dvs) H1 Q E
noncomputable def JB(C:ae)(m:bi)(sp:Sp)(dvs:List V)(E:XK)(ta:TE)(t:TA):TE:=λσ H Q=>ta σ H λx H1=>∃a dx fs,x=.ref a/\H1 a=aa (.ins C dx fs)/\fs.lookup m=aq /\
  t σ H1 λvs H2=>sp (x::(vs++dvs)) H2 Q E
noncomputable def Lq(C:ae)(sp:Sp)(dvs:List V)(E:XK)(t:TA):TE:=λσ H Q=>t σ H λvs H1=>∀x dx,H1 x=aq->H1 dx=aq->dx≠x ->
  sp (.ref x::(vs++dvs)) (upd (upd H1 dx (.own x)) x (.ins C dx [])) (λv H2=>v=.non/\Q (.ref x) H2) E
noncomputable def jN(K:aj)(fd:ir)(ps:List bi)(ds:List ac):Prop:=
  ∀(s:ah) (us:List ac),K.In s.heap->(us++ds).length=ps.length->Sy s fd ⟨us,[]⟩ (ps.zip (us++ds))
variable {fd:ir}
theorem jN.all(h:∀us:List ac,us.length=ps.length->Vm fd ⟨us,[]⟩=ie (ps.zip us)):jN K fd ps []:=λs us _ hl=>by
  rw[im] at hl ⊢;exact .of_eq (h us hl)
noncomputable def pT(CX:HA)(X:Cx)(E:XK):Prop:=∀(pj:List (ae×jq)) (σ:St) (H:Hp) (s:ah) (e:ac) (s':ah),Inv X pj σ H s->CX X.stack H s E e s'->X.xe e s'
variable {vs:List V}{CX:HA}{sp:Sp}{VV:jr}
section
variable {k:Nat}{dvs:List V}{ds:List ac}{E:XK}{pos:jr}{o:Expr}{t:TA}
theorem BX{Q:VK}(F:FnOk X.prog X.w X.K X.mg X.base CX k f fd ps sp)(hr:Room k X.A)(hb:jN X.K fd ps ds)(hd:b8 dvs ds)(hx:pT CX X E)
    (I:Inv X pj σ H s) (r:b8 vs us) (h:sp (vs++dvs) H Q E):bu (bv X.prog X.w) X.A (call (.ref f) us) (EP X pj σ Q) X.xe s:=by
  have r2:b8 (vs++dvs) (us++ds):=r.append hd;have hl:(us++ds).length=ps.length:=by rw[<- r2.length];exact F.len _ _ _ _ h
  refine wpAny_call (we (F.run X.A X.stack s H ⟨us,[]⟩ (us++ds) (vs++dvs) Q E hr I.env0 (hb s us I.kIn hl) r2 h) λr s' hq=>?_);cases r with
  |error e=>exact hx pj σ H s e s' I hq
  |ok fl=>
    cases fl with
    |ret u=>exact I.after hq
    |next=>exact jg hq
    |brk=>exact jg hq
    |cont=>exact jg hq
theorem CW(F:FnOk X.prog X.w X.K X.mg X.base CX k f fd ps sp)(hr:Room k X.A)(hg:Gl X x)(hm:X.mg x=aa (.ref f))(hk:ot X.K (.ref f)=ai)(hb:jN X.K fd ps ds)(hd:b8 dvs ds)(hx:pT CX X E)
    (ha:PA X (e::es) t) (hdb:autoParam ((x==("__debug__" : bi))=ak) oQ._auto_1) (he:autoParam (bb (e::es) X.env=(ak,fe e X.env)::bb es X.env) cF._auto_1) (hpl:autoParam ((ip pos (bb es X.env)).any (·.1)=ak) cF._auto_1):
    PE X (.Call (.Name x p) (e::es) [] pos) (Lv sp dvs E t):=by
  intro pj s σ H Q I h;refine pd (yC I hg hm ?_ hdb);refine Sz (h₀:=X.base) I.ok.mod.kin hk (thn (ha pos pj s σ H _ I h) λus s1 ⟨vs,H1,I1,r,q⟩=>⟨I1.kIn,?_⟩) he hpl;exact BX F hr hb hd hx I1 r q
theorem Hr(he:PE X o ta)(c:Cls X.K C)(hm:Meth X.K C m f)(F:FnOk X.prog X.w X.K X.mg X.base CX k f fd ps sp)(hr:Room k X.A)(hb:jN X.K fd ps ds)(hd:b8 dvs ds)(hx:pT CX X E)(ha:PA X (e::es) t)
    (hst:autoParam (bb (e::es) X.env=(ak,fe e X.env)::bb es X.env) cF._auto_1) (hpl:autoParam ((ip pos (bb es X.env)).any (·.1)=ak) cF._auto_1)
    (ht:autoParam (fe (.Call (.Attribute o m VV) (e::es) [] pos) X.env=(do
      let ov <- fe o X.env
      wa VV.atName
      let (f,first) <- wc [ov] (vg ov m pl)
      Uo pos f first (ip pos (bb (e::es) X.env)) (vh pos (pq [] X.env)))) cF._auto_1):
    PE X (.Call (.Attribute o m VV) (e::es) [] pos) (JB C m sp dvs E ta t):=by
  intro pj s σ H Q I h;refine U6 (pl:=pl) (thn (he pj s σ H _ I h) λu s1 ⟨x,H1,I1,rx,a,dx,fs,ex,ea,l,q⟩=>?_) ht;subst ex;obtain rfl:u=Value.ref a:=rx;refine uO I1 ea c hm l ?_;refine Sz (first:=[.ref a]) (h₀:=X.base) I.ok.mod.kin hm.kp (thn (ha pos pj s1 σ H1 _ I1 q) λus s2 ⟨vs,H2,I2,r,q2⟩=>⟨I2.kIn,?_⟩) hst hpl;exact BX (us:=.ref a::us) (vs:=.ref a::vs) F hr hb hd hx I2 (.cons rfl r) q2
theorem FJ(he:PE X o ta)(c:Cls X.K C)(hm:Meth X.K C m f)(F:FnOk X.prog X.w X.K X.mg X.base CX k f fd ps sp)(hr:Room k X.A)(hb:jN X.K fd ps ds)(hd:b8 dvs ds)(hx:pT CX X E)
    (ht:autoParam (fe (.Call (.Attribute o m VV) [] [] pos) X.env=(do
      let ov <- fe o X.env
      wa VV.atName
      let (f,first) <- wc [ov] (vg ov m pl)
      Uo pos f first (ip pos (bb [] X.env)) (vh pos (pq [] X.env)))) cF._auto_1):
    PE X (.Call (.Attribute o m VV) [] [] pos) (JB C m sp dvs E ta Lo):=by
  intro pj s σ H Q I h;refine U6 (pl:=pl) (thn (he pj s σ H _ I h) λu s1 ⟨x,H1,I1,rx,a,dx,fs,ex,ea,l,q⟩=>?_) ht;subst ex;obtain rfl:u=Value.ref a:=rx;refine uO I1 ea c hm l ?_;exact W.callWith_K0 (first:=[.ref a]) I1.kIn hm.kp (BX (us:=[.ref a]) (vs:=[.ref a]) F hr hb hd hx I1 (.cons rfl .nil) q)
structure Mk(K:aj)(C f:ae):Prop where
  makes:Tv K C=ai
  init:lj K (.ref C) "__init__" = aa (aa (.ref f))
  fn:Vy K (.ref f)=ai
  kp:ot K (.ref C)=ai
theorem Ev{Q:VK}(M:Mk X.K C f)(F:FnOk X.prog X.w X.K X.mg X.base CX k f fd ps sp)(hr:Room (k+1) X.A)(hb:jN X.K fd ps ds)(hd:b8 dvs ds)
    (hx:pT CX X E) (I:Inv X pj σ H s) (r:b8 vs us)
    (h:∀x dx,H x=aq->H dx=aq->dx≠x->sp (.ref x::(vs++dvs)) (upd (upd H dx (.own x)) x (.ins C dx [])) (λv H2=>v=.non/\Q (.ref x) H2) E):
    bu (bv X.prog X.w) X.A (call (.ref C) us) (EP X pj σ Q) X.xe s:=by
  have hq:=h (s.heap.objs.size+1) s.heap.objs.size (I.hok.fresh (tf _)) (I.hok.fresh (bo _)) (fh (Tw _));have I2:=Inv.made (C:=C) I;have r2:b8 (V.ref (s.heap.objs.size+1)::(vs++dvs)) (Value.ref (s.heap.objs.size+1)::(us++ds)):=.cons rfl (r.append hd);have hl:(Value.ref (s.heap.objs.size+1)::us++ds).length=ps.length:=by
    have e:=r2.length;rw[F.len _ _ _ _ hq] at e;exact e.symm
  refine wpAny_call (Fu (f:=f) I.kIn M.makes M.init (beq_iff_eq.mp M.fn) (we (F.run _ X.stack _ _ ⟨Value.ref (s.heap.objs.size+1)::us,[]⟩ (Value.ref (s.heap.objs.size+1)::(us++ds)) _ _ E (hr.make C us [])
    (I2.env0.make C us []) (hb _ (Value.ref (s.heap.objs.size+1)::us) I2.kIn hl) r2 hq) λr s' hq'=>?_))
  cases r with
  |error e=>exact hx pj σ _ _ e s' I2 hq'
  |ok fl=>
    cases fl with
    |ret u=>
      obtain⟨v,H',I3,rv,ev,q3⟩:=I2.after hq';subst ev;exact⟨rv,⟨V.ref (s.heap.objs.size+1),H',I3,rfl,q3⟩⟩
    |next=>exact jg hq'
    |brk=>exact jg hq'
    |cont=>exact jg hq'
theorem Hs(M:Mk X.K C f)(F:FnOk X.prog X.w X.K X.mg X.base CX k f fd ps sp)(hr:Room (k+1) X.A)(hg:Gl X x)(hm:X.mg x=aa (.ref C))(hb:jN X.K fd ps ds)(hd:b8 dvs ds)(hx:pT CX X E)
    (ha:PA X (e::es) t) (hdb:autoParam ((x==("__debug__" : bi))=ak) oQ._auto_1) (he:autoParam (bb (e::es) X.env=(ak,fe e X.env)::bb es X.env) cF._auto_1) (hpl:autoParam ((ip pos (bb es X.env)).any (·.1)=ak) cF._auto_1):
    PE X (.Call (.Name x p) (e::es) [] pos) (Lq C sp dvs E t):=by
  intro pj s σ H Q I h;refine pd (yC I hg hm ?_ hdb);refine Sz (h₀:=X.base) I.ok.mod.kin M.kp (thn (ha pos pj s σ H _ I h) λus s1 ⟨vs,H1,I1,r,q⟩=>⟨I1.kIn,?_⟩) he hpl;exact Ev M F hr hb hd hx I1 r q
end
section
variable {k:Nat}{ks:List bi}{E:XK}{pos kpos:jr}{o:Expr}{kws:List xr}{t tk:TA}{nm:Option bi}
variable {g:List ac->List ac->List ac}{gV:List V->List V->List V}
end
structure FnScope(N P:List bi)(sc:Scope):Prop where
  kind:sc.kind=.function
  co:sc.isCoroutine=ak
  gen:sc.isGenerator=ak
  nd:N.Nodup
  pre:N.take P.length=P
  par:∀x∈P,sc.names.lookup x=aa .local \/ sc.names.lookup x=aa .cell
  nofree:∀y∈sc.names,y.2 ≠ .free
theorem wX{rm:bi->Option sk}{x:bi}:∀{binds:List (bi×ac)} {m:bi->Option ac},(∀v,(x,v) ∉ binds)->Uq rm binds m x=m x
  | [],_,_=>rfl
  | (n,v)::r,m,h=>by
    unfold Uq;rw[wX λw hw=>h w (bg _ hw)];split
    . have:x≠n:=by rintro rfl;exact h v cj
      simp[this]
    . rfl
theorem wZ{rm:bi->Option sk}{x:bi}:∀{binds:List (bi×ac)} {m:bi->Option ac},(∀v,(x,v) ∉ binds)->Ur rm binds m x=m x
  | [],_,_=>rfl
  | (n,v)::r,m,h=>by
    unfold Ur;rw[wZ λw hw=>h w (bg _ hw)];split
    . rfl
    . have:x≠n:=by rintro rfl;exact h v cj
      simp[this]
theorem wY{rm:bi->Option sk}{x:bi}{v:ac}:∀{P:List bi} {vs:List ac} {i:Nat} {m:bi->Option ac},P.Nodup->P[i]?=aa x->vs[i]?=aa v->rm x=aa .local ->
    Uq rm (P.zip vs) m x=aa v
  | [],_,_,_,_,h,_,_=>by simp at h
  |_::_,[],_,_,_,_,h,_=>by simp at h
  |p::P,w::vs,0,m,nd,h1,h2,hk=>by
    simp at h1 h2;subst h1;subst h2;show Uq rm ((p,w)::P.zip vs) m p=_;unfold Uq;rw[wX λv hv=>(ph.mp nd).1 (Us hv).1,VH hk];simp
  |p::P,w::vs,i+1,m,nd,h1,h2,hk=>by
    show Uq rm ((p,w)::P.zip vs) m x=_;unfold Uq;exact wY (i:=i) (ph.mp nd).2 (by simpa using h1) (by simpa using h2) hk
theorem xA{rm:bi->Option sk}{x:bi}{v:ac}:∀{P:List bi} {vs:List ac} {i:Nat} {m:bi->Option ac},P.Nodup->P[i]?=aa x->vs[i]?=aa v->rm x≠aa .local ->
    Ur rm (P.zip vs) m x=aa v
  | [],_,_,_,_,h,_,_=>by simp at h
  |_::_,[],_,_,_,_,h,_=>by simp at h
  |p::P,w::vs,0,m,nd,h1,h2,hk=>by
    simp at h1 h2;subst h1;subst h2;show Ur rm ((p,w)::P.zip vs) m p=_;unfold Ur;rw[wZ λv hv=>(ph.mp nd).1 (Us hv).1,Vn hk];simp
  |p::P,w::vs,i+1,m,nd,h1,h2,hk=>by
    show Ur rm ((p,w)::P.zip vs) m x=_;unfold Ur;exact xA (i:=i) (ph.mp nd).2 (by simpa using h1) (by simpa using h2) hk
noncomputable def start(N:List bi)(vs:List V):St:=vs.map aa++ao (N.length-vs.length) aq
noncomputable def Ik(A:bx):List ae:=match A.handled with
  |some (.ref a)=>[a]
  |_=>[]
theorem Dz(h:A.handled=aq):Ik A=[]:=by
  unfold Ik;rw[h]
noncomputable def sW(CX:HA)(P:ar)(w:bm)(K:aj)(mg:bi->Option ac)(base:cm)(N:List bi)(VM:bi)(VI:Scope)(f:ae)(cd:ac)(A:bx)(outer:List wu)(s:ah)(H:Hp)(E:XK):Cx where
  prog:=P
  w:=w
  K:=K
  mg:=mg
  base:=base
  A:=A.deeper (qj VM VI s.heap.objs.size f cd)
  N:=N
  s₀:=s
  HZ:=H
  env:=qj VM VI s.heap.objs.size f cd
  outer:=outer
  stack:=qj VM VI s.heap.objs.size f cd::outer
  ex:=[]
  calm:=ai
  fn:=λ_=>ai
  pn:=[]
  hs:=Ik A
  xe:=λe s'=>bu (bv P w) (A.deeper (qj VM VI s.heap.objs.size f cd)) (leaving (qj VM VI s.heap.objs.size f cd) e) (λ_ s''=>CX outer H s E e s'') (λe' s''=>CX outer H s E e' s'') s'
theorem B7{sc:Scope}(h:sc.names.lookup x=aa .cell):∃c,(UV n sc.names []).lookup x=aa c:=by
  have q:=Tx sc.names n [] (.inl h);exact ux.mp q
variable {VM:bi}
theorem Dy{cd:ac}{s1:ah}{E:XK}
    (S:FnScope N ps VI) (hd:A.handled=aq) (e0:Env0 P w K mg base A outer s H) (hl:vs.length=ps.length) (r:b8 vs us)
    (x:InCallC s s.heap.objs.size (Uq (qj VM VI s.heap.objs.size f cd).kindOf (ps.zip us) λ_=>aq) (UV (s.heap.objs.size+1) VI.names []) (Ur (qj VM VI s.heap.objs.size f cd).kindOf (ps.zip us) λ_=>aq) s1):
    Inv (sW CX P w K mg base N VM VI f cd A outer s H E) [] (start N vs) H s1:=by
  have hpl:ps.length<=N.length:=by have:=congrArg List.length S.pre;rw[cv] at this;ac_rfl
  obtain⟨h1,tk,rfl,hk⟩:=x.done;have noA:∀b:ae,b ∉ (sW CX P w K mg base N VM VI f cd A outer s H E).ex:=λb z=>absurd (show b∈([]:List ae) from z) (by simp);refine⟨⟨e0.mod,S.kind,rfl,rfl,bo _,λy z c h1 h2=>?_,λy hy=>?_,λy c _ h=>?_,λ_=>hd,Around.frames_deeper e0.frames,.inr ⟨rfl,rfl⟩,λb z=>absurd z (noA b),e0.bs,e0.bsz,λb _ _=>noA b,λb z=>absurd z (noA b),e0.funs,e0.frf,.inl hd⟩,
    rfl,e0.bare,Un.kept hk,⟨_,x.toInCall.ns,λi y v h1 h2 h3=>?_⟩,λy c h=>⟨_,x.cell y c h⟩,e0.hok.fresh (bo _),λy c h=>?_,λp hp=>absurd (show p∈([]:List (ae×jq)) from hp) (by simp),e0.hok.kept hk,?_,λa ha=>absurd (show a∈Ik A from ha) (by rw[Dz hd];simp)⟩
  . exact name_of_addr x.apart (er h1) (er h2)
  . have hy:VI.names.lookup y=aa .cell \/ VI.names.lookup y=aa .free:=hy;rcases hy with hy | hy
    . exact B7 hy
    . exact absurd rfl (S.nofree _ (er hy))
  . exact zt (x.above y c (er h))
  . have hi:i<vs.length:=by
      unfold start at h2;by_cases hi:i<vs.length
      . exact hi
      . rw[bt (by simpa using hi)] at h2;rw[gh] at h2;split at h2<;>cases h2
    have ha:vs[i]?=aa v:=by
      unfold start at h2;rw[bj (by simpa using hi),cg] at h2;cases e:vs[i]? with
      |none=>rw[e] at h2;cases h2
      |some a=>rw[e] at h2;cases h2;rfl
    obtain⟨u,hu,rv⟩:=r.get ha;have hp:ps[i]?=aa y:=by
      rw[<- S.pre,kq ⋯];exact h1
    have ndP:ps.Nodup:=by rw[<- S.pre];exact S.nd.sublist (T0 _ _)
    refine⟨u,rv,?_⟩;rcases S.par y (bw hp) with k | k
    . exact .inl ⟨k,wY ndP hp hu k⟩
    . obtain⟨c,e⟩:=B7 (n:=s.heap.objs.size+1) k;refine .inr ⟨.inl k,c,e,?_⟩;have q:=x.cell y c e;rw[xA ndP hp hu (by show VI.names.lookup y≠_;rw[k];decide)] at q;exact q
  . exact e0.hok.fresh (zt (x.above y c (er h)))
  . unfold start;show _=N.length;rw[bq,ay,lr];ac_rfl
theorem NL{k:Nat}{params:Arguments}{dV kV doc pm cdv ct oc:ac}{an od:Option ae}
    {osl:Array (Option ac)}   (lk:K.lookup f=aa ⟨oc,od,.func (ve name VM params VU VI dV kV doc pm an cdv ct),osl⟩) (hcd:xf K cdv VM=ai) (S:FnScope N ps VI)
    (len:∀vs H Q E,sp vs H Q E->vs.length=ps.length)
    (W9:∀(A:bx) (outer:List wu) (s:ah) (H:Hp) (vs:List V) (Q:VK) (E:XK),Room k (A.deeper (qj VM VI s.heap.objs.size f cdv))->sp vs H Q E ->
      ∃t,xC (sW CX P w K mg base N VM VI f cdv A outer s H E) VU t/\t { nx:=λ_ H'=>Q .non H',rt:=Q } (start N vs) H):
    FnOk P w K mg base CX (k+1) f (ve name VM params VU VI dV kV doc pm an cdv ct) ps sp:=by
  refine⟨len,λA outer s H args us vs Q E hr e0 hb r hsp=>?_⟩;have hl:=len _ _ _ _ hsp;have KX:K.In s.heap:=e0.mod.kin.keeps λb o e=>(e0.bs b o e).1;have lim:s.heap.NoLimit:=e0.mod.nolimit.keeps λb o e=>(e0.bs b o e).1;have VS:∀y∈ps.zip us,VI.names.lookup y.1=aa .local \/ (VI.names.lookup y.1=aa .cell/\((UV (s.heap.objs.size+1) VI.names []).lookup y.1).isSome=ai):=λ⟨n,v⟩ hy=>by
    rcases S.par n (Us hy).1 with q | q
    . exact .inl q
    . exact .inr ⟨q,Tx _ _ _ (.inl q)⟩
  refine codeAny_call_function hr.depth (KX _ _ lk) rfl S.co S.gen rfl (W.codeRec_of KX hcd) (hb _ _ _ _ ?_);refine wpAny_newFunctionEnv_cells S.kind VS λenv he s1 x=>?_;subst he;refine⟨lim.keeps x.toInCall.keep,codeAny_func ?_⟩;obtain⟨t,ht,hq⟩:=W9 A outer s H vs Q E (hr.deeper _) hsp;have I:Inv (sW CX P w K mg base N VM VI f cdv A outer s H E) [] (start N vs) H s1:=Dy S hr.hd e0 hl r x;refine ii (ht [] s1 (start N vs) H _ I hq) (λfl s' hs=>?_) λe s' hs=>hs;have fin:∀{σ':St} {H':Hp} {v:V} {u:ac},Inv (sW CX P w K mg base N VM VI f cdv A outer s H E) [] σ' H' s'->cG v u->Q v H'->CE outer P w H s Q u s':=
    λ{σ' H' v u} J rv q=>⟨v,H',J.os,J.bare,J.base,J.hok,rv,q⟩
  cases fl with
  |ret u=>
    obtain⟨v,σ',H',J,rv,q⟩:=hs;exact fin J rv q
  |next=>
    obtain⟨σ',H',J,q⟩:=hs;exact fin (v:=V.non) (u:=jt) J rfl q
  |brk=>
    obtain⟨_,_,_,q⟩:=hs;exact jg q
  |cont=>
    obtain⟨_,_,_,q⟩:=hs;exact jg q
section
variable {pos:jr}{t:TA}{id T:String}{r:List V->Hp->VK->Prop}
noncomputable def PM(r:List V->Hp->VK->Prop)(t:TA):TE:=λσ H Q=>t σ H λvs H1=>r vs H1 Q
theorem AE(hc:fO X (.builtin id) r)(hg:Gl X x)(hm:X.mg x=aq)(hv:mh x=aa (.builtin id))(ha:PA X (e::es) t)(hn:autoParam (x ≠ "__name__") oQ._auto_1)(hdb:autoParam ((x==("__debug__" : bi))=ak) oQ._auto_1)
    (he:autoParam (bb (e::es) X.env=(ak,fe e X.env)::bb es X.env) cF._auto_1) (hpl:autoParam ((ip pos (bb es X.env)).any (·.1)=ak) cF._auto_1):PE X (.Call (.Name x p) (e::es) [] pos) (PM r t):=by
  intro pj s σ H Q I h;refine pd (pD I hg hm hv ?_ hn hdb);exact Tz (thn (ha pos pj s σ H _ I h) λus s1 zq1=>by obtain⟨vs,H1,I1,r1,q1⟩:=zq1;exact hc pj s1 σ H1 vs us Q I1 r1 q1) he hpl
theorem rO(hc:fO X (.type T) r)(hg:Gl X x)(hm:X.mg x=aq)(hv:mh x=aa (.type T))(ha:PA X (e::es) t)(hn:autoParam (x ≠ "__name__") oQ._auto_1)(hdb:autoParam ((x==("__debug__" : bi))=ak) oQ._auto_1)
    (he:autoParam (bb (e::es) X.env=(ak,fe e X.env)::bb es X.env) cF._auto_1) (hpl:autoParam ((ip pos (bb es X.env)).any (·.1)=ak) cF._auto_1):PE X (.Call (.Name x p) (e::es) [] pos) (PM r t):=by
  intro pj s σ H Q I h;refine pd (pD I hg hm hv ?_ hn hdb);exact gp (thn (ha pos pj s σ H _ I h) λus s1 zq2=>by obtain⟨vs,H1,I1,r1,q1⟩:=zq2;exact hc pj s1 σ H1 vs us Q I1 r1 q1) he hpl
end
end L2
namespace HT
open PySem PyProof.Rows
section
open PySem.SeqAt
open PySem.AutoSeq1 (wpAny_loadPart')
open PySem.MeetsSeq PySem.MeetsSeq2 PySem.MeetsSeq3
end
variable {Q:ac->ah->Prop}{sl:ae}{vl vu:ac}{lo hi:Option Int}
theorem J0{t b:ae}{vs ws:List ac}(ht:US s.heap t vs.toArray)(hb:US s.heap b ws.toArray)(hv:vs≠[])
    (h1:ws=[]->Q (.ref t) s) (h2:ws≠[]->Q (.ref s.heap.objs.size) { s with heap:=s.heap.push { cls:=.type "tuple",data:=.seq (vs++ws).toArray } })
    (hsz:vs.length+ws.length<=bf):bu (bv prog w) A (gw .Add (.ref t) (.ref b)) Q E s:=by
  obtain⟨⟨cls,dd,data,sl⟩,ho,hc,n,hd⟩:=id ht;obtain⟨⟨cls2,dd2,data2,sl2⟩,ho2,hc2,n2,hd2⟩:=id hb;simp only at hc hd hc2 hd2;subst hc hd hc2 hd2;have e:vs.toArray++ws.toArray=(vs++ws).toArray:=by simp
  by_cases hw:ws=[]
  . exact T1 ⟨_,ho,rfl⟩ ⟨_,ho2,rfl⟩ vi yj qk px (ou _ _)
      (tuple_addW1 t b vs.toArray ws.toArray n n2 dd dd2 sl sl2 (by simpa using hv) (by simp[hw])) ⟨ho,ho2,h1 hw⟩
  . refine T1 ⟨_,ho,rfl⟩ ⟨_,ho2,rfl⟩ vi yj qk px (ou _ _)
      (tuple_addW2 t b vs.toArray ws.toArray n n2 dd dd2 sl sl2 (by simpa using hv) (by simpa using hw) (by rw[ci,ci];exact hsz)) ⟨ho,ho2,?_⟩
    rw[e];exact h2 hw
noncomputable def gE(n d:Nat):Option Int->Nat
  |none=>d
  |some v=>if v<0 then (v+(n:Int)).toNat else min v.toNat n
theorem A2(n d:Nat):gE n d aq=d:=rfl
theorem Jp(n d:Nat)(hd:d<=n)(o:Option Int):gE n d o<=n:=by
  cases o with
  |none=>exact hd
  |some v=>
    show (if v<0 then (v+(n:Int)).toNat else min v.toNat n)<=n;by_cases hv:v<0
    . rw[VH hv];ac_rfl
    . rw[Vn hv];exact Nat.min_le_right _ _
theorem Cy(v:Int)(n d:Nat):(if v<0 then max (v+(n:Int)) 0 else min v (n:Int))=((gE n d (aa v):Nat):Int):=by
  show (if v<0 then max (v+(n:Int)) 0 else min v (n:Int))=(((if v<0 then (v+(n:Int)).toNat else min v.toNat n):Nat):Int);by_cases hv:v<0
  . simp only[VH hv];ac_rfl
  . simp only[Vn hv];ac_rfl
theorem C9(lo hi:Option Int)(n:Nat):oi lo hi 1 (n:Int)=(((gE n 0 lo:Nat):Int),((gE n n hi:Nat):Int)):=by
  have h1:¬((1:Int)<0):=⋯;unfold oi;simp only[h1,if_false];refine Prod.ext ?_ ?_
  . cases lo with
    |none=>rfl
    |some v=>exact Cy v n 0
  . cases hi with
    |none=>rfl
    |some v=>exact Cy v n n
theorem Bd(i j:Nat):ke (i:Int) (j:Int) 1=j-i:=by
  unfold ke;have h1:(1:Int) > 0:=⋯;simp only[h1,if_true,Int.ediv_one];split<;>ac_rfl
theorem tQ{v:ac}{o:Option Int}{Q:Option Int->ah->Prop}(p:zg v o)(h:Q o s):bu (bv prog w) A (U7 v) Q E s:=by
  cases p with
  |none=>exact Ut h
  |int i t=>exact slicePart_int h
theorem rJ{Q:Int×Int×Nat->ah->Prop}(hs:s.heap.IsSliceOf sl vl vu .none)(pl:zg vl lo)(pu:zg vu hi)
    (h:Q (((gE n 0 lo:Nat):Int),1,gE n n hi-gE n 0 lo) s):bu (bv prog w) A (ue (.ref sl) (ie (n:Int))) Q E s:=by
  obtain⟨os,hos,hcs,hds⟩:=id hs;unfold ue UK;refine af (af (ef hos hds (x:=vl) rfl (af (ef hos hds (x:=vu) rfl (af (ef hos hds (x:=.none) rfl (aw ?_)))))));refine af (Ut ?_);show bu _ _ (if ((1:Int)==0)=ai then _ else _) _ _ s;rw[Vn ∅];refine af (tQ pl (af (tQ pu (af (aw ?_)))));show bu _ _ (match oi lo hi 1 (n:Int) with | (lo,hi)=>ie (lo,(1:Int),ke lo hi 1)) _ _ s;rw[C9 lo hi n];show bu _ _ (ie (((gE n 0 lo:Nat):Int),(1:Int),ke ((gE n 0 lo:Nat):Int) ((gE n n hi:Nat):Int) 1)) _ _ s;rw[Bd];exact aw h
theorem FH(xs:Array ac)(i k:Nat):((ig k).filterMap λ(m:Nat)=>xs[((i:Int)+(m:Int)*1).toNat]?).toArray=((xs.toList.drop i).take k).toArray:=by
  have e:(λ(m:Nat)=>xs[((i:Int)+(m:Int)*1).toNat]?)=λm=>xs[i+m]?:=by
    funext m;have:((i:Int)+(m:Int)*1).toNat=i+m:=⋯;rw[this]
  rw[e];have:=pick_run xs i k;rw[List.filterMap_map] at this;have e2:((λx=>xs[x]?) ∘ λx=>i+x)=λm=>xs[i+m]?:=rfl;rw[e2] at this;rw[this]
theorem qT{t:ae}{VN:Array ac}(ht:US s.heap t VN)(hs:s.heap.IsSliceOf sl vl vu .none)(pl:zg vl lo)(pu:zg vu hi)
    (hw:¬(gE VN.size 0 lo=0/\gE VN.size VN.size hi=VN.size))
    (h:Q (.ref s.heap.objs.size) { s with heap:=s.heap.push { cls:=.type "tuple",data:=.seq ((VN.toList.drop (gE VN.size 0 lo)).take (gE VN.size VN.size hi-gE VN.size 0 lo)).toArray } })
    (hsz:VN.size<=bf):bu (bv prog w) A (T5 (.ref t) (.ref sl)) Q E s:=by
  have htake:sizeOk (.seq ((VN.toList.drop (gE VN.size 0 lo)).take (gE VN.size VN.size hi-gE VN.size 0 lo)).toArray):=by
    show ((VN.toList.drop (gE VN.size 0 lo)).take (gE VN.size VN.size hi-gE VN.size 0 lo)).toArray.size<=bf;rw[ci,cv,uy,yh];ac_rfl
  have hj:gE VN.size VN.size hi<=VN.size:=Jp _ _ (bo _) hi;obtain⟨os,hos,hcs,hds⟩:=id hs;have hTs:s.TypeIs (.ref sl) "slice" := ⟨os,hos,hcs⟩;unfold T5
  try with_reducible refine mw ?_
  first | refine af (aw ?_) | skip
  refine af (wpAny_sequenceKey ht.typeIs ∅ ?_);refine af (fg (name:=gf "__getitem__") ht.typeIs lc
    (fj lc ht.typeIs entry_tuple_getitem ?_ (args_tuple_getitem _ _)))
  show bu _ _ (Uu (.ref t) >>= _) _ _ s;refine af (tupleItemsOf_ ht ?_);refine af (wpAny_typeOf hTs ?_);rw[VH ∅];refine af (rJ hs pl pu ?_);have hno:¬((((gE VN.size 0 lo:Nat):Int)==0&&(1:Int)==1&&(gE VN.size VN.size hi-gE VN.size 0 lo)==VN.size)=ai):=by
    intro q;rw[dj,dj] at q;have q1:((gE VN.size 0 lo:Nat):Int)=0:=eq_of_beq q.1.1;have q2:gE VN.size VN.size hi-gE VN.size 0 lo=VN.size:=eq_of_beq q.2;exact hw ⟨⋯,⋯⟩
  show bu _ _ (if (((gE VN.size 0 lo:Nat):Int)==0&&(1:Int)==1&&(gE VN.size VN.size hi-gE VN.size 0 lo)==VN.size)=ai then _ else _) _ _ s;rw[Vn hno,FH]
  first
    |exact af (m:=ku _) (iu (aw ⟨_,rfl,aw h⟩) htake)
    |exact af (m:=ku _) (iu (af (aw (aw ⟨_,rfl,aw h⟩))) htake)
    |exact af (af (m:=ku _) (iu (aw (aw ⟨_,rfl,aw h⟩)) htake))
    |exact af (af (m:=ku _) (iu (aw ⟨_,rfl,aw h⟩) htake))
end HT
variable {H:L2.Hp}{X:L2.Cx}{σ:L2.St}{ns:List Int}
namespace L2
noncomputable abbrev TO:=St->Hp->(Option Int->Hp->Prop)->Prop
noncomputable def PO(X:Cx)(e:Option Expr)(t:TO):Prop:=
  ∀(pj:List (ae×jq)) (s:ah) (σ:St) (H:Hp) (Q:Option Int->Hp->Prop),Inv X pj σ H s->t σ H Q ->
    bu (bv X.prog X.w) X.A (evalPart e X.env) (λu s'=>∃o H',Inv X pj σ H' s'/\zg u o/\Q o H') X.xe s
noncomputable def HN:TO:=λ_ H Q=>Q aq H
noncomputable def Ll(t:TE):TO:=λσ H Q=>t σ H λx H1=>∃i,x=.int i/\Q (aa i) H1
theorem pE:∀{us:List ac},b8 (ns.map V.int) us->nz us ns:=by
  induction ns with
  |nil=>intro us r;rw[uz] at r;cases r;exact .nil
  |cons n ns ih=>
    intro us r;rw[cf] at r;cases r with
    |cons r1 r2=>
      obtain⟨t,e⟩:=r1;subst e;exact .cons n t (ih r2)
variable {r:V->Option Int->Option Int->Hp->VK->Prop}{xs:List V}
section
variable {te:TE}{lo hi:Option Expr}{tl th:TO}{pos p2:jr}
theorem Hn:PO X aq HN:=by
  intro pj s σ H Q I h;rw[evalPart_none];exact aw ⟨aq,H,I,.none,h⟩
theorem Hm(h:PE X e te):PO X (aa e) (Ll te):=by
  intro pj s σ H Q I hw;rw[evalPart_some];refine thn (h pj s σ H _ I hw) λu s1 zz=>?_;obtain⟨x,H1,I1,r1,q1⟩:=zz;obtain⟨i,rfl,q⟩:=q1;obtain⟨t,rfl⟩:=r1;exact⟨aa i,H1,I1,.int i t,q⟩
noncomputable def LP(X:Cx)(r:V->Option Int->Option Int->Hp->VK->Prop):Prop:=
  ∀(pj:List (ae×jq)) (s:ah) (σ:St) (H:Hp) (x:V) (v vl vu:ac) (lo hi:Option Int) (sl:ae) (Q:VK),Inv X pj σ H s->cG x v->s.heap.IsSliceOf sl vl vu .none->zg vl lo->zg vu hi->r x lo hi H Q ->
    ∃T id,typeLookup (.type T) "__getitem__" = ie (aa (.builtin id))/\s.TypeIs v T/\bu (bv X.prog X.w) X.A (T5 v (.ref sl)) (EP X pj σ Q) X.xe s
theorem LP.or{r':V->Option Int->Option Int->Hp->VK->Prop}(h:LP X r)(h':LP X r'):LP X (λx lo hi H Q=>r x lo hi H Q \/ r' x lo hi H Q):=by
  intro pj s σ H x v vl vu lo hi sl Q I rx hs pl pu q;rcases q with q | q
  . exact h pj s σ H x v vl vu lo hi sl Q I rx hs pl pu q
  . exact h' pj s σ H x v vl vu lo hi sl Q I rx hs pl pu q
noncomputable def SL(r:V->Option Int->Option Int->Hp->VK->Prop)(te:TE)(tl th:TO):TE:=λσ H Q=>te σ H λx H1=>tl σ H1 λl H2=>th σ H2 λu H3=>r x l u H3 Q
theorem FI(hr:LP X r)(he:PE X e te)(hl:PO X lo tl)(hu:PO X hi th):PE X (.Subscript e (.Slice lo hi aq p2) pos) (SL r te tl th):=by
  intro pj s σ H Q I h;refine Subscript_ (thn (he pj s σ H _ I h) λv s1 zz=>?_);obtain⟨x,H1,I1,r1,q1⟩:=zz;refine wpAny_Slice (thn (hl pj s1 σ H1 _ I1 q1) λvl s2 ⟨l,H2,I2,pl,q2⟩=>thn (hu pj s2 σ H2 _ I2 q2) λvu s3 zz=>?_);obtain⟨u,H3,I3,pu,q3⟩:=zz;rw[evalPart_none];refine aw ?_;have I4:Inv X pj σ H3 { s3 with heap:=s3.heap.push { cls:=.type "slice",data:=.fields #[vl,vu,.none] } }:=I3.kept (t':=s3.toks) λb ob q=>ap _ q;obtain⟨T,id,hT,ht,hg⟩:=hr pj { s3 with heap:=s3.heap.push { cls:=.type "slice",data:=.fields #[vl,vu,.none] } } σ H3 x v vl vu l u s3.heap.objs.size Q I4 r1 (Heap.IsSliceOf.new ..) pl pu q3;show bu (bv X.prog X.w) X.A (yl e (.Slice lo hi aq p2) v (.ref s3.heap.objs.size)) (EP X pj σ Q) X.xe { s3 with heap:=s3.heap.push { cls:=.type "slice",data:=.fields #[vl,vu,.none] } };exact tail_any (ops:=[.ref s3.heap.objs.size,v]) ht hT hg (by with_unfolding_all rfl)
noncomputable def B2(xs:List V)(lo hi:Option Int):List V:=(xs.drop (HT.gE xs.length 0 lo)).take (HT.gE xs.length xs.length hi-HT.gE xs.length 0 lo)
theorem sM(xs:List V)(lo hi:Option Int):(B2 xs lo hi).length<=xs.length:=by
  unfold B2;rw[cv,uy];ac_rfl
noncomputable def Pi(K:aj):V->Option Int->Option Int->Hp->VK->Prop:=λx lo hi H Q=>∃a xs,x=.ref a/\kX K H a xs /\
  ¬(HT.gE xs.length 0 lo=0/\HT.gE xs.length xs.length hi=xs.length) /\ ∀p,H p=aq->Q (.ref p) (upd H p (.tup (B2 xs lo hi)))
theorem Jn:LP X (Pi X.K):=by
  intro pj s σ H x v vl vu lo hi sl Q I rx hs pl pu h;obtain⟨a,xs,rfl,hx,hw,q⟩:=h;cases rx;obtain⟨its,r,ht,hz⟩:=I.tuple hx;have hlen:its.toArray.size=xs.length:=by rw[ci];exact r.length.symm
  refine⟨"tuple",_,lc.lookup,ht.typeIs,?_⟩;refine HT.qT ht hs pl pu (by rw[hlen];exact hw) ?_ (by rw[hlen];exact hz);rw[hlen];refine⟨.ref s.heap.objs.size,_,I.laid (t':=s.toks) (o:=.tup (B2 xs lo hi)) (λb ob q=>ap _ q) (bo _) ?_,rfl,q _ (I.hok.fresh (bo _))⟩;exact⟨lh (sM xs lo hi) hz,_,(r.drop (HT.gE xs.length 0 lo)).take (HT.gE xs.length xs.length hi-HT.gE xs.length 0 lo),IsTup.new _ _⟩
noncomputable def MS(K:aj):R2:=λx y H Q=>∃a b xs ys,x=.ref a/\y=.ref b/\kX K H a xs/\kX K H b ys/\xs≠[]/\xs.length+ys.length<=bf /\
  (ys=[]->Q (.ref a) H)/\(ys≠[] -> ∀p,H p=aq->Q (.ref p) (upd H p (.tup (xs++ys))))
theorem b8.nil_iff{us:List ac}(r:b8 xs us):us=[] ↔ xs=[]:=by
  cases r with
  |nil=>simp
  |cons _ _=>simp
theorem IB:l6 X (gw .Add) (MS X.K):=by
  intro pj s σ H x y v u Q I rx ry h;obtain⟨a,b,xs,ys,rfl,rfl,ha,hb,hx,hz,q1,q2⟩:=h;cases rx;cases ry;obtain⟨its,r1,p1,_⟩:=I.tuple ha;obtain⟨its2,r2,p2,_⟩:=I.tuple hb;refine HT.J0 p1 p2 (λz=>hx (r1.nil_iff.mp z)) (λz=>⟨.ref a,H,I,rfl,q1 (r2.nil_iff.mp z)⟩) (λz=>?_) (by rw[<- r1.length,<- r2.length];exact hz);refine⟨.ref s.heap.objs.size,_,I.laid (t':=s.toks) (o:=.tup (xs++ys)) (λb ob q=>ap _ q) (bo _) ?_,rfl,q2 (λw=>z (r2.nil_iff.mpr w)) _ (I.hok.fresh (bo _))⟩;exact⟨by rw[bq];exact hz,_,r1.append r2,IsTup.new _ _⟩
end
noncomputable def sJ(n:Nat)(i:Int):Option Nat:=if 0<=i then (if i<n then aa i.toNat else aq) else if -(n:Int)<=i then aa (i+n).toNat else aq
noncomputable def oP(xs:List α)(i:Int):Option α:=(sJ xs.length i).bind λj=>xs[j]?
variable {i:Int}
theorem Ih{j:Nat}(h:sJ n i=aa j):seqIndex? i n=aa j/\j<n /\ -(n:Int)<=i/\i<n:=by
  unfold sJ at h;by_cases h0:0<=i
  . rw[VH h0] at h;by_cases h1:i<n
    . rw[VH h1] at h;have e:i.toNat=j:=Option.some.inj h;exact⟨by rw[seqIndex_of h0 h1,e],⋯,⋯,h1⟩
    . rw[Vn h1] at h;cases h
  . rw[Vn h0] at h;by_cases h1:-(n:Int)<=i
    . rw[VH h1] at h;have e:(i+n).toNat=j:=Option.some.inj h;exact⟨by rw[seqIndex_neg ⋯ h1,e],⋯,h1,⋯⟩
    . rw[Vn h1] at h;cases h
theorem zB{xs:List α}{v:α}(h:oP xs i=aa v):∃j,seqIndex? i xs.length=aa j/\xs[j]?=aa v/\j<xs.length /\ -(xs.length:Int)<=i/\i<xs.length:=by
  unfold oP at h;cases e:sJ xs.length i with
  |none=>rw[e] at h;cases h
  |some j=>
    rw[e] at h;obtain⟨h1,h2,h3,h4⟩:=Ih e;exact⟨j,h1,h,h2,h3,h4⟩
noncomputable def D3(b:Expr):Prop:=∀o i,TX b ak o i=operate [o,i] (T5 o i)
noncomputable def HF(X:Cx)(r:R2):Prop:=
  ∀(VR W3:Expr) (pj:List (ae×jq)) (s:ah) (σ:St) (H:Hp) (x y:V) (v u:ac) (Q:VK),Inv X pj σ H s->cG x v->cG y u->r x y H Q ->
    TX W3 ak v u=operate [v,u] (T5 v u)->bu (bv X.prog X.w) X.A (yl VR W3 v u) (EP X pj σ Q) X.xe s
noncomputable def RU(X:Cx)(id:String)(r:V->List V->Hp->VK->Prop):Prop:=
  ∀(pj:List (ae×jq)) (s:ah) (σ:St) (H:Hp) (x:V) (xs:List V) (v:ac) (us:List ac) (Q:VK),Inv X pj σ H s->cG x v->b8 xs us->r x xs H Q ->
    bu (bv X.prog X.w) X.A (call (.builtin id) (v::us)) (EP X pj σ Q) X.xe s
variable {T:String}
section
variable {a b:Expr}{ta tb:TE}{pos:jr}
theorem HF.or{r r':R2}(h:HF X r)(h':HF X r'):HF X (λx y H Q=>r x y H Q \/ r' x y H Q):=by
  intro VR W3 pj s σ H x y v u Q I rx ry q hs;rcases q with q | q
  . exact h VR W3 pj s σ H x y v u Q I rx ry q hs
  . exact h' VR W3 pj s σ H x y v u Q I rx ry q hs
theorem Ma{r:R2}(hr:HF X r)(ha:PE X a ta)(hb:PE X b tb)(hs:D3 b):PE X (.Subscript a b pos) (Lm r ta tb):=by
  intro pj s σ H Q I h;exact Subscript_ (LL ha hb I h λv u s2 x y H2 I2 rx ry q=>hr a b pj s2 σ H2 x y v u Q I2 rx ry q (hs _ _))
noncomputable def MP(K:aj):R2:=λx y H Q=>∃p xs i v,x=.ref p/\y=.int i/\fS K H p xs/\oP xs i=aa v/\Q v H
noncomputable def MN(K:aj):R2:=λx y H Q=>∃p xs i v,x=.ref p/\y=.int i/\kX K H p xs/\oP xs i=aa v/\Q v H
noncomputable def MO:R2:=λx y H Q=>∃z i c,x=.str z/\y=.int i/\z.length<=bf/\oP z.cps.toList i=aa c/\Q (.str ⟨#[c]⟩) H
theorem Ie:HF X (MP X.K):=by
  intro VR W3 pj s σ H x y v u Q I rx ry h hs;obtain⟨p,xs,i,z,rfl,rfl,hq,he,q⟩:=h;cases rx;obtain⟨t,rfl⟩:=ry;obtain⟨its,r,pl,hz⟩:=I.list hq;obtain⟨j,h1,h2,h3,h4,h5⟩:=zB he;obtain⟨w,ew,rw'⟩:=r.get h2;have hl:=r.length;have hn:=rS;have fin:EP X pj σ Q w s:=⟨z,H,I,rw',q⟩;by_cases h0:0<=i
  . have hj:i.toNat=j:=by
      rw[seqIndex_of h0 h5] at h1;exact Option.some.inj h1
    exact item_listR pl.isList h0 ⋯ (by rw[hj];simpa using ew) fin hs
  . have hj:(i+(its.toArray.size:Int)).toNat=j:=by
      rw[seqIndex_neg ⋯ h4] at h1;rw[ci,<- hl];exact Option.some.inj h1
    exact wf (x:=w) pl.isList.typeIs T6.lookup
      (wpAny_getItem_list_neg (Q:=λr s'=>r=w/\EP X pj σ Q r s') pl.isList ⋯ (by rw[ci]<;>ac_rfl) ⋯ (by rw[hj];simpa using ew) ⟨rfl,fin⟩) hs
theorem Kz:HF X (MN X.K):=by
  intro VR W3 pj s σ H x y v u Q I rx ry h hs;obtain⟨p,xs,i,z,rfl,rfl,hq,he,q⟩:=h;cases rx;obtain⟨t,rfl⟩:=ry;obtain⟨its,r,pl,hz⟩:=I.tuple hq;obtain⟨j,h1,h2,h3,h4,h5⟩:=zB he;obtain⟨w,ew,rw'⟩:=r.get h2;have hl:=r.length;have hn:=rS;have fin:EP X pj σ Q w s:=⟨z,H,I,rw',q⟩;exact wf (x:=w) pl.typeIs slot_tuple_getitem.lookup
    (getItem_tuple (j:=j) (Q:=λr s'=>r=w/\EP X pj σ Q r s') pl ⋯ ⋯ (by rw[ci,<- hl];exact h1) (by simpa using ew) ⟨rfl,fin⟩) hs
theorem L0:HF X MO:=by
  intro VR W3 pj s σ H x y v u Q I rx ry h hs;obtain⟨z,i,c,rfl,rfl,hz,he,q⟩:=h;obtain⟨t,rfl⟩:=rx;obtain⟨t',rfl⟩:=ry;obtain⟨j,h1,h2,h3,h4,h5⟩:=zB he;have hl:z.cps.toList.length=z.length:=by simp[Str.length]
  rw[hl] at h1 h4 h5;have hn:=rS;exact tail_any (typeIs_str s z t) slot_str_getitem.lookup (getItem_str (c:=c) (by
    have e1:decide (i < -(2 ^ 63:Int))=ak:=decide_eq_false ⋯;have e2:decide (i >= 2 ^ 63)=ak:=decide_eq_false ⋯;rw[e1,e2,Bool.or_false]) (by rw[h1];simpa using h2) ⟨.str ⟨#[c]⟩,H,I.tok _,⟨_,rfl⟩,q⟩) hs
noncomputable def SO(K:aj):R2:=λx y H Q=>MP K x y H Q \/ MN K x y H Q \/ MO x y H Q
theorem L4:HF X (SO X.K):=Ie.or (Kz.or L0)
theorem xM(lo hi:Option Int)(n:Nat):(pz lo hi aq n).1=((HT.gE n 0 lo:Nat):Int)/\(pz lo hi aq n).2.1=((HT.gE n n hi:Nat):Int)/\(pz lo hi aq n).2.2=1:=by
  refine⟨?_,?_,rfl⟩
  . cases lo with
    |none=>simp[pz,HT.gE]
    |some i=>
      simp only[pz,HT.gE,getD_none,show (1:Int) > 0 by decide,if_true];by_cases h:i<0
      . simp only[h,if_true]<;>ac_rfl
      . simp only[h,if_false]<;>ac_rfl
  . cases hi with
    |none=>simp[pz,HT.gE]
    |some i=>
      simp only[pz,HT.gE,getD_none,show (1:Int) > 0 by decide,if_true];by_cases h:i<0
      . simp only[h,if_true]<;>ac_rfl
      . simp only[h,if_false]<;>ac_rfl
theorem vD(its:List ac)(lo hi:Option Int):slicePick its.toArray lo hi aq=((its.drop (HT.gE its.length 0 lo)).take (HT.gE its.length its.length hi-HT.gE its.length 0 lo)).toArray:=by
  obtain⟨h1,h2,h3⟩:=xM lo hi its.toArray.size;unfold slicePick;rw[h1,h2,h3];simp only[sliceRange_one,pick_run,ci]<;>rfl
noncomputable def Pj(K:aj):V->Option Int->Option Int->Hp->VK->Prop:=λx lo hi H Q=>∃a xs,x=.ref a/\fS K H a xs /\ ∀p,H p=aq->Q (.ref p) (upd H p (.lst (B2 xs lo hi)))
theorem HR:LP X (Pj X.K):=by
  intro pj s σ H x v vl vu lo hi sl Q I rx hs pl pu h;obtain⟨a,xs,rfl,hx,q⟩:=h;cases rx;obtain⟨its,r,ht,hz⟩:=I.list hx;have hlen:=r.length;refine⟨"list",_,T6.lookup,ht.isList.typeIs,?_⟩;refine wpAny_getItem_list_slice ht.isList hs pl pu .none (by simp) ?_ (by rw[ci]<;>ac_rfl);rw[vD,<- hlen];refine⟨.ref s.heap.objs.size,_,I.laid (t':=s.toks) (o:=.lst (B2 xs lo hi)) (λb ob q=>ap _ q) (bo _) ?_,rfl,q _ (I.hok.fresh (bo _))⟩;exact⟨lh (sM xs lo hi) hz,_,0,(r.drop (HT.gE xs.length 0 lo)).take (HT.gE xs.length xs.length hi-HT.gE xs.length 0 lo),cp _ rfl⟩
theorem z9:fO X (.builtin "len") (λxs H Q=>∃p ys,xs=[.ref p]/\(fS X.K H p ys \/ kX X.K H p ys)/\Q (.int ys.length) H):=by
  intro pj s σ H xs us Q I r h;obtain⟨p,ys,rfl,hq,q⟩:=h;obtain⟨u,rfl,rx⟩:=jQ r;cases rx;have hn:=rS;rcases hq with hq | hq
  . obtain⟨its,r',pl,hz⟩:=I.list hq;have hlen:=r'.length;exact Calls.call_len_list pl.isList (by simp only[ci]<;>ac_rfl) ⟨.int ys.length,H,I.tok _,⟨s.toks+1,by rw[ci,hlen]⟩,q⟩
  . obtain⟨its,r',pl,hz⟩:=I.tuple hq;have hlen:=r'.length;exact len_tuple pl (by simp only[ci]<;>ac_rfl) ⟨.int ys.length,H,I.tok _,⟨s.toks+1,by rw[ci,hlen]⟩,q⟩
theorem z8:fO X (.builtin "len") (λxs H Q=>∃z,xs=[.str z]/\z.length<=bf/\Q (.int z.length) H):=by
  intro pj s σ H xs us Q I r h;obtain⟨z,rfl,hz,q⟩:=h;obtain⟨u,rfl,t,rfl⟩:=jQ r;have hn:=rS;exact len_str ⋯ ⟨.int z.length,H,I.tok _,⟨_,rfl⟩,q⟩
theorem fO.or{f:ac}{r r':List V->Hp->VK->Prop}(h:fO X f r)(h':fO X f r'):fO X f (λxs H Q=>r xs H Q \/ r' xs H Q):=by
  intro pj s σ H xs us Q I rs q;rcases q with q | q
  . exact h pj s σ H xs us Q I rs q
  . exact h' pj s σ H xs us Q I rs q
theorem z7:fO X (.type "list") (λxs H Q=>∃p ys,xs=[.ref p]/\(fS X.K H p ys \/ kX X.K H p ys) /\ ∀l,H l=aq->Q (.ref l) (upd H l (.lst ys))):=by
  intro pj s σ H xs us Q I r h;obtain⟨p,ys,rfl,hq,q⟩:=h;obtain⟨u,rfl,rx⟩:=jQ r;cases rx;have fin:∀(its:List ac),b8 ys its->ys.length<=bf -> ∀(h':cm) (c':Nat),(∀b o',s.heap.get? b=aa o'->h'.get? b=aa o') ->
      h'.get? s.heap.objs.size=aa { cls:=.type "list",dict:=aq,data:=.seq its.toArray c',slots:=#[] }->EP X pj σ Q (.ref s.heap.objs.size) { s with heap:=h' }:=λits r' hz h' c' kp e=>
    ⟨.ref s.heap.objs.size,_,I.laid (t':=s.toks) kp (bo _) (show cZ X.prog X.w _ h' _ (.lst ys) from⟨hz,its,c',r',e⟩),rfl,q _ (I.hok.fresh (bo _))⟩
  rcases hq with hq | hq
  . obtain⟨its,r',pl,hz⟩:=I.list hq;have hlen:=r'.length;obtain⟨o,ho,hc,n,hd⟩:=pl.isList;exact call_list_seq p (.inl rfl) ho hc hd (λh' c' kp e=>fin its r' hz h' c' kp e) (by simp only[ci]<;>ac_rfl)
  . obtain⟨its,r',pl,hz⟩:=I.tuple hq;have hlen:=r'.length;obtain⟨o,ho,hc,n,hd⟩:=pl;exact call_list_seq p (.inr rfl) ho hc hd (λh' c' kp e=>fin its r' hz h' c' kp e) (by simp only[ci]<;>ac_rfl)
theorem vT:fO X (.type "tuple") (λxs H Q=>∃p ys,xs=[.ref p]/\((fS X.K H p ys /\ ∀l,H l=aq->Q (.ref l) (upd H l (.tup ys))) \/ (kX X.K H p ys/\Q (.ref p) H))):=by
  intro pj s σ H xs us Q I r h;obtain⟨p,ys,rfl,h⟩:=h;obtain⟨u,rfl,rx⟩:=jQ r;cases rx;rcases h with⟨hq,q⟩ | ⟨hq,q⟩
  . obtain⟨its,r',pl,hz⟩:=I.list hq;have hlen:=r'.length;refine call_tuple_list pl.isList (λh' kp=>?_) (by simp only[ci]<;>ac_rfl);have I1:Inv X pj σ H { s with heap:=h' }:=I.kept (t':=s.toks) kp;have I2:Inv X pj σ (upd H h'.objs.size (.tup ys)) { s with heap:=h'.push { cls:=.type "tuple",data:=.seq its.toArray } }:=
      I1.laid (t':=s.toks) (λb o e=>ap _ e) (bo _) (show cZ X.prog X.w _ _ _ (.tup ys) from⟨hz,its,r',IsTup.new _ _⟩)
    exact⟨.ref h'.objs.size,_,I2,rfl,q _ (I1.hok.fresh (bo _))⟩
  . obtain⟨its,r',pl,hz⟩:=I.tuple hq;exact call_tuple_same pl ⟨.ref p,H,I,rfl,q⟩
noncomputable def Oo(K:aj)(T:String)(x:V)(H:Hp):Prop:=match x with
  | .str _=>T = "str"
  | .int _=>T = "int"
  | .ref p=>(T = "list" /\ ∃xs,fS K H p xs) \/ (T = "tuple" /\ ∃o,K.lookup p=aa o/\o.cls=.type "tuple" /\ o.dict=aq) \/
      (T = "dict" /\ ((∃kvs,H p=aa (.dK kvs)) \/ ∃ep kvs,H p=aa (.dT ep kvs))) \/ (T = "set" /\ ∃S n,H p=aa (.set S n))
  |_=>False
theorem EX{x:V}{v:ac}(I:Inv X pj σ H s)(r:cG x v)(ty:Oo X.K T x H):
    s.TypeIs v T /\ ∀a,v=.ref a -> ∃ob,s.heap.get? a=aa ob/\ob.dict=aq:=by
  cases x with
  |str z=>
    obtain⟨t,rfl⟩:=r;cases (show T = "str" from ty);exact⟨typeIs_str s z t,λ_ e=>nomatch e⟩
  |int i=>
    obtain⟨t,rfl⟩:=r;cases (show T = "int" from ty);exact⟨Uv s i t,λ_ e=>nomatch e⟩
  |ref p=>
    cases r;rcases ty with⟨rfl,xs,hq⟩ | ⟨rfl,o,hk,hc,hd⟩ | ⟨rfl,hk⟩ | ⟨rfl,S,n,hk⟩
    . obtain⟨its,_,pl,_⟩:=I.list hq;refine⟨pl.isList.typeIs,λa e=>?_⟩;cases e;obtain⟨o,n,e,c,hd,_⟩:=pl;exact⟨o,e,hd⟩
    . refine⟨⟨o,I.kIn p o hk,hc⟩,λa e=>?_⟩;cases e;exact⟨o,I.kIn _ o hk,hd⟩
    . have z:∃o,s.heap.get? p=aa o/\o.ExactDict:=by
        rcases hk with⟨kvs,hk⟩ | ⟨ep,kvs,hk⟩
        . obtain⟨_,_,_,_,o,_,_,e,ex,_⟩:=I.hok p _ hk;exact⟨o,e,ex⟩
        . obtain⟨_,_,_,_,o,_,e,ex,_⟩:=I.hok p _ hk;exact⟨o,e,ex⟩
      obtain⟨o,e,ex⟩:=z;refine⟨⟨o,e,ex.1⟩,λa e2=>?_⟩;cases e2;exact⟨o,e,ex.2.1⟩
    . obtain⟨o,_,_,_,e,ex,_⟩:=I.hok p _ hk;refine⟨⟨o,e,ex.1⟩,λa e2=>?_⟩;cases e2;exact⟨o,e,ex.2.1⟩
  |_=>exact jg ty
noncomputable def PN(K:aj)(T:String)(r:V->List V->Hp->VK->Prop)(to:TE):TE:=λσ H Q=>to σ H λx H1=>Oo K T x H1/\r x [] H1 Q
noncomputable def SN(K:aj)(T:String)(r:V->List V->Hp->VK->Prop)(to:TE)(t:TA):TE:=λσ H Q=>to σ H λx H1=>Oo K T x H1/\t σ H1 λxs H2=>r x xs H2 Q
variable {o:Expr}{to:TE}{t:TA}{name:bi}{VV VX:jr}{id:String}{r:V->List V->Hp->VK->Prop}
theorem KJ(pa:PlainAttrs T)(slot:Slot T name id)(hty:typeOf (.builtin id)=ie (.type "method_descriptor"))(hm:RU X id r)(ho:PE X o to)
    (W4:autoParam (ko o name X.env (fe o X.env)=fe o X.env) cF._auto_1) (W5:autoParam ((VV.endLine==VX.line)=ai) cF._auto_1):PE X (.Call (.Attribute o name VV) [] [] VX) (PN X.K T r to):=by
  intro pj s σ H Q I h;refine wpAny_Call_method0_late W4 W5 (thn (ho pj s σ H _ I h) λv s1 zz=>?_);obtain⟨x,H1,I1,r1,ty,q1⟩:=zz;obtain⟨h1,h2⟩:=EX I1 r1 ty;exact⟨T,id,pa,slot,hty,h1,h2,wg rfl (PySem.evalArgs_none (hm pj s1 σ H1 x [] v [] Q I1 r1 .nil q1))⟩
theorem JM(pa:PlainAttrs T)(slot:Slot T name id)(hty:typeOf (.builtin id)=ie (.type "method_descriptor"))(hm:RU X id r)(ho:PE X o to)(ha:PA X (e::es) t)
    (W4:autoParam (ko o name X.env (fe o X.env)=fe o X.env) cF._auto_1)
    (hfew:autoParam (((ip VX (bb (e::es) X.env)).all (λx=>!x.1)&&(vh VX (pq [] X.env)).all (λx=>x.1.isSome)
      && decide ((e::es).length+([]:List xr).length+(if ([]:List xr).isEmpty then 0 else 1)<30))=ai) cF._auto_1)
    (W5:autoParam ((VV.endLine==VX.line)=ai) cF._auto_1) (hs:autoParam (bb (e::es) X.env=(ak,fe e X.env)::bb es X.env) cF._auto_1) (Wa:autoParam ((ip VX (bb es X.env)).any (·.1)=ak) cF._auto_1):
    PE X (.Call (.Attribute o name VV) (e::es) [] VX) (SN X.K T r to t):=by
  intro pj s σ H Q I h;refine wpAny_Call_method_late W4 hfew W5 rfl (thn (ho pj s σ H _ I h) λv s1 zz=>?_);obtain⟨x,H1,I1,r1,ty,q1⟩:=zz;obtain⟨h1,h2⟩:=EX I1 r1 ty;refine⟨T,id,pa,slot,hty,h1,h2,?_⟩;have hA:=ha VX pj s1 σ H1 _ I1 q1;rw[hs] at hA ⊢;refine wg (by show (ak || (ip VX (bb es X.env)).any (·.1))=ak;rw[Wa]<;>rfl) (Calls.evalArgs_plain ?_);exact thn hA λus s2 zq3=>by obtain⟨vs,H2,I2,r2,q2⟩:=zq3;exact hm pj s2 σ H2 x vs v us Q I2 r1 r2 q2
/- xs.append(e),list.index on a module's tuple .. are RU facts of 06m -/
end
noncomputable def RV(X:Cx)(id:String)(r:V->List V->Hp->VK->Prop):Prop:=
  ∀(pj:List (ae×jq)) (s:ah) (σ:St) (H:Hp) (x:V) (xs:List V) (v:ac) (us:List ac) (Q:VK),Inv X pj σ H s->cG x v->b8 xs us->r x xs H Q ->
    bu (bv X.prog X.w) X.A (call (.builtin id) (v::us)) (EP X pj σ Q) X.xe s
theorem b8.one:∀{x:V} {us:List ac},b8 [x] us -> ∃u,us=[u]/\cG x u
  |_,_,.cons r .nil=>⟨_,rfl,r⟩
theorem b8.zero:∀{us:List ac},b8 [] us->us=[]
  |_,.nil=>rfl
theorem b8.reverse{xs:List V}{us:List ac}(h:b8 xs us):b8 xs.reverse us.reverse:=by
  induction h with
  |nil=>exact .nil
  |cons r t ih=>rw[wj,wj];exact b8.append ih (.cons r .nil)
theorem b8.rep{xs:List V}{us:List ac}(h:b8 xs us):∀k:Nat,b8 (ao k xs).flatten (ao k us).flatten
  |0=>.nil
  |k+1=>by
    rw[jv,jv,qm,qm];exact b8.append h (b8.rep h k)
theorem wV(its:List ac):∀(k:Nat) (acc:List ac),
    Uw (λx1 x2=>x1++x2) acc.toArray (ao k its.toArray)=(acc++(ao k its).flatten).toArray
  |0,acc=>by simp
  |k+1,acc=>by
    have e:acc.toArray++its.toArray=(acc++its).toArray:=by simp
    have e2:(acc++its)++(ao k its).flatten=acc++(ao (k+1) its).flatten:=by
      rw[jv,qm,dh]
    rw[<- e2,<- wV its k (acc++its),<- e,jv,List.foldl_cons]
variable {its:List ac}{t':Nat}
section
variable {l b:ae}{ys zs:List V}
theorem Inv.lset{its':List ac}{f:Array ac->Array ac}(I:Inv X pj σ H s)(hH:H l=aa (.lst xs))
    (e:s.heap.get? l=aa { cls:=.type "list",data:=.seq its.toArray n }) (hf:f its.toArray=its'.toArray) (hv:b8 ys its') (hz:ys.length<=bf):
    Inv X pj σ (upd H l (.lst ys)) { s with heap:=s.heap.update l (uf f),toks:=t' }:=by
  have q:=PySem.IsL.update e f;rw[hf] at q;refine I.write (x:=l) (e:=l) (by rw[hH];exact trivial) (.inl rfl) (λb' u hb hu=>(el s.heap (uf f) (dq hb)).trans hu) ⟨_,q⟩ ?_;exact⟨hz,its',_,hv,q⟩
theorem Inv.lnew(I:Inv X pj σ H s)(hv:b8 ys its)(hz:ys.length<=bf):
    Inv X pj σ (upd H s.heap.objs.size (.lst ys)) { s with heap:=s.heap.push { cls:=.type "list",data:=.seq its.toArray },toks:=t' }:=
  I.laid (λ_ _ q=>ap _ q) (bo _) ⟨hz,its,0,hv,cp _ rfl⟩
theorem Inv.fresh(I:Inv X pj σ H s):H s.heap.objs.size=aq:=I.hok.fresh (bo _)
theorem Inv.lstM(I:Inv X pj σ H s)(hH:H l=aa (.lst xs)):xs.length<=bf /\ ∃(its:List ac) (n:Nat),b8 xs its/\xs.length=its.length/\s.heap.get? l=aa { cls:=.type "list",data:=.seq its.toArray n }:=by
  obtain⟨z,its,n,r,e⟩:=I.hok l _ hH;exact⟨z,its,n,r,r.length,e⟩
theorem AY(h:n<=bf):kx n=ak:=by
  unfold kx;exact decide_eq_false ⋯
end
noncomputable def HX:V->List V->Hp->VK->Prop:=λx vs H Q=>∃l xs y,x=.ref l/\vs=[y]/\H l=aa (.lst xs)/\xs.length<bf/\Q .non (upd H l (.lst (xs++[y])))
theorem wN:RV X "list.append" HX:=by
  intro pj s σ H x vs v us Q I rx rv h;obtain⟨l,xs,y,rfl,rfl,hH,hz,q⟩:=h;cases rx;obtain⟨u,rfl,ru⟩:=rv.one;obtain⟨z,its,n,r,hl,e⟩:=I.lstM hH;refine wl F.slot_list_append ⟨_,e,rfl⟩ F.entry_list_append (F.args_list_append_2 _ _) (PySem.list_append l its.toArray n u (by rw[ci];ac_rfl)) ⟨e,?_⟩;refine⟨.non,_,I.lset (its':=its++[u]) hH e (by simp) (r.append (.cons ru .nil)) ?_,rfl,q⟩;rw[bq,ed];ac_rfl
noncomputable def HW:V->List V->Hp->VK->Prop:=λx vs H Q=>∃l b xs zs,x=.ref l/\vs=[.ref b]/\H l=aa (.lst xs)/\H b=aa (.lst zs)/\xs.length+zs.length<=bf/\Q .non (upd H l (.lst (xs++zs)))
theorem Dg:RV X "list.extend" HW:=by
  intro pj s σ H x vs v us Q I rx rv h;obtain⟨l,b,xs,zs,rfl,rfl,hH,hB,hz,q⟩:=h;cases rx;obtain⟨u,rfl,ru⟩:=rv.one;cases ru;obtain⟨z,its,n,r,hl,e⟩:=I.lstM hH;obtain⟨z2,its2,n2,r2,hl2,e2⟩:=I.lstM hB;have hsz:its.toArray.size+its2.toArray.size<=bf:=by rw[ci,ci];ac_rfl
  have hlong:¬(!its.toArray.isEmpty&&kx (its.toArray.size+its2.toArray.size))=ai:=by
    rw[AY hsz,Bool.and_false];exact ju
  refine wl F.slot_list_extend ⟨_,e,rfl⟩ F.entry_list_extend (F.args_list_extend_2 _ _)
    (AutoSeq1.list_extend_list_list_0 l its.toArray n b its2.toArray n2 hlong (by rw[ci];ac_rfl) ⋯) ⟨e,e2,?_⟩
  refine⟨.non,_,I.lset (its':=its++its2) hH e (by simp) (r.append r2) ?_,rfl,q⟩;rw[bq];ac_rfl
noncomputable def Ex:V->List V->Hp->VK->Prop:=λx vs H Q=>∃l xs,x=.ref l/\vs=[]/\H l=aa (.lst xs)/\Q .non (upd H l (.lst xs.reverse))
theorem Bn:RV X "list.reverse" Ex:=by
  intro pj s σ H x vs v us Q I rx rv h;obtain⟨l,xs,rfl,rfl,hH,q⟩:=h;cases rx;have hus:=rv.zero;subst hus;obtain⟨z,its,n,r,hl,e⟩:=I.lstM hH;refine wl F.slot_list_reverse ⟨_,e,rfl⟩ F.entry_list_reverse (F.args_list_reverse_1 _) (AutoSeq1.list_reverse_list_0 l its.toArray n (by rw[ci];ac_rfl)) ⟨e,?_⟩;refine⟨.non,_,I.lset (its':=its.reverse) hH e (by simp) r.reverse ?_,rfl,q⟩;rw[ug];ac_rfl
noncomputable def Pr:R2:=λx y H Q=>∃l b xs zs,x=.ref l/\y=.ref b/\H l=aa (.lst xs)/\H b=aa (.lst zs)/\xs.length+zs.length<=bf /\ ∀p,H p=aq->Q (.ref p) (upd H p (.lst (xs++zs)))
theorem Kb:l6 X (gw .Add) Pr:=by
  intro pj s σ H x y v u Q I rx ry h;obtain⟨l,b,xs,zs,rfl,rfl,hH,hB,hz,q⟩:=h;cases rx;cases ry;obtain⟨z,its,n,r,hl,e⟩:=I.lstM hH;obtain⟨z2,its2,n2,r2,hl2,e2⟩:=I.lstM hB;refine PySem.P.add_list e e2 ?_ (by rw[ci,ci];ac_rfl);have ea:its.toArray++its2.toArray=(its++its2).toArray:=by simp
  rw[ea];exact⟨.ref _,_,I.lnew (t':=s.toks) (r.append r2) (by rw[bq];ac_rfl),rfl,q _ I.fresh⟩
noncomputable def Pk:R2:=λx y H Q=>∃l k xs,x=.ref l/\y=.int k/\H l=aa (.lst xs) /\ -(2 ^ 63)<=k/\k<2 ^ 63/\xs.length*k.toNat<=bf /\
  ∀p,H p=aq->Q (.ref p) (upd H p (.lst (ao k.toNat xs).flatten))
theorem IR(xs:List α)(k:Nat):(ao k xs).flatten.length=k*xs.length:=by
  induction k with
  |zero=>simp
  |succ k ih=>rw[jv,qm,bq,ih,vj,uh]
theorem KR:l6 X (gw .Mult) Pk:=by
  intro pj s σ H x y v u Q I rx ry h;obtain⟨l,k,xs,rfl,rfl,hH,h1,h2,hz,q⟩:=h;cases rx;obtain⟨t,rfl⟩:=ry;obtain⟨z,its,n,r,hl,e⟩:=I.lstM hH;have hlen:its.toArray.size*k.toNat<=bf:=by rw[ci,<- hl];exact hz
  have hcap:¬its.toArray.size*k.toNat > (2 ^ 63-1) / 8:=by
    have:(bf:Nat)<=(2 ^ 63-1) / 8:=by decide
    ac_rfl
  have hfit:¬(!Builtin.List.listFitsIndex k)=ai:=by
    rw[fitsIndex_both h1 h2];exact ju
  have hlong:¬kx (its.toArray.size*k.toNat)=ai:=by
    rw[AY hlen];exact ju
  have hnew:Uw (λx1 x2=>x1++x2) #[] (ao (if its.toArray.isEmpty=ai then 0 else k.toNat) its.toArray)=(ao k.toNat its).flatten.toArray:=by
    have f0:∀m:Nat,Uw (λx1 x2=>x1++x2) #[] (ao m its.toArray)=(ao m its).flatten.toArray:=λm=>by
      have:=wV its m [];rw[kz] at this;exact this
    rw[f0];cases its with
    |nil=>simp
    |cons a r'=>rw[Vn (by simp)]
  refine wpAny_binaryOp_repeat_ref (T:="list") (U:="int") ∅ ⟨_,e,rfl⟩ (λs'=>Uv s' k t) noFill_list_mul F.fills_int_mul U8 repeat_list F.slot_int_index.lookup
    (wl U8 (Uv s k t) F.entry_int_rmul (F.args_int_rmul_2 _ _) (int___rmul___int_list k t l its.toArray n)
      ⟨e,rfl,⟨_,e,rfl⟩,wl F.slot_list_mul ⟨_,e,rfl⟩ F.entry_list_mul (F.args_list_mul_2 _ _) (AutoListH.list___mul___list_int_3 l its.toArray n k t hfit hcap hlong) ⟨e,?_⟩⟩)
  rw[hnew];exact⟨.ref _,_,I.lnew (t':=s.toks) (r.rep k.toNat) (by rw[IR,V1];exact hz),rfl,q _ I.fresh⟩
end L2
namespace Att
open PySem PySem.W PySem.Calls PyProof.Rows
variable {P:V2}
theorem sV:∀(ns:List Int) (vs:List ac),WellAll P h vs (ns.map WData.int)->nz vs ns:=by
  intro ns;induction ns with
  |nil=>
    intro vs w;rw[uz] at w;cases w;exact .nil
  |cons n ns ih=>
    intro vs w;rw[cf] at w;cases w with
    |cons a b=>
      cases a;exact .cons _ _ (ih _ b)
variable {l:OpenLaw}
theorem DI(hn:l.most=aa n){args:List WData}{vals:List ac}
    (hpre:l.row.toRowW.claim.pre args=ai) (hwl:WellAll P h vals args):
    ∃a vs ns,vals=[Value.ref a]/\args=[WData.list (ns.map WData.int)]/\h.get? a=aa { cls:=.type "list",data:=.seq vs.toArray }/\nz vs ns/\ns.length<=n:=by
  have hsh:WShape.hasAll [] args [.list .int]=ai:=(pre_splitW hpre).1;have hc:l.pre.holds [] { args:=args }=ai:=(pre_splitW hpre).2;obtain⟨d,r,rfl,h1,h2⟩:=hasAllW_cons hsh;obtain rfl:=hasAllW_nil h2;obtain⟨xs,rfl,h3⟩:=hasW_list h1;obtain⟨ns,rfl⟩:=items_int h3;have hlen:ns.length<=n:=by
    unfold OpenLaw.pre at hc;have h4:(WTm.not (.lt (.lit (.int (n:Int))) (.len (.arg 0)))).holds [] { args:=[.list (ns.map .int)] }=ai:=by
      have h4:=(holds_andW hc).1;rw[hn] at h4;exact h4
    have h5:=condW_of h4 (w_not (w_lt w_lit (w_len_list (w_arg rfl))));rw[ay] at h5;refine jn λq=>?_;have q':(n:Int)<((ns.length:Nat):Int):=⋯
    first
      | (rw[decide_eq_true q'] at h5;exact absurd h5 ∅)
      | (simp at h5;ac_rfl)
  cases hwl with
  |cons w1 w2=>
    cases w2;cases w1 with
    |list ho hall=>exact⟨_,_,ns,rfl,rfl,ho,sV ns _ hall,hlen⟩
theorem DP(l:OpenLaw)(args:List WData):l.row.toRowW.claim.post args (.bool ai) args=ai:=
  postW_of (r:=l.row.toRowW) (X:=(ai==ai))
    (show WShape.has [] (.bool ai) .bool=ai by first | rfl | decide | simp[WShape.has,WShape.arms,WShape.armsAll])
    (show (WTm.eq .res (.lit (.bool ai))).value [] { args:=args,res:=aa (.bool ai),after:=args }=aa (.bool (ai==ai)) from w_eq_bool (w_res rfl) w_lit) rfl
theorem BA{q:ar}{loose:List bi}{XP:(bi->Option ac)->cm->Prop}{YP:bm->cm->Prop}{d:DefRec}
    (hn:l.most=aa n) (hdf:d.params.defaults=[])
    (call:∀(w:bm) (s₀ s₁:ah) (mg mb:bi->Option ac) (fa:ae) (o:jq) (pm cd doc:ac) (a:ae) (vs:List ac) (ns:List Int),
      Ground q loose [] XP w s₀ mg mb s₁.heap->YP w s₁.heap ->
      s₁.heap.get? fa=aa o->o.data=.func (docDef d.name d.params d.body d.scope pm cd doc)->s₁.heap.CodeRec cd d.name->mg d.name=aa (.ref fa) ->
      s₁.heap.get? a=aa { cls:=.type "list",data:=.seq vs.toArray }->nz vs ns->ns.length<=n->s₁.gens = #[] ->
      wd (bv l.prog w) xt (.call (.ref fa) ⟨[.ref a],[]⟩) (λr s'=>r=.ok (.ret (.bool ai))/\OldK s₁.heap s'.heap/\s'.os=s₁.os/\uw s'.gens) s₁):
    WalkO q loose XP YP l.row.toRowW d [] (λf vs=>PySem.call f vs):=by
  intro w s₀ s₁ mg mb G Y fa o pm cd doc dV kV ho hd hcd hD hmg hg args vals as hpre hlay hrd hwl hlo;obtain rfl:dV=.none:=Dflts.none hD hdf;obtain rfl:kV=.none:=Dflts.noKw hD;obtain⟨a,vs,ns,rfl,rfl,hobj,hints,hlen⟩:=DI hn hpre hwl;refine enter_call (we (call w s₀ s₁ mg mb fa o pm cd doc a vs ns G Y ho (fd_plain hd) hcd hmg hobj hints hlen hg) λr s' hq=>?_);obtain⟨rfl,h2,h3,h4⟩:=hq;exact⟨.inl ⟨.bool ai,.bool ai,[],rfl,λ_=>rfl,.bool ai,DP l _,λ_=>⟨List.Pairwise.nil,λ_ hm=>(nomatch hm)⟩⟩,h2,h3,h4⟩
section
variable {K:Frag}
end
end Att
variable {H' H1:L2.Hp}
namespace L2
theorem vY:∀{vs:List ac} {ns:List Int},nz vs ns->b8 (ns.map V.int) vs
  |_,_,.nil=>.nil
  |_,_,.cons n t h=>.cons ⟨t,rfl⟩ (vY h)
noncomputable def Gz(H:Hp):Prop:=∀b,H b=aq \/ ∃o xs,H b=aa (.frz o (.lst xs))
variable {fd:ir}{sp:Sp}
theorem GB{mb:bi->Option ac}{CX:HA}{k:Nat}{fa:ae}{s₁:ah}{vs:List ac}
    (KX:K.In s₁.heap) (hns:s₁.heap.Ns gg mg) (hb:s₁.heap.Ns Ui mb) (hbb:∀x:bi,x ≠ "__name__" -> mb x=mh x) (hlim:s₁.heap.NoLimit) (hg:s₁.gens = #[])
    (ha:s₁.heap.get? a=aa { cls:=.type "list",data:=.seq vs.toArray }) (hi:nz vs ns) (hl:ns.length<=bf) (hr:Room k xt)
    (F:∀base:cm,K.In base->base.Ns gg mg->FnOk P w K mg base CX k fa fd [x] sp) (hbind:∀(s:ah) (u:ac),Sy s fd ⟨[u],[]⟩ [(x,u)])
    (hsp:∀H:Hp,Gz H->fS K H a (ns.map V.int)->sp [.ref a] H (λv _=>v=.bl ai) λ_ _ _=>False)
    (hCX:∀H e s',CX [] H s₁ (λ_ _ _=>False) e s'->False):
    wd (bv P w) xt (.call (.ref fa) ⟨[.ref a],[]⟩) (λr s'=>r=.ok (.ret (.bool ai))/\OldK s₁.heap s'.heap/\s'.os=s₁.os/\uw s'.gens) s₁:=by
  have rv:=vY hi;have lenV:=hi.length;have core:∀H:Hp,Gz H->fS K H a (ns.map V.int)->pU P w H s₁.heap->(∀b,H b≠aq->b=a)->(H a≠aq->K.lookup a=aq) ->
      wd (bv P w) xt (.call (.ref fa) ⟨[.ref a],[]⟩) (λr s'=>r=.ok (.ret (.bool ai))/\OldK s₁.heap s'.heap/\s'.os=s₁.os/\uw s'.gens) s₁:=by
    intro H hO hS hok hA hK;have base_of:∀{b:ae} {o:jq},s₁.heap.get? b=aa o->H b=aq->(yJ s₁.heap H).get? b=aa o:=λe n=>GP e n;have noA:∀{b:ae} {o:jq} {es:Array DictEntry} {ep:Nat},s₁.heap.get? b=aa o->o.data=.dict es ep->H b=aq:=λ{b o es ep} e d=>by
      cases q:H b with
      |none=>rfl
      |some u=>
        have e':b=a:=hA b (by rw[q];simp);subst e';rw[ha] at e;cases e;have d':Data.seq vs.toArray _=Data.dict es ep:=d;cases d'
    have nsK:∀{b:ae} {m:bi->Option ac},s₁.heap.Ns b m->(yJ s₁.heap H).Ns b m:=λ{b m} ⟨o,es,ep,e,d,r⟩=>⟨o,es,ep,base_of e (noA e d),d,r⟩;have hKb:K.In (yJ s₁.heap H):=λb o e=>base_of (KX b o e) (by
      cases q:H b with
      |none=>rfl
      |some u=>
        have e':b=a:=hA b (by rw[q];simp);subst e';rw[hK (by rw[q];simp)] at e;cases e)
    have hM:Mod K mg (yJ s₁.heap H):=⟨hKb,nsK hns,⟨mb,nsK hb,hbb⟩,let ⟨mc,h1,h2⟩:=hlim;⟨mc,nsK h1,h2⟩⟩;have e0:Env0 P w K mg (yJ s₁.heap H) xt [] s₁ H:=⟨rfl,hM,λb o e=>IC e,Vk (E2 _ _),trivial,λb hb=>absurd (show b∈([]:List ae) from hb) (by simp),hok,.of_eq hg⟩;refine we ((F _ hKb (nsK hns)).run xt [] s₁ H ⟨[.ref a],[]⟩ [.ref a] [.ref a] _ _ hr e0 (hbind s₁ (.ref a)) (.cons rfl .nil) (hsp H hO hS)) λr s' h=>?_;cases r with
    |error e=>exact(hCX H e s' h).elim
    |ok fl=>
      cases fl with
      |next=>exact jg h
      |brk=>exact jg h
      |cont=>exact jg h
      |ret u=>
        obtain⟨v,H',os,bare,un,hok',r',q⟩:=h;have q':v=.bl ai:=q;subst q';obtain rfl:u=yy ai:=r';refine⟨rfl,OldK.of_keep λb o e=>?_,os,bare⟩;cases q:H b with
        |none=>exact un.keep b o e q (by intro z;exact absurd (show b∈([]:List ae) from z) (by simp)) (by simp)
        |some u=>
          rcases hO b with z | ⟨ob,xs,z⟩
          . rw[q] at z;cases z
          . have z2:=un.frzs b ob _ z;obtain⟨e1,_⟩:=hok b _ z;obtain⟨e2,_⟩:=hok' b _ z2;rw[e] at e1;cases e1;exact e2
  cases hk:K.lookup a with
  |some o=>
    have e:=KX a o hk;rw[ha] at e;cases e;refine core (λ_=>aq) (λ_=>.inl rfl) (.inr ⟨_,vs.toArray,_,hk,rfl,rfl,rfl,by rw[ci,lenV];exact hl,by simpa using rv⟩) (λb u z=>by have z':(aq:Option HO)=aa u:=z;cases z') (λb z=>absurd rfl z) λz=>absurd rfl z
  |none=>
    refine core (λb=>if b=a then aa (.frz { cls:=.type "list",data:=.seq vs.toArray } (.lst (ns.map V.int))) else aq) (λb=>?_) (.inl (.inr ⟨{ cls:=.type "list",data:=.seq vs.toArray },VH rfl⟩)) (λb u z=>?_) (λb z=>?_) λ_=>hk
    . by_cases hb:b=a
      . exact .inr ⟨_,_,VH hb⟩
      . exact .inl (Vn hb)
    . by_cases hb:b=a
      . have z':=(VH hb).symm.trans z;cases z';subst hb;exact⟨ha,by rw[ay];exact hl,vs,_,rv,ha⟩
      . have z':=(Vn hb).symm.trans z;cases z'
    . by_cases hb:b=a
      . exact hb
      . exact absurd (Vn hb) z
theorem HH{l:W.OpenLaw}{k:Nat}{q:ar}{loose:List bi}{XP:(bi->Option ac)->cm->Prop}{YP:bm->cm->Prop}{d:DefRec}{K:V2->aj}{CX:bm->HA}{sp:bm->Sp}
    (hn:l.most=aa n) (hn2:n<=bf) (hdf:d.params.defaults=[]) (hr:Room k xt)
    (hY:∀(w:bm) (h:cm),YP w h->(K w.params).In h)
    (F:∀(w:bm) (mg:bi->Option ac) (fa:ae) (h:cm),(K w.params).In h->h.Ns gg mg->mg d.name=aa (.ref fa) ->
      ∃fd:ir,(∀(s:ah) (u:ac),Sy s fd ⟨[u],[]⟩ [(x,u)]) /\
        ∀base:cm,(K w.params).In base->base.Ns gg mg->FnOk l.prog w (K w.params) mg base (CX w) k fa fd [x] (sp w))
    (hsp:∀(w:bm) (H:Hp) (a:ae) (ns:List Int),ns.length<=n->Gz H->fS (K w.params) H a (ns.map V.int)->sp w [.ref a] H (λv _=>v=.bl ai) λ_ _ _=>False)
    (hCX:∀(w:bm) (H:Hp) (s:ah) (e:ac) (s':ah),CX w [] H s (λ_ _ _=>False) e s'->False):
    W.WalkO q loose XP YP l.row.toRowW d [] (λf vs=>PySem.call f vs):=by
  refine Att.BA hn hdf λw s₀ s₁ mg mb fa o pm cd doc a vs ns G Y ho hd hcd hmg hobj hints hlen hg=>?_;have KX:=hY w _ Y;obtain⟨fd,hb,hF⟩:=F w mg fa _ KX G.T.g hmg;exact GB KX G.T.g G.T.b G.T.builtins G.T.nolimit hg hobj hints (lh hlen hn2) hr hF hb (λH hO hS=>hsp w H a ns hlen hO hS) λH e s'=>hCX w H s₁ e s'
noncomputable def fJ(s:jm)(j:Nat):jm:=match s with
  | .ClassDef _ _ _ VU _ _ _ _ _ _ _=>VU.getD j (.Pass ⟨0,0,0,0⟩)
  |_=>.Pass ⟨0,0,0,0⟩
noncomputable def jA(s:jm):Arguments:=match s with
  | .FunctionDef _ a _ _ _ _ _ _ _ _=>a
  |_=>{ posonlyargs:=[],args:=[],vararg:=aq,kwonlyargs:=[],kw_defaults:=[],kwarg:=aq,defaults:=[] }
noncomputable def dY(s:jm):List jm:=match s with
  | .FunctionDef _ _ b _ _ _ _ _ _ _=>b
  |_=>[]
noncomputable def aJ(s:jm):Scope:=match s with
  | .FunctionDef _ _ _ _ _ _ sc _ _ _=>sc
  |_=>{ kind:=.function,names:=[],isGenerator:=ak,isCoroutine:=ak }
noncomputable abbrev BJ:HA:=λ_ _ _ _ _ _=>False
noncomputable abbrev E0:XK:=λ_ _ _=>False
theorem AG:pT BJ X E0:=λ_ _ _ _ _ _ _ h=>h.elim
structure Fun(K:aj)(x qual:bi)(st:jm)(f:ae)(fd:ir):Prop where
  ex:∃(oc:ac) (od:Option ae) (kV doc pm:ac) (an:Option ae) (cdv ct:ac) (osl:Array (Option ac)),
    fd=ve x qual (jA st) (dY st) (aJ st) .none kV doc pm an cdv ct/\K.lookup f=aa ⟨oc,od,.func fd,osl⟩/\xf K cdv qual=ai
  kp:ot K (.ref f)=ai
variable {VM:bi}{st:jm}{f:ae}
theorem Fun.ok{k:Nat}(F:Fun K x VM st f fd)(S:FnScope N ps (aJ st))(len:∀vs H Q E,sp vs H Q E->vs.length=ps.length)
    (W9:∀(cdv:ac) (A:bx) (outer:List wu) (s:ah) (H:Hp) (vs:List V) (Q:VK) (E:XK),Room k (A.deeper (qj VM (aJ st) s.heap.objs.size f cdv))->sp vs H Q E ->
      ∃t,xC (sW BJ P w K mg base N VM (aJ st) f cdv A outer s H E).nox (dY st) t/\t { nx:=λ_ H'=>Q .non H',rt:=Q } (start N vs) H):FnOk P w K mg base BJ (k+1) f fd ps sp:=by
  obtain⟨oc,od,kV,doc,pm,an,cdv,ct,osl,rfl,lk,hcd⟩:=F.ex;refine NL lk hcd S len λA outer s H vs Q E hr hsp=>?_;obtain⟨t,h,q⟩:=W9 cdv A outer s H vs Q E hr hsp;exact⟨t,h.nox,q⟩
theorem Fun.binds(F:Fun K x VM st f fd)
    (h:∀(kV doc pm:ac) (an:Option ae) (cdv ct:ac) (us:List ac),us.length=ps.length->Vm (ve x VM (jA st) (dY st) (aJ st) .none kV doc pm an cdv ct) ⟨us,[]⟩=ie (ps.zip us)):jN K fd ps []:=by
  obtain⟨oc,od,kV,doc,pm,an,cdv,ct,osl,rfl,lk,hcd⟩:=F.ex;exact .all (h kV doc pm an cdv ct)
theorem yK{oc:ac}{od an:Option ae}{osl:Array (Option ac)}{kV doc pm cdv ct:ac}(l:K.lookup f=aa ⟨oc,od,.func (ve x VM (jA st) (dY st) (aJ st) .none kV doc pm an cdv ct),osl⟩)
    (c:xf K cdv VM=ai) (k:ot K (.ref f)=ai):Fun K x VM st f (ve x VM (jA st) (dY st) (aJ st) .none kV doc pm an cdv ct):=⟨⟨oc,od,kV,doc,pm,an,cdv,ct,osl,rfl,l,c⟩,k⟩
theorem eV{k:Nat}(hr:Room k A):A.units+1<lq:=ui (Nat.add_le_add_left (by decide:1<=64) _) hr.units
theorem DH(h:n<=1000):n<bf:=ui h ∅
theorem pv(i:Nat){pos:jr}(hN:autoParam (X.N[i]?=aa x) cF._auto_1)(hv:Ol X.env.scope x:=by first | exact Or.inl rfl | exact Or.inr (.inl rfl) | exact Or.inr (.inr rfl))(hd:autoParam ((x==("__debug__" : bi))=ak) oQ._auto_1)
    (hcd:autoParam ((x==("__classdict__" : bi))=ak) oQ._auto_1):PE X (.Name x pos) (zV i):=KA hN hv hd hcd
variable {B:Prop}
theorem oF{A:Prop}(h:B):if ak=ai then A else B:=by
  rw[Vn ju];exact h
theorem lZ{A:Prop}(h:A):if ai=ai then A else B:=by
  rw[VH rfl];exact h
theorem GJ{c A:Prop}[Decidable c](h1:c->A)(h2:¬c->B):if c then A else B:=by
  by_cases h:c
  . rw[VH h];exact h1 h
  . rw[Vn h];exact h2 h
noncomputable def aQ(H H':Hp):Prop:=∀b o,H b=aa o->H' b=aa o
theorem aQ.refl(H:Hp):aQ H H:=λ_ _ h=>h
theorem aQ.trans{H2:Hp}(a:aQ H H1)(b:aQ H1 H2):aQ H H2:=λc o h=>b c o (a c o h)
theorem aQ.free(e:aQ H H'){l:ae}(h:H' l=aq):H l=aq:=by
  cases q:H l with
  |none=>rfl
  |some o=>
    rw[e l o q] at h;cases h
end L2
set_option maxHeartbeats 4000000
variable {ifs:List Expr}{kvs:List (List L2.cB×L2.V)}
namespace L2
noncomputable def Nq(i j:Int):Prop:=0<j/\j<2 ^ 200
theorem Fb:l6 X (gw .FloorDiv) (rI Nq λi j=>.int (i / j)):=QL λi j _ _ _ _ _ hc q=>by
  have p1:(0:Int)<j:=hc.1;have p2:j<2 ^ 200:=hc.2;have p3:j.natAbs<2 ^ 200:=⋯;have p4:j.natAbs.log2<200:=(Vo ⋯).mpr p3;refine floordiv_int ⋯ ?_ (.inl (PyProof.noPylong_of_log2 ⋯));rw[Int.fdiv_eq_ediv_of_nonneg i ⋯];exact q
theorem FK{n:Int}{pos:jr}(hm:∃t,X.mg x=aa (.int n t))(hg:autoParam (Gl X x) cF._auto_1)(hd:autoParam ((x==("__debug__" : bi))=ak) oQ._auto_1):PE X (.Name x pos) (tC (.int n)):=by
  obtain⟨t,h⟩:=hm;exact Ht hg h ⟨t,rfl⟩ hd
variable {t':Nat}{fp:List ae}{ob:HO}{h':cm}
theorem Inv.turnedL(I:Inv X pj σ H s)(hf:∀b∈fp,vB X pj H b)(k:∀b o,b ∉ fp->s.heap.get? b=aa o->h'.get? b=aa o):Inv X pj σ H { s with heap:=h',toks:=t' }:=by
  have nf:∀b u,H b=aa u->b ∉ fp:=λb u e z=>by have:=(hf b z).1;rw[e] at this;cases this
  refine I.step (g':=s.gens) (d':=s.drawn) (ch:=fp) (λb hb=>?_) (λb o _ _ hc e _=>k b o hc e) (λb o _ _ hc e _=>⟨o.slots,k b o hc e⟩) (λ_ _ _ _ n=>n) (λb o hc e=>⟨o,k b o hc e⟩) (λ_ _ e=>e) (λ_ _ _ e=>e)
    (λb ps e=>⟨#[],by rw[e];simp⟩) (λm hm=>?_) (λb u e=>?_) I.bare
  . obtain⟨_,f1,_,f3,f4,f5⟩:=hf b hb;exact⟨f3,f1,f4,f5⟩
  . obtain⟨o,es,ep,ho,r⟩:=hm;exact⟨o,es,ep,k _ o (λz=>(hf _ z).2.1 rfl) ho,r⟩
  . refine(I.hok b u e).stay (λc v hc q=>k c v ?_ q) (λ_ q=>q) (λ_ _ q=>q) λ_ _ q=>q;rcases hc with z | z
    . rw[z];exact nf b u e
    . exact nf c _ z
theorem Inv.turnedN{T:ae}(I:Inv X pj σ H s)(hf:∀b∈fp,vB X pj H b)(k:∀b o,b ∉ fp->s.heap.get? b=aa o->h'.get? b=aa o)(hT:s.heap.objs.size<=T)
    (new:cZ X.prog X.w (upd H T ob) h' T ob):Inv X pj σ (upd H T ob) { s with heap:=h',toks:=t' }:=by
  have hn:H T=aq:=I.hok.fresh hT;have nf:∀b u,H b=aa u->b ∉ fp:=λb u e z=>by have:=(hf b z).1;rw[e] at this;cases this
  have nT:∀b o,s.heap.get? b=aa o->b≠T:=λb o e=>fh (di (be e) hT);refine I.step (g':=s.gens) (d':=s.drawn) (ch:=fp) (λb hb=>?_) (λb o _ _ hc e _=>k b o hc e) (λb o _ _ hc e _=>⟨o.slots,k b o hc e⟩) (λb o _ e n=>by rw[bC (nT b o e)];exact n) (λb o hc e=>⟨o,k b o hc e⟩)
    (λb xs e=>by rw[bC (b7 e hn)];exact e) (λb _ _ e=>by rw[bC (b7 e hn)];exact e)
    (λb ps e=>⟨#[],by rw[bC (b7 e hn),e];simp⟩) (λm hm=>?_) (λb u e=>?_) I.bare
  . obtain⟨_,f1,_,f3,f4,f5⟩:=hf b hb;exact⟨f3,f1,f4,f5⟩
  . obtain⟨o,es,ep,ho,r⟩:=hm;exact⟨o,es,ep,k _ o (λz=>(hf _ z).2.1 rfl) ho,r⟩
  . by_cases hb:b=T
    . subst hb;rw[bT] at e;cases e;exact new
    . rw[bC hb] at e;refine(I.hok b u e).stay (λc v hc q=>k c v ?_ q) (λc q=>by rw[bC (b7 q hn)];exact q) (λc xs q=>by rw[bC (b7 q hn)];exact q) λc xs q=>by rw[bC (b7 q hn)];exact q
      rcases hc with z | z
      . rw[z];exact nf b u e
      . exact nf c _ z
noncomputable def Om(K:aj)(a:ae):It:=
  ⟨λi H=>∃xs x,fS K H a xs/\xs[i]?=aa x,λi H v H'=>∃T x,H T=aq/\v=.ref T/\H'=upd H T (.tup [.int i,x]) /\ ∀xs,fS K H a xs->xs[i]?=aa x,λi H=>∃xs,fS K H a xs/\xs.length<=i⟩
variable {elts:List Expr}{x1:Nat}
theorem D8{pos:jr}(a e it:ae)(hne:e≠it):
    Turn P w K (.Tuple elts x1 pos) (Om K a) [e,it] e (λi h=>(∃old,IsEnum h e it (i:Nat) old)/\h.IsListIter it a i) where
  mem:=by simp
  obj:=λi h st b hb=>by
    obtain⟨⟨old,he⟩,o,ho,c,d⟩:=st;rcases br.mp hb with rfl | hb
    . exact⟨_,he,λv z=>by cases z⟩
    . rw[dg.mp hb];exact⟨o,ho,λv z=>by rw[d] at z;cases z⟩
  keep:=λi h h' st k=>⟨let ⟨old,he⟩:=st.1;⟨old,k e (by simp) _ he⟩,st.2.at λo q=>k it (by simp) o q⟩
  item:=by
    intro X hP hw hK hc i pj s σ H E I hf st hg;subst hP hw hK;obtain⟨xs,x,hq,hx⟩:=hg;obtain⟨its,rv,p,hz⟩:=I.list hq;obtain⟨u,hu,ru⟩:=rv.get hx;obtain⟨⟨old,he⟩,hit⟩:=st;refine wpAny_pyNext_enum_item he hit p.isList (x:=u) (by simpa using hu) hne λh1 heo hit1 ht hsz hk=>⟨_,rfl,?_⟩;refine wpAny_letOwnedTupleGo_enum heo λh2 he2 hs2=>?_;have heL:e<s.heap.objs.size:=be he;have hn:H s.heap.objs.size=aq:=I.hok.fresh (bo _);have k2:∀b o,b ∉ [e,it]->s.heap.get? b=aa o->h2.get? b=aa o:=λb o hb q=>by
      have b1:b≠e:=λz=>hb (by simp[z]);have b2:b≠it:=λz=>hb (by simp[z]);exact(hs2.2 b b1).trans (hk b o b1 b2 q)
    have tt:h2.get? s.heap.objs.size=aa { cls:=.type "tuple",data:=.seq #[.int i s.toks,u] }:=(hs2.2 _ (Vh heL)).trans ht;refine⟨.ref s.heap.objs.size,_,I.turnedN (ob:=.tup [.int i,x]) (T:=s.heap.objs.size) (t':=s.toks+1) hf k2 (bo _) ?_,rfl,⟨_,x,hn,rfl,rfl,λys hy=>by rw[I.list_inj hy hq];exact hx⟩,⟨⟨u,?_⟩,hit1.extBut hs2.extBut (dq hne)⟩,λb hb=>?_⟩
    . exact⟨(by decide:2<=bf),[.int i s.toks,u],.cons ⟨_,rfl⟩ (.cons ru .nil),_,tt,rfl,_,rfl⟩
    . have:((i+1:Nat):Int)=(i:Int)+1:=⋯;rw[this];exact he2
    . have hb1:=(hf b hb).1;rw[bC ?_]
      . exact hb1
      . rintro rfl;obtain⟨o,ho,_⟩:=id hit;rcases br.mp hb with z | z
        . exact absurd heL (by rw[<- z];exact ny _)
        . have:=be ho;rw[<- dg.mp z] at this;exact ny _ this
  done:=by
    intro X hP hw hK hc i pj s σ H E I hf st hg;subst hP hw hK;obtain⟨xs,hq,hx⟩:=hg;obtain⟨its,rv,p,hz⟩:=I.list hq;obtain⟨⟨old,he⟩,hit⟩:=st;have hl:=rv.length;exact GX I.qu he hit p.isList (by simp;ac_rfl) λh1 eb=>⟨rfl,I.turnedL (t':=s.toks) hf λb o hb q=>eb b o (λz=>hb (by simp[z])) q⟩
  self:=λ_ _ _ _ _ st h=>by
    obtain⟨⟨old,he⟩,_⟩:=st;exact T7 he h
variable {tp:jr}{ta:TA}
noncomputable def NH(K:aj)(ta:TA):TI:=λσ H R=>ta σ H λvs H1=>∃a,vs=[.ref a]/\(∃xs,fS K H1 a xs)/\R (Om K a) H1
theorem Ho{a:Expr}{pos:jr}(hg:Gl X "enumerate")(hm:X.mg "enumerate" = aq)(ha:PA X [a] ta)(hs:autoParam (bb [a] X.env=[(ak,fe a X.env)]) cF._auto_1):
    PI X (.Tuple elts x1 tp) (.Call (.Name "enumerate" p) [a] [] pos) (NH X.K ta):=by
  intro pj s σ H R I h;refine Call_ (pD I hg hm boot_enumerate (gp (thn (ha pos pj s σ H _ I h) λus s1 ⟨vs,H1,I1,r1,q1⟩=>?_) hs rfl));obtain⟨l,e,⟨xs,hq⟩,q⟩:=q1;subst e;obtain⟨u,rfl,ru⟩:=jQ r1;cases ru;obtain⟨its,rv,pl,hz⟩:=I1.list hq;refine call_enumerate_list pl.isList λh1 he hit hsz hk=>T7 he ?_;have I2:Inv X pj σ H1 { s1 with heap:=h1 }:=I1.kept (t':=s1.toks) hk;refine⟨s1.heap.objs.size+1,[s1.heap.objs.size+1,s1.heap.objs.size],_,_,H1,rfl,I2,D8 l _ _ (Nat.succ_ne_self _),⟨⟨_,he⟩,hit⟩,λb hb=>?_,q⟩;refine I1.fpOk ?_ (I1.hok.fresh ?_)
  all_goals
    rcases br.mp hb with z | z
    . rw[z];exact tf _
    . rw[dg.mp z];exact bo _
noncomputable def RY(a b:ae):It:=
  ⟨λi H=>∃xs ys x y,H a=aa (.lst xs)/\H b=aa (.lst ys)/\xs[i]?=aa x/\ys[i]?=aa y,
   λi H v H'=>∃T x y,H T=aq/\v=.ref T/\H'=upd H T (.tup [x,y])/\(∀xs,H a=aa (.lst xs)->xs[i]?=aa x) /\ ∀ys,H b=aa (.lst ys)->ys[i]?=aa y,
   λi H=>∃xs ys,H a=aa (.lst xs)/\H b=aa (.lst ys)/\(xs.length<=i \/ ys.length<=i)⟩
structure ZApart(z TI TO i1 i2:ae):Prop where
  a:TI≠z
  b:TO≠z
  c:i1≠z
  d:i2≠z
  e:TI≠TO
  f:TI≠i1
  g:TI≠i2
  h:TO≠i1
  i:TO≠i2
  j:i1≠i2
theorem EY{pos:jr}(a b z TI TO i1 i2:ae)(Z:ZApart z TI TO i1 i2):
    Turn P w K (.Tuple elts x1 pos) (RY a b) [z,TI,TO,i1,i2] z (λi h=>VE h z TI TO .none/\Uh h TI (.ref i1) (.ref i2)/\(∃p q,Uh h TO p q)/\h.IsListIter i1 a i/\h.IsListIter i2 b i) where
  mem:=by simp
  obj:=λi h st c hc=>by
    obtain⟨hz,hI,⟨p,q,hO⟩,⟨o1,h1,_,d1⟩,⟨o2,h2,_,d2⟩⟩:=st;simp only[br,fc,or_false] at hc;rcases hc with rfl | rfl | rfl | rfl | rfl
    . exact⟨_,hz,λv y=>by cases y⟩
    . exact⟨_,hI,λv y=>by cases y⟩
    . exact⟨_,hO,λv y=>by cases y⟩
    . exact⟨_,h1,λv y=>by rw[d1] at y;cases y⟩
    . exact⟨_,h2,λv y=>by rw[d2] at y;cases y⟩
  keep:=λi h h' st k=>by
    obtain⟨hz,hI,⟨p,q,hO⟩,h1,h2⟩:=st;exact⟨k z (by simp) _ hz,k TI (by simp) _ hI,⟨p,q,k TO (by simp) _ hO⟩,h1.at λo y=>k i1 (by simp) o y,h2.at λo y=>k i2 (by simp) o y⟩
  item:=by
    intro X hP hw hK hc i pj s σ H E I hf st hg;subst hP hw hK;obtain⟨xs,ys,x,y,ha,hb,hx,hy⟩:=hg;obtain⟨its,rv,pl,hz1⟩:=I.list (fS.of ha);obtain⟨its2,rv2,pl2,hz2⟩:=I.list (fS.of hb);obtain⟨u,hu,ru⟩:=rv.get hx;obtain⟨u2,hu2,ru2⟩:=rv2.get hy;obtain⟨hz,hI,⟨p,q,hO⟩,h1,h2⟩:=st;have na:∀c∈[z,TI,TO,i1,i2],a≠c:=λc hc=>b7 ha (hf c hc).1;have nb:∀c∈[z,TI,TO,i1,i2],b≠c:=λc hc=>b7 hb (hf c hc).1;have D:Vd z TI TO i1 i2 a b:=⟨Z.a,Z.b,Z.c,Z.d,Z.e,Z.f,Z.g,Z.h,Z.i,Z.j,na z (by simp),na TO (by simp),na i1 (by simp),na i2 (by simp),nb z (by simp),nb TO (by simp),nb i1 (by simp),nb i2 (by simp)⟩;refine wpAny_pyNext_zip_item D hz hI hO h1 h2 pl.isList pl2.isList (x:=u) (y:=u2) (by simpa using hu) (by simpa using hu2) λg a1 a2 a3 a4 a5 a6 hk=>⟨_,rfl,?_⟩;refine wpAny_letOwnedTupleGo_zip a1 λg2 hz2 hs2=>?_;have hn:H s.heap.objs.size=aq:=I.hok.fresh (bo _);have zL:z<s.heap.objs.size:=be hz;have lt:∀{c:ae} {o:jq},s.heap.get? c=aa o->c≠s.heap.objs.size:=λe=>fh (be e);have k2:∀c o,c ∉ [z,TI,TO,i1,i2]->s.heap.get? c=aa o->g2.get? c=aa o:=λc o hc e=>by
      simp only[br,fc,or_false,not_or] at hc;exact(hs2.2 c hc.1).trans (hk c o hc.1 hc.2.2.1 hc.2.2.2.1 hc.2.2.2.2 e)
    have tt:g2.get? s.heap.objs.size=aa { cls:=.type "tuple",data:=.seq #[u,u2] }:=(hs2.2 _ (Vh zL)).trans a5;refine⟨.ref s.heap.objs.size,_,I.turnedN (ob:=.tup [x,y]) (T:=s.heap.objs.size) (t':=s.toks) hf k2 (bo _) ?_,rfl,
      ⟨_,x,y,hn,rfl,rfl,λzs hzs=>by rw[ha] at hzs;cases hzs;exact hx,λzs hzs=>by rw[hb] at hzs;cases hzs;exact hy⟩,
      ⟨hz2,hs2.extBut _ _ Z.a (hk _ _ Z.a Z.e Z.f Z.g hI),⟨_,_,hs2.extBut _ _ Z.b a2⟩,a3.extBut hs2.extBut Z.c,a4.extBut hs2.extBut Z.d⟩,λc hc=>?_⟩
    . exact⟨(by decide:2<=bf),[u,u2],.cons ru (.cons ru2 .nil),_,tt,rfl,_,rfl⟩
    . have hc1:=(hf c hc).1;have:c≠s.heap.objs.size:=by
        simp only[br,fc,or_false] at hc;rcases hc with rfl | rfl | rfl | rfl | rfl
        . exact lt hz
        . exact lt hI
        . exact lt hO
        . obtain⟨o,e,_⟩:=h1;exact lt e
        . obtain⟨o,e,_⟩:=h2;exact lt e
      rw[bC this];exact hc1
  done:=by
    intro X hP hw hK hc i pj s σ H E I hf st hg;subst hP hw hK;obtain⟨xs,ys,ha,hb,hor⟩:=hg;obtain⟨its,rv,pl,hz1⟩:=I.list (fS.of ha);obtain⟨its2,rv2,pl2,hz2⟩:=I.list (fS.of hb);obtain⟨hz,hI,⟨p,q,hO⟩,h1,h2⟩:=st;have na:∀c∈[z,TI,TO,i1,i2],a≠c:=λc hc=>b7 ha (hf c hc).1;have nb:∀c∈[z,TI,TO,i1,i2],b≠c:=λc hc=>b7 hb (hf c hc).1;have D:Vd z TI TO i1 i2 a b:=⟨Z.a,Z.b,Z.c,Z.d,Z.e,Z.f,Z.g,Z.h,Z.i,Z.j,na z (by simp),na TO (by simp),na i1 (by simp),na i2 (by simp),nb z (by simp),nb TO (by simp),nb i1 (by simp),nb i2 (by simp)⟩;have l1:=rv.length;have l2:=rv2.length;refine Ir I.qu D hz hI hO h1 h2 pl.isList pl2.isList ?_ λg hk=>⟨rfl,I.turnedL (t':=s.toks) hf λc o hc e=>?_⟩
    . rcases hor with h | h
      . exact .inl (by simp;ac_rfl)
      . exact .inr (by simp;ac_rfl)
    . simp only[br,fc,or_false,not_or] at hc;exact hk c o hc.1 hc.2.2.1 hc.2.2.2.1 hc.2.2.2.2 e
  self:=λ_ _ _ _ _ st h=>TB st.1 h
theorem zapart(n:Nat):ZApart (n+4) (n+2) (n+3) n (n+1):=
  ⟨λe=>by have e':(n+2:Nat)=n+4:=e;ac_rfl,λe=>by have e':(n+3:Nat)=n+4:=e;ac_rfl,λe=>by have e':(n:Nat)=n+4:=e;ac_rfl,λe=>by have e':(n+1:Nat)=n+4:=e;ac_rfl,
   λe=>by have e':(n+2:Nat)=n+3:=e;ac_rfl,λe=>by have e':(n+2:Nat)=n:=e;ac_rfl,λe=>by have e':(n+2:Nat)=n+1:=e;ac_rfl,λe=>by have e':(n+3:Nat)=n:=e;ac_rfl,
   λe=>by have e':(n+3:Nat)=n+1:=e;ac_rfl,λe=>by have e':(n:Nat)=n+1:=e;ac_rfl⟩
noncomputable def Qz(ta:TA):TI:=λσ H R=>ta σ H λvs H1=>∃a b,vs=[.ref a,.ref b]/\(∃xs,H1 a=aa (.lst xs))/\(∃ys,H1 b=aa (.lst ys))/\R (RY a b) H1
theorem K2{a b:Expr}{pos:jr}(hg:Gl X "zip")(hm:X.mg "zip" = aq)(ha:PA X [a,b] ta)
    (hs:autoParam (bb [a,b] X.env=[(ak,fe a X.env),(ak,fe b X.env)]) cF._auto_1) (hs2:autoParam (bb [b] X.env=[(ak,fe b X.env)]) cF._auto_1):
    PI X (.Tuple elts x1 tp) (.Call (.Name "zip" p) [a,b] [] pos) (Qz ta):=by
  intro pj s σ H R I h;refine Call_ (pD I hg hm boot_zip (gp (thn (ha pos pj s σ H _ I h) λus s1 ⟨vs,H1,I1,r1,q1⟩=>?_) (by rw[hs,hs2]) (by rw[hs2];rfl)));obtain⟨l,l2,e,⟨xs,hl⟩,⟨ys,hl2⟩,q⟩:=q1;subst e;obtain⟨u,u2,rfl,ru,ru2⟩:=ES r1;cases ru;cases ru2;obtain⟨its,rv,pl,hz⟩:=I1.list (fS.of hl);obtain⟨its2,rv2,pl2,hz2⟩:=I1.list (fS.of hl2);refine call_zip_2 pl.isList pl2.isList λh1 hz hI hO i1 i2 hsz hk=>TB hz ?_;have I2:Inv X pj σ H1 { s1 with heap:=h1 }:=I1.kept (t':=s1.toks) hk;refine⟨s1.heap.objs.size+4,[s1.heap.objs.size+4,s1.heap.objs.size+2,s1.heap.objs.size+3,s1.heap.objs.size,s1.heap.objs.size+1],_,_,H1,rfl,I2,
    EY l l2 _ _ _ _ _ (zapart s1.heap.objs.size),⟨hz,hI,⟨_,_,hO⟩,i1,i2⟩,λb hb=>?_,q⟩
  have hle:s1.heap.objs.size<=b:=by
    simp only[br,fc,or_false] at hb;rcases hb with rfl | rfl | rfl | rfl | rfl
    . exact wm _ _
    . exact wm _ _
    . exact wm _ _
    . exact bo _
    . exact wm _ _
  exact I1.fpOk hle (I1.hok.fresh hle)
noncomputable def Pp(K:aj):List V->Hp->VK->Prop:=λxs H Q=>∃x T t b,xs=[x,.ty T]/\TyOf K H x t/\Vl K t (.type T)=aa b/\Q (.bl b) H
theorem Gk:fO X (.builtin "isinstance") (Pp X.K):=by
  intro pj s σ H xs us Q I r h;obtain⟨x,T,t,b,rfl,ty,k,q⟩:=h;obtain⟨u,u2,rfl,ru,ru2⟩:=ES r;cases ru2;exact Dx I ru ty k λtk=>⟨.bl b,H,I.tok tk,rfl,q⟩
theorem tK:∀{bs:List Bool} {us:List ac},b8 (bs.map V.bl) us->LSm.BoolsAre us bs
  | [],_,.nil=>.nil
  |_::_,_,.cons r t=>by cases r;exact .cons _ (tK t)
theorem tJ:∀{ns:List Int} {us:List ac},b8 (ns.map V.int) us->nz us ns
  | [],_,.nil=>.nil
  |_::_,_,.cons r t=>by obtain⟨t',rfl⟩:=r;exact .cons _ _ (tJ t)
noncomputable def Ps(K:aj):List V->Hp->VK->Prop:=λxs H Q=>∃(a:ae) (bs:List Bool),xs=[.ref a]/\fS K H a (bs.map V.bl)/\Q (.bl (bs.all id)) H
theorem EG(hc:X.calm=ai):fO X (.builtin "all") (Ps X.K):=by
  intro pj s σ H xs us Q I r h;obtain⟨a,bs,rfl,hq,q⟩:=h;obtain⟨u,rfl,ru⟩:=jQ r;cases ru;obtain⟨its,rv,pl,hz⟩:=I.list hq;have ba:=tK rv;have lt:a<s.heap.objs.size:=by obtain⟨_,e,_⟩:=pl.isList;exact be e
  refine call_all_walk (T8 pl.isList ⟨s.heap.objs.size,[s.heap.objs.size,a],[s.heap.objs.size],its.toArray.size,_,_,λi=>(bs[i]?).getD ai,rfl,
    Walks.list (A:=X.A.in1) (I.ok.hd hc) _ a (fh lt) its.toArray,⟨⟨_,cp _ rfl,rfl,rfl⟩,pl.isList.push _⟩,λi v s' Q' E' hP hQ=>?_,λh' tk hk=>?_⟩)
  . obtain⟨b,e,rfl⟩:=ba.get i v (by simpa using hP);have hQ':Q' ((bs[i]?).getD ai) s':=hQ;rw[e] at hQ';exact ff hQ'
  . have e:((ig its.toArray.size).all λi=>(bs[i]?).getD ai)=bs.all id:=by
      have:=LSm.range_all bs;rw[<- ba.length] at this;simpa using this
    rw[e];exact⟨.bl _,H,I.kept (LSm.kept_iter hk),rfl,q⟩
noncomputable def Ph(K:aj):List V->Hp->VK->Prop:=λxs H Q=>∃(a:ae) (ns:List Int),xs=[.ref a]/\fS K H a (ns.map V.int)/\Q (.int ns.sum) H
theorem ED(hc:X.N=X.N):fO X (.builtin "sum") (Ph X.K):=by
  intro pj s σ H xs us Q I r h;obtain⟨a,ns,rfl,hq,q⟩:=h;obtain⟨u,rfl,ru⟩:=jQ r;cases ru;obtain⟨its,rv,pl,hz⟩:=I.list hq;have ia:=tJ rv;obtain⟨ys,hy⟩:=ia.allInts.items;have e1:=nums_intItems ys;rw[<- hy,show numsOf its.toArray.toList=ns from ia.numsOf] at e1;refine Lz I.qu (hy ▸ pl.isList) λh' tk t' hk=>⟨.int ns.sum,H,I.kept hk,⟨t',?_⟩,q⟩;rw[preSum_eq,e1,nk (by simp)]
noncomputable def pick(js:List Nat)(σ:St):St:=js.map λj=>(σ[j]?).join
noncomputable def pN(X:Cx)(VI:Scope)(cl:List (bi×ae))(fp:List ae)(N:List bi)(s:ah)(H:Hp):Cx where
  prog:=X.prog
  w:=X.w
  K:=X.K
  mg:=X.mg
  base:=X.base
  A:=X.A
  N:=N
  s₀:=s
  HZ:=H
  env:=compEnvC VI cl s.heap.objs.size X.env
  outer:=X.stack
  stack:=X.stack
  ex:=fp
  fn:=λ_=>ak
  calm:=X.calm
  pn:=[]
  xe:=λ_ _=>False
  hs:=X.hs
noncomputable def LQ(X:Cx)(ifs:List Expr)(t:TT):Prop:=
  ∀(pj:List (ae×jq)) (s:ah) (σ:St) (H:Hp) (Q:Bool->Hp->Prop),Inv X pj σ H s->t σ H Q ->
    bu (bv X.prog X.w) X.A (forIn ifs ai λc r=>if r=ai then do let ok <- isTrue c X.env (fe c X.env);ie (ml ok) else ie (ml r)) (TP X pj σ Q) X.xe s
theorem Hg:LQ X [] (λ_ H Q=>Q ai H):=λpj s σ H Q I h=>wpAny_tests_nil ⟨H,I,h⟩
theorem Hf{c:Expr}{t:TT}(h:PT X c t):LQ X [c] t:=λpj s σ H Q I q=>wpAny_tests_one (h pj s σ H Q I q)
noncomputable def xJ(wi:TI)(k:Nat)(js:List Nat)(g:TG)(tt:TT)(te:TE):TE:=λσ H Q=>wi σ H λJ H1=>∀D,H1 D=aq -> ∃W:Nat->Nat->List V->Hp->Prop,(∃m,W 0 m [] (upd H1 D (.lst []))) /\ ∀i m acc H2,W i m acc H2->H2 D=aa (.lst acc) ->
  (J.stop i H2/\Q (.ref D) H2) \/ (J.go i H2 /\ ∀y H3,J.yld i H2 y H3 -> ∀old:St,old.length=k->g y (old++pick js σ) H3 λσ4 H4=>(∃new:St,new.length=k/\σ4=new++pick js σ)/\tt σ4 H4 λb H5=>
    if b=ai then te σ4 H5 λv H6=>H6 D=aa (.lst acc)/\acc.length<bf /\ ∃m',m'<m/\W (i+1) m' (acc++[v]) (upd H6 D (.lst (acc++[v])))
    else H5 D=aa (.lst acc) /\ ∃m',m'<m/\W (i+1) m' acc H5)
variable {elt tgt VO:Expr}
theorem vS{R:Result->ah->Prop}{pos:jr}{it acc:ac}{env:wu}(J:Nat->ah->Prop)
    (turn:∀n s,J n s->bu (bv prog w) A (ri it) (λr s1=>match r with
      |none=>R (.ok .next) s1
      |some v=>bu (bv prog w) A (su tgt it v) (λ_ s2=>bu (bv prog w) A (zd tgt env v) (λ_ s3=>
          bu (bv prog w) A (forIn ifs ai λc r=>if r=ai then do let ok <- isTrue c env (fe c env);ie (ml ok) else ie (ml r)) (λb s3'=>
          if b=ai then bu (bv prog w) A (fe elt env) (λy s4=>bu (bv prog w) A (call (.builtin "list.append") [acc,y]) (λ_ s5=>∃m,m<n/\J m s5) (λ_ _=>False) s4) (λ_ _=>False) s3'
          else ∃m,m<n/\J m s3') (λ_ _=>False) s3) (λ_ _=>False) s2) (λ_ _=>False) s1) (λ_ _=>False) s)
    (n:Nat) (h:J n s):wd (bv prog w) A (.compLoop (.ListComp elt [⟨tgt,VO,ifs,0⟩] VI pos) 0 it acc env) R s:=by
  refine codeAny_loop rfl J (λn' s' hJ=>?_) n h;show bu _ _ ((compTurn (.ListComp elt [⟨tgt,VO,ifs,0⟩] VI pos) 0 it acc env).onRaise (λz=>do noteFrame z env;theTreesLotGoes z)) _ _ s';refine wpAny_noted ?_;rw[compTurn_list];have nope:∀{α:Type} {t:UN α} {Q:α->ah->Prop} {E:ac->ah->Prop} {q:ah},bu (bv prog w) A t Q (λ_ _=>False) q->bu (bv prog w) A t Q E q:=λh=>ii h (λ_ _ z=>z) λ_ _ z=>z.elim;refine af (wpAny_standAt (af (ii (nope (turn n' s' hJ)) (λr s1 h1=>?_) λ_ _ z=>z)));cases r with
  |none=>exact aw h1
  |some v=>
    refine af (ii (nope h1) (λ_ s2 h2=>?_) λ_ _ z=>z);refine af (ii (nope h2) (λ_ s3 h3=>?_) λ_ _ z=>z);refine af (ii (nope h3) (λb s4 h4=>?_) λ_ _ z=>z);cases b with
    |true=>
      have h4':=(show bu _ _ _ _ _ s4 by simpa using h4);simp only[if_true];refine af (af (ii (nope h4') (λy s5 h5=>?_) λ_ _ z=>z));refine af (ii (nope h5) (λ_ s6 h6=>?_) λ_ _ z=>z);exact aw (aw ⟨rfl,h6⟩)
    |false=>
      have h4':∃m,m<n'/\J m s4:=by simpa using h4
      simp only[dk,if_false];exact af (aw (aw ⟨rfl,h4'⟩))
variable {js:List Nat}{v:V}{cl:List (bi×ae)}{tgs ns:List bi}{wi:TI}{g:TG}{te:TE}
theorem FG(h:(pick js σ)[i]?=aa (aa v)):∃j,js[i]?=aa j/\σ[j]?=aa (aa v):=by
  unfold pick at h;rw[cg] at h;cases e:js[i]? with
  |none=>rw[e] at h;cases h
  |some j=>
    rw[e] at h;have h':(σ[j]?).join=aa v:=Option.some.inj h;refine⟨j,rfl,?_⟩;cases q:σ[j]? with
    |none=>rw[q] at h';cases h'
    |some o=>rw[q] at h';exact congrArg aa h'
theorem wW{pos:jr}{tt:TT}(hc:X.N=X.N)
    (hi:PI X tgt VO wi) (hg:∀(fp:List ae) (s:ah) (H:Hp),PG (pN X VI cl fp (tgs++ns) s H) tgt g) (ht:∀(fp:List ae) (s:ah) (H:Hp),LQ (pN X VI cl fp (tgs++ns) s H) ifs tt)
    (he:∀(fp:List ae) (s:ah) (H:Hp),PE (pN X VI cl fp (tgs++ns) s H) elt te)
    (W6:rn VI X.env=ie cl) (VY:∀x c,cl.lookup x=aa c->X.env.cells.lookup x=aa c)
    (Wb:∀x,((fm VI X.env).names.lookup x=aa .cell \/ (fm VI X.env).names.lookup x=aa .free) -> ∃c,cl.lookup x=aa c)
    (hjs:js.map (λj=>X.N[j]?)=ns.map aa) (hin:∀y∈ns,(fm VI X.env).names.lookup y=aa .cell \/ (fm VI X.env).names.lookup y=aa .free)
    (W7:∀y∈ns,X.env.kindOf y=aa .cell \/ X.env.kindOf y=aa .free)
    (VP:autoParam (∀y∈VI.names,y.2 ≠ .cell) CD._auto_1) (VS:autoParam (VI.kind=.function) cF._auto_1)
    (VQ:autoParam (∀y∈VI.names,y.2=.local->VI.names.lookup y.1=aa .local) CD._auto_1)
    (hs:autoParam (∀z,fu VO X.env z=ie z) EJ._auto_1):
    ∀(pos0:jr) (pj:List (ae×jq)) (s:ah) (σ:St) (H:Hp) (Q:VK) (I:Inv X pj σ H s) (h:xJ wi tgs.length js g tt te σ H Q) (use:Option (ac->UN Unit)) (R:ac->ah->Prop)
      (hfin:∀(D C:ae) (H':Hp) (s':ah),Q (.ref D) H'->vB X pj H' C->(∃m,s'.heap.Ns C m)->(∀h',tj C s'.heap h'->Inv X pj σ H' { s' with heap:=h' })->Vp (bv X.prog X.w) X.A X.xe use R (.ref D) C (.ok .next) s'),
      bu (bv X.prog X.w) X.A (comprehension (.ListComp elt [⟨tgt,VO,ifs,0⟩] VI pos) VI X.env pos0 (newList []) ak (fe VO X.env) use) R X.xe s:=by
  intro pos0 pj s σ H Q I h use R hfin;refine wpAny_comprehension_free (use:=use) rfl hs W6 VS VQ (thn (hi pj s σ H _ I h) λv s1 h1=>thn h1 λitv s2 h2=>?_);obtain⟨it,fp,tn,J,H2,rfl,I2,T,st2,f2,VU⟩:=h2;have hD:H2 s2.heap.objs.size=aq:=I2.hok.fresh (bo _);obtain⟨W,⟨m0,w0⟩,step⟩:=VU _ hD;refine iu (wpAny_newFunctionEnv VP (by intro y hy;simp at hy) (λg1 hns hsb=>?_) VS) (by size_fits);dsimp only at hns hsb ⊢;have I3:Inv X pj σ (upd H2 s2.heap.objs.size (.lst [])) { s2 with heap:=s2.heap.push { cls:=.type "list",dict:=aq,data:=.seq ([]:List ac).toArray } }:=I2.lnew (t':=s2.toks) .nil (by simp);generalize hD':s2.heap.objs.size=D at *;generalize hH3:upd H2 D (.lst [])=H3 at *;generalize hS3:s2.heap.push { cls:=.type "list",dict:=aq,data:=.seq ([]:List ac).toArray }=g3 at *;have zs:g3.objs.size=D+1:=by rw[<- hS3,qg,hD']
  have f3:∀b∈fp,vB X pj H3 b:=λb hb=>by
    obtain⟨o,ho,_⟩:=T.obj _ _ st2 b hb;have lt:=be ho;refine⟨?_,(f2 b hb).2⟩;rw[<- hH3,bC (fh (hD' ▸ lt))];exact(f2 b hb).1
  have ltf:∀b∈fp,b<g3.objs.size:=λb hb=>by
    obtain⟨o,ho,_⟩:=T.obj _ _ st2 b hb;rw[zs];exact Nat.lt_succ_of_lt (hD' ▸ be ho)
  have kept:∀b o,g3.get? b=aa o->g1.get? b=aa o:=λb o e=>hsb.extBut b o (fh (be e)) (ap _ e);have cne:∀x c,cl.lookup x=aa c->c≠g3.objs.size:=λx c e=>by
    obtain⟨v,q⟩:=I3.cell x c (VY x c e);exact fh q.lt
  have ok:(pN X VI cl fp (tgs++ns) { s2 with heap:=g3 } H3).Ok:=by
    refine⟨I.ok.mod,VS,I.ok.glob,I.ok.blt,bo _,λy z c e1 e2=>I.ok.inj y z c (VY y c e1) (VY z c e2),λy hy=>Wb y hy,λy c e=>(nomatch e),I.ok.hd,I.ok.frames,.inl rfl,
      λb hb=>⟨fh (ltf b hb),λy c e=>(f3 b hb).2.2.2.2.1 y c (VY y c e)⟩,I3.bs,lh I.ok.bsz I3.sz,λb o e hb=>?_,λb hb=>?_,I3.stack,I3.stkFree,I.ok.hq⟩
    . rcases(f3 b hb).2.2.2.1 with q | q
      . exact I.ok.noex b o e q
      . exact absurd (di (be (I.ok.bs b o e).1) q) (ny _)
    . intro z;rcases br.mp (I3.stkSub b z) with q | q
      . exact(f3 b hb).2.1 q
      . exact(f3 b hb).2.2.1 q
  have cells1:∀x c,cl.lookup x=aa c -> ∃v,g1.IsCell c v:=λx c e=>by
    obtain⟨v,o,ho,hd⟩:=I3.cell x c (VY x c e);exact⟨v,o,kept _ _ ho,hd⟩
  have J4:Inv (pN X VI cl fp (tgs++ns) { s2 with heap:=g3 } H3) [] (ao tgs.length aq++pick js σ) H3 { s2 with heap:=g1,toks:=s2.toks+([]:List (bi×ac)).length }:=by
    refine⟨ok,rfl,I3.bare,Un.kept kept,⟨_,hns,λi y v e1 e2 e3=>?_⟩,λy c e=>cells1 y c e,I3.hok.fresh (bo _),λy c e=>I3.freeC y c (VY y c e),λp hp=>absurd (show p∈([]:List (ae×jq)) from hp) (by simp),I3.hok.kept kept,?_,I3.mild⟩
    . have hi2:tgs.length<=i:=by
        by_cases hlt:i<tgs.length
        . rw[bj (by simpa using hlt),gh,VH hlt] at e2;cases e2
        . ac_rfl
      rw[bt (by simpa using hi2),lr] at e2;have e1':(tgs++ns)[i]?=aa y:=e1;rw[bt hi2] at e1';obtain⟨j,hj,hσ⟩:=FG e2;have hNj:X.N[j]?=aa y:=by
        have:=congrArg (λl=>l[i-tgs.length]?) hjs;simp only[cg,hj,e1',sm] at this;exact Option.some.inj this
      have ym:y∈ns:=bw e1';obtain⟨m,hm,hl⟩:=I3.loc;have vis:Ol X.env.scope y:=by
        rcases W7 y ym with q | q
        . exact .inr (.inl q)
        . exact .inr (.inr q)
      obtain⟨u,ru,lk⟩:=hl j y v hNj hσ vis;refine⟨u,ru,?_⟩;rcases lk with⟨q,_⟩ | ⟨_,c,hc1,hc2⟩
      . rcases W7 y ym with z | z
        . rw[z] at q;cases q
        . rw[z] at q;cases q
      . obtain⟨c',hc'⟩:=Wb y (hin y ym);have:=VY y c' hc';rw[hc1] at this;cases this;obtain⟨o,ho,hd⟩:=hc2;exact .inr ⟨hin y ym,c,hc',o,kept _ _ ho,hd⟩
    . show _=(tgs++ns).length;have:=congrArg List.length hjs;simp only[ay] at this;simp[pick,this]
  have st4:tn 0 g1:=T.keep 0 _ _ st2 λb hb o e=>kept b o (by rw[<- hS3];exact ap _ e);have fin:∀(H':Hp) (σ':St) (s':ah),Inv (pN X VI cl fp (tgs++ns) { s2 with heap:=g3 } H3) [] σ' H' s'->Q (.ref D) H'->Vp (bv X.prog X.w) X.A X.xe use R (.ref D) g3.objs.size (.ok .next) s':=by
    intro H' σ' s' K q;obtain⟨m,hm,_⟩:=K.loc;refine hfin D g3.objs.size H' s' q (I3.fpOk (bo _) K.free) ⟨m,hm⟩ λh' hsb'=>?_;have ne:∀b o,g3.get? b=aa o->b≠g3.objs.size:=λb o e=>fh (be e);have B:Un (frs X.stack) fp H3 H' g3 s'.heap:=K.base;refine I3.call' (s':={ s' with heap:=h' }) (ch:=fp) K.os ⟨λb o e n hb hx=>(hsb'.2 b (ne b o e)).trans (B.keep b o e n hb hx),λb o e n hb hx=>?_,B.free,λb o e hx=>?_,B.tups,B.frzs,B.tbls⟩ (λb u e=>?_) K.bare (λb hb=>?_)
    . obtain⟨sl,e1⟩:=B.slot b o e n hb hx;exact⟨sl,(hsb'.2 b (ne b o e)).trans e1⟩
    . obtain⟨o',e1⟩:=B.there b o e hx;exact⟨o',(hsb'.2 b (ne b o e)).trans e1⟩
    . have nC:∀c v,H' c=aa v->c≠g3.objs.size:=λc v e z=>by
        have:H' g3.objs.size=aq:=K.free;rw[z,this] at e;cases e
      refine(K.hok b u e).stay (λc v hc q=>(hsb'.2 c ?_).trans q) (λ_ q=>q) (λ_ _ q=>q) λ_ _ q=>q;rcases hc with z | z
      . rw[z];exact nC b u e
      . exact nC c _ z
    . obtain⟨_,q1,_,q3,q4,q5⟩:=f3 b hb;exact⟨q3,q1,q4,q5⟩
  have loop:wd (bv X.prog X.w) X.A (.compLoop (.ListComp elt [⟨tgt,VO,ifs,0⟩] VI pos) 0 (.ref it) (.ref D) (compEnvC VI cl g3.objs.size X.env))
      (Vp (bv X.prog X.w) X.A X.xe use R (.ref D) g3.objs.size) { s2 with heap:=g1,toks:=s2.toks+([]:List (bi×ac)).length }:=by
    refine vS (λn s'=>∃i acc old H',Inv (pN X VI cl fp (tgs++ns) { s2 with heap:=g3 } H3) [] (old++pick js σ) H' s'/\old.length=tgs.length/\tn i s'.heap/\(∀b∈fp,H' b=aq)/\H' D=aa (.lst acc)/\W i n acc H') ?_ m0
      ⟨0,[],ao tgs.length aq,H3,J4,by simp,st4,λb hb=>(f3 b hb).1,by rw[<- hH3];exact bT,w0⟩
    rintro n s' ⟨i,acc,old,H',K,lo,st,fr,hDl,w⟩;have fpk:∀{H'':Hp},(∀b∈fp,H'' b=aq) -> ∀b∈fp,vB (pN X VI cl fp (tgs++ns) { s2 with heap:=g3 } H3) [] H'' b:=λhn b hb=>
      ⟨hn b hb,fh (ltf b hb),λz=>ok.exfs b hb z,.inl hb,λy c e=>(f3 b hb).2.2.2.2.1 y c (VY y c e),λp hp=>absurd (show p∈([]:List (ae×jq)) from hp) (by simp)⟩
    rcases step i n acc H' w hDl with⟨stop,q⟩ | ⟨go,next⟩
    . refine thn (T.done (pN X VI cl fp (tgs++ns) { s2 with heap:=g3 } H3) rfl rfl rfl rfl i [] s' _ H' _ K (fpk fr) st stop) λr s1 zz=>?_;obtain⟨hr,K1⟩:=zz;subst hr;exact fin H' _ s1 K1 q
    . refine thn (T.item (pN X VI cl fp (tgs++ns) { s2 with heap:=g3 } H3) rfl rfl rfl rfl i [] s' _ H' _ K (fpk fr) st go) λr s1 zz=>?_;obtain⟨u,hr,h4⟩:=zz;subst hr;refine thn h4 λ_ s5 zz=>?_;obtain⟨y,H5,K5,r5,y5,st5,fr5⟩:=zz;have K5':=K5.pinned (fpk fr5) (T.obj _ _ st5);refine thn (hg fp { s2 with heap:=g3 } H3 _ s5 _ H5 y u _ K5' r5 (next y H5 y5 old lo)) λ_ s6 ⟨σ6,H6,K6,⟨new,hnew,e6⟩,q6⟩=>?_;subst e6;refine thn (ht fp { s2 with heap:=g3 } H3 _ s6 _ H6 _ K6 q6) λb s6' zz=>?_;obtain⟨H6',K6',q6'⟩:=zz;have UT:∀{s8:ah} {H8:Hp} {acc':List V} {m':Nat},Inv (pN X VI cl fp (tgs++ns) { s2 with heap:=g3 } H3) ([]++tZ fp s5.heap) (new++pick js σ) H8 s8->H8 D=aa (.lst acc')->m'<n->W (i+1) m' acc' H8 ->
          ∃m,m<n /\ ∃i acc old H',Inv (pN X VI cl fp (tgs++ns) { s2 with heap:=g3 } H3) [] (old++pick js σ) H' s8/\old.length=tgs.length/\tn i s8.heap/\(∀b∈fp,H' b=aq)/\H' D=aa (.lst acc)/\W i m acc H':=by
        intro s8 H8 acc' m' K8 h8 hm' w8;refine⟨m',hm',i+1,acc',new,H8,K8.unpinned,hnew,T.keep _ _ _ st5 λb hb o e=>(K8.pin (b,o) (cu _ (cu _ (lM hb e)))).1,λb hb=>?_,h8,w8⟩;obtain⟨o,e,d⟩:=T.obj _ _ st5 b hb;exact(K8.pin (b,o) (cu _ (cu _ (lM hb e)))).2.1
      cases b with
      |true=>
        refine lZ ?_;rw[VH rfl] at q6';refine thn (he fp { s2 with heap:=g3 } H3 _ s6' _ H6' _ K6' q6') λvv s7 zz=>?_;obtain⟨v,H7,K7,r7,hD7,hlen,m',hm',w7⟩:=zz;refine thn (wN (X:=pN X VI cl fp (tgs++ns) { s2 with heap:=g3 } H3) _ s7 _ H7 (.ref D) [v] (.ref D) [vv] (λ_ H8=>H8=upd H7 D (.lst (acc++[v]))) K7 rfl (.cons r7 .nil) ⟨D,acc,v,rfl,rfl,hD7,hlen,rfl⟩) λ_ s8 zz=>?_;obtain⟨_,H8,K8,_,e8⟩:=zz;subst e8;exact UT K8 bT hm' w7
      |false=>
        refine oF ?_;have q6f:H6' D=aa (.lst acc) /\ ∃m',m'<n/\W (i+1) m' acc H6':=by simpa using q6'
        obtain⟨hD7,m',hm',w7⟩:=q6f;exact UT K6' hD7 hm' w7
  exact codeAny_compStart_list loop (T.self _ 0 _ _ _ st4 loop)
theorem FM{pos:jr}{tt:TT}(hc:X.N=X.N)
    (hi:PI X tgt VO wi) (hg:∀(fp:List ae) (s:ah) (H:Hp),PG (pN X VI cl fp (tgs++ns) s H) tgt g) (ht:∀(fp:List ae) (s:ah) (H:Hp),LQ (pN X VI cl fp (tgs++ns) s H) ifs tt)
    (he:∀(fp:List ae) (s:ah) (H:Hp),PE (pN X VI cl fp (tgs++ns) s H) elt te)
    (W6:rn VI X.env=ie cl) (VY:∀x c,cl.lookup x=aa c->X.env.cells.lookup x=aa c)
    (Wb:∀x,((fm VI X.env).names.lookup x=aa .cell \/ (fm VI X.env).names.lookup x=aa .free) -> ∃c,cl.lookup x=aa c)
    (hjs:js.map (λj=>X.N[j]?)=ns.map aa) (hin:∀y∈ns,(fm VI X.env).names.lookup y=aa .cell \/ (fm VI X.env).names.lookup y=aa .free)
    (W7:∀y∈ns,X.env.kindOf y=aa .cell \/ X.env.kindOf y=aa .free)
    (VP:autoParam (∀y∈VI.names,y.2 ≠ .cell) CD._auto_1) (VS:autoParam (VI.kind=.function) cF._auto_1)
    (VQ:autoParam (∀y∈VI.names,y.2=.local->VI.names.lookup y.1=aa .local) CD._auto_1)
    (hs:autoParam (∀z,fu VO X.env z=ie z) EJ._auto_1):
    PE X (.ListComp elt [⟨tgt,VO,ifs,0⟩] VI pos) (xJ wi tgs.length js g tt te):=by
  intro pj s σ H Q I h;rw[eval_ListComp];refine wW hc hi hg ht he W6 VY Wb hjs hin W7 VP VS VQ hs _ pj s σ H Q I h aq _ ?_;intro D C H' s' q fp hm inv;obtain⟨m,hm⟩:=hm;exact⟨m,hm,λh' hs'=>⟨.ref D,H',inv h' hs',rfl,q⟩⟩
theorem FE{y:bi}{py spos:jr}{iy:Nat}{pos:jr}{tt:TT}(hN:X.N.Nodup)(hi2:X.N[iy]?=aa y)(hx2:HE X.env.scope y)(hc:X.N=X.N)
    (hi:PI X tgt VO wi) (hg:∀(fp:List ae) (s:ah) (H:Hp),PG (pN X VI cl fp (tgs++ns) s H) tgt g) (ht:∀(fp:List ae) (s:ah) (H:Hp),LQ (pN X VI cl fp (tgs++ns) s H) ifs tt)
    (he:∀(fp:List ae) (s:ah) (H:Hp),PE (pN X VI cl fp (tgs++ns) s H) elt te)
    (W6:rn VI X.env=ie cl) (VY:∀x c,cl.lookup x=aa c->X.env.cells.lookup x=aa c)
    (Wb:∀x,((fm VI X.env).names.lookup x=aa .cell \/ (fm VI X.env).names.lookup x=aa .free) -> ∃c,cl.lookup x=aa c)
    (hjs:js.map (λj=>X.N[j]?)=ns.map aa) (hin:∀y∈ns,(fm VI X.env).names.lookup y=aa .cell \/ (fm VI X.env).names.lookup y=aa .free)
    (W7:∀y∈ns,X.env.kindOf y=aa .cell \/ X.env.kindOf y=aa .free)
    (VP:autoParam (∀y∈VI.names,y.2 ≠ .cell) CD._auto_1) (VS:autoParam (VI.kind=.function) cF._auto_1)
    (VQ:autoParam (∀y∈VI.names,y.2=.local->VI.names.lookup y.1=aa .local) CD._auto_1)
    (hs:autoParam (∀z,fu VO X.env z=ie z) EJ._auto_1)
    (hsw:autoParam (jd (.ListComp elt [⟨tgt,VO,ifs,0⟩] VI pos) (aa (.Name y py)) spos.line X.env=ie ai) cF._auto_1) (hf:autoParam (X.fn y=ai \/ X.env.scope.names.lookup y=aa .local) HB._auto_1):
    PS X (.Assign [.Name y py] (.ListComp elt [⟨tgt,VO,ifs,0⟩] VI pos) spos) (HP (xJ wi tgs.length js g tt te) (Ak iy)):=by
  intro pj s σ H D I h;rw[exec_Assign_Name_used _ _ _ _ hsw];refine af (wpAny_standAt (af ?_));show bu _ X.A (do let _ <- comprehension (.ListComp elt [⟨tgt,VO,ifs,0⟩] VI pos) VI X.env _ (newList []) ak (fe VO X.env) (aa (zd (.Name y py) X.env))) _ _ s;refine af (ii (wW hc hi hg ht he W6 VY Wb hjs hin W7 VP VS VQ hs _ pj s σ H _ I h (aa (zd (.Name y py) X.env)) (λ_ s'=>SP X pj D .next s') ?_) (λ_ s' hq=>aw (aw hq)) λ_ _ e=>e);intro E C H' s' q fp ⟨m,hm⟩ inv;have I1:Inv X pj σ H' s':=inv s'.heap ⟨rfl,λ_ _=>rfl⟩;show bu _ X.A (zd (.Name y py) X.env (.ref E)) _ _ _;refine zw (w9 I1 hN hi2 hx2 (v:=.ref E) rfl (λs2 I2 hsb=>?_) hf);obtain⟨a,hsb,ha⟩:=hsb;have aC:a≠C:=by
    rcases ha with ha | ha
    . rw[ha];exact dq fp.2.1
    . exact fp.2.2.2.2.1 _ _ ha
  refine⟨m,hm.sameBut hsb (dq aC),λh' hs'=>⟨_,H',?_,q⟩⟩;refine I2.call' (s':={ s2 with heap:=h' }) (ch:=[C]) rfl ⟨λb o e n hb hx=>?_,λb o e n hb hx=>?_,λb o e n hx=>n,λb o e hx=>?_,λ_ _ e=>e,λ_ _ _ e=>e,λb ps e=>⟨#[],by simpa using e⟩⟩ ?_ I2.bare ?_
  . exact hs'.extBut b o (by simpa using hx) e
  . exact⟨o.slots,hs'.extBut b o (by simpa using hx) e⟩
  . exact⟨o,hs'.extBut b o (by simpa using hx) e⟩
  . have nC:∀c v,H' c=aa v->c≠C:=λc v e z=>by
      rw[z,fp.1] at e;cases e
    intro b u e;refine(I2.hok b u e).stay (λc v hc q=>(hs'.2 c ?_).trans q) (λ_ q=>q) (λ_ _ q=>q) λ_ _ q=>q;rcases hc with z | z
    . rw[z];exact nC b u e
    . exact nC c _ z
  . intro b hb;obtain rfl:b=C:=by simpa using hb
    exact⟨fp.2.2.2.1,fp.2.1,fp.2.2.2.2.1,fp.2.2.2.2.2⟩
variable {y:V}{o:Option V}{κ:Type}
section
variable [DecidableEq κ]
noncomputable def oA(kvs:List (κ×V))(k:κ):Option V:=(kvs.find? λkv=>decide (kv.1=k)).map (·.2)
noncomputable def qN(kvs:List (κ×V))(k:κ)(v:V):List (κ×V):=
  if (kvs.any λkv=>decide (kv.1=k))=ai then kvs.map (λkv=>if kv.1=k then (kv.1,v) else kv) else kvs++[(k,v)]
theorem pV{p:κ×V}{r:List (κ×V)}{k:κ}(e:p.1=k):oA (p::r) k=aa p.2:=by simp[oA,rq,e]
theorem pW{p:κ×V}{r:List (κ×V)}{k:κ}(e:¬p.1=k):oA (p::r) k=oA r k:=by simp[oA,rq,e]
theorem zN(k:κ):∀kvs:List (κ×V),(kvs.any λkv=>decide (kv.1=k))=(oA kvs k).isSome
  | []=>rfl
  |p::r=>by
    rw[qo];by_cases e:p.1=k
    . simp only[pV e,decide_eq_true e,V3,Option.isSome_some]
    . rw[pW e,decide_eq_false e,Bool.false_or];exact zN k r
theorem sH(kvs:List (κ×V))(k:κ)(v:V):(qN kvs k v).length<=kvs.length+1:=by
  unfold qN;split
  . rw[ay];ac_rfl
  . rw[bq,bh,zh];ac_rfl
theorem oJ.isSome_eq{u:Option ac}(r:oJ o u):o.isSome=u.isSome:=by
  cases o with
  |none=>cases u with
    |none=>rfl
    |some _=>exact(show False from r).elim
  |some _=>cases u with
    |none=>exact(show False from r).elim
    |some _=>rfl
theorem KV.val{kvs:List (κ×V)}{vs:List (κ×ac)}(r:KV kvs vs)(k:κ):oJ (oA kvs k) (xx vs k):=by
  unfold KV at r;induction r with
  |nil=>exact km
  | @cons p q ps qs h t ih=>
    obtain⟨h1,h2⟩:=h;by_cases e:p.1=k
    . have e':q.1=k:=h1.symm.trans e;have b:xx (q::qs) k=aa q.2:=by simp[xx,rq,e']
      rw[pV e,b];exact h2
    . have e':¬q.1=k:=λz=>e (h1.trans z);have b:xx (q::qs) k=xx qs k:=by simp[xx,rq,e']
      rw[pW e,b];exact ih
theorem KV.any{kvs:List (κ×V)}{vs:List (κ×ac)}(r:KV kvs vs)(k:κ):(kvs.any λkv=>decide (kv.1=k))=vs.any λkv=>decide (kv.1=k):=by
  unfold KV at r;induction r with
  |nil=>rfl
  |cons h t ih=>rw[qo,qo,ih,h.1]
theorem KV.repl{kvs:List (κ×V)}{vs:List (κ×ac)}(r:KV kvs vs)(k:κ)(ry:cG y u):
    KV (kvs.map λkv=>if kv.1=k then (kv.1,y) else kv) (vs.map λkv=>if kv.1=k then (kv.1,u) else kv):=by
  unfold KV at r ⊢;induction r with
  |nil=>exact .nil
  | @cons p q ps qs h t ih=>
    rw[cf,cf];refine .cons ?_ ih;obtain⟨h1,h2⟩:=h;by_cases e:p.1=k
    . rw[VH e,VH (h1.symm.trans e)];exact⟨h1,ry⟩
    . rw[Vn e,Vn (λz=>e (h1.trans z))];exact⟨h1,h2⟩
theorem KV.put{kvs:List (κ×V)}{vs:List (κ×ac)}(r:KV kvs vs)(k:κ)(ry:cG y u):KV (qN kvs k y) (stored vs k u):=by
  unfold qN stored;rw[r.any k];by_cases e:(vs.any λkv=>decide (kv.1=k))=ai
  . rw[VH e,VH e];exact r.repl k ry
  . rw[Vn e,Vn e];exact Paired.snoc r ⟨rfl,ry⟩
theorem KV.length{kvs:List (κ×V)}{vs:List (κ×ac)}(r:KV kvs vs):kvs.length=vs.length:=Paired.length r
end
theorem GC{k:cB}(r:cG (kV k) u):(eU P w).is k u=ai:=by
  cases k with
  |inl i=>obtain⟨t,e⟩:=(show ∃t,u=Value.int i t from r);subst e;exact Ae P w i t
  |inr x=>obtain⟨t,e⟩:=(show ∃t,u=Value.str x t from r);subst e;exact Ad P w x t
theorem wR{P:ar}{w:bm}:∀{ks:List cB} {us:List ac},b8 (ks.map kV) us->ItemsAre (eU P w) ks us
  | [],_,r=>by rw[uz] at r;cases r;exact .nil
  |k::ks,_,r=>by
    rw[cf] at r;cases r with
    |cons h t=>exact .cons (GC h) (wR t)
noncomputable abbrev KT(H:Hp):List (List cB×V)->List (List cB×ae×ac)->Prop:=Paired λp q=>p.1=q.1/\H q.2.1=aa (.tup (p.1.map kV))/\cG p.2 q.2.2
variable {xs:List (List cB×ae×ac)}
theorem KT.val(r:KT H kvs xs)(k:List cB):oJ (oA kvs k) ((TY xs k).map (·.2)):=by
  induction r with
  |nil=>exact km
  | @cons p q ps qs h t ih=>
    obtain⟨h1,_,h2⟩:=h;by_cases e:p.1=k
    . have e':q.1=k:=h1.symm.trans e;have b:TY (q::qs) k=aa q.2:=by simp[TY,rq,e']
      rw[pV e,b];exact h2
    . have e':¬q.1=k:=λz=>e (h1.trans z);have b:TY (q::qs) k=TY qs k:=by simp[TY,rq,e']
      rw[pW e,b];exact ih
theorem KT.repl(r:KT H kvs xs)(k:List cB)(ry:cG y u):
    KT H (kvs.map λkv=>if kv.1=k then (kv.1,y) else kv) (xs.map (putAt k u)):=by
  induction r with
  |nil=>exact .nil
  | @cons p q ps qs h t ih=>
    rw[cf,cf];refine .cons ?_ ih;obtain⟨h1,h2,h3⟩:=h;unfold putAt;by_cases e:p.1=k
    . rw[VH e,VH (h1.symm.trans e)];exact⟨h1,h2,ry⟩
    . rw[Vn e,Vn (λz=>e (h1.trans z))];exact⟨h1,h2,h3⟩
variable {b:ae}
theorem KT.put(r:KT H kvs xs)(k:List cB)(hb:H b=aa (.tup (k.map kV)))(ry:cG y u):
    KT H (qN kvs k y) (storedH xs k b u):=by
  have e:(kvs.any λkv=>decide (kv.1=k))=(TY xs k).isSome:=by
    rw[zN,(r.val k).isSome_eq,Option.isSome_map]
  unfold qN storedH;rw[e];by_cases q:(TY xs k).isSome=ai
  . rw[VH q,VH q];exact r.repl k ry
  . rw[Vn q,Vn q];exact Paired.snoc r ⟨rfl,hb,ry⟩
theorem KT.keeps(r:KT H kvs xs)(ht:∀b ys,H b=aa (.tup ys)->H' b=aa (.tup ys)):KT H' kvs xs:=
  Paired.mapP r λ_ _ z=>⟨z.1,ht _ _ z.2.1,z.2.2⟩
variable {ep:Nat}
theorem JG{u:HO}(ok:pU P w H h)(e:Rd H a u):cZ P w H h a u:=e.ok ok
theorem Cs{kvs:List (cB×V)}(ok:pU P w H h)(e:Rd H a (.dK kvs)):kvs.length<=bf/\(a==fq)=ak /\ ∃vs,KV kvs vs/\h.DictOf (eU P w) a vs:=
  show cZ P w H h a (.dK kvs) from JG ok e
theorem NX{kvs:List (cB×V)}(ok:pU P w H h)(e:H a=aa (.dK kvs)):kvs.length<=bf/\(a==fq)=ak /\ ∃vs,KV kvs vs/\h.DictOf (eU P w) a vs:=Cs ok (.inl e)
theorem Bx{ks:List cB}(ok:pU P w H h)(e:H a=aa (.tup (ks.map kV))):(xp (eU P w)).is h ks a:=by
  obtain⟨_,its,r,o,h1,h2,n,h3⟩:=(show cZ P w H h a (.tup (ks.map kV)) from ok a _ e);exact⟨o,its.toArray,n,h1,h2,h3,by simpa using wR r⟩
theorem Gb(ok:pU P w H h)(e:Rd H a (.dT ep kvs)):kvs.length<=bf/\(a==fq)=ak /\
    ∃xs,KT H kvs xs/\h.DictOfH (xp (eU P w)) a xs:=by
  obtain⟨z,y,xs,r,o,es,h1,h2,h3,h4,h5⟩:=(show cZ P w H h a (.dT ep kvs) from JG ok e);refine⟨z,y,xs,r,o,es,ep,h1,h2,h3,h4,λx hx=>?_,h5⟩;have all:∀{l:List (List cB×V)} {m:List (List cB×ae×ac)},KT H l m -> ∀x∈m,(xp (eU P w)).is h x.1 x.2.1:=by
    intro l m q;induction q with
    |nil=>intro x hx;exact nomatch hx
    | @cons p q ps qs hq t ih=>
      intro x hx;rcases br.mp hx with e | hx
      . subst e;exact Bx ok (by rw[<- hq.1];exact hq.2.1)
      . exact ih x hx
  exact all r x hx
theorem Gc(ok:pU P w H h)(e:H a=aa (.dT ep kvs)):kvs.length<=bf/\(a==fq)=ak /\
    ∃xs,KT H kvs xs/\h.DictOfH (xp (eU P w)) a xs:=Gb ok (.inl e)
noncomputable def BG(H:Hp)(a:ae)(y:V)(r:Option V):Prop:=
  (∃kvs k,Rd H a (.dK kvs)/\y=kV k/\r=oA kvs k) \/ ∃ep kvs k b,Rd H a (.dT ep kvs)/\y=.ref b/\H b=aa (.tup (k.map kV))/\r=oA kvs k
noncomputable def H9(H:Hp)(a:ae)(y v:V)(R:Hp->Prop):Prop:=
  (∃kvs k,H a=aa (.dK kvs)/\y=kV k/\kvs.length<bf/\R (upd H a (.dK (qN kvs k v)))) \/
  ∃ep kvs k b,H a=aa (.dT ep kvs)/\y=.ref b/\H b=aa (.tup (k.map kV))/\kvs.length<bf /\ ∀ep',R (upd H a (.dT ep' (qN kvs k v)))
theorem BG.k{H:Hp}{a:ae}{kvs:List (cB×V)}{k:cB}(e:H a=aa (.dK kvs)):BG H a (kV k) (oA kvs k):=.inl ⟨kvs,k,.inl e,rfl,rfl⟩
theorem BG.t{k:List cB}(e:H a=aa (.dT ep kvs))(eb:H b=aa (.tup (k.map kV))):BG H a (.ref b) (oA kvs k):=.inr ⟨ep,kvs,k,b,.inl e,rfl,eb,rfl⟩
theorem H9.t{k:List cB}{R:Hp->Prop}(e:H a=aa (.dT ep kvs))(eb:H b=aa (.tup (k.map kV)))(hl:kvs.length<bf)(r:∀ep',R (upd H a (.dT ep' (qN kvs k v)))):H9 H a (.ref b) v R:=.inr ⟨ep,kvs,k,b,e,rfl,eb,hl,r⟩
variable {Q:ac->ah->Prop}{r:ac}
theorem Inv.big(I:Inv X pj σ H s):fq<s.heap.objs.size:=by
  have h:gg<s.heap.objs.size:=(I.mod.glob.keeps I.bk).lt;exact Ux ∅ h
theorem EB(hu:A.units+1<lq)(I:Inv X pj σ H s)(g:BG H a y (aa v))(ry:cG y u)(h:∀w' s',Inv X pj σ H s'->cG v w'->Q w' s'):
    bu (bv X.prog X.w) A (T5 (.ref a) u) Q E s:=by
  rcases g with⟨kvs,k,e,ey,l⟩ | ⟨_,kvs,k,b,e,ey,eb,l⟩
  . subst ey;obtain⟨z,hd,vs,rel,dd⟩:=Cs I.hok e;obtain⟨w',hw,rw'⟩:=oJ.some_of (v:=v) (o:=xx vs k) (by rw[l];exact rel.val k);exact wpAny_getItem_of (GC ry) dd.mapOf hw (h w' _ (I.tok _) rw')
  . subst ey;cases (show u=Value.ref b from ry);obtain⟨z,hd,xs,rel,dd⟩:=Gb I.hok e;obtain⟨w',hw,rw'⟩:=oJ.some_of (v:=v) (o:=(TY xs k).map (·.2)) (by rw[l];exact rel.val k);obtain⟨p,hp,hp2⟩:=wr.mp hw;refine wpAny_getItem_heap (uj hu) (Bx I.hok eb) dd hp ?_;rw[hp2];exact h w' _ (I.tok _) rw'
theorem Ct(I:Inv X pj σ H s)(mu:EH (H a))(hs:tj a s.heap h')(he:∃q,h'.get? a=aa q)(new:cZ X.prog X.w (upd H a ob) h' a ob):
    Inv X pj σ (upd H a ob) { s with heap:=h',toks:=t' }:=
  I.write (x:=a) (e:=a) mu (.inl rfl) (λb q hb z=>(hs.2 b hb).trans z) he new
theorem LI{kvs:List (cB×V)}{vs:List (cB×ac)}(z:kvs.length<=bf)(hd:(a==fq)=ak)(rel:KV kvs vs)(dd:h'.DictOf (eU P w) a vs):
    cZ P w H' h' a (.dK kvs):=⟨z,hd,vs,rel,dd⟩
theorem EA{R:Hp->Prop}{Q:Unit->ah->Prop}(hu:A.units+1<lq)(I:Inv X pj σ H s)(g:H9 H a y v R)(ry:cG y u)(rv:cG v r)(h:∀H' s',R H'->Inv X pj σ H' s'->Q () s'):
    bu (bv X.prog X.w) A (setItem (.ref a) u r) Q E s:=by
  rcases g with⟨kvs,k,e,ey,l,eH⟩ | ⟨ep0,kvs,k,b,e,ey,eb,l,eH⟩
  . subst ey;obtain⟨z,hd,vs,rel,dd⟩:=NX I.hok e;have hz:vs.length<=bf:=by rw[<- rel.length];exact z
    have hl:(qN kvs k v).length<=bf:=by have:=sH kvs k v;ac_rfl
    refine wpAny_setItem_pairs (hsz:=hz) (GC ry) dd λh' dd' hs=>h _ _ eH ?_;have he:∃q,h'.get? a=aa q:=let ⟨q,_,_,hq,_⟩:=dd';⟨q,hq⟩;exact Ct I (by rw[e];exact km) hs he (LI hl hd (rel.put k rv) dd')
  . subst ey;cases (show u=Value.ref b from ry);obtain⟨z,hd,xs,rel,dd⟩:=Gc I.hok e;have hz:xs.length<=bf:=by rw[<- Paired.length rel];exact z
    have hl:(qN kvs k v).length<=bf:=by have:=sH kvs k v;ac_rfl
    refine wpAny_setItem_heap (hsz:=hz) (uj hu) (Bx I.hok eb) dd λh' dd' hs=>?_;obtain⟨q,es,ep,hq,h2,h3,h4,_,h5⟩:=dd';refine h _ _ (eH ep) ?_;refine Ct I (by rw[e];exact km) hs ⟨q,hq⟩ ⟨hl,hd,_,(rel.put k eb rv).keeps λc ys ec=>?_,q,es,hq,h2,h3,h4,h5⟩;rw[bC (My ec e (λz=>nomatch z))];exact ec
section
variable {kvs:List (cB×V)}{k:cB}
theorem Na(I:Inv X pj σ H s)(e:Rd H a (.dK kvs))(h:∀t s',Inv X pj σ H s'->Q (.int kvs.length t) s'):bu (bv X.prog X.w) A (call (.builtin "len") [.ref a]) Q E s:=by
  obtain⟨z,hd,vs,rel,dd⟩:=Cs I.hok e;refine call_len_dict hd dd (by rw[<- rel.length];rw[iq] at z;ac_rfl) ?_;rw[<- rel.length];exact h _ _ (I.tok _)
end
theorem Ay(I:Inv X pj σ H s)(g:BG H a y o):s.TypeIs (.ref a) "dict" := by
  rcases g with⟨kvs,k,e,_,_⟩ | ⟨_,kvs,k,b,e,_,_,_⟩
  . obtain⟨_,_,vs,_,dd⟩:=Cs I.hok e;exact dd.typeIs
  . obtain⟨_,_,xs,_,dd⟩:=Gb I.hok e;exact dd.typeIs
noncomputable def M8(td ty tv:TE):TS:=λD σ H=>tv σ H λv H1=>td σ H1 λx H2=>ty σ H2 λy H3=>∃a,x=.ref a/\H9 H3 a y v (D.nx σ)
variable {VR:Expr}{W8:jr}{td tv:TE}
section
variable {o i:Expr}{pos tpos:jr}{ty:TE}
theorem Hk(hu:X.A.units+1<lq)(ho:PE X o td)(hi:PE X i ty)(hv:PE X VR tv)(hs:jd VR (aa (.Subscript o i W8)) pos.line X.env=ie ak):
    PS X (.Assign [.Subscript o i W8] VR pos) (M8 td ty tv):=by
  intro pj s σ H D I h;refine wpAny_Assign_Subscript (thn (hv pj s σ H _ I h) λr s1 ⟨v,H1,I1,rv,q1⟩=>thn (ho pj s1 σ H1 _ I1 q1) λu s2 ⟨x,H2,I2,rx,q2⟩=>thn (hi pj s2 σ H2 _ I2 q2) λiv s3 ⟨y,H3,I3,ry,a,ex,g⟩=>?_) hs;subst ex;obtain rfl:u=Value.ref a:=rx;exact EA hu I3 g ry rv λH4 s4 q3 I4=>⟨σ,H4,I4,q3⟩
end
theorem Gd(h:cm)(hb:fq<h.objs.size):cZ P w H (h.push { cls:=.type "dict",data:=.dict #[] }) h.objs.size (.dT 0 []):=
  ⟨nj _,beq_eq_false_iff_ne.mpr (dq (fh hb)),[],.nil,_,#[],cp _ rfl,⟨rfl,rfl,rfl⟩,rfl,rfl,Uy⟩
noncomputable def Jm:TE:=λ_ H Q=>∀p,H p=aq->Q (.ref p) (upd H p (.dT 0 []))
section
variable {pos:jr}
theorem FL:PE X (.Dict [] [] pos) Jm:=λpj s σ H Q I h=>
  wpAny_Dict_empty ⟨.ref s.heap.objs.size,_,I.laid (a:=s.heap.objs.size) (o:=.dT 0 []) (t':=s.toks) (λ_ _ q=>ap _ q) (bo _) (Gd s.heap I.big),rfl,h _ (I.hok.fresh (bo _))⟩
end
section
variable {d:V}
end
section
variable {o f:Expr}{VV VX:jr}{ty tx:TE}
end
section
variable {kvs:List (cB×V)}
end
theorem Lf:fO X (.builtin "len") (λxs H Q=>∃a kvs,xs=[V.ref a]/\H a=aa (.dK kvs)/\Q (.int kvs.length) H):=by
  intro pj s σ H xs us Q I r h;obtain⟨a,kvs,rfl,ha,q⟩:=h;obtain⟨u,rfl,ru⟩:=jQ r;cases ru;exact Na I (.inl ha) λt s' I'=>⟨.int kvs.length,H,I',⟨t,rfl⟩,q⟩
section
variable [DecidableEq κ]
end
noncomputable abbrev Tk:=Int×Int×List Int
noncomputable def Ea(k:Tk):Int:=reduceHash (uq [UY k.1,UY k.2.1,reduceHash (uq (k.2.2.map UY))])
noncomputable abbrev R7(x:Tk×ae):DictEntry:=⟨Ea x.1,.ref x.2,.bool ai⟩
noncomputable def ndict(a:ae)(xs:List (Tk×ae)):cm->Prop:=λh=>xs.length<=bf/\(a==fq)=ak /\ ∃o es ep,h.get? a=aa o/\o.ExactDict/\o.data=.dict es ep/\es.toList=xs.map R7/\(xs.map (·.1)).Nodup
noncomputable abbrev HO.dN(a:ae)(xs:List (Tk×ae)):HO:=.ext (ndict a xs)
noncomputable def TileAt(H:Hp)(k:Tk)(b:ae):Prop:=∃c,H b=aa (.tup [.int k.1,.int k.2.1,.ref c])/\H c=aa (.tup (k.2.2.map V.int))
section
variable {xs:List (Tk×ae)}{k:Tk}
end
section
variable {pos:jr}{o i:Expr}{ty:TE}
end
end L2
variable {M F:ae->Prop}
namespace Z
open L2
noncomputable abbrev St:=L2.St
inductive Dv where
 |non
 |bl (b:Bool)
 |int (i:Int)
 |str (x:bi)
 |tup (xs:List Dv)
 |lst (xs:List Dv)
 |dit (kvs:List (List cB×Dv))
 |obj (C:ae) (fs:List (bi×Dv))
 |scr (ns:List Int)
 /-- an exception that was caught,of the class at C -/
 |exc (C:ae) (p:Option Int)
 /-- a dict by tiles whose values are True -/
 |dns (ks:List Tk)
noncomputable def kQ:Dv->Bool
 | .lst _=>ak
 | .dit _=>ak
 | .obj _ _=>ak
 | .dns _=>ak
 | .tup xs=>flatDs xs
 |_=>ai
where flatDs:List Dv->Bool
 | []=>ai
 |d::r=>kQ d&&flatDs r
noncomputable abbrev flatDs:=kQ.flatDs
noncomputable def J5(K:aj)(H:Hp)(a:ae)(ns:List Int):Prop:=
 (∃o,H a=aa (.frz o (.lst (ns.map V.int)))) \/
  ∃(o:jq) (its:Array ac) (n:Nat),K.lookup a=aa o/\o.cls=.type "list" /\ o.dict=aq/\o.data=.seq its n/\its.size<=bf/\b8 (ns.map V.int) its.toList
theorem J5.sq(h:J5 K H a ns):fS K H a (ns.map V.int):=by
 rcases h with⟨o,h⟩ | h
 ·exact .inl (.inr ⟨o,h⟩)
 ·exact .inr h
noncomputable def D4(H:Hp):Option Int->Option ae->Prop
 |none,aq=>True
 |some n,aa d=>∃od,H d=aa (.frz od (.xd [("step",.int n)]))
 |_,_=>False
theorem D4.gen(h:∀a o u,H a=aa (.frz o u)->H' a=aa (.frz o u)):∀{p:Option Int} {d:Option ae},D4 H p d->D4 H' p d
 |none,aq,z=>z
 |some _,aa _,⟨od,z⟩=>⟨od,h _ _ _ z⟩
 |none,aa _,z=>z.elim
 |some _,aq,z=>z.elim
noncomputable def Np(H:Hp)(a C:ae)(p:Option Int):Prop:=∃o u,H a=aa (.frz o u)/\o.cls=.ref C/\D4 H p o.dict/\sX o
noncomputable def SH(H:Hp)(a:ae)(ks:List Tk):Prop:=∃xs,H a=aa (.dN a xs)/\ks=xs.map (·.1) /\ ∀x∈xs,TileAt H x.1 x.2
mutual
inductive Rep(K:aj)(M:ae->Prop)(H:Hp):V->Dv->Prop
 |non:Rep K M H .non .non
 |bl (b:Bool):Rep K M H (.bl b) (.bl b)
 |int (i:Int):Rep K M H (.int i) (.int i)
 |str (x:bi):Rep K M H (.str x) (.str x)
 |tup {a:ae} {xs:List V} {ds:List Dv}:H a=aa (.tup xs)->Reps K M H xs ds->Rep K M H (.ref a) (.tup ds)
 |lst {a:ae} {xs:List V} {ds:List Dv}:H a=aa (.lst xs) -> ¬M a->Reps K M H xs ds->Rep K M H (.ref a) (.lst ds)
 |dit {a:ae} {ep:Nat} {kvs:List (List cB×V)} {ds:List (List cB×Dv)}:H a=aa (.dT ep kvs) -> ¬M a->RepT K M H kvs ds->Rep K M H (.ref a) (.dit ds)
 |obj {a C dx:ae} {fs:List (bi×V)} {ds:List (bi×Dv)}:H a=aa (.ins C dx fs) -> ¬M a->RepF K M H fs ds->Rep K M H (.ref a) (.obj C ds)
 |scr {a:ae} {ns:List Int}:J5 K H a ns->Rep K M H (.ref a) (.scr ns)
 |exc {a C:ae} {p:Option Int}:Np H a C p->Rep K M H (.ref a) (.exc C p)
 |dns {a:ae} {ks:List Tk}:SH H a ks -> ¬M a->Rep K M H (.ref a) (.dns ks)
inductive Reps(K:aj)(M:ae->Prop)(H:Hp):List V->List Dv->Prop
 |nil:Reps K M H [] []
 |cons {x:V} {d:Dv} {xs:List V} {ds:List Dv}:Rep K M H x d->Reps K M H xs ds->Reps K M H (x::xs) (d::ds)
inductive RepT(K:aj)(M:ae->Prop)(H:Hp):List (List cB×V)->List (List cB×Dv)->Prop
 |nil:RepT K M H [] []
 |cons {k:List cB} {x:V} {d:Dv} {xs:List (List cB×V)} {ds:List (List cB×Dv)}:Rep K M H x d->RepT K M H xs ds->RepT K M H ((k,x)::xs) ((k,d)::ds)
inductive RepF(K:aj)(M:ae->Prop)(H:Hp):List (bi×V)->List (bi×Dv)->Prop
 |nil:RepF K M H [] []
 |cons {k:bi} {x:V} {d:Dv} {xs:List (bi×V)} {ds:List (bi×Dv)}:Rep K M H x d->RepF K M H xs ds->RepF K M H ((k,x)::xs) ((k,d)::ds)
end
structure Gen(K:aj)(M M':ae->Prop)(H H':Hp):Prop where
 l:∀a o,H a=aa o->EH (aa o) -> ¬M a->H' a=aa o /\ ¬M' a
 t:∀a xs,H a=aa (.tup xs)->H' a=aa (.tup xs)
 s:∀a ns,J5 K H a ns->J5 K H' a ns
 x:∀a o u,H a=aa (.frz o u)->H' a=aa (.frz o u)
variable {xs:List V}{ds:List Dv}{b:ae}{o:HO}{M':ae->Prop}{H'':Hp}
section
variable {M'':ae->Prop}
theorem Reps.ind{P:List V->List Dv->Prop}(h0:P [] [])(h1:∀(x:V) (d:Dv) (xs:List V) (ds:List Dv),Rep K M H x d->Reps K M H xs ds->P xs ds->P (x::xs) (d::ds))(r:Reps K M H xs ds):P xs ds:=
 Reps.rec (motive_1:=λ_ _ _=>True) (motive_2:=λxs ds _=>P xs ds) (motive_3:=λ_ _ _=>True) (motive_4:=λ_ _ _=>True) trivial (λ_=>trivial) (λ_=>trivial) (λ_=>trivial) (λ_ _ _=>trivial) (λ_ _ _ _=>trivial) (λ_ _ _ _=>trivial) (λ_ _ _ _=>trivial) (λ_=>trivial) (λ_=>trivial) (λ_ _=>trivial) h0 (λa r _ ih=>h1 _ _ _ _ a r ih) trivial (λ_ _ _ _=>trivial) trivial (λ_ _ _ _=>trivial) r
theorem RepT.ind{P:List (List cB×V)->List (List cB×Dv)->Prop}(h0:P [] [])(h1:∀(k:List cB) (x:V) (d:Dv) (xs:List (List cB×V)) (ds:List (List cB×Dv)),Rep K M H x d->RepT K M H xs ds->P xs ds->P ((k,x)::xs) ((k,d)::ds)){xs:List (List cB×V)}{ds:List (List cB×Dv)}(r:RepT K M H xs ds):P xs ds:=
 RepT.rec (motive_1:=λ_ _ _=>True) (motive_2:=λ_ _ _=>True) (motive_3:=λxs ds _=>P xs ds) (motive_4:=λ_ _ _=>True) trivial (λ_=>trivial) (λ_=>trivial) (λ_=>trivial) (λ_ _ _=>trivial) (λ_ _ _ _=>trivial) (λ_ _ _ _=>trivial) (λ_ _ _ _=>trivial) (λ_=>trivial) (λ_=>trivial) (λ_ _=>trivial) trivial (λ_ _ _ _=>trivial) h0 (λa r _ ih=>h1 _ _ _ _ _ a r ih) trivial (λ_ _ _ _=>trivial) r
theorem RepF.ind{P:List (bi×V)->List (bi×Dv)->Prop}(h0:P [] [])(h1:∀(k:bi) (x:V) (d:Dv) (xs:List (bi×V)) (ds:List (bi×Dv)),Rep K M H x d->RepF K M H xs ds->P xs ds->P ((k,x)::xs) ((k,d)::ds)){xs:List (bi×V)}{ds:List (bi×Dv)}(r:RepF K M H xs ds):P xs ds:=
 RepF.rec (motive_1:=λ_ _ _=>True) (motive_2:=λ_ _ _=>True) (motive_3:=λ_ _ _=>True) (motive_4:=λxs ds _=>P xs ds) trivial (λ_=>trivial) (λ_=>trivial) (λ_=>trivial) (λ_ _ _=>trivial) (λ_ _ _ _=>trivial) (λ_ _ _ _=>trivial) (λ_ _ _ _=>trivial) (λ_=>trivial) (λ_=>trivial) (λ_ _=>trivial) trivial (λ_ _ _ _=>trivial) trivial (λ_ _ _ _=>trivial) h0 (λa r _ ih=>h1 _ _ _ _ _ a r ih) r
theorem _root_.L2.TileAt.gen{k:Tk}(t:TileAt H k b)(ht:∀a xs,H a=aa (.tup xs)->H' a=aa (.tup xs)):TileAt H' k b:=let ⟨c,e1,e2⟩:=t;⟨c,ht _ _ e1,ht _ _ e2⟩
theorem Rep.gen(G:Gen K M M' H H'){x:V}{d:Dv}(r:Rep K M H x d):Rep K M' H' x d:=
 Rep.rec (motive_1:=λx d _=>Rep K M' H' x d) (motive_2:=λxs ds _=>Reps K M' H' xs ds) (motive_3:=λxs ds _=>RepT K M' H' xs ds) (motive_4:=λxs ds _=>RepF K M' H' xs ds)
  .non .bl .int .str (λh _ r=>.tup (G.t _ _ h) r) (λh m _ r=>.lst (G.l _ _ h trivial m).1 (G.l _ _ h trivial m).2 r) (λh m _ r=>.dit (G.l _ _ h trivial m).1 (G.l _ _ h trivial m).2 r) (λh m _ r=>.obj (G.l _ _ h trivial m).1 (G.l _ _ h trivial m).2 r) (λh=>.scr (G.s _ _ h)) (λzq4=>by obtain⟨o,u,h,z,y,m⟩:=zq4;exact .exc ⟨o,u,G.x _ _ _ h,z,y.gen G.x,m⟩) (λ⟨xs,h,e,t⟩ m=>.dns ⟨xs,(G.l _ _ h trivial m).1,e,λx hx=>(t x hx).gen G.t⟩ (G.l _ _ h trivial m).2) .nil (λ_ _ a r=>.cons a r) .nil (λ_ _ a r=>.cons a r) .nil (λ_ _ a r=>.cons a r) r
theorem Reps.gen(G:Gen K M M' H H'){xs:List V}{ds:List Dv}(r:Reps K M H xs ds):Reps K M' H' xs ds:=r.ind .nil λ_ _ _ _ a _ ih=>.cons (a.gen G) ih
theorem RepT.gen(G:Gen K M M' H H'){xs:List (List cB×V)}{ds:List (List cB×Dv)}(r:RepT K M H xs ds):RepT K M' H' xs ds:=r.ind .nil λ_ _ _ _ _ a _ ih=>.cons (a.gen G) ih
theorem RepF.gen(G:Gen K M M' H H'){xs:List (bi×V)}{ds:List (bi×Dv)}(r:RepF K M H xs ds):RepF K M' H' xs ds:=r.ind .nil λ_ _ _ _ _ a _ ih=>.cons (a.gen G) ih
theorem aQ.scr(S:aQ H H')(h:J5 K H a ns):J5 K H' a ns:=by
 rcases h with⟨o,h⟩ | h
 ·exact .inl ⟨o,S _ _ h⟩
 ·exact .inr h
theorem Gen.mono(S:aQ H H'):Gen K M M H H':=⟨λa o h _ m=>⟨S _ _ h,m⟩,λ_ _ h=>S _ _ h,λ_ _ h=>aQ.scr S h,λ_ _ _ h=>S _ _ h⟩
theorem Gen.weak(h:∀a,M' a->M a):Gen K M M' H H:=⟨λa o e _ m=>⟨e,λz=>m (h a z)⟩,λ_ _ h=>h,λ_ _ h=>h,λ_ _ _ h=>h⟩
theorem Gen.fresh{p:ae}(hp:H p=aq):Gen K M (λb=>M b \/ b=p) H H:=
 ⟨λa o e _ m=>⟨e,λz=>z.elim m λz=>by rw[z,hp] at e;cases e⟩,λ_ _ h=>h,λ_ _ h=>h,λ_ _ _ h=>h⟩
theorem Gen.trans(a:Gen K M M' H H')(b:Gen K M' M'' H' H''):Gen K M M'' H H'':=
 ⟨λc o e mu m=>b.l c o (a.l c o e mu m).1 mu (a.l c o e mu m).2,λc xs h=>b.t c xs (a.t c xs h),λc ns h=>b.s c ns (a.s c ns h),λc o u h=>b.x c o u (a.x c o u h)⟩
theorem p8{p:ae}{u:HO}(mu:EH (H p))(e:H a=aa u)(n:¬EH (aa u)):a≠p:=λz=>by
 subst z;rw[e] at mu;exact n mu
theorem Gen.write{p:ae}(hM:M p)(mu:EH (H p)):Gen K M M H (upd H p o):=by
 refine⟨λa u e _ m=>⟨?_,m⟩,λa xs h=>?_,λa ns h=>?_,λa o u h=>by rw[bC (p8 mu h λz=>z)];exact h⟩
 ·rw[bC λz=>m (by rw[z];exact hM)];exact e
 ·rw[bC (p8 mu h λz=>z)];exact h
 ·rcases h with⟨u,h⟩ | h
  ·exact .inl ⟨u,by rw[bC (p8 mu h λz=>z)];exact h⟩
  ·exact .inr h
end
theorem Rep.mono{x:V}{d:Dv}(S:aQ H H')(h:Rep K M H x d):Rep K M H' x d:=h.gen (.mono S)
theorem Rep.weak{x:V}{d:Dv}(w:∀a,M' a->M a)(h:Rep K M H x d):Rep K M' H x d:=h.gen (.weak w)
theorem Reps.mono{xs:List V}{ds:List Dv}(S:aQ H H')(h:Reps K M H xs ds):Reps K M H' xs ds:=h.gen (.mono S)
theorem Reps.weak{xs:List V}{ds:List Dv}(w:∀a,M' a->M a)(h:Reps K M H xs ds):Reps K M' H xs ds:=h.gen (.weak w)
theorem gB{d:Dv}(f:flatDs (d::ds)=ai):kQ d=ai/\flatDs ds=ai:=by
 have f':(kQ d&&flatDs ds)=ai:=f;rwa[dj] at f'
theorem Rep.flat{x:V}{d:Dv}(f:kQ d=ai)(r:Rep K M H x d):Rep K M' H x d:=
 Rep.rec (motive_1:=λx d _=>kQ d=ai->Rep K M' H x d) (motive_2:=λxs ds _=>flatDs ds=ai->Reps K M' H xs ds) (motive_3:=λ_ _ _=>True) (motive_4:=λ_ _ _=>True)
  (λ_=>.non) (λb _=>.bl b) (λi _=>.int i) (λx _=>.str x) (λh _ ih f=>.tup h (ih (by rw[kQ] at f;exact f))) (λ_ _ _ _ f=>by simp[kQ] at f) (λ_ _ _ _ f=>by simp[kQ] at f)
  (λ_ _ _ _ f=>by simp[kQ] at f) (λh _=>.scr h) (λh _=>.exc h) (λ_ _ f=>by simp[kQ] at f) (λ_=>.nil) (λ_ _ a r f=>.cons (a (gB f).1) (r (gB f).2)) trivial (λ_ _ _ _=>trivial) trivial (λ_ _ _ _=>trivial) r f
theorem Reps.flat{xs:List V}{ds:List Dv}(f:flatDs ds=ai)(r:Reps K M H xs ds):Reps K M' H xs ds:=
 r.ind (P:=λxs ds=>flatDs ds=ai->Reps K M' H xs ds) (λ_=>.nil) (λ_ _ _ _ a _ ih f=>.cons (a.flat (gB f).1) (ih (gB f).2)) f
theorem RepF.flat{xs:List (bi×V)}{ds:List (bi×Dv)}(f:flatDs (ds.map (·.2))=ai)(r:RepF K M H xs ds):RepF K M' H xs ds:=
 r.ind (P:=λxs ds=>flatDs (ds.map (·.2))=ai->RepF K M' H xs ds) (λ_=>.nil) (λ_ _ _ _ _ a _ ih f=>.cons (a.flat (gB f).1) (ih (gB f).2)) f
theorem RepT.flat{xs:List (List cB×V)}{ds:List (List cB×Dv)}(f:flatDs (ds.map (·.2))=ai)(r:RepT K M H xs ds):RepT K M' H xs ds:=
 r.ind (P:=λxs ds=>flatDs (ds.map (·.2))=ai->RepT K M' H xs ds) (λ_=>.nil) (λ_ _ _ _ _ a _ ih f=>.cons (a.flat (gB f).1) (ih (gB f).2)) f
theorem Reps.length{xs:List V}{ds:List Dv}(r:Reps K M H xs ds):xs.length=ds.length:=r.ind (P:=λxs ds=>xs.length=ds.length) rfl λ_ _ _ _ _ _ ih=>congrArg (· + 1) ih
theorem Reps.append{ys:List V}{es:List Dv}(r:Reps K M H xs ds)(s:Reps K M H ys es):Reps K M H (xs++ys) (ds++es):=r.ind (P:=λxs ds=>Reps K M H (xs++ys) (ds++es)) s λ_ _ _ _ a _ ih=>.cons a ih
theorem Reps.get{d:Dv}(r:Reps K M H xs ds)(e:ds[i]?=aa d):∃x,xs[i]?=aa x/\Rep K M H x d:=
 r.ind (P:=λxs ds=>∀i,ds[i]?=aa d -> ∃x,xs[i]?=aa x/\Rep K M H x d) (λi e=>by rw[List.getElem?_nil] at e;cases e) (λx y xs ys a _ ih i e=>by
  cases i with
  |zero=>rw[qd] at e;cases e;exact⟨x,rfl,a⟩
  |succ i=>exact ih i e) i e
theorem Reps.take{xs:List V}{ds:List Dv}(n:Nat)(r:Reps K M H xs ds):Reps K M H (xs.take n) (ds.take n):=
 r.ind (P:=λxs ds=>∀n,Reps K M H (xs.take n) (ds.take n)) (λn=>by cases n<;>exact .nil) (λ_ _ _ _ a r ih n=>by cases n with
  |zero=>exact .nil
  |succ n=>exact .cons a (ih n)) n
theorem Reps.drop{xs:List V}{ds:List Dv}(n:Nat)(r:Reps K M H xs ds):Reps K M H (xs.drop n) (ds.drop n):=
 r.ind (P:=λxs ds=>∀n,Reps K M H (xs.drop n) (ds.drop n)) (λn=>by cases n<;>exact .nil) (λ_ _ _ _ a r ih n=>by cases n with
  |zero=>exact .cons a r
  |succ n=>exact ih n) n
theorem Reps.reverse{xs:List V}{ds:List Dv}(r:Reps K M H xs ds):Reps K M H xs.reverse ds.reverse:=
 r.ind (P:=λxs ds=>Reps K M H xs.reverse ds.reverse) .nil λ_ _ _ _ a _ ih=>by
  rw[wj,wj];exact ih.append (.cons a .nil)
theorem Reps.repl{xs:List V}{ds:List Dv}(h:Reps K M H xs ds):∀n:Nat,Reps K M H (ao n xs).flatten (ao n ds).flatten
 |0=>.nil
 |n+1=>by
  rw[jv,jv,qm,qm];exact h.append (Reps.repl h n)
theorem Reps.ints:∀ns:List Int,Reps K M H (ns.map V.int) (ns.map Dv.int)
 | []=>.nil
 |n::r=>.cons (.int n) (Reps.ints r)
noncomputable def dQ(K:aj)(M:ae->Prop)(H:Hp)(a:ae):Dv->Prop
 | .lst ds=>∃xs,H a=aa (.lst xs)/\Reps K M H xs ds
 | .dit ds=>∃ep kvs,H a=aa (.dT ep kvs)/\RepT K M H kvs ds
 | .obj C ds=>∃dx fs,H a=aa (.ins C dx fs)/\RepF K M H fs ds
 | .dns ks=>SH H a ks
 |_=>False
noncomputable def GS:Dv->Bool
 | .lst ds=>flatDs ds
 | .dit ds=>flatDs (ds.map (·.2))
 | .obj _ ds=>flatDs (ds.map (·.2))
 | .dns _=>ai
 |_=>ak
theorem dQ.gen{d:Dv}(G:Gen K M M' H H')(ha:∀o,H a=aa o->H' a=aa o)(h:dQ K M H a d):dQ K M' H' a d:=by
 cases d with
 |lst ds=>obtain⟨xs,e,r⟩:=h;exact⟨xs,ha _ e,r.gen G⟩
 |dit ds=>obtain⟨ep,xs,e,r⟩:=h;exact⟨ep,xs,ha _ e,r.gen G⟩
 |obj C ds=>obtain⟨dx,fs,e,r⟩:=h;exact⟨dx,fs,ha _ e,r.gen G⟩
 |dns ks=>obtain⟨xs,e,k,t⟩:=h;exact⟨xs,ha _ e,k,λx hx=>(t x hx).gen G.t⟩
 |_=>exact h.elim
theorem dQ.mono{d:Dv}(S:aQ H H')(h:dQ K M H a d):dQ K M H' a d:=h.gen (.mono S) λo e=>S _ _ e
theorem dQ.weak{d:Dv}(w:∀a,M' a->M a)(h:dQ K M H a d):dQ K M' H a d:=h.gen (.weak w) λ_ e=>e
theorem dQ.flat{d:Dv}(f:GS d=ai)(h:dQ K M H a d):dQ K M' H a d:=by
 cases d with
 |lst ds=>obtain⟨xs,e,r⟩:=h;exact⟨xs,e,r.flat f⟩
 |dit ds=>obtain⟨ep,xs,e,r⟩:=h;exact⟨ep,xs,e,r.flat f⟩
 |obj C ds=>obtain⟨dx,fs,e,r⟩:=h;exact⟨dx,fs,e,r.flat f⟩
 |dns ks=>exact h
 |_=>exact h.elim
theorem dQ.mut{d:Dv}(h:dQ K M H a d):∃o,H a=aa o/\EH (aa o):=by
 cases d with
 |lst ds=>obtain⟨xs,e,r⟩:=h;exact⟨_,e,trivial⟩
 |dit ds=>obtain⟨ep,xs,e,r⟩:=h;exact⟨_,e,trivial⟩
 |obj C ds=>obtain⟨dx,fs,e,r⟩:=h;exact⟨_,e,trivial⟩
 |dns ks=>obtain⟨xs,e,_⟩:=h;exact⟨_,e,trivial⟩
 |_=>exact h.elim
theorem dQ.rep{d:Dv}(h:dQ K M H a d)(m:¬M a):Rep K M H (.ref a) d:=by
 cases d with
 |lst ds=>obtain⟨xs,e,r⟩:=h;exact .lst e m r
 |dit ds=>obtain⟨ep,xs,e,r⟩:=h;exact .dit e m r
 |obj C ds=>obtain⟨dx,fs,e,r⟩:=h;exact .obj e m r
 |dns ks=>exact .dns h m
 |_=>exact h.elim
inductive Sl where
 |un
 |v (d:Dv)
 |own (a:ae) (d:Dv)
noncomputable def MM(F:ae->Prop)(ρ:List Sl):ae->Prop:=λa=>F a \/ ∃d,Sl.own a d∈ρ
noncomputable def vV(K:aj)(M:ae->Prop)(H:Hp)(o:Option (Option V)):Sl->Prop
 | .un=>True
 | .v d=>∃x,o=aa (aa x)/\Rep K M H x d
 | .own a d=>o=aa (aa (.ref a))/\dQ K M H a d
noncomputable abbrev N9:Bool:=ak
noncomputable def LR(K:aj)(P:ae)(q:bi):Prop:=N9=ai /\ ∃(C f:ae) (o:ac) (od:Option ae) (fd:ir) (sl:Array (Option ac)) (c:ae) (oc:ac) (odc:Option ae) (vs:Array ac) (slc:Array (Option ac)),
 W.nsIn K gg "Sides" = aa (aa (.ref C))/\lj K (.ref C) "last" = aa (aa (.ref f))/\K.lookup f=aa ⟨o,od,.func fd,sl⟩/\fd.code=.ref c/\K.lookup c=aa ⟨oc,odc,.fields vs,slc⟩/\vs[11]?=aa (.ref P) /\
 q = "Sides.last" ++ ".<locals>." ++ "<lambda>"
noncomputable def sN(K:aj)(H:Hp):Prop:=∀P q,LR K P q->H P=aa (.lam q)
structure OldF(K:aj)(F:ae->Prop)(HZ:Hp):Prop where
 f:∀a,F a->HZ a≠aq
 t:sN K HZ
theorem sN.mono(t:sN K H)(S:aQ H H'):sN K H':=λP q z=>S _ _ (t P q z)
structure Fr(K:aj)(HZ:Hp)(F:ae->Prop)(σ:St)(H:Hp)(ρ:List Sl):Prop where
 len:σ.length=ρ.length
 sl:∀(i:Nat) (s:Sl),ρ[i]?=aa s->vV K (MM F ρ) H σ[i]? s
 nd:∀(i j:Nat) (a:ae) (d d':Dv),ρ[i]?=aa (.own a d)->ρ[j]?=aa (.own a d')->i=j
 new:∀(a:ae) (d:Dv),Sl.own a d∈ρ->HZ a=aq
 same:aQ HZ H
 old:OldF K F HZ
variable {HZ:Hp}{σ:St}{ρ:List Sl}
theorem vV.mono{o:Option (Option V)}{s:Sl}(S:aQ H H')(h:vV K M H o s):vV K M H' o s:=by
 cases s with
 |un=>trivial
 |v d=>obtain⟨x,e,r⟩:=h;exact⟨x,e,r.mono S⟩
 |own a d=>exact⟨h.1,h.2.mono S⟩
theorem vV.weak{o:Option (Option V)}{s:Sl}(w:∀a,M' a->M a)(h:vV K M H o s):vV K M' H o s:=by
 cases s with
 |un=>trivial
 |v d=>obtain⟨x,e,r⟩:=h;exact⟨x,e,r.weak w⟩
 |own a d=>exact⟨h.1,h.2.weak w⟩
theorem Fr.tab(fr:Fr K HZ F σ H ρ):sN K H:=fr.old.t.mono fr.same
theorem Fr.mono(fr:Fr K HZ F σ H ρ)(S:aQ H H'):Fr K HZ F σ H' ρ:=⟨fr.len,λi s e=>(fr.sl i s e).mono S,fr.nd,fr.new,fr.same.trans S,fr.old⟩
theorem Fr.at_own(fr:Fr K HZ F σ H ρ){d:Dv}(h:Sl.own a d∈ρ):∃i:Nat,ρ[i]?=aa (.own a d)/\σ[i]?=aa (aa (.ref a))/\dQ K (MM F ρ) H a d:=by
 obtain⟨i,e⟩:=ls.mp h;have:=fr.sl i _ e;exact⟨i,e,this.1,this.2⟩
theorem Fr.dom(fr:Fr K HZ F σ H ρ)(m:MM F ρ a):H a≠aq:=by
 rcases m with m | ⟨d,m⟩
 ·intro e;exact fr.old.f a m (fr.same.free e)
 ·obtain⟨_,_,_,o⟩:=fr.at_own m;obtain⟨u,e,_⟩:=o.mut;rw[e];simp
theorem Fr.fresh(fr:Fr K HZ F σ H ρ)(e:H a=aq):¬MM F ρ a:=λm=>fr.dom m e
inductive R where
 |v (d:Dv)
 |ow (a:ae) (d:Dv)
 |nw (d:Dv)
noncomputable def R.d:R->Dv
 | .v d=>d
 | .ow _ d=>d
 | .nw d=>d
noncomputable def R.free:R->Bool
 | .ow _ _=>ak
 |_=>ai
noncomputable def zJ(ρ:List Sl):ae->Dv->Prop:=λa d=>Sl.own a d∈ρ
noncomputable def BF:ae->Dv->Prop:=λ_ _=>False
noncomputable def dU(K:aj)(M:ae->Prop)(O:ae->Dv->Prop)(H:Hp)(x:V)(r:R)(H':Hp):Prop:=match r with
 | .v d=>Rep K M H' x d
 | .ow a d=>x=.ref a/\O a d/\dQ K M H' a d
 | .nw d=>∃a,x=.ref a/\H a=aq/\dQ K (λb=>M b \/ b=a) H' a d
noncomputable def eB(K:aj)(M:ae->Prop)(H:Hp)(x:V)(d:Dv):Prop:=Rep K M H x d \/ ∃a,x=.ref a/\dQ K M H a d
section
variable {K:aj}{M M':ae->Prop}{O:ae->Dv->Prop}{H H' H'':Hp}{x:V}{r:R}
theorem dU.mono(h:dU K M O H x r H')(S:aQ H' H''):dU K M O H x r H'':=by
 cases r with
 |v d=>exact Rep.mono S h
 |ow a d=>exact⟨h.1,h.2.1,h.2.2.mono S⟩
 |nw d=>obtain⟨a,e,n,o⟩:=h;exact⟨a,e,n,o.mono S⟩
theorem dU.ahead(h:dU K M O H1 x r H')(S:aQ H H1):dU K M O H x r H':=by
 cases r with
 |v d=>exact h
 |ow a d=>exact h
 |nw d=>obtain⟨a,e,n,o⟩:=h;exact⟨a,e,S.free n,o⟩
theorem dU.c(h:dU K M O H x r H'):eB K M H' x r.d:=by
 cases r with
 |v d=>exact .inl h
 |ow a d=>exact .inr ⟨a,h.1,h.2.2⟩
 |nw d=>obtain⟨a,e,n,o⟩:=h;exact .inr ⟨a,e,o.weak λb z=>.inl z⟩
theorem dU.rep(h:dU K M O H x r H')(hM:∀a,M a->H a≠aq)(f:r.free=ai):Rep K M H' x r.d:=by
 cases r with
 |v d=>exact h
 |ow a d=>simp[R.free] at f
 |nw d=>
  obtain⟨a,e,n,o⟩:=h;subst e;exact(o.weak λb z=>.inl z).rep λz=>hM a z n
theorem eB.lst{ds:List Dv}(h:eB K M H x (.lst ds)):∃a xs,x=.ref a/\H a=aa (.lst xs)/\Reps K M H xs ds:=by
 rcases h with h | ⟨a,e,xs,h1,h2⟩
 ·cases h with
  |lst h1 _ h2=>exact⟨_,_,rfl,h1,h2⟩
 ·exact⟨a,xs,e,h1,h2⟩
theorem eB.tup{ds:List Dv}(h:eB K M H x (.tup ds)):∃a xs,x=.ref a/\H a=aa (.tup xs)/\Reps K M H xs ds:=by
 rcases h with h | ⟨a,e,o⟩
 ·cases h with
  |tup h1 h2=>exact⟨_,_,rfl,h1,h2⟩
 ·exact o.elim
theorem eB.int{i:Int}(h:eB K M H x (.int i)):x=.int i:=by
 rcases h with h | ⟨a,e,o⟩
 ·cases h;rfl
 ·exact o.elim
theorem eB.bl{b:Bool}(h:eB K M H x (.bl b)):x=.bl b:=by
 rcases h with h | ⟨a,e,o⟩
 ·cases h;rfl
 ·exact o.elim
theorem eB.non(h:eB K M H x .non):x=.non:=by
 rcases h with h | ⟨a,e,o⟩
 ·cases h;rfl
 ·exact o.elim
theorem eB.str{s:bi}(h:eB K M H x (.str s)):x=.str s:=by
 rcases h with h | ⟨a,e,o⟩
 ·cases h;rfl
 ·exact o.elim
theorem eB.scr{ns:List Int}(h:eB K M H x (.scr ns)):∃a,x=.ref a/\J5 K H a ns:=by
 rcases h with h | ⟨a,e,o⟩
 ·cases h with
  |scr h=>exact⟨_,rfl,h⟩
 ·exact o.elim
theorem eB.dit{ds:List (List cB×Dv)}(h:eB K M H x (.dit ds)):∃a ep kvs,x=.ref a/\H a=aa (.dT ep kvs)/\RepT K M H kvs ds:=by
 rcases h with h | ⟨a,e,ep0,xs,h1,h2⟩
 ·cases h with
  |dit h1 _ h2=>exact⟨_,_,_,rfl,h1,h2⟩
 ·exact⟨a,ep0,xs,e,h1,h2⟩
theorem eB.obj{C:ae}{ds:List (bi×Dv)}(h:eB K M H x (.obj C ds)):∃a dx fs,x=.ref a/\H a=aa (.ins C dx fs)/\RepF K M H fs ds:=by
 rcases h with h | ⟨a,e,dx,fs,h1,h2⟩
 ·cases h with
  |obj h1 _ h2=>exact⟨_,_,_,rfl,h1,h2⟩
 ·exact⟨a,dx,fs,e,h1,h2⟩
end
noncomputable abbrev dP:=List Sl->(R->Prop)->Prop
noncomputable abbrev mD:=List Sl->(List R->Prop)->Prop
noncomputable abbrev kZ:=List Sl->(Bool->Prop)->Prop
noncomputable def kY(K:aj)(M:ae->Prop)(O:ae->Dv->Prop)(H:Hp)(xs:List V)(rs:List R)(H':Hp):Prop:=Paired (λx r=>dU K M O H x r H') xs rs
noncomputable def BH(K:aj)(M:ae->Prop)(H:Hp):List V->List Dv->Prop:=Paired (eB K M H)
variable {O:ae->Dv->Prop}
theorem kY.ahead{xs:List V}{rs:List R}(h:kY K M O H1 xs rs H')(S:aQ H H1):kY K M O H xs rs H':=Paired.mapP h λ_ _ q=>q.ahead S
theorem kY.c:∀{xs:List V} {rs:List R},kY K M O H xs rs H'->BH K M H' xs (rs.map R.d)
 |_,_,.nil=>.nil
 |_,_,.cons a t=>.cons a.c (kY.c t)
theorem kY.reps(hM:∀a,M a->H a≠aq):∀{xs:List V} {rs:List R},kY K M O H xs rs H'->rs.all R.free=ai->Reps K M H' xs (rs.map R.d)
 |_,_,.nil,_=>.nil
 |_,_,.cons a t,f=>by
  rw[Vq,dj] at f;exact .cons (a.rep hM f.1) (kY.reps hM t f.2)
inductive lift(K:aj)(HZ:Hp)(F:ae->Prop)(t:dP)(σ:St)(H:Hp)(Q:VK):Prop
 |mk (ρ:List Sl) (fr:Fr K HZ F σ H ρ) (h:t ρ λr=>∀x H',aQ H H'->dU K (MM F ρ) (zJ ρ) H x r H'->Q x H')
inductive liftA(K:aj)(HZ:Hp)(F:ae->Prop)(t:mD)(σ:St)(H:Hp)(Q:List V->Hp->Prop):Prop
 |mk (ρ:List Sl) (fr:Fr K HZ F σ H ρ) (h:t ρ λrs=>∀xs H',aQ H H'->kY K (MM F ρ) (zJ ρ) H xs rs H'->Q xs H')
inductive liftT(K:aj)(HZ:Hp)(F:ae->Prop)(t:kZ)(σ:St)(H:Hp)(Q:Bool->Hp->Prop):Prop
 |mk (ρ:List Sl) (fr:Fr K HZ F σ H ρ) (h:t ρ λb=>∀H',aQ H H'->Q b H')
structure QE(X:Cx)(e:Expr)(t:dP):Prop where
 mono:∀(ρ:List Sl) (Q Q':R->Prop),(∀r,Q r->Q' r)->t ρ Q->t ρ Q'
 run:∀(HZ:Hp) (F:ae->Prop),PE X e (lift X.K HZ F t)
structure QA(X:Cx)(es:List Expr)(t:mD):Prop where
 mono:∀(ρ:List Sl) (Q Q':List R->Prop),(∀r,Q r->Q' r)->t ρ Q->t ρ Q'
 run:∀(HZ:Hp) (F:ae->Prop),PA X es (liftA X.K HZ F t)
structure QT(X:Cx)(e:Expr)(t:kZ):Prop where
 mono:∀(ρ:List Sl) (Q Q':Bool->Prop),(∀r,Q r->Q' r)->t ρ Q->t ρ Q'
 run:∀(HZ:Hp) (F:ae->Prop),PT X e (liftT X.K HZ F t)
structure QW(X:Cx)(e:Expr)(t:kZ):Prop where
 mono:∀(ρ:List Sl) (Q Q':Bool->Prop),(∀r,Q r->Q' r)->t ρ Q->t ρ Q'
 run:∀(HZ:Hp) (F:ae->Prop),PW X e (liftT X.K HZ F t)
variable {t':TT}{op:TV}{VL:List Expr}{ta te:dP}{ts:mD}
section
variable {a b c:Expr}{tb tc:dP}{pos:jr}
theorem cT{t t':TE}(h:PE X e t)(w:∀σ H Q,t' σ H Q->t σ H Q):PE X e t':=λpj s σ H Q I q=>h pj s σ H Q I (w σ H Q q)
theorem Gy{t t':TA}(h:PA X es t)(w:∀σ H Q,t' σ H Q->t σ H Q):PA X es t':=λpos pj s σ H Q I q=>h pos pj s σ H Q I (w σ H Q q)
theorem zE{t:TT}(h:PT X e t)(w:∀σ H Q,t' σ H Q->t σ H Q):PT X e t':=λpj s σ H Q I q=>h pj s σ H Q I (w σ H Q q)
theorem Gw{t:TT}(h:PW X e t)(w:∀σ H Q,t' σ H Q->t σ H Q):PW X e t':=λwh pj s σ H Q I q=>h wh pj s σ H Q I (w σ H Q q)
theorem QW.qt{t:kZ}(h:QW X e t):QT X e t:=⟨h.mono,λHZ F=>(h.run HZ F).pt⟩
theorem QE.step{Q:R->Prop}{Q':VK}(h:QE X e te)(fr:Fr X.K HZ F σ H ρ)(q:te ρ Q)
  (k:∀r x H',Q r->aQ H H'->dU X.K (MM F ρ) (zJ ρ) H x r H'->Q' x H'):lift X.K HZ F te σ H Q':=⟨ρ,fr,h.mono _ _ _ (λr qr x H' S rx=>k r x H' qr S rx) q⟩
theorem QA.step{Q:List R->Prop}{Q':List V->Hp->Prop}(h:QA X es ts)(fr:Fr X.K HZ F σ H ρ)(q:ts ρ Q)
  (k:∀rs xs H',Q rs->aQ H H'->kY X.K (MM F ρ) (zJ ρ) H xs rs H'->Q' xs H'):liftA X.K HZ F ts σ H Q':=⟨ρ,fr,h.mono _ _ _ (λr qr x H' S rx=>k r x H' qr S rx) q⟩
theorem QT.step{t:kZ}{Q:Bool->Prop}{Q':Bool->Hp->Prop}(h:QT X e t)(fr:Fr X.K HZ F σ H ρ)(q:t ρ Q)
  (k:∀b H',Q b->aQ H H'->Q' b H'):liftT X.K HZ F t σ H Q':=⟨ρ,fr,h.mono _ _ _ (λr qr H' S=>k r H' qr S) q⟩
noncomputable def a8(i:Nat):dP:=λρ Q=>match ρ[i]? with
 |some (.v d)=>Q (.v d)
 |some (.own a d)=>Q (.ow a d)
 |_=>False
theorem a9(i:Nat)(h:PE X (.Name x pos) (zV i)):QE X (.Name x pos) (a8 i):=by
 refine⟨λρ Q Q' w h=>?_,λHZ F=>cT h λσ H Q ⟨ρ,fr,q⟩=>?_⟩
 ·unfold a8 at *;split at h
  ·exact w _ h
  ·exact w _ h
  ·exact h
 ·unfold a8 at q;split at q
  ·rename_i d e;obtain⟨x,hx,r⟩:=fr.sl i _ e;exact⟨x,hx,q x H (aQ.refl _) r⟩
  ·rename_i a d e;obtain⟨hx,r⟩:=fr.sl i _ e;exact⟨.ref a,hx,q _ H (aQ.refl _) ⟨rfl,bw e,r⟩⟩
  ·exact q.elim
noncomputable def eC(d:Dv):dP:=λ_ Q=>Q (.v d)
theorem O4{v:V}{d:Dv}(h:PE X e (tC v))(r:∀M H,Rep X.K M H v d):QE X e (eC d):=
 ⟨λ_ _ _ w q=>w _ q,λHZ F=>cT h λσ H Q zq5=>by obtain⟨ρ,fr,q⟩:=zq5;exact q v H (aQ.refl _) (r _ _)⟩
theorem aR{i j pos}:QE X (.Constant (.int i) j pos) (eC (.int i)):=O4 KH λ_ _=>.int i
theorem oB{b j pos}:QE X (.Constant (.bool b) j pos) (eC (.bl b)):=O4 Mb λ_ _=>.bl b
theorem wH{j pos}:QE X (.Constant .none j pos) (eC .non):=O4 KF λ_ _=>.non
theorem qL{n:Int}(hm:∃t,X.mg x=aa (.int n t))(hg:autoParam (Gl X x) cF._auto_1)(hd:autoParam ((x==("__debug__" : bi))=ak) oQ._auto_1):QE X (.Name x pos) (eC (.int n)):=O4 (FK hm hg hd) λ_ _=>.int n
noncomputable def aG:mD:=λ_ Q=>Q []
noncomputable def a7(te:dP)(ts:mD):mD:=λρ Q=>te ρ λr=>ts ρ λrs=>Q (r::rs)
theorem aF:QA X [] aG:=⟨λ_ _ _ w q=>w _ q,λHZ F=>Gy u0 λσ H Q zq6=>by obtain⟨ρ,fr,q⟩:=zq6;exact q [] H (aQ.refl _) .nil⟩
theorem aD(ha:QE X e te)(hr:QA X es ts)(hs:autoParam (bb (e::es) X.env=(ak,fe e X.env)::bb es X.env) cF._auto_1):QA X (e::es) (a7 te ts):=by
 refine⟨λρ Q Q' w h=>ha.mono _ _ _ (λr q=>hr.mono _ _ _ (λrs q=>w _ q) q) h,λHZ F=>Gy (nS (ha.run HZ F) (hr.run HZ F) hs) λσ H Q zz=>?_⟩;obtain⟨ρ,fr,q⟩:=zz;refine ha.step fr q λr x H1 q1 S1 r1=>?_;refine hr.step (fr.mono S1) q1 λrs xs H2 q2 S2 r2=>?_;exact q2 _ H2 (S1.trans S2) (.cons (r1.mono S2) (r2.ahead S1))
noncomputable def xD(X:Cx)(f:ac->ac->UN ac)(p:Dv->Dv->(R->Prop)->Prop):Prop:=
 (∀dx dy (Q Q':R->Prop),(∀r,Q r->Q' r)->p dx dy Q->p dx dy Q') /\ ∃r:R2,l6 X f r /\ ∀(M:ae->Prop) (O:ae->Dv->Prop) (H:Hp) (x y:V) (dx dy:Dv) (Q:VK),eB X.K M H x dx->eB X.K M H y dy ->
  p dx dy (λrr=>∀z H',aQ H H'->dU X.K M O H z rr H'->Q z H')->r x y H Q
noncomputable def aP(p:Dv->Dv->(R->Prop)->Prop)(ta tb:dP):dP:=λρ Q=>ta ρ λx=>tb ρ λy=>p x.d y.d Q
theorem tG{p:Dv->Dv->(R->Prop)->Prop}{r:R2}(ha:QE X a ta)(hb:QE X b tb) (hr:∀(M:ae->Prop) (O:ae->Dv->Prop) (H:Hp) (x y:V) (dx dy:Dv) (Q:VK),eB X.K M H x dx->eB X.K M H y dy ->
  p dx dy (λrr=>∀z H',aQ H H'->dU X.K M O H z rr H'->Q z H')->r x y H Q) (mo:∀dx dy (Q Q':R->Prop),(∀r,Q r->Q' r)->p dx dy Q->p dx dy Q') (HZ:Hp) (F:ae->Prop) (σ:St) (H:Hp) (Q:VK)
  (h:lift X.K HZ F (aP p ta tb) σ H Q):Lm r (lift X.K HZ F ta) (lift X.K HZ F tb) σ H Q:=by
 obtain⟨ρ,fr,q⟩:=h;refine ha.step fr q λrx x H1 q1 S1 r1=>?_;refine hb.step (fr.mono S1) q1 λry y H2 q2 S2 r2=>?_;refine hr (MM F ρ) (zJ ρ) H2 x y _ _ Q (r1.mono S2).c r2.c (mo _ _ _ _ (λrr k z H' S rz=>?_) q2);exact k z H' ((S1.trans S2).trans S) (rz.ahead (S1.trans S2))
theorem qV{p:Dv->Dv->(R->Prop)->Prop}(ha:QE X a ta)(hb:QE X b tb)(mo:∀dx dy (Q Q':R->Prop),(∀r,Q r->Q' r)->p dx dy Q->p dx dy Q')(ρ:List Sl)(Q Q':R->Prop)(w:∀r,Q r->Q' r)(h:aP p ta tb ρ Q):aP p ta tb ρ Q':=
 ha.mono _ _ _ (λrx h=>hb.mono _ _ _ (λry h=>mo _ _ _ _ w h) h) h
theorem bM{op:Operator}{p:Dv->Dv->(R->Prop)->Prop}(ho:xD X (gw op) p)(ha:QE X a ta)(hb:QE X b tb):QE X (.BinOp a op b pos) (aP p ta tb):=by
 obtain⟨mo,r,hR,hr⟩:=ho;exact⟨qV ha hb mo,λHZ F=>cT (MZ hR (ha.run HZ F) (hb.run HZ F)) (tG ha hb hr mo HZ F)⟩
theorem tX{p:Dv->Dv->(R->Prop)->Prop}(ho:xD X (df op) p)(ha:QE X a ta)(hb:QE X b tb)(hm:autoParam (oq op b=ak) Rb._auto_1):QE X (.Compare a [op] [b] pos) (aP p ta tb):=by
 obtain⟨mo,r,hR,hr⟩:=ho;exact⟨qV ha hb mo,λHZ F=>cT (Hu hR (ha.run HZ F) (hb.run HZ F) hm) (tG ha hb hr mo HZ F)⟩
noncomputable def aU(te:dP):kZ:=λρ Q=>te ρ λr=>match r.d with
 | .bl c=>Q c
 |_=>False
theorem uR(mo:∀(ρ:List Sl) (Q Q':R->Prop),(∀r,Q r->Q' r)->te ρ Q->te ρ Q')(ρ:List Sl)(Q Q':Bool->Prop)(w:∀r,Q r->Q' r)(h:aU te ρ Q):aU te ρ Q':=by
 refine mo _ _ _ (λr q=>?_) h;split at q
 ·exact w _ q
 ·exact q.elim
theorem GY{Q:Bool->Hp->Prop}(mo:∀(ρ:List Sl) (Q Q':R->Prop),(∀r,Q r->Q' r)->te ρ Q->te ρ Q')(h:liftT X.K HZ F (aU te) σ H Q):lift X.K HZ F te σ H λx H'=>∃k,x=.bl k/\Q k H':=by
 obtain⟨ρ,fr,q⟩:=h;refine⟨ρ,fr,mo _ _ _ (λr q x H' S rx=>?_) q⟩;split at q
 ·rename_i c e;have:=rx.c;rw[e] at this;exact⟨c,this.bl,q H' S⟩
 ·exact q.elim
theorem b9{p:Dv->Dv->(R->Prop)->Prop}(ho:xD X (df op) p)(ha:QE X a ta)(hb:QE X b tb)(hm:autoParam (oq op b=ak) Rb._auto_1):QT X (.Compare a [op] [b] pos) (aU (aP p ta tb)):=by
 obtain⟨mo,r,hR,hr⟩:=ho;have m1:=qV ha hb mo;exact⟨uR m1,λHZ F=>zE (Hh hR (ha.run HZ F) (hb.run HZ F) hm) λσ H Q h=>tG ha hb hr mo HZ F σ H _ (GY m1 h)⟩
noncomputable def qW(t u:kZ):kZ:=λρ Q=>t ρ λc=>if c=ai then u ρ Q else Q ak
noncomputable def HD(t u:kZ):kZ:=λρ Q=>t ρ λc=>if c=ai then Q ai else u ρ Q
noncomputable def n5(t:kZ):kZ:=λρ Q=>t ρ λc=>Q (!c)
theorem qJ{t:kZ}(h:QT X a t):QW X (.BoolOp .And [a] pos) t:=⟨h.mono,λHZ F=>Hc (h.run HZ F)⟩
theorem xO{t:kZ}(h:QT X a t):QW X (.BoolOp .Or [a] pos) t:=⟨h.mono,λHZ F=>F3 (h.run HZ F)⟩
theorem rK{t u:kZ}(h:QT X a t)(k:QW X (.BoolOp .And (b::VL) pos) u):QW X (.BoolOp .And (a::b::VL) pos) (qW t u):=by
 refine⟨λρ Q Q' w q=>h.mono _ _ _ (λc q=>?_) q,λHZ F=>Gw (Jw (h.run HZ F) (k.run HZ F)) λσ H Q ⟨ρ,fr,q⟩=>?_⟩
 ·split at q
  ·rw[VH ‹_›];exact k.mono _ _ _ w q
  ·rw[Vn ‹_›];exact w _ q
 ·refine h.step fr q λc H1 q1 S1=>?_;cases c with
  |true=>
   simp only[if_true] at q1;exact lZ ⟨ρ,fr.mono S1,k.mono _ _ _ (λb q H' S=>q H' (S1.trans S)) q1⟩
  |false=>
   simp only[dk,if_false] at q1;exact oF (q1 H1 S1)
theorem A8{t u:kZ}(h:QT X a t)(k:QW X (.BoolOp .Or (b::VL) pos) u):QW X (.BoolOp .Or (a::b::VL) pos) (HD t u):=by
 refine⟨λρ Q Q' w q=>h.mono _ _ _ (λc q=>?_) q,λHZ F=>Gw (JK (h.run HZ F) (k.run HZ F)) λσ H Q ⟨ρ,fr,q⟩=>?_⟩
 ·split at q
  ·rw[VH ‹_›];exact w _ q
  ·rw[Vn ‹_›];exact k.mono _ _ _ w q
 ·refine h.step fr q λc H1 q1 S1=>?_;cases c with
  |true=>
   simp only[if_true] at q1;exact lZ (q1 H1 S1)
  |false=>
   simp only[dk,if_false] at q1;exact oF ⟨ρ,fr.mono S1,k.mono _ _ _ (λb q H' S=>q H' (S1.trans S)) q1⟩
theorem gK{t:kZ}(h:QT X a t):QT X (.UnaryOp .Not a pos) (n5 t):=
 ⟨λρ Q Q' w q=>h.mono _ _ _ (λc q=>w _ q) q,λHZ F=>zE (F7 (h.run HZ F)) λσ H Q zq0=>by obtain⟨ρ,fr,q⟩:=zq0;exact h.step fr q λc H1 q1 S1=>q1 H1 S1⟩
noncomputable def uT(ta tb:dP):dP:=λρ Q=>ta ρ λr=>match r.d with
 | .bl c=>if c=ai then tb ρ Q else Q (.v (.bl ak))
 |_=>False
noncomputable def Iu(ta tb:dP):dP:=λρ Q=>ta ρ λr=>match r.d with
 | .bl c=>if c=ai then Q (.v (.bl ai)) else tb ρ Q
 |_=>False
noncomputable def As(ta:dP):dP:=λρ Q=>ta ρ λr=>match r.d with
 | .bl c=>Q (.v (.bl (!c)))
 |_=>False
theorem AA{op}(h:QE X a ta):QE X (.BoolOp op [a] pos) ta:=⟨h.mono,λHZ F=>KC (h.run HZ F)⟩
theorem CT(h:QE X a ta)(k:QE X (.BoolOp .And (b::VL) pos) tb):QE X (.BoolOp .And (a::b::VL) pos) (uT ta tb):=by
 refine⟨λρ Q Q' w q=>h.mono _ _ _ (λc q=>?_) q,λHZ F=>cT (KL (h.run HZ F) (k.run HZ F)) λσ H Q ⟨ρ,fr,q⟩=>?_⟩
 ·split at q
  ·split at q
   ·rw[VH ‹_›];exact k.mono _ _ _ w q
   ·rw[Vn ‹_›];exact w _ q
  ·exact q
 ·refine h.step fr q λr x H1 q1 S1 r1=>?_;split at q1
  ·rename_i c e;have rc:=r1.c;rw[e] at rc;refine⟨c,rc.bl,?_⟩;cases c with
   |true=>
    simp only[if_true] at q1;exact lZ ⟨ρ,fr.mono S1,k.mono _ _ _ (λb q z H' S rz=>q z H' (S1.trans S) (rz.ahead S1)) q1⟩
   |false=>
    simp only[dk,if_false] at q1;exact oF (q1 _ H1 S1 (Rep.bl ak))
  ·exact q1.elim
theorem Pu(h:QE X a ta)(k:QE X (.BoolOp .Or (b::VL) pos) tb):QE X (.BoolOp .Or (a::b::VL) pos) (Iu ta tb):=by
 refine⟨λρ Q Q' w q=>h.mono _ _ _ (λc q=>?_) q,λHZ F=>cT (MY (h.run HZ F) (k.run HZ F)) λσ H Q ⟨ρ,fr,q⟩=>?_⟩
 ·split at q
  ·split at q
   ·rw[VH ‹_›];exact w _ q
   ·rw[Vn ‹_›];exact k.mono _ _ _ w q
  ·exact q
 ·refine h.step fr q λr x H1 q1 S1 r1=>?_;split at q1
  ·rename_i c e;have rc:=r1.c;rw[e] at rc;refine⟨c,rc.bl,?_⟩;cases c with
   |true=>
    simp only[if_true] at q1;exact lZ (q1 _ H1 S1 (Rep.bl ai))
   |false=>
    simp only[dk,if_false] at q1;exact oF ⟨ρ,fr.mono S1,k.mono _ _ _ (λb q z H' S rz=>q z H' (S1.trans S) (rz.ahead S1)) q1⟩
  ·exact q1.elim
theorem JH(h:QE X a ta):QE X (.UnaryOp .Not a pos) (As ta):=by
 refine⟨λρ Q Q' w q=>h.mono _ _ _ (λc q=>?_) q,λHZ F=>cT (KD (h.run HZ F)) λσ H Q ⟨ρ,fr,q⟩=>?_⟩
 ·split at q
  ·exact w _ q
  ·exact q
 ·refine h.step fr q λr x H1 q1 S1 r1=>?_;split at q1
  ·rename_i c e;have rc:=r1.c;rw[e] at rc;exact⟨c,rc.bl,q1 _ H1 S1 (Rep.bl _)⟩
  ·exact q1.elim
noncomputable def S0(t:kZ)(ta tb:dP):dP:=λρ Q=>t ρ λc=>if c=ai then ta ρ Q else tb ρ Q
noncomputable def bQ(ts:mD):dP:=λρ Q=>ts ρ λrs=>rs.all R.free=ai/\rs.length<=1000/\Q (.v (.tup (rs.map R.d)))
noncomputable def g7(ts:mD):dP:=λρ Q=>ts ρ λrs=>rs.all R.free=ai/\rs.length<=1000/\Q (.nw (.lst (rs.map R.d)))
theorem sC(h:n<=1000):n<=bf:=zt (DH h)
theorem aQ.new'{l:ae}(hl:H l=aq):aQ H (upd H l o):=λb q e=>by rw[bC (b7 e hl)];exact e
theorem cC{x1}(h:QA X es ts):QE X (.Tuple es x1 pos) (bQ ts):=by
 refine⟨λρ Q Q' w q=>h.mono _ _ _ (λrs q=>⟨q.1,q.2.1,w _ q.2.2⟩) q,λHZ F=>cT (KB (h.run HZ F)) λσ H Q zz=>?_⟩;obtain⟨ρ,fr,q⟩:=zz;refine h.step fr q λrs xs H1 ⟨q1,q2,q3⟩ S1 r1=>?_;have hl:xs.length=rs.length:=Paired.length r1;refine⟨sC ⋯,λp hp=>q3 _ _ (S1.trans (aQ.new' hp)) ?_⟩;exact .tup bT ((r1.reps (λa m=>fr.dom m) q1).mono (aQ.new' hp))
theorem fW(h:QA X es ts):QE X (.List es pos) (g7 ts):=by
 refine⟨λρ Q Q' w q=>h.mono _ _ _ (λrs q=>⟨q.1,q.2.1,w _ q.2.2⟩) q,λHZ F=>cT (KG (h.run HZ F)) λσ H Q zz=>?_⟩;obtain⟨ρ,fr,q⟩:=zz;refine h.step fr q λrs xs H1 ⟨q1,q2,q3⟩ S1 r1=>?_;have hl:xs.length=rs.length:=Paired.length r1;refine⟨sC ⋯,λp hp=>q3 _ _ (S1.trans (aQ.new' hp)) ?_⟩;exact⟨p,rfl,S1.free hp,xs,bT,((r1.reps (λa m=>fr.dom m) q1).gen (.fresh hp)).mono (aQ.new' hp)⟩
end
noncomputable abbrev zK:Nat:=1000000
theorem iP(h:n<=zK):n<=bf:=lh h (by rw[iq];decide)
theorem jK{p:ae}(hp:H p=aq)(r:Reps K M H xs ds):dU K M O H (.ref p) (.nw (.lst ds)) (upd H p (.lst xs)):=⟨p,rfl,hp,xs,bT,(r.gen (.fresh hp)).mono (aQ.new' hp)⟩
theorem ET{p:ae}(hp:H p=aq)(r:Reps K M H xs ds):dU K M O H (.ref p) (.v (.tup ds)) (upd H p (.tup xs)):=Rep.tup bT (r.mono (aQ.new' hp))
noncomputable def dS:Dv->Dv->(R->Prop)->Prop
 | .int i,.int j,Q=>Q (.v (.int (i+j)))
 | .lst xs,.lst ys,Q=>xs.length+ys.length<=zK/\Q (.nw (.lst (xs++ys)))
 | .str x,.str y,Q=>x.length+y.length<=zK/\Q (.v (.str (x++y)))
 |_,_,_=>False
noncomputable def kN:Dv->Dv->(R->Prop)->Prop
 | .int i,.int j,Q=>Q (.v (.int (i-j)))
 |_,_,_=>False
noncomputable def sP(i j:Int):Prop:=LU i j \/ (i.natAbs<2 ^ 4000/\j.natAbs<2 ^ 4000)
noncomputable def fQ:Dv->Dv->(R->Prop)->Prop
 | .int i,.int j,Q=>sP i j/\Q (.v (.int (i*j)))
 | .lst xs,.int k,Q=>(-(2 ^ 63)<=k/\k<2 ^ 63/\xs.length*k.toNat<=zK)/\Q (.nw (.lst (ao k.toNat xs).flatten))
 |_,_,_=>False
noncomputable def mU:Dv->Dv->(R->Prop)->Prop
 | .int i,.int j,Q=>(0<j/\j<2 ^ 200)/\Q (.v (.int (i / j)))
 |_,_,_=>False
noncomputable def Mt:Dv->Dv->(R->Prop)->Prop
 | .int i,.int j,Q=>(j≠0/\j.natAbs<2 ^ 4000)/\Q (.v (.int (i.fdiv j)))
 |_,_,_=>False
noncomputable def gZ:Dv->Dv->(R->Prop)->Prop
 | .int i,.int j,Q=>0<j/\Q (.v (.int (i % j)))
 |_,_,_=>False
noncomputable def Py:Dv->Dv->(R->Prop)->Prop
 | .int i,.int j,Q=>J6 i j/\Q (.v (.int (i ^ j.toNat)))
 |_,_,_=>False
variable {f:Int->Int->Bool}
theorem Db:∀dx dy (Q Q':R->Prop),(∀r,Q r->Q' r)->dS dx dy Q->dS dx dy Q':=by
 intro dx dy Q Q' w h;unfold dS at h;split at h
 ·exact w _ h
 ·exact⟨h.1,w _ h.2⟩
 ·exact⟨h.1,w _ h.2⟩
 ·exact h.elim
theorem bY:xD X (gw .Add) dS:=by
 refine⟨Db,_,Kc.or (Kb.or Bm),λM O H x y dx dy Q cx cy h=>?_⟩;unfold dS at h;split at h
 ·obtain rfl:=cx.int;obtain rfl:=cy.int;exact .inl ⟨_,_,rfl,rfl,h _ H (aQ.refl _) (Rep.int _)⟩
 ·obtain⟨a,xs,rfl,ea,ra⟩:=cx.lst;obtain⟨b,ys,rfl,eb,rb⟩:=cy.lst;have l1:=ra.length;have l2:=rb.length;exact .inr (.inl ⟨a,b,xs,ys,rfl,rfl,ea,eb,iP ⋯,λp hp=>h.2 _ _ (aQ.new' hp) (jK hp (ra.append rb))⟩)
 ·obtain rfl:=cx.str;obtain rfl:=cy.str;exact .inr (.inr ⟨_,_,rfl,rfl,iP h.1,h.2 _ H (aQ.refl _) (Rep.str _)⟩)
 ·exact h.elim
theorem DW:∀dx dy (Q Q':R->Prop),(∀r,Q r->Q' r)->kN dx dy Q->kN dx dy Q':=by
 intro dx dy Q Q' w h;unfold kN at h;split at h
 ·exact w _ h
 ·exact h.elim
theorem jX:xD X (gw .Sub) kN:=by
 refine⟨DW,_,KQ,λM O H x y dx dy Q cx cy h=>?_⟩;unfold kN at h;split at h
 ·obtain rfl:=cx.int;obtain rfl:=cy.int;exact⟨_,_,rfl,rfl,h _ H (aQ.refl _) (Rep.int _)⟩
 ·exact h.elim
theorem sP.ok{i j:Int}(h:sP i j):IntMulOk i j:=by
 rcases h with h | ⟨h1,h2⟩
 ·exact h.ok
 ·have key:∀{z:Int},z.natAbs<2 ^ 4000->ya z<=2 ^ 20:=λ{z} hz=>by
   have hl:z.natAbs≠0->z.natAbs.log2<4000:=λh0=>(Vo h0).mpr hz;clear hz h1 h2;unfold ya;by_cases h0:z=0
   ·simp[h0]
   ·have:=hl ⋯;simp[h0];ac_rfl
  exact IntMulOk.of_bits (key h1) (key h2)
theorem I9:l6 X (gw .Mult) (rI sP λi j=>.int (i*j)):=QL λ_ _ _ _ _ _ _ hc q=>mul_int q hc.ok
theorem DX:∀dx dy (Q Q':R->Prop),(∀r,Q r->Q' r)->fQ dx dy Q->fQ dx dy Q':=by
 intro dx dy Q Q' w h;unfold fQ at h;split at h
 ·exact⟨h.1,w _ h.2⟩
 ·exact⟨h.1,w _ h.2⟩
 ·exact h.elim
theorem dC:xD X (gw .Mult) fQ:=by
 refine⟨DX,_,I9.or KR,λM O H x y dx dy Q cx cy h=>?_⟩;unfold fQ at h;split at h
 ·obtain rfl:=cx.int;obtain rfl:=cy.int;exact .inl ⟨_,_,rfl,rfl,h.1,h.2 _ H (aQ.refl _) (Rep.int _)⟩
 ·obtain⟨a,xs,rfl,ea,ra⟩:=cx.lst;obtain rfl:=cy.int;have l1:=ra.length;exact .inr ⟨a,_,xs,rfl,rfl,ea,h.1.1,h.1.2.1,iP (by rw[l1];exact h.1.2.2),λp hp=>h.2 _ _ (aQ.new' hp) (jK hp (ra.repl _))⟩
 ·exact h.elim
theorem Da:∀dx dy (Q Q':R->Prop),(∀r,Q r->Q' r)->mU dx dy Q->mU dx dy Q':=by
 intro dx dy Q Q' w h;unfold mU at h;split at h
 ·exact⟨h.1,w _ h.2⟩
 ·exact h.elim
theorem nU:xD X (gw .FloorDiv) mU:=by
 refine⟨Da,_,Fb,λM O H x y dx dy Q cx cy h=>?_⟩;unfold mU at h;split at h
 ·obtain rfl:=cx.int;obtain rfl:=cy.int;exact⟨_,_,rfl,rfl,h.1,h.2 _ H (aQ.refl _) (Rep.int _)⟩
 ·exact h.elim
theorem DY:∀dx dy (Q Q':R->Prop),(∀r,Q r->Q' r)->gZ dx dy Q->gZ dx dy Q':=by
 intro dx dy Q Q' w h;unfold gZ at h;split at h
 ·exact⟨h.1,w _ h.2⟩
 ·exact h.elim
theorem fH:xD X (gw .Mod) gZ:=by
 refine⟨DY,_,KW,λM O H x y dx dy Q cx cy h=>?_⟩;unfold gZ at h;split at h
 ·obtain rfl:=cx.int;obtain rfl:=cy.int;exact⟨_,_,rfl,rfl,h.1,h.2 _ H (aQ.refl _) (Rep.int _)⟩
 ·exact h.elim
noncomputable def vM(ta:dP):dP:=λρ Q=>ta ρ λr=>match r.d with
 | .int i=>Q (.v (.int (-i)))
 |_=>False
theorem AB{a:Expr}{pos:jr}(h:QE X a ta):QE X (.UnaryOp .USub a pos) (vM ta):=by
 refine⟨λρ Q Q' w q=>h.mono _ _ _ (λc q=>?_) q,λHZ F=>cT (MX Jg (h.run HZ F)) λσ H Q ⟨ρ,fr,q⟩=>?_⟩
 ·split at q
  ·exact w _ q
  ·exact q
 ·refine h.step fr q λr x H1 q1 S1 r1=>?_;split at q1
  ·rename_i i e;have rc:=r1.c;rw[e] at rc;exact⟨i,rc.int,q1 _ H1 S1 (Rep.int _)⟩
  ·exact q1.elim
noncomputable def xW(f:Int->Int->Bool):Dv->Dv->(R->Prop)->Prop
 | .int i,.int j,Q=>Q (.v (.bl (f i j)))
 |_,_,_=>False
theorem u6:∀dx dy (Q Q':R->Prop),(∀r,Q r->Q' r)->xW f dx dy Q->xW f dx dy Q':=by
 intro dx dy Q Q' w h;unfold xW at h;split at h
 ·exact w _ h
 ·exact h.elim
theorem Bl{g:ac->ac->UN ac}(h:l6 X g (CP λi j=>.bl (f i j))):xD X g (xW f):=by
 refine⟨u6,_,h,λM O H x y dx dy Q cx cy h=>?_⟩;unfold xW at h;split at h
 ·obtain rfl:=cx.int;obtain rfl:=cy.int;exact⟨_,_,rfl,rfl,h _ H (aQ.refl _) (Rep.bl _)⟩
 ·exact h.elim
noncomputable abbrev zI:=xW λi j=>decide (i<j)
noncomputable abbrev KP:=xW λi j=>decide (i<=j)
noncomputable abbrev Hz:=xW λi j=>decide (j<i)
theorem mW:xD X (df .Lt) zI:=Bl Fa
theorem FY:xD X (df .LtE) KP:=Bl AW
theorem rP:xD X (df .Gt) Hz:=Bl Mv
noncomputable def lP(p p':Dv->Dv->(R->Prop)->Prop)(ta tb tc:dP):dP:=λρ Q=>ta ρ λx=>tb ρ λy=>p x.d y.d λz=>match z.d with
 | .bl k=>if k=ai then tc ρ λw=>p' y.d w.d Q else Q (.v (.bl ak))
 |_=>False
noncomputable def isN:Dv->Bool
 | .non=>ai
 |_=>ak
noncomputable def DZ:Dv->Dv->(R->Prop)->Prop
 |d,.non,Q=>Q (.v (.bl (isN d)))
 |_,_,_=>False
noncomputable def u5:Dv->Dv->(R->Prop)->Prop
 |d,.non,Q=>Q (.v (.bl (!isN d)))
 |_,_,_=>False
theorem eB.non_iff{x:V}{d:Dv}(h:eB K M H x d):decide (x=.non)=isN d:=by
 rcases h with h | ⟨a,rfl,o⟩
 ·cases h<;>simp[isN]
 ·cases d<;>first | exact o.elim | simp[isN]
theorem Ca:xD X (df .Is) DZ:=by
 refine⟨λdx dy Q Q' w h=>?_,_,KY,λM O H x y dx dy Q cx cy h=>?_⟩
 ·unfold DZ at h;split at h
  ·exact w _ h
  ·exact h.elim
 ·unfold DZ at h;split at h
  ·refine⟨cy.non,?_⟩;rw[cx.non_iff];exact h _ H (aQ.refl _) (Rep.bl _)
  ·exact h.elim
theorem AV:xD X (df .IsNot) u5:=by
 refine⟨λdx dy Q Q' w h=>?_,_,I8,λM O H x y dx dy Q cx cy h=>?_⟩
 ·unfold u5 at h;split at h
  ·exact w _ h
  ·exact h.elim
 ·unfold u5 at h;split at h
  ·refine⟨cy.non,?_⟩;rw[cx.non_iff];exact h _ H (aQ.refl _) (Rep.bl _)
  ·exact h.elim
noncomputable def fU:Dv->V4
 | .non=>.none
 | .bl b=>.bool b
 | .int i=>.int i
 | .str x=>.str x
 | .tup xs=>.tuple (pyDs xs)
 | .lst xs=>.list (pyDs xs)
 | .scr ns=>.list (ns.map .int)
 |_=>.dict []
where pyDs:List Dv->List V4
 | []=>[]
 |d::r=>fU d::pyDs r
noncomputable abbrev pyDs:=fU.pyDs
noncomputable def dD:Nat->Dv->Bool
 |_,.non=>ai
 |_,.bl _=>ai
 |_,.int _=>ai
 |_,.str x=>PyData.strOk x
 |n+1,.tup xs=>okDs n xs
 |n+1,.lst xs=>okDs n xs
 |_+1,.scr _=>ai
 |_,_=>ak
where okDs:Nat->List Dv->Bool
 |_,[]=>ai
 |n,d::r=>dD n d&&okDs n r
noncomputable abbrev okDs:=dD.okDs
noncomputable def eqD(a b:Dv):Bool:=fi (fU a) (fU b)
theorem B8(ns:List Int):kh (ns.map .int)=ai:=by
 induction ns with
 |nil=>rfl
 |cons n r ih=>rw[cf,kh,ih];rfl
theorem C6(ns:List Int):jh (ns.map .int)=0:=by
 induction ns with
 |nil=>rfl
 |cons n r ih=>rw[cf,jh,ih];rfl
mutual
theorem nX:∀(n:Nat) (d:Dv),dD n d=ai->(fU d).canLay0=ai/\(fU d).depth<=n
 |_,.non,_=>⟨by simp[fU,lv],by simp[fU,PyData.depth]⟩
 |_,.bl _,_=>⟨by simp[fU,lv],by simp[fU,PyData.depth]⟩
 |_,.int _,_=>⟨by simp[fU,lv],by simp[fU,PyData.depth]⟩
 |_,.str x,h=>⟨by rw[fU,lv];cases ‹Nat›<;>simpa [dD] using h,by simp[fU,PyData.depth]⟩
 |0,.tup _,h=>by simp[dD] at h
 |0,.lst _,h=>by simp[dD] at h
 |0,.scr _,h=>by simp[dD] at h
 |n+1,.tup xs,h=>by
  have:=uA n xs (by rw[dD] at h;exact h);exact⟨by rw[fU,lv];exact this.1,by rw[fU,PyData.depth];have h2:jh (fU.pyDs xs)<=n:=this.2;ac_rfl⟩
 |n+1,.lst xs,h=>by
  have:=uA n xs (by rw[dD] at h;exact h);exact⟨by rw[fU,lv];exact this.1,by rw[fU,PyData.depth];have h2:jh (fU.pyDs xs)<=n:=this.2;ac_rfl⟩
 |n+1,.scr ns,_=>⟨by rw[fU,lv];exact B8 ns,by rw[fU,PyData.depth,C6];ac_rfl⟩
 |0,.dit _,h=>by simp[dD] at h
 |0,.obj _ _,h=>by simp[dD] at h
 |0,.exc _ _,h=>by simp[dD] at h
 |_+1,.exc _ _,h=>by simp[dD] at h
 |0,.dns _,h=>by simp[dD] at h
 |_+1,.dns _,h=>by simp[dD] at h
 |_+1,.dit _,h=>by simp[dD] at h
 |_+1,.obj _ _,h=>by simp[dD] at h
theorem uA:∀(n:Nat) (ds:List Dv),okDs n ds=ai->kh (pyDs ds)=ai/\jh (pyDs ds)<=n
 |_,[],_=>⟨by simp[fU.pyDs,kh],by simp[fU.pyDs,jh]⟩
 |n,d::r,h=>by
  have h':(dD n d&&okDs n r)=ai:=h;rw[dj] at h';have h1:=nX n d h'.1;have h2:=uA n r h'.2;refine⟨by show kh (fU d::pyDs r)=ai;rw[kh,h1.1,h2.1];rfl,?_⟩;show jh (fU d::pyDs r)<=n;rw[jh];ac_rfl
end
theorem i6{d:Dv}(h:dD n d=ai)(hn:n<=64):V5 (fU d)=ai:=by
 obtain⟨h1,h2⟩:=nX n d h;unfold V5;rw[h1,decide_eq_true ⋯];rfl
theorem uM{h:cm}:∀{ns:List Int} {us:List ac},b8 (ns.map V.int) us -> ∃as,Uz h us (ns.map PyData.int) as
 | [],_,.nil=>⟨_,.nil⟩
 |n::r,_,.cons a t=>by
  obtain⟨tk,rfl⟩:=a;obtain⟨as,q⟩:=uM (h:=h) t;exact⟨_,.cons (.int n tk) q⟩
theorem t8{d:Dv}(f:okDs n (d::ds)=ai):dD n d=ai/\okDs n ds=ai:=by
 have f':(dD n d&&okDs n ds)=ai:=f;rwa[dj] at f'
theorem Rep.reads(I:Inv X pj σ H s){x:V}{d:Dv}(q:Rep X.K M H x d)(ok:dD n d=ai)(r:cG x u):∃as,UW s.heap u (fU d) as:=by
 refine Rep.rec (motive_1:=λx d _=>∀n u,dD n d=ai->cG x u -> ∃as,UW s.heap u (fU d) as) (motive_2:=λxs ds _=>∀n us,okDs n ds=ai->b8 xs us -> ∃as,Uz s.heap us (pyDs ds) as) (motive_3:=λ_ _ _=>True) (motive_4:=λ_ _ _=>True)
  (λn u _ r=>by cases r;exact⟨_,.none⟩) (λb n u _ r=>by cases r;exact⟨_,.bool b⟩) (λi n u _ r=>by obtain⟨t,rfl⟩:=r;exact⟨_,.int i t⟩) (λy n u _ r=>by obtain⟨t,rfl⟩:=r;exact⟨_,.str y t⟩) ?tup ?lst ?dit ?obj ?scr ?exc ?dns ?nil ?cons
  trivial (λ_ _ _ _=>trivial) trivial (λ_ _ _ _=>trivial) q n u ok r
 case tup=>
  intro a xs ds e _ ih n u ok r;cases n with
  |zero=>simp[dD] at ok
  |succ n=>
   cases r;obtain⟨_,its,rv,o,ho,hc,m,hd⟩:=I.hok _ _ e;obtain⟨as,ra⟩:=ih n its (by rw[dD] at ok;exact ok) rv;exact⟨_,.tuple ho hc hd ra⟩
 case lst=>
  intro a xs ds e _ _ ih n u ok r;cases n with
  |zero=>simp[dD] at ok
  |succ n=>
   cases r;obtain⟨_,its,m,rv,ho⟩:=I.hok _ _ e;obtain⟨as,ra⟩:=ih n its (by rw[dD] at ok;exact ok) rv;exact⟨_,.list ho rfl rfl ra⟩
 case dit=>intro a ep xs ds _ _ _ _ n u ok;cases n<;>simp[dD] at ok
 case obj=>intro a C dx xs ds _ _ _ _ n u ok;cases n<;>simp[dD] at ok
 case scr=>
  intro a ns e n u _ r;cases r;obtain⟨its,rv,pl,_⟩:=I.list e.sq;obtain⟨o,ho,hc,m,hd⟩:=pl.isList;obtain⟨as,ra⟩:=uM (h:=s.heap) rv;exact⟨_,.list ho hc hd (by simpa using ra)⟩
 case exc=>intro a C p _ n u ok;cases n<;>simp[dD] at ok
 case dns=>intro a ks _ _ n u ok;cases n<;>simp[dD] at ok
 case nil=>intro n us _ r;cases r;exact⟨_,.nil⟩
 case cons=>
  intro x d xs ds _ _ i1 i2 n us ok r;cases r with
  |cons r1 r2=>
   obtain⟨as,ra⟩:=i1 n _ (t8 ok).1 r1;obtain⟨bs,rb⟩:=i2 n _ (t8 ok).2 r2;exact⟨_,.cons ra rb⟩
theorem Reps.reads(I:Inv X pj σ H s){n:Nat}{xs:List V}{ds:List Dv}{us:List ac}(q:Reps X.K M H xs ds)(ok:okDs n ds=ai)(r:b8 xs us):∃as,Uz s.heap us (pyDs ds) as:=
 q.ind (P:=λxs ds=>∀us,okDs n ds=ai->b8 xs us -> ∃as,Uz s.heap us (pyDs ds) as) (λus _ r=>by cases r;exact⟨_,.nil⟩) (λx d xs ds a _ ih us ok r=>by
  cases r with
  |cons r1 r2=>
   obtain⟨as,ra⟩:=a.reads I (t8 ok).1 r1;obtain⟨bs,rb⟩:=ih _ (t8 ok).2 r2;exact⟨_,.cons ra rb⟩) us ok r
theorem eB.reads(I:Inv X pj σ H s){n:Nat}{x:V}{d:Dv}{u:ac}(c:eB X.K M H x d)(ok:dD n d=ai)(r:cG x u):∃as,UW s.heap u (fU d) as:=by
 rcases c with c | ⟨a,rfl,o⟩
 ·exact c.reads I ok r
 ·cases d with
  |lst ds=>
   obtain⟨xs,e,q⟩:=o;cases r;cases n with
   |zero=>simp[dD] at ok
   |succ n=>
    obtain⟨_,its,m,rv,ho⟩:=I.hok _ _ e;obtain⟨as,ra⟩:=Reps.reads I q (by rw[dD] at ok;exact ok) rv;exact⟨_,.list ho rfl rfl ra⟩
  |dit _=>cases n<;>simp[dD] at ok
  |obj _ _=>cases n<;>simp[dD] at ok
  |dns _=>cases n<;>simp[dD] at ok
  |_=>exact o.elim
noncomputable def qQ:Dv->Dv->(R->Prop)->Prop
 | .int i,.int j,Q=>Q (.v (.bl (decide (i=j))))
 |dx,dy,Q=>(dD 8 dx=ai/\dD 8 dy=ai)/\Q (.v (.bl (eqD dx dy)))
noncomputable def zH:Dv->Dv->(R->Prop)->Prop
 | .int i,.int j,Q=>Q (.v (.bl (!decide (i=j))))
 |dx,dy,Q=>(dD 8 dx=ai/\dD 8 dy=ai)/\Q (.v (.bl (!eqD dx dy)))
noncomputable def Pq(K:aj):R2:=λx y H Q=>∃M dx dy,eB K M H x dx/\eB K M H y dy/\dD 8 dx=ai/\dD 8 dy=ai/\Q (.bl (eqD dx dy)) H
noncomputable def Pl(K:aj):R2:=λx y H Q=>∃M dx dy,eB K M H x dx/\eB K M H y dy/\dD 8 dx=ai/\dD 8 dy=ai/\Q (.bl (!eqD dx dy)) H
theorem Ka(hu:X.A.units+64<lq):l6 X (df .Eq) (Pq X.K):=by
 intro pj s σ H x y v u Q I rx ry h;obtain⟨M,dx,dy,r1,r2,o1,o2,q⟩:=h;obtain⟨as,ra⟩:=r1.reads I o1 rx;obtain⟨bs,rb⟩:=r2.reads I o2 ry;exact SeqAt.compareEq_shaped ra rb (i6 o1 ∅) (i6 o2 ∅) hu ⟨.bl _,H,I,rfl,q⟩
theorem KS(hu:X.A.units+64<lq):l6 X (df .NotEq) (Pl X.K):=by
 intro pj s σ H x y v u Q I rx ry h;obtain⟨M,dx,dy,r1,r2,o1,o2,q⟩:=h;obtain⟨as,ra⟩:=r1.reads I o1 rx;obtain⟨bs,rb⟩:=r2.reads I o2 ry;exact SeqAt.compareNe_shaped ra rb (i6 o1 ∅) (i6 o2 ∅) hu ⟨.bl _,H,I,rfl,q⟩
theorem yN(i j:Int):eqD (.int i) (.int j)=decide (i=j):=by
 show fi (.int i) (.int j)=_;rw[fi];exact Bool.beq_eq_decide_eq i j
theorem jI(hu:X.A.units+64<lq):xD X (df .Eq) qQ:=by
 refine⟨λdx dy Q Q' w h=>?_,_,Ka hu,λM O H x y dx dy Q cx cy h=>?_⟩
 ·unfold qQ at *;split at h
  ·exact w _ h
  ·exact⟨h.1,w _ h.2⟩
 ·unfold qQ at h;split at h
  ·refine⟨M,_,_,cx,cy,by simp[dD],by simp[dD],?_⟩;rw[yN];exact h _ H (aQ.refl _) (Rep.bl _)
  ·exact⟨M,_,_,cx,cy,h.1.1,h.1.2,h.2 _ H (aQ.refl _) (Rep.bl _)⟩
theorem p5(hu:X.A.units+64<lq):xD X (df .NotEq) zH:=by
 refine⟨λdx dy Q Q' w h=>?_,_,KS hu,λM O H x y dx dy Q cx cy h=>?_⟩
 ·unfold zH at *;split at h
  ·exact w _ h
  ·exact⟨h.1,w _ h.2⟩
 ·unfold zH at h;split at h
  ·refine⟨M,_,_,cx,cy,by simp[dD],by simp[dD],?_⟩;rw[yN];exact h _ H (aQ.refl _) (Rep.bl _)
  ·exact⟨M,_,_,cx,cy,h.1.1,h.1.2,h.2 _ H (aQ.refl _) (Rep.bl _)⟩
structure En where
 nx:List Sl->Prop
 rt:R->Prop
 bk:List Sl->Prop:=λ_=>False
 ct:List Sl->Prop:=λ_=>False
 rw:Bool->List Sl->Prop:=λ_ _=>False
noncomputable abbrev bS:=En->List Sl->Prop
structure EnLe(E E':En):Prop where
 nx:∀ρ,E.nx ρ->E'.nx ρ
 rt:∀r,E.rt r->E'.rt r
 bk:∀ρ,E.bk ρ->E'.bk ρ
 ct:∀ρ,E.ct ρ->E'.ct ρ
 rw:∀b ρ,E.rw b ρ->E'.rw b ρ
structure Ent(K:aj)(HZ:Hp)(F:ae->Prop)(E:En)(D:Ends):Prop where
 nx:∀ρ σ H,Fr K HZ F σ H ρ->E.nx ρ->D.nx σ H
 bk:∀ρ σ H,Fr K HZ F σ H ρ->E.bk ρ->D.bk σ H
 ct:∀ρ σ H,Fr K HZ F σ H ρ->E.ct ρ->D.ct σ H
 rt:∀r x H,aQ HZ H->dU K F BF HZ x r H->E.rt r->D.rt x H
 rw:∀b ρ σ H,Fr K HZ F σ H ρ->E.rw b ρ->D.rt (.bl b) H
inductive liftS(K:aj)(HZ:Hp)(F:ae->Prop)(t:bS)(D:Ends)(σ:St)(H:Hp):Prop
 |mk (ρ:List Sl) (E:En) (fr:Fr K HZ F σ H ρ) (h:t E ρ) (en:Ent K HZ F E D)
structure QS(X:Cx)(st:jm)(t:bS):Prop where
 mono:∀E E' ρ,EnLe E E'->t E ρ->t E' ρ
 run:∀(HZ:Hp) (F:ae->Prop),PS X st (liftS X.K HZ F t)
structure QSs(X:Cx)(sts:List jm)(t:bS):Prop where
 mono:∀E E' ρ,EnLe E E'->t E ρ->t E' ρ
 run:∀(HZ:Hp) (F:ae->Prop),xC X sts (liftS X.K HZ F t)
variable {E:En}{sts:List jm}
section
variable {st:jm}{t u:bS}{c:Expr}{pos:jr}
theorem eK{t t':TS}(h:PS X st t)(w:∀D σ H,t' D σ H->t D σ H):PS X st t':=λpj s σ H D I q=>h pj s σ H D I (w D σ H q)
theorem D5{t t':TS}(h:xC X sts t)(w:∀D σ H,t' D σ H->t D σ H):xC X sts t':=λpj s σ H D I q=>h pj s σ H D I (w D σ H q)
noncomputable def bK:bS:=λE ρ=>E.nx ρ
noncomputable def aN(t u:bS):bS:=λE ρ=>t { E with nx:=u E } ρ
theorem bJ:QSs X [] bK:=⟨λE E' ρ w h=>w.nx _ h,λHZ F=>D5 Hj λD σ H zq1=>by obtain⟨ρ,E,fr,h,en⟩:=zq1;exact en.nx _ _ _ fr h⟩
theorem EnLe.with_nx{E':En}{a b:List Sl->Prop}(w:EnLe E E')(h:∀ρ,a ρ->b ρ):EnLe { E with nx:=a } { E' with nx:=b }:=⟨h,w.rt,w.bk,w.ct,w.rw⟩
theorem aE(h1:QS X st t)(h2:QSs X sts u):QSs X (st::sts) (aN t u):=by
 refine⟨λE E' ρ w h=>h1.mono _ _ _ (w.with_nx λρ h=>h2.mono _ _ _ w h) h,λHZ F=>D5 (F9 (h1.run HZ F) (h2.run HZ F)) λD σ H zz=>?_⟩;obtain⟨ρ,E,fr,h,en⟩:=zz;exact⟨ρ,_,fr,h,λρ' σ' H' fr' h'=>⟨ρ',E,fr',h',en⟩,en.bk,en.ct,en.rt,en.rw⟩
theorem aK(h1:QS X st t):QSs X [st] t:=⟨h1.mono,λHZ F=>Hi (h1.run HZ F)⟩
noncomputable def Et:bS:=λE ρ=>E.bk ρ
noncomputable def CO:bS:=λE ρ=>E.ct ρ
theorem Bc:QS X (.Continue pos) CO:=⟨λE E' ρ w h=>w.ct _ h,λHZ F=>eK AD λD σ H zq2=>by obtain⟨ρ,E,fr,h,en⟩:=zq2;exact en.ct _ _ _ fr h⟩
noncomputable def hV:bS:=λ_ _=>False
theorem iD:QS X st hV:=⟨λ_ _ _ _ h=>h,λHZ F=>eK FD λD σ H zq3=>by obtain⟨ρ,E,fr,h,en⟩:=zq3;exact h⟩
noncomputable def A3(te:dP):bS:=λE ρ=>te ρ λ_=>E.nx ρ
theorem Ez(he:QE X e te)(hs:autoParam (jd e aq pos.line X.env=ie ak) cF._auto_1):QS X (.Expr e pos) (A3 te):=
 ⟨λE E' ρ w h=>he.mono _ _ _ (λ_ q=>w.nx _ q) h,λHZ F=>eK (t7 (he.run HZ F) hs) λD σ H zq4=>by obtain⟨ρ,E,fr,h,en⟩:=zq4;exact he.step fr h λr x H1 q S1 _=>en.nx _ _ _ (fr.mono S1) q⟩
noncomputable def R.out:R->R
 | .ow _ d=>.nw d
 |r=>r
theorem dU.out{K:aj}{HZ H H':Hp}{F:ae->Prop}{σ:St}{ρ:List Sl}{x:V}{r:R}(fr:Fr K HZ F σ H ρ)(h:dU K (MM F ρ) (zJ ρ) H x r H'):dU K F BF HZ x r.out H':=by
 cases r with
 |v d=>exact Rep.weak (λa z=>.inl z) h
 |nw d=>
  obtain⟨a,e,n,o⟩:=h;exact⟨a,e,fr.same.free n,o.weak λb z=>z.elim (λz=>.inl (.inl z)) .inr⟩
 |ow a d=>
  obtain⟨e,m,o⟩:=h;refine⟨a,e,fr.new a d m,o.weak λb z=>?_⟩;rcases z with z | z
  ·exact .inl z
  ·rw[z];exact .inr ⟨d,m⟩
noncomputable def c6(te:dP):bS:=λE ρ=>te ρ λr=>E.rt r.out
noncomputable def JF:bS:=λE _=>E.rt (.v .non)
theorem bE(he:QE X e te):QS X (.Return (aa e) pos) (c6 te):=
 ⟨λE E' ρ w h=>he.mono _ _ _ (λ_ q=>w.rt _ q) h,λHZ F=>eK (FC (he.run HZ F)) λD σ H zq5=>by obtain⟨ρ,E,fr,h,en⟩:=zq5;exact he.step fr h λr x H1 q S1 r1=>en.rt _ _ _ (fr.same.trans S1) (dU.out fr r1) q⟩
noncomputable def jE(c:kZ)(t u:bS):bS:=λE ρ=>c ρ λb=>if b=ai then t E ρ else u E ρ
theorem eX{a b:List jm}{tc:kZ}(hc:QT X c tc)(ha:QSs X a t)(hb:QSs X b u):QS X (.If c a b pos) (jE tc t u):=by
 refine⟨λE E' ρ w h=>hc.mono _ _ _ (λk q=>?_) h,λHZ F=>eK (JL (hc.run HZ F) (ha.run HZ F) (hb.run HZ F)) λD σ H ⟨ρ,E,fr,h,en⟩=>?_⟩
 ·split at q
  ·rw[VH ‹_›];exact ha.mono _ _ _ w q
  ·rw[Vn ‹_›];exact hb.mono _ _ _ w q
 ·refine hc.step fr h λk H1 q S1=>?_;cases k with
  |true=>exact lZ ⟨ρ,E,fr.mono S1,by simpa using q,en⟩
  |false=>exact oF ⟨ρ,E,fr.mono S1,by simpa using q,en⟩
end
theorem dX{l:List α}{j:Nat}{a b:α}(h:(l.set i a)[j]?=aa b):(i=j/\i<l.length/\b=a) \/ (i≠j/\l[j]?=aa b):=by
 by_cases e:i=j
 ·subst e;by_cases hl:i<l.length
  ·rw[fk hl] at h;exact .inl ⟨rfl,hl,(Option.some.inj h).symm⟩
  ·rw[rg (by simp;ac_rfl)] at h;cases h
 ·rw[dr e] at h;exact .inr ⟨e,h⟩
theorem MM.set{i:Nat}{s:Sl}(a:ae)(h:MM F (ρ.set i s) a):MM F ρ a \/ ∃d,s=.own a d:=by
 rcases h with h | ⟨d,h⟩
 ·exact .inl (.inl h)
 ·rcases ki h with h | h
  ·exact .inl (.inr ⟨d,h⟩)
  ·exact .inr ⟨d,h.symm⟩
theorem Fr.setv(fr:Fr K HZ F σ H ρ){x:V}{d:Dv}(r:Rep K (MM F ρ) H x d):Fr K HZ F (σ.set i (aa x)) H (ρ.set i (.v d)):=by
 have wk:∀a,MM F (ρ.set i (.v d)) a->MM F ρ a:=λa h=>by
  rcases MM.set a h with h | ⟨_,h⟩
  ·exact h
  ·cases h
 refine⟨by simp[fr.len],λj s e=>?_,λj k a d1 d2 e1 e2=>?_,λa d1 h=>?_,fr.same,fr.old⟩
 ·rcases dX e with⟨rfl,hl,rfl⟩ | ⟨ne,e⟩
  ·exact⟨x,by rw[fk (by rw[fr.len];exact hl)],r.weak wk⟩
  ·rw[dr ne];exact(fr.sl j s e).weak wk
 ·rcases dX e1 with⟨_,_,z⟩ | ⟨_,e1⟩
  ·cases z
  ·rcases dX e2 with⟨_,_,z⟩ | ⟨_,e2⟩
   ·cases z
   ·exact fr.nd j k a d1 d2 e1 e2
 ·rcases ki h with h | h
  ·exact fr.new a d1 h
  ·cases h
theorem vV.gen{M M':ae->Prop}{o:Option (Option V)}{s:Sl}(G:Gen K M M' H H')(hs:∀a d,s=.own a d -> ∀u,H a=aa u->H' a=aa u)(h:vV K M H o s):vV K M' H' o s:=by
 cases s with
 |un=>trivial
 |v d=>obtain⟨x,e,r⟩:=h;exact⟨x,e,r.gen G⟩
 |own a d=>exact⟨h.1,h.2.gen G (hs a d rfl)⟩
theorem Fr.seto(fr:Fr K HZ F σ H ρ)(S:aQ H H'){d:Dv}(ha:H a=aq)(o:dQ K (λb=>MM F ρ b \/ b=a) H' a d):Fr K HZ F (σ.set i (aa (.ref a))) H' (ρ.set i (.own a d)):=by
 have wk:∀b,MM F (ρ.set i (.own a d)) b->MM F ρ b \/ b=a:=λb h=>by
  rcases MM.set b h with h | ⟨_,h⟩
  ·exact .inl h
  ·cases h;exact .inr rfl
 have G:Gen K (MM F ρ) (MM F (ρ.set i (.own a d))) H H':=((Gen.fresh ha).trans (.mono S)).trans (.weak wk);have ne:∀(j:Nat) (b:ae) (d':Dv),ρ[j]?=aa (Sl.own b d')->b≠a:=λj b d' e z=>by
  have:=(fr.sl j _ e).2.mut;obtain⟨u,hu,_⟩:=this;rw[z,ha] at hu;cases hu
 refine⟨by simp[fr.len],λj s e=>?_,λj k b d1 d2 e1 e2=>?_,λb d1 h=>?_,fr.same.trans S,fr.old⟩
 ·rcases dX e with⟨rfl,hl,rfl⟩ | ⟨hne,e⟩
  ·exact⟨by rw[fk (by rw[fr.len];exact hl)],o.weak wk⟩
  ·rw[dr hne];exact(fr.sl j s e).gen G λb d' _ u hu=>S _ _ hu
 ·rcases dX e1 with⟨h1,_,z⟩ | ⟨_,e1⟩
  ·rcases dX e2 with⟨h2,_,z'⟩ | ⟨_,e2⟩
   ·ac_rfl
   ·cases z;exact absurd rfl (ne k _ _ e2)
  ·rcases dX e2 with⟨h2,_,z'⟩ | ⟨_,e2⟩
   ·cases z';exact absurd rfl (ne j _ _ e1)
   ·exact fr.nd j k b d1 d2 e1 e2
 ·rcases ki h with h | h
  ·exact fr.new b d1 h
  ·cases h;exact fr.same.free ha
theorem Fr.write(fr:Fr K HZ F σ H ρ){i:Nat}{a:ae}{d d':Dv}{o:HO}(hi:ρ[i]?=aa (.own a d))(n:dQ K (MM F ρ) (upd H a o) a d'):Fr K HZ F σ (upd H a o) (ρ.set i (.own a d')):=by
 have mem:Sl.own a d∈ρ:=bw hi;have wk:∀b,MM F (ρ.set i (.own a d')) b->MM F ρ b:=λb h=>by
  rcases MM.set b h with h | ⟨_,h⟩
  ·exact h
  ·cases h;exact .inr ⟨d,mem⟩
 obtain⟨hs,ow⟩:=fr.sl i _ hi;obtain⟨u,hu,mu⟩:=ow.mut;have mu':EH (H a):=by rw[hu];exact mu
 have G:Gen K (MM F ρ) (MM F (ρ.set i (.own a d'))) H (upd H a o):=(Gen.write (.inr ⟨d,mem⟩) mu').trans (.weak wk);refine⟨by simp[fr.len],λj s e=>?_,λj k b d1 d2 e1 e2=>?_,λb d1 h=>?_,λb q e=>?_,fr.old⟩
 ·rcases dX e with⟨rfl,hl,rfl⟩ | ⟨hne,ej⟩
  ·exact⟨hs,n.weak wk⟩
  ·refine(fr.sl j s ej).gen G λb d2 es u hu=>?_;subst es;rw[bC λz=>hne ?_]
   ·exact hu
   ·subst z;exact fr.nd i j _ d d2 hi ej
 ·rcases dX e1 with⟨h1,_,z⟩ | ⟨_,e1⟩
  ·cases z;rcases dX e2 with⟨h2,_,z'⟩ | ⟨_,e2⟩
   ·ac_rfl
   ·rw[<- h1];exact fr.nd i k _ d d2 hi e2
  ·rcases dX e2 with⟨h2,_,z'⟩ | ⟨_,e2⟩
   ·cases z';rw[<- h2];exact fr.nd j i _ d1 d e1 hi
   ·exact fr.nd j k b d1 d2 e1 e2
 ·rcases ki h with h | h
  ·exact fr.new b d1 h
  ·cases h;exact fr.new _ d mem
 ·rw[bC ?_]
  ·exact fr.same b q e
  ·intro z;subst z;rw[fr.new _ d mem] at e;cases e
noncomputable def freeze(i:Nat)(ρ:List Sl):List Sl:=match ρ[i]? with
 |some (.own _ d)=>ρ.set i (.v d)
 |_=>ρ
section
variable {pos W8:jr}{t:bS}
noncomputable def b6(i:Nat)(te:dP):bS:=λE ρ=>te ρ λr=>match r with
 | .v d=>E.nx (ρ.set i (.v d))
 | .nw d=>E.nx (ρ.set i (.v d))
 | .ow _ _=>False
noncomputable def iM(i:Nat)(te:dP):bS:=λE ρ=>te ρ λr=>match r with
 | .v d=>E.nx (ρ.set i (.v d))
 | .nw d=>∀a,E.nx (ρ.set i (.own a d))
 | .ow _ _=>False
noncomputable def M7(i:Nat)(t:bS):bS:=λE ρ=>t E (freeze i ρ)
theorem bH(hN:X.N.Nodup)(hi:X.N[i]?=aa x)(hx:HE X.env.scope x)(he:QE X e te)(hs:autoParam (jd e (aa (.Name x W8)) pos.line X.env=ie ak) cF._auto_1)(hf:autoParam (X.fn x=ai \/ X.env.scope.names.lookup x=aa .local) HB._auto_1):
  QS X (.Assign [.Name x W8] e pos) (b6 i te):=by
 refine⟨λE E' ρ w h=>he.mono _ _ _ (λr q=>?_) h,λHZ F=>eK (FB hN hi hx (he.run HZ F) hs hf) λD σ H ⟨ρ,E,fr,h,en⟩=>?_⟩
 ·cases r with
  |v d=>exact w.nx _ q
  |nw d=>exact w.nx _ q
  |ow a d=>exact q
 ·refine he.step fr h λr x H1 q S1 r1=>?_;cases r with
  |v d=>exact en.nx _ _ _ ((fr.mono S1).setv r1) q
  |nw d=>exact en.nx _ _ _ ((fr.mono S1).setv (r1.rep (λa m=>fr.dom m) rfl)) q
  |ow a d=>exact q.elim
theorem hX(hN:X.N.Nodup)(hi:X.N[i]?=aa x)(hx:HE X.env.scope x)(he:QE X e te)(hs:autoParam (jd e (aa (.Name x W8)) pos.line X.env=ie ak) cF._auto_1)(hf:autoParam (X.fn x=ai \/ X.env.scope.names.lookup x=aa .local) HB._auto_1):
  QS X (.Assign [.Name x W8] e pos) (iM i te):=by
 refine⟨λE E' ρ w h=>he.mono _ _ _ (λr q=>?_) h,λHZ F=>eK (FB hN hi hx (he.run HZ F) hs hf) λD σ H ⟨ρ,E,fr,h,en⟩=>?_⟩
 ·cases r with
  |v d=>exact w.nx _ q
  |nw d=>exact λa=>w.nx _ (q a)
  |ow a d=>exact q
 ·refine he.step fr h λr x H1 q S1 r1=>?_;cases r with
  |v d=>exact en.nx _ _ _ ((fr.mono S1).setv r1) q
  |nw d=>
   obtain⟨a,rfl,ha,o⟩:=r1;exact en.nx _ _ _ (fr.seto S1 ha o) (q a)
  |ow a d=>exact q.elim
noncomputable def MB(i:Nat)(p:Dv->Dv->(R->Prop)->Prop)(te:dP):bS:=λE ρ=>match ρ[i]? with
 |some (.v d)=>te ρ λr=>p d r.d λz=>match z with
  | .v d'=>E.nx (ρ.set i (.v d'))
  |_=>False
 |_=>False
noncomputable def mS(i:Nat)(te:dP):bS:=λE ρ=>match ρ[i]? with
 |some (.own a (.lst xs))=>te ρ λr=>(r.free=ai/\xs.length<zK)/\E.nx (ρ.set i (.own a (.lst (xs++[r.d]))))
 |_=>False
theorem yB(h:n<zK):n<bf:=di h (iP (bo _))
theorem qM{p1 p2 p3:jr}(hv:PE X (.Name x p1) (zV i))(he:QE X e te)(hs:autoParam (jd (.Call (.Attribute (.Name x p1) "append" p2) [e] [] p3) aq pos.line X.env=ie ak) cF._auto_1)
  (W4:autoParam (ko (.Name x p1) "append" X.env (fe (.Name x p1) X.env)=fe (.Name x p1) X.env) cF._auto_1)
  (hfew:autoParam (((ip p3 (bb [e] X.env)).all (λx=>!x.1)&&(vh p3 (pq [] X.env)).all (λx=>x.1.isSome)
   && decide ([e].length+([]:List xr).length+(if ([]:List xr).isEmpty then 0 else 1)<30))=ai) cF._auto_1)
  (W5:autoParam ((p2.endLine==p3.line)=ai) cF._auto_1) (hst:autoParam (bb [e] X.env=(ak,fe e X.env)::bb [] X.env) cF._auto_1) (Wa:autoParam ((ip p3 (bb [] X.env)).any (·.1)=ak) cF._auto_1):
  QS X (.Expr (.Call (.Attribute (.Name x p1) "append" p2) [e] [] p3) pos) (mS i te):=by
 refine⟨λE E' ρ w h=>?_,λHZ F=>eK (t7 (JM qe PySem.F.slot_list_append PySem.F.type_list_append wN hv (nS (he.run HZ F) u0 hst) W4 hfew W5 hst Wa) hs) λD σ H ⟨ρ,E,fr,h,en⟩=>?_⟩
 ·unfold mS at *;split at h
  ·exact he.mono _ _ _ (λr q=>⟨q.1,w.nx _ q.2⟩) h
  ·exact h
 ·unfold mS at h;split at h
  ·rename_i a xs hx;obtain⟨hs1,vs,hv1,rv1⟩:=fr.sl i _ hx;refine⟨_,hs1,.inl ⟨rfl,_,fS.of hv1⟩,he.step fr h λr y H1 q S1 r1=>?_⟩;obtain⟨⟨qf,ql⟩,q2⟩:=q;have rep:=r1.rep (λa m=>fr.dom m) qf;have hv2:=S1 _ _ hv1;refine⟨a,vs,y,rfl,rfl,hv2,by rw[rv1.length];exact yB ql,?_⟩;refine en.nx _ _ _ ((fr.mono S1).write (d':=.lst (xs++[r.d])) hx ⟨_,bT,?_⟩) q2;have G:Gen X.K (MM F ρ) (MM F ρ) H1 (upd H1 a (.lst (vs++[y]))):=Gen.write (.inr ⟨_,bw hx⟩) (by rw[hv2];trivial);exact((rv1.mono S1).append (.cons rep .nil)).gen G
  ·exact h.elim
end
open Classical in
noncomputable def prot(H:Hp)(ρ:List Sl):Hp:=λb=>if ∃d,Sl.own b d∈ρ then aq else H b
section
variable {σ':St}{ρ':List Sl}
theorem tY{d:Dv}(h:Sl.own b d∈ρ):prot H ρ b=aq:=by unfold prot;rw[VH ⟨d,h⟩]
theorem cJ(h:¬ ∃d,Sl.own b d∈ρ):prot H ρ b=H b:=by unfold prot;rw[Vn h]
theorem nQ(h:prot H ρ b=aa o):H b=aa o:=by
 by_cases c:∃d,Sl.own b d∈ρ
 ·obtain⟨d,c⟩:=c;rw[tY c] at h;cases h
 ·rw[cJ c] at h;exact h
theorem DO(h:prot H ρ b=aq):(∃d,Sl.own b d∈ρ) \/ H b=aq:=by
 by_cases c:∃d,Sl.own b d∈ρ
 ·exact .inl c
 ·rw[cJ c] at h;exact .inr h
theorem Fr.prot(fr:Fr K HZ F σ H ρ):Fr K (prot H ρ) F σ H ρ:=by
 refine⟨fr.len,fr.sl,fr.nd,λa d h=>tY h,λb o h=>nQ h,λa h=>?_,λP q z=>?_⟩
 ·rw[cJ ?_]
  ·exact fr.dom (.inl h)
  ·rintro⟨d,c⟩;exact fr.old.f a h (fr.new a d c)
 ·have e:=fr.old.t P q z;rw[cJ ?_]
  ·exact fr.same _ _ e
  ·rintro⟨d,c⟩;rw[fr.new P d c] at e;cases e
theorem Fr.free_of(fr:Fr K HZ F σ H ρ)(h:Z.prot H ρ b=aq):HZ b=aq:=by
 rcases DO h with⟨d,c⟩ | h
 ·exact fr.new b d c
 ·exact fr.same.free h
theorem Fr.same_of(fr:Fr K HZ F σ H ρ)(S:aQ (Z.prot H ρ) H'):aQ HZ H':=λb o e=>by
 refine S b o ?_;rw[cJ ?_]
 ·exact fr.same b o e
 ·rintro⟨d,c⟩;rw[fr.new b d c] at e;cases e
theorem Fr.unprot(fr:Fr K HZ F σ H ρ)(g:Fr K (Z.prot H ρ) F σ' H' ρ'):Fr K HZ F σ' H' ρ':=
 ⟨g.len,g.sl,g.nd,λa d h=>fr.free_of (g.new a d h),fr.same_of g.same,fr.old⟩
theorem Fr.gen(fr:Fr K HZ F σ H ρ)(g:Fr K (Z.prot H ρ) F σ' H' ρ'):Gen K (MM F ρ) (MM F ρ') H H':=by
 have no:∀a o,H a=aa o -> ¬MM F ρ a->Z.prot H ρ a=aa o:=λa o e m=>by
  rw[cJ λc=>m (.inr c)];exact e
 have no2:∀a o,H a=aa o -> ¬EH (aa o)->Z.prot H ρ a=aa o:=λa o e m=>by
  rw[cJ ?_]
  ·exact e
  ·rintro⟨d,c⟩;obtain⟨_,_,_,ow⟩:=fr.at_own c;obtain⟨u,hu,mu⟩:=ow.mut;rw[e] at hu;cases hu;exact m mu
 refine⟨λa o e mu m=>⟨g.same _ _ (no a o e m),?_⟩,λa xs e=>g.same _ _ (no2 a _ e λz=>z),λa ns e=>?_,λa o u e=>g.same _ _ (no2 a _ e λz=>z)⟩
 ·rintro(h | ⟨d,h⟩)
  ·exact m (.inl h)
  ·have:=g.new a d h;rw[no a o e m] at this;cases this
 ·rcases e with⟨o,e⟩ | e
  ·exact .inl ⟨o,g.same _ _ (no2 a _ e λz=>z)⟩
  ·exact .inr e
theorem Ent.prot{E:En}{D:Ends}(fr:Fr K HZ F σ H ρ)(en:Ent K HZ F E D):Ent K (Z.prot H ρ) F E D:=by
 refine⟨λρ' σ' H' g h=>en.nx _ _ _ (fr.unprot g) h,λρ' σ' H' g h=>en.bk _ _ _ (fr.unprot g) h,λρ' σ' H' g h=>en.ct _ _ _ (fr.unprot g) h,λr x H' S rr h=>en.rt r x H' (fr.same_of S) ?_ h,λb ρ' σ' H' g h=>en.rw _ _ _ _ (fr.unprot g) h⟩;cases r with
 |v d=>exact rr
 |ow a d=>exact rr
 |nw d=>obtain⟨a,e,n,o⟩:=rr;exact⟨a,e,fr.free_of n,o⟩
end
noncomputable abbrev CA:=List Sl->(List Dv->List (ae×List Dv)->Prop)->Prop
noncomputable def guard(ogs:List (ae×List Dv))(ρ:List Sl):Prop:=∀p∈ogs,Sl.own p.1 (.lst p.2)∈ρ
noncomputable def zF(K:aj)(P:Hp)(M:ae->Prop)(H1:Hp)(J:It)(ds:List Dv)(ogs:List (ae×List Dv)):Prop:=
 ∀(i:Nat) (H':Hp) (M':ae->Prop),aQ P H'->Gen K M M' H1 H'->(∀p∈ogs,dQ K M' H' p.1 (.lst p.2)) ->
  (∀d,ds[i]?=aa d->J.go i H' /\ ∀y H'',J.yld i H' y H''->aQ H' H''/\Rep K M' H'' y d)/\(ds.length<=i->J.stop i H')
structure QI(X:Cx)(tg iter:Expr)(ti:CA):Prop where
 mono:∀(ρ:List Sl) (Q Q':List Dv->List (ae×List Dv)->Prop),(∀ds g,Q ds g->Q' ds g)->ti ρ Q->ti ρ Q'
 run:∀(HZ:Hp) (F:ae->Prop),∃wi,PI X tg iter wi /\ ∀(σ:St) (H:Hp) (ρ:List Sl) (R:It->Hp->Prop),Fr X.K HZ F σ H ρ ->
  ti ρ (λds ogs=>∀J H1,aQ H H1->guard ogs ρ->zF X.K (prot H1 ρ) (MM F ρ) H1 J ds ogs->R J H1)->wi σ H R
variable {P:Hp}{l:Expr}{lo:Int}
section
variable {tl:dP}
noncomputable def ND(K:aj)(tl:TE):TI:=λσ H R=>tl σ H λx H1=>∃a,x=.ref a/\(((∃xs,fS K H1 a xs)/\R (No K a) H1) \/ ((∃xs,kX K H1 a xs)/\R (RX K a) H1))
theorem K4{tl:TE}(hl:PE X l tl):PI X tg l (ND X.K tl):=by
 intro pj s σ H R I h;refine thn (hl pj s σ H _ I h) λv s1 zz=>?_;obtain⟨x,H1,I1,r1,q1⟩:=zz;obtain⟨a,e,q1⟩:=q1;subst e;cases r1;rcases q1 with⟨⟨xs,hq⟩,q⟩ | ⟨⟨xs,hq⟩,q⟩
 ·obtain⟨its,rv,p,hz⟩:=I1.list hq;refine T8 p.isList ?_;refine⟨s1.heap.objs.size,[s1.heap.objs.size],_,_,H1,rfl,I1.kept (t':=s1.toks) λb o e=>ap _ e,D7 a _,⟨_,cp _ rfl,rfl,rfl⟩,λb hb=>?_,q⟩;have e:b=s1.heap.objs.size:=by simpa using hb
  subst e;exact I1.fpOk (bo _) (I1.hok.fresh (bo _))
 ·obtain⟨its,rv,p,hz⟩:=I1.tuple hq;refine wpAny_pyIter_tuple (show s1.heap.IsTuple a its.toArray from p) ?_;refine⟨s1.heap.objs.size,[s1.heap.objs.size],_,_,H1,rfl,I1.kept (t':=s1.toks) λb o e=>ap _ e,BM a _,⟨_,cp _ rfl,rfl,rfl⟩,λb hb=>?_,q⟩;have e:b=s1.heap.objs.size:=by simpa using hb
  subst e;exact I1.fpOk (bo _) (I1.hok.fresh (bo _))
noncomputable def iR(tl:dP):CA:=λρ Q=>tl ρ λr=>match r with
 | .v (.lst ds)=>Q ds []
 | .nw (.lst ds)=>Q ds []
 | .ow a (.lst ds)=>Q ds [(a,ds)]
 | .v (.tup ds)=>Q ds []
 | .v (.scr ns)=>Q (ns.map .int) []
 |_=>False
theorem wQ(hP:P a=aa (.lst xs))(r:Reps K M H1 xs ds):zF K P M H1 (No K a) ds []:=by
 intro i H' M' S G _;have h':=S _ _ hP;refine⟨λd e=>?_,λh=>⟨xs,fS.of h',by rw[r.length];exact h⟩⟩;obtain⟨x,hx,rx⟩:=r.get e;refine⟨⟨xs,x,fS.of h',hx⟩,λy H'' zz=>?_⟩;obtain⟨e1,e2⟩:=zz;subst e1;have:=e2 xs (fS.of h');rw[hx] at this;cases this;exact⟨aQ.refl _,rx.gen G⟩
theorem GH:zF K P M H1 (No K a) ds [(a,ds)]:=by
 intro i H' M' S G ow;obtain⟨xs,h',r⟩:=ow (a,ds) (by simp);refine⟨λd e=>?_,λh=>⟨xs,fS.of h',by rw[r.length];exact h⟩⟩;obtain⟨x,hx,rx⟩:=r.get e;refine⟨⟨xs,x,fS.of h',hx⟩,λy H'' zz=>?_⟩;obtain⟨e1,e2⟩:=zz;subst e1;have:=e2 xs (fS.of h');rw[hx] at this;cases this;exact⟨aQ.refl _,rx⟩
theorem GF(hP:P a=aa (.tup xs))(r:Reps K M H1 xs ds):zF K P M H1 (RX K a) ds []:=by
 intro i H' M' S G _;have h':=S _ _ hP;refine⟨λd e=>?_,λh=>⟨xs,kX.of h',by rw[r.length];exact h⟩⟩;obtain⟨x,hx,rx⟩:=r.get e;refine⟨⟨xs,x,kX.of h',hx⟩,λy H'' zz=>?_⟩;obtain⟨e1,e2⟩:=zz;subst e1;have:=e2 xs (kX.of h');rw[hx] at this;cases this;exact⟨aQ.refl _,rx.gen G⟩
theorem GG(hP:J5 K P a ns):zF K P M H1 (No K a) (ns.map .int) []:=by
 intro i H' M' S G _;have h':=(aQ.scr S hP).sq;refine⟨λd e=>?_,λh=>⟨_,h',by simpa using h⟩⟩;have r:Reps K M' H' (ns.map V.int) (ns.map .int):=Reps.ints ns;obtain⟨x,hx,rx⟩:=r.get e;refine⟨⟨_,x,h',hx⟩,λy H'' zz=>?_⟩;obtain⟨e1,e2⟩:=zz;subst e1;have:=e2 _ h';rw[hx] at this;cases this;exact⟨aQ.refl _,rx⟩
theorem Cb(fr:Fr K HZ F σ H ρ)(e:H a=aa o)(m:¬EH (aa o)):¬ ∃d,Sl.own a d∈ρ:=by
 rintro⟨d,c⟩;obtain⟨_,_,_,ow⟩:=fr.at_own c;obtain⟨u,hu,mu⟩:=ow.mut;rw[e] at hu;cases hu;exact m mu
theorem e9(h:QE X l tl):QI X tg l (iR tl):=by
 refine⟨λρ Q Q' w q=>h.mono _ _ _ (λr q=>?_) q,λHZ F=>⟨_,K4 (h.run HZ F),λσ H ρ R fr q=>?_⟩⟩
 ·unfold iR at *;split at q<;>first | exact w _ _ q | exact q
 ·refine h.step fr q λr x H1 q S1 r1=>?_;have fr1:=fr.mono S1;split at q
  ·rename_i ds;cases r1 with
   |lst e m rs=>
    exact⟨_,rfl,.inl ⟨⟨_,fS.of e⟩,q _ H1 S1 (by intro p hp;simp at hp) (wQ (by rw[cJ λc=>m (.inr c)];exact e) rs)⟩⟩
  ·rename_i ds;obtain⟨a,rfl,n,xs,e,rs⟩:=r1;exact⟨_,rfl,.inl ⟨⟨_,fS.of e⟩,q _ H1 S1 (by intro p hp;simp at hp) (wQ (by rw[cJ λc=>fr.fresh n (.inr c)];exact e) (rs.weak λb z=>.inl z))⟩⟩
  ·rename_i a ds;obtain⟨rfl,m,xs,e,rs⟩:=r1;exact⟨_,rfl,.inl ⟨⟨_,fS.of e⟩,q _ H1 S1 (by intro p hp;simp at hp;subst hp;exact m) GH⟩⟩
  ·rename_i ds;cases r1 with
   |tup e rs=>exact⟨_,rfl,.inr ⟨⟨_,kX.of e⟩,q _ H1 S1 (by intro p hp;simp at hp) (GF (by rw[cJ (Cb fr1 e λz=>z)];exact e) rs)⟩⟩
  ·rename_i ns;cases r1 with
   |scr e=>
    refine⟨_,rfl,.inl ⟨⟨_,e.sq⟩,q _ H1 S1 (by intro p hp;simp at hp) (GG ?_)⟩⟩;rcases e with⟨o,e⟩ | e
    ·exact .inl ⟨o,by rw[cJ (Cb fr1 e λz=>z)];exact e⟩
    ·exact .inr e
  ·exact q.elim
noncomputable def bP(lo:Int)(n:Nat):List Dv:=(ig n).map λ(k:Nat)=>Dv.int (lo+(k:Int))
theorem Ba{d:Dv}(h:(bP lo n)[i]?=aa d):i<n/\d=.int (lo+i):=by
 unfold bP at h;rw[cg] at h;cases e:(ig n)[i]? with
 |none=>rw[e] at h;cases h
 |some k=>
  rw[e] at h;obtain⟨h1,h2⟩:=av.mp e;simp at h1 h2;subst h2;exact⟨h1,(Option.some.inj h).symm⟩
theorem uK:zF K P M H1 (Nn lo n) (bP lo n) []:=by
 intro i H' M' S G _;refine⟨λd e=>?_,λh=>(show n<=i by simpa [bP] using h)⟩;obtain⟨h1,h2⟩:=Ba e;subst h2;refine⟨h1,λy H'' zz=>?_⟩;obtain⟨e1,e2⟩:=zz;subst e1 e2;exact⟨aQ.refl _,.int _⟩
noncomputable def fX(ts:mD):CA:=λρ Q=>ts ρ λrs=>match rs.map R.d with
 | [.int j]=>(-(2 ^ 62)<=j/\j<2 ^ 62)/\Q (bP 0 j.toNat) []
 |_=>False
noncomputable def qS(ts:mD):CA:=λρ Q=>ts ρ λrs=>match rs.map R.d with
 | [.int i,.int j]=>(-(2 ^ 62)<=i/\i<2 ^ 62 /\ -(2 ^ 62)<=j/\j<2 ^ 62)/\Q (bP i (j-i).toNat) []
 |_=>False
theorem fA{d:Dv}(h:BH K M H xs [d]):∃x,xs=[x]/\eB K M H x d:=by
 cases h with
 |cons a t=>cases t;exact⟨_,rfl,a⟩
theorem Gh{d d':Dv}(h:BH K M H xs [d,d']):∃x y,xs=[x,y]/\eB K M H x d/\eB K M H y d':=by
 cases h with
 |cons a t=>
  obtain⟨y,rfl,b⟩:=fA t;exact⟨_,_,rfl,a,b⟩
theorem hZ{a:Expr}{pos:jr}(hg:Gl X "range")(hm:X.mg "range" = aq)(ha:QA X [a] ts)(hs:autoParam (bb [a] X.env=[(ak,fe a X.env)]) cF._auto_1):QI X tg (.Call (.Name "range" p) [a] [] pos) (fX ts):=by
 refine⟨λρ Q Q' w q=>ha.mono _ _ _ (λr q=>?_) q,λHZ F=>⟨_,DS hg hm (ha.run HZ F) hs,λσ H ρ R fr q=>?_⟩⟩
 ·split at q
  ·exact⟨q.1,w _ _ q.2⟩
  ·exact q
 ·refine ha.step fr q λrs xs H1 q S1 r1=>?_;split at q
  ·rename_i j e;have c:=r1.c;rw[e] at c;obtain⟨x,rfl,cx⟩:=fA c;obtain rfl:=cx.int;exact⟨j,rfl,q.1.1,q.1.2,q.2 _ H1 S1 (by intro p hp;simp at hp) uK⟩
  ·exact q.elim
theorem wI{a b:Expr}{pos:jr}(hg:Gl X "range")(hm:X.mg "range" = aq)(ha:QA X [a,b] ts)(hs:autoParam (bb [a,b] X.env=[(ak,fe a X.env),(ak,fe b X.env)]) cF._auto_1)(hs2:autoParam (bb [b] X.env=[(ak,fe b X.env)]) cF._auto_1):
  QI X tg (.Call (.Name "range" p) [a,b] [] pos) (qS ts):=by
 refine⟨λρ Q Q' w q=>ha.mono _ _ _ (λr q=>?_) q,λHZ F=>⟨_,DR hg hm (ha.run HZ F) hs hs2,λσ H ρ R fr q=>?_⟩⟩
 ·split at q
  ·exact⟨q.1,w _ _ q.2⟩
  ·exact q
 ·refine ha.step fr q λrs xs H1 q S1 r1=>?_;split at q
  ·rename_i i j e;have c:=r1.c;rw[e] at c;obtain⟨x,y,rfl,cx,cy⟩:=Gh c;obtain rfl:=cx.int;obtain rfl:=cy.int;exact⟨i,j,rfl,q.1,q.2 _ H1 S1 (by intro p hp;simp at hp) uK⟩
  ·exact q.elim
end
noncomputable abbrev zD:=Dv->List Sl->(List Sl->Prop)->Prop
structure QG(X:Cx)(tg:Expr)(k:Nat)(g:zD):Prop where
 mono:∀d ρ (Q Q':List Sl->Prop),(∀ρ,Q ρ->Q' ρ)->g d ρ Q->g d ρ Q'
 agree:∀d ρ (Q:List Sl->Prop),g d ρ Q->g d ρ λρ1=>Q ρ1/\ρ1.length=ρ.length /\ ∀j,k<=j->ρ1[j]?=ρ[j]?
 run:∃t,PG X tg t /\ ∀(HZ:Hp) (F:ae->Prop) (v:V) (d:Dv) (σ:St) (H:Hp) (ρ:List Sl) (Q:St->Hp->Prop),Fr X.K HZ F σ H ρ->Rep X.K (MM F ρ) H v d ->
  g d ρ (λρ1=>∀σ1,Fr X.K HZ F σ1 H ρ1->(∀j,k<=j->σ1[j]?=σ[j]?)->Q σ1 H)->t v σ H Q
noncomputable def gN(i:Nat):zD:=λd ρ Q=>Q (ρ.set i (.v d))
noncomputable def mR:List Nat->List Dv->List Sl->List Sl
 |i::is,d::ds,ρ=>mR is ds (ρ.set i (.v d))
 |_,_,ρ=>ρ
noncomputable def gT(is:List Nat):zD:=λd ρ Q=>match d with
 | .tup ds=>ds.length=is.length/\Q (mR is ds ρ)
 |_=>False
noncomputable def R1:List Nat->Jb
 | []=>NJ
 |i::is=>JS (Ak i) (R1 is)
theorem tR:∀(is:List Nat) (ds:List Dv) (ρ:List Sl),(mR is ds ρ).length=ρ.length
 | [],_,_=>rfl
 |_::_,[],_=>rfl
 |i::is,d::ds,ρ=>by rw[mR,tR is ds];simp
theorem tT{k:Nat}:∀(is:List Nat) (ds:List Dv) (ρ:List Sl),(∀i∈is,i<k) -> ∀j,k<=j->(mR is ds ρ)[j]?=ρ[j]?
 | [],_,_,_,_,_=>rfl
 |_::_,[],_,_,_,_=>rfl
 |i::is,d::ds,ρ,h,j,hj=>by
  have:=h i (by simp);rw[mR,tT is ds _ (λi hi=>h i (by simp[hi])) j hj,dr ⋯]
section
variable {pos:jr}
theorem iN{k:Nat}(hN:X.N.Nodup)(hi:X.N[i]?=aa x)(hx:HE X.env.scope x)(hk:autoParam (i<k) oQ._auto_1)(hf:autoParam (X.fn x=ai \/ X.env.scope.names.lookup x=aa .local) HB._auto_1):QG X (.Name x pos) k (gN i):=by
 refine⟨λd ρ Q Q' w q=>w _ q,λd ρ Q q=>⟨q,by simp,λj hj=>by rw[dr ⋯]⟩,_,dW hN hi hx hf,λHZ F v d σ H ρ Q fr r q=>?_⟩;exact q _ (fr.setv r) λj hj=>by rw[dr ⋯]
theorem Cn{K:aj}{HZ:Hp}{F:ae->Prop}{H:Hp}{k:Nat}:∀(is:List Nat) (ds:List Dv) (vs:List V) (σ:St) (ρ:List Sl) (Q:St->Hp->Prop),(∀i∈is,i<k)->ds.length=is.length->Fr K HZ F σ H ρ->Reps K (MM F ρ) H vs ds ->
  (∀σ1,Fr K HZ F σ1 H (mR is ds ρ)->(∀j,k<=j->σ1[j]?=σ[j]?)->Q σ1 H)->R1 is vs σ H Q
 | [],[],_,σ,ρ,Q,_,_,fr,.nil,q=>⟨rfl,q σ fr λ_ _=>rfl⟩
 |i::is,d::ds,_,σ,ρ,Q,hk,hl,fr,.cons (x:=x) a r,q=>by
  refine⟨x,_,rfl,?_⟩;have wk:∀b,MM F (ρ.set i (.v d)) b->MM F ρ b:=λb h=>by
   rcases MM.set b h with h | ⟨_,h⟩
   ·exact h
   ·cases h
  refine Cn is ds _ _ (ρ.set i (.v d)) Q (λi hi=>hk i (by simp[hi])) (by simpa using hl) (fr.setv a) (r.weak wk) λσ1 f1 e1=>q σ1 f1 λj hj=>?_;have:=hk i (by simp);rw[e1 j hj,dr ⋯]
theorem DN{x1 k:Nat}{is:List Nat}(hc:X.calm=ai)(h:Nm X es (R1 is))(hk:autoParam (∀i∈is,i<k) oQ._auto_1)(hl:autoParam (is.length=n) cF._auto_1)
  (hn:autoParam ((nq es X.env).length=n) cF._auto_1) (hst:autoParam ((nq es X.env).findIdx? (·.1)=aq) cF._auto_1):QG X (.Tuple es x1 pos) k (gT is):=by
 refine⟨λd ρ Q Q' w q=>?_,λd ρ Q q=>?_,_,K9 hc h hn hst,λHZ F v d σ H ρ Q fr r q=>?_⟩
 ·unfold gT at *;split at q
  ·exact⟨q.1,w _ q.2⟩
  ·exact q
 ·unfold gT at *;split at q
  ·exact⟨q.1,q.2,tR _ _ _,tT _ _ _ hk⟩
  ·exact q
 ·unfold gT at q;split at q
  ·cases r with
   |tup e rs=>exact⟨_,_,rfl,kX.of e,by rw[rs.length,q.1,hl],Cn is _ _ σ ρ Q hk q.1 fr rs q.2⟩
  ·exact q.elim
end
noncomputable def bI(g:zD)(tb:bS)(ogs:List (ae×List Dv)):List Dv->bS
 | []=>λE ρ=>guard ogs ρ/\E.nx ρ
 |d::r=>λE ρ=>guard ogs ρ/\g d ρ λρ1=>tb { E with nx:=bI g tb ogs r E,ct:=bI g tb ogs r E,bk:=E.nx } ρ1
noncomputable def j6(ti:CA)(g:zD)(tb:bS):bS:=λE ρ=>ti ρ λds ogs=>bI g tb ogs ds E ρ
section
variable {VO c:Expr}{ti:CA}{g:zD}{tb:bS}{VU:List jm}{pos:jr}{k:Nat}
theorem pF(mg:∀d ρ (Q Q':List Sl->Prop),(∀ρ,Q ρ->Q' ρ)->g d ρ Q->g d ρ Q')(mb:∀E E' ρ,EnLe E E'->tb E ρ->tb E' ρ)(ogs:List (ae×List Dv)):∀(ds:List Dv) (E E':En) (ρ:List Sl),EnLe E E'->bI g tb ogs ds E ρ->bI g tb ogs ds E' ρ
 | [],E,E',ρ,w,h=>⟨h.1,w.nx _ h.2⟩
 |d::r,E,E',ρ,w,h=>by
  have w2:EnLe { E with nx:=bI g tb ogs r E,ct:=bI g tb ogs r E,bk:=E.nx } { E' with nx:=bI g tb ogs r E',ct:=bI g tb ogs r E',bk:=E'.nx }:=
   ⟨λρ h=>pF mg mb ogs r E E' ρ w h,w.rt,w.nx,λρ h=>pF mg mb ogs r E E' ρ w h,w.rw⟩
  exact⟨h.1,mg _ _ _ _ (λρ1 h=>mb _ _ _ w2 h) h.2⟩
theorem cA(ogs:List (ae×List Dv))(E:En)(ρ:List Sl):bI g tb ogs [] E ρ=(guard ogs ρ/\E.nx ρ):=rfl
theorem cK(ogs:List (ae×List Dv))(d:Dv)(r:List Dv)(E:En)(ρ:List Sl):bI g tb ogs (d::r) E ρ=(guard ogs ρ/\g d ρ λρ1=>tb { E with nx:=bI g tb ogs r E,ct:=bI g tb ogs r E,bk:=E.nx } ρ1):=rfl
theorem Am{ogs:List (ae×List Dv)}:∀{ds:List Dv},bI g tb ogs ds E ρ->guard ogs ρ
 | [],h=>by rw[cA] at h;exact h.1
 |_::_,h=>by rw[cK] at h;exact h.1
theorem gL(hp:Tt (bv X.prog X.w) X.A X.env X.xe)(hc:X.N=X.N)(hi:QI X tg VO ti)(hg:QG X tg k g)(hb:QSs X VU tb)(hs:autoParam (∀x,fu VO X.env x=ie x) EJ._auto_1):QS X (.For tg VO VU [] pos) (j6 ti g tb):=by
 refine⟨λE E' ρ w h=>hi.mono _ _ _ (λds ogs h=>pF hg.mono hb.mono ogs ds E E' ρ w h) h,λHZ F=>?_⟩;obtain⟨wi,hwi,wiq⟩:=hi.run HZ F;obtain⟨tt,htt,ttq⟩:=hg.run;have hb':xC X VU (λD σ H=>∃P,liftS X.K P F tb D σ H):=λpj s σ H D I zq6=>by obtain⟨P,q⟩:=zq6;exact hb.run P F pj s σ H D I q
 refine eK (Jy hp hc hwi htt hb' hs) λD σ H zz=>?_;obtain⟨ρ,E,fr,h,en⟩:=zz;refine wiq σ H ρ _ fr (hi.mono _ _ _ (λds ogs q J H2 S2 _ ok=>?_) h);have fr2:=fr.mono S2;have en2:Ent X.K (prot H2 ρ) F E D:=en.prot fr2;refine⟨λi m σ' H'=>m=ds.length-i/\i<=ds.length /\ ∃ρ',Fr X.K (prot H2 ρ) F σ' H' ρ'/\bI g tb ogs (ds.drop i) E ρ',⟨ds.length,by simp,nj _,ρ,fr2.prot,by simpa using q⟩,?_⟩;rintro i m σ' H' ⟨rfl,hil,ρ',fr',q'⟩;have gd:guard ogs ρ':=Am q';have Gn:=fr2.gen fr';have oks:=ok i H' (MM F ρ') fr'.same Gn λp hp=>let ⟨_,_,_,h⟩:=fr'.at_own (gd p hp);h;by_cases hlt:i<ds.length
 ·have hd:ds[i]?=aa ds[i]:=by simp[hlt]
  have hdr:ds.drop i=ds[i]::ds.drop (i+1):=eg hlt;rw[hdr,cK] at q';obtain⟨go,yld⟩:=oks.1 _ hd;refine .inr ⟨go,λσ2 H2'=>∃ρ2,Fr X.K (prot H2 ρ) F σ2 H2' ρ2/\bI g tb ogs (ds.drop (i+1)) E ρ2,λσ2 H2' zq0=>by obtain⟨ρ2,f2',q2⟩:=zq0;exact⟨ds.length-(i+1),⋯,rfl,hlt,ρ2,f2',q2⟩,λy H3 hy=>?_⟩;obtain⟨S3,ry⟩:=yld y H3 hy;refine ttq _ F y _ σ' H3 ρ' _ (fr'.mono S3) ry (hg.mono _ _ _ _ (λρ1 q1 σ1 f1 _=>?_) q'.2);exact⟨_,ρ1,_,f1,q1,λρ3 σ3 H3' f3 q3=>⟨ρ3,f3,q3⟩,en2.nx,λρ3 σ3 H3' f3 q3=>⟨ρ3,f3,q3⟩,en2.rt,en2.rw⟩
 ·have e:i=ds.length:=⋯;subst e;rw[TZ,cA] at q';exact .inl ⟨oks.2 (bo _),en2.nx _ _ _ fr' q'.2⟩
end
end Z
variable {Q:Z.R->Prop}{te:Z.dP}{ds:List Z.Dv}{ρ:List Z.Sl}
namespace Z
open L2
noncomputable def Er(tc:kZ)(tb:bS):bS:=λE ρ=>∃I:Nat->List Sl->Prop,(∃m,I m ρ) /\ ∀m ρ,I m ρ->tc ρ λb=>
 if b=ai then tb { E with nx:=λρ'=>∃m',m'<m/\I m' ρ',ct:=λρ'=>∃m',m'<m/\I m' ρ',bk:=E.nx } ρ else E.nx ρ
variable {js:List Nat}{σ:St}{j:Nat}{HZ:Hp}{g:zD}{elt VO:Expr}{ti:CA}{ts:mD}
section
variable {c:Expr}{tb:bS}{VU:List jm}{pos:jr}{k:Nat}{tc:kZ}
theorem HY(hp:Tt (bv X.prog X.w) X.A X.env X.xe)(hc:QT X c tc)(hb:QSs X VU tb):QS X (.While c VU [] pos) (Er tc tb):=by
 refine⟨λE E' ρ w h=>?_,λHZ F=>eK (FA hp (hc.run HZ F) (hb.run HZ F)) λD σ H ⟨ρ,E,fr,h,en⟩=>?_⟩
 ·obtain⟨I,i0,step⟩:=h;refine⟨I,i0,λm ρ hI=>hc.mono _ _ _ (λb q=>?_) (step m ρ hI)⟩;have w2:EnLe { E with nx:=λρ'=>∃m',m'<m/\I m' ρ',ct:=λρ'=>∃m',m'<m/\I m' ρ',bk:=E.nx } { E' with nx:=λρ'=>∃m',m'<m/\I m' ρ',ct:=λρ'=>∃m',m'<m/\I m' ρ',bk:=E'.nx }:=
   ⟨λ_ h=>h,w.rt,w.nx,λ_ h=>h,w.rw⟩
  split at q
  ·rw[VH ‹_›];exact hb.mono _ _ _ w2 q
  ·rw[Vn ‹_›];exact w.nx _ q
 ·obtain⟨I,⟨m0,i0⟩,step⟩:=h;refine⟨λm σ H=>∃ρ,Fr X.K HZ F σ H ρ/\I m ρ,⟨m0,ρ,fr,i0⟩,?_⟩;rintro m σ H ⟨ρ,fr,hI⟩;refine hc.step fr (step m ρ hI) λb H1 q S1=>?_;cases b with
  |true=>
   simp only[if_true] at q;refine lZ ⟨λσ' H'=>∃m',m'<m /\ ∃ρ',Fr X.K HZ F σ' H' ρ'/\I m' ρ',λσ' H' zq1=>by obtain⟨m',l,h⟩:=zq1;exact⟨m',l,h⟩,ρ,_,fr.mono S1,q,?_,en.nx,?_,en.rt,en.rw⟩
   ·rintro ρ' σ' H' fr' ⟨m',l,h⟩;exact⟨m',l,ρ',fr',h⟩
   ·rintro ρ' σ' H' fr' ⟨m',l,h⟩;exact⟨m',l,ρ',fr',h⟩
  |false=>exact oF (en.nx _ _ _ (fr.mono S1) (by simpa using q))
noncomputable def eL(js:List Nat)(ρ:List Sl):List Sl:=js.map λj=>(ρ[j]?).getD .un
noncomputable def cP(ρ0:List Sl)(g:zD)(tt:kZ)(te:dP):List Dv->List Dv->(R->Prop)->Prop
 | [],acc,Q=>Q (.nw (.lst acc))
 |d::r,acc,Q=>g d ρ0 λρ1=>tt ρ1 λb=>if b=ai then te ρ1 λv=>(v.free=ai/\acc.length<zK)/\cP ρ0 g tt te r (acc++[v.d]) Q else cP ρ0 g tt te r acc Q
noncomputable def fN(k:Nat)(js:List Nat)(ti:CA)(g:zD)(tt:kZ)(te:dP):dP:=λρ Q=>ti ρ λds _=>cP (ao k .un++eL js ρ) g tt te ds [] Q
structure QTs(X:Cx)(ifs:List Expr)(t:kZ):Prop where
 mono:∀(ρ:List Sl) (Q Q':Bool->Prop),(∀r,Q r->Q' r)->t ρ Q->t ρ Q'
 run:∀(HZ:Hp) (F:ae->Prop),LQ X ifs (liftT X.K HZ F t)
noncomputable def lX:kZ:=λ_ Q=>Q ai
theorem sZ:QTs X [] lX:=⟨λ_ _ _ w q=>w _ q,λHZ F pj s σ H Q I zq2=>by obtain⟨ρ,fr,q⟩:=zq2;exact Hg pj s σ H Q I (q H (aQ.refl _))⟩
theorem jU{t:kZ}(h:QT X c t):QTs X [c] t:=⟨h.mono,λHZ F=>Hf (h.run HZ F)⟩
theorem kL{s:Sl}(h:(eL js ρ)[i]?=aa s)(hs:s ≠ .un):∃j,js[i]?=aa j/\ρ[j]?=aa s:=by
 unfold eL at h;rw[cg] at h;cases e:js[i]? with
 |none=>rw[e] at h;cases h
 |some j=>
  rw[e] at h;refine⟨j,rfl,?_⟩;have h':(ρ[j]?).getD .un=s:=Option.some.inj h;cases q:ρ[j]? with
  |none=>rw[q] at h';exact absurd h'.symm hs
  |some o=>rw[q] at h';exact congrArg aa h'
theorem CV{x:V}(hj:js[i]?=aa j)(h:σ[j]?=aa (aa x)):(pick js σ)[i]?=aa (aa x):=by
 unfold pick;rw[cg,hj,sm,h];rfl
theorem jZ{ρ0:List Sl}{tt:kZ}(mg:∀d ρ (Q Q':List Sl->Prop),(∀ρ,Q ρ->Q' ρ)->g d ρ Q->g d ρ Q')(mt:∀(ρ:List Sl) (Q Q':Bool->Prop),(∀r,Q r->Q' r)->tt ρ Q->tt ρ Q')(me:∀(ρ:List Sl) (Q Q':R->Prop),(∀r,Q r->Q' r)->te ρ Q->te ρ Q'):
  ∀(ds acc:List Dv) (Q Q':R->Prop),(∀r,Q r->Q' r)->cP ρ0 g tt te ds acc Q->cP ρ0 g tt te ds acc Q'
 | [],acc,Q,Q',w,h=>w _ h
 |d::r,acc,Q,Q',w,h=>by
  refine mg _ _ _ _ (λρ1 h=>mt _ _ _ (λb h=>?_) h) h;split at h
  ·rw[VH ‹_›];exact me _ _ _ (λv h=>⟨h.1,jZ mg mt me r _ Q Q' w h.2⟩) h
  ·rw[Vn ‹_›];exact jZ mg mt me r _ Q Q' w h
theorem Df{l:List Nat}(hN:l.Nodup){x:Nat}(a:l[i]?=aa x)(b:l[j]?=aa x):i=j:=by
 obtain⟨h1,e1⟩:=av.mp a;obtain⟨h2,e2⟩:=av.mp b;have P:=cw.mp hN;rcases sh i j with h | h | h
 ·exact absurd (e1.trans e2.symm) (P i j h1 h2 h)
 ·exact h
 ·exact absurd (e2.trans e1.symm) (P j i h2 h1 h)
theorem Fr.block{H2:Hp}{k:Nat}{D:ae}{old:St}(fr:Fr K HZ F σ H ρ)(S:aQ H H2)(hD:H D=aq)(hD2:H2 D≠aq)(nd:js.Nodup)(lo:old.length=k):
  ∃(P:Hp) (F':ae->Prop),Fr K P F' (old++pick js σ) H2 (ao k .un++eL js ρ)/\(∀a,MM F' (ao k .un++eL js ρ) a ↔ MM F ρ a \/ a=D)/\(∀a,F' a ↔ (MM F ρ a \/ a=D) /\ ¬ ∃d,Sl.own a d∈eL js ρ):=by
 have mem:∀{a:ae} {d:Dv},Sl.own a d∈ao k Sl.un++eL js ρ->Sl.own a d∈eL js ρ:=λh=>by
  rcases de.mp h with h | h
  ·cases cr h
  ·exact h
 have sub:∀{a:ae} {d:Dv},Sl.own a d∈eL js ρ->Sl.own a d∈ρ:=λh=>by
  obtain⟨i,e⟩:=ls.mp h;obtain⟨j,_,e2⟩:=kL e (by intro z;cases z);exact bw e2
 refine⟨Z.prot H2 (eL js ρ),λa=>(MM F ρ a \/ a=D) /\ ¬ ∃d,Sl.own a d∈eL js ρ,?_,λa=>⟨λh=>?_,λh=>?_⟩,λa=>Iff.rfl⟩
 ·have iff:∀a,MM (λa=>(MM F ρ a \/ a=D) /\ ¬ ∃d,Sl.own a d∈eL js ρ) (ao k .un++eL js ρ) a->MM F ρ a \/ a=D:=λa h=>by
   rcases h with h | ⟨d,h⟩
   ·exact h.1
   ·exact .inl (.inr ⟨d,sub (mem h)⟩)
  have G:Gen K (MM F ρ) (MM (λa=>(MM F ρ a \/ a=D) /\ ¬ ∃d,Sl.own a d∈eL js ρ) (ao k .un++eL js ρ)) H H2:=((Gen.fresh hD).trans (.mono S)).trans (.weak iff);refine⟨by simp[pick,eL,lo],λi s e=>?_,λi j a d d' e1 e2=>?_,λa d h=>tY (mem h),λb o h=>nQ h,λa h=>?_,λPt q z=>?_⟩
  ·by_cases hi:i<k
   ·rw[bj (by simpa using hi),gh,VH hi] at e;cases e;trivial
   ·rw[bt (by simpa using jn hi),lr] at e;rw[bt (by rw[lo];exact jn hi),lo];cases s with
    |un=>trivial
    |v d=>
     obtain⟨j,hj,e2⟩:=kL e (by intro z;cases z);obtain⟨x,hx,r⟩:=fr.sl j _ e2;exact⟨x,CV hj hx,r.gen G⟩
    |own a d=>
     obtain⟨j,hj,e2⟩:=kL e (by intro z;cases z);obtain⟨hx,r⟩:=fr.sl j _ e2;exact⟨CV hj hx,r.gen G λo e=>S _ _ e⟩
  ·have ge:∀{i:Nat} {d:Dv},(ao k Sl.un++eL js ρ)[i]?=aa (.own a d)->k<=i/\(eL js ρ)[i-k]?=aa (.own a d):=λ{i d} e=>by
    by_cases hi:i<k
    ·rw[bj (by simpa using hi),gh,VH hi] at e;cases e
    ·rw[bt (by simpa using jn hi),lr] at e;exact⟨jn hi,e⟩
   obtain⟨k1,e1⟩:=ge e1;obtain⟨k2,e2⟩:=ge e2;obtain⟨j1,hj1,e1⟩:=kL e1 (by intro z;cases z);obtain⟨j2,hj2,e2⟩:=kL e2 (by intro z;cases z);have:=fr.nd j1 j2 a d d' e1 e2;subst this;have:=Df nd hj1 hj2;ac_rfl
  ·rw[cJ h.2];rcases h.1 with m | m
   ·intro z;exact fr.dom m (S.free z)
   ·rw[m];exact hD2
  ·have e:=fr.old.t Pt q z;rw[cJ ?_]
   ·exact S _ _ (fr.same _ _ e)
   ·rintro⟨d,c⟩;rw[fr.new Pt d (sub c)] at e;cases e
 ·rcases h with h | ⟨d,h⟩
  ·exact h.1
  ·exact .inl (.inr ⟨d,sub (mem h)⟩)
 ·by_cases c:∃d,Sl.own a d∈eL js ρ
  ·obtain⟨d,c⟩:=c;exact .inr ⟨d,cu _ c⟩
  ·exact .inl ⟨h,c⟩
end
inductive liftG(K:aj)(k:Nat)(g:zD)(v:V)(σ:St)(H:Hp)(Q:St->Hp->Prop):Prop
 |mk (d:Dv) (HZ:Hp) (F:ae->Prop) (ρ:List Sl) (fr:Fr K HZ F σ H ρ) (r:Rep K (MM F ρ) H v d) (h:g d ρ (λρ1=>∀σ1,Fr K HZ F σ1 H ρ1->(∀j,k<=j->σ1[j]?=σ[j]?)->Q σ1 H))
theorem QG.pg{k:Nat}(h:QG X tg k g):PG X tg (liftG X.K k g):=by
 obtain⟨t,ht,tq⟩:=h.run;intro pj s σ H v u Q I r ⟨d,HZ,F,ρ,fr,rv,q⟩;exact ht pj s σ H v u Q I r (tq HZ F v d σ H ρ Q fr rv q)
theorem QE.pe(h:QE X e te):PE X e (λσ H Q=>∃HZ F,lift X.K HZ F te σ H Q):=λpj s σ H Q I zq3=>by obtain⟨HZ,F,q⟩:=zq3;exact h.run HZ F pj s σ H Q I q
theorem QTs.pt{tt:kZ}(h:QTs X ifs tt):LQ X ifs (λσ H Q=>∃HZ F,liftT X.K HZ F tt σ H Q):=λpj s σ H Q I zq4=>by obtain⟨HZ,F,q⟩:=zq4;exact h.run HZ F pj s σ H Q I q
theorem zX{l a b:List α}{k:Nat}(ha:a.length=k)(hl:l.length=k+b.length)(h:∀j,k<=j->l[j]?=(a++b)[j]?):l=l.take k++b:=by
 refine oa λj=>?_;by_cases hj:j<k
 ·rw[bj (by rw[cv];ac_rfl),kq hj]
 ·rw[h j ⋯,bt ⋯,bt (by rw[cv];ac_rfl),ha,cv,nr ⋯]
section
variable {pos:jr}
theorem Jv{tgt:Expr}{cl:List (bi×ae)}{tgs ns:List bi}{k:Nat}{tt:kZ}(hc:X.N=X.N)(hk:tgs.length=k)
  (hi:QI X tgt VO ti) (hg:∀(fp:List ae) (s:ah) (H:Hp),QG (pN X VI cl fp (tgs++ns) s H) tgt k g) (ht:∀(fp:List ae) (s:ah) (H:Hp),QTs (pN X VI cl fp (tgs++ns) s H) ifs tt)
  (he:∀(fp:List ae) (s:ah) (H:Hp),QE (pN X VI cl fp (tgs++ns) s H) elt te)
  (W6:rn VI X.env=ie cl) (VY:∀x c,cl.lookup x=aa c->X.env.cells.lookup x=aa c)
  (Wb:∀x,((fm VI X.env).names.lookup x=aa .cell \/ (fm VI X.env).names.lookup x=aa .free) -> ∃c,cl.lookup x=aa c)
  (hjs:js.map (λj=>X.N[j]?)=ns.map aa) (hin:∀y∈ns,(fm VI X.env).names.lookup y=aa .cell \/ (fm VI X.env).names.lookup y=aa .free)
  (W7:∀y∈ns,X.env.kindOf y=aa .cell \/ X.env.kindOf y=aa .free) (nd:js.Nodup)
  (VP:autoParam (∀y∈VI.names,y.2 ≠ .cell) CD._auto_1) (VS:autoParam (VI.kind=.function) cF._auto_1)
  (VQ:autoParam (∀y∈VI.names,y.2=.local->VI.names.lookup y.1=aa .local) CD._auto_1)
  (hs:autoParam (∀z,fu VO X.env z=ie z) EJ._auto_1):
  QE X (.ListComp elt [⟨tgt,VO,ifs,0⟩] VI pos) (fN k js ti g tt te):=by
 have mg:=(hg [] X.s₀ λ_=>aq).mono;have ag:=(hg [] X.s₀ λ_=>aq).agree;have mt:=(ht [] X.s₀ λ_=>aq).mono;have me:=(he [] X.s₀ λ_=>aq).mono;refine⟨λρ Q Q' w h=>hi.mono _ _ _ (λds ogs h=>jZ mg mt me ds [] Q Q' w h) h,λHZ F=>?_⟩;obtain⟨wi,hwi,wiq⟩:=hi.run HZ F;refine cT (FM (tgs:=tgs) (ns:=ns) (js:=js) (g:=liftG X.K k g) (tt:=λσ H Q=>∃HZ F,liftT X.K HZ F tt σ H Q) (te:=λσ H Q=>∃HZ F,lift X.K HZ F te σ H Q) hc hwi (λfp s H=>(hg fp s H).pg) (λfp s H=>(ht fp s H).pt) (λfp s H=>(he fp s H).pe) W6 VY Wb hjs hin W7 VP VS VQ hs) λσ H Q zz=>?_;obtain⟨ρ,fr,h⟩:=zz;subst hk;refine wiq σ H ρ _ fr (hi.mono _ _ _ (λds ogs q J H1 S1 gd ok=>?_) h);intro D hD;have fr1:=fr.mono S1;refine⟨λi m acc H2=>m=ds.length-i/\i<=ds.length/\aQ H1 H2 /\ ∃accD,Reps X.K (λa=>MM F ρ a \/ a=D) H2 acc accD /\
  cP (ao tgs.length .un++eL js ρ) g tt te (ds.drop i) accD (λr=>∀x H',aQ H H'->dU X.K (MM F ρ) (zJ ρ) H x r H'->Q x H'),
  ⟨ds.length,by simp,nj _,aQ.new' hD,[],.nil,by simpa using q⟩,?_⟩
 rintro i m acc H2 ⟨rfl,hil,S2,accD,ra,q⟩ hDl;have G2:Gen X.K (MM F ρ) (λa=>MM F ρ a \/ a=D) H1 H2:=(Gen.fresh hD).trans (.mono S2);have oks:=ok i H2 (λa=>MM F ρ a \/ a=D) (λb o e=>S2 _ _ (nQ e)) G2 λp hp=>by
  obtain⟨_,_,_,ow⟩:=fr1.at_own (gd p hp);exact ow.gen G2 λo e=>S2 _ _ e
 by_cases hlt:i<ds.length
 ·have hd:ds[i]?=aa ds[i]:=by simp[hlt]
  rw[eg hlt] at q;obtain⟨go,yld⟩:=oks.1 _ hd;refine .inr ⟨go,λy H3 hy old lo=>?_⟩;obtain⟨S3,ry⟩:=yld y H3 hy;have hD3:=S3 _ _ hDl;obtain⟨P,F',fr',iff,iffF⟩:=fr1.block (js:=js) (old:=old) (S2.trans S3) hD (by rw[hD3];simp) nd lo;refine⟨_,P,F',_,fr',ry.weak λa z=>(iff a).mp z,mg _ _ _ _ (λρ1 q1 σ1 f1 a1=>?_) (ag _ _ _ q)⟩;obtain⟨q1,l1,b1⟩:=q1;have up:∀a,MM F ρ a \/ a=D->MM F' ρ1 a:=λa z=>by
   rcases(iff a).mpr z with z | ⟨d,z⟩
   ·exact .inl z
   ·refine .inr ⟨d,?_⟩;obtain⟨j,e⟩:=ls.mp z;have hj:tgs.length<=j:=by
     by_cases hj:j<tgs.length
     ·rw[bj (by simpa using hj),gh,VH hj] at e;cases e
     ·ac_rfl
    rw[<- b1 j hj] at e;exact bw e
  have hlen:σ1.length=tgs.length+(pick js σ).length:=by
   have:=f1.len;rw[l1] at this;simp[pick,eL] at this ⊢;ac_rfl
  refine⟨⟨σ1.take tgs.length,by rw[cv];ac_rfl,zX lo hlen a1⟩,P,F',ρ1,f1,mt _ _ _ (λb q5 H5 S5=>?_) q1⟩;have S25:=(S2.trans S3).trans S5;cases b with
  |true=>
   simp only[if_true] at q5;refine lZ ⟨P,F',ρ1,f1.mono S5,me _ _ _ (λr q6 x H6 S6 rx=>?_) q5⟩;have hD6:=S6 _ _ (S5 _ _ hD3);obtain⟨⟨rf,rl⟩,q6⟩:=q6;have rep:=(rx.rep (λa z=>(f1.mono S5).dom z) rf).weak up;refine⟨hD6,by rw[ra.length];exact yB rl,ds.length-(i+1),⋯,rfl,hlt,λb o e=>?_,_,?_,q6⟩
   ·rw[bC (b7 e hD)];exact S6 _ _ (S25 _ _ e)
   ·have G6:Gen X.K (λa=>MM F ρ a \/ a=D) (λa=>MM F ρ a \/ a=D) H6 (upd H6 D (.lst (acc++[x]))):=Gen.write (.inr rfl) (by rw[hD6];trivial);exact((ra.mono ((S3.trans S5).trans S6)).append (.cons rep .nil)).gen G6
  |false=>
   simp only[dk,if_false] at q5;exact oF ⟨S5 _ _ hD3,ds.length-(i+1),⋯,rfl,hlt,S25,accD,ra.mono (S3.trans S5),q5⟩
 ·have e:i=ds.length:=⋯;subst e;rw[TZ] at q;exact .inl ⟨oks.2 (bo _),q (.ref D) H2 (S1.trans S2) ⟨D,rfl,S1.free hD,acc,hDl,ra⟩⟩
end
noncomputable def nK(X:Cx)(f:ac)(p:List Dv->(R->Prop)->Prop):Prop:=
 (∀ds (Q Q':R->Prop),(∀r,Q r->Q' r)->p ds Q->p ds Q') /\ ∃r:List V->Hp->VK->Prop,fO X f r /\ ∀(M:ae->Prop) (O:ae->Dv->Prop) (H:Hp) (xs:List V) (ds:List Dv) (Q:VK),BH X.K M H xs ds ->
  p ds (λrr=>∀z H',aQ H H'->dU X.K M O H z rr H'->Q z H')->r xs H Q
noncomputable def fR(p:List Dv->(R->Prop)->Prop)(ts:mD):dP:=λρ Q=>ts ρ λrs=>p (rs.map R.d) Q
variable {T:String}{p2:jr}
section
variable {pos:jr}{id:String}{pp:List Dv->(R->Prop)->Prop}
theorem Cr{r:List V->Hp->VK->Prop}(ha:QA X es ts)(mo:∀ds (Q Q':R->Prop),(∀r,Q r->Q' r)->pp ds Q->pp ds Q')
  (hr:∀(M:ae->Prop) (O:ae->Dv->Prop) (H:Hp) (xs:List V) (ds:List Dv) (Q:VK),BH X.K M H xs ds->pp ds (λrr=>∀z H',aQ H H'->dU X.K M O H z rr H'->Q z H')->r xs H Q)
  (HZ:Hp) (F:ae->Prop) (σ:St) (H:Hp) (Q:VK) (h:lift X.K HZ F (fR pp ts) σ H Q):PM r (liftA X.K HZ F ts) σ H Q:=by
 obtain⟨ρ,fr,h⟩:=h;refine ha.step fr h λrs xs H1 q S1 r1=>?_;exact hr (MM F ρ) (zJ ρ) H1 xs _ Q r1.c (mo _ _ _ (λrr k z H' S rz=>k z H' (S1.trans S) (rz.ahead S1)) q)
theorem aY(hc:nK X (.builtin id) pp)(hg:Gl X x)(hm:X.mg x=aq)(hv:mh x=aa (.builtin id))(ha:QA X (e::es) ts)(hn:autoParam (x ≠ "__name__") oQ._auto_1)(hdb:autoParam ((x==("__debug__" : bi))=ak) oQ._auto_1)
  (he:autoParam (bb (e::es) X.env=(ak,fe e X.env)::bb es X.env) cF._auto_1) (hpl:autoParam ((ip pos (bb es X.env)).any (·.1)=ak) cF._auto_1):QE X (.Call (.Name x p) (e::es) [] pos) (fR pp ts):=by
 obtain⟨mo,r,hR,hr⟩:=hc;exact⟨λρ Q Q' w q=>ha.mono _ _ _ (λrs q=>mo _ _ _ w q) q,λHZ F=>cT (AE hR hg hm hv (ha.run HZ F) hn hdb he hpl) (Cr ha mo hr HZ F)⟩
theorem iO(hc:nK X (.type T) pp)(hg:Gl X x)(hm:X.mg x=aq)(hv:mh x=aa (.type T))(ha:QA X (e::es) ts)(hn:autoParam (x ≠ "__name__") oQ._auto_1)(hdb:autoParam ((x==("__debug__" : bi))=ak) oQ._auto_1)
  (he:autoParam (bb (e::es) X.env=(ak,fe e X.env)::bb es X.env) cF._auto_1) (hpl:autoParam ((ip pos (bb es X.env)).any (·.1)=ak) cF._auto_1):QE X (.Call (.Name x p) (e::es) [] pos) (fR pp ts):=by
 obtain⟨mo,r,hR,hr⟩:=hc;exact⟨λρ Q Q' w q=>ha.mono _ _ _ (λrs q=>mo _ _ _ w q) q,λHZ F=>cT (rO hR hg hm hv (ha.run HZ F) hn hdb he hpl) (Cr ha mo hr HZ F)⟩
noncomputable def d9:List Dv->(R->Prop)->Prop
 | [.lst xs],Q=>Q (.v (.int xs.length))
 | [.tup xs],Q=>Q (.v (.int xs.length))
 | [.scr ns],Q=>Q (.v (.int ns.length))
 | [.str y],Q=>y.length<=zK/\Q (.v (.int y.length))
 |_,_=>False
theorem bZ:nK X (.builtin "len") d9:=by
 refine⟨λds Q Q' w h=>?_,_,z9.or z8,λM O H xs ds Q c h=>?_⟩
 ·unfold d9 at *;split at h<;>first | exact w _ h | exact⟨h.1,w _ h.2⟩ | exact h
 ·unfold d9 at h;split at h
  ·obtain⟨x,rfl,cx⟩:=fA c;obtain⟨a,ys,rfl,ea,ra⟩:=cx.lst;refine .inl ⟨a,ys,rfl,.inl (fS.of ea),?_⟩;rw[ra.length];exact h _ H (aQ.refl _) (Rep.int _)
  ·obtain⟨x,rfl,cx⟩:=fA c;obtain⟨a,ys,rfl,ea,ra⟩:=cx.tup;refine .inl ⟨a,ys,rfl,.inr (kX.of ea),?_⟩;rw[ra.length];exact h _ H (aQ.refl _) (Rep.int _)
  ·obtain⟨x,rfl,cx⟩:=fA c;obtain⟨a,rfl,ea⟩:=cx.scr;refine .inl ⟨a,_,rfl,.inl ea.sq,?_⟩;rw[ay];exact h _ H (aQ.refl _) (Rep.int _)
  ·obtain⟨x,rfl,cx⟩:=fA c;obtain rfl:=cx.str;exact .inr ⟨_,rfl,iP h.1,h.2 _ H (aQ.refl _) (Rep.int _)⟩
  ·exact h.elim
noncomputable def Dc:List Dv->(R->Prop)->Prop
 | [.int i],Q=>Q (.v (.int (if i<0 then -i else i)))
 |_,_=>False
theorem Gj:nK X (.builtin "abs") Dc:=by
 refine⟨λds Q Q' w h=>?_,_,Gm,λM O H xs ds Q c h=>?_⟩
 ·unfold Dc at *;split at h<;>first | exact w _ h | exact h
 ·unfold Dc at h;split at h
  ·obtain⟨x,rfl,cx⟩:=fA c;obtain rfl:=cx.int;exact⟨_,rfl,h _ H (aQ.refl _) (Rep.int _)⟩
  ·exact h.elim
noncomputable def wM:List Dv->(R->Prop)->Prop
 | [.int i,.int j],Q=>Q (.v (.int (if j<i then j else i)))
 |_,_=>False
noncomputable def Ml:List Dv->(R->Prop)->Prop
 | [.int i,.int j],Q=>Q (.v (.int (if j > i then j else i)))
 |_,_=>False
theorem Iz(hc:X.calm=ai):nK X (.builtin "min") wM:=by
 refine⟨λds Q Q' w h=>?_,_,EF hc,λM O H xs ds Q c h=>?_⟩
 ·unfold wM at *;split at h<;>first | exact w _ h | exact h
 ·unfold wM at h;split at h
  ·obtain⟨x,y,rfl,cx,cy⟩:=Gh c;obtain rfl:=cx.int;obtain rfl:=cy.int;exact⟨_,_,rfl,h _ H (aQ.refl _) (Rep.int _)⟩
  ·exact h.elim
noncomputable def FT:List Dv->(R->Prop)->Prop
 | [.lst ds],Q=>∃ns:List Int,ds=ns.map .int/\Q (.v (.int ns.sum))
 |_,_=>False
noncomputable def FX:List Dv->(R->Prop)->Prop
 | [.lst ds],Q=>∃bs:List Bool,ds=bs.map .bl/\Q (.v (.bl (bs.all _root_.id)))
 |_,_=>False
theorem Reps.of_ints{K:aj}{M:ae->Prop}{H:Hp}:∀{xs:List V} {ns:List Int},Reps K M H xs (ns.map .int)->xs=ns.map V.int
 |_,[],.nil=>rfl
 |_,n::r,.cons a t=>by cases a;rw[Reps.of_ints t];rfl
theorem Reps.of_bls{K:aj}{M:ae->Prop}{H:Hp}:∀{xs:List V} {ns:List Bool},Reps K M H xs (ns.map .bl)->xs=ns.map V.bl
 |_,[],.nil=>rfl
 |_,n::r,.cons a t=>by cases a;rw[Reps.of_bls t];rfl
theorem LJ(hc:X.N=X.N):nK X (.builtin "sum") FT:=by
 refine⟨λds Q Q' w h=>?_,_,ED hc,λM O H xs ds Q c h=>?_⟩
 ·unfold FT at *;split at h
  ·obtain⟨ns,e,h⟩:=h;exact⟨ns,e,w _ h⟩
  ·exact h
 ·unfold FT at h;split at h
  ·obtain⟨ns,rfl,h⟩:=h;obtain⟨x,rfl,cx⟩:=fA c;obtain⟨a,ys,rfl,ea,ra⟩:=cx.lst;obtain rfl:=ra.of_ints;exact⟨a,ns,rfl,fS.of ea,h _ H (aQ.refl _) (Rep.int _)⟩
  ·exact h.elim
theorem LK(hc:X.calm=ai):nK X (.builtin "all") FX:=by
 refine⟨λds Q Q' w h=>?_,_,EG hc,λM O H xs ds Q c h=>?_⟩
 ·unfold FX at *;split at h
  ·obtain⟨ns,e,h⟩:=h;exact⟨ns,e,w _ h⟩
  ·exact h
 ·unfold FX at h;split at h
  ·obtain⟨ns,rfl,h⟩:=h;obtain⟨x,rfl,cx⟩:=fA c;obtain⟨a,ys,rfl,ea,ra⟩:=cx.lst;obtain rfl:=ra.of_bls;exact⟨a,ns,rfl,fS.of ea,h _ H (aQ.refl _) (Rep.bl _)⟩
  ·exact h.elim
noncomputable def sF:List Dv->(R->Prop)->Prop
 | [.lst ds],Q=>Q (.nw (.lst ds))
 | [.tup ds],Q=>Q (.nw (.lst ds))
 | [.scr ns],Q=>Q (.nw (.lst (ns.map .int)))
 |_,_=>False
theorem yZ:nK X (.type "list") sF:=by
 refine⟨λds Q Q' w h=>?_,_,z7,λM O H xs ds Q c h=>?_⟩
 ·unfold sF at *;split at h<;>first | exact w _ h | exact h
 ·unfold sF at h;split at h
  ·obtain⟨x,rfl,cx⟩:=fA c;obtain⟨a,ys,rfl,ea,ra⟩:=cx.lst;exact⟨a,ys,rfl,.inl (fS.of ea),λl hl=>h _ _ (aQ.new' hl) (jK hl ra)⟩
  ·obtain⟨x,rfl,cx⟩:=fA c;obtain⟨a,ys,rfl,ea,ra⟩:=cx.tup;exact⟨a,ys,rfl,.inr (kX.of ea),λl hl=>h _ _ (aQ.new' hl) (jK hl ra)⟩
  ·obtain⟨x,rfl,cx⟩:=fA c;obtain⟨a,rfl,ea⟩:=cx.scr;exact⟨a,_,rfl,.inl ea.sq,λl hl=>h _ _ (aQ.new' hl) (jK hl (Reps.ints _))⟩
  ·exact h.elim
noncomputable def jH:List Dv->(R->Prop)->Prop
 | [.lst ds],Q=>Q (.v (.tup ds))
 | [.tup ds],Q=>Q (.v (.tup ds))
 |_,_=>False
theorem nF:nK X (.type "tuple") jH:=by
 refine⟨λds Q Q' w h=>?_,_,vT,λM O H xs ds Q c h=>?_⟩
 ·unfold jH at *;split at h<;>first | exact w _ h | exact h
 ·unfold jH at h;split at h
  ·obtain⟨x,rfl,cx⟩:=fA c;obtain⟨a,ys,rfl,ea,ra⟩:=cx.lst;exact⟨a,ys,rfl,.inl ⟨fS.of ea,λl hl=>h _ _ (aQ.new' hl) (ET hl ra)⟩⟩
  ·obtain⟨x,rfl,cx⟩:=fA c;obtain⟨a,ys,rfl,ea,ra⟩:=cx.tup;exact⟨a,ys,rfl,.inr ⟨kX.of ea,h _ H (aQ.refl _) (Rep.tup ea ra)⟩⟩
  ·exact h.elim
noncomputable def Nt:Dv->String
 | .non=>"NoneType"
 | .bl _=>"bool"
 | .int _=>"int"
 | .str _=>"str"
 | .tup _=>"tuple"
 | .lst _=>"list"
 | .scr _=>"list"
 | .dit _=>"dict"
 | .obj _ _=>""
 | .exc _ _=>""
 | .dns _=>""
noncomputable def GK(T:String)(d:Dv):Bool:=Nt d==T || (T == "int" && Nt d == "bool")
noncomputable def zQ:Dv->Bool
 | .obj _ _=>ak
 | .exc _ _=>ak
 | .dns _=>ak
 | .scr _=>ak
 |_=>ai
noncomputable def uS(T:String)(te:dP):dP:=λρ Q=>te ρ λr=>zQ r.d=ai/\Q (.v (.bl (GK T r.d)))
theorem Ic(hT:T = "int" \/ T = "bool" \/ T = "tuple" \/ T = "list" \/ T = "str")(d:Dv)(ho:zQ d=ai):Vl K (.type (Nt d)) (.type T)=aa (GK T d):=by
 rcases hT with rfl | rfl | rfl | rfl | rfl<;>cases d<;>first | (simp[zQ] at ho;done) | with_unfolding_all rfl
theorem eB.ty{x:V}{d:Dv}(c:eB K M H x d)(ho:zQ d=ai):TyOf K H x (.type (Nt d)):=by
 cases d with
 |non=>obtain rfl:=c.non;exact .non
 |bl b=>obtain rfl:=c.bl;exact .bl b
 |int i=>obtain rfl:=c.int;exact .int i
 |str y=>obtain rfl:=c.str;exact .str y
 |tup ds=>obtain⟨a,xs,rfl,e,_⟩:=c.tup;exact .tup e
 |lst ds=>obtain⟨a,xs,rfl,e,_⟩:=c.lst;exact .lst e
 |dit ds=>obtain⟨a,ep,xs,rfl,e,_⟩:=c.dit;exact .dT e
 |obj C fs=>simp[zQ] at ho
 |scr ns=>simp[zQ] at ho
 |exc C p=>simp[zQ] at ho
 |dns ks=>simp[zQ] at ho
theorem sE(hT:T = "int" \/ T = "bool" \/ T = "tuple" \/ T = "list" \/ T = "str")(hg:Gl X "isinstance")(hm:X.mg "isinstance" = aq)(ha:QE X e te)(hty:PE X (.Name x p2) (tC (.ty T)))
  (he:autoParam (bb [e,.Name x p2] X.env=(ak,fe e X.env)::bb [.Name x p2] X.env) cF._auto_1) (he2:autoParam (bb [Expr.Name x p2] X.env=(ak,fe (.Name x p2) X.env)::bb [] X.env) cF._auto_1) (hpl:autoParam ((ip pos (bb [.Name x p2] X.env)).any (·.1)=ak) cF._auto_1):
  QE X (.Call (.Name "isinstance" p) [e,.Name x p2] [] pos) (uS T te):=by
 refine⟨λρ Q Q' w q=>ha.mono _ _ _ (λr q=>⟨q.1,w _ q.2⟩) q,λHZ F=>cT (AE Gk hg hm boot_isinstance (nS (ha.run HZ F) (nS hty u0 he2) he) ∅ ∅ he hpl) λσ H Q zz=>?_⟩;obtain⟨ρ,fr,h⟩:=zz;refine ha.step fr h λr x H1 q S1 r1=>?_;exact⟨x,T,_,_,rfl,r1.c.ty q.1,Ic hT _ q.1,q.2 _ H1 S1 (Rep.bl _)⟩
end
noncomputable def kD:cB->Dv
 | .inl i=>.int i
 | .inr x=>.str x
noncomputable def bX:Dv->Dv->(R->Prop)->Prop
 | .lst xs,.int i,Q=>match oP xs i with
  |some d=>Q (.v d)
  |none=>False
 | .tup xs,.int i,Q=>match oP xs i with
  |some d=>Q (.v d)
  |none=>False
 | .scr ns,.int i,Q=>match oP ns i with
  |some n=>Q (.v (.int n))
  |none=>False
 | .str z,.int i,Q=>z.length<=zK/\match oP z.cps.toList i with
  |some c=>Q (.v (.str ⟨#[c]⟩))
  |none=>False
 | .dit kvs,.tup ds,Q=>∃k:List cB,ds=k.map kD/\match kvs.find? (λkv=>decide (kv.1=k)) with
  |some kv=>Q (.v kv.2)
  |none=>False
 |_,_,_=>False
variable {tb ta:dP}{a b:Expr}
section
variable {pos:jr}
theorem Reps.at{K:aj}{M:ae->Prop}{H:Hp}{xs:List V}{ds:List Dv}{i:Int}{d:Dv}(r:Reps K M H xs ds)(h:oP ds i=aa d):∃x,oP xs i=aa x/\Rep K M H x d:=by
 unfold oP at *;rw[r.length];cases e:sJ ds.length i with
 |none=>rw[e] at h;cases h
 |some j=>
  rw[e] at h;obtain⟨x,hx,rx⟩:=r.get (i:=j) h;exact⟨x,hx,rx⟩
theorem J3{β:Type}{f:α->β}{l:List α}{i:Int}:oP (l.map f) i=(oP l i).map f:=by
 unfold oP;rw[ay];cases sJ l.length i with
 |none=>rfl
 |some j=>simp
theorem RepT.val{k:List cB}{xs:List (List cB×V)}{ds:List (List cB×Dv)}(r:RepT K M H xs ds):(∀kv,ds.find? (λkv=>decide (kv.1=k))=aa kv -> ∃x,oA xs k=aa x/\Rep K M H x kv.2)/\(ds.find? (λkv=>decide (kv.1=k))=aq->oA xs k=aq):=
 r.ind (P:=λxs ds=>(∀kv,ds.find? (λkv=>decide (kv.1=k))=aa kv -> ∃x,oA xs k=aa x/\Rep K M H x kv.2)/\(ds.find? (λkv=>decide (kv.1=k))=aq->oA xs k=aq)) ⟨λ_ h=>(by cases h),λ_=>rfl⟩ λk' x d xs ds a _ ih=>by
  by_cases e:k'=k
  ·rw[qp (by simpa using e),pV e];exact⟨λkv h=>by cases h;exact⟨x,rfl,a⟩,λh=>by cases h⟩
  ·rw[qv (by simpa using e),pW e];exact ih
theorem Reps.keys{K:aj}{M:ae->Prop}{H:Hp}:∀{xs:List V} {k:List cB},Reps K M H xs (k.map kD)->xs=k.map kV
 |_,[],.nil=>rfl
 |_,.inl i::r,.cons a t=>by cases a;rw[Reps.keys t];rfl
 |_,.inr x::r,.cons a t=>by cases a;rw[Reps.keys t];rfl
noncomputable def Po:R2:=λx y H Q=>∃a v,x=.ref a/\BG H a y (aa v)/\Q v H
theorem Ig(hu:X.A.units+1<lq):HF X Po:=by
 intro VR W3 pj s σ H x y v u Q I rx ry h hs;obtain⟨a,z,rfl,g,q⟩:=h;cases rx;have hT:=Ay I g;unfold yl;refine af ?_;rw[getitemInPython_of_ne hT.not_modules];refine af (wpAny_specialOf hT PySem.F.slot_dict_getitem.lookup ?_);have fin:bu (bv X.prog X.w) X.A (TX W3 ak (.ref a) u) (λr s₃=>bu (bv X.prog X.w) X.A (letTemporaryGo VR (.ref a) r >>= λ_=>ie r) (EP X pj σ Q) X.xe s₃) X.xe s:=by
  rw[hs];exact wpAny_operating (ii (EB hu I g ry λw' s' I' rw'=>show EP X pj σ Q w' s' from⟨z,H,I',rw',q⟩) (λr s₃ h₃=>af (wpAny_letTemporaryGo (aw h₃))) λ_ _ x=>x)
 first
  |exact aw (af fin)
  |exact af (aw (af fin))
  |exact af fin
theorem AS:∀dx dy (Q Q':R->Prop),(∀r,Q r->Q' r)->bX dx dy Q->bX dx dy Q':=by
 intro dx dy Q Q' w h;unfold bX at *;split at h
 ·split at h
  ·exact w _ h
  ·exact h
 ·split at h
  ·exact w _ h
  ·exact h
 ·split at h
  ·exact w _ h
  ·exact h
 ·refine⟨h.1,?_⟩;have h2:=h.2;split at h2
  ·exact w _ h2
  ·exact h2
 ·obtain⟨k,e,h⟩:=h;refine⟨k,e,?_⟩;split at h
  ·exact w _ h
  ·exact h
 ·exact h
theorem bU(hu:X.A.units+1<lq)(ha:QE X a ta)(hb:QE X b tb)(hs:autoParam (D3 b) SI._auto_1):QE X (.Subscript a b pos) (aP bX ta tb):=by
 refine⟨qV ha hb AS,λHZ F=>cT (Ma (L4.or (Ig hu)) (ha.run HZ F) (hb.run HZ F) hs) (tG ha hb (λM O H x y dx dy Q cx cy h=>?_) AS HZ F)⟩;unfold bX at h;split at h
 ·rename_i xs i;split at h
  ·rename_i d hd;obtain⟨p,vs,rfl,ea,ra⟩:=cx.lst;obtain rfl:=cy.int;obtain⟨z,hz,rz⟩:=ra.at hd;exact .inl (.inl ⟨p,vs,i,z,rfl,rfl,fS.of ea,hz,h _ H (aQ.refl _) rz⟩)
  ·exact h.elim
 ·rename_i xs i;split at h
  ·rename_i d hd;obtain⟨p,vs,rfl,ea,ra⟩:=cx.tup;obtain rfl:=cy.int;obtain⟨z,hz,rz⟩:=ra.at hd;exact .inl (.inr (.inl ⟨p,vs,i,z,rfl,rfl,kX.of ea,hz,h _ H (aQ.refl _) rz⟩))
  ·exact h.elim
 ·rename_i ns i;split at h
  ·rename_i n hn;obtain⟨p,rfl,ea⟩:=cx.scr;obtain rfl:=cy.int;refine .inl (.inl ⟨p,_,i,.int n,rfl,rfl,ea.sq,?_,h _ H (aQ.refl _) (Rep.int _)⟩);rw[J3,hn];rfl
  ·exact h.elim
 ·rename_i z i;obtain⟨hl,h⟩:=h;split at h
  ·rename_i c hc;obtain rfl:=cx.str;obtain rfl:=cy.int;exact .inl (.inr (.inr ⟨z,i,c,rfl,rfl,iP hl,hc,h _ H (aQ.refl _) (Rep.str _)⟩))
  ·exact h.elim
 ·obtain⟨k,rfl,h⟩:=h;split at h
  ·rename_i kv hk;obtain⟨p,ep,kvs,rfl,ea,ra⟩:=cx.dit;obtain⟨b,ys,rfl,eb,rb⟩:=cy.tup;obtain rfl:=rb.keys;obtain⟨z,hz,rz⟩:=ra.val.1 kv hk;exact .inr ⟨p,z,rfl,by rw[<- hz];exact BG.t ea eb,h _ H (aQ.refl _) rz⟩
  ·exact h.elim
 ·exact h.elim
noncomputable abbrev Nl:=List Sl->(Option Int->Prop)->Prop
structure QO(X:Cx)(e:Option Expr)(t:Nl):Prop where
 mono:∀(ρ:List Sl) (Q Q':Option Int->Prop),(∀r,Q r->Q' r)->t ρ Q->t ρ Q'
 run:∀(HZ:Hp) (F:ae->Prop),PO X e (λσ H Q=>∃ρ,Fr X.K HZ F σ H ρ/\t ρ λo=>∀H',aQ H H'->Q o H')
noncomputable def iF:Nl:=λ_ Q=>Q aq
noncomputable def gC(te:dP):Nl:=λρ Q=>te ρ λr=>match r.d with
 | .int i=>Q (aa i)
 |_=>False
theorem Gx{e:Option Expr}{t t':TO}(h:PO X e t)(w:∀σ H Q,t' σ H Q->t σ H Q):PO X e t':=λpj s σ H Q I q=>h pj s σ H Q I (w σ H Q q)
theorem t5:QO X aq iF:=⟨λ_ _ _ w q=>w _ q,λHZ F=>Gx Hn λσ H Q zq5=>by obtain⟨ρ,fr,q⟩:=zq5;exact q H (aQ.refl _)⟩
theorem jV(h:QE X e te):QO X (aa e) (gC te):=by
 refine⟨λρ Q Q' w q=>h.mono _ _ _ (λr q=>?_) q,λHZ F=>Gx (Hm (h.run HZ F)) λσ H Q ⟨ρ,fr,q⟩=>?_⟩
 ·split at q
  ·exact w _ q
  ·exact q
 ·refine h.step fr q λr x H1 q S1 r1=>?_;split at q
  ·rename_i i e;have c:=r1.c;rw[e] at c;exact⟨i,c.int,q H1 S1⟩
  ·exact q.elim
noncomputable def cut(xs:List α)(lo hi:Option Int):List α:=(xs.drop (HT.gE xs.length 0 lo)).take (HT.gE xs.length xs.length hi-HT.gE xs.length 0 lo)
noncomputable def JO:Dv->Option Int->Option Int->(R->Prop)->Prop
 | .lst xs,lo,hi,Q=>Q (.nw (.lst (cut xs lo hi)))
 | .scr ns,lo,hi,Q=>Q (.nw (.lst ((cut ns lo hi).map .int)))
 | .tup xs,lo,hi,Q=>¬(HT.gE xs.length 0 lo=0/\HT.gE xs.length xs.length hi=xs.length)/\Q (.v (.tup (cut xs lo hi)))
 |_,_,_,_=>False
noncomputable def C2(te:dP)(tl th:Nl):dP:=λρ Q=>te ρ λr=>tl ρ λlo=>th ρ λhi=>JO r.d lo hi Q
theorem FU:∀d lo hi (Q Q':R->Prop),(∀r,Q r->Q' r)->JO d lo hi Q->JO d lo hi Q':=by
 intro d lo hi Q Q' w h;unfold JO at *;split at h<;>first | exact w _ h | exact⟨h.1,w _ h.2⟩ | exact h
theorem Reps.cut{K:aj}{M:ae->Prop}{H:Hp}{xs:List V}{ds:List Dv}(r:Reps K M H xs ds)(lo hi:Option Int):Reps K M H (B2 xs lo hi) (Z.cut ds lo hi):=by
 unfold B2 Z.cut;rw[r.length];exact(r.drop _).take _
theorem nO{lo hi:Option Expr}{tl th:Nl}(he:QE X e te)(hl:QO X lo tl)(hh:QO X hi th):QE X (.Subscript e (.Slice lo hi aq p2) pos) (C2 te tl th):=by
 refine⟨λρ Q Q' w q=>he.mono _ _ _ (λr q=>hl.mono _ _ _ (λl q=>hh.mono _ _ _ (λu q=>FU _ _ _ _ _ w q) q) q) q,λHZ F=>cT (FI (HR.or Jn) (he.run HZ F) (hl.run HZ F) (hh.run HZ F)) λσ H Q zz=>?_⟩;obtain⟨ρ,fr,q⟩:=zz;refine he.step fr q λr x H1 q S1 r1=>?_;refine⟨ρ,fr.mono S1,hl.mono _ _ _ (λl q H2 S2=>?_) q⟩;refine⟨ρ,(fr.mono S1).mono S2,hh.mono _ _ _ (λu q H3 S3=>?_) q⟩;have S13:=(S1.trans S2).trans S3;have c:=(r1.mono (S2.trans S3)).c;generalize r.d=d at q c;unfold JO at q;split at q
 ·obtain⟨a,xs,rfl,ea,ra⟩:=c.lst;exact .inl ⟨a,xs,rfl,fS.of ea,λp hp=>q _ _ (S13.trans (aQ.new' hp)) ((jK hp (ra.cut _ _)).ahead S13)⟩
 ·obtain⟨a,rfl,ea⟩:=c.scr;refine .inl ⟨a,_,rfl,ea.sq,λp hp=>q _ _ (S13.trans (aQ.new' hp)) (dU.ahead (jK hp ?_) S13)⟩;have:∀(ns:List Int) l u,(Z.cut ns l u).map Dv.int=Z.cut (ns.map Dv.int) l u:=λns l u=>by
   unfold Z.cut;simp[Vr,UO]
  rw[this];exact(Reps.ints _).cut _ _
 ·obtain⟨a,xs,rfl,ea,ra⟩:=c.tup;exact .inr ⟨a,xs,rfl,kX.of ea,by rw[ra.length];exact q.1,λp hp=>q.2 _ _ (S13.trans (aQ.new' hp)) (dU.ahead (ET hp (ra.cut _ _)) S13)⟩
 ·exact q.elim
end
variable {xs:List V}
section
variable {c:Expr}{tc:dP}{pos:jr}
theorem CS{op op':TV}{f f':Int->Int->Bool}(ho:l6 X (df op) (CP λi j=>.bl (f i j)))(ho':l6 X (df op') (CP λi j=>.bl (f' i j)))(ha:QE X a ta)(hb:QE X b tb)(hc:QE X c tc)
  (hm:autoParam (Tu [op,op'] [b,c]=ak) Nr._auto_1):QE X (.Compare a [op,op'] [b,c] pos) (lP (xW f) (xW f') ta tb tc):=by
 refine⟨λρ Q Q' w q=>ha.mono _ _ _ (λrx q=>hb.mono _ _ _ (λry q=>u6 _ _ _ _ (λz q=>?_) q) q) q,λHZ F=>cT (FN ho ho' (ha.run HZ F) (hb.run HZ F) (hc.run HZ F) hm) λσ H Q ⟨ρ,fr,q⟩=>?_⟩
 ·split at q
  ·split at q
   ·rw[VH ‹_›];exact hc.mono _ _ _ (λw' q=>u6 _ _ _ _ w q) q
   ·rw[Vn ‹_›];exact w _ q
  ·exact q
 ·refine ha.step fr q λrx x H1 q1 S1 r1=>?_;refine hb.step (fr.mono S1) q1 λry y H2 q2 S2 r2=>?_;have cx:=(r1.mono S2).c;have cy:=r2.c;generalize rx.d=dx at q2 cx;generalize ry.d=dy at q2 cy;unfold xW at q2;split at q2
  ·rename_i Q2 i j;obtain rfl:=cx.int;obtain rfl:=cy.int;refine⟨_,_,rfl,rfl,f i j,rfl,?_⟩;have S12:=S1.trans S2;replace q2:=(show (if f i j=ai then tc ρ (λw=>xW f' (.int j) w.d (λr=>∀x H',aQ H H'->dU X.K (MM F ρ) (Z.zJ ρ) H x r H'->Q x H')) else (∀x H',aQ H H'->dU X.K (MM F ρ) (Z.zJ ρ) H x (.v (.bl ak)) H'->Q x H')) from q2);cases h:f i j with
   |true=>
    rw[h] at q2;simp only[if_true] at q2;refine lZ (hc.step ((fr.mono S1).mono S2) q2 λrw' z H3 q3 S3 r3=>?_);have cz:=r3.c;generalize rw'.d=dz at q3 cz;cases dz with
    |int l=>
     obtain rfl:=cz.int;exact⟨_,_,rfl,rfl,q3 _ H3 (S12.trans S3) (Rep.bl _)⟩
    |_=>exact(show False from q3).elim
   |false=>
    rw[h] at q2;simp only[dk,if_false] at q2;exact oF (q2 _ H2 S12 (Rep.bl _))
  ·exact q2.elim
noncomputable def pX:Dv->Option Bool
 | .non=>aa ak
 | .bl b=>aa b
 | .int i=>aa (i != 0)
 | .lst xs=>aa (!xs.isEmpty)
 | .tup xs=>aa (!xs.isEmpty)
 | .scr xs=>aa (!xs.isEmpty)
 |_=>aq
noncomputable def n4(te:dP):kZ:=λρ Q=>te ρ λr=>match pX r.d with
 |some k=>Q k
 |none=>False
theorem Reps.empty(r:Reps K M H xs ds):xs.isEmpty=ds.isEmpty:=by cases r<;>rfl
theorem hW(h:QE X e te)(he:autoParam (∀VT,isTrue e X.env VT=(do let v <- VT;wa e.pos;wc [v] (UZ v))) EJ._auto_1):QT X e (n4 te):=by
 refine⟨λρ Q Q' w q=>h.mono _ _ _ (λr q=>?_) q,λHZ F=>zE (F6 (h.run HZ F) he) λσ H Q ⟨ρ,fr,q⟩=>?_⟩
 ·split at q
  ·exact w _ q
  ·exact q
 ·refine h.step fr q λr x H1 q S1 r1=>?_;have cx:=r1.c;generalize r.d=d at q cx;split at q
  ·rename_i k hk;refine⟨k,?_,q H1 S1⟩;cases d with
   |non=>obtain rfl:=cx.non;simp only[pX,gr] at hk;subst hk;rfl
   |bl b=>obtain rfl:=cx.bl;simp only[pX,gr] at hk;exact hk.symm
   |int i=>obtain rfl:=cx.int;simp only[pX,gr] at hk;exact hk.symm
   |lst ds=>
    obtain⟨a,xs,rfl,ea,ra⟩:=cx.lst;simp only[pX,gr] at hk;exact .inl ⟨xs,fS.of ea,by rw[ra.empty];exact hk.symm⟩
   |tup ds=>
    obtain⟨a,xs,rfl,ea,ra⟩:=cx.tup;simp only[pX,gr] at hk;exact .inr (.inl ⟨xs,kX.of ea,by rw[ra.empty];exact hk.symm⟩)
   |scr ns=>
    obtain⟨a,rfl,ea⟩:=cx.scr;simp only[pX,gr] at hk;exact .inl ⟨_,ea.sq,by rw[<- hk];cases ns<;>rfl⟩
   |_=>simp[pX] at hk
  ·exact q.elim
end
noncomputable abbrev Fn:=List Dv->(R->Prop)->Prop
inductive low(K:aj)(sp:Fn)(vs:List V)(H:Hp)(Q:VK)(E:XK):Prop
 |mk (F:ae->Prop) (ds:List Dv) (hF:OldF K F H) (r:Reps K F H vs ds) (q:sp ds (λr=>∀x H',aQ H H'->dU K F BF H x r H'->Q x H'))
structure MonoF(sp:Fn):Prop where
 mo:∀ds (Q Q':R->Prop),(∀r,Q r->Q' r)->sp ds Q->sp ds Q'
structure Def(P:ar)(w:bm)(K:aj)(mg:bi->Option ac)(base:cm)(k:Nat)(x:bi)(ps:List bi)(sp:Sp):Prop where
 ex:∃f fd,mg x=aa (.ref f)/\ot K (.ref f)=ai/\jN K fd ps []/\FnOk P w K mg base BJ k f fd ps sp
structure At(K:aj)(mg:bi->Option ac)(x nm:bi)(st:jm)(ps:List bi):Prop where
 ex:∃f fd,mg x=aa (.ref f)/\Fun K nm nm st f fd/\jN K fd ps []
structure MDef(P:ar)(w:bm)(K:aj)(mg:bi->Option ac)(base:cm)(k:Nat)(C:ae)(m:bi)(ps:List bi)(sp:Sp):Prop where
 ex:∃f fd,Meth K C m f/\jN K fd ps []/\FnOk P w K mg base BJ k f fd ps sp
structure MAt(K:aj)(C:ae)(m qual:bi)(st:jm)(ps:List bi):Prop where
 ex:∃f fd,Meth K C m f/\Fun K m qual st f fd/\jN K fd ps []
theorem At.ok{P:ar}{w:bm}{K:aj}{mg:bi->Option ac}{base:cm}{k:Nat}{x nm:bi}{st:jm}{ps N:List bi}{sp:Sp}(a:At K mg x nm st ps)(S:FnScope N ps (aJ st))(len:∀vs H Q E,sp vs H Q E->vs.length=ps.length)
  (W9:∀(f:ae) (cdv:ac) (A:bx) (outer:List wu) (s:ah) (H:Hp) (vs:List V) (Q:VK) (E:XK),Room k (A.deeper (qj nm (aJ st) s.heap.objs.size f cdv))->sp vs H Q E ->
   ∃t,xC (sW BJ P w K mg base N nm (aJ st) f cdv A outer s H E).nox (dY st) t/\t { nx:=λ_ H'=>Q .non H',rt:=Q } (start N vs) H):Def P w K mg base (k+1) x ps sp:=by
 obtain⟨f,fd,hm,F,hb⟩:=a.ex;exact⟨f,fd,hm,F.kp,hb,F.ok S len (W9 f)⟩
theorem MAt.ok{P:ar}{w:bm}{K:aj}{mg:bi->Option ac}{base:cm}{k:Nat}{C:ae}{m VM:bi}{st:jm}{ps N:List bi}{sp:Sp}(a:MAt K C m VM st ps)(S:FnScope N ps (aJ st))(len:∀vs H Q E,sp vs H Q E->vs.length=ps.length)
  (W9:∀(f:ae) (cdv:ac) (A:bx) (outer:List wu) (s:ah) (H:Hp) (vs:List V) (Q:VK) (E:XK),Room k (A.deeper (qj VM (aJ st) s.heap.objs.size f cdv))->sp vs H Q E ->
   ∃t,xC (sW BJ P w K mg base N VM (aJ st) f cdv A outer s H E).nox (dY st) t/\t { nx:=λ_ H'=>Q .non H',rt:=Q } (start N vs) H):MDef P w K mg base (k+1) C m ps sp:=by
 obtain⟨f,fd,hm,F,hb⟩:=a.ex;exact⟨f,fd,hm,hb,F.ok S len (W9 f)⟩
noncomputable def aM(N:List bi)(ds:List Dv):List Sl:=ds.map .v++ao (N.length-ds.length) .un
variable {vs:List V}
theorem Ei(hF:OldF K F H)(r:Reps K F H vs ds):Fr K H F (start N vs) H (aM N ds):=by
 have no:∀{a:ae} {d:Dv},Sl.own a d∈aM N ds->False:=λ{a d} h=>by
  rcases de.mp h with h | h
  ·obtain⟨z,_,e⟩:=fv.mp h;cases e
  ·cases cr h
 have wk:∀a,MM F (aM N ds) a->F a:=λa h=>by
  rcases h with h | ⟨d,h⟩
  ·exact h
  ·exact(no h).elim
 have hl:=r.length;refine⟨by simp[L2.start,aM,hl],λi s e=>?_,λi j a d d' e _=>(no (bw e)).elim,λa d h=>(no h).elim,aQ.refl _,hF⟩;unfold aM at e;by_cases hi:i<ds.length
 ·rw[bj (by simpa using hi),cg] at e;cases q:ds[i]? with
  |none=>rw[q] at e;cases e
  |some d=>
   rw[q] at e;cases e;obtain⟨x,hx,rx⟩:=r.get q;refine⟨x,?_,rx.weak wk⟩;unfold L2.start;rw[bj (by simpa using(av.mp hx).1),cg,hx];rfl
 ·rw[bt (by simpa using jn hi)] at e;have:=bw e;cases cr this;trivial
variable {E:XK}{sp:Fn}
theorem zA{sts:List jm}{t:bS}{Q:VK}(h:QSs X sts t)(hsp:∀ds Q,sp ds Q->t ↥Q (aM N ds))(q:low X.K sp vs H Q E):
  ∃t',xC X sts t'/\t' { nx:=λ_ H'=>Q .non H',rt:=Q } (start N vs) H:=by
 obtain⟨F,ds,hF,r,q⟩:=q;exact⟨_,h.run H F,aM N ds,_,Ei hF r,hsp ds _ q,λρ σ H' fr q=>q .non H' fr.same Rep.non,λ_ _ _ _ z=>z.elim,λ_ _ _ _ z=>z.elim,λrr x H' S rx q=>q x H' S rx,λ_ _ _ _ _ z=>z.elim⟩
theorem yA(h:∀ds Q,sp ds Q->ds.length=n):∀vs H Q E,low K sp vs H Q E->vs.length=n:=λvs H Q E zq6=>by obtain⟨F,ds,_,r,q⟩:=zq6;(rw[r.length];exact h _ _ q)
variable {st:jm}
theorem At.okP{k:Nat}{nm:bi}{t:bS}(a:At K mg x nm st ps)(S:FnScope N ps (aJ st))
  (hq:∀(f:ae) (cdv:ac) (A:bx) (outer:List wu) (s:ah) (H:Hp) (E:XK),Room k (A.deeper (qj nm (aJ st) s.heap.objs.size f cdv))->QSs (sW BJ P w K mg base N nm (aJ st) f cdv A outer s H E).nox (dY st) t)
  (len:∀ds Q,sp ds Q->ds.length=ps.length) (hsp:∀ds Q,sp ds Q->t ↥Q (aM N ds)):Def P w K mg base (k+1) x ps (low K sp):=
 a.ok S (yA len) λf cdv A outer s H vs Q E hr q=>zA (hq f cdv A outer s H E hr) hsp q
variable {m:bi}
theorem MAt.okP{k:Nat}{VM:bi}{t:bS}(a:MAt K C m VM st ps)(S:FnScope N ps (aJ st))
  (hq:∀(f:ae) (cdv:ac) (A:bx) (outer:List wu) (s:ah) (H:Hp) (E:XK),Room k (A.deeper (qj VM (aJ st) s.heap.objs.size f cdv))->QSs (sW BJ P w K mg base N VM (aJ st) f cdv A outer s H E).nox (dY st) t)
  (len:∀ds Q,sp ds Q->ds.length=ps.length) (hsp:∀ds Q,sp ds Q->t ↥Q (aM N ds)):MDef P w K mg base (k+1) C m ps (low K sp):=
 a.ok S (yA len) λf cdv A outer s H vs Q E hr q=>zA (hq f cdv A outer s H E hr) hsp q
noncomputable def R.flat:R->Bool
 | .v d=>kQ d
 | .nw d=>GS d
 | .ow _ _=>ak
noncomputable def back(rs:List R)(Q:R->Prop):R->Prop:=λr=>(rs.all R.free=ai \/ r.flat=ai)/\Q r
noncomputable def aS(sp:Fn)(ts:mD):dP:=λρ Q=>ts ρ λrs=>sp (rs.map R.d) (back rs Q)
variable {rs:List R}
noncomputable def lent(M:ae->Prop)(rs:List R):ae->Prop:=λa=>M a /\ ∀d,R.ow a d ∉ rs
theorem rT(fr:Fr K HZ F σ H ρ){all:List R}:∀{xs:List V} {rs:List R},(∀r∈rs,r∈all)->Paired (λx r=>dU K (MM F ρ) (Z.zJ ρ) H x r H1) xs rs->Reps K (lent (MM F ρ) all) H1 xs (rs.map R.d)
 |_,_,_,.nil=>.nil
 |_,r::_,hs,.cons a t=>by
  refine .cons ?_ (rT fr (λr hr=>hs r (by simp[hr])) t);have wk:∀a,lent (MM F ρ) all a->MM F ρ a:=λa z=>z.1;cases r with
  |v d=>exact Rep.weak wk a
  |nw d=>exact(dU.rep a (λa m=>fr.dom m) rfl).weak wk
  |ow b d=>
   obtain⟨rfl,_,o⟩:=a;exact(o.weak wk).rep λz=>z.2 d (hs _ (by simp))
theorem Gu(h:rs.all R.free=ai)(a:ae)(d:Dv):R.ow a d ∉ rs:=λz=>by
 have:=va.mp h _ z;simp[R.free] at this
theorem wO{x:V}{r:R}{O:ae->Dv->Prop}(fr:Fr K HZ F σ H ρ)(S1:aQ H H1)(h:dU K (lent (MM F ρ) rs) BF H1 x r H')(f:rs.all R.free=ai \/ r.flat=ai):dU K (MM F ρ) O H x r H':=by
 rcases f with f | f
 ·have wk:∀a,MM F ρ a->lent (MM F ρ) rs a:=λa z=>⟨z,λd=>Gu f a d⟩;cases r with
  |v d=>exact Rep.weak wk h
  |ow a d=>exact h.2.1.elim
  |nw d=>
   obtain⟨a,e,n,o⟩:=h;exact⟨a,e,S1.free n,o.weak λb z=>z.elim (λz=>.inl (wk b z)) .inr⟩
 ·cases r with
  |v d=>exact Rep.flat f h
  |ow a d=>exact h.2.1.elim
  |nw d=>
   obtain⟨a,e,n,o⟩:=h;exact⟨a,e,S1.free n,o.flat f⟩
variable {Q':R->Prop}{pl:UN Bool}
section
variable {k:Nat}{o:Expr}{to:dP}{pos VV:jr}
theorem uY{Q:VK}(mo:MonoF sp)(fr:Fr X.K HZ F σ H ρ)(S1:aQ H H1)(r1:kY X.K (MM F ρ) (Z.zJ ρ) H xs rs H1)(q:sp (rs.map R.d) (back rs Q'))
  (w:∀r,Q' r -> ∀x H',aQ H H'->dU X.K (MM F ρ) (Z.zJ ρ) H x r H'->Q x H'):low X.K sp xs H1 Q E:=by
 refine⟨lent (MM F ρ) rs,_,⟨λa z=>(fr.mono S1).dom z.1,(fr.mono S1).tab⟩,rT fr (λ_ h=>h) r1,mo.mo _ _ _ (λr q x H' S rx=>?_) q⟩;exact w r q.2 x H' (S1.trans S) (wO fr S1 rx q.1)
theorem o8(w:∀r,Q r->Q' r):∀r,back rs Q r->back rs Q' r:=λr h=>⟨h.1,w r h.2⟩
theorem aT(d:Def X.prog X.w X.K X.mg X.base k x ps (low X.K sp))(mo:MonoF sp)(hr:Room k X.A)(ha:QA X (e::es) ts)(hg:autoParam (Gl X x) cF._auto_1)
  (hdb:autoParam ((x==("__debug__" : bi))=ak) oQ._auto_1) (he:autoParam (bb (e::es) X.env=(ak,fe e X.env)::bb es X.env) cF._auto_1) (hpl:autoParam ((ip pos (bb es X.env)).any (·.1)=ak) cF._auto_1):
  QE X (.Call (.Name x p) (e::es) [] pos) (aS sp ts):=by
 obtain⟨f,fd,hm,hk,hb,FO⟩:=d.ex;refine⟨λρ Q Q' w q=>ha.mono _ _ _ (λrs q=>mo.mo _ _ _ (o8 w) q) q,λHZ F=>cT (CW FO hr hg hm hk hb .nil AG (ha.run HZ F) hdb he hpl) λσ H Q zz=>?_⟩;obtain⟨ρ,fr,h⟩:=zz;refine ha.step fr h λrs xs H1 q S1 r1=>?_;rw[im];exact uY mo fr S1 r1 q λr z=>z
noncomputable def lY(C:ae)(m:bi)(sp:Fn)(to:dP)(ts:mD):dP:=λρ Q=>to ρ λro=>match ro.d with
 | .obj C' fs=>(C'=C/\fs.lookup m=aq)/\ts ρ λrs=>sp (ro.d::rs.map R.d) (back (ro::rs) Q)
 |_=>False
theorem RepF.lookup{K:aj}{M:ae->Prop}{H:Hp}{f:bi}{xs:List (bi×V)}{ds:List (bi×Dv)}(r:RepF K M H xs ds):(ds.lookup f=aq->xs.lookup f=aq) /\ ∀d,ds.lookup f=aa d -> ∃x,xs.lookup f=aa x/\Rep K M H x d:=
 r.ind (P:=λxs ds=>(ds.lookup f=aq->xs.lookup f=aq) /\ ∀d,ds.lookup f=aa d -> ∃x,xs.lookup f=aa x/\Rep K M H x d) ⟨λ_=>rfl,λd h=>by cases h⟩ λk x d xs ds a _ ih=>by
  rw[U0,U0];cases h:f==k with
  |true=>
   refine⟨λz=>?_,λd' z=>?_⟩
   ·cases z
   ·cases z;exact⟨x,rfl,a⟩
  |false=>exact ih
theorem xP(c:Cls X.K C)(d:MDef X.prog X.w X.K X.mg X.base k C m ps (low X.K sp))(mo:MonoF sp)(hr:Room k X.A)(ho:QE X o to)(ha:QA X (e::es) ts)
  (hst:autoParam (bb (e::es) X.env=(ak,fe e X.env)::bb es X.env) cF._auto_1) (hpl:autoParam ((ip pos (bb es X.env)).any (·.1)=ak) cF._auto_1)
  (ht:autoParam (fe (.Call (.Attribute o m VV) (e::es) [] pos) X.env=(do
   let ov <- fe o X.env
   wa VV.atName
   let (f,first) <- wc [ov] (vg ov m pl)
   Uo pos f first (ip pos (bb (e::es) X.env)) (vh pos (pq [] X.env)))) cF._auto_1):
  QE X (.Call (.Attribute o m VV) (e::es) [] pos) (lY C m sp to ts):=by
 obtain⟨f,fd,hm,hb,FO⟩:=d.ex;refine⟨λρ Q Q' w q=>ho.mono _ _ _ (λro q=>?_) q,λHZ F=>cT (Hr (pl:=pl) (ho.run HZ F) c hm FO hr hb .nil AG (ha.run HZ F) hst hpl ht) λσ H Q ⟨ρ,fr,h⟩=>?_⟩
 ·split at q
  ·exact⟨q.1,ha.mono _ _ _ (λrs q=>mo.mo _ _ _ (o8 w) q) q.2⟩
  ·exact q
 ·refine ho.step fr h λro x H1 q S1 r1=>?_;split at q
  ·rename_i C' fs e;obtain⟨⟨rfl,hl⟩,q⟩:=q;have cx:=r1.c;rw[e] at cx;obtain⟨a,dx,fs',rfl,ea,ra⟩:=cx.obj;refine⟨a,dx,fs',rfl,ea,ra.lookup.1 hl,ha.step (fr.mono S1) q λrs xs H2 q S2 r2=>?_⟩;rw[im];exact uY (rs:=ro::rs) (xs:=.ref a::xs) mo fr (S1.trans S2) (.cons (r1.mono S2) (r2.ahead S1)) q λr z=>z
  ·exact q.elim
theorem t6(c:Cls X.K C)(d:MDef X.prog X.w X.K X.mg X.base k C m ps (low X.K sp))(mo:MonoF sp)(hr:Room k X.A)(ho:QE X o to)
  (ht:autoParam (fe (.Call (.Attribute o m VV) [] [] pos) X.env=(do
   let ov <- fe o X.env
   wa VV.atName
   let (f,first) <- wc [ov] (vg ov m pl)
   Uo pos f first (ip pos (bb [] X.env)) (vh pos (pq [] X.env)))) cF._auto_1):
  QE X (.Call (.Attribute o m VV) [] [] pos) (lY C m sp to aG):=by
 obtain⟨f,fd,hm,hb,FO⟩:=d.ex;refine⟨λρ Q Q' w q=>ho.mono _ _ _ (λro q=>?_) q,λHZ F=>cT (FJ (pl:=pl) (ho.run HZ F) c hm FO hr hb .nil AG ht) λσ H Q ⟨ρ,fr,h⟩=>?_⟩
 ·split at q
  ·exact⟨q.1,mo.mo _ _ _ (o8 w) q.2⟩
  ·exact q
 ·refine ho.step fr h λro x H1 q S1 r1=>?_;split at q
  ·rename_i C' fs e;obtain⟨⟨rfl,hl⟩,q⟩:=q;have cx:=r1.c;rw[e] at cx;obtain⟨a,dx,fs',rfl,ea,ra⟩:=cx.obj;refine⟨a,dx,fs',rfl,ea,ra.lookup.1 hl,?_⟩;exact uY (rs:=[ro]) (xs:=[.ref a]) (E:=E0) mo fr S1 (.cons r1 .nil) q λr z=>z
  ·exact q.elim
noncomputable def Ga(C:ae)(f:bi)(to:dP):dP:=λρ Q=>to ρ λro=>match ro.d with
 | .obj C' fs=>C'=C/\match fs.lookup f with
  |some d=>Q (.v d)
  |none=>False
 |_=>False
theorem JJ{f:bi}(c:Cls X.K C)(n:j4 X.K C f)(ho:QE X o to)(hb:autoParam (ko o f X.env (fe o X.env)=fe o X.env) cF._auto_1):QE X (.Attribute o f pos) (Ga C f to):=by
 refine⟨λρ Q Q' w q=>ho.mono _ _ _ (λro q=>?_) q,λHZ F=>cT (KI (ho.run HZ F) hb) λσ H Q ⟨ρ,fr,h⟩=>?_⟩
 ·split at q
  ·refine⟨q.1,?_⟩;have q2:=q.2;split at q2
   ·exact w _ q2
   ·exact q2
  ·exact q
 ·refine ho.step fr h λro x H1 q S1 r1=>?_;split at q
  ·rename_i C' fs e;obtain⟨rfl,q⟩:=q;have cx:=r1.c;rw[e] at cx;obtain⟨a,dx,fs',rfl,ea,ra⟩:=cx.obj;split at q
   ·rename_i d hd;obtain⟨z,hz,rz⟩:=ra.lookup.2 d hd;exact⟨a,_,dx,fs',z,rfl,ea,c,n,hz,q _ H1 S1 rz⟩
   ·exact q.elim
  ·exact q.elim
end
end Z
namespace L2
noncomputable def sK(lo:Int)(n:Nat):List V:=(ig n).map λ(k:Nat)=>V.int (lo+(k:Int))
theorem EE:fO X (.type "range") (λxs H Q=>∃j:Int,xs=[.int j] /\ ∀p,H p=aq->Q (.ref p) (upd H p (.rng 0 j))):=by
 intro pj s σ H xs us Q I r h;obtain⟨j,rfl,q⟩:=h;obtain⟨u,rfl,ru⟩:=jQ r;obtain⟨t,rfl⟩:=ru;exact call_range_1 ⟨.ref s.heap.objs.size,_,I.laid (o:=.rng 0 j) (λb o e=>ap _ e) (bo _) ⟨_,_,_,cp _ rfl⟩,rfl,q _ (I.hok.fresh (bo _))⟩
theorem vU(hc:X.calm=ai):fO X (.type "list") (λxs H Q=>∃p lo hi,xs=[.ref p]/\H p=aa (.rng lo hi)/\(-(2 ^ 62)<=lo/\lo<2 ^ 62 /\ -(2 ^ 62)<=hi/\hi<2 ^ 62)/\(hi-lo).toNat<=1000000 /\ ∀l,H l=aq->Q (.ref l) (upd H l (.lst (sK lo (hi-lo).toNat)))):=by
 intro pj s σ H xs us Q I r h;obtain⟨p,lo,hi,rfl,hp,⟨b1,b2,b3,b4⟩,hn,q⟩:=h;obtain⟨u,rfl,ru⟩:=jQ r;cases ru;obtain⟨t,t2,t3,e⟩:=I.hok _ _ hp;refine call_list_range (n:=(hi-lo).toNat) (I.ok.hd hc) e (small_one b1 b2 b3 b4) (by rw[rangeSize_one];split<;>ac_rfl) ⋯ λh' tk acc c' hk hS hacc=>?_;refine⟨.ref s.heap.objs.size,_,I.laid (o:=.lst (sK lo (hi-lo).toNat)) hk (bo _) ?_,rfl,q _ (I.hok.fresh (bo _))⟩;have hl:acc.size=(hi-lo).toNat:=hacc.1;refine⟨by simp only[sK,ay,List.length_range];rw[iq];ac_rfl,acc.toList,c',?_,by simpa using hS⟩;have key:∀(n:Nat) (l:List ac),l.length=n->(∀(i:Nat) (v:ac),l[i]?=aa v -> ∃t,v=Value.int (lo+(i:Int)*1) t)->b8 (sK lo n) l:=by
  intro n;induction n with
  |zero=>intro l hl _;rw[vk.mp hl];exact .nil
  |succ n ih=>
   intro l hl hi;have hne:l≠[]:=by intro z;rw[z] at hl;cases hl
   have e1:l=l.dropLast++[l.getLast hne]:=(sv hne).symm;rw[e1];unfold sK;rw[List.range_succ,uk];have l1:l.dropLast.length=n:=by simp[hl]
   refine b8.append (ih l.dropLast l1 λi v hv=>hi i v ?_) (.cons ?_ .nil)
   ·have hlt:i<l.dropLast.length:=(av.mp hv).1;rw[e1,bj hlt];exact hv
   ·obtain⟨t,ht⟩:=hi n (l.getLast hne) (by simp[List.getLast_eq_getElem,hl]);rw[ht,Vi];exact⟨t,rfl⟩
 refine key _ _ (by simpa using hl) λi v hv=>?_;exact hacc.2 i v (by simpa using hv)
end L2
namespace Z
open L2
variable {σ:St}{P:Hp}{elts:List Expr}{x1:Nat}{tp:jr}
section
variable {a b c:Expr}{ta tb:dP}{ts:mD}{pos p2:jr}
noncomputable def Js(lo c:Int)(n:Nat):List Dv:=(ig n).map λ(k:Nat)=>Dv.int (lo+(k:Int)*c)
noncomputable def Cm(ts:mD):CA:=λρ Q=>ts ρ λrs=>match rs.map R.d with
 | [.int i,.int j,.int c]=>(c≠0/\c.natAbs<1000/\Vw i j c=ai/\0<=pk i j c)/\Q (Js i c (pk i j c).toNat) []
 |_=>False
noncomputable def GZ(ts:mD):dP:=λρ Q=>ts ρ λrs=>match rs.map R.d with
 | [.int j]=>(-(2 ^ 62)<=j/\j<2 ^ 62/\j.toNat<=1000000)/\Q (.nw (.lst (bP 0 j.toNat)))
 |_=>False
noncomputable def NT(ts:mD):dP:=λρ Q=>ts ρ λrs=>match rs.map R.d with
 | [.int i,.int j]=>((-(2 ^ 62)<=i/\i<2 ^ 62 /\ -(2 ^ 62)<=j/\j<2 ^ 62)/\(j-i).toNat<=1000000)/\Q (.nw (.lst (bP i (j-i).toNat)))
 |_=>False
theorem BZ(lo:Int)(n:Nat):Reps K M H (sK lo n) (bP lo n):=by
 unfold sK bP;induction (ig n) with
 |nil=>exact .nil
 |cons k r ih=>exact .cons (.int _) ih
theorem qK{pos2:jr}(hc:X.calm=ai)(hg:Gl X "list")(hm:X.mg "list" = aq)(hg2:Gl X "range")(hm2:X.mg "range" = aq)(ha:QA X [a] ts)
  (h1:autoParam (bb [.Call (.Name "range" p2) [a] [] pos2] X.env=(ak,fe (.Call (.Name "range" p2) [a] [] pos2) X.env)::bb [] X.env) cF._auto_1) (h2:autoParam ((ip pos (bb [] X.env)).any (·.1)=ak) cF._auto_1)
  (h3:autoParam (bb [a] X.env=(ak,fe a X.env)::bb [] X.env) cF._auto_1) (h4:autoParam ((ip pos2 (bb [] X.env)).any (·.1)=ak) cF._auto_1):
  QE X (.Call (.Name "list" p) [.Call (.Name "range" p2) [a] [] pos2] [] pos) (GZ ts):=by
 refine⟨λρ Q Q' w q=>ha.mono _ _ _ (λr q=>?_) q,λHZ F=>cT (rO (vU hc) hg hm vm (nS (rO EE hg2 hm2 Uk (ha.run HZ F) ∅ ∅ h3 h4) u0 h1) ∅ ∅ h1 h2) λσ H Q ⟨ρ,fr,q⟩=>?_⟩
 ·split at q
  ·exact⟨q.1,w _ q.2⟩
  ·exact q
 ·refine ha.step fr q λrs xs H1 q S1 r1=>?_;split at q
  ·rename_i j e;have cc:=r1.c;rw[e] at cc;obtain⟨x,rfl,cx⟩:=fA cc;obtain rfl:=cx.int;obtain⟨⟨b1,b2,b3⟩,q⟩:=q;refine⟨j,rfl,λr hr=>⟨r,0,j,rfl,bT,⟨⋯,⋯,b1,b2⟩,by rw[V6];exact b3,λl hl=>?_⟩⟩;have S2:aQ H (upd (upd H1 r (.rng 0 j)) l (.lst (sK 0 (j-0).toNat))):=(S1.trans (aQ.new' hr)).trans (aQ.new' hl);rw[V6] at S2 ⊢;exact q _ _ S2 (dU.ahead (jK hl (BZ 0 _)) (S1.trans (aQ.new' hr)))
  ·exact q.elim
noncomputable def sL(ds:List Dv):List Dv:=(ds.zipIdx).map λq=>.tup [.int (q.2:Int),q.1]
theorem E4{d:Dv}(h:(sL ds)[i]?=aa d):∃d0,ds[i]?=aa d0/\d=.tup [.int i,d0]:=by
 unfold sL at h;rw[cg,List.getElem?_zipIdx] at h;cases e:ds[i]? with
 |none=>rw[e] at h;cases h
 |some d0=>
  rw[e] at h;refine⟨d0,rfl,?_⟩;simp at h;exact h.symm
noncomputable def yI(ts:mD):CA:=λρ Q=>ts ρ λrs=>match rs with
 | [.v (.lst ds)]=>Q (sL ds) []
 | [.nw (.lst ds)]=>Q (sL ds) []
 | [.ow a (.lst ds)]=>Q (sL ds) [(a,ds)]
 |_=>False
structure Walked(K:aj)(P:Hp)(M:ae->Prop)(H1:Hp)(a:ae)(ds:List Dv)(ogs:List (ae×List Dv)):Prop where
 at_:∀(H':Hp) (M':ae->Prop),aQ P H'->Gen K M M' H1 H'->(∀p∈ogs,dQ K M' H' p.1 (.lst p.2)) -> ∃xs,H' a=aa (.lst xs)/\Reps K M' H' xs ds
noncomputable def oM:R->List (ae×List Dv)
 | .ow a (.lst ds)=>[(a,ds)]
 |_=>[]
theorem walked{HZ:Hp}{x:V}{r:R}(fr:Fr K HZ F σ H ρ)(S1:aQ H H1)(r1:dU K (MM F ρ) (Z.zJ ρ) H x r H1)(hd:r.d=.lst ds):
  ∃a xs,x=.ref a/\H1 a=aa (.lst xs)/\guard (oM r) ρ/\Walked K (prot H1 ρ) (MM F ρ) H1 a ds (oM r):=by
 cases r with
 |v d=>
  have e:d=.lst ds:=hd;subst e;cases r1 with
  |lst e m rs=>
   refine⟨_,_,rfl,e,by intro p hp;simp[oM] at hp,⟨λH' M' S G _=>⟨_,S _ _ (by rw[cJ λc=>m (.inr c)];exact e),rs.gen G⟩⟩⟩
 |nw d=>
  have e:d=.lst ds:=hd;subst e;obtain⟨a,rfl,n,xs,e,rs⟩:=r1;exact⟨_,_,rfl,e,by intro p hp;simp[oM] at hp,⟨λH' M' S G _=>⟨_,S _ _ (by rw[cJ λc=>fr.fresh n (.inr c)];exact e),(rs.weak λb z=>.inl z).gen G⟩⟩⟩
 |ow a d=>
  have e:d=.lst ds:=hd;subst e;obtain⟨rfl,m,xs,e,rs⟩:=r1;refine⟨_,_,rfl,e,by intro p hp;simp[oM] at hp;subst hp;exact m,⟨λH' M' S G ow=>?_⟩⟩;exact ow (a,ds) (by simp[oM])
theorem Dw{a:ae}{ogs:List (ae×List Dv)}(w:Walked K P M H1 a ds ogs):zF K P M H1 (Om K a) (sL ds) ogs:=by
 intro i H' M' S G ow;obtain⟨xs,h',r⟩:=w.at_ H' M' S G ow;refine⟨λd e=>?_,λh=>⟨xs,fS.of h',by rw[r.length];simpa [sL] using h⟩⟩;obtain⟨d0,e0,rfl⟩:=E4 e;obtain⟨x,hx,rx⟩:=r.get e0;refine⟨⟨xs,x,fS.of h',hx⟩,λy H'' zz=>?_⟩;obtain⟨T,z,hT,e1,e2,hz⟩:=zz;subst e1 e2;have:=hz xs (fS.of h');rw[hx] at this;cases this;exact⟨aQ.new' hT,.tup bT (.cons (.int _) (.cons (rx.mono (aQ.new' hT)) .nil))⟩
theorem Ha(hg:Gl X "enumerate")(hm:X.mg "enumerate" = aq)(ha:QA X [a] ts)(hs:autoParam (bb [a] X.env=[(ak,fe a X.env)]) cF._auto_1):QI X (.Tuple elts x1 tp) (.Call (.Name "enumerate" p) [a] [] pos) (yI ts):=by
 refine⟨λρ Q Q' w q=>ha.mono _ _ _ (λr q=>?_) q,λHZ F=>⟨_,Ho hg hm (ha.run HZ F) hs,λσ H ρ R fr q=>?_⟩⟩
 ·split at q<;>first | exact w _ _ q | exact q
 ·refine ha.step fr q λrs xs H1 q S1 r1=>?_;have one:∀{r:Z.R} {ds:List Dv},rs=[r]->r.d=.lst ds->(∀J H1',aQ H H1'->guard (oM r) ρ->zF X.K (prot H1' ρ) (MM F ρ) H1' J (sL ds) (oM r)->R J H1') -> ∃a,xs=[V.ref a]/\(∃xs,fS X.K H1 a xs)/\R (Om X.K a) H1:=by
   intro r ds e hd k;subst e;cases r1 with
   |cons a1 t1=>
    cases t1;obtain⟨a,ys,rfl,ea,gd,wk⟩:=walked fr S1 a1 hd;exact⟨a,rfl,⟨ys,fS.of ea⟩,k _ H1 S1 gd (Dw wk)⟩
  split at q
  ·exact one rfl rfl q
  ·exact one rfl rfl q
  ·exact one rfl rfl q
  ·exact q.elim
noncomputable def zM(xs ys:List Dv):List Dv:=T9 (λx y=>.tup [x,y]) xs ys
noncomputable def Ai(ts:mD):CA:=λρ Q=>ts ρ λrs=>match rs with
 | [r,r']=>match r.d,r'.d with
  | .lst xs,.lst ys=>Q (zM xs ys) (oM r++oM r')
  |_,_=>False
 |_=>False
theorem GE{a b:ae}{es:List Dv}{o1 o2:List (ae×List Dv)}(w1:Walked K P M H1 a ds o1)(w2:Walked K P M H1 b es o2):zF K P M H1 (RY a b) (zM ds es) (o1++o2):=by
 intro i H' M' S G ow;obtain⟨xs,h1,r1⟩:=w1.at_ H' M' S G λp hp=>ow p (jf _ hp);obtain⟨ys,h2,r2⟩:=w2.at_ H' M' S G λp hp=>ow p (cu _ hp);refine⟨λd e=>?_,λh=>⟨xs,ys,h1,h2,?_⟩⟩
 ·unfold zM at e;rw[List.getElem?_zipWith] at e;cases e1:ds[i]? with
  |none=>rw[e1] at e;cases e
  |some d1=>
   cases e2:es[i]? with
   |none=>rw[e1,e2] at e;cases e
   |some d2=>
    rw[e1,e2] at e;cases e;obtain⟨x,hx,rx⟩:=r1.get e1;obtain⟨y,hy,ry⟩:=r2.get e2;refine⟨⟨xs,ys,x,y,h1,h2,hx,hy⟩,λz H'' zz=>?_⟩;obtain⟨T,z1,z2,hT,e3,e4,k1,k2⟩:=zz;subst e3 e4;have q1:=k1 xs h1;have q2:=k2 ys h2;rw[hx] at q1;rw[hy] at q2;cases q1;cases q2;exact⟨aQ.new' hT,.tup bT (.cons (rx.mono (aQ.new' hT)) (.cons (ry.mono (aQ.new' hT)) .nil))⟩
 ·rw[r1.length,r2.length];simp only[zM,List.length_zipWith] at h;ac_rfl
theorem Ju(hg:Gl X "zip")(hm:X.mg "zip" = aq)(ha:QA X [a,b] ts)(hs:autoParam (bb [a,b] X.env=[(ak,fe a X.env),(ak,fe b X.env)]) cF._auto_1)(hs2:autoParam (bb [b] X.env=[(ak,fe b X.env)]) cF._auto_1):
  QI X (.Tuple elts x1 tp) (.Call (.Name "zip" p) [a,b] [] pos) (Ai ts):=by
 refine⟨λρ Q Q' w q=>ha.mono _ _ _ (λr q=>?_) q,λHZ F=>⟨_,K2 hg hm (ha.run HZ F) hs hs2,λσ H ρ R fr q=>?_⟩⟩
 ·split at q
  ·split at q
   ·exact w _ _ q
   ·exact q
  ·exact q
 ·refine ha.step fr q λrs xs H1 q S1 r1=>?_;split at q
  ·rename_i r r';split at q
   ·rename_i ds es h1 h2;cases r1 with
    |cons a1 t1=>
     cases t1 with
     |cons a2 t2=>
      cases t2;obtain⟨a,ys,rfl,ea,gd,wk⟩:=walked fr S1 a1 h1;obtain⟨b,zs,rfl,eb,gd2,wk2⟩:=walked fr S1 a2 h2;refine⟨a,b,rfl,⟨ys,ea⟩,⟨zs,eb⟩,q _ H1 S1 (λp hp=>?_) (GE wk wk2)⟩;rcases de.mp hp with h | h
      ·exact gd p h
      ·exact gd2 p h
   ·exact q.elim
  ·exact q.elim
end
noncomputable def eP(env:wu):List (bi×sk)->List (bi×ae)->List (bi×ae)
 | [],acc=>acc
 | (n,k)::r,acc=>if (k == .free)=ai then (match env.cells.lookup n with | some c=>eP env r ((n,c)::acc) | none=>eP env r acc) else eP env r acc
variable {env:wu}
theorem oO(h:(VI.names.all λy=>!(y.2 == .free) || (env.cells.lookup y.1).isSome)=ai):rn VI env=ie (eP env VI.names []):=by
 unfold rn;have key:∀(l:List (bi×sk)) (acc:List (bi×ae)),(l.all λy=>!(y.2 == .free) || (env.cells.lookup y.1).isSome)=ai ->
   (forIn (m:=UN) l acc λx r=>(match x with | (name,kind)=>if (kind==NameKind.free)=ai then (do let c <- cellOf env name;ie (ml ((name,c)::r))) else ie (ml r)))=ie (eP env l acc):=by
  intro l;induction l with
  |nil=>intro acc _;rfl
  |cons y r ih=>
   intro acc hl;obtain⟨n,k⟩:=y;rw[Vq,dj] at hl;rw[U5];unfold eP;by_cases hk:(k==NameKind.free)=ai
   ·rw[VH hk];have h1:(env.cells.lookup n).isSome=ai:=by
     have:=hl.1;simpa [hk] using this
    obtain⟨c,hc⟩:=ux.mp h1;have e:cellOf env n=ie c:=by unfold cellOf;rw[hc]
    simp only[hk,if_true,e,hc];exact ih _ hl.2
   ·rw[Vn hk];simp only[hk];exact ih _ hl.2
 dsimp only;have h2:=key VI.names [] h;refine Eq.trans (congrArg (λt:UN (List (bi×ae))=>t >>= λr=>ie r) h2) ?_;rfl
theorem kT{env:wu}:∀(l:List (bi×sk)) (acc:List (bi×ae)),(∀q∈acc,env.cells.lookup q.1=aa q.2) -> ∀q∈eP env l acc,env.cells.lookup q.1=aa q.2
 | [],acc,h,q,hq=>h q hq
 | (n,k)::r,acc,h,q,hq=>by
  unfold eP at hq;split at hq
  ·split at hq
   ·rename_i c hc;refine kT r _ (λq' hq'=>?_) q hq;rcases br.mp hq' with e | e
    ·rw[e];exact hc
    ·exact h q' e
   ·exact kT r acc h q hq
  ·exact kT r acc h q hq
theorem lS{env:wu}:∀(l:List (bi×sk)) (acc:List (bi×ae)),∀q∈acc,q∈eP env l acc
 | [],acc,q,hq=>hq
 | (n,k)::r,acc,q,hq=>by
  unfold eP;split
  ·split
   ·exact lS r _ q (bg _ hq)
   ·exact lS r acc q hq
  ·exact lS r acc q hq
theorem jL{env:wu}{x:bi}:∀(l:List (bi×sk)) (acc:List (bi×ae)),(l.all λy=>!(y.2 == .free) || (env.cells.lookup y.1).isSome)=ai->(x,NameKind.free)∈l -> ∃c,(x,c)∈eP env l acc
 | [],_,_,h=>by simp at h
 | (n,k)::r,acc,hl,h=>by
  rw[Vq,dj] at hl;unfold eP;rcases br.mp h with e | e
  ·cases e;rw[VH (by rfl)];have h1:(env.cells.lookup x).isSome=ai:=by simpa using hl.1
   obtain⟨c,hc⟩:=ux.mp h1;rw[hc];exact⟨c,lS r _ _ (by simp)⟩
  ·split
   ·split
    ·exact jL r _ hl.2 e
    ·exact jL r _ hl.2 e
   ·exact jL r _ hl.2 e
theorem kF{α:Type}{x:bi}{c:α}:∀{l:List (bi×α)},(x,c)∈l -> ∃c',l.lookup x=aa c'
 | (n,d)::r,h=>by
  rw[U0];cases e:x==n with
  |true=>exact⟨d,rfl⟩
  |false=>
   rcases br.mp h with z | z
   ·cases z;simp at e
   ·exact kF z
theorem qI(VP:∀y∈VI.names,y.2 ≠ .cell)(h:(fm VI env).names.lookup x=aa .cell \/ (fm VI env).names.lookup x=aa .free):(x,NameKind.free)∈VI.names:=by
 have:(x,NameKind.cell)∈(fm VI env).names \/ (x,NameKind.free)∈(fm VI env).names:=h.imp er er;rcases this with h | h
 ·obtain⟨⟨n,k⟩,hm,e⟩:=fv.mp h;dsimp only at e;split at e
  ·rename_i hc;rw[dj,dj,beq_iff_eq] at hc;cases e;rw[hc.1.1] at hm;exact hm
  ·cases e;exact absurd rfl (VP _ hm)
 ·obtain⟨⟨n,k⟩,hm,e⟩:=fv.mp h;dsimp only at e;split at e
  ·cases e
  ·cases e;exact hm
section
variable {pos:jr}
theorem vE{elt VO tgt:Expr}(tgs ns:List bi)(js:List Nat){k:Nat}{ti:CA}{g:zD}{tt:kZ}(hc:X.N=X.N)(hi:QI X tgt VO ti)
  (hg:∀(fp:List ae) (s:ah) (H:Hp),QG (pN X VI (eP X.env VI.names []) fp (tgs++ns) s H) tgt k g) (ht:∀(fp:List ae) (s:ah) (H:Hp),QTs (pN X VI (eP X.env VI.names []) fp (tgs++ns) s H) ifs tt)
  (he:∀(fp:List ae) (s:ah) (H:Hp),QE (pN X VI (eP X.env VI.names []) fp (tgs++ns) s H) elt te) (hk:autoParam (tgs.length=k) cF._auto_1)
  (hall:autoParam ((VI.names.all λy=>!(y.2 == .free) || (X.env.cells.lookup y.1).isSome)=ai) cF._auto_1) (hjs:autoParam (js.map (λj=>X.N[j]?)=ns.map aa) cF._auto_1)
  (hin:autoParam ((ns.all λy=>(fm VI X.env).names.lookup y==aa .cell || (fm VI X.env).names.lookup y==aa .free)=ai) cF._auto_1) (W7:autoParam ((ns.all λy=>X.env.kindOf y==aa .cell || X.env.kindOf y==aa .free)=ai) cF._auto_1)
  (nd:autoParam (js.Nodup) oQ._auto_1) (VP:autoParam (∀y∈VI.names,y.2 ≠ .cell) CD._auto_1) (VS:autoParam (VI.kind=.function) cF._auto_1)
  (VQ:autoParam (∀y∈VI.names,y.2=.local->VI.names.lookup y.1=aa .local) CD._auto_1) (hs:autoParam (∀z,fu VO X.env z=ie z) EJ._auto_1):
  QE X (.ListComp elt [⟨tgt,VO,ifs,0⟩] VI pos) (fN k js ti g tt te):=by
 refine Jv hc hk hi hg ht he (oO hall) (λx c e=>kT VI.names [] (by simp) (x,c) (er e)) (λx h=>?_) hjs (λy hy=>?_) (λy hy=>?_) nd VP VS VQ hs
 ·obtain⟨c,hc⟩:=jL VI.names [] hall (qI VP h);exact kF hc
 ·have:=va.mp hin y hy;simpa using this
 ·have:=va.mp W7 y hy;simpa using this
end
open Classical in
noncomputable def oG(h:cm)(db:V4)(u:ac):Bool:=if q:∃d as,UW h u d as then fi (choose q) db else ak
theorem Co{db d:V4}{as:List ae}(ok:d.canLay0=ai)(r:UW h u d as):oG h db u=fi d db:=by
 unfold oG;have q:∃d as,UW h u d as:=⟨d,as,r⟩;rw[dif_pos q];obtain⟨as',r'⟩:=Classical.choose_spec q;rw[Vz d _ u as as' ok r r']
theorem nJ(I:Inv X pj σ H s){db:V4}{dx:Dv}(hb:db=fU dx):∀{xs:List V} {ds:List Dv} {us:List ac},Reps X.K M H xs ds->okDs 8 ds=ai->b8 xs us->us.any (oG s.heap db)=ds.any λd=>eqD d dx
 |_,_,_,.nil,_,r=>by cases r;rfl
 |_,_,_,.cons a q,ok,r=>by
  have ok':(dD 8 _&&okDs 8 _)=ai:=ok;rw[dj] at ok';cases r with
  |cons r1 r2=>
   obtain⟨as,ra⟩:=Rep.reads I a ok'.1 r1;rw[qo,qo,nJ I hb q ok'.2 r2,Co (nX 8 _ ok'.1).1 ra,hb];rfl
theorem mY(I:Inv X pj σ H s){A:bx}{v:ac}{dx:Dv}{bs:List ae}(rb:UW s.heap v (fU dx) bs)(ob:dD 8 dx=ai)(hu:A.units+64<lq):∀{xs:List V} {ds:List Dv} {us:List ac},Reps X.K M H xs ds->okDs 8 ds=ai->b8 xs us -> ∀u∈us,UA A s u v (oG s.heap (fU dx) u)
 |_,_,_,.nil,_,r,u,hm=>by cases r;simp at hm
 |_,_,_,.cons a q,ok,r,u,hm=>by
  have ok':(dD 8 _&&okDs 8 _)=ai:=ok;rw[dj] at ok';cases r with
  |cons r1 r2=>
   rcases br.mp hm with e | hm
   ·subst e;obtain⟨as,ra⟩:=Rep.reads I a ok'.1 r1;obtain⟨l1,l2⟩:=nX 8 _ ok'.1;obtain⟨m1,m2⟩:=nX 8 _ ob;rw[Co l1 ra];exact TC _ _ A s u v as bs ra rb l1 m1 ⋯
   ·exact mY I rb ob hu q ok'.2 r2 u hm
noncomputable def MQ(K:aj)(neg:Bool):R2:=λx y H Q=>∃M dx ds p xs,eB K M H x dx/\y=.ref p/\(fS K H p xs \/ kX K H p xs)/\Reps K M H xs ds/\dD 8 dx=ai/\okDs 8 ds=ai /\
 Q (.bl (if neg then !(ds.any λd=>eqD d dx) else ds.any λd=>eqD d dx)) H
theorem nZ(h:A.units+65<lq):A.in1.units+64<lq:=by
 have:A.in1.units<=A.units+1:=by unfold Around.in1;simp[Around.units]
 ac_rfl
theorem KZ(hu:X.A.units+65<lq):l6 X (df .In) (MQ X.K ak):=by
 intro pj s σ H x y v u Q I rx ry h;obtain⟨M,dx,ds,p,xs,cx,rfl,hq,rs,o1,o2,q⟩:=h;cases ry;obtain⟨bs,rb⟩:=cx.reads I o1 rx;rcases hq with hq | hq
 ·obtain⟨its,r,pl,hz⟩:=I.list hq;refine SeqAt.in_listAt (oG s.heap (fU dx)) pl.isList (λw hw=>mY I rb o1 (nZ hu) rs o2 r w (by simpa using hw)) ⟨.bl _,H,I,rfl,?_⟩;rw[show its.toArray.any (oG s.heap (fU dx))=its.any (oG s.heap (fU dx)) by simp,nJ I rfl rs o2 r];exact q
 ·obtain⟨its,r,pl,hz⟩:=I.tuple hq;refine SeqAt.in_tupleAt (oG s.heap (fU dx)) pl (λw hw=>mY I rb o1 (nZ hu) rs o2 r w (by simpa using hw)) ⟨.bl _,H,I,rfl,?_⟩;rw[show its.toArray.any (oG s.heap (fU dx))=its.any (oG s.heap (fU dx)) by simp,nJ I rfl rs o2 r];exact q
theorem Dd(hu:X.A.units+65<lq):l6 X (df .NotIn) (MQ X.K ai):=by
 intro pj s σ H x y v u Q I rx ry h;obtain⟨M,dx,ds,p,xs,cx,rfl,hq,rs,o1,o2,q⟩:=h;cases ry;obtain⟨bs,rb⟩:=cx.reads I o1 rx;rcases hq with hq | hq
 ·obtain⟨its,r,pl,hz⟩:=I.list hq;refine SeqAt.notIn_listAt (oG s.heap (fU dx)) pl.isList (λw hw=>mY I rb o1 (nZ hu) rs o2 r w (by simpa using hw)) ⟨.bl _,H,I,rfl,?_⟩;rw[show its.toArray.any (oG s.heap (fU dx))=its.any (oG s.heap (fU dx)) by simp,nJ I rfl rs o2 r];exact q
 ·obtain⟨its,r,pl,hz⟩:=I.tuple hq;refine SeqAt.notIn_tupleAt (oG s.heap (fU dx)) pl (λw hw=>mY I rb o1 (nZ hu) rs o2 r w (by simpa using hw)) ⟨.bl _,H,I,rfl,?_⟩;rw[show its.toArray.any (oG s.heap (fU dx))=its.any (oG s.heap (fU dx)) by simp,nJ I rfl rs o2 r];exact q
end Z
variable {sp:Z.Fn}
namespace Z
open L2
theorem nM{k:Nat}(r:Room k A):A.units+65<lq:=by have:=r.un;ac_rfl
noncomputable def Mj:Dv->Dv->(R->Prop)->Prop
 | .int i,.int j,Q=>j≠0/\Q (.v (.int (i.fmod j)))
 |_,_,_=>False
noncomputable def isB(b:Bool):Dv->Bool
 | .bl c=>c==b
 |_=>ak
noncomputable def QC:Dv->Dv->(R->Prop)->Prop
 |d,.bl b,Q=>Q (.v (.bl (isB b d)))
 |_,_,_=>False
noncomputable def Mh:Dv->Dv->(R->Prop)->Prop
 |d,.bl b,Q=>Q (.v (.bl (!isB b d)))
 |_,_,_=>False
noncomputable def JE(i:Nat)(tk tv:dP):bS:=λE ρ=>match ρ[i]? with
 |some (.own a (.lst xs))=>tv ρ λr=>tk ρ λk=>match k.d with
  | .int n=>match sJ xs.length n with
   |some j=>r.free=ai/\E.nx (ρ.set i (.own a (.lst (xs.set j r.d))))
   |none=>False
  |_=>False
 |_=>False
noncomputable def inD(d:Dv)(ds:List Dv):Bool:=ds.any λe=>eqD e d
noncomputable def Hy:Dv->Dv->(R->Prop)->Prop
 |d,.lst ds,Q=>(dD 8 d=ai/\okDs 8 ds=ai)/\Q (.v (.bl (inD d ds)))
 |d,.tup ds,Q=>(dD 8 d=ai/\okDs 8 ds=ai)/\Q (.v (.bl (inD d ds)))
 |_,_,_=>False
noncomputable def d8:Dv->Dv->(R->Prop)->Prop
 |d,.lst ds,Q=>(dD 8 d=ai/\okDs 8 ds=ai)/\Q (.v (.bl (!inD d ds)))
 |d,.tup ds,Q=>(dD 8 d=ai/\okDs 8 ds=ai)/\Q (.v (.bl (!inD d ds)))
 |_,_,_=>False
theorem Bk(hu:X.A.units+65<lq)(_hu1:X.A.units+1<lq):xD X (df .In) Hy:=by
 refine⟨λdx dy Q Q' w h=>?_,_,KZ hu,λM O H x y dx dy Q cx cy h=>?_⟩
 ·unfold Hy at h;split at h
  ·exact⟨h.1,w _ h.2⟩
  ·exact⟨h.1,w _ h.2⟩
  ·exact h.elim
 ·unfold Hy at h;split at h
  ·obtain⟨a,xs,rfl,ea,ra⟩:=cy.lst;exact⟨M,_,_,a,xs,cx,rfl,.inl (fS.of ea),ra,h.1.1,h.1.2,h.2 _ H (aQ.refl _) (Rep.bl _)⟩
  ·obtain⟨a,xs,rfl,ea,ra⟩:=cy.tup;exact⟨M,_,_,a,xs,cx,rfl,.inr (kX.of ea),ra,h.1.1,h.1.2,h.2 _ H (aQ.refl _) (Rep.bl _)⟩
  ·exact h.elim
theorem i5(hu:X.A.units+65<lq)(_hu1:X.A.units+1<lq):xD X (df .NotIn) d8:=by
 refine⟨λdx dy Q Q' w h=>?_,_,Dd hu,λM O H x y dx dy Q cx cy h=>?_⟩
 ·unfold d8 at h;split at h
  ·exact⟨h.1,w _ h.2⟩
  ·exact⟨h.1,w _ h.2⟩
  ·exact h.elim
 ·unfold d8 at h;split at h
  ·obtain⟨a,xs,rfl,ea,ra⟩:=cy.lst;exact⟨M,_,_,a,xs,cx,rfl,.inl (fS.of ea),ra,h.1.1,h.1.2,h.2 _ H (aQ.refl _) (Rep.bl _)⟩
  ·obtain⟨a,xs,rfl,ea,ra⟩:=cy.tup;exact⟨M,_,_,a,xs,cx,rfl,.inr (kX.of ea),ra,h.1.1,h.1.2,h.2 _ H (aQ.refl _) (Rep.bl _)⟩
  ·exact h.elim
structure QX(X:Cx)(st:jm)(i:Nat)(te:dP):Prop where
 mono:∀(ρ:List Sl) (Q Q':R->Prop),(∀r,Q r->Q' r)->te ρ Q->te ρ Q'
 run:∀(HZ:Hp) (F:ae->Prop),PS X st (HP (lift X.K HZ F te) (Ak i))
variable {HZ:Hp}{σ:St}{st:jm}
section
variable {pos:jr}
theorem QX.step{Q':VK}(h:QX X st i te)(fr:Fr X.K HZ F σ H ρ)(q:te ρ Q)
  (k:∀r x H',Q r->aQ H H'->dU X.K (MM F ρ) (zJ ρ) H x r H'->Q' x H'):lift X.K HZ F te σ H Q':=⟨ρ,fr,h.mono _ _ _ (λr qr x H' S rx=>k r x H' qr S rx) q⟩
theorem Ey(he:QX X st i te):QS X st (b6 i te):=by
 refine⟨λE E' ρ w h=>he.mono _ _ _ (λr q=>?_) h,λHZ F=>eK (he.run HZ F) λD σ H ⟨ρ,E,fr,h,en⟩=>?_⟩
 ·cases r with
  |v d=>exact w.nx _ q
  |nw d=>exact w.nx _ q
  |ow a d=>exact q
 ·refine he.step fr h λr x H1 q S1 r1=>?_;cases r with
  |v d=>exact en.nx _ _ _ ((fr.mono S1).setv r1) q
  |nw d=>exact en.nx _ _ _ ((fr.mono S1).setv (r1.rep (λa m=>fr.dom m) rfl)) q
  |ow a d=>exact q.elim
end
variable {y:bi}{py spos:jr}{iy:Nat}{elt VO tgt:Expr}{ti:CA}{g:zD}
section
variable {pos:jr}
theorem Hb{cl:List (bi×ae)}{tgs ns:List bi}{js:List Nat}{k:Nat}{tt:kZ}(hN:X.N.Nodup)(hi2:X.N[iy]?=aa y)(hx2:HE X.env.scope y)(hc:X.N=X.N)(hk:tgs.length=k)
  (hi:QI X tgt VO ti) (hg:∀(fp:List ae) (s:ah) (H:Hp),QG (pN X VI cl fp (tgs++ns) s H) tgt k g) (ht:∀(fp:List ae) (s:ah) (H:Hp),QTs (pN X VI cl fp (tgs++ns) s H) ifs tt)
  (he:∀(fp:List ae) (s:ah) (H:Hp),QE (pN X VI cl fp (tgs++ns) s H) elt te)
  (W6:rn VI X.env=ie cl) (VY:∀x c,cl.lookup x=aa c->X.env.cells.lookup x=aa c)
  (Wb:∀x,((fm VI X.env).names.lookup x=aa .cell \/ (fm VI X.env).names.lookup x=aa .free) -> ∃c,cl.lookup x=aa c)
  (hjs:js.map (λj=>X.N[j]?)=ns.map aa) (hin:∀y∈ns,(fm VI X.env).names.lookup y=aa .cell \/ (fm VI X.env).names.lookup y=aa .free)
  (W7:∀y∈ns,X.env.kindOf y=aa .cell \/ X.env.kindOf y=aa .free) (nd:js.Nodup)
  (VP:autoParam (∀y∈VI.names,y.2 ≠ .cell) CD._auto_1) (VS:autoParam (VI.kind=.function) cF._auto_1)
  (VQ:autoParam (∀y∈VI.names,y.2=.local->VI.names.lookup y.1=aa .local) CD._auto_1)
  (hs:autoParam (∀z,fu VO X.env z=ie z) EJ._auto_1)
  (hsw:autoParam (jd (.ListComp elt [⟨tgt,VO,ifs,0⟩] VI pos) (aa (.Name y py)) spos.line X.env=ie ai) cF._auto_1) (hf:autoParam (X.fn y=ai \/ X.env.scope.names.lookup y=aa .local) HB._auto_1):
  QX X (.Assign [.Name y py] (.ListComp elt [⟨tgt,VO,ifs,0⟩] VI pos) spos) iy (fN k js ti g tt te):=by
 have mg:=(hg [] X.s₀ λ_=>aq).mono;have ag:=(hg [] X.s₀ λ_=>aq).agree;have mt:=(ht [] X.s₀ λ_=>aq).mono;have me:=(he [] X.s₀ λ_=>aq).mono;refine⟨λρ Q Q' w h=>hi.mono _ _ _ (λds ogs h=>jZ mg mt me ds [] Q Q' w h) h,λHZ F=>?_⟩;obtain⟨wi,hwi,wiq⟩:=hi.run HZ F
 suffices key:∀σ H Q,lift X.K HZ F (fN k js ti g tt te) σ H Q->xJ wi tgs.length js (liftG X.K k g) (λσ H Q=>∃HZ F,liftT X.K HZ F tt σ H Q) (λσ H Q=>∃HZ F,lift X.K HZ F te σ H Q) σ H Q from
  eK (FE (tgs:=tgs) (ns:=ns) (js:=js) (g:=liftG X.K k g) (tt:=λσ H Q=>∃HZ F,liftT X.K HZ F tt σ H Q) (te:=λσ H Q=>∃HZ F,lift X.K HZ F te σ H Q) hN hi2 hx2 hc hwi (λfp s H=>(hg fp s H).pg) (λfp s H=>(ht fp s H).pt) (λfp s H=>(he fp s H).pe) W6 VY Wb hjs hin W7 VP VS VQ hs hsw hf) λD σ H h=>key σ H _ h
 intro σ H Q ⟨ρ,fr,h⟩;subst hk;refine wiq σ H ρ _ fr (hi.mono _ _ _ (λds ogs q J H1 S1 gd ok=>?_) h);intro D hD;have fr1:=fr.mono S1;refine⟨λi m acc H2=>m=ds.length-i/\i<=ds.length/\aQ H1 H2 /\ ∃accD,Reps X.K (λa=>MM F ρ a \/ a=D) H2 acc accD /\
  cP (ao tgs.length .un++eL js ρ) g tt te (ds.drop i) accD (λr=>∀x H',aQ H H'->dU X.K (MM F ρ) (zJ ρ) H x r H'->Q x H'),
  ⟨ds.length,by simp,nj _,aQ.new' hD,[],.nil,by simpa using q⟩,?_⟩
 rintro i m acc H2 ⟨rfl,hil,S2,accD,ra,q⟩ hDl;have G2:Gen X.K (MM F ρ) (λa=>MM F ρ a \/ a=D) H1 H2:=(Gen.fresh hD).trans (.mono S2);have oks:=ok i H2 (λa=>MM F ρ a \/ a=D) (λb o e=>S2 _ _ (nQ e)) G2 λp hp=>by
  obtain⟨_,_,_,ow⟩:=fr1.at_own (gd p hp);exact ow.gen G2 λo e=>S2 _ _ e
 by_cases hlt:i<ds.length
 ·have hd:ds[i]?=aa ds[i]:=by simp[hlt]
  rw[eg hlt] at q;obtain⟨go,yld⟩:=oks.1 _ hd;refine .inr ⟨go,λy H3 hy old lo=>?_⟩;obtain⟨S3,ry⟩:=yld y H3 hy;have hD3:=S3 _ _ hDl;obtain⟨P,F',fr',iff,iffF⟩:=fr1.block (js:=js) (old:=old) (S2.trans S3) hD (by rw[hD3];simp) nd lo;refine⟨_,P,F',_,fr',ry.weak λa z=>(iff a).mp z,mg _ _ _ _ (λρ1 q1 σ1 f1 a1=>?_) (ag _ _ _ q)⟩;obtain⟨q1,l1,b1⟩:=q1;have up:∀a,MM F ρ a \/ a=D->MM F' ρ1 a:=λa z=>by
   rcases(iff a).mpr z with z | ⟨d,z⟩
   ·exact .inl z
   ·refine .inr ⟨d,?_⟩;obtain⟨j,e⟩:=ls.mp z;have hj:tgs.length<=j:=by
     by_cases hj:j<tgs.length
     ·rw[bj (by simpa using hj),gh,VH hj] at e;cases e
     ·ac_rfl
    rw[<- b1 j hj] at e;exact bw e
  have hlen:σ1.length=tgs.length+(pick js σ).length:=by
   have:=f1.len;rw[l1] at this;simp[pick,eL] at this ⊢;ac_rfl
  refine⟨⟨σ1.take tgs.length,by rw[cv];ac_rfl,zX lo hlen a1⟩,P,F',ρ1,f1,mt _ _ _ (λb q5 H5 S5=>?_) q1⟩;have S25:=(S2.trans S3).trans S5;cases b with
  |true=>
   simp only[if_true] at q5;refine lZ ⟨P,F',ρ1,f1.mono S5,me _ _ _ (λr q6 x H6 S6 rx=>?_) q5⟩;have hD6:=S6 _ _ (S5 _ _ hD3);obtain⟨⟨rf,rl⟩,q6⟩:=q6;have rep:=(rx.rep (λa z=>(f1.mono S5).dom z) rf).weak up;refine⟨hD6,by rw[ra.length];exact yB rl,ds.length-(i+1),⋯,rfl,hlt,λb o e=>?_,_,?_,q6⟩
   ·rw[bC (b7 e hD)];exact S6 _ _ (S25 _ _ e)
   ·have G6:Gen X.K (λa=>MM F ρ a \/ a=D) (λa=>MM F ρ a \/ a=D) H6 (upd H6 D (.lst (acc++[x]))):=Gen.write (.inr rfl) (by rw[hD6];trivial);exact((ra.mono ((S3.trans S5).trans S6)).append (.cons rep .nil)).gen G6
  |false=>
   simp only[dk,if_false] at q5;exact oF ⟨S5 _ _ hD3,ds.length-(i+1),⋯,rfl,hlt,S25,accD,ra.mono (S3.trans S5),q5⟩
 ·have e:i=ds.length:=⋯;subst e;rw[TZ] at q;exact .inl ⟨oks.2 (bo _),q (.ref D) H2 (S1.trans S2) ⟨D,rfl,S1.free hD,acc,hDl,ra⟩⟩
theorem JI(tgs ns:List bi)(js:List Nat){k:Nat}{tt:kZ}(hN:X.N.Nodup)(hi2:X.N[iy]?=aa y)(hx2:HE X.env.scope y)(hc:X.N=X.N)(hi:QI X tgt VO ti)
  (hg:∀(fp:List ae) (s:ah) (H:Hp),QG (pN X VI (eP X.env VI.names []) fp (tgs++ns) s H) tgt k g) (ht:∀(fp:List ae) (s:ah) (H:Hp),QTs (pN X VI (eP X.env VI.names []) fp (tgs++ns) s H) ifs tt)
  (he:∀(fp:List ae) (s:ah) (H:Hp),QE (pN X VI (eP X.env VI.names []) fp (tgs++ns) s H) elt te) (hk:autoParam (tgs.length=k) cF._auto_1)
  (hall:autoParam ((VI.names.all λy=>!(y.2 == .free) || (X.env.cells.lookup y.1).isSome)=ai) cF._auto_1) (hjs:autoParam (js.map (λj=>X.N[j]?)=ns.map aa) cF._auto_1)
  (hin:autoParam ((ns.all λy=>(fm VI X.env).names.lookup y==aa .cell || (fm VI X.env).names.lookup y==aa .free)=ai) cF._auto_1) (W7:autoParam ((ns.all λy=>X.env.kindOf y==aa .cell || X.env.kindOf y==aa .free)=ai) cF._auto_1)
  (nd:autoParam (js.Nodup) oQ._auto_1) (VP:autoParam (∀y∈VI.names,y.2 ≠ .cell) CD._auto_1) (VS:autoParam (VI.kind=.function) cF._auto_1)
  (VQ:autoParam (∀y∈VI.names,y.2=.local->VI.names.lookup y.1=aa .local) CD._auto_1) (hs:autoParam (∀z,fu VO X.env z=ie z) EJ._auto_1)
  (hsw:autoParam (jd (.ListComp elt [⟨tgt,VO,ifs,0⟩] VI pos) (aa (.Name y py)) spos.line X.env=ie ai) cF._auto_1) (hf:autoParam (X.fn y=ai \/ X.env.scope.names.lookup y=aa .local) HB._auto_1):
  QX X (.Assign [.Name y py] (.ListComp elt [⟨tgt,VO,ifs,0⟩] VI pos) spos) iy (fN k js ti g tt te):=by
 refine Hb hN hi2 hx2 hc hk hi hg ht he (oO hall) (λx c e=>kT VI.names [] (by simp) (x,c) (er e)) (λx h=>?_) hjs (λy hy=>?_) (λy hy=>?_) nd VP VS VQ hs hsw hf
 ·obtain⟨c,hc⟩:=jL VI.names [] hall (qI VP h);exact kF hc
 ·have:=va.mp hin y hy;simpa using this
 ·have:=va.mp W7 y hy;simpa using this
end
noncomputable def Mr:Dv->Dv->(R->Prop)->Prop
 | .int i,.int j,Q=>Q (.v (.int (i+j)))
 | .str x,.str y,Q=>x.length+y.length<=zK/\Q (.v (.str (x++y)))
 |_,_,_=>False
noncomputable def Mn:Dv->Dv->(R->Prop)->Prop
 | .int i,.int j,Q=>Q (.v (.int (i-j)))
 |_,_,_=>False
noncomputable def Mp:Dv->Dv->(R->Prop)->Prop
 | .int i,.int j,Q=>sP i j/\Q (.v (.int (i*j)))
 |_,_,_=>False
noncomputable def Eu(te:dP)(g:zD):bS:=λE ρ=>te ρ λr=>r.free=ai/\g r.d ρ E.nx
theorem MV{k:Nat}{pos:jr}(he:QE X e te)(hg:QG X tg k g)(hs:autoParam (swapsWithSole [tg] e pos.line X.env=ie ak) cF._auto_1)(hw:autoParam (swappedStores [tg] e X.env=ie aq) cF._auto_1)
  (h1:autoParam ((nq [tg] X.env).map (·.2)=[zd tg X.env]) cF._auto_1):QS X (.Assign [tg] e pos) (Eu te g):=by
 obtain⟨t,ht,hr⟩:=hg.run;refine⟨λE E' ρ w h=>he.mono _ _ _ (λr q=>⟨q.1,hg.mono _ _ _ _ (λρ q=>w.nx _ q) q.2⟩) h,λHZ F=>eK (K0 (he.run HZ F) ht hs hw h1) λD σ H zz=>?_⟩;obtain⟨ρ,E,fr,h,en⟩:=zz;refine he.step fr h λr x H1 q S1 r1=>?_;have rep:=r1.rep (λa m=>fr.dom m) q.1;exact hr HZ F x r.d σ H1 ρ _ (fr.mono S1) rep (hg.mono _ _ _ _ (λρ1 q σ1 fr1 _=>en.nx _ _ _ fr1 q) q.2)
theorem A9{a b c:Expr}{ta tb tc:dP}{pos:jr}{op op':TV}{f f':Int->Int->Bool}(ho:l6 X (df op) (CP λi j=>.bl (f i j)))(ho':l6 X (df op') (CP λi j=>.bl (f' i j)))(ha:QE X a ta)(hb:QE X b tb)(hc:QE X c tc)
  (hm:autoParam (Tu [op,op'] [b,c]=ak) Nr._auto_1):QT X (.Compare a [op,op'] [b,c] pos) (aU (lP (xW f) (xW f') ta tb tc)):=by
 have Q0:=CS (pos:=pos) ho ho' ha hb hc hm;have low:∀(HZ:Hp) (F:ae->Prop) (σ:St) (H:Hp) (Q:VK),lift X.K HZ F (lP (xW f) (xW f') ta tb tc) σ H Q->BS (CP λi j=>.bl (f i j)) (CP λi j=>.bl (f' i j)) (lift X.K HZ F ta) (lift X.K HZ F tb) (lift X.K HZ F tc) σ H Q:=by
  rintro HZ F σ H Q ⟨ρ,fr,q⟩;refine ha.step fr q λrx x H1 q1 S1 r1=>?_;refine hb.step (fr.mono S1) q1 λry y H2 q2 S2 r2=>?_;have cx:=(r1.mono S2).c;have cy:=r2.c;generalize rx.d=dx at q2 cx;generalize ry.d=dy at q2 cy;unfold xW at q2;split at q2
  ·rename_i Q2 i j;obtain rfl:=cx.int;obtain rfl:=cy.int;refine⟨_,_,rfl,rfl,f i j,rfl,?_⟩;have S12:=S1.trans S2;replace q2:=(show (if f i j=ai then tc ρ (λw=>xW f' (.int j) w.d (λr=>∀x H',aQ H H'->dU X.K (MM F ρ) (Z.zJ ρ) H x r H'->Q x H')) else (∀x H',aQ H H'->dU X.K (MM F ρ) (Z.zJ ρ) H x (.v (.bl ak)) H'->Q x H')) from q2);cases h:f i j with
   |true=>
    rw[h] at q2;simp only[if_true] at q2;refine lZ (hc.step ((fr.mono S1).mono S2) q2 λrw' z H3 q3 S3 r3=>?_);have cz:=r3.c;generalize rw'.d=dz at q3 cz;cases dz with
    |int l=>
     obtain rfl:=cz.int;exact⟨_,_,rfl,rfl,q3 _ H3 (S12.trans S3) (Rep.bl _)⟩
    |_=>exact(show False from q3).elim
   |false=>
    rw[h] at q2;simp only[dk,if_false] at q2;exact oF (q2 _ H2 S12 (Rep.bl _))
  ·exact q2.elim
 refine⟨λρ Q Q' w q=>uR Q0.mono ρ Q Q' w q,λHZ F=>zE (F8 ho ho' (ha.run HZ F) (hb.run HZ F) (hc.run HZ F) hm) λσ H Q zz=>?_⟩;obtain⟨ρ,fr,q⟩:=zz;refine low HZ F σ H _ (Q0.step fr q λr x H1 q S1 r1=>?_);have cx:=r1.c;generalize r.d=d at q cx;split at q
 ·obtain rfl:=cx.bl;exact⟨_,rfl,q H1 S1⟩
 ·exact q.elim
variable {f:bi}{p1 p2:jr}
section
variable {pos:jr}
noncomputable def DJ(i:Nat)(te:dP):bS:=λE ρ=>match ρ[i]? with
 |some (.own a (.lst xs))=>te ρ λr=>match r.d with
  | .lst ys=>xs.length+ys.length<=zK/\E.nx (ρ.set i (.own a (.lst (xs++ys))))
  |_=>False
 |_=>False
theorem MU{p3:jr}(hv:PE X (.Name x p1) (zV i))(he:QE X e te)(hs:autoParam (jd (.Call (.Attribute (.Name x p1) "extend" p2) [e] [] p3) aq pos.line X.env=ie ak) cF._auto_1)
  (W4:autoParam (ko (.Name x p1) "extend" X.env (fe (.Name x p1) X.env)=fe (.Name x p1) X.env) cF._auto_1)
  (hfew:autoParam (((ip p3 (bb [e] X.env)).all (λx=>!x.1)&&(vh p3 (pq [] X.env)).all (λx=>x.1.isSome)
   && decide ([e].length+([]:List xr).length+(if ([]:List xr).isEmpty then 0 else 1)<30))=ai) cF._auto_1)
  (W5:autoParam ((p2.endLine==p3.line)=ai) cF._auto_1) (hst:autoParam (bb [e] X.env=(ak,fe e X.env)::bb [] X.env) cF._auto_1) (Wa:autoParam ((ip p3 (bb [] X.env)).any (·.1)=ak) cF._auto_1):
  QS X (.Expr (.Call (.Attribute (.Name x p1) "extend" p2) [e] [] p3) pos) (DJ i te):=by
 refine⟨λE E' ρ w h=>?_,λHZ F=>eK (t7 (JM qe PySem.F.slot_list_extend PySem.F.type_list_extend Dg hv (nS (he.run HZ F) u0 hst) W4 hfew W5 hst Wa) hs) λD σ H ⟨ρ,E,fr,h,en⟩=>?_⟩
 ·unfold DJ at *;split at h
  ·refine he.mono _ _ _ (λr q=>?_) h;split at q
   ·exact⟨q.1,w.nx _ q.2⟩
   ·exact q
  ·exact h
 ·unfold DJ at h;split at h
  ·rename_i a xs hx;obtain⟨hs1,vs,hv1,rv1⟩:=fr.sl i _ hx;refine⟨_,hs1,.inl ⟨rfl,_,fS.of hv1⟩,he.step fr h λr y H1 q S1 r1=>?_⟩;have cy:=r1.c;generalize r.d=d at q cy;split at q
   ·rename_i ys;obtain⟨b,zs,rfl,eb,rb⟩:=cy.lst;obtain⟨ql,q2⟩:=q;have hv2:=S1 _ _ hv1;refine⟨a,b,vs,zs,rfl,rfl,hv2,eb,iP (by rw[rv1.length,rb.length];exact ql),?_⟩;refine en.nx _ _ _ ((fr.mono S1).write (d':=.lst (xs++ys)) hx ⟨_,bT,?_⟩) q2;have G:Gen X.K (MM F ρ) (MM F ρ) H1 (upd H1 a (.lst (vs++zs))):=Gen.write (.inr ⟨_,bw hx⟩) (by rw[hv2];trivial);exact((rv1.mono S1).append rb).gen G
   ·exact q.elim
  ·exact h.elim
noncomputable def F4(f:bi)(d:Dv):List (bi×Dv)->List (bi×Dv)
 | []=>[(f,d)]
 | (g,x)::r=>if g=f then (g,d)::r else (g,x)::F4 f d r
theorem RepF.put{x:V}{d:Dv}(a:Rep K M H x d){xs:List (bi×V)}{ds:List (bi×Dv)}(r:RepF K M H xs ds):RepF K M H (lJ f x xs) (F4 f d ds):=
 r.ind (P:=λxs ds=>RepF K M H (lJ f x xs) (F4 f d ds)) (.cons a .nil) λk _ _ _ _ b r ih=>by
  show RepF K M H (if k=f then _ else _) (if k=f then _ else _);split
  ·exact .cons a r
  ·exact .cons b ih
theorem RepF.length{K:aj}{M:ae->Prop}{H:Hp}{xs:List (bi×V)}{ds:List (bi×Dv)}(r:RepF K M H xs ds):xs.length=ds.length:=r.ind (P:=λxs ds=>xs.length=ds.length) rfl λ_ _ _ _ _ _ _ ih=>congrArg (· + 1) ih
noncomputable def tU(C:ae)(i:Nat)(f:bi)(te:dP):bS:=λE ρ=>match ρ[i]? with
 |some (.own a (.obj C' fs))=>te ρ λr=>(C'=C/\r.free=ai/\fs.length<1000)/\E.nx (ρ.set i (.own a (.obj C' (F4 f r.d fs))))
 |_=>False
theorem F2(c:Cls X.K C)(n:j4 X.K C f)(hv:PE X (.Name x p1) (zV i))(he:QE X e te)
  (hs:autoParam (jd e (aa (.Attribute (.Name x p1) f p2)) pos.line X.env=ie ak) cF._auto_1):QS X (.Assign [.Attribute (.Name x p1) f p2] e pos) (tU C i f te):=by
 refine⟨λE E' ρ w h=>?_,λHZ F=>eK (Jz hv he.pe hs) λD σ H ⟨ρ,E,fr,h,en⟩=>?_⟩
 ·unfold tU at *;split at h
  ·exact he.mono _ _ _ (λr q=>⟨q.1,w.nx _ q.2⟩) h
  ·exact h
 ·unfold tU at h;split at h
  ·rename_i a C' fs hx;refine⟨HZ,F,he.step fr h λr y H1 q S1 r1=>?_⟩;obtain⟨⟨rfl,qf,ql⟩,q2⟩:=q;have fr1:=fr.mono S1;obtain⟨hs1,dx,fs1,hv1,rv1⟩:=fr1.sl i _ hx;have rep:=r1.rep (λa m=>fr.dom m) qf;refine⟨_,hs1,a,C',dx,fs1,rfl,hv1,c,n,by rw[rv1.length];exact ql,?_⟩;refine en.nx _ _ _ (fr1.write (d':=.obj C' (F4 f r.d fs)) hx ⟨dx,_,bT,?_⟩) q2;have G:Gen X.K (MM F ρ) (MM F ρ) H1 (upd H1 a (.ins C' dx (lJ f y fs1))):=Gen.write (.inr ⟨_,bw hx⟩) (by rw[hv1];trivial);exact(RepF.put rep rv1).gen G
  ·exact h.elim
end
noncomputable def Qc(K:aj)(C:ae)(sp:Fn):Sp:=λvs H Q _=>∃(x dx:ae) (vs':List V) (H0:Hp) (F:ae->Prop) (ds:List Dv),vs=.ref x::vs'/\H=upd (upd H0 dx (.own x)) x (.ins C dx [])/\H0 x=aq/\H0 dx=aq/\dx≠x/\OldF K F H0/\Reps K F H0 vs' ds /\
 sp ds (λr=>∀H',aQ H0 H'->dU K F BF H0 (.ref x) r H'->Q .non H')
structure IDef(P:ar)(w:bm)(K:aj)(mg:bi->Option ac)(base:cm)(k:Nat)(x:bi)(C:ae)(ps:List bi)(sp:Fn):Prop where
 ex:∃f fd,Mk K C f/\mg x=aa (.ref C)/\jN K fd ps []/\FnOk P w K mg base BJ k f fd ps (Qc K C sp)
structure IAt(K:aj)(mg:bi->Option ac)(x:bi)(C:ae)(qual:bi)(st:jm)(ps:List bi):Prop where
 ex:∃f fd,Mk K C f/\mg x=aa (.ref C)/\Fun K "__init__" qual st f fd/\jN K fd ps []
noncomputable def j0(C a:ae)(N:List bi)(ds:List Dv):List Sl:=.own a (.obj C [])::(ds.map .v++ao (N.length-(ds.length+1)) .un)
variable {H0:Hp}{dx:ae}{o:HO}
theorem Ep{x:ae}{o':HO}(hx:H0 x=aq)(hd:H0 dx=aq):aQ H0 (upd (upd H0 dx o) x o'):=λb q e=>by
 rw[bC (b7 e hx),bC (b7 e hd)];exact e
variable {vs:List V}
theorem DD{x:ae}(hx:H0 x=aq)(hd:H0 dx=aq)(hF:OldF K F H0)(r:Reps K F H0 vs ds):
  Fr K H0 F (start N (.ref x::vs)) (upd (upd H0 dx (.own x)) x (.ins C dx [])) (j0 C x N ds):=by
 have S:aQ H0 (upd (upd H0 dx (.own x)) x (.ins C dx [])):=Ep hx hd;have only:∀{a:ae} {d:Dv},Sl.own a d∈j0 C x N ds->a=x:=λ{a d} h=>by
  rcases br.mp h with h | h
  ·cases h;rfl
  ·rcases de.mp h with h | h
   ·obtain⟨z,_,e⟩:=fv.mp h;cases e
   ·cases cr h
 have wk:∀a,MM F (j0 C x N ds) a->F a \/ a=x:=λa h=>by
  rcases h with h | ⟨d,h⟩
  ·exact .inl h
  ·exact .inr (only h)
 have G:Gen K F (MM F (j0 C x N ds)) H0 (upd (upd H0 dx (.own x)) x (.ins C dx [])):=((Gen.fresh hx).trans (.mono S)).trans (.weak wk);have hl:=r.length;have r':=r.gen G;have zero:∀(i:Nat) (a:ae) (d:Dv),(j0 C x N ds)[i]?=aa (.own a d)->i=0:=λi a d e=>by
  cases i with
  |zero=>rfl
  |succ i=>
   have e':(ds.map Sl.v++ao (N.length-(ds.length+1)) Sl.un)[i]?=aa (.own a d):=e;have:=bw e';rcases de.mp this with h | h
   ·obtain⟨z,_,e⟩:=fv.mp h;cases e
   ·cases cr h
 refine⟨by simp[L2.start,j0,hl],λi s e=>?_,λi j a d d' e1 e2=>?_,λa d h=>by rw[only h];exact hx,S,hF⟩
 ·cases i with
  |zero=>
   cases e;exact⟨rfl,dx,[],bT,.nil⟩
  |succ i=>
   have e':(ds.map Sl.v++ao (N.length-(ds.length+1)) Sl.un)[i]?=aa s:=e;have es:(start N (.ref x::vs))[i+1]?=(vs.map aa++ao (N.length-(vs.length+1)) aq)[i]?:=by simp[L2.start]
   rw[es];by_cases hi:i<ds.length
   ·rw[bj (by simpa using hi),cg] at e';cases q:ds[i]? with
    |none=>rw[q] at e';cases e'
    |some d=>
     rw[q] at e';cases e';obtain⟨y,hy,ry⟩:=r'.get q;refine⟨y,?_,ry⟩;rw[bj (by simpa using(av.mp hy).1),cg,hy];rfl
   ·rw[bt (by simpa using jn hi)] at e';have:=bw e';cases cr this;trivial
 ·rw[zero i a d e1,zero j a d' e2]
theorem IAt.okP{k:Nat}{VM:bi}{t:bS}(m:IAt K mg x C VM st ps)(S:FnScope N ps (aJ st))
  (hq:∀(f:ae) (cdv:ac) (A:bx) (outer:List wu) (s:ah) (H:Hp) (E:XK),Room k (A.deeper (qj VM (aJ st) s.heap.objs.size f cdv))->QSs (sW BJ P w K mg base N VM (aJ st) f cdv A outer s H E).nox (dY st) t)
  (len:∀ds Q,sp ds Q->ds.length+1=ps.length) (hsp:∀ds Q,sp ds Q -> ∀a,t { nx:=λρ=>∃d,ρ[0]?=aa (.own a d)/\Q (.nw d),rt:=λ_=>False } (j0 C a N ds)):IDef P w K mg base (k+1) x C ps sp:=by
 obtain⟨f,fd,M,hm,FF,hb⟩:=m.ex;refine⟨f,fd,M,hm,hb,FF.ok S (λvs H Q E zz=>?_) λcdv A outer s H vs Q E hr q=>?_⟩
 ·obtain⟨a,dx,vs',H0,F,ds,e,_,_,_,_,_,r,q⟩:=zz;rw[e,bh,r.length];exact len _ _ q
 ·obtain⟨a,dx,vs',H0,F,ds,rfl,rfl,hx,hd,hn,hF,r,q⟩:=q;refine⟨_,(hq f cdv A outer s _ E hr).run H0 F,j0 C a N ds,_,DD hx hd hF r,hsp ds _ q a,?_,λ_ _ _ _ z=>z.elim,λ_ _ _ _ z=>z.elim,λ_ _ _ _ _ z=>z.elim,λ_ _ _ _ _ z=>z.elim⟩;rintro ρ σ H' fr ⟨d,hd',q⟩;have mem:Sl.own a d∈ρ:=bw hd';exact q H' fr.same ⟨a,rfl,hx,(fr.sl 0 _ hd').2.weak λb z=>z.elim .inl λz=>.inr ⟨d,by rw[z];exact mem⟩⟩
noncomputable def Cq(sp:Fn)(ts:mD):dP:=λρ Q=>ts ρ λrs=>sp (rs.map R.d) (back rs Q)
variable {ts:mD}
section
variable {k:Nat}{pos:jr}
theorem Jt(d:IDef X.prog X.w X.K X.mg X.base k x C ps sp)(mo:MonoF sp)(hr:Room (k+1) X.A)(ha:QA X (e::es) ts)(hg:autoParam (Gl X x) cF._auto_1)
  (hdb:autoParam ((x==("__debug__" : bi))=ak) oQ._auto_1) (he:autoParam (bb (e::es) X.env=(ak,fe e X.env)::bb es X.env) cF._auto_1) (hpl:autoParam ((ip pos (bb es X.env)).any (·.1)=ak) cF._auto_1):
  QE X (.Call (.Name x p) (e::es) [] pos) (Cq sp ts):=by
 obtain⟨f,fd,M,hm,hb,FO⟩:=d.ex;refine⟨λρ Q Q' w q=>ha.mono _ _ _ (λrs q=>mo.mo _ _ _ (o8 w) q) q,λHZ F=>cT (Hs M FO hr hg hm hb .nil AG (ha.run HZ F) hdb he hpl) λσ H Q zz=>?_⟩;obtain⟨ρ,fr,h⟩:=zz;refine ha.step fr h λrs xs H1 q S1 r1=>?_;intro a dx hx hd hn;rw[im];refine⟨a,dx,xs,H1,lent (MM F ρ) rs,rs.map R.d,rfl,rfl,hx,hd,hn,⟨λb z=>(fr.mono S1).dom z.1,(fr.mono S1).tab⟩,rT fr (λ_ h=>h) r1,mo.mo _ _ _ (λr q H' S rx=>?_) q⟩;exact⟨rfl,q.2 _ H' (S1.trans S) (wO fr S1 rx q.1)⟩
end
open Classical in
noncomputable def hide(H:Hp)(a:ae):Hp:=λb=>if b=a then aq else H b
section
variable {b:ae}
theorem wU:hide H1 a a=aq:=by unfold hide;rw[VH rfl]
theorem o0{c:ae}(h:c≠a):hide H1 a c=H1 c:=by unfold hide;rw[Vn h]
theorem E1{c:ae}(h:hide H1 a c=aa o):H1 c=aa o/\c≠a:=by
 unfold hide at h;split at h
 ·cases h
 ·exact⟨h,‹_›⟩
theorem Fr.move{d d':Dv}(fr:Fr K HZ F σ H1 ρ)(hi:ρ[i]?=aa (.own a d))(S:aQ (hide H1 a) H')(hb:hide H1 a b=aq)(o:dQ K (λc=>(MM F ρ c/\c≠a) \/ c=b) H' b d'):Fr K HZ F (σ.set i (aa (.ref b))) H' (ρ.set i (.own b d')):=by
 have mem:Sl.own a d∈ρ:=bw hi;have h0:HZ a=aq:=fr.new a d mem;obtain⟨hsa,owa⟩:=fr.sl i _ hi;obtain⟨ua,hua,mua⟩:=owa.mut;have wk:∀c,MM F (ρ.set i (.own b d')) c->(MM F ρ c/\c≠a) \/ c=b:=λc h=>by
  by_cases cb:c=b
  ·exact .inr cb
  ·refine .inl ⟨?_,λca=>?_⟩
   ·rcases MM.set c h with h | ⟨_,h⟩
    ·exact h
    ·cases h;exact absurd rfl cb
   ·subst ca;rcases h with h | ⟨d2,h⟩
    ·exact fr.old.f _ h h0
    ·obtain⟨j,e⟩:=ls.mp h;rcases dX e with⟨_,_,z⟩ | ⟨ne,e⟩
     ·cases z;exact cb rfl
     ·exact ne (fr.nd i j _ d d2 hi e)
 have keep:∀c u,H1 c=aa u->c≠a->H' c=aa u:=λc u e n=>S c u (by rw[o0 n];exact e);have G:Gen K (MM F ρ) (MM F (ρ.set i (.own b d'))) H1 H':=by
  refine⟨λc u e mu m=>?_,λc xs e=>?_,λc ns h=>?_,λc o u e=>keep c _ e (p8 (by rw[hua];exact mua) e λz=>z)⟩
  ·have ca:c≠a:=λz=>m (by rw[z];exact .inr ⟨d,mem⟩);refine⟨keep c u e ca,λz=>?_⟩;rcases wk c z with z | z
   ·exact m z.1
   ·rw[<- z,o0 ca,e] at hb;cases hb
  ·exact keep c _ e (p8 (by rw[hua];exact mua) e λz=>z)
  ·rcases h with⟨u,h⟩ | h
   ·exact .inl ⟨u,keep c _ h (p8 (by rw[hua];exact mua) h λz=>z)⟩
   ·exact .inr h
 have oth:∀(j:Nat) (c:ae) (d2:Dv),i≠j->ρ[j]?=aa (.own c d2)->c≠a/\c≠b:=λj c d2 ne e=>by
  have ca:c≠a:=λz=>by subst z;exact ne (fr.nd i j _ d d2 hi e)
  refine⟨ca,λz=>?_⟩;obtain⟨u,hu,_⟩:=(fr.sl j _ e).2.mut;rw[<- z,o0 ca,hu] at hb;cases hb
 refine⟨by simp[fr.len],λj s e=>?_,λj k c d1 d2 e1 e2=>?_,λc d1 h=>?_,λc u e=>?_,fr.old⟩
 ·rcases dX e with⟨rfl,hl,rfl⟩ | ⟨hne,e⟩
  ·exact⟨by rw[fk (by rw[fr.len];exact hl)],o.weak wk⟩
  ·rw[dr hne];refine(fr.sl j s e).gen G λc d2 es u hu=>?_;subst es;exact keep c u hu (oth j c d2 hne e).1
 ·rcases dX e1 with⟨h1,_,z⟩ | ⟨n1,e1⟩
  ·rcases dX e2 with⟨h2,_,_⟩ | ⟨n2,e2⟩
   ·ac_rfl
   ·cases z;exact absurd rfl (oth k _ d2 n2 e2).2
  ·rcases dX e2 with⟨h2,_,z⟩ | ⟨n2,e2⟩
   ·cases z;exact absurd rfl (oth j _ d1 n1 e1).2
   ·exact fr.nd j k c d1 d2 e1 e2
 ·rcases ki h with h | h
  ·exact fr.new c d1 h
  ·cases h;by_cases ca:b=a
   ·rw[ca];exact h0
   ·rw[o0 ca] at hb;exact fr.same.free hb
 ·exact keep c u (fr.same c u e) λz=>by rw[z,h0] at e;cases e
end
noncomputable def jF(a:ae)(N:List bi):List Dv->List Sl
 | []=>[]
 |d::ds=>.own a d::(ds.map .v++ao (N.length-(ds.length+1)) .un)
theorem DC{d:Dv}(hF:(∀b,F b->H b≠aq/\b≠a)/\sN K H)(ow:dQ K (λb=>F b \/ b=a) H a d)(r:Reps K (λb=>F b \/ b=a) H vs ds):
  Fr K (hide H a) F (start N (.ref a::vs)) H (jF a N (d::ds)):=by
 have only:∀{c:ae} {e:Dv},Sl.own c e∈jF a N (d::ds)->c=a:=λ{c e} h=>by
  rcases br.mp h with h | h
  ·cases h;rfl
  ·rcases de.mp h with h | h
   ·obtain⟨z,_,e⟩:=fv.mp h;cases e
   ·cases cr h
 have wk:∀c,MM F (jF a N (d::ds)) c->F c \/ c=a:=λc h=>by
  rcases h with h | ⟨d,h⟩
  ·exact .inl h
  ·exact .inr (only h)
 have hl:=r.length;have r':=r.weak wk;have zero:∀(i:Nat) (c:ae) (e:Dv),(jF a N (d::ds))[i]?=aa (.own c e)->i=0:=λi c e h=>by
  cases i with
  |zero=>rfl
  |succ i=>
   have e':(ds.map Sl.v++ao (N.length-(ds.length+1)) Sl.un)[i]?=aa (.own c e):=h;have:=bw e';rcases de.mp this with h | h
   ·obtain⟨z,_,e⟩:=fv.mp h;cases e
   ·cases cr h
 refine⟨by simp[L2.start,jF,hl],λi s e=>?_,λi j c e1 e2 h1 h2=>?_,λc e h=>by rw[only h];exact wU,λc u e=>(E1 e).1,λc h=>by rw[o0 (hF.1 c h).2];exact(hF.1 c h).1,λP q z=>?_⟩
 ·cases i with
  |zero=>
   cases e;exact⟨rfl,ow.weak wk⟩
  |succ i=>
   have e':(ds.map Sl.v++ao (N.length-(ds.length+1)) Sl.un)[i]?=aa s:=e;have es:(start N (.ref a::vs))[i+1]?=(vs.map aa++ao (N.length-(vs.length+1)) aq)[i]?:=by simp[L2.start]
   rw[es];by_cases hi:i<ds.length
   ·rw[bj (by simpa using hi),cg] at e';cases q:ds[i]? with
    |none=>rw[q] at e';cases e'
    |some d=>
     rw[q] at e';cases e';obtain⟨y,hy,ry⟩:=r'.get q;refine⟨y,?_,ry⟩;rw[bj (by simpa using(av.mp hy).1),cg,hy];rfl
   ·rw[bt (by simpa using jn hi)] at e';have:=bw e';cases cr this;trivial
 ·rw[zero i c e1 h1,zero j c e2 h2]
 ·have e:=hF.2 P q z;obtain⟨u,hu,mu⟩:=ow.mut;rw[o0 (p8 (by rw[hu];exact mu) e λz=>z)];exact e
noncomputable def M5(i:Nat)(sp:Fn)(ts:mD):bS:=λE ρ=>ts ρ λrs=>match rs with
 | .ow a d::VL=>ρ[i]?=aa (.own a d)/\VL.all R.free=ai/\sp (d::VL.map R.d) (λr=>match r with | .nw d'=>∀b,E.nx (ρ.set i (.own b d')) | _=>False)
 |_=>False
section
variable {k:Nat}{pos pos2:jr}
end
end Z
namespace Z
open L2
noncomputable def Px:Dv->Dv->(R->Prop)->Prop
 | .int i,.int j,Q=>J6 i j/\Q (.v (.int (i*2 ^ j.toNat)))
 |_,_,_=>False
end Z
variable {b:Int}
namespace L2
open AutoSeq1
section
variable {r:ae}{a c:Int}{t u v:Tok}
end
end L2
namespace L2
end L2
namespace Z
open L2
section
variable {a:Expr}{ts:mD}{p2 pos:jr}
noncomputable def NS(ts:mD):dP:=λρ Q=>ts ρ λrs=>match rs.map R.d with
 | [.int j]=>(-(2 ^ 62)<=j/\j<2 ^ 62/\j.toNat<=1000000)/\Q (.v (.tup (bP 0 j.toNat)))
 |_=>False
end
end Z
namespace Tim
open PySem PySem.W PyProof.Rows
noncomputable def ask(lt:Nat->Nat->Bool)(N:Nat){α:Type}:KasT α->(α->Prop)->Prop
 | .ret a,Q=>Q a
 | .ask i j k,Q=>(i<N/\j<N/\i≠j)/\ask lt N (k (lt i j)) Q
theorem kW{lt:Nat->Nat->Bool}{N:Nat}{α β:Type}{f:α->KasT β}{Q:β->Prop}:∀(t:KasT α),ask lt N t (λa=>ask lt N (f a) Q)->ask lt N (t.bind f) Q
 | .ret _,h=>h
 | .ask i j k,h=>⟨h.1,kW (k (lt i j)) h.2⟩
theorem Gs{lt:Nat->Nat->Bool}{N:Nat}{α:Type}{cmp:Nat->Nat->(Bool->ah->Prop)->ah->Prop}{s:ah}(hc:∀i j C,i<N->j<N->i≠j->C (lt i j) s->cmp i j C s){Q:α->ah->Prop}:
  ∀(t:KasT α),ask lt N t (λa=>Q a s)->t.kasWp cmp Q s
 | .ret _,h=>h
 | .ask i j k,h=>hc i j _ h.1.1 h.1.2.1 h.1.2.2 (Gs hc (k (lt i j)) h.2)
structure Weak(lt:Nat->Nat->Bool):Prop where
 irr:∀a,lt a a=ak
 tr:∀a b c,lt a b=ai->lt b c=ai->lt a c=ai
 nt:∀a b c,lt a c=ai->lt a b=ai \/ lt b c=ai
noncomputable def cR(p:Array Nat)(k:Nat):Nat:=p.getD k 0
variable {p:Array Nat}{j:Nat}
theorem BB{q:Array Nat}(h:p[i]?=q[j]?):cR p i=cR q j:=by
 unfold cR;rw[tu,tu,h]
theorem kI(hj:j<=p.size)(k:Nat):cR (kas_rev p i j) k=if i<=k/\k<j then cR p (i+j-1-k) else cR p k:=by
 have e:=getElem?_mirror_all (i:=i) hj k;split
 ·rename_i h;rw[VH h] at e;exact BB e
 ·rename_i h;rw[Vn h] at e;exact BB e
theorem LN{k d:Nat}(hs:k<p.size)(hd:d<=k)(u:Nat):cR (bubble p k d) u=if u=k-d then cR p k else if k-d<u/\u<=k then cR p (u-1) else cR p u:=by
 have e:=getElem?_bubble hs d hd u;by_cases h1:u=k-d
 ·rw[VH h1] at e ⊢;exact BB e
 ·rw[Vn h1] at e ⊢;by_cases h2:k-d<u/\u<=k
  ·rw[VH h2] at e ⊢;exact BB e
  ·rw[Vn h2] at e ⊢;exact BB e
noncomputable def Pm(N:Nat)(p:Array Nat):Prop:=p.Perm (Ta (ig N))
variable {q a b:Nat}{Q:Nat×Array Nat->Prop}
section
variable {lt:Nat->Nat->Bool}{N:Nat}{p:Array Nat}
theorem Pm.size(h:Pm N p):p.size=N:=by
 have:=Array.Perm.size_eq h;simpa using this
theorem Pm.list(h:Pm N p):p.toList.Perm (ig N):=by
 have:=Array.perm_iff_toList_perm.mp h;simpa using this
theorem pS{k:Nat}(hk:k<p.size):cR p k=p.toList[k]'(by simpa using hk):=by
 unfold cR;simp[VA,hk]
theorem Pm.ltN(h:Pm N p){k:Nat}(hk:k<N):cR p k<N:=by
 have hs:k<p.size:=by rw[h.size];exact hk
 rw[pS hs];exact xq.mp (h.list.mem_iff.mp (gm _))
theorem Pm.ne(h:Pm N p)(hi:i<N)(hj:j<N)(n:i≠j):cR p i≠cR p j:=by
 have nd:p.toList.Nodup:=h.list.nodup_iff.mpr List.nodup_range;rw[pS (by rw[h.size];exact hi),pS (by rw[h.size];exact hj)];intro e;rcases zi n with z | z
 ·exact cw.mp nd i j _ _ z e
 ·exact cw.mp nd j i _ _ z e.symm
theorem Pm.rev(h:Pm N p)(i j:Nat):Pm N (kas_rev p i j):=Array.Perm.trans (mirror_perm _ _ _ _) h
theorem Pm.bub(h:Pm N p)(i j:Nat):Pm N (bubble p i j):=Array.Perm.trans (bubble_perm _ _ _) h
noncomputable def Tl(N:Nat)(p:Array Nat)(k:Nat):Prop:=∀i,k<=i->i<N->cR p i=i
theorem Tl.up{k m:Nat}(h:Tl N p k)(hm:k<=m):Tl N p m:=λi hi hn=>h i (lh hm hi) hn
theorem Tl.below{k:Nat}(h:Tl N p k)(P:Pm N p)(hk:i<k)(hn:i<N):cR p i<k:=by
 have:=P.ltN hn;apply Nat.lt_of_not_le;intro z;have e:=h _ z this;exact P.ne hn this ⋯ e.symm
theorem Tl.rev{k:Nat}(h:Tl N p k)(P:Pm N p)(hj:j<=k)(hN:j<=N):Tl N (kas_rev p i j) k:=λu hu hn=>by
 rw[kI (by rw[P.size];exact hN),Vn ⋯];exact h u hu hn
noncomputable def EI(lt:Nat->Nat->Bool)(a b:Nat):Prop:=lt b a=ak/\(lt a b=ai \/ a<b)
theorem EI.trans(W:Weak lt){c:Nat}(h:EI lt a b)(k:EI lt b c):EI lt a c:=by
 have n1:lt c a=ak:=by
  cases e:lt c a with
  |false=>rfl
  |true=>
   rcases W.nt c b a e with z | z
   ·rw[k.1] at z;cases z
   ·rw[h.1] at z;cases z
 refine⟨n1,?_⟩;rcases h.2 with x | x
 ·rcases W.nt a c b x with z | z
  ·exact .inl z
  ·rw[k.1] at z;cases z
 ·rcases k.2 with y | y
  ·rcases W.nt b a c y with z | z
   ·rw[h.1] at z;cases z
   ·exact .inl z
  ·exact .inr (Ux x y)
theorem Weak.asym(W:Weak lt)(h:lt a b=ai):lt b a=ak:=by
 cases e:lt b a with
 |false=>rfl
 |true=>have:=W.tr _ _ _ h e;rw[W.irr] at this;cases this
theorem EI.of(W:Weak lt)(h:lt a b=ai):EI lt a b:=⟨W.asym h,.inl h⟩
noncomputable def Up(lt:Nat->Nat->Bool)(p:Array Nat)(k:Nat):Prop:=∀u v,u<v->v<k->EI lt (cR p u) (cR p v)
noncomputable def Dn(lt:Nat->Nat->Bool)(p:Array Nat)(k:Nat):Prop:=∀u v,u<v->v<k->EI lt (cR p v) (cR p u)
theorem Up.rev{k:Nat}(h:Up lt p k)(hk:k<=p.size):Dn lt (kas_rev p 0 k) k:=λu v huv hv=>by
 rw[kI hk,kI hk,VH (by omega),VH (by omega)];exact h _ _ (by omega) (by omega)
theorem Dn.rev{k:Nat}(h:Dn lt p k)(hk:k<=p.size):Up lt (kas_rev p 0 k) k:=λu v huv hv=>by
 rw[kI hk,kI hk,VH ⋯,VH ⋯];exact h _ _ ⋯ ⋯
theorem Up.snoc(W:Weak lt){k:Nat}(h:Up lt p k)(t:Tl N p k)(P:Pm N p)(h1:1<=k)(hk:k<N)(n:lt (cR p k) (cR p (k-1))=ak):Up lt p (k+1):=λu v huv hv=>by
 by_cases e:v=k
 ·subst e;have one:EI lt (cR p (v-1)) (cR p v):=⟨n,.inr (by rw[t v (bo _) hk];exact t.below P ⋯ ⋯)⟩;by_cases e2:u=v-1
  ·rw[e2];exact one
  ·exact(h u (v-1) ⋯ ⋯).trans W one
 ·exact h u v huv ⋯
theorem zC(W:Weak lt)(P:Pm N p){Q:Nat->Prop}:∀(f n:Nat),1<=n->n+f<=N->Up lt p n->Tl N p n ->
  (∀m,n<=m->m<=n+f->Up lt p m->(m=n+f \/ m<N/\lt (cR p m) (cR p (m-1))=ai)->Q m)->ask lt N (kas_asc p f n) Q
 |0,n,_,hn,u,t,k=>k n (bo _) (bo _) u (.inl rfl)
 |f+1,n,h1,hn,u,t,k=>by
  refine⟨⟨P.ltN ⋯,P.ltN ⋯,P.ne ⋯ ⋯ ⋯⟩,?_⟩;show ask lt N (if lt (cR p n) (cR p (n-1))=ai then KasT.ret n else kas_asc p f (n+1)) Q;cases e:lt (cR p n) (cR p (n-1)) with
  |true=>
   rw[VH rfl];exact k n (bo _) ⋯ u (.inr ⟨⋯,e⟩)
  |false=>
   rw[Vn (by simp)];exact zC W P f (n+1) ⋯ ⋯ (u.snoc W t P h1 ⋯ e) (t.up ⋯) λm a b c d=>k m ⋯ ⋯ c (d.elim (λz=>.inl ⋯) .inr)
structure Run(lt:Nat->Nat->Bool)(N:Nat)(p:Array Nat)(n q:Nat):Prop where
 pm:Pm N p
 tl:Tl N p n
 le:q+1<=n
 hi:n<=N
 dn:Dn lt p (n-(q+1))
 same:∀u v,n-(q+1)<=u->u<v->v<n->lt (cR p u) (cR p v)=ak/\lt (cR p v) (cR p u)=ak/\cR p u<cR p v
 less:∀u v,u<n-(q+1)->n-(q+1)<=v->v<n->lt (cR p v) (cR p u)=ai
theorem Run.turn(W:Weak lt)(h:Run lt N p n q):Dn lt (kas_rev p (n-(q+1)) n) n:=λu v huv hv=>by
 have hs:n<=p.size:=by rw[h.pm.size];exact h.hi
 have hl:=h.le;rw[kI hs,kI hs];by_cases c:n-(q+1)<=v
 ·rw[VH ⟨c,hv⟩];by_cases d:n-(q+1)<=u
  ·rw[VH ⟨d,by omega⟩];obtain⟨a,b,e⟩:=h.same (n-(q+1)+n-1-v) (n-(q+1)+n-1-u) (by omega) (by omega) (by omega);exact⟨b,.inr e⟩
  ·rw[Vn (by omega)];exact EI.of W (h.less u _ (by omega) (by omega) (by omega))
 ·rw[Vn (by omega),Vn (by omega)];exact h.dn u v huv (by omega)
theorem Run.flat(W:Weak lt)(h:Run lt N p n 0):Dn lt p n:=λu v huv hv=>by
 by_cases c:n-1<=v
 ·exact EI.of W (h.less u v ⋯ ⋯ hv)
 ·exact h.dn u v huv ⋯
theorem Run.done(W:Weak lt)(h:Run lt N p n q):∃p',(if q > 0 then kas_rev p (n-(q+1)) n else p)=p'/\Pm N p'/\Tl N p' n/\Dn lt p' n /\ ∀u,u<n -> ∃w,w<n/\cR p' u=cR p w:=by
 by_cases c:q > 0
 ·refine⟨_,VH c,h.pm.rev _ _,h.tl.rev h.pm (bo _) h.hi,h.turn W,λu hu=>?_⟩;have hl:=h.le;rw[kI (by rw[h.pm.size];exact h.hi)];split
  ·exact⟨_,⋯,rfl⟩
  ·exact⟨u,hu,rfl⟩
 ·have:q=0:=⋯;subst this;exact⟨_,Vn c,h.pm,h.tl,h.flat W,λu hu=>⟨u,hu,rfl⟩⟩
theorem Run.next(W:Weak lt)(h:Run lt N p n q)(hn:n<N)(e:lt (cR p n) (cR p (n-1))=ai):Run lt N (if q > 0 then kas_rev p (n-(q+1)) n else p) (n+1) 0:=by
 have hl:=h.le;have all:∀w,w<n->lt (cR p n) (cR p w)=ai:=λw hw=>by
  by_cases c:w=n-1
  ·rw[c];exact e
  ·by_cases d:w<n-(q+1)
   ·exact W.tr _ _ _ e (h.less w (n-1) d ⋯ ⋯)
   ·rcases W.nt _ (cR p w) _ e with z | z
    ·exact z
    ·rw[(h.same w (n-1) ⋯ ⋯ ⋯).1] at z;cases z
 obtain⟨p',ep,P,T,D,A⟩:=h.done W;rw[ep];have en:cR p' n=cR p n:=by rw[T n (bo _) hn,h.tl n (bo _) hn]
 refine⟨P,T.up ⋯,⋯,hn,by simpa using D,λu v a b c=>by ac_rfl,λu v a b c=>?_⟩;have:v=n:=⋯;subst this;obtain⟨w,hw,ew⟩:=A u ⋯;rw[en,ew];exact all w hw
theorem Run.more(W:Weak lt)(h:Run lt N p n q)(hn:n<N)(e:lt (cR p n) (cR p (n-1))=ak)(d:lt (cR p (n-1)) (cR p n)=ak):Run lt N p (n+1) (q+1):=by
 have hl:=h.le;have en:=h.tl n (bo _) hn;have sz:n+1-(q+1+1)=n-(q+1):=⋯;refine⟨h.pm,h.tl.up ⋯,⋯,hn,by rw[sz];exact h.dn,λu v a b c=>?_,λu v a b c=>?_⟩
 ·rw[sz] at a;by_cases z:v=n
  ·subst z;have lw:cR p u<cR p v:=by rw[en];exact h.tl.below h.pm b ⋯
   by_cases y:u=v-1
   ·subst y;exact⟨d,e,lw⟩
   ·obtain⟨s1,s2,_⟩:=h.same u (v-1) a ⋯ ⋯;refine⟨?_,?_,lw⟩
    ·cases q1:lt (cR p u) (cR p v) with
     |false=>rfl
     |true=>
      rcases W.nt _ (cR p (v-1)) _ q1 with x | x
      ·rw[s1] at x;cases x
      ·rw[d] at x;cases x
    ·cases q1:lt (cR p v) (cR p u) with
     |false=>rfl
     |true=>
      rcases W.nt _ (cR p (v-1)) _ q1 with x | x
      ·rw[e] at x;cases x
      ·rw[s2] at x;cases x
  ·exact h.same u v a b ⋯
 ·rw[sz] at a b;by_cases z:v=n
  ·subst z;rcases W.nt _ (cR p v) _ (h.less u (v-1) a ⋯ ⋯) with x | x
   ·rw[d] at x;cases x
   ·exact x
  ·exact h.less u v a b ⋯
theorem qX(W:Weak lt){Q:Array Nat×Nat×Nat->Prop}:∀(f:Nat) (p:Array Nat) (n q:Nat),n+f<=N->Run lt N p n q->(∀p' n' q',n<=n'->n'<=n+f->Run lt N p' n' q'->Q (p',n',q'))->ask lt N (kas_desc f p n q) Q
 |0,p,n,q,hn,r,k=>k p n q (bo _) (bo _) r
 |f+1,p,n,q,hn,r,k=>by
  have hl:=r.le;refine⟨⟨r.pm.ltN ⋯,r.pm.ltN ⋯,r.pm.ne ⋯ ⋯ ⋯⟩,?_⟩;show ask lt N (if lt (cR p n) (cR p (n-1))=ai then (if q > 0 then kas_desc f (kas_rev p (n-(q+1)) n) (n+1) 0 else kas_desc f p (n+1) 0)
   else .ask (p.getD (n-1) 0) (p.getD n 0) λd=>if d=ai then .ret (p,n,q) else kas_desc f p (n+1) (q+1)) Q
  cases e:lt (cR p n) (cR p (n-1)) with
  |true=>
   rw[VH rfl];have r':=r.next W ⋯ e;by_cases c:q > 0
   ·rw[VH c] at r' ⊢;exact qX W f _ (n+1) 0 ⋯ r' λp' n' q' a b c=>k p' n' q' ⋯ ⋯ c
   ·rw[Vn c] at r' ⊢;exact qX W f _ (n+1) 0 ⋯ r' λp' n' q' a b c=>k p' n' q' ⋯ ⋯ c
  |false=>
   rw[Vn (by simp)];refine⟨⟨r.pm.ltN ⋯,r.pm.ltN ⋯,r.pm.ne ⋯ ⋯ ⋯⟩,?_⟩;show ask lt N (if lt (cR p (n-1)) (cR p n)=ai then .ret (p,n,q) else kas_desc f p (n+1) (q+1)) Q;cases d:lt (cR p (n-1)) (cR p n) with
   |true=>
    rw[VH rfl];exact k p n q (bo _) ⋯ r
   |false=>
    rw[Vn (by simp)];exact qX W f _ (n+1) (q+1) ⋯ (r.more W ⋯ e d) λp' n' q' a b c=>k p' n' q' ⋯ ⋯ c
noncomputable def RZ(lt:Nat->Nat->Bool)(N:Nat)(r:Nat×Array Nat):Prop:=1<=r.1/\r.1<=N/\Pm N r.2/\Up lt r.2 r.1/\Tl N r.2 r.1
theorem zU(W:Weak lt)(P:Pm N p)(h1:1<=n)(hn:n<=N)(D:Dn lt p n)(T:Tl N p n)(k:∀r,RZ lt N r->Q r):ask lt N (kas_tail3 n N p) Q:=by
 unfold kas_tail3;have P':=P.rev 0 n;have T':Tl N (kas_rev p 0 n) n:=T.rev P (bo _) hn;refine kW _ (zC W P' (N-n) n h1 ⋯ (D.rev (by rw[P.size];exact hn)) T' λm a b c d=>?_);exact k _ ⟨by show 1<=m;ac_rfl,by show m<=N;ac_rfl,P',c,T'.up a⟩
theorem AH(W:Weak lt)(P:Pm N p)(h1:1<=n)(hn:n<N)(D:Dn lt p n)(T:Tl N p n)(e:∀w,w<n->lt (cR p n) (cR p w)=ai)(k:∀r,RZ lt N r->Q r):ask lt N (kas_descPart n N p) Q:=by
 unfold kas_descPart;have r0:Run lt N p (n+1) 0:=⟨P,T.up ⋯,⋯,hn,by simpa using D,λu v a b c=>by ac_rfl,λu v a b c=>by
  have:v=n:=⋯;subst this;exact e u ⋯⟩
 refine kW _ (qX W _ p (n+1) 0 ⋯ r0 λp' n' q' a b r=>?_);obtain⟨p2,ep,P2,T2,D2,_⟩:=r.done W;show ask lt N (if q' > 0 then kas_tail3 n' N (kas_rev p' (n'-(q'+1)) n') else kas_tail3 n' N p') Q;by_cases c:q' > 0
 ·rw[VH c] at ep ⊢;rw[ep];exact zU W P2 ⋯ ⋯ D2 T2 k
 ·rw[Vn c] at ep ⊢;rw[ep];exact zU W P2 ⋯ ⋯ D2 T2 k
theorem EC(W:Weak lt)(P:Pm N p)(h1:1<=N)(T:Tl N p 0)(k:∀r,RZ lt N r->Q r):ask lt N (kas_count N p) Q:=by
 unfold kas_count;refine kW _ (zC W P (N-1) 1 (bo _) ⋯ (λu v a b=>by ac_rfl) (T.up ⋯) λm a b c d=>?_);by_cases z:m=N
 ·rw[VH (by simpa using z)];exact k _ ⟨a,by show m<=N;ac_rfl,P,c,T.up ⋯⟩
 ·rw[Vn (by simpa using z)];have hm:m<N/\lt (cR p m) (cR p (m-1))=ai:=d.resolve_left ⋯;by_cases y:m > 1
  ·rw[VH y];refine⟨⟨P.ltN ⋯,P.ltN ⋯,P.ne ⋯ ⋯ ⋯⟩,?_⟩;show ask lt N (if lt (cR p 0) (cR p (m-1))=ai then .ret (m,p) else kas_descPart m N (kas_rev p 0 m)) Q;cases e:lt (cR p 0) (cR p (m-1)) with
   |true=>
    rw[VH rfl];exact k _ ⟨a,by show m<=N;ac_rfl,P,c,T.up ⋯⟩
   |false=>
    rw[Vn (by simp)];have hs:m<=p.size:=by rw[P.size];ac_rfl
    refine AH W (P.rev _ _) a hm.1 (c.rev hs) ((T.up (nj m)).rev P (bo _) ⋯) (λw hw=>?_) k;rw[kI hs,kI hs,Vn ⋯,VH ⋯];have m0:lt (cR p m) (cR p 0)=ai:=by
     rcases W.nt _ (cR p 0) _ hm.2 with x | x
     ·exact x
     ·rw[e] at x;cases x
    by_cases w0:0+m-1-w=0
    ·rw[w0];exact m0
    ·rcases W.nt _ (cR p (0+m-1-w)) _ m0 with x | x
     ·exact x
     ·rw[(c 0 (0+m-1-w) ⋯ ⋯).1] at x;cases x
  ·rw[Vn y];have:m=1:=⋯;subst this;refine AH W P a hm.1 (λu v a b=>by ac_rfl) (T.up ⋯) (λw hw=>?_) k;have:w=0:=⋯;subst this;exact hm.2
theorem rM(W:Weak lt)(P:Pm N p){k:Nat}(hk:k<N)(U:Up lt p k){Q:Nat->Prop}:∀(f l r:Nat),l<=r->r<=k->r-l<=f->(∀u,u<l->lt (cR p k) (cR p u)=ak)->(∀u,r<=u->u<k->lt (cR p k) (cR p u)=ai) ->
  (∀l',l'<=k->(∀u,u<l'->lt (cR p k) (cR p u)=ak)->(∀u,l'<=u->u<k->lt (cR p k) (cR p u)=ai)->Q l')->ask lt N (kas_place p k f l r) Q
 |0,l,r,hl,hr,hf,a,b,g=>by
  have:r=l:=⋯;subst this;exact g r hr a b
 |f+1,l,r,hl,hr,hf,a,b,g=>by
  unfold kas_place;by_cases c:l >= r
  ·rw[VH c];have:r=l:=⋯;subst this;exact g r hr a b
  ·rw[Vn c];have hm:(l+r) / 2<r:=⋯;have hm2:l<=(l+r) / 2:=⋯;generalize (l+r) / 2=mid at *;refine⟨⟨P.ltN hk,P.ltN ⋯,P.ne hk ⋯ ⋯⟩,?_⟩;show ask lt N (if lt (cR p k) (cR p mid)=ai then kas_place p k f l mid else kas_place p k f (mid+1) r) Q;cases e:lt (cR p k) (cR p mid) with
   |true=>
    rw[VH rfl];refine rM W P hk U f l mid hm2 ⋯ ⋯ a (λu h1 h2=>?_) g;by_cases z:u=mid
    ·rw[z];exact e
    ·rcases W.nt _ (cR p u) _ e with x | x
     ·exact x
     ·rw[(U mid u ⋯ h2).1] at x;cases x
   |false=>
    rw[Vn (by simp)];refine rM W P hk U f (mid+1) r ⋯ hr ⋯ (λu hu=>?_) b g;by_cases z:u=mid
    ·rw[z];exact e
    ·cases q:lt (cR p k) (cR p u) with
     |false=>rfl
     |true=>
      rcases W.nt _ (cR p mid) _ q with x | x
      ·rw[e] at x;cases x
      ·rw[(U u mid ⋯ ⋯).1] at x;cases x
theorem Cz(W:Weak lt){Q:Array Nat->Prop}:∀(f:Nat) (p:Array Nat) (k:Nat),k+f=N->Pm N p->Up lt p k->Tl N p k->(∀p',Pm N p'->Up lt p' N->Q p')->ask lt N (kas_bin f p k) Q
 |0,p,k,hk,P,U,T,g=>by
  have:k=N:=⋯;subst this;exact g p P U
 |f+1,p,k,hk,P,U,T,g=>by
  refine kW _ (rM W P ⋯ U k 0 k (nj _) (bo _) ⋯ (λu h=>by ac_rfl) (λu h1 h2=>by ac_rfl) λl hl a b=>?_);have hs:k<p.size:=by rw[P.size];ac_rfl
  have e:∀u,cR (bubble p k (k-l)) u=if u=l then cR p k else if l<u/\u<=k then cR p (u-1) else cR p u:=λu=>by
   rw[LN hs ⋯ u,show k-(k-l)=l by ac_rfl]
  refine Cz W f _ (k+1) ⋯ (P.bub _ _) (λu v huv hv=>?_) (λi hi hn=>?_) g
  ·have tk:=T k (bo _) ⋯;rw[e u,e v];by_cases u1:u=l
   ·rw[VH u1,Vn ⋯,VH ⋯];exact EI.of W (b (v-1) ⋯ ⋯)
   ·rw[Vn u1];by_cases v1:v=l
    ·rw[VH v1,Vn ⋯];exact⟨a u ⋯,.inr (by rw[tk];exact T.below P ⋯ ⋯)⟩
    ·rw[Vn v1];by_cases u2:l<u
     ·rw[VH ⋯,VH ⋯];exact U _ _ ⋯ ⋯
     ·rw[Vn ⋯];by_cases v2:l<v
      ·rw[VH ⋯];exact U _ _ ⋯ ⋯
      ·rw[Vn ⋯];exact U _ _ ⋯ ⋯
  ·rw[e i,Vn ⋯,Vn ⋯];exact T i ⋯ hn
theorem El(W:Weak lt)(h1:1<=N){Q:Array Nat->Prop}(k:∀p',Pm N p'->Up lt p' N->Q p'):ask lt N (kas_sort N) Q:=by
 unfold kas_sort;refine kW _ (EC W (Array.Perm.refl _) h1 (λi _ hi=>by simp[cR,VA,hi]) λr g=>?_);obtain⟨a,b,c,d,e⟩:=g;by_cases z:r.1<N
 ·rw[VH z];have:max r.1 1=r.1:=⋯;rw[this];exact Cz W _ r.2 r.1 ⋯ c d e k
 ·rw[Vn z];have:r.1=N:=⋯;rw[this] at d;exact k _ c d
end
end Tim
namespace L2
open PySem PySem.Spec PySem.W PyProof.Rows Tim
noncomputable abbrev picked(vs:List ac)(p:Array Nat):List ac:=p.toList.map λi=>vs.getD i jt
structure Cmp(prog:ar)(w:bm)(s:ah)(a:ae)(vs:List ac)(lt:Nat->Nat->Bool)(κ:vn):Prop where
 wk:Weak lt
 kind:∀(A:bx) (h:cm) (Q:vn->ah->Prop),(∀b o,b≠a->s.heap.get? b=aa o->h.get? b=aa o)->Q κ { s with heap:=h }->bu (bv prog w) A (keyKind' vs.toArray) Q (λ_ _=>False) { s with heap:=h }
 less:∀(A:bx) (h:cm) (i j:Nat) (C:Bool->ah->Prop),(∀b o,b≠a->s.heap.get? b=aa o->h.get? b=aa o)->i<vs.length->j<vs.length->i≠j->C (lt i j) { s with heap:=h } ->
  bu (bv prog w) A (keyLt' κ (vs.getD i jt) (vs.getD j jt)) C (λ_ _=>False) { s with heap:=h }
variable {vs:List ac}{κ:vn}
theorem DQ(vs:List ac):picked vs (Ta (ig vs.length))=vs:=by
 apply oa;intro i;by_cases h:i<vs.length
 ·simp[picked,h]
 ·simp[picked,h]
theorem DG{lt:Nat->Nat->Bool}{P:Fin->ah->Prop}(ho:s.heap.get? a=aa (om "list" vs.toArray n))(h64:vs.length<64)(c:2<=vs.length->Cmp prog w s a vs lt κ)
  (k:∀p,Pm vs.length p->Up lt p vs.length->P (.done (.ret .none)) { s with heap:=sortedHeap s.heap a vs (picked vs p).toArray }):bu (bv prog w) A (xo.«list.sort» ⟨[.ref a],[]⟩) P E s:=by
 have la:a<s.heap.objs.size:=be ho
 let h1:=s.heap.update a (uf λ_=>#[])
 let h2:=h1.push (om "tuple" vs.toArray 0)
 let h3:=h2.push (om "list" #[] 0)
 obtain⟨m,g1⟩:∃m,h1.get? a=aa (om "list" #[] m):=⟨_,U9 ho λ_=>#[]⟩;have sz1:h1.objs.size=s.heap.objs.size:=vo ..;have keep:∀b o,b≠a->s.heap.get? b=aa o->h3.get? b=aa o:=λb o hb e=>
  ap _ (ap _ ((yd _ _ _ _ hb).trans e))
 have g3:h3.get? a=aa (om "list" #[] m):=ap _ (ap _ g1);have Wc:vs.length<=bf:=by rw[iq];ac_rfl
 have fin:∀p,Pm vs.length p->Up lt p vs.length->bu (bv prog w) A (do
   let touched:=(<- seqEpoch a) != m
   UX (.ref a) λ_=>(picked vs p).toArray
   if touched then Vj "list.sort.modified";raiseError "ValueError" "list modified during sort"
   ret .none) P E { s with heap:=h3 }:=λp pm up=>by
  have sz:(picked vs p).toArray.size=vs.length:=by simp[picked,pm.size]
  refine af (seqEpoch_at g3 rfl (af (yo g3 rfl ?_ (nj _) (by rw[sz];ac_rfl))));rw[show (m != m)=ak by simp];exact aw (k p pm up)
 rw[list_sort_plain];refine af (Tb ho rfl (af (yo ho rfl ?_ (by simpa using Wc) (nj _))));refine af (seqEpoch_at g1 rfl (af (wpAny_newTuple (af (vf (mw ?_) (nj _))) (by simpa using Wc))));show bu (bv prog w) A _ P E { s with heap:=h3 };dsimp only;by_cases two:2<=vs.length
 ·have big:¬vs.toArray.size<2:=by simpa using two
  rw[Vn big,Vn big];have cc:=c two;refine af (ii (cc.kind A h3 (λx s'=>x=κ/\s'={ s with heap:=h3 }) keep ⟨rfl,rfl⟩) (λx s' e=>?_) λ_ _ z=>z.elim);obtain⟨rfl,rfl⟩:=e;have tree:(kas_sort vs.length).kasWp (kas_ask prog w A x vs) (λp s'=>(Pm vs.length p/\Up lt p vs.length)/\s'={ s with heap:=h3 }) { s with heap:=h3 }:=
   Gs (lt:=lt) (N:=vs.length) (λi j C hi hj hn q=>cc.less A h3 i j C keep hi hj hn q) _ (El cc.wk ⋯ λp a b=>⟨⟨a,b⟩,rfl⟩)
  refine af (ii (kat_run (E:=E) (Q:=λst' s'=>∃p,(Pm vs.length p/\Up lt p vs.length)/\arrOf st'=p.map (kas_item (vs.toArray.zip vs.toArray))/\failedOf st'=aq/\s'={ s with heap:=h3 })
   rfl two h64 (λp st' s' _ a b q=>⟨p,q.1,a,b,q.2⟩) tree) (λr s' q=>?_) λ_ _ z=>z)
  obtain⟨⟨⟩,st'⟩:=r;obtain⟨p,⟨pm,up⟩,e1,e2,rfl⟩:=q;dsimp only at e1 e2 ⊢;rw[kat_snds rfl e1,e2];exact fin p pm up
 ·have few:vs.toArray.size<2:=by simp;ac_rfl
  rw[VH few,VH few];refine af (aw ?_);rw[StateT.run_pure];refine af (aw ?_);dsimp only;have e:((arrOf (SortSt.mk' general' (vs.toArray.zip vs.toArray) #[] 7 aq)).map λx=>x.2)=(picked vs (Ta (ig vs.length))).toArray:=by
   rw[DQ];apply Array.toList_inj.mp;show ((vs.toArray.zip vs.toArray).map λx=>x.2).toList=_;simp;apply oa;intro i;by_cases hi:i<vs.length
   ·simp[hi]
   ·simp[hi]
  rw[e];exact fin _ (Array.Perm.refl _) λu v h1 h2=>by ac_rfl
theorem DE{l:ae}{lt:Nat->Nat->Bool}{Q:ac->ah->Prop}(hl:s.heap.IsList l vs.toArray)(h64:vs.length<64)(c:2<=vs.length->Cmp prog w s s.heap.objs.size vs lt κ)
  (k:∀p,Pm vs.length p->Up lt p vs.length->Q (.ref (s.heap.objs.size+1)) { s with heap:=sortedAll s.heap vs (picked vs p).toArray }):bu (bv prog w) A (call (.builtin "sorted") [.ref l]) Q E s:=by
 have Wc:vs.length<=bf:=by rw[iq];ac_rfl
 let h1:=(s.heap.push (om "list" #[] 0)).update s.heap.objs.size (uf (· ++ vs.toArray))
 let h2:=h1.push (om "list" vs.toArray 0)
 have sz:h1.objs.size=s.heap.objs.size+1:=(vo ..).trans (size_push' _ _);have old:∀b o,s.heap.get? b=aa o->h2.get? b=aa o:=λb o e=>
  ap _ ((yd _ _ _ _ (fh (be e))).trans (ap _ e))
 have mine:h2.get? (s.heap.objs.size+1)=aa (om "list" vs.toArray 0):=sz ▸ cp h1 rfl;refine ur kind_sorted plain_sorted entry_sorted (args_sorted1 _) ?_;unfold xo.«sorted»;refine af (m:=checkCount "sorted" 1 1 _) (aw (af (collect_list hl (af (vf ?_ Wc)) Wc)));show bu _ _ _ _ _ { s with heap:=h2 };rw[show ((s.heap.push (om "list" #[] 0)).update s.heap.objs.size (uf (· ++ vs.toArray))).objs.size=s.heap.objs.size+1 from sz];refine af (mw (fj UB ⟨_,mine,rfl⟩ Ua ?_ (UC _)));refine DG (s:={ s with heap:=h2 }) (lt:=lt) (κ:=κ) mine h64 (λtwo=>?_) λp a b=>⟨_,rfl,aw ⟨_,rfl,k p a b⟩⟩
 ·have cc:=c two;exact⟨cc.wk,λA h Q hk q=>cc.kind A h Q (λb o hb e=>hk b o (λz=>by have y:=be e;rw[z] at y;exact xg y) (old b o e)) q,
   λA h i j C hk hi hj hn q=>cc.less A h i j C (λb o hb e=>hk b o (λz=>by have y:=be e;rw[z] at y;exact xg y) (old b o e)) hi hj hn q⟩
noncomputable def lexB:List Int->List Int->Bool
 | [],[]=>ak
 | [],_::_=>ai
 |_::_,[]=>ak
 |a::r,b::t=>if a=b then lexB r t else decide (a<b)
theorem iQ:∀a,lexB a a=ak
 | []=>rfl
 |a::r=>by rw[lexB,VH rfl];exact iQ r
theorem nY:∀a b c,lexB a b=ai->lexB b c=ai->lexB a c=ai
 | [],[],_,h,_=>by cases h
 | [],_::_,[],_,k=>by cases k
 | [],_::_,_::_,_,_=>rfl
 |_::_,[],_,h,_=>by cases h
 |_::_,_::_,[],_,k=>by cases k
 |a::r,b::t,c::u,h,k=>by
  unfold lexB at h k ⊢;by_cases e:a=b
  ·rw[VH e] at h;subst e;by_cases e2:a=c
   ·rw[VH e2] at k ⊢;exact nY r t u h k
   ·rw[Vn e2] at k ⊢;exact k
  ·rw[Vn e] at h;have h1:=of_decide_eq_true h;by_cases e2:b=c
   ·subst e2;rw[Vn e];exact h
   ·rw[Vn e2] at k;have h2:=of_decide_eq_true k;rw[Vn ⋯];exact decide_eq_true ⋯
theorem mZ:∀a b,a≠b->lexB a b=ai \/ lexB b a=ai
 | [],[],h=>absurd rfl h
 | [],_::_,_=>.inl rfl
 |_::_,[],_=>.inr rfl
 |a::r,b::t,h=>by
  unfold lexB;by_cases e:a=b
  ·subst e;rw[VH rfl,VH rfl];exact mZ r t λz=>h (by rw[z])
  ·rw[Vn e,Vn (dq e)];rcases fy e with z | z
   ·exact .inl (decide_eq_true z)
   ·exact .inr (decide_eq_true z)
theorem Dl(f:Nat->List Int):Weak λi j=>lexB (f i) (f j):=by
 refine⟨λa=>iQ _,λa b c=>nY _ _ _,λa b c h=>?_⟩;by_cases e:f a=f b
 ·exact .inr (by rw[<- e];exact h)
 ·rcases mZ _ _ e with z | z
  ·exact .inl z
  ·exact .inr (nY _ _ _ z h)
section
variable {C:Bool->ah->Prop}{fin:Bool}
theorem Ag:∀(ns ms:List Int) (us vs ru rv:List ac) (i:Nat),nz us ns->nz vs ms->ns.length=ms.length->ns≠ms->C (lexB ns ms) s->KatLex prog w A ai fin C ((us++ru).zip (vs++rv)) i s
 | [],[],_,_,_,_,_,_,_,_,n,_=>absurd rfl n
 | [],_::_,_,_,_,_,_,_,_,l,_,_=>by cases l
 |_::_,[],_,_,_,_,_,_,_,l,_,_=>by cases l
 |a::r,b::t,_,_,ru,rv,i,.cons _ x hu,.cons _ y hv,l,n,q=>by
  unfold lexB at q;refine kat_cons (Tr (kat_go (λe=>kat_yes ?_) λe=>kat_no ?_))
  ·have e':a=b:=by simpa using e
   rw[VH e'] at q;exact Ag r t _ _ ru rv (i+1) hu hv (by simpa using l) (λz=>n (by rw[e',z])) q
  ·have e':¬a=b:=by simpa using e
   rw[Vn e'] at q;by_cases z:i=0
   ·rw[show (ai&&i==0)=ai by simp[z]];exact oneLt_int q
   ·rw[show (ai&&i==0)=ak by simp[z]];exact kat_one _ _ (lt_int q)
end
variable {N:Nat}{p:Array Nat}
noncomputable abbrev Lg:=ae×List Int×List V
theorem Hq(P:Pm N p)(xs:List α)(hl:xs.length=N)(d:α):(p.toList.map λi=>xs.getD i d).Perm xs:=by
 have e:(ig N).map (λi=>xs.getD i d)=xs:=by
  apply oa;intro i;by_cases h:i<N
  ·simp[h,hl]
  ·simp[h,hl]
 have:=P.list.map λi=>xs.getD i d;rwa[e] at this
theorem zP{lt:Nat->Nat->Bool}(P:Pm N p)(U:Up lt p N)(xs:List α)(d:α)(Rel:α->α->Prop)(hR:∀i j,i<N->j<N->EI lt i j->Rel (xs.getD i d) (xs.getD j d)):
  (p.toList.map λi=>xs.getD i d).Pairwise Rel:=by
 rw[io];rw[cw];intro i j hi hj hij;have si:i<p.size:=by simpa using hi
 have sj:j<p.size:=by simpa using hj
 have b:=U i j hij (by rw[<- P.size];exact sj);rw[pS si,pS sj] at b;have:=P.ltN (k:=i) (by rw[<- P.size];exact si);have:=P.ltN (k:=j) (by rw[<- P.size];exact sj);rw[pS si] at *;rw[pS sj] at *;exact hR _ _ (by assumption) (by assumption) b
theorem z5:fO X (.builtin "sorted") (λxs H Q=>∃(p:ae) (its:List Lg) (k:Nat),xs=[.ref p]/\fS X.K H p (its.map λt=>V.ref t.1)/\its.length<64/\(∀t∈its,kX X.K H t.1 (t.2.1.map V.int++t.2.2)/\t.2.1.length=k+1) /\
  its.Pairwise (λt u=>t.2.1≠u.2.1) /\ ∀its':List Lg,its'.Perm its->its'.Pairwise (λt u=>lexB t.2.1 u.2.1=ai) -> ∀l,H l=aq->Q (.ref l) (upd H l (.lst (its'.map λt=>V.ref t.1)))):=by
 intro pj s σ H xs us Q I r h;obtain⟨p,its,k,rfl,hl,h64,hits,hd,q⟩:=h;obtain⟨u,rfl,ru⟩:=jQ r;cases ru;obtain⟨vs,rv,pl,hz⟩:=I.list hl;have ev:vs=its.map λt=>Value.ref t.1:=by
  clear hl hz h64 hits hd q pl;induction its generalizing vs with
  |nil=>cases rv;rfl
  |cons t r ih=>
   cases rv with
   |cons a b=>rw[cf,<- ih _ b];cases a;rfl
 subst ev;have len:(its.map λt=>Value.ref t.1).length=its.length:=by simp
 let num:Nat->List Int:=λi=>(its.getD i (0,[],[])).2.1
 have get:∀i,i<its.length->(its.map λt=>Value.ref t.1).getD i jt=Value.ref (its.getD i (0,[],[])).1:=λi hi=>by simp[hi]
 have mem:∀i,i<its.length->its.getD i (0,[],[])∈its:=λi hi=>by
  rw[ul,au hi];exact gm hi
 have ne:∀i j,i<its.length->j<its.length->i≠j->num i≠num j:=λi j hi hj n=>by
  have e:∀i,i<its.length->num i=(its[i]!).2.1:=λi hi=>by simp[num,hi]
  have pw:=cw.mp hd;have ei:its.getD i (0,[],[])=its[i]:=by simp[hi]
  have ej:its.getD j (0,[],[])=its[j]:=by simp[hj]
  show (its.getD i (0,[],[])).2.1≠(its.getD j (0,[],[])).2.1;rw[ei,ej];rcases zi n with z | z
  ·exact pw i j hi hj z
  ·exact(pw j i hj hi z).symm
 have tup:∀t∈its,∃(o:jq) (a b:List ac) (n:Nat),s.heap.get? t.1=aa o/\o.cls=.type "tuple" /\ o.data=.seq (a++b).toArray n/\nz a t.2.1:=λt ht=>by
  obtain⟨z,r',⟨o,ho,hc,n,hd'⟩,_⟩:=I.tuple (hits t ht).1;obtain⟨a,b,rfl,ra,rb⟩:∃a b,z=a++b/\b8 (t.2.1.map V.int) a/\b8 t.2.2 b:=by
   clear hd' ho hc;generalize t.2.1.map V.int=m at r';induction m generalizing z with
   |nil=>exact⟨[],z,rfl,.nil,r'⟩
   |cons x y ih=>
    cases r' with
    |cons x1 x2=>
     obtain⟨a,b,rfl,ra,rb⟩:=ih _ x2;exact⟨_::a,b,rfl,.cons x1 ra,rb⟩
  exact⟨o,a,b,n,ho,hc,hd',pE ra⟩
 have cmp:2<=(its.map λt=>Value.ref t.1).length->Cmp X.prog X.w s s.heap.objs.size (its.map λt=>Value.ref t.1) (λi j=>lexB (num i) (num j)) (tuples' ai):=λtwo=>by
  have far:∀{b o},s.heap.get? b=aa o->b≠s.heap.objs.size:=λe=>fh (be e);refine⟨Dl num,λA h Q' hk q'=>?_,λA h i j C hk hi hj hn q'=>?_⟩
  ·have go:∀l:List Lg,(∀t∈l,t∈its) -> ∃fs:List ac,KatTups h (l.map λt=>Value.ref t.1) fs/\fs.length=l.length /\ ∀v∈fs,∃x y,v=Value.int x y:=by
    intro l;induction l with
    |nil=>intro _;exact⟨[],.nil,rfl,λv hv=>by cases hv⟩
    |cons t r ih=>
     intro hm;obtain⟨fs,kt,e,al⟩:=ih λu hu=>hm u (bg _ hu);have ht:=hm t (cj ..);obtain⟨o,a,b,n,ho,hc,hd',ia⟩:=tup t ht;obtain⟨x,VL,ex⟩:∃x VL,t.2.1=x::VL:=by
      have:=(hits t ht).2;cases e':t.2.1 with
      |nil=>rw[e'] at this;cases this
      |cons x VL=>exact⟨x,VL,rfl⟩
     rw[ex] at ia;cases ia with
     |cons _ y ia'=>
      refine⟨Value.int x y::fs,KatTups.cons (hk _ _ (far ho) ho) hc hd' (by simp) kt,by simp[e],λv hv=>?_⟩;rcases br.mp hv with rfl | hv
      ·exact⟨x,y,rfl⟩
      ·exact al v hv
   obtain⟨fs,kt,e,al⟩:=go its λ_ h=>h;refine kat_kind (s:={ s with heap:=h }) (T:=.type "int") kt (by rw[e];simp at two;ac_rfl) (λv hv=>?_) ∅ q';obtain⟨x,y,rfl⟩:=al v hv;exact Looks.of_pure rfl
  ·rw[len] at hi hj;rw[get i hi,get j hj];obtain⟨o,a,b,n,ho,hc,hd',ia⟩:=tup _ (mem i hi);obtain⟨o2,a2,b2,n2,ho2,hc2,hd2,ia2⟩:=tup _ (mem j hj);refine kat_lt (s:={ s with heap:=h }) (hk _ _ (far ho) ho) hd' (hk _ _ (far ho2) ho2) hd2 ?_;exact Ag _ _ a a2 b b2 0 ia ia2 (by rw[(hits _ (mem i hi)).2,(hits _ (mem j hj)).2]) (ne i j hi hj hn) q'
 refine DE (lt:=λi j=>lexB (num i) (num j)) (κ:=tuples' ai) pl.isList (by rw[len];exact h64) cmp λp' pm up=>?_;rw[len] at pm up
 let its':=p'.toList.map λi=>its.getD i (0,[],[])
 have perm:its'.Perm its:=Hq pm its rfl _;have pw:its'.Pairwise (λt u=>lexB t.2.1 u.2.1=ai):=zP pm up its _ _ λi j hi hj b=>by
  rcases b.2 with z | z
  ·exact z
  ·rcases mZ _ _ (ne i j hi hj (fh z)) with y | y
   ·exact y
   ·have b1:lexB (num j) (num i)=ak:=b.1;rw[b1] at y;cases y
 have ep:picked (its.map λt=>Value.ref t.1) p'=its'.map λt=>Value.ref t.1:=by
  unfold picked;rw[og];apply nv;intro i hi;exact get i (xq.mp (pm.list.mem_iff.mp hi))
 rw[ep];obtain⟨c,at1⟩:=Tc s.heap (its.map λt=>Value.ref t.1) (its'.map λt=>Value.ref t.1).toArray;have rel:∀l:List Lg,b8 (l.map λt=>V.ref t.1) (l.map λt=>Value.ref t.1):=λl=>by
  induction l with
  |nil=>exact .nil
  |cons t r ih=>exact .cons rfl ih
 have hle:(its'.map λt=>V.ref t.1).length<=bf:=by rw[iq,ay,perm.length_eq];ac_rfl
 exact⟨.ref (s.heap.objs.size+1),_,I.laid (t':=s.toks) (λb o e=>yp e) (tf _) (show cZ X.prog X.w _ _ _ (.lst _) from⟨hle,_,c,rel its',at1⟩),rfl,q its' perm pw _ (I.hok.fresh (tf _))⟩
theorem z6:fO X (.builtin "sorted") (λxs H Q=>∃(p:ae) (ns:List Int),xs=[.ref p]/\fS X.K H p (ns.map V.int)/\ns.length<64 /\ ∀ms:List Int,ms.Perm ns->ms.Pairwise (· <= ·) -> ∀l,H l=aq->Q (.ref l) (upd H l (.lst (ms.map V.int)))):=by
 intro pj s σ H xs us Q I r h;obtain⟨p,ns,rfl,hl,h64,q⟩:=h;obtain⟨u,rfl,ru⟩:=jQ r;cases ru;obtain⟨vs,rv,pl,hz⟩:=I.list hl;have ia:=pE rv;refine sorted_ints pl.isList ia (by rw[ia.length];exact h64) λout ms hi hp hs=>?_;obtain⟨c,at1⟩:=Tc s.heap vs out;have back:∀{us:List ac} {ns:List Int},nz us ns->b8 (ns.map V.int) us:=λh=>by
  induction h with
  |nil=>exact .nil
  |cons a t _ ih=>exact .cons ⟨t,rfl⟩ ih
 have ea:out.toList.toArray=out:=by cases out;rfl
 have hle:(ms.map V.int).length<=bf:=by rw[iq,ay,hp.length_eq];ac_rfl
 exact⟨.ref (s.heap.objs.size+1),_,I.laid (t':=s.toks) (λb o e=>yp e) (tf _) (show cZ X.prog X.w _ _ _ (.lst _) from⟨hle,out.toList,c,back hi,by rw[ea];exact at1⟩),rfl,q ms hp hs _ (I.hok.fresh (tf _))⟩
end L2
variable {xs:List Z.Dv}
namespace Z
open L2
variable {p1 p2:jr}
section
variable {X:Cx}{e:Expr}{te:dP}{pos:jr}
noncomputable def NU:dP:=λ_ Q=>Q (.nw (.dit []))
theorem CQ:QE X (.Dict [] [] pos) NU:=
 ⟨λρ Q Q' w q=>w _ q,λHZ F=>cT FL λσ H Q ⟨ρ,fr,q⟩ p hp=>q _ _ (aQ.new' hp) ⟨p,rfl,hp,0,[],bT,.nil⟩⟩
noncomputable def AC(kvs:List (List cB×Dv))(k:List cB)(d:Dv):List (List cB×Dv):=
 if kvs.any (λkv=>decide (kv.1=k)) then kvs.map (λkv=>if kv.1=k then (kv.1,d) else kv) else kvs++[(k,d)]
theorem RepT.any{K:aj}{M:ae->Prop}{H:Hp}{k:List cB}{xs:List (List cB×V)}{ds:List (List cB×Dv)}(r:RepT K M H xs ds):xs.any (λkv=>decide (kv.1=k))=ds.any (λkv=>decide (kv.1=k)):=
 r.ind (P:=λxs ds=>xs.any (λkv=>decide (kv.1=k))=ds.any (λkv=>decide (kv.1=k))) rfl λ_ _ _ _ _ _ _ ih=>by rw[qo,qo,ih]
theorem RepT.len{xs:List (List cB×V)}{ds:List (List cB×Dv)}(r:RepT K M H xs ds):xs.length=ds.length:=r.ind (P:=λxs ds=>xs.length=ds.length) rfl λ_ _ _ _ _ _ _ ih=>congrArg (· + 1) ih
theorem RepT.snoc{K:aj}{M:ae->Prop}{H:Hp}{k:List cB}{x:V}{d:Dv}(a:Rep K M H x d){xs:List (List cB×V)}{ds:List (List cB×Dv)}(r:RepT K M H xs ds):RepT K M H (xs++[(k,x)]) (ds++[(k,d)]):=
 r.ind (P:=λxs ds=>RepT K M H (xs++[(k,x)]) (ds++[(k,d)])) (.cons a .nil) λ_ _ _ _ _ b _ ih=>.cons b ih
theorem RepT.repl{k:List cB}{x:V}{d:Dv}(a:Rep K M H x d){xs:List (List cB×V)}{ds:List (List cB×Dv)}(r:RepT K M H xs ds):
  RepT K M H (xs.map λkv=>if kv.1=k then (kv.1,x) else kv) (ds.map λkv=>if kv.1=k then (kv.1,d) else kv):=
 r.ind (P:=λxs ds=>RepT K M H (xs.map λkv=>if kv.1=k then (kv.1,x) else kv) (ds.map λkv=>if kv.1=k then (kv.1,d) else kv)) .nil λk' _ _ _ _ b _ ih=>by
  rw[cf,cf];by_cases e:k'=k
  ·rw[VH e,VH e];exact .cons a ih
  ·rw[Vn e,Vn e];exact .cons b ih
theorem RepT.put{k:List cB}{x:V}{d:Dv}{xs:List (List cB×V)}{ds:List (List cB×Dv)}(r:RepT K M H xs ds)(a:Rep K M H x d):RepT K M H (qN xs k x) (AC ds k d):=by
 unfold qN AC;rw[r.any (k:=k)];split
 ·exact r.repl a
 ·exact r.snoc a
noncomputable def lH(i:Nat)(tk tv:dP):bS:=λE ρ=>match ρ[i]? with
 |some (.own a (.dit kvs))=>tv ρ λr=>tk ρ λkk=>∃k:List cB,kk.d=.tup (k.map kD)/\(r.free=ai/\kvs.length<zK)/\E.nx (ρ.set i (.own a (.dit (AC kvs k r.d))))
 |_=>False
theorem sD{k:Expr}{tk:dP}(hu:X.A.units+1<lq)(hv:PE X (.Name x p1) (zV i))(hk:QE X k tk)(he:QE X e te)
  (hs:autoParam (jd e (aa (.Subscript (.Name x p1) k p2)) pos.line X.env=ie ak) cF._auto_1):QS X (.Assign [.Subscript (.Name x p1) k p2] e pos) (lH i tk te):=by
 refine⟨λE E' ρ w h=>?_,λHZ F=>eK (Hk hu hv (hk.run HZ F) (he.run HZ F) hs) λD σ H ⟨ρ,E,fr,h,en⟩=>?_⟩
 ·unfold lH at *;split at h
  ·exact he.mono _ _ _ (λr q=>hk.mono _ _ _ (λkk zq0=>by obtain⟨k,a,b,c⟩:=zq0;exact⟨k,a,b,w.nx _ c⟩) q) h
  ·exact h
 ·unfold lH at h;split at h
  ·rename_i a kvs hx;refine he.step fr h λr y H1 q S1 r1=>?_;have fr1:=fr.mono S1;obtain⟨hs1,ep,vs,hv1,rv1⟩:=fr1.sl i _ hx;refine⟨_,hs1,hk.step fr1 q λkk z H2 q S2 rk=>?_⟩;obtain⟨ks,ek,⟨qf,ql⟩,q2⟩:=q;have ck:=rk.c;rw[ek] at ck;obtain⟨b,zs,rfl,eb,rb⟩:=ck.tup;have ez:zs=ks.map kV:=rb.keys;have rep:=(r1.rep (λa m=>fr.dom m) qf).mono S2;have hv2:=S2 _ _ hv1;refine⟨a,rfl,H9.t hv2 (ez ▸ eb) (by rw[rv1.len];exact yB ql) λep2=>?_⟩;refine en.nx _ _ _ ((fr1.mono S2).write (d':=.dit (AC kvs ks r.d)) hx ⟨_,_,bT,?_⟩) q2;have G:Gen X.K (MM F ρ) (MM F ρ) H2 (upd H2 a (.dT ep2 (qN vs ks y))):=Gen.write (.inr ⟨_,bw hx⟩) (by rw[hv2];trivial);exact((rv1.gen (.mono S2)).put rep).gen G
  ·exact h.elim
noncomputable def Es(i:Nat):bS:=λE ρ=>match ρ[i]? with
 |some (.own a (.lst _))=>E.nx (ρ.set i (.own a (.lst [])))
 |_=>False
noncomputable def kK(i:Nat):bS:=λE ρ=>match ρ[i]? with
 |some (.own a (.lst xs))=>E.nx (ρ.set i (.own a (.lst xs.reverse)))
 |_=>False
theorem DM{p3:jr}(hv:PE X (.Name x p1) (zV i))(hs:autoParam (jd (.Call (.Attribute (.Name x p1) "reverse" p2) [] [] p3) aq pos.line X.env=ie ak) cF._auto_1)
  (W4:autoParam (ko (.Name x p1) "reverse" X.env (fe (.Name x p1) X.env)=fe (.Name x p1) X.env) cF._auto_1) (W5:autoParam ((p2.endLine==p3.line)=ai) cF._auto_1):
  QS X (.Expr (.Call (.Attribute (.Name x p1) "reverse" p2) [] [] p3) pos) (kK i):=by
 refine⟨λE E' ρ w h=>?_,λHZ F=>eK (t7 (KJ qe PySem.F.slot_list_reverse PySem.F.type_list_reverse Bn hv W4 W5) hs) λD σ H ⟨ρ,E,fr,h,en⟩=>?_⟩
 ·unfold kK at *;split at h
  ·exact w.nx _ h
  ·exact h
 ·unfold kK at h;split at h
  ·rename_i a xs hx;obtain⟨hs1,vs,hv1,rv1⟩:=fr.sl i _ hx;refine⟨_,hs1,.inl ⟨rfl,_,fS.of hv1⟩,a,vs,rfl,rfl,hv1,?_⟩;refine en.nx _ _ _ (fr.write (d':=.lst xs.reverse) hx ⟨_,bT,?_⟩) h;have G:Gen X.K (MM F ρ) (MM F ρ) H (upd H a (.lst vs.reverse)):=Gen.write (.inr ⟨_,bw hx⟩) (by rw[hv1];trivial);exact rv1.reverse.gen G
  ·exact h.elim
noncomputable abbrev tI(t:List Int×List Dv):Dv:=.tup (t.1.map .int++t.2)
noncomputable def gM:List Dv->(R->Prop)->Prop
 | [.lst xs],Q=>(∃ns:List Int,xs=ns.map .int/\ns.length<64 /\ ∀ms:List Int,ms.Perm ns->ms.Pairwise (· <= ·)->Q (.nw (.lst (ms.map .int)))) \/
  ∃(ts:List (List Int×List Dv)) (k:Nat),xs=ts.map tI/\ts.length<64/\(∀t∈ts,t.1.length=k+1)/\ts.Pairwise (λt u=>t.1≠u.1) /\ ∀ts':List (List Int×List Dv),ts'.Perm ts->ts'.Pairwise (λt u=>lexB t.1 u.1=ai)->Q (.nw (.lst (ts'.map tI)))
 |_,_=>False
theorem Reps.fore{K:aj}{M:ae->Prop}{H:Hp}:∀{ns:List Int} {xs:List V} {ds:List Dv},Reps K M H xs (ns.map .int++ds) -> ∃ys,xs=ns.map V.int++ys/\Reps K M H ys ds
 | [],xs,ds,r=>⟨xs,rfl,r⟩
 |n::ns,_,ds,.cons a r=>by
  obtain⟨ys,e,r'⟩:=Reps.fore (ns:=ns) r;cases a;exact⟨ys,by rw[e];rfl,r'⟩
theorem rN{β:Type}{f:α->β}{zs ws:List β}(hp:zs.Perm ws):∀{its:List α},its.map f=ws -> ∃jts:List α,jts.Perm its/\zs=jts.map f:=by
 induction hp with
 |nil=>intro its hz;exact⟨its,.refl _,hz.symm⟩
 |cons x p ih=>
  intro its hz;cases its with
  |nil=>cases hz
  |cons t r=>
   rw[cf] at hz;injection hz with h1 h2;obtain⟨j,hj,e⟩:=ih h2;exact⟨t::j,hj.cons t,by rw[cf,h1,e]⟩
 |swap x y l=>
  intro its hz
  match its,hz with
  |t::u::r,hz=>
   simp only[cf,ji] at hz;obtain⟨h1,h2,h3⟩:=hz;exact⟨u::t::r,.swap _ _ _,by simp only[cf,h1,h2,h3]⟩
 |trans p1 p2 ih1 ih2=>
  intro its hz;obtain⟨j,hj,e⟩:=ih2 hz;obtain⟨j2,hj2,e2⟩:=ih1 e.symm;exact⟨j2,hj2.trans hj,e2⟩
theorem o5:nK X (.builtin "sorted") gM:=by
 refine⟨λds Q Q' w h=>?_,_,z6.or z5,λM O H xs ds Q c h=>?_⟩
 ·unfold gM at *;split at h
  ·rcases h with⟨ns,a,b,q⟩ | ⟨ts,k,a,b,c,d,q⟩
   ·exact .inl ⟨ns,a,b,λms x y=>w _ (q ms x y)⟩
   ·exact .inr ⟨ts,k,a,b,c,d,λts' x y=>w _ (q ts' x y)⟩
  ·exact h
 ·unfold gM at h;split at h
  ·obtain⟨x,rfl,cx⟩:=fA c;obtain⟨a,ys,rfl,ea,ra⟩:=cx.lst;rcases h with⟨ns,rfl,hl,q⟩ | ⟨ts,k,rfl,hl,hk,hd,q⟩
   ·have ey:ys=ns.map V.int:=by
     have ra':Reps X.K M H ys (ns.map .int++[]):=by simpa using ra
     obtain⟨zs,e,r'⟩:=ra'.fore;cases r';simpa using e
    subst ey;exact .inl ⟨a,ns,rfl,fS.of ea,hl,λms hp hs l hl=>q ms hp hs _ _ (aQ.new' hl) (jK hl (Reps.ints _))⟩
   ·-- what each item is,by its place
    have go:∀{ys:List V} {ts:List (List Int×List Dv)},Reps X.K M H ys (ts.map tI) -> ∃its:List (Lg×List Dv),ys=its.map (λt=>V.ref t.1.1)/\ts=its.map (λt=>(t.1.2.1,t.2)) /\
      ∀t∈its,H t.1.1=aa (.tup (t.1.2.1.map V.int++t.1.2.2))/\Reps X.K M H t.1.2.2 t.2:=by
     intro ys ts r;induction ts generalizing ys with
     |nil=>cases r;exact⟨[],rfl,rfl,λt ht=>by cases ht⟩
     |cons t ts ih=>
      cases r with
      |cons u r=>
       obtain⟨its,e1,e2,e3⟩:=ih r;cases u with
       |tup hb rb=>
        obtain⟨zs,e,rz⟩:=rb.fore;subst e;refine⟨((_,t.1,zs),t.2)::its,by rw[e1];rfl,by rw[e2];rfl,λy hy=>?_⟩;rcases br.mp hy with rfl | hy
        ·exact⟨hb,rz⟩
        ·exact e3 y hy
    obtain⟨its,rfl,rfl,al⟩:=go ra;refine .inr ⟨a,its.map (·.1),k,rfl,by rw[og];exact fS.of ea,by simpa using hl,λt ht=>?_,?_,λits' hp hs l hl=>?_⟩
    ·obtain⟨u,hu,rfl⟩:=fv.mp ht;exact⟨kX.of (al u hu).1,hk _ (fv.mpr ⟨u,hu,rfl⟩)⟩
    ·rw[io] at hd ⊢;exact hd
    ·-- bring the plain parts along
     obtain⟨jts,hj,rfl⟩:=rN hp rfl;have rr:∀jts:List (Lg×List Dv),(∀t∈jts,t∈its)->Reps X.K M H (jts.map λt=>V.ref t.1.1) ((jts.map λt=>(t.1.2.1,t.2)).map tI):=by
      intro jts;induction jts with
      |nil=>intro _;exact .nil
      |cons t r ih=>
       intro hm;have ht:=al t (hm t (cj ..));have one:Reps X.K M H (t.1.2.1.map V.int++t.1.2.2) (t.1.2.1.map .int++t.2):=(Reps.ints _).append ht.2;exact .cons (.tup ht.1 one) (ih λu hu=>hm u (bg _ hu))
     rw[og];show Q _ (upd H l (.lst (jts.map λt=>V.ref t.1.1)));refine q (jts.map λt=>(t.1.2.1,t.2)) (hj.map _) ?_ _ _ (aQ.new' hl) (jK hl (rr jts λt ht=>hj.mem_iff.mp ht));rw[io] at hs ⊢;exact hs
  ·exact h.elim
end
variable {j:Int}
theorem OR{i:Int}:(dS (.int i) (.int j) Q)=(Q (.v (.int (i+j)))):=rfl
theorem O6{i:Int}:(kN (.int i) (.int j) Q)=(Q (.v (.int (i-j)))):=rfl
theorem OG{i:Int}:(fQ (.int i) (.int j) Q)=(sP i j/\Q (.v (.int (i*j)))):=rfl
theorem OO{i:Int}:(mU (.int i) (.int j) Q)=((0<j/\j<2 ^ 200)/\Q (.v (.int (i / j)))):=rfl
theorem Ms{i:Int}:(Mt (.int i) (.int j) Q)=((j≠0/\j.natAbs<2 ^ 4000)/\Q (.v (.int (i.fdiv j)))):=rfl
theorem OH{i:Int}:(gZ (.int i) (.int j) Q)=(0<j/\Q (.v (.int (i % j)))):=rfl
theorem Mi{i:Int}:(Mj (.int i) (.int j) Q)=(j≠0/\Q (.v (.int (i.fmod j)))):=rfl
theorem O8{i:Int}:(Py (.int i) (.int j) Q)=(J6 i j/\Q (.v (.int (i ^ j.toNat)))):=rfl
theorem OQ{ys:List Dv}:(dS (.lst xs) (.lst ys) Q)=((xs.length+ys.length<=zK/\Q (.nw (.lst (xs++ys))))):=rfl
theorem OP{y:bi}:(dS (.str x) (.str y) Q)=((x.length+y.length<=zK/\Q (.v (.str (x++y))))):=rfl
theorem OF{k:Int}:(fQ (.lst xs) (.int k) Q)=(((-(2 ^ 63)<=k/\k<2 ^ 63/\xs.length*k.toNat<=zK)/\Q (.nw (.lst (ao k.toNat xs).flatten)))):=rfl
theorem QD{f:Int->Int->Bool}{i:Int}:(xW f (.int i) (.int j) Q)=(Q (.v (.bl (f i j)))):=rfl
theorem Q9{d:Dv}:(DZ d .non Q)=(Q (.v (.bl (isN d)))):=rfl
theorem O9{d:Dv}:(u5 d .non Q)=(Q (.v (.bl (!isN d)))):=rfl
theorem QB{d:Dv}{b:Bool}:(QC d (.bl b) Q)=(Q (.v (.bl (isB b d)))):=rfl
theorem OA{d:Dv}{b:Bool}:(Mh d (.bl b) Q)=(Q (.v (.bl (!isB b d)))):=rfl
theorem QF{i:Int}:(qQ (.int i) (.int j) Q)=(Q (.v (.bl (decide (i=j))))):=rfl
theorem Pz{i:Int}:(zH (.int i) (.int j) Q)=(Q (.v (.bl (!decide (i=j))))):=rfl
theorem QH{x:Bool}{d:Dv}:(qQ (.bl x) d Q)=(((dD 8 (.bl x)=ai/\dD 8 d=ai)/\Q (.v (.bl (eqD (.bl x) d))))):=rfl
theorem Q1{x:Bool}{d:Dv}:(zH (.bl x) d Q)=(((dD 8 (.bl x)=ai/\dD 8 d=ai)/\Q (.v (.bl (!eqD (.bl x) d))))):=rfl
theorem OK{x:List Dv}{d:Dv}:(qQ (.tup x) d Q)=(((dD 8 (.tup x)=ai/\dD 8 d=ai)/\Q (.v (.bl (eqD (.tup x) d))))):=rfl
theorem OB{x:List Dv}{d:Dv}:(zH (.tup x) d Q)=(((dD 8 (.tup x)=ai/\dD 8 d=ai)/\Q (.v (.bl (!eqD (.tup x) d))))):=rfl
theorem ON{x:List Dv}{d:Dv}:(qQ (.lst x) d Q)=(((dD 8 (.lst x)=ai/\dD 8 d=ai)/\Q (.v (.bl (eqD (.lst x) d))))):=rfl
theorem OE{x:List Dv}{d:Dv}:(zH (.lst x) d Q)=(((dD 8 (.lst x)=ai/\dD 8 d=ai)/\Q (.v (.bl (!eqD (.lst x) d))))):=rfl
theorem OL{d:Dv}:(qQ (.str x) d Q)=(((dD 8 (.str x)=ai/\dD 8 d=ai)/\Q (.v (.bl (eqD (.str x) d))))):=rfl
theorem OC{d:Dv}:(zH (.str x) d Q)=(((dD 8 (.str x)=ai/\dD 8 d=ai)/\Q (.v (.bl (!eqD (.str x) d))))):=rfl
theorem OM{x:List Int}{d:Dv}:(qQ (.scr x) d Q)=(((dD 8 (.scr x)=ai/\dD 8 d=ai)/\Q (.v (.bl (eqD (.scr x) d))))):=rfl
theorem OD{x:List Int}{d:Dv}:(zH (.scr x) d Q)=(((dD 8 (.scr x)=ai/\dD 8 d=ai)/\Q (.v (.bl (!eqD (.scr x) d))))):=rfl
theorem Rk{i:Int}:(bX (.lst xs) (.int i) Q)=((match oP xs i with | some d=>Q (.v d) | none=>False)):=rfl
theorem Ri{i:Int}:(bX (.tup xs) (.int i) Q)=((match oP xs i with | some d=>Q (.v d) | none=>False)):=rfl
theorem Rj{i:Int}:(bX (.scr ns) (.int i) Q)=((match oP ns i with | some n=>Q (.v (.int n)) | none=>False)):=rfl
variable {lo hi:Option Int}
theorem Rh:(JO (.lst xs) lo hi Q)=(Q (.nw (.lst (cut xs lo hi)))):=rfl
theorem Rg:(JO (.scr ns) lo hi Q)=(Q (.nw (.lst ((cut ns lo hi).map .int)))):=rfl
theorem Rf:(JO (.tup xs) lo hi Q)=((¬(HT.gE xs.length 0 lo=0/\HT.gE xs.length xs.length hi=xs.length)/\Q (.v (.tup (cut xs lo hi))))):=rfl
theorem Q7:(d9 [(.lst xs)] Q)=(Q (.v (.int xs.length))):=rfl
theorem Q5:(d9 [(.tup xs)] Q)=(Q (.v (.int xs.length))):=rfl
theorem Q6:(d9 [.scr ns] Q)=(Q (.v (.int ns.length))):=rfl
theorem QK{i:Int}:(Dc [.int i] Q)=(Q (.v (.int (if i<0 then -i else i)))):=rfl
theorem Q3{i:Int}:(wM [.int i,.int j] Q)=(Q (.v (.int (if j<i then j else i)))):=rfl
theorem Q4{i:Int}:(Ml [.int i,.int j] Q)=(Q (.v (.int (if j > i then j else i)))):=rfl
theorem Mg:(jH [.lst xs] Q)=(Q (.v (.tup xs))):=rfl
theorem Mf:(jH [.tup xs] Q)=(Q (.v (.tup xs))):=rfl
theorem OJ:(sF [.lst xs] Q)=(Q (.nw (.lst xs))):=rfl
theorem OI:(sF [.tup xs] Q)=(Q (.nw (.lst xs))):=rfl
theorem QJ:(FX [.lst ds] Q)=((∃bs:List Bool,ds=bs.map .bl/\Q (.v (.bl (bs.all _root_.id))))):=rfl
theorem Pw:(FT [.lst ds] Q)=((∃ns:List Int,ds=ns.map .int/\Q (.v (.int ns.sum)))):=rfl
theorem So{d:Dv}:(R.d (.v d))=(d):=rfl
theorem Sr{d:Dv}:(R.d (.nw d))=(d):=rfl
theorem Sq{d:Dv}:(R.d (.ow a d))=(d):=rfl
theorem Sd{d:Dv}:(R.out (.v d))=(.v d):=rfl
theorem Sg{d:Dv}:(R.out (.nw d))=(.nw d):=rfl
theorem Se{d:Dv}:(R.out (.ow a d))=(.nw d):=rfl
theorem Sk{d:Dv}:(R.free (.v d))=(ai):=rfl
theorem Sn{d:Dv}:(R.free (.nw d))=(ai):=rfl
theorem Sm{d:Dv}:(R.free (.ow a d))=(ak):=rfl
theorem Sh{d:Dv}:(R.flat (.v d))=(kQ d):=rfl
theorem Sj{d:Dv}:(R.flat (.nw d))=(GS d):=rfl
theorem Si{d:Dv}:(R.flat (.ow a d))=(ak):=rfl
theorem R6{a b:Bool}:(eqD (.bl a) (.bl b))=((a==b)):=by cases a<;>cases b<;>simp[eqD,fU,fi]
variable {ρ0:List Sl}{g:zD}{acc:List Dv}
theorem eJ{tt:kZ}:(cP ρ0 g tt te [] acc Q)=(Q (.nw (.lst acc))):=rfl
theorem B5{tt:kZ}{d:Dv}{r:List Dv}:(cP ρ0 g tt te (d::r) acc Q)=((g d ρ0 λρ1=>tt ρ1 λb=>if b=ai then te ρ1 λv=>(v.free=ai/\acc.length<zK)/\cP ρ0 g tt te r (acc++[v.d]) Q else cP ρ0 g tt te r acc Q)):=rfl
theorem lV{xs:List α}{i:Int}(h0:0<=i)(h1:i<xs.length):oP xs i=xs[i.toNat]?:=by
 unfold oP sJ;rw[VH h0,VH h1];rfl
theorem SF{x:α}{r:List α}:oP (x::r) 0=aa x:=by rw[lV ∅ (by simp<;>ac_rfl)];rfl
theorem SE{x y:α}{r:List α}:oP (x::y::r) 1=aa y:=by rw[lV ∅ (by simp<;>ac_rfl)];rfl
theorem SD{x y z:α}{r:List α}:oP (x::y::z::r) 2=aa z:=by rw[lV ∅ (by simp<;>ac_rfl)];rfl
theorem SC{x y z w:α}{r:List α}:oP (x::y::z::w::r) 3=aa w:=by rw[lV ∅ (by simp<;>ac_rfl)];rfl
theorem SB{x y z w v:α}{r:List α}:oP (x::y::z::w::v::r) 4=aa v:=by rw[lV ∅ (by simp<;>ac_rfl)];rfl
theorem Qy{b c:Bool}:isB b (.bl c)=(c==b):=rfl
theorem OY{b:Bool}{i:Int}:isB b (.int i)=ak:=rfl
theorem Rr:isN .non=ai:=rfl
theorem Ru{b:Bool}:isN (.bl b)=ak:=rfl
theorem Rt{i:Int}:isN (.int i)=ak:=rfl
theorem Rp{i:bi}:isN (.str i)=ak:=rfl
theorem Ro{i:List Dv}:isN (.tup i)=ak:=rfl
theorem Rs{i:List Dv}:isN (.lst i)=ak:=rfl
theorem Rq{i:List (bi×Dv)}:isN (.obj C i)=ak:=rfl
theorem Ov{b:Bool}:pX (.bl b)=aa b:=rfl
theorem Os:pX .non=aa ak:=rfl
theorem Ou{i:Int}:pX (.int i)=aa (i != 0):=rfl
theorem Ot:pX (.lst xs)=aa (!xs.isEmpty):=rfl
theorem Op:pX (.tup xs)=aa (!xs.isEmpty):=rfl
theorem Oq{xs:List Int}:pX (.scr xs)=aa (!xs.isEmpty):=rfl
theorem Qx:sJ 1 0=aa 0:=rfl
theorem Qw:sJ 2 0=aa 0:=rfl
theorem Qv:sJ 2 1=aa 1:=rfl
theorem Qt:sJ 3 0=aa 0:=rfl
theorem Qs:sJ 3 1=aa 1:=rfl
theorem Qr:sJ 3 2=aa 2:=rfl
theorem Qq:sJ 4 0=aa 0:=rfl
theorem Qp:sJ 4 1=aa 1:=rfl
theorem Qo:sJ 4 2=aa 2:=rfl
theorem Qn:sJ 4 3=aa 3:=rfl
theorem Qm:sJ 5 0=aa 0:=rfl
theorem Ql:sJ 5 1=aa 1:=rfl
theorem Qk:sJ 5 2=aa 2:=rfl
theorem Qj:sJ 5 3=aa 3:=rfl
theorem Qi:sJ 5 4=aa 4:=rfl
theorem eG{lo:Int}:bP lo 0=[]:=rfl
theorem cU{lo:Int}:bP lo (n+1)=.int lo::bP (lo+1) n:=by
 unfold bP;rw[List.range_succ_eq_map,cf,og];congr 1
 ·simp
 ·apply nv;intro k _;show Dv.int _=Dv.int _;congr 1;show lo+((k+1:Nat):Int)=lo+1+k;ac_rfl
theorem Mq{i:Int}:(Mr (.int i) (.int j) Q)=(Q (.v (.int (i+j)))):=rfl
theorem Mm{i:Int}:(Mn (.int i) (.int j) Q)=(Q (.v (.int (i-j)))):=rfl
theorem Mo{i:Int}:(Mp (.int i) (.int j) Q)=(sP i j/\Q (.v (.int (i*j)))):=rfl
theorem Az{xs:List α}{k:Int}(h0:0<=k):cut xs (aa k) aq=xs.drop k.toNat:=by
 unfold cut;have e:HT.gE xs.length 0 (aa k)=min k.toNat xs.length:=by show (if k<0 then _ else _)=_;rw[Vn ⋯]
 rw[e,HT.A2];rcases V7 k.toNat xs.length with h | h
 ·rw[nr h];exact nk (by rw[uy];exact bo _)
 ·rw[TD h,wn (bo _),wn h,List.take_nil]
theorem Gg{xs:List α}{k:Int}(h0:0<=k):cut xs aq (aa k)=xs.take k.toNat:=by
 unfold cut;have e:HT.gE xs.length xs.length (aa k)=min k.toNat xs.length:=by show (if k<0 then _ else _)=_;rw[Vn ⋯]
 rw[e,HT.A2,List.drop_zero,V8];rcases V7 k.toNat xs.length with h | h
 ·rw[nr h]
 ·rw[TD h,nk (bo _),nk h]
theorem M1{d:Dv}:jF a N (d::ds)=.own a d::(ds.map .v++ao (N.length-(ds.length+1)) .un):=rfl
theorem O7{i:Int}:(Px (.int i) (.int j) Q)=(J6 i j/\Q (.v (.int (i*2 ^ j.toNat)))):=rfl
theorem wL(h:ns.length<64)(q:∀ms:List Int,ms.Perm ns->ms.Pairwise (· <= ·)->Q (.nw (.lst (ms.map .int)))):gM [.lst (ns.map .int)] Q:=.inl ⟨ns,rfl,h,q⟩
theorem wK{ts:List (List Int×List Dv)}{k:Nat}(h:ts.length<64)(hk:∀t∈ts,t.1.length=k+1)(hd:ts.Pairwise (λt u=>t.1≠u.1))
  (q:∀ts':List (List Int×List Dv),ts'.Perm ts->ts'.Pairwise (λt u=>lexB t.1 u.1=ai)->Q (.nw (.lst (ts'.map tI)))):gM [.lst (ts.map tI)] Q:=.inr ⟨ts,k,rfl,h,hk,hd,q⟩
theorem GD:∀{a b:List cB},a.map kD=b.map kD->a=b
 | [],[],_=>rfl
 | [],_::_,h=>by cases h
 |_::_,[],h=>by cases h
 |a::r,b::t,h=>by
  rw[cf,cf] at h;injection h with h1 h2;have e:a=b:=by cases a<;>cases b<;>first | (injection h1 with h1;rw[h1]) | cases h1
  rw[e,GD h2]
theorem Q8{kvs:List (List cB×Dv)}{a:Int}:(bX (.dit kvs) (.tup [.int a,.int b]) Q)=(match kvs.find? (λkv=>decide (kv.1=[dt a,dt b])) with | some kv=>Q (.v kv.2) | none=>False):=by
 apply propext;constructor
 ·rintro⟨k,e,h⟩;have:k=[dt a,dt b]:=GD (e.symm.trans rfl);subst this;exact h
 ·exact λh=>⟨[dt a,dt b],rfl,h⟩
end Z
namespace Sf
structure Rw where
 x:Int
 y:Int
 m:Int
noncomputable def Rw.up(r:Rw):Prop:=0<r.y \/ (r.y=0/\0<r.x)
noncomputable def crs(a b:Rw):Int:=a.x*b.y-b.x*a.y
noncomputable def place(v:Rw)(rows:List Rw):Nat:=rows.countP λr=>decide (0<crs r v)
noncomputable def qZ(rows:List Rw):Prop:=rows.Pairwise λa b=>0<crs a b
structure Pre(s:Int)(rows:List Rw):Prop where
 srt:qZ rows
 ok:∀r∈rows,r.up /\ -s<=r.x/\r.x<=s/\r.y<=s/\1<=r.m
noncomputable def many(rows:List Rw):Int:=(rows.map (·.m)).sum
structure Good(rows:List Rw):Prop where
 lo:2<=rows.length
 hi:rows.length<=6
 srt:qZ rows
 ok:∀r∈rows,r.up /\ -999999999999<=r.x/\r.x<=999999999999/\r.y<=999999999999/\1<=r.m
 tot:many rows<=12
noncomputable def aW:Nat->List Rw->List Int
 |_,[]=>[]
 |k,r::rs=>ao r.m.toNat (k:Int)++aW (k+1) rs
noncomputable abbrev aI(rows:List Rw):List Int:=aW 0 rows
end Sf
namespace L2
section
variable {D:Ends}{Q:VK}{t u:TS}{te ta tb tc:TE}{g:TG}
end
end L2
namespace Z
open L2
theorem DB(h:∀Q:R->Prop,Q (.v (.bl ai))->sp [.scr ns] Q)(hO:Gz H)(hT:sN K H)(hS:fS K H a (ns.map V.int)):low K sp [.ref a] H (λv _=>v=.bl ai) (λ_ _ _=>False):=by
 refine⟨λ_=>False,[.scr ns],⟨λ_ z=>z.elim,hT⟩,.cons (.scr ?_) .nil,h _ λx H' S r=>?_⟩
 ·rcases hS with(h | h) | h
  ·rcases hO a with z | ⟨o,xs,z⟩
   ·rw[z] at h;cases h
   ·rw[z] at h;cases h
  ·exact .inl h
  ·exact .inr h
 ·have r':Rep K (λ_=>False) H' x (.bl ai):=r;cases r';rfl
end Z
variable {ks:List Int}
namespace L2
variable {xs:List ac}
noncomputable abbrev grown(h:cm)(xs:List ac):cm:=(h.push (om "list" #[] 0)).update h.objs.size (uf (· ++ xs.toArray))
theorem B6{t:ae}{P:List ac->ah->Prop}(ht:US s.heap t xs.toArray)(Wc:xs.length<=bf)(k:P xs { s with heap:=grown s.heap xs }):bu (bv prog w) A (collect (.ref t)) P E s:=by
 obtain⟨ob,get,cl,m,dat⟩:=ht;have new:(s.heap.push (om "list" #[] 0)).get? s.heap.objs.size=aa (om "list" #[] 0):=cp s.heap rfl;have old:=ap (om "list" #[] 0) get;have room:((#[]:Array ac)++xs.toArray).size<=bf+1:=by
  rw[Array.size_append,ci];exact lh (Vk (mr _)) (Nat.le_succ_of_le Wc)
 have VT:((#[]:Array ac)++xs.toArray).toList=xs:=by simp
 have tuple:(yz "tuple" == yz "tuple")=ai:=rfl;unfold collect;apply af;apply wpAny_runValue;apply Ub entry_proto_collect';show bu _ _ (newList [] >>= λacc=>UT (.builtin "list.__iadd__" ⟨[acc,.ref t],[]⟩)) _ _ s;apply af;refine vf ?_ (nj _);apply aw;refine⟨Code.quiet_builtin _ (by decide +kernel),?_⟩;apply Ub entry_list_iadd';show bu _ _ (tw (Value.ref s.heap.objs.size) (Value.ref t) (Value.ref s.heap.objs.size)) _ _ ({ s with heap:=s.heap.push (om "list" #[] 0) }:ah)
 delta tw
 apply af;refine wpAny_typeOf (T:="tuple") ⟨ob,old,cl⟩ ?_;rw[VH (by simp[tuple])];apply af;refine Tb old dat ?_;apply af;refine Tb new rfl ?_;rw[Vn (λz=>by simp at z)];apply af;refine yo new rfl ?_ (nj _) room;apply aw;show bu (bv prog w) A (load s.heap.objs.size >>= λo=>match o.data with
  | .seq ys _=>ie ys.toList
  |_=>unsupported "internal:collect") P E ({ s with heap:=grown s.heap xs }:ah)
 apply af;refine Uf (U9 new (· ++ xs.toArray)) ?_;apply aw;rw[VT];exact k
theorem A1{t:ae}{P:ac->ah->Prop}(ht:US s.heap t xs.toArray)(num:nz xs ks)(few:xs.length<64)
  (k:∀(ys:Array ac) (ms:List Int),nz ys.toList ms->ms.Perm ks->ms.Pairwise (· <= ·)->P (.ref (s.heap.objs.size+1)) { s with heap:=sortedAll s.heap xs ys }):
  bu (bv prog w) A (call (Value.builtin "sorted") [Value.ref t]) P E s:=by
 have Wc:xs.length<=bf:=lh (zt few) (by rw[iq];decide);have sz:(grown s.heap xs).objs.size=s.heap.objs.size+1:=(vo ..).trans (size_push' _ _);have mine:((grown s.heap xs).push (om "list" xs.toArray 0)).get? (s.heap.objs.size+1)=aa (om "list" xs.toArray 0):=sz ▸ cp (grown s.heap xs) rfl;apply ur kind_sorted plain_sorted entry_sorted (args_sorted1 _)
 delta xo.«sorted»
 refine af (m:=checkCount "sorted" 1 1 _) (aw (af (B6 ht Wc (af (vf ?_ Wc)))));show bu _ _ _ _ _ ({ s with heap:=(grown s.heap xs).push (om "list" xs.toArray 0) }:ah);rw[sz];refine af (mw (fj UB ⟨_,mine,rfl⟩ Ua (list_sort_tree mine num few λys ms b1 b2 b3=>?_) (UC _)));exact⟨_,rfl,aw ⟨_,rfl,k ys ms b1 b2 b3⟩⟩
theorem z4:fO X (.builtin "sorted") (λxs H Q=>∃(p:ae) (ns:List Int),xs=[.ref p]/\kX X.K H p (ns.map V.int)/\ns.length<64 /\ ∀ms:List Int,ms.Perm ns->ms.Pairwise (· <= ·) -> ∀l,H l=aq->Q (.ref l) (upd H l (.lst (ms.map V.int)))):=by
 intro pj s σ H xs us Q I r h;obtain⟨p,ns,rfl,hl,h64,q⟩:=h;obtain⟨u,rfl,ru⟩:=jQ r;cases ru;obtain⟨vs,rv,pl,hz⟩:=I.tuple hl;have ia:=pE rv;refine A1 pl ia (by rw[ia.length];exact h64) λout ms hi hp hs=>?_;obtain⟨c,at1⟩:=Tc s.heap vs out;have back:∀{us:List ac} {ns:List Int},nz us ns->b8 (ns.map V.int) us:=λh=>by
  induction h with
  |nil=>exact .nil
  |cons a t _ ih=>exact .cons ⟨t,rfl⟩ ih
 have ea:out.toList.toArray=out:=by cases out;rfl
 have hle:(ms.map V.int).length<=bf:=by rw[iq,ay,hp.length_eq];ac_rfl
 exact⟨.ref (s.heap.objs.size+1),_,I.laid (t':=s.toks) (λb o e=>yp e) (tf _) (show cZ X.prog X.w _ _ _ (.lst _) from⟨hle,out.toList,c,back hi,by rw[ea];exact at1⟩),rfl,q ms hp hs _ (I.hok.fresh (tf _))⟩
noncomputable def MR(K:aj):R2:=λx y H Q=>∃a b xs ys,x=.ref a/\y=.ref b/\kX K H a xs/\kX K H b ys/\xs.length+ys.length<=bf /\
 (xs=[]->Q (.ref b) H)/\(xs≠[]->ys=[]->Q (.ref a) H)/\(xs≠[]->ys≠[] -> ∀p,H p=aq->Q (.ref p) (upd H p (.tup (xs++ys))))
theorem IA:l6 X (gw .Add) (MR X.K):=by
 intro pj s σ H x y v u Q I rx ry h;obtain⟨a,b,xs,ys,rfl,rfl,ha,hb,hz,q0,q1,q2⟩:=h;by_cases hx:xs=[]
 ·cases rx;cases ry;obtain⟨its,r1,p1,_⟩:=I.tuple ha;obtain⟨its2,r2,p2,_⟩:=I.tuple hb;have hv:=r1.nil_iff.mpr hx;obtain⟨⟨cls,dd,data,sl⟩,ho,hc,n,hd⟩:=id p1;obtain⟨⟨cls2,dd2,data2,sl2⟩,ho2,hc2,n2,hd2⟩:=id p2;simp only at hc hd hc2 hd2;subst hc hd hc2 hd2;exact T1 ⟨_,ho,rfl⟩ ⟨_,ho2,rfl⟩ vi yj qk px (ou _ _)
   (tuple_addW0 a b its.toArray its2.toArray n n2 dd dd2 sl sl2 (by simp[hv])) ⟨ho,ho2,.ref b,H,I,rfl,q0 hx⟩
 ·exact IB pj s σ H _ _ v u Q I rx ry ⟨a,b,xs,ys,rfl,rfl,ha,hb,hx,hz,q1 hx,q2 hx⟩
end L2
namespace Z
open L2
noncomputable def mT:List Dv->(R->Prop)->Prop
 | [.tup xs],Q=>∃ns:List Int,xs=ns.map .int/\ns.length<64 /\ ∀ms:List Int,ms.Perm ns->ms.Pairwise (· <= ·)->Q (.nw (.lst (ms.map .int)))
 |_,_=>False
theorem C7:nK X (.builtin "sorted") mT:=by
 refine⟨λds Q Q' w h=>?_,_,z4,λM O H xs ds Q c h=>?_⟩
 ·unfold mT at *;split at h
  ·obtain⟨ns,a,b,q⟩:=h;exact⟨ns,a,b,λms x y=>w _ (q ms x y)⟩
  ·exact h
 ·unfold mT at h;split at h
  ·obtain⟨x,rfl,cx⟩:=fA c;obtain⟨a,ys,rfl,ea,ra⟩:=cx.tup;obtain⟨ns,rfl,hl,q⟩:=h;have ey:ys=ns.map V.int:=by
    have ra':Reps X.K M H ys (ns.map .int++[]):=by simpa using ra
    obtain⟨zs,e,r'⟩:=ra'.fore;cases r';simpa using e
   subst ey;exact⟨a,ns,rfl,kX.of ea,hl,λms hp hs l hl=>q ms hp hs _ _ (aQ.new' hl) (jK hl (Reps.ints _))⟩
  ·exact h.elim
theorem Bj(h:ns.length<64)(q:∀ms:List Int,ms.Perm ns->ms.Pairwise (· <= ·)->Q (.nw (.lst (ms.map .int)))):mT [.tup (ns.map .int)] Q:=⟨ns,rfl,h,q⟩
noncomputable def AT:Dv->Dv->(R->Prop)->Prop
 | .tup xs,.tup ys,Q=>xs.length+ys.length<=zK/\Q (.v (.tup (xs++ys)))
 |_,_,_=>False
theorem FW{ys:List Dv}:AT (.tup xs) (.tup ys) Q=(xs.length+ys.length<=zK/\Q (.v (.tup (xs++ys)))):=rfl
theorem FZ:xD X (gw .Add) AT:=by
 refine⟨λdx dy Q Q' w h=>?_,_,IA,λM O H x y dx dy Q cx cy h=>?_⟩
 ·unfold AT at *;split at h
  ·exact⟨h.1,w _ h.2⟩
  ·exact h
 ·unfold AT at h;split at h
  ·obtain⟨a,xs,rfl,ea,ra⟩:=cx.tup;obtain⟨b,ys,rfl,eb,rb⟩:=cy.tup;have l1:=ra.length;have l2:=rb.length;refine⟨a,b,xs,ys,rfl,rfl,kX.of ea,kX.of eb,iP ⋯,λe=>?_,λ_ e=>?_,λ_ _ p hp=>h.2 _ _ (aQ.new' hp) (ET hp (ra.append rb))⟩
   ·subst e;cases ra;exact h.2 _ H (aQ.refl _) (Rep.tup eb rb)
   ·subst e;cases rb;refine h.2 _ H (aQ.refl _) ?_;rw[im];exact Rep.tup ea ra
  ·exact h.elim
end Z
namespace L2
end L2
namespace Z
open L2
section
variable {l:Expr}{tl:dP}
end
end Z
namespace HT
open PySem PyProof.Rows
section
open PySem.SeqAt
open PySem.AutoSeq1 (wpAny_loadPart')
open PySem.MeetsSeq PySem.MeetsSeq2 PySem.MeetsSeq3
end
end HT
namespace L2
end L2
namespace Z
open L2
section
variable {o:Expr}{to:dP}{VV VX:jr}
end
end Z
namespace L2
end L2
namespace Z
open L2
section
variable {o:Expr}{to tg tp:dP}{VV VX:jr}
end
end Z
namespace L2
section
variable {h':cm}
end
section
variable {fs:List ae}{h0 h1 h2 B:cm}
end
variable {f:ae}
section
variable {VM:bi}{cd:ac}{s0:ah}{H0:Hp}{E:XK}
end
variable {VX:jr}
section
variable {t:TA}{np pos:jr}
end
section
variable {s1 s2:ah}{E:XK}{e:ac}{D:Ends}
end
variable {fd:ir}{sp:Sp}
section
variable {k:Nat}{epos pos:jr}{t:TA}
end
section
open PySem.Calls PySem.Builtin PySem.Builtin.ObjectAttr PySem.Builtin.Getset_descriptor
variable {M:zq}{x:ae}
end
section
variable {k:Nat}{E:XK}{pos:jr}{t:TA}
end
end L2
namespace Z
open L2
section
variable {HZ:Hp}{st:jm}{sts a b:List jm}{t u:bS}{c:Expr}{tc:kZ}{pos:jr}
end
section
variable {VM:bi}{f:ae}{cd:ac}{s0:ah}{H0:Hp}{E:XK}
end
variable {ts:mD}
section
variable {k:Nat}{sp:FnX}{VX epos pos:jr}
end
section
variable {k:Nat}{pos:jr}
end
end Z
namespace L2
end L2
namespace Z
open L2
section
variable {l o:Expr}{tl to:dP}{pos VV VX:jr}
end
end Z
namespace L2
open PySem PySem.Spec PySem.W PyProof.Rows Tim
end L2
namespace L2
end L2
namespace Z
open L2
section
variable {a b c d:Expr}{ta tb tc td:dP}{pos:jr}
end
end Z
namespace L2
end L2
namespace Z
open L2
section
variable {a b c d:Expr}{ta tb tc td:dP}{pos:jr}
end
section
variable {pos:jr}
end
end Z
namespace L2
section
variable {r:ac}
end
end L2
namespace L2
open PySem.MeetsSeq PySem.SeqAt
end L2
namespace Z
open L2
end Z
namespace L2
open PySem.W
variable {M:zq}
variable {N ia ib:Nat}{la lb lo:List Nat}
section
variable {lt:Nat->Nat->Bool}
end
variable {it:Nat->Keyed}{κ:vn}
section
variable {lt:Nat->Nat->Bool}
end
section
variable {lt:Nat->Nat->Bool}{na nb:Nat}
end
section
variable {lt:Nat->Nat->Bool}{p p':List Nat}
end
end L2
namespace L2
open PySem PySem.Spec PySem.W PyProof.Rows Tim
end L2
namespace Z
open L2
end Z
namespace L2
variable {K:Type}
theorem Ke{xs:List (K×α)}(hn:(xs.map (·.1)).Nodup){k:K}{p q:α}{j:Nat}(hj:xs[j]?=aa (k,p))(m:(k,q)∈xs):p=q:=by
 obtain⟨i,hi,e⟩:=dm.mp m;have hj':=(av.mp hj).1;have:i=j:=(List.getElem?_inj (by rw[ay];exact hi) hn).mp (by rw[cg,cg,hj,au hi,e];rfl);subst this;rw[au hi,e] at hj;cases hj;rfl
section
variable [DecidableEq K]{knd:HeapKind prog w K}{b:ae}{xs ys:List (K×ae×ac)}
theorem BW{nm:String}{Q:Bool->ah->Prop}(hu:knd.room A)(ha:(a==fq)=ak)(hb:(b==fq)=ak)(da:s.heap.DictOfH knd a xs)(db:s.heap.DictOfH knd b ys)(hl:xs.length=ys.length)
  (hit:∀k p,(k,p)∈xs -> ∃q,(k,q)∈ys/\UA A s p.2 q.2 ai) (h:Q ai s):bu (bv prog w) A (wo nm a b) Q E s:=by
 obtain⟨o,es,ep,ho,hc,hd,he,his,hn⟩:=da;obtain⟨o',es',ep',ho',hc',hd',he',his',hn'⟩:=db;have z:=Uc he;have z':=Uc he';have na:¬(a==fq)=ai:=by simp[ha]
 have nb:¬(b==fq)=ai:=by simp[hb]
 unfold wo Vb;rw[Vn na,Vn nb];refine af (aw (af (aw (af (qw ho hd ?_)))));dsimp only;refine af (qw ho' hd' ?_);rw[Vn (by rw[z,z',hl];simp)];refine af (Ud ho hd (af ?_));rw[xh];simp only[Std.Legacy.Range.size,V8,Nat.add_sub_cancel,Nat.div_one];refine wpAny_forIn_list _ (λVL q t=>t=s/\q=(aq,()) /\ ∃i,VL=U1 i (es.size-i)/\i<=es.size) _ ?_ ?_ _ _ ⟨rfl,rfl,0,by simp,nj _⟩
 ·rintro x VL q t ⟨rfl,rfl,i,hr,hi⟩;have lt:i<es.size:=by
   rcases Vs i es.size with g | g
   ·exact g
   ·rw[Nat.sub_eq_zero_of_le g] at hr;cases hr
  have e1:es.size-i=(es.size-(i+1))+1:=⋯;rw[e1,TF] at hr;injection hr with hx hr;subst hx;have lx:x<xs.length:=⋯;refine af (qw ho hd ?_);have ex:es[x]?=aa (entryOfKey knd xs[x]):=by rw[entry_at he x,au lx];rfl
  rw[ex];have mx:xs[x]∈xs:=gm lx;obtain⟨q,mq,eq⟩:=hit xs[x].1 xs[x].2 mx;refine af (mw (af (wpAny_dictFind_heap (knd:=knd) hu (his _ mx) ho' hd' he' his' hn' (λno=>?_) λj p hj=>?_)))
  ·obtain⟨j,hj,e⟩:=dm.mp mq;exact absurd (by rw[au hj,e]) (no j q)
  ·have:=Ke hn' hj mq;subst this;refine af (qw ho' hd' ?_);rw[entry_at he' j,hj];refine mw (eq prog w _ _ ?_);show bu _ _ (if (!true)=ai then _ else _) _ _ _;rw[Vn ∅];refine af (Ud ho hd ?_);rw[Vn (by simp)];exact aw ⟨rfl,rfl,x+1,hr,lt⟩
 ·rintro q t ⟨rfl,rfl,i,hr,hi⟩;exact aw h
end
end L2
namespace Z
open L2
theorem KT.ex{xs:List (List cB×ae×ac)}(r:KT H kvs xs):∀{k:List cB} {p:ae×ac},(k,p)∈xs -> ∃x,(k,x)∈kvs/\cG x p.2:=by
 induction r with
 |nil=>intro k p m;cases m
 | @cons q r' ps qs hq t ih=>
  intro k p m;rcases br.mp m with e | m
  ·subst e;exact⟨q.2,by rw[show k=q.1 from hq.1.symm];exact cj ..,hq.2.2⟩
  ·obtain⟨x,m,e⟩:=ih m;exact⟨x,bg _ m,e⟩
theorem KT.xe{xs:List (List cB×ae×ac)}(r:KT H kvs xs):∀{k:List cB} {x:V},(k,x)∈kvs -> ∃p,(k,p)∈xs/\cG x p.2:=by
 induction r with
 |nil=>intro k p m;cases m
 | @cons q r' ps qs hq t ih=>
  intro k x m;rcases br.mp m with e | m
  ·cases e;exact⟨r'.2,by rw[show k=r'.1 from hq.1];exact cj ..,hq.2.2⟩
  ·obtain⟨x,m,e⟩:=ih m;exact⟨x,bg _ m,e⟩
variable {xs:List (List cB×V)}{ds:List (List cB×Dv)}
theorem RepT.ex(r:RepT K M H xs ds):∀{k:List cB} {x:V},(k,x)∈xs -> ∃d,(k,d)∈ds/\Rep K M H x d:=by
 refine RepT.ind (P:=λxs ds=>∀{k:List cB} {x:V},(k,x)∈xs -> ∃d,(k,d)∈ds/\Rep K M H x d) (λm=>by cases m) (λk0 x0 d0 xs0 ds0 a _ ih k x m=>?_) r;rcases br.mp m with e | m
 ·cases e;exact⟨_,cj ..,a⟩
 ·obtain⟨d,m,r⟩:=ih m;exact⟨d,bg _ m,r⟩
theorem RepT.xe(r:RepT K M H xs ds):∀{k:List cB} {d:Dv},(k,d)∈ds -> ∃x,(k,x)∈xs/\Rep K M H x d:=by
 refine RepT.ind (P:=λxs ds=>∀{k:List cB} {d:Dv},(k,d)∈ds -> ∃x,(k,x)∈xs/\Rep K M H x d) (λm=>by cases m) (λk0 x0 d0 xs0 ds0 a _ ih k x m=>?_) r;rcases br.mp m with e | m
 ·cases e;exact⟨_,cj ..,a⟩
 ·obtain⟨d,m,r⟩:=ih m;exact⟨d,bg _ m,r⟩
theorem RepT.lenT(r:RepT K M H xs ds):xs.length=ds.length:=
 RepT.ind (P:=λxs ds=>xs.length=ds.length) rfl (λ_ _ _ _ _ _ _ ih=>by rw[bh,bh,ih]) r
noncomputable def Gv(ds es:List (List cB×Dv)):Prop:=ds.length=es.length /\ ∀k d,(k,d)∈ds -> ∃e,(k,e)∈es/\dD 8 d=ai/\dD 8 e=ai/\eqD d e=ai
theorem Ij{k:Nat}(r:Room k A):A.units+66<lq:=by have:=r.un;ac_rfl
noncomputable def qG(te:dP):bS:=λE ρ=>te ρ λr=>match r with
 | .v (.bl b)=>E.rw b ρ
 |_=>False
section
variable {pos:jr}
theorem Bb(he:QE X e te):QS X (.Return (aa e) pos) (qG te):=by
 refine⟨λE E' ρ w h=>he.mono _ _ _ (λr q=>?_) h,λHZ F=>eK (FC (he.run HZ F)) λD σ H ⟨ρ,E,fr,h,en⟩=>he.step fr h λr x H1 q S1 r1=>?_⟩
 ·split at q
  ·exact w.rw _ _ q
  ·exact q
 ·split at q
  ·rename_i b;cases (show Rep _ _ _ x (.bl b) from r1);exact en.rw _ _ _ _ (fr.mono S1) q
  ·exact q.elim
end
noncomputable abbrev HG:=List Dv->(Bool->Dv->Prop)->Prop
structure MonoW(sp:HG):Prop where
 mo:∀ds (Q Q':Bool->Dv->Prop),(∀b d,Q b d->Q' b d)->sp ds Q->sp ds Q'
noncomputable def IN(K:aj)(sp:HG):Sp:=λvs H Q _=>∃(a:ae) (d:Dv) (vs':List V) (F:ae->Prop) (ds:List Dv),vs=.ref a::vs'/\((∀b,F b->H b≠aq/\b≠a)/\sN K H)/\dQ K (λb=>F b \/ b=a) H a d/\Reps K (λb=>F b \/ b=a) H vs' ds /\
 sp (d::ds) (λr d'=>∀H',aQ (hide H a) H'->dQ K (λc=>F c \/ c=a) H' a d'->Q (.bl r) H')
variable {nm:bi}{st:jm}{sp:HG}
theorem At.okW{k:Nat}{t:bS}(m:At K mg x nm st ps)(S:FnScope N ps (aJ st))
  (hq:∀(f:ae) (cdv:ac) (A:bx) (outer:List wu) (s:ah) (H:Hp) (E:XK),Room k (A.deeper (qj nm (aJ st) s.heap.objs.size f cdv))->QSs (sW BJ P w K mg base N nm (aJ st) f cdv A outer s H E).nox (dY st) t)
  (len:∀ds Q,sp ds Q->ds.length=ps.length) (hsp:∀ds Q,sp ds Q -> ∀a,t { nx:=λ_=>False,rt:=λ_=>False,rw:=λb ρ=>∃d',ρ[0]?=aa (.own a d')/\Q b d' } (jF a N ds)):Def P w K mg base (k+1) x ps (IN K sp):=by
 refine m.ok S (λvs H Q E zz=>?_) λf cdv A outer s H vs Q E hr q=>?_
 ·obtain⟨a,d,vs',F,ds,e,_,_,r,q⟩:=zz;rw[e,bh,r.length];exact len _ _ q
 ·obtain⟨a,d,vs',F,ds,rfl,hF,ow,r,q⟩:=q;refine⟨_,(hq f cdv A outer s _ E hr).run (hide H a) F,jF a N (d::ds),_,DC hF ow r,hsp _ _ q a,λ_ _ _ _ z=>z.elim,λ_ _ _ _ z=>z.elim,λ_ _ _ _ z=>z.elim,λ_ _ _ _ _ z=>z.elim,λb ρ σ H' fr ⟨d',e,q⟩=>q H' fr.same ?_⟩;refine(fr.sl 0 _ e).2.weak λc z=>?_;rcases z with z | rfl
  ·exact .inl z
  ·exact .inr ⟨d',bw e⟩
noncomputable def Jq(i:Nat)(ta:kZ)(sp:HG)(ts:mD)(t:bS):bS:=λE ρ=>ta ρ λc=>if c=ai then t E ρ else ts ρ λrs=>match rs with
 | .ow a d::VL=>ρ[i]?=aa (.own a d)/\VL.all R.free=ai/\sp (d::VL.map R.d) (λb d'=>if b=ai then E.nx (ρ.set i (.own a d')) else t E (ρ.set i (.own a d')))
 |_=>False
section
variable {k:Nat}{c:Expr}{ts:mD}{ta:kZ}{t:bS}{VU:List jm}{pos pos2 pos3 pos4:jr}
theorem MT(d:Def X.prog X.w X.K X.mg X.base k x ps (IN X.K sp))(mo:MonoW sp)(hr:Room k X.A)(hc:QT X c ta)(ha:QA X (e::es) ts)(hb:QSs X VU t)(hg:autoParam (Gl X x) cF._auto_1)
  (hdb:autoParam ((x==("__debug__" : bi))=ak) oQ._auto_1) (he:autoParam (bb (e::es) X.env=(ak,fe e X.env)::bb es X.env) cF._auto_1) (hpl:autoParam ((ip pos (bb es X.env)).any (·.1)=ak) cF._auto_1)
  (hi:autoParam (∀VT,isTrue (.Call (.Name x p) (e::es) [] pos) X.env VT=(do let v <- VT;wa (Expr.Call (.Name x p) (e::es) [] pos).pos;wc [v] (UZ v))) EJ._auto_1):
  QS X (.If (.BoolOp .Or [c,.UnaryOp .Not (.Call (.Name x p) (e::es) [] pos) pos2] pos3) VU [] pos4) (Jq i ta sp ts t):=by
 obtain⟨f,fd,hm,hk,hbd,FO⟩:=d.ex;refine⟨λE E' ρ w h=>hc.mono _ _ _ (λc q=>?_) h,λHZ F=>eK (JL (JK (hc.run HZ F) (F3 (F7 (Jx (CW FO hr hg hm hk hbd .nil AG (ha.run HZ F) hdb he hpl) hi)))).pt (hb.run HZ F) (bJ.run HZ F)) λD σ H ⟨ρ,E,fr,h,en⟩=>?_⟩
 ·split at q
  ·rw[VH ‹_›];exact hb.mono _ _ _ w q
  ·rw[Vn ‹_›];refine ha.mono _ _ _ (λrs q=>?_) q;split at q
   ·refine⟨q.1,q.2.1,mo.mo _ _ _ (λb d q=>?_) q.2.2⟩;split at q
    ·rw[VH ‹_›];exact w.nx _ q
    ·rw[Vn ‹_›];exact hb.mono _ _ _ w q
   ·exact q
 ·refine hc.step fr h λc H1 q S1=>?_;cases c with
  |true=>exact lZ (lZ ⟨ρ,E,fr.mono S1,by simpa using q,en⟩)
  |false=>
   refine oF ?_;have fr1:=fr.mono S1;refine ha.step fr1 (show ts ρ _ from by rw[Vn ∅] at q;exact q) λrs xs H2 q S2 r1=>?_;split at q
   ·rename_i a d VL;obtain⟨hi2,fre,q⟩:=q;cases r1 with
    |cons ra rr=>
     obtain⟨rfl,_,ow⟩:=ra;have fr2:=fr1.mono S2;have wk:∀b,(MM F ρ b/\b≠a) \/ b=a->MM F ρ b:=λb z=>z.elim (λz=>z.1) λz=>by rw[z];exact .inr ⟨d,bw hi2⟩
     rw[im];refine⟨a,d,_,λb=>MM F ρ b/\b≠a,VL.map R.d,rfl,⟨λb z=>⟨fr2.dom z.1,z.2⟩,fr2.tab⟩,ow.weak wk,(kY.reps (λa m=>fr1.dom m) rr fre).weak wk,mo.mo _ _ _ (λb d' q H' S o=>⟨b,rfl,?_⟩) q⟩;have fr3:Fr X.K HZ F _ H' (ρ.set i (.own a d')):=fr2.move hi2 S wU (o.weak λc z=>z);have es:σ.set i (aa (.ref a))=σ:=by
      have h1:σ[i]?=aa (aa (.ref a)):=(fr2.sl i _ hi2).1;refine oa λj=>?_;by_cases ij:i=j
      ·subst ij;rw[fk (av.mp h1).1,h1]
      ·rw[dr ij]
     rw[es] at fr3;cases b with
     |true=>exact oF ⟨_,_,fr3,show E.nx _ by simpa using q,en⟩
     |false=>exact lZ ⟨_,_,fr3,by simpa using q,en⟩
   ·exact q.elim
end
inductive DF(K:aj)(mg:bi->Option ac)(x nm:bi)(st:jm):Prop
 |mk {f:ae} {od an:Option ae} {sl:Array (Option ac)} {oc kV dc pm cd ct:ac} (a:mg x=aa (.ref f))
  (l:K.lookup f=aa ⟨oc,od,.func (ve nm nm (jA st) (dY st) (aJ st) .none kV dc pm an cd ct),sl⟩) (c:xf K cd nm=ai) (k:ot K (.ref f)=ai)
inductive MF(K:aj)(C:ae)(m qual:bi)(st:jm):Prop
 |mk {f:ae} {od an:Option ae} {sl:Array (Option ac)} {oc kV dc pm cd ct:ac} (a:lj K (.ref C) m=aa (aa (.ref f))) (i:Vy K (.ref f)=ai)
  (l:K.lookup f=aa ⟨oc,od,.func (ve m qual (jA st) (dY st) (aJ st) .none kV dc pm an cd ct),sl⟩) (c:xf K cd qual=ai) (k:ot K (.ref f)=ai)
noncomputable abbrev CC(x VM:bi)(st:jm)(ps:List bi):Prop:=∀(kV doc pm:ac) (an:Option ae) (cdv ct:ac) (us:List ac),us.length=ps.length->Vm (ve x VM (jA st) (dY st) (aJ st) .none kV doc pm an cdv ct) ⟨us,[]⟩=ie (ps.zip us)
theorem RO{p:List ac->Prop}(h:∀(a:ac) (us:List ac),us.length=n->p (a::us)):∀us:List ac,us.length=n+1->p us
 | [],e=>by cases e
 |a::us,e=>h a us (Nat.succ.inj e)
theorem RQ{p:List ac->Prop}(h:p []):∀us:List ac,us.length=0->p us
 | [],_=>h
 |_::_,e=>by cases e
theorem DF.at(d:DF K mg x nm st)(h:CC nm nm st ps:=by intro _ _ _ _ _ _;(repeat refine Z.RO λ_=>?_);exact Z.RQ rfl):At K mg x nm st ps:=by
 obtain⟨a,l,c,k⟩:=d;have F:=yK l c k;exact⟨_,_,a,F,F.binds h⟩
variable {VM:bi}
theorem MF.at{m:bi}(d:MF K C m VM st)(h:CC m VM st ps:=by intro _ _ _ _ _ _;(repeat refine Z.RO λ_=>?_);exact Z.RQ rfl):MAt K C m VM st ps:=by
 obtain⟨a,i,l,c,k⟩:=d;have F:=yK l c k;exact⟨_,_,⟨a,i,k⟩,F,F.binds h⟩
theorem MF.ini(d:MF K C "__init__" VM st)(e:mg x=aa (.ref C))(mk:Tv K C=ai)(kc:ot K (.ref C)=ai)
  (h:CC "__init__" VM st ps:=by intro _ _ _ _ _ _;(repeat refine Z.RO λ_=>?_);exact Z.RQ rfl):IAt K mg x C VM st ps:=by
 obtain⟨a,i,l,c,k⟩:=d;have F:=yK l c k;exact⟨_,_,⟨mk,a,i,kc⟩,e,F,F.binds h⟩
theorem SZ{n:Int}{t:Tok}(h:mg x=aa (.int n t)):∃t,mg x=aa (.int n t):=⟨_,h⟩
end Z
namespace L2
section
variable {K:Type}[DecidableEq K]{knd:HeapKind prog w K}{b:ae}{xs ys:List (K×ae×ac)}
theorem SR{Q:ac->ah->Prop}(hr:knd.room A.in1)(hu:A.units<lq)(ha:(a==fq)=ak)(hb:(b==fq)=ak)(da:s.heap.DictOfH knd a xs)(db:s.heap.DictOfH knd b ys)(hl:xs.length=ys.length)
  (hit:∀k p,(k,p)∈xs -> ∃q,(k,q)∈ys/\UA A.in1 s p.2 q.2 ai) (h:Q (.bool ak) s):bu (bv prog w) A (df .NotEq (.ref a) (.ref b)) Q E s:=by
 refine wpAny_richCompare_same_room (op:=.NotEq) da.typeIs db.typeIs xi (fj xi da.typeIs PySem.F.entry_dict_ne ?_ (PySem.F.args_dict_ne_2 _ _)) hu;show bu _ _ (ut "__ne__" ⟨[.ref a,.ref b],[]⟩ >>= _) _ _ s;refine af ?_;unfold ut;refine af (wpAny_notOrdered_dict da.typeIs (show bu _ _ (ie (Value.ref a,Value.ref b)) _ _ s from aw (af (lg (T:="dict") db.typeIs PySem.F.sub_dict_dict ?_))));simp only[UP,dk,if_false];refine af (aw (af (aw (af (BW hr ha hb da db hl hit (aw ⟨_,rfl,(λx=>nomatch x),?_⟩))))));simpa using h
end
end L2
namespace Z
open L2
noncomputable def FV:Dv->Dv->(R->Prop)->Prop
 | .dit ds,.dit es,Q=>Gv ds es/\Q (.v (.bl ak))
 |_,_,_=>False
noncomputable def Pn(K:aj):R2:=λx y H Q=>∃M ds es,eB K M H x (.dit ds)/\eB K M H y (.dit es)/\Gv ds es/\Q (.bl ak) H
theorem KU(hu:X.A.units+66<lq):l6 X (df .NotEq) (Pn X.K):=by
 intro pj s σ H x y v u Q I rx ry h;obtain⟨M,ds,es,r1,r2,⟨hl,hit⟩,q⟩:=h;obtain⟨a,ep,kvs,rfl,ea,ra⟩:=r1.dit;obtain⟨b,ep',kvs',rfl,eb,rb⟩:=r2.dit;cases (show v=Value.ref a from rx);cases (show u=Value.ref b from ry);obtain⟨z,hd,xs,rel,dd⟩:=Gc I.hok ea;obtain⟨z',hd',ys,rel',dd'⟩:=Gc I.hok eb;refine SR (uj ⋯) ⋯ hd hd' dd dd' ?_ (λk p m=>?_) ⟨.bl ak,H,I,rfl,q⟩
 ·rw[<- rel.length,<- rel'.length,RepT.lenT ra,RepT.lenT rb,hl]
 ·obtain⟨x,mx,rx⟩:=KT.ex rel m;obtain⟨d,md,rd⟩:=RepT.ex ra mx;obtain⟨e,me,o1,o2,eq⟩:=hit k d md;obtain⟨y,my,re⟩:=RepT.xe rb me;obtain⟨q,mq,ry⟩:=KT.xe rel' my;obtain⟨as,r1⟩:=rd.reads I o1 rx;obtain⟨bs,r2⟩:=re.reads I o2 ry;have s1:=i6 o1 ∅;have s2:=i6 o2 ∅;have:=TC _ _ X.A.in1 s _ _ as bs r1 r2 (wp s1) (wp s2) (SeqAt.room_of_shaped s1 (show X.A.units+1+64<lq by ac_rfl));rw[show fi (fU d) (fU e)=ai from eq] at this;exact⟨q,mq,this⟩
theorem I0(hu:X.A.units+66<lq):xD X (df .NotEq) FV:=by
 refine⟨λdx dy Q Q' w h=>?_,_,KU hu,λM O H x y dx dy Q cx cy h=>?_⟩
 ·unfold FV at *;split at h
  ·exact⟨h.1,w _ h.2⟩
  ·exact h
 ·unfold FV at h;split at h
  ·exact⟨M,_,_,cx,cy,h.1,h.2 _ H (aQ.refl _) (Rep.bl _)⟩
  ·exact h.elim
end Z
namespace Z
theorem S4:type_of% @NU.eq_1:=@NU.eq_1
theorem PV:type_of% @lH.eq_1:=@lH.eq_1
theorem M9:type_of% @Es.eq_1:=@Es.eq_1
theorem Jo:type_of% @kK.eq_1:=@kK.eq_1
theorem RB:type_of% @NS.eq_1:=@NS.eq_1
theorem Pc:type_of% @DJ.eq_1:=@DJ.eq_1
theorem O3:type_of% @tU.eq_1:=@tU.eq_1
theorem Of:type_of% @Cq.eq_1:=@Cq.eq_1
theorem PX:type_of% @M5.eq_1:=@M5.eq_1
theorem Oe:type_of% @lY.eq_1:=@lY.eq_1
theorem RK:type_of% @Ga.eq_1:=@Ga.eq_1
theorem M2:type_of% @j0.eq_1:=@j0.eq_1
theorem Pf:type_of% @Eu.eq_1:=@Eu.eq_1
theorem Lb:type_of% @Cm.eq_1:=@Cm.eq_1
theorem NG:type_of% @yI.eq_1:=@yI.eq_1
theorem OZ:type_of% @Ai.eq_1:=@Ai.eq_1
theorem RI:type_of% @GZ.eq_1:=@GZ.eq_1
theorem RH:type_of% @NT.eq_1:=@NT.eq_1
theorem PR:type_of% @aN.eq_1:=@aN.eq_1
theorem O0:type_of% @bK.eq_1:=@bK.eq_1
theorem MA:type_of% @Et.eq_1:=@Et.eq_1
theorem O2:type_of% @CO.eq_1:=@CO.eq_1
theorem M4:type_of% @hV.eq_1:=@hV.eq_1
theorem O1:type_of% @A3.eq_1:=@A3.eq_1
theorem PU:type_of% @c6.eq_1:=@c6.eq_1
theorem Nz:type_of% @JF.eq_1:=@JF.eq_1
theorem Rc:type_of% @jE.eq_1:=@jE.eq_1
theorem PQ:type_of% @b6.eq_1:=@b6.eq_1
theorem Nx:type_of% @iM.eq_1:=@iM.eq_1
theorem PY:type_of% @M7.eq_1:=@M7.eq_1
theorem NK:type_of% @freeze.eq_1:=@freeze.eq_1
theorem Pd:type_of% @MB.eq_1:=@MB.eq_1
theorem Pg:type_of% @mS.eq_1:=@mS.eq_1
theorem Ny:type_of% @JE.eq_1:=@JE.eq_1
theorem PZ:type_of% @j6.eq_1:=@j6.eq_1
theorem R8:type_of% @a8.eq_1:=@a8.eq_1
theorem Sa:type_of% @eC.eq_1:=@eC.eq_1
theorem Og:type_of% @a7.eq_1:=@a7.eq_1
theorem RE:type_of% @aG.eq_1:=@aG.eq_1
theorem Ry:type_of% @aP.eq_1:=@aP.eq_1
theorem Ob:type_of% @aU.eq_1:=@aU.eq_1
theorem RL:type_of% @qW.eq_1:=@qW.eq_1
theorem Rx:type_of% @HD.eq_1:=@HD.eq_1
theorem RD:type_of% @n5.eq_1:=@n5.eq_1
theorem Oj:type_of% @uT.eq_1:=@uT.eq_1
theorem RC:type_of% @Iu.eq_1:=@Iu.eq_1
theorem Od:type_of% @As.eq_1:=@As.eq_1
theorem Rz:type_of% @S0.eq_1:=@S0.eq_1
theorem R9:type_of% @bQ.eq_1:=@bQ.eq_1
theorem RG:type_of% @g7.eq_1:=@g7.eq_1
theorem RF:type_of% @vM.eq_1:=@vM.eq_1
theorem RA:type_of% @n4.eq_1:=@n4.eq_1
theorem Oi:type_of% @aS.eq_1:=@aS.eq_1
theorem RN:type_of% @back.eq_1:=@back.eq_1
theorem S7:type_of% @fR.eq_1:=@fR.eq_1
theorem RJ:type_of% @uS.eq_1:=@uS.eq_1
theorem Oh:type_of% @fN.eq_1:=@fN.eq_1
theorem Nu:type_of% @lX.eq_1:=@lX.eq_1
theorem Rv:type_of% @C2.eq_1:=@C2.eq_1
theorem Oc:type_of% @gC.eq_1:=@gC.eq_1
theorem Le:type_of% @iF.eq_1:=@iF.eq_1
theorem R0:type_of% @iR.eq_1:=@iR.eq_1
theorem Ld:type_of% @fX.eq_1:=@fX.eq_1
theorem Lc:type_of% @qS.eq_1:=@qS.eq_1
theorem SV:type_of% @gN.eq_1:=@gN.eq_1
theorem SU:type_of% @gT.eq_1:=@gT.eq_1
theorem M0:type_of% @aM.eq_1:=@aM.eq_1
theorem NV:type_of% @lP.eq_1:=@lP.eq_1
theorem O5:type_of% @eL.eq_1:=@eL.eq_1
end Z
local macro_rules | `(tactic| push_cast [$xs,*])=>do
  let a:Array (Lean.TSyntax `Lean.Parser.Tactic.simpLemma) <- (("S4 PV M9 Jo Q8 RB O7 Pc O3 Of PX Oe RK M2 M1 Pf Mq Mm Mo Lb NG OZ RI RH PR O0 MA O2 M4 O1 PU Nz Rc PQ Nx PY NK Pd Pg Ny PZ R8 Sa Og RE Ry Ob RL Rx RD Oj RC Od Rz R9 RG RF RA Oi RN S7 RJ Oh Nu Rv Oc Le R0 Ld Lc SV SU M0 NV OR O6 OG OO Ms OH Mi O8 OQ OP OF QD Q9 O9 QB OA QF Pz QH Q1 OK OB ON OE OL OC OM OD Rk Ri Rj Rh Rg Rf Q7 Q5 Q6 QK Q3 Q4 Mg Mf OJ OI QJ Pw eJ B5 O5 reduceIte".splitOn " ").toArray.mapM λn=>`(Lean.Parser.Tactic.simpLemma| ↓ $(Lean.mkIdent n.toName):term))
  let b:Array (Lean.TSyntax `Lean.Parser.Tactic.simpLemma) <- (("So Sr Sq Sd Sg Se Sk Sn Sm Sh Sj Si R6 cA cK Qy OY Rr Ru Rt Rp Ro Rs Rq Ov Os Ou Ot Op Oq SF SE SD SC SB Qx Qw Qv Qt Qs Qr Qq Qp Qo Qn Qm Ql Qk Qj Qi beq_self_eq_true List.getElem?_cons_zero List.getElem?_cons_succ List.set_cons_zero List.set_cons_succ List.map_cons List.map_nil List.cons_append List.nil_append List.append_nil List.length_cons List.length_nil List.replicate_succ List.replicate_zero List.all_cons List.all_nil Option.getD_some Bool.and_true Bool.true_and if_true Bool.false_eq_true if_false true_and and_true true_or decide_eq_true_eq decide_true decide_false Bool.not_true Bool.not_false List.not_mem_nil false_imp_iff implies_true mR Nat.reduceSub Nat.reduceAdd Int.reduceEq Int.reduceMul Int.reduceAdd Int.reduceSub Int.reduceNeg Z.guard Int.reduceLT Int.reduceLE Int.reduceToNat Int.reducePow Nat.reduceLT Nat.reduceLeDiff Nat.reducePow zK".splitOn " ").toArray.mapM λn=>`(Lean.Parser.Tactic.simpLemma| $(Lean.mkIdent n.toName):term))
  `(tactic| simp only[$a,*,$b,*,$xs,*])
local macro_rules | `(tactic| ac_nf)=>`(tactic| push_cast [Z.mR])
namespace Lw
open L2 Z
noncomputable def top(i:Nat):jm:=jj.main.body.getD i (.Pass ⟨0,0,0,0⟩)
noncomputable abbrev mG:bS:=
 (c6 (fR jH (a7 (fR mT (a7 (aP AT (a8 0) (bQ (a7 (a8 1) aG))) aG)) aG)))
variable {bR dE dB bW bV b0 mC aV bB bF cN:Fn}
section
local macro_rules | `(tactic| norm_cast)=>`(tactic| exact⟨rfl,rfl,rfl,by decide +kernel,rfl,by decide +kernel,by decide +kernel⟩)
theorem yO(P:ar)(w:bm)(mg:bi->Option ac)(base:cm)(m:At K mg "with_band" "with_band" (top 6) ["below", "band"])(dZ:mg "sorted" = aq)(cS:mg "tuple" = aq)(len:∀ds Q,sp ds Q->ds.length=2)(hsp:∀ds Q,sp ds Q->mG  ↥Q (aM ["below", "band"] ds)):Def P w K mg base 1 "with_band" ["below", "band"] (low K sp):=by
 have sc:FnScope ["below", "band"] ["below", "band"] (aJ (top 6)):=by norm_cast
 refine m.okP (k:=0) (t:=mG ) sc (λf cdv A outer s H E hr=>?_) len hsp
 ·
  exact(aK (bE (iO nF rfl cS sd (aD (aY C7 rfl dZ vb (aD (bM FZ (a9 0 (pv 0)) (cC (aD (a9 1 (pv 1)) aF))) aF)) aF))))
noncomputable abbrev pR:bS:=
 (lH 1 (bQ (a7 (a8 2) (a7 (a8 3) aG))) (a8 4))
noncomputable abbrev tO:bS:=
 (aN (iM 1 NU)
 (aN (j6 (iR (a8 0)) (gT [2,3,4]) pR)
 (c6 (a8 1))))
theorem E9(P:ar)(w:bm)(mg:bi->Option ac)(base:cm)(m:At K mg "belows" "belows" (top 7) ["floor"])(len:∀ds Q,sp ds Q->ds.length=1)(hsp:∀ds Q,sp ds Q->tO  ↥Q (aM ["floor", "told", "a", "b", "below"] ds)):Def P w K mg base 1 "belows" ["floor"] (low K sp):=by
 have sc:FnScope ["floor", "told", "a", "b", "below"] ["floor"] (aJ (top 7)):=by norm_cast
 refine m.okP (k:=0) (t:=tO ) sc (λf cdv A outer s H E hr=>?_) len hsp
 ·
  have hu1:=eV hr;exact(aE (hX (i:=1) sc.nd rfl (.inl rfl) CQ)
 (aE (gL cq rfl (e9 (a9 0 (pv 0))) (DN (k:=5) (is:=[2,3,4]) rfl (d7 (dW (i:=2) sc.nd rfl (.inl rfl)) (d7 (dW (i:=3) sc.nd rfl (.inl rfl)) (d7 (dW (i:=4) sc.nd rfl (.inl rfl)) nR)))) (aK (sD hu1 (i:=1) (pv 1) (cC (aD (a9 2 (pv 2)) (aD (a9 3 (pv 3)) aF))) (a9 4 (pv 4)))))
 (aK (bE (a9 1 (pv 1))))))
noncomputable abbrev kA(bR:Fn):bS:=
 (c6 (g7 (a7 (bQ (a7 (a8 0) (a7 (a8 1) (a7 (a8 3) aG)))) (a7 (bQ (a7 (a8 0) (a7 (a8 2) (a7 (aS bR (a7 (a8 3) (a7 (a8 1) aG))) aG)))) (a7 (bQ (a7 (a8 1) (a7 (a8 2) (a7 (a8 3) aG)))) aG)))))
theorem uU(P:ar)(w:bm)(mg:bi->Option ac)(base:cm)(m:At K mg "standing_up" "standing_up" (top 12) ["a", "b", "c", "some"])(f6:Def P w K mg base 1 "with_band" ["below", "band"] (low K bR))(j8:MonoF bR)(len:∀ds Q,sp ds Q->ds.length=4)(hsp:∀ds Q,sp ds Q->kA bR ↥Q (aM ["a", "b", "c", "some"] ds)):Def P w K mg base 2 "standing_up" ["a", "b", "c", "some"] (low K sp):=by
 have sc:FnScope ["a", "b", "c", "some"] ["a", "b", "c", "some"] (aJ (top 12)):=by norm_cast
 refine m.okP (k:=1) (t:=kA bR) sc (λf cdv A outer s H E hr=>?_) len hsp
 ·
  exact(aK (bE (fW (aD (cC (aD (a9 0 (pv 0)) (aD (a9 1 (pv 1)) (aD (a9 3 (pv 3)) aF)))) (aD (cC (aD (a9 0 (pv 0)) (aD (a9 2 (pv 2)) (aD (aT f6 j8 (hr.mono ∅) (aD (a9 3 (pv 3)) (aD (a9 1 (pv 1)) aF))) aF)))) (aD (cC (aD (a9 1 (pv 1)) (aD (a9 2 (pv 2)) (aD (a9 3 (pv 3)) aF)))) aF))))))
noncomputable abbrev iX(bR:Fn):bS:=
 (c6 (g7 (a7 (bQ (a7 (a8 0) (a7 (a8 1) (a7 (aS bR (a7 (a8 3) (a7 (a8 2) aG))) aG)))) (a7 (bQ (a7 (a8 0) (a7 (a8 2) (a7 (a8 3) aG)))) (a7 (bQ (a7 (a8 1) (a7 (a8 2) (a7 (aS bR (a7 (a8 3) (a7 (a8 0) aG))) aG)))) aG)))))
theorem rY(P:ar)(w:bm)(mg:bi->Option ac)(base:cm)(m:At K mg "standing_down" "standing_down" (top 13) ["a", "b", "c", "some"])(f6:Def P w K mg base 1 "with_band" ["below", "band"] (low K bR))(j8:MonoF bR)(len:∀ds Q,sp ds Q->ds.length=4)(hsp:∀ds Q,sp ds Q->iX bR ↥Q (aM ["a", "b", "c", "some"] ds)):Def P w K mg base 2 "standing_down" ["a", "b", "c", "some"] (low K sp):=by
 have sc:FnScope ["a", "b", "c", "some"] ["a", "b", "c", "some"] (aJ (top 13)):=by norm_cast
 refine m.okP (k:=1) (t:=iX bR) sc (λf cdv A outer s H E hr=>?_) len hsp
 ·
  exact(aK (bE (fW (aD (cC (aD (a9 0 (pv 0)) (aD (a9 1 (pv 1)) (aD (aT f6 j8 (hr.mono ∅) (aD (a9 3 (pv 3)) (aD (a9 2 (pv 2)) aF))) aF)))) (aD (cC (aD (a9 0 (pv 0)) (aD (a9 2 (pv 2)) (aD (a9 3 (pv 3)) aF)))) (aD (cC (aD (a9 1 (pv 1)) (aD (a9 2 (pv 2)) (aD (aT f6 j8 (hr.mono ∅) (aD (a9 3 (pv 3)) (aD (a9 0 (pv 0)) aF))) aF)))) aF))))))
noncomputable abbrev iW(dR cQ:Fn):bS:=
 (aN (b6 2 (aP bX (a8 1) (eC (.int 0))))
 (aN (b6 3 (aP bX (a8 1) (eC (.int 1))))
 (aN (b6 4 (aP bX (a8 1) (eC (.int 2))))
 (aN (b6 5 (g7 (a7 (bQ (a7 (a8 2) (a7 (a8 3) (a7 (aP bX (a8 0) (bQ (a7 (a8 2) (a7 (a8 3) aG)))) aG)))) (a7 (bQ (a7 (a8 2) (a7 (a8 4) (a7 (aP bX (a8 0) (bQ (a7 (a8 2) (a7 (a8 4) aG)))) aG)))) (a7 (bQ (a7 (a8 3) (a7 (a8 4) (a7 (aP bX (a8 0) (bQ (a7 (a8 3) (a7 (a8 4) aG)))) aG)))) aG)))))
 (aN (jE (aU (aP qQ (a8 5) (aS dR (a7 (a8 2) (a7 (a8 3) (a7 (a8 4) (a7 (aP bX (a8 0) (bQ (a7 (a8 2) (a7 (a8 3) aG)))) aG))))))) (c6 (aS cQ (a7 (a8 2) (a7 (a8 3) (a7 (a8 4) (a7 (aP bX (a8 0) (bQ (a7 (a8 2) (a7 (a8 3) aG)))) aG)))))) bK)
 (aN (jE (aU (aP qQ (a8 5) (aS cQ (a7 (a8 2) (a7 (a8 3) (a7 (a8 4) (a7 (aP bX (a8 0) (bQ (a7 (a8 2) (a7 (a8 4) aG)))) aG))))))) (c6 (aS dR (a7 (a8 2) (a7 (a8 3) (a7 (a8 4) (a7 (aP bX (a8 0) (bQ (a7 (a8 2) (a7 (a8 4) aG)))) aG)))))) bK)
 (c6 (eC .non))))))))
theorem rX(P:ar)(w:bm)(mg:bi->Option ac)(base:cm){dR cQ:Fn}(m:At K mg "tiles_by_flip" "tiles_by_flip" (top 14) ["below", "three"])(iG:Def P w K mg base 2 "standing_up" ["a", "b", "c", "some"] (low K dR))(mX:MonoF dR)(fY:Def P w K mg base 2 "standing_down" ["a", "b", "c", "some"] (low K cQ))(kO:MonoF cQ)(len:∀ds Q,sp ds Q->ds.length=2)(hsp:∀ds Q,sp ds Q->iW dR cQ ↥Q (aM ["below", "three", "a", "b", "c", "tiles"] ds)):Def P w K mg base 3 "tiles_by_flip" ["below", "three"] (low K sp):=by
 have sc:FnScope ["below", "three", "a", "b", "c", "tiles"] ["below", "three"] (aJ (top 14)):=by norm_cast
 refine m.okP (k:=2) (t:=iW dR cQ) sc (λf cdv A outer s H E hr=>?_) len hsp
 ·
  have hu:=hr.units;have hu1:=eV hr;exact(aE (bH (i:=2) sc.nd rfl (.inl rfl) (bU hu1 (a9 1 (pv 1)) aR))
 (aE (bH (i:=3) sc.nd rfl (.inl rfl) (bU hu1 (a9 1 (pv 1)) aR))
 (aE (bH (i:=4) sc.nd rfl (.inl rfl) (bU hu1 (a9 1 (pv 1)) aR))
 (aE (bH (i:=5) sc.nd rfl (.inl rfl) (fW (aD (cC (aD (a9 2 (pv 2)) (aD (a9 3 (pv 3)) (aD (bU hu1 (a9 0 (pv 0)) (cC (aD (a9 2 (pv 2)) (aD (a9 3 (pv 3)) aF)))) aF)))) (aD (cC (aD (a9 2 (pv 2)) (aD (a9 4 (pv 4)) (aD (bU hu1 (a9 0 (pv 0)) (cC (aD (a9 2 (pv 2)) (aD (a9 4 (pv 4)) aF)))) aF)))) (aD (cC (aD (a9 3 (pv 3)) (aD (a9 4 (pv 4)) (aD (bU hu1 (a9 0 (pv 0)) (cC (aD (a9 3 (pv 3)) (aD (a9 4 (pv 4)) aF)))) aF)))) aF)))))
 (aE (eX (b9 (jI hu) (a9 5 (pv 5)) (aT iG mX (hr.mono ∅) (aD (a9 2 (pv 2)) (aD (a9 3 (pv 3)) (aD (a9 4 (pv 4)) (aD (bU hu1 (a9 0 (pv 0)) (cC (aD (a9 2 (pv 2)) (aD (a9 3 (pv 3)) aF)))) aF)))))) (aK (bE (aT fY kO (hr.mono ∅) (aD (a9 2 (pv 2)) (aD (a9 3 (pv 3)) (aD (a9 4 (pv 4)) (aD (bU hu1 (a9 0 (pv 0)) (cC (aD (a9 2 (pv 2)) (aD (a9 3 (pv 3)) aF)))) aF))))))) bJ)
 (aE (eX (b9 (jI hu) (a9 5 (pv 5)) (aT fY kO (hr.mono ∅) (aD (a9 2 (pv 2)) (aD (a9 3 (pv 3)) (aD (a9 4 (pv 4)) (aD (bU hu1 (a9 0 (pv 0)) (cC (aD (a9 2 (pv 2)) (aD (a9 4 (pv 4)) aF)))) aF)))))) (aK (bE (aT iG mX (hr.mono ∅) (aD (a9 2 (pv 2)) (aD (a9 3 (pv 3)) (aD (a9 4 (pv 4)) (aD (bU hu1 (a9 0 (pv 0)) (cC (aD (a9 2 (pv 2)) (aD (a9 4 (pv 4)) aF)))) aF))))))) bJ)
 (aK (bE wH))))))))
noncomputable abbrev oV:bS:=
 (c6 (uT (uS "int" (a8 0)) (As (uS "bool" (a8 0)))))
theorem Ax(P:ar)(w:bm)(mg:bi->Option ac)(base:cm)(m:At K mg "is_whole" "is_whole" (top 21) ["thing"])(aX:mg "isinstance" = aq)(vX:mg "int" = aq)(r9:mg "bool" = aq)(len:∀ds Q,sp ds Q->ds.length=1)(hsp:∀ds Q,sp ds Q->oV  ↥Q (aM ["thing"] ds)):Def P w K mg base 1 "is_whole" ["thing"] (low K sp):=by
 have sc:FnScope ["thing"] ["thing"] (aJ (top 21)):=by norm_cast
 refine m.okP (k:=0) (t:=oV ) sc (λf cdv A outer s H E hr=>?_) len hsp
 ·
  exact(aK (bE (CT (sE (.inl rfl) rfl aX (a9 0 (pv 0)) (jW (v:=.ty "int") rfl vX boot_int rfl)) (AA (JH (sE (.inr (.inl rfl)) rfl aX (a9 0 (pv 0)) (jW (v:=.ty "bool") rfl r9 boot_bool rfl)))))))
noncomputable abbrev fZ(iB:Fn):bS:=
 (aN (jE (HD (n5 (n4 (uS "tuple" (a8 0)))) (aU (aP zH (fR d9 (a7 (a8 0) aG)) (eC (.int 3))))) (c6 (eC (.bl ak))) bK)
 (c6 (fR FX (a7 (fN 1 [] (iR (a8 0)) (gN 0) lX (aS iB (a7 (a8 0) aG))) aG))))
theorem oH(P:ar)(w:bm)(mg:bi->Option ac)(base:cm){iB:Fn}(m:At K mg "has_three_wholes" "has_three_wholes" (top 27) ["direction"])(aX:mg "isinstance" = aq)(cS:mg "tuple" = aq)(bA:mg "len" = aq)(ER:mg "all" = aq)(pM:Def P w K mg base 1 "is_whole" ["thing"] (low K iB))(Ac:MonoF iB)(len:∀ds Q,sp ds Q->ds.length=1)(hsp:∀ds Q,sp ds Q->fZ iB ↥Q (aM ["direction"] ds)):Def P w K mg base 2 "has_three_wholes" ["direction"] (low K sp):=by
 have sc:FnScope ["direction"] ["direction"] (aJ (top 27)):=by norm_cast
 refine m.okP (k:=1) (t:=fZ iB) sc (λf cdv A outer s H E hr=>?_) len hsp
 ·
  have hu:=hr.units;exact(aE (eX (QW.qt (A8 (gK (hW (sE (.inr (.inr (.inl rfl))) rfl aX (a9 0 (pv 0)) (jW (v:=.ty "tuple") rfl cS sd rfl)))) (xO (b9 (p5 hu) (aY bZ rfl bA dv (aD (a9 0 (pv 0)) aF)) aR)))) (aK (bE oB)) bJ)
 (aK (bE (aY (LK rfl) rfl ER boot_all (aD (vE ["part"] [] [] rfl (e9 (a9 0 (pv 0))) (λfp s H=>(iN (i:=0) (k:=1) (show jw (["part"]:List bi) by decide +kernel) rfl (.inl rfl))) (λfp s H=>sZ) (λfp s H=>(aT pM Ac (hr.mono ∅) (aD (a9 0 (pv 0)) aF)))) aF)))))
noncomputable abbrev gH:bS:=
 (c6 (uT (aP KP (fR Dc (a7 (aP bX (a8 0) (eC (.int 0))) aG)) (eC (.int 999999999999))) (aP KP (fR Dc (a7 (aP bX (a8 0) (eC (.int 1))) aG)) (eC (.int 999999999999)))))
theorem pG(P:ar)(w:bm)(mg:bi->Option ac)(base:cm)(m:At K mg "has_few_figures" "has_few_figures" (top 28) ["direction"])(CF:mg "abs" = aq)(gG:∃t,mg "LARGEST_PART" = aa (.int 999999999999 t))(len:∀ds Q,sp ds Q->ds.length=1)(hsp:∀ds Q,sp ds Q->gH  ↥Q (aM ["direction"] ds)):Def P w K mg base 1 "has_few_figures" ["direction"] (low K sp):=by
 have sc:FnScope ["direction"] ["direction"] (aJ (top 28)):=by norm_cast
 refine m.okP (k:=0) (t:=gH ) sc (λf cdv A outer s H E hr=>?_) len hsp
 ·
  have hu1:=eV hr;exact(aK (bE (CT (tX FY (aY Gj rfl CF boot_abs (aD (bU hu1 (a9 0 (pv 0)) aR) aF)) (qL gG)) (AA (tX FY (aY Gj rfl CF boot_abs (aD (bU hu1 (a9 0 (pv 0)) aR) aF)) (qL gG))))))
noncomputable abbrev mH:bS:=
 (c6 (Iu (aP Hz (aP bX (a8 0) (eC (.int 1))) (eC (.int 0))) (uT (aP qQ (aP bX (a8 0) (eC (.int 1))) (eC (.int 0))) (aP Hz (aP bX (a8 0) (eC (.int 0))) (eC (.int 0))))))
theorem yP(P:ar)(w:bm)(mg:bi->Option ac)(base:cm)(m:At K mg "points_up" "points_up" (top 29) ["direction"])(len:∀ds Q,sp ds Q->ds.length=1)(hsp:∀ds Q,sp ds Q->mH  ↥Q (aM ["direction"] ds)):Def P w K mg base 1 "points_up" ["direction"] (low K sp):=by
 have sc:FnScope ["direction"] ["direction"] (aJ (top 29)):=by norm_cast
 refine m.okP (k:=0) (t:=mH ) sc (λf cdv A outer s H E hr=>?_) len hsp
 ·
  have hu:=hr.units;have hu1:=eV hr;exact(aK (bE (Pu (tX rP (bU hu1 (a9 0 (pv 0)) aR) aR) (AA (CT (tX (jI hu) (bU hu1 (a9 0 (pv 0)) aR) aR) (AA (tX rP (bU hu1 (a9 0 (pv 0)) aR) aR)))))))
noncomputable abbrev mJ:bS:=
 (c6 (aP Hz (aP kN (aP fQ (aP bX (a8 1) (eC (.int 0))) (aP bX (a8 0) (eC (.int 1)))) (aP fQ (aP bX (a8 0) (eC (.int 0))) (aP bX (a8 1) (eC (.int 1))))) (eC (.int 0))))
theorem yQ(P:ar)(w:bm)(mg:bi->Option ac)(base:cm)(m:At K mg "lies_left" "lies_left" (top 30) ["direction", "ahead"])(len:∀ds Q,sp ds Q->ds.length=2)(hsp:∀ds Q,sp ds Q->mJ  ↥Q (aM ["direction", "ahead"] ds)):Def P w K mg base 1 "lies_left" ["direction", "ahead"] (low K sp):=by
 have sc:FnScope ["direction", "ahead"] ["direction", "ahead"] (aJ (top 30)):=by norm_cast
 refine m.okP (k:=0) (t:=mJ ) sc (λf cdv A outer s H E hr=>?_) len hsp
 ·
  have hu1:=eV hr;exact(aK (bE (tX rP (bM jX (bM dC (bU hu1 (a9 1 (pv 1)) aR) (bU hu1 (a9 0 (pv 0)) aR)) (bM dC (bU hu1 (a9 0 (pv 0)) aR) (bU hu1 (a9 1 (pv 1)) aR))) aR)))
noncomputable abbrev gI(cL cO gD:Fn):bS:=
 (aN (jE (n5 (n4 (aS cL (a7 (a8 0) aG)))) hV bK)
 (aN (jE (n5 (n4 (aS cO (a7 (a8 0) aG)))) hV bK)
 (aN (jE (n5 (n4 (aS gD (a7 (a8 0) aG)))) hV bK)
 (jE (aU (aP zI (aP bX (a8 0) (eC (.int 2))) (eC (.int 1)))) hV bK))))
theorem pH(P:ar)(w:bm)(mg:bi->Option ac)(base:cm){cL cO gD:Fn}(m:At K mg "check_direction" "check_direction" (top 31) ["direction"])(g8:Def P w K mg base 2 "has_three_wholes" ["direction"] (low K cL))(oC:MonoF cL)(gR:Def P w K mg base 1 "has_few_figures" ["direction"] (low K cO))(p9:MonoF cO)(n6:Def P w K mg base 1 "points_up" ["direction"] (low K gD))(xZ:MonoF gD)(len:∀ds Q,sp ds Q->ds.length=1)(hsp:∀ds Q,sp ds Q->gI cL cO gD ↥Q (aM ["direction"] ds)):Def P w K mg base 3 "check_direction" ["direction"] (low K sp):=by
 have sc:FnScope ["direction"] ["direction"] (aJ (top 31)):=by norm_cast
 refine m.okP (k:=2) (t:=gI cL cO gD) sc (λf cdv A outer s H E hr=>?_) len hsp
 ·
  have hu1:=eV hr;exact(aE (eX (gK (hW (aT g8 oC (hr.mono ∅) (aD (a9 0 (pv 0)) aF)))) (aK iD) bJ)
 (aE (eX (gK (hW (aT gR p9 (hr.mono ∅) (aD (a9 0 (pv 0)) aF)))) (aK iD) bJ)
 (aE (eX (gK (hW (aT n6 xZ (hr.mono ∅) (aD (a9 0 (pv 0)) aF)))) (aK iD) bJ)
 (aK (eX (b9 mW (bU hu1 (a9 0 (pv 0)) aR) aR) (aK iD) bJ)))))
noncomputable abbrev iU(bD cV:Fn):bS:=
 (A3 (aS bD (a7 (a8 1) aG)))
noncomputable abbrev fD(bD cV:Fn):bS:=
 (jE (n5 (n4 (aS cV (a7 (a8 1) (a7 (a8 2) aG))))) hV bK)
noncomputable abbrev g5(bD cV:Fn):bS:=
 (aN (jE (n5 (n4 (uS "list" (a8 0)))) hV bK)
 (aN (jE (n5 (aU (lP KP KP (eC (.int 2)) (fR d9 (a7 (a8 0) aG)) (eC (.int 6))))) hV bK)
 (aN (j6 (iR (a8 0)) (gN 1) (iU bD cV))
 (aN (jE (aU (aP Hz (fR FT (a7 (fN 1 [] (iR (a8 0)) (gN 0) lX (aP bX (a8 0) (eC (.int 2)))) aG)) (eC (.int 12)))) hV bK)
 (j6 (Ai (a7 (a8 0) (a7 (C2 (a8 0) (gC (eC (.int 1))) iF) aG))) (gT [2,1]) (fD bD cV))))))
theorem oI(P:ar)(w:bm)(mg:bi->Option ac)(base:cm){bD cV:Fn}(m:At K mg "check_directions" "check_directions" (top 32) ["directions"])(aX:mg "isinstance" = aq)(eF:mg "list" = aq)(bA:mg "len" = aq)(EO:mg "sum" = aq)(EN:mg "zip" = aq)(fP:∃t,mg "FEWEST_DIRECTIONS" = aa (.int 2 t))(gF:∃t,mg "MOST_DIRECTIONS" = aa (.int 6 t))(l7:∃t,mg "MOST_BANDS" = aa (.int 12 t))(gU:Def P w K mg base 3 "check_direction" ["direction"] (low K bD))(pB:MonoF bD)(n8:Def P w K mg base 1 "lies_left" ["direction", "ahead"] (low K cV))(y4:MonoF cV)(len:∀ds Q,sp ds Q->ds.length=1)(hsp:∀ds Q,sp ds Q->g5 bD cV ↥Q (aM ["directions", "direction", "ahead"] ds)):Def P w K mg base 4 "check_directions" ["directions"] (low K sp):=by
 have sc:FnScope ["directions", "direction", "ahead"] ["directions"] (aJ (top 32)):=by norm_cast
 refine m.okP (k:=3) (t:=g5 bD cV) sc (λf cdv A outer s H E hr=>?_) len hsp
 ·
  have hu1:=eV hr;exact(aE (eX (gK (hW (sE (.inr (.inr (.inr (.inl rfl)))) rfl aX (a9 0 (pv 0)) (jW (v:=.ty "list") rfl eF vm rfl)))) (aK iD) bJ)
 (aE (eX (gK (A9 AW AW (qL fP) (aY bZ rfl bA dv (aD (a9 0 (pv 0)) aF)) (qL gF))) (aK iD) bJ)
 (aE (gL cq rfl (e9 (a9 0 (pv 0))) (iN (i:=1) (k:=3) sc.nd rfl (.inl rfl)) (aK (Ez (aT gU pB (hr.mono ∅) (aD (a9 1 (pv 1)) aF)))))
 (aE (eX (b9 rP (aY (LJ rfl) rfl EO boot_sum (aD (vE ["direction"] [] [] rfl (e9 (a9 0 (pv 0))) (λfp s H=>(iN (i:=0) (k:=1) (show jw (["direction"]:List bi) by decide +kernel) rfl (.inl rfl))) (λfp s H=>sZ) (λfp s H=>(bU hu1 (a9 0 (pv 0)) aR))) aF)) (qL l7)) (aK iD) bJ)
 (aK (gL cq rfl (Ju rfl EN (aD (a9 0 (pv 0)) (aD (nO (a9 0 (pv 0)) (jV aR) t5) aF))) (DN (k:=3) (is:=[2,1]) rfl (d7 (dW (i:=2) sc.nd rfl (.inl rfl)) (d7 (dW (i:=1) sc.nd rfl (.inl rfl)) nR))) (aK (eX (gK (hW (aT n8 y4 (hr.mono ∅) (aD (a9 1 (pv 1)) (aD (a9 2 (pv 2)) aF))))) (aK iD) bJ))))))))
noncomputable abbrev qY(C:ae)(bL:Fn):bS:=
 (DJ 2 (aP fQ (g7 (a7 (a8 3) aG)) (aP bX (a8 4) (eC (.int 2)))))
noncomputable abbrev BR(C:ae)(bL:Fn):bS:=
 (aN (A3 (aS bL (a7 (a8 1) aG)))
 (aN (iM 2 (g7 aG))
 (aN (j6 (yI (a7 (a8 1) aG)) (gT [3,4]) (qY C bL))
 (aN (tU C 0 "kinds" (fR jH (a7 (a8 2) aG)))
 (tU C 0 "vectors" (fR jH (a7 (fN 1 [] (iR (a8 1)) (gN 0) lX (bQ (a7 (aP bX (a8 0) (eC (.int 0))) (a7 (aP bX (a8 0) (eC (.int 1))) aG)))) aG)))))))
theorem Ix(P:ar)(w:bm)(mg:bi->Option ac)(base:cm){bL:Fn}(m:IAt K mg "Sides" C "Sides.__init__" (fJ (top 33) 0) ["self", "directions"])(mE:mg "enumerate" = aq)(cS:mg "tuple" = aq)(cl:Cls K C)(j7:j4 K C "kinds")(rQ:j4 K C "vectors")(g9:Def P w K mg base 4 "check_directions" ["directions"] (low K bL))(oE:MonoF bL)(len:∀ds Q,sp ds Q->ds.length+1=2)(hsp:∀ds Q,sp ds Q -> ∀a,BR C bL { nx:=λρ=>∃d,ρ[0]?=aa (.own a d)/\Q (.nw d),rt:=λ_=>False } (j0 C a ["self", "directions", "kinds", "number", "direction"] ds)):IDef P w K mg base 5 "Sides" C ["self", "directions"] sp:=by
 have sc:FnScope ["self", "directions", "kinds", "number", "direction"] ["self", "directions"] (aJ (fJ (top 33) 0)):=by norm_cast
 refine m.okP (k:=4) (t:=BR C bL) sc (λf cdv A outer s H E hr=>?_) len hsp
 ·
  have hu1:=eV hr;exact(aE (Ez (aT g9 oE (hr.mono ∅) (aD (a9 1 (pv 1)) aF)))
 (aE (hX (i:=2) sc.nd rfl (.inl rfl) (fW aF))
 (aE (gL cq rfl (Ha rfl mE (aD (a9 1 (pv 1)) aF)) (DN (k:=5) (is:=[3,4]) rfl (d7 (dW (i:=3) sc.nd rfl (.inl rfl)) (d7 (dW (i:=4) sc.nd rfl (.inl rfl)) nR))) (aK (MU (i:=2) (pv 2) (bM dC (fW (aD (a9 3 (pv 3)) aF)) (bU hu1 (a9 4 (pv 4)) aR)))))
 (aE (F2 (i:=0) cl j7 (pv 0) (iO nF rfl cS sd (aD (a9 2 (pv 2)) aF)))
 (aK (F2 (i:=0) cl rQ (pv 0) (iO nF rfl cS sd (aD (vE ["direction"] [] [] rfl (e9 (a9 1 (pv 1))) (λfp s H=>(iN (i:=0) (k:=1) (show jw (["direction"]:List bi) by decide +kernel) rfl (.inl rfl))) (λfp s H=>sZ) (λfp s H=>(cC (aD (bU hu1 (a9 0 (pv 0)) aR) (aD (bU hu1 (a9 0 (pv 0)) aR) aF))))) aF))))))))
noncomputable abbrev BP(C:ae):bS:=
 (c6 (fR d9 (a7 (Ga C "kinds" (a8 0)) aG)))
theorem Iv(P:ar)(w:bm)(mg:bi->Option ac)(base:cm)(m:MAt K C "many" "Sides.many" (fJ (top 33) 1) ["self"])(bA:mg "len" = aq)(cl:Cls K C)(j7:j4 K C "kinds")(len:∀ds Q,sp ds Q->ds.length=1)(hsp:∀ds Q,sp ds Q->BP C  ↥Q (aM ["self"] ds)):MDef P w K mg base 1 C "many" ["self"] (low K sp):=by
 have sc:FnScope ["self"] ["self"] (aJ (fJ (top 33) 1)):=by norm_cast
 refine m.okP (k:=0) (t:=BP C ) sc (λf cdv A outer s H E hr=>?_) len hsp
 ·
  exact(aK (bE (aY bZ rfl bA dv (aD (JJ cl j7 (a9 0 (pv 0))) aF))))
noncomputable abbrev BQ(C:ae):bS:=
 (c6 (aP bX (Ga C "kinds" (a8 0)) (a8 1)))
theorem Iw(P:ar)(w:bm)(mg:bi->Option ac)(base:cm)(m:MAt K C "kind" "Sides.kind" (fJ (top 33) 2) ["self", "band"])(cl:Cls K C)(j7:j4 K C "kinds")(len:∀ds Q,sp ds Q->ds.length=2)(hsp:∀ds Q,sp ds Q->BQ C  ↥Q (aM ["self", "band"] ds)):MDef P w K mg base 1 C "kind" ["self", "band"] (low K sp):=by
 have sc:FnScope ["self", "band"] ["self", "band"] (aJ (fJ (top 33) 2)):=by norm_cast
 refine m.okP (k:=0) (t:=BQ C ) sc (λf cdv A outer s H E hr=>?_) len hsp
 ·
  have hu1:=eV hr;exact(aK (bE (bU hu1 (JJ cl j7 (a9 0 (pv 0))) (a9 1 (pv 1)))))
noncomputable abbrev xB(C:ae)(dE dB:Fn):bS:=
 (jE (aU (aP zH (lY C "kind" dB (a8 0) (a7 (a8 2) aG)) (lY C "kind" dB (a8 0) (a7 (a8 3) aG)))) (mS 1 (bQ (a7 (a8 2) (a7 (a8 3) aG)))) bK)
noncomputable abbrev kU(C:ae)(dE dB:Fn):bS:=
 (j6 (qS (a7 (aP dS (a8 2) (eC (.int 1))) (a7 (lY C "many" dE (a8 0) aG) aG))) (gN 3) (xB C dE dB))
noncomputable abbrev xI(C:ae)(dE dB:Fn):bS:=
 (aN (iM 1 (g7 aG))
 (aN (j6 (fX (a7 (lY C "many" dE (a8 0) aG) aG)) (gN 2) (kU C dE dB))
 (c6 (a8 1))))
theorem Ge(P:ar)(w:bm)(mg:bi->Option ac)(base:cm)(m:MAt K C "pairs" "Sides.pairs" (fJ (top 33) 4) ["self"])(bO:mg "range" = aq)(cl:Cls K C)(pJ:MDef P w K mg base 1 C "many" ["self"] (low K dE))(lK:MonoF dE)(nD:MDef P w K mg base 1 C "kind" ["self", "band"] (low K dB))(jY:MonoF dB)(len:∀ds Q,sp ds Q->ds.length=1)(hsp:∀ds Q,sp ds Q->xI C dE dB ↥Q (aM ["self", "found", "a", "b"] ds)):MDef P w K mg base 2 C "pairs" ["self"] (low K sp):=by
 have sc:FnScope ["self", "found", "a", "b"] ["self"] (aJ (fJ (top 33) 4)):=by norm_cast
 refine m.okP (k:=1) (t:=xI C dE dB) sc (λf cdv A outer s H E hr=>?_) len hsp
 ·
  have hu:=hr.units;exact(aE (hX (i:=1) sc.nd rfl (.inl rfl) (fW aF))
 (aE (gL cq rfl (hZ rfl bO (aD (t6 cl pJ lK (hr.mono ∅) (a9 0 (pv 0))) aF)) (iN (i:=2) (k:=4) sc.nd rfl (.inl rfl)) (aK (gL cq rfl (wI rfl bO (aD (bM bY (a9 2 (pv 2)) aR) (aD (t6 cl pJ lK (hr.mono ∅) (a9 0 (pv 0))) aF))) (iN (i:=3) (k:=4) sc.nd rfl (.inl rfl)) (aK (eX (b9 (p5 hu) (xP cl nD jY (hr.mono ∅) (a9 0 (pv 0)) (aD (a9 2 (pv 2)) aF)) (xP cl nD jY (hr.mono ∅) (a9 0 (pv 0)) (aD (a9 3 (pv 3)) aF))) (aK (qM (i:=1) (pv 1) (cC (aD (a9 2 (pv 2)) (aD (a9 3 (pv 3)) aF))))) bJ)))))
 (aK (bE (a9 1 (pv 1))))))
noncomputable abbrev v6(C:ae)(iH dE dB:Fn):bS:=
 (jE (aU (aP zH (lY C "kind" dB (a8 0) (a7 (a8 4) aG)) (lY C "kind" dB (a8 0) (a7 (a8 3) aG)))) (mS 1 (bQ (a7 (a8 2) (a7 (a8 3) (a7 (a8 4) aG))))) bK)
noncomputable abbrev jM(C:ae)(iH dE dB:Fn):bS:=
 (j6 (qS (a7 (aP dS (a8 3) (eC (.int 1))) (a7 (lY C "many" dE (a8 0) aG) aG))) (gN 4) (v6 C iH dE dB))
noncomputable abbrev tM(C:ae)(iH dE dB:Fn):bS:=
 (aN (iM 1 (g7 aG))
 (aN (j6 (iR (lY C "pairs" iH (a8 0) aG)) (gT [2,3]) (jM C iH dE dB))
 (c6 (a8 1))))
theorem E7(P:ar)(w:bm)(mg:bi->Option ac)(base:cm){iH:Fn}(m:At K mg "threes" "threes" (top 9) ["sides"])(bO:mg "range" = aq)(cl:Cls K C)(yW:MDef P w K mg base 2 C "pairs" ["self"] (low K iH))(uC:MonoF iH)(pJ:MDef P w K mg base 1 C "many" ["self"] (low K dE))(lK:MonoF dE)(nD:MDef P w K mg base 1 C "kind" ["self", "band"] (low K dB))(jY:MonoF dB)(len:∀ds Q,sp ds Q->ds.length=1)(hsp:∀ds Q,sp ds Q->tM C iH dE dB ↥Q (aM ["sides", "told", "a", "b", "c"] ds)):Def P w K mg base 3 "threes" ["sides"] (low K sp):=by
 have sc:FnScope ["sides", "told", "a", "b", "c"] ["sides"] (aJ (top 9)):=by norm_cast
 refine m.okP (k:=2) (t:=tM C iH dE dB) sc (λf cdv A outer s H E hr=>?_) len hsp
 ·
  have hu:=hr.units;exact(aE (hX (i:=1) sc.nd rfl (.inl rfl) (fW aF))
 (aE (gL cq rfl (e9 (t6 cl yW uC (hr.mono ∅) (a9 0 (pv 0)))) (DN (k:=5) (is:=[2,3]) rfl (d7 (dW (i:=2) sc.nd rfl (.inl rfl)) (d7 (dW (i:=3) sc.nd rfl (.inl rfl)) nR))) (aK (gL cq rfl (wI rfl bO (aD (bM bY (a9 3 (pv 3)) aR) (aD (t6 cl pJ lK (hr.mono ∅) (a9 0 (pv 0))) aF))) (iN (i:=4) (k:=5) sc.nd rfl (.inl rfl)) (aK (eX (b9 (p5 hu) (xP cl nD jY (hr.mono ∅) (a9 0 (pv 0)) (aD (a9 4 (pv 4)) aF)) (xP cl nD jY (hr.mono ∅) (a9 0 (pv 0)) (aD (a9 3 (pv 3)) aF))) (aK (qM (i:=1) (pv 1) (cC (aD (a9 2 (pv 2)) (aD (a9 3 (pv 3)) (aD (a9 4 (pv 4)) aF)))))) bJ)))))
 (aK (bE (a9 1 (pv 1))))))
noncomputable abbrev Jj(bW bV:Fn):bS:=
 (aN (b6 2 (aS bW (a7 (a8 1) aG)))
 (c6 (fN 1 [2] (iR (aS bV (a7 (a8 0) aG))) (gN 0) (aU (aP Hy (aP bX (a8 0) (eC (.int 1))) (aP bX (a8 1) (bQ (a7 (aP bX (a8 0) (eC (.int 0))) (a7 (aP bX (a8 0) (eC (.int 2))) aG)))))) (a8 0))))
theorem NW(P:ar)(w:bm)(mg:bi->Option ac)(base:cm)(m:At K mg "up" "up" (top 10) ["sides", "floor"])(gW:Def P w K mg base 1 "belows" ["floor"] (low K bW))(eA:MonoF bW)(gQ:Def P w K mg base 3 "threes" ["sides"] (low K bV))(fI:MonoF bV)(len:∀ds Q,sp ds Q->ds.length=2)(hsp:∀ds Q,sp ds Q->Jj bW bV ↥Q (aM ["sides", "floor", "below"] ds)):Def P w K mg base 4 "up" ["sides", "floor"] (low K sp):=by
 have sc:FnScope ["sides", "floor", "below"] ["sides", "floor"] (aJ (top 10)):=by norm_cast
 refine m.okP (k:=3) (t:=Jj bW bV) sc (λf cdv A outer s H E hr=>?_) len hsp
 ·
  have hu1:=eV hr;have hu65:=nM hr;exact(aE (bH (i:=2) sc.nd rfl (.inr rfl) (aT gW eA (hr.mono ∅) (aD (a9 1 (pv 1)) aF)))
 (aK (bE (vE ["three"] ["below"] [2] rfl (e9 (aT gQ fI (hr.mono ∅) (aD (a9 0 (pv 0)) aF))) (λfp s H=>(iN (i:=0) (k:=1) (show jw (["three", "below"]:List bi) by decide +kernel) rfl (.inl rfl))) (λfp s H=>(jU (b9 (Bk hu65 hu1) (bU hu1 (a9 0 (pv 0)) aR) (bU hu1 (a9 1 (pv 1)) (cC (aD (bU hu1 (a9 0 (pv 0)) aR) (aD (bU hu1 (a9 0 (pv 0)) aR) aF))))))) (λfp s H=>(a9 0 (pv 0)))))))
noncomputable abbrev mO(bW bV b0:Fn):bS:=
 (aN (b6 2 (aS bW (a7 (a8 1) aG)))
 (c6 (fN 1 [2] (iR (aS bV (a7 (a8 0) aG))) (gN 0) (aU (aP u5 (aS b0 (a7 (a8 1) (a7 (a8 0) aG))) (eC .non))) (a8 0))))
theorem yV(P:ar)(w:bm)(mg:bi->Option ac)(base:cm)(m:At K mg "flippable" "flippable" (top 15) ["sides", "floor"])(gW:Def P w K mg base 1 "belows" ["floor"] (low K bW))(eA:MonoF bW)(gQ:Def P w K mg base 3 "threes" ["sides"] (low K bV))(fI:MonoF bV)(dF:Def P w K mg base 3 "tiles_by_flip" ["below", "three"] (low K b0))(i7:MonoF b0)(len:∀ds Q,sp ds Q->ds.length=2)(hsp:∀ds Q,sp ds Q->mO bW bV b0 ↥Q (aM ["sides", "floor", "below"] ds)):Def P w K mg base 4 "flippable" ["sides", "floor"] (low K sp):=by
 have sc:FnScope ["sides", "floor", "below"] ["sides", "floor"] (aJ (top 15)):=by norm_cast
 refine m.okP (k:=3) (t:=mO bW bV b0) sc (λf cdv A outer s H E hr=>?_) len hsp
 ·
  exact(aE (bH (i:=2) sc.nd rfl (.inr rfl) (aT gW eA (hr.mono ∅) (aD (a9 1 (pv 1)) aF)))
 (aK (bE (vE ["three"] ["below"] [2] rfl (e9 (aT gQ fI (hr.mono ∅) (aD (a9 0 (pv 0)) aF))) (λfp s H=>(iN (i:=0) (k:=1) (show jw (["three", "below"]:List bi) by decide +kernel) rfl (.inl rfl))) (λfp s H=>(jU (b9 AV (aT dF i7 (hr.mono ∅) (aD (a9 1 (pv 1)) (aD (a9 0 (pv 0)) aF))) wH))) (λfp s H=>(a9 0 (pv 0)))))))
noncomputable abbrev rB(bV bW b0:Fn):bS:=
 (aN (jE (aU (aP d8 (a8 2) (aS bV (a7 (a8 0) aG)))) hV bK)
 (aN (b6 3 (aS b0 (a7 (aS bW (a7 (a8 1) aG)) (a7 (a8 2) aG))))
 (aN (jE (aU (aP DZ (a8 3) (eC .non))) hV bK)
 (aN (b6 4 (fN 1 [2] (iR (a8 1)) (gN 0) (HD (aU (aP d8 (aP bX (a8 0) (eC (.int 0))) (a8 1))) (aU (aP d8 (aP bX (a8 0) (eC (.int 1))) (a8 1)))) (a8 0)))
 (c6 (fR gM (a7 (aP dS (a8 4) (a8 3)) aG)))))))
theorem C4(P:ar)(w:bm)(mg:bi->Option ac)(base:cm)(m:At K mg "flipped" "flipped" (top 16) ["sides", "floor", "three"])(dZ:mg "sorted" = aq)(gQ:Def P w K mg base 3 "threes" ["sides"] (low K bV))(fI:MonoF bV)(gW:Def P w K mg base 1 "belows" ["floor"] (low K bW))(eA:MonoF bW)(dF:Def P w K mg base 3 "tiles_by_flip" ["below", "three"] (low K b0))(i7:MonoF b0)(len:∀ds Q,sp ds Q->ds.length=3)(hsp:∀ds Q,sp ds Q->rB bV bW b0 ↥Q (aM ["sides", "floor", "three", "tiles", "others"] ds)):Def P w K mg base 4 "flipped" ["sides", "floor", "three"] (low K sp):=by
 have sc:FnScope ["sides", "floor", "three", "tiles", "others"] ["sides", "floor", "three"] (aJ (top 16)):=by norm_cast
 refine m.okP (k:=3) (t:=rB bV bW b0) sc (λf cdv A outer s H E hr=>?_) len hsp
 ·
  have hu1:=eV hr;have hu65:=nM hr;exact(aE (eX (b9 (i5 hu65 hu1) (a9 2 (pv 2)) (aT gQ fI (hr.mono ∅) (aD (a9 0 (pv 0)) aF))) (aK iD) bJ)
 (aE (bH (i:=3) sc.nd rfl (.inl rfl) (aT dF i7 (hr.mono ∅) (aD (aT gW eA (hr.mono ∅) (aD (a9 1 (pv 1)) aF)) (aD (a9 2 (pv 2)) aF))))
 (aE (eX (b9 Ca (a9 3 (pv 3)) wH) (aK iD) bJ)
 (aE (Ey (JI (iy:=4) ["tile"] ["three"] [2] sc.nd rfl (.inl rfl) rfl (e9 (a9 1 (pv 1))) (λfp s H=>(iN (i:=0) (k:=1) (show jw (["tile", "three"]:List bi) by decide +kernel) rfl (.inl rfl))) (λfp s H=>(jU (QW.qt (A8 (b9 (i5 hu65 hu1) (bU hu1 (a9 0 (pv 0)) aR) (a9 1 (pv 1))) (xO (b9 (i5 hu65 hu1) (bU hu1 (a9 0 (pv 0)) aR) (a9 1 (pv 1)))))))) (λfp s H=>(a9 0 (pv 0)))))
 (aK (bE (aY o5 rfl dZ vb (aD (bM bY (a9 4 (pv 4)) (a9 3 (pv 3))) aF))))))))
noncomputable abbrev k9(mC eE:Fn):bS:=
 (jE (qW (aU (aP Hy (a8 4) (a8 3))) (aU (aP d8 (a8 4) (a8 2)))) (c6 (a8 4)) bK)
noncomputable abbrev rC(mC eE:Fn):bS:=
 (aN (b6 3 (aS mC (a7 (a8 0) (a7 (a8 1) aG))))
 (aN (j6 (iR (aS eE (a7 (a8 0) (a7 (a8 1) aG)))) (gN 4) (k9 mC eE))
 (c6 (eC .non))))
theorem C5(P:ar)(w:bm)(mg:bi->Option ac)(base:cm){eE:Fn}(m:At K mg "falling" "falling" (top 18) ["sides", "floor", "spared"])(d_up:Def P w K mg base 4 "up" ["sides", "floor"] (low K mC))(uB:MonoF mC)(nE:Def P w K mg base 4 "flippable" ["sides", "floor"] (low K eE))(y9:MonoF eE)(len:∀ds Q,sp ds Q->ds.length=3)(hsp:∀ds Q,sp ds Q->rC mC eE ↥Q (aM ["sides", "floor", "spared", "ups", "three"] ds)):Def P w K mg base 5 "falling" ["sides", "floor", "spared"] (low K sp):=by
 have sc:FnScope ["sides", "floor", "spared", "ups", "three"] ["sides", "floor", "spared"] (aJ (top 18)):=by norm_cast
 refine m.okP (k:=4) (t:=rC mC eE) sc (λf cdv A outer s H E hr=>?_) len hsp
 ·
  have hu1:=eV hr;have hu65:=nM hr;exact(aE (bH (i:=3) sc.nd rfl (.inl rfl) (aT d_up uB (hr.mono ∅) (aD (a9 0 (pv 0)) (aD (a9 1 (pv 1)) aF))))
 (aE (gL cq rfl (e9 (aT nE y9 (hr.mono ∅) (aD (a9 0 (pv 0)) (aD (a9 1 (pv 1)) aF)))) (iN (i:=4) (k:=5) sc.nd rfl (.inl rfl)) (aK (eX (QW.qt (rK (b9 (Bk hu65 hu1) (a9 4 (pv 4)) (a9 3 (pv 3))) (qJ (b9 (i5 hu65 hu1) (a9 4 (pv 4)) (a9 2 (pv 2)))))) (aK (bE (a9 4 (pv 4)))) bJ)))
 (aK (bE wH))))
noncomputable abbrev tH(mC eN fM:Fn):bS:=
 (aN (b6 5 (aS eN (a7 (a8 0) (a7 (a8 1) (a7 (aS mC (a7 (a8 0) (a7 (a8 2) aG))) aG)))))
 (aN (jE (aU (aP DZ (a8 5) (eC .non))) (aN (b6 5 (aS eN (a7 (a8 0) (a7 (a8 2) (a7 (aS mC (a7 (a8 0) (a7 (a8 1) aG))) aG)))))
 (aN (jE (aU (aP u5 (a8 5) (eC .non))) (aN (mS 4 (a8 5))
 (aN (b6 2 (aS fM (a7 (a8 0) (a7 (a8 2) (a7 (a8 5) aG)))))
 CO)) bK)
 (b6 5 (aS eN (a7 (a8 0) (a7 (a8 1) (a7 (g7 aG) aG))))))) bK)
 (aN (mS 3 (a8 5))
 (b6 1 (aS fM (a7 (a8 0) (a7 (a8 1) (a7 (a8 5) aG))))))))
noncomputable abbrev Eg(mC eN fM:Fn):bS:=
 (aN (iM 3 (g7 aG))
 (aN (iM 4 (g7 aG))
 (aN (Er (aU (aP zH (a8 1) (a8 2))) (tH mC eN fM))
 (aN (kK 4)
 (c6 (aP dS (a8 3) (a8 4)))))))
theorem LG(P:ar)(w:bm)(mg:bi->Option ac)(base:cm){eN fM:Fn}(m:At K mg "way" "way" (top 19) ["sides", "one", "other"])(d_up:Def P w K mg base 4 "up" ["sides", "floor"] (low K mC))(uB:MonoF mC)(kS:Def P w K mg base 5 "falling" ["sides", "floor", "spared"] (low K eN))(pA:MonoF eN)(o4:Def P w K mg base 4 "flipped" ["sides", "floor", "three"] (low K fM))(uF:MonoF fM)(len:∀ds Q,sp ds Q->ds.length=3)(hsp:∀ds Q,sp ds Q->Eg mC eN fM ↥Q (aM ["sides", "one", "other", "there", "back", "three"] ds)):Def P w K mg base 6 "way" ["sides", "one", "other"] (low K sp):=by
 have sc:FnScope ["sides", "one", "other", "there", "back", "three"] ["sides", "one", "other"] (aJ (top 19)):=by norm_cast
 refine m.okP (k:=5) (t:=Eg mC eN fM) sc (λf cdv A outer s H E hr=>?_) len hsp
 ·
  have hu:=hr.units;exact(aE (hX (i:=3) sc.nd rfl (.inl rfl) (fW aF))
 (aE (hX (i:=4) sc.nd rfl (.inl rfl) (fW aF))
 (aE (HY cq (b9 (p5 hu) (a9 1 (pv 1)) (a9 2 (pv 2))) (aE (bH (i:=5) sc.nd rfl (.inl rfl) (aT kS pA (hr.mono ∅) (aD (a9 0 (pv 0)) (aD (a9 1 (pv 1)) (aD (aT d_up uB (hr.mono ∅) (aD (a9 0 (pv 0)) (aD (a9 2 (pv 2)) aF))) aF)))))
 (aE (eX (b9 Ca (a9 5 (pv 5)) wH) (aE (bH (i:=5) sc.nd rfl (.inl rfl) (aT kS pA (hr.mono ∅) (aD (a9 0 (pv 0)) (aD (a9 2 (pv 2)) (aD (aT d_up uB (hr.mono ∅) (aD (a9 0 (pv 0)) (aD (a9 1 (pv 1)) aF))) aF)))))
 (aE (eX (b9 AV (a9 5 (pv 5)) wH) (aE (qM (i:=4) (pv 4) (a9 5 (pv 5)))
 (aE (bH (i:=2) sc.nd rfl (.inl rfl) (aT o4 uF (hr.mono ∅) (aD (a9 0 (pv 0)) (aD (a9 2 (pv 2)) (aD (a9 5 (pv 5)) aF)))))
 (aK Bc))) bJ)
 (aK (bH (i:=5) sc.nd rfl (.inl rfl) (aT kS pA (hr.mono ∅) (aD (a9 0 (pv 0)) (aD (a9 1 (pv 1)) (aD (fW aF) aF)))))))) bJ)
 (aE (qM (i:=3) (pv 3) (a9 5 (pv 5)))
 (aK (bH (i:=1) sc.nd rfl (.inl rfl) (aT o4 uF (hr.mono ∅) (aD (a9 0 (pv 0)) (aD (a9 1 (pv 1)) (aD (a9 5 (pv 5)) aF))))))))))
 (aE (DM (i:=4) (pv 4))
 (aK (bE (bM bY (a9 3 (pv 3)) (a9 4 (pv 4)))))))))
noncomputable abbrev kC:bS:=
 (aN (jE (aU (aP zI (a8 1) (fR d9 (a7 (a8 0) aG)))) (c6 (aP bX (a8 0) (a8 1))) bK)
 (c6 (eC (.int 5))))
theorem uW(P:ar)(w:bm)(mg:bi->Option ac)(base:cm)(m:At K mg "_law_cell_at" "_law_cell_at" (top 35) ["_law_script", "_law_k"])(bA:mg "len" = aq)(len:∀ds Q,sp ds Q->ds.length=2)(hsp:∀ds Q,sp ds Q->kC  ↥Q (aM ["_law_script", "_law_k"] ds)):Def P w K mg base 1 "_law_cell_at" ["_law_script", "_law_k"] (low K sp):=by
 have sc:FnScope ["_law_script", "_law_k"] ["_law_script", "_law_k"] (aJ (top 35)):=by norm_cast
 refine m.okP (k:=0) (t:=kC ) sc (λf cdv A outer s H E hr=>?_) len hsp
 ·
  have hu1:=eV hr;exact(aE (eX (b9 mW (a9 1 (pv 1)) (aY bZ rfl bA dv (aD (a9 0 (pv 0)) aF))) (aK (bE (bU hu1 (a9 0 (pv 0)) (a9 1 (pv 1))))) bJ)
 (aK (bE aR)))
noncomputable abbrev mK:bS:=
 (c6 (uT (uS "int" (a8 0)) (As (uS "bool" (a8 0)))))
theorem yR(P:ar)(w:bm)(mg:bi->Option ac)(base:cm)(m:At K mg "_law_whole" "_law_whole" (top 36) ["_law_found"])(aX:mg "isinstance" = aq)(vX:mg "int" = aq)(r9:mg "bool" = aq)(len:∀ds Q,sp ds Q->ds.length=1)(hsp:∀ds Q,sp ds Q->mK  ↥Q (aM ["_law_found"] ds)):Def P w K mg base 1 "_law_whole" ["_law_found"] (low K sp):=by
 have sc:FnScope ["_law_found"] ["_law_found"] (aJ (top 36)):=by norm_cast
 refine m.okP (k:=0) (t:=mK ) sc (λf cdv A outer s H E hr=>?_) len hsp
 ·
  exact(aK (bE (CT (sE (.inl rfl) rfl aX (a9 0 (pv 0)) (jW (v:=.ty "int") rfl vX boot_int rfl)) (AA (JH (sE (.inr (.inl rfl)) rfl aX (a9 0 (pv 0)) (jW (v:=.ty "bool") rfl r9 boot_bool rfl)))))))
noncomputable abbrev nH(eD:Fn):bS:=
 (jE (n5 (n4 (aS eD (a7 (a8 1) aG)))) (c6 (eC (.bl ak))) bK)
noncomputable abbrev l9(eD:Fn):bS:=
 (aN (jE (n5 (n4 (uS "tuple" (a8 0)))) (c6 (eC (.bl ak))) bK)
 (aN (j6 (iR (a8 0)) (gN 1) (nH eD))
 (c6 (eC (.bl ai)))))
theorem vN(P:ar)(w:bm)(mg:bi->Option ac)(base:cm){eD:Fn}(m:At K mg "_law_wholes" "_law_wholes" (top 37) ["_law_found"])(aX:mg "isinstance" = aq)(cS:mg "tuple" = aq)(n9:Def P w K mg base 1 "_law_whole" ["_law_found"] (low K eD))(y6:MonoF eD)(len:∀ds Q,sp ds Q->ds.length=1)(hsp:∀ds Q,sp ds Q->l9 eD ↥Q (aM ["_law_found", "_law_number"] ds)):Def P w K mg base 2 "_law_wholes" ["_law_found"] (low K sp):=by
 have sc:FnScope ["_law_found", "_law_number"] ["_law_found"] (aJ (top 37)):=by norm_cast
 refine m.okP (k:=1) (t:=l9 eD) sc (λf cdv A outer s H E hr=>?_) len hsp
 ·
  exact(aE (eX (gK (hW (sE (.inr (.inr (.inl rfl))) rfl aX (a9 0 (pv 0)) (jW (v:=.ty "tuple") rfl cS sd rfl)))) (aK (bE oB)) bJ)
 (aE (gL cq rfl (e9 (a9 0 (pv 0))) (iN (i:=1) (k:=2) sc.nd rfl (.inl rfl)) (aK (eX (gK (hW (aT n9 y6 (hr.mono ∅) (aD (a9 1 (pv 1)) aF)))) (aK (bE oB)) bJ)))
 (aK (bE oB))))
noncomputable abbrev iJ:bS:=
 (aN (b6 6 (aP kN (aP kN (a8 1) (fR d9 (a7 (a8 4) aG))) (aP kN (aP kN (a8 2) (a8 5)) (eC (.int 1)))))
 (aN (b6 7 (aP dS (eC (.int 1)) (aP gZ (aP gZ (aP fQ (aP gZ (aP fQ (aP dS (a8 0) (aP fQ (eC (.int 31)) (a8 5))) (eC (.int 48271))) (eC (.int 2147483647))) (aP dS (aP fQ (a8 5) (a8 5)) (eC (.int 17)))) (eC (.int 99991))) (fR wM (a7 (a8 6) (a7 (eC (.int 3)) aG))))))
 (aN (jE (aU (aP Hz (a8 3) (eC (.int 1)))) (aN (b6 7 (aP dS (eC (.int 1)) (aP gZ (a8 3) (a8 6))))
 (b6 3 (aP mU (a8 3) (a8 6)))) bK)
 (b6 4 (aP dS (a8 4) (aP fQ (g7 (a7 (a8 5) aG)) (a8 7)))))))
noncomputable abbrev mN:bS:=
 (aN (b6 2 (aP dS (eC (.int 2)) (aP gZ (a8 0) (eC (.int 5)))))
 (aN (b6 3 (aP mU (a8 0) (eC (.int 5))))
 (aN (b6 4 (g7 aG))
 (aN (j6 (fX (a7 (a8 2) aG)) (gN 5) iJ)
 (c6 (a8 4))))))
theorem yU(P:ar)(w:bm)(mg:bi->Option ac)(base:cm)(m:At K mg "_law_bands" "_law_bands" (top 38) ["_law_cell", "_law_most"])(bO:mg "range" = aq)(bA:mg "len" = aq)(EQ:mg "min" = aq)(len:∀ds Q,sp ds Q->ds.length=2)(hsp:∀ds Q,sp ds Q->mN  ↥Q (aM ["_law_cell", "_law_most", "_law_kinds", "_law_rest", "_law_bands_here", "_law_k", "_law_spare", "_law_count"] ds)):Def P w K mg base 1 "_law_bands" ["_law_cell", "_law_most"] (low K sp):=by
 have sc:FnScope ["_law_cell", "_law_most", "_law_kinds", "_law_rest", "_law_bands_here", "_law_k", "_law_spare", "_law_count"] ["_law_cell", "_law_most"] (aJ (top 38)):=by norm_cast
 refine m.okP (k:=0) (t:=mN ) sc (λf cdv A outer s H E hr=>?_) len hsp
 ·
  exact(aE (bH (i:=2) sc.nd rfl (.inl rfl) (bM bY aR (bM fH (a9 0 (pv 0)) aR)))
 (aE (bH (i:=3) sc.nd rfl (.inl rfl) (bM nU (a9 0 (pv 0)) aR))
 (aE (bH (i:=4) sc.nd rfl (.inl rfl) (fW aF))
 (aE (gL cq rfl (hZ rfl bO (aD (a9 2 (pv 2)) aF)) (iN (i:=5) (k:=8) sc.nd rfl (.inl rfl)) (aE (bH (i:=6) sc.nd rfl (.inl rfl) (bM jX (bM jX (a9 1 (pv 1)) (aY bZ rfl bA dv (aD (a9 4 (pv 4)) aF))) (bM jX (bM jX (a9 2 (pv 2)) (a9 5 (pv 5))) aR)))
 (aE (bH (i:=7) sc.nd rfl (.inl rfl) (bM bY aR (bM fH (bM fH (bM dC (bM fH (bM dC (bM bY (a9 0 (pv 0)) (bM dC aR (a9 5 (pv 5)))) aR) aR) (bM bY (bM dC (a9 5 (pv 5)) (a9 5 (pv 5))) aR)) aR) (aY (Iz rfl) rfl EQ boot_min (aD (a9 6 (pv 6)) (aD aR aF))))))
 (aE (eX (b9 rP (a9 3 (pv 3)) aR) (aE (bH (i:=7) sc.nd rfl (.inl rfl) (bM bY aR (bM fH (a9 3 (pv 3)) (a9 6 (pv 6)))))
 (aK (bH (i:=3) sc.nd rfl (.inl rfl) (bM nU (a9 3 (pv 3)) (a9 6 (pv 6)))))) bJ)
 (aK (bH (i:=4) sc.nd rfl (.inl rfl) (bM bY (a9 4 (pv 4)) (bM dC (fW (aD (a9 5 (pv 5)) aF)) (a9 7 (pv 7))))))))))
 (aK (bE (a9 4 (pv 4))))))))
noncomputable abbrev oT:bS:=
 (c6 (aP gZ (aP gZ (aP fQ (aP gZ (aP fQ (aP dS (a8 0) (aP fQ (eC (.int 31)) (a8 1))) (eC (.int 48271))) (eC (.int 2147483647))) (aP dS (aP fQ (a8 1) (a8 1)) (eC (.int 17)))) (eC (.int 99991))) (a8 2)))
theorem Av(P:ar)(w:bm)(mg:bi->Option ac)(base:cm)(m:At K mg "_law_pick" "_law_pick" (top 39) ["_law_cell", "_law_step", "_law_many_here"])(len:∀ds Q,sp ds Q->ds.length=3)(hsp:∀ds Q,sp ds Q->oT  ↥Q (aM ["_law_cell", "_law_step", "_law_many_here"] ds)):Def P w K mg base 1 "_law_pick" ["_law_cell", "_law_step", "_law_many_here"] (low K sp):=by
 have sc:FnScope ["_law_cell", "_law_step", "_law_many_here"] ["_law_cell", "_law_step", "_law_many_here"] (aJ (top 39)):=by norm_cast
 refine m.okP (k:=0) (t:=oT ) sc (λf cdv A outer s H E hr=>?_) len hsp
 ·
  exact(aK (bE (bM fH (bM fH (bM dC (bM fH (bM dC (bM bY (a9 0 (pv 0)) (bM dC aR (a9 1 (pv 1)))) aR) aR) (bM bY (bM dC (a9 1 (pv 1)) (a9 1 (pv 1))) aR)) aR) (a9 2 (pv 2)))))
noncomputable abbrev iZ:bS:=
 (c6 (aP dS (aP dS (C2 (a8 0) iF (gC (a8 1))) (g7 (a7 (aP bX (a8 0) (aP dS (a8 1) (eC (.int 1)))) (a7 (aP bX (a8 0) (a8 1)) aG)))) (C2 (a8 0) (gC (aP dS (a8 1) (eC (.int 2)))) iF)))
theorem s9(P:ar)(w:bm)(mg:bi->Option ac)(base:cm)(m:At K mg "_law_exchanged" "_law_exchanged" (top 40) ["_law_path", "_law_p"])(len:∀ds Q,sp ds Q->ds.length=2)(hsp:∀ds Q,sp ds Q->iZ  ↥Q (aM ["_law_path", "_law_p"] ds)):Def P w K mg base 1 "_law_exchanged" ["_law_path", "_law_p"] (low K sp):=by
 have sc:FnScope ["_law_path", "_law_p"] ["_law_path", "_law_p"] (aJ (top 40)):=by norm_cast
 refine m.okP (k:=0) (t:=iZ ) sc (λf cdv A outer s H E hr=>?_) len hsp
 ·
  have hu1:=eV hr;exact(aK (bE (bM bY (bM bY (nO (a9 0 (pv 0)) t5 (jV (a9 1 (pv 1)))) (fW (aD (bU hu1 (a9 0 (pv 0)) (bM bY (a9 1 (pv 1)) aR)) (aD (bU hu1 (a9 0 (pv 0)) (a9 1 (pv 1))) aF)))) (nO (a9 0 (pv 0)) (jV (bM bY (a9 1 (pv 1)) aR)) t5))))
noncomputable abbrev k7(fB aV:Fn):bS:=
 (aN (b6 6 (aP kN (fR d9 (a7 (a8 2) aG)) (eC (.int 1))))
 (aN (b6 7 (fN 1 [0,2] (fX (a7 (a8 6) aG)) (gN 0) (aU (aP zI (aP bX (a8 1) (aP bX (a8 2) (a8 0))) (aP bX (a8 1) (aP bX (a8 2) (aP dS (a8 0) (eC (.int 1))))))) (a8 0)))
 (aN (jE (aU (aP qQ (a8 7) (g7 aG))) (c6 (a8 3)) bK)
 (aN (b6 8 (aS fB (a7 (a8 1) (a7 (a8 5) (a7 (fR d9 (a7 (a8 7) aG)) aG)))))
 (aN (jE (aU (aP Hz (a8 4) (eC (.int 1)))) (aN (b6 8 (aP gZ (a8 4) (fR d9 (a7 (a8 7) aG))))
 (b6 4 (aP mU (a8 4) (fR d9 (a7 (a8 7) aG))))) bK)
 (aN (mS 3 (aP bX (a8 7) (a8 8)))
 (b6 2 (aS aV (a7 (a8 2) (a7 (aP bX (a8 7) (a8 8)) aG))))))))))
noncomputable abbrev rA(fB aV:Fn):bS:=
 (aN (b6 2 (GZ (a7 (fR d9 (a7 (a8 0) aG)) aG)))
 (aN (iM 3 (g7 aG))
 (aN (b6 4 (a8 1))
 (aN (j6 (fX (a7 (aP fQ (fR d9 (a7 (a8 0) aG)) (fR d9 (a7 (a8 0) aG))) aG)) (gN 5) (k7 fB aV))
 (c6 (a8 3))))))
theorem C3(P:ar)(w:bm)(mg:bi->Option ac)(base:cm){fB:Fn}(m:At K mg "_law_row" "_law_row" (top 41) ["_law_bands_here", "_law_cell"])(bA:mg "len" = aq)(eF:mg "list" = aq)(bO:mg "range" = aq)(pK:Def P w K mg base 1 "_law_pick" ["_law_cell", "_law_step", "_law_many_here"] (low K fB))(Aa:MonoF fB)(dG:Def P w K mg base 1 "_law_exchanged" ["_law_path", "_law_p"] (low K aV))(i8:MonoF aV)(len:∀ds Q,sp ds Q->ds.length=2)(hsp:∀ds Q,sp ds Q->rA fB aV ↥Q (aM ["_law_bands_here", "_law_cell", "_law_path", "_law_row_here", "_law_rest", "_law_step", "_law_last", "_law_spots", "_law_pick_here"] ds)):Def P w K mg base 2 "_law_row" ["_law_bands_here", "_law_cell"] (low K sp):=by
 have sc:FnScope ["_law_bands_here", "_law_cell", "_law_path", "_law_row_here", "_law_rest", "_law_step", "_law_last", "_law_spots", "_law_pick_here"] ["_law_bands_here", "_law_cell"] (aJ (top 41)):=by norm_cast
 refine m.okP (k:=1) (t:=rA fB aV) sc (λf cdv A outer s H E hr=>?_) len hsp
 ·
  have hu:=hr.units;have hu1:=eV hr;exact(aE (bH (i:=2) sc.nd rfl (.inr rfl) (qK rfl rfl eF rfl bO (aD (aY bZ rfl bA dv (aD (a9 0 (pv 0)) aF)) aF)))
 (aE (hX (i:=3) sc.nd rfl (.inl rfl) (fW aF))
 (aE (bH (i:=4) sc.nd rfl (.inl rfl) (a9 1 (pv 1)))
 (aE (gL cq rfl (hZ rfl bO (aD (bM dC (aY bZ rfl bA dv (aD (a9 0 (pv 0)) aF)) (aY bZ rfl bA dv (aD (a9 0 (pv 0)) aF))) aF)) (iN (i:=5) (k:=9) sc.nd rfl (.inl rfl)) (aE (bH (i:=6) sc.nd rfl (.inl rfl) (bM jX (aY bZ rfl bA dv (aD (a9 2 (pv 2)) aF)) aR))
 (aE (Ey (JI (iy:=7) ["_law_p"] ["_law_bands_here", "_law_path"] [0,2] sc.nd rfl (.inl rfl) rfl (hZ rfl bO (aD (a9 6 (pv 6)) aF)) (λfp s H=>(iN (i:=0) (k:=1) (show jw (["_law_p", "_law_bands_here", "_law_path"]:List bi) by decide +kernel) rfl (.inl rfl))) (λfp s H=>(jU (b9 mW (bU hu1 (a9 1 (pv 1)) (bU hu1 (a9 2 (pv 2)) (a9 0 (pv 0)))) (bU hu1 (a9 1 (pv 1)) (bU hu1 (a9 2 (pv 2)) (bM bY (a9 0 (pv 0)) aR)))))) (λfp s H=>(a9 0 (pv 0)))))
 (aE (eX (b9 (jI hu) (a9 7 (pv 7)) (fW aF)) (aK (bE (a9 3 (pv 3)))) bJ)
 (aE (bH (i:=8) sc.nd rfl (.inl rfl) (aT pK Aa (hr.mono ∅) (aD (a9 1 (pv 1)) (aD (a9 5 (pv 5)) (aD (aY bZ rfl bA dv (aD (a9 7 (pv 7)) aF)) aF)))))
 (aE (eX (b9 rP (a9 4 (pv 4)) aR) (aE (bH (i:=8) sc.nd rfl (.inl rfl) (bM fH (a9 4 (pv 4)) (aY bZ rfl bA dv (aD (a9 7 (pv 7)) aF))))
 (aK (bH (i:=4) sc.nd rfl (.inl rfl) (bM nU (a9 4 (pv 4)) (aY bZ rfl bA dv (aD (a9 7 (pv 7)) aF)))))) bJ)
 (aE (qM (i:=3) (pv 3) (bU hu1 (a9 7 (pv 7)) (a9 8 (pv 8))))
 (aK (bH (i:=2) sc.nd rfl (.inr rfl) (aT dG i8 (hr.mono ∅) (aD (a9 2 (pv 2)) (aD (bU hu1 (a9 7 (pv 7)) (a9 8 (pv 8))) aF))))))))))))
 (aK (bE (a9 3 (pv 3))))))))
noncomputable abbrev iI(aV:Fn):bS:=
 (aN (mS 3 (bQ (a7 (aP bX (a8 2) (a8 4)) (a7 (aP bX (a8 2) (aP dS (a8 4) (eC (.int 1)))) (a7 (fR jH (a7 (fR gM (a7 (C2 (a8 2) iF (gC (a8 4))) aG)) aG)) aG)))))
 (b6 2 (aS aV (a7 (a8 2) (a7 (a8 4) aG)))))
noncomputable abbrev mM(aV:Fn):bS:=
 (aN (b6 2 (GZ (a7 (fR d9 (a7 (a8 0) aG)) aG)))
 (aN (iM 3 (g7 aG))
 (aN (j6 (iR (a8 1)) (gN 4) (iI aV))
 (c6 (fR gM (a7 (a8 3) aG))))))
theorem yT(P:ar)(w:bm)(mg:bi->Option ac)(base:cm)(m:At K mg "_law_floor" "_law_floor" (top 42) ["_law_bands_here", "_law_row_here"])(bA:mg "len" = aq)(eF:mg "list" = aq)(bO:mg "range" = aq)(dZ:mg "sorted" = aq)(cS:mg "tuple" = aq)(dG:Def P w K mg base 1 "_law_exchanged" ["_law_path", "_law_p"] (low K aV))(i8:MonoF aV)(len:∀ds Q,sp ds Q->ds.length=2)(hsp:∀ds Q,sp ds Q->mM aV ↥Q (aM ["_law_bands_here", "_law_row_here", "_law_path", "_law_tiles", "_law_p"] ds)):Def P w K mg base 2 "_law_floor" ["_law_bands_here", "_law_row_here"] (low K sp):=by
 have sc:FnScope ["_law_bands_here", "_law_row_here", "_law_path", "_law_tiles", "_law_p"] ["_law_bands_here", "_law_row_here"] (aJ (top 42)):=by norm_cast
 refine m.okP (k:=1) (t:=mM aV) sc (λf cdv A outer s H E hr=>?_) len hsp
 ·
  have hu1:=eV hr;exact(aE (bH (i:=2) sc.nd rfl (.inl rfl) (qK rfl rfl eF rfl bO (aD (aY bZ rfl bA dv (aD (a9 0 (pv 0)) aF)) aF)))
 (aE (hX (i:=3) sc.nd rfl (.inl rfl) (fW aF))
 (aE (gL cq rfl (e9 (a9 1 (pv 1))) (iN (i:=4) (k:=5) sc.nd rfl (.inl rfl)) (aE (qM (i:=3) (pv 3) (cC (aD (bU hu1 (a9 2 (pv 2)) (a9 4 (pv 4))) (aD (bU hu1 (a9 2 (pv 2)) (bM bY (a9 4 (pv 4)) aR)) (aD (iO nF rfl cS sd (aD (aY o5 rfl dZ vb (aD (nO (a9 2 (pv 2)) t5 (jV (a9 4 (pv 4)))) aF)) aF)) aF)))))
 (aK (bH (i:=2) sc.nd rfl (.inl rfl) (aT dG i8 (hr.mono ∅) (aD (a9 2 (pv 2)) (aD (a9 4 (pv 4)) aF)))))))
 (aK (bE (aY o5 rfl dZ vb (aD (a9 3 (pv 3)) aF)))))))
noncomputable abbrev oU:bS:=
 (c6 (fR d9 (a7 (fN 1 [1] (iR (a8 0)) (gN 0) (aU (aP qQ (a8 0) (a8 1))) (a8 0)) aG)))
theorem Aw(P:ar)(w:bm)(mg:bi->Option ac)(base:cm)(m:At K mg "_law_many" "_law_many" (top 43) ["_law_bands_here", "_law_kind"])(bA:mg "len" = aq)(len:∀ds Q,sp ds Q->ds.length=2)(hsp:∀ds Q,sp ds Q->oU  ↥Q (aM ["_law_bands_here", "_law_kind"] ds)):Def P w K mg base 1 "_law_many" ["_law_bands_here", "_law_kind"] (low K sp):=by
 have sc:FnScope ["_law_bands_here", "_law_kind"] ["_law_bands_here", "_law_kind"] (aJ (top 43)):=by norm_cast
 refine m.okP (k:=0) (t:=oU ) sc (λf cdv A outer s H E hr=>?_) len hsp
 ·
  have hu:=hr.units;exact(aK (bE (aY bZ rfl bA dv (aD (vE ["_law_band"] ["_law_kind"] [1] rfl (e9 (a9 0 (pv 0))) (λfp s H=>(iN (i:=0) (k:=1) (show jw (["_law_band", "_law_kind"]:List bi) by decide +kernel) rfl (.inl rfl))) (λfp s H=>(jU (b9 (jI hu) (a9 0 (pv 0)) (a9 1 (pv 1))))) (λfp s H=>(a9 0 (pv 0)))) aF))))
noncomputable abbrev mL(iA o6:Fn):bS:=
 (c6 (Cq o6 (a7 (fN 1 [0] (fX (a7 (aP dS (aP bX (a8 0) (vM (eC (.int 1)))) (eC (.int 1))) aG)) (gN 0) lX (bQ (a7 (aP kN (eC (.int 6)) (aP fQ (eC (.int 2)) (a8 0))) (a7 (eC (.int 1)) (a7 (aS iA (a7 (a8 1) (a7 (a8 0) aG))) aG))))) aG)))
theorem yS(P:ar)(w:bm)(mg:bi->Option ac)(base:cm){iA o6:Fn}(m:At K mg "_law_sides" "_law_sides" (top 44) ["_law_bands_here"])(bO:mg "range" = aq)(pL:Def P w K mg base 1 "_law_many" ["_law_bands_here", "_law_kind"] (low K iA))(Ab:MonoF iA)(yX:IDef P w K mg base 5 "Sides" C ["self", "directions"] o6)(Fq:MonoF o6)(len:∀ds Q,sp ds Q->ds.length=1)(hsp:∀ds Q,sp ds Q->mL iA o6 ↥Q (aM ["_law_bands_here"] ds)):Def P w K mg base 7 "_law_sides" ["_law_bands_here"] (low K sp):=by
 have sc:FnScope ["_law_bands_here"] ["_law_bands_here"] (aJ (top 44)):=by norm_cast
 refine m.okP (k:=6) (t:=mL iA o6) sc (λf cdv A outer s H E hr=>?_) len hsp
 ·
  have hu1:=eV hr;exact(aK (bE (Jt yX Fq (hr.mono ∅) (aD (vE ["_law_k"] ["_law_bands_here"] [0] rfl (hZ rfl bO (aD (bM bY (bU hu1 (a9 0 (pv 0)) (AB aR)) aR) aF)) (λfp s H=>(iN (i:=0) (k:=1) (show jw (["_law_k", "_law_bands_here"]:List bi) by decide +kernel) rfl (.inl rfl))) (λfp s H=>sZ) (λfp s H=>(cC (aD (bM jX aR (bM dC aR (a9 0 (pv 0)))) (aD aR (aD (aT pL Ab (hr.mono ∅) (aD (a9 1 (pv 1)) (aD (a9 0 (pv 0)) aF))) aF)))))) aF))))
noncomputable abbrev nI:bS:=
 (aN (b6 3 (aP mU (a8 2) (aP fQ (fR d9 (a7 (a8 0) aG)) (fR d9 (a7 (a8 0) aG)))))
 (aN (b6 4 (aP gZ (aP mU (a8 2) (fR d9 (a7 (a8 0) aG))) (fR d9 (a7 (a8 0) aG))))
 (aN (b6 5 (aP gZ (a8 2) (fR d9 (a7 (a8 0) aG))))
 (jE (qW (aU (lP zI zI (a8 3) (a8 4) (a8 5))) (qW (aU (aP zI (aP bX (a8 0) (a8 3)) (aP bX (a8 0) (a8 4)))) (aU (aP zI (aP bX (a8 0) (a8 4)) (aP bX (a8 0) (a8 5)))))) (mS 1 (bQ (a7 (a8 3) (a7 (a8 4) (a7 (a8 5) aG))))) bK))))
noncomputable abbrev lC:bS:=
 (aN (iM 1 (g7 aG))
 (aN (j6 (fX (a7 (aP fQ (aP fQ (fR d9 (a7 (a8 0) aG)) (fR d9 (a7 (a8 0) aG))) (fR d9 (a7 (a8 0) aG))) aG)) (gN 2) nI)
 (c6 (a8 1))))
theorem vQ(P:ar)(w:bm)(mg:bi->Option ac)(base:cm)(m:At K mg "_law_threes" "_law_threes" (top 45) ["_law_bands_here"])(bA:mg "len" = aq)(bO:mg "range" = aq)(len:∀ds Q,sp ds Q->ds.length=1)(hsp:∀ds Q,sp ds Q->lC  ↥Q (aM ["_law_bands_here", "_law_found", "_law_k", "_law_a", "_law_b", "_law_c"] ds)):Def P w K mg base 1 "_law_threes" ["_law_bands_here"] (low K sp):=by
 have sc:FnScope ["_law_bands_here", "_law_found", "_law_k", "_law_a", "_law_b", "_law_c"] ["_law_bands_here"] (aJ (top 45)):=by norm_cast
 refine m.okP (k:=0) (t:=lC ) sc (λf cdv A outer s H E hr=>?_) len hsp
 ·
  have hu1:=eV hr;exact(aE (hX (i:=1) sc.nd rfl (.inl rfl) (fW aF))
 (aE (gL cq rfl (hZ rfl bO (aD (bM dC (bM dC (aY bZ rfl bA dv (aD (a9 0 (pv 0)) aF)) (aY bZ rfl bA dv (aD (a9 0 (pv 0)) aF))) (aY bZ rfl bA dv (aD (a9 0 (pv 0)) aF))) aF)) (iN (i:=2) (k:=6) sc.nd rfl (.inl rfl)) (aE (bH (i:=3) sc.nd rfl (.inl rfl) (bM nU (a9 2 (pv 2)) (bM dC (aY bZ rfl bA dv (aD (a9 0 (pv 0)) aF)) (aY bZ rfl bA dv (aD (a9 0 (pv 0)) aF)))))
 (aE (bH (i:=4) sc.nd rfl (.inl rfl) (bM fH (bM nU (a9 2 (pv 2)) (aY bZ rfl bA dv (aD (a9 0 (pv 0)) aF))) (aY bZ rfl bA dv (aD (a9 0 (pv 0)) aF))))
 (aE (bH (i:=5) sc.nd rfl (.inl rfl) (bM fH (a9 2 (pv 2)) (aY bZ rfl bA dv (aD (a9 0 (pv 0)) aF))))
 (aK (eX (QW.qt (rK (A9 Fa Fa (a9 3 (pv 3)) (a9 4 (pv 4)) (a9 5 (pv 5))) (rK (b9 mW (bU hu1 (a9 0 (pv 0)) (a9 3 (pv 3))) (bU hu1 (a9 0 (pv 0)) (a9 4 (pv 4)))) (qJ (b9 mW (bU hu1 (a9 0 (pv 0)) (a9 4 (pv 4))) (bU hu1 (a9 0 (pv 0)) (a9 5 (pv 5)))))))) (aK (qM (i:=1) (pv 1) (cC (aD (a9 3 (pv 3)) (aD (a9 4 (pv 4)) (aD (a9 5 (pv 5)) aF)))))) bJ))))))
 (aK (bE (a9 1 (pv 1))))))
noncomputable abbrev v7:bS:=
 (lH 1 (bQ (a7 (a8 2) (a7 (a8 3) aG))) (a8 4))
noncomputable abbrev lD:bS:=
 (aN (iM 1 NU)
 (aN (j6 (iR (a8 0)) (gT [2,3,4]) v7)
 (c6 (a8 1))))
theorem vR(P:ar)(w:bm)(mg:bi->Option ac)(base:cm)(m:At K mg "_law_belows" "_law_belows" (top 46) ["_law_tiles"])(len:∀ds Q,sp ds Q->ds.length=1)(hsp:∀ds Q,sp ds Q->lD  ↥Q (aM ["_law_tiles", "_law_belows_here", "_law_a", "_law_b", "_law_below"] ds)):Def P w K mg base 1 "_law_belows" ["_law_tiles"] (low K sp):=by
 have sc:FnScope ["_law_tiles", "_law_belows_here", "_law_a", "_law_b", "_law_below"] ["_law_tiles"] (aJ (top 46)):=by norm_cast
 refine m.okP (k:=0) (t:=lD ) sc (λf cdv A outer s H E hr=>?_) len hsp
 ·
  have hu1:=eV hr;exact(aE (hX (i:=1) sc.nd rfl (.inl rfl) CQ)
 (aE (gL cq rfl (e9 (a9 0 (pv 0))) (DN (k:=5) (is:=[2,3,4]) rfl (d7 (dW (i:=2) sc.nd rfl (.inl rfl)) (d7 (dW (i:=3) sc.nd rfl (.inl rfl)) (d7 (dW (i:=4) sc.nd rfl (.inl rfl)) nR)))) (aK (sD hu1 (i:=1) (pv 1) (cC (aD (a9 2 (pv 2)) (aD (a9 3 (pv 3)) aF))) (a9 4 (pv 4)))))
 (aK (bE (a9 1 (pv 1))))))
noncomputable abbrev tN(bB bF:Fn):bS:=
 (aN (b6 2 (aS bB (a7 (a8 1) aG)))
 (c6 (fN 1 [2] (iR (aS bF (a7 (a8 0) aG))) (gN 0) (aU (aP Hy (aP bX (a8 0) (eC (.int 1))) (aP bX (a8 1) (bQ (a7 (aP bX (a8 0) (eC (.int 0))) (a7 (aP bX (a8 0) (eC (.int 2))) aG)))))) (a8 0))))
theorem E8(P:ar)(w:bm)(mg:bi->Option ac)(base:cm)(m:At K mg "_law_up" "_law_up" (top 47) ["_law_bands_here", "_law_tiles"])(eI:Def P w K mg base 1 "_law_belows" ["_law_tiles"] (low K bB))(iE:MonoF bB)(fK:Def P w K mg base 1 "_law_threes" ["_law_bands_here"] (low K bF))(kE:MonoF bF)(len:∀ds Q,sp ds Q->ds.length=2)(hsp:∀ds Q,sp ds Q->tN bB bF ↥Q (aM ["_law_bands_here", "_law_tiles", "_law_belows_here"] ds)):Def P w K mg base 2 "_law_up" ["_law_bands_here", "_law_tiles"] (low K sp):=by
 have sc:FnScope ["_law_bands_here", "_law_tiles", "_law_belows_here"] ["_law_bands_here", "_law_tiles"] (aJ (top 47)):=by norm_cast
 refine m.okP (k:=1) (t:=tN bB bF) sc (λf cdv A outer s H E hr=>?_) len hsp
 ·
  have hu1:=eV hr;have hu65:=nM hr;exact(aE (bH (i:=2) sc.nd rfl (.inr rfl) (aT eI iE (hr.mono ∅) (aD (a9 1 (pv 1)) aF)))
 (aK (bE (vE ["_law_three"] ["_law_belows_here"] [2] rfl (e9 (aT fK kE (hr.mono ∅) (aD (a9 0 (pv 0)) aF))) (λfp s H=>(iN (i:=0) (k:=1) (show jw (["_law_three", "_law_belows_here"]:List bi) by decide +kernel) rfl (.inl rfl))) (λfp s H=>(jU (b9 (Bk hu65 hu1) (bU hu1 (a9 0 (pv 0)) aR) (bU hu1 (a9 1 (pv 1)) (cC (aD (bU hu1 (a9 0 (pv 0)) aR) (aD (bU hu1 (a9 0 (pv 0)) aR) aF))))))) (λfp s H=>(a9 0 (pv 0)))))))
noncomputable abbrev eW(dM:Fn):bS:=
 (jE (HD (n5 (n4 (aS dM (a7 (a8 1) aG)))) (aU (aP zH (fR d9 (a7 (a8 1) aG)) (eC (.int 3))))) (c6 (eC (.bl ak))) bK)
noncomputable abbrev iY(dM:Fn):bS:=
 (aN (jE (n5 (n4 (uS "list" (a8 0)))) (c6 (eC (.bl ak))) bK)
 (aN (j6 (iR (a8 0)) (gN 1) (eW dM))
 (c6 (eC (.bl ai)))))
theorem rZ(P:ar)(w:bm)(mg:bi->Option ac)(base:cm){dM:Fn}(m:At K mg "_law_is_threes" "_law_is_threes" (top 48) ["_law_found"])(aX:mg "isinstance" = aq)(eF:mg "list" = aq)(bA:mg "len" = aq)(lQ:Def P w K mg base 2 "_law_wholes" ["_law_found"] (low K dM))(vI:MonoF dM)(len:∀ds Q,sp ds Q->ds.length=1)(hsp:∀ds Q,sp ds Q->iY dM ↥Q (aM ["_law_found", "_law_three"] ds)):Def P w K mg base 3 "_law_is_threes" ["_law_found"] (low K sp):=by
 have sc:FnScope ["_law_found", "_law_three"] ["_law_found"] (aJ (top 48)):=by norm_cast
 refine m.okP (k:=2) (t:=iY dM) sc (λf cdv A outer s H E hr=>?_) len hsp
 ·
  have hu:=hr.units;exact(aE (eX (gK (hW (sE (.inr (.inr (.inr (.inl rfl)))) rfl aX (a9 0 (pv 0)) (jW (v:=.ty "list") rfl eF vm rfl)))) (aK (bE oB)) bJ)
 (aE (gL cq rfl (e9 (a9 0 (pv 0))) (iN (i:=1) (k:=2) sc.nd rfl (.inl rfl)) (aK (eX (QW.qt (A8 (gK (hW (aT lQ vI (hr.mono ∅) (aD (a9 1 (pv 1)) aF)))) (xO (b9 (p5 hu) (aY bZ rfl bA dv (aD (a9 1 (pv 1)) aF)) aR)))) (aK (bE oB)) bJ)))
 (aK (bE oB))))
noncomputable abbrev oS:bS:=
 (c6 (fR jH (a7 (fR gM (a7 (aP dS (fR sF (a7 (a8 0) aG)) (g7 (a7 (a8 1) aG))) aG)) aG)))
theorem Au(P:ar)(w:bm)(mg:bi->Option ac)(base:cm)(m:At K mg "_law_with" "_law_with" (top 49) ["_law_below", "_law_band"])(eF:mg "list" = aq)(dZ:mg "sorted" = aq)(cS:mg "tuple" = aq)(len:∀ds Q,sp ds Q->ds.length=2)(hsp:∀ds Q,sp ds Q->oS  ↥Q (aM ["_law_below", "_law_band"] ds)):Def P w K mg base 1 "_law_with" ["_law_below", "_law_band"] (low K sp):=by
 have sc:FnScope ["_law_below", "_law_band"] ["_law_below", "_law_band"] (aJ (top 49)):=by norm_cast
 refine m.okP (k:=0) (t:=oS ) sc (λf cdv A outer s H E hr=>?_) len hsp
 ·
  exact(aK (bE (iO nF rfl cS sd (aD (aY o5 rfl dZ vb (aD (bM bY (iO yZ rfl eF vm (aD (a9 0 (pv 0)) aF)) (fW (aD (a9 1 (pv 1)) aF))) aF)) aF))))
noncomputable abbrev kB(dA:Fn):bS:=
 (aN (Eu (a8 1) (gT [2,3,4]))
 (aN (b6 5 (aP bX (a8 0) (bQ (a7 (a8 2) (a7 (a8 3) aG)))))
 (aN (b6 6 (aP bX (a8 0) (bQ (a7 (a8 2) (a7 (a8 4) aG)))))
 (aN (jE (qW (aU (aP qQ (aP bX (a8 0) (bQ (a7 (a8 3) (a7 (a8 4) aG)))) (a8 5))) (aU (aP qQ (a8 6) (aS dA (a7 (a8 5) (a7 (a8 3) aG)))))) (aN (lH 0 (bQ (a7 (a8 2) (a7 (a8 3) aG))) (aS dA (a7 (a8 5) (a7 (a8 4) aG))))
 (aN (lH 0 (bQ (a7 (a8 2) (a7 (a8 4) aG))) (a8 5))
 (aN (lH 0 (bQ (a7 (a8 3) (a7 (a8 4) aG))) (aS dA (a7 (a8 5) (a7 (a8 2) aG))))
 (qG (eC (.bl ai)))))) bK)
 (aN (jE (qW (aU (aP qQ (a8 5) (aS dA (a7 (a8 6) (a7 (a8 4) aG))))) (aU (aP qQ (aP bX (a8 0) (bQ (a7 (a8 3) (a7 (a8 4) aG)))) (aS dA (a7 (a8 6) (a7 (a8 2) aG)))))) (aN (lH 0 (bQ (a7 (a8 2) (a7 (a8 3) aG))) (a8 6))
 (aN (lH 0 (bQ (a7 (a8 2) (a7 (a8 4) aG))) (aS dA (a7 (a8 6) (a7 (a8 3) aG))))
 (aN (lH 0 (bQ (a7 (a8 3) (a7 (a8 4) aG))) (a8 6))
 (qG (eC (.bl ai)))))) bK)
 (qG (eC (.bl ak))))))))
theorem uV(P:ar)(w:bm)(mg:bi->Option ac)(base:cm){dA:Fn}{sp:HG}(m:At K mg "_law_flipped" "_law_flipped" (top 50) ["_law_belows_here", "_law_three"])(f7:Def P w K mg base 1 "_law_with" ["_law_below", "_law_band"] (low K dA))(gA:MonoF dA)(len:∀ds Q,sp ds Q->ds.length=2)(hsp:∀ds Q,sp ds Q -> ∀a,kB dA { nx:=λ_=>False,rt:=λ_=>False,rw:=λb ρ=>∃d,ρ[0]?=aa (.own a d)/\Q b d } (jF a ["_law_belows_here", "_law_three", "_law_a", "_law_b", "_law_c", "_law_one", "_law_two"] ds)):Def P w K mg base 2 "_law_flipped" ["_law_belows_here", "_law_three"] (IN K sp):=by
 have sc:FnScope ["_law_belows_here", "_law_three", "_law_a", "_law_b", "_law_c", "_law_one", "_law_two"] ["_law_belows_here", "_law_three"] (aJ (top 50)):=by norm_cast
 refine m.okW (k:=1) (t:=kB dA) sc (λf cdv A outer s H E hr=>?_) len hsp
 ·
  have hu:=hr.units;have hu1:=eV hr;exact(aE (MV (a9 1 (pv 1)) (DN (k:=7) (is:=[2,3,4]) rfl (d7 (dW (i:=2) sc.nd rfl (.inl rfl)) (d7 (dW (i:=3) sc.nd rfl (.inl rfl)) (d7 (dW (i:=4) sc.nd rfl (.inl rfl)) nR)))))
 (aE (bH (i:=5) sc.nd rfl (.inl rfl) (bU hu1 (a9 0 (pv 0)) (cC (aD (a9 2 (pv 2)) (aD (a9 3 (pv 3)) aF)))))
 (aE (bH (i:=6) sc.nd rfl (.inl rfl) (bU hu1 (a9 0 (pv 0)) (cC (aD (a9 2 (pv 2)) (aD (a9 4 (pv 4)) aF)))))
 (aE (eX (QW.qt (rK (b9 (jI hu) (bU hu1 (a9 0 (pv 0)) (cC (aD (a9 3 (pv 3)) (aD (a9 4 (pv 4)) aF)))) (a9 5 (pv 5))) (qJ (b9 (jI hu) (a9 6 (pv 6)) (aT f7 gA (hr.mono ∅) (aD (a9 5 (pv 5)) (aD (a9 3 (pv 3)) aF))))))) (aE (sD hu1 (i:=0) (pv 0) (cC (aD (a9 2 (pv 2)) (aD (a9 3 (pv 3)) aF))) (aT f7 gA (hr.mono ∅) (aD (a9 5 (pv 5)) (aD (a9 4 (pv 4)) aF))))
 (aE (sD hu1 (i:=0) (pv 0) (cC (aD (a9 2 (pv 2)) (aD (a9 4 (pv 4)) aF))) (a9 5 (pv 5)))
 (aE (sD hu1 (i:=0) (pv 0) (cC (aD (a9 3 (pv 3)) (aD (a9 4 (pv 4)) aF))) (aT f7 gA (hr.mono ∅) (aD (a9 5 (pv 5)) (aD (a9 2 (pv 2)) aF))))
 (aK (Bb oB))))) bJ)
 (aE (eX (QW.qt (rK (b9 (jI hu) (a9 5 (pv 5)) (aT f7 gA (hr.mono ∅) (aD (a9 6 (pv 6)) (aD (a9 4 (pv 4)) aF)))) (qJ (b9 (jI hu) (bU hu1 (a9 0 (pv 0)) (cC (aD (a9 3 (pv 3)) (aD (a9 4 (pv 4)) aF)))) (aT f7 gA (hr.mono ∅) (aD (a9 6 (pv 6)) (aD (a9 2 (pv 2)) aF))))))) (aE (sD hu1 (i:=0) (pv 0) (cC (aD (a9 2 (pv 2)) (aD (a9 3 (pv 3)) aF))) (a9 6 (pv 6)))
 (aE (sD hu1 (i:=0) (pv 0) (cC (aD (a9 2 (pv 2)) (aD (a9 4 (pv 4)) aF))) (aT f7 gA (hr.mono ∅) (aD (a9 6 (pv 6)) (aD (a9 3 (pv 3)) aF))))
 (aE (sD hu1 (i:=0) (pv 0) (cC (aD (a9 3 (pv 3)) (aD (a9 4 (pv 4)) aF))) (a9 6 (pv 6)))
 (aK (Bb oB))))) bJ)
 (aK (Bb oB)))))))
noncomputable abbrev lB(cN:Fn):bS:=
 (aN (b6 3 (aS cN (a7 (a8 0) (a7 (a8 1) aG))))
 (aN (b6 4 (aS cN (a7 (a8 0) (a7 (a8 2) aG))))
 (c6 (aP dS (fR d9 (a7 (fN 1 [4] (iR (a8 3)) (gN 0) (aU (aP d8 (a8 0) (a8 1))) (a8 0)) aG)) (fR d9 (a7 (fN 1 [3] (iR (a8 4)) (gN 0) (aU (aP d8 (a8 0) (a8 1))) (a8 0)) aG))))))
theorem vP(P:ar)(w:bm)(mg:bi->Option ac)(base:cm)(m:At K mg "_law_unlike" "_law_unlike" (top 51) ["_law_bands_here", "_law_one", "_law_other"])(bA:mg "len" = aq)(iS:Def P w K mg base 2 "_law_up" ["_law_bands_here", "_law_tiles"] (low K cN))(kP:MonoF cN)(len:∀ds Q,sp ds Q->ds.length=3)(hsp:∀ds Q,sp ds Q->lB cN ↥Q (aM ["_law_bands_here", "_law_one", "_law_other", "_law_here", "_law_there"] ds)):Def P w K mg base 3 "_law_unlike" ["_law_bands_here", "_law_one", "_law_other"] (low K sp):=by
 have sc:FnScope ["_law_bands_here", "_law_one", "_law_other", "_law_here", "_law_there"] ["_law_bands_here", "_law_one", "_law_other"] (aJ (top 51)):=by norm_cast
 refine m.okP (k:=2) (t:=lB cN) sc (λf cdv A outer s H E hr=>?_) len hsp
 ·
  have hu1:=eV hr;have hu65:=nM hr;exact(aE (bH (i:=3) sc.nd rfl (.inr rfl) (aT iS kP (hr.mono ∅) (aD (a9 0 (pv 0)) (aD (a9 1 (pv 1)) aF))))
 (aE (bH (i:=4) sc.nd rfl (.inr rfl) (aT iS kP (hr.mono ∅) (aD (a9 0 (pv 0)) (aD (a9 2 (pv 2)) aF))))
 (aK (bE (bM bY (aY bZ rfl bA dv (aD (vE ["_law_three"] ["_law_there"] [4] rfl (e9 (a9 3 (pv 3))) (λfp s H=>(iN (i:=0) (k:=1) (show jw (["_law_three", "_law_there"]:List bi) by decide +kernel) rfl (.inl rfl))) (λfp s H=>(jU (b9 (i5 hu65 hu1) (a9 0 (pv 0)) (a9 1 (pv 1))))) (λfp s H=>(a9 0 (pv 0)))) aF)) (aY bZ rfl bA dv (aD (vE ["_law_three"] ["_law_here"] [3] rfl (e9 (a9 4 (pv 4))) (λfp s H=>(iN (i:=0) (k:=1) (show jw (["_law_three", "_law_here"]:List bi) by decide +kernel) rfl (.inl rfl))) (λfp s H=>(jU (b9 (i5 hu65 hu1) (a9 0 (pv 0)) (a9 1 (pv 1))))) (λfp s H=>(a9 0 (pv 0)))) aF)))))))
noncomputable abbrev gX(cD bB bF:Fn)(cY:HG)(dO cN:Fn):bS:=
 (Jq 4 (aU (aP d8 (a8 6) (a8 5))) cY (a7 (a8 4) (a7 (a8 6) aG)) (c6 (eC (.bl ak))))
noncomputable abbrev lA(cD bB bF:Fn)(cY:HG)(dO cN:Fn):bS:=
 (aN (jE (n5 (n4 (aS cD (a7 (a8 3) aG)))) (c6 (eC (.bl ak))) bK)
 (aN (iM 4 (aS bB (a7 (a8 1) aG)))
 (aN (b6 5 (aS bF (a7 (a8 0) aG)))
 (aN (j6 (iR (a8 3)) (gN 6) (gX cD bB bF cY dO cN))
 (aN (jE (aU (aP FV (a8 4) (aS bB (a7 (a8 2) aG)))) (c6 (eC (.bl ak))) bK)
 (aN (b6 7 (aS dO (a7 (a8 0) (a7 (a8 1) (a7 (a8 2) aG)))))
 (aN (jE (aU (aP zI (aP bX (a8 0) (vM (eC (.int 1)))) (eC (.int 3)))) (c6 (aP qQ (fR d9 (a7 (a8 3) aG)) (a8 7))) bK)
 (c6 (lP KP KP (a8 7) (fR d9 (a7 (a8 3) aG)) (aP dS (fR d9 (a7 (aS cN (a7 (a8 0) (a7 (a8 1) aG))) aG)) (fR d9 (a7 (aS cN (a7 (a8 0) (a7 (a8 2) aG))) aG))))))))))))
theorem vO(P:ar)(w:bm)(mg:bi->Option ac)(base:cm){cD:Fn}{cY:HG}{dO:Fn}(m:At K mg "_law_walked" "_law_walked" (top 52) ["_law_bands_here", "_law_one", "_law_other", "_law_flips"])(bA:mg "len" = aq)(j3:Def P w K mg base 3 "_law_is_threes" ["_law_found"] (low K cD))(rR:MonoF cD)(eI:Def P w K mg base 1 "_law_belows" ["_law_tiles"] (low K bB))(iE:MonoF bB)(fK:Def P w K mg base 1 "_law_threes" ["_law_bands_here"] (low K bF))(kE:MonoF bF)(kG:Def P w K mg base 2 "_law_flipped" ["_law_belows_here", "_law_three"] (IN K cY))(uD:MonoW cY)(lR:Def P w K mg base 3 "_law_unlike" ["_law_bands_here", "_law_one", "_law_other"] (low K dO))(vJ:MonoF dO)(iS:Def P w K mg base 2 "_law_up" ["_law_bands_here", "_law_tiles"] (low K cN))(kP:MonoF cN)(len:∀ds Q,sp ds Q->ds.length=4)(hsp:∀ds Q,sp ds Q->lA cD bB bF cY dO cN ↥Q (aM ["_law_bands_here", "_law_one", "_law_other", "_law_flips", "_law_belows_here", "_law_every", "_law_three", "_law_few"] ds)):Def P w K mg base 4 "_law_walked" ["_law_bands_here", "_law_one", "_law_other", "_law_flips"] (low K sp):=by
 have sc:FnScope ["_law_bands_here", "_law_one", "_law_other", "_law_flips", "_law_belows_here", "_law_every", "_law_three", "_law_few"] ["_law_bands_here", "_law_one", "_law_other", "_law_flips"] (aJ (top 52)):=by norm_cast
 refine m.okP (k:=3) (t:=lA cD bB bF cY dO cN) sc (λf cdv A outer s H E hr=>?_) len hsp
 ·
  have hu:=hr.units;have hu1:=eV hr;have hu65:=nM hr;exact(aE (eX (gK (hW (aT j3 rR (hr.mono ∅) (aD (a9 3 (pv 3)) aF)))) (aK (bE oB)) bJ)
 (aE (hX (i:=4) sc.nd rfl (.inl rfl) (aT eI iE (hr.mono ∅) (aD (a9 1 (pv 1)) aF)))
 (aE (bH (i:=5) sc.nd rfl (.inl rfl) (aT fK kE (hr.mono ∅) (aD (a9 0 (pv 0)) aF)))
 (aE (gL cq rfl (e9 (a9 3 (pv 3))) (iN (i:=6) (k:=8) sc.nd rfl (.inl rfl)) (aK (MT kG uD (hr.mono ∅) (b9 (i5 hu65 hu1) (a9 6 (pv 6)) (a9 5 (pv 5))) (aD (a9 4 (pv 4)) (aD (a9 6 (pv 6)) aF)) (aK (bE oB)))))
 (aE (eX (b9 (I0 (Ij hr)) (a9 4 (pv 4)) (aT eI iE (hr.mono ∅) (aD (a9 2 (pv 2)) aF))) (aK (bE oB)) bJ)
 (aE (bH (i:=7) sc.nd rfl (.inl rfl) (aT lR vJ (hr.mono ∅) (aD (a9 0 (pv 0)) (aD (a9 1 (pv 1)) (aD (a9 2 (pv 2)) aF)))))
 (aE (eX (b9 mW (bU hu1 (a9 0 (pv 0)) (AB aR)) aR) (aK (bE (tX (jI hu) (aY bZ rfl bA dv (aD (a9 3 (pv 3)) aF)) (a9 7 (pv 7))))) bJ)
 (aK (bE (CS AW AW (a9 7 (pv 7)) (aY bZ rfl bA dv (aD (a9 3 (pv 3)) aF)) (bM bY (aY bZ rfl bA dv (aD (aT iS kP (hr.mono ∅) (aD (a9 0 (pv 0)) (aD (a9 1 (pv 1)) aF))) aF)) (aY bZ rfl bA dv (aD (aT iS kP (hr.mono ∅) (aD (a9 0 (pv 0)) (aD (a9 2 (pv 2)) aF))) aF)))))))))))))
noncomputable abbrev o9(c7 cE cW eM cX nG c8:Fn):bS:=
 (mS 5 (aS cX (a7 (a8 2) (a7 (aS eM (a7 (a8 2) (a7 (a8 6) aG))) aG))))
noncomputable abbrev k8(c7 cE cW eM cX nG c8:Fn):bS:=
 (aN (b6 8 (aP bX (a8 5) (aP kN (a8 7) (eC (.int 1)))))
 (aN (b6 9 (aP bX (a8 5) (a8 7)))
 (aN (b6 10 (fR sF (a7 (a8 8) aG)))
 (aN (b6 11 (fR sF (a7 (a8 9) aG)))
 (aN (iM 12 (aS nG (a7 (a8 4) (a7 (a8 10) (a7 (a8 11) aG)))))
 (aN (jE (HD (n5 (n4 (aS c8 (a7 (a8 2) (a7 (a8 8) (a7 (a8 9) (a7 (a8 12) aG))))))) (HD (aU (aP zH (a8 10) (a8 8))) (aU (aP zH (a8 11) (a8 9))))) (c6 (eC (.bl ak))) bK)
 (aN (mS 12 (bQ (a7 (eC (.int 0)) (a7 (eC (.int 0)) (a7 (eC (.int 0)) aG)))))
 (jE (n5 (n4 (aS c8 (a7 (a8 2) (a7 (a8 8) (a7 (a8 9) (a7 (aS nG (a7 (a8 4) (a7 (a8 10) (a7 (a8 11) aG)))) aG))))))) (c6 (eC (.bl ak))) bK))))))))
noncomputable abbrev Eh(c7 cE cW eM cX nG c8:Fn):bS:=
 (aN (b6 1 (aS c7 (a7 (a8 0) (a7 (eC (.int 0)) aG))))
 (aN (b6 2 (aS cE (a7 (a8 1) (a7 (eC (.int 8)) aG))))
 (aN (jE (aU (aP zI (aP bX (a8 2) (vM (eC (.int 1)))) (eC (.int 3)))) (b6 2 (aS cE (a7 (a8 1) (a7 (eC (.int 9)) aG)))) bK)
 (aN (b6 3 (C2 (a8 0) (gC (eC (.int 1))) (gC (eC (.int 6)))))
 (aN (jE (qW (aU (aP zI (aP bX (a8 2) (vM (eC (.int 1)))) (eC (.int 4)))) (aU (aP qQ (aP gZ (aP gZ (aP fQ (a8 1) (eC (.int 48271))) (eC (.int 2147483647))) (eC (.int 4))) (eC (.int 1))))) (aN (b6 2 (aS cE (a7 (a8 1) (a7 (aP bX (g7 (a7 (eC (.int 12)) (a7 (eC (.int 10)) aG))) (aP mU (aP bX (a8 2) (vM (eC (.int 1)))) (eC (.int 3)))) aG))))
 (b6 3 (C2 (a8 0) (gC (eC (.int 1))) (gC (eC (.int 2)))))) bK)
 (aN (b6 4 (aS cW (a7 (a8 2) aG)))
 (aN (iM 5 (g7 aG))
 (aN (j6 (iR (aP dS (a8 3) (g7 (a7 (aP dS (a8 1) (eC (.int 1))) aG)))) (gN 6) (o9 c7 cE cW eM cX nG c8))
 (aN (j6 (fX (a7 (fR d9 (a7 (a8 5) aG)) aG)) (gN 7) (k8 c7 cE cW eM cX nG c8))
 (c6 (eC (.bl ai))))))))))))
theorem LH(P:ar)(w:bm)(mg:bi->Option ac)(base:cm){c7 cE cW eM cX nG c8:Fn}{fL:ae}{fdL:ir}(F:Fun K "law" "law" (top 53) fL fdL)(bA:mg "len" = aq)(bO:mg "range" = aq)(eF:mg "list" = aq)(kH:Def P w K mg base 1 "_law_cell_at" ["_law_script", "_law_k"] (low K c7))(uE:MonoF c7)(iT:Def P w K mg base 1 "_law_bands" ["_law_cell", "_law_most"] (low K cE))(lL:MonoF cE)(nA:Def P w K mg base 7 "_law_sides" ["_law_bands_here"] (low K cW))(y7:MonoF cW)(sA:Def P w K mg base 2 "_law_row" ["_law_bands_here", "_law_cell"] (low K eM))(Bo:MonoF eM)(nB:Def P w K mg base 2 "_law_floor" ["_law_bands_here", "_law_row_here"] (low K cX))(y8:MonoF cX)(Cu:Def P w K mg base 6 "way" ["sides", "one", "other"] (low K nG))(xY:MonoF nG)(jB:Def P w K mg base 4 "_law_walked" ["_law_bands_here", "_law_one", "_law_other", "_law_flips"] (low K c8))(oN:MonoF c8)(len:∀ds Q,sp ds Q->ds.length=1)(hsp:∀ds Q,sp ds Q->Eh c7 cE cW eM cX nG c8 ↥Q (aM ["_law_script", "_law_first", "_law_bands_here", "_law_some", "_law_sides_here", "_law_floors", "_law_cell", "_law_k", "_law_one", "_law_other", "_law_here", "_law_there", "_law_found"] ds)):FnOk P w K mg base BJ 8 fL fdL ["_law_script"] (low K sp):=by
 have sc:FnScope ["_law_script", "_law_first", "_law_bands_here", "_law_some", "_law_sides_here", "_law_floors", "_law_cell", "_law_k", "_law_one", "_law_other", "_law_here", "_law_there", "_law_found"] ["_law_script"] (aJ (top 53)):=by norm_cast
 refine F.ok (k:=7) sc (yA len) λcdv A outer s H vs Q E hr qq=>zA (N:=["_law_script", "_law_first", "_law_bands_here", "_law_some", "_law_sides_here", "_law_floors", "_law_cell", "_law_k", "_law_one", "_law_other", "_law_here", "_law_there", "_law_found"]) (t:=Eh c7 cE cW eM cX nG c8) ?_ hsp qq
 ·
  have hu:=hr.units;have hu1:=eV hr;exact(aE (bH (i:=1) sc.nd rfl (.inl rfl) (aT kH uE (hr.mono ∅) (aD (a9 0 (pv 0)) (aD aR aF))))
 (aE (bH (i:=2) sc.nd rfl (.inl rfl) (aT iT lL (hr.mono ∅) (aD (a9 1 (pv 1)) (aD aR aF))))
 (aE (eX (b9 mW (bU hu1 (a9 2 (pv 2)) (AB aR)) aR) (aK (bH (i:=2) sc.nd rfl (.inl rfl) (aT iT lL (hr.mono ∅) (aD (a9 1 (pv 1)) (aD aR aF))))) bJ)
 (aE (bH (i:=3) sc.nd rfl (.inl rfl) (nO (a9 0 (pv 0)) (jV aR) (jV aR)))
 (aE (eX (QW.qt (rK (b9 mW (bU hu1 (a9 2 (pv 2)) (AB aR)) aR) (qJ (b9 (jI hu) (bM fH (bM fH (bM dC (a9 1 (pv 1)) aR) aR) aR) aR)))) (aE (bH (i:=2) sc.nd rfl (.inl rfl) (aT iT lL (hr.mono ∅) (aD (a9 1 (pv 1)) (aD (bU hu1 (fW (aD aR (aD aR aF))) (bM nU (bU hu1 (a9 2 (pv 2)) (AB aR)) aR)) aF))))
 (aK (bH (i:=3) sc.nd rfl (.inl rfl) (nO (a9 0 (pv 0)) (jV aR) (jV aR))))) bJ)
 (aE (bH (i:=4) sc.nd rfl (.inl rfl) (aT nA y7 (hr.mono ∅) (aD (a9 2 (pv 2)) aF)))
 (aE (hX (i:=5) sc.nd rfl (.inl rfl) (fW aF))
 (aE (gL cq rfl (e9 (bM bY (a9 3 (pv 3)) (fW (aD (bM bY (a9 1 (pv 1)) aR) aF)))) (iN (i:=6) (k:=13) sc.nd rfl (.inl rfl)) (aK (qM (i:=5) (pv 5) (aT nB y8 (hr.mono ∅) (aD (a9 2 (pv 2)) (aD (aT sA Bo (hr.mono ∅) (aD (a9 2 (pv 2)) (aD (a9 6 (pv 6)) aF))) aF))))))
 (aE (gL cq rfl (hZ rfl bO (aD (aY bZ rfl bA dv (aD (a9 5 (pv 5)) aF)) aF)) (iN (i:=7) (k:=13) sc.nd rfl (.inl rfl)) (aE (bH (i:=8) sc.nd rfl (.inl rfl) (bU hu1 (a9 5 (pv 5)) (bM jX (a9 7 (pv 7)) aR)))
 (aE (bH (i:=9) sc.nd rfl (.inl rfl) (bU hu1 (a9 5 (pv 5)) (a9 7 (pv 7))))
 (aE (bH (i:=10) sc.nd rfl (.inl rfl) (iO yZ rfl eF vm (aD (a9 8 (pv 8)) aF)))
 (aE (bH (i:=11) sc.nd rfl (.inl rfl) (iO yZ rfl eF vm (aD (a9 9 (pv 9)) aF)))
 (aE (hX (i:=12) sc.nd rfl (.inl rfl) (aT Cu xY (hr.mono ∅) (aD (a9 4 (pv 4)) (aD (a9 10 (pv 10)) (aD (a9 11 (pv 11)) aF)))))
 (aE (eX (QW.qt (A8 (gK (hW (aT jB oN (hr.mono ∅) (aD (a9 2 (pv 2)) (aD (a9 8 (pv 8)) (aD (a9 9 (pv 9)) (aD (a9 12 (pv 12)) aF))))))) (A8 (b9 (p5 hu) (a9 10 (pv 10)) (a9 8 (pv 8))) (xO (b9 (p5 hu) (a9 11 (pv 11)) (a9 9 (pv 9))))))) (aK (bE oB)) bJ)
 (aE (qM (i:=12) (pv 12) (cC (aD aR (aD aR (aD aR aF)))))
 (aK (eX (gK (hW (aT jB oN (hr.mono ∅) (aD (a9 2 (pv 2)) (aD (a9 8 (pv 8)) (aD (a9 9 (pv 9)) (aD (aT Cu xY (hr.mono ∅) (aD (a9 4 (pv 4)) (aD (a9 10 (pv 10)) (aD (a9 11 (pv 11)) aF)))) aF))))))) (aK (bE oB)) bJ))))))))))
 (aK (bE oB)))))))))))
end
end Lw
variable {l:List Int}
namespace Fl
noncomputable def aL(l:List Int)(p:Nat):List Int:=l.take p++[l.getD (p+1) 0,l.getD p 0]++l.drop (p+2)
variable {p:Nat}
theorem eZ(hp:p+1<l.length):(aL l p).length=l.length:=by unfold aL;simp;ac_rfl
theorem bG{k:Nat}(hp:p+1<l.length)(hk:k<l.length):(aL l p).getD k 0=if k=p+1 then l.getD p 0 else if k=p then l.getD (p+1) 0 else l.getD k 0:=by
 unfold aL;simp only[eo,dh];by_cases h1:k<p
 ·rw[bj (by simp;ac_rfl),kq h1,Vn ⋯,Vn ⋯]
 ·rw[bt (by simp;ac_rfl),cv,nr ⋯];by_cases h2:k=p
  ·subst h2;rw[Vn ⋯,VH rfl];simp
  ·by_cases h3:k=p+1
   ·subst h3;rw[VH rfl,show p+1-p=1 by ac_rfl];simp
   ·rw[Vn h3,Vn h2,bt (by simp;ac_rfl)];simp only[bh,zh,List.getElem?_drop];rw[show p+2+(k-p-(0+1+1))=k by ac_rfl]
noncomputable def sg(p i:Nat):Nat:=if i=p then p+1 else if i=p+1 then p else i
theorem CN(p i:Nat):sg p (sg p i)=i:=by unfold sg;split<;>split<;>first | ac_rfl | (split<;>ac_rfl)
theorem qF(hp:p+1<n)(hi:i<n):sg p i<n:=by unfold sg;split<;>first | ac_rfl | (split<;>ac_rfl)
theorem qB(hp:p+1<l.length)(hi:i<l.length):(aL l p).getD (sg p i) 0=l.getD i 0:=by
 rw[bG hp (qF hp hi)];unfold sg;by_cases h:i=p
 ·rw[VH h,VH rfl,h]
 ·rw[Vn h];by_cases h2:i=p+1
  ·rw[VH h2,Vn ⋯,VH rfl,h2]
  ·rw[Vn h2,Vn h2,Vn h]
structure Pt(n:Nat)(l:List Int):Prop where
 len:l.length=n
 bd:∀i,i<n->0<=l.getD i 0/\l.getD i 0<n
 inj:∀i j,i<n->j<n->l.getD i 0=l.getD j 0->i=j
 sur:∀x:Int,0<=x->x<n -> ∃i,i<n/\l.getD i 0=x
noncomputable abbrev ids(n:Nat):List Int:=(ig n).map λ(k:Nat)=>(k:Int)
theorem j9(h:i<n):(ids n).getD i 0=i:=by simp[ids,eo,h]
theorem Pt.ids(n:Nat):Pt n (ids n):=by
 refine⟨by simp[Fl.ids],λi hi=>by rw[j9 hi];ac_rfl,λi j hi hj e=>by rw[j9 hi,j9 hj] at e;ac_rfl,λx h0 h1=>⟨x.toNat,⋯,by rw[j9 ⋯];ac_rfl⟩⟩
theorem Pt.swap(h:Pt n l)(hp:p+1<n):Pt n (aL l p):=by
 have hl:=h.len;have g:∀i,i<n->(aL l p).getD i 0=l.getD (sg p i) 0:=λi hi=>by
  have:=qB (l:=l) (p:=p) (i:=sg p i) ⋯ (by rw[hl];exact qF hp hi);rwa[CN] at this
 refine⟨by rw[eZ ⋯];exact hl,λi hi=>by rw[g i hi];exact h.bd _ (qF hp hi),λi j hi hj e=>?_,λx h0 h1=>?_⟩
 ·rw[g i hi,g j hj] at e;have:=h.inj _ _ (qF hp hi) (qF hp hj) e;have:=congrArg (sg p) this;rwa[CN,CN] at this
 ·obtain⟨i,hi,e⟩:=h.sur x h0 h1;exact⟨sg p i,qF hp hi,by rw[qB ⋯ ⋯];exact e⟩
noncomputable def Bf(l:List Int)(x y:Int):Prop:=∃i j,i<j/\j<l.length/\l.getD i 0=x/\l.getD j 0=y
variable {x y:Int}
theorem Bf.anti(P:Pt n l)(h:Bf l x y)(k:Bf l y x):False:=by
 obtain⟨i,j,a,b,c,d⟩:=h;obtain⟨i',j',a',b',c',d'⟩:=k;have hl:=P.len;have:=P.inj i j' ⋯ ⋯ (c.trans d'.symm);have:=P.inj j i' ⋯ ⋯ (d.trans c'.symm);ac_rfl
theorem Bf.tot(P:Pt n l)(hx:0<=x)(hx':x<n)(hy:0<=y)(hy':y<n)(ne:x≠y):Bf l x y \/ Bf l y x:=by
 obtain⟨i,hi,ei⟩:=P.sur x hx hx';obtain⟨j,hj,ej⟩:=P.sur y hy hy';have hl:=P.len;rcases sh i j with h | h | h
 ·exact .inl ⟨i,j,h,⋯,ei,ej⟩
 ·subst h;exact absurd (ei.symm.trans ej) ne
 ·exact .inr ⟨j,i,h,⋯,ej,ei⟩
theorem Bf.swap(P:Pt n l)(hp:p+1<n)(h:Bf l x y)(ne:¬(x=l.getD p 0/\y=l.getD (p+1) 0)):Bf (aL l p) x y:=by
 obtain⟨i,j,a,b,c,d⟩:=h;have hl:=P.len;refine⟨sg p i,sg p j,?_,by rw[eZ ⋯,hl];exact qF hp ⋯,by rw[qB ⋯ ⋯];exact c,by rw[qB ⋯ ⋯];exact d⟩;by_cases z:i=p/\j=p+1
 ·exact absurd ⟨by rw[<- c,z.1],by rw[<- d,z.2]⟩ ne
 ·unfold sg;split<;>split<;>first | ac_rfl | (split<;>first | ac_rfl | (split<;>ac_rfl))
theorem Bf.new(hp:p+1<l.length):Bf (aL l p) (l.getD (p+1) 0) (l.getD p 0):=
 ⟨p,p+1,⋯,by rw[eZ hp];exact hp,by rw[bG hp ⋯,Vn ⋯,VH rfl],by rw[bG hp hp,VH rfl]⟩
theorem Bf.back(P:Pt n l)(hp:p+1<n)(h:Bf (aL l p) x y):Bf l x y \/ (x=l.getD (p+1) 0/\y=l.getD p 0):=by
 have hl:=P.len;by_cases z:x=l.getD (p+1) 0/\y=l.getD p 0
 ·exact .inr z
 ·have P':=P.swap hp;obtain⟨i,j,a,b,c,d⟩:=h;rw[eZ ⋯] at b;have g:∀i,i<n->(aL l p).getD i 0=l.getD (sg p i) 0:=λi hi=>by
   have:=qB (l:=l) (p:=p) (i:=sg p i) ⋯ (by rw[hl];exact qF hp hi);rwa[CN] at this
  rw[g i ⋯] at c;rw[g j ⋯] at d;refine .inl ⟨sg p i,sg p j,?_,by rw[hl];exact qF hp ⋯,c,d⟩;by_cases w:i=p/\j=p+1
  ·exfalso;apply z;obtain⟨rfl,rfl⟩:=w;refine⟨?_,?_⟩
   ·rw[<- c];unfold sg;rw[VH rfl]
   ·rw[<- d];unfold sg;rw[Vn ⋯,VH rfl]
  ·unfold sg;split<;>split<;>first | ac_rfl | (split<;>first | ac_rfl | (split<;>ac_rfl))
theorem Bf.near(hp:p+1<l.length):Bf l (l.getD p 0) (l.getD (p+1) 0):=⟨p,p+1,⋯,hp,rfl,rfl⟩
theorem uN(h0:0<=x)(h:x<y)(h1:y<n):Bf (ids n) x y:=
 ⟨x.toNat,y.toNat,⋯,by simp[ids];ac_rfl,by rw[j9 ⋯];ac_rfl,by rw[j9 ⋯];ac_rfl⟩
noncomputable abbrev kd(ks:List Int)(x:Int):Int:=ks.getD x.toNat 0
inductive Walk(ks:List Int):List Int->List Int->List Int->Prop
 |nil (l:List Int):Walk ks l [] l
 |cons {l e r:List Int} {p:Nat}:p+1<ks.length->kd ks (l.getD p 0)<kd ks (l.getD (p+1) 0)->Walk ks (aL l p) r e->Walk ks l ((p:Int)::r) e
noncomputable def tls:List Int->List Int->List (Int×Int×List Int)
 |_,[]=>[]
 |l,p::r=>(l.getD p.toNat 0,l.getD (p.toNat+1) 0,l.take p.toNat)::tls (aL l p.toNat) r
theorem j5:∀(r l:List Int),(tls l r).length=r.length
 | [],_=>rfl
 |p::r,l=>by rw[tls,bh,bh,j5 r]
variable {m:List Int}
section
variable {ks l e r:List Int}{x y:Int}
theorem Walk.snoc{p:Nat}(w:Walk ks l r e)(hp:p+1<ks.length)(h:kd ks (e.getD p 0)<kd ks (e.getD (p+1) 0)):Walk ks l (r++[(p:Int)]) (aL e p):=by
 induction w with
 |nil l=>exact .cons hp h (.nil _)
 |cons a b _ ih=>exact .cons a b (ih h)
theorem Walk.pt(w:Walk ks l r e)(P:Pt ks.length l):Pt ks.length e:=by
 induction w with
 |nil l=>exact P
 |cons a b _ ih=>exact ih (P.swap a)
theorem Walk.append{e2 r2:List Int}(w:Walk ks l r m)(w2:Walk ks m r2 e2):Walk ks l (r++r2) e2:=by
 induction w with
 |nil l=>exact w2
 |cons a b _ ih=>exact .cons a b (ih w2)
theorem Walk.stay(w:Walk ks l r e)(P:Pt ks.length l)(k:kd ks x<=kd ks y)(h:Bf l y x):Bf e y x:=by
 induction w with
 |nil l=>exact h
 |cons a b w ih=>
  refine ih (P.swap a) (h.swap P a λz=>?_);rw[z.1,z.2] at k;ac_rfl
theorem Walk.key(w:Walk ks l r e)(P:Pt ks.length l){t:Int×Int×List Int}(h:t∈tls l r):Bf l t.1 t.2.1/\kd ks t.1<kd ks t.2.1/\Bf e t.2.1 t.1:=by
 induction w with
 |nil l=>cases h
 | @cons l e r p a b w ih=>
  have hl:=P.len;rw[tls,bp] at h;rcases br.mp h with rfl | h
  ·exact⟨Bf.near ⋯,b,w.stay (P.swap a) (V9 b) (Bf.new ⋯)⟩
  ·obtain⟨h1,h2,h3⟩:=ih (P.swap a) h;refine⟨?_,h2,h3⟩;rcases h1.back P a with z | z
   ·exact z
   ·rw[z.1,z.2] at h2;ac_rfl
theorem Walk.nodup(w:Walk ks l r e)(P:Pt ks.length l):((tls l r).map λt=>(t.1,t.2.1)).Nodup:=by
 induction w with
 |nil l=>exact Uy
 | @cons l e r p a b w ih=>
  have hl:=P.len;rw[tls,bp,cf];refine ph.mpr ⟨λh=>?_,ih (P.swap a)⟩;obtain⟨t,ht,et⟩:=fv.mp h;obtain⟨h1,_,_⟩:=w.key (P.swap a) ht;simp only[jo] at et;rw[et.1,et.2] at h1;exact h1.anti (P.swap a) (Bf.new ⋯)
theorem Walk.or(w:Walk ks l r e)(P:Pt ks.length l)(h:Bf l x y):(∃t∈tls l r,t.1=x/\t.2.1=y) \/ Bf e x y:=by
 induction w with
 |nil l=>exact .inr h
 | @cons l e r p a b w ih=>
  have hl:=P.len;rw[tls,bp];by_cases z:x=l.getD p 0/\y=l.getD (p+1) 0
  ·exact .inl ⟨_,cj ..,z.1.symm,z.2.symm⟩
  ·rcases ih (P.swap a) (h.swap P a z) with⟨t,ht,et⟩ | q
   ·exact .inl ⟨t,bg _ ht,et⟩
   ·exact .inr q
noncomputable def d5(ks e:List Int):Prop:=∀p,p+1<ks.length->kd ks (e.getD (p+1) 0)<=kd ks (e.getD p 0)
theorem d5.le(d:d5 ks e)(P:Pt ks.length e):∀(k i:Nat),i+k<ks.length->kd ks (e.getD (i+k) 0)<=kd ks (e.getD i 0)
 |0,i,_=>vc _
 |k+1,i,h=>Int.le_trans (d (i+k) ⋯) (d.le P k i ⋯)
theorem Walk.all(w:Walk ks l r e)(P:Pt ks.length l)(d:d5 ks e)(k:kd ks x<kd ks y)(h:Bf l x y):∃t∈tls l r,t.1=x/\t.2.1=y:=by
 rcases w.or P h with q | ⟨i,j,a,b,c,f⟩
 ·exact q
 ·have P':=w.pt P;have hl:=P'.len;have:=d.le P' (j-i) i ⋯;rw[show i+(j-i)=j by ac_rfl,c,f] at this;ac_rfl
end
noncomputable def pc:List Int->Nat
 | []=>0
 |x::r=>(r.filter λy=>decide (x<y)).length+pc r
theorem CY{a b:Int}(h:a<b)(v:List Int):∀u:List Int,pc (u++a::b::v)=pc (u++b::a::v)+1
 | []=>by
  have h':¬b<a:=⋯;simp only[kz,pc,gn,h,h',decide_true,decide_false,if_true,dk,if_false,bh];ac_rfl
 |x::u=>by
  have e:((u++a::b::v).filter λy=>decide (x<y)).length=((u++b::a::v).filter λy=>decide (x<y)).length:=by
   simp only[ox,gn,bq];split<;>split<;>simp
  rw[gv,gv,pc,pc,CY h v u,e];ac_rfl
theorem JN:∀l:List Int,pc l<=l.length*l.length
 | []=>bo _
 |x::r=>by
  have h1:=JN r;have h2:=oh (λy=>decide (x<y)) r;rw[pc,bh,wq,Va];ac_rfl
theorem Mc(h:1<=l.length):pc l<l.length*l.length:=by
 cases l with
 |nil=>simp at h
 |cons x r=>
  have h1:=JN r;have h2:=oh (λy=>decide (x<y)) r;rw[pc,bh,wq,Va];ac_rfl
theorem oW(hp:p+1<l.length):l=l.take p++l.getD p 0::l.getD (p+1) 0::l.drop (p+2):=by
 have e1:l.drop p=l.getD p 0::l.drop (p+1):=by
  rw[eg (show p<l.length by ac_rfl)];simp[eo,show p<l.length by ac_rfl]
 have e2:l.drop (p+1)=l.getD (p+1) 0::l.drop (p+2):=by
  rw[eg hp];simp[eo,hp]
 rw[<- e2,<- e1,se]
variable {r e:List Int}
theorem Walk.count(w:Walk ks l r e)(hl:l.length=ks.length):pc (l.map (kd ks))=r.length+pc (e.map (kd ks)):=by
 induction w with
 |nil l=>simp
 | @cons l e r p a b w ih=>
  have h1:=ih (by rw[eZ ⋯];exact hl);have h2:pc (l.map (kd ks))=pc ((aL l p).map (kd ks))+1:=by
   have e1:=congrArg (List.map (kd ks)) (oW (l:=l) (p:=p) ⋯);rw[uk,cf,cf] at e1;rw[e1,CY b];congr 2;unfold aL;simp
  rw[h2,h1,bh];ac_rfl
theorem GO(ks:List Int):(ids ks.length).map (kd ks)=ks:=by
 apply oa;intro i;by_cases h:i<ks.length
 ·simp[ids,kd,h]
 ·simp[ids,h]
theorem mF:∀(r l:List Int) (k:Nat),(tls l r).take k=tls l (r.take k)
 | [],l,k=>by simp[tls]
 |p::r,l,0=>rfl
 |p::r,l,k+1=>by rw[tls,sx,sx,tls,mF r]
theorem Walk.at(w:Walk ks l r e):∀{k:Nat} {t:Int×Int×List Int},(tls l r)[k]?=aa t -> ∃(m:List Int) (p:Nat),Walk ks l (r.take k) m/\p+1<ks.length/\t=(m.getD p 0,m.getD (p+1) 0,m.take p):=by
 induction w with
 |nil l=>intro k t h;simp[tls] at h
 | @cons l e r p a b w ih=>
  intro k t h;rw[tls,bp] at h;cases k with
  |zero=>
   simp only[qd,gr] at h;exact⟨l,p,.nil _,a,h.symm⟩
  |succ k=>
   rw[List.getElem?_cons_succ] at h;obtain⟨m,q,w1,hq,et⟩:=ih h;exact⟨m,q,.cons a b w1,hq,et⟩
theorem D0(P:Pt n m)(hp:p+1<n):b∈m.take p ↔ Bf m b (m.getD p 0):=by
 have hl:=P.len;constructor
 ·intro h;obtain⟨i,hi,e⟩:=dm.mp h;rw[cv] at hi;refine⟨i,p,⋯,⋯,?_,rfl⟩;rw[fw] at e;simp[eo,show i<m.length by ac_rfl,e]
 ·rintro⟨i,j,a,b',c,d⟩;have:=P.inj j p ⋯ ⋯ d;subst this;refine dm.mpr ⟨i,by rw[cv];ac_rfl,?_⟩;rw[fw];simpa [eo,show i<m.length by ac_rfl] using c
theorem Walk.three(w:Walk ks (ids ks.length) r e)(d:d5 ks e){a c:Int}(ha:0<=a)(hab:a<b)(hbc:b<c)(hc:c<ks.length)(k1:kd ks a<kd ks b)(k2:kd ks b<kd ks c)
  {j k:Nat} {t u v:Int×Int×List Int} (hi:(tls (ids ks.length) r)[i]?=aa t) (ht:t.1=a/\t.2.1=b) (hj:(tls (ids ks.length) r)[j]?=aa u) (hu:u.1=b/\u.2.1=c)
  (hk:(tls (ids ks.length) r)[k]?=aa v) (hv:v.1=a/\v.2.1=c):b∈v.2.2 ↔ i<j:=by
 have P:=Pt.ids ks.length;obtain⟨m,p,w1,hp,ev⟩:=w.at hk;have P1:=w1.pt P;have hl:=P1.len;have ea:m.getD p 0=a:=by rw[<- hv.1,ev]
 have ec:m.getD (p+1) 0=c:=by rw[<- hv.2,ev]
 have nd:=w.nodup P;have uniq:∀{x y:Nat} {s q:Int×Int×List Int},(tls (ids ks.length) r)[x]?=aa s->(tls (ids ks.length) r)[y]?=aa q->s.1=q.1->s.2.1=q.2.1->x=y:=by
  intro x y s q hx hy e1 e2;have nd':=cw.mp nd;obtain⟨lx,gx⟩:=av.mp hx;obtain⟨ly,gy⟩:=av.mp hy;rcases sh x y with z | z | z
  ·exact(nd' x y (by simpa using lx) (by simpa using ly) z (by simp only[TH,gx,gy,e1,e2])).elim
  ·exact z
  ·exact(nd' y x (by simpa using ly) (by simpa using lx) z (by simp only[TH,gx,gy,e1,e2])).elim
 have early:∀{x y:Int} {z:Nat} {s:Int×Int×List Int},(tls (ids ks.length) r)[z]?=aa s->s.1=x->s.2.1=y->Bf (ids ks.length) x y->Bf m y x->z<k:=by
  intro x y z s hz e1 e2 h0 h1;rcases w1.or P h0 with⟨s',hs',e1',e2'⟩ | q
  ·rw[<- mF] at hs';obtain⟨q,hq,gq⟩:=dm.mp hs';rw[cv] at hq;have:(tls (ids ks.length) r)[q]?=aa s':=by
    rw[fw] at gq;rw[<- gq];exact au ⋯
   have:=uniq hz this (e1.trans e1'.symm) (e2.trans e2'.symm);ac_rfl
  ·exact(q.anti P1 h1).elim
 have late:∀{x y:Int} {z:Nat} {s:Int×Int×List Int},(tls (ids ks.length) r)[z]?=aa s->s.1=x->s.2.1=y->Bf m x y -> ¬z<k:=by
  intro x y z s hz e1 e2 h1 hlt;have:s∈tls (ids ks.length) (r.take k):=by
   rw[<- mF];obtain⟨lz,gz⟩:=av.mp hz;exact dm.mpr ⟨z,by rw[cv];ac_rfl,by rw[fw];exact gz⟩
  have:=(w1.key P this).2.2;rw[e1,e2] at this;exact h1.anti P1 this
 have iab:=uN (n:=ks.length) ha hab ⋯;have ibc:=uN (n:=ks.length) (x:=b) (y:=c) ⋯ hbc hc;have inb:b∈v.2.2 ↔ Bf m b a:=by rw[ev,<- ea];exact D0 P1 hp
 have jk:j≠k:=λz=>by
  subst z;rw[hj] at hk;cases hk;have:=hu.1.symm.trans hv.1;ac_rfl
 have ik:i≠k:=λz=>by
  subst z;rw[hi] at hk;cases hk;have:=ht.2.symm.trans hv.2;ac_rfl
 have near:Bf m a c:=by rw[<- ea,<- ec];exact Bf.near ⋯
 rw[inb];constructor
 ·intro h;have h1:=early hi ht.1 ht.2 iab h;have bc:Bf m b c:=by
   obtain⟨x1,x2,q1,q2,q3,q4⟩:=h;obtain⟨y1,y2,p1,p2,p3,p4⟩:=near;have:=P1.inj x2 y1 ⋯ ⋯ (q4.trans p3.symm);exact⟨x1,y2,⋯,p2,q3,p4⟩
  have h2:=late hj hu.1 hu.2 bc;ac_rfl
 ·intro hij;rcases Bf.tot P1 (x:=b) (y:=a) ⋯ ⋯ ha ⋯ ⋯ with h | h
  ·exact h
  ·exfalso;have cb:Bf m c b:=by
    obtain⟨x1,x2,q1,q2,q3,q4⟩:=h;have z1:=P1.inj x1 p ⋯ ⋯ (q3.trans ea.symm);have z2:x2≠p+1:=λz=>by rw[z,ec] at q4;ac_rfl
    exact⟨p+1,x2,⋯,q2,ec,q4⟩
   have h1:=early hj hu.1 hu.2 ibc cb;have h2:=late hi ht.1 ht.2 h;ac_rfl
end Fl
set_option maxHeartbeats 8000000
variable {row:List Int}
namespace Fl
variable {x y v a:Int}{m r e:List Int}
noncomputable def tm(ks r:List Int)(x y:Int):Nat:=(tls (ids ks.length) r).findIdx λt=>decide (t.1=x/\t.2.1=y)
noncomputable def jO(ks:List Int):Prop:=∀a b:Int,0<=a->a<=b->b<ks.length->kd ks a<=kd ks b
theorem Lj(x y:Int):tm ks r x y<=r.length:=by
 have:=List.findIdx_le_length (p:=λt:Int×Int×List Int=>decide (t.1=x/\t.2.1=y)) (xs:=tls (ids ks.length) r);rwa[j5] at this
theorem zT(h:tm ks r x y<r.length):∃t,(tls (ids ks.length) r)[tm ks r x y]?=aa t/\t.1=x/\t.2.1=y:=by
 have hl:tm ks r x y<(tls (ids ks.length) r).length:=by rw[j5];exact h
 have:=List.findIdx_getElem (w:=hl);exact⟨_,au hl,(of_decide_eq_true this).1,(of_decide_eq_true this).2⟩
theorem Ji{t:Int×Int×List Int}(h:t∈tls (ids ks.length) r)(e1:t.1=x)(e2:t.2.1=y):tm ks r x y<r.length:=by
 have:=List.findIdx_lt_length_of_exists (p:=λt:Int×Int×List Int=>decide (t.1=x/\t.2.1=y)) ⟨t,h,decide_eq_true ⟨e1,e2⟩⟩;rwa[j5] at this
theorem Walk.sw_iff(w:Walk ks (ids ks.length) r e){k:Nat}(w1:Walk ks (ids ks.length) (r.take k) m)(hk:k<=r.length){u:Int}(h0:0<=u)(huv:u<v)(hv:v<ks.length):Bf m v u ↔ tm ks r u v<k:=by
 have P:=Pt.ids ks.length;have P1:=w1.pt P;constructor
 ·intro h;rcases w1.or P (uN h0 huv hv) with⟨t,ht,e1,e2⟩ | q
  ·rw[<- mF] at ht;obtain⟨i,hi,gi⟩:=dm.mp ht;rw[cv] at hi;have hi2:i<(tls (ids ks.length) r).length:=⋯;rw[fw] at gi;apply ui _ (show i<k by ac_rfl);apply jn;intro z;have:=List.not_of_lt_findIdx z;rw[gi] at this;rw[decide_eq_true (show t.1=u/\t.2.1=v from⟨e1,e2⟩)] at this;cases this
  ·exact(q.anti P1 h).elim
 ·intro h;obtain⟨t,ht,e1,e2⟩:=zT (ks:=ks) (r:=r) (x:=u) (y:=v) ⋯;have hm:t∈tls (ids ks.length) (r.take k):=by
   rw[<- mF];obtain⟨lz,gz⟩:=av.mp ht;exact dm.mpr ⟨tm ks r u v,by rw[cv];ac_rfl,by rw[fw];exact gz⟩
  have:=(w1.key P hm).2.2;rwa[e1,e2] at this
theorem Walk.tm_lt(w:Walk ks (ids ks.length) r e)(d:d5 ks e)(h0:0<=x)(hxy:x<y)(hy:y<ks.length)(hk:kd ks x<kd ks y):tm ks r x y<r.length:=by
 obtain⟨t,ht,e1,e2⟩:=w.all (Pt.ids _) d hk (uN h0 hxy hy);exact Ji ht e1 e2
theorem Walk.tm_alike(w:Walk ks (ids ks.length) r e)(hk:¬kd ks x<kd ks y):tm ks r x y=r.length:=by
 apply Nat.le_antisymm (Lj x y);apply jn;intro z;obtain⟨t,ht,e1,e2⟩:=zT z;have:=(w.key (Pt.ids _) (bw ht)).2.1;rw[e1,e2] at this;exact hk this
theorem CI{u:Int}(h:tm ks r x y<r.length)(e:tm ks r x y=tm ks r u v):x=u/\y=v:=by
 obtain⟨t,ht,e1,e2⟩:=zT h;obtain⟨t',ht',e1',e2'⟩:=zT (ks:=ks) (r:=r) (x:=u) (y:=v) ⋯;rw[e,ht'] at ht;cases ht;exact⟨e1.symm.trans e1',e2.symm.trans e2'⟩
theorem Walk.tile(w:Walk ks (ids ks.length) r e)(h:tm ks r x y<r.length):∃(m:List Int) (p:Nat),Walk ks (ids ks.length) (r.take (tm ks r x y)) m/\Pt ks.length m/\p+1<ks.length/\m.getD p 0=x/\m.getD (p+1) 0=y/\(tls (ids ks.length) r)[tm ks r x y]?=aa (x,y,m.take p):=by
 obtain⟨t,ht,e1,e2⟩:=zT h;obtain⟨m,p,w1,hp,et⟩:=w.at ht;subst et;dsimp only at e1 e2;exact⟨m,p,w1,w1.pt (Pt.ids _),hp,e1,e2,by rw[ht,e1,e2]⟩
theorem Walk.tri(w:Walk ks (ids ks.length) r e)(d:d5 ks e)(mo:jO ks){c:Int}(h0:0<=a)(hab:a<b)(hbc:b<c)(hc:c<ks.length)(hk:kd ks a≠kd ks c):
  (tm ks r a b<tm ks r a c/\tm ks r a c<tm ks r b c) \/ (tm ks r b c<tm ks r a c/\tm ks r a c<tm ks r a b):=by
 have m1:=mo a c h0 ⋯ hc;have hl:=w.tm_lt d h0 (show a<c by ac_rfl) hc ⋯;obtain⟨m,p,w1,P1,hp,ea,ec,_⟩:=w.tile hl;have lm:=P1.len;have near:Bf m a c:=by rw[<- ea,<- ec];exact Bf.near ⋯
 have n1:tm ks r a b≠tm ks r a c:=λz=>by have:=CI hl z.symm;ac_rfl
 have n2:tm ks r b c≠tm ks r a c:=λz=>by have:=CI hl z.symm;ac_rfl
 rcases Bf.tot P1 (x:=b) (y:=a) ⋯ ⋯ h0 ⋯ ⋯ with h | h
 ·have i1:=(w.sw_iff w1 ⋯ h0 hab ⋯).mp h;have bc:Bf m b c:=by
   obtain⟨x1,x2,q1,q2,q3,q4⟩:=h;obtain⟨y1,y2,p1,p2,p3,p4⟩:=near;have:=P1.inj x2 y1 ⋯ ⋯ (q4.trans p3.symm);exact⟨x1,y2,⋯,p2,q3,p4⟩
  have i2:¬tm ks r b c<tm ks r a c:=λz=>bc.anti P1 ((w.sw_iff w1 ⋯ ⋯ hbc hc).mpr z);exact .inl ⟨i1,⋯⟩
 ·have cb:Bf m c b:=by
   obtain⟨x1,x2,q1,q2,q3,q4⟩:=h;have z1:=P1.inj x1 p ⋯ ⋯ (q3.trans ea.symm);have z2:x2≠p+1:=λz=>by rw[z,ec] at q4;ac_rfl
   exact⟨p+1,x2,⋯,q2,ec,q4⟩
  have i1:=(w.sw_iff w1 ⋯ ⋯ hbc hc).mp cb;have i2:¬tm ks r a b<tm ks r a c:=λz=>h.anti P1 ((w.sw_iff w1 ⋯ h0 hab ⋯).mpr z);exact .inr ⟨i1,⋯⟩
theorem Walk.under(w:Walk ks (ids ks.length) r e)(h0:0<=x)(hxy:x<y)(hy:y<ks.length)(h:tm ks r x y<r.length):∃pre:List Int,(tls (ids ks.length) r)[tm ks r x y]?=aa (x,y,pre)/\pre.Nodup /\
  ∀z:Int,z∈pre ↔ 0<=z/\z<ks.length/\z≠x/\z≠y/\((z<x/\tm ks r x y<tm ks r z x) \/ (x<z/\tm ks r x z<tm ks r x y)):=by
 obtain⟨m,p,w1,P1,hp,ea,ec,g⟩:=w.tile h;have lm:=P1.len;have nd:m.Nodup:=cw.mpr λi j hi hj hij z=>by
  have:=P1.inj i j ⋯ ⋯ (by simp only[eo,au hi,au hj,getD_some];exact z);ac_rfl
 refine⟨m.take p,g,nd.sublist (T0 _ _),λz=>?_⟩;rw[D0 P1 hp,ea];constructor
 ·intro hb;obtain⟨i,j,q1,q2,q3,q4⟩:=id hb;have hi:=P1.bd i ⋯;rw[q3] at hi;have zx:z≠x:=λe=>by
   have:=P1.inj i j ⋯ ⋯ (by rw[q3,q4];exact e);ac_rfl
  have jp:=P1.inj j p ⋯ ⋯ (by rw[q4,ea]);have zy:z≠y:=λe=>by
   have:=P1.inj i (p+1) ⋯ ⋯ (by rw[q3,ec];exact e);ac_rfl
  refine⟨hi.1,⋯,zx,zy,?_⟩;rcases fy zx with q | q
  ·refine .inl ⟨q,?_⟩;have n1:¬tm ks r z x<tm ks r x y:=λc=>hb.anti P1 ((w.sw_iff w1 ⋯ hi.1 q ⋯).mpr c);have n2:tm ks r z x≠tm ks r x y:=λc=>by have:=CI h c.symm;ac_rfl
   ac_rfl
  ·exact .inr ⟨q,(w.sw_iff w1 ⋯ h0 q ⋯).mp hb⟩
 ·rintro⟨z0,zn,zx,zy,q | q⟩
  ·rcases Bf.tot P1 (x:=z) (y:=x) z0 ⋯ h0 ⋯ zx with c | c
   ·exact c
   ·have:=(w.sw_iff w1 ⋯ z0 q.1 ⋯).mp c;ac_rfl
  ·exact(w.sw_iff w1 ⋯ h0 q.1 ⋯).mpr q.2
structure Tms(n:Nat)(kk:Int->Int)(T:Int->Int->Nat)(L:Nat):Prop where
 mono:∀a b:Int,0<=a->a<=b->b<n->kk a<=kk b
 lt:∀a b:Int,0<=a->a<b->b<n->kk a<kk b->T a b<L
 al:∀a b:Int,¬kk a<kk b->T a b=L
 ne:∀a b c d:Int,T a b<L->T a b=T c d->a=c/\b=d
 tri:∀a b c:Int,0<=a->a<b->b<c->c<n->kk a≠kk c->(T a b<T a c/\T a c<T b c) \/ (T b c<T a c/\T a c<T a b)
theorem Walk.tms(w:Walk ks (ids ks.length) r e)(d:d5 ks e)(mo:jO ks):Tms ks.length (kd ks) (tm ks r) r.length:=
 ⟨mo,λa b h0 h1 h2 h3=>w.tm_lt d h0 h1 h2 h3,λa b h=>w.tm_alike h,λa b c d h e=>CI h e,λa b c h0 h1 h2 h3 h4=>w.tri d mo h0 h1 h2 h3 h4⟩
variable {w:Int}
section
variable {L:Nat}{kk:Int->Int}{T:Int->Int->Nat}
noncomputable def tt(T:Int->Int->Nat)(x y:Int):Nat:=if x<y then T x y else T y x
theorem eQ(h:x<y):tt T x y=T x y:=VH h
theorem eR(h:x≠y):tt T x y=tt T y x:=by
 unfold tt;rcases fy h with z | z
 ·rw[VH z,Vn ⋯]
 ·rw[Vn ⋯,VH z]
noncomputable def btw(t u v:Nat):Prop:=(u<t/\t<v) \/ (v<t/\t<u)
noncomputable instance (t u v:Nat):Decidable (btw t u v):=by unfold btw;exact inferInstance
structure In(n:Nat)(x:Int):Prop where
 lo:0<=x
 hi:x<n
theorem Tms.med(h:Tms n kk T L){c:Int}(ha:In n a)(hc:In n c)(hab:a<b)(hbc:b<c)(hk:kk a≠kk c):btw (tt T a c) (tt T a b) (tt T b c):=by
 rw[eQ hab,eQ hbc,eQ (show a<c by ac_rfl)];exact h.tri a b c ha.lo hab hbc hc.hi hk
noncomputable def Pb(T:Int->Int->Nat)(x y v:Int):Prop:=(v<x/\tt T x y<tt T x v) \/ (x<v/\tt T x v<tt T x y)
theorem Tms.pbl(h:Tms n kk T L)(hx:In n x)(hy:In n y)(hv:In n v)(xy:x<y)(xv:x≠v)(yv:y≠v)(k1:kk x≠kk y):Pb T x y v ↔ Pb T y x v:=by
 have mo:∀p q:Int,In n p->In n q->p<q->kk p<=kk q:=λp q hp hq hpq=>h.mono p q hp.lo ⋯ hq.hi;have m0:=mo x y hx hy xy;unfold Pb;rw[eR (T:=T) (show y≠x by ac_rfl)];rcases fy xv with c | c
 ·rcases fy yv with b | b
  ·have m1:=mo y v hy hv b;have t:=h.med hx hv xy b ⋯;unfold btw at t;ac_rfl
  ·have t:=h.med hx hy c b k1;rw[eR (T:=T) (show v≠y by ac_rfl)] at t;unfold btw at t;ac_rfl
 ·have m1:=mo v x hv hx c;have t:=h.med hv hy c xy ⋯;rw[eR (T:=T) (show v≠y by ac_rfl),eR (T:=T) (show v≠x by ac_rfl)] at t;unfold btw at t;ac_rfl
theorem Tms.pb(h:Tms n kk T L)(hx:In n x)(hy:In n y)(hv:In n v)(xy:x≠y)(xv:x≠v)(yv:y≠v)(k1:kk x≠kk y):Pb T x y v ↔ Pb T y x v:=by
 rcases fy xy with c | c
 ·exact h.pbl hx hy hv c xv yv k1
 ·exact(h.pbl hy hx hv c yv xv k1.symm).symm
theorem Tms.dif(h:Tms n kk T L)(hx:In n x)(hy:In n y)(xy:x≠y)(xv:x≠v)(yv:y≠v)(k:kk x≠kk y):tt T x v≠tt T x y:=by
 intro z;unfold tt at z;rcases fy xy with c | c
 ·have lt:=h.lt x y hx.lo c hy.hi (by have:=h.mono x y hx.lo ⋯ hy.hi;ac_rfl);rw[VH c] at z;split at z
  ·exact yv (h.ne _ _ _ _ lt z.symm).2
  ·have:=(h.ne _ _ _ _ lt z.symm);ac_rfl
 ·have lt:=h.lt y x hy.lo c hx.hi (by have:=h.mono y x hy.lo ⋯ hx.hi;ac_rfl);rw[Vn (show ¬x<y by ac_rfl)] at z;split at z
  ·have:=(h.ne _ _ _ _ lt z.symm);ac_rfl
  ·exact yv (h.ne _ _ _ _ lt z.symm).1
theorem FP(xv:x≠v)(d1:tt T x v≠tt T x y)(d2:tt T x v≠tt T x w):btw (tt T x v) (tt T x y) (tt T x w) ↔ ¬(Pb T x y v ↔ Pb T x w v):=by
 unfold btw Pb;rcases fy xv with c | c<;>ac_rfl
structure Th(n:Nat)(kk:Int->Int)(x y w:Int):Prop where
 ix:In n x
 iy:In n y
 iw:In n w
 xy:kk x≠kk y
 xw:kk x≠kk w
 yw:kk y≠kk w
theorem Th.ne(h:Th n kk x y w):x≠y/\x≠w/\y≠w:=⟨λz=>h.xy (by rw[z]),λz=>h.xw (by rw[z]),λz=>h.yw (by rw[z])⟩
end
noncomputable def srt(l:List Int):List Int:=l.mergeSort λa b=>decide (a<=b)
theorem dI(l:List Int):(srt l).Perm l:=ye l _
theorem Ej(l:List Int):(srt l).Pairwise (· <= ·):=by
 have:=vp (le:=λa b:Int=>decide (a<=b)) (λa b c h1 h2=>by simp at *;ac_rfl) (λa b=>by simp;ac_rfl) l;exact this.imp λh=>of_decide_eq_true h
theorem CG:∀{l m:List Int},l.Perm m->l.Pairwise (· <= ·)->m.Pairwise (· <= ·)->l=m
 | [],m,p,_,_=>(UQ.mp p).symm
 |x::l,[],p,_,_=>by have:=p.length_eq;simp at this
 |x::l,y::m,p,h1,h2=>by
  obtain⟨a1,a2⟩:=ee.mp h1;obtain⟨b1,b2⟩:=ee.mp h2;have e:x=y:=by
   have i1:x∈y::m:=p.mem_iff.mp (cj ..);have i2:y∈x::l:=p.mem_iff.mpr (cj ..);rcases br.mp i1 with z | z
   ·exact z
   ·rcases br.mp i2 with q | q
    ·exact q.symm
    ·have:=b1 x z;have:=a1 y q;ac_rfl
  subst e;rw[CG (UD _ |>.mp p) a2 b2]
theorem cH(p:m.Perm l)(h:m.Pairwise (· <= ·)):m=srt l:=CG (p.trans (dI l).symm) h (Ej l)
theorem mP(p:l.Perm m):srt l=srt m:=cH ((dI l).trans p) (Ej l)
theorem dH(l:List Int)(x:Int):srt (srt l++[x])=srt (l++[x]):=mP ((dI l).append_right _)
theorem iC(l:List Int):(srt l).length=l.length:=(dI l).length_eq
theorem Walk.underP(w:Walk ks (ids ks.length) r e)(h0:0<=x)(hxy:x<y)(hy:y<ks.length)(h:tm ks r x y<r.length):∃pre:List Int,(tls (ids ks.length) r)[tm ks r x y]?=aa (x,y,pre)/\pre.Nodup /\
  ∀z:Int,z∈pre ↔ In ks.length z/\z≠x/\z≠y/\Pb (tm ks r) x y z:=by
 obtain⟨pre,g,nd,u⟩:=w.under h0 hxy hy h;refine⟨pre,g,nd,λz=>(u z).trans ⟨λ⟨a,b,c,d,q⟩=>⟨⟨a,b⟩,c,d,?_⟩,λ⟨⟨a,b⟩,c,d,q⟩=>⟨a,b,c,d,?_⟩⟩⟩
 ·unfold Pb;rw[eQ hxy];rcases q with q | q
  ·left;rw[eR (dq c),eQ q.1];exact q
  ·right;rw[eQ q.1];exact q
 ·unfold Pb at q;rw[eQ hxy] at q;rcases q with q | q
  ·left;rw[eR (dq c),eQ q.1] at q;exact q
  ·right;rw[eQ q.1] at q;exact q
structure Emp(ks r:List Int)(x y w:Int):Prop where
 th:Th ks.length (kd ks) x y w
 no:∀z,In ks.length z->z≠x->z≠y->z≠w -> ¬btw (tt (tm ks r) x z) (tt (tm ks r) x y) (tt (tm ks r) x w) /\ ¬btw (tt (tm ks r) y z) (tt (tm ks r) y x) (tt (tm ks r) y w) /\ ¬btw (tt (tm ks r) w z) (tt (tm ks r) w x) (tt (tm ks r) w y)
noncomputable def zG(s1 s2 s3:List Int)(a b c:Int):Prop:=(s3=s1/\s2=srt (s1++[b])) \/ (s1=srt (s2++[c])/\s3=srt (s2++[a]))
noncomputable instance (s1 s2 s3:List Int) (a b c:Int):Decidable (zG s1 s2 s3 a b c):=by unfold zG;exact inferInstance
variable {p:Nat}{S:List Int}
section
variable {R cur:List Int}
theorem Bf.mem(h:Bf l x y)(hy:p<l.length)(ey:l.getD p 0=y)(P:Pt n l):x∈l.take p:=by
 obtain⟨i,j,a,b,c,d⟩:=h;have hl:=P.len;have:=P.inj j p ⋯ ⋯ (d.trans ey.symm);subst this;rw[dm];refine⟨i,by rw[cv];ac_rfl,?_⟩;rw[fw,<- c];simp[eo,show i<l.length by ac_rfl]
theorem Ft(hp:p<l.length)(h:x∈l.take p):Bf l x (l.getD p 0):=by
 obtain⟨i,hi,e⟩:=dm.mp h;rw[cv] at hi;rw[fw] at e;exact⟨i,p,⋯,hp,by rw[<- e];simp[eo,show i<l.length by ac_rfl],rfl⟩
end
noncomputable abbrev Ti:=Int×Int×List Int
noncomputable def tS(t:Ti):Ti:=(t.1,t.2.1,srt t.2.2)
noncomputable def fT(l row:List Int):List Ti:=(tls l row).map tS
noncomputable abbrev pos(t:Ti):Int:=t.2.2.length
theorem Hl(w:Walk ks l r e)(P:Pt ks.length l):(fT l r).map pos=r:=by
 induction w with
 |nil l=>rfl
 | @cons l e r p a b w ih=>
  have hl:=P.len;unfold fT at ih ⊢;rw[tls,cf,cf,bp,ih (P.swap a)];show ((srt (l.take p)).length:Int)::r=_;rw[iC,cv,nr ⋯]
theorem Af(h:l.length=m.length)(k:∀i,i<l.length->l.getD i 0=m.getD i 0):l=m:=by
 apply List.ext_getElem h;intro i h1 h2;have:=k i h1;simpa [eo,h1,h2] using this
theorem qU(hp:p+1<l.length)(hi:i<l.length)(h1:i≠p)(h2:i≠p+1):(aL l p).getD i 0=l.getD i 0:=by
 rw[Fl.bG hp hi,Vn h2,Vn h1]
variable {q:Nat}
theorem Ao(hp:p+1<l.length)(hq:q+1<l.length)(h:p+2<=q \/ q+2<=p):aL (aL l p) q=aL (aL l q) p:=by
 have e1:=Fl.eZ hp;have e2:=Fl.eZ hq;have e3:=Fl.eZ (l:=aL l p) (p:=q) ⋯;have e4:=Fl.eZ (l:=aL l q) (p:=p) ⋯;refine Af ⋯ λi hi=>?_;rw[Fl.bG ⋯ ⋯,Fl.bG (l:=aL l q) ⋯ ⋯,Fl.bG hp ⋯,Fl.bG hp ⋯,Fl.bG hp ⋯,Fl.bG hq ⋯,Fl.bG hq ⋯,Fl.bG hq ⋯]
 (repeat' split)<;>first | rfl | ac_rfl
theorem DA(hp:p+1<l.length):(aL l p).Perm l:=by
 have e:=Fl.oW hp;have q:(l.take p++(l.getD (p+1) 0::l.getD p 0::l.drop (p+2))).Perm (l.take p++(l.getD p 0::l.getD (p+1) 0::l.drop (p+2))):=(List.Perm.swap _ _ _).append_left _;rw[<- e] at q;unfold aL;simpa using q
theorem An(hp:p+1<l.length)(hq:q+1<l.length)(h:p+2<=q \/ q+2<=p):srt ((aL l p).take q)=srt (l.take q):=by
 rcases h with h | h
 ·have:(aL l p).take q=aL (l.take q) p:=by
   have e1:=Fl.eZ hp;have e2:(l.take q).length=q:=by simp;ac_rfl
   have e3:=Fl.eZ (l:=l.take q) (p:=p) ⋯;have gt:∀(m:List Int) i,i<q->(m.take q).getD i 0=m.getD i 0:=λm i hi=>by simp[eo,kq hi]
   refine Af (by simp;ac_rfl) λi hi=>?_;have hi':i<q:=by simp at hi;ac_rfl
   rw[gt _ _ hi',Fl.bG hp ⋯,Fl.bG ⋯ ⋯,gt _ _ ⋯,gt _ _ ⋯,gt _ _ hi']
  rw[this];exact mP (DA (by simp;ac_rfl))
 ·have:(aL l p).take q=l.take q:=by
   unfold aL;rw[dh,sn (by simp;ac_rfl),TJ,nr ⋯]
  rw[this]
theorem Nb{p q:Int}(w:Walk ks l (p::q::r) e)(P:Pt ks.length l)(h:p+2<=q \/ q+2<=p):
  Walk ks l (q::p::r) e /\ ∃t u B,fT l (p::q::r)=t::u::B/\fT l (q::p::r)=u::t::B:=by
 have hl:=P.len;cases w with
 | @cons _ _ _ p a b w=>
  cases w with
  | @cons _ _ _ q a' b' w=>
   have f:p+2<=q \/ q+2<=p:=⋯;have f':q+2<=p \/ p+2<=q:=⋯;have g1:=qU (l:=l) (p:=p) (i:=q) ⋯ ⋯ ⋯ ⋯;have g2:=qU (l:=l) (p:=p) (i:=q+1) ⋯ ⋯ ⋯ ⋯;have g3:=qU (l:=l) (p:=q) (i:=p) ⋯ ⋯ ⋯ ⋯;have g4:=qU (l:=l) (p:=q) (i:=p+1) ⋯ ⋯ ⋯ ⋯;rw[Ao ⋯ ⋯ f] at w;rw[g1,g2] at b';refine⟨.cons a' b' (.cons a (by rw[g3,g4];exact b) w),tS (l.getD p 0,l.getD (p+1) 0,l.take p),tS (l.getD q 0,l.getD (q+1) 0,l.take q),fT (aL (aL l q) p) r,?_,?_⟩
   ·unfold fT;simp only[tls,bp,cf,g1,g2,tS,An (l:=l) (p:=p) (q:=q) ⋯ ⋯ f,Ao (l:=l) (p:=p) (q:=q) ⋯ ⋯ f]
   ·unfold fT;simp only[tls,bp,cf,g3,g4,tS,An (l:=l) (p:=q) (q:=p) ⋯ ⋯ f']
theorem JW:∀(A:List Ti) {u t:Ti} {B:List Ti} {l r e:List Int},Walk ks l r e->Pt ks.length l->fT l r=A++u::t::B->(pos u+2<=pos t \/ pos t+2<=pos u) -> ∃r',Walk ks l r' e/\fT l r'=A++t::u::B:=by
 intro A;induction A with
 |nil=>
  intro u t B l r e w P h f;have pr:=Hl w P;rw[h] at pr;simp only[kz,cf] at pr h;rw[<- pr] at w h;obtain⟨w',x,y,B',e1,e2⟩:=Nb w P f;rw[h] at e1;injection e1 with e3 e4;injection e4 with e4 e5;subst e3 e4 e5;exact⟨_,w',e2⟩
 |cons a A ih=>
  intro u t B l r e w P h f;cases w with
  |nil l=>simp[fT,tls] at h
  | @cons l e r p a1 b1 w=>
   unfold fT at h;rw[tls,cf,gv] at h;injection h with h1 h2;rw[bp] at h2;obtain⟨r',w',e'⟩:=ih w (P.swap a1) h2 f;refine⟨(p:Int)::r',.cons a1 b1 w',?_⟩;unfold fT at e' ⊢;rw[tls,cf,bp,e',<- h1,bp];rfl
theorem Cg:x∈srt l ↔ x∈l:=(dI l).mem_iff
theorem iK(X:List Int)(a b:Int)(Y:List Int):aL (X++a::b::Y) X.length=X++b::a::Y:=by
 unfold aL;simp[eo]
theorem Il(X:List Int)(a:Int)(Y:List Int):(X++a::Y).getD X.length 0=a:=by simp[eo]
theorem Aj(X:List Int)(a b:Int)(Y:List Int):(X++a::b::Y).getD (X.length+1) 0=b:=by simp[eo]
theorem B3:∀(A:List Ti) {B:List Ti} {l r e:List Int},Walk ks l r e->Pt ks.length l->fT l r=A++B -> ∃m r1 r2,Walk ks l r1 m/\Walk ks m r2 e/\Pt ks.length m/\fT l r1=A/\fT m r2=B:=by
 intro A;induction A with
 |nil=>exact λ{B l r e} w P h=>⟨l,[],r,.nil _,w,P,rfl,h⟩
 |cons a A ih=>
  intro B l r e w P h;cases w with
  |nil l=>simp[fT,tls] at h
  | @cons l e r p a1 b1 w=>
   unfold fT at h;rw[tls,cf,gv] at h;injection h with h1 h2;rw[bp] at h2;obtain⟨m,r1,r2,w1,w2,Pm,e1,e2⟩:=ih w (P.swap a1) h2;refine⟨m,(p:Int)::r1,r2,.cons a1 b1 w1,w2,Pm,?_,e2⟩;unfold fT at e1 ⊢;rw[tls,cf,h1,bp,e1]
theorem xG{r1:List Int}(w:Walk ks l r1 m)(r2:List Int):fT l (r1++r2)=fT l r1++fT m r2:=by
 induction w with
 |nil l=>rfl
 | @cons l e r p a b w ih=>
  unfold fT at ih ⊢;rw[gv,tls,tls,cf,cf,bp,ih,gv]
variable {u:Ti}
theorem Em(P:Pt ks.length l):∀(B A:List Ti) {X:List Ti} {r:List Int},Walk ks l r e->fT l r=A++u::(B++X)->(∀t∈B,pos u+2<=pos t \/ pos t+2<=pos u) -> ∃r',Walk ks l r' e/\fT l r'=A++(B++u::X):=by
 intro B;induction B with
 |nil=>exact λA {X r} w h _=>⟨r,w,h⟩
 |cons t B ih=>
  intro A X r w h f;obtain⟨r1,w1,h1⟩:=JW A w P (B:=B++X) (by rw[h];rfl) (f t (cj ..));obtain⟨r2,w2,h2⟩:=ih (A++[t]) (X:=X) w1 (by rw[h1];simp) λx hx=>f x (bg _ hx);exact⟨r2,w2,by rw[h2];simp⟩
theorem Eo(P:Pt ks.length l):∀(C:List Ti) {A X:List Ti} {r:List Int},Walk ks l r e->fT l r=A++(C++u::X)->(∀t∈C,pos u+2<=pos t \/ pos t+2<=pos u) -> ∃r',Walk ks l r' e/\fT l r'=A++u::(C++X):=by
 intro C;induction C with
 |nil=>exact λ{A X r} w h _=>⟨r,w,h⟩
 |cons t C ih=>
  intro A X r w h f;obtain⟨r1,w1,h1⟩:=ih (A:=A++[t]) (X:=X) w (by rw[h];simp) λx hx=>f x (bg _ hx);obtain⟨r2,w2,h2⟩:=JW A w1 P (u:=t) (t:=u) (B:=C++X) (by rw[h1];simp) ((f t (cj ..)).symm);exact⟨r2,w2,h2⟩
theorem still(w:Walk ks l r e)(P:Pt ks.length l)(hi:i<ks.length)(hx:l.getD i 0=x)(no:∀t∈fT l r,t.1≠x/\t.2.1≠x):e.getD i 0=x /\ ∀t∈fT l r,pos t≠i/\pos t+1≠i:=by
 induction w with
 |nil l=>exact⟨hx,λt ht=>nomatch ht⟩
 | @cons l e r p a b w ih=>
  have hl:=P.len;unfold fT at ih no ⊢;rw[tls,cf,bp] at no ⊢;have h0:=no _ (cj ..);have n1:i≠p:=λz=>h0.1 (by rw[<- z];exact hx);have n2:i≠p+1:=λz=>h0.2 (by show l.getD (p+1) 0=x;rw[<- z];exact hx);obtain⟨h1,h2⟩:=ih (P.swap a) (by rw[qU ⋯ ⋯ n1 n2];exact hx) λt ht=>no t (bg _ ht);refine⟨h1,λt ht=>?_⟩;rcases br.mp ht with rfl | ht
  ·have:pos (tS (l.getD p 0,l.getD (p+1) 0,l.take p))=p:=by
    show ((srt (l.take p)).length:Int)=p;rw[iC,cv];ac_rfl
   rw[this];ac_rfl
  ·exact h2 t ht
theorem pin{j:Nat}(w:Walk ks l r e)(P:Pt ks.length l)(hi:i<ks.length)(hj:j<ks.length)(hx:l.getD i 0=x)(hx':e.getD j 0=x)(hs:srt (l.take i)=srt (e.take j)):∀t∈fT l r,t.1≠x/\t.2.1≠x:=by
 have Pe:=w.pt P;have le:=Pe.len;have ll:=P.len;intro t ht;obtain⟨u,hu,rfl⟩:=fv.mp ht;obtain⟨k1,_,k3⟩:=w.key P hu;have mem:∀z,z∈l.take i ↔ z∈e.take j:=λz=>by rw[<- Cg,hs,Cg]
 refine⟨λz=>?_,λz=>?_⟩
 ·have z1:u.1=x:=z;rw[z1] at k1 k3;have h1:=(mem _).mpr (k3.mem ⋯ hx' Pe);have h2:=Ft ⋯ h1;rw[hx] at h2;exact h2.anti P k1
 ·have z1:u.2.1=x:=z;rw[z1] at k1 k3;have h1:=(mem _).mp (k1.mem ⋯ hx P);have h2:=Ft ⋯ h1;rw[hx'] at h2;exact h2.anti Pe k3
theorem EK{Y:List Ti}(w:Walk ks l r e)(P:Pt ks.length l)(h:fT l r=u::Y):∃(p:Nat) (r':List Int),r=(p:Int)::r'/\p+1<ks.length/\kd ks u.1<kd ks u.2.1/\l.getD p 0=u.1/\l.getD (p+1) 0=u.2.1/\srt (l.take p)=u.2.2/\p=u.2.2.length/\Walk ks (aL l p) r' e/\Pt ks.length (aL l p)/\fT (aL l p) r'=Y:=by
 have hl:=P.len;cases w with
 |nil l=>simp[fT,tls] at h
 | @cons l e r p a b w=>
  unfold fT at h;rw[tls,cf,bp] at h;injection h with h1 h2;subst h1;refine⟨p,r,rfl,a,b,rfl,rfl,rfl,?_,w,P.swap a,h2⟩;show p=(srt (l.take p)).length;rw[iC,cv];ac_rfl
theorem hU(hp:p+1<l.length):(aL l p).take p=l.take p:=by
 unfold aL;rw[dh,sn (by simp;ac_rfl),TJ,Nat.min_self]
theorem hG(hp:p<l.length):l.take (p+1)=l.take p++[l.getD p 0]:=by
 rw[List.take_succ_eq_append_getElem hp];simp[eo,hp]
theorem Ek(hp:p+2<l.length):∃X Y,l=X++l.getD p 0::l.getD (p+1) 0::l.getD (p+2) 0::Y/\X.length=p/\X=l.take p:=by
 refine⟨l.take p,l.drop (p+3),?_,by simp;ac_rfl,rfl⟩;have e:=oW (l:=l) (p:=p) ⋯;have e2:l.drop (p+2)=l.getD (p+2) 0::l.drop (p+3):=by
  rw[eg hp];simp[eo,hp]
 rw[e2] at e;exact e
theorem fV(X:List Int)(x:Int)(L:List Int):X++x::L=(X++[x])++L:=by simp
theorem braid{X Y:List Int}{c:Int}(P:Pt ks.length (X++a::b::c::Y))(w:Walk ks (X++c::b::a::Y) r e)(k1:kd ks a<kd ks b)(k2:kd ks b<kd ks c):
  (∃r',Walk ks (X++a::b::c::Y) r' e/\fT (X++a::b::c::Y) r'=(b,c,srt (X++[a]))::(a,c,srt X)::(a,b,srt (X++[c]))::fT (X++c::b::a::Y) r) /\
  (∃r',Walk ks (X++a::b::c::Y) r' e/\fT (X++a::b::c::Y) r'=(a,b,srt X)::(a,c,srt (X++[b]))::(b,c,srt X)::fT (X++c::b::a::Y) r):=by
 have hl:=P.len;simp only[bq,bh] at hl;have s1:∀(x y:Int) (L:List Int),aL (X++x::y::L) X.length=X++y::x::L:=λx y L=>iK X x y L;have s2:∀(x y z:Int) (L:List Int),aL (X++x::y::z::L) (X.length+1)=X++x::z::y::L:=λx y z L=>by
  rw[fV X x (y::z::L),fV X x (z::y::L)];have:=iK (X++[x]) y z L;rw[bq,ed] at this;exact this
 have g0:∀(x:Int) (L:List Int),(X++x::L).getD X.length 0=x:=λx L=>Il X x L;have g1:∀(x y:Int) (L:List Int),(X++x::y::L).getD (X.length+1) 0=y:=λx y L=>Aj X x y L;have g2:∀(x y z:Int) (L:List Int),(X++x::y::z::L).getD (X.length+1+1) 0=z:=λx y z L=>by
  rw[fV X x];have:=Aj (X++[x]) y z L;rw[bq,ed] at this;exact this
 have t0:∀L:List Int,(X++L).take X.length=X:=λL=>by simp
 have t1:∀(x:Int) (L:List Int),(X++x::L).take (X.length+1)=X++[x]:=λx L=>by
  rw[fV X x L,show X.length+1=(X++[x]).length by simp,List.take_left]
 refine⟨⟨((X.length+1:Nat):Int)::(X.length:Int)::((X.length+1:Nat):Int)::r,?_,?_⟩,⟨(X.length:Int)::((X.length+1:Nat):Int)::(X.length:Int)::r,?_,?_⟩⟩
 ·refine .cons ⋯ (by rw[g1,g2];exact k2) ?_;rw[s2];refine .cons ⋯ (by rw[g0,g1];ac_rfl) ?_;rw[s1];refine .cons ⋯ (by rw[g1,g2];exact k1) ?_;rw[s2];exact w
 ·simp only[fT,tls,bp,cf,tS,g0,g1,g2,s1,s2,t0,t1]
 ·refine .cons ⋯ (by rw[g0,g1];exact k1) ?_;rw[s1];refine .cons ⋯ (by rw[g1,g2];ac_rfl) ?_;rw[s2];refine .cons ⋯ (by rw[g0,g1];exact k2) ?_;rw[s1];exact w
 ·simp only[fT,tls,bp,cf,tS,g0,g1,g2,s1,s2,t0,t1]
theorem yL{s:Nat}{q:Int}(h1:q≠s/\q+1≠s)(h2:q≠((s+1:Nat):Int)/\q+1≠((s+1:Nat):Int)):(s:Int)+2<=q \/ q+2<=s:=⋯
variable {A B C D:List Ti}
theorem Ip{c:Int}(w:Walk ks l row e)(P:Pt ks.length l)(h:fT l row=A++(a,b,S)::(B++(a,c,srt (S++[b]))::(C++(b,c,S)::D))):
  ∃VW,Walk ks l VW e/\fT l VW=(A++B)++(b,c,srt (S++[a]))::(a,c,S)::(a,b,srt (S++[c]))::(C++D):=by
 obtain⟨m0,r0,q0,w0,v0,P0,e0,f0⟩:=B3 A w P h;obtain⟨s,q1,rfl,hs,k1,ga,gb,gS,sl,v1,P1,f1⟩:=EK v0 P0 f0;obtain⟨m2,r1,q2,w1,v2,P2,e1,f2⟩:=B3 B v1 P1 f1;obtain⟨s',q3,rfl,hs',k2,ga2,gc2,gS2,sl2,v3,P3,f3⟩:=EK v2 P2 f2;obtain⟨m4,r3,q4,w3,v4,P4,e3,f4⟩:=B3 C v3 P3 f3;obtain⟨s'',q5,rfl,hs'',k3,gb4,gc4,gS4,sl4,v5,P5,f5⟩:=EK v4 P4 f4;simp only at k1 k2 k3 ga gb gS sl ga2 gc2 gS2 sl2 gb4 gc4 gS4 sl4;rw[iC,bq,ed,<- sl] at sl2;rw[<- sl] at sl4;subst sl2 sl4;have l0:=P0.len;have l1:=P1.len;have l2:=P2.len;have l3:=P3.len;have l4:=P4.len;have b1:(aL m0 s'').getD s'' 0=b:=by rw[bG ⋯ ⋯,Vn ⋯,VH rfl];exact gb
 have a1:(aL m0 s'').getD (s''+1) 0=a:=by rw[bG ⋯ ⋯,VH rfl];exact ga
 have wb:=pin (w1.append (.cons hs' (by rw[ga2,gc2];exact k2) w3)) P1 (i:=s'') (j:=s'') ⋯ ⋯ b1 gb4 (by rw[hU ⋯,gS,gS4]);rw[xG w1] at wb;have nb:=λt ht=>wb t (jf _ ht);have sb:=still w1 P1 (i:=s'') ⋯ b1 nb;have sa:=still w1 P1 (i:=s''+1) ⋯ a1 (pin w1 P1 ⋯ ⋯ a1 ga2 (by
  rw[hG ⋯,hU ⋯,b1,gS2,<- dH,gS]))
 have c3:(aL m2 (s''+1)).getD (s''+1) 0=c:=by rw[bG ⋯ ⋯,Vn ⋯,VH rfl];exact gc2
 have b3:(aL m2 (s''+1)).getD s'' 0=b:=by rw[bG ⋯ ⋯,Vn ⋯,Vn ⋯];exact sb.1
 have sc:=still w3 P3 (i:=s''+1) ⋯ c3 (pin w3 P3 ⋯ ⋯ c3 gc4 (by
  rw[hU ⋯,gS2,hG ⋯,gb4,<- dH (m4.take s''),gS4]))
 have sb3:=still w3 P3 (i:=s'') ⋯ b3 λt ht=>wb t (by
  refine cu _ ?_;unfold fT at ht ⊢;rw[tls,cf,bp];exact bg _ ht)
 have pu:pos ((a,b,S):Ti)=(s'':Int):=by show ((S.length:Nat):Int)=_;rw[<- sl]
 have pw:pos ((b,c,S):Ti)=(s'':Int):=by show ((S.length:Nat):Int)=_;rw[<- sl]
 obtain⟨r6,w6,h6⟩:=Em P B A w h λt ht=>by
  rw[pu];rw[e1] at sb sa;exact yL (sb.2 t ht) (sa.2 t ht)
 obtain⟨r7,w7,h7⟩:=Eo P (u:=(b,c,S)) C (A:=A++(B++[(a,b,S),(a,c,srt (S++[b]))])) (X:=D) w6 (by rw[h6];simp) λt ht=>by
  rw[pw];rw[e3] at sb3 sc;exact yL (sb3.2 t ht) (sc.2 t ht)
 obtain⟨m,r8,q8,w8,v8,P8,e8,f8⟩:=B3 (A++B) (B:=(a,b,S)::(a,c,srt (S++[b]))::(b,c,S)::(C++D)) w7 P (by rw[h7];simp);obtain⟨t1,q9,rfl,ht1,_,ja,jb,jS,tl1,v9,P9,f9⟩:=EK v8 P8 f8;obtain⟨t2,q10,rfl,ht2,_,ja2,jc2,jS2,tl2,v10,P10,f10⟩:=EK v9 P9 f9;obtain⟨t3,q11,rfl,ht3,_,jb3,jc3,jS3,tl3,v11,P11,f11⟩:=EK v10 P10 f10;simp only at ja jb jS tl1 ja2 jc2 jS2 tl2 jb3 jc3 jS3 tl3;rw[iC,bq,ed,<- tl1] at tl2;rw[<- tl1] at tl3;subst tl2 tl3;have l8:=P8.len;have jc:m.getD (t3+2) 0=c:=by
  rw[bG ⋯ ⋯,Vn ⋯,Vn ⋯] at jc2;exact jc2
 obtain⟨X,Y,em,xl,xe⟩:=Ek (l:=m) (p:=t3) ⋯;rw[ja,jb,jc] at em;rw[<- xe] at jS;subst xl;have fin:aL (aL (aL m X.length) (X.length+1)) X.length=X++c::b::a::Y:=by
  rw[em,iK,fV X b,show X.length+1=(X++[b]).length by simp,iK,<- fV,iK]
 rw[fin] at v11 f11;rw[em] at P8 w8;obtain⟨⟨r',w',h'⟩,_⟩:=braid P8 v11 k1 k3;refine⟨r8++r',w8.append w',?_⟩;rw[xG w8,e8,h',f11,<- dH X a,<- dH X c,jS]
theorem Iq{c:Int}(w:Walk ks l row e)(P:Pt ks.length l)(h:fT l row=A++(b,c,srt (S++[a]))::(B++(a,c,S)::(C++(a,b,srt (S++[c]))::D))):
  ∃VW,Walk ks l VW e/\fT l VW=(A++B)++(a,b,S)::(a,c,srt (S++[b]))::(b,c,S)::(C++D):=by
 obtain⟨m0,r0,q0,w0,v0,P0,e0,f0⟩:=B3 A w P h;obtain⟨s,q1,rfl,hs,k1,gb,gc,gS,sl,v1,P1,f1⟩:=EK v0 P0 f0;obtain⟨m2,r1,q2,w1,v2,P2,e1,f2⟩:=B3 B v1 P1 f1;obtain⟨s',q3,rfl,hs',k2,ga2,gc2,gS2,sl2,v3,P3,f3⟩:=EK v2 P2 f2;obtain⟨m4,r3,q4,w3,v4,P4,e3,f4⟩:=B3 C v3 P3 f3;obtain⟨s'',q5,rfl,hs'',k3,ga4,gb4,gS4,sl4,v5,P5,f5⟩:=EK v4 P4 f4;simp only at k1 k2 k3 gb gc gS sl ga2 gc2 gS2 sl2 ga4 gb4 gS4 sl4;rw[iC,bq,ed,<- sl2] at sl sl4;subst sl sl4;have l0:=P0.len;have l1:=P1.len;have l2:=P2.len;have l3:=P3.len;have l4:=P4.len;have c1:(aL m0 (s'+1)).getD (s'+1) 0=c:=by rw[bG ⋯ ⋯,Vn ⋯,VH rfl];exact gc
 have b1:(aL m0 (s'+1)).getD (s'+2) 0=b:=by rw[bG ⋯ ⋯,VH rfl];exact gb
 have wb:=pin (w1.append (.cons hs' (by rw[ga2,gc2];exact k2) w3)) P1 (i:=s'+2) (j:=s'+2) ⋯ ⋯ b1 gb4 (by
  rw[hG ⋯,hU ⋯,c1,hG (l:=m4) ⋯,ga4,<- dH (m0.take (s'+1)),<- dH (m4.take (s'+1)),gS,gS4,dH,dH];refine mP ?_;rw[dh,dh];exact(List.Perm.swap _ _ _).append_left _)
 rw[xG w1] at wb;have nb:=λt ht=>wb t (jf _ ht);have sb:=still w1 P1 (i:=s'+2) ⋯ b1 nb;have sc:=still w1 P1 (i:=s'+1) ⋯ c1 (pin w1 P1 ⋯ ⋯ c1 gc2 (by
  rw[hU ⋯,gS,hG ⋯,ga2,<- dH (m2.take s'),gS2]))
 have a3:(aL m2 s').getD (s'+1) 0=a:=by rw[bG ⋯ ⋯,VH rfl];exact ga2
 have c3:(aL m2 s').getD s' 0=c:=by rw[bG ⋯ ⋯,Vn ⋯,VH rfl];exact gc2
 have b3:(aL m2 s').getD (s'+2) 0=b:=by rw[bG ⋯ ⋯,Vn ⋯,Vn ⋯];exact sb.1
 have sa:=still w3 P3 (i:=s'+1) ⋯ a3 (pin w3 P3 ⋯ ⋯ a3 ga4 (by
  rw[hG ⋯,hU ⋯,c3,gS4,<- dH (m2.take s'),gS2]))
 have sb3:=still w3 P3 (i:=s'+2) ⋯ b3 λt ht=>wb t (by
  refine cu _ ?_;unfold fT at ht ⊢;rw[tls,cf,bp];exact bg _ ht)
 have pu:pos ((b,c,srt (S++[a])):Ti)=((s'+1:Nat):Int):=by show (((srt (S++[a])).length:Nat):Int)=_;rw[iC,bq,ed,<- sl2]
 have pw:pos ((a,b,srt (S++[c])):Ti)=((s'+1:Nat):Int):=by show (((srt (S++[c])).length:Nat):Int)=_;rw[iC,bq,ed,<- sl2]
 obtain⟨r6,w6,h6⟩:=Em P B A w h λt ht=>by
  rw[pu];rw[e1] at sb sc;exact yL (sc.2 t ht) (sb.2 t ht)
 obtain⟨r7,w7,h7⟩:=Eo P (u:=(a,b,srt (S++[c]))) C (A:=A++(B++[(b,c,srt (S++[a])),(a,c,S)])) (X:=D) w6 (by rw[h6];simp) λt ht=>by
  rw[pw];rw[e3] at sb3 sa;exact yL (sa.2 t ht) (sb3.2 t ht)
 obtain⟨m,r8,q8,w8,v8,P8,e8,f8⟩:=B3 (A++B) (B:=(b,c,srt (S++[a]))::(a,c,S)::(a,b,srt (S++[c]))::(C++D)) w7 P (by rw[h7];simp);obtain⟨t1,q9,rfl,ht1,_,jb,jc,jS,tl1,v9,P9,f9⟩:=EK v8 P8 f8;obtain⟨t2,q10,rfl,ht2,_,ja2,jc2,jS2,tl2,v10,P10,f10⟩:=EK v9 P9 f9;obtain⟨t3,q11,rfl,ht3,_,ja3,jb3,jS3,tl3,v11,P11,f11⟩:=EK v10 P10 f10;simp only at jb jc jS tl1 ja2 jc2 jS2 tl2 ja3 jb3 jS3 tl3;rw[iC,bq,ed,<- tl2] at tl1 tl3;subst tl1 tl3;have l8:=P8.len;have ja:m.getD t2 0=a:=by
  rw[bG ⋯ ⋯,Vn ⋯,Vn ⋯] at ja2;exact ja2
 have tk:(aL m (t2+1)).take t2=m.take t2:=by
  have:=hU (l:=m) (p:=t2+1) ⋯;have:=congrArg (List.take t2) this;rw[TJ,TJ,nr ⋯] at this;exact this
 rw[tk] at jS2;obtain⟨X,Y,em,xl,xe⟩:=Ek (l:=m) (p:=t2) ⋯;rw[ja,jb,jc] at em;rw[<- xe] at jS2;subst xl;have fin:aL (aL (aL m (X.length+1)) X.length) (X.length+1)=X++c::b::a::Y:=by
  rw[em,fV X a,show X.length+1=(X++[a]).length by simp,iK,<- fV,iK,fV X c,show (X++[a]).length=(X++[c]).length by simp,iK,<- fV]
 rw[fin] at v11 f11;rw[em] at P8 w8;obtain⟨_,⟨r',w',h'⟩⟩:=braid P8 v11 k3 k1;refine⟨r8++r',w8.append w',?_⟩;rw[xG w8,e8,h',f11,<- dH X b,jS2]
theorem Emp.hex(w:Walk ks (ids ks.length) r e)(d:d5 ks e)(mo:jO ks){c:Int}(em:Emp ks r a b c)(hab:a<b)(hbc:b<c):
  ∃s1 s2 s3:List Int,(tls (ids ks.length) r)[tm ks r a b]?=aa (a,b,s1)/\(tls (ids ks.length) r)[tm ks r a c]?=aa (a,c,s2)/\(tls (ids ks.length) r)[tm ks r b c]?=aa (b,c,s3)/\zG (srt s1) (srt s2) (srt s3) a b c:=by
 have T:=w.tms d mo;have ia:=em.th.ix;have ib:=em.th.iy;have ic:=em.th.iw;have h0:=ia.lo;have hc:=ic.hi;have k1:=mo a b h0 ⋯ ⋯;have k2:=mo b c ⋯ ⋯ hc;have e1:=em.th.xy;have e2:=em.th.xw;have e3:=em.th.yw;have l1:=w.tm_lt d h0 hab ⋯ ⋯;have l2:=w.tm_lt d h0 (show a<c by ac_rfl) hc ⋯;have l3:=w.tm_lt d (show 0<=b by ac_rfl) hbc hc ⋯;obtain⟨s1,g1,d1,u1⟩:=w.underP h0 hab ⋯ l1;obtain⟨s2,g2,d2,u2⟩:=w.underP h0 (show a<c by ac_rfl) hc l2;obtain⟨s3,g3,d3,u3⟩:=w.underP (show 0<=b by ac_rfl) hbc hc l3;refine⟨s1,s2,s3,g1,g2,g3,?_⟩;have tr:=w.tri d mo h0 hab hbc hc e2;have y1:=eQ (T:=tm ks r) hab;have y2:=eQ (T:=tm ks r) (Td hab hbc);have y3:=eQ (T:=tm ks r) hbc;obtain⟨nab,nac,nbc⟩:=em.th.ne;have p12:∀z,In ks.length z->z≠a->z≠b->z≠c->(Pb (tm ks r) a b z ↔ Pb (tm ks r) a c z):=λz iz za zb zc=>by
  have no:=(em.no z iz za zb zc).1;rw[FP (dq za) (T.dif ia ib nab (dq za) (dq zb) e1) (T.dif ia ic nac (dq za) (dq zc) e2)] at no;exact qx.mp no
 have p13:∀z,In ks.length z->z≠a->z≠b->z≠c->(Pb (tm ks r) a b z ↔ Pb (tm ks r) b c z):=λz iz za zb zc=>by
  have no:=(em.no z iz za zb zc).2.1;rw[FP (dq zb) (T.dif ib ia nab.symm (dq zb) (dq za) e1.symm) (T.dif ib ic nbc (dq zb) (dq zc) e3)] at no;exact(T.pb ia ib iz nab (dq za) (dq zb) e1).trans (qx.mp no)
 have z12:∀z,z≠a->z≠b->z≠c->(z∈s1 ↔ z∈s2):=λz za zb zc=>by
  rw[u1,u2];exact⟨λq=>⟨q.1,za,zc,(p12 z q.1 za zb zc).mp q.2.2.2⟩,λq=>⟨q.1,za,zb,(p12 z q.1 za zb zc).mpr q.2.2.2⟩⟩
 have z13:∀z,z≠a->z≠b->z≠c->(z∈s1 ↔ z∈s3):=λz za zb zc=>by
  rw[u1,u3];exact⟨λq=>⟨q.1,zb,zc,(p13 z q.1 za zb zc).mp q.2.2.2⟩,λq=>⟨q.1,za,zb,(p13 z q.1 za zb zc).mpr q.2.2.2⟩⟩
 have a1:a ∉ s1:=λq=>((u1 a).mp q).2.1 rfl;have b1:b ∉ s1:=λq=>((u1 b).mp q).2.2.1 rfl;have a2:a ∉ s2:=λq=>((u2 a).mp q).2.1 rfl;have c2:c ∉ s2:=λq=>((u2 c).mp q).2.2.1 rfl;have b3:b ∉ s3:=λq=>((u3 b).mp q).2.1 rfl;have c3:c ∉ s3:=λq=>((u3 c).mp q).2.2.1 rfl;have one:∀{l:List Int} {x:Int},l.Nodup->x ∉ l->(l++[x]).Nodup:=λ{l x} h hx=>by
  rw[List.nodup_append];exact⟨h,by simp,λp hp q hq=>by rw[dg.mp hq];exact λz=>hx (z ▸ hp)⟩
 rcases tr with⟨t1,t2⟩ | ⟨t1,t2⟩
 ·have c1:c ∉ s1:=λq=>by
   rcases((u1 c).mp q).2.2.2 with z | z
   ·exact Te z.1 (Td hab hbc)
   ·rw[y1,y2] at z;exact Vt z.2 t1
  have a3:a ∉ s3:=λq=>by
   rcases((u3 a).mp q).2.2.2 with z | z
   ·rw[eR nab.symm,y1,y3] at z;exact Vt z.2 (Ux t1 t2)
   ·exact Te z.1 hab
  have m2:b∈s2:=(u2 b).mpr ⟨ib,nab.symm,nbc,.inr ⟨hab,by rw[y1,y2];exact t1⟩⟩;refine .inl ⟨mP ((fx d3 d1).mpr λz=>?_),?_⟩
  ·by_cases za:z=a
   ·subst za;exact⟨λq=>absurd q a3,λq=>absurd q a1⟩
   by_cases zb:z=b
   ·subst zb;exact⟨λq=>absurd q b3,λq=>absurd q b1⟩
   by_cases zc:z=c
   ·subst zc;exact⟨λq=>absurd q c3,λq=>absurd q c1⟩
   exact(z13 z za zb zc).symm
  ·rw[dH];refine mP ((fx d2 (one d1 b1)).mpr λz=>?_);rw[de,dg];by_cases zb:z=b
   ·subst zb;exact⟨λ_=>.inr rfl,λ_=>m2⟩
   by_cases za:z=a
   ·subst za;exact⟨λq=>absurd q a2,λq=>q.elim (λq=>absurd q a1) λq=>absurd q zb⟩
   by_cases zc:z=c
   ·subst zc;exact⟨λq=>absurd q c2,λq=>q.elim (λq=>absurd q c1) λq=>absurd q zb⟩
   exact⟨λq=>.inl ((z12 z za zb zc).mpr q),λq=>q.elim (λq=>(z12 z za zb zc).mp q) λq=>absurd q zb⟩
 ·have b2:b ∉ s2:=λq=>by
   rcases((u2 b).mp q).2.2.2 with z | z
   ·exact Te z.1 hab
   ·rw[y1,y2] at z;exact Vt z.2 t2
  have m1:c∈s1:=(u1 c).mpr ⟨ic,nac.symm,nbc.symm,.inr ⟨Td hab hbc,by rw[y1,y2];exact t2⟩⟩;have m3:a∈s3:=(u3 a).mpr ⟨ia,nab,nac,.inl ⟨hab,by rw[eR nab.symm,y1,y3];exact Ux t1 t2⟩⟩;refine .inr ⟨?_,?_⟩
  ·rw[dH];refine mP ((fx d1 (one d2 c2)).mpr λz=>?_);rw[de,dg];by_cases zc:z=c
   ·subst zc;exact⟨λ_=>.inr rfl,λ_=>m1⟩
   by_cases za:z=a
   ·subst za;exact⟨λq=>absurd q a1,λq=>q.elim (λq=>absurd q a2) λq=>absurd q zc⟩
   by_cases zb:z=b
   ·subst zb;exact⟨λq=>absurd q b1,λq=>q.elim (λq=>absurd q b2) λq=>absurd q zc⟩
   exact⟨λq=>.inl ((z12 z za zb zc).mp q),λq=>q.elim (λq=>(z12 z za zb zc).mpr q) λq=>absurd q zc⟩
  ·rw[dH];refine mP ((fx d3 (one d2 a2)).mpr λz=>?_);rw[de,dg];by_cases za:z=a
   ·subst za;exact⟨λ_=>.inr rfl,λ_=>m3⟩
   by_cases zb:z=b
   ·subst zb;exact⟨λq=>absurd q b3,λq=>q.elim (λq=>absurd q b2) λq=>absurd q za⟩
   by_cases zc:z=c
   ·subst zc;exact⟨λq=>absurd q c3,λq=>q.elim (λq=>absurd q c2) λq=>absurd q za⟩
   exact⟨λq=>.inl ((z12 z za zb zc).mp ((z13 z za zb zc).mpr q)),λq=>q.elim (λq=>(z13 z za zb zc).mp ((z12 z za zb zc).mpr q)) λq=>absurd q za⟩
structure UpT(ks r:List Int)(a b c:Int):Prop where
 a0:0<=a
 ab:a<b
 bc:b<c
 cn:c<ks.length
 t1:tm ks r a b<tm ks r a c
 t2:tm ks r a c<tm ks r b c
 t3:tm ks r b c<r.length
theorem upmin(w:Walk ks (ids ks.length) r e)(d:d5 ks e)(mo:jO ks):∀(m:Nat) (a b c:Int),UpT ks r a b c->tm ks r b c<=tm ks r a b+m -> ∃a b c,UpT ks r a b c/\Emp ks r a b c:=by
 have kn:∀{x y:Int},tm ks r x y<r.length->kd ks x<kd ks y:=λ{x y} h=>by
  apply eh;intro z;have:=w.tm_alike (x:=x) (y:=y) z;ac_rfl
 have tri:=λ(i j k:Int) (h0:0<=i) (h1:i<j) (h2:j<k) (h3:k<ks.length) (hk:kd ks i≠kd ks k)=>w.tri d mo h0 h1 h2 h3 hk;intro m;induction m with
 |zero=>
  intro a b c u h;have:=u.t1;have:=u.t2;ac_rfl
 |succ m ih=>
  intro a b c u h;obtain⟨a0,ab,bc,cn,t1,t2,t3⟩:=u;have k1:=kn (show tm ks r a b<r.length by ac_rfl);have k2:=kn t3;by_cases q:∃z,In ks.length z/\z≠a/\z≠b/\z≠c/\(btw (tt (tm ks r) a z) (tm ks r a b) (tm ks r a c) \/ btw (tt (tm ks r) b z) (tm ks r a b) (tm ks r b c) \/ btw (tt (tm ks r) c z) (tm ks r a c) (tm ks r b c))
  ·obtain⟨z,iz,za,zb,zc,h3⟩:=q;have z0:=iz.lo;have zn:=iz.hi;unfold btw at h3;have go:∀x y v:Int,UpT ks r x y v->tm ks r y v<tm ks r a b+(m+1)+(tm ks r x y-tm ks r a b)/\tm ks r a b<=tm ks r x y -> ∃a b c,UpT ks r a b c/\Emp ks r a b c:=λx y v U hh=>ih x y v U ⋯;rcases qy z a with p | p | p
   ·have y1:tt (tm ks r) a z=tm ks r z a:=by unfold tt;rw[Vn ⋯]
    have y2:tt (tm ks r) b z=tm ks r z b:=by unfold tt;rw[Vn ⋯]
    have y3:tt (tm ks r) c z=tm ks r z c:=by unfold tt;rw[Vn ⋯]
    rw[y1,y2,y3] at h3;have m0:=mo z a z0 ⋯ ⋯;have r1:=tri z a b z0 p ab ⋯ ⋯;have r2:=tri z a c z0 p ⋯ cn ⋯;have r3:=tri z b c z0 ⋯ bc cn ⋯;by_cases f:tm ks r z b<tm ks r z c/\tm ks r z c<tm ks r b c/\tm ks r a b<tm ks r z b
    ·exact go z b c ⟨z0,⋯,bc,cn,⋯,⋯,⋯⟩ ⋯
    ·exact go z a c ⟨z0,⋯,⋯,cn,⋯,⋯,⋯⟩ ⋯
   ·exact absurd p za
   ·rcases qy z b with p' | p' | p'
    ·have y1:tt (tm ks r) a z=tm ks r a z:=by unfold tt;rw[VH ⋯]
     have y2:tt (tm ks r) b z=tm ks r z b:=by unfold tt;rw[Vn ⋯]
     have y3:tt (tm ks r) c z=tm ks r z c:=by unfold tt;rw[Vn ⋯]
     rw[y1,y2,y3] at h3;have m0:=mo a z a0 ⋯ ⋯;have m1:=mo z b z0 ⋯ ⋯;have r1:=tri a z b a0 p p' ⋯ ⋯;have r2:=tri a z c a0 p ⋯ cn ⋯;have r3:=tri z b c z0 p' bc cn ⋯;by_cases f:tm ks r z b<tm ks r z c/\tm ks r z c<tm ks r b c/\tm ks r a b<tm ks r z b
     ·exact go z b c ⟨z0,⋯,bc,cn,⋯,⋯,⋯⟩ ⋯
     ·exact go a z c ⟨a0,⋯,⋯,cn,⋯,⋯,⋯⟩ ⋯
    ·exact absurd p' zb
    ·rcases qy z c with p'' | p'' | p''
     ·have y1:tt (tm ks r) a z=tm ks r a z:=by unfold tt;rw[VH ⋯]
      have y2:tt (tm ks r) b z=tm ks r b z:=by unfold tt;rw[VH ⋯]
      have y3:tt (tm ks r) c z=tm ks r z c:=by unfold tt;rw[Vn ⋯]
      rw[y1,y2,y3] at h3;have m0:=mo b z ⋯ ⋯ ⋯;have m1:=mo z c z0 ⋯ ⋯;have r1:=tri a b z a0 ab p' ⋯ ⋯;have r2:=tri a z c a0 ⋯ p'' cn ⋯;have r3:=tri b z c ⋯ p' p'' cn ⋯;by_cases f:tm ks r a b<tm ks r a z/\tm ks r a z<tm ks r b z/\tm ks r b z<tm ks r b c
      ·exact go a b z ⟨a0,⋯,⋯,⋯,⋯,⋯,⋯⟩ ⋯
      ·exact go a z c ⟨a0,⋯,⋯,cn,⋯,⋯,⋯⟩ ⋯
     ·exact absurd p'' zc
     ·have y1:tt (tm ks r) a z=tm ks r a z:=by unfold tt;rw[VH ⋯]
      have y2:tt (tm ks r) b z=tm ks r b z:=by unfold tt;rw[VH ⋯]
      have y3:tt (tm ks r) c z=tm ks r c z:=by unfold tt;rw[VH ⋯]
      rw[y1,y2,y3] at h3;have m0:=mo c z ⋯ ⋯ ⋯;have r1:=tri a b z a0 ab p' ⋯ ⋯;have r2:=tri a c z a0 ⋯ p'' ⋯ ⋯;have r3:=tri b c z ⋯ bc p'' ⋯ ⋯;exact go a b z ⟨a0,⋯,⋯,⋯,⋯,⋯,⋯⟩ ⋯
  ·refine⟨a,b,c,⟨a0,ab,bc,cn,t1,t2,t3⟩,⟨⟨⟨a0,⋯⟩,⟨⋯,⋯⟩,⟨⋯,cn⟩,⋯,⋯,⋯⟩,λz iz za zb zc=>⟨λf=>?_,λf=>?_,λf=>?_⟩⟩⟩
   ·rw[eQ ab,eQ (show a<c by ac_rfl)] at f;exact q ⟨z,iz,za,zb,zc,.inl f⟩
   ·rw[eR (show b≠a by ac_rfl),eQ ab,eQ bc] at f;exact q ⟨z,iz,za,zb,zc,.inr (.inl f)⟩
   ·rw[eR (show c≠a by ac_rfl),eQ (show a<c by ac_rfl),eR (show c≠b by ac_rfl),eQ bc] at f;exact q ⟨z,iz,za,zb,zc,.inr (.inr f)⟩
end Fl
variable {rows:List Sf.Rw}
namespace Lw
open L2 Z
open Sf (Rw crs qZ Pre Good aI aW)
noncomputable abbrev rD(r:Rw):Dv:=.tup [.int r.x,.int r.y,.int r.m]
noncomputable abbrev BI(rows:List Rw):List Dv:=rows.map rD
noncomputable abbrev aZ(r:List Int):List Dv:=r.map Dv.int
noncomputable abbrev BK(rows:List Rw):List Dv:=rows.map λr=>.tup [.int r.x,.int r.y]
noncomputable abbrev b5(C:ae)(rows:List Rw):Dv:=.obj C [("kinds",.tup (aZ (aI rows))),("vectors",.tup (BK rows))]
noncomputable abbrev Sv:Int:=999999999999
noncomputable def LV(r:Rw):Prop:=r.up /\ -999999999999<=r.x/\r.x<=999999999999/\r.y<=999999999999/\1<=r.m
noncomputable def xK:Fn:=λds Q=>∃n:Int,ds=[.int n]/\Q (.v (.bl ai))
noncomputable def qD:Fn:=λds Q=>∃r:Rw,ds=[rD r]/\Q (.v (.bl ai))
noncomputable def rG:Fn:=λds Q=>∃r:Rw,ds=[rD r]/\LV r/\Q (.v (.bl ai))
noncomputable def lE:Fn:=λds Q=>∃r a:Rw,ds=[rD r,rD a]/\LV r/\LV a/\0<crs a r/\Q (.v (.bl ai))
noncomputable def lG:Fn:=λds Q=>∃r:Rw,ds=[rD r]/\LV r/\Q (.v .non)
noncomputable def rH:Fn:=λds Q=>∃rows:List Rw,ds=[.lst (BI rows)]/\Good rows/\Q (.v .non)
noncomputable def qE(C:ae):Fn:=λds Q=>∃rows:List Rw,ds=[.lst (BI rows)]/\Good rows/\Q (.nw (b5 C rows))
theorem IW:∀ds Q,xK ds Q->ds.length=1:=by rintro ds Q ⟨_,rfl,_⟩;rfl
theorem Dm:∀ds Q,qD ds Q->ds.length=1:=by rintro ds Q ⟨_,rfl,_⟩;rfl
theorem Ci:∀ds Q,rG ds Q->ds.length=1:=by rintro ds Q ⟨_,rfl,_⟩;rfl
theorem G3:∀ds Q,lE ds Q->ds.length=2:=by rintro ds Q ⟨_,_,rfl,_⟩;rfl
theorem G9:∀ds Q,lG ds Q->ds.length=1:=by rintro ds Q ⟨_,rfl,_⟩;rfl
theorem IY:∀ds Q,rH ds Q->ds.length=1:=by rintro ds Q ⟨_,rfl,_⟩;rfl
theorem Do:∀ds Q,qE C ds Q->ds.length+1=2:=by rintro ds Q ⟨_,rfl,_⟩;rfl
theorem Ki:MonoF xK:=⟨λds Q Q' w z=>by obtain⟨r,e,h⟩:=z;exact⟨r,e,w _ h⟩⟩
theorem Fg:MonoF qD:=⟨λds Q Q' w z=>by obtain⟨r,e,h⟩:=z;exact⟨r,e,w _ h⟩⟩
theorem Fo:MonoF rG:=⟨λds Q Q' w z=>by obtain⟨r,e,a,h⟩:=z;exact⟨r,e,a,w _ h⟩⟩
theorem IG:MonoF lE:=⟨λds Q Q' w z=>by obtain⟨r,e,a,b,c,d,h⟩:=z;exact⟨r,e,a,b,c,d,w _ h⟩⟩
theorem IJ:MonoF lG:=⟨λds Q Q' w z=>by obtain⟨r,e,a,h⟩:=z;exact⟨r,e,a,w _ h⟩⟩
theorem Kk:MonoF rH:=⟨λds Q Q' w z=>by obtain⟨r,e,a,h⟩:=z;exact⟨r,e,a,w _ h⟩⟩
theorem Fh:MonoF (qE C):=⟨λds Q Q' w z=>by obtain⟨r,e,a,h⟩:=z;exact⟨r,e,a,w _ h⟩⟩
theorem Bi:∀ds Q,xK ds Q->oV ↥Q (aM ["thing"] ds):=by
 rintro ds Q ⟨n,rfl,q⟩;ac_nf;exact⟨rfl,rfl,q⟩
theorem oZ:∀ds Q,qD ds Q->fZ xK ↥Q (aM ["direction"] ds):=by
 rintro ds Q ⟨r,rfl,q⟩;ac_nf;refine⟨rfl,?_⟩;rw[show GK "tuple" (rD r)=ai from rfl];ac_nf;rw[show (!decide (((0+1+1+1:Nat):Int)=3))=ak from rfl];ac_nf;refine⟨_,rfl,?_⟩;ac_nf;refine⟨_,rfl,?_⟩;ac_nf;refine⟨_,rfl,?_⟩;ac_nf;exact⟨[ai,ai,ai],rfl,q⟩
theorem qO:∀ds Q,rG ds Q->gH ↥Q (aM ["direction"] ds):=by
 rintro ds Q ⟨r,rfl,⟨hu,h1,h2,h3,_⟩,q⟩;have hy:0<=r.y:=by rcases hu with h | h<;>ac_rfl
 ac_nf;rw[VH (show (if r.x<0 then -r.x else r.x)<=999999999999 by split<;>ac_rfl),decide_eq_true (show (if r.y<0 then -r.y else r.y)<=999999999999 by split<;>ac_rfl)];exact q
theorem AJ:∀ds Q,rG ds Q->mH ↥Q (aM ["direction"] ds):=by
 rintro ds Q ⟨r,rfl,⟨hu,h1,h2,h3,_⟩,q⟩;ac_nf;rcases hu with h | ⟨h,h'⟩
 ·rw[VH h];exact q
 ·rw[Vn ⋯,VH h,decide_eq_true h'];exact q
theorem AK:∀ds Q,lE ds Q->mJ ↥Q (aM ["direction", "ahead"] ds):=by
 rintro ds Q ⟨r,a,rfl,⟨hu,h1,h2,h3,_⟩,⟨gu,g1,g2,g3,_⟩,hc,q⟩;ac_nf;refine⟨.inl (.inl ⟨⋯,⋯⟩),.inl (.inl ⟨⋯,⋯⟩),?_⟩;rw[decide_eq_true (show 0<a.x*r.y-r.x*a.y from hc)];exact q
theorem qP:∀ds Q,lG ds Q->gI qD rG rG ↥Q (aM ["direction"] ds):=by
 rintro ds Q ⟨r,rfl,ok,q⟩;ac_nf;refine⟨r,rfl,?_⟩;ac_nf;refine⟨r,rfl,ok,?_⟩;ac_nf;refine⟨r,rfl,ok,?_⟩;ac_nf;rw[Vn (by have:=ok.2.2.2.2;ac_rfl)];exact q
variable {x:Sl}{E:En}
theorem Nf:∀(rows:List Rw) (s t:Sl),(∀r∈rows,LV r)->(∀s,E.nx [x,s,t])->bI (gN 1) (iU lG lE) [] (BI rows) E [x,s,t]:=by
 intro rows;induction rows with
 |nil=>
  intro s t _ h;ac_nf;exact h s
 |cons r rs ih=>
  intro s t ok h;ac_nf;refine⟨r,rfl,ok r (by simp),?_⟩;ac_nf;exact ih _ _ (λr hr=>ok r (by simp[hr])) h
theorem Nc:∀(rows:List Rw) (acc:List Int),acc.length+rows.length<=100->Q (.nw (.lst (aZ (acc++rows.map (·.m)))))->cP [.un] (gN 0) lX (aP bX (a8 0) (eC (.int 2))) (BI rows) (aZ acc) Q:=by
 intro rows;induction rows with
 |nil=>
  intro acc _ h;ac_nf;simpa using h
 |cons r rs ih=>
  intro acc hl h;simp only[bh] at hl;push_cast [ay];refine⟨⋯,?_⟩;rw[show aZ acc++[Dv.int r.m]=aZ (acc++[r.m]) by simp];exact ih _ (by simp;ac_rfl) (by simpa using h)
theorem Nd:∀(rows:List Rw) (s t:Sl),qZ rows->(∀r∈rows,LV r)->(∀s t,E.nx [x,s,t])->bI (gT [2,1]) (fD lG lE) [] (zM (BI rows) (BI (rows.drop 1))) E [x,s,t]:=by
 intro rows;induction rows with
 |nil=>
  intro s t _ _ h;push_cast [zM,List.zipWith_nil_left];exact h s t
 |cons a rs ih=>
  intro s t srt ok h;cases rs with
  |nil=>
   push_cast [zM,List.drop,T9];exact h s t
  |cons b rs=>
   push_cast [zM,List.drop,T9];refine⟨b,a,rfl,ok b (by simp),ok a (by simp),?_,?_⟩
   ·exact(ee.mp srt).1 b (by simp)
   ·ac_nf;exact ih _ _ (ee.mp srt).2 (λr hr=>ok r (by simp at hr ⊢;exact .inr hr)) h
theorem p0:∀ds Q,rH ds Q->g5 lG lE ↥Q (aM ["directions", "direction", "ahead"] ds):=by
 rintro ds Q ⟨rows,rfl,G,q⟩;have lo:=G.lo;have hi:=G.hi;push_cast [ay];refine⟨rfl,?_⟩;rw[show GK "list" (.lst (BI rows))=ai from rfl];ac_nf;rw[VH ⋯,decide_eq_true (show (rows.length:Int)<=6 by ac_rfl)];ac_nf;refine Nf rows _ _ G.ok λs=>?_;ac_nf;refine Nc rows [] (by simp;ac_rfl) ?_;refine⟨rows.map (·.m),by simp,?_⟩;ac_nf;rw[Vn (by have:=G.tot;unfold Sf.many at this;ac_rfl)];show bI (gT [2,1]) (fD lG lE) [] _ _ _;rw[Az ∅,show (BI rows).drop (Int.toNat 1)=BI (rows.drop 1) by simp[BI]];exact Nd rows _ _ G.srt G.ok λs t=>q
theorem Dj(h:∀r∈rows,1<=r.m):∀k,Sf.many (rows.take k)<=Sf.many rows:=by
 induction rows with
 |nil=>intro k;simp
 |cons r rs ih=>
  intro k;cases k with
  |zero=>
   have:=ih (λr hr=>h r (by simp[hr])) 0;have hm:=h r (by simp);simp only[Sf.many,List.take_zero,uz,List.sum_nil,cf,vq] at *;ac_rfl
  |succ k=>
   have:=ih (λr hr=>h r (by simp[hr])) k;simp only[Sf.many,sx,cf,vq] at *;ac_rfl
theorem L6{y:Sl}:∀(rs:List Rw) (k:Nat) (ks:List Int) (s t:Sl),(∀r∈rs,1<=r.m)->(ks.length:Int)+Sf.many rs<=12->(∀s t,E.nx [x,y,.own a (.lst (aZ (ks++aW k rs))),s,t]) ->
  bI (gT [3,4]) (qY C rH) [] (((BI rs).zipIdx k).map λq=>.tup [.int (q.2:Int),q.1]) E [x,y,.own a (.lst (aZ ks)),s,t]:=by
 intro rs;induction rs with
 |nil=>
  intro k ks s t _ _ h;push_cast [U4];simpa [aW] using h s t
 |cons r rs ih=>
  intro k ks s t ok hb h;have hm:=ok r (by simp);have hp:0<=Sf.many rs:=by
   have:=Dj (λr hr=>ok r (by simp[hr])) (rows:=rs) 0;simpa [Sf.many] using this
  have hb':(ks.length:Int)+(r.m+Sf.many rs)<=12:=by simpa [Sf.many] using hb
  push_cast [Tq,qY,ay];refine⟨⟨⋯,⋯,⋯⟩,?_⟩;have e:(ao r.m.toNat [Dv.int (k:Int)]).flatten=aZ (ao r.m.toNat (k:Int)):=by
   rw[kj];simp
  rw[e];refine⟨by simp;ac_rfl,?_⟩;rw[show aZ ks++aZ (ao r.m.toNat (k:Int))=aZ (ks++ao r.m.toNat (k:Int)) by simp];refine ih (k+1) _ _ _ (λr hr=>ok r (by simp[hr])) (by simp;ac_rfl) λs t=>?_;rw[dh];exact h s t
theorem L5:∀(rows:List Rw) (acc:List Rw),acc.length+rows.length<=100->Q (.nw (.lst (BK (acc++rows))))->cP [.un] (gN 0) lX (bQ (a7 (aP bX (a8 0) (eC (.int 0))) (a7 (aP bX (a8 0) (eC (.int 1))) aG))) (BI rows) (BK acc) Q:=by
 intro rows;induction rows with
 |nil=>
  intro acc _ h;ac_nf;simpa using h
 |cons r rs ih=>
  intro acc hl h;simp only[bh] at hl;push_cast [ay];refine⟨⋯,?_⟩;rw[show BK acc++[Dv.tup [Dv.int r.x,Dv.int r.y]]=BK (acc++[r]) by simp];exact ih _ (by simp;ac_rfl) (by simpa using h)
theorem KO:∀ds Q,qE C ds Q -> ∀a,BR C rH { nx:=λρ=>∃d,ρ[0]?=aa (.own a d)/\Q (.nw d),rt:=λ_=>False } (j0 C a ["self", "directions", "kinds", "number", "direction"] ds):=by
 rintro ds Q ⟨rows,rfl,G,q⟩ a;have hi:=G.hi;ac_nf;refine⟨rows,rfl,G,?_⟩;ac_nf;intro b;show bI (gT [3,4]) (qY C rH) [] (((BI rows).zipIdx 0).map λq=>.tup [.int (q.2:Int),q.1]) _ [_,_,.own b (.lst (aZ [])),_,_];refine L6 rows 0 [] _ _ (λr hr=>(G.ok r hr).2.2.2.2) (by simpa using G.tot) λs t=>?_;ac_nf;refine L5 rows [] (by simp;ac_rfl) ?_;ac_nf;exact⟨(by decide:1<1000),_,rfl,q⟩
end Lw
namespace Lw
open L2 Z
open Sf (Rw crs qZ Pre Good aI aW place many)
open Fl (kd ids)
variable {r:List Int}
theorem gY{k:Nat}(h:k<r.length):oP (aZ r) (k:Int)=aa (.int (r.getD k 0)):=by
 rw[lV ⋯ (by simp;ac_rfl)];simp[eo,h]
theorem vA{i:Int}(h0:0<=i)(h:i<r.length):oP (aZ r) i=aa (.int (r.getD i.toNat 0)):=by
 obtain⟨k,rfl⟩:∃k:Nat,i=k:=⟨i.toNat,⋯⟩;rw[gY ⋯,bp]
theorem A6(n:Nat):bP 0 n=aZ (ids n):=by unfold bP;simp
noncomputable def fF(C:ae):Fn:=λds Q=>∃(rows:List Rw) (b:Nat),ds=[b5 C rows,.int b]/\b<(aI rows).length/\Q (.v (.int ((aI rows).getD b 0)))
theorem G4:∀ds Q,fF C ds Q->ds.length=2:=by rintro ds Q ⟨_,_,rfl,_⟩;rfl
theorem jY:MonoF (fF C):=⟨λds Q Q' w z=>by obtain⟨r,b,e,a,h⟩:=z;exact⟨r,b,e,a,w _ h⟩⟩
theorem KN:∀ds Q,fF C ds Q->BQ C ↥Q (aM ["self", "band"] ds):=by
 rintro ds Q ⟨rows,b,rfl,hb,h⟩;ac_nf;rw[show List.lookup (gf "kinds") [(gf "kinds",Dv.tup (aZ (aI rows))),(gf "vectors",Dv.tup (BK rows))]=aa (Dv.tup (aZ (aI rows))) from rfl];ac_nf;rw[gY hb];exact h
noncomputable def fE(C:ae):Fn:=λds Q=>∃rows:List Rw,ds=[b5 C rows]/\Q (.v (.int (aI rows).length))
theorem G0:∀ds Q,fE C ds Q->ds.length=1:=by rintro ds Q ⟨_,rfl,_⟩;rfl
theorem lK:MonoF (fE C):=⟨λds Q Q' w z=>by obtain⟨r,e,h⟩:=z;exact⟨r,e,w _ h⟩⟩
theorem KM:∀ds Q,fE C ds Q->BP C ↥Q (aM ["self"] ds):=by
 rintro ds Q ⟨rows,rfl,h⟩;ac_nf;rw[show List.lookup (gf "kinds") [(gf "kinds",Dv.tup (aZ (aI rows))),(gf "vectors",Dv.tup (BK rows))]=aa (Dv.tup (aZ (aI rows))) from rfl];push_cast [ay];exact h
noncomputable abbrev CU(l:List (Int×Int)):List Dv:=l.map λt=>.tup [.int t.1,.int t.2]
noncomputable abbrev cM(l:List (Int×Int×Int)):List Dv:=l.map λt=>.tup [.int t.1,.int t.2.1,.int t.2.2]
noncomputable def yH(ks:List Int)(a:Int):Nat->Nat->List (Int×Int)
 |0,_=>[]
 |i+1,b=>(if kd ks a=kd ks b then [] else [(a,(b:Int))])++yH ks a i (b+1)
noncomputable def mV(ks:List Int):Nat->Nat->List (Int×Int)
 |0,_=>[]
 |i+1,a=>yH ks a (ks.length-(a+1)) (a+1)++mV ks i (a+1)
noncomputable def jG(ks:List Int):List (Int×Int):=mV ks ks.length 0
noncomputable def wT(ks:List Int)(a b:Int):Nat->Nat->List (Int×Int×Int)
 |0,_=>[]
 |i+1,c=>(if kd ks c=kd ks b then [] else [(a,b,(c:Int))])++wT ks a b i (c+1)
noncomputable def eY(ks:List Int)(l:List (Int×Int)):List (Int×Int×Int):=l.flatMap λt=>wT ks t.1 t.2 (ks.length-(t.2.toNat+1)) (t.2.toNat+1)
noncomputable def aO(ks:List Int):List (Int×Int×Int):=eY ks (jG ks)
theorem yG(ks:List Int)(a:Int):∀i b,(yH ks a i b).length<=i
 |0,_=>bo _
 |i+1,b=>by rw[yH,bq];have:=yG ks a i (b+1);split<;>simp<;>ac_rfl
theorem u8(ks:List Int):∀i a,(mV ks i a).length<=i*ks.length
 |0,_=>nj _
 |i+1,a=>by rw[mV,bq,wq];have:=u8 ks i (a+1);have:=yG ks a (ks.length-(a+1)) (a+1);ac_rfl
theorem yF(ks:List Int)(a b:Int):∀i c,(wT ks a b i c).length<=i
 |0,_=>bo _
 |i+1,c=>by rw[wT,bq];have:=yF ks a b i (c+1);split<;>simp<;>ac_rfl
theorem pZ(ks:List Int):∀l,(eY ks l).length<=l.length*ks.length
 | []=>nj _
 |t::l=>by
  have h1:=pZ ks l;have h2:=yF ks t.1 t.2 (ks.length-(t.2.toNat+1)) (t.2.toNat+1);unfold eY at h1 ⊢;rw[Tf,bq,bh,wq];ac_rfl
theorem tD(ks:List Int)(a:Int):∀(i b:Nat) (t:Int×Int),t∈yH ks a i b ↔ t.1=a/\(b:Int)<=t.2/\t.2<(b+i:Nat)/\kd ks a≠kd ks t.2
 |0,b,t=>by simp[yH];intro _ h1 h2;ac_rfl
 |i+1,b,t=>by
  rw[yH,de,tD ks a i (b+1) t];obtain⟨x,y⟩:=t;by_cases e:kd ks a=kd ks (b:Int)
  ·rw[VH e];constructor
   ·rintro(h | ⟨h1,h2,h3,h4⟩)
    ·cases h
    ·exact⟨h1,⋯,⋯,h4⟩
   ·rintro⟨h1,h2,h3,h4⟩;have:y≠(b:Int):=λz=>h4 (by rw[z];exact e);exact .inr ⟨h1,by dsimp only at *;ac_rfl,by dsimp only at *;ac_rfl,h4⟩
  ·rw[Vn e];constructor
   ·rintro(h | ⟨h1,h2,h3,h4⟩)
    ·rw[dg] at h;cases h;exact⟨rfl,vc _,by dsimp only;ac_rfl,e⟩
    ·exact⟨h1,⋯,⋯,h4⟩
   ·rintro⟨h1,h2,h3,h4⟩;by_cases z:y=(b:Int)
    ·exact .inl (by rw[dg,z];dsimp only at h1;rw[h1])
    ·exact .inr ⟨h1,by dsimp only at *;ac_rfl,by dsimp only at *;ac_rfl,h4⟩
theorem u7(ks:List Int):∀(i a:Nat) (t:Int×Int),a+i=ks.length->(t∈mV ks i a ↔ (a:Int)<=t.1/\t.1<t.2/\t.2<ks.length/\kd ks t.1≠kd ks t.2)
 |0,a,t,h=>by simp[mV];intro h1 h2 h3;ac_rfl
 |i+1,a,t,h=>by
  rw[mV,de,tD,u7 ks i (a+1) t ⋯];constructor
  ·rintro(⟨h1,h2,h3,h4⟩ | ⟨h1,h2,h3,h4⟩)
   ·exact⟨⋯,⋯,⋯,by rw[h1];exact h4⟩
   ·exact⟨⋯,h2,h3,h4⟩
  ·rintro⟨h1,h2,h3,h4⟩;by_cases z:t.1=(a:Int)
   ·exact .inl ⟨z,⋯,⋯,by rw[<- z];exact h4⟩
   ·exact .inr ⟨⋯,h2,h3,h4⟩
theorem kM{t:Int×Int}:t∈jG ks ↔ 0<=t.1/\t.1<t.2/\t.2<ks.length/\kd ks t.1≠kd ks t.2:=u7 ks ks.length 0 t ⋯
theorem qR(ks:List Int)(a b:Int):∀(i c:Nat) (t:Int×Int×Int),t∈wT ks a b i c->t.1=a/\t.2.1=b/\(c:Int)<=t.2.2/\t.2.2<(c+i:Nat)/\kd ks t.2.2≠kd ks b
 |0,c,t,h=>by cases h
 |i+1,c,t,h=>by
  rw[wT,de] at h;rcases h with h | h
  ·split at h
   ·cases h
   ·rename_i e;rw[dg] at h;cases h;exact⟨rfl,rfl,vc _,by dsimp only;ac_rfl,e⟩
  ·obtain⟨h1,h2,h3,h4,h5⟩:=qR ks a b i (c+1) t h;exact⟨h1,h2,⋯,⋯,h5⟩
theorem hC{t:Int×Int×Int}(h:t∈aO ks):0<=t.1/\t.1<t.2.1/\t.2.1<t.2.2/\t.2.2<ks.length/\kd ks t.1≠kd ks t.2.1/\kd ks t.2.1≠kd ks t.2.2:=by
 obtain⟨u,hu,ht⟩:=U2.mp h;obtain⟨a1,a2,a3,a4⟩:=kM.mp hu;obtain⟨h1,h2,h3,h4,h5⟩:=qR ks u.1 u.2 _ _ t ht;exact⟨⋯,⋯,⋯,⋯,by rw[h1,h2];exact a4,by rw[h2];exact λz=>h5 z.symm⟩
noncomputable def iL(C:ae):Fn:=λds Q=>∃rows:List Rw,ds=[b5 C rows]/\(aI rows).length<=12/\Q (.nw (.lst (CU (jG (aI rows)))))
theorem Dp:∀ds Q,iL C ds Q->ds.length=1:=by rintro ds Q ⟨_,rfl,_⟩;rfl
theorem uC:MonoF (iL C):=⟨λds Q Q' w z=>by obtain⟨r,e,a,h⟩:=z;exact⟨r,e,a,w _ h⟩⟩
variable {l:ae}{E:En}
theorem Hw{a:Nat}(ha:a<(aI rows).length):∀(i b:Nat) (acc:List (Int×Int)) (s:Sl),b+i=(aI rows).length->acc.length+i<=1000 ->
  (∀s,E.nx [.v (b5 C rows),.own l (.lst (CU (acc++yH (aI rows) a i b))),.v (.int a),s]) ->
  bI (gN 3) (xB C (fE C) (fF C)) [] (bP b i) E [.v (b5 C rows),.own l (.lst (CU acc)),.v (.int a),s]:=by
 intro i;induction i with
 |zero=>
  intro b acc s _ _ h;rw[eG,cA];exact⟨λp hp=>by simp at hp,by simpa [yH] using h s⟩
 |succ i ih=>
  intro b acc s hb hl h;push_cast [cU,ay];refine⟨rfl,rows,a,rfl,ha,?_⟩;ac_nf;refine⟨rfl,rows,b,rfl,⋯,?_⟩;ac_nf;rw[show ((b:Int)+1)=((b+1:Nat):Int) by ac_rfl];by_cases e:(aI rows).getD a 0=(aI rows).getD b 0
  ·rw[decide_eq_true e];ac_nf;refine ih (b+1) acc _ ⋯ ⋯ λs=>?_;have:=h s;rw[yH,VH (by simpa [kd] using e)] at this;exact this
  ·rw[decide_eq_false e];ac_nf;refine⟨⋯,?_⟩;rw[show CU acc++[Dv.tup [Dv.int a,Dv.int b]]=CU (acc++[((a:Int),(b:Int))]) by simp];refine ih (b+1) _ _ ⋯ (by simp;ac_rfl) λs=>?_;have:=h s;rw[yH,Vn (by simpa [kd] using e)] at this;simpa using this
theorem Hv(hn:(aI rows).length<=12):∀(i a:Nat) (acc:List (Int×Int)) (s t:Sl),a+i=(aI rows).length->acc.length+i*12<=500 ->
  (∀s t,E.nx [.v (b5 C rows),.own l (.lst (CU (acc++mV (aI rows) i a))),s,t]) ->
  bI (gN 2) (kU C (fE C) (fF C)) [] (bP a i) E [.v (b5 C rows),.own l (.lst (CU acc)),s,t]:=by
 intro i;induction i with
 |zero=>
  intro a acc s t _ _ h;rw[eG,cA];exact⟨λp hp=>by simp at hp,by simpa [mV] using h s t⟩
 |succ i ih=>
  intro a acc s t ha hl h;rw[cU,cK];refine⟨λp hp=>by simp at hp,?_⟩;have nx:∀s t,bI (gN 2) (kU C (fE C) (fF C)) [] (bP ((a:Int)+1) i) E [.v (b5 C rows),.own l (.lst (CU (acc++yH (aI rows) a ((aI rows).length-(a+1)) (a+1)))),s,t]:=λs t=>by
   have il:=yG (aI rows) a ((aI rows).length-(a+1)) (a+1);refine ih (a+1) _ s t ⋯ (by simp;ac_rfl) λs t=>?_;have:=h s t;rw[mV] at this;simpa using this
  generalize bI (gN 2) (kU C (fE C) (fF C)) [] (bP ((a:Int)+1) i) E=G at nx ⊢;push_cast [kU];refine⟨rfl,rows,rfl,?_⟩;ac_nf;refine⟨⟨⋯,⋯,⋯⟩,?_⟩;rw[show ((aI rows).length-((a:Int)+1)).toNat=(aI rows).length-(a+1) by ac_rfl,show ((a:Int)+1)=((a+1:Nat):Int) by ac_rfl];exact Hw ⋯ _ (a+1) acc _ ⋯ ⋯ λs=>nx _ s
theorem Hx:∀ds Q,iL C ds Q->xI C (fE C) (fF C) ↥Q (aM ["self", "found", "a", "b"] ds):=by
 rintro ds Q ⟨rows,rfl,hn,h⟩;ac_nf;intro l;refine⟨rfl,rows,rfl,?_⟩;ac_nf;refine⟨⋯,?_⟩;rw[show ((aI rows).length:Int).toNat=(aI rows).length by ac_rfl];refine Hv hn _ 0 [] _ _ ⋯ (by simp;ac_rfl) λs t=>?_;ac_nf;exact h
end Lw
namespace Lw
open L2 Z
open Sf (Rw crs qZ Pre Good aI aW place many)
open Fl (kd ids)
noncomputable def jD(C:ae):Fn:=λds Q=>∃rows:List Rw,ds=[b5 C rows]/\(aI rows).length<=12/\Q (.nw (.lst (cM (aO (aI rows)))))
theorem Bu:∀ds Q,jD C ds Q->ds.length=1:=by rintro ds Q ⟨_,rfl,_⟩;rfl
theorem fI:MonoF (jD C):=⟨λds Q Q' w z=>by obtain⟨r,e,a,h⟩:=z;exact⟨r,e,a,w _ h⟩⟩
variable {l:ae}{E:En}
theorem Ed{a:Int}(hb:0<=b/\b<(aI rows).length):∀(i c:Nat) (acc:List (Int×Int×Int)) (s:Sl),c+i=(aI rows).length->acc.length+i<=10000 ->
  (∀s,E.nx [.v (b5 C rows),.own l (.lst (cM (acc++wT (aI rows) a b i c))),.v (.int a),.v (.int b),s]) ->
  bI (gN 4) (v6 C (iL C) (fE C) (fF C)) [] (bP c i) E [.v (b5 C rows),.own l (.lst (cM acc)),.v (.int a),.v (.int b),s]:=by
 intro i;induction i with
 |zero=>
  intro c acc s _ _ h;rw[eG,cA];exact⟨λp hp=>by simp at hp,by simpa [wT] using h s⟩
 |succ i ih=>
  intro c acc s hc hl h;push_cast [cU,ay];refine⟨rfl,rows,c,rfl,⋯,?_⟩;ac_nf;refine⟨rfl,rows,b.toNat,by rw[Int.toNat_of_nonneg hb.1],⋯,?_⟩;ac_nf;rw[show ((c:Int)+1)=((c+1:Nat):Int) by ac_rfl];by_cases e:(aI rows).getD c 0=(aI rows).getD b.toNat 0
  ·rw[decide_eq_true e];ac_nf;refine ih (c+1) acc _ ⋯ ⋯ λs=>?_;have:=h s;rw[wT,VH (by simpa [kd] using e)] at this;exact this
  ·rw[decide_eq_false e];ac_nf;refine⟨⋯,?_⟩;rw[show cM acc++[Dv.tup [Dv.int a,Dv.int b,Dv.int c]]=cM (acc++[(a,b,(c:Int))]) by simp];refine ih (c+1) _ _ ⋯ (by simp;ac_rfl) λs=>?_;have:=h s;rw[wT,Vn (by simpa [kd] using e)] at this;simpa using this
theorem Ec(hn:(aI rows).length<=12):∀(ps:List (Int×Int)) (acc:List (Int×Int×Int)) (s t u:Sl),(∀t∈ps,0<=t.2/\t.2<(aI rows).length)->acc.length+ps.length*12<=5000 ->
  (∀s t u,E.nx [.v (b5 C rows),.own l (.lst (cM (acc++eY (aI rows) ps))),s,t,u]) ->
  bI (gT [2,3]) (jM C (iL C) (fE C) (fF C)) [] (CU ps) E [.v (b5 C rows),.own l (.lst (cM acc)),s,t,u]:=by
 intro ps;induction ps with
 |nil=>
  intro acc s t u _ _ h;rw[show CU []=[] from rfl,cA];exact⟨λp hp=>by simp at hp,by simpa [eY] using h s t u⟩
 |cons p ps ih=>
  intro acc s t u hp hl h;have h0:=hp p (by simp);rw[show CU (p::ps)=.tup [.int p.1,.int p.2]::CU ps from rfl,cK];refine⟨λp hp=>by simp at hp,?_⟩;have il:=yF (aI rows) p.1 p.2 ((aI rows).length-(p.2.toNat+1)) (p.2.toNat+1);have nx:∀s t u,bI (gT [2,3]) (jM C (iL C) (fE C) (fF C)) [] (CU ps) E [.v (b5 C rows),.own l (.lst (cM (acc++wT (aI rows) p.1 p.2 ((aI rows).length-(p.2.toNat+1)) (p.2.toNat+1)))),s,t,u]:=λs t u=>by
   simp only[bh] at hl;refine ih _ s t u (λt ht=>hp t (bg _ ht)) (by simp;ac_rfl) λs t u=>?_;have:=h s t u;unfold eY at this ⊢;rw[Tf] at this;simpa using this
  generalize bI (gT [2,3]) (jM C (iL C) (fE C) (fF C)) [] (CU ps) E=G at nx ⊢;push_cast [jM];refine⟨rfl,rows,rfl,?_⟩;ac_nf;refine⟨⟨⋯,⋯,⋯⟩,?_⟩;rw[show ((aI rows).length-(p.2+1)).toNat=(aI rows).length-(p.2.toNat+1) by ac_rfl,show (p.2+1)=((p.2.toNat+1:Nat):Int) by ac_rfl];simp only[bh] at hl;exact Ed h0 _ (p.2.toNat+1) acc _ ⋯ ⋯ λs=>nx _ _ s
theorem FR:∀ds Q,jD C ds Q->tM C (iL C) (fE C) (fF C) ↥Q (aM ["sides", "told", "a", "b", "c"] ds):=by
 rintro ds Q ⟨rows,rfl,hn,h⟩;have pl:=u8 (aI rows) (aI rows).length 0;have sq:(aI rows).length*(aI rows).length<=12*12:=mj hn hn;ac_nf;intro l;refine⟨rfl,rows,rfl,hn,?_⟩;ac_nf;refine Ec hn (jG (aI rows)) [] _ _ _ (λt ht=>?_) (by unfold jG;simp;ac_rfl) λs t u=>?_
 ·obtain⟨a1,a2,a3,a4⟩:=kM.mp ht;exact⟨⋯,a3⟩
 ac_nf;exact h
noncomputable abbrev Ti:=Int×Int×List Int
noncomputable abbrev Eb(t:Ti):Dv:=.tup [.int t.1,.int t.2.1,.tup (aZ t.2.2)]
noncomputable abbrev eO(l:List Ti):List Dv:=l.map Eb
noncomputable abbrev uJ(t:Ti):List cB:=[dt t.1,dt t.2.1]
noncomputable abbrev mB(l:List Ti):List (List cB×Dv):=l.map λt=>(uJ t,.tup (aZ t.2.2))
noncomputable def sB(l:List Ti):Prop:=l.Pairwise λt u=>¬(t.1=u.1/\t.2.1=u.2.1)
noncomputable def e7:Fn:=λds Q=>∃fl:List Ti,ds=[.lst (eO fl)]/\fl.length<=1000/\sB fl/\Q (.nw (.dit (mB fl)))
theorem uI:∀ds Q,e7 ds Q->ds.length=1:=by rintro ds Q ⟨_,rfl,_⟩;rfl
theorem eA:MonoF e7:=⟨λds Q Q' w z=>by obtain⟨r,e,a,b,h⟩:=z;exact⟨r,e,a,b,w _ h⟩⟩
theorem He{l:List Ti}{t:Ti}(h:∀u∈l,¬(u.1=t.1/\u.2.1=t.2.1)):AC (mB l) (uJ t) (.tup (aZ t.2.2))=mB (l++[t]):=by
 unfold AC;have e:(mB l).any (λkv=>decide (kv.1=uJ t))=ak:=by
  rw[Sw];intro kv hkv;obtain⟨u,hu,rfl⟩:=fv.mp hkv;have:=h u hu;simp only[decide_eq_true_eq];intro z;apply this;simp only[uJ,ji,dt.injEq,and_true] at z;exact z
 rw[e];simp
theorem Go{x:Sl}:∀(fl acc:List Ti) (s t u:Sl),sB (acc++fl)->acc.length+fl.length<=1000->(∀s t u,E.nx [x,.own a (.dit (mB (acc++fl))),s,t,u]) ->
  bI (gT [2,3,4]) pR [] (eO fl) E [x,.own a (.dit (mB acc)),s,t,u]:=by
 intro fl;induction fl with
 |nil=>
  intro acc s t u _ _ h;rw[show eO []=[] from rfl,cA];exact⟨λp hp=>by simp at hp,by simpa using h s t u⟩
 |cons p fl ih=>
  intro acc s t u hk hl h;simp only[bh] at hl;rw[show eO (p::fl)=.tup [.int p.1,.int p.2.1,.tup (aZ p.2.2)]::eO fl from rfl];push_cast [pR,ay];refine⟨uJ p,rfl,⋯,?_⟩;rw[He λu hu=>(mv.mp hk).2.2 u hu p (by simp)];exact ih _ _ _ _ (by simpa using hk) (by simp;ac_rfl) (by simpa using h)
theorem AR:∀ds Q,e7 ds Q->tO ↥Q (aM ["floor", "told", "a", "b", "below"] ds):=by
 rintro ds Q ⟨fl,rfl,hl,hk,h⟩;ac_nf;intro a;refine Go fl [] _ _ _ (by simpa using hk) (by simp;ac_rfl) λs t u=>?_;ac_nf;exact h
noncomputable def bN(l:List Ti)(a c:Int):List Int:=((l.find? λt=>decide (t.1=a/\t.2.1=c)).map λt=>t.2.2).getD []
noncomputable def Ra(ks:List Int)(l:List Ti):Prop:=∀a c:Int,0<=a->a<c->c<ks.length->kd ks a≠kd ks c -> ∃t∈l,t.1=a/\t.2.1=c
theorem lN(l:List Ti)(a c:Int):(mB l).find? (λkv=>decide (kv.1=[dt a,dt c]))=(l.find? λt=>decide (t.1=a/\t.2.1=c)).map λt=>(uJ t,.tup (aZ t.2.2)):=by
 induction l with
 |nil=>rfl
 |cons t l ih=>
  rw[show mB (t::l)=(uJ t,.tup (aZ t.2.2))::mB l from rfl];by_cases e:t.1=a/\t.2.1=c
  ·rw[qp (by simpa using e),qp (by simpa using e)];rfl
  ·rw[qv (by simpa using e),qv (by simpa using e)];exact ih
theorem n0{l:List Ti}{a c:Int}(h:∃t∈l,t.1=a/\t.2.1=c):∃t,(l.find? λt=>decide (t.1=a/\t.2.1=c))=aa t/\t∈l/\t.1=a/\t.2.1=c/\bN l a c=t.2.2:=by
 obtain⟨t,ht,e⟩:=h;cases q:l.find? λt=>decide (t.1=a/\t.2.1=c) with
 |none=>exact absurd (decide_eq_true e) (zj.mp q t ht)
 |some u=>
  have:=zl q;refine⟨u,rfl,oj q,(of_decide_eq_true this).1,(of_decide_eq_true this).2,?_⟩;unfold bN;rw[q];rfl
noncomputable def jO(ks:List Int):Prop:=∀a b:Int,0<=a->a<=b->b<ks.length->kd ks a<=kd ks b
theorem QM(n:Nat)(i:Int):dD n (.int i)=ai:=by cases n<;>rfl
theorem oK(n:Nat):∀l:List Int,okDs n (aZ l)=ai
 | []=>rfl
 |i::r=>by
  show (dD n (.int i)&&okDs n (aZ r))=ai;rw[oK n r];cases n<;>rfl
theorem jR(hn:ks.length<=12):(aO ks).length<=1728:=by
 have h1:=u8 ks ks.length 0;have h2:=pZ ks (jG ks);have sq:ks.length*ks.length<=12*12:=mj hn hn;have h3:(jG ks).length*ks.length<=144*12:=mj (by unfold jG;ac_rfl) hn;unfold aO;ac_rfl
end Lw
variable {tl:Z.bS}{cs:List Nat}
namespace Lw
open L2 Z
open Sf (Rw crs qZ Pre Good aI aW place many)
open Fl (kd ids Walk d5 tls pc aL Pt)
theorem sQ{u k:Int}(h0:-1000000<k)(hk:k<1000000):sP u k:=.inl (.inr ⟨⋯,⋯⟩)
noncomputable def eT:Fn:=λds Q=>∃(ns:List Int) (k:Int),ds=[.scr ns,.int k]/\0<=k /\ ∀c:Int,Q (.v (.int c))
theorem GA:∀ds Q,eT ds Q->ds.length=2:=by rintro ds Q ⟨_,_,rfl,_⟩;rfl
theorem IK:MonoF eT:=⟨λds Q Q' w z=>by obtain⟨r,e,a,b,h⟩:=z;exact⟨r,e,a,b,λc=>w _ (h c)⟩⟩
theorem vH:∀ds Q,eT ds Q->kC ↥Q (aM ["_law_script", "_law_k"] ds):=by
 rintro ds Q ⟨ns,k,rfl,h0,h⟩;ac_nf;by_cases hk:k<(ns.length:Int)
 ·rw[VH hk,lV h0 hk,au ⋯];exact h _
 ·rw[Vn hk];exact h 5
noncomputable def zY:Fn:=λds Q=>∃n:Int,ds=[.int n]/\Q (.v (.bl ai))
theorem Kq:∀ds Q,zY ds Q->ds.length=1:=by rintro ds Q ⟨_,rfl,_⟩;rfl
theorem N1:MonoF zY:=⟨λds Q Q' w z=>by obtain⟨r,e,h⟩:=z;exact⟨r,e,w _ h⟩⟩
theorem AL:∀ds Q,zY ds Q->mK ↥Q (aM ["_law_found"] ds):=by
 rintro ds Q ⟨n,rfl,q⟩;ac_nf;exact⟨rfl,rfl,q⟩
noncomputable def jC:Fn:=λds Q=>∃l:List Int,ds=[.tup (aZ l)]/\Q (.v (.bl ai))
theorem Bt:∀ds Q,jC ds Q->ds.length=1:=by rintro ds Q ⟨_,rfl,_⟩;rfl
theorem Dh:MonoF jC:=⟨λds Q Q' w z=>by obtain⟨r,e,h⟩:=z;exact⟨r,e,w _ h⟩⟩
variable {E:En}
theorem EL{x:Sl}:∀(l:List Int) (s:Sl),(∀s,E.nx [x,s])->bI (gN 1) (nH zY) [] (aZ l) E [x,s]:=by
 intro l;induction l with
 |nil=>
  intro s h;rw[show aZ []=[] from rfl,cA];exact⟨λp hp=>by simp at hp,h s⟩
 |cons i l ih=>
  intro s h;ac_nf;refine⟨i,rfl,?_⟩;ac_nf;exact ih _ h
theorem xR:∀ds Q,jC ds Q->l9 zY ↥Q (aM ["_law_found", "_law_number"] ds):=by
 rintro ds Q ⟨l,rfl,q⟩;ac_nf;refine⟨rfl,?_⟩;rw[show GK "tuple" (.tup (aZ l))=ai from rfl];ac_nf;exact EL l _ λs=>q
noncomputable def jT:Fn:=λds Q=>∃(c step m:Int),ds=[.int c,.int step,.int m]/\0<=step/\step<=500/\0<m /\ ∀q:Int,0<=q->q<m->Q (.v (.int q))
theorem Fz:∀ds Q,jT ds Q->ds.length=3:=by rintro ds Q ⟨_,_,_,rfl,_⟩;rfl
theorem IF:MonoF jT:=⟨λds Q Q' w z=>by obtain⟨r,e,a,b,c,d,f,h⟩:=z;exact⟨r,e,a,b,c,d,f,λm x y=>w _ (h m x y)⟩⟩
theorem Bg:∀ds Q,jT ds Q->oT ↥Q (aM ["_law_cell", "_law_step", "_law_many_here"] ds):=by
 rintro ds Q ⟨c,k,m,rfl,h0,h1,hm,h⟩;have hkk:0<=k*k/\k*k<=500*500:=⟨UE h0 h0,UF h1 h1 h0 ⋯⟩;ac_nf;refine⟨.inl (.inl ⟨by decide,by decide⟩),sQ ∅ ∅,sQ ⋯ ⋯,sQ ⋯ ⋯,hm,?_⟩;exact h _ (xj _ ⋯) (pi _ hm)
theorem Ly{p:Nat}:aZ (l.take p)++[.int (l.getD (p+1) 0),.int (l.getD p 0)]++aZ (l.drop (p+2))=aZ (aL l p):=by unfold aL;simp
noncomputable def fG:Fn:=λds Q=>∃(VJ:List Int) (p:Nat),ds=[.lst (aZ VJ),.int p]/\VJ.length<=100/\p+1<VJ.length/\Q (.nw (.lst (aZ (aL VJ p))))
theorem G8:∀ds Q,fG ds Q->ds.length=2:=by rintro ds Q ⟨_,_,rfl,_⟩;rfl
theorem Cd:MonoF fG:=⟨λds Q Q' w z=>by obtain⟨a,b,c,d,e,h⟩:=z;exact⟨a,b,c,d,e,w _ h⟩⟩
theorem sU:∀ds Q,fG ds Q->iZ ↥Q (aM ["_law_path", "_law_p"] ds):=by
 rintro ds Q ⟨VJ,p,rfl,hn,hp,h⟩;have e1:((p:Int)+1)=((p+1:Nat):Int):=⋯;have e2:((p:Int)+2)=((p+2:Nat):Int):=⋯;ac_nf;rw[e1,e2,gY ⋯,gY ⋯,Gg ⋯,Az ⋯];simp only[bp,<- Vr,<- UO];push_cast [ay,cv,uy,bq];refine⟨⋯,⋯,?_⟩;have:=Ly (l:=VJ) (p:=p);simp only[dh,gv,kz] at this ⊢;rw[this];exact h
noncomputable def aH:Nat->List Nat->List Int
 |_,[]=>[]
 |k,c::cs=>ao c (k:Int)++aH (k+1) cs
theorem pQ:∀(k:Nat) (cs:List Nat) (c:Nat),aH k (cs++[c])=aH k cs++ao c ((k+cs.length:Nat):Int)
 |_,[],_=>by simp[aH]
 |k,a::rs,c=>by
  simp only[gv,aH,pQ (k+1) rs c,dh,bh];congr 3;ac_rfl
theorem o7:∀(k:Nat) (cs:List Nat),(aH k cs).length=cs.sum
 |_,[]=>rfl
 |k,c::cs=>by simp[aH,o7 (k+1) cs]
structure Cnt(cs:List Nat):Prop where
 lo:2<=cs.length
 hi:cs.length<=6
 ok:∀c∈cs,1<=c
 tot:cs.sum<=12
variable {M VL:Int}{x6 x7:Sl}
theorem Ni{c:Int}{k:Nat}(hk:k<=10)(sp:Int)(hs:M-(l.length:Int)-((n:Int)-(k:Int)-1)=sp)(h1:1<=sp)(h2:sp<=12)
  (h:∀Tp:Int,1<=Tp->Tp<=sp->tl E [.v (.int c),.v (.int M),.v (.int n),.v (.int VL),.v (.lst (aZ l)),.v (.int k),.v (.int sp),.v (.int Tp)]):
  aN (b6 6 (aP kN (aP kN (a8 1) (fR d9 (a7 (a8 4) aG))) (aP kN (aP kN (a8 2) (a8 5)) (eC (.int 1)))))
 (aN (b6 7 (aP dS (eC (.int 1)) (aP gZ (aP gZ (aP fQ (aP gZ (aP fQ (aP dS (a8 0) (aP fQ (eC (.int 31)) (a8 5))) (eC (.int 48271))) (eC (.int 2147483647))) (aP dS (aP fQ (a8 5) (a8 5)) (eC (.int 17)))) (eC (.int 99991))) (fR wM (a7 (a8 6) (a7 (eC (.int 3)) aG)))))) tl) E [.v (.int c),.v (.int M),.v (.int n),.v (.int VL),.v (.lst (aZ l)),.v (.int k),x6,x7]:=by
 push_cast [ay,hs];generalize hm:(if 3<sp then 3 else sp)=mn;have hmn:1<=mn/\mn<=sp:=by rw[<- hm];split<;>ac_rfl
 have kk:(k:Int)*k<=10*10:=UF ⋯ ⋯ ⋯ ⋯;have kk0:0<=(k:Int)*k:=UE ⋯ ⋯;refine⟨.inl (.inl ⟨by decide,by decide⟩),sQ ∅ ∅,sQ ⋯ ⋯,sQ ⋯ ⋯,⋯,?_⟩;generalize (c+31*(k:Int))*48271 % 2147483647*((k:Int)*k+17) % 99991=q;have a1:=xj q (show mn≠0 by ac_rfl);have a2:=pi q (show 0<mn by ac_rfl);exact h _ ⋯ ⋯
variable {x0 x1 x2:Sl}
theorem Nh{sp Tp k:Int}(h1:1<=sp)(h2:sp<=12)(c1:1<=Tp)(c2:Tp<=sp)(ll:l.length<=100)
  (h:∀VL Tp:Int,1<=Tp->Tp<=sp->E.nx [x0,x1,x2,.v (.int VL),.v (.lst (aZ l++(ao Tp.toNat [Dv.int k]).flatten)),.v (.int k),.v (.int sp),.v (.int Tp)]):
  aN (jE (aU (aP Hz (a8 3) (eC (.int 1)))) (aN (b6 7 (aP dS (eC (.int 1)) (aP gZ (a8 3) (a8 6))))
 (b6 3 (aP mU (a8 3) (a8 6)))) bK)
 (b6 4 (aP dS (a8 4) (aP fQ (g7 (a7 (a8 5) aG)) (a8 7)))) E [x0,x1,x2,.v (.int VL),.v (.lst (aZ l)),.v (.int k),.v (.int sp),.v (.int Tp)]:=by
 have fl:∀m:Nat,(ao m [Dv.int k]).flatten.length=m:=λm=>by rw[kj];simp
 push_cast [ay,fl];split
 ·have a1:=xj VL (show sp≠0 by ac_rfl);have a2:=pi VL (show 0<sp by ac_rfl);exact⟨⋯,⋯,⋯,⋯,h _ _ ⋯ ⋯⟩
 ·exact⟨⋯,⋯,h _ _ c1 c2⟩
theorem R4{d:Dv}{x3 x4 x5:Sl}{Q:List Sl->Prop}(h:Q [x0,x1,x2,x3,x4,.v d,x6,x7]):gN 5 d [x0,x1,x2,x3,x4,x5,x6,x7] Q:=by
 ac_nf;exact h
theorem J1{c:Int}(hn:n<=6)(hM:M<=12):∀(i k:Nat) (VL:Int) (cs:List Nat) (s5 s6 s7:Sl),k+i=n->cs.length=k->(∀x∈cs,1<=x)->(cs.sum:Int)+i<=M ->
  (∀(VL:Int) (cs:List Nat) (s5 s6 s7:Sl),cs.length=n->(∀x∈cs,1<=x)->(cs.sum:Int)<=M->E.nx [.v (.int c),.v (.int M),.v (.int n),.v (.int VL),.v (.lst (aZ (aH 0 cs))),s5,s6,s7]) ->
  bI (gN 5) iJ [] (bP k i) E [.v (.int c),.v (.int M),.v (.int n),.v (.int VL),.v (.lst (aZ (aH 0 cs))),s5,s6,s7]:=by
 intro i;induction i with
 |zero=>
  intro k VL cs s5 s6 s7 hk hl ok ht h;rw[eG,cA];exact⟨λp hp=>by simp at hp,h _ _ _ _ _ ⋯ ok ⋯⟩
 |succ i ih=>
  intro k VL cs s5 s6 s7 hk hl ok ht h;rw[cU,cK];refine⟨λp hp=>by simp at hp,?_⟩;have next:∀(VL Tp:Int) (s5 s6 s7:Sl),1<=Tp->Tp+cs.sum+i<=M->bI (gN 5) iJ [] (bP ((k:Int)+1) i) E [.v (.int c),.v (.int M),.v (.int n),.v (.int VL),.v (.lst (aZ (aH 0 cs)++(ao Tp.toNat [Dv.int (k:Int)]).flatten)),s5,s6,s7]:=λVL Tp s5 s6 s7 c1 c2=>by
   have e2:(ao Tp.toNat [Dv.int (k:Int)]).flatten=aZ (ao Tp.toNat (k:Int)):=by
    rw[kj];simp
   have e3:aZ (aH 0 cs)++aZ (ao Tp.toNat (k:Int))=aZ (aH 0 (cs++[Tp.toNat])):=by
    rw[pQ,hl,mr];simp
   rw[e2,e3];exact ih (k+1) VL (cs++[Tp.toNat]) s5 s6 s7 ⋯ (by simp;ac_rfl) (λx hx=>by
    rcases de.mp hx with hx | hx
    ·exact ok x hx
    ·rw[dg.mp hx];ac_rfl) (by simp;ac_rfl) h
  generalize bI (gN 5) iJ [] (bP ((k:Int)+1) i) E=nx at *;have bl:=o7 0 cs;exact R4 (Ni ⋯ _ rfl ⋯ ⋯ λTp c1 c2=>Nh ⋯ ⋯ c1 c2 ⋯ λVL Tp d1 d2=>next VL Tp _ _ _ d1 ⋯)
noncomputable def d6:Fn:=λds Q=>∃c M:Int,ds=[.int c,.int M]/\6<=M/\M<=12 /\ ∀cs,Cnt cs->Q (.v (.lst (aZ (aH 0 cs))))
theorem Ds:∀ds Q,d6 ds Q->ds.length=2:=by rintro ds Q ⟨_,_,rfl,_⟩;rfl
theorem Fp:MonoF d6:=⟨λds Q Q' w z=>by obtain⟨c,M,e,a,b,h⟩:=z;exact⟨c,M,e,a,b,λr g=>w _ (h r g)⟩⟩
theorem AO:∀ds Q,d6 ds Q->mN ↥Q (aM ["_law_cell", "_law_most", "_law_kinds", "_law_rest", "_law_bands_here", "_law_k", "_law_spare", "_law_count"] ds):=by
 rintro ds Q ⟨c,M,rfl,M6,M12,h⟩;ac_nf;obtain⟨n,hn,h2,h6⟩:∃n:Nat,2+c % 5=(n:Int)/\2<=n/\n<=6:=⟨(2+c % 5).toNat,⋯,⋯,⋯⟩;rw[hn];refine⟨⋯,?_⟩;rw[bp];refine J1 h6 M12 n 0 _ [] _ _ _ ⋯ rfl (λx hx=>by simp at hx) (by simp;ac_rfl) λVL cs s5 s6 s7 l ok t=>?_;ac_nf;exact h cs ⟨⋯,⋯,ok,⋯⟩
theorem lT(k:Nat)(cs:List Nat):(aH k cs).Pairwise (· <= ·) /\ ∀x∈aH k cs,(k:Int)<=x:=by
 induction cs generalizing k with
 |nil=>exact⟨List.Pairwise.nil,λx hx=>by cases hx⟩
 |cons c cs ih=>
  obtain⟨i1,i2⟩:=ih (k+1);rw[aH];refine⟨mv.mpr ⟨?_,i1,λa ha b hb=>?_⟩,λx hx=>?_⟩
  ·rw[cw];intro i j hi hj _;simp
  ·rw[cr ha];have:=i2 b hb;ac_rfl
  ·rcases de.mp hx with hx | hx
   ·rw[cr hx];exact vc _
   ·have:=i2 x hx;ac_rfl
theorem uZ(cs:List Nat):jO (aH 0 cs):=λa b h0 hab hb=>by
 have pw:=cw.mp (lT 0 cs).1;show (aH 0 cs).getD a.toNat 0<=(aH 0 cs).getD b.toNat 0;have e1:(aH 0 cs).getD a.toNat 0=(aH 0 cs)[a.toNat]'⋯:=by simp[eo,show a.toNat<(aH 0 cs).length by ac_rfl]
 have e2:(aH 0 cs).getD b.toNat 0=(aH 0 cs)[b.toNat]'⋯:=by simp[eo,show b.toNat<(aH 0 cs).length by ac_rfl]
 rw[e1,e2];rcases Vs a.toNat b.toNat with h | h
 ·exact pw _ _ _ _ h
 ·have:a.toNat=b.toNat:=⋯;simp[this]
noncomputable def uX:List Nat->Nat
 | []=>0
 |c::cs=>c*cs.sum+uX cs
noncomputable def M3:List Nat->Nat
 | []=>0
 |c::cs=>c*c+M3 cs
theorem AF:∀(k:Nat) (cs:List Nat),pc (aH k cs)=uX cs
 |_,[]=>rfl
 |k,c::cs=>by
  rw[aH,uX,<- AF (k+1) cs,<- o7 (k+1) cs];have hi:=(lT (k+1) cs).2;generalize aH (k+1) cs=B at hi;induction c with
  |zero=>simp
  |succ c ih=>
   rw[jv,gv,pc,ih,ox];have e1:(ao c (k:Int)).filter (λy=>decide ((k:Int)<y))=[]:=je.mpr λx hx=>by rw[cr hx];simp
   have e2:B.filter (λy=>decide ((k:Int)<y))=B:=sy.mpr λx hx=>by have:=hi x hx;simp;ac_rfl
   rw[e1,e2,wq];simp;ac_rfl
theorem B4:∀cs:List Nat,2*uX cs+M3 cs=cs.sum*cs.sum
 | []=>rfl
 |c::cs=>by
  have ih:=B4 cs;rw[uX,M3,vq,wq,Va c,Va cs.sum,<- ih,V1 cs.sum c];ac_rfl
theorem CK:∀cs:List Nat,4*cs.sum<=M3 cs+4*cs.length
 | []=>bo _
 |c::cs=>by
  have ih:=CK cs;have h:4*c<=c*c+4:=by
   rcases Vs c 4 with z | z
   ·have:c=0 \/ c=1 \/ c=2 \/ c=3:=⋯;rcases this with rfl | rfl | rfl | rfl<;>decide
   ·have:=xm c z;ac_rfl
  rw[M3,vq,bh];ac_rfl
theorem Gi(C:Cnt cs):pc (aH 0 cs)<=60:=by
 rw[AF];have h1:=B4 cs;have h2:=CK cs;have h3:=C.tot;have h4:=C.hi;generalize cs.sum=S at *;have h5:S*S<=12*S:=xm S h3;ac_rfl
theorem yY(C:Cnt cs):2<=(aH 0 cs).length/\(aH 0 cs).length<=12:=by
 rw[o7];have h:∀cs:List Nat,(∀c∈cs,1<=c)->cs.length<=cs.sum:=by
  intro cs;induction cs with
  |nil=>intro _;simp
  |cons c cs ih=>
   intro h;have h1:=h c (by simp);have h2:=ih λx hx=>h x (by simp[hx]);simp only[bh,vq];ac_rfl
 have:=h cs C.ok;have:=C.lo;have:=C.tot;ac_rfl
end Lw
namespace Lw
open L2 Z
open Sf (Rw crs qZ Pre Good aI aW place many)
open Fl (kd ids Walk d5 tls pc aL Pt)
noncomputable def ascs(ks VJ:List Int):Nat->Nat->List Int
 |0,_=>[]
 |m+1,j=>(if kd ks (VJ.getD j 0)<kd ks (VJ.getD (j+1) 0) then [(j:Int)] else [])++ascs ks VJ m (j+1)
theorem BD(ks VJ:List Int):∀(m j:Nat) (x:Int),x∈ascs ks VJ m j -> ∃p:Nat,x=p/\p<j+m/\kd ks (VJ.getD p 0)<kd ks (VJ.getD (p+1) 0)
 |0,_,_,h=>by cases h
 |m+1,j,x,h=>by
  rw[ascs,de] at h;rcases h with h | h
  ·split at h
   ·rw[dg] at h;exact⟨j,h,⋯,by assumption⟩
   ·cases h
  ·obtain⟨p,e,l,k⟩:=BD ks VJ m (j+1) x h;exact⟨p,e,⋯,k⟩
theorem BC(ks VJ:List Int):∀(m j:Nat),ascs ks VJ m j=[] -> ∀p,j<=p->p<j+m->kd ks (VJ.getD (p+1) 0)<=kd ks (VJ.getD p 0)
 |0,_,_,p,h1,h2=>by ac_rfl
 |m+1,j,h,p,h1,h2=>by
  rw[ascs,List.append_eq_nil_iff] at h;by_cases e:p=j
  ·subst e;have:=h.1;split at this
   ·cases this
   ·ac_rfl
  ·exact BC ks VJ m (j+1) h.2 p ⋯ ⋯
theorem BE(ks VJ:List Int):∀(m j:Nat),(ascs ks VJ m j).length<=m
 |0,_=>bo _
 |m+1,j=>by rw[ascs,bq];have:=BE ks VJ m (j+1);split<;>simp<;>ac_rfl
variable {VJ:List Int}
theorem MD(hn:ks.length<=12)(P:Pt ks.length VJ):∀(m j:Nat) (acc:List Int),j+m+1=ks.length->acc.length+m<=100->Q (.nw (.lst (aZ (acc++ascs ks VJ m j)))) ->
  cP [.un,.v (.lst (aZ ks)),.v (.lst (aZ VJ))] (gN 0) (aU (aP zI (aP bX (a8 1) (aP bX (a8 2) (a8 0))) (aP bX (a8 1) (aP bX (a8 2) (aP dS (a8 0) (eC (.int 1))))))) (a8 0) (bP j m) (aZ acc) Q:=by
 have hl:=P.len;intro m;induction m with
 |zero=>
  intro j acc _ ha h;push_cast [eG];simpa [ascs] using h
 |succ m ih=>
  intro j acc hj ha h;have b1:=P.bd j ⋯;have b2:=P.bd (j+1) ⋯;push_cast [cU,gY (show j<VJ.length by ac_rfl),show ((j:Int)+1)=((j+1:Nat):Int) by ac_rfl,gY (show j+1<VJ.length by ac_rfl),vA b1.1 (show VJ.getD j 0<ks.length by ac_rfl),vA b2.1 (show VJ.getD (j+1) 0<ks.length by ac_rfl),ay];rw[ascs] at h;by_cases e:kd ks (VJ.getD j 0)<kd ks (VJ.getD (j+1) 0)
  ·rw[VH e];rw[VH e] at h;refine⟨⋯,?_⟩;rw[show aZ acc++[Dv.int (j:Int)]=aZ (acc++[(j:Int)]) by simp];exact ih (j+1) _ ⋯ (by simp;ac_rfl) (by simpa using h)
  ·rw[Vn e];rw[Vn e] at h;exact ih (j+1) _ ⋯ ⋯ (by simpa using h)
theorem LF:∀l:List Int,eqD (.lst (aZ l)) (.lst [])=l.isEmpty
 | []=>by simp[eqD,fU,fU.pyDs,fi,fz]
 |i::l=>by simp[eqD,fU,fU.pyDs,fi,fz]
theorem SQ(l:List Int):dD 8 (.lst (aZ l))=ai:=oK 7 l
noncomputable def gJ:Fn:=λds Q=>∃(ks:List Int) (c:Int),ds=[.lst (aZ ks),.int c]/\2<=ks.length/\ks.length<=12/\pc ks<=60 /\ ∀row e,Walk ks (ids ks.length) row e->d5 ks e->row.length<=60->Q (.nw (.lst (aZ row)))
theorem IQ:∀ds Q,gJ ds Q->ds.length=2:=by rintro ds Q ⟨_,_,rfl,_⟩;rfl
theorem Kg:MonoF gJ:=⟨λds Q Q' w z=>by obtain⟨a,b,c,d,e,f,h⟩:=z;exact⟨a,b,c,d,e,f,λr x y z u=>w _ (h r x y z u)⟩⟩
variable {E:En}{x0 x1 x3 x4 x5 x6 x7 x8:Sl}
theorem MK(hl:VJ.length=ks.length)(h:tl E [x0,x1,.v (.lst (aZ VJ)),x3,x4,x5,.v (.int ((ks.length:Int)-1)),x7,x8]):
  aN (b6 6 (aP kN (fR d9 (a7 (a8 2) aG)) (eC (.int 1)))) tl E [x0,x1,.v (.lst (aZ VJ)),x3,x4,x5,x6,x7,x8]:=by
 push_cast [ay,hl];exact h
theorem MJ(h2:2<=ks.length)(hn:ks.length<=12)(P:Pt ks.length VJ)(h:tl E [.v (.lst (aZ ks)),x1,.v (.lst (aZ VJ)),x3,x4,x5,.v (.int ((ks.length:Int)-1)),.v (.lst (aZ (ascs ks VJ (ks.length-1) 0))),x8]):
  aN (b6 7 (fN 1 [0,2] (fX (a7 (a8 6) aG)) (gN 0) (aU (aP zI (aP bX (a8 1) (aP bX (a8 2) (a8 0))) (aP bX (a8 1) (aP bX (a8 2) (aP dS (a8 0) (eC (.int 1))))))) (a8 0))) tl E [.v (.lst (aZ ks)),x1,.v (.lst (aZ VJ)),x3,x4,x5,.v (.int ((ks.length:Int)-1)),x7,x8]:=by
 ac_nf;refine⟨⋯,?_⟩;rw[show ((ks.length:Int)-1).toNat=ks.length-1 by ac_rfl];exact MD hn P (ks.length-1) 0 [] ⋯ (by simp;ac_rfl) h
variable {x2:Sl}
theorem MI(h0:l=[]->E.rt (.nw (.lst (aZ row))))(h1:l≠[]->tl E [x0,x1,x2,.own a (.lst (aZ row)),x4,x5,x6,.v (.lst (aZ l)),x8]):
  aN (jE (aU (aP qQ (a8 7) (g7 aG))) (c6 (a8 3)) bK) tl E [x0,x1,x2,.own a (.lst (aZ row)),x4,x5,x6,.v (.lst (aZ l)),x8]:=by
 push_cast [LF,SQ];refine⟨rfl,?_⟩;cases l with
 |nil=>exact h0 rfl
 |cons i l=>exact h1 (by simp)
theorem MH{c k:Int}(hl:l≠[])(hk:0<=k/\k<=500)(h:∀q:Int,0<=q->q<l.length->tl E [x0,.v (.int c),x2,x3,x4,.v (.int k),x6,.v (.lst (aZ l)),.v (.int q)]):
  aN (b6 8 (aS jT (a7 (a8 1) (a7 (a8 5) (a7 (fR d9 (a7 (a8 7) aG)) aG))))) tl E [x0,.v (.int c),x2,x3,x4,.v (.int k),x6,.v (.lst (aZ l)),x8]:=by
 have hpos:(0:Int)<l.length:=by cases l with | nil=>exact absurd rfl hl | cons=>simp<;>ac_rfl
 push_cast [ay];refine⟨c,k,l.length,rfl,hk.1,hk.2,hpos,λq q0 q1=>?_⟩;ac_nf;exact h q q0 q1
variable {q:Int}
theorem MG{VL:Int}(hl:l≠[])(ll:l.length<=100)(q0:0<=q)(q1:q<l.length)(h:∀VL q:Int,0<=q->q<l.length->tl E [x0,x1,x2,x3,.v (.int VL),x5,x6,.v (.lst (aZ l)),.v (.int q)]):
  aN (jE (aU (aP Hz (a8 4) (eC (.int 1)))) (aN (b6 8 (aP gZ (a8 4) (fR d9 (a7 (a8 7) aG)))) (b6 4 (aP mU (a8 4) (fR d9 (a7 (a8 7) aG))))) bK) tl E [x0,x1,x2,x3,.v (.int VL),x5,x6,.v (.lst (aZ l)),.v (.int q)]:=by
 have hpos:(0:Int)<l.length:=by cases l with | nil=>exact absurd rfl hl | cons=>simp<;>ac_rfl
 push_cast [ay];split
 ·exact⟨hpos,⟨hpos,⋯⟩,h _ _ (xj VL ⋯) (pi VL hpos)⟩
 ·exact h _ _ q0 q1
theorem ME{p:Nat}(q0:0<=q)(q1:q<l.length)(ep:l.getD q.toNat 0=p)(hp:p+1<VJ.length)(pl:VJ.length<=100)(rl:row.length<=200)(h:E.nx [x0,x1,.v (.lst (aZ (aL VJ p))),.own a (.lst (aZ row++[Dv.int (p:Int)])),x4,x5,x6,.v (.lst (aZ l)),.v (.int q)]):
  aN (mS 3 (aP bX (a8 7) (a8 8))) (b6 2 (aS fG (a7 (a8 2) (a7 (aP bX (a8 7) (a8 8)) aG)))) E [x0,x1,.v (.lst (aZ VJ)),.own a (.lst (aZ row)),x4,x5,x6,.v (.lst (aZ l)),.v (.int q)]:=by
 push_cast [vA q0 q1,ep,ay];refine⟨⋯,VJ,p,rfl,pl,hp,?_⟩;ac_nf;exact h
theorem SW{d:Dv}{Q:List Sl->Prop}(h:Q [x0,x1,x2,x3,x4,.v d,x6,x7,x8]):gN 5 d [x0,x1,x2,x3,x4,x5,x6,x7,x8] Q:=by
 ac_nf;exact h
theorem ML{c:Int}(h2:2<=ks.length)(hn:ks.length<=12)(hp:pc ks<=60)(hQ:∀row e,Walk ks (ids ks.length) row e->d5 ks e->row.length<=60->Q (.nw (.lst (aZ row))))(hE:E.rt=Q):
  ∀(i k:Nat) (VL:Int) (VJ row:List Int) (s5 s6 s7 s8:Sl),k+i=ks.length*ks.length->row.length=k->Walk ks (ids ks.length) row VJ ->
  bI (gN 5) (k7 jT fG) [] (bP k i) E [.v (.lst (aZ ks)),.v (.int c),.v (.lst (aZ VJ)),.own a (.lst (aZ row)),.v (.int VL),s5,s6,s7,s8]:=by
 have sq:ks.length*ks.length<=12*12:=mj hn hn;have pl:=Fl.Mc (l:=ks) ⋯;have Tp:∀{row VJ},Walk ks (ids ks.length) row VJ->row.length<=pc ks:=λw=>by
  have:=w.count (by simp);rw[Fl.GO] at this;ac_rfl
 intro i;induction i with
 |zero=>
  intro k VL VJ row s5 s6 s7 s8 hk rl w;have:=Tp w;ac_rfl
 |succ i ih=>
  intro k VL VJ row s5 s6 s7 s8 hk rl w;rw[cU,cK];refine⟨λp hp=>by simp at hp,?_⟩;have P:=w.pt (Pt.ids _);have hl:=P.len;have rw60:=Tp w;have next:∀(VL:Int) (p:Nat) (s5 s6 s7 s8:Sl),p+1<ks.length->kd ks (VJ.getD p 0)<kd ks (VJ.getD (p+1) 0) ->
    bI (gN 5) (k7 jT fG) [] (bP ((k:Int)+1) i) E [.v (.lst (aZ ks)),.v (.int c),.v (.lst (aZ (aL VJ p))),.own a (.lst (aZ row++[Dv.int (p:Int)])),.v (.int VL),s5,s6,s7,s8]:=λVL p s5 s6 s7 s8 hp hk'=>by
   have:=ih (k+1) VL (aL VJ p) (row++[(p:Int)]) s5 s6 s7 s8 ⋯ (by simp[rl]) (w.snoc hp hk');rw[show (((k+1:Nat)):Int)=(k:Int)+1 by ac_rfl] at this;simpa using this
  generalize bI (gN 5) (k7 jT fG) [] (bP ((k:Int)+1) i) E=G at next ⊢;have am:=BD ks VJ (ks.length-1) 0;have an:=BC ks VJ (ks.length-1) 0;have al:=BE ks VJ (ks.length-1) 0;refine SW (MK hl (MJ h2 hn P ?_));generalize ascs ks VJ (ks.length-1) 0=l at am an al;refine MI (λle=>?_) λle=>MH le ⋯ λq q0 q1=>MG le ⋯ q0 q1 λVL q q0 q1=>?_
  ·show E.rt _;rw[hE];exact hQ row VJ w (λp hp=>an le p ⋯ ⋯) ⋯
  ·have hin:l.getD q.toNat 0∈l:=by
    have hk:q.toNat<l.length:=⋯;simp only[eo,au hk,getD_some];exact gm hk
   obtain⟨p,ep,lp,kp⟩:=am _ hin;exact ME q0 q1 ep ⋯ ⋯ ⋯ (next VL p _ _ _ _ ⋯ kp)
theorem DT:∀ds Q,gJ ds Q->rA jT fG ↥Q (aM ["_law_bands_here", "_law_cell", "_law_path", "_law_row_here", "_law_rest", "_law_step", "_law_last", "_law_spots", "_law_pick_here"] ds):=by
 rintro ds Q ⟨ks,c,rfl,h2,hn,hp,h⟩;have sq:ks.length*ks.length<=12*12:=mj hn hn;push_cast [ay];refine⟨⋯,?_⟩;intro a;rw[show ((ks.length:Nat):Int).toNat=ks.length by ac_rfl,A6 ks.length];have e:(ks.length:Int)*(ks.length:Int)=((ks.length*ks.length:Nat):Int):=by simp
 refine⟨sQ ⋯ ⋯,by rw[e];ac_rfl,?_⟩;rw[e,bp];exact ML (Q:=Q) h2 hn hp h rfl (ks.length*ks.length) 0 c _ [] _ _ _ _ ⋯ rfl (.nil _)
end Lw
variable {fl:List Lw.Ti}
namespace Lw
open L2 Z
open Sf (Rw crs qZ Pre Good aI aW place many)
open Fl (kd ids Walk d5 tls pc aL Pt)
noncomputable def Al(ts us:List Ti):Prop:=ts.length=us.length /\ ∀(i:Nat) (t u:Ti),ts[i]?=aa t->us[i]?=aa u->t.1=u.1/\t.2.1=u.2.1/\t.2.2=Fl.srt u.2.2
theorem Al.nil:Al [] []:=⟨rfl,λi t u h=>by simp at h⟩
theorem Al.snoc{ts us:List Ti}{t u:Ti}(h:Al ts us)(e1:t.1=u.1)(e2:t.2.1=u.2.1)(e3:t.2.2=Fl.srt u.2.2):Al (ts++[t]) (us++[u]):=by
 refine⟨by simp[h.1],λi x y hx hy=>?_⟩;by_cases hi:i<ts.length
 ·rw[bj hi] at hx;rw[bj (by rw[<- h.1];exact hi)] at hy;exact h.2 i x y hx hy
 ·rw[bt ⋯] at hx;rw[bt (by rw[<- h.1];ac_rfl)] at hy;have:i-ts.length=0:=by
   have:=(av.mp hx).1;simp at this;ac_rfl
  rw[this] at hx;rw[<- h.1,this] at hy;simp only[qd,gr] at hx hy;subst hx hy;exact⟨e1,e2,e3⟩
noncomputable def iV(ks row:List Int)(fl:List Ti):Prop:=∃ts,fl.Perm ts/\Al ts (tls (ids ks.length) row)
variable {e:List Int}
theorem Al.keys{ts:List Ti}(w:Walk ks (ids ks.length) row e)(h:Al ts (tls (ids ks.length) row)):sB ts:=by
 have nd:=w.nodup (Pt.ids _);rw[List.nodup_iff_pairwise_ne,io] at nd;have pw:=cw.mp nd;refine cw.mpr λi j hi hj hij z=>?_;have hi':i<(tls (ids ks.length) row).length:=by rw[<- h.1];exact hi
 have hj':j<(tls (ids ks.length) row).length:=by rw[<- h.1];exact hj
 obtain⟨a1,a2,_⟩:=h.2 i _ _ (au hi) (au hi');obtain⟨b1,b2,_⟩:=h.2 j _ _ (au hj) (au hj');exact pw i j hi' hj' hij (by rw[<- a1,<- a2,<- b1,<- b2,z.1,z.2])
theorem sB.perm{a b:List Ti}(h:sB a)(p:a.Perm b):sB b:=(p.pairwise_iff (λ{x y} h z=>h ⟨z.1.symm,z.2.symm⟩)).mp h
theorem iV.keys{ks row e:List Int}{fl:List Ti}(w:Walk ks (ids ks.length) row e)(h:iV ks row fl):sB fl:=by
 obtain⟨ts,p,a⟩:=h;exact(a.keys w).perm p.symm
theorem iV.len(h:iV ks row fl):fl.length=row.length:=by
 obtain⟨ts,p,a⟩:=h;rw[p.length_eq,a.1,Fl.j5]
theorem iV.cov(w:Walk ks (ids ks.length) row e)(d:d5 ks e)(m:jO ks)(h:iV ks row fl):Ra ks fl:=by
 obtain⟨ts,p,al⟩:=h;intro a c h0 hac hc hk;have:=m a c h0 ⋯ hc;obtain⟨t,ht,e1,e2⟩:=w.all (Pt.ids _) d (x:=a) (y:=c) ⋯ (Fl.uN h0 hac hc);obtain⟨i,hi,gi⟩:=dm.mp ht;have hi':i<ts.length:=by rw[al.1];exact hi
 obtain⟨a1,a2,_⟩:=al.2 i _ _ (au hi') (au hi);exact⟨ts[i],p.mem_iff.mpr (gm hi'),by rw[a1,gi,e1],by rw[a2,gi,e2]⟩
theorem iV.below(w:Walk ks (ids ks.length) row e)(h:iV ks row fl){k:Nat}{v:Ti}(hk:(tls (ids ks.length) row)[k]?=aa v):bN fl v.1 v.2.1=Fl.srt v.2.2:=by
 have ky:=h.keys w;obtain⟨ts,p,al⟩:=h;obtain⟨hk',gk⟩:=av.mp hk;have hi':k<ts.length:=by rw[al.1];exact hk'
 obtain⟨a1,a2,a3⟩:=al.2 k _ _ (au hi') hk;have hm:ts[k]∈fl:=p.mem_iff.mpr (gm hi');obtain⟨u,hu,mu,u1,u2,eu⟩:=n0 (l:=fl) (a:=v.1) (c:=v.2.1) ⟨ts[k],hm,a1,a2⟩;have:u=ts[k]:=by
  obtain⟨i,hi,gi⟩:=dm.mp mu;obtain⟨j,hj,gj⟩:=dm.mp hm;have pw:=cw.mp ky;rcases sh i j with z | z | z
  ·exact(pw i j hi hj z ⟨by rw[gi,gj,u1,a1],by rw[gi,gj,u2,a2]⟩).elim
  ·subst z;rw[<- gi,gj]
  ·exact(pw j i hj hi z ⟨by rw[gi,gj,u1,a1],by rw[gi,gj,u2,a2]⟩).elim
 rw[eu,this];exact a3
theorem EZ{r:List Int}(w:Walk ks l r e)(p:Nat):tls l (r++[(p:Int)])=tls l r++[(e.getD p 0,e.getD (p+1) 0,e.take p)]:=by
 induction w with
 |nil l=>simp[tls]
 | @cons l e r q a b w ih=>rw[gv,tls,tls,bp,ih,gv]
noncomputable def Sc(fl:List Ti):Prop:=fl.Pairwise λt u=>lexB [t.1,t.2.1] [u.1,u.2.1]=ai
noncomputable def dJ:Fn:=λds Q=>∃(ks row e:List Int),ds=[.lst (aZ ks),.lst (aZ row)]/\ks.length<=12/\Walk ks (ids ks.length) row e/\row.length<=60 /\ ∀fl,iV ks row fl->Sc fl->Q (.nw (.lst (eO fl)))
theorem Dr:∀ds Q,dJ ds Q->ds.length=2:=by rintro ds Q ⟨_,_,_,rfl,_⟩;rfl
theorem Fm:MonoF dJ:=⟨λds Q Q' w z=>by obtain⟨a,b,c,d,e,f,g,h⟩:=z;exact⟨a,b,c,d,e,f,g,λr x y=>w _ (h r x y)⟩⟩
variable {VJ:List Int}{p:Nat}{E:En}{x0 x1:Sl}
theorem NN{ms:List Int}{l:List Dv}(hp:p+1<VJ.length)(pl:VJ.length<=20)(ll:l.length<=200)(h:∀ms:List Int,ms=Fl.srt (VJ.take p)->tl E [x0,x1,.v (.lst (aZ VJ)),.own a (.lst (l++[Dv.tup [Dv.int (VJ.getD p 0),Dv.int (VJ.getD (p+1) 0),Dv.tup (aZ ms)]])),.v (.int p)]):
  aN (mS 3 (bQ (a7 (aP bX (a8 2) (a8 4)) (a7 (aP bX (a8 2) (aP dS (a8 4) (eC (.int 1)))) (a7 (fR jH (a7 (fR gM (a7 (C2 (a8 2) iF (gC (a8 4))) aG)) aG)) aG))))) tl E [x0,x1,.v (.lst (aZ VJ)),.own a (.lst l),.v (.int p)]:=by
 push_cast [gY (show p<VJ.length by ac_rfl),show ((p:Int)+1)=((p+1:Nat):Int) by ac_rfl,gY hp,Gg (show (0:Int)<=p by ac_rfl),bp,<- Vr];refine wL (by rw[cv];ac_rfl) λms hm hs=>?_;ac_nf;exact⟨⋯,h ms (Fl.cH hm hs)⟩
variable {x3:Sl}
theorem NM(hp:p+1<VJ.length)(pl:VJ.length<=20)(h:E.nx [x0,x1,.v (.lst (aZ (aL VJ p))),x3,.v (.int p)]):b6 2 (aS fG (a7 (a8 2) (a7 (a8 4) aG))) E [x0,x1,.v (.lst (aZ VJ)),x3,.v (.int p)]:=by
 ac_nf;refine⟨VJ,p,rfl,⋯,hp,?_⟩;ac_nf;exact h
theorem SX{d:Dv}{x2 x4:Sl}{Q:List Sl->Prop}(h:Q [x0,x1,x2,x3,.v d]):gN 4 d [x0,x1,x2,x3,x4] Q:=by
 ac_nf;exact h
theorem Io{x y:Sl}(hn:ks.length<=12):∀(r done VJ e:List Int) (ts:List Ti) (s:Sl),Walk ks (ids ks.length) done VJ->Walk ks VJ r e->Al ts (tls (ids ks.length) done)->ts.length+r.length<=100 ->
  (∀VJ ts s,Al ts (tls (ids ks.length) (done++r))->E.nx [x,y,.v (.lst (aZ VJ)),.own a (.lst (eO ts)),s]) ->
  bI (gN 4) (iI fG) [] (aZ r) E [x,y,.v (.lst (aZ VJ)),.own a (.lst (eO ts)),s]:=by
 intro r;induction r with
 |nil=>
  intro done VJ e ts s w1 w2 al hl h;rw[show aZ []=[] from rfl,cA];exact⟨λp hp=>by simp at hp,h VJ ts s (by simpa using al)⟩
 |cons p r ih=>
  intro done VJ e ts s w1 w2 al hl h;obtain⟨p,rfl,hp,hk,w2'⟩:∃q:Nat,p=q/\q+1<ks.length/\kd ks (VJ.getD q 0)<kd ks (VJ.getD (q+1) 0)/\Walk ks (aL VJ q) r e:=by
   cases w2 with
   |cons a b w=>exact⟨_,rfl,a,b,w⟩
  have P:=w1.pt (Pt.ids _);have pl:=P.len;simp only[bh] at hl;rw[show aZ ((p:Int)::r)=.int p::aZ r from rfl,cK];refine⟨λp hp=>by simp at hp,?_⟩;have next:∀ms:List Int,ms=Fl.srt (VJ.take p)->bI (gN 4) (iI fG) [] (aZ r) E [x,y,.v (.lst (aZ (aL VJ p))),.own a (.lst (eO ts++[Dv.tup [Dv.int (VJ.getD p 0),Dv.int (VJ.getD (p+1) 0),Dv.tup (aZ ms)]])),.v (.int p)]:=λms hm=>by
   have al':Al (ts++[(VJ.getD p 0,VJ.getD (p+1) 0,ms)]) (tls (ids ks.length) (done++[(p:Int)])):=by
    rw[EZ w1];exact al.snoc rfl rfl hm
   have:=ih (done++[(p:Int)]) (aL VJ p) e (ts++[(VJ.getD p 0,VJ.getD (p+1) 0,ms)]) (.v (.int p)) (w1.snoc hp hk) w2' al' (by simp;ac_rfl) (by simpa using h);simpa using this
  generalize bI (gN 4) (iI fG) [] (aZ r) E=G at next ⊢;exact SX (NN (ms:=[]) ⋯ ⋯ (by simp;ac_rfl) λms hm=>NM ⋯ ⋯ (next ms hm))
theorem AN:∀ds Q,dJ ds Q->mM fG ↥Q (aM ["_law_bands_here", "_law_row_here", "_law_path", "_law_tiles", "_law_p"] ds):=by
 rintro ds Q ⟨ks,row,e,rfl,hn,w,rl,h⟩;push_cast [ay];refine⟨⋯,?_⟩;intro a;rw[show ((ks.length:Nat):Int).toNat=ks.length by ac_rfl,A6 ks.length];refine Io hn row [] (ids ks.length) e [] _ (.nil _) w Al.nil (by simp;ac_rfl) λVJ ts s al=>?_;ac_nf;rw[kz] at al;have tl:ts.length=row.length:=by rw[al.1,Fl.j5]
 rw[show eO ts=(ts.map λt=>([t.1,t.2.1],[Dv.tup (aZ t.2.2)])).map tI by rw[og];rfl];refine wK (k:=1) (by simp;ac_rfl) (λt ht=>?_) ?_ λts' hp hs=>?_
 ·obtain⟨u,_,rfl⟩:=fv.mp ht;rfl
 ·rw[io];exact(al.keys w).imp λ{t u} z q=>z (by simpa using q)
 ·obtain⟨fl,hf,rfl⟩:=rN hp rfl;rw[og];rw[io] at hs;ac_nf;exact h fl ⟨ts,hf,al⟩ hs
noncomputable def mQ:Fn:=λds Q=>∃(l:List Int) (k:Int),ds=[.lst (aZ l),.int k]/\l.length<=100/\Q (.v (.int ((l.filter λb=>decide (b=k)).length)))
theorem Dq:∀ds Q,mQ ds Q->ds.length=2:=by rintro ds Q ⟨_,_,rfl,_⟩;rfl
theorem Fk:MonoF mQ:=⟨λds Q Q' w z=>by obtain⟨a,b,c,d,h⟩:=z;exact⟨a,b,c,d,w _ h⟩⟩
theorem LA{k:Int}:∀(l acc:List Int),acc.length+l.length<=100->Q (.nw (.lst (aZ (acc++l.filter λb=>decide (b=k))))) ->
  cP [.un,.v (.int k)] (gN 0) (aU (aP qQ (a8 0) (a8 1))) (a8 0) (aZ l) (aZ acc) Q:=by
 intro l;induction l with
 |nil=>
  intro acc _ h;ac_nf;simpa using h
 |cons b l ih=>
  intro acc hl h;simp only[bh] at hl;push_cast [ay];by_cases e:b=k
  ·rw[VH e];refine⟨⋯,?_⟩;rw[show aZ acc++[Dv.int b]=aZ (acc++[b]) by simp];refine ih _ (by simp;ac_rfl) ?_;rw[jx (by simpa using e)] at h;simpa using h
  ·rw[Vn e];refine ih _ ⋯ ?_;rw[jy (by simpa using e)] at h;exact h
theorem Bh:∀ds Q,mQ ds Q->oU ↥Q (aM ["_law_bands_here", "_law_kind"] ds):=by
 rintro ds Q ⟨l,k,rfl,hl,h⟩;ac_nf;refine LA l [] (by simp;ac_rfl) ?_;push_cast [ay];exact h
theorem uQ:∀(j:Nat) (cs:List Nat) (i:Nat),((aH j cs).filter λb=>decide (b=((j+i:Nat):Int))).length=cs.getD i 0
 |_,[],i=>by simp[aH]
 |j,c::cs,0=>by
  have key:∀(k:Nat) (cs:List Nat),j<k->(aH k cs).filter (λb=>decide (b=((j+0:Nat):Int)))=[]:=by
   intro k cs hk;apply je.mpr;intro x hx;have:=(lT k cs).2 x hx;simp;ac_rfl
  rw[aH,ox,key (j+1) cs ⋯,im,sy.mpr (λx hx=>by rw[cr hx];simp)];simp
 |j,c::cs,i+1=>by
  have e:=uQ (j+1) cs i;rw[aH,ox,bq];have z:(ao c (j:Int)).filter (λb=>decide (b=((j+(i+1):Nat):Int)))=[]:=by
   apply je.mpr;intro x hx;rw[cr hx];simp;ac_rfl
  rw[z,show j+(i+1)=j+1+i by ac_rfl,e];simp
theorem lU(C:Cnt cs):oP (aZ (aH 0 cs)) (-1)=aa (.int ((cs.length:Int)-1)):=by
 have hne:cs≠[]:=by intro z;have:=C.lo;rw[z] at this;simp at this
 have e:cs=cs.dropLast++[cs.getLast hne]:=(sv hne).symm;have h1:=C.ok _ (List.getLast_mem hne);have lo:=C.lo;generalize cs.getLast hne=c at *;generalize cs.dropLast=ds at *;subst e;obtain⟨c,rfl⟩:∃k,c=k+1:=⟨c-1,⋯⟩;rw[pQ,mr];unfold oP sJ;rw[Vn ∅,VH (by simp;ac_rfl)];simp only[ay,bq,lr,bind_some];rw[show (-1+(((aH 0 ds).length+(c+1):Nat):Int)).toNat=(aH 0 ds).length+c by ac_rfl];simp
noncomputable def Ew(k:Nat)(c:Nat):Rw:=⟨6-2*(k:Int),1,(c:Int)⟩
noncomputable def cI:Nat->List Nat->List Rw
 |_,[]=>[]
 |k,c::cs=>Ew k c::cI (k+1) cs
theorem qH:∀(k:Nat) (cs:List Nat),(cI k cs).length=cs.length
 |_,[]=>rfl
 |k,c::cs=>by rw[cI,bh,bh,qH]
theorem tW:∀(k:Nat) (cs:List Nat),aW k (cI k cs)=aH k cs
 |_,[]=>rfl
 |k,c::cs=>by
  rw[cI,aW,aH,tW (k+1) cs];rfl
theorem tV:∀(k:Nat) (cs:List Nat) (r:Rw),r∈cI k cs -> ∃(j c:Nat),r=Ew j c/\k<=j/\j<k+cs.length/\c∈cs
 |_,[],r,h=>by cases h
 |k,c::cs,r,h=>by
  rcases br.mp h with rfl | h
  ·exact⟨k,c,rfl,bo _,by simp,by simp⟩
  ·obtain⟨j,d,e,h1,h2,h3⟩:=tV (k+1) cs r h;exact⟨j,d,e,⋯,by simp;ac_rfl,by simp[h3]⟩
theorem A5:∀(k:Nat) (cs:List Nat),qZ (cI k cs)
 |_,[]=>List.Pairwise.nil
 |k,c::cs=>by
  refine ee.mpr ⟨λr hr=>?_,A5 (k+1) cs⟩;obtain⟨j,d,rfl,h1,_,_⟩:=tV (k+1) cs r hr;show 0<(6-2*(k:Int))*1-(6-2*(j:Int))*1;ac_rfl
theorem wG:∀(k:Nat) (cs:List Nat),many (cI k cs)=(cs.sum:Int)
 |_,[]=>rfl
 |k,c::cs=>by
  have:=wG (k+1) cs;unfold many at this ⊢;rw[cI,cf,vq,this,vq];show (c:Int)+_=_;ac_rfl
theorem DK(C:Cnt cs):Good (cI 0 cs):=by
 have lo:=C.lo;have hi:=C.hi;have tt:=C.tot;refine⟨by rw[qH];ac_rfl,by rw[qH];ac_rfl,A5 0 cs,λr hr=>?_,by rw[wG];ac_rfl⟩;obtain⟨j,c,rfl,_,h2,h3⟩:=tV 0 cs r hr;have:=C.ok c h3;refine⟨.inl (by show (0:Int)<1;decide),?_,?_,?_,?_⟩
 ·show -999999999999<=6-2*(j:Int);ac_rfl
 ·show 6-2*(j:Int)<=999999999999;ac_rfl
 ·show (1:Int)<=999999999999;decide
 ·show (1:Int)<=(c:Int);ac_rfl
noncomputable def c9(C:ae):Fn:=λds Q=>∃cs:List Nat,ds=[.lst (aZ (aH 0 cs))]/\Cnt cs/\Q (.nw (b5 C (cI 0 cs)))
theorem Bv:∀ds Q,c9 C ds Q->ds.length=1:=by rintro ds Q ⟨_,rfl,_⟩;rfl
theorem Di:MonoF (c9 C):=⟨λds Q Q' w z=>by obtain⟨a,b,c,h⟩:=z;exact⟨a,b,c,w _ h⟩⟩
theorem wF:∀(k:Nat) (cs:List Nat) (c:Nat),cI k (cs++[c])=cI k cs++[Ew (k+cs.length) c]
 |_,[],_=>by simp[cI]
 |k,a::cs,c=>by
  rw[gv,cI,cI,wF (k+1) cs c,gv,bh,show k+1+cs.length=k+(cs.length+1) by ac_rfl]
theorem HS(C:Cnt cs):∀(m k:Nat),k+m=cs.length->Q (.nw (.lst (BI (cI 0 cs)))) ->
  cP [.un,.v (.lst (aZ (aH 0 cs)))] (gN 0) lX (bQ (a7 (aP kN (eC (.int 6)) (aP fQ (eC (.int 2)) (a8 0))) (a7 (eC (.int 1)) (a7 (aS mQ (a7 (a8 1) (a7 (a8 0) aG))) aG)))) (bP k m) (BI (cI 0 (cs.take k))) Q:=by
 intro m;have hi:=C.hi;have bl:=(yY C).2;induction m with
 |zero=>
  intro k hk h;rw[eG,eJ,nk ⋯];exact h
 |succ m ih=>
  intro k hk h;have hlt:k<cs.length:=⋯;have rl:=qH 0 (cs.take k);rw[cv] at rl;push_cast [cU];refine⟨sQ ⋯ ⋯,aH 0 cs,k,rfl,⋯,?_⟩;have fb:=uQ 0 cs k;rw[mr] at fb;push_cast [fb,ay];refine⟨⋯,?_⟩;have:=ih (k+1) ⋯ h;rw[List.take_add_one,au hlt] at this;simp only[Option.toList_some] at this;rw[wF,mr,cv,nr ⋯,show (((k+1:Nat)):Int)=(k:Int)+1 by ac_rfl] at this;unfold BI at this ⊢;rw[uk] at this;have ec:cs.getD k 0=cs[k]:=by simp[eo,hlt]
  rw[ec];exact this
theorem AM:∀ds Q,c9 C ds Q->mL mQ (qE C) ↥Q (aM ["_law_bands_here"] ds):=by
 rintro ds Q ⟨cs,rfl,C',h⟩;have hi:=C'.hi;have lo:=C'.lo;push_cast [lU C'];refine⟨⋯,?_⟩;rw[show ((cs.length:Int)-1+1).toNat=cs.length by ac_rfl];refine HS C' cs.length 0 ⋯ ?_;refine⟨cI 0 cs,rfl,DK C',?_⟩;ac_nf;exact h
theorem Bw(cs:List Nat):aI (cI 0 cs)=aH 0 cs:=tW 0 cs
end Lw
namespace Lw
open L2 Z
open Sf (Rw crs qZ Pre Good aI aW place many)
open Fl (kd ids Walk d5 tls pc aL Pt srt cH zG)
theorem yM{α:Type}(f:α->Dv)(hf:∀a b,eqD (f a) (f b)=ai ↔ a=b):∀l m:List α,fz (pyDs (l.map f)) (pyDs (m.map f))=ai ↔ l=m
 | [],[]=>by simp[fU.pyDs,fz]
 | [],_::_=>by simp[fU.pyDs,fz]
 |_::_,[]=>by simp[fU.pyDs,fz]
 |a::l,b::m=>by
  show fz (fU (f a)::pyDs (l.map f)) (fU (f b)::pyDs (m.map f))=ai ↔ _;have h:=hf a b;unfold eqD at h;rw[fz,dj,yM f hf l m,h,ji]
theorem Aq(f:α->Dv)(hf:∀a b,eqD (f a) (f b)=ai ↔ a=b)(l m:List α):eqD (.lst (l.map f)) (.lst (m.map f))=ai ↔ l=m:=by
 unfold eqD;show fi (.list (pyDs _)) (.list (pyDs _))=ai ↔ _;rw[fi];exact yM f hf l m
theorem Ap(f:α->Dv)(hf:∀a b,eqD (f a) (f b)=ai ↔ a=b)(l m:List α):eqD (.tup (l.map f)) (.tup (m.map f))=ai ↔ l=m:=by
 unfold eqD;show fi (.tuple (pyDs _)) (.tuple (pyDs _))=ai ↔ _;rw[fi];exact yM f hf l m
theorem Cp(a b:Int):eqD (.int a) (.int b)=ai ↔ a=b:=by rw[Z.yN,decide_eq_true_eq]
theorem tE(l m:List Int):eqD (.tup (aZ l)) (.tup (aZ m))=decide (l=m):=by
 rw[oy,decide_eq_true_eq];exact Ap _ Cp l m
theorem GW(t u:Ti):eqD (Eb t) (Eb u)=ai ↔ t=u:=by
 have h1:=Cp t.1 u.1;have h2:=Cp t.2.1 u.2.1;have h3:=Ap Dv.int Cp t.2.2 u.2.2;unfold eqD at h1 h2 h3 ⊢;show fi (.tuple [fU (.int t.1),fU (.int t.2.1),fU (.tup (aZ t.2.2))]) (.tuple [fU (.int u.1),fU (.int u.2.1),fU (.tup (aZ u.2.2))])=ai ↔ _;rw[fi,fz,fz,fz,fz,dj,dj,dj,h1,h2,h3];obtain⟨a,b,c⟩:=t;obtain⟨x,y,z⟩:=u;simp
theorem tF(l m:List Ti):eqD (.lst (eO l)) (.lst (eO m))=decide (l=m):=by
 rw[oy,decide_eq_true_eq];exact Aq _ GW l m
theorem Oa(l m:List (Int×Int×Int)):eqD (.lst (cM l)) (.lst (cM m))=decide (l=m):=by
 rw[oy,decide_eq_true_eq];refine Aq _ (λt u=>?_) l m;rw[show Dv.tup [Dv.int t.1,Dv.int t.2.1,Dv.int t.2.2]=.tup (aZ [t.1,t.2.1,t.2.2]) from rfl,show Dv.tup [Dv.int u.1,Dv.int u.2.1,Dv.int u.2.2]=.tup (aZ [u.1,u.2.1,u.2.2]) from rfl,tE,decide_eq_true_eq];obtain⟨a,b,c⟩:=t;obtain⟨x,y,z⟩:=u;simp
theorem nW(n:Nat):∀l:List Dv,(∀d∈l,dD n d=ai)->okDs n l=ai
 | [],_=>rfl
 |d::r,h=>by
  show (dD n d&&okDs n r)=ai;rw[h d (by simp),nW n r λx hx=>h x (by simp[hx])];rfl
theorem Rl(l:List (Int×Int×Int)):dD 8 (.lst (cM l))=ai:=nW 7 _ λd hd=>by
 obtain⟨t,_,rfl⟩:=fv.mp hd;exact oK 6 [t.1,t.2.1,t.2.2]
theorem u9(l:List Ti):dD 8 (.lst (eO l))=ai:=nW 7 _ λd hd=>by
 obtain⟨t,_,rfl⟩:=fv.mp hd;refine nW 6 _ λd hd=>?_;simp only[br,fc,or_false] at hd;rcases hd with rfl | rfl | rfl
 ·rfl
 ·rfl
 ·exact oK 5 _
theorem jJ(l:List Int):dD 8 (.tup (aZ l))=ai:=oK 7 l
theorem JD(l:List Int)(b:Int):aZ l++[Dv.int b]=aZ (l++[b]):=by simp
noncomputable def kJ:Fn:=λds Q=>∃(l:List Int) (b:Int),ds=[.tup (aZ l),.int b]/\l.length<=30/\Q (.v (.tup (aZ (srt (l++[b])))))
theorem Fx:∀ds Q,kJ ds Q->ds.length=2:=by rintro ds Q ⟨_,_,rfl,_⟩;rfl
theorem Ff:MonoF kJ:=⟨λds Q Q' w z=>by obtain⟨a,b,c,d,h⟩:=z;exact⟨a,b,c,d,w _ h⟩⟩
theorem AI:∀ds Q,kJ ds Q->mG ↥Q (aM ["below", "band"] ds):=by
 rintro ds Q ⟨l,b,rfl,hl,h⟩;push_cast [FW,ay];refine⟨⋯,?_⟩;rw[JD];refine Bj (by simp;ac_rfl) λms hm hs=>?_;obtain rfl:=cH hm hs;ac_nf;exact h
noncomputable def EW(a b c:Int)(l:List Int):List Ti:=[(a,b,l),(a,c,srt (l++[b])),(b,c,l)]
noncomputable def Gf(a b c:Int)(l:List Int):List Ti:=[(a,b,srt (l++[c])),(a,c,l),(b,c,srt (l++[a]))]
noncomputable def wB:Fn:=λds Q=>∃(a b c:Int) (l:List Int),ds=[.int a,.int b,.int c,.tup (aZ l)]/\l.length<=30/\Q (.nw (.lst (eO (EW a b c l))))
theorem Ko:∀ds Q,wB ds Q->ds.length=4:=by rintro ds Q ⟨_,_,_,_,rfl,_⟩;rfl
theorem Mz:MonoF wB:=⟨λds Q Q' w z=>by obtain⟨a,b,c,d,e,f,h⟩:=z;exact⟨a,b,c,d,e,f,w _ h⟩⟩
theorem vF:∀ds Q,wB ds Q->kA kJ ↥Q (aM ["a", "b", "c", "some"] ds):=by
 rintro ds Q ⟨a,b,c,l,rfl,hl,h⟩;ac_nf;refine⟨l,b,rfl,hl,?_⟩;ac_nf;exact h
noncomputable def wC:Fn:=λds Q=>∃(a b c:Int) (l:List Int),ds=[.int a,.int b,.int c,.tup (aZ l)]/\l.length<=30/\Q (.nw (.lst (eO (Gf a b c l))))
theorem Kp:∀ds Q,wC ds Q->ds.length=4:=by rintro ds Q ⟨_,_,_,_,rfl,_⟩;rfl
theorem N0:MonoF wC:=⟨λds Q Q' w z=>by obtain⟨a,b,c,d,e,f,h⟩:=z;exact⟨a,b,c,d,e,f,w _ h⟩⟩
theorem sS:∀ds Q,wC ds Q->iX kJ ↥Q (aM ["a", "b", "c", "some"] ds):=by
 rintro ds Q ⟨a,b,c,l,rfl,hl,h⟩;ac_nf;refine⟨l,c,rfl,hl,?_⟩;ac_nf;refine⟨l,a,rfl,hl,?_⟩;ac_nf;exact h
noncomputable def CB(fl:List Ti)(a c:Int):Prop:=∃u,(fl.find? λt=>decide (t.1=a/\t.2.1=c))=aa u/\u.2.2=bN fl a c/\u.2.2.length<=30
noncomputable def jP(fl:List Ti)(t:Int×Int×Int):Prop:=zG (bN fl t.1 t.2.1) (bN fl t.1 t.2.2) (bN fl t.2.1 t.2.2) t.1 t.2.1 t.2.2
noncomputable instance (fl:List Ti) (t:Int×Int×Int):Decidable (jP fl t):=by unfold jP;exact inferInstance
noncomputable def D1(fl:List Ti)(t:Int×Int×Int):Prop:=bN fl t.2.1 t.2.2=bN fl t.1 t.2.1/\bN fl t.1 t.2.2=srt (bN fl t.1 t.2.1++[t.2.1])
noncomputable def LS(fl:List Ti)(t:Int×Int×Int):Prop:=bN fl t.1 t.2.1=srt (bN fl t.1 t.2.2++[t.2.2])/\bN fl t.2.1 t.2.2=srt (bN fl t.1 t.2.2++[t.1])
noncomputable instance (fl:List Ti) (t:Int×Int×Int):Decidable (D1 fl t):=by unfold D1;exact inferInstance
noncomputable def p6(fl:List Ti)(t:Int×Int×Int):List Ti:=if D1 fl t then Gf t.1 t.2.1 t.2.2 (bN fl t.1 t.2.1) else EW t.1 t.2.1 t.2.2 (bN fl t.1 t.2.2)
noncomputable def wA:Fn:=λds Q=>∃(fl:List Ti) (a b c:Int),ds=[.dit (mB fl),.tup [.int a,.int b,.int c]]/\CB fl a b/\CB fl a c/\CB fl b c/\(jP fl (a,b,c)->Q (.nw (.lst (eO (p6 fl (a,b,c))))))/\(¬jP fl (a,b,c)->Q (.v .non))
theorem Kn:∀ds Q,wA ds Q->ds.length=2:=by rintro ds Q ⟨_,_,_,_,rfl,_⟩;rfl
theorem JP:MonoF wA:=⟨λds Q Q' w z=>by obtain⟨a,b,c,d,e,f,g,h,i,j⟩:=z;exact⟨a,b,c,d,e,f,g,h,λx=>w _ (i x),λx=>w _ (j x)⟩⟩
variable {a:Int}{E:En}{x5:Sl}
theorem P6{c:Int}{x0 x2 x3 x4:Sl}(h:tl E [x0,.v (.tup [.int a,.int b,.int c]),.v (.int a),.v (.int b),.v (.int c),x5]):
  aN (b6 2 (aP bX (a8 1) (eC (.int 0)))) (aN (b6 3 (aP bX (a8 1) (eC (.int 1)))) (aN (b6 4 (aP bX (a8 1) (eC (.int 2)))) tl)) E [x0,.v (.tup [.int a,.int b,.int c]),x2,x3,x4,x5]:=by
 ac_nf;exact h
variable {u1 u2:Ti}{x1:Sl}
theorem Oz{c:Int}{u3:Ti}(h1:(fl.find? λt=>decide (t.1=a/\t.2.1=b))=aa u1)(h2:(fl.find? λt=>decide (t.1=a/\t.2.1=c))=aa u2)(h3:(fl.find? λt=>decide (t.1=b/\t.2.1=c))=aa u3)
     (h:tl E [.v (.dit (mB fl)),x1,.v (.int a),.v (.int b),.v (.int c),.v (.lst (eO [(a,b,u1.2.2),(a,c,u2.2.2),(b,c,u3.2.2)]))]):
  aN (b6 5 (g7 (a7 (bQ (a7 (a8 2) (a7 (a8 3) (a7 (aP bX (a8 0) (bQ (a7 (a8 2) (a7 (a8 3) aG)))) aG)))) (a7 (bQ (a7 (a8 2) (a7 (a8 4) (a7 (aP bX (a8 0) (bQ (a7 (a8 2) (a7 (a8 4) aG)))) aG)))) (a7 (bQ (a7 (a8 3) (a7 (a8 4) (a7 (aP bX (a8 0) (bQ (a7 (a8 3) (a7 (a8 4) aG)))) aG)))) aG))))) tl E [.v (.dit (mB fl)),x1,.v (.int a),.v (.int b),.v (.int c),x5]:=by
 push_cast [lN,h1,h2,h3,sm];exact h
variable {ts:List Ti}
theorem Oy{c:Int}(h1:(fl.find? λt=>decide (t.1=a/\t.2.1=b))=aa u1)(l1:u1.2.2.length<=30)
  (y:ts=EW a b c u1.2.2->E.rt (.nw (.lst (eO (Gf a b c u1.2.2))))) (n:ts≠EW a b c u1.2.2->tl E [.v (.dit (mB fl)),x1,.v (.int a),.v (.int b),.v (.int c),.v (.lst (eO ts))]):
  aN (jE (aU (aP qQ (a8 5) (aS wB (a7 (a8 2) (a7 (a8 3) (a7 (a8 4) (a7 (aP bX (a8 0) (bQ (a7 (a8 2) (a7 (a8 3) aG)))) aG))))))) (c6 (aS wC (a7 (a8 2) (a7 (a8 3) (a7 (a8 4) (a7 (aP bX (a8 0) (bQ (a7 (a8 2) (a7 (a8 3) aG)))) aG)))))) bK) tl E [.v (.dit (mB fl)),x1,.v (.int a),.v (.int b),.v (.int c),.v (.lst (eO ts))]:=by
 push_cast [lN,h1,sm];refine⟨a,b,c,u1.2.2,rfl,l1,?_⟩;push_cast [tF,u9,and_self,true_and,decide_eq_true_eq];by_cases q1:ts=EW a b c u1.2.2
 ·rw[VH q1];refine⟨a,b,c,u1.2.2,rfl,l1,?_⟩;ac_nf;exact y q1
 ·rw[Vn q1];exact n q1
theorem Ox{c:Int}(h2:(fl.find? λt=>decide (t.1=a/\t.2.1=c))=aa u2)(l2:u2.2.2.length<=30)
  (y:ts=Gf a b c u2.2.2->E.rt (.nw (.lst (eO (EW a b c u2.2.2))))) (n:ts≠Gf a b c u2.2.2->tl E [.v (.dit (mB fl)),x1,.v (.int a),.v (.int b),.v (.int c),.v (.lst (eO ts))]):
  aN (jE (aU (aP qQ (a8 5) (aS wC (a7 (a8 2) (a7 (a8 3) (a7 (a8 4) (a7 (aP bX (a8 0) (bQ (a7 (a8 2) (a7 (a8 4) aG)))) aG))))))) (c6 (aS wB (a7 (a8 2) (a7 (a8 3) (a7 (a8 4) (a7 (aP bX (a8 0) (bQ (a7 (a8 2) (a7 (a8 4) aG)))) aG)))))) bK) tl E [.v (.dit (mB fl)),x1,.v (.int a),.v (.int b),.v (.int c),.v (.lst (eO ts))]:=by
 push_cast [lN,h2,sm];refine⟨a,b,c,u2.2.2,rfl,l2,?_⟩;push_cast [tF,u9,and_self,true_and,decide_eq_true_eq];by_cases q1:ts=Gf a b c u2.2.2
 ·rw[VH q1];refine⟨a,b,c,u2.2.2,rfl,l2,?_⟩;ac_nf;exact y q1
 ·rw[Vn q1];exact n q1
theorem sR:∀ds Q,wA ds Q->iW wB wC ↥Q (aM ["below", "three", "a", "b", "c", "tiles"] ds):=by
 rintro ds Q ⟨fl,a,b,c,rfl,⟨u1,h1,e1,l1⟩,⟨u2,h2,e2,l2⟩,⟨u3,h3,e3,l3⟩,y,no⟩;unfold p6 at y;refine P6 (Oz h1 h2 h3 (Oy h1 l1 (λq=>?_) λq1=>Ox h2 l2 (λq=>?_) λq2=>?_))
 ·simp only[EW,ji,jo,true_and,and_true] at q;rw[e1,e2,e3] at q;have z:D1 fl (a,b,c):=⟨q.2,q.1⟩;rw[VH z] at y;rw[e1];exact y (.inl z)
 ·simp only[Gf,ji,jo,true_and,and_true] at q;rw[e1,e2,e3] at q;have z:LS fl (a,b,c):=q;rw[Vn (show ¬D1 fl (a,b,c) from λz=>q1 (by rw[e1,e2,e3];have z1:=z.1;have z2:=z.2;simp only at z1 z2;rw[z1,z2];rfl))] at y;rw[e2];exact y (.inr z)
 ·refine no λz=>?_;rcases(show D1 fl (a,b,c) \/ LS fl (a,b,c) from z) with z | z
  ·exact q1 (by rw[e1,e2,e3];have z1:=z.1;have z2:=z.2;simp only at z1 z2;rw[z1,z2];rfl)
  ·exact q2 (by rw[e1,e2,e3];have z1:=z.1;have z2:=z.2;simp only at z1 z2;rw[z1,z2];rfl)
noncomputable def tP(C:ae):Fn:=λds Q=>∃(rows:List Rw) (fl:List Ti),ds=[b5 C rows,.lst (eO fl)]/\(aI rows).length<=12/\fl.length<=1000/\sB fl/\(∀t∈aO (aI rows),CB fl t.1 t.2.1/\CB fl t.1 t.2.2/\CB fl t.2.1 t.2.2)/\Q (.nw (.lst (cM ((aO (aI rows)).filter λt=>decide (jP fl t)))))
theorem Ks:∀ds Q,tP C ds Q->ds.length=2:=by rintro ds Q ⟨_,_,rfl,_⟩;rfl
theorem N3:MonoF (tP C):=⟨λds Q Q' w z=>by obtain⟨a,b,c,d,e,f,g,h⟩:=z;exact⟨a,b,c,d,e,f,g,w _ h⟩⟩
theorem NI:∀(l acc:List (Int×Int×Int)),(∀t∈l,CB fl t.1 t.2.1/\CB fl t.1 t.2.2/\CB fl t.2.1 t.2.2)->acc.length+l.length<=10000->Q (.nw (.lst (cM (acc++l.filter λt=>decide (jP fl t))))) ->
  cP [.un,.v (.dit (mB fl))] (gN 0) (aU (aP u5 (aS wA (a7 (a8 1) (a7 (a8 0) aG))) (eC .non))) (a8 0) (cM l) (cM acc) Q:=by
 intro l;induction l with
 |nil=>
  intro acc _ _ h;rw[show cM []=[] from rfl,eJ];simpa using h
 |cons t l ih=>
  intro acc hm hl h;simp only[bh] at hl;obtain⟨c1,c2,c3⟩:=hm t (by simp);rw[show cM (t::l)=.tup [.int t.1,.int t.2.1,.int t.2.2]::cM l from rfl];ac_nf;refine⟨fl,t.1,t.2.1,t.2.2,rfl,c1,c2,c3,λq=>?_,λq=>?_⟩
  ·push_cast [ay];refine⟨⋯,?_⟩;rw[show cM acc++[Dv.tup [Dv.int t.1,Dv.int t.2.1,Dv.int t.2.2]]=cM (acc++[t]) by simp];rw[jx (by simpa using q)] at h;exact ih _ (λt ht=>hm t (bg _ ht)) (by simp;ac_rfl) (by simpa using h)
  ·ac_nf;rw[jy (by simpa using q)] at h;exact ih _ (λt ht=>hm t (bg _ ht)) ⋯ h
theorem AQ:∀ds Q,tP C ds Q->mO e7 (jD C) wA ↥Q (aM ["sides", "floor", "below"] ds):=by
 rintro ds Q ⟨rows,fl,rfl,hn,hl,hk,cov,h⟩;have tl:=jR hn;ac_nf;refine⟨fl,rfl,hl,hk,?_⟩;ac_nf;refine⟨rows,rfl,hn,?_⟩;ac_nf;exact NI (aO (aI rows)) [] cov (by simp;ac_rfl) h
end Lw
namespace Lw
open L2 Z
open Sf (Rw crs qZ Pre Good aI aW place many)
open Fl (kd ids Walk d5 tls pc aL Pt srt cH zG)
noncomputable def aC(ks:List Int)(a b:Int):Nat->Nat->List (Int×Int×Int)
 |0,_=>[]
 |i+1,c=>(if kd ks a<kd ks b/\kd ks b<kd ks c then [(a,b,(c:Int))] else [])++aC ks a b i (c+1)
noncomputable def aB(ks:List Int)(a:Int):Nat->Nat->List (Int×Int×Int)
 |0,_=>[]
 |i+1,b=>aC ks a b (ks.length-(b+1)) (b+1)++aB ks a i (b+1)
noncomputable def aA(ks:List Int):Nat->Nat->List (Int×Int×Int)
 |0,_=>[]
 |i+1,a=>aB ks a (ks.length-(a+1)) (a+1)++aA ks i (a+1)
theorem JY{ks:List Int}(m:jO ks){a b:Int}(h0:0<=a)(hab:a<b)(hb:b<ks.length):∀(i c:Nat),b<c->c+i<=ks.length->aC ks a b i c=if kd ks a=kd ks b then [] else wT ks a b i c
 |0,c,_,_=>by simp[aC,wT]
 |i+1,c,h1,h2=>by
  have m1:=m a b h0 ⋯ ⋯;have m2:=m b c ⋯ ⋯ ⋯;rw[aC,JY m h0 hab hb i (c+1) ⋯ ⋯];by_cases e:kd ks a=kd ks b
  ·rw[VH e,VH e,Vn ⋯];rfl
  ·rw[Vn e,Vn e,wT];by_cases e2:kd ks (c:Int)=kd ks b
   ·rw[VH e2,Vn ⋯]
   ·rw[Vn e2,VH ⋯]
theorem JZ{ks:List Int}(m:jO ks){a:Nat}:∀(i b:Nat),a<b->b+i=ks.length->aB ks a i b=eY ks (yH ks a i b)
 |0,b,_,_=>rfl
 |i+1,b,h1,h2=>by
  rw[aB,JY m ⋯ ⋯ ⋯ _ _ ⋯ ⋯,JZ m i (b+1) ⋯ ⋯,yH];unfold eY;rw[yf];by_cases e:kd ks (a:Int)=kd ks (b:Int)
  ·rw[VH e,VH e];rfl
  ·rw[Vn e,Vn e];simp
theorem Ja{ks:List Int}(m:jO ks):∀(i a:Nat),a+i=ks.length->aA ks i a=eY ks (mV ks i a)
 |0,a,_=>rfl
 |i+1,a,h=>by
  rw[aA,JZ m _ _ ⋯ ⋯,Ja m i (a+1) ⋯,mV];unfold eY;rw[yf]
noncomputable def vC(ks:List Int):Nat->Nat->List (Int×Int×Int)
 |0,_=>[]
 |i+1,k=>(if k / (ks.length*ks.length)<k / ks.length % ks.length/\k / ks.length % ks.length<k % ks.length/\kd ks (k / (ks.length*ks.length):Nat)<kd ks (k / ks.length % ks.length:Nat)/\kd ks (k / ks.length % ks.length:Nat)<kd ks (k % ks.length:Nat) then [(((k / (ks.length*ks.length):Nat):Int),((k / ks.length % ks.length:Nat):Int),((k % ks.length:Nat):Int))] else [])++vC ks i (k+1)
theorem HL(ks:List Int):∀i k,(vC ks i k).length<=i
 |0,_=>bo _
 |i+1,k=>by rw[vC,bq];have:=HL ks i (k+1);split<;>simp<;>ac_rfl
theorem qA(ks:List Int):∀i j k,vC ks (i+j) k=vC ks i k++vC ks j (k+i)
 |0,j,k=>by rw[mr,UG];rfl
 |i+1,j,k=>by
  rw[show i+1+j=(i+j)+1 by ac_rfl,vC,qA ks i j (k+1),vC,dh,show k+1+i=k+(i+1) by ac_rfl]
noncomputable def fC(ks:List Int)(a b:Nat):Nat->Nat->List (Int×Int×Int)
 |0,_=>[]
 |i+1,c=>(if a<b/\b<c/\kd ks (a:Nat)<kd ks (b:Nat)/\kd ks (b:Nat)<kd ks (c:Nat) then [((a:Int),(b:Int),(c:Int))] else [])++fC ks a b i (c+1)
variable {a b:Nat}
theorem digits{c:Nat}(hb:b<n)(hc:c<n):((a*n+b)*n+c) / (n*n)=a/\((a*n+b)*n+c) / n % n=b/\((a*n+b)*n+c) % n=c:=by
 have hn:0<n:=⋯;have e1:((a*n+b)*n+c) / n=a*n+b:=by
  rw[uh,wx _ _ hn,TK hc,mr]
 refine⟨?_,?_,?_⟩
 ·rw[<- Nat.div_div_eq_div_mul,e1,uh,wx _ _ hn,TK hb,mr]
 ·rw[e1,uh,um,TM hb]
 ·rw[uh,um,TM hc]
theorem J8{ks:List Int}{a b:Nat}(hb:b<ks.length):∀(i c:Nat),c+i<=ks.length->vC ks i ((a*ks.length+b)*ks.length+c)=fC ks a b i c
 |0,_,_=>rfl
 |i+1,c,h=>by
  obtain⟨d1,d2,d3⟩:=digits (a:=a) hb (show c<ks.length by ac_rfl);rw[vC,fC,d1,d2,d3,Nat.add_assoc,J8 hb i (c+1) ⋯]
theorem JU{ks:List Int}{a b:Nat}:∀(i c:Nat),c+i<=b+1->fC ks a b i c=[]
 |0,_,_=>rfl
 |i+1,c,h=>by
  rw[fC,Vn ⋯,JU i (c+1) ⋯];rfl
theorem GV(ks:List Int)(a b:Nat):∀i j c,fC ks a b (i+j) c=fC ks a b i c++fC ks a b j (c+i)
 |0,j,c=>by rw[mr,UG];rfl
 |i+1,j,c=>by
  rw[show i+1+j=(i+j)+1 by ac_rfl,fC,GV ks a b i j (c+1),fC,dh,show c+1+i=c+(i+1) by ac_rfl]
theorem JV{ks:List Int}{a b:Nat}(hab:a<b):∀(i c:Nat),b<c->fC ks a b i c=aC ks a b i c
 |0,_,_=>rfl
 |i+1,c,h=>by
  rw[fC,aC,JV hab i (c+1) ⋯];congr 1;by_cases e:kd ks (a:Nat)<kd ks (b:Nat)/\kd ks (b:Nat)<kd ks (c:Nat)
  ·rw[VH e,VH ⟨hab,h,e⟩]
  ·rw[Vn e,Vn λz=>e z.2.2]
theorem JT{ks:List Int}{a b:Nat}(hab:¬a<b):∀(i c:Nat),fC ks a b i c=[]
 |0,_=>rfl
 |i+1,c=>by
  rw[fC,Vn λz=>hab z.1,JT hab i (c+1)];rfl
theorem CJ(hb:b<ks.length):vC ks ks.length ((a*ks.length+b)*ks.length)=if a<b then aC ks a b (ks.length-(b+1)) (b+1) else []:=by
 have h:=J8 (ks:=ks) (a:=a) hb ks.length 0 ⋯;rw[UG] at h;rw[h];by_cases hab:a<b
 ·rw[VH hab,show ks.length=(b+1)+(ks.length-(b+1)) by ac_rfl,GV,JU _ _ ⋯,kz,mr,show b+1+(ks.length-(b+1))-(b+1)=ks.length-(b+1) by ac_rfl,JV hab _ _ ⋯]
 ·rw[Vn hab,JT hab]
theorem Ee{ks:List Int}{a:Nat}:∀(j b:Nat),b+j<=a+1->b+j<=ks.length->vC ks (j*ks.length) ((a*ks.length+b)*ks.length)=[]
 |0,b,_,_=>by rw[UH];rfl
 |j+1,b,h,h2=>by
  rw[vj,uh,qA,CJ ⋯,Vn ⋯,kz,show (a*ks.length+b)*ks.length+ks.length=(a*ks.length+(b+1))*ks.length by rw[<- vj];rfl];exact Ee j (b+1) ⋯ ⋯
theorem Ef{ks:List Int}{a:Nat}:∀(j b:Nat),a<b->b+j<=ks.length->vC ks (j*ks.length) ((a*ks.length+b)*ks.length)=aB ks a j b
 |0,b,_,_=>by rw[UH];rfl
 |j+1,b,h,h2=>by
  rw[vj,uh,qA,CJ ⋯,VH h,show (a*ks.length+b)*ks.length+ks.length=(a*ks.length+(b+1))*ks.length by rw[<- vj];rfl,Ef j (b+1) ⋯ ⋯];rfl
theorem HK(ha:a<ks.length):vC ks (ks.length*ks.length) (a*(ks.length*ks.length))=aB ks a (ks.length-(a+1)) (a+1):=by
 have l:=Ee (ks:=ks) (a:=a) (a+1) 0 ⋯ ⋯;have h:=Ef (ks:=ks) (a:=a) (ks.length-(a+1)) (a+1) ⋯ ⋯;rw[show (a*ks.length+0)*ks.length=a*(ks.length*ks.length) by rw[UG,TN]] at l;have e:ks.length*ks.length=(a+1)*ks.length+(ks.length-(a+1))*ks.length:=by
  rw[<- wq,show a+1+(ks.length-(a+1))=ks.length by ac_rfl]
 rw[show vC ks (ks.length*ks.length) (a*(ks.length*ks.length))=vC ks ((a+1)*ks.length+(ks.length-(a+1))*ks.length) (a*(ks.length*ks.length)) by rw[<- e],qA,l,kz,<- h];congr 1;rw[wq (a*ks.length),TN]
theorem J9{ks:List Int}:∀(j a:Nat),a+j=ks.length->vC ks (j*(ks.length*ks.length)) (a*(ks.length*ks.length))=aA ks j a
 |0,a,_=>by rw[UH];rfl
 |j+1,a,h=>by
  rw[vj,uh,qA,HK ⋯,<- vj,J9 j (a+1) ⋯];rfl
theorem HM(m:jO ks):vC ks (ks.length*ks.length*ks.length) 0=aO ks:=by
 have h:=J9 (ks:=ks) ks.length 0 ⋯;rw[UH,<- TN] at h;rw[h,Ja m _ _ ⋯];rfl
noncomputable def oY:Fn:=λds Q=>∃ks:List Int,ds=[.lst (aZ ks)]/\1<=ks.length/\ks.length<=12/\jO ks/\Q (.nw (.lst (cM (aO ks))))
theorem IU:∀ds Q,oY ds Q->ds.length=1:=by rintro ds Q ⟨_,rfl,_⟩;rfl
theorem Fj:MonoF oY:=⟨λds Q Q' w z=>by obtain⟨a,b,c,d,e,h⟩:=z;exact⟨a,b,c,d,e,w _ h⟩⟩
variable {E:En}{x1 x3 x4 x5:Sl}
theorem Qb{k:Nat}(h1:1<=ks.length)(hn:ks.length<=12)
  (h:tl E [.v (.lst (aZ ks)),x1,.v (.int k),.v (.int (k / (ks.length*ks.length):Nat)),.v (.int (k / ks.length % ks.length:Nat)),.v (.int (k % ks.length:Nat))]):
  aN (b6 3 (aP mU (a8 2) (aP fQ (fR d9 (a7 (a8 0) aG)) (fR d9 (a7 (a8 0) aG))))) (aN (b6 4 (aP gZ (aP mU (a8 2) (fR d9 (a7 (a8 0) aG))) (fR d9 (a7 (a8 0) aG)))) (aN (b6 5 (aP gZ (a8 2) (fR d9 (a7 (a8 0) aG)))) tl)) E [.v (.lst (aZ ks)),x1,.v (.int k),x3,x4,x5]:=by
 have sq:ks.length*ks.length<=12*12:=mj hn hn;have sq1:1*1<=ks.length*ks.length:=mj h1 h1;have nn:(ks.length:Int)*(ks.length:Int)=((ks.length*ks.length:Nat):Int):=by norm_cast
 have ea:(k:Int) / ((ks.length*ks.length:Nat):Int)=((k / (ks.length*ks.length):Nat):Int):=by norm_cast
 have eb:(k:Int) / (ks.length:Int) % (ks.length:Int)=((k / ks.length % ks.length:Nat):Int):=by norm_cast
 have ec:(k:Int) % (ks.length:Int)=((k % ks.length:Nat):Int):=by norm_cast
 push_cast [ay,nn,ea,eb,ec];exact⟨sQ ⋯ ⋯,⟨⋯,⋯⟩,⟨⋯,⋯⟩,⋯,⋯,h⟩
variable {l:ae}{x2:Sl}
theorem Qa{c:Nat}(ha:a<ks.length)(hb:b<ks.length)(hc:c<ks.length){acc:List (Int×Int×Int)}(hl:acc.length<=10000)
  (h:E.nx [.v (.lst (aZ ks)),.own l (.lst (cM (acc++(if a<b/\b<c/\kd ks (a:Nat)<kd ks (b:Nat)/\kd ks (b:Nat)<kd ks (c:Nat) then [((a:Int),(b:Int),(c:Int))] else [])))),x2,.v (.int a),.v (.int b),.v (.int c)]):
  jE (qW (aU (lP zI zI (a8 3) (a8 4) (a8 5))) (qW (aU (aP zI (aP bX (a8 0) (a8 3)) (aP bX (a8 0) (a8 4)))) (aU (aP zI (aP bX (a8 0) (a8 4)) (aP bX (a8 0) (a8 5)))))) (mS 1 (bQ (a7 (a8 3) (a7 (a8 4) (a7 (a8 5) aG))))) bK E [.v (.lst (aZ ks)),.own l (.lst (cM acc)),x2,.v (.int a),.v (.int b),.v (.int c)]:=by
 have no:¬(a<b/\b<c/\kd ks (a:Nat)<kd ks (b:Nat)/\kd ks (b:Nat)<kd ks (c:Nat))->E.nx [.v (.lst (aZ ks)),.own l (.lst (cM acc)),x2,.v (.int a),.v (.int b),.v (.int c)]:=λz=>by
  rw[Vn z,im] at h;exact h
 have ka:kd ks (a:Nat)=ks.getD a 0:=by unfold kd;rw[bp]
 have kb:kd ks (b:Nat)=ks.getD b 0:=by unfold kd;rw[bp]
 have kc:kd ks (c:Nat)=ks.getD c 0:=by unfold kd;rw[bp]
 rw[ka,kb,kc] at no h;push_cast [ay,gY ha,gY hb,gY hc];by_cases e1:a<b
 ·rw[VH (Tg.mpr e1)];by_cases e2:b<c
  ·rw[VH (Tg.mpr e2)];by_cases e3:ks.getD a 0<ks.getD b 0
   ·rw[VH e3];by_cases e4:ks.getD b 0<ks.getD c 0
    ·rw[VH e4];refine⟨⋯,?_⟩;rw[VH ⟨e1,e2,e3,e4⟩,show cM (acc++[((a:Int),(b:Int),(c:Int))])=cM acc++[Dv.tup [Dv.int a,Dv.int b,Dv.int c]] from uk] at h;exact h
    ·rw[Vn e4];exact no λz=>e4 z.2.2.2
   ·rw[Vn e3];exact no λz=>e3 z.2.2.1
  ·rw[Vn λz=>e2 (Tg.mp z)];exact no λz=>e2 z.2.1
 ·rw[Vn λz=>e1 (Tg.mp z)];exact no λz=>e1 z.1
theorem R5{d:Dv}{x0:Sl}{Q:List Sl->Prop}(h:Q [x0,x1,.v d,x3,x4,x5]):gN 2 d [x0,x1,x2,x3,x4,x5] Q:=by
 ac_nf;exact h
theorem N6(h1:1<=ks.length)(hn:ks.length<=12):∀(i k:Nat) (acc:List (Int×Int×Int)) (s t u v:Sl),k+i=ks.length*ks.length*ks.length->acc.length+i<=10000 ->
  (∀s t u v,E.nx [.v (.lst (aZ ks)),.own l (.lst (cM (acc++vC ks i k))),s,t,u,v]) ->
  bI (gN 2) nI [] (bP k i) E [.v (.lst (aZ ks)),.own l (.lst (cM acc)),s,t,u,v]:=by
 intro i;induction i with
 |zero=>
  intro k acc s t u v _ _ h;rw[eG,cA];exact⟨λp hp=>by simp at hp,by simpa [vC] using h s t u v⟩
 |succ i ih=>
  intro k acc s t u v hk hl h;have sq1:1*1<=ks.length*ks.length:=mj h1 h1;have ha:k / (ks.length*ks.length)<ks.length:=by rw[Nat.div_lt_iff_lt_mul ⋯,<- TN];ac_rfl
  rw[cU,cK];refine⟨λp hp=>by simp at hp,?_⟩;rw[show ((k:Int)+1)=((k+1:Nat):Int) by ac_rfl];refine R5 (Qb h1 hn (Qa ha (VB _ ⋯) (VB _ ⋯) ⋯ ?_));refine ih (k+1) _ _ _ _ _ ⋯ (by rw[bq];split<;>simp<;>ac_rfl) λs t u v=>?_;have:=h s t u v;rw[vC,<- dh] at this;exact this
theorem xU:∀ds Q,oY ds Q->lC ↥Q (aM ["_law_bands_here", "_law_found", "_law_k", "_law_a", "_law_b", "_law_c"] ds):=by
 rintro ds Q ⟨ks,rfl,h1,hn,m,h⟩;have sq:ks.length*ks.length<=12*12:=mj hn hn;have cb:ks.length*ks.length*ks.length<=144*12:=mj sq hn;have nn:(ks.length:Int)*(ks.length:Int)=((ks.length*ks.length:Nat):Int):=by norm_cast
 have nnn:((ks.length*ks.length:Nat):Int)*(ks.length:Int)=((ks.length*ks.length*ks.length:Nat):Int):=by norm_cast
 push_cast [ay,nn,nnn];intro l;refine⟨sQ ⋯ ⋯,sQ ⋯ ⋯,⋯,?_⟩;rw[bp];refine N6 h1 hn _ 0 [] _ _ _ _ ⋯ (by simp;ac_rfl) λs t u v=>?_;ac_nf;rw[HM m];exact h
theorem xV:∀ds Q,e7 ds Q->lD ↥Q (aM ["_law_tiles", "_law_belows_here", "_law_a", "_law_b", "_law_below"] ds):=AR
end Lw
namespace Lw
open L2 Z
open Sf (Rw crs qZ Pre Good aI aW place many)
open Fl (kd ids Walk d5 tls pc aL Pt srt cH zG tS)
theorem Cj(i:Int):∀l:List Int,inD (.int i) (aZ l)=decide (i∈l)
 | []=>rfl
 |j::l=>by
  have ih:=Cj i l;unfold inD at ih ⊢;rw[show aZ (j::l)=.int j::aZ l from rfl,qo,ih];by_cases e:i=j
  ·subst e;simp[eqD,fU,fi]
  ·have:eqD (.int i) (.int j)=ak:=by simp[eqD,fU,fi,e]
   have:eqD (.int j) (.int i)=ak:=by simp[eqD,fU,fi,dq e]
   simp[*]
theorem wS(t:Int×Int×Int):∀l:List (Int×Int×Int),inD (.tup [.int t.1,.int t.2.1,.int t.2.2]) (cM l)=decide (t∈l)
 | []=>rfl
 |u::l=>by
  have ih:=wS t l;unfold inD at ih ⊢;have e:=tE [u.1,u.2.1,u.2.2] [t.1,t.2.1,t.2.2];rw[show cM (u::l)=.tup (aZ [u.1,u.2.1,u.2.2])::cM l from rfl,qo,ih,show Dv.tup [Dv.int t.1,Dv.int t.2.1,Dv.int t.2.2]=.tup (aZ [t.1,t.2.1,t.2.2]) from rfl,e,<- UI];refine decide_eq_decide.mpr ?_;obtain⟨a,b,c⟩:=t;obtain⟨x,y,z⟩:=u;simp only[ji,and_true,br,jo];constructor
  ·rintro(⟨p,q,r⟩ | h)
   ·exact .inl ⟨p.symm,q.symm,r.symm⟩
   ·exact .inr h
  ·rintro(⟨p,q,r⟩ | h)
   ·exact .inl ⟨p.symm,q.symm,r.symm⟩
   ·exact .inr h
theorem nV(l:List (Int×Int×Int)):okDs 8 (cM l)=ai:=nW 8 _ λd hd=>by
 obtain⟨t,_,rfl⟩:=fv.mp hd;exact oK 7 [t.1,t.2.1,t.2.2]
noncomputable abbrev NA(x t:Ti):Bool:=decide (t.1=x.1/\t.2.1=x.2.1)
noncomputable def rp(ts:List Ti)(x:Ti):Ti:=(ts.find? (NA x)).getD x
noncomputable def i9(fl:List Ti)(t:Int×Int×Int):List Ti:=fl.map (rp (p6 fl t))
end Lw
namespace Lw
open L2 Z
open Sf (Rw crs qZ Pre Good aI aW place many)
open Fl (kd ids Walk d5 tls pc aL Pt srt cH zG tS)
noncomputable def vK(t u:Ti):Prop:=lexB [t.1,t.2.1] [u.1,u.2.1]=ai
theorem xE:∀{l m:List Ti},l.Perm m->l.Pairwise vK->m.Pairwise vK->l=m
 | [],m,p,_,_=>(UQ.mp p).symm
 |t::l,[],p,_,_=>nomatch p.length_eq
 |t::l,u::m,p,h1,h2=>by
  have e:t=u:=by
   rcases br.mp (p.mem_iff.mp (cj ..)) with h | h
   ·exact h
   ·rcases br.mp (p.mem_iff.mpr (cj (a:=u))) with h' | h'
    ·exact h'.symm
    ·have a:=(ee.mp h1).1 u h';have b:=(ee.mp h2).1 t h;have c:=nY _ _ _ a b;rw[iQ] at c;cases c
  subst e;rw[xE (UD t |>.mp p) (ee.mp h1).2 (ee.mp h2).2]
theorem Fv{t u:Ti}(h:vK t u):t≠u:=λz=>by
 subst z;unfold vK at h;rw[iQ] at h;cases h
theorem NQ{l m:List Ti}(h1:l.Pairwise vK)(h2:m.Pairwise vK)(h:∀x,x∈l ↔ x∈m):l=m:=
 xE ((fx (h1.imp Fv) (h2.imp Fv)).mpr h) h1 h2
variable {a:Int}
theorem Bs{c d:Int}{x y:List Int}(h:a<c \/ a=c/\b<d):vK (a,b,x) (c,d,y):=by
 unfold vK;simp only[lexB];rcases h with h | ⟨h,h2⟩
 ·rw[Vn ⋯];exact decide_eq_true h
 ·rw[VH h,Vn ⋯];exact decide_eq_true h2
structure Fl5(ks:List Int)(fl:List Ti):Prop where
 n12:ks.length<=12
 len:fl.length<=60
 key:sB fl
 up:fl.Pairwise vK
 ord:∀x∈fl,x.1<x.2.1
 has:∀t∈aO ks,CB fl t.1 t.2.1/\CB fl t.1 t.2.2/\CB fl t.2.1 t.2.2
 so:∀x∈fl,srt x.2.2=x.2.2
theorem CB.mem{c:Int}(h:CB fl a c):(a,c,bN fl a c)∈fl/\(bN fl a c).length<=30:=by
 obtain⟨u,f,e,l⟩:=h;have m:=oj f;have k:u.1=a/\u.2.1=c:=by
  have:=zl f;exact of_decide_eq_true this
 rw[<- e];refine⟨?_,l⟩;rw[<- k.1,<- k.2];exact m
variable {x:Ti}
theorem sB.one(h:sB fl){y:Ti}(hx:x∈fl)(hy:y∈fl)(e:x.1=y.1/\x.2.1=y.2.1):x=y:=by
 induction fl with
 |nil=>cases hx
 |cons z fl ih=>
  obtain⟨h1,h2⟩:=ee.mp h;rcases br.mp hx with ex | mx
  ·rcases br.mp hy with ey | my
   ·rw[ex,ey]
   ·rw[ex] at e;exact absurd e (h1 y my)
  ·rcases br.mp hy with ey | my
   ·rw[ey] at e;exact absurd ⟨e.1.symm,e.2.symm⟩ (h1 x mx)
   ·exact ih h2 mx my
noncomputable def othB(t:Int×Int×Int)(x:Ti):Bool:=decide (x.1 ∉ [t.1,t.2.1,t.2.2]) || decide (x.2.1 ∉ [t.1,t.2.1,t.2.2])
theorem Fe(fl:List Ti)(t:Int×Int×Int):(p6 fl t).length=3:=by unfold p6;split<;>rfl
theorem xX(fl:List Ti)(t:Int×Int×Int):(p6 fl t).map (λx=>(x.1,x.2.1))=[(t.1,t.2.1),(t.1,t.2.2),(t.2.1,t.2.2)]:=by unfold p6;split<;>rfl
theorem xN(ts:List Ti)(x:Ti):(rp ts x).1=x.1/\(rp ts x).2.1=x.2.1:=by
 unfold rp;cases h:ts.find? (NA x) with
 |none=>exact⟨rfl,rfl⟩
 |some u=>
  have:=zl h;exact of_decide_eq_true this
theorem C1{t:Int×Int×Int}(h:fl.Pairwise vK):(i9 fl t).Pairwise vK:=by
 unfold i9;rw[io];refine h.imp λ{x y} z=>?_;unfold vK at z ⊢;rw[(xN _ x).1,(xN _ x).2,(xN _ y).1,(xN _ y).2];exact z
theorem Jr{t:Int×Int×Int}(h:othB t x=ai):rp (p6 fl t) x=x:=by
 unfold rp;rw[show (p6 fl t).find? (NA x)=aq by
  rw[zj];intro u hu z;have k:=of_decide_eq_true z;have m:(u.1,u.2.1)∈(p6 fl t).map (λx=>(x.1,x.2.1)):=yg hu;rw[xX,k.1,k.2] at m;simp only[br,fc,or_false,jo] at m;unfold othB at h;simp only[Ue,decide_eq_true_eq,br,fc,or_false,not_or] at h;ac_rfl]
 rfl
theorem tL(F:Fl5 ks fl){c:Int}(hab:a<b)(hbc:b<c)(h:(a,b,c)∈aO ks):fl.filter (λx=>!othB (a,b,c) x)=[(a,b,bN fl a b),(a,c,bN fl a c),(b,c,bN fl b c)]:=by
 obtain⟨h1,h2,h3⟩:=F.has _ h;have m1:=h1.mem.1;have m2:=h2.mem.1;have m3:=h3.mem.1;simp only at m1 m2 m3;refine NQ (F.up.filter _) ?_ λx=>?_
 ·refine ee.mpr ⟨λy hy=>?_,ee.mpr ⟨λy hy=>?_,vw _ _⟩⟩
  ·simp only[br,fc,or_false] at hy;rcases hy with rfl | rfl
   ·exact Bs (.inr ⟨rfl,hbc⟩)
   ·exact Bs (.inl hab)
  ·rw[dg.mp hy];exact Bs (.inl hab)
 ·rw[dw];constructor
  ·rintro⟨hx,z⟩;have o:=F.ord x hx;unfold othB at z;simp only[vd,sr,decide_eq_false_iff_not,br,fc,or_false,qx] at z;have k:(x.1=a/\x.2.1=b) \/ (x.1=a/\x.2.1=c) \/ (x.1=b/\x.2.1=c):=⋯;rcases k with k | k | k
   ·rw[F.key.one hx m1 k];simp
   ·rw[F.key.one hx m2 k];simp
   ·rw[F.key.one hx m3 k];simp
  ·intro hx;simp only[br,fc,or_false] at hx;rcases hx with rfl | rfl | rfl
   ·exact⟨m1,by simp[othB]⟩
   ·exact⟨m2,by simp[othB]⟩
   ·exact⟨m3,by simp[othB]⟩
theorem lO{α:Type}(p:α->Bool):∀l:List α,(l.filter p++l.filter λx=>!p x).Perm l
 | []=>.nil
 |x::l=>by
  have ih:=lO p l;cases h:p x
  ·simp only[gn,h,Bool.not_false,if_true,dk,if_false];exact xn.trans (.cons _ ih)
  ·simp only[gn,h,UP,if_true,dk,if_false];exact .cons _ ih
theorem MC{c:Int}(hab:a<b)(hbc:b<c)(x y z:List Int):[(a,b,x),(a,c,y),(b,c,z)].map (rp (p6 fl (a,b,c)))=p6 fl (a,b,c):=by
 have k:=xX fl (a,b,c);have l:=Fe fl (a,b,c);generalize p6 fl (a,b,c)=ts at k l
 match ts,l with
 | [u,v,w],_=>
  simp only[cf,uz,ji,jo,and_true] at k;obtain⟨⟨k1,k2⟩,⟨k3,k4⟩,k5,k6⟩:=k;simp only[cf,uz,rp,NA,rq,k1,k2,k3,k4,k5,k6];have e1:decide (b=c)=ak:=decide_eq_false ⋯;have e2:decide (a=b)=ak:=decide_eq_false ⋯;simp[show ¬b=c by ac_rfl,show ¬a=b by ac_rfl]
theorem kR(F:Fl5 ks fl){c:Int}(hab:a<b)(hbc:b<c)(h:(a,b,c)∈aO ks):(i9 fl (a,b,c)).Perm (fl.filter (othB (a,b,c))++p6 fl (a,b,c)):=by
 have p:=(lO (othB (a,b,c)) fl).map (rp (p6 fl (a,b,c)));rw[uk,tL F hab hbc h,MC hab hbc] at p;rw[show (fl.filter (othB (a,b,c))).map (rp (p6 fl (a,b,c)))=fl.filter (othB (a,b,c)) by
  conv=>rhs;rw[<- map_id (fl.filter (othB (a,b,c)))]
  refine nv λx hx=>?_;exact Jr (dw.mp hx).2] at p
 exact p.symm
theorem Mu{c:Int}:∀(l acc:List Ti),acc.length+l.length<=1000->Q (.nw (.lst (eO (acc++l.filter (othB (a,b,c)))))) ->
  cP [.un,.v (.tup [.int a,.int b,.int c])] (gN 0) (HD (aU (aP d8 (aP bX (a8 0) (eC (.int 0))) (a8 1))) (aU (aP d8 (aP bX (a8 0) (eC (.int 1))) (a8 1)))) (a8 0) (eO l) (eO acc) Q:=by
 intro l;induction l with
 |nil=>
  intro acc _ h;rw[show eO []=[] from rfl,eJ];rw[List.filter_nil,im] at h;exact h
 |cons x l ih=>
  intro acc hl h;rw[bh] at hl;rw[show eO (x::l)=Eb x::eO l from rfl,B5];have nx:=λacc=>ih acc;generalize cP [.un,.v (.tup [.int a,.int b,.int c])] (gN 0) (HD (aU (aP d8 (aP bX (a8 0) (eC (.int 0))) (a8 1))) (aU (aP d8 (aP bX (a8 0) (eC (.int 1))) (a8 1)))) (a8 0) (eO l)=G at nx ⊢;ac_nf;have n1:inD (.int x.1) [.int a,.int b,.int c]=decide (x.1∈[a,b,c]):=Cj x.1 [a,b,c];have n2:inD (.int x.2.1) [.int a,.int b,.int c]=decide (x.2.1∈[a,b,c]):=Cj x.2.1 [a,b,c];have o3:okDs 8 [.int a,.int b,.int c]=ai:=oK 8 [a,b,c];have yes:othB (a,b,c) x=ai->(eO acc).length<1000000/\G (eO acc++[Eb x]) Q:=λz=>by
   refine⟨by rw[ay];ac_rfl,?_⟩;rw[show eO acc++[Eb x]=eO (acc++[x]) by simp];refine nx _ (by simp;ac_rfl) ?_;rw[gn,VH z] at h;rw[dh];exact h
  refine(show d8 _ (.tup _) _ from⟨⟨rfl,o3⟩,?_⟩);rw[n1];by_cases m1:x.1∈[a,b,c]
  ·rw[decide_eq_true m1];refine oF (show d8 _ (.tup _) _ from⟨⟨rfl,o3⟩,?_⟩);rw[n2];by_cases m2:x.2.1∈[a,b,c]
   ·rw[decide_eq_true m2];refine oF (nx acc ⋯ ?_);rw[gn,Vn (by unfold othB;simp only[m1,m2,not_true,decide_false,Bool.or_self];decide)] at h;exact h
   ·rw[decide_eq_false m2];exact lZ (yes (by unfold othB;simp only[m2,not_false_iff,decide_true,Bool.or_true]))
  ·rw[decide_eq_false m1];exact lZ (yes (by unfold othB;simp only[m1,not_false_iff,decide_true,V3]))
noncomputable def lF(C:ae):Fn:=λds Q=>∃(rows:List Rw) (fl:List Ti) (a b c:Int),ds=[b5 C rows,.lst (eO fl),.tup [.int a,.int b,.int c]]/\Fl5 (aI rows) fl/\a<b/\b<c/\(a,b,c)∈aO (aI rows)/\jP fl (a,b,c)/\Q (.nw (.lst (eO (i9 fl (a,b,c)))))
theorem G5:∀ds Q,lF C ds Q->ds.length=3:=by rintro ds Q ⟨_,_,_,_,_,rfl,_⟩;rfl
theorem IH:MonoF (lF C):=⟨λds Q Q' w z=>by obtain⟨a,b,c,d,e,f,g,h,i,j,k,l⟩:=z;exact⟨a,b,c,d,e,f,g,h,i,j,k,w _ l⟩⟩
theorem L9(F:Fl5 ks fl){c:Int}(hab:a<b)(hbc:b<c)(h:(a,b,c)∈aO ks)(q:Q (.nw (.lst (eO (i9 fl (a,b,c)))))):gM [.lst (eO (fl.filter (othB (a,b,c))++p6 fl (a,b,c)))] Q:=by
 have P:=kR F hab hbc h;have U:=C1 (t:=(a,b,c)) F.up;have L:(fl.filter (othB (a,b,c))++p6 fl (a,b,c)).length<=60:=by rw[<- P.length_eq,i9,ay];exact F.len
 generalize fl.filter (othB (a,b,c))++p6 fl (a,b,c)=l at P L;rw[show eO l=(l.map λt:Ti=>(([t.1,t.2.1],[Dv.tup (aZ t.2.2)]):List Int×List Dv)).map tI by rw[og];rfl];refine wK (k:=1) (by simp;ac_rfl) (λt ht=>?_) ?_ λts' hp hs=>?_
 ·obtain⟨u,_,rfl⟩:=fv.mp ht;rfl
 ·rw[io];have nd:l.Pairwise λt u=>vK t u \/ vK u t:=by
   have:(i9 fl (a,b,c)).Pairwise λt u=>vK t u \/ vK u t:=U.imp λh=>.inl h;exact(P.pairwise_iff λ{x y} h=>h.symm).mp this
  refine nd.imp λ{x y} z e=>?_;simp only at e;rcases z with z | z <;>
  ·unfold vK at z
   first | rw[e,iQ] at z | rw[<- e,iQ] at z
   cases z
 ·obtain⟨ps,pp,rfl⟩:=rN hp (its:=l) rfl;rw[io] at hs;rw[xE (P.trans pp.symm) U hs] at q;rw[og];exact q
theorem DU:∀ds Q,lF C ds Q->rB (jD C) e7 wA ↥Q (aM ["sides", "floor", "three", "tiles", "others"] ds):=by
 rintro ds Q ⟨rows,fl,a,b,c,rfl,F,hab,hbc,h3,hx,q⟩;obtain⟨g1,g2,g3⟩:=F.has _ h3;have fl60:=F.len;ac_nf;refine⟨rows,rfl,F.n12,?_⟩;ac_nf;refine(show d8 _ (.lst _) _ from⟨⟨oK 7 [a,b,c],nV _⟩,?_⟩);rw[show inD (.tup [.int a,.int b,.int c]) (cM (aO (aI rows)))=decide ((a,b,c)∈aO (aI rows)) from wS (a,b,c) _,decide_eq_true h3];refine oF ?_;refine⟨fl,rfl,⋯,F.key,?_⟩;ac_nf;refine⟨fl,a,b,c,rfl,g1,g2,g3,λ_=>?_,λz=>absurd hx z⟩;ac_nf;refine Mu fl [] (by simp;ac_rfl) ?_;ac_nf;have nl:=Fe fl (a,b,c);have fll:=oh (othB (a,b,c)) fl;refine⟨by rw[ay,ay,nl];ac_rfl,?_⟩;rw[<- uk];exact L9 F hab hbc h3 q
end Lw
namespace Lw
open L2 Z
open Sf (Rw crs qZ Pre Good aI aW place many)
open Fl (kd ids Walk d5 tls pc aL Pt Bf srt cH zG tS fT)
theorem NC(t:Ti):∀l:List Ti,inD (Eb t) (eO l)=decide (t∈l)
 | []=>rfl
 |u::l=>by
  have ih:=NC t l;unfold inD at ih ⊢;have e:eqD (Eb u) (Eb t)=decide (u=t):=by
   rw[oy,decide_eq_true_eq];exact GW u t
  rw[show eO (u::l)=Eb u::eO l from rfl,qo,ih,e,<- UI];refine decide_eq_decide.mpr ?_;rw[br];exact⟨λz=>z.imp Eq.symm _root_.id,λz=>z.imp Eq.symm _root_.id⟩
theorem Mx(n:Nat)(t:Ti):dD (n+2) (Eb t)=ai:=by
 show (dD (n+1) (.int t.1)&&(dD (n+1) (.int t.2.1)&&(dD (n+1) (.tup (aZ t.2.2))&&ai)))=ai;rw[show dD (n+1) (.tup (aZ t.2.2))=ai from oK n _];rfl
theorem OS(l:List Ti):okDs 8 (eO l)=ai:=nW 8 _ λd hd=>by
 obtain⟨t,_,rfl⟩:=fv.mp hd;exact Mx 6 t
noncomputable def Su(l:List Int)(p:Nat):Ti:=(l.getD p 0,l.getD (p+1) 0,srt (l.take p))
theorem GT{t:Ti}:∀lf:List Ti,t∈lf -> ∃j,lf[j]?=aa t/\(∀m e,m<j->lf[m]?=aa e->e≠t)/\(t::lf.eraseIdx j).Perm lf
 |u::lf,h=>by
  by_cases e:u=t
  ·subst e;exact⟨0,rfl,λm e h=>by ac_rfl,.refl _⟩
  ·have h':t∈lf:=(br.mp h).resolve_left λz=>e z.symm;obtain⟨j,h1,h2,h3⟩:=GT lf h';refine⟨j+1,h1,λm v hm hv=>?_,(List.Perm.swap _ _ _).trans (.cons _ h3)⟩;cases m with
   |zero=>cases hv;exact e
   |succ m=>exact h2 m v ⋯ hv
theorem LD{α β:Type}(f:α->β):∀(l:List α) (j:Nat),(l.map f).eraseIdx j=(l.eraseIdx j).map f
 | [],_=>rfl
 |x::l,0=>rfl
 |x::l,j+1=>by
  show f x::(l.map f).eraseIdx j=f x::(l.eraseIdx j).map f;rw[LD f l j]
theorem wmore{R e S cur:List Int}(w:Walk ks (ids ks.length) R e)(v:Walk ks (ids ks.length) S cur)(h:S.length<R.length):¬d5 ks cur:=λd=>by
 have P:=Pt.ids ks.length;have nd:=w.nodup P;have:=nd.length_le_of_subset (l₂:=(tls (ids ks.length) S).map λt=>(t.1,t.2.1)) λk hk=>by
  obtain⟨t,ht,rfl⟩:=fv.mp hk;obtain⟨h1,h2,_⟩:=w.key P ht;obtain⟨u,hu,e1,e2⟩:=v.all P d h2 h1;exact fv.mpr ⟨u,hu,by rw[e1,e2]⟩
 rw[ay,ay,Fl.j5,Fl.j5] at this;ac_rfl
noncomputable def CL:Fn:=λds Q=>∃(ks row e:List Int) (fl:List Ti),ds=[.lst (aZ ks),.lst (eO fl)]/\2<=ks.length/\ks.length<=12/\Walk ks (ids ks.length) row e/\d5 ks e/\row.length<=60/\fl.Perm (fT (ids ks.length) row)/\Q (.v (.bl ai))
theorem N7:∀ds Q,CL ds Q->ds.length=2:=by rintro ds Q ⟨_,_,_,_,rfl,_⟩;rfl
theorem OT:MonoF CL:=⟨λds Q Q' w z=>by obtain⟨a,b,c,d,e,f,g,h,i,j,k,l⟩:=z;exact⟨a,b,c,d,e,f,g,h,i,j,k,w _ l⟩⟩
end Lw
namespace Lw
open L2 Z
open Sf (Rw crs qZ Pre Good aI aW place many)
open Fl (kd ids Walk d5 tls pc aL Pt Bf srt cH zG tS fT tm)
theorem GM(ks:List Int)(a b:Int):∀(i c:Nat) (z:Int),(c:Int)<=z->z<(c+i:Nat)->kd ks z≠kd ks b->(a,b,z)∈wT ks a b i c
 |0,c,z,h1,h2,_=>by ac_rfl
 |i+1,c,z,h1,h2,h3=>by
  rw[wT,de];by_cases e:z=(c:Int)
  ·left;rw[Vn (by rw[<- e];exact h3),e];exact dg.mpr rfl
  ·exact .inr (GM ks a b i (c+1) z ⋯ ⋯ h3)
variable {a:Int}
theorem w5{c:Int}(h0:0<=a)(hab:a<b)(hbc:b<c)(hc:c<ks.length)(k1:kd ks a≠kd ks b)(k2:kd ks b≠kd ks c):(a,b,c)∈aO ks:=
 U2.mpr ⟨(a,b),kM.mpr ⟨h0,hab,by show b<_;ac_rfl,k1⟩,GM ks a b _ _ c (by dsimp only;ac_rfl) (by dsimp only;ac_rfl) (dq k2)⟩
variable {e:List Int}
theorem iV.has(w:Walk ks (ids ks.length) row e)(d:d5 ks e)(m:jO ks)(hn:ks.length<=12)(F:iV ks row fl){c:Int}(h0:0<=a)(hac:a<c)(hc:c<ks.length)(hk:kd ks a≠kd ks c):CB fl a c:=by
 obtain⟨u,hu,_,_,_,eu⟩:=n0 (F.cov w d m a c h0 hac hc hk);have k1:=m a c h0 ⋯ hc;obtain⟨p,q,_,P1,_,_,_,g⟩:=w.tile (w.tm_lt d h0 hac hc ⋯);have b:=F.below w g;refine⟨u,hu,eu.symm,?_⟩;rw[<- eu,b,Fl.iC];have:=P1.len;show (p.take q).length<=30;rw[cv];ac_rfl
structure IsF(ks:List Int)(fl:List Ti):Prop where
 n2:2<=ks.length
 n12:ks.length<=12
 mo:jO ks
 up:fl.Pairwise vK
 row:∃row e,Walk ks (ids ks.length) row e/\d5 ks e/\row.length<=60/\fl.Perm (fT (ids ks.length) row)
theorem Nj(us:List Ti):Al (us.map tS) us:=⟨by rw[ay],λi t u h1 h2=>by
 rw[cg,h2] at h1;cases h1;exact⟨rfl,rfl,rfl⟩⟩
theorem Lk{ts us:List Ti}(h:Al ts us):ts=us.map tS:=by
 apply oa;intro i;rw[cg];by_cases hi:i<us.length
 ·have hi':i<ts.length:=by rw[h.1];exact hi
  obtain⟨a,b,c⟩:=h.2 i _ _ (au hi') (au hi);rw[au hi',au hi];show aa ts[i]=aa (us[i].1,us[i].2.1,srt us[i].2.2);rw[<- a,<- b,<- c]
 ·rw[rg (by rw[h.1];ac_rfl),rg ⋯];rfl
theorem gP(h:fl.Perm (fT (ids ks.length) row)):iV ks row fl:=⟨_,h,Nj _⟩
theorem ID(h:iV ks row fl):fl.Perm (fT (ids ks.length) row):=by
 obtain⟨ts,p,a⟩:=h;rw[Lk a] at p;exact p
theorem HQ(l:List Int):srt (srt l)=srt l:=Fl.mP (Fl.dI l)
theorem IsF.key(F:IsF ks fl):sB fl:=by
 obtain⟨row,e,w,d,rl,p⟩:=F.row;exact(gP p).keys w
theorem IsF.len{ks:List Int}{fl:List Ti}(F:IsF ks fl):fl.length<=60:=by
 obtain⟨row,e,w,d,rl,p⟩:=F.row;rw[(gP p).len];exact rl
variable {x y:Int}
theorem L8(h:Bf (ids n) x y):x<y:=by
 obtain⟨i,j,h1,h2,h3,h4⟩:=h;have ln:(ids n).length=n:=by simp
 rw[Fl.j9 ⋯] at h3 h4;ac_rfl
theorem IsF.fl5(F:IsF ks fl):Fl5 ks fl:=by
 have m:=F.mo;have n12:=F.n12;have kf:=F.key;have lf:=F.len;obtain⟨row,e,w,d,rl,p⟩:=F.row;have FO:=gP p;refine⟨n12,lf,kf,F.up,λx hx=>?_,λt ht=>?_,λx hx=>?_⟩
 ·obtain⟨u,hu,rfl⟩:=fv.mp (p.mem_iff.mp hx);exact L8 (w.key (Pt.ids _) hu).1
 ·obtain⟨m1,m2,m3,m4,m5,m6⟩:=hC ht;have k1:=m t.1 t.2.1 m1 ⋯ ⋯;have k2:=m t.2.1 t.2.2 ⋯ ⋯ m4;exact⟨FO.has w d m n12 m1 m2 ⋯ m5,FO.has w d m n12 m1 ⋯ m4 ⋯,FO.has w d m n12 ⋯ m3 m4 m6⟩
 ·obtain⟨u,hu,rfl⟩:=fv.mp (p.mem_iff.mp hx);exact HQ u.2.2
theorem NZ{L:List α}{j k:Nat}{u v w:α}(hi:L[i]?=aa u)(hj:L[j]?=aa v)(hk:L[k]?=aa w)(ij:i<j)(jk:j<k):∃A B C D,L=A++u::(B++v::(C++w::D)):=by
 obtain⟨h1,e1⟩:=av.mp hi;obtain⟨h2,e2⟩:=av.mp hj;obtain⟨h3,e3⟩:=av.mp hk;refine⟨L.take i,(L.drop (i+1)).take (j-i-1),(L.drop (j+1)).take (k-j-1),L.drop (k+1),?_⟩;have s1:L=L.take i++u::L.drop (i+1):=by rw[<- e1,<- eg h1,se]
 have s2:L.drop (i+1)=(L.drop (i+1)).take (j-i-1)++v::L.drop (j+1):=by
  conv=>lhs;rw[<- se (j-i-1) (L.drop (i+1))]
  rw[UJ,show i+1+(j-i-1)=j by ac_rfl,eg h2,e2]
 have s3:L.drop (j+1)=(L.drop (j+1)).take (k-j-1)++w::L.drop (k+1):=by
  conv=>lhs;rw[<- se (k-j-1) (L.drop (j+1))]
  rw[UJ,show j+1+(k-j-1)=k by ac_rfl,eg h3,e3]
 rw[<- s3,<- s2,<- s1]
theorem w4(w:Walk ks (ids ks.length) row e)(FO:iV ks row fl)(h:tm ks row x y<row.length):∃pre,(tls (ids ks.length) row)[tm ks row x y]?=aa (x,y,pre)/\bN fl x y=srt pre/\x ∉ bN fl x y/\y ∉ bN fl x y:=by
 obtain⟨m,p,w1,P1,hp,ea,ec,g⟩:=w.tile h;have lm:=P1.len;have b:=FO.below w g;have no:∀(i:Nat) (z:Int),i<ks.length->p<=i->m.getD i 0=z->z ∉ m.take p:=λi z hi hpi hz hm=>by
  obtain⟨q,hq,eq⟩:=dm.mp hm;rw[cv] at hq;rw[fw] at eq;have:=P1.inj q i ⋯ hi (by rw[hz,<- eq];simp[eo,show q<m.length by ac_rfl]);ac_rfl
 have eb:bN fl x y=srt (m.take p):=b;refine⟨m.take p,g,eb,λz=>?_,λz=>?_⟩
 ·rw[eb] at z;exact no p x ⋯ (bo _) ea ((Fl.dI _).mem_iff.mp z)
 ·rw[eb] at z;exact no (p+1) y hp ⋯ ec ((Fl.dI _).mem_iff.mp z)
theorem MW(A B C D:List α)(u v w:α):(A++u::(B++v::(C++w::D))).Perm ((A++B)++(C++D)++[u,v,w]):=by
 rw[dh (A++B)];have e1:(A++u::(B++v::(C++w::D))).Perm (u::(A++(B++v::(C++w::D)))):=xn;have e2:(A++(B++v::(C++w::D))).Perm (v::(A++B++(C++w::D))):=by rw[<- dh];exact xn
 have e3:(A++B++(C++w::D)).Perm (w::(A++B++C++D)):=by rw[<- dh];exact xn
 have e4:(u::v::w::(A++B++C++D)).Perm ((A++B++C++D)++[u,v,w]):=(rh (l₁:=[u,v,w]));refine e1.trans ((List.Perm.cons _ (e2.trans (.cons _ e3))).trans (e4.trans ?_));simp
structure Three(ks:List Int)(fl:List Ti)(a b c:Int):Prop where
 t:(a,b,c)∈aO ks
 ab:a<b
 bc:b<c
 a1:a ∉ bN fl a b
 b1:b ∉ bN fl a b
 a2:a ∉ bN fl a c
 c2:c ∉ bN fl a c
 b3:b ∉ bN fl b c
 c3:c ∉ bN fl b c
theorem IsF.flip(F:IsF ks fl){c:Int}(t3:(a,b,c)∈aO ks)(hx:jP fl (a,b,c)):IsF ks (i9 fl (a,b,c))/\Three ks fl a b c:=by
 have m:=F.mo;have n12:=F.n12;have F5:=F.fl5;obtain⟨row,e,w,d,rl,p⟩:=F.row;have FO:=gP p;obtain⟨m1,m2,m3,m4,m5,m6⟩:=hC t3;simp only at m1 m2 m3 m4 m5 m6;have k1:=m a b m1 ⋯ ⋯;have k2:=m b c ⋯ ⋯ m4;have i1:=w.tm_lt d m1 m2 ⋯ ⋯;have i2:=w.tm_lt d m1 (show a<c by ac_rfl) m4 ⋯;have i3:=w.tm_lt d (show 0<=b by ac_rfl) m3 m4 ⋯;obtain⟨p1,g1,e1,n1,n1'⟩:=w4 w FO i1;obtain⟨p2,g2,e2,n2,n2'⟩:=w4 w FO i2;obtain⟨p3,g3,e3,n3,n3'⟩:=w4 w FO i3;have T:Three ks fl a b c:=⟨t3,m2,m3,n1,n1',n2,n2',n3,n3'⟩;refine⟨?_,T⟩;have tr:=w.tri d m m1 m2 m3 m4 ⋯;have th:=w.three d m1 m2 m3 m4 ⋯ ⋯ g1 ⟨rfl,rfl⟩ g3 ⟨rfl,rfl⟩ g2 ⟨rfl,rfl⟩;have G:∀{i:Nat} {x y:Int} {pre:List Int},(tls (ids ks.length) row)[i]?=aa (x,y,pre)->bN fl x y=srt pre->(fT (ids ks.length) row)[i]?=aa (x,y,bN fl x y):=λh he=>by
  unfold fT;rw[cg,h,he];rfl
 have L1:=G g1 e1;have L2:=G g2 e2;have L3:=G g3 e3;have pf:=kR F5 m2 m3 t3;have po:∀{A B C D:List Ti} {u v x:Ti},fT (ids ks.length) row=A++u::(B++v::(C++x::D))->([u,v,x].Perm [(a,b,bN fl a b),(a,c,bN fl a c),(b,c,bN fl b c)])->(fl.filter (othB (a,b,c))).Perm ((A++B)++(C++D)):=λ{A B C D u v x} h hp=>by
  have q1:=lO (othB (a,b,c)) fl;rw[tL F5 m2 m3 t3] at q1;have q2:=(q1.trans p);rw[h] at q2;have q3:=q2.trans ((MW A B C D u v x).trans (hp.append_left _));exact(List.perm_append_right_iff _).mp q3
 have fin:∀{VW:List Int} {A B C D:List Ti},Walk ks (ids ks.length) VW e->(fl.filter (othB (a,b,c))).Perm ((A++B)++(C++D))->(fT (ids ks.length) VW).Perm ((A++B)++(C++D)++p6 fl (a,b,c))->IsF ks (i9 fl (a,b,c)):=λ{VW A B C D} w' h1 h2=>by
  have P:=pf.trans ((h1.append_right _).trans h2.symm);refine⟨F.n2,n12,m,C1 F.up,VW,e,w',d,?_,P⟩;have:=P.length_eq;rw[i9,ay,fT,ay,Fl.j5] at this;have:=F.len;ac_rfl
 by_cases u:D1 fl (a,b,c)
 ·have u1:bN fl b c=bN fl a b:=u.1;have u2:bN fl a c=srt (bN fl a b++[b]):=u.2;have hb:b∈p2:=by
   have:b∈bN fl a c:=by rw[u2];exact(Fl.dI _).mem_iff.mpr (by simp)
   rw[e2] at this;exact(Fl.dI _).mem_iff.mp this
  have o13:=th.mp hb;have o:tm ks row a b<tm ks row a c/\tm ks row a c<tm ks row b c:=⋯;obtain⟨A,B,C,D,hd⟩:=NZ L1 L2 L3 o.1 o.2;have hd':=hd;rw[u1,u2] at hd';obtain⟨VW,w',h'⟩:=Fl.Ip w (Pt.ids _) hd';refine fin (A:=A) (B:=B) (C:=C) (D:=D) w' (po hd (.refl _)) ?_;rw[h',p6,VH u];show ((A++B)++([(b,c,srt (bN fl a b++[a])),(a,c,bN fl a b),(a,b,srt (bN fl a b++[c]))]++(C++D))).Perm _;rw[dh (A++B) (C++D)];refine ni _ (rh.trans (ni _ ?_));show ([(b,c,srt (bN fl a b++[a])),(a,c,bN fl a b),(a,b,srt (bN fl a b++[c]))]:List Ti).Perm [(a,b,srt (bN fl a b++[c])),(a,c,bN fl a b),(b,c,srt (bN fl a b++[a]))];exact Tj [(a,b,srt (bN fl a b++[c])),(a,c,bN fl a b),(b,c,srt (bN fl a b++[a]))]
 ·have dn:LS fl (a,b,c):=(show D1 fl (a,b,c) \/ LS fl (a,b,c) from hx).resolve_left u;have u1:bN fl a b=srt (bN fl a c++[c]):=dn.1;have u3:bN fl b c=srt (bN fl a c++[a]):=dn.2;have hb:b ∉ p2:=λz=>n1' (by
   rw[u1];refine(Fl.dI _).mem_iff.mpr (jf _ ?_);rw[e2];exact(Fl.dI _).mem_iff.mpr z)
  have o13:¬tm ks row a b<tm ks row b c:=λz=>hb (th.mpr z);have o:tm ks row b c<tm ks row a c/\tm ks row a c<tm ks row a b:=⋯;obtain⟨A,B,C,D,hd⟩:=NZ L3 L2 L1 o.1 o.2;have hd':=hd;rw[u1,u3] at hd';obtain⟨VW,w',h'⟩:=Fl.Iq w (Pt.ids _) hd';refine fin (A:=A) (B:=B) (C:=C) (D:=D) w' (po hd (Tj [(a,b,bN fl a b),(a,c,bN fl a c),(b,c,bN fl b c)])) ?_;rw[h',p6,Vn u];show ((A++B)++([(a,b,bN fl a c),(a,c,srt (bN fl a c++[b])),(b,c,bN fl a c)]++(C++D))).Perm _;rw[dh (A++B) (C++D)];exact ni _ (rh.trans (ni _ (.refl _)))
end Lw
namespace Lw
open L2 Z
open Sf (Rw crs qZ Pre Good aI aW place many)
open Fl (kd ids Walk d5 tls pc aL Pt Bf srt cH zG tS fT tm)
noncomputable def OV(t u:Int×Int):Prop:=t.1<u.1 \/ (t.1=u.1/\t.2<u.2)
theorem GN(ks:List Int)(a:Int):∀i b,(yH ks a i b).Pairwise OV
 |0,_=>.nil
 |i+1,b=>by
  rw[yH];refine mv.mpr ⟨?_,GN ks a i (b+1),λt ht u hu=>?_⟩
  ·split
   ·exact .nil
   ·exact vw _ _
  ·have h2:=(tD ks a i (b+1) u).mp hu;split at ht
   ·cases ht
   ·rw[dg] at ht;subst ht;exact .inr ⟨h2.1.symm,by have:=h2.2.1;dsimp only;ac_rfl⟩
theorem CZ(ks:List Int):∀i a,a+i=ks.length->(mV ks i a).Pairwise OV
 |0,_,_=>.nil
 |i+1,a,h=>by
  rw[mV];refine mv.mpr ⟨GN ..,CZ ks i (a+1) ⋯,λt ht u hu=>.inl ?_⟩;have h1:=((tD ks a _ _ t).mp ht).1;have h2:=((u7 ks i (a+1) u ⋯).mp hu).1;ac_rfl
theorem FQ(ks:List Int):(jG ks).Pairwise OV:=CZ ks ks.length 0 ⋯
noncomputable abbrev Th:=Int×Int×Int
noncomputable abbrev k3(t:Th):List Int:=[t.1,t.2.1,t.2.2]
theorem GL(ks:List Int)(a b:Int):∀(i c:Nat),(wT ks a b i c).Pairwise λt u=>lexB (k3 t) (k3 u)=ai
 |0,c=>.nil
 |i+1,c=>by
  rw[wT];refine mv.mpr ⟨by split<;>simp,GL ks a b i (c+1),λt ht u hu=>?_⟩;obtain⟨e1,e2,e3,_⟩:=qR _ _ _ _ _ _ hu;split at ht
  ·cases ht
  ·rw[dg.mp ht];simp[lexB,e1,e2];ac_rfl
theorem D9(ks:List Int):(aO ks).Pairwise λt u=>lexB (k3 t) (k3 u)=ai:=by
 unfold aO eY;rw[List.pairwise_flatMap];refine⟨λt _=>GL _ _ _ _ _,(FQ ks).imp λ{a b} h x hx y hy=>?_⟩;obtain⟨e1,e2,_⟩:=qR _ _ _ _ _ _ hx;obtain⟨f1,f2,_⟩:=qR _ _ _ _ _ _ hy;unfold OV at h;simp only[lexB,e1,e2,f1,f2];rcases h with h | ⟨h,h2⟩
 ·rw[Vn ⋯];exact decide_eq_true h
 ·rw[VH h,Vn ⋯];exact decide_eq_true h2
theorem Rm{B:List Th}:∀(l acc:List Th),acc.length+l.length<=10000->Q (.nw (.lst (cM (acc++l.filter λt=>!decide (t∈B))))) ->
  cP [.un,.v (.lst (cM B))] (gN 0) (aU (aP d8 (a8 0) (a8 1))) (a8 0) (cM l) (cM acc) Q:=by
 intro l;induction l with
 |nil=>
  intro acc _ h;rw[show cM []=[] from rfl,eJ];simpa using h
 |cons t l ih=>
  intro acc hl h;simp only[bh] at hl;rw[show cM (t::l)=.tup [.int t.1,.int t.2.1,.int t.2.2]::cM l from rfl];push_cast [d8,wS,ay];refine⟨⟨rfl,nV B⟩,?_⟩;by_cases z:t∈B
  ·rw[decide_eq_true z,Vn ∅];rw[jy (by simpa using z)] at h;exact ih _ ⋯ h
  ·rw[decide_eq_false z,VH ∅];refine⟨⋯,?_⟩;rw[show cM acc++[Dv.tup [Dv.int t.1,Dv.int t.2.1,Dv.int t.2.2]]=cM (acc++[t]) by simp];rw[jx (by simpa using z)] at h;exact ih _ (by simp;ac_rfl) (by simpa using h)
theorem Ow(l:List Th):cM l=(l.map λt=>(k3 t,([]:List Dv))).map tI:=by rw[og];rfl
noncomputable def upB(l:List Ti)(t:Int×Int×Int):Bool:=decide (t.2.1∈bN l t.1 t.2.2)
theorem Li(cov:Ra ks fl)(mono:jO ks):∀(l acc:List (Int×Int×Int)),(∀t∈l,t∈aO ks)->acc.length+l.length<=10000->Q (.nw (.lst (cM (acc++l.filter (upB fl))))) ->
  cP [.un,.v (.dit (mB fl))] (gN 0) (aU (aP Hy (aP bX (a8 0) (eC (.int 1))) (aP bX (a8 1) (bQ (a7 (aP bX (a8 0) (eC (.int 0))) (a7 (aP bX (a8 0) (eC (.int 2))) aG)))))) (a8 0) (cM l) (cM acc) Q:=by
 intro l;induction l with
 |nil=>
  intro acc _ _ h;rw[show cM []=[] from rfl,eJ];simpa using h
 |cons t l ih=>
  intro acc hm hl h;simp only[bh] at hl;obtain⟨m1,m2,m3,m4,m5,m6⟩:=hC (hm t (by simp));have k1:=mono t.1 t.2.1 m1 ⋯ ⋯;have k2:=mono t.2.1 t.2.2 ⋯ ⋯ m4;obtain⟨u,hu,_,_,_,eu⟩:=n0 (cov t.1 t.2.2 m1 ⋯ m4 ⋯);rw[show cM (t::l)=.tup [.int t.1,.int t.2.1,.int t.2.2]::cM l from rfl];push_cast [lN,hu,sm,Hy,Cj,ay];refine⟨⟨QM _ _,oK _ _⟩,?_⟩;rw[<- eu];have e:upB fl t=decide (t.2.1∈bN fl t.1 t.2.2):=rfl;by_cases z:t.2.1∈bN fl t.1 t.2.2
  ·rw[VH z];refine⟨⋯,?_⟩;rw[show cM acc++[Dv.tup [Dv.int t.1,Dv.int t.2.1,Dv.int t.2.2]]=cM (acc++[t]) by simp];rw[jx (by rw[e];simpa using z)] at h;exact ih _ (λt ht=>hm t (bg _ ht)) (by simp;ac_rfl) (by simpa using h)
  ·rw[Vn z];rw[jy (by rw[e];simpa using z)] at h;exact ih _ (λt ht=>hm t (bg _ ht)) ⋯ h
variable {x:Int}
theorem pC{l:List Ti}(k:sB l){y:Int}{z:List Int}(h:(x,y,z)∈l):bN l x y=z:=by
 obtain⟨t,_,ht,e1,e2,e3⟩:=n0 (l:=l) (a:=x) (c:=y) ⟨_,h,rfl,rfl⟩;have:=k.one ht h ⟨e1,e2⟩;rw[e3,this]
theorem Kf{t:Int×Int×Int}:(p6 fl t).filter (othB t)=[]:=by
 rw[je];intro u hu;have m:(u.1,u.2.1)∈(p6 fl t).map (λx=>(x.1,x.2.1)):=yg hu;rw[xX] at m;simp only[br,fc,or_false,jo] at m;unfold othB;simp only[Ue,decide_eq_true_eq,br,fc,or_false,not_or];ac_rfl
theorem gO:x∈srt l ↔ x∈l:=(Fl.dI l).mem_iff
structure Nw(fl:List Ti)(a b c:Int)(S:List Int)(u:Bool):Prop where
 o1:bN fl a b=if u then S else srt (S++[c])
 o2:bN fl a c=if u then srt (S++[b]) else S
 o3:bN fl b c=if u then S else srt (S++[a])
 n1:bN (i9 fl (a,b,c)) a b=if u then srt (S++[c]) else S
 n2:bN (i9 fl (a,b,c)) a c=if u then S else srt (S++[b])
 n3:bN (i9 fl (a,b,c)) b c=if u then srt (S++[a]) else S
 na:a ∉ S
 nb:b ∉ S
 nc:c ∉ S
variable {a:Int}
theorem Fd(F:IsF ks fl){c:Int}(t3:(a,b,c)∈aO ks)(hx:jP fl (a,b,c)):∃S u,Nw fl a b c S u:=by
 obtain⟨F',T⟩:=F.flip t3 hx;have K:=F'.key;have P:=kR F.fl5 T.ab T.bc t3;have mem:∀x∈p6 fl (a,b,c),x∈i9 fl (a,b,c):=λx hx=>P.mem_iff.mpr (cu _ hx);by_cases u:D1 fl (a,b,c)
 ·have u1:bN fl b c=bN fl a b:=u.1;have u2:bN fl a c=srt (bN fl a b++[b]):=u.2;rw[p6,VH u] at mem;refine⟨bN fl a b,ai,rfl,u2,u1,?_,?_,?_,T.a1,T.b1,u1 ▸ T.c3⟩
  ·exact pC K (mem (a,b,srt (bN fl a b++[c])) (by simp[Gf]))
  ·exact pC K (mem (a,c,bN fl a b) (by simp[Gf]))
  ·exact pC K (mem (b,c,srt (bN fl a b++[a])) (by simp[Gf]))
 ·have dn:LS fl (a,b,c):=(show D1 fl (a,b,c) \/ LS fl (a,b,c) from hx).resolve_left u;have u1:bN fl a b=srt (bN fl a c++[c]):=dn.1;have u3:bN fl b c=srt (bN fl a c++[a]):=dn.2;rw[p6,Vn u] at mem;refine⟨bN fl a c,ak,u1,rfl,u3,?_,?_,?_,T.a2,λz=>T.b1 (by rw[u1,gO];exact jf _ z),T.c2⟩
  ·exact pC K (mem (a,b,bN fl a c) (by simp[EW]))
  ·exact pC K (mem (a,c,srt (bN fl a c++[b])) (by simp[EW]))
  ·exact pC K (mem (b,c,bN fl a c) (by simp[EW]))
theorem IsF.back(F:IsF ks fl){c:Int}(t3:(a,b,c)∈aO ks)(hx:jP fl (a,b,c)):jP (i9 fl (a,b,c)) (a,b,c)/\i9 (i9 fl (a,b,c)) (a,b,c)=fl:=by
 obtain⟨F',T⟩:=F.flip t3 hx;obtain⟨S,u,N⟩:=Fd F t3 hx;have fo:((i9 fl (a,b,c)).filter (othB (a,b,c))).Perm (fl.filter (othB (a,b,c))):=by
  have:=(kR F.fl5 T.ab T.bc t3).filter (othB (a,b,c));rw[ox,Kf,im,zm] at this;simpa using this
 have bk:p6 (i9 fl (a,b,c)) (a,b,c)=[(a,b,bN fl a b),(a,c,bN fl a c),(b,c,bN fl b c)]->i9 (i9 fl (a,b,c)) (a,b,c)=fl:=λh=>by
  have p1:=kR F'.fl5 T.ab T.bc t3;rw[h] at p1;have p2:=lO (othB (a,b,c)) fl;rw[tL F.fl5 T.ab T.bc t3] at p2;exact xE (p1.trans ((fo.append_right _).trans p2)) (C1 F'.up) F.up
 cases u with
 |true=>
  have o1:bN fl a b=S:=N.o1;have o2:bN fl a c=srt (S++[b]):=N.o2;have o3:bN fl b c=S:=N.o3;have n1:bN (i9 fl (a,b,c)) a b=srt (S++[c]):=N.n1;have n2:bN (i9 fl (a,b,c)) a c=S:=N.n2;have n3:bN (i9 fl (a,b,c)) b c=srt (S++[a]):=N.n3;have no:¬D1 (i9 fl (a,b,c)) (a,b,c):=λz=>by
   have z1:bN (i9 fl (a,b,c)) b c=bN (i9 fl (a,b,c)) a b:=z.1;rw[n3,n1] at z1;have:c∈srt (S++[a]):=by rw[z1,gO];simp
   rw[gO,de,dg] at this;have hab:=T.ab;have hbc:=T.bc;rcases this with h | h
   ·exact N.nc h
   ·ac_rfl
  refine⟨.inr ⟨?_,?_⟩,bk ?_⟩
  ·show bN (i9 fl (a,b,c)) a b=srt (bN (i9 fl (a,b,c)) a c++[c]);rw[n1,n2]
  ·show bN (i9 fl (a,b,c)) b c=srt (bN (i9 fl (a,b,c)) a c++[a]);rw[n3,n2]
  ·rw[p6,Vn no,o1,o2,o3];show EW a b c (bN (i9 fl (a,b,c)) a c)=_;rw[n2];rfl
 |false=>
  have o1:bN fl a b=srt (S++[c]):=N.o1;have o2:bN fl a c=S:=N.o2;have o3:bN fl b c=srt (S++[a]):=N.o3;have n1:bN (i9 fl (a,b,c)) a b=S:=N.n1;have n2:bN (i9 fl (a,b,c)) a c=srt (S++[b]):=N.n2;have n3:bN (i9 fl (a,b,c)) b c=S:=N.n3;have yes:D1 (i9 fl (a,b,c)) (a,b,c):=by
   refine⟨?_,?_⟩
   ·show bN (i9 fl (a,b,c)) b c=bN (i9 fl (a,b,c)) a b;rw[n3,n1]
   ·show bN (i9 fl (a,b,c)) a c=srt (bN (i9 fl (a,b,c)) a b++[b]);rw[n2,n1]
  refine⟨.inl yes,bk ?_⟩;rw[p6,VH yes,o1,o2,o3];show Gf a b c (bN (i9 fl (a,b,c)) a b)=_;rw[n1];rfl
theorem EV(F:IsF ks fl){c:Int}(t3:(a,b,c)∈aO ks)(hx:jP fl (a,b,c)):upB (i9 fl (a,b,c)) (a,b,c) = !upB fl (a,b,c):=by
 obtain⟨S,u,N⟩:=Fd F t3 hx;have nb:=N.nb;show decide (b∈bN (i9 fl (a,b,c)) a c) = !decide (b∈bN fl a c);rw[N.n2,N.o2];cases u with
 |true=>simp[gO,nb]
 |false=>simp[gO,nb]
theorem BL(F:IsF ks fl){c:Int}(t3:(a,b,c)∈aO ks)(hx:jP fl (a,b,c)){t:Int×Int×Int}(ht:t∈aO ks)(ne:t≠(a,b,c)):upB (i9 fl (a,b,c)) t=upB fl t:=by
 obtain⟨F',T⟩:=F.flip t3 hx;obtain⟨S,u,N⟩:=Fd F t3 hx;obtain⟨x,y,z⟩:=t;obtain⟨m1,m2,m3,m4,m5,m6⟩:=hC ht;simp only at m1 m2 m3 m4 m5 m6;have hab:=T.ab;have hbc:=T.bc;have h2:=(F.fl5.has _ ht).2.1.mem.1;simp only at h2;show decide (y∈bN (i9 fl (a,b,c)) x z)=decide (y∈bN fl x z);refine decide_eq_decide.mpr ?_;cases o:othB (a,b,c) (x,z,bN fl x z) with
 |true=>
  have:(x,z,bN fl x z)∈i9 fl (a,b,c):=(kR F.fl5 T.ab T.bc t3).mem_iff.mpr (jf _ (dw.mpr ⟨h2,o⟩));rw[pC F'.key this]
 |false=>
  unfold othB at o;simp only[sr,decide_eq_false_iff_not,br,fc,or_false,qx] at o;have k:(x=a/\z=b) \/ (x=a/\z=c) \/ (x=b/\z=c):=⋯;have yb:¬(x=a/\y=b/\z=c):=λq=>ne (by rw[q.1,q.2.1,q.2.2]);rcases k with⟨rfl,rfl⟩ | ⟨rfl,rfl⟩ | ⟨rfl,rfl⟩
  ·rw[N.n1,N.o1];cases u<;>simp[gO]<;>ac_rfl
  ·rw[N.n2,N.o2];cases u<;>simp[gO]<;>ac_rfl
  ·rw[N.n3,N.o3];cases u<;>simp[gO]<;>ac_rfl
theorem xH(ks:List Int):(aO ks).Nodup:=(D9 ks).imp λ{t u} h z=>by
 rw[z,iQ] at h;cases h
theorem uP{α:Type}{f:α->Bool}{t:α}:∀{l:List α},l.Nodup->t∈l->(∀x∈l,x≠t->f x=ak)->f t=ai->l.filter f=[t]
 |x::l,nd,h,a,b=>by
  obtain⟨n1,n2⟩:=ph.mp nd;by_cases e:x=t
  ·subst e;rw[gn,VH b,show l.filter f=[] by
    rw[je];intro y hy z;rw[a y (bg _ hy) λq=>n1 (q ▸ hy)] at z;cases z]
  ·rw[gn,Vn (by rw[a x (cj ..) e];decide)];exact uP n2 ((br.mp h).resolve_left λz=>e z.symm) (λy hy=>a y (bg _ hy)) b
theorem NY{p q:Int×Int×Int->Bool}{t:Int×Int×Int}(ht:t∈aO ks)(h1:q t = !p t)(h2:∀x∈aO ks,x≠t->q x=p x):
  (((aO ks).filter p).filter λx=>!decide (x∈(aO ks).filter q))++(((aO ks).filter q).filter λx=>!decide (x∈(aO ks).filter p))=[t]:=by
 have f:∀(p q:Int×Int×Int->Bool),((aO ks).filter p).filter (λx=>!decide (x∈(aO ks).filter q))=(aO ks).filter λx=>p x && !q x:=λp q=>by
  rw[zm];refine Tn λx hx=>?_;rw[show decide (x∈(aO ks).filter q)=q x by rw[oy,decide_eq_true_eq,dw];exact⟨λz=>z.2,λz=>⟨hx,z⟩⟩,Bool.and_comm]
 rw[f,f];have no:∀(p q:Int×Int×Int->Bool),(p t && !q t)=ak->(∀x∈aO ks,x≠t->q x=p x)->(aO ks).filter (λx=>p x && !q x)=[]:=λp q a b=>by
  rw[je];intro x hx z;by_cases e:x=t
  ·rw[e,a] at z;cases z
  ·rw[b x hx e] at z;cases h:p x<;>rw[h] at z<;>cases z
 cases hp:p t with
 |true=>
  rw[hp] at h1;rw[uP (f:=λx=>p x && !q x) (xH ks) ht (λx hx e=>by show (p x && !q x)=ak;rw[h2 x hx e];cases p x<;>rfl) (by show (p t && !q t)=ai;rw[hp,h1];rfl),no q p (by rw[h1];rfl) λx hx e=>(h2 x hx e).symm];rfl
 |false=>
  rw[hp] at h1;rw[no p q (by rw[hp];rfl) h2,uP (f:=λx=>q x && !p x) (xH ks) ht (λx hx e=>by show (q x && !p x)=ak;rw[h2 x hx e];cases p x<;>rfl) (by show (q t && !p t)=ai;rw[hp,h1];rfl)];rfl
end Lw
namespace Fl
section
variable {L:Nat}{kk:Int->Int}{T:Int->Int->Nat}
noncomputable def oR(T:Int->Int->Nat)(a b c:Int):Prop:=T a b<T a c
noncomputable instance (T:Int->Int->Nat) (a b c:Int):Decidable (oR T a b c):=by unfold oR;exact inferInstance
theorem Tms.four(h:Tms n kk T L){i j k l:Int}(h0:0<=i)(ij:i<j)(jk:j<k)(kl:k<l)(ln:l<n)(k1:kk i≠kk k)(k2:kk j≠kk l):
  (oR T i j k ↔ oR T i j l)/\(oR T i j l ↔ oR T i k l) \/ (oR T i j k ↔ oR T i j l)/\(oR T i k l ↔ oR T j k l) \/ (oR T i j l ↔ oR T i k l)/\(oR T i k l ↔ oR T j k l):=by
 have m1:=h.mono i j h0 ⋯ ⋯;have m2:=h.mono j k ⋯ ⋯ ⋯;have m3:=h.mono k l ⋯ ⋯ ⋯;have a:=h.tri i j k h0 ij jk ⋯ k1;have b:=h.tri i j l h0 ij ⋯ ln ⋯;have c:=h.tri i k l h0 ⋯ kl ln ⋯;have d:=h.tri j k l ⋯ jk kl ln k2;unfold oR;ac_rfl
theorem Tms.counts(h:Tms n kk T L){a c:Int}{u:Prop}[Decidable u](h0:0<=a)(ab:a<b)(bc:b<c)(cn:c<n)(k:kk a≠kk c)(hu:kk a≠kk b->kk b≠kk c->(u ↔ oR T a b c)):
  (if kk a=kk b then ak else if kk b=kk c then ai else decide u)=decide (oR T a b c):=by
 have m1:=h.mono a b h0 ⋯ ⋯;have m2:=h.mono b c ⋯ ⋯ cn;have t:=h.tri a b c h0 ab bc cn k;have l:=h.lt a c h0 ⋯ cn ⋯;unfold oR at *;by_cases e:kk a=kk b
 ·rw[VH e];have:=h.al a b ⋯;exact(decide_eq_false ⋯).symm
 ·rw[Vn e];by_cases e2:kk b=kk c
  ·rw[VH e2];have:=h.al b c ⋯;exact(decide_eq_true ⋯).symm
  ·rw[Vn e2];exact decide_eq_decide.mpr (hu e e2)
theorem Tms.isb(h:Tms n kk T L){x y z:Int}(h0:0<=x)(xy:x<y)(yn:y<n)(k:kk x≠kk y)(z0:0<=z)(zn:z<n):
  (if z<x then ¬oR T z x y else if y<z then ¬oR T x y z else x<z/\z<y/\oR T x z y) ↔ z≠x/\z≠y/\((z<x/\T x y<T z x) \/ (x<z/\T x z<T x y)):=by
 have m1:=h.mono x y h0 ⋯ yn;unfold oR;by_cases e:z<x
 ·rw[VH e];have m2:=h.mono z x z0 ⋯ ⋯;have t:=h.tri z x y z0 e xy yn ⋯;ac_rfl
 ·rw[Vn e];by_cases e2:y<z
  ·rw[VH e2];have m2:=h.mono y z ⋯ ⋯ ⋯;have t:=h.tri x y z h0 xy e2 zn ⋯;ac_rfl
  ·rw[Vn e2];ac_rfl
end
end Fl
namespace Lw
open L2 Z
open Sf (Rw crs qZ Pre Good aI aW place many)
open Fl (kd ids Walk d5 tls pc aL Pt tm oR)
noncomputable abbrev T3:=Int×Int×Int
noncomputable abbrev SS(t:T3):List cB:=[dt t.1,dt t.2.1,dt t.2.2]
noncomputable abbrev zO(U:List T3):List (List cB×Dv):=U.map λt=>(SS t,.bl ai)
noncomputable def cau(ks:List Int)(U:List T3)(a b c:Int):Bool:=if kd ks a=kd ks b then ak else if kd ks b=kd ks c then ai else decide ((a,b,c)∈U)
noncomputable def On(n:Nat)(a b c:Int):Prop:=(0<=a/\a<n)/\(0<=b/\b<n)/\(0<=c/\c<n)
noncomputable def xL(C:ae):Fn:=λds Q=>∃(rows:List Rw) (U:List T3) (a b c:Int),ds=[b5 C rows,.dit (zO U),.tup [.int a,.int b,.int c]]/\(aI rows).length<=12/\On (aI rows).length a b c/\Q (.v (.bl (cau (aI rows) U a b c)))
theorem OX:∀ds Q,xL C ds Q->ds.length=3:=by rintro ds Q ⟨_,_,_,_,_,rfl,_⟩;rfl
theorem QP:MonoF (xL C):=⟨λds Q Q' w z=>by obtain⟨a,b,c,d,e,f,g,i,h⟩:=z;exact⟨a,b,c,d,e,f,g,i,w _ h⟩⟩
noncomputable abbrev T4:=Int×Int×Int×Int
noncomputable abbrev d4(t:T4):Dv:=.tup [.int t.1,.int t.2.1,.int t.2.2.1,.int t.2.2.2]
structure In4(n:Nat)(t:T4):Prop where
 lo:0<=t.1
 ij:t.1<t.2.1
 jk:t.2.1<t.2.2.1
 kl:t.2.2.1<t.2.2.2
 hi:t.2.2.2<n
noncomputable def alike(ks:List Int)(t:T4):Bool:=decide (kd ks t.1=kd ks t.2.2.1) || decide (kd ks t.2.1=kd ks t.2.2.2)
noncomputable def A0(C:ae):Fn:=λds Q=>∃(rows:List Rw) (t:T4),ds=[b5 C rows,d4 t]/\In4 (aI rows).length t/\Q (.v (.bl (alike (aI rows) t)))
theorem LZ:∀ds Q,A0 C ds Q->ds.length=2:=by rintro ds Q ⟨_,_,rfl,_⟩;rfl
theorem N5:MonoF (A0 C):=⟨λds Q Q' w z=>by obtain⟨a,b,c,d,h⟩:=z;exact⟨a,b,c,d,w _ h⟩⟩
noncomputable def yE(ks:List Int)(U:List T3)(z x y:Int):Bool:=if z<x then !cau ks U z x y else if y<z then !cau ks U x y z else (decide (x<z)&&decide (z<y))&&cau ks U x z y
noncomputable def BU(C:ae):Fn:=λds Q=>∃(rows:List Rw) (U:List T3) (z x y:Int),ds=[b5 C rows,.dit (zO U),.int z,.int x,.int y]/\(aI rows).length<=12/\On (aI rows).length z x y/\Q (.v (.bl (yE (aI rows) U z x y)))
theorem OW:∀ds Q,BU C ds Q->ds.length=5:=by rintro ds Q ⟨_,_,_,_,_,rfl,_⟩;rfl
theorem QN:MonoF (BU C):=⟨λds Q Q' w z=>by obtain⟨a,b,c,d,e,f,g,i,h⟩:=z;exact⟨a,b,c,d,e,f,g,i,w _ h⟩⟩
noncomputable def chg(a b:Bool):Nat:=if a=b then 0 else 1
noncomputable def barred(ks:List Int)(U:List T3)(t:T4):Bool:=
 decide (1<chg (cau ks U t.1 t.2.1 t.2.2.1) (cau ks U t.1 t.2.1 t.2.2.2)+chg (cau ks U t.1 t.2.1 t.2.2.2) (cau ks U t.1 t.2.2.1 t.2.2.2)+chg (cau ks U t.1 t.2.2.1 t.2.2.2) (cau ks U t.2.1 t.2.2.1 t.2.2.2))
noncomputable def wE(C:ae):Fn:=λds Q=>∃(rows:List Rw) (U:List T3) (t:T4),ds=[b5 C rows,.dit (zO U),d4 t]/\(aI rows).length<=12/\In4 (aI rows).length t/\Q (.v (.bl (barred (aI rows) U t)))
theorem Kt:∀ds Q,wE C ds Q->ds.length=3:=by rintro ds Q ⟨_,_,_,rfl,_⟩;rfl
theorem LX:MonoF (wE C):=⟨λds Q Q' w z=>by obtain⟨a,b,c,d,e,f,h⟩:=z;exact⟨a,b,c,d,e,f,w _ h⟩⟩
noncomputable def chgs:List (Bool×Bool)->Nat
 | []=>0
 |p::r=>chg p.1 p.2+chgs r
theorem Iy:∀l:List (Bool×Bool),chgs l<=l.length
 | []=>bo _
 |p::r=>by have:=Iy r;rw[chgs,chg,bh];split<;>ac_rfl
theorem Gq:∀(l:List (Bool×Bool)) (k:Nat),k+l.length<=100->Q (.nw (.lst (ao (k+chgs l) (.int 1)))) ->
  cP [.un,.un] (gT [0,1]) (aU (aP zH (a8 0) (a8 1))) (eC (.int 1)) (l.map λp=>.tup [.bl p.1,.bl p.2]) (ao k (.int 1)) Q:=by
 intro l;induction l with
 |nil=>
  intro k _ h;rw[uz,eJ];exact h
 |cons p l ih=>
  intro k hk h;rw[bh] at hk;rw[chgs,chg] at h;push_cast [cf,lr];refine⟨⟨rfl,rfl⟩,?_⟩;by_cases e:p.1=p.2
  ·rw[VH e,mr] at h;rw[Vn (by simp[e])];exact ih k ⋯ h
  ·rw[Vn e] at h;rw[VH (by simp[e]),<- List.replicate_succ'];exact⟨⋯,ih (k+1) ⋯ (by rw[show k+1+chgs l=k+(1+chgs l) by ac_rfl];exact h)⟩
noncomputable abbrev Nv(t:T3):Dv:=.tup [.int t.1,.int t.2.1,.int t.2.2]
variable {x3 x4 x5:Sl}{E:En}
theorem SA{y0 y1:Sl}{t:T4}(h:tl E [y0,y1,.v (d4 t),.v (.lst ([(t.1,t.2.1,t.2.2.1),(t.1,t.2.1,t.2.2.2),(t.1,t.2.2.1,t.2.2.2),t.2].map Nv)),x4,x5]):
  aN (b6 3 (g7 (a7 (bQ (a7 (aP bX (a8 2) (eC (.int 0))) (a7 (aP bX (a8 2) (eC (.int 1))) (a7 (aP bX (a8 2) (eC (.int 2))) aG)))) (a7 (bQ (a7 (aP bX (a8 2) (eC (.int 0))) (a7 (aP bX (a8 2) (eC (.int 1))) (a7 (aP bX (a8 2) (eC (.int 3))) aG)))) (a7 (bQ (a7 (aP bX (a8 2) (eC (.int 0))) (a7 (aP bX (a8 2) (eC (.int 2))) (a7 (aP bX (a8 2) (eC (.int 3))) aG)))) (a7 (C2 (a8 2) (gC (eC (.int 1))) iF) aG)))))) tl E
   [y0,y1,.v (d4 t),x3,x4,x5]:=by
 ac_nf;exact⟨by decide,h⟩
variable {U:List T3}
theorem Ng(hn:(aI rows).length<=12):∀(l:List T3) (acc:List Dv),(∀t∈l,On (aI rows).length t.1 t.2.1 t.2.2)->acc.length+l.length<=100 ->
  Q (.nw (.lst (acc++l.map λt=>.bl (cau (aI rows) U t.1 t.2.1 t.2.2))))->cP [.un,.v (b5 C rows),.v (.dit (zO U))] (gN 0) lX (aS (xL C) (a7 (a8 1) (a7 (a8 2) (a7 (a8 0) aG)))) (l.map Nv) acc Q:=by
 intro l;induction l with
 |nil=>
  intro acc _ _ h;rw[uz,im] at h;rw[uz,eJ];exact h
 |cons t l ih=>
  intro acc hi hk h;rw[bh] at hk;push_cast [cf];refine⟨rows,U,_,_,_,rfl,hn,hi t cj,?_⟩;refine⟨.inl rfl,⟨rfl,⋯⟩,ih _ (λu hu=>hi u (bg _ hu)) ?_ ?_⟩
  ·rw[bq,bh,zh];ac_rfl
  ·rw[dh];exact h
variable {x2:Sl}
theorem S9{l:List T3}(hn:(aI rows).length<=12)(hi:∀t∈l,On (aI rows).length t.1 t.2.1 t.2.2)(hl:l.length<=100)
  (h:tl E [.v (b5 C rows),.v (.dit (zO U)),x2,.v (.lst (l.map Nv)),.v (.lst (l.map λt=>.bl (cau (aI rows) U t.1 t.2.1 t.2.2))),x5]):
  aN (b6 4 (fN 1 [0,1] (iR (a8 3)) (gN 0) lX (aS (xL C) (a7 (a8 1) (a7 (a8 2) (a7 (a8 0) aG)))))) tl E
   [.v (b5 C rows),.v (.dit (zO U)),x2,.v (.lst (l.map Nv)),x4,x5]:=by
 ac_nf;exact Ng hn l [] hi (by rw[zh,mr];exact hl) h
theorem S8{x0 x1:Sl}{u1 u2 u3 u4:Bool}(h:tl E [x0,x1,x2,x3,.v (.lst [.bl u1,.bl u2,.bl u3,.bl u4]),.v (.lst (ao (chgs [(u1,u2),(u2,u3),(u3,u4)]) (.int 1)))]):
  aN (b6 5 (fN 2 [] (Ai (a7 (a8 4) (a7 (C2 (a8 4) (gC (eC (.int 1))) iF) aG))) (gT [0,1]) (aU (aP zH (a8 0) (a8 1))) (eC (.int 1)))) tl E
   [x0,x1,x2,x3,.v (.lst [.bl u1,.bl u2,.bl u3,.bl u4]),x5]:=by
 ac_nf;refine Gq [(u1,u2),(u2,u3),(u3,u4)] 0 (wy rfl) ?_;rw[mr];exact h
end Lw
namespace Lw
open L2 Z
open Sf (Rw crs qZ Pre Good aI aW place many)
open Fl (kd ids Walk d5 tls pc aL Pt tm oR)
noncomputable def J7(n:Nat)(l:List T4):Prop:=∀t∈l,In4 n t
theorem J7.snoc{n:Nat}{l:List T4}{t:T4}(h:J7 n l)(k:In4 n t):J7 n (l++[t]):=λu hu=>by
 rcases de.mp hu with z | z
 ·exact h u z
 ·rw[dg.mp z];exact k
noncomputable abbrev Sb(l:List T4):List Dv:=l.map d4
noncomputable def zZ:Fn:=λds Q=>∃n:Nat,ds=[.int n]/\n<=12 /\ ∀l:List T4,J7 n l->Q (.nw (.lst (Sb l)))
theorem LY:∀ds Q,zZ ds Q->ds.length=1:=by rintro ds Q ⟨_,rfl,_⟩;rfl
theorem N4:MonoF zZ:=⟨λds Q Q' w z=>by obtain⟨a,b,c,h⟩:=z;exact⟨a,b,c,λl z=>w _ (h l z)⟩⟩
end Lw
namespace Lw
open L2 Z
open Sf (Rw crs qZ Pre Good aI aW place many)
open Fl (kd ids Walk d5 tls pc aL Pt tm oR)
structure UpsOk(ks:List Int)(U:List T3):Prop where
 known:∀t∈U,t∈aO ks
 four:∀t,In4 ks.length t->alike ks t=ak->barred ks U t=ak
noncomputable def CM(C:ae):Fn:=λds Q=>∃(rows:List Rw) (U:List T3),ds=[b5 C rows,.dit (zO U)]/\(aI rows).length<=12/\UpsOk (aI rows) U/\Q (.v .non)
theorem N8:∀ds Q,CM C ds Q->ds.length=2:=by rintro ds Q ⟨_,_,rfl,_⟩;rfl
theorem OU:MonoF (CM C):=⟨λds Q Q' w z=>by obtain⟨a,b,c,d,e,h⟩:=z;exact⟨a,b,c,d,e,w _ h⟩⟩
end Lw
namespace Lw
open L2 Z
open Sf (Rw crs qZ Pre Good aI aW place many)
open Fl (kd ids Walk d5 tls pc aL Pt tm oR)
noncomputable def C8(ks:List Int)(U:List T3)(x y:Int):List Int:=(ids ks.length).filter λz=>yE ks U z x y
noncomputable def zS(ks:List Int)(U:List T3):List Ti:=(jG ks).map λp=>(p.1,p.2,C8 ks U p.1 p.2)
noncomputable def JC(C:ae):Fn:=λds Q=>∃(rows:List Rw) (U:List T3),ds=[b5 C rows,.lst (cM U)]/\(aI rows).length<=12/\U.Nodup/\U.length<=2000/\UpsOk (aI rows) U/\Q (.nw (.lst (eO (zS (aI rows) U))))
theorem Qg:∀ds Q,JC C ds Q->ds.length=2:=by rintro ds Q ⟨_,_,rfl,_⟩;rfl
theorem Rn:MonoF (JC C):=⟨λds Q Q' w z=>by obtain⟨a,b,c,d,e,f,g,h⟩:=z;exact⟨a,b,c,d,e,f,g,w _ h⟩⟩
theorem SY{U:List T3}{x y:Int}(hn:(aI rows).length<=12)(hx:0<=x/\x<(aI rows).length)(hy:0<=y/\y<(aI rows).length):∀(i k:Nat) (acc:List Int),k+i=(aI rows).length->acc.length<=k ->
  Q (.nw (.lst (aZ (acc++((U1 k i).map λz:Nat=>(z:Int)).filter λz=>yE (aI rows) U z x y)))) ->
  cP [.un,.v (b5 C rows),.v (.dit (zO U)),.v (.int x),.v (.int y)] (gN 0) (n4 (aS (BU C) (a7 (a8 1) (a7 (a8 2) (a7 (a8 0) (a7 (a8 3) (a7 (a8 4) aG))))))) (a8 0) (bP k i) (aZ acc) Q:=by
 intro i;induction i with
 |zero=>
  intro k acc _ _ h;rw[eG,eJ];simpa using h
 |succ i ih=>
  intro k acc hk ha h;rw[cU];push_cast [ay];refine⟨rows,U,(k:Int),x,y,rfl,hn,⟨⟨⋯,⋯⟩,hx,hy⟩,?_⟩;rw[TF,cf] at h;rw[show ((k:Int)+1)=((k+1:Nat):Int) by ac_rfl];cases e:yE (aI rows) U (k:Int) x y with
  |true=>
   rw[jx (p:=λz=>yE (aI rows) U z x y) e] at h;push_cast [ay];refine⟨⋯,?_⟩;rw[show aZ acc++[Dv.int (k:Int)]=aZ (acc++[(k:Int)]) by simp];exact ih (k+1) _ ⋯ (by simp;ac_rfl) (by rw[dh];exact h)
  |false=>
   rw[jy (p:=λz=>yE (aI rows) U z x y) (by rw[e];decide)] at h;ac_nf;exact ih (k+1) acc ⋯ ⋯ h
theorem La(n:Nat):(U1 0 n).map (λz:Nat=>(z:Int))=ids n:=by rw[<- List.range_eq_range']
end Lw
namespace Lw
open L2 Z
open Sf (Rw crs qZ Pre Good aI aW place many)
open Fl (kd ids Walk d5 tls pc aL Pt tm oR)
theorem Ch(ks:List Int)(a b x:Int):∀(i c:Nat),(c:Int)<=x->x<(c+i:Nat)->kd ks x≠kd ks b->(a,b,x)∈wT ks a b i c
 |0,c,h1,h2,_=>by ac_rfl
 |i+1,c,h1,h2,h3=>by
  rw[wT,de];by_cases e:x=c
  ·subst e;rw[Vn h3];exact .inl (List.mem_singleton_self _)
  ·exact .inr (Ch ks a b x i (c+1) ⋯ ⋯ h3)
variable {a:Int}
theorem Bp{c:Int}(h0:0<=a)(ab:a<b)(bc:b<c)(cn:c<ks.length)(k1:kd ks a≠kd ks b)(k2:kd ks b≠kd ks c):(a,b,c)∈aO ks:=by
 refine U2.mpr ⟨(a,b),kM.mpr ⟨h0,ab,by show b<_;ac_rfl,k1⟩,?_⟩;exact Ch ks a b c _ _ (by show ((b.toNat+1:Nat):Int)<=c;ac_rfl) (by show c<((b.toNat+1+(ks.length-(b.toNat+1)):Nat):Int);ac_rfl) λz=>k2 z.symm
variable {e:List Int}
theorem Jf(w:Walk ks (ids ks.length) row e)(d:d5 ks e)(m:jO ks)(f:iV ks row fl){c:Int}(h0:0<=a)(ab:a<b)(bc:b<c)(cn:c<ks.length)(k:kd ks a≠kd ks c):
  b∈bN fl a c ↔ oR (tm ks row) a b c:=by
 have mm:=m a c h0 ⋯ cn;have hl:=w.tm_lt d h0 (show a<c by ac_rfl) cn ⋯;obtain⟨pre,hp,_,hm⟩:=w.under h0 (show a<c by ac_rfl) cn hl;have hb:=iV.below w f hp;rw[show bN fl a c=Fl.srt pre from hb,(Fl.dI pre).mem_iff,hm b];unfold oR;constructor
 ·rintro⟨_,_,_,_,q | q⟩
  ·ac_rfl
  ·exact q.2
 ·intro z;exact⟨⋯,⋯,⋯,⋯,.inr ⟨ab,z⟩⟩
structure UpsOf(ks:List Int)(fl:List Ti)(U:List T3):Prop where
 mem:∀t,t∈U ↔ t∈aO ks/\t.2.1∈bN fl t.1 t.2.2
variable {U:List T3}
theorem pP(w:Walk ks (ids ks.length) row e)(d:d5 ks e)(m:jO ks)(f:iV ks row fl)(u:UpsOf ks fl U){c:Int}(h0:0<=a)(ab:a<b)(bc:b<c)(cn:c<ks.length)(k:kd ks a≠kd ks c):
  cau ks U a b c=decide (oR (tm ks row) a b c):=by
 refine(w.tms d m).counts h0 ab bc cn k λk1 k2=>?_;rw[u.mem (a,b,c)];have:=Jf w d m f h0 ab bc cn k;constructor
 ·exact λz=>this.mp z.2
 ·exact λz=>⟨Bp h0 ab bc cn k1 k2,this.mpr z⟩
theorem Je(w:Walk ks (ids ks.length) row e)(d:d5 ks e)(m:jO ks)(f:iV ks row fl)(u:UpsOf ks fl U):UpsOk ks U:=by
 refine⟨λt ht=>((u.mem t).mp ht).1,λt i4 ha=>?_⟩;obtain⟨h0,ij,jk,kl,hi⟩:=i4;unfold alike at ha;rw[sr,decide_eq_false_iff_not,decide_eq_false_iff_not] at ha;obtain⟨k1,k2⟩:=ha;have m1:=m t.1 t.2.1 h0 ⋯ ⋯;have m2:=m t.2.1 t.2.2.1 ⋯ ⋯ ⋯;have m3:=m t.2.2.1 t.2.2.2 ⋯ ⋯ ⋯;have fo:=(w.tms d m).four h0 ij jk kl hi k1 k2;unfold barred;rw[pP w d m f u h0 ij jk ⋯ k1,pP w d m f u h0 ij ⋯ hi ⋯,pP w d m f u h0 ⋯ kl hi ⋯,pP w d m f u ⋯ jk kl hi k2];have ce:∀(p q:Prop) [Decidable p] [Decidable q],chg (decide p) (decide q)=if (p ↔ q) then 0 else 1:=λp q _ _=>by
  unfold chg;by_cases z:p ↔ q
  ·rw[VH z,VH (decide_eq_decide.mpr z)]
  ·rw[Vn z,Vn λy=>z (decide_eq_decide.mp y)]
 rw[ce,ce,ce];rcases fo with⟨a,b⟩ | ⟨a,b⟩ | ⟨a,b⟩
 all_goals
  rw[VH a,VH b];split<;>rfl
end Lw
namespace Lw
open L2 Z
open Sf (Rw crs qZ Pre Good aI aW place many)
open Fl (kd ids Walk d5 tls pc aL Pt tm oR)
variable {e:List Int}{U:List T3}{x y z:Int}
theorem Ah(w:Walk ks (ids ks.length) row e)(d:d5 ks e)(m:jO ks)(f:iV ks row fl)(u:UpsOf ks fl U)(h0:0<=x)(xy:x<y)(yn:y<ks.length)(k:kd ks x≠kd ks y)(z0:0<=z)(zn:z<ks.length):
  yE ks U z x y=ai ↔ z≠x/\z≠y/\((z<x/\tm ks row x y<tm ks row z x) \/ (x<z/\tm ks row x z<tm ks row x y)):=by
 rw[<- (w.tms d m).isb h0 xy yn k z0 zn];have m1:=m x y h0 ⋯ yn;unfold yE;by_cases e:z<x
 ·have m2:=m z x z0 ⋯ ⋯;rw[VH e,VH e,pP w d m f u z0 e xy yn ⋯];simp
 ·rw[Vn e,Vn e];by_cases e2:y<z
  ·have m2:=m y z ⋯ ⋯ zn;rw[VH e2,VH e2,pP w d m f u h0 xy e2 zn ⋯];simp
  ·rw[Vn e2,Vn e2];by_cases e3:x<z
   ·by_cases e4:z<y
    ·rw[pP w d m f u h0 e3 e4 yn k];simp[e3,e4]
    ·simp[e3,e4]
   ·simp[e3]
theorem L7(n:Nat):(ids n).Pairwise (· < ·):=by
 rw[io];exact List.pairwise_lt_range.imp λh=>Tg.mpr h
theorem Ii:z∈ids n ↔ 0<=z/\z<n:=by
 rw[fv];constructor
 ·rintro⟨k,hk,rfl⟩;have:=xq.mp hk;ac_rfl
 ·intro h;exact⟨z.toNat,xq.mpr ⋯,⋯⟩
theorem Gp(w:Walk ks (ids ks.length) row e)(d:d5 ks e)(m:jO ks)(f:iV ks row fl)(u:UpsOf ks fl U)(h0:0<=x)(xy:x<y)(yn:y<ks.length)(k:kd ks x≠kd ks y):
  C8 ks U x y=bN fl x y:=by
 have m1:=m x y h0 ⋯ yn;have hl:=w.tm_lt d h0 xy yn ⋯;obtain⟨pre,hp,nd,hm⟩:=w.under h0 xy yn hl;have hb:=iV.below w f hp;rw[show bN fl x y=Fl.srt pre from hb];have up:=(L7 ks.length).sublist (List.filter_sublist (p:=λz=>yE ks U z x y));refine Fl.cH ((fx (up.imp λh=>To h) nd).mpr λz=>?_) (up.imp λh=>V9 h);show z∈(ids ks.length).filter _ ↔ _;rw[dw,Ii,hm z];constructor
 ·rintro⟨hz,q⟩;exact⟨hz.1,hz.2,(Ah w d m f u h0 xy yn k hz.1 hz.2).mp q⟩
 ·rintro⟨z0,zn,q⟩;exact⟨⟨z0,zn⟩,(Ah w d m f u h0 xy yn k z0 zn).mpr q⟩
noncomputable def JR(p q:Int×Int):Prop:=p.1<q.1 \/ (p.1=q.1/\p.2<q.2)
theorem Ck(ks:List Int)(a:Int):∀i b,(yH ks a i b).Pairwise JR /\ ∀t∈yH ks a i b,t.1=a/\(b:Int)<=t.2
 |0,b=>⟨List.Pairwise.nil,λt ht=>by cases ht⟩
 |i+1,b=>by
  obtain⟨h1,h2⟩:=Ck ks a i (b+1);rw[yH];by_cases e:kd ks a=kd ks b
  ·rw[VH e,kz];exact⟨h1,λt ht=>⟨(h2 t ht).1,by have:=(h2 t ht).2;ac_rfl⟩⟩
  ·rw[Vn e,wz];refine⟨ee.mpr ⟨λt ht=>?_,h1⟩,λt ht=>?_⟩
   ·have:=h2 t ht;exact .inr ⟨this.1.symm,by show (b:Int)<t.2;ac_rfl⟩
   ·rcases br.mp ht with rfl | ht
    ·exact⟨rfl,vc _⟩
    ·have:=h2 t ht;exact⟨this.1,⋯⟩
theorem AU(ks:List Int):∀i a,(mV ks i a).Pairwise JR /\ ∀t∈mV ks i a,(a:Int)<=t.1
 |0,a=>⟨List.Pairwise.nil,λt ht=>by cases ht⟩
 |i+1,a=>by
  obtain⟨h1,h2⟩:=AU ks i (a+1);obtain⟨g1,g2⟩:=Ck ks a (ks.length-(a+1)) (a+1);rw[mV];refine⟨mv.mpr ⟨g1,h1,λt ht u hu=>.inl ?_⟩,λt ht=>?_⟩
  ·have q1:=(g2 t ht).1;have q2:=h2 u hu;ac_rfl
  ·rcases de.mp ht with ht | ht
   ·exact Int.le_of_eq (g2 t ht).1.symm
   ·have:=h2 t ht;ac_rfl
theorem uH{p q:Int×Int}(h:JR p q)(k:JR q p):False:=by
 unfold JR at h k;ac_rfl
theorem wJ:∀{l m:List (Int×Int)},l.Pairwise JR->m.Pairwise JR->(∀t,t∈l ↔ t∈m)->l=m
 | [],[],_,_,_=>rfl
 | [],t::m,_,_,h=>by cases (h t).mpr (cj ..)
 |t::l,[],_,_,h=>by cases (h t).mp (cj ..)
 |t::l,u::m,hl,hm,h=>by
  obtain⟨l1,l2⟩:=ee.mp hl;obtain⟨m1,m2⟩:=ee.mp hm;have e:t=u:=by
   rcases br.mp ((h t).mp (cj ..)) with z | z
   ·exact z
   ·rcases br.mp ((h u).mpr (cj ..)) with y | y
    ·exact y.symm
    ·exact(uH (m1 t z) (l1 u y)).elim
  subst e;rw[wJ l2 m2 λv=>?_];constructor
  ·intro hv;rcases br.mp ((h v).mp (bg _ hv)) with rfl | z
   ·exact(uH (l1 v hv) (l1 v hv)).elim
   ·exact z
  ·intro hv;rcases br.mp ((h v).mpr (bg _ hv)) with rfl | z
   ·exact(uH (m1 v hv) (m1 v hv)).elim
   ·exact z
theorem CH(w:Walk ks (ids ks.length) row e)(d:d5 ks e)(m:jO ks)(f:iV ks row fl)(s:fl.Pairwise λt u=>JR (t.1,t.2.1) (u.1,u.2.1))(u:UpsOf ks fl U):zS ks U=fl:=by
 have cov:=iV.cov w d m f;have key:=iV.keys w f;have rng:∀t∈fl,0<=t.1/\t.1<t.2.1/\t.2.1<ks.length/\kd ks t.1≠kd ks t.2.1:=λt ht=>by
  obtain⟨ts,pm,al⟩:=f;obtain⟨i,hi⟩:=ls.mp (pm.subset ht);have li:=(av.mp hi).1;have lu:i<(tls (ids ks.length) row).length:=by rw[<- al.1];exact li
  obtain⟨e1,e2,_⟩:=al.2 i t _ hi (au lu);obtain⟨⟨a,b,ab,bn,ea,eb⟩,hk,_⟩:=w.key (Pt.ids _) (gm lu);have bn':b<ks.length:=by simpa using bn
  rw[Fl.j9 ⋯] at ea;rw[Fl.j9 bn'] at eb;rw[e1,e2];exact⟨⋯,⋯,⋯,⋯⟩
 have pe:jG ks=fl.map λt=>(t.1,t.2.1):=by
  refine wJ (AU ks _ _).1 (io.mpr s) λp=>?_;rw[kM,fv];constructor
  ·rintro⟨a,b,c,k⟩;obtain⟨t,ht,e1,e2⟩:=cov p.1 p.2 a b c k;exact⟨t,ht,Prod.ext e1 e2⟩
  ·rintro⟨t,ht,rfl⟩;exact rng t ht
 unfold zS;rw[pe,og];refine(nv λt ht=>?_).trans (map_id fl);obtain⟨a,b,c,k⟩:=rng t ht;show (t.1,t.2.1,C8 ks U t.1 t.2.1)=t;rw[Gp w d m f u a b c k];obtain⟨v,_,hv,e1,e2,e3⟩:=n0 ⟨t,ht,rfl,rfl⟩;rw[e3];have vt:v=t:=by
  obtain⟨i,hi,ei⟩:=dm.mp hv;obtain⟨j,hj,ej⟩:=dm.mp ht;have pw:=cw.mp s;rcases sh i j with q | q | q
  ·have:=pw i j hi hj q;rw[ei,ej,e1,e2] at this;exact(uH this this).elim
  ·subst q;rw[<- ei,<- ej]
  ·have:=pw j i hj hi q;rw[ei,ej,e1,e2] at this;exact(uH this this).elim
 rw[vt]
end Lw
namespace Lw
open L2 Z
open Sf (Rw crs qZ Pre Good aI aW place many)
open Fl (kd ids Walk d5 tls pc aL Pt Bf srt cH zG tS fT tm UpT)
noncomputable abbrev c5(ks:List Int)(fl:List Ti):List (Int×Int×Int):=(aO ks).filter (upB fl)
variable {a:Int}
theorem EU{e:List Int}(w:Walk ks (ids ks.length) row e)(d:d5 ks e)(m:jO ks)(FO:iV ks row fl){c:Int}(t3:(a,b,c)∈aO ks):upB fl (a,b,c)=ai ↔ UpT ks row a b c:=by
 obtain⟨m1,m2,m3,m4,m5,m6⟩:=hC t3;simp only at m1 m2 m3 m4 m5 m6;have k1:=m a b m1 ⋯ ⋯;have k2:=m b c ⋯ ⋯ m4;have i1:=w.tm_lt d m1 m2 ⋯ ⋯;have i2:=w.tm_lt d m1 (show a<c by ac_rfl) m4 ⋯;have i3:=w.tm_lt d (show 0<=b by ac_rfl) m3 m4 ⋯;obtain⟨p1,g1,e1,_⟩:=w4 w FO i1;obtain⟨p2,g2,e2,_⟩:=w4 w FO i2;obtain⟨p3,g3,e3,_⟩:=w4 w FO i3;have tr:=w.tri d m m1 m2 m3 m4 ⋯;have th:=w.three d m1 m2 m3 m4 ⋯ ⋯ g1 ⟨rfl,rfl⟩ g3 ⟨rfl,rfl⟩ g2 ⟨rfl,rfl⟩;show decide (b∈bN fl a c)=ai ↔ _;rw[decide_eq_true_eq,e2,gO];rw[show (b∈p2 ↔ tm ks row a b<tm ks row b c) from th];exact⟨λh=>⟨m1,m2,m3,m4,⋯,⋯,i3⟩,λu=>by have:=u.t1;have:=u.t2;ac_rfl⟩
theorem IsF.down(F:IsF ks fl)(h:c5 ks fl≠[]):∃t∈aO ks,jP fl t/\upB fl t=ai:=by
 have m:=F.mo;obtain⟨row,e,w,d,rl,p⟩:=F.row;have FO:=gP p;obtain⟨t,ht⟩:=List.exists_mem_of_ne_nil _ h;obtain⟨t1,t2⟩:=dw.mp ht;obtain⟨a,b,c⟩:=t;have U:=(EU w d m FO t1).mp t2;obtain⟨a,b,c,U,E⟩:=Fl.upmin w d m _ a b c U (Nat.le_add_left _ _);obtain⟨s1,s2,s3,g1,g2,g3,hx⟩:=E.hex w d m U.ab U.bc;have k:∀{x y:Int},tm ks row x y<row.length->kd ks x≠kd ks y:=λ{x y} q z=>by
  have:=w.tm_alike (x:=x) (y:=y) ⋯;ac_rfl
 have u1:=U.t1;have u2:=U.t2;have u3:=U.t3;have t3:(a,b,c)∈aO ks:=w5 U.a0 U.ab U.bc U.cn (k ⋯) (k u3);refine⟨(a,b,c),t3,?_,(EU w d m FO t3).mpr U⟩;show zG (bN fl a b) (bN fl a c) (bN fl b c) a b c;have f1:bN fl a b=srt s1:=FO.below w g1;have f2:bN fl a c=srt s2:=FO.below w g2;have f3:bN fl b c=srt s3:=FO.below w g3;rw[f1,f2,f3];exact hx
theorem Cw{α:Type}{p q:α->Bool}{t:α}:∀{l:List α},l.Nodup->t∈l->p t=ai->q t=ak->(∀x∈l,x≠t->q x=p x)->(l.filter p).length=(l.filter q).length+1
 |x::l,nd,h,a,b,e=>by
  obtain⟨n1,n2⟩:=ph.mp nd;by_cases z:x=t
  ·subst z;rw[gn,VH a,gn,Vn (by rw[b];decide),bh];rw[Tn λy hy=>(e y (bg _ hy) λw=>n1 (w ▸ hy)).symm]
  ·have ih:=Cw n2 ((br.mp h).resolve_left λw=>z w.symm) a b λy hy=>e y (bg _ hy);have ex:=e x (cj ..) z;cases hp:p x
   ·rw[gn,Vn (by rw[hp];decide),gn,Vn (by rw[ex,hp];decide)];exact ih
   ·rw[gn,VH hp,gn,VH (by rw[ex,hp]),bh,bh,ih]
theorem IsF.less(F:IsF ks fl){c:Int}(t3:(a,b,c)∈aO ks)(hx:jP fl (a,b,c))(u:upB fl (a,b,c)=ai):(c5 ks fl).length=(c5 ks (i9 fl (a,b,c))).length+1:=
 Cw (xH ks) t3 u (by rw[EV F t3 hx,u];rfl) λx hx' e=>BL F t3 hx hx' e
theorem Kl{ks:List Int}:∀(m:Nat) (fl:List Ti),IsF ks fl->(c5 ks fl).length<=m -> ∃fl0,IsF ks fl0/\c5 ks fl0=[]
 |0,fl,F,h=>⟨fl,F,List.eq_nil_of_length_eq_zero ⋯⟩
 |m+1,fl,F,h=>by
  by_cases z:c5 ks fl=[]
  ·exact⟨fl,F,z⟩
  ·obtain⟨⟨a,b,c⟩,t3,hx,u⟩:=F.down z;have:=F.less t3 hx u;exact Kl m _ (F.flip t3 hx).1 ⋯
theorem vZ(h:c5 ks fl=[]):UpsOf ks fl []:=by
 refine⟨λt=>⟨λz=>(fc z).elim,λz=>?_⟩⟩;rw[<- h];exact dw.mpr ⟨z.1,decide_eq_true z.2⟩
theorem Fw(F:IsF ks fl)(h:c5 ks fl=[]):zS ks []=fl/\UpsOk ks []:=by
 obtain⟨row,e,w,d,rl,p⟩:=F.row;have FO:=gP p;refine⟨CH w d F.mo FO (F.up.imp λ{t u} z=>?_) (vZ h),Je w d F.mo FO (vZ h)⟩;unfold vK at z;simp only[lexB] at z;split at z
 ·rename_i e1;split at z
  ·cases z
  ·exact .inr ⟨e1,of_decide_eq_true z⟩
 ·exact .inl (of_decide_eq_true z)
theorem LC:∀(m:Nat) (VJ:List Int),Pt ks.length VJ->pc (VJ.map (kd ks))<=m -> ∃row e,Walk ks VJ row e/\d5 ks e:=by
 intro m;induction m with
 |zero=>
  intro VJ P h;refine⟨[],VJ,.nil _,λp hp=>VC.mp λq=>?_⟩;have w:Walk ks VJ [(p:Int)] (aL VJ p):=.cons hp q (.nil _);have:=w.count P.len;rw[ed] at this;ac_rfl
 |succ m ih=>
  intro VJ P h;by_cases d:d5 ks VJ
  ·exact⟨[],VJ,.nil _,d⟩
  ·obtain⟨p,hp,q⟩:∃p,p+1<ks.length/\kd ks (VJ.getD p 0)<kd ks (VJ.getD (p+1) 0):=by
    apply eh;intro z;exact d λp hp=>VC.mp λq=>z ⟨p,hp,q⟩
   have w:Walk ks VJ [(p:Int)] (aL VJ p):=.cons hp q (.nil _);have ct:=w.count P.len;rw[ed] at ct;obtain⟨row,e,w2,d2⟩:=ih (aL VJ p) (P.swap hp) ⋯;exact⟨_,e,.cons hp q w2,d2⟩
noncomputable def Ib(t u:Ti):Bool:=!lexB [u.1,u.2.1] [t.1,t.2.1]
theorem Ku(a b c:Ti)(h1:Ib a b=ai)(h2:Ib b c=ai):Ib a c=ai:=by
 unfold Ib at *;rw[vd] at *;rw[Bool.eq_false_iff];intro z;by_cases e:[a.1,a.2.1]=[b.1,b.2.1]
 ·rw[e,h2] at z;cases z
 ·rcases mZ _ _ e with q | q
  ·rw[nY _ _ _ z q] at h2;cases h2
  ·rw[q] at h1;cases h1
theorem Ia(a b:Ti):(Ib a b || Ib b a)=ai:=by
 unfold Ib;cases h:lexB [b.1,b.2.1] [a.1,a.2.1]
 ·rfl
 ·cases h2:lexB [a.1,a.2.1] [b.1,b.2.1]
  ·rfl
  ·have:=nY _ _ _ h h2;rw[iQ] at this;cases this
theorem NR(C:Cnt cs):∃fl,IsF (aH 0 cs) fl:=by
 obtain⟨n2,n12⟩:=yY C;obtain⟨row,e,w,d⟩:=LC (ks:=aH 0 cs) _ (ids (aH 0 cs).length) (Pt.ids _) (bo _);have ct:=w.count (by simp);rw[Fl.GO] at ct;have p60:=Gi C;have pm:=ye (fT (ids (aH 0 cs).length) row) Ib;have ky:=(gP (ks:=aH 0 cs) (row:=row) pm).keys w;have pw:=vp Ku Ia (fT (ids (aH 0 cs).length) row);refine⟨_,n2,n12,uZ cs,(pw.and ky).imp λ{t u} z=>?_,row,e,w,d,⋯,pm⟩;unfold vK;have h1:=z.1;unfold Ib at h1;rw[vd] at h1;rcases mZ [t.1,t.2.1] [u.1,u.2.1] (λq=>z.2 (by simp only[ji,and_true] at q;exact q)) with q | q
 ·exact q
 ·rw[q] at h1;cases h1
end Lw
namespace Lw
open L2 Z
open Sf (Rw crs qZ Pre Good aI aW place many)
open Fl (kd ids Walk d5 tls pc aL Pt Bf srt cH zG tS fT tm)
theorem IsF.cov{ks:List Int}{fl:List Ti}(F:IsF ks fl):Ra ks fl:=by
 obtain⟨row,e,w,d,rl,p⟩:=F.row;exact(gP p).cov w d F.mo
theorem flp{a c:Int}(F:IsF (aI rows) fl)(t3:(a,b,c)∈aO (aI rows))(hx:jP fl (a,b,c))(q:Q (.nw (.lst (eO (i9 fl (a,b,c)))))):lF C [b5 C rows,.lst (eO fl),.tup [.int a,.int b,.int c]] Q:=
 ⟨rows,fl,a,b,c,rfl,F.fl5,(F.flip t3 hx).2.ab,(F.flip t3 hx).2.bc,t3,hx,q⟩
theorem fpp(F:IsF (aI rows) fl)(q:Q (.nw (.lst (cM ((aO (aI rows)).filter λt=>decide (jP fl t)))))):tP C [b5 C rows,.lst (eO fl)] Q:=
 ⟨rows,fl,rfl,F.n12,by have:=F.len;ac_rfl,F.key,F.fl5.has,q⟩
noncomputable def oX:Fn:=λds Q=>∃(ks:List Int) (fl:List Ti),ds=[.lst (aZ ks),.lst (eO fl)]/\IsF ks fl/\Q (.nw (.lst (cM (c5 ks fl))))
theorem IS:∀ds Q,oX ds Q->ds.length=2:=by rintro ds Q ⟨_,_,rfl,_⟩;rfl
theorem Fi:MonoF oX:=⟨λds Q Q' w z=>by obtain⟨a,b,c,d,e⟩:=z;exact⟨a,b,c,d,w _ e⟩⟩
theorem FS:∀ds Q,oX ds Q->tN e7 oY ↥Q (aM ["_law_bands_here", "_law_tiles", "_law_belows_here"] ds):=by
 rintro ds Q ⟨ks,fl,rfl,F,q⟩;have tl:=jR F.n12;have fl6:=F.len;have n2:=F.n2;ac_nf;refine⟨fl,rfl,⋯,F.key,?_⟩;ac_nf;refine⟨ks,rfl,⋯,F.n12,F.mo,?_⟩;ac_nf;exact Li F.cov F.mo (aO ks) [] (λt ht=>ht) (by simp;ac_rfl) q
noncomputable def qC(C:ae):Fn:=λds Q=>∃(rows:List Rw) (fl:List Ti),ds=[b5 C rows,.lst (eO fl)]/\IsF (aI rows) fl/\Q (.nw (.lst (cM (c5 (aI rows) fl))))
theorem Km:∀ds Q,qC C ds Q->ds.length=2:=by rintro ds Q ⟨_,_,rfl,_⟩;rfl
theorem uB:MonoF (qC C):=⟨λds Q Q' w z=>by obtain⟨a,b,c,d,e⟩:=z;exact⟨a,b,c,d,w _ e⟩⟩
theorem Pv:∀ds Q,qC C ds Q->Jj e7 (jD C) ↥Q (aM ["sides", "floor", "below"] ds):=by
 rintro ds Q ⟨rows,fl,rfl,F,q⟩;have tl:=jR F.n12;have fl6:=F.len;ac_nf;refine⟨fl,rfl,⋯,F.key,?_⟩;ac_nf;refine⟨rows,rfl,F.n12,?_⟩;ac_nf;exact Li F.cov F.mo (aO (aI rows)) [] (λt ht=>ht) (by simp;ac_rfl) q
noncomputable abbrev BO(t:Th):Dv:=.tup [.int t.1,.int t.2.1,.int t.2.2]
noncomputable abbrev lW(ks:List Int)(fl:List Ti)(t:Th):Prop:=t∈aO ks/\jP fl t/\upB fl t=ai
noncomputable def nN(C:ae):Fn:=λds Q=>∃(rows:List Rw) (fl:List Ti) (S:List Th),ds=[b5 C rows,.lst (eO fl),.lst (cM S)]/\IsF (aI rows) fl/\(∀t,lW (aI rows) fl t->t ∉ S->Q (.v (BO t)))/\((∀t,lW (aI rows) fl t->t∈S)->Q (.v .non))
theorem G7:∀ds Q,nN C ds Q->ds.length=3:=by rintro ds Q ⟨_,_,_,rfl,_⟩;rfl
theorem II:MonoF (nN C):=⟨λds Q Q' w z=>by obtain⟨a,b,c,d,e,f,g⟩:=z;exact⟨a,b,c,d,e,λt h n=>w _ (f t h n),λh=>w _ (g h)⟩⟩
theorem LB{x0 x1:Sl}{U S:List Th}{E:En}:∀(l:List Th) (s:Sl),(∀t∈l,t∈U->t ∉ S->E.rt (.v (BO t)))->((∀t∈l,t∈U->t∈S) -> ∀s,E.nx [x0,x1,.v (.lst (cM S)),.v (.lst (cM U)),s]) ->
  bI (gN 4) (k9 (qC C) (tP C)) [] (cM l) E [x0,x1,.v (.lst (cM S)),.v (.lst (cM U)),s]:=by
 intro l;induction l with
 |nil=>
  intro s _ h;rw[show cM []=[] from rfl,cA];exact⟨λp hp=>by simp at hp,h (λt ht=>by cases ht) _⟩
 |cons t l ih=>
  intro s h1 h2;rw[show cM (t::l)=BO t::cM l from rfl,cK];refine⟨λp hp=>by simp at hp,?_⟩;have nx:=λs=>ih s (λt ht=>h1 t (bg _ ht));generalize bI (gN 4) (k9 (qC C) (tP C)) [] (cM l) E=G at nx ⊢;push_cast [k9,Hy,d8,wS];refine⟨⟨rfl,nV U⟩,?_⟩;by_cases u:t∈U
  ·rw[VH u];refine⟨⟨rfl,nV S⟩,?_⟩;by_cases z:t∈S
   ·rw[decide_eq_true z];exact nx _ λh s=>h2 (λx hx=>by rcases br.mp hx with rfl | hx;exact λ_=>z;exact h x hx) s
   ·rw[decide_eq_false z];exact h1 t (cj ..) u z
  ·rw[Vn u];exact nx _ λh s=>h2 (λx hx=>by rcases br.mp hx with rfl | hx;exact λk=>absurd k u;exact h x hx) s
theorem DV:∀ds Q,nN C ds Q->rC (qC C) (tP C) ↥Q (aM ["sides", "floor", "spared", "ups", "three"] ds):=by
 rintro ds Q ⟨rows,fl,S,rfl,F,q1,q2⟩;ac_nf;refine⟨rows,fl,rfl,F,?_⟩;ac_nf;refine fpp F ?_;ac_nf;have mem:∀t,(t∈(aO (aI rows)).filter λt=>decide (jP fl t)) ↔ t∈aO (aI rows)/\jP fl t:=λt=>by rw[dw,decide_eq_true_eq]
 refine LB _ _ ?_ ?_
 ·exact λt ht hu hn=>q1 t ⟨((mem t).mp ht).1,((mem t).mp ht).2,(dw.mp hu).2⟩ hn
 intro h s;ac_nf;exact q2 λt ht=>h t ((mem t).mpr ⟨ht.1,ht.2.1⟩) (dw.mpr ⟨ht.1,ht.2.2⟩)
end Lw
namespace Fl
variable {a z:Int}
section
variable {L:Nat}{kk:Int->Int}{T:Int->Int->Nat}
theorem Tms.clA(h:Tms n kk T L){x c:Int}(h0:0<=x)(xa:x<a)(ab:a<b)(bc:b<c)(cn:c<n)(k0:kk x=kk a)(k1:kk a<kk b)(k2:kk b<kk c)(u:T x b<T x c):T a b<T a c:=by
 have t1:=h.tri x a b h0 xa ab ⋯ ⋯;have t3:=h.tri x b c h0 ⋯ bc cn ⋯;have t4:=h.tri a b c ⋯ ab bc cn ⋯;have al:=h.al x a ⋯;have l1:=h.lt x b h0 ⋯ ⋯ ⋯;ac_rfl
theorem Tms.clB(h:Tms n kk T L){y c:Int}(h0:0<=a)(ab:a<b)(yb:b<y)(bc:y<c)(cn:c<n)(k0:kk y=kk b)(k1:kk a<kk b)(k2:kk b<kk c)(u:T a y<T a c):T a b<T a c:=by
 have t1:=h.tri a b y h0 ab yb ⋯ ⋯;have t3:=h.tri a y c h0 ⋯ bc cn ⋯;have t4:=h.tri a b c h0 ab ⋯ cn ⋯;have al:=h.al b y ⋯;have l1:=h.lt a y h0 ⋯ ⋯ ⋯;ac_rfl
theorem Tms.clC(h:Tms n kk T L){c:Int}(h0:0<=a)(ab:a<b)(bz:b<z)(zc:z<c)(cn:c<n)(k0:kk z=kk c)(k1:kk a<kk b)(k2:kk b<kk c)(u:T a b<T a z):T a b<T a c:=by
 have t1:=h.tri a b z h0 ab bz ⋯ ⋯;have t3:=h.tri b z c ⋯ bz zc cn ⋯;have t4:=h.tri a b c h0 ab ⋯ cn ⋯;have al:=h.al z c ⋯;have l1:=h.lt b z ⋯ bz ⋯ ⋯;have l2:=h.lt b c ⋯ ⋯ ⋯ ⋯;ac_rfl
theorem Tms.emp3(h:Tms n kk T L)(k3:∀x:Int,0<=x->x<n->0<=kk x/\kk x<3){c:Int}(h0:0<=a)(ab:a<b)(bc:b<c)(cn:c<n)(k1:kk a<kk b)(k2:kk b<kk c)(u:T a b<T a c)
  (ma:∀x,0<=x->x<a->kk x=kk a -> ¬T x b<T x c) (mb:∀y,b<y->y<c->kk y=kk b -> ¬T a y<T a c) (mc:∀z,b<z->z<c->kk z=kk c -> ¬T a b<T a z)  (iz:In n z) (za:z≠a) (zb:z≠b) (zc:z≠c):
  ¬btw (tt T a z) (T a b) (T a c) /\ ¬btw (tt T b z) (T a b) (T b c) /\ ¬btw (tt T c z) (T a c) (T b c):=by
 have z0:=iz.lo;have zn:=iz.hi;have t0:=h.tri a b c h0 ab bc cn ⋯;have q1:=k3 a h0 ⋯;have q3:=k3 c ⋯ cn;have qz:=k3 z z0 zn;have l1:=h.lt a b h0 ab ⋯ k1;have l2:=h.lt a c h0 ⋯ cn ⋯;have l3:=h.lt b c ⋯ bc cn k2;unfold tt btw;rcases qy (kk z) (kk b) with e | e | e
 ·have zb':z<b:=by
   apply eh;intro q;have:=h.mono b z ⋯ ⋯ zn;ac_rfl
  have ea:kk z=kk a:=⋯;have x1:=h.tri z b c z0 zb' bc cn ⋯;rcases fy za with p | p
  ·have nu:=ma z z0 p ea;have x2:=h.tri z a b z0 p ab ⋯ ⋯;have x3:=h.tri z a c z0 p ⋯ cn ⋯;have al:=h.al z a ⋯;have l4:=h.lt z b z0 zb' ⋯ ⋯;have l5:=h.lt z c z0 ⋯ cn ⋯;rw[Vn (show ¬a<z by ac_rfl),Vn (show ¬b<z by ac_rfl),Vn (show ¬c<z by ac_rfl)];ac_rfl
  ·have x2:=h.tri a z b h0 p zb' ⋯ ⋯;have x3:=h.tri a z c h0 p ⋯ cn ⋯;have al:=h.al a z ⋯;rw[VH p,Vn (show ¬b<z by ac_rfl),Vn (show ¬c<z by ac_rfl)];ac_rfl
 ·have az:a<z:=by
   apply eh;intro q;have:=h.mono z a z0 ⋯ ⋯;ac_rfl
  have zc':z<c:=by
   apply eh;intro q;have:=h.mono c z ⋯ ⋯ zn;ac_rfl
  have x1:=h.tri a z c h0 az zc' cn ⋯;rcases fy zb with p | p
  ·have x2:=h.tri a z b h0 az p ⋯ ⋯;have x3:=h.tri z b c z0 p bc cn ⋯;have al:=h.al z b ⋯;rw[VH az,Vn (show ¬b<z by ac_rfl),Vn (show ¬c<z by ac_rfl)];ac_rfl
  ·have nu:=mb z p zc' e;have x2:=h.tri a b z h0 ab p zn ⋯;have x3:=h.tri b z c ⋯ p zc' cn ⋯;have al:=h.al b z ⋯;have l4:=h.lt a z h0 az zn ⋯;have l5:=h.lt z c z0 zc' cn ⋯;rw[VH az,VH p,Vn (show ¬c<z by ac_rfl)];ac_rfl
 ·have bz:b<z:=by
   apply eh;intro q;have:=h.mono z b z0 ⋯ ⋯;ac_rfl
  have ec:kk z=kk c:=⋯;have x1:=h.tri a b z h0 ab bz zn ⋯;rcases fy zc with p | p
  ·have nu:=mc z bz p ec;have x2:=h.tri a z c h0 ⋯ p cn ⋯;have x3:=h.tri b z c ⋯ bz p cn ⋯;have al:=h.al z c ⋯;rw[VH (show a<z by ac_rfl),VH bz,Vn (show ¬c<z by ac_rfl)];ac_rfl
  ·have x2:=h.tri a c z h0 ⋯ p zn ⋯;have x3:=h.tri b c z ⋯ bc p zn ⋯;have al:=h.al c z ⋯;have l4:=h.lt a z h0 ⋯ zn ⋯;have l5:=h.lt b z ⋯ bz zn ⋯;rw[VH (show a<z by ac_rfl),VH bz,VH p];ac_rfl
end
end Fl
namespace Lw
open L2 Z
open Sf (Rw crs qZ Pre Good aI aW place many)
open Fl (kd ids Walk d5 tls pc aL Pt Bf srt cH zG tS fT tm)
inductive Falls(ks:List Int)(fl:List Ti):List Th->List Ti->Prop
 |nil:Falls ks fl [] fl
 |snoc {ts:List Th} {f:List Ti} {t:Th}:Falls ks fl ts f->lW ks f t->Falls ks fl (ts++[t]) (i9 f t)
variable {f:List Ti}{ts:List Th}
theorem Falls.isF(F:IsF ks fl)(h:Falls ks fl ts f):IsF ks f/\ts.length+(c5 ks f).length=(c5 ks fl).length:=by
 induction h with
 |nil=>exact⟨F,by simp⟩
 | @snoc ts f t h a ih=>
  obtain⟨a1,a2,a3⟩:=a;obtain⟨x,y,z⟩:=t;refine⟨(ih.1.flip a1 a2).1,?_⟩;have:=ih.1.less a1 a2 a3;have:=ih.2;rw[bq,ed];ac_rfl
theorem Cc(F:IsF ks f)(h:∀t,lW ks f t->t∈([]:List Th)):c5 ks f=[]:=by
 by_cases z:c5 ks f=[]
 ·exact z
 ·obtain⟨t,a,b,c⟩:=F.down z;cases h t ⟨a,b,c⟩
variable {g:List Ti}
theorem IM(F:IsF ks f)(G:IsF ks g)(u:c5 ks f=[])(v:c5 ks g=[]):f=g:=by
 rw[<- (Fw F u).1,(Fw G v).1]
theorem nL(F:IsF ks f):(c5 ks f).length<=1728:=by
 have:=jR F.n12;have:(c5 ks f).length<=(aO ks).length:=oh (upB f) (aO ks);ac_rfl
theorem Falls.ups(F:IsF ks fl)(h:Falls ks fl ts f):(c5 ks fl).Perm (ts++c5 ks f):=by
 induction h with
 |nil=>exact .refl _
 | @snoc ts f t h a ih=>
  obtain⟨F1,_⟩:=h.isF F;obtain⟨x,y,z⟩:=t;refine ih.trans ?_;rw[dh];refine .append (.refl _) ?_;have nd:=xH ks;refine(fx (nd.filter _) ?_).mpr λu=>?_
  ·refine ph.mpr ⟨λm=>?_,nd.filter _⟩;have:=(dw.mp m).2;rw[EV F1 a.1 a.2.1,a.2.2] at this;cases this
  ·rw[wz,br,dw,dw];constructor
   ·intro m;by_cases e:u=(x,y,z)
    ·exact .inl e
    ·exact .inr ⟨m.1,by rw[BL F1 a.1 a.2.1 m.1 e];exact m.2⟩
   ·rintro(rfl | m)
    ·exact⟨a.1,a.2.2⟩
    ·by_cases e:u=(x,y,z)
     ·subst e;exact⟨a.1,a.2.2⟩
     ·exact⟨m.1,by rw[<- BL F1 a.1 a.2.1 m.1 e];exact m.2⟩
noncomputable abbrev K3(ks:List Int):Prop:=∀x:Int,0<=x->x<ks.length->0<=kd ks x/\kd ks x<3
theorem NO(F:IsF ks f)(G:IsF ks g)(k3:K3 ks):∀(m:Nat) (a b c:Int),(a,b,c)∈c5 ks f->(a,b,c) ∉ c5 ks g->(a+c-b).toNat<=m -> ∃t,lW ks f t/\t ∉ c5 ks g:=by
 have mo:=F.mo;obtain⟨row,e,w,d,rl,p⟩:=F.row;obtain⟨VW,e',w',d',rl',p'⟩:=G.row;have FO:=gP p;have FO':=gP p';have T:=w.tms d mo;have T':=w'.tms d' mo;have lt:∀{a b c:Int},(a,b,c)∈aO ks->0<=a/\a<b/\b<c/\c<ks.length/\kd ks a<kd ks b/\kd ks b<kd ks c:=λ{a b c} h=>by
  obtain⟨m1,m2,m3,m4,m5,m6⟩:=hC h;simp only at m1 m2 m3 m4 m5 m6;have k1:=mo a b m1 ⋯ ⋯;have k2:=mo b c ⋯ ⋯ m4;exact⟨m1,m2,m3,m4,⋯,⋯⟩
 have upI:∀{row e:List Int} {fl:List Ti} {a b c:Int},Walk ks (ids ks.length) row e->d5 ks e->iV ks row fl->(a,b,c)∈aO ks->((a,b,c)∈c5 ks fl ↔ tm ks row a b<tm ks row a c):=λ{row e fl a b c} w d FO h=>by
  obtain⟨m1,m2,m3,m4,m5,m6⟩:=lt h;have tr:=w.tri d mo m1 m2 m3 m4 ⋯;have l3:=w.tm_lt d (show 0<=b by ac_rfl) m3 m4 m6;rw[dw,EU w d mo FO h];exact⟨λz=>z.2.t1,λz=>⟨h,⟨m1,m2,m3,m4,z,⋯,l3⟩⟩⟩
 intro m;induction m with
 |zero=>
  intro a b c h _ hm;obtain⟨m1,m2,m3,m4,m5,m6⟩:=lt (dw.mp h).1;ac_rfl
 |succ m ih=>
  intro a b c h hg hm;have t3:=(dw.mp h).1;obtain⟨m1,m2,m3,m4,m5,m6⟩:=lt t3;have u:=(upI w d FO t3).mp h;have ng:¬tm ks VW a b<tm ks VW a c:=λz=>hg ((upI w' d' FO' t3).mpr z);have go:∀{x y z:Int},0<=x->x<y->y<z->z<ks.length->kd ks x<kd ks y->kd ks y<kd ks z->x+z-y<a+c-b->tm ks row x y<tm ks row x z->(tm ks VW x y<tm ks VW x z->tm ks VW a b<tm ks VW a c) -> ∃t,lW ks f t/\t ∉ c5 ks g:=λ{x y z} h1 h2 h3 h4 h5 h6 h7 h8 h9=>by
   have q3:=w5 h1 h2 h3 h4 (To h5) (To h6);exact ih x y z ((upI w d FO q3).mpr h8) (λq=>ng (h9 ((upI w' d' FO' q3).mp q))) ⋯
  by_cases qa:∃x,0<=x/\x<a/\kd ks x=kd ks a/\tm ks row x b<tm ks row x c
  ·obtain⟨x,x0,xa,xk,xu⟩:=qa;exact go x0 ⋯ m3 m4 ⋯ m6 ⋯ xu λz=>T'.clA x0 xa m2 m3 m4 xk m5 m6 z
  by_cases qb:∃y,b<y/\y<c/\kd ks y=kd ks b/\tm ks row a y<tm ks row a c
  ·obtain⟨y,by',yc,yk,yu⟩:=qb;exact go m1 ⋯ yc m4 ⋯ ⋯ ⋯ yu λz=>T'.clB m1 m2 by' yc m4 yk m5 m6 z
  by_cases qc:∃z,b<z/\z<c/\kd ks z=kd ks c/\tm ks row a b<tm ks row a z
  ·obtain⟨z,bz,zc,zk,zu⟩:=qc;exact go m1 m2 bz ⋯ m5 ⋯ ⋯ zu λq=>T'.clC m1 m2 bz zc m4 zk m5 m6 q
  have tr:=w.tri d mo m1 m2 m3 m4 ⋯;have E:Fl.Emp ks row a b c:=⟨⟨⟨m1,⋯⟩,⟨⋯,⋯⟩,⟨⋯,m4⟩,⋯,⋯,⋯⟩,λz iz za zb zc=>by
   have:=T.emp3 k3 m1 m2 m3 m4 m5 m6 u (λx h1 h2 h3 h4=>qa ⟨x,h1,h2,h3,h4⟩) (λy h1 h2 h3 h4=>qb ⟨y,h1,h2,h3,h4⟩) (λz h1 h2 h3 h4=>qc ⟨z,h1,h2,h3,h4⟩) iz za zb zc;rw[Fl.eQ m2,Fl.eQ (show a<c by ac_rfl),Fl.eR (show b≠a by ac_rfl),Fl.eQ m2,Fl.eQ m3,Fl.eR (show c≠a by ac_rfl),Fl.eQ (show a<c by ac_rfl),Fl.eR (show c≠b by ac_rfl),Fl.eQ m3];exact this⟩
  obtain⟨s1,s2,s3,g1,g2,g3,hx⟩:=E.hex w d mo m2 m3;refine⟨(a,b,c),⟨t3,?_,(dw.mp h).2⟩,hg⟩;show zG (bN f a b) (bN f a c) (bN f b c) a b c;rw[show bN f a b=srt s1 from FO.below w g1,show bN f a c=srt s2 from FO.below w g2,show bN f b c=srt s3 from FO.below w g3];exact hx
theorem zR{U:List T3}(F:IsF ks fl)(h:UpsOf ks fl U):zS ks U=fl:=by
 obtain⟨row,e,w,d,rl,p⟩:=F.row;refine CH w d F.mo (gP p) (F.up.imp λ{t u} z=>?_) h;unfold vK at z;simp only[lexB] at z;split at z
 ·rename_i e1;split at z
  ·cases z
  ·exact .inr ⟨e1,of_decide_eq_true z⟩
 ·exact .inl (of_decide_eq_true z)
theorem HJ(F:IsF ks f)(G:IsF ks g)(h:∀t,t∈c5 ks f ↔ t∈c5 ks g):f=g:=by
 have mk:∀{l:List Ti},UpsOf ks l (c5 ks l):=λ{l}=>⟨λt=>by rw[dw];exact and_congr_right λ_=>decide_eq_true_iff⟩;rw[<- zR F mk,<- zR G (U:=c5 ks f) ⟨λt=>by rw[h t];exact mk.mem t⟩]
noncomputable def g6(C:ae):Fn:=λds Q=>∃(rows:List Rw) (fl gl:List Ti),ds=[b5 C rows,.lst (eO fl),.lst (eO gl)]/\IsF (aI rows) fl/\IsF (aI rows) gl /\ ∀ts bs f,Falls (aI rows) fl ts f->Falls (aI rows) gl bs f->(K3 (aI rows)->(∀t∈ts,t ∉ c5 (aI rows) gl) /\ ∀t∈bs,t ∉ c5 (aI rows) fl)->Q (.nw (.lst (cM (ts++bs.reverse))))
theorem IP:∀ds Q,g6 C ds Q->ds.length=3:=by rintro ds Q ⟨_,_,_,rfl,_⟩;rfl
theorem xY:MonoF (g6 C):=⟨λds Q Q' w z=>by obtain⟨a,b,c,d,e,f,g⟩:=z;exact⟨a,b,c,d,e,f,λx y z h k l=>w _ (g x y z h k l)⟩⟩
theorem Lh{bs:List Th}{a3 a4:ae}{x5:Sl}{E:En}(F:IsF (aI rows) f)(G:IsF (aI rows) g)(ne:f≠g)(lt:ts.length<=2000)(lb:bs.length<=2000)
  (h1:∀t s,lW (aI rows) f t->(K3 (aI rows)->t ∉ c5 (aI rows) g)->E.nx [.v (b5 C rows),.v (.lst (eO (i9 f t))),.v (.lst (eO g)),.own a3 (.lst (cM (ts++[t]))),.own a4 (.lst (cM bs)),s])
  (h2:∀t s,lW (aI rows) g t->t ∉ c5 (aI rows) f->E.ct [.v (b5 C rows),.v (.lst (eO f)),.v (.lst (eO (i9 g t))),.own a3 (.lst (cM ts)),.own a4 (.lst (cM (bs++[t]))),s]):
  tH (qC C) (nN C) (lF C) E [.v (b5 C rows),.v (.lst (eO f)),.v (.lst (eO g)),.own a3 (.lst (cM ts)),.own a4 (.lst (cM bs)),x5]:=by
 push_cast [tH];refine⟨rows,g,rfl,G,?_⟩;ac_nf;refine⟨rows,f,c5 (aI rows) g,rfl,F,λt ft nt=>?_,λall=>?_⟩
 ·ac_nf;obtain⟨x,y,z⟩:=t;refine⟨by simp;ac_rfl,flp F ft.1 ft.2.1 ?_⟩;ac_nf;rw[show cM ts++[BO (x,y,z)]=cM (ts++[(x,y,z)]) by simp];exact h1 _ _ ft λ_=>nt
 ·ac_nf;refine⟨rows,f,rfl,F,?_⟩;ac_nf;refine⟨rows,g,c5 (aI rows) f,rfl,G,λt ft nt=>?_,λall2=>?_⟩
  ·obtain⟨x,y,z⟩:=t;ac_nf;refine⟨by simp;ac_rfl,flp G ft.1 ft.2.1 ?_⟩;ac_nf;rw[show cM bs++[BO (x,y,z)]=cM (bs++[(x,y,z)]) by simp];exact h2 _ _ ft nt
  ·ac_nf;refine⟨rows,f,[],rfl,F,λt ft nt=>?_,λall3=>?_⟩
   ·obtain⟨x,y,z⟩:=t;ac_nf;refine⟨by simp;ac_rfl,flp F ft.1 ft.2.1 ?_⟩;ac_nf;rw[show cM ts++[BO (x,y,z)]=cM (ts++[(x,y,z)]) by simp];refine h1 _ _ ft λk3=>absurd (HJ F G λt=>?_) ne;have one:∀{f g:List Ti},IsF (aI rows) f->IsF (aI rows) g->(∀t,lW (aI rows) f t->t∈c5 (aI rows) g)->t∈c5 (aI rows) f->t∈c5 (aI rows) g:=λ{f g} F G al h=>by
     apply eh;intro n;obtain⟨t',a1,a2⟩:=NO F G k3 _ t.1 t.2.1 t.2.2 h n (bo _);exact a2 (al t' a1)
    exact⟨one F G all,one G F all2⟩
   ·have u:=Cc F all3;rw[u] at all2;exact absurd (IM F G u (Cc G all2)) ne
theorem Md:∀ds Q,g6 C ds Q->Eg (qC C) (nN C) (lF C) ↥Q (aM ["sides", "one", "other", "there", "back", "three"] ds):=by
 rintro ds Q ⟨rows,fl,gl,rfl,F,G,q⟩;ac_nf;intro a3 a4;refine⟨λm ρ=>∃f g ts bs x5,Falls (aI rows) fl ts f/\Falls (aI rows) gl bs g/\(K3 (aI rows)->(∀t∈ts,t ∉ c5 (aI rows) gl) /\ ∀t∈bs,t ∉ c5 (aI rows) fl)/\m=(c5 (aI rows) f).length+(c5 (aI rows) g).length/\ρ=[.v (b5 C rows),.v (.lst (eO f)),.v (.lst (eO g)),.own a3 (.lst (cM ts)),.own a4 (.lst (cM bs)),x5],⟨_,fl,gl,[],[],_,.nil,.nil,λ_=>⟨λ_ h=>(fc h).elim,λ_ h=>(fc h).elim⟩,rfl,rfl⟩,?_⟩;rintro m ρ ⟨f,g,ts,bs,x5,hf,hg,in3,rfl,rfl⟩;obtain⟨F1,l1⟩:=hf.isF F;obtain⟨G1,l2⟩:=hg.isF G;have b1:=nL F;have b2:=nL G;have W:=λ(ne:f≠g) (E:En)=>Lh (C:=C) (a3:=a3) (a4:=a4) (x5:=x5) (E:=E) F1 G1 ne (show ts.length<=2000 by ac_rfl) (show bs.length<=2000 by ac_rfl);generalize tH (qC C) (nN C) (lF C)=B at W ⊢;push_cast [tF,u9,and_self,true_and];by_cases e:f=g
 ·subst e;rw[decide_eq_true rfl];ac_nf;refine⟨by simp;ac_rfl,?_⟩;rw[show cM ts++(cM bs).reverse=cM (ts++bs.reverse) by simp];exact q _ _ _ hf hg in3
 ·rw[decide_eq_false e];refine lZ (W e _ (λt s ft nt=>?_) λt s ft nt=>?_)
  ·obtain⟨x,y,z⟩:=t;have:=F1.less ft.1 ft.2.1 ft.2.2;refine⟨_,⋯,_,_,_,_,_,hf.snoc ft,hg,λk3=>⟨λu hu=>?_,(in3 k3).2⟩,rfl,rfl⟩;rcases de.mp hu with hu | hu
   ·exact(in3 k3).1 u hu
   ·cases dg.mp hu;intro z;rcases de.mp ((hg.ups G).mem_iff.mp z) with z | z
    ·exact(in3 k3).2 _ z ((hf.ups F).mem_iff.mpr (cu _ (dw.mpr ⟨ft.1,ft.2.2⟩)))
    ·exact nt k3 z
  ·obtain⟨x,y,z⟩:=t;have:=G1.less ft.1 ft.2.1 ft.2.2;refine⟨_,⋯,_,_,_,_,_,hf,hg.snoc ft,λk3=>⟨(in3 k3).1,λu hu=>?_⟩,rfl,rfl⟩;rcases de.mp hu with hu | hu
   ·exact(in3 k3).2 u hu
   ·cases dg.mp hu;intro z;rcases de.mp ((hf.ups F).mem_iff.mp z) with z | z
    ·exact(in3 k3).1 _ z ((hg.ups G).mem_iff.mpr (cu _ (dw.mpr ⟨ft.1,ft.2.2⟩)))
    ·exact nt z
end Lw
namespace Lw
open L2 Z
open Sf (Rw crs qZ Pre Good aI aW place many)
open Fl (kd ids Walk d5 tls pc aL Pt Bf srt cH zG tS fT tm)
noncomputable def pt(l:List Ti)(a b:Int)(m:List Int):List Ti:=l.map λx=>if x.1=a/\x.2.1=b then (x.1,x.2.1,m) else x
noncomputable abbrev vW(l:List Ti)(a b:Int):Prop:=∃u∈l,u.1=a/\u.2.1=b
variable {a:Int}{m:List Int}
theorem rL{l:List Ti}{c d:Int}(h:vW l a b):vW (pt l c d m) a b:=by
 obtain⟨u,hu,e1,e2⟩:=h;refine⟨_,fv.mpr ⟨u,hu,rfl⟩,?_⟩;split<;>exact⟨e1,e2⟩
theorem xQ{l:List Ti}:(pt l a b m).length=l.length:=ay ..
theorem nP{l:List Ti}(h:vW l a b):AC (mB l) [dt a,dt b] (.tup (aZ m))=mB (pt l a b m):=by
 obtain⟨u,hu,e1,e2⟩:=h;unfold AC;have e:(mB l).any (λkv=>decide (kv.1=[dt a,dt b]))=ai:=by
  rw[List.any_eq_true];exact⟨_,fv.mpr ⟨u,hu,rfl⟩,by simp[uJ,e1,e2]⟩
 rw[e,VH rfl,og,pt,mB,og];refine nv λx _=>?_;dsimp only[Function.comp];by_cases z:x.1=a/\x.2.1=b
 ·rw[VH (show uJ x=_ by simp[uJ,z]),VH z]
 ·rw[Vn (by simpa [uJ] using z),Vn z]
theorem Re{l:List Ti}{c:Int}(ab:a<b)(bc:b<c)(m1 m2 m3:List Int):pt (pt (pt l a b m1) a c m2) b c m3=l.map (rp [(a,b,m1),(a,c,m2),(b,c,m3)]):=by
 unfold pt;rw[og,og];refine nv λx _=>?_;obtain⟨x,y,z⟩:=x;show (if _ then _ else _)=_;unfold rp NA;by_cases e1:x=a
 ·subst e1;by_cases e2:y=b
  ·subst e2;simp[Vu,show x≠y by ac_rfl,show y≠c by ac_rfl]
  ·by_cases e3:y=c
   ·subst e3;simp[Vu,show x≠b by ac_rfl,e2,show b≠y by ac_rfl]
   ·simp[Vu,e2,e3,show x≠b by ac_rfl,dq e2,dq e3]
 ·by_cases e4:x=b
  ·subst e4;by_cases e3:y=c
   ·subst e3;simp[Vu,e1,dq e1]
   ·simp[Vu,e1,dq e1,e3,dq e3]
  ·simp[Vu,e1,e4,dq e1,dq e4]
theorem rW{l:List Ti}{u:Ti}(h:(l.find? λt=>decide (t.1=a/\t.2.1=b))=aa u):vW l a b:=
 ⟨u,oj h,by simpa using zl h⟩
theorem yD{A B:Prop}{i:Decidable (eqD (.tup (aZ l)) (.tup (aZ m))=ai)}(h1:l=m->A)(h2:l≠m->B):@ite Prop (eqD (.tup (aZ l)) (.tup (aZ m))=ai) i A B:=by
 by_cases e:l=m
 ·rw[VH (by rw[tE];simpa using e)];exact h1 e
 ·rw[Vn (by rw[tE];simpa using e)];exact h2 e
variable {u1 u2 u3:Ti}{E:En}{ad:ae}{x1:Sl}
theorem Qe{c:Int}(f3:(fl.find? λt=>decide (t.1=b/\t.2.1=c))=aa u3)(k1:vW fl a b)(k2:vW fl a c)(k3:vW fl b c)(l1:u1.2.2.length<=30)(ll:fl.length<=1000)
  (h1:u3.2.2=u1.2.2->u2.2.2=srt (u1.2.2++[b])->E.rw ai [.own ad (.dit (mB (pt (pt (pt fl a b (srt (u1.2.2++[c]))) a c u1.2.2) b c (srt (u1.2.2++[a]))))),x1,.v (.int a),.v (.int b),.v (.int c),.v (.tup (aZ u1.2.2)),.v (.tup (aZ u2.2.2))])
  (h2:¬(u3.2.2=u1.2.2/\u2.2.2=srt (u1.2.2++[b]))->tl E [.own ad (.dit (mB fl)),x1,.v (.int a),.v (.int b),.v (.int c),.v (.tup (aZ u1.2.2)),.v (.tup (aZ u2.2.2))]):
  aN (jE (qW (aU (aP qQ (aP bX (a8 0) (bQ (a7 (a8 3) (a7 (a8 4) aG)))) (a8 5))) (aU (aP qQ (a8 6) (aS kJ (a7 (a8 5) (a7 (a8 3) aG)))))) (aN (lH 0 (bQ (a7 (a8 2) (a7 (a8 3) aG))) (aS kJ (a7 (a8 5) (a7 (a8 4) aG))))
 (aN (lH 0 (bQ (a7 (a8 2) (a7 (a8 4) aG))) (a8 5))
 (aN (lH 0 (bQ (a7 (a8 3) (a7 (a8 4) aG))) (aS kJ (a7 (a8 5) (a7 (a8 2) aG))))
 (qG (eC (.bl ai)))))) bK) tl E [.own ad (.dit (mB fl)),x1,.v (.int a),.v (.int b),.v (.int c),.v (.tup (aZ u1.2.2)),.v (.tup (aZ u2.2.2))]:=by
 push_cast [lN,f3,sm,qG];refine⟨⟨jJ _,jJ _⟩,yD (λc1=>?_) λc1=>h2 λz=>c1 z.1⟩;refine⟨_,_,rfl,l1,?_⟩;ac_nf;refine⟨⟨jJ _,jJ _⟩,yD (λc2=>?_) λc2=>h2 λz=>c2 z.2⟩;refine⟨_,_,rfl,l1,?_⟩;ac_nf;refine⟨[dt a,dt b],rfl,by simp;ac_rfl,[dt a,dt c],rfl,?_⟩;rw[nP k1,nP (rL k2)];refine⟨by simp[xQ];ac_rfl,_,_,rfl,l1,?_⟩;ac_nf;refine⟨[dt b,dt c],rfl,by simp[xQ];ac_rfl,?_⟩;rw[nP (rL (rL k3))];exact h1 c1 c2
theorem Qd{c:Int}(f3:(fl.find? λt=>decide (t.1=b/\t.2.1=c))=aa u3)(k1:vW fl a b)(k2:vW fl a c)(k3:vW fl b c)(l2:u2.2.2.length<=30)(ll:fl.length<=1000)
  (c1:u1.2.2=srt (u2.2.2++[c])) (c2:u3.2.2=srt (u2.2.2++[a])) (h1:E.rw ai [.own ad (.dit (mB (pt (pt (pt fl a b u2.2.2) a c (srt (u2.2.2++[b]))) b c u2.2.2))),x1,.v (.int a),.v (.int b),.v (.int c),.v (.tup (aZ u1.2.2)),.v (.tup (aZ u2.2.2))]):
  aN (jE (qW (aU (aP qQ (a8 5) (aS kJ (a7 (a8 6) (a7 (a8 4) aG))))) (aU (aP qQ (aP bX (a8 0) (bQ (a7 (a8 3) (a7 (a8 4) aG)))) (aS kJ (a7 (a8 6) (a7 (a8 2) aG)))))) (aN (lH 0 (bQ (a7 (a8 2) (a7 (a8 3) aG))) (a8 6))
 (aN (lH 0 (bQ (a7 (a8 2) (a7 (a8 4) aG))) (aS kJ (a7 (a8 6) (a7 (a8 3) aG))))
 (aN (lH 0 (bQ (a7 (a8 3) (a7 (a8 4) aG))) (a8 6))
 (qG (eC (.bl ai)))))) bK) (qG (eC (.bl ak))) E [.own ad (.dit (mB fl)),x1,.v (.int a),.v (.int b),.v (.int c),.v (.tup (aZ u1.2.2)),.v (.tup (aZ u2.2.2))]:=by
 push_cast [qG];refine⟨_,_,rfl,l2,?_⟩;ac_nf;refine⟨⟨jJ _,jJ _⟩,yD (λ_=>?_) λn=>absurd c1 n⟩;push_cast [lN,f3,sm];refine⟨_,_,rfl,l2,?_⟩;ac_nf;refine⟨⟨jJ _,jJ _⟩,yD (λ_=>?_) λn=>absurd c2 n⟩;refine⟨[dt a,dt b],rfl,by simp;ac_rfl,?_⟩;rw[nP k1];refine⟨_,_,rfl,l2,?_⟩;ac_nf;refine⟨[dt a,dt c],rfl,by simp[xQ];ac_rfl,[dt b,dt c],rfl,?_⟩;rw[nP (rL k2)];refine⟨by simp[xQ];ac_rfl,?_⟩;rw[nP (rL (rL k3))];exact h1
theorem Qf{c:Int}(f1:(fl.find? λt=>decide (t.1=a/\t.2.1=b))=aa u1)(f2:(fl.find? λt=>decide (t.1=a/\t.2.1=c))=aa u2)
  (h:tl E [.own ad (.dit (mB fl)),.v (BO (a,b,c)),.v (.int a),.v (.int b),.v (.int c),.v (.tup (aZ u1.2.2)),.v (.tup (aZ u2.2.2))]):
  aN (Eu (a8 1) (gT [2,3,4])) (aN (b6 5 (aP bX (a8 0) (bQ (a7 (a8 2) (a7 (a8 3) aG))))) (aN (b6 6 (aP bX (a8 0) (bQ (a7 (a8 2) (a7 (a8 4) aG))))) tl)) E [.own ad (.dit (mB fl)),.v (BO (a,b,c)),.un,.un,.un,.un,.un]:=by
 push_cast [lN,f1,f2,sm];exact h
noncomputable def wD:HG:=λds Q=>∃(ks:List Int) (fl:List Ti) (t:Th),ds=[.dit (mB fl),BO t]/\IsF ks fl/\t∈aO ks/\jP fl t/\Q ai (.dit (mB (i9 fl t)))
theorem Kr:∀ds Q,wD ds Q->ds.length=2:=by rintro ds Q ⟨_,_,_,rfl,_⟩;rfl
theorem N2:MonoW wD:=⟨λds Q Q' w z=>by obtain⟨a,b,c,d,e,f,g,h⟩:=z;exact⟨a,b,c,d,e,f,g,w _ _ h⟩⟩
theorem vG:∀ds Q,wD ds Q -> ∀a,kB kJ { nx:=λ_=>False,rt:=λ_=>False,rw:=λb ρ=>∃d,ρ[0]?=aa (.own a d)/\Q b d } (jF a ["_law_belows_here", "_law_three", "_law_a", "_law_b", "_law_c", "_law_one", "_law_two"] ds):=by
 rintro ds Q ⟨ks,fl,t,rfl,F,t3,hx,q⟩ ad;obtain⟨a,b,c⟩:=t;have T:=(F.flip t3 hx).2;obtain⟨⟨u1,f1,e1,l1⟩,⟨u2,f2,e2,l2⟩,⟨u3,f3,e3,l3⟩⟩:=F.fl5.has _ t3;dsimp only at f1 f2 f3 e1 e2 e3;have k1:=rW f1;have k2:=rW f2;have k3:=rW f3;have ll:=F.len;rw[show jF ad ["_law_belows_here", "_law_three", "_law_a", "_law_b", "_law_c", "_law_one", "_law_two"] [.dit (mB fl),BO (a,b,c)]=[.own ad (.dit (mB fl)),.v (BO (a,b,c)),.un,.un,.un,.un,.un] from rfl];unfold i9 p6 at q;refine Qf f1 f2 (Qe f3 k1 k2 k3 l1 ⋯ (λc1 c2=>?_) λn=>?_)
 ·refine⟨_,rfl,?_⟩;rw[VH (show D1 fl (a,b,c) from⟨by rw[<- e1,<- e3];exact c1,by rw[<- e1,<- e2];exact c2⟩)] at q;rw[Re T.ab T.bc,e1];exact q
 ·have d:LS fl (a,b,c):=by
   rcases hx with h | h
   ·exact absurd ⟨by rw[e1,e3];exact h.1,by rw[e1,e2];exact h.2⟩ n
   ·exact h
  rw[Vn (show ¬D1 fl (a,b,c) from λh=>n ⟨by rw[e1,e3];exact h.1,by rw[e1,e2];exact h.2⟩)] at q;refine Qd f3 k1 k2 k3 l2 ⋯ (by rw[e1,e2];exact d.1) (by rw[e2,e3];exact d.2) ⟨_,rfl,?_⟩;rw[Re T.ab T.bc,e2];exact q
end Lw
namespace Lw
open L2 Z
open Sf (Rw crs qZ Pre Good aI aW place many)
open Fl (kd ids Walk d5 tls pc aL Pt Bf srt cH zG tS fT tm)
theorem Be:∀ds Q,kJ ds Q->oS ↥Q (aM ["_law_below", "_law_band"] ds):=by
 rintro ds Q ⟨l,b,rfl,hl,h⟩;push_cast [ay];refine⟨⋯,?_⟩;rw[JD];refine wL (by simp;ac_rfl) λms hm hs=>?_;obtain rfl:=cH hm hs;ac_nf;exact h
noncomputable def rF:Fn:=λds Q=>∃l:List Th,ds=[.lst (cM l)]/\Q (.v (.bl ai))
theorem IX:∀ds Q,rF ds Q->ds.length=1:=by rintro ds Q ⟨_,rfl,_⟩;rfl
theorem Kj:MonoF rF:=⟨λds Q Q' w z=>by obtain⟨a,b,c⟩:=z;exact⟨a,b,w _ c⟩⟩
variable {x0:Sl}{E:En}
theorem NB(h:∀s,E.nx [x0,s]):∀(l:List Th) (s:Sl),bI (gN 1) (eW jC) [] (cM l) E [x0,s]:=by
 intro l;induction l with
 |nil=>
  intro s;rw[show cM []=[] from rfl,cA];exact⟨λp hp=>by simp at hp,h _⟩
 |cons t l ih=>
  intro s;rw[show cM (t::l)=BO t::cM l from rfl,cK];refine⟨λp hp=>by simp at hp,?_⟩;have nx:=λs=>ih s;generalize bI (gN 1) (eW jC) [] (cM l) E=G at nx ⊢;push_cast [eW];refine⟨[t.1,t.2.1,t.2.2],rfl,?_⟩;ac_nf;exact nx _
theorem sT:∀ds Q,rF ds Q->iY jC ↥Q (aM ["_law_found", "_law_three"] ds):=by
 rintro ds Q ⟨l,rfl,q⟩;ac_nf;refine⟨rfl,NB (λs=>?_) l _⟩;ac_nf;exact q
noncomputable def sO(ks:List Int):List Ti->List Th->List Ti->Prop
 |f,[],g=>f=g
 |f,t::ts,g=>t∈aO ks/\jP f t/\sO ks (i9 f t) ts g
noncomputable abbrev uG(A B:List Th):List Th:=A.filter λt=>!decide (t∈B)
theorem JQ{B:List Th}:∀(l acc:List Th),acc.length+l.length<=2000->Q (.nw (.lst (cM (acc++uG l B)))) ->
  cP [.un,.v (.lst (cM B))] (gN 0) (aU (aP d8 (a8 0) (a8 1))) (a8 0) (cM l) (cM acc) Q:=by
 intro l;induction l with
 |nil=>
  intro acc _ h;rw[show cM []=[] from rfl,eJ];rw[show uG [] B=[] from rfl,im] at h;exact h
 |cons t l ih=>
  intro acc hl h;rw[bh] at hl;rw[show cM (t::l)=BO t::cM l from rfl];push_cast [d8,wS];refine⟨⟨rfl,nV B⟩,?_⟩;by_cases z:t∈B
  ·rw[decide_eq_true z];refine ih acc ⋯ ?_;rwa[uG,jy (by simp[z])] at h
  ·rw[decide_eq_false z];refine⟨by simp;ac_rfl,?_⟩;rw[show cM acc++[BO t]=cM (acc++[t]) by simp];refine ih _ (by simp;ac_rfl) ?_;rw[uG,jx (by simp[z])] at h;rwa[dh]
noncomputable abbrev unl(ks:List Int)(fl gl:List Ti):Nat:=(uG (c5 ks fl) (c5 ks gl)).length+(uG (c5 ks gl) (c5 ks fl)).length
noncomputable def rE:Fn:=λds Q=>∃(ks:List Int) (fl gl:List Ti),ds=[.lst (aZ ks),.lst (eO fl),.lst (eO gl)]/\IsF ks fl/\IsF ks gl/\Q (.v (.int (unl ks fl gl:Nat)))
theorem IT:∀ds Q,rE ds Q->ds.length=3:=by rintro ds Q ⟨_,_,_,rfl,_⟩;rfl
theorem Kh:MonoF rE:=⟨λds Q Q' w z=>by obtain⟨a,b,c,d,e,f,g⟩:=z;exact⟨a,b,c,d,e,f,w _ g⟩⟩
theorem xT:∀ds Q,rE ds Q->lB oX ↥Q (aM ["_law_bands_here", "_law_one", "_law_other", "_law_here", "_law_there"] ds):=by
 rintro ds Q ⟨ks,fl,gl,rfl,F,G,q⟩;have b1:=nL F;have b2:=nL G;ac_nf;refine⟨ks,fl,rfl,F,?_⟩;ac_nf;refine⟨ks,gl,rfl,G,?_⟩;ac_nf;refine JQ (c5 ks fl) [] (by simp;ac_rfl) ?_;rw[kz];ac_nf;refine JQ (c5 ks gl) [] (by simp;ac_rfl) ?_;rw[kz];push_cast [ay];exact q
structure WalkOk(cs:List Nat)(fl gl:List Ti)(ts:List Th):Prop where
 F:IsF (aH 0 cs) fl
 G:IsF (aH 0 cs) gl
 st:sO (aH 0 cs) fl ts gl
 lo:unl (aH 0 cs) fl gl<=ts.length
 hi:ts.length<=(c5 (aH 0 cs) fl).length+(c5 (aH 0 cs) gl).length
 k3:cs.length<=3->ts.length=unl (aH 0 cs) fl gl
noncomputable def eS:Fn:=λds Q=>∃(cs:List Nat) (fl gl:List Ti) (ts:List Th),ds=[.lst (aZ (aH 0 cs)),.lst (eO fl),.lst (eO gl),.lst (cM ts)]/\Cnt cs/\WalkOk cs fl gl ts/\Q (.v (.bl ai))
theorem Fy:∀ds Q,eS ds Q->ds.length=4:=by rintro ds Q ⟨_,_,_,_,rfl,_⟩;rfl
theorem IE:MonoF eS:=⟨λds Q Q' w z=>by obtain⟨a,b,c,d,e,f,g,i⟩:=z;exact⟨a,b,c,d,e,f,g,w _ i⟩⟩
theorem Jd{x1 x2 x3 x7:Sl}{g:List Ti}(h:∀s,E.nx [x0,x1,x2,x3,.own a (.dit (mB g)),.v (.lst (cM (aO ks))),s,x7]):∀(ts:List Th) (f:List Ti) (s:Sl),IsF ks f->sO ks f ts g ->
  bI (gN 6) (gX rF e7 oY wD rE oX) [] (cM ts) E [x0,x1,x2,x3,.own a (.dit (mB f)),.v (.lst (cM (aO ks))),s,x7]:=by
 intro ts;induction ts with
 |nil=>
  intro f s _ e;rw[show cM []=[] from rfl,cA];rw[show f=g from e];exact⟨λp hp=>by simp at hp,h _⟩
 |cons t ts ih=>
  rintro f s F ⟨t3,hx,st⟩;rw[show cM (t::ts)=BO t::cM ts from rfl,cK];refine⟨λp hp=>by simp at hp,?_⟩;have nx:=λs=>ih (i9 f t) s (by obtain⟨x,y,z⟩:=t;exact(F.flip t3 hx).1) st;generalize bI (gN 6) (gX rF e7 oY wD rE oX) [] (cM ts) E=G at nx ⊢;push_cast [gX,Jq,d8,wS];refine⟨⟨rfl,nV _⟩,?_⟩;rw[decide_eq_true t3];ac_nf;exact⟨ks,f,t,rfl,F,t3,hx,lZ (nx _)⟩
theorem HV(l:List Ti):Gv (mB l) (mB l):=⟨rfl,λk d m=>by
 obtain⟨u,hu,e⟩:=fv.mp m;cases e;exact⟨_,m,jJ _,jJ _,Vv _ (nX 8 _ (jJ _)).1⟩⟩
theorem xS:∀ds Q,eS ds Q->lA rF e7 oY wD rE oX ↥Q (aM ["_law_bands_here", "_law_one", "_law_other", "_law_flips", "_law_belows_here", "_law_every", "_law_three", "_law_few"] ds):=by
 rintro ds Q ⟨cs,fl,gl,ts,rfl,hc,⟨F,G,st,lo,hi,k3⟩,q⟩;have l1:=F.len;have l2:=G.len;have n2:=F.n2;ac_nf;refine⟨ts,rfl,?_⟩;ac_nf;refine⟨fl,rfl,⋯,F.key,?_⟩;ac_nf;intro a;refine⟨aH 0 cs,rfl,⋯,F.n12,F.mo,?_⟩;ac_nf;refine Jd (g:=gl) (λs=>?_) ts fl _ F st;ac_nf;refine⟨gl,rfl,⋯,G.key,?_⟩;push_cast [FV];refine⟨HV gl,?_⟩;refine⟨aH 0 cs,fl,gl,rfl,F,G,?_⟩;push_cast [lU hc,ay];refine GJ (λz=>?_) λz=>?_
 ·rw[decide_eq_true (show (ts.length:Int)=(unl (aH 0 cs) fl gl:Nat) from by rw[k3 ⋯])];exact q
 ·refine GJ (λ_=>?_) λn=>absurd (Int.ofNat_le.mpr lo) n;refine⟨_,_,rfl,F,?_⟩;ac_nf;refine⟨_,_,rfl,G,?_⟩;push_cast [ay];rw[decide_eq_true ⋯];exact q
theorem Falls.steps{f:List Ti}{ts:List Th}(h:Falls ks fl ts f):∀{us:List Th} {g:List Ti},sO ks f us g->sO ks fl (ts++us) g:=by
 induction h with
 |nil=>exact λst=>st
 | @snoc ts f t h a ih=>
  intro us g st;rw[dh];exact ih ⟨a.1,a.2.1,st⟩
theorem Falls.back{ks:List Int}{fl f:List Ti}{ts:List Th}(F:IsF ks fl)(h:Falls ks fl ts f):sO ks f ts.reverse fl:=by
 suffices k:∀{us:List Th} {g:List Ti},sO ks fl us g->sO ks f (ts.reverse++us) g by
  have:=@k [] fl rfl;rwa[im] at this
 induction h with
 |nil=>exact λst=>st
 | @snoc ts f t h a ih=>
  intro us g st;obtain⟨F1,_⟩:=h.isF F;obtain⟨x,y,z⟩:=t;obtain⟨hb,eb⟩:=F1.back a.1 a.2.1;rw[List.reverse_append,List.reverse_singleton];exact⟨a.1,hb,by rw[eb];exact ih st⟩
end Lw
namespace Lw
open L2 Z
open Sf (Rw crs qZ Pre Good aI aW place many)
open Fl (kd ids Walk d5 tls pc aL Pt Bf srt cH zG tS fT tm)
theorem Fs(A B:List Th):(uG A B).length<=A.length:=oh ..
variable {A B:List Th}
theorem IL(h:∀t∈A,t∈B):uG A B=[]:=je.mpr λt ht=>by simp[h t ht]
theorem Cf(h:∀t∈A,t ∉ B):uG A B=A:=sy.mpr λt ht=>by simp[h t ht]
variable {gl f:List Ti}{ts:List Th}
theorem Ce{bs:List Th}(F:IsF ks fl)(G:IsF ks gl)(hf:Falls ks fl ts f)(hg:Falls ks gl bs f):(uG (c5 ks fl) (c5 ks gl)).length=(uG ts (c5 ks gl)).length:=by
 have e:=((hf.ups F).filter λt=>!decide (t∈c5 ks gl)).length_eq;rw[ox,bq,show List.filter _ (c5 ks f)=[] from IL (B:=c5 ks gl) λt ht=>(hg.ups G).mem_iff.mpr (cu _ ht)] at e;exact e
theorem B9:∀(k:Nat) (cs:List Nat),∀x∈aH k cs,x<((k+cs.length:Nat):Int)
 |k,[],x,h=>by cases h
 |k,c::cs,x,h=>by
  rw[aH] at h;rw[bh];rcases de.mp h with h | h
  ·rw[cr h];ac_rfl
  ·have:=B9 (k+1) cs x h;ac_rfl
theorem Gr(h:cs.length<=3):K3 (aH 0 cs):=λx h0 h1=>by
 have m:kd (aH 0 cs) x∈aH 0 cs:=by
  show (aH 0 cs).getD x.toNat 0∈_;rw[ul,au (show x.toNat<(aH 0 cs).length by ac_rfl)];exact gm _
 have a:=(lT 0 cs).2 _ m;have b:=B9 0 cs _ m;ac_rfl
theorem Jc{bs:List Th}(F:IsF (aH 0 cs) fl)(G:IsF (aH 0 cs) gl)(hf:Falls (aH 0 cs) fl ts f)(hg:Falls (aH 0 cs) gl bs f)(k:K3 (aH 0 cs)->(∀t∈ts,t ∉ c5 (aH 0 cs) gl) /\ ∀t∈bs,t ∉ c5 (aH 0 cs) fl):
  WalkOk cs fl gl (ts++bs.reverse):=by
 have e1:=Ce F G hf hg;have e2:=Ce G F hg hf;have l1:=Fs ts (c5 (aH 0 cs) gl);have l2:=Fs bs (c5 (aH 0 cs) fl);have u1:=(hf.isF F).2;have u2:=(hg.isF G).2;refine⟨F,G,hf.steps (hg.back G),?_,?_,λh=>?_⟩
 ·rw[bq,ug,unl];ac_rfl
 ·rw[bq,ug];ac_rfl
 ·obtain⟨k1,k2⟩:=k (Gr h);rw[Cf k1] at e1;rw[Cf k2] at e2;rw[bq,ug,unl,e1,e2]
noncomputable abbrev HC(l:List (List Ti)):List Dv:=l.map λf=>.lst (eO f)
variable {E:En}{ad:ae}{x0 x1 x3 x4 x7 x8 x9 x10 x11 x12:Sl}
theorem QZ(hc:Cnt cs):∀(VZ:List Int) (acc:List (List Ti)) (s:Sl),acc.length+VZ.length<=100->(∀f∈acc,IsF (aH 0 cs) f) ->
  (∀fs s,fs.length=acc.length+VZ.length->(∀f∈fs,IsF (aH 0 cs) f)->E.nx [x0,x1,.v (.lst (aZ (aH 0 cs))),x3,x4,.own ad (.lst (HC fs)),s,x7,x8,x9,x10,x11,x12]) ->
  bI (gN 6) (o9 eT d6 (c9 C) gJ dJ (g6 C) eS) [] (aZ VZ) E [x0,x1,.v (.lst (aZ (aH 0 cs))),x3,x4,.own ad (.lst (HC acc)),s,x7,x8,x9,x10,x11,x12]:=by
 obtain⟨n2,n12⟩:=yY hc;intro VZ;induction VZ with
 |nil=>
  intro acc s _ A h;rw[show aZ []=[] from rfl,cA];exact⟨λp hp=>by simp at hp,h _ _ rfl A⟩
 |cons c VZ ih=>
  intro acc s hl A h;rw[bh] at hl;rw[show aZ (c::VZ)=.int c::aZ VZ from rfl,cK];refine⟨λp hp=>by simp at hp,?_⟩;have nx:=λfl (I:IsF (aH 0 cs) fl) s=>ih (acc++[fl]) s (by simp;ac_rfl) (λf hf=>by
   rcases de.mp hf with hf | hf
   ·exact A f hf
   ·rw[dg.mp hf];exact I) λfs s h1 h2=>h fs s (by simp at h1 ⊢;ac_rfl) h2
  generalize bI (gN 6) (o9 eT d6 (c9 C) gJ dJ (g6 C) eS) [] (aZ VZ) E=G at nx ⊢;push_cast [o9];refine⟨aH 0 cs,c,rfl,n2,n12,Gi hc,λrow e w d rl=>?_⟩;ac_nf;refine⟨aH 0 cs,row,e,rfl,n12,w,rl,λfl FO u=>?_⟩;have I:IsF (aH 0 cs) fl:=⟨n2,n12,uZ cs,u,row,e,w,d,rl,ID FO⟩;push_cast [ay];refine⟨⋯,?_⟩;have:=nx fl I (.v (.int c));rwa[show HC (acc++[fl])=HC acc++[.lst (eO fl)] by simp] at this
theorem JX{P:List Ti->Prop}{fs:List (List Ti)}(A:∀f∈fs,P f){k:Int}(h1:-1<=k)(h2:k<fs.length)(h3:1<=fs.length):∃f,P f/\oP (HC fs) k=aa (.lst (eO f)):=by
 obtain⟨j,hj,e⟩:∃j,j<fs.length/\sJ (HC fs).length k=aa j:=by
  rw[ay];unfold sJ;by_cases z:0<=k
  ·rw[VH z,VH h2];exact⟨_,⋯,rfl⟩
  ·rw[Vn z,VH ⋯];exact⟨_,⋯,rfl⟩
 refine⟨fs[j],A _ (gm hj),?_⟩;unfold oP;rw[e,bind_some,cg,au hj];rfl
theorem GI{l:List Ti}{A B:Prop}{i:Decidable ((!eqD (.lst (eO l)) (.lst (eO l)))=ai)}(h:B):@ite Prop ((!eqD (.lst (eO l)) (.lst (eO l)))=ai) i A B:=by
 rw[Vn (by rw[tF,decide_eq_true rfl];decide)];exact h
theorem EM(F:IsF (aH 0 cs) fl)(G:IsF (aH 0 cs) gl)(q:∀ts,WalkOk cs fl gl ts->Q (.nw (.lst (cM ts)))):g6 C [b5 C (cI 0 cs),.lst (eO fl),.lst (eO gl)] Q:=by
 have kr:=Bw cs;refine⟨cI 0 cs,fl,gl,rfl,by rw[kr];exact F,by rw[kr];exact G,λts bs f hf hg k=>q _ ?_⟩;rw[kr] at hf hg k;exact Jc F G hf hg k
variable {x6:Sl}
theorem QY(hc:Cnt cs){fs:List (List Ti)}(A:∀f∈fs,IsF (aH 0 cs) f){k:Nat}(hk:k<fs.length)
  (h:∀x8 x9 x10 x11 x12,E.nx [x0,x1,.v (.lst (aZ (aH 0 cs))),x3,.v (b5 C (cI 0 cs)),.own ad (.lst (HC fs)),x6,.v (.int k),x8,x9,x10,x11,x12]):
  k8 eT d6 (c9 C) gJ dJ (g6 C) eS E [x0,x1,.v (.lst (aZ (aH 0 cs))),x3,.v (b5 C (cI 0 cs)),.own ad (.lst (HC fs)),x6,.v (.int k),x8,x9,x10,x11,x12]:=by
 obtain⟨one,F,e1⟩:=JX A (k:=(k:Int)-1) ⋯ ⋯ ⋯;obtain⟨oth,G,e2⟩:=JX A (k:=(k:Int)) ⋯ ⋯ ⋯;push_cast [k8,e1,e2];refine EM F G λts W=>?_;have u1:=nL F;have u2:=nL G;have hi:=W.hi;ac_nf;intro a;refine⟨cs,one,oth,ts,rfl,hc,W,?_⟩;ac_nf;refine⟨.inr rfl,⟨u9 _,u9 _⟩,GI ⟨⟨u9 _,u9 _⟩,GI ⟨by simp;ac_rfl,EM F G λts' W'=>?_⟩⟩⟩;ac_nf;refine⟨cs,one,oth,ts',rfl,hc,W',?_⟩;ac_nf;exact h _ _ _ _ _
theorem QU(hc:Cnt cs){fs:List (List Ti)}(A:∀f∈fs,IsF (aH 0 cs) f)
  (h:∀x7 x8 x9 x10 x11 x12,E.nx [x0,x1,.v (.lst (aZ (aH 0 cs))),x3,.v (b5 C (cI 0 cs)),.own ad (.lst (HC fs)),x6,x7,x8,x9,x10,x11,x12]):∀(i k:Nat) (x7 x8 x9 x10 x11 x12:Sl),k+i=fs.length ->
  bI (gN 7) (k8 eT d6 (c9 C) gJ dJ (g6 C) eS) [] (bP k i) E [x0,x1,.v (.lst (aZ (aH 0 cs))),x3,.v (b5 C (cI 0 cs)),.own ad (.lst (HC fs)),x6,x7,x8,x9,x10,x11,x12]:=by
 intro i;induction i with
 |zero=>
  intro k x7 x8 x9 x10 x11 x12 _;rw[eG,cA];exact⟨λp hp=>by simp at hp,h _ _ _ _ _ _⟩
 |succ i ih=>
  intro k x7 x8 x9 x10 x11 x12 hk;rw[cU,cK];refine⟨λp hp=>by simp at hp,?_⟩;rw[show ((k:Int)+1)=((k+1:Nat):Int) by ac_rfl];have nx:=λx7 x8 x9 x10 x11 x12=>ih (k+1) x7 x8 x9 x10 x11 x12 ⋯;have W:=λ(E:En)=>QY (C:=C) (ad:=ad) (x0:=x0) (x1:=x1) (x3:=x3) (x6:=x6) (x8:=x8) (x9:=x9) (x10:=x10) (x11:=x11) (x12:=x12) (E:=E) hc A (show k<fs.length by ac_rfl);generalize bI (gN 7) (k8 eT d6 (c9 C) gJ dJ (g6 C) eS) [] (bP ((k+1:Nat):Int) i) E=G at nx ⊢;generalize k8 eT d6 (c9 C) gJ dJ (g6 C) eS=B at W ⊢;ac_nf;exact W _ λx8 x9 x10 x11 x12=>nx _ _ _ _ _ _
noncomputable def spLaw:Fn:=λds Q=>∃ns:List Int,ds=[.scr ns]/\ns.length<=63/\Q (.v (.bl ai))
theorem IV:∀ds Q,spLaw ds Q->ds.length=1:=by rintro ds Q ⟨d,rfl,_⟩;rfl
variable {x5:Sl}
theorem QR(hc:Cnt cs){c:Int}{aa:List Int}(hs:aa.length<=90)(h:E.rt (.v (.bl ai))):
  (aN (b6 4 (aS (c9 C) (a7 (a8 2) aG)))
 (aN (iM 5 (g7 aG))
 (aN (j6 (iR (aP dS (a8 3) (g7 (a7 (aP dS (a8 1) (eC (.int 1))) aG)))) (gN 6) (o9 eT d6 (c9 C) gJ dJ (g6 C) eS))
 (aN (j6 (fX (a7 (fR d9 (a7 (a8 5) aG)) aG)) (gN 7) (k8 eT d6 (c9 C) gJ dJ (g6 C) eS))
 (c6 (eC (.bl ai))))))) E [x0,.v (.int c),.v (.lst (aZ (aH 0 cs))),.v (.lst (aZ aa)),x4,x5,x6,x7,x8,x9,x10,x11,x12]:=by
 have W0:=λ(ad:ae) (E:En)=>QZ (C:=C) (ad:=ad) (x0:=x0) (x1:=.v (.int c)) (x3:=.v (.lst (aZ aa))) (x4:=.v (b5 C (cI 0 cs))) (x7:=x7) (x8:=x8) (x9:=x9) (x10:=x10) (x11:=x11) (x12:=x12) (E:=E) hc (aa++[c+1]) [] x6 (by simp;ac_rfl) (λf hf=>by cases hf);have W1:=λ(fs:List (List Ti)) (A:∀f∈fs,IsF (aH 0 cs) f) (ad:ae) (x6:Sl) (E:En)=>QU (C:=C) (ad:=ad) (x0:=x0) (x1:=.v (.int c)) (x3:=.v (.lst (aZ aa))) (x6:=x6) (E:=E) hc A;generalize o9 eT d6 (c9 C) gJ dJ (g6 C) eS=B0 at W0 ⊢;generalize k8 eT d6 (c9 C) gJ dJ (g6 C) eS=B1 at W1 ⊢;ac_nf;refine⟨cs,rfl,hc,?_⟩;ac_nf;intro ad;refine⟨by simp;ac_rfl,?_⟩;rw[show aZ aa++[Dv.int (c+1)]=aZ (aa++[c+1]) by simp];refine W0 ad _ λfs s hf A=>?_;have W2:=λ(E:En)=>W1 fs A ad s E;have fl:fs.length<=100:=by simp at hf;ac_rfl
 push_cast [ay];refine⟨⋯,?_⟩;rw[bp];refine W2 _ (λx7 x8 x9 x10 x11 x12=>?_) fs.length 0 _ _ _ _ _ _ ⋯;ac_nf;exact h
theorem Cv(l:List α)(a b:Option Int):(cut l a b).length<=l.length:=by
 unfold cut;rw[cv,uy];ac_rfl
theorem LM{k:Nat}(h:2<=k)(h2:k<5):∃m:Int,6<=m/\m<=12/\oP [Dv.int 12,Dv.int 10] (((k:Int)-1) / 3)=aa (.int m):=by
 rcases(show ((k:Int)-1) / 3=0 \/ ((k:Int)-1) / 3=1 by ac_rfl) with e | e
 ·exact⟨12,by decide,by decide,by rw[e];rfl⟩
 ·exact⟨10,by decide,by decide,by rw[e];rfl⟩
theorem QQ(hc:Cnt cs)(hl:ns.length<=63){c:Int}{TL:bS}
  (h:∀cs (aa:List Int),Cnt cs->aa.length<=90->TL E [.v (.scr ns),.v (.int c),.v (.lst (aZ (aH 0 cs))),.v (.lst (aZ aa)),x4,x5,x6,x7,x8,x9,x10,x11,x12]):
  (aN (b6 3 (C2 (a8 0) (gC (eC (.int 1))) (gC (eC (.int 6)))))
 (aN (jE (qW (aU (aP zI (aP bX (a8 2) (vM (eC (.int 1)))) (eC (.int 4)))) (aU (aP qQ (aP gZ (aP gZ (aP fQ (a8 1) (eC (.int 48271))) (eC (.int 2147483647))) (eC (.int 4))) (eC (.int 1))))) (aN (b6 2 (aS d6 (a7 (a8 1) (a7 (aP bX (g7 (a7 (eC (.int 12)) (a7 (eC (.int 10)) aG))) (aP mU (aP bX (a8 2) (vM (eC (.int 1)))) (eC (.int 3)))) aG))))
 (b6 3 (C2 (a8 0) (gC (eC (.int 1))) (gC (eC (.int 2)))))) bK) TL)) E [.v (.scr ns),.v (.int c),.v (.lst (aZ (aH 0 cs))),.un,x4,x5,x6,x7,x8,x9,x10,x11,x12]:=by
 have lo:=hc.lo;push_cast [lU hc];have f1:=h cs (cut ns (aa 1) (aa 6)) hc (by have:=Cv ns (aa 1) (aa 6);ac_rfl);refine GJ (λlt=>⟨sQ ∅ ∅,GJ (λ_=>?_) λ_=>f1⟩) λ_=>f1;obtain⟨m,m1,m2,e⟩:=LM lo ⋯;rw[e];refine⟨c,m,rfl,m1,m2,λcs hc=>?_⟩;ac_nf;exact h cs (cut ns (aa 1) (aa 2)) hc (by have:=Cv ns (aa 1) (aa 2);ac_rfl)
theorem Me:∀ds Q,spLaw ds Q->Eh eT d6 (c9 C) gJ dJ (g6 C) eS ↥Q (aM ["_law_script", "_law_first", "_law_bands_here", "_law_some", "_law_sides_here", "_law_floors", "_law_cell", "_law_k", "_law_one", "_law_other", "_law_here", "_law_there", "_law_found"] ds):=by
 rintro ds Q ⟨ns,rfl,hl,h⟩;have fin:=λ(cs:List Nat) (hc:Cnt cs) (c:Int) (aa:List Int) (hs:aa.length<=90) (E:En) (h:E.rt (.v (.bl ai)))=>QR (C:=C) (x0:=.v (.scr ns)) (x4:=.un) (x5:=.un) (x6:=.un) (x7:=.un) (x8:=.un) (x9:=.un) (x10:=.un) (x11:=.un) (x12:=.un) (c:=c) hc hs h;show aN _ (aN _ (aN _ (aN _ (aN _ _)))) _ _;revert fin;generalize (aN (b6 4 (aS (c9 C) (a7 (a8 2) aG))) _)=TL;intro fin;have f4:=λ(cs:List Nat) (hc:Cnt cs) (c:Int)=>QQ (E:=↥Q) (x4:=.un) (x5:=.un) (x6:=.un) (x7:=.un) (x8:=.un) (x9:=.un) (x10:=.un) (x11:=.un) (x12:=.un) hc hl (c:=c) λcs aa hc hs=>fin cs hc c aa hs _ h;generalize (aN (b6 3 (C2 (a8 0) (gC (eC (.int 1))) (gC (eC (.int 6))))) _)=T3 at f4 ⊢;ac_nf;refine⟨ns,0,rfl,⋯,λc=>?_⟩;ac_nf;refine⟨c,8,rfl,by decide,by decide,λcs hc=>?_⟩;push_cast [lU hc];refine GJ (λ_=>⟨c,9,rfl,by decide,by decide,λcs hc=>?_⟩) λ_=>f4 cs hc c;ac_nf;exact f4 cs hc c
end Lw
namespace L2
variable {VM:bi}{f:ae}{cd:ac}{s0:ah}{H0:Hp}{E:XK}
section
variable {E':XK}
end
section
variable {s1 s2:ah}{e:ac}{D:Ends}
end
variable {fd:ir}{sp:Sp}{VX:jr}
section
variable {k:Nat}{epos pos:jr}{t:TA}
end
section
variable {fa:ae}{E0:XK}
variable {k:Nat}{pos:jr}{t:TA}
end
end L2
namespace Z
open L2
section
variable {VM:bi}{f:ae}{cd:ac}{s0:ah}{H0:Hp}{E:XK}{HZ:Hp}{Ψ:Exn->Prop}
end
variable {VX:jr}{ts:mD}
section
variable {k:Nat}{sp:FnX}{epos pos:jr}
end
section
variable {M':ae->Prop}
end
section
variable {k:Nat}{y f:bi}{e1 e2 z c:Expr}{tt:kZ}{tb tr:bS}{te2:dP}{VU VL:List jm}{W8 VV ipos q1 q2 q3 q4 q5 r1 r3 r4 r5:jr}
end
end Z
namespace Hd
open PySem PySem.W
noncomputable def LW:List jq->Nat->BT->Option (BT×Nat)
 | [],n,t=>aa (t,n)
 |o::r,n,t=>match ((t.ins n o).get n).isSome with
  |true=>LW r (n+1) (t.ins n o)
  |false=>aq
theorem AX{life:Life}:∀(l:List jq) (n:Nat) (t:BT) {t':BT} {n':Nat},LW l n t=aa (t',n')->absHeap t' n' life=⟨((absHeap t n life).objs.toList++l).toArray,life⟩
 | [],n,t,t',n',h=>by
  cases h;rw[im];rfl
 |o::r,n,t,t',n',h=>by
  rw[LW] at h;cases g:((t.ins n o).get n).isSome with
  |false=>rw[g] at h;cases h
  |true=>
   rw[g] at h;rw[AX r (n+1) (t.ins n o) h,absHeap_ins g];show Heap.mk _ _=Heap.mk _ _;congr 1;show (((absHeap t n life).objs.push o).toList++r).toArray=_;simp
theorem Fc{t:BT}(e:LW h.objs.toList 0 .nil=aa (t,n)):absHeap t n h.life=h:=by
 rw[AX (life:=h.life) _ _ _ e];rfl
noncomputable def sY(st:SharedT->uo->Option (SharedT×uo))(th:uo->Bool)(ok:uo->Bool):Nat->SharedT->uo->Option SharedT
 |0,_,_=>aq
 |n+1,s,t=>match th t with
  |true=>aa s
  |false=>match ok t with
   |false=>aq
   |true=>match VG s.toks 1000000 with
    |false=>aq
    |true=>match st s t with
     |some (s',t')=>sY st th ok n s' t'
     |none=>aq
theorem pY{tb:String->Option xo}{p:ar}{w:bm}{n₀:Nat}{ann:Option ac}:∀(n:Nat) (s:SharedT) (t:uo) {s':SharedT},sY (stepT (VD tb) p w) through (stepOk n₀ ann) n s t=aa s'->topRun tb p w n₀ ann n s.abs t=aa s'.abs
 |0,_,_,_,h=>by cases h
 |n+1,s,t,s',h=>by
  unfold sY at h;unfold topRun;cases ht:through t with
  |true=>rw[ht] at h;cases h;rfl
  |false=>
   rw[ht] at h;cases hk:stepOk n₀ ann t with
   |false=>rw[hk] at h;cases h
   |true=>
    rw[hk] at h;dsimp only at h ⊢;cases hb:VG s.toks 1000000 with
    |false=>rw[hb] at h;cases h
    |true=>
     rw[hb] at h;dsimp only at h;cases hs:stepT (VD tb) p w s t with
     |none=>rw[hs] at h;cases h
     |some x=>
      obtain⟨s1,t1⟩:=x;rw[hs] at h;rw[stepT_spec hs];exact pY n s1 t1 h
noncomputable def BY(st:SharedT->uo->Option (SharedT×uo))(th:uo->Bool)(ok:uo->Bool)(M:Nat)(h:cm)(gs:Array zv)(d:VF)(k:Nat)(os:OsState)(t:uo):Option SharedT:=
 match LW h.objs.toList 0 .nil with
 |some (b,n)=>sY st th ok M ⟨b,n,h.life,gs,d,k,os⟩ t
 |none=>aq
variable {p:ar}{ann:Option ac}{M:Nat}
theorem A4{tb:String->Option xo}{n₀:Nat}{gs:Array zv}{d:VF}{k:Nat}{os:OsState}{t:uo}{s':SharedT}
  (e:BY (stepT (VD tb) p w) through (stepOk n₀ ann) M h gs d k os t=aa s'):topRun tb p w n₀ ann M ⟨h,gs,d,k,os⟩ t=aa s'.abs:=by
 unfold BY at e;cases q:LW h.objs.toList 0 .nil with
 |none=>rw[q] at e;cases e
 |some x=>
  obtain⟨b,n⟩:=x;rw[q] at e;have:=pY M _ _ e;unfold SharedT.abs at this;dsimp only at this;rw[Fc q] at this;exact this
theorem IZ{q:ar}{loose:List bi}{Xt:ah->Bool}{Yf:ah->α}{Ya:bm->α}{N:Nat}{g0:Bool}{HZ:V2->cm}{gs₀:Array zv}{d₀:VF}{k₀:Nat}{m₀:Nat}
  (open_:∀w:bm,(fencedOpening TQ p w N).map (λs=>(s.heap,s.gens,s.drawn,s.toks))=aa (HZ w.params,gs₀,d₀,k₀))
  (size:∀w:bm,((HZ w.params).isNs gg&&gs₀.size==0,(HZ w.params).objs.size,(HZ w.params).nsMap gg "__annotations__")=(ai,m₀,ann)) (le:VG M N=ai)
  (run:∀(w:bm) (os:OsState),(BY (stepT (VD TQ) p w) through (stepOk m₀ ann) M (HZ w.params) gs₀ d₀ k₀ os (topStub p)).map (λs=>
    ((staticsOk (wt p.main.body) (HZ w.params) s.abs.heap&&namesBound p s.abs.heap&&gensDone s.abs&&laidKept (HZ w.params) s.abs.heap),openSeen q loose (wt p.main.body) Xt g0 s.abs,Yf s.abs))=aa (ai,openGood q loose,Ya w)):
  LeftO p q loose Xt Yf Ya N g0:=λw=>by
 obtain⟨⟨h,gs,d,k,os⟩,e,e'⟩:=wr.mp (open_ w);obtain⟨rfl,rfl,rfl,rfl⟩:h=HZ w.params/\gs=gs₀/\d=d₀/\k=k₀:=by simpa using e'
 obtain⟨z1,z2,z3⟩:_/\_/\_:=by simpa only[jo] using size w
 obtain⟨s',r,l⟩:=wr.mp (run w os);obtain⟨l1,l2,l3⟩:_/\_/\_:=by simpa only[jo] using l
 have r:=topRun_mono (N-M) _ _ _ _ (A4 r);rw[show M+(N-M)=N by have:=wy le;ac_rfl] at r;have t:topFrom TQ p w N ⟨HZ w.params,gs,d,k,os⟩=aa s'.abs:=by
  unfold topFrom;dsimp only;rw[z1,z2,z3,r];show (match staticsOk (wt p.main.body) (HZ w.params) s'.abs.heap&&namesBound p s'.abs.heap&&gensDone s'.abs&&laidKept (HZ w.params) s'.abs.heap with | true=>_ | false=>_)=_;rw[l1]
 unfold openEnds;rw[e];show (topFrom TQ p w N _).map _=_;rw[t];exact congrArg aa (Prod.ext l2 l3)
end Hd
namespace Lw
open L2 Z
theorem law_start(hl:ns.length<=63)(hO:Gz H)(hS:fS K H a (ns.map V.int)):low K spLaw [.ref a] H (λv _=>v=.bl ai) (λ_ _ _=>False):=
 DB (λQ q=>⟨ns,rfl,hl,q⟩) hO (λP q z=>nomatch z.1) hS
theorem Ss{us:List ac}(h:us.length=1):∃a0,us=[a0]:=by
 cases us with
 |nil=>cases h
 |cons a r=>obtain⟨rfl⟩:=vk.mp (Nat.succ.inj h);exact⟨a,rfl⟩
theorem LO{fa:ae}(X:K.In h)(G:h.Ns gg mg)(hfa:mg "law" = aa (.ref fa))
  {od0 an0:Option ae} {sl0:Array (Option ac)} {oc0 kV0 dc0 pm0 cd0 ct0:ac} {f0:ae}
  (aC:mg "Sides" = aa (.ref C))
  (m1:MF K C "__init__" "Sides.__init__" (fJ (top 33) 0))
  (m2:MF K C "many" "Sides.many" (fJ (top 33) 1))
  (m3:MF K C "kind" "Sides.kind" (fJ (top 33) 2))
  (m4:MF K C "pairs" "Sides.pairs" (fJ (top 33) 4))
  (cl:Cls K C) (mk:Tv K C=ai) (kc:ot K (.ref C)=ai)
  (j7:lj K (.ref C) "kinds" = aa aq)
  (rQ:lj K (.ref C) "vectors" = aa aq)
  (m5:DF K mg "with_band" "with_band" (top 6))
  (m6:DF K mg "belows" "belows" (top 7))
  (m7:DF K mg "threes" "threes" (top 9))
  (m8:DF K mg "up" "up" (top 10))
  (m9:DF K mg "standing_up" "standing_up" (top 12))
  (m10:DF K mg "standing_down" "standing_down" (top 13))
  (m11:DF K mg "tiles_by_flip" "tiles_by_flip" (top 14))
  (m12:DF K mg "flippable" "flippable" (top 15))
  (m13:DF K mg "flipped" "flipped" (top 16))
  (m14:DF K mg "falling" "falling" (top 18))
  (m15:DF K mg "way" "way" (top 19))
  (m16:DF K mg "is_whole" "is_whole" (top 21))
  (m17:DF K mg "has_three_wholes" "has_three_wholes" (top 27))
  (m18:DF K mg "has_few_figures" "has_few_figures" (top 28))
  (m19:DF K mg "points_up" "points_up" (top 29))
  (m20:DF K mg "lies_left" "lies_left" (top 30))
  (m21:DF K mg "check_direction" "check_direction" (top 31))
  (m22:DF K mg "check_directions" "check_directions" (top 32))
  (m23:DF K mg "_law_cell_at" "_law_cell_at" (top 35))
  (m24:DF K mg "_law_whole" "_law_whole" (top 36))
  (m25:DF K mg "_law_wholes" "_law_wholes" (top 37))
  (m26:DF K mg "_law_bands" "_law_bands" (top 38))
  (m27:DF K mg "_law_pick" "_law_pick" (top 39))
  (m28:DF K mg "_law_exchanged" "_law_exchanged" (top 40))
  (m29:DF K mg "_law_row" "_law_row" (top 41))
  (m30:DF K mg "_law_floor" "_law_floor" (top 42))
  (m31:DF K mg "_law_many" "_law_many" (top 43))
  (m32:DF K mg "_law_sides" "_law_sides" (top 44))
  (m33:DF K mg "_law_threes" "_law_threes" (top 45))
  (m34:DF K mg "_law_belows" "_law_belows" (top 46))
  (m35:DF K mg "_law_up" "_law_up" (top 47))
  (m36:DF K mg "_law_is_threes" "_law_is_threes" (top 48))
  (m37:DF K mg "_law_with" "_law_with" (top 49))
  (m38:DF K mg "_law_flipped" "_law_flipped" (top 50))
  (m39:DF K mg "_law_unlike" "_law_unlike" (top 51))
  (m40:DF K mg "_law_walked" "_law_walked" (top 52))
  (a0:mg "law" = aa (.ref f0))
  (l0:K.lookup f0=aa ⟨oc0,od0,.func (ve "law" "law" (jA (top 53)) (dY (top 53)) (aJ (top 53)) .none kV0 dc0 pm0 an0 cd0 ct0),sl0⟩) (c0:xf K cd0 "law" = ai) (k0:ot K (.ref f0)=ai)
  (fP:∃t,mg "FEWEST_DIRECTIONS" = aa (.int 2 t))
  (gF:∃t,mg "MOST_DIRECTIONS" = aa (.int 6 t))
  (l7:∃t,mg "MOST_BANDS" = aa (.int 12 t))
  (gG:∃t,mg "LARGEST_PART" = aa (.int 999999999999 t))
  (HI:mg "ValueError" = aq)
  (CF:mg "abs" = aq)
  (ER:mg "all" = aq)
  (r9:mg "bool" = aq)
  (mE:mg "enumerate" = aq)
  (vX:mg "int" = aq)
  (aX:mg "isinstance" = aq)
  (bA:mg "len" = aq)
  (eF:mg "list" = aq)
  (EQ:mg "min" = aq)
  (bO:mg "range" = aq)
  (dZ:mg "sorted" = aq)
  (EO:mg "sum" = aq)
  (cS:mg "tuple" = aq)
  (EN:mg "zip" = aq):
  ∃fd:ir,(∀(s:ah) (v:ac),Sy s fd ⟨[v],[]⟩ [("_law_script",v)]) /\ ∀base:cm,K.In base->base.Ns gg mg->FnOk P w K mg base BJ 8 fa fd ["_law_script"] ((low K spLaw)):=by
 have e:=hfa.symm.trans a0;cases e;have F0:=yK (st:=(top 53)) l0 c0 k0;refine⟨ve "law" "law" (jA (top 53)) (dY (top 53)) (aJ (top 53)) .none kV0 dc0 pm0 an0 cd0 ct0,λs v=>.of_eq rfl,λbase _ _=>?_⟩;have mI:IAt K mg "Sides" C "Sides.__init__" (fJ (top 33) 0) ["self", "directions"]:=m1.ini aC mk kc;have f6:=yO P w mg base m5.at dZ cS Fx AI;have gW:=E9 P w mg base m6.at  uI AR;have iG:=uU P w mg base m9.at f6 Ff Ko vF;have fY:=rY P w mg base m10.at f6 Ff Kp sS;have dF:=rX P w mg base m11.at iG Mz fY N0 Kn sR;have pM:=Ax P w mg base m16.at aX vX r9 IW Bi;have g8:=oH P w mg base m17.at aX cS bA ER pM Ki Dm oZ;have gR:=pG P w mg base m18.at CF gG Ci qO;have n6:=yP P w mg base m19.at  Ci AJ;have n8:=yQ P w mg base m20.at  G3 AK;have gU:=pH P w mg base m21.at g8 Fg gR Fo n6 Fo G9 qP;have g9:=oI P w mg base m22.at aX eF bA EO EN fP gF l7 gU IJ n8 IG IY p0;have yX:=Ix P w mg base mI mE cS cl j7 rQ g9 Kk Do KO;have pJ:=Iv P w mg base m2.at bA cl j7 G0 KM;have nD:=Iw P w mg base m3.at cl j7 G4 KN;have yW:=Ge P w mg base m4.at bO cl pJ lK nD jY Dp Hx;have gQ:=E7 P w mg base m7.at bO cl yW uC pJ lK nD jY Bu FR;have d_up:=NW P w mg base m8.at gW eA gQ fI Km Pv;have nE:=yV P w mg base m12.at gW eA gQ fI dF JP Ks AQ;have o4:=C4 P w mg base m13.at dZ gQ fI gW eA dF JP G5 DU;have kS:=C5 P w mg base m14.at d_up uB nE N3 G7 DV;have Cu:=LG P w mg base m15.at d_up uB kS II o4 IH IP Md;have kH:=uW P w mg base m23.at bA GA vH;have n9:=yR P w mg base m24.at aX vX r9 Kq AL;have lQ:=vN P w mg base m25.at aX cS n9 N1 Bt xR;have iT:=yU P w mg base m26.at bO bA EQ Ds AO;have pK:=Av P w mg base m27.at  Fz Bg;have dG:=s9 P w mg base m28.at  G8 sU;have sA:=C3 P w mg base m29.at bA eF bO pK IF dG Cd IQ DT;have nB:=yT P w mg base m30.at bA eF bO dZ cS dG Cd Dr AN;have pL:=Aw P w mg base m31.at bA Dq Bh;have nA:=yS P w mg base m32.at bO pL Fk yX Fh Bv AM;have fK:=vQ P w mg base m33.at bA bO IU xU;have eI:=vR P w mg base m34.at  uI xV;have iS:=E8 P w mg base m35.at eI eA fK Fj IS FS;have j3:=rZ P w mg base m36.at aX eF bA lQ Dh IX sT;have f7:=Au P w mg base m37.at eF dZ cS Fx Be;have kG:=uV P w mg base m38.at f7 Ff Kr vG;have lR:=vP P w mg base m39.at bA iS Fi IT xT;have jB:=vO P w mg base m40.at bA j3 Kj eI eA fK Fj kG N2 lR Kh iS Fi Fy xS;exact LH P w mg base F0 bA bO eF kH IK iT Fp nA Di sA Kg nB Fm Cu xY jB IE IV Me
theorem walk{l:W.OpenLaw}{q:ar}{loose:List bi}{XP:(bi->Option ac)->cm->Prop}{YP:bm->cm->Prop}{d:DefRec}{K:V2->aj}(hn:l.most=aa 63)(hdf:d.params.defaults=[])
  (hY:∀(w:bm) (h:cm),YP w h->(K w.params).In h)
  (F:∀(w:bm) (mg:bi->Option ac) (fa:ae) (h:cm),(K w.params).In h->h.Ns gg mg->mg d.name=aa (.ref fa) ->
   ∃fd:ir,(∀(s:ah) (u:ac),Sy s fd ⟨[u],[]⟩ [("_law_script",u)]) /\ ∀base:cm,(K w.params).In base->base.Ns gg mg->FnOk l.prog w (K w.params) mg base BJ 8 fa fd ["_law_script"] ((low (K w.params) spLaw))):
  W.WalkO q loose XP YP l.row.toRowW d [] (λf vs=>PySem.call f vs):=
 L2.HH (n:=63) (k:=8) (x:="_law_script") (CX:=λ_=>BJ) (sp:=λw=>(low (K w.params) spLaw)) hn ∅ hdf ⟨rfl,by decide,by decide⟩ hY F (λ_ H a ns hl hO hS=>law_start hl hO hS) λ_ _ _ _ _ z=>z
end Lw
noncomputable def Hd.QV:PySem.Program:=PySem.W.view jj [0,2,3,4,6,7,9,10,12,13,14,15,16,18,19,21,23,24,25,26,27,28,29,30,31,32,33,35,36,37,38,39,40,41,42,43,44,45,46,47,48,49,50,51,52,53]
open PySem PySem.W PyProof.Rows
local macro_rules | `(tactic| o_head $H)=>`(tactic| refine holds_open (q:=Hd.QV) (loose:=[]) (Xt:=λs=>xlAt Hd.QV [] s&&recOk (RowW.records (OpenRow.toRowW (OpenLaw.row PySem.Challenge.rw_slantfloor_k52_whole_ways_of_flips))) s) (XP:=XL Hd.QV []) (Yf:=Hook.obs $H) (Ya:=Hook.val $H) (YP:=Hook.says $H) (N:=4694) ?hl (Hook.of $H) (Hook.keeps $H) (λs e=>xl_of s (Bool.and_eq_true_iff.mp e).1) XL.keeps (by rfl) (by rfl) (by rfl) (λs e=>recFacts_of (Bool.and_eq_true_iff.mp e).2) (by rfl) (by first | assumption | decide +kernel) (by decide +kernel) ⟨rfl,rfl,rfl,rfl,rfl,by decide +kernel⟩ ?hw ?hc)
set_option maxRecDepth 100000 in
set_option maxHeartbeats 0 in
theorem PySem.Challenge.cw_slantfloor_k52_whole_ways_of_flips_holds : PySem.Challenge.rw_slantfloor_k52_whole_ways_of_flips.Holds := by
 w_on;o_law;k_head
 (case hl=>exact Hd.IZ (HZ:=boot_heap) (gs₀:=Array.mk []) (d₀:=boot_drawn) (k₀:=boot_toks) (m₀:=11) (ann:=aa (.ref 6)) (M:=4694) (boot_open (by kernel_rfl) rfl (λs=>by kernel_rfl)) (λw=>by kernel_rfl) rfl (λw os=>by rw[yq,yr,yt,zo,zp];kernel_rfl))
 (case hw=>w_witness2)
 k_fill
 refine Lw.walk (l:=jl) rfl rfl (λw h Y=>by first | exact PySem.W.kIn_of Y | exact PySem.W.km_in_of Y) ?F
 case F=>
  intro w mg fa h KX G hmg;apply Lw.LO KX G hmg
  any_goals first | refine' Z.DF.mk (mg_of KX G ?_) ?_ ?_ ?_ | refine' Z.MF.mk ?_ ?_ ?_ ?_ ?_ | refine' mg_none_of KX G ?_ | refine' mg_of KX G ?_ | refine' Z.SZ (mg_of KX G ?_) | refine' Z.exS (mg_of KX G ?_) | refine' L2.Cls.mk ?_ ?_ ?_ ?_
  any_goals k_is

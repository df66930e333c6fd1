import PyProof.Rows.All
import Lean
import Wide.FinOn
import OpenK.KOwn
import KE.KNest
import KE.RegKIsAll
import KE.RegKTryMore
import PyProof.EqAt
import PyProof.EqKinds
import PyProof.TupleCall
import PyProof.NeKinds
import PyProof.NeData
import PyProof.EqLayable
import PyProof.ZipIter
import PyProof.EnumMake
import KE.LcSums
import PyProof.CompFree
import PyProof.ListRange
import PyProof.Rows.Range3
import PyProof.TupleOfSeq
import KE.KSortTup
import PyProof.Rows.TupAdd
import PyProof.DictWalks
import PyProof.StrWalks
import PyProof.SliceStr2
import PyProof.StrBlock2
import PyProof.StrLaws
import PyProof.StrCalls
import PyProof.CallStr
import KE.KIntText
import KE.KDictSum
import PyProof.Rows.SetFrom
import PyProof.SetRoads
import PyProof.Rows.StrInSeq3
import PyProof.Rows.CountFlat
import Open.Boot
import Open.Tree
import PySem.Challenge.RW_slantfloor_k83_whole_free_bands_bend
open Option renaming some->aa,none->ap,isSome_iff_exists->sk,map_eq_some_iff->uz,isSome_some->xk,isSome_map->Pl
open PySem renaming wpAny_bind->ab,Value->ac,Addr->ae,Shared->af,wpAny_pure->ao,Program->aq,starEach->aw,sizeLine->ay,Str->az,World->bb,wpAny->be,model->bn,compareOp->bu,Heap->ca,Around->cf,wpAny_callSpecial?_slot->dk,wpAny_call_entry->dv,sysModules->ed,wpAny_truthy_bool->eg,eval->em,wpAny_field->er,mem_of_lookup->fe,relabel->fh,wpAny_newObj_type->fj,mainGlobals->fk,foldedSetIterable->fm,binaryOp->fu,wpAny_mono->fx,boot_len->fz,FuncData->gh,swapsWith->gk,wpAny_typeNameOfWhole_keyiter->gt,Pos->gv,cLine->gy,wpAny_dictEntries->ic,Obj->im,sizeLine_eq->io,wpAny_isInstance->ip,Stmt->iq,DictEntry->ir,backTo->ix,wpAny_passesOwn->jh,wpAny_holding->jm,attributeBase->jn,bootBuiltins->jy,tupleKind_room_in1->jz,wpAny_attempt->kf,behindInMarks->kg,pyNext->kj,isSubtype_stop->kl,assignEach->kn,wpAny_dictEpoch->ml,slot_listiter_next->mr,wpAny_Call_Name_kw->mv,IsRangeIter->ng,keywordEach->ni,sliceBounds->nk,wpAny_seqItems->oa,wpAny_setField->og,closureFor->pq,NameKind->qc,wpAny_execs_nil->qh,letOwnedTupleGo->qi,codeAny_mono->qv,wpAny_setField_rec->rh,Thread->rq,lastMarks->sy,getMethod->tf,backToKw->tj,noFill_tuple_add->tu,wpAny_rule->uc,wpAny_pyNext_list_item->ud,wpAny_pyIter_rangeiter->ue,codeAny->uf,call_meets->uk,Env->uy,importedModules->vb,wpAny_pyIter_listiter->vf,wpAny_isOneOf_keyiter->vh,wpAny_notOrdered_dict->vi,field->vj,rawInt->vk,Builtin->wc,tupleKind->we,Keyword->wf,callerA->wg,valueAt->wj,entry_listiter_next->wl,CmpOp->wp,seq_tuple_add->wr,wpAny_newList->wu,args_listiter_next->xb,assign->xf,wpAny_pyIter_range->xg,IsPart->xj,Within->xw,GenState->xx,wpAny_assign_Name->xy,standAt->ya,holding->yb,BindsTo->yf,concat_meets->yh,getItem->yi,slot_list_getitem->yj,wpAny_pyIter_enum->yk,wpAny_pyIter_list->yl,wpAny_eqBool_int->yy,wpAny_execs_cons->yz,PassesOwn->za,wpAny_pyIter_zip->zg,treeTable->zn,subscripted->zv,atKey->zw,codeAny_builtin->Ov,size_of_entries->Ox,wpAny_load->P1,firstArgMember->P3,IsPair->P4,builtinsNs->P5,wpAny_Name->P6,recursionLimit->Pa,callWith->Pb,bindL->Pc,bindC->Pd,typeIs_int->Ph,ReadsAll->Po,wpAny_fieldsOf->Pu,Sem->PF,seqItems?->PJ,cellsFrom->PL,Reads->PM,hashInt->PQ,Params->PX,PyData->PZ,Model->Q7,raiseNew->Q8,ZipApart->Q9,intItems->Qa,again->Qe,rule->Qf,bindArgs->Qh,compPost->Qk,pyIter->Qs,Result->Qx,denote->QB,IsZip->QC,Drawn->QF,Tok->QK
open Bool renaming true->ah,false->aj,false_eq_true->cv,and_eq_true->cw,false_ne_true->gn,not_eq_true'->jl,true_and->lz,and_true->sx,not_true->wv,eq_iff_iff->Oz,not_false->Ps
open PySem.W renaming Frag->ai,findIn->ju,emptyDict->jx,kia_one->kh,keepIn->lv,instObj->pf,fnOf->sw,codeIn->vn,plainGet_of->wq,plainGet->xi,callWith_K->yg,makesIn->zb,cellsFrom_some->ze,methodObj->zq,hasDictIn->zr,methodCall_KW->Op,lookIn->P9,takerIn->PK,kitOne->Qg,isFn->Qw
open PySem.Heap renaming get?_push_of_some->ak,lt_size->av,get?_push_size->bi,get?_update_other->di,size_push->nv,SameBut->oj,ExtBut->qb,get?_update_self->vc
open List renaming replicate->au,length_map->bc,getElem?_map->bh,mem_cons_of_mem->bj,getElem?_eq_some_iff->bt,getElem?_append_left->bv,mem_cons_self->bw,getElem?_eq_getElem->bz,map_cons->cb,size_toArray->cg,length_cons->cj,getElem?_append_right->cn,mem_singleton->cp,mem_of_getElem?->cq,mem_cons->de,mem_append_right->dg,length_append->dj,eq_of_mem_replicate->dm,mem_append->ee,getElem?_set_ne->eu,pairwise_iff_getElem->fc,range->ff,mem_append_left->fq,getElem?_replicate->fv,append_nil->fy,not_mem_nil->gf,mem_map->gq,replicate_succ->gr,getElem?_set_self->ik,getElem_mem->iw,getElem?_eq_none->jc,mem_or_eq_of_mem_set->jf,flatten_replicate_singleton->jj,map_map->jt,getD->jw,length_take->kq,map_congr_left->ku,Nodup->kz,map_append->lb,length_replicate->lg,drop_eq_getElem_cons->lr,pairwise_cons->mf,nil_append->mw,mem_range->nh,getElem?_cons_zero->nq,flatten_cons->oo,append_assoc->oq,take_of_length_le->ot,any_cons->ou,ext_getElem?->ox,find?_cons_of_pos->oy,find?_cons_of_neg->oz,pairwise_map->pb,mem_iff_getElem?->px,all_eq_true->qd,mem_iff_getElem->qg,dropLast_concat_getLast->qk,filterMap_cons->qm,find?_cons->rm,nodup_iff_pairwise_ne->rp,any_eq_true->sr,nodup_append->ss,getElem?_take_of_lt->sv,all_cons->tw,getElem?_cons_succ->tz,nodup_cons->ug,map_nil->uh,length_nil->um,drop_of_length_le->uo,filter_eq_nil_iff->uv,length_singleton->vg,cons_append->vo,pairwise_append->vz,replicate_zero->wn,mem_filterMap->xh,set_cons_zero->xm,set_cons_succ->xn,filter_append->xo,any_eq_false->yc,zipWith->yn,toArray->yo,take_add_one->yp,all_eq_false->yq,sum_cons->yr,flatMap_cons->yw,zipIdx_cons->yx,nodup_range->zi,range'_succ->zk,length_drop->zu,drop_length->zx,lookup_cons->zy,zipIdx_nil->Om,forIn_cons->On,mem_filter->Oo,of_mem_zip->Pe,foldl->Pi,foldl_cons->Pj,nodup_nil->Pn,all_nil->Q3,all_map->Q4,any_map->Q5
open PySem.PassesOwn renaming never->bf
open Nat renaming le_refl->bg,lt_of_lt_of_le->df,ne_of_lt->ef,le_trans->fo,lt_irrefl->lc,le_of_not_lt->lh,zero_le->mj,lt_of_le_of_lt->nc,lt_or_gt_of_ne->rn,lt_succ_of_lt->sn,le_add_right->ul,mul_le_mul->ux,min_eq_left->va,le_of_lt->vm,ne_of_gt->xz,lt_succ_self->zd,le_succ->PP,le_of_eq->PU,mul_comm->PV,lt_trans->PY,log2_lt->Qj,lt_or_ge->Ql,zero_add->Qn,ble->QJ
open Sum renaming inl->bo,inr->qp
open PySem.Builtin.Range renaming rangeSize->cm,small->qo
open PySem.Str renaming ofString->dh
open Classical renaming byContradiction->dq
open Int renaming mul_le_mul_of_nonneg_left->dr,toNat_natCast->dw,emod_lt_of_pos->ga,mul_nonneg->ja,eq_of_mul_eq_mul_left->jg,emod_nonneg->jk,mul_pos->li,mul_assoc->lj,mul_left_comm->ma,le_of_lt->uq,fmod_nonneg_of_pos->uw,mul_comm->vp,natAbs_mul->wb,lt_or_gt_of_ne->xl,fmod_lt_of_pos->xq,gcd->yu,gcd_dvd_right->yv,gcd_dvd_left->zm,mul_eq_zero->Ou,mul_neg->P0,mul_le_mul->Pz,le_of_eq->PB,dvd_trans->PH,pow_succ->Q6,le_refl->Qm,neg_neg->Qo
open PyProof.Rows renaming callWith_type1->fg,slot_tuple_getitem->jr,IntsAre->ki,seqObj->kr,kindOf->ph,envOfC->pk,AllBare->sh,subscriptTail_builtinR->ui,boot_tuple->uu,subscriptTail->wt,callWith_builtin1->zf,boot_list->zl,entry_list_sort->Ow,cnt->Oy,boot_range->P7,chain_link->P8,slicePart_none->Pf,SortKind->Pq,sortedHeap->Pr,slot_list_sort->Pv,args_list_sort->Pw,sortedHeap_old->Px,boot_abs->Py,ite_ff->Qt,ite_tt->Qv,IsTup->QD,Call_->QH
open PySem.F renaming slot_dict_keyiterator_next->ft,args_tuple_add_2->ly,entry_tuple_add->nj,plainAttrs_list->nu,slot_tuple_add->om,args_dict_keyiterator_next_1->pz,entry_dict_keyiterator_next->qe,slot_tuple_iterator_next->qy,slot_range_iterator_next->qz,plain_list_iadd->ua,slot_enumerate_next->ve,slot_dict_ne->vw,slot_dict_iter->zj,slot_zip_next->Ol,slot_int_rmul->Os
open Pure renaming pure->gc
open Array renaming getElem?_eq_getElem->gg,getElem?_toList->jb,getD_eq_getD_getElem?->qw,length_toList->wo,toList->PR,getD->Qz
open PySem.Value renaming none->gj,bool->xc,float->zp,isStrOf->PD,isInt->Qb,bytes->Qc,type->Qr
open Ne renaming symm->gp
open PySem.Challenge renaming pw_slantfloor_k83_whole_free_bands_bend->gw,rw_slantfloor_k83_whole_free_bands_bend->gx
open Option.some renaming injEq->gz
open False renaming elim->ig
open True renaming intro->ii
open PySem.PyData renaming depthAll->ij,canLayAll0->ji,eqv->jq,canLay0->jv,eqvAll->mh
open PySem.Builtin.SmallTypes renaming nextOf->jd,ownedTupleIsFree->lu
open PySem.Builtin.Slice renaming slicePlaces->je,sliceAdjust->lq,sliceApplied->rj,slicePartIndex->Oq,sliceFields->PC
open PySem.Builtin.Tuple renaming tupleExact->jo,tupleHashOf->sd,tupleItemsOf->Pg
open PySem.Builtin.List renaming listTooLong->jp,listUpdate->PN
open ForInStep renaming yield->ka
open PySem.Builtin.Dict renaming showsAll->pc,dictSlotNone->se,dictSlotArgs->sg,samePairs->ur
open Prod.mk renaming injEq->qa
open PySem.Builtin.Dict_items renaming ownsTuple->qj
open PySem.Obj renaming data_mapFields->qx,mapFields->su,isFreed_of_fields->vd,cls_mapFields->xv,mapSeq->Pk
open PySem.Calls renaming Name_function_global->ri,call_function_entry->sf,callWith_builtin->uj
open PySem.SeqAt renaming canLay_of_shaped->ut,eqAt_reads->zh,EqAt->Pp,shaped->Q1,eqv_refl->Qp
open PySem.Around renaming under_plainId->vq,under->yd
open Std.Legacy.Range renaming forIn_eq_forIn_range'->vt
open PySem.Builtin.Int renaming intBits->wm
open PySem.W.Fast renaming te10156331382660048174->ww,te11892475500146522536->wz,te14364793385576792824->xa,te6613529449190102663->xr,te4187177175401517315->xu
open PySem.Code renaming isFrame->ye
open List.cons renaming injEq->Ot
open PySem.Data renaming fields->Qd
open PySem.Heap.SameBut renaming update->Qq
open PySem.SeqAt.Reads renaming unique->Qy
noncomputable abbrev Qi:=@if_neg
noncomputable abbrev QL:=@if_pos
local macro_rules | `(tactic| right)=>`(tactic| first | lia | omega)
local macro_rules | `(term| ⋯)=>`(by  right)
local macro_rules | `(term| ∅)=>`(by  decide)
local macro_rules | `(term| ↥$q)=>`({ nx:=λ_=>$q (.v .non),rt:=$q })
open Option (getD_none map_some getD_some bind_some)
open PySem PySem.Spec PyProof.Rows
noncomputable section
set_option Elab.async false
set_option linter.all false
set_option bootstrap.genMatcherCode false
set_option compiler.extract_closed false
set_option genSizeOf false
set_option genSizeOfSpec false
set_option maxRecDepth 100000
set_option maxHeartbeats 1000000
theorem DU(_:True:=by first | exact .inl rfl | exact .inr rfl | assumption):True:=trivial
theorem mQ(_:True:=by decide):True:=trivial
theorem c6(_:True:=by rfl):True:=trivial
theorem GO(_:True:=by intro _;rfl):True:=trivial
theorem JF(_:True:=by with_unfolding_all rfl):True:=trivial
theorem Ax(_:True:=by decide +kernel):True:=trivial
theorem OP(_:True:=by first | exact nomark _ | rfl):True:=trivial
theorem OW(_:True:=by intro _ _;rfl):True:=trivial
variable {i n:Nat}{A:cf}{h base:ca}{e tg:Expr}{a b C:ae}{Q E:ac->af->Prop}{α:Type}{x QP:az}{u:ac}{P prog:aq}{w:bb}{N ps:List az}{s:af}{pos p:gv}{pj:List (ae×im)}{K:ai}{es:List Expr}{mg:az->Option ac}{outer:List uy}{QM:Scope}
namespace L2
noncomputable def pP(o:im):Prop:=∃us:Array ac,o.data=.fields us/\us[2]?=aa .none
variable {o:im}
theorem O6{vs:Array ac}{v:ac}(d:o.data=.fields vs):(su (·.setIfInBounds i v) o).data=.fields (vs.setIfInBounds i v):=qx d _
variable {M:Q7}{env:uy}
section
variable {L e:ae}
end
noncomputable def Qu(A:cf)(h:ca):Prop:=A.handled=ap \/ ∃(a:ae) (o:im),A.handled=aa (.ref a)/\h.get? a=aa o/\pP o
variable {h':ca}
theorem Qu.keeps(q:Qu A h)(k:∀b o,pP o->h.get? b=aa o->h'.get? b=aa o):Qu A h':=by
  rcases q with q | ⟨a,o,e,g,m⟩
  . exact .inl q
  . exact .inr ⟨a,o,e,k a o m g,m⟩
theorem tG:entryFor table "proto.unchain" = aa wc.«proto.unchain» := entryFor_of_fast (by kernel_rfl)
variable {it l:ae}{xs:Array ac}{lo:Int}
theorem uR{e:ac}(g:s.heap.get? a=aa o)(m:pP o)(q:Q .none s):be (bn prog w) A (runValue (.builtin "proto.unchain" ⟨[e,.ref a,.ref a,.bool aj],[]⟩)) Q E s:=by
  obtain⟨us,d,n2⟩:=m;refine runValue_entry tG ?_;unfold wc.«proto.unchain»;dsimp only;refine ab (er g d n2 ?_);rw[QL ∅];exact ao ⟨_,rfl,q⟩
theorem CM{us:Array ac}{Q:α->af->Prop}(q:Qu A s.heap)(g:s.heap.get? a=aa o)(d:o.data=.fields us)(hz:2<us.size)(hm:∀v,A.handled=aa v->v ≠ .ref a)
    (h:∀h' o',(∀b u,b≠a->s.heap.get? b=aa u->h'.get? b=aa u)->h'.get? a=aa o'->o'.cls=o.cls->E (.ref a) { s with heap:=h' }):be (bn prog w) A (Q8 (α:=α) (.ref a)) Q E s:=by
  simp only[Q8];refine ab (wpAny_handled ?_);rcases q with q | ⟨b,ob,q,gb,mb⟩
  . rw[q];exact ab (ao (wpAny_throw (h s.heap o (λ_ _ _ z=>z) g rfl)))
  . rw[q];have ne:b≠a:=λz=>hm _ q (by rw[z]);dsimp only;rw[QL (show (Value.ref b != Value.ref a)=ah by simpa using ne)];refine ab (jm (uR gb mb (ab ?_)));unfold updateField;refine ab (P1 g ?_);rw[d];dsimp only;rw[QL hz];refine wpAny_update g (wpAny_throw (h _ (su (·.setIfInBounds 2 (.ref b)) o) (λc u hc z=>(di _ _ (gp hc)).trans z) (vc _ g (vd (O6 d))) (xv ..)))
theorem hW{Q:α->af->Prop}(q:Qu A s.heap)(h:∀h' e,(∀b u,s.heap.get? b=aa u->h'.get? b=aa u)->(∃o,h'.get? e=aa o/\o.cls=.type "StopIteration")->E (.ref e) { s with heap:=h' }):
    be (bn prog w) A (newExc (.type "StopIteration") [] >>= λe=>Q8 (α:=α) e) Q E s:=by
  refine ab ?_;simp only[newExc,newTuple];refine ab (fj (ab (m:=P3 _ _) (wpAny_of_eq (a:=gj) (by first | rfl | (simp only[P3];rfl)) (fj ?_ (by size_fits)))) (by size_fits));refine CM (q.keeps λb u _ z=>ak _ (ak _ z)) (bi _ rfl) rfl (by simp;right) (λv e z=>?_) λh' o' k g c=>h h' _ (λb u z=>k b u ?_ (ak _ (ak _ z))) ⟨o',g,c⟩
  . subst z;rcases q with q | ⟨b,ob,q,gb,_⟩
    . rw[q] at e;cases e
    . rw[q] at e;cases e;exact lc _ (df (av gb) (by rw[nv];exact PP _))
  . intro e;subst e;exact lc _ (df (av z) (by rw[nv];exact PP _))
theorem z4{Q:Option ac->af->Prop}(q:Qu A s.heap)(t:s.heap.IsListIter it l i)(il:s.heap.IsList l xs)(n:xs[i]?=ap)(h:∀h',qb it s.heap h'->Q ap { s with heap:=h' }):
    be (bn prog w) A (kj (.ref it)) Q E s:=by
  obtain⟨o,g,c,d⟩:=id t;obtain⟨ol,gl,_,nl,dl⟩:=il;unfold kj;refine ab (kf (dk (name:=dh "__next__") t.typeIs mr (dv mr t.typeIs wl ?_ (xb _))));refine ab (m:=vj (.ref it) 0) (er g d (x:=.ref l) rfl ?_);rw[Qi (show ¬((Value.ref l==gj)=ah) from λz=>nomatch z)];refine ab (m:=vj (.ref it) 1) (er g d (x:=.int i 0) rfl (ab (m:=PJ (.ref l)) (oa gl dl ?_)));simp only[dw,n];have ne:∀b u,pP u->s.heap.get? b=aa u->b≠it:=λb u m gb z=>by
    subst z;rw[g] at gb;cases gb;obtain⟨us,du,z2⟩:=m;rw[d] at du;cases du;simp at z2
  refine ab (uc (ab (og g d (by simp) (hW (q.keeps λb u m z=>(di _ _ (gp (ne b u m z))).trans z) λh' e k ⟨oe,ge,ce⟩=>?_))));refine ab (ip (T:="StopIteration") (b:=ah) ⟨oe,ge,ce⟩ kl (ao (h _ λb u hb z=>k b u ((di _ _ (gp hb)).trans z))))
theorem DG{Q:Option ac->af->Prop}(q:Qu A s.heap)(t:s.heap.IsTupleIter it l i)(il:s.heap.IsTuple l xs)(n:xs[i]?=ap)(h:∀h',qb it s.heap h'->Q ap { s with heap:=h' }):
    be (bn prog w) A (kj (.ref it)) Q E s:=by
  obtain⟨o,g,c,d⟩:=id t;obtain⟨ol,gl,_,nl,dl⟩:=il;unfold kj;refine ab (kf (dk (name:=dh "__next__") t.typeIs qy (dv qy t.typeIs F.entry_tuple_iterator_next ?_ (F.args_tuple_iterator_next_1 _))));refine ab (m:=vj (.ref it) 0) (er g d (x:=.ref l) rfl ?_);rw[Qi (show ¬((Value.ref l==gj)=ah) from λz=>nomatch z)];refine ab (m:=vj (.ref it) 1) (er g d (x:=.int i 0) rfl (ab (m:=PJ (.ref l)) (oa gl dl ?_)));simp only[dw,n];have ne:∀b u,pP u->s.heap.get? b=aa u->b≠it:=λb u m gb z=>by
    subst z;rw[g] at gb;cases gb;obtain⟨us,du,z2⟩:=m;rw[d] at du;cases du;simp at z2
  refine ab (uc (ab (og g d (by simp) (hW (q.keeps λb u m z=>(di _ _ (gp (ne b u m z))).trans z) λh' e k ⟨oe,ge,ce⟩=>?_))));refine ab (ip (T:="StopIteration") (b:=ah) ⟨oe,ge,ce⟩ kl (ao (h _ λb u hb z=>k b u ((di _ _ (gp hb)).trans z))))
theorem uC{x left step:Int}{Q:Option ac->af->Prop}(q:Qu A s.heap)(t:ng s.heap it x left step)(n:left<=0)(h:∀h',qb it s.heap h'->Q ap { s with heap:=h' }):
    be (bn prog w) A (kj (.ref it)) Q E s:=by
  have ty:s.TypeIs (.ref it) "range_iterator" := ⟨_,t,rfl⟩;unfold kj;refine ab (kf (dk (name:=dh "__next__") ty qz (dv qz ty F.entry_range_iterator_next ?_ (F.args_range_iterator_next_1 _))));refine ab (m:=vj (.ref it) 0) (er t rfl (x:=vk x) rfl (ab (m:=vj (.ref it) 1) (er t rfl (x:=vk left) rfl (ab (m:=vj (.ref it) 2) (er t rfl (x:=vk step) rfl ?_)))));refine(show be _ _ (ite (left<=0) _ _) _ _ s from ?_);rw[QL n];refine ab (uc (ab (hW q λh' e k zz=>?_)));obtain⟨oe,ge,ce⟩:=zz;refine ab (ip (T:="StopIteration") (b:=ah) ⟨oe,ge,ce⟩ kl (ao (h _ λb u hb z=>k b u z)))
theorem nB(q:Qu A s.heap)(t:s.heap.IsListIter it l i)(il:s.heap.IsList l xs)(n:xs[i]?=ap)
    (h:∀h' e,qb it s.heap h'->(∃o,h'.get? e=aa o/\o.cls=.type "StopIteration")->E (.ref e) { s with heap:=h' }):be (bn prog w) A (jd (.ref it)) Q E s:=by
  obtain⟨o,g,c,d⟩:=id t;obtain⟨ol,gl,_,nl,dl⟩:=il;unfold jd;refine ab (dk (name:=dh "__next__") t.typeIs mr (dv mr t.typeIs wl ?_ (xb _)));refine ab (m:=vj (.ref it) 0) (er g d (x:=.ref l) rfl ?_);rw[Qi (show ¬((Value.ref l==gj)=ah) from λz=>nomatch z)];refine ab (m:=vj (.ref it) 1) (er g d (x:=.int i 0) rfl (ab (m:=PJ (.ref l)) (oa gl dl ?_)));simp only[dw,n];have ne:∀b u,pP u->s.heap.get? b=aa u->b≠it:=λb u m gb z=>by
    subst z;rw[g] at gb;cases gb;obtain⟨us,du,z2⟩:=m;rw[d] at du;cases du;simp at z2
  exact ab (uc (ab (og g d (by simp) (hW (q.keeps λb u m z=>(di _ _ (gp (ne b u m z))).trans z) λh' e k z=>h h' e (λb u hb z=>k b u ((di _ _ (gp hb)).trans z)) z))))
theorem Fy{e:ae}{old:ac}{Q:Option ac->af->Prop}(q:Qu A s.heap)(he:IsEnum s.heap e it i old)(t:s.heap.IsListIter it l i)(il:s.heap.IsList l xs)(n:xs[i]?=ap)
    (h:∀h',qb it s.heap h'->Q ap { s with heap:=h' }):be (bn prog w) A (kj (.ref e)) Q E s:=by
  have ty:s.TypeIs (.ref e) "enumerate" := ⟨_,he,rfl⟩;unfold kj;refine ab (kf (dk (name:=dh "__next__") ty ve (dv ve ty F.entry_enumerate_next ?_ (F.args_enumerate_next_1 _))));refine ab (m:=vj (.ref e) 2) (er he rfl (x:=.ref it) rfl (ab (nB q t il n λh' x k zz=>?_)));obtain⟨oe,ge,ce⟩:=zz;exact ab (ip (T:="StopIteration") (b:=ah) ⟨oe,ge,ce⟩ kl (ao (h _ k)))
theorem IE{z TI TO i1 i2 l1 l2:ae}{k1 k2:Nat}{ys:Array ac}{a b:ac}{Q:Option ac->af->Prop}(q:Qu A s.heap)(D:Q9 z TI TO i1 i2 l1 l2)(hz:QC s.heap z TI TO .none)(pI:P4 s.heap TI (.ref i1) (.ref i2))(pO:P4 s.heap TO a b)
    (t1:s.heap.IsListIter i1 l1 k1) (t2:s.heap.IsListIter i2 l2 k2) (il1:s.heap.IsList l1 xs) (il2:s.heap.IsList l2 ys) (n:xs[k1]?=ap \/ ys[k2]?=ap)
    (h:∀h',(∀c o,c≠z->c≠TO->c≠i1->c≠i2->s.heap.get? c=aa o->h'.get? c=aa o)->Q ap { s with heap:=h' }):be (bn prog w) A (kj (.ref z)) Q E s:=by
  have ty:s.TypeIs (.ref z) "zip" := ⟨_,hz,rfl⟩;have fin:∀h' e,(∃o,h'.get? e=aa o/\o.cls=.type "StopIteration")->(∀c o,c≠z->c≠TO->c≠i1->c≠i2->s.heap.get? c=aa o->h'.get? c=aa o) ->
      be (bn prog w) A (isInstance (.ref e) (.type "StopIteration") >>= λy=>if y=ah then gc ap else throw (.ref e)) Q E { s with heap:=h' }:=λh' e ⟨oe,ge,ce⟩ k=>
    ab (ip (T:="StopIteration") (b:=ah) ⟨oe,ge,ce⟩ kl (ao (h _ k)))
  have mz:∀f0,¬pP { cls:=.type "zip",dict:=ap,data:=.fields #[f0,.bool aj,.bool aj,.ref TI,.ref TO],slots:=#[] }:=λf0 zq0=>by
    obtain⟨us,du,z2⟩:=zq0;cases du;simp at z2
  have mi:∀{h1:ca} {i l:ae} {k:Nat},h1.IsListIter i l k -> ∀u,pP u->h1.get? i≠aa u:=λ⟨o,g,_,d⟩ u ⟨us,du,z2⟩ gu=>by
    rw[g] at gu;cases gu;rw[d] at du;cases du;simp at z2
  have mp:∀{h1:ca} {p:ae} {x y:ac},P4 h1 p x y -> ∀u,pP u->h1.get? p≠aa u:=λg u ⟨us,du,z2⟩ gu=>by
    rw[g] at gu;cases gu;cases du
  unfold kj;refine ab (kf (dk (name:=dh "__next__") ty Ol (dv Ol ty F.entry_zip_next ?_ (F.args_zip_next_1 _))));refine ab (m:=vj (.ref z) 2) (er hz rfl (x:=.bool aj) rfl (ab (m:=vj (.ref z) 3) (er hz rfl (x:=.ref TI) rfl (ab (oa pI rfl ?_)))));refine ab (m:=lu (.ref z)) ?_;unfold lu;refine ab (er hz rfl (x:=.none) rfl (ao ?_));simp only[if_true];refine ab (uc (ab (er hz rfl (x:=.ref TO) rfl (ab (rh hz (by simp) λh1 hz1 s1=>ab ?_)))));replace hz1:QC h1 z TI TO .ellipsis:=hz1;have q1:Qu A h1:=q.keeps λc u m g=>s1.extBut c u (λe=>by subst e;rw[hz] at g;cases g;exact mz _ m) g;simp only[yx,Om,On,List.forIn_nil];refine ab (ab (wpAny_onRaise (ab (m:=jd (.ref i1)) ?_)));have t1':=t1.extBut s1.extBut D.i1z;have il1':=il1.extBut s1.extBut D.l1z;cases hx:xs[k1]? with
  |none=>
    refine nB q1 t1' il1' hx λh2 e s2 zz=>?_;obtain⟨oe,ge,ce⟩:=zz;have hz2:QC h2 z TI TO .ellipsis:=s2 _ _ D.i1z.symm hz1;have ne:e≠z:=λy=>by subst y;rw[hz2] at ge;cases ge;simp at ce
    exact rh hz2 (by simp) λh3 _ s3=>fin h3 e ⟨oe,s3.extBut _ _ ne ge,ce⟩ λc o c1 _ c3 _ g=>s3.extBut _ _ c1 (s2 _ _ c3 (s1.extBut _ _ c1 g))
  |some x=>
    have hy:ys[k2]?=ap:=n.elim (λy=>by rw[hx] at y;cases y) id;refine wpAny_nextOf_list_item t1' il1' hx λh2 t2' s2=>ao ?_;have pO2:P4 h2 TO a b:=s2.extBut _ _ D.TOi1 (s1.extBut _ _ D.TOz pO);have q2:Qu A h2:=q1.keeps λc u m g=>s2.extBut c u (λe=>by subst e;exact mi t1' u m g) g;refine ab (oa pO2 rfl (ab (wpAny_updateSeq_pair pO2 λh3 pO3 s3=>ab (wpAny_letGo (ao ?_)))));have q3:Qu A h3:=q2.keeps λc u m g=>s3.extBut c u (λe=>by subst e;exact mp pO2 u m g) g;refine ab (ab (wpAny_onRaise (ab (m:=jd (.ref i2)) ?_)));refine nB q3 (((t2.extBut s1.extBut D.i2z).extBut s2.extBut D.i12.symm).extBut s3.extBut D.TOi2.symm) (((il2.extBut s1.extBut D.l2z).extBut s2.extBut D.l2i1).extBut s3.extBut D.l2TO) hy λh4 e s4 zz=>?_;obtain⟨oe,ge,ce⟩:=zz;have hz4:QC h4 z TI TO .ellipsis:=s4 _ _ D.i2z.symm (s3.extBut _ _ D.TOz.symm (s2.extBut _ _ D.i1z.symm hz1));have ne:e≠z:=λy=>by subst y;rw[hz4] at ge;cases ge;simp at ce
    exact rh hz4 (by simp) λh5 _ s5=>fin h5 e ⟨oe,s5.extBut _ _ ne ge,ce⟩ λc o c1 c2 c3 c4 g=>s5.extBut _ _ c1 (s4 _ _ c4 (s3.extBut _ _ c2 (s2.extBut _ _ c3 (s1.extBut _ _ c1 g))))
theorem C9(hh:A.handled=aa (.ref a))(m:pP o)(I ax:ae)(hne:ax≠I)(xs:Array ac):
    Walks prog w A I [I,ax,a] [I] xs.size (λi v=>xs[i]?=aa v) (λi h=>(h.IsListIter I ax i/\h.IsList ax xs)/\h.get? a=aa o) where
  sub:=λb hb=>by simp at hb;simp[hb]
  frame:=λ_ _ _ st k=>⟨⟨st.1.1.at λo e=>k I (by simp) o e,st.1.2.at λo e=>k ax (by simp) o e⟩,k a (by simp) _ st.2⟩
  item:=λi s Q E hi st h=>by
    have na:a≠I:=λe=>by
      subst e;obtain⟨o',g,_,d⟩:=st.1.1;obtain⟨us,du,z2⟩:=m;rw[st.2] at g;cases g;rw[d] at du;cases du;simp at z2
    exact ud st.1.1 st.1.2 (x:=xs[i]) (by simp[hi]) λh' t sb=>h _ h' s.toks (by simp[hi]) ⟨⟨t,st.1.2.extBut sb.extBut hne⟩,sb.extBut _ _ na st.2⟩ λb o hb e=>sb.extBut b o (λz=>hb (by simp[z])) e
  done:=λs Q E st h=>z4 (.inr ⟨a,o,hh,st.2,m⟩) st.1.1 st.1.2 (by simp) λh' k=>h h' s.toks λb o hb e=>k b o (λz=>hb (by simp[z])) e
  self:=λ_ _ _ _ st q=>vf st.1.1 q
theorem LS{xs:Array (Int×QK)}(q:Qu A s.heap)(il:s.heap.IsList l (Qa xs))
    (h:∀h' tk t',(∀b o,s.heap.get? b=aa o->h'.get? b=aa o)->Q (.int (preSum (numAt xs) xs.size) t') { s with heap:=h',toks:=tk }):be (bn prog w) A (call (.builtin "sum") [.ref l]) Q E s:=by
  rcases q with q | ⟨a,o,q,g,m⟩
  . exact sum_intListG q il h
  . refine call_sum_walkG (iter_intList il λs2 e st fp ne=>?_);subst e;refine⟨_,_,_,_,_,_,numAt xs,rfl,C9 (A:=A.in1) q m _ l ne (Qa xs),⟨st,ak _ g⟩,λb hb=>?_,λ_ _=>intItems_at,λh' tk t' k=>?_⟩
    . rcases de.mp hb with e | hb
      . exact fp b (by simp[e])
      . rcases de.mp hb with e | hb
        . exact fp b (by simp[e])
        . have e:b=a:=by simpa using hb
          subst e;exact av (ak _ g)
    . have:=h h' tk t' (old_kept k);simpa [Qa] using this
theorem sC{c:Int}{Q:Option ac->af->Prop}(hi:i<n)(t:ng s.heap it (lo+(i:Nat)*c) ((n:Int)-(i:Nat)) c)
    (h:∀v h' tk,(∃t,v=.int (lo+i*c) t)->ng h' it (lo+((i+1:Nat):Int)*c) ((n:Int)-((i+1:Nat):Int)) c->(∀b o,b ∉ [it]->s.heap.get? b=aa o->h'.get? b=aa o)->Q (aa v) { s with heap:=h',toks:=tk }):
    be (bn prog w) A (kj (.ref it)) Q E s:=by
  refine wpAny_pyNext_range_item t ⋯ λh' t' sb=>h _ h' _ ⟨_,rfl⟩ ?_ λb o hb e=>sb.extBut b o (λz=>hb (by simp[z])) e;rw[show ((i+1:Nat):Int)=(i:Int)+1 by simp,show lo+((i:Int)+1)*c=lo+i*c+c by rw[Int.add_mul,Int.one_mul,Int.add_assoc],show (n:Int)-((i:Int)+1)=n-i-1 by right];exact t'
noncomputable abbrev aY:=Sum Int az
noncomputable def sA:aY->ac->Bool
  | .inl k,v=>Qb k v
  | .inr x,v=>PD x v
noncomputable def Nx(w:bb):aY->Int
  | .inl k=>PQ k
  | .inr x=>hashStr w x
theorem cK:∀{k:aY} {v:ac},sA k v=ah->(∃i t,k=bo i/\v=Value.int i t) \/ (∃x t,k=qp x/\v=Value.str x t)
  | .inl i,v,h=>by
    obtain⟨t,e⟩:=Value.isInt_shape (k:=i) (v:=v) h;exact .inl ⟨i,t,rfl,e⟩
  | .inr x,v,h=>by
    obtain⟨t,e⟩:=Value.isStrOf_shape (x:=x) (v:=v) h;exact .inr ⟨x,t,rfl,e⟩
theorem D6(i:Int)(t:QK):sA (.inl i) (.int i t)=ah:=by simp[sA,Qb]
theorem D5(x:az)(t:QK):sA (.inr x) (.str x t)=ah:=by simp[sA,PD]
theorem Kf(a b:Int):decide ((bo a:aY)=bo b)=(a==b):=by
  by_cases e:a=b
  . subst e;simp
  . have h:¬(bo a:aY)=bo b:=λq=>e (bo.inj q);rw[decide_eq_false h];exact(beq_eq_false_iff_ne.mpr e).symm
theorem Kc(a b:az):decide ((qp a:aY)=qp b)=decide (a=b):=by
  by_cases e:a=b
  . subst e;simp
  . have h:¬(qp a:aY)=qp b:=λq=>e (qp.inj q);rw[decide_eq_false h,decide_eq_false e]
theorem Ke(a:Int)(b:az):decide ((bo a:aY)=qp b)=aj:=decide_eq_false (λq=>nomatch q)
theorem Kd(a:az)(b:Int):decide ((qp a:aY)=bo b)=aj:=decide_eq_false (λq=>nomatch q)
noncomputable def cT(prog:aq)(w:bb):PySem.KeyKind prog w aY where
  is:=sA
  hash:=Nx w
  inj:=λv a b ha hb=>by
    rcases cK ha with⟨i,t,rfl,rfl⟩ | ⟨x,t,rfl,rfl⟩
    . rcases cK hb with⟨j,u,rfl,e⟩ | ⟨y,u,rfl,e⟩
      . injection e with e1 _;rw[e1]
      . exact nomatch e
    . rcases cK hb with⟨j,u,rfl,e⟩ | ⟨y,u,rfl,e⟩
      . exact nomatch e
      . injection e with e1 _;rw[e1]
  byValue:=λk v h=>by
    rcases cK h with⟨i,t,rfl,rfl⟩ | ⟨x,t,rfl,rfl⟩<;>rfl
  pyHash:=λhv h=>by
    rcases cK hv with⟨i,t,rfl,rfl⟩ | ⟨x,t,rfl,rfl⟩
    . exact wpAny_pyHash_int h
    . exact wpAny_pyHash_str h
  eqBool:=λhu hv h=>by
    rcases cK hu with⟨i,t,rfl,rfl⟩ | ⟨x,t,rfl,rfl⟩
    . rcases cK hv with⟨j,u,rfl,rfl⟩ | ⟨y,u,rfl,rfl⟩
      . rw[Kf] at h;exact yy h
      . rw[Ke] at h;exact SeqAt.EqAt.int_str i t y u _ _ _ _ h
    . rcases cK hv with⟨j,u,rfl,rfl⟩ | ⟨y,u,rfl,rfl⟩
      . rw[Kd] at h;exact SeqAt.EqAt.str_int x t j u _ _ _ _ h
      . rw[Kc] at h;exact wpAny_eqBool_str h
  «strs» := λk x t v h=>by
    rcases cK h with⟨i,u,rfl,e⟩ | ⟨y,u,rfl,e⟩
    . exact nomatch e
    . injection e with e1 _;subst e1;cases v<;>rfl
theorem AU(prog:aq)(w:bb)(k:aY)(v:ac):(cT prog w).is k v=sA k v:=rfl
theorem yQ(prog:aq)(w:bb)(i:Int)(t:QK):(cT prog w).is (.inl i) (.int i t)=ah:=D6 i t
theorem yP(prog:aq)(w:bb)(x:az)(t:QK):(cT prog w).is (.inr x) (.str x t)=ah:=D5 x t
inductive V where
  |non | bl (b:Bool) | int (i:Int) | str (x:az) | byt (b:Array UInt8) | flt (b:UInt64) | ref (a:ae) | ty (n:String)
  deriving DecidableEq
noncomputable def bX:V->ac->Prop
  | .non,u=>u=gj
  | .bl b,u=>u=xc b
  | .int i,u=>∃t,u=Value.int i t
  | .str x,u=>∃t,u=Value.str x t
  | .byt b,u=>∃t,u=Qc b t
  | .flt b,u=>∃t,u=zp b t
  | .ref a,u=>u=Value.ref a
  | .ty n,u=>u=Qr n
noncomputable abbrev bF:List V->List ac->Prop:=Paired bX
theorem bF.length{xs:List V}{us:List ac}(r:bF xs us):xs.length=us.length:=Paired.length r
theorem bF.get:∀{xs:List V} {us:List ac} {i:Nat} {x:V},bF xs us->xs[i]?=aa x -> ∃u,us[i]?=aa u/\bX x u
  |_,_,_,_,.nil,e=>by simp at e
  |_,_,0,_,.cons r _,e=>by simp at e;subst e;exact⟨_,rfl,r⟩
  |_,_,i+1,x,.cons _ t,e=>by
    obtain⟨u,h1,h2⟩:=bF.get (i:=i) (x:=x) t (by simpa using e);exact⟨u,by simpa using h1,h2⟩
theorem bF.append:∀{xs ys:List V} {us ws:List ac},bF xs us->bF ys ws->bF (xs++ys) (us++ws)
  |_,_,_,_,.nil,s=>s
  |_,_,_,_,.cons r t,s=>.cons r (bF.append t s)
theorem bF.take:∀{xs:List V} {us:List ac} (n:Nat),bF xs us->bF (xs.take n) (us.take n)
  |_,_,0,_=>.nil
  |_,_,_+1,.nil=>.nil
  |_,_,n+1,.cons r t=>.cons r (bF.take n t)
theorem bF.drop:∀{xs:List V} {us:List ac} (n:Nat),bF xs us->bF (xs.drop n) (us.drop n)
  |_,_,0,r=>r
  |_,_,_+1,.nil=>.nil
  |_,_,n+1,.cons _ t=>bF.drop n t
noncomputable def mH:Option V->Option ac->Prop
  |some v,aa u=>bX v u
  |none,ap=>True
  |_,_=>False
variable {κ:Type}
noncomputable def KV:List (κ×V)->List (κ×ac)->Prop:=Paired λ(p:κ×V) (q:κ×ac)=>p.1=q.1/\bX p.2 q.2
noncomputable def kV:aY->V
  | .inl i=>.int i
  | .inr x=>.str x
inductive HO where
  /-- a list -/
  |lst (xs:List V)
  /-- a tuple (never changes) -/
  |tup (xs:List V)
  /-- a dict whose keys are ints and texts;one whose keys are tuples of ints and texts (the empty one is both) -/
  |dK (kvs:List (aY×V)) | dT (ep:Nat) (kvs:List (List aY×V))
  /-- a set of ints: its members,its size -/
  |set (S:Int->Bool) (n:Nat)
  /-- an instance of the class at C,its dict at dx,its attributes -/
  |ins (C dx:ae) (fs:List (az×V))
  /-- the dict of the instance at x -/
  |own (x:ae)
  /-- the dict of an exception -/
  |xd (fs:List (az×V))
  /-- a bound method,f of x -/
  |met (f x:ae)
  /-- a range object lo,lo+1,.. below hi -/
  |rng (lo hi:Int)
  /-- a thing that is known to the object (the script;a dict while a loop walks it): read,never written while it is so -/
  |frz (o:im) (u:HO)
  /-- a code object's table -/
  |tbl (ps:Array ac)
  /-- a code object's table whose lambdas are named q;such a lambda's code -/
  |lam (q:az) | cod (q:az)
  /-- any other thing,by what is ah of its one object (a def of one's own: SetO a S n:=HO.ext λh=>..) -/
  |ext (φ:ca->Prop)
noncomputable abbrev Hp:=ae->Option HO
noncomputable def upd(H:Hp)(a:ae)(o:HO):Hp:=λb=>if b=a then aa o else H b
variable {H:Hp}
theorem bO{o:HO}:upd H a o a=aa o:=by unfold upd;rw[QL rfl]
theorem bB{o:HO}(h:b≠a):upd H a o b=H b:=by unfold upd;rw[Qi h]
theorem M8{o u:HO}(h:H a=aa o)(h':H b=aa u)(d:o≠u):a≠b:=by
  intro e;subst e;rw[h] at h';exact d (Option.some.inj h')
theorem bC{o:HO}(h:H a=aa o)(h':H b=ap):a≠b:=by
  intro e;subst e;rw[h] at h';cases h'
section
variable (P:aq)(w:bb)
noncomputable def cF(H:Hp)(h:ca)(a:ae):HO->Prop
  | .lst xs=>xs.length<=ay /\ ∃(its:List ac) (n:Nat),bF xs its/\h.get? a=aa { cls:=.type "list",data:=.seq its.toArray n }
  | .tup xs=>xs.length<=ay /\ ∃its:List ac,bF xs its/\QD h a its.toArray
  | .dK kvs=>kvs.length<=ay/\(a==ed)=aj /\ ∃vs,KV kvs vs/\h.DictOf (cT P w) a vs
  | .dT ep kvs=>kvs.length<=ay/\(a==ed)=aj /\ ∃xs:List (List aY×ae×ac),
      Paired (λ(p:List aY×V) (q:List aY×ae×ac)=>p.1=q.1/\H q.2.1=aa (.tup (p.1.map kV))/\bX p.2 q.2.2) kvs xs /\
      ∃o es,h.get? a=aa o/\o.ExactDict/\o.data=.dict es ep/\es.toList=xs.map (entryOfKey (we (cT P w)))/\(xs.map (·.1)).Nodup
  | .set S n=>h.SetOf (intKind P w) a S n
  | .ins C dx fs=>H dx=aa (.own a)/\fs.length<=1000/\dx≠a/\h.get? a=aa (pf C dx) /\
      ∃mA,h.Ns1 dx mA/\(∀f,mH (fs.lookup f) (mA f))/\xw mA (fs.map (·.1))
  | .own _=>∃o,h.get? a=aa o
  | .xd fs=>∃mA,h.Ns1 a mA /\ ∀f,mH (fs.lookup f) (mA f)
  | .rng lo hi=>∃t u v,h.get? a=aa { cls:=.type "range",data:=.fields #[.int lo t,.int hi u,.int 1 v] }
  | .frz o u=>h.get? a=aa o/\cF H h a u
  | .tbl ps=>h.get? a=aa { cls:=.none,data:=.fields ps }
  | .lam q=>∃ps:Array ac,h.get? a=aa (W.tabObj ps)/\TriplesOk ps.toList /\ ∀p:gv,codeAmong p ps.toList=ap \/ ∃c,codeAmong p ps.toList=aa (.ref c)/\H c=aa (.cod q)
  | .cod q=>h.CodeRec (.ref a) q
  | .met f x=>h.get? a=aa (zq (.ref f) (.ref x))
  | .ext φ=>φ h/\(∃o,h.get? a=aa o) /\ ∀h1 h2:ca,φ h1->(∀o,h1.get? a=aa o->h2.get? a=aa o)->φ h2
noncomputable def nV(H:Hp)(h:ca):Prop:=∀a o,H a=aa o->cF P w H h a o
end
variable {H':Hp}
section
variable {o:HO}
theorem cF.lt(x:cF P w H h a o):a<h.objs.size:=by
  cases o with
  |lst xs=>obtain⟨_,_,_,_,e⟩:=x;exact av e
  |tup xs=>obtain⟨_,_,_,p⟩:=x;exact p.lt
  |dK kvs=>obtain⟨_,_,_,_,o,_,_,e,_⟩:=x;exact av e
  |dT ep kvs=>obtain⟨_,_,_,_,o,_,e,_⟩:=x;exact av e
  |set S n=>obtain⟨o,_,_,_,e,_⟩:=x;exact av e
  |ins C dx fs=>obtain⟨_,_,_,e,_⟩:=x;exact av e
  |own y=>obtain⟨_,e⟩:=x;exact av e
  |xd fs=>obtain⟨_,⟨_,_,_,e,_⟩,_⟩:=x;exact av e
  |rng lo hi=>obtain⟨_,_,_,e⟩:=x;exact av e
  |frz ob u=>obtain⟨e,_⟩:=x;exact av e
  |tbl ps=>exact av (show h.get? a=aa _ from x)
  |lam q=>obtain⟨_,e,_⟩:=x;exact av e
  |cod q=>obtain⟨_,_,_,_,e,e2,_⟩:=x;cases e;exact av e2
  |met f y=>exact av (show h.get? a=aa _ from x)
  |ext φ=>obtain⟨_,⟨_,e⟩,_⟩:=x;exact av e
theorem Paired.mapP{α β:Type}{F G:α->β->Prop}:∀{l₁:List α} {l₂:List β},Paired F l₁ l₂->(∀a b,F a b->G a b)->Paired G l₁ l₂
  |_,_,.nil,_=>.nil
  |_,_,.cons r t,f=>.cons (f _ _ r) (Paired.mapP t f)
theorem cF.stay(x:cF P w H h a o)(k:∀b u,(b=a \/ H b=aa (.own a))->h.get? b=aa u->h'.get? b=aa u)
    (ho:∀b,H b=aa (.own a)->H' b=aa (.own a)) (ht:∀b xs,H b=aa (.tup xs)->H' b=aa (.tup xs)) (hc:∀b q,H b=aa (.cod q)->H' b=aa (.cod q)):cF P w H' h' a o:=by
  induction o with
  |lst xs=>obtain⟨z,its,n,r,e⟩:=x;exact⟨z,its,n,r,k _ _ (.inl rfl) e⟩
  |tup xs=>obtain⟨z,its,r,ob,e,c⟩:=x;exact⟨z,its,r,ob,k _ _ (.inl rfl) e,c⟩
  |dK kvs=>obtain⟨z,y,vs,r,ob,es,ep,e,c⟩:=x;exact⟨z,y,vs,r,ob,es,ep,k _ _ (.inl rfl) e,c⟩
  |dT ep kvs=>
    obtain⟨z,y,xs,r,ob,es,e,c⟩:=x;exact⟨z,y,xs,Paired.mapP r λp q z=>⟨z.1,ht _ _ z.2.1,z.2.2⟩,ob,es,k _ _ (.inl rfl) e,c⟩
  |set S n=>obtain⟨ob,es,ep,t,e,c⟩:=x;exact⟨ob,es,ep,t,k _ _ (.inl rfl) e,c⟩
  |ins C dx fs=>
    obtain⟨d,z,ne,e,mA,⟨od,es,ep,e2,c⟩,r⟩:=x;exact⟨ho _ d,z,ne,k _ _ (.inl rfl) e,mA,⟨od,es,ep,k _ _ (.inr d) e2,c⟩,r⟩
  |own y=>obtain⟨ob,e⟩:=x;exact⟨ob,k _ _ (.inl rfl) e⟩
  |xd fs=>obtain⟨mA,⟨od,es,ep,e,c⟩,r⟩:=x;exact⟨mA,⟨od,es,ep,k _ _ (.inl rfl) e,c⟩,r⟩
  |rng lo hi=>obtain⟨t,u,v,e⟩:=x;exact⟨t,u,v,k _ _ (.inl rfl) e⟩
  |frz ob u ih=>obtain⟨e,q⟩:=x;exact⟨k _ _ (.inl rfl) e,ih q⟩
  |tbl ps=>
    have e:h.get? a=aa { cls:=.none,data:=.fields ps }:=x;show h'.get? a=aa { cls:=.none,data:=.fields ps };exact k a _ (.inl rfl) e
  |lam q=>
    obtain⟨ps,e,t,f⟩:=x;exact⟨ps,k _ _ (.inl rfl) e,t,λp=>(f p).imp_right λzq1=>by obtain⟨c,e1,e2⟩:=zq1;exact⟨c,e1,hc _ _ e2⟩⟩
  |cod q=>
    obtain⟨_,o,vs,t,e,e2,e3⟩:=x;cases e;exact⟨a,o,vs,t,rfl,k _ _ (.inl rfl) e2,e3⟩
  |met f y=>
    have e:h.get? a=aa (zq (.ref f) (.ref y)):=x;show h'.get? a=aa (zq (.ref f) (.ref y));exact k a _ (.inl rfl) e
  |ext φ=>obtain⟨p,⟨o,e⟩,st⟩:=x;exact⟨st _ _ p λo q=>k _ _ (.inl rfl) q,⟨o,k _ _ (.inl rfl) e⟩,st⟩
theorem nV.lt(x:nV P w H h)(e:H a=aa o):a<h.objs.size:=(x a o e).lt
theorem nV.fresh(x:nV P w H h)(e:h.objs.size<=a):H a=ap:=by
  cases q:H a with
  |none=>rfl
  |some u=>exact absurd (df (x.lt q) e) (lc _)
theorem nV.kept(x:nV P w H h)(k:∀b u,h.get? b=aa u->h'.get? b=aa u):nV P w H h':=λa o e=>
  (x a o e).stay (λb u _ q=>k b u q) (λ_ q=>q) (λ_ _ q=>q) λ_ _ q=>q
theorem nV.laid(x:nV P w H h)(k:∀b u,h.get? b=aa u->h'.get? b=aa u)(hp:h.objs.size<=a)(new:cF P w (upd H a o) h' a o):nV P w (upd H a o) h':=λb u e=>by
  have hn:=x.fresh hp;by_cases hb:b=a
  . subst hb;rw[bO] at e;cases e;exact new
  . rw[bB hb] at e;exact(x b u e).stay (λc v _ q=>k c v q) (λc q=>by rw[bB (bC q hn)];exact q) (λc xs q=>by rw[bB (bC q hn)];exact q) λc xs q=>by rw[bB (bC q hn)];exact q
end
noncomputable def Rd(H:Hp)(a:ae)(u:HO):Prop:=H a=aa u \/ ∃o,H a=aa (.frz o u)
theorem Rd.ok{u:HO}(r:Rd H a u)(x:nV P w H h):cF P w H h a u:=by
  rcases r with r | ⟨o,r⟩
  . exact x a u r
  . obtain⟨_,q⟩:=x a _ r;exact q
noncomputable def DQ:Option HO->Prop
  |some (.lst _)=>True
  |some (.dK _)=>True
  |some (.dT _ _)=>True
  |some (.set _ _)=>True
  |some (.ins _ _ _)=>True
  |some (.ext _)=>True
  |_=>False
section
variable {x e:ae}{o':HO}
theorem nV.write(ok:nV P w H h)(mu:DQ (H x))(he:e=x \/ H e=aa (.own x))(k:∀b u,b≠e->h.get? b=aa u->h'.get? b=aa u)(heo:∃u,h'.get? e=aa u)
    (new:cF P w (upd H x o') h' x o'):nV P w (upd H x o') h':=λb u q=>by
  have nown:∀c y,H c=aa (.own y)->c≠x:=λc y r z=>by subst z;rw[r] at mu;exact mu
  have ntup:∀c xs,H c=aa (.tup xs)->c≠x:=λc xs r z=>by subst z;rw[r] at mu;exact mu
  have ncod:∀c q,H c=aa (.cod q)->c≠x:=λc xs r z=>by subst z;rw[r] at mu;exact mu
  by_cases hb:b=x
  . subst hb;rw[bO] at q;cases q;exact new
  . rw[bB hb] at q;by_cases hbe:b=e
    . have q':H b=aa (.own x):=by
        rcases he with z | z
        . exact absurd (hbe.trans z) hb
        . rw[hbe];exact z
      rw[q] at q';cases q';obtain⟨v,hv⟩:=heo;exact⟨v,by rw[hbe];exact hv⟩
    . refine(ok b u q).stay (λc v hc r=>k c v ?_ r) (λc r=>by rw[bB (nown c b r)];exact r) (λc xs r=>by rw[bB (ntup c xs r)];exact r) λc xs r=>by rw[bB (ncod c xs r)];exact r
      rcases hc with rfl | hc
      . exact hbe
      . rintro rfl;rcases he with z | z
        . exact nown c b hc z
        . rw[hc] at z;cases z;exact hb rfl
end
structure Un(fs ex:List ae)(H H':Hp)(h h':ca):Prop where
  keep:∀b o,h.get? b=aa o->H b=ap->b ∉ fs->b ∉ ex->h'.get? b=aa o
  slot:∀b o,h.get? b=aa o->H b=ap->b∈fs->b ∉ ex -> ∃sl,h'.get? b=aa { o with slots:=sl }
  free:∀b o,h.get? b=aa o->H b=ap->b ∉ ex->H' b=ap
  there:∀b o,h.get? b=aa o->b ∉ ex -> ∃o',h'.get? b=aa o'
  tups:∀b xs,H b=aa (.tup xs)->H' b=aa (.tup xs)
  frzs:∀b o u,H b=aa (.frz o u)->H' b=aa (.frz o u)
  tbls:∀b ps,H b=aa (.tbl ps) -> ∃more,H' b=aa (.tbl (ps++more))
section
variable {fs fs' ex ex':List ae}{H1 H2:Hp}{h1 h2:ca}{x e:ae}{o:HO}
theorem Un.any(u:Un fs ex H H1 h h1){ob:im}(q:h.get? b=aa ob)(n:H b=ap)(hx:b ∉ ex):∃sl,h1.get? b=aa { ob with slots:=sl }:=by
  by_cases hb:b∈fs
  . exact u.slot b ob q n hb hx
  . exact⟨ob.slots,u.keep b ob q n hb hx⟩
theorem Un.kept(k:∀b u,h.get? b=aa u->h'.get? b=aa u):Un fs ex H H h h':=
  ⟨λb ob q _ _ _=>k b ob q,λb ob q _ _ _=>⟨ob.slots,k b ob q⟩,λ_ _ _ n _=>n,λb ob q _=>⟨ob,k b ob q⟩,λ_ _ q=>q,λ_ _ _ q=>q,λ_ ps q=>⟨#[],by rw[q];simp⟩⟩
theorem Un.refl:Un fs ex H H h h:=Un.kept λ_ _ q=>q
theorem Un.laid(k:∀b u,h.get? b=aa u->h'.get? b=aa u)(hp:h.objs.size<=a)(hn:H a=ap):Un fs ex H (upd H a o) h h' where
  keep:=λb u q _ _ _=>k b u q
  slot:=λb u q _ _ _=>⟨u.slots,k b u q⟩
  free:=λb u q n _=>by rw[bB (ef (df (av q) hp))];exact n
  there:=λb u q _=>⟨u,k b u q⟩
  tups:=λb xs q=>by rw[bB (bC q hn)];exact q
  frzs:=λb u xs q=>by rw[bB (bC q hn)];exact q
  tbls:=λb ps q=>⟨#[],by rw[bB (bC q hn),q];simp⟩
theorem Un.write(mu:DQ (H x))(he:e=x \/ H e=aa (.own x))(k:∀b u,b≠e->h.get? b=aa u->h'.get? b=aa u)(heo:∃u,h'.get? e=aa u):Un fs ex H (upd H x o) h h':=by
  have hx:∀b,H b=ap->b≠x:=λb n z=>by subst z;rw[n] at mu;exact mu
  have hb:∀b,H b=ap->b≠e:=λb n z=>by
    subst z;rcases he with r | r
    . exact hx b n r
    . rw[n] at r;cases r
  have hm:∀b u,H b=aa u -> ¬DQ (aa u)->b≠x:=λb u q nm z=>by subst z;rw[q] at mu;exact nm mu
  refine⟨λb u q n _ _=>k b u (hb b n) q,λb u q n _ _=>⟨u.slots,k b u (hb b n) q⟩,λb u q n _=>by rw[bB (hx b n)];exact n,λb u q _=>?_,
    λb xs q=>by rw[bB (hm b _ q λz=>z)];exact q,λb u xs q=>by rw[bB (hm b _ q λz=>z)];exact q,λb ps q=>⟨#[],by rw[bB (hm b _ q λz=>z),q];simp⟩⟩
  by_cases hbe:b=e
  . subst hbe;exact heo
  . exact⟨u,k b u hbe q⟩
end
noncomputable def trk(h:ca)(H:Hp):List ae:=(ff h.objs.size).filter λa=>(H a).isSome
noncomputable def vU(h:ca)(H:Hp):ca:=W.hideAll h (trk h H)
theorem DB(h:ca)(H:Hp):(vU h H).objs.size=h.objs.size:=W.hideAll_size _ _
theorem Fo(e:h.get? b=aa o)(n:H b=ap):(vU h H).get? b=aa o:=
  W.hideAll_get _ e λhm=>by
    have q:(H b).isSome=ah:=(Oo.mp hm).2;rw[n] at q;simp at q
theorem HN(e:(vU h H).get? b=aa o):h.get? b=aa o/\H b=ap:=by
  have e':h.get? b=aa o:=W.of_hideAll (trk h H) e;refine⟨e',?_⟩;cases q:H b with
  |none=>rfl
  |some x=>
    have hm:b∈trk h H:=Oo.mpr ⟨nh.mpr (av e'),by simp[q]⟩;have z:(vU h H).get? b=ap:=W.hideAll_none (trk h H) hm;rw[z] at e;cases e
structure Mod(K:ai)(mg:az->Option ac)(base:ca):Prop where
  kin:K.In base
  glob:base.Ns fk mg
  blt:∃mb,base.Ns P5 mb /\ ∀x:az,x ≠ "__name__" -> mb x=jy x
  nolimit:base.NoLimit
/-- the context: a def's R0 (or a comprehension's block) running. base: fixed through the Rc law;s₀,HZ: the entry;outer: the frames whose slots others may change (a def's callers);stack: all frames that run;
   ex: iterators that were made ahead of the entry and are walked here (a comprehension's);fn: the names whose cells were made at the entry (a def: all;a comprehension's block: its own);calm: not within an except suite;pn: pj that every state bears;xe: what is wanted of an exception that leaves the code -/
structure Cx where
  prog:aq
  w:bb
  K:ai
  mg:az->Option ac
  base:ca
  A:cf
  N:List az
  s₀:af
  HZ:Hp
  env:uy
  outer:List uy
  stack:List uy
  ex:List ae
  fn:az->Bool
  calm:Bool
  pn:List (ae×im)
  xe:ac->af->Prop
  hs:List ae
noncomputable def frs(l:List uy):List ae:=l.filterMap (·.frame)
noncomputable abbrev Cx.fs(X:Cx):List ae:=frs X.outer
noncomputable def N8(sc:Scope)(x:az):Prop:=sc.names.lookup x=aa .local \/ sc.names.lookup x=aa .cell \/ sc.names.lookup x=aa .free
noncomputable def GM(sc:Scope)(x:az):Prop:=sc.names.lookup x=aa .local \/ sc.names.lookup x=aa .cell
noncomputable def OL(env:uy)(h:ca)(m:az->Option ac)(x:az)(u:ac):Prop:=
  (env.kindOf x=aa .local/\m x=aa u) \/ ((env.kindOf x=aa .cell \/ env.kindOf x=aa .free) /\ ∃c,env.cells.lookup x=aa c/\h.IsCell c (aa u))
structure Cx.Ok(X:Cx):Prop where
  mod:Mod X.K X.mg X.base
  kind:X.env.scope.kind=.function
  glob:X.env.globals=fk
  blt:X.env.builtins=P5
  above:X.s₀.heap.objs.size<=X.env.locals
  inj:∀x y c,X.env.cells.lookup x=aa c->X.env.cells.lookup y=aa c->x=y
  has:∀x,(X.env.kindOf x=aa .cell \/ X.env.kindOf x=aa .free) -> ∃c,X.env.cells.lookup x=aa c
  cab:∀x c,X.fn x=ah->X.env.cells.lookup x=aa c->X.s₀.heap.objs.size<=c
  hd:X.calm=ah->X.A.handled=ap
  frames:X.A.frames=aa X.stack
  stk:X.stack=X.outer \/ (X.stack=X.env::X.outer/\X.env.frame=aa X.env.locals)
  exf:∀b∈X.ex,b≠X.env.locals /\ ∀x c,X.env.cells.lookup x=aa c->c≠b
  bs:∀b o,X.base.get? b=aa o->X.s₀.heap.get? b=aa o/\X.HZ b=ap
  bsz:X.base.objs.size<=X.s₀.heap.objs.size
  noex:∀b o,X.base.get? b=aa o->b ∉ X.ex
  exfs:∀b∈X.ex,b ∉ X.fs
  funs:X.s₀.heap.FunFrames X.base X.outer
  frf:∀b∈X.fs,X.HZ b=ap
  hq:X.A.handled=ap \/ ∃a,a∈X.hs/\X.A.handled=aa (.ref a)
structure Inv(X:Cx)(pj:List (ae×im))(σ:List (Option V))(H:Hp)(s:af):Prop where
  ok:X.Ok
  os:s.os=X.s₀.os
  bare:sh s.gens
  base:Un X.fs X.ex X.HZ H X.s₀.heap s.heap
  loc:∃m,s.heap.Ns X.env.locals m /\ ∀(i:Nat) (x:az) (v:V),X.N[i]?=aa x->σ[i]?=aa (aa v)->N8 X.env.scope x -> ∃u,bX v u/\OL X.env s.heap m x u
  cell:∀x c,X.env.cells.lookup x=aa c -> ∃v,s.heap.IsCell c v
  free:H X.env.locals=ap
  freeC:∀x c,X.env.cells.lookup x=aa c->H c=ap
  pin:∀p∈X.pn++pj,s.heap.get? p.1=aa p.2/\H p.1=ap/\p.1≠X.env.locals/\p.1 ∉ X.fs /\ ∀v,p.2.data ≠ .cell v
  hok:nV X.prog X.w H s.heap
  len:σ.length=X.N.length
  mild:∀a∈X.hs,∃o u,H a=aa (.frz o u)/\pP o
variable {v:V}{t' j:Nat}{ch:List ae}{s':af}
section
variable {X:Cx}{pj:List (ae×im)}{σ:List (Option V)}{H H':Hp}{s:af}{h':ca}
theorem Cx.Ok.nofr(ok:X.Ok)(e:X.base.get? b=aa o):b ∉ X.fs:=λhb=>by
  have:=(ok.funs.mem hb).1;rw[e] at this;cases this
theorem Inv.bs(I:Inv X pj σ H s):∀b o,X.base.get? b=aa o->s.heap.get? b=aa o/\H b=ap:=λb o e=>
  ⟨I.base.keep b o (I.ok.bs b o e).1 (I.ok.bs b o e).2 (I.ok.nofr e) (I.ok.noex b o e),I.base.free b o (I.ok.bs b o e).1 (I.ok.bs b o e).2 (I.ok.noex b o e)⟩
theorem Inv.qu(I:Inv X pj σ H s):Qu X.A s.heap:=by
  rcases I.ok.hq with e | ⟨a,ha,e⟩
  . exact .inl e
  . obtain⟨o,u,g,m⟩:=I.mild a ha;obtain⟨ho,_⟩:=(show cF X.prog X.w H s.heap a (.frz o u) from I.hok a _ g);exact .inr ⟨a,o,e,ho,m⟩
theorem Inv.bk(I:Inv X pj σ H s):∀b o,X.base.get? b=aa o->s.heap.get? b=aa o:=λb o e=>(I.bs b o e).1
theorem Inv.mod(I:Inv X pj σ H s):Mod X.K X.mg X.base:=I.ok.mod
theorem Inv.kIn(I:Inv X pj σ H s):X.K.In s.heap:=I.ok.mod.kin.keeps I.bk
theorem Inv.lt(I:Inv X pj σ H s):X.env.locals<s.heap.objs.size:=let ⟨_,hn,_⟩:=I.loc;hn.lt
theorem Inv.sz(I:Inv X pj σ H s):X.s₀.heap.objs.size<=s.heap.objs.size:=fo I.ok.above (vm I.lt)
theorem Inv.nofs(I:Inv X pj σ H s)(h:s.heap.objs.size<=a):a ∉ X.fs:=λhb=>by
  obtain⟨_,o,ho,_⟩:=I.ok.funs.mem hb;exact absurd (df (av ho) (fo I.sz h)) (lc _)
theorem Inv.cne(I:Inv X pj σ H s):∀x c,X.env.cells.lookup x=aa c->c≠X.env.locals:=λx c e z=>by
  obtain⟨v,o,ho,hd⟩:=I.cell x c e;obtain⟨m,⟨o',es,ep,ho',hd',_⟩,_⟩:=I.loc;rw[z,ho'] at ho;cases ho;rw[hd'] at hd;cases hd
theorem Inv.funs(I:Inv X pj σ H s):s.heap.FunFrames X.base X.outer:=by
  have all:∀(l:List uy),(∀b∈frs l,b∈X.fs)->X.s₀.heap.FunFrames X.base l->s.heap.FunFrames X.base l:=by
    intro l;induction l with
    |nil=>intro _ _;trivial
    |cons env r ih=>
      intro hs hl;obtain⟨hk,⟨L,o,hf,hn,ho,hd⟩,hr⟩:=hl;have hL:L∈X.fs:=hs L (by unfold frs;rw[qm,hf];exact bw);obtain⟨sl,e⟩:=I.base.slot L o ho (I.ok.frf L hL) hL λz=>I.ok.exfs L z hL;exact⟨hk,⟨L,_,hf,hn,e,hd⟩,ih (λb hb=>hs b (by unfold frs;rw[qm,hf];exact bj _ hb)) hr⟩
  exact all X.outer (λ_ hb=>hb) I.ok.funs
theorem Inv.stack(I:Inv X pj σ H s):s.heap.FunFrames X.base X.stack:=by
  rcases I.ok.stk with e | ⟨e,hf⟩
  . rw[e];exact I.funs
  . rw[e];obtain⟨m,hn,_⟩:=I.loc;refine .cons (by rw[I.ok.kind];decide) hf hn ?_ I.funs;exact Heap.get?_none_of_le (fo I.ok.bsz I.ok.above)
theorem Inv.stkSub(I:Inv X pj σ H s):∀b∈frs X.stack,b∈X.env.locals::X.fs:=λb hb=>by
  rcases I.ok.stk with e | ⟨e,hf⟩
  . rw[e] at hb;exact bj _ hb
  . rw[e] at hb;unfold frs at hb;rw[qm,hf] at hb;exact hb
theorem Inv.stkFree(I:Inv X pj σ H s):∀b∈frs X.stack,H b=ap:=λb hb=>by
  rcases de.mp (I.stkSub b hb) with e | hb
  . rw[e];exact I.free
  . obtain⟨_,o,ho,_⟩:=I.ok.funs.mem hb;exact I.base.free b o ho (I.ok.frf b hb) λz=>I.ok.exfs b z hb
theorem Inv.step{g':Array xx}{t':Nat}{d':QF}{ch:List ae}(I:Inv X pj σ H s)
    (hch:∀b∈ch,(b∈X.ex \/ X.s₀.heap.objs.size<=b)/\b≠X.env.locals/\(∀x c,X.env.cells.lookup x=aa c->c≠b) /\ ∀p∈X.pn++pj,p.1≠b)
    (keep:∀b o,b≠X.env.locals->b ∉ X.fs->b ∉ ch->s.heap.get? b=aa o->H b=ap->h'.get? b=aa o)
    (slot:∀b o,b≠X.env.locals->b∈X.fs->b ∉ ch->s.heap.get? b=aa o->H b=ap -> ∃sl,h'.get? b=aa { o with slots:=sl }) (free:∀b o,b ∉ ch->s.heap.get? b=aa o->H b=ap->H' b=ap)
    (there:∀b o,b ∉ ch->s.heap.get? b=aa o -> ∃o',h'.get? b=aa o')
    (tups:∀b xs,H b=aa (.tup xs)->H' b=aa (.tup xs)) (frzs:∀b o u,H b=aa (.frz o u)->H' b=aa (.frz o u)) (tbls:∀b ps,H b=aa (.tbl ps) -> ∃more,H' b=aa (.tbl (ps++more)))
    (ns:∀m,s.heap.Ns X.env.locals m->h'.Ns X.env.locals m) (hok:nV X.prog X.w H' h') (hg:sh g'):
    Inv X pj σ H' { s with heap:=h',gens:=g',drawn:=d',toks:=t' }:=by
  have neL:∀b o,X.s₀.heap.get? b=aa o->b≠X.env.locals:=λb o e=>ef (df (av e) I.ok.above);have neC:∀b o,X.s₀.heap.get? b=aa o->b ∉ X.ex->b ∉ ch:=λb o e hx hb=>by
    rcases(hch b hb).1 with z | z
    . exact hx z
    . exact absurd (df (av e) z) (lc _)
  have cellK:∀x c,X.env.cells.lookup x=aa c -> ∀v,s.heap.IsCell c v->h'.IsCell c v:=λx c e v zq2=>by
    obtain⟨o,ho,hd⟩:=zq2;have nch:c ∉ ch:=λz=>(hch c z).2.2.1 x c e rfl;by_cases hc:c∈X.fs
    . obtain⟨sl,q⟩:=slot c o (I.cne x c e) hc nch ho (I.freeC x c e);exact⟨_,q,hd⟩
    . exact⟨o,keep c o (I.cne x c e) hc nch ho (I.freeC x c e),hd⟩
  refine⟨I.ok,I.os,hg,⟨λb o e n hb hx=>?_,λb o e n hb hx=>?_,λb o e n hx=>?_,λb o e hx=>?_,λb xs e=>tups b xs (I.base.tups b xs e),λb o xs e=>frzs b o xs (I.base.frzs b o xs e),λb ps e=>?_⟩,?_,λx c e=>?_,?_,λx c e=>?_,λp hp=>?_,hok,I.len,λa ha=>let ⟨o,u,g,m⟩:=I.mild a ha;⟨o,u,frzs a o u g,m⟩⟩
  . exact keep b o (neL b o e) hb (neC b o e hx) (I.base.keep b o e n hb hx) (I.base.free b o e n hx)
  . obtain⟨sl,e1⟩:=I.base.slot b o e n hb hx;obtain⟨sl',e2⟩:=slot b _ (neL b o e) hb (neC b o e hx) e1 (I.base.free b o e n hx);exact⟨sl',e2⟩
  . obtain⟨o',e1⟩:=I.base.there b o e hx;exact free b o' (neC b o e hx) e1 (I.base.free b o e n hx)
  . obtain⟨o',e1⟩:=I.base.there b o e hx;exact there b o' (neC b o e hx) e1
  . obtain⟨m1,e1⟩:=I.base.tbls b ps e;obtain⟨m2,e2⟩:=tbls b _ e1;exact⟨m1++m2,by rw[e2,Array.append_assoc]⟩
  . obtain⟨m,hn,hl⟩:=I.loc;refine⟨m,ns m hn,λi x v e1 e2 e3=>?_⟩;obtain⟨u,r,l⟩:=hl i x v e1 e2 e3;refine⟨u,r,?_⟩;rcases l with l | ⟨k,c,e,z⟩
    . exact .inl l
    . exact .inr ⟨k,c,e,cellK x c e _ z⟩
  . obtain⟨v,z⟩:=I.cell x c e;exact⟨v,cellK x c e v z⟩
  . obtain⟨m,⟨o,_,_,ho,_⟩,_⟩:=I.loc;exact free _ o (λz=>(hch _ z).2.1 rfl) ho I.free
  . obtain⟨v,o,ho,hd⟩:=I.cell x c e;exact free c o (λz=>(hch c z).2.2.1 x c e rfl) ho (I.freeC x c e)
  . obtain⟨e,n,ne,nf,d⟩:=I.pin p hp;have nch:p.1 ∉ ch:=λz=>(hch p.1 z).2.2.2 p hp rfl;exact⟨keep p.1 p.2 ne nf nch e n,free p.1 p.2 nch e n,ne,nf,d⟩
theorem Inv.un(I:Inv X pj σ H s)(u:Un X.fs [] H H' s.heap h')(hok:nV X.prog X.w H' h'):Inv X pj σ H' { s with heap:=h',toks:=t' }:=by
  obtain⟨m,⟨o,es,ep,ho,r⟩,_⟩:=id I.loc;obtain⟨sl,hL⟩:=u.any ho I.free (by simp);exact I.step (g':=s.gens) (d':=s.drawn) (ch:=[]) (λ_ z=>nomatch z) (λb o _ hb _ e n=>u.keep b o e n hb (by simp)) (λb o _ hb _ e n=>u.slot b o e n hb (by simp)) (λb o _ e n=>u.free b o e n (by simp)) (λb o _ e=>u.there b o e (by simp)) u.tups u.frzs u.tbls (λm' hm=>by
    obtain⟨o',es',ep',ho',r'⟩:=hm;rw[ho] at ho';cases ho';exact⟨_,es',ep',hL,r'⟩) hok I.bare
theorem Inv.call{g':Array xx}{d':QF}(I:Inv X pj σ H s)(u:Un (frs X.stack) ch H H' s.heap h')(hok:nV X.prog X.w H' h')(hg:sh g')
    (hch:∀b∈ch,(b∈X.ex \/ X.s₀.heap.objs.size<=b)/\b≠X.env.locals/\(∀x c,X.env.cells.lookup x=aa c->c≠b) /\ ∀p∈X.pn++pj,p.1≠b):
    Inv X pj σ H' { s with heap:=h',gens:=g',drawn:=d',toks:=t' }:=by
  obtain⟨m,⟨o,es,ep,ho,r⟩,_⟩:=id I.loc;obtain⟨sl,hL⟩:=u.any ho I.free λz=>(hch _ z).2.1 rfl;exact I.step (ch:=ch) hch (λb o hL hb hc e n=>u.keep b o e n (λz=>(de.mp (I.stkSub b z)).elim hL hb) hc) (λb o _ _ hc e n=>u.any e n hc) (λb o hc e n=>u.free b o e n hc) (λb o hc e=>u.there b o e hc) u.tups u.frzs u.tbls (λm' hm=>by
    obtain⟨o',es',ep',ho',r'⟩:=hm;rw[ho] at ho';cases ho';exact⟨_,es',ep',hL,r'⟩) hok hg
theorem Inv.turned(I:Inv X pj σ H s)(k:∀b o,b≠it->s.heap.get? b=aa o->h'.get? b=aa o)(hn:H it=ap)(hL:it≠X.env.locals)
    (h1:it∈X.ex \/ X.s₀.heap.objs.size<=it) (h2:∀x c,X.env.cells.lookup x=aa c->c≠it) (h3:∀p∈X.pn++pj,p.1≠it):Inv X pj σ H { s with heap:=h',toks:=t' }:=by
  have nit:∀b u,H b=aa u->b≠it:=λb u e z=>by rw[z,hn] at e;cases e
  refine I.step (g':=s.gens) (d':=s.drawn) (ch:=[it]) (λb hb=>?_) (λb o _ _ hc e _=>k b o (λz=>hc (by simp[z])) e) (λb o _ _ hc e _=>⟨o.slots,k b o (λz=>hc (by simp[z])) e⟩) (λ_ _ _ _ n=>n)
    (λb o hc e=>⟨o,k b o (λz=>hc (by simp[z])) e⟩) (λ_ _ e=>e) (λ_ _ _ e=>e) (λb ps e=>⟨#[],by rw[e];simp⟩) (λm hm=>?_) (λb u e=>?_) I.bare
  . have e:b=it:=by simpa using hb
    subst e;exact⟨h1,hL,h2,h3⟩
  . obtain⟨o,es,ep,ho,r⟩:=hm;exact⟨o,es,ep,k _ o (gp hL) ho,r⟩
  . refine(I.hok b u e).stay (λc v hc q=>k c v ?_ q) (λ_ q=>q) (λ_ _ q=>q) λ_ _ q=>q;rcases hc with z | z
    . rw[z];exact nit b u e
    . exact nit c _ z
theorem Inv.tok(I:Inv X pj σ H s)(t:Nat):Inv X pj σ H { s with toks:=t }:=I.un (h':=s.heap) (t':=t) Un.refl I.hok
theorem Inv.kept{t':Nat}(I:Inv X pj σ H s)(k:∀b u,s.heap.get? b=aa u->h'.get? b=aa u):Inv X pj σ H { s with heap:=h',toks:=t' }:=I.un (Un.kept k) (I.hok.kept k)
theorem Inv.laid{a:ae}{o:HO}{t':Nat}(I:Inv X pj σ H s)(k:∀b u,s.heap.get? b=aa u->h'.get? b=aa u)(hp:s.heap.objs.size<=a)(new:cF X.prog X.w (upd H a o) h' a o):
    Inv X pj σ (upd H a o) { s with heap:=h',toks:=t' }:=I.un (Un.laid k hp (I.hok.fresh hp)) (I.hok.laid k hp new)
theorem Inv.write{x e:ae}{o:HO}{t':Nat}(I:Inv X pj σ H s)(mu:DQ (H x))(he:e=x \/ H e=aa (.own x))(k:∀b u,b≠e->s.heap.get? b=aa u->h'.get? b=aa u)(heo:∃u,h'.get? e=aa u)
    (new:cF X.prog X.w (upd H x o) h' x o):Inv X pj σ (upd H x o) { s with heap:=h',toks:=t' }:=I.un (Un.write mu he k heo) (I.hok.write mu he k heo new)
theorem Inv.pins_of{pins':List (ae×im)}(I:Inv X pj σ H s)(h:∀p∈pins',s.heap.get? p.1=aa p.2/\H p.1=ap/\p.1≠X.env.locals/\p.1 ∉ X.fs /\ ∀v,p.2.data ≠ .cell v):Inv X pins' σ H s:=
  ⟨I.ok,I.os,I.bare,I.base,I.loc,I.cell,I.free,I.freeC,λp hp=>(ee.mp hp).elim (λz=>I.pin p (fq _ z)) (h p),I.hok,I.len,I.mild⟩
theorem yJ(hN:N.Nodup)(a:N[i]?=aa x)(b:N[j]?=aa x):i=j:=by
  obtain⟨h1,e1⟩:=bt.mp a;obtain⟨h2,e2⟩:=bt.mp b;exact(List.getElem_inj hN).mp (e1.trans e2.symm)
theorem tV{Q:Unit->af->Prop}(I:Inv X pj σ H s)(hN:X.N.Nodup)(hi:X.N[i]?=aa x)(hx:GM X.env.scope x)(r:bX v u)
    (h:∀s',Inv X pj (σ.set i (aa v)) H s'->(∃a,oj a s.heap s'.heap/\(a=X.env.locals \/ X.env.cells.lookup x=aa a))->Q () s') (hf:autoParam (X.fn x=ah \/ X.env.scope.names.lookup x=aa .local) DU._auto_1):be M A (storeName X.env x u) Q E s:=by
  obtain⟨m,hn,hl⟩:=id I.loc;have hcls:(X.env.scope.kind == .class || (X.env.scope.kind == .module&&X.env.locals != X.env.globals))=aj:=by rw[I.ok.kind];rfl
  have hiσ:i<σ.length:=by rw[I.len];exact(bt.mp hi).1
  have cne:=I.cne;have tracked:∀{a:ae} {h':ca},(∃o,s.heap.get? a=aa o/\H a=ap)->oj a s.heap h'->nV X.prog X.w H h':=λ{a h'} ha hs b ob e=>by
    obtain⟨_,_,hfree⟩:=ha;refine(I.hok b ob e).stay (λc w' hc q=>(hs.2 c ?_).trans q) (λ_ q=>q) (λ_ _ q=>q) λ_ _ q=>q;rintro rfl;rcases hc with rfl | hc
    . rw[hfree] at e;cases e
    . rw[hfree] at hc;cases hc
  rcases hx with hk | hk
  . refine wpAny_storeName_local hk hn (λh' hn' hs=>?_) hcls;obtain⟨oL,_,_,hoL,_⟩:=id hn;refine h _ ⟨I.ok,I.os,I.bare,⟨λb o e n hb hx=>?_,λb o e n hb hx=>?_,I.base.free,λb o e hx=>?_,I.base.tups,I.base.frzs,I.base.tbls⟩,⟨_,hn',λj y v' e1 e2 e3=>?_⟩,λy c e=>?_,I.free,I.freeC,λp hp=>?_,tracked ⟨oL,hoL,I.free⟩ hs,by simpa using I.len,I.mild⟩ ⟨_,hs,.inl rfl⟩
    . exact(hs.2 b (ef (df (av e) I.ok.above))).trans (I.base.keep b o e n hb hx)
    . obtain⟨sl,e1⟩:=I.base.slot b o e n hb hx;exact⟨sl,(hs.2 b (ef (df (av e) I.ok.above))).trans e1⟩
    . obtain⟨o',e1⟩:=I.base.there b o e hx;exact⟨o',(hs.2 b (ef (df (av e) I.ok.above))).trans e1⟩
    . by_cases hj:j=i
      . subst hj;rw[hi] at e1;cases e1;rw[ik hiσ] at e2;cases e2;exact⟨u,r,.inl ⟨hk,by simp⟩⟩
      . rw[eu (gp hj)] at e2;obtain⟨u',r',q⟩:=hl j y v' e1 e2 e3;refine⟨u',r',?_⟩;rcases q with⟨k,e⟩ | ⟨k,c,e,z⟩
        . refine .inl ⟨k,?_⟩;have:y≠x:=λe=>hj (yJ hN e1 (e ▸ hi));simp[this,e]
        . exact .inr ⟨k,c,e,z.sameBut hs (cne y c e)⟩
    . obtain⟨w',z⟩:=I.cell y c e;exact⟨w',z.sameBut hs (cne y c e)⟩
    . obtain⟨e,n,ne,nf,d⟩:=I.pin p hp;exact⟨(hs.2 p.1 ne).trans e,n,ne,nf,d⟩
  . have hfn:X.fn x=ah:=by
      rcases hf with z | z
      . exact z
      . rw[z] at hk;cases hk
    obtain⟨c,hc⟩:=I.ok.has x (.inl hk);obtain⟨w',z⟩:=I.cell x c hc;refine wpAny_storeName_cell I.ok.kind hk hc z (λh' hc' hs=>?_);obtain⟨oc,hoc,hocd⟩:=id z;refine h { s with heap:=h' } ⟨I.ok,I.os,I.bare,⟨λb o e n hb hx=>?_,λb o e n hb hx=>?_,I.base.free,λb o e hx=>?_,I.base.tups,I.base.frzs,I.base.tbls⟩,⟨m,hn.sameBut hs (gp (cne x c hc)),λj y v' e1 e2 e3=>?_⟩,λy c' e=>?_,I.free,I.freeC,λp hp=>?_,tracked ⟨oc,hoc,I.freeC x c hc⟩ hs,by simpa using I.len,I.mild⟩ ⟨c,hs,.inr hc⟩
    . exact(hs.2 b (ef (df (av e) (I.ok.cab x c hfn hc)))).trans (I.base.keep b o e n hb hx)
    . obtain⟨sl,e1⟩:=I.base.slot b o e n hb hx;exact⟨sl,(hs.2 b (ef (df (av e) (I.ok.cab x c hfn hc)))).trans e1⟩
    . obtain⟨o',e1⟩:=I.base.there b o e hx;exact⟨o',(hs.2 b (ef (df (av e) (I.ok.cab x c hfn hc)))).trans e1⟩
    . by_cases hj:j=i
      . subst hj;rw[hi] at e1;cases e1;rw[ik hiσ] at e2;cases e2;exact⟨u,r,.inr ⟨.inl hk,c,hc,hc'⟩⟩
      . rw[eu (gp hj)] at e2;obtain⟨u',r',q⟩:=hl j y v' e1 e2 e3;refine⟨u',r',?_⟩;rcases q with q | ⟨k,c',e,z'⟩
        . exact .inl q
        . refine .inr ⟨k,c',e,z'.sameBut hs ?_⟩;rintro rfl;exact hj (yJ hN e1 (I.ok.inj _ _ _ e hc ▸ hi))
    . by_cases hcc:c'=c
      . subst hcc;exact⟨_,hc'⟩
      . obtain⟨w2,z2⟩:=I.cell y c' e;exact⟨w2,z2.sameBut hs hcc⟩
    . obtain⟨e,n,ne,nf,d⟩:=I.pin p hp;refine⟨(hs.2 p.1 ?_).trans e,n,ne,nf,d⟩;intro q;rw[q,hoc] at e;have q':oc=p.2:=Option.some.inj e;exact d w' (by rw[<- q'];exact hocd)
theorem xE{Q:Unit->af->Prop}(I:Inv X pj σ H s)(hN:X.N.Nodup)(hi:X.N[i]?=aa x)(hx:GM X.env.scope x)(r:bX v u)
    (h:∀s',Inv X pj (σ.set i (aa v)) H s'->Q () s') (hf:autoParam (X.fn x=ah \/ X.env.scope.names.lookup x=aa .local) DU._auto_1):be M A (storeName X.env x u) Q E s:=
  tV I hN hi hx r (λs' I' _=>h s' I') hf
theorem Inv.call'(I:Inv X pj σ H s)(ho:s'.os=s.os)(u:Un (frs X.stack) ch H H' s.heap s'.heap)(hok:nV X.prog X.w H' s'.heap)(hg:sh s'.gens)
    (hch:∀b∈ch,(b∈X.ex \/ X.s₀.heap.objs.size<=b)/\b≠X.env.locals/\(∀x c,X.env.cells.lookup x=aa c->c≠b) /\ ∀p∈X.pn++pj,p.1≠b):Inv X pj σ H' s':=by
  obtain⟨h',g',d',t',o'⟩:=s';have e:o'=s.os:=ho;subst e;exact I.call (g':=g') (t':=t') (d':=d') u hok hg hch
end
noncomputable abbrev XK:=ac->Option ae->Hp->Prop
noncomputable abbrev St:=List (Option V)
noncomputable abbrev VK:=V->Hp->Prop
noncomputable abbrev TE:=St->Hp->VK->Prop
noncomputable abbrev TT:=St->Hp->(Bool->Hp->Prop)->Prop
noncomputable abbrev TA:=St->Hp->(List V->Hp->Prop)->Prop
structure Ends where
  nx:St->Hp->Prop
  rt:VK
  bk:St->Hp->Prop:=λ_ _=>False
  ct:St->Hp->Prop:=λ_ _=>False
noncomputable abbrev TS:=Ends->St->Hp->Prop
inductive EP(X:Cx)(pj:List (ae×im))(σ:St)(Q:VK)(u:ac)(s':af):Prop
  |mk (v:V) (H':Hp) (I:Inv X pj σ H' s') (r:bX v u) (q:Q v H')
inductive TP(X:Cx)(pj:List (ae×im))(σ:St)(Q:Bool->Hp->Prop)(b:Bool)(s':af):Prop
  |mk (H':Hp) (I:Inv X pj σ H' s') (q:Q b H')
inductive AP(X:Cx)(pj:List (ae×im))(σ:St)(Q:List V->Hp->Prop)(us:List ac)(s':af):Prop
  |mk (vs:List V) (H':Hp) (I:Inv X pj σ H' s') (r:bF vs us) (q:Q vs H')
inductive NP(X:Cx)(pj:List (ae×im))(P:St->Hp->Prop)(s':af):Prop
  |mk (σ':St) (H':Hp) (I:Inv X pj σ' H' s') (q:P σ' H')
inductive RP(X:Cx)(pj:List (ae×im))(P:VK)(u:ac)(s':af):Prop
  |mk (v:V) (σ':St) (H':Hp) (I:Inv X pj σ' H' s') (r:bX v u) (q:P v H')
noncomputable def SP(X:Cx)(pj:List (ae×im))(D:Ends)(f:Flow)(s':af):Prop:=
  match f with
  | .next=>NP X pj D.nx s'
  | .brk=>NP X pj D.bk s'
  | .cont=>NP X pj D.ct s'
  | .ret u=>RP X pj D.rt u s'
noncomputable def PE(X:Cx)(e:Expr)(t:TE):Prop:=
  ∀(pj:List (ae×im)) (s:af) (σ:St) (H:Hp) (Q:VK),Inv X pj σ H s->t σ H Q->be (bn X.prog X.w) X.A (em e X.env) (EP X pj σ Q) X.xe s
noncomputable def PT(X:Cx)(e:Expr)(t:TT):Prop:=
  ∀(pj:List (ae×im)) (s:af) (σ:St) (H:Hp) (Q:Bool->Hp->Prop),Inv X pj σ H s->t σ H Q->be (bn X.prog X.w) X.A (isTrue e X.env (em e X.env)) (TP X pj σ Q) X.xe s
noncomputable def PW(X:Cx)(e:Expr)(t:TT):Prop:=
  ∀(Rc:PF ac) (pj:List (ae×im)) (s:af) (σ:St) (H:Hp) (Q:Bool->Hp->Prop),Inv X pj σ H s->t σ H Q->be (bn X.prog X.w) X.A (isTrue e X.env Rc) (TP X pj σ Q) X.xe s
variable {X:Cx}
theorem PW.pt{t:TT}(h:PW X e t):PT X e t:=h _
noncomputable def PA(X:Cx)(es:List Expr)(t:TA):Prop:=
  ∀(pos:gv) (pj:List (ae×im)) (s:af) (σ:St) (H:Hp) (Q:List V->Hp->Prop),Inv X pj σ H s->t σ H Q->be (bn X.prog X.w) X.A (spliced (ix pos (aw es X.env))) (AP X pj σ Q) X.xe s
noncomputable def PS(X:Cx)(st:iq)(t:TS):Prop:=
  ∀(pj:List (ae×im)) (s:af) (σ:St) (H:Hp) (D:Ends),Inv X pj σ H s->t D σ H->be (bn X.prog X.w) X.A (exec st X.env) (SP X pj D) X.xe s
noncomputable def uO(X:Cx)(st:List iq)(t:TS):Prop:=
  ∀(pj:List (ae×im)) (s:af) (σ:St) (H:Hp) (D:Ends),Inv X pj σ H s->t D σ H->be (bn X.prog X.w) X.A (execs st X.env) (SP X pj D) X.xe s
theorem thn{t:PF α}{Q Q':α->af->Prop}(h:be M A t Q E s)(hQ:∀a s,Q a s->Q' a s):be M A t Q' E s:=fx h hQ λ_ _ x=>x
variable {σ:St}{ta:TE}
section
noncomputable def uU(i:Nat):TE:=λσ H Q=>∃v,σ[i]?=aa (aa v)/\Q v H
noncomputable def tC(v:V):TE:=λ_ H Q=>Q v H
theorem Ji(hN:X.N[i]?=aa x)(hv:N8 X.env.scope x)(hd:autoParam ((x==("__debug__" : az))=aj) mQ._auto_1)(hcd:autoParam ((x==("__classdict__" : az))=aj) mQ._auto_1):PE X (.Name x pos) (uU i):=by
  intro pj s σ H Q I h;obtain⟨v,e,h⟩:=h;obtain⟨m,hn,hl⟩:=I.loc;obtain⟨u,r,l⟩:=hl i x v hN e hv;have fin:EP X pj σ Q u s:=⟨v,H,I,r,h⟩;rcases l with⟨hk,hm⟩ | ⟨hk,c,hc,QQ⟩
  . exact P6 (wpAny_loadName_local I.ok.kind hk hn hm fin) hd
  . rcases hk with hk | hk
    . exact P6 (wpAny_loadName_cell I.ok.kind hk hc QQ fin) hd
    . exact P6 (wpAny_loadName_free I.ok.kind hk hc QQ fin hcd) hd
theorem Jo{i j pos}:PE X (.Constant (.int i) j pos) (tC (.int i)):=λ_ _ _ H _ I h=>wpAny_Constant_int ⟨.int i,H,I.tok _,⟨_,rfl⟩,h⟩
theorem Ij{b j pos}:PE X (.Constant (.bool b) j pos) (tC (.bl b)):=λ_ _ _ H _ I h=>Constant_bool ⟨.bl b,H,I,rfl,h⟩
theorem EG{j pos}:PE X (.Constant .none j pos) (tC .non):=λ_ _ _ H _ I h=>Constant_none ⟨.non,H,I,rfl,h⟩
theorem Jk{x j pos}:PE X (.Constant (.str x) j pos) (tC (.str x)):=λ_ _ _ H _ I h=>Calls.Constant_str ⟨.str x,H,I.tok _,⟨_,rfl⟩,h⟩
noncomputable def Gl(X:Cx)(x:az):Prop:=X.env.kindOf x=aa .globalImplicit
theorem vQ(I:Inv X pj σ H s)(hg:Gl X x)(hm:X.mg x=aa u)(h:Q u s)
    (hd:autoParam ((x==("__debug__" : az))=aj) mQ._auto_1):be (bn X.prog X.w) X.A (em (.Name x pos) X.env) Q E s:=
  ri I.ok.kind hg (Calls.loadGlobal_global (by rw[I.ok.glob];exact I.mod.glob.keeps I.bk) hm h) hd
theorem l8(I:Inv X pj σ H s)(hg:Gl X x)(hm:X.mg x=ap)(hv:jy x=aa u)(h:Q u s)
    (hn:autoParam (x ≠ "__name__") mQ._auto_1) (hd:autoParam ((x==("__debug__" : az))=aj) mQ._auto_1):be (bn X.prog X.w) X.A (em (.Name x pos) X.env) Q E s:=by
  obtain⟨mb,h1,h2⟩:=I.mod.blt;exact ri I.ok.kind hg (Calls.loadGlobal_builtin (by rw[I.ok.glob];exact I.mod.glob.keeps I.bk) hm (by rw[I.ok.blt];exact h1.keeps I.bk) ((h2 x hn).trans hv) h) hd
theorem BB(hg:Gl X x)(hm:X.mg x=aa u)(r:bX v u)(hd:autoParam ((x==("__debug__" : az))=aj) mQ._auto_1):PE X (.Name x pos) (tC v):=
  λ_ _ _ H _ I h=>vQ I hg hm ⟨v,H,I,r,h⟩ hd
theorem gX(hg:Gl X x)(hm:X.mg x=ap)(hv:jy x=aa u)(r:bX v u)(hn:autoParam (x ≠ "__name__") mQ._auto_1)(hd:autoParam ((x==("__debug__" : az))=aj) mQ._auto_1):PE X (.Name x pos) (tC v):=
  λ_ _ _ H _ I h=>l8 I hg hm hv ⟨v,H,I,r,h⟩ hn hd
variable {a b:Expr}{tb:TE}
variable {tA tB':TT}{QN:List Expr}
noncomputable def NR(t u:TT):TT:=λσ H Q=>t σ H λc H1=>if c=ah then u σ H1 Q else Q aj H1
noncomputable def Oa(t u:TT):TT:=λσ H Q=>t σ H λc H1=>if c=ah then Q ah H1 else u σ H1 Q
noncomputable def NJ(t:TT):TT:=λσ H Q=>t σ H λc H1=>Q (!c) H1
theorem Gh(ha:PT X a tA):PW X (.BoolOp .And [a] pos) tA:=by
  intro wh pj s σ H Q I h;refine isTrue_and (thn (ha pj s σ H Q I h) λc s1 e=>?_);cases c with
  |true=>exact isTrue_and_nil e
  |false=>exact e
theorem JV(ha:PT X a tA):PW X (.BoolOp .Or [a] pos) tA:=by
  intro wh pj s σ H Q I h;refine isTrue_or (thn (ha pj s σ H Q I h) λc s1 e=>?_);cases c with
  |false=>exact isTrue_or_nil e
  |true=>exact e
theorem JW(ha:PT X a tA)(hb:PW X (.BoolOp .And (b::QN) pos) tB'):PW X (.BoolOp .And (a::b::QN) pos) (NR tA tB'):=by
  intro wh pj s σ H Q I h;refine isTrue_and (thn (ha pj s σ H _ I h) λc s1 zz=>?_);obtain⟨H1,I1,q1⟩:=zz;cases c with
  |true=>exact hb wh pj s1 σ H1 Q I1 q1
  |false=>exact⟨H1,I1,q1⟩
theorem Lk(ha:PT X a tA)(hb:PW X (.BoolOp .Or (b::QN) pos) tB'):PW X (.BoolOp .Or (a::b::QN) pos) (Oa tA tB'):=by
  intro wh pj s σ H Q I h;refine isTrue_or (thn (ha pj s σ H _ I h) λc s1 zz=>?_);obtain⟨H1,I1,q1⟩:=zz;cases c with
  |true=>exact⟨H1,I1,q1⟩
  |false=>exact hb wh pj s1 σ H1 Q I1 q1
theorem Ja(ha:PT X a tA):PT X (.UnaryOp .Not a pos) (NJ tA):=by
  intro pj s σ H Q I h;exact isTrue_not (thn (ha pj s σ H (λc H1=>Q (!c) H1) I h) λc s' z=>by cases z;exact⟨_,by assumption,by assumption⟩)
noncomputable def LR(ta tb:TE):TE:=λσ H Q=>ta σ H λx H1=>∃c,x=.bl c/\if c=ah then tb σ H1 Q else Q (.bl aj) H1
noncomputable def NI(ta tb:TE):TE:=λσ H Q=>ta σ H λx H1=>∃c,x=.bl c/\if c=ah then Q (.bl ah) H1 else tb σ H1 Q
noncomputable def LJ(ta:TE):TE:=λσ H Q=>ta σ H λx H1=>∃c,x=.bl c/\Q (.bl (!c)) H1
theorem Jl{op}{t:TE}(h:PE X a t):PE X (.BoolOp op [a] pos) t:=λpj s σ H Q I hw=>BoolOp_one (h pj s σ H Q I hw)
theorem Jr(ha:PE X a ta)(hb:PE X (.BoolOp .And (b::QN) pos) tb):PE X (.BoolOp .And (a::b::QN) pos) (LR ta tb):=by
  intro pj s σ H Q I h;refine BoolOp_and (thn (ha pj s σ H _ I h) λv s1 zz=>?_);obtain⟨x,H1,I1,r1,q1⟩:=zz;obtain⟨c,rfl,q1⟩:=q1;cases r1;refine eg ?_;cases c with
  |true=>exact hb pj s1 σ H1 Q I1 q1
  |false=>exact⟨.bl aj,H1,I1,rfl,q1⟩
theorem Ln(ha:PE X a ta)(hb:PE X (.BoolOp .Or (b::QN) pos) tb):PE X (.BoolOp .Or (a::b::QN) pos) (NI ta tb):=by
  intro pj s σ H Q I h;refine BoolOp_or (thn (ha pj s σ H _ I h) λv s1 zz=>?_);obtain⟨x,H1,I1,r1,q1⟩:=zz;obtain⟨c,rfl,q1⟩:=q1;cases r1;refine eg ?_;cases c with
  |false=>exact hb pj s1 σ H1 Q I1 q1
  |true=>exact⟨.bl ah,H1,I1,rfl,q1⟩
theorem Jm(ha:PE X a ta):PE X (.UnaryOp .Not a pos) (LJ ta):=by
  intro pj s σ H Q I h;refine UnaryOp_ (thn (ha pj s σ H _ I h) λv s1 zz=>?_);obtain⟨x,H1,I1,r1,q1⟩:=zz;obtain⟨c,rfl,q1⟩:=q1;cases r1;exact not_of (eg ⟨.bl (!c),H1,I1,rfl,q1⟩)
noncomputable def Ob(t:TT)(ta tb:TE):TE:=λσ H Q=>t σ H λc H1=>if c=ah then ta σ H1 Q else tb σ H1 Q
theorem EI{c:Expr}(hc:PT X c tA)(ha:PE X a ta)(hb:PE X b tb):PE X (.IfExp c a b pos) (Ob tA ta tb):=by
  intro pj s σ H Q I h;refine wpAny_IfExp (thn (hc pj s σ H _ I h) λd s1 zz=>?_);obtain⟨H1,I1,q1⟩:=zz;cases d with
  |true=>exact ha pj s1 σ H1 Q I1 q1
  |false=>exact hb pj s1 σ H1 Q I1 q1
end
noncomputable def eZ(K:ai)(H:Hp)(a:ae)(xs:List V):Prop:=
  Rd H a (.lst xs) \/
    ∃(o:im) (its:Array ac) (n:Nat),K.lookup a=aa o/\o.cls=.type "list" /\ o.dict=ap/\o.data=.seq its n/\its.size<=ay/\bF xs its.toList
noncomputable def kH(K:ai)(H:Hp)(a:ae)(xs:List V):Prop:=
  Rd H a (.tup xs) \/
    ∃(o:im) (its:Array ac) (n:Nat),K.lookup a=aa o/\o.cls=.type "tuple" /\ o.data=.seq its n/\its.size<=ay/\bF xs its.toList
noncomputable def OF:ac->Option V
  | .none=>aa .non
  | .bool b=>aa (.bl b)
  | .int i _=>aa (.int i)
  | .str x _=>aa (.str x)
  | .bytes b _=>aa (.byt b)
  | .float b _=>aa (.flt b)
  | .ref a=>aa (.ref a)
  | .type n=>aa (.ty n)
  |_=>ap
theorem bX.abs{x:V}(r:bX x u):OF u=aa x:=by
  cases x with
  |non=>cases r;rfl
  |bl _=>cases r;rfl
  |int _=>obtain⟨t,rfl⟩:=r;rfl
  |str _=>obtain⟨t,rfl⟩:=r;rfl
  |byt _=>obtain⟨t,rfl⟩:=r;rfl
  |flt _=>obtain⟨t,rfl⟩:=r;rfl
  |ref _=>cases r;rfl
  |ty _=>cases r;rfl
theorem bX.inj{x y:V}{u:ac}(r:bX x u)(q:bX y u):x=y:=Option.some.inj (r.abs.symm.trans q.abs)
theorem bF.inj:∀{xs ys:List V} {us:List ac},bF xs us->bF ys us->xs=ys
  |_,_,_,.nil,.nil=>rfl
  |_,_,_,.cons r t,.cons r' t'=>by rw[r.inj r',bF.inj t t']
section
variable {xs ys:List V}
theorem eZ.of(h:H a=aa (.lst xs)):eZ K H a xs:=.inl (.inl h)
theorem kH.of(h:H a=aa (.tup xs)):kH K H a xs:=.inl (.inl h)
theorem Inv.list(I:Inv X pj σ H s)(h:eZ X.K H a xs):∃its:List ac,bF xs its/\PlainL s.heap a its.toArray/\xs.length<=ay:=by
  rcases h with h | ⟨o,its,n,hk,hc,hd,hs,hz,r⟩
  . obtain⟨z,its,n,r,e⟩:=h.ok I.hok;exact⟨its,r,⟨_,n,e,rfl,rfl,rfl⟩,z⟩
  . refine⟨its.toList,r,⟨o,n,I.kIn a o hk,hc,hd,by simpa using hs⟩,?_⟩;have e:=r.length;simp only[wo] at e;right
theorem Inv.tuple(I:Inv X pj σ H s)(h:kH X.K H a xs):∃its:List ac,bF xs its/\QD s.heap a its.toArray/\xs.length<=ay:=by
  rcases h with h | ⟨o,its,n,hk,hc,hs,hz,r⟩
  . obtain⟨z,its,r,p⟩:=h.ok I.hok;exact⟨its,r,p,z⟩
  . refine⟨its.toList,r,⟨o,I.kIn a o hk,hc,n,by simpa using hs⟩,?_⟩;have e:=r.length;simp only[wo] at e;right
theorem Inv.list_inj(I:Inv X pj σ H s)(h:eZ X.K H a xs)(h':eZ X.K H a ys):xs=ys:=by
  obtain⟨its,r,⟨o,n,e,_,_,d⟩,_⟩:=I.list h;obtain⟨its',r',⟨o',n',e',_,_,d'⟩,_⟩:=I.list h';rw[e] at e';cases e';rw[d] at d';injection d' with d1 _;have:its=its':=by simpa using congrArg PR d1
  subst this;exact r.inj r'
theorem Inv.tuple_inj(I:Inv X pj σ H s)(h:kH X.K H a xs)(h':kH X.K H a ys):xs=ys:=by
  obtain⟨its,r,⟨o,e,_,n,d⟩,_⟩:=I.tuple h;obtain⟨its',r',⟨o',e',_,n',d'⟩,_⟩:=I.tuple h';rw[e] at e';cases e';rw[d] at d';injection d' with d1 _;have:its=its':=by simpa using congrArg PR d1
  subst this;exact r.inj r'
end
noncomputable abbrev Cx.wish(X:Cx)(E:ac->af->Prop):Cx:={ X with xe:=E }
noncomputable abbrev Cx.nox(X:Cx):Cx:=X.wish λ_ _=>False
theorem Cx.Ok.wish{X:Cx}(ok:X.Ok)(E:ac->af->Prop):(X.wish E).Ok:=
  ⟨ok.mod,ok.kind,ok.glob,ok.blt,ok.above,ok.inj,ok.has,ok.cab,ok.hd,ok.frames,ok.stk,ok.exf,ok.bs,ok.bsz,ok.noex,ok.exfs,ok.funs,ok.frf,ok.hq⟩
theorem Cx.Ok.unwish(ok:(X.wish E).Ok):X.Ok:=
  ⟨ok.mod,ok.kind,ok.glob,ok.blt,ok.above,ok.inj,ok.has,ok.cab,ok.hd,ok.frames,ok.stk,ok.exf,ok.bs,ok.bsz,ok.noex,ok.exfs,ok.funs,ok.frf,ok.hq⟩
theorem Inv.wish(I:Inv X pj σ H s)(E:ac->af->Prop):Inv (X.wish E) pj σ H s:=⟨I.ok.wish E,I.os,I.bare,I.base,I.loc,I.cell,I.free,I.freeC,I.pin,I.hok,I.len,I.mild⟩
theorem Inv.unwish(I:Inv (X.wish E) pj σ H s):Inv X pj σ H s:=⟨I.ok.unwish,I.os,I.bare,I.base,I.loc,I.cell,I.free,I.freeC,I.pin,I.hok,I.len,I.mild⟩
theorem SP.unwish{D:Ends}{f:Flow}{s':af}(h:SP (X.wish E) pj D f s'):SP X pj D f s':=by
  cases f with
  |next=>obtain⟨σ',H',I,q⟩:=h;exact⟨σ',H',I.unwish,q⟩
  |brk=>obtain⟨σ',H',I,q⟩:=h;exact⟨σ',H',I.unwish,q⟩
  |cont=>obtain⟨σ',H',I,q⟩:=h;exact⟨σ',H',I.unwish,q⟩
  |ret u=>obtain⟨v,σ',H',I,r,q⟩:=h;exact⟨v,σ',H',I.unwish,r,q⟩
theorem uO.nox{st:List iq}{t:TS}(h:uO X.nox st t):uO X st t:=λpj s σ H D I hw=>
  fx (h pj s σ H D (I.wish _) hw) (λ_ _ q=>q.unwish) λ_ _ z=>ig z
variable {tc:TT}{te:TE}
section
variable {st:iq}{QN:List iq}{t u:TS}
noncomputable def LL:TS:=λD σ H=>D.nx σ H
noncomputable def NG(t u:TS):TS:=λD σ H=>t { D with nx:=u D } σ H
theorem Gr:uO X [] LL:=λ_ _ σ H _ I h=>qh ⟨σ,H,I,h⟩
theorem E9(h1:PS X st t)(h2:uO X QN u):uO X (st::QN) (NG t u):=by
  intro pj s σ H D I h;refine yz (thn (h1 pj s σ H { D with nx:=u D } I h) λf s1 q=>?_);cases f with
  |next=>
    obtain⟨σ',H',I',q⟩:=q;exact h2 pj s1 σ' H' D I' q
  |ret v=>exact q
  |brk=>exact q
  |cont=>exact q
theorem Gq(h1:PS X st t):uO X [st] t:=by
  intro pj s σ H D I h;refine yz (thn (h1 pj s σ H D I h) λf s1 q=>?_);cases f with
  |next=>exact qh q
  |ret v=>exact q
  |brk=>exact q
  |cont=>exact q
theorem Inv.quiet(I:Inv X pj σ H s):interactive X.env=aj:=by simp[interactive,I.ok.kind]
noncomputable def LN(te:TE):TS:=λD σ H=>te σ H λ_ H1=>D.nx σ H1
theorem v7(he:PE X e te)(hs:autoParam (gk e ap pos.line X.env=gc aj) c6._auto_1):PS X (.Expr e pos) (LN te):=by
  intro pj s σ H D I h;exact wpAny_Expr_any (thn (he pj s σ H _ I h) λv s1 zq3=>by obtain⟨x,H1,I1,r1,q1⟩:=zq3;exact⟨σ,H1,I1,q1⟩) I.quiet hs
noncomputable def NH(te:TE):TS:=λD σ H=>te σ H D.rt
theorem Jb(he:PE X e te):PS X (.Return (aa e) pos) (NH te):=by
  intro pj s σ H D I h;exact wpAny_Return_some (thn (he pj s σ H _ I h) λv s1 zq4=>by obtain⟨x,H1,I1,r1,q1⟩:=zq4;exact⟨x,σ,H1,I1,r1,q1⟩)
noncomputable def NL(c:TT)(t u:TS):TS:=λD σ H=>c σ H λb H1=>if b=ah then t D σ H1 else u D σ H1
theorem Ll{c:Expr}{a b:List iq}(hc:PT X c tc)(ha:uO X a t)(hb:uO X b u):PS X (.If c a b pos) (NL tc t u):=by
  intro pj s σ H D I h;refine wpAny_If (thn (hc pj s σ H _ I h) λd s1 zz=>?_);obtain⟨H1,I1,q1⟩:=zz;cases d with
  |true=>exact ha pj s1 σ H1 D I1 q1
  |false=>exact hb pj s1 σ H1 D I1 q1
noncomputable def JK:TS:=λ_ _ _=>False
theorem EB:PS X st JK:=λ_ _ _ _ _ _ h=>h.elim
end
noncomputable abbrev TG:=V->St->Hp->(St->Hp->Prop)->Prop
noncomputable abbrev JE:=List V->St->Hp->(St->Hp->Prop)->Prop
noncomputable def PG(X:Cx)(target:Expr)(t:TG):Prop:=
  ∀(pj:List (ae×im)) (s:af) (σ:St) (H:Hp) (v:V) (u:ac) (Q:St->Hp->Prop),Inv X pj σ H s->bX v u->t v σ H Q ->
    be (bn X.prog X.w) X.A (xf target X.env u) (λ_ s'=>∃σ' H',Inv X pj σ' H' s'/\Q σ' H') X.xe s
noncomputable def N0(X:Cx)(ts:List Expr)(t:JE):Prop:=
  ∀(pj:List (ae×im)) (s:af) (σ:St) (H:Hp) (vs:List V) (us:List ac) (Q:St->Hp->Prop),Inv X pj σ H s->bF vs us->t vs σ H Q ->
    be (bn X.prog X.w) X.A (assignInOrder ((kn ts X.env).map (·.2)) us) (λ_ s'=>∃σ' H',Inv X pj σ' H' s'/\Q σ' H') X.xe s
variable {g:TG}{R5:gv}{R0:List iq}{tb:TS}
noncomputable def yX(i:Nat):TG:=λv σ H Q=>Q (σ.set i (aa v)) H
theorem bJ(hN:X.N.Nodup)(hi:X.N[i]?=aa x)(hx:GM X.env.scope x)(hf:autoParam (X.fn x=ah \/ X.env.scope.names.lookup x=aa .local) DU._auto_1):PG X (.Name x pos) (yX i):=by
  intro pj s σ H v u Q I r h;exact xy (xE I hN hi hx r (λs' I'=>⟨_,H,I',h⟩) hf)
noncomputable def MS:JE:=λvs σ H Q=>vs=[]/\Q σ H
noncomputable def J5(t:TG)(u:JE):JE:=λvs σ H Q=>∃v r,vs=v::r/\t v σ H λσ' H'=>u r σ' H' Q
theorem eM:N0 X [] MS:=by
  intro pj s σ H vs us Q I r h;obtain⟨e,h⟩:=h;subst e;cases r;exact assignInOrder_nil ⟨σ,H,I,h⟩
theorem b8{t:TG}{u:JE}(h1:PG X e t)(h2:N0 X es u)
    (hs:autoParam ((kn (e::es) X.env).map (·.2)=xf e X.env::(kn es X.env).map (·.2)) c6._auto_1):N0 X (e::es) (J5 t u):=by
  intro pj s σ H vs us Q I r h;obtain⟨v,vr,e1,h⟩:=h;subst e1;cases r with
  |cons r rr=>
    rw[hs];refine assignInOrder_cons (thn (h1 pj s σ H _ _ _ I r h) λ_ s1 zz=>?_);obtain⟨σ1,H1,I1,q1⟩:=zz;exact h2 pj s1 σ1 H1 _ _ Q I1 rr q1
noncomputable def O0(K:ai)(n:Nat)(t:JE):TG:=λv σ H Q=>∃a xs,v=.ref a/\kH K H a xs/\xs.length=n/\t xs σ H Q
theorem Jh{k:Nat}{t:JE}(hc:X.calm=ah)(h:N0 X es t)
    (hn:autoParam ((kn es X.env).length=n) c6._auto_1) (hst:autoParam ((kn es X.env).findIdx? (·.1)=ap) c6._auto_1):PG X (.Tuple es k pos) (O0 X.K n t):=by
  intro pj s σ H v u Q I r hw;obtain⟨a,xs,e1,hq,hl,hw⟩:=hw;subst e1;cases r;obtain⟨its,rv,ht,hz⟩:=I.tuple hq;refine assign_Tuple_tuple (I.ok.hd hc) ht (by simp[hn,<- hl,rv.length]) hst λh' hx=>?_;have I1:Inv X pj σ H { s with heap:=h' }:=I.kept (t':=s.toks) λb o e=>hx b o (ef (av e)) e;exact h pj _ σ H xs _ Q I1 (by simpa using rv) hw
noncomputable def GV(te:TE)(g:TG):TS:=λD σ H=>te σ H λx H1=>g x σ H1 D.nx
theorem Je(he:PE X e te)(hg:PG X tg g)(hs:autoParam (swapsWithSole [tg] e pos.line X.env=gc aj) c6._auto_1)(hw:autoParam (swappedStores [tg] e X.env=gc ap) c6._auto_1)
    (h1:autoParam ((kn [tg] X.env).map (·.2)=[xf tg X.env]) c6._auto_1):PS X (.Assign [tg] e pos) (GV te g):=by
  intro pj s σ H D I h;refine wpAny_Assign_stores (thn (he pj s σ H _ I h) λv s1 ⟨x,H1,I1,r1,q1⟩=>?_) hs hw;rw[h1];exact thn (hg pj s1 σ H1 x v _ I1 r1 q1) λ_ s2 q=>by obtain⟨σ',H',I',q⟩:=q;exact⟨σ',H',I',q⟩
theorem AE(hN:X.N.Nodup)(hi:X.N[i]?=aa x)(hx:GM X.env.scope x)(he:PE X e te)(hs:autoParam (gk e (aa (.Name x R5)) pos.line X.env=gc aj) c6._auto_1)(hf:autoParam (X.fn x=ah \/ X.env.scope.names.lookup x=aa .local) DU._auto_1):
    PS X (.Assign [.Name x R5] e pos) (GV te (yX i)):=by
  intro pj s σ H D I h;refine wpAny_Assign_Name (thn (he pj s σ H _ I h) λv s1 ⟨y,H1,I1,r1,q1⟩=>?_) hs;exact xE I1 hN hi hx r1 (λs2 I2=>⟨_,H1,I2,q1⟩) hf
noncomputable def JJ(c:TT)(tb:TS):TS:=λD σ H=>∃W:Nat->St->Hp->Prop,(∃m,W m σ H) /\ ∀m σ H,W m σ H ->
  c σ H λb H1=>if b=ah then ∃N:St->Hp->Prop,(∀σ' H',N σ' H' -> ∃m',m'<m/\W m' σ' H')/\tb { D with nx:=N,ct:=N,bk:=D.nx } σ H1 else D.nx σ H1
theorem EA{c:Expr}(hp:za (bn X.prog X.w) X.A X.env X.xe)(hc:PT X c tc)(hb:uO X R0 tb):PS X (.While c R0 [] pos) (JJ tc tb):=by
  intro pj s σ H D I h;obtain⟨W,⟨m0,w0⟩,turn⟩:=h;refine wpAny_While (codeAny_whileLoop (λn s'=>∃σ' H',Inv X pj σ' H' s'/\W n σ' H') ?_ m0 ⟨σ,H,I,w0⟩);rintro n s1 ⟨σ1,H1,I1,w1⟩;refine jh hp (thn (hc pj s1 σ1 H1 _ I1 (turn n σ1 H1 w1)) λb s2 zz=>?_);obtain⟨H2,I2,q2⟩:=zz;cases b with
  |true=>
    obtain⟨N,hN,q2⟩:=q2;rw[QL rfl];refine jh hp (thn (hb pj s2 σ1 H2 _ I2 q2) λf s3 q3=>?_);cases f with
    |next=>
      obtain⟨σ3,H3,I3,n3⟩:=q3;obtain⟨m',hm,w3⟩:=hN σ3 H3 n3;exact⟨m',hm,σ3,H3,I3,w3⟩
    |cont=>
      obtain⟨σ3,H3,I3,n3⟩:=q3;obtain⟨m',hm,w3⟩:=hN σ3 H3 n3;exact⟨m',hm,σ3,H3,I3,w3⟩
    |brk=>exact q3
    |ret v=>exact q3
  |false=>
    rw[Qi gn];exact qh ⟨σ1,H2,I2,q2⟩
structure It where
  go:Nat->Hp->Prop
  yld:Nat->Hp->V->Hp->Prop
  stop:Nat->Hp->Prop
noncomputable def sY(X:Cx)(pj:List (ae×im))(H:Hp)(b:ae):Prop:=
  H b=ap/\b≠X.env.locals/\b ∉ X.fs/\(b∈X.ex \/ X.s₀.heap.objs.size<=b)/\(∀x c,X.env.cells.lookup x=aa c->c≠b) /\ ∀p∈X.pn++pj,p.1≠b
theorem Inv.fpOk(I:Inv X pj σ H s)(hb:s.heap.objs.size<=b)(hn:H' b=ap):sY X pj H' b:=by
  refine⟨hn,xz (df I.lt hb),I.nofs hb,.inr (fo I.sz hb),λx c e z=>?_,λp hp z=>?_⟩
  . obtain⟨v,q⟩:=I.cell x c e;exact absurd (df q.lt (by rw[z];exact hb)) (lc _)
  . exact absurd (df (av (I.pin p hp).1) (by rw[z];exact hb)) (lc _)
structure Turn(P:aq)(w:bb)(K:ai)(tg:Expr)(J:It)(fp:List ae)(it:ae)(tn:Nat->ca->Prop):Prop where
  mem:it∈fp
  obj:∀i h,tn i h -> ∀b∈fp,∃o,h.get? b=aa o /\ ∀v,o.data ≠ .cell v
  keep:∀i h h',tn i h->(∀b∈fp,∀o,h.get? b=aa o->h'.get? b=aa o)->tn i h'
  item:∀(X:Cx),X.prog=P->X.w=w->X.K=K->X.N=X.N -> ∀(i:Nat) (pj:List (ae×im)) (s:af) (σ:St) (H:Hp) (E:ac->af->Prop),Inv X pj σ H s->(∀b∈fp,sY X pj H b)->tn i s.heap->J.go i H ->
    be (bn P w) X.A (kj (.ref it)) (λr s1=>∃u,r=aa u /\
      be (bn P w) X.A (qi tg (.ref it) u) (λ_ s2=>∃x H',Inv X pj σ H' s2/\bX x u/\J.yld i H x H'/\tn (i+1) s2.heap /\ ∀b∈fp,H' b=ap) E s1) E s
  done:∀(X:Cx),X.prog=P->X.w=w->X.K=K->X.N=X.N -> ∀(i:Nat) (pj:List (ae×im)) (s:af) (σ:St) (H:Hp) (E:ac->af->Prop),Inv X pj σ H s->(∀b∈fp,sY X pj H b)->tn i s.heap->J.stop i H ->
    be (bn P w) X.A (kj (.ref it)) (λr s1=>r=ap/\Inv X pj σ H s1) E s
  self:∀(A:cf) (i:Nat) (s:af) (Q:ac->af->Prop) (E:ac->af->Prop),tn i s.heap->Q (.ref it) s->be (bn P w) A (Qs (.ref it)) Q E s
noncomputable abbrev TI:=St->Hp->(It->Hp->Prop)->Prop
noncomputable def OS(X:Cx)(pj:List (ae×im))(σ:St)(tg:Expr)(R:It->Hp->Prop)(itv:ac)(s2:af):Prop:=
  ∃(it:ae) (fp:List ae) (tn:Nat->ca->Prop) (J:It) (H':Hp),itv=.ref it/\Inv X pj σ H' s2/\Turn X.prog X.w X.K tg J fp it tn/\tn 0 s2.heap/\(∀b∈fp,sY X pj H' b)/\R J H'
noncomputable def PI(X:Cx)(tg iter:Expr)(wi:TI):Prop:=
  ∀(pj:List (ae×im)) (s:af) (σ:St) (H:Hp) (R:It->Hp->Prop),Inv X pj σ H s->wi σ H R ->
    be (bn X.prog X.w) X.A (em iter X.env) (λv s1=>be (bn X.prog X.w) X.A (Qs v) (OS X pj σ tg R) X.xe s1) X.xe s
theorem Bq{n:String}{vs:Array ac}{Q:Unit->af->Prop}(ho:s.heap.get? it=aa o)(hc:o.cls=.type n)(hd:o.data=.fields vs)
    (hn:["enumerate", "zip", "dict_itemiterator", "dict_reverseitemiterator", "odict_iterator", "itertools.zip_longest", "itertools.pairwise"].contains n=aj) (hQ:Q () s):be M A (qi tg (.ref it) u) Q E s:=by
  unfold qi;cases tg<;>first
    |exact ao hQ
    | (cases u<;>first
        |exact ao hQ
        | (refine ab (P1 ho ?_)
           rw[hc,hd];show be M A (if (["enumerate", "zip", "dict_itemiterator", "dict_reverseitemiterator", "odict_iterator", "itertools.zip_longest", "itertools.pairwise"].contains n&&vs[0]?==aa (vk _))=ah then _ else _) Q E s;rw[Qi (by intro h;rw[hn,Bool.false_and] at h;cases h)];exact ao hQ))
noncomputable def N2(K:ai)(a:ae):It:=
  ⟨λi H=>∃xs x,eZ K H a xs/\xs[i]?=aa x,λi H x H'=>H'=H /\ ∀xs,eZ K H a xs->xs[i]?=aa x,λi H=>∃xs,eZ K H a xs/\xs.length<=i⟩
noncomputable def OM(K:ai)(a:ae):It:=
  ⟨λi H=>∃xs x,kH K H a xs/\xs[i]?=aa x,λi H x H'=>H'=H /\ ∀xs,kH K H a xs->xs[i]?=aa x,λi H=>∃xs,kH K H a xs/\xs.length<=i⟩
noncomputable def N1(lo:Int)(n:Nat):It:=⟨λi _=>i<n,λi H x H'=>H'=H/\x=.int (lo+i),λi _=>n<=i⟩
theorem CA(a it:ae):Turn P w K tg (N2 K a) [it] it (λi h=>h.IsListIter it a i) where
  mem:=by simp
  obj:=λi h st b hb=>by
    have e:b=it:=by simpa using hb
    subst e;obtain⟨o,e,c,d⟩:=st;exact⟨o,e,λv z=>by rw[d] at z;cases z⟩
  keep:=λi h h' st k=>st.at λo e=>k it (by simp) o e
  item:=by
    intro X hP hw hK hc i pj s σ H E I hf st hg;subst hP hw hK;obtain⟨xs,x,hq,hx⟩:=hg;obtain⟨its,rv,p,hz⟩:=I.list hq;obtain⟨u,hu,ru⟩:=rv.get hx;obtain⟨f0,f1,f2,f3,f4,f5⟩:=hf it (by simp);refine ud st p.isList (x:=u) (by simpa using hu) λh' st' sb=>?_;have I1:Inv X pj σ H { s with heap:=h' }:=I.turned (t':=s.toks) (λb o hb e=>(sb.2 b hb).trans e) f0 f1 f3 f4 f5;obtain⟨o,e,c,d⟩:=id st';exact⟨u,rfl,Bq (s:={ s with heap:=h' }) e c d ∅ ⟨x,H,I1,ru,⟨rfl,λys hy=>by rw[I.list_inj hy hq];exact hx⟩,st',λb hb=>(hf b hb).1⟩⟩
  done:=by
    intro X hP hw hK hc i pj s σ H E I hf st hg;subst hP hw hK;obtain⟨xs,hq,hx⟩:=hg;obtain⟨its,rv,p,hz⟩:=I.list hq;obtain⟨f0,f1,f2,f3,f4,f5⟩:=hf it (by simp);have hl:=rv.length;exact z4 I.qu st p.isList (by simp;right) λh' eb=>⟨rfl,I.turned (t':=s.toks) (λb o hb e=>eb b o hb e) f0 f1 f3 f4 f5⟩
  self:=λ_ _ _ _ _ st h=>vf st h
theorem zX(a it:ae):Turn P w K tg (OM K a) [it] it (λi h=>h.IsTupleIter it a i) where
  mem:=by simp
  obj:=λi h st b hb=>by
    have e:b=it:=by simpa using hb
    subst e;obtain⟨o,e,c,d⟩:=st;exact⟨o,e,λv z=>by rw[d] at z;cases z⟩
  keep:=λi h h' st k=>st.at λo e=>k it (by simp) o e
  item:=by
    intro X hP hw hK hc i pj s σ H E I hf st hg;subst hP hw hK;obtain⟨xs,x,hq,hx⟩:=hg;obtain⟨its,rv,p,hz⟩:=I.tuple hq;obtain⟨u,hu,ru⟩:=rv.get hx;obtain⟨f0,f1,f2,f3,f4,f5⟩:=hf it (by simp);refine wpAny_pyNext_tuple_item st (show s.heap.IsTuple a its.toArray from p) (x:=u) (by simpa using hu) λh' st' sb=>?_;have I1:Inv X pj σ H { s with heap:=h' }:=I.turned (t':=s.toks) (λb o hb e=>(sb.2 b hb).trans e) f0 f1 f3 f4 f5;obtain⟨o,e,c,d⟩:=id st';exact⟨u,rfl,Bq (s:={ s with heap:=h' }) e c d ∅ ⟨x,H,I1,ru,⟨rfl,λys hy=>by rw[I.tuple_inj hy hq];exact hx⟩,st',λb hb=>(hf b hb).1⟩⟩
  done:=by
    intro X hP hw hK hc i pj s σ H E I hf st hg;subst hP hw hK;obtain⟨xs,hq,hx⟩:=hg;obtain⟨its,rv,p,hz⟩:=I.tuple hq;obtain⟨f0,f1,f2,f3,f4,f5⟩:=hf it (by simp);have hl:=rv.length;exact DG I.qu st (show s.heap.IsTuple a its.toArray from p) (by simp;right) λh' eb=>⟨rfl,I.turned (t':=s.toks) (λb o hb e=>eb b o hb e) f0 f1 f3 f4 f5⟩
  self:=λ_ _ _ _ _ st h=>wpAny_pyIter_tupleiter st h
theorem zY(it:ae)(lo:Int)(n:Nat):Turn P w K tg (N1 lo n) [it] it (λi h=>ng h it (lo+(i:Nat)*1) ((n:Int)-(i:Nat)) 1) where
  mem:=by simp
  obj:=λi h st b hb=>by
    have e:b=it:=by simpa using hb
    subst e;exact⟨_,st,λv z=>by
      have z':Qd _=Data.cell v:=z;cases z'⟩
  keep:=λi h h' st k=>k it (by simp) _ st
  item:=by
    intro X hP hw hK hc i pj s σ H E I hf st hg;subst hP hw hK;obtain⟨f0,f1,f2,f3,f4,f5⟩:=hf it (by simp);refine sC hg st λv h' tk hv st' kk=>?_;obtain⟨t,rfl⟩:=hv;have I1:Inv X pj σ H { s with heap:=h',toks:=tk }:=I.turned (λb o hb e=>kk b o (by simpa using hb) e) f0 f1 f3 f4 f5;refine⟨_,rfl,Bq (s:={ s with heap:=h',toks:=tk }) (n:="range_iterator") st' rfl rfl ∅ ⟨.int (lo+i),H,I1,⟨t,?_⟩,⟨rfl,rfl⟩,st',λb hb=>(hf b hb).1⟩⟩;rw[Int.mul_one]
  done:=by
    intro X hP hw hK hc i pj s σ H E I hf st hg;subst hP hw hK;obtain⟨f0,f1,f2,f3,f4,f5⟩:=hf it (by simp);exact uC I.qu st (by have:n<=i:=hg;right) λh' eb=>⟨rfl,I.turned (t':=s.toks) (λb o hb e=>eb b o hb e) f0 f1 f3 f4 f5⟩
  self:=λ_ _ _ _ _ st h=>ue st h
variable {fp:List ae}
theorem xN{R:It->Hp->Prop}{hi:Int}{t u v:QK}{tk:Nat}(I:Inv X pj σ H s)(h1:-(2 ^ 62)<=lo)(h2:lo<2 ^ 62)(h3:-(2 ^ 62)<=hi)(h4:hi<2 ^ 62)
    (q:R (N1 lo (hi-lo).toNat) H):be (bn X.prog X.w) X.A (Qs (.ref s.heap.objs.size)) (OS X pj σ tg R) E { s with heap:=s.heap.push { cls:=.type "range",data:=.fields #[.int lo t,.int hi u,.int 1 v] },toks:=tk }:=by
  refine xg (IsRange.new ..) (small_one h1 h2 h3 h4) ?_;have I1:Inv X pj σ H { s with heap:=s.heap.push { cls:=.type "range",data:=.fields #[.int lo t,.int hi u,.int 1 v] },toks:=tk }:=I.kept λb o e=>ak _ e;refine⟨(s.heap.push { cls:=.type "range",data:=.fields #[.int lo t,.int hi u,.int 1 v] }).objs.size,[(s.heap.push { cls:=.type "range",data:=.fields #[.int lo t,.int hi u,.int 1 v] }).objs.size],_,_,H,rfl,
    I1.kept (t':=tk) λb o e=>ak _ e,zY _ lo (hi-lo).toNat,?_,λb hb=>?_,q⟩
  . have e1:lo+((0:Nat):Int)*1=lo:=by simp
    have e2:(((hi-lo).toNat:Nat):Int)-((0:Nat):Int)=cm lo hi 1:=by rw[rangeSize_one];split<;>right
    show ng _ _ (lo+((0:Nat):Int)*1) ((((hi-lo).toNat:Nat):Int)-((0:Nat):Int)) 1;rw[e1,e2];exact bi _ rfl
  . have e:b=(s.heap.push { cls:=.type "range",data:=.fields #[.int lo t,.int hi u,.int 1 v] }).objs.size:=by simpa using hb
    subst e;exact I1.fpOk (bg _) (I1.hok.fresh (bg _))
noncomputable def MO(ta:TA):TI:=λσ H R=>ta σ H λvs H1=>∃j:Int,vs=[.int j] /\ -(2 ^ 62)<=j/\j<2 ^ 62/\R (N1 0 j.toNat) H1
noncomputable def MN(ta:TA):TI:=λσ H R=>ta σ H λvs H1=>∃i j:Int,vs=[.int i,.int j]/\(-(2 ^ 62)<=i/\i<2 ^ 62 /\ -(2 ^ 62)<=j/\j<2 ^ 62)/\R (N1 i (j-i).toNat) H1
theorem CV{a:Expr}{ta:TA}(hg:Gl X "range")(hm:X.mg "range" = ap)(ha:PA X [a] ta)(hs:autoParam (aw [a] X.env=[(aj,em a X.env)]) c6._auto_1):PI X tg (.Call (.Name "range" p) [a] [] pos) (MO ta):=by
  intro pj s σ H R I h;refine QH (l8 I hg hm P7 (fg (thn (ha pos pj s σ H _ I h) λus s1 ⟨vs,H1,I1,r1,q1⟩=>?_) hs rfl));obtain⟨j,e,q1,q2,q⟩:=q1;subst e;cases r1 with
  |cons r rr=>
    cases rr;obtain⟨t,rfl⟩:=r;exact call_range_1 (xN I1 ⋯ ⋯ q1 q2 (by simpa using q))
theorem CU{a b:Expr}{ta:TA}(hg:Gl X "range")(hm:X.mg "range" = ap)(ha:PA X [a,b] ta)(hs:autoParam (aw [a,b] X.env=[(aj,em a X.env),(aj,em b X.env)]) c6._auto_1)(hs2:autoParam (aw [b] X.env=[(aj,em b X.env)]) c6._auto_1):
    PI X tg (.Call (.Name "range" p) [a,b] [] pos) (MN ta):=by
  intro pj s σ H R I h;refine QH (l8 I hg hm P7 (fg (thn (ha pos pj s σ H _ I h) λus s1 ⟨vs,H1,I1,r1,q1⟩=>?_) (by rw[hs,hs2]) (by rw[hs2];rfl)));obtain⟨i,j,e,⟨q1,q2,q3,q4⟩,q⟩:=q1;subst e;cases r1 with
  |cons r rr=>
    cases rr with
    |cons r' rr=>
      cases rr;obtain⟨t,rfl⟩:=r;obtain⟨t',rfl⟩:=r';exact call_range_2 (xN I1 q1 q2 q3 q4 q)
noncomputable def NM(wi:TI)(g:TG)(tb:TS):TS:=λD σ H=>wi σ H λJ H1=>∃W:Nat->Nat->St->Hp->Prop,(∃m,W 0 m σ H1) /\ ∀i m σ H,W i m σ H ->
  (J.stop i H/\D.nx σ H) \/ (J.go i H /\ ∃N:St->Hp->Prop,(∀σ' H',N σ' H' -> ∃m',m'<m/\W (i+1) m' σ' H') /\ ∀x H',J.yld i H x H'->g x σ H' λσ2 H2=>tb { D with nx:=N,ct:=N,bk:=D.nx } σ2 H2)
noncomputable def rF(fp:List ae)(h:ca):List (ae×im):=fp.filterMap λb=>(h.get? b).map λo=>(b,o)
theorem k3(hb:b∈fp)(e:h.get? b=aa o):(b,o)∈rF fp h:=xh.mpr ⟨b,hb,by rw[e];rfl⟩
theorem Cp{p:ae×im}(hp:p∈rF fp h):p.1∈fp/\h.get? p.1=aa p.2:=by
  obtain⟨b,hb,e⟩:=xh.mp hp;cases q:h.get? b with
  |none=>rw[q] at e;cases e
  |some o=>
    rw[q] at e;have e':(b,o)=p:=Option.some.inj e;subst e';exact⟨hb,q⟩
theorem Inv.pinned(I:Inv X pj σ H s)(hf:∀b∈fp,sY X pj H b)(ho:∀b∈fp,∃o,s.heap.get? b=aa o /\ ∀v,o.data ≠ .cell v):Inv X (pj++rF fp s.heap) σ H s:=
  I.pins_of λp hp=>(ee.mp hp).elim (λz=>I.pin p (dg _ z)) λz=>by
    obtain⟨hb,e⟩:=Cp z;obtain⟨f0,f1,f2,_⟩:=hf p.1 hb;obtain⟨o,e',d⟩:=ho p.1 hb;rw[e] at e';cases e';exact⟨e,f0,f1,f2,d⟩
theorem Inv.unpinned{pl:List (ae×im)}(I:Inv X (pj++pl) σ H s):Inv X pj σ H s:=I.pins_of λp hp=>I.pin p (dg _ (fq _ hp))
theorem Jc{iter:Expr}{wi:TI}(hp:za (bn X.prog X.w) X.A X.env X.xe)(hc:X.N=X.N)(hi:PI X tg iter wi)(hg:PG X tg g)(hb:uO X R0 tb)
    (hs:autoParam (∀x,fm iter X.env x=gc x) GO._auto_1):PS X (.For tg iter R0 [] pos) (NM wi g tb):=by
  intro pj s σ H D I h;refine wpAny_For (thn (hi pj s σ H _ I h) λv s1 h1=>thn h1 λitv s2 h2=>?_) hs;obtain⟨it,fp,tn,J,H2,e,I2,T,st2,f2,W,⟨m0,w0⟩,turn⟩:=h2;subst e;have stat:∀{H':Hp},(∀b∈fp,H' b=ap) -> ∀b∈fp,sY X pj H' b:=λhn b hb=>⟨hn b hb,(f2 b hb).2⟩;refine codeAny_forLoop_any (λn s'=>∃i σ' H',Inv X pj σ' H' s'/\tn i s'.heap/\(∀b∈fp,H' b=ap)/\W i n σ' H') ?_ m0 ⟨0,σ,H2,I2,st2,λb hb=>(f2 b hb).1,w0⟩;rintro n s3 ⟨i,σ3,H3,I3,st3,fr3,w3⟩;rcases turn i n σ3 H3 w3 with⟨stop,qn⟩ | ⟨go,N,hN,step⟩
  . refine jh hp (thn (T.done X rfl rfl rfl hc i pj s3 σ3 H3 X.xe I3 (stat fr3) st3 stop) λr s4 zz=>?_);obtain⟨hr,I4⟩:=zz;subst hr;exact qh ⟨σ3,H3,I4,qn⟩
  . refine jh hp (thn (T.item X rfl rfl rfl hc i pj s3 σ3 H3 X.xe I3 (stat fr3) st3 go) λr s4 zz=>?_);obtain⟨u,hr,h4⟩:=zz;subst hr;refine jh hp (thn h4 λ_ s5 zz=>?_);obtain⟨x,H5,I5,r5,y5,st5,fr5⟩:=zz;have I5':=I5.pinned (stat fr5) (T.obj _ _ st5);refine jh hp (thn (hg _ s5 σ3 H5 x u _ I5' r5 (step x H5 y5)) λ_ s6 zz=>?_);obtain⟨σ6,H6,I6,q6⟩:=zz;refine jh hp (thn (hb _ s6 σ6 H6 _ I6 q6) λf s7 q7=>?_);have Qe:∀{σ7:St} {H7:Hp},Inv X (pj++rF fp s5.heap) σ7 H7 s7->N σ7 H7 -> ∃m,m<n /\ ∃i σ' H',Inv X pj σ' H' s7/\tn i s7.heap/\(∀b∈fp,H' b=ap)/\W i m σ' H':=λ{σ7 H7} I7 n7=>by
      obtain⟨m',hm,w7⟩:=hN σ7 H7 n7;refine⟨m',hm,i+1,σ7,H7,I7.unpinned,T.keep _ _ _ st5 λb hb o e=>(I7.pin (b,o) (dg _ (dg _ (k3 hb e)))).1,λb hb=>?_,w7⟩;obtain⟨o,e,d⟩:=T.obj _ _ st5 b hb;exact(I7.pin (b,o) (dg _ (dg _ (k3 hb e)))).2.1
    cases f with
    |next=>obtain⟨σ7,H7,I7,n7⟩:=q7;exact Qe I7 n7
    |cont=>obtain⟨σ7,H7,I7,n7⟩:=q7;exact Qe I7 n7
    |brk=>obtain⟨σ7,H7,I7,q7⟩:=q7;exact⟨σ7,H7,I7.unpinned,q7⟩
    |ret v=>obtain⟨x7,σ7,H7,I7,r7,q7⟩:=q7;exact⟨x7,σ7,H7,I7.unpinned,r7,q7⟩
noncomputable abbrev R2:=V->V->Hp->VK->Prop
noncomputable def gR(X:Cx)(f:ac->ac->PF ac)(r:R2):Prop:=
  ∀(pj:List (ae×im)) (s:af) (σ:St) (H:Hp) (x y:V) (v u:ac) (Q:VK),Inv X pj σ H s->bX x v->bX y u->r x y H Q ->
    be (bn X.prog X.w) X.A (f v u) (EP X pj σ Q) X.xe s
noncomputable def OG(X:Cx)(f:ac->PF ac)(r:V->Hp->VK->Prop):Prop:=
  ∀(pj:List (ae×im)) (s:af) (σ:St) (H:Hp) (x:V) (v:ac) (Q:VK),Inv X pj σ H s->bX x v->r x H Q ->
    be (bn X.prog X.w) X.A (f v) (EP X pj σ Q) X.xe s
noncomputable def fX(X:Cx)(f:ac)(r:List V->Hp->VK->Prop):Prop:=
  ∀(pj:List (ae×im)) (s:af) (σ:St) (H:Hp) (xs:List V) (us:List ac) (Q:VK),Inv X pj σ H s->bF xs us->r xs H Q ->
    be (bn X.prog X.w) X.A (call f us) (EP X pj σ Q) X.xe s
noncomputable def OH(X:Cx)(r:V->Hp->(Bool->Hp->Prop)->Prop):Prop:=
  ∀(pj:List (ae×im)) (s:af) (σ:St) (H:Hp) (x:V) (v:ac) (Q:Bool->Hp->Prop),Inv X pj σ H s->bX x v->r x H Q ->
    be (bn X.prog X.w) X.A (truthy v) (TP X pj σ Q) X.xe s
noncomputable def LI(r:R2)(ta tb:TE):TE:=λσ H Q=>ta σ H λx H1=>tb σ H1 λy H2=>r x y H2 Q
noncomputable def OY(r:V->Hp->VK->Prop)(ta:TE):TE:=λσ H Q=>ta σ H λx H1=>r x H1 Q
noncomputable def rI(C:Int->Int->Prop)(g:Int->Int->V):R2:=λx y H Q=>∃i j,x=.int i/\y=.int j/\C i j/\Q (g i j) H
noncomputable def wV(g:Int->Int->V):R2:=λx y H Q=>∃i j,x=.int i/\y=.int j/\Q (g i j) H
noncomputable def rU(g:Int->V):V->Hp->VK->Prop:=λx H Q=>∃i,x=.int i/\Q (g i) H
variable {us:List ac}{op op':wp}{r r':R2}{y:V}
section
variable {a b c:Expr}{tb tc:TE}
theorem L1(ha:PE X a ta)(hb:PE X b tb){R:V->V->Hp->Prop}(I:Inv X pj σ H s)
    (h:ta σ H λx H1=>tb σ H1 λy H2=>R x y H2)  {f:ac->ac->PF ac}
    (hf:∀v u s2 x y H2,Inv X pj σ H2 s2->bX x v->bX y u->R x y H2->be (bn X.prog X.w) X.A (f v u) Q X.xe s2):
    be (bn X.prog X.w) X.A (em a X.env) (λv s₁=>be (bn X.prog X.w) X.A (em b X.env) (λu s₂=>be (bn X.prog X.w) X.A (f v u) Q X.xe s₂) X.xe s₁) X.xe s:=by
  refine thn (ha pj s σ H _ I h) λv s1 zz=>?_;obtain⟨x,H1,I1,r1,q1⟩:=zz;refine thn (hb pj s1 σ H1 _ I1 q1) λu s2 zz=>?_;obtain⟨y,H2,I2,r2,q2⟩:=zz;exact hf v u s2 x y H2 I2 r1 r2 q2
theorem Lo{op:Operator}(ho:gR X (fu op) r)(ha:PE X a ta)(hb:PE X b tb):PE X (.BinOp a op b pos) (LI r ta tb):=by
  intro pj s σ H Q I h;exact wpAny_BinOp (L1 ha hb I h λv u s2 x y H2 I2 rx ry q=>ho pj s2 σ H2 x y v u Q I2 rx ry q)
theorem Lm{op:UnaryOp}{r:V->Hp->VK->Prop}(ho:OG X (unaryOp op) r)(ha:PE X a ta):PE X (.UnaryOp op a pos) (OY r ta):=by
  intro pj s σ H Q I h;exact UnaryOp_ (thn (ha pj s σ H _ I h) λv s1 zq5=>by obtain⟨x,H1,I1,r1,q1⟩:=zq5;exact ho pj s1 σ H1 x v Q I1 r1 q1)
theorem N7{f:ac->ac->PF ac}{C:Int->Int->Prop}{g:Int->Int->Int}
    (Qf:∀(i j:Int) (t u:QK) (s:af) (Q:ac->af->Prop) (E:ac->af->Prop),C i j->Q (.int (g i j) s.toks) { s with toks:=s.toks+1 }->be (bn X.prog X.w) X.A (f (.int i t) (.int j u)) Q E s):
    gR X f (rI C λi j=>.int (g i j)):=by
  intro pj s σ H x y v u Q I rx ry h;obtain⟨i,j,rfl,rfl,hc,q⟩:=h;obtain⟨t,rfl⟩:=rx;obtain⟨t',rfl⟩:=ry;exact Qf i j t t' s _ _ hc ⟨.int (g i j),H,I.tok _,⟨_,rfl⟩,q⟩
theorem M2{f:ac->ac->PF ac}{g:Int->Int->Int}
    (Qf:∀(i j:Int) (t u:QK) (s:af) (Q:ac->af->Prop) (E:ac->af->Prop),Q (.int (g i j) s.toks) { s with toks:=s.toks+1 }->be (bn X.prog X.w) X.A (f (.int i t) (.int j u)) Q E s):
    gR X f (wV λi j=>.int (g i j)):=by
  intro pj s σ H x y v u Q I rx ry h;obtain⟨i,j,rfl,rfl,q⟩:=h;obtain⟨t,rfl⟩:=rx;obtain⟨t',rfl⟩:=ry;exact Qf i j t t' s _ _ ⟨.int (g i j),H,I.tok _,⟨_,rfl⟩,q⟩
theorem HM{f:ac->ac->PF ac}{g:Int->Int->Bool}
    (Qf:∀(i j:Int) (t u:QK) (s:af) (Q:ac->af->Prop) (E:ac->af->Prop),Q (.bool (g i j)) s->be (bn X.prog X.w) X.A (f (.int i t) (.int j u)) Q E s):
    gR X f (wV λi j=>.bl (g i j)):=by
  intro pj s σ H x y v u Q I rx ry h;obtain⟨i,j,rfl,rfl,q⟩:=h;obtain⟨t,rfl⟩:=rx;obtain⟨t',rfl⟩:=ry;exact Qf i j t t' s _ _ ⟨.bl (g i j),H,I,rfl,q⟩
noncomputable def IW(i j:Int):Prop:=0<=j/\j<=1000000/\i.natAbs<2 ^ 64
noncomputable def LA(i j:Int):Prop:=(-(2 ^ 64)<i/\i<2 ^ 64) \/ (-(2 ^ 64)<j/\j<2 ^ 64)
theorem LA.ok{i j:Int}(h:LA i j):IntMulOk i j:=by
  rcases h with⟨h1,h2⟩ | ⟨h1,h2⟩
  . exact .of_left (intBits_le_64 h1 h2)
  . exact .of_right (intBits_le_64 h1 h2)
theorem KF:gR X (fu .Add) (wV λi j=>.int (i+j)):=M2 λ_ _ _ _ _ _ _ q=>add_int q
theorem Jx:gR X (fu .Sub) (wV λi j=>.int (i-j)):=M2 λ_ _ _ _ _ _ _ q=>sub_int q
theorem K2:gR X (fu .Mod) (rI (λ_ j=>0<j) λi j=>.int (i % j)):=N7 λi j _ _ _ _ _ hc q=>by
  have h1:(0:Int)<j:=hc;exact mod_int' ⋯ (by rw[Int.fmod_eq_emod_of_nonneg i ⋯];exact q)
theorem HJ:gR X (fu .Mod) (rI (λ_ j=>j≠0) λi j=>.int (i.fmod j)):=N7 λ_ _ _ _ _ _ _ hc q=>mod_int' hc q
theorem OX{f:ac->PF ac}{g:Int->Int}
    (Qf:∀(i:Int) (t:QK) (s:af) (Q:ac->af->Prop) (E:ac->af->Prop),Q (.int (g i) s.toks) { s with toks:=s.toks+1 }->be (bn X.prog X.w) X.A (f (.int i t)) Q E s):
    OG X f (rU λi=>.int (g i)):=by
  intro pj s σ H x v Q I rx h;obtain⟨i,rfl,q⟩:=h;obtain⟨t,rfl⟩:=rx;exact Qf i t s _ _ ⟨.int (g i),H,I.tok _,⟨_,rfl⟩,q⟩
theorem JH:OG X (unaryOp .USub) (rU λi=>.int (-i)):=OX λ_ _ _ _ _ q=>neg_int q
theorem Ks{Q:VK}{k k':Bool}(I:Inv X pj σ H s)(q:Q (.bl k) H)(e:k=k'):EP X pj σ Q (.bool k') s:=by
  subst e;exact⟨.bl k,H,I,rfl,q⟩
theorem Ep:gR X (bu .Lt) (wV λi j=>.bl (decide (i<j))):=HM λ_ _ _ _ _ _ _ q=>lt_int q
theorem Bd:gR X (bu .LtE) (wV λi j=>.bl (decide (i<=j))):=HM λ_ _ _ _ _ _ _ q=>le_int q
theorem M0:gR X (bu .Gt) (wV λi j=>.bl (decide (j<i))):=HM λ_ _ _ _ _ _ _ q=>gt_int q
theorem M1:gR X (bu .GtE) (wV λi j=>.bl (decide (j<=i))):=HM λ_ _ _ _ _ _ _ q=>ge_int q
theorem K3:gR X (bu .Is) (λx y H Q=>y=.non/\Q (.bl (decide (x=.non))) H):=by
  intro pj s σ H x y v u Q I rx ry h;obtain⟨rfl,q⟩:=h;cases ry;refine is_none_gen (Ks I q ?_);cases x<;>first
    | (cases rx;rfl)
    | (obtain⟨t,rfl⟩:=rx;rfl)
theorem gR.or{f:ac->ac->PF ac}(h:gR X f r)(h':gR X f r'):gR X f (λx y H Q=>r x y H Q \/ r' x y H Q):=by
  intro pj s σ H x y v u Q I rx ry q;rcases q with q | q
  . exact h pj s σ H x y v u Q I rx ry q
  . exact h' pj s σ H x y v u Q I rx ry q
theorem nomark(b:Expr)(h:autoParam (op ≠ .In) mQ._auto_1)(h2:autoParam (op ≠ .NotIn) mQ._auto_1):kg op b=aj:=by
  have e1:(op==CmpOp.In)=aj:=by cases op<;>first | rfl | exact absurd rfl h
  have e2:(op==CmpOp.NotIn)=aj:=by cases op<;>first | rfl | exact absurd rfl h2
  cases b<;>simp[kg,e1,e2]
theorem BD(ho:gR X (bu op) r)(ha:PE X a ta)(hb:PE X b tb)(hm:kg op b=aj):PE X (.Compare a [op] [b] pos) (LI r ta tb):=by
  intro pj s σ H Q I h;exact wpAny_Compare1 (L1 ha hb I h λv u s2 x y H2 I2 rx ry q=>ho pj s2 σ H2 x y v u Q I2 rx ry q) hm
noncomputable def IY(t:TE):TT:=λσ H Q=>t σ H λx H'=>∃k,x=.bl k/\Q k H'
theorem Gp(ho:gR X (bu op) r)(ha:PE X a ta)(hb:PE X b tb)(hm:kg op b=aj):PT X (.Compare a [op] [b] pos) (IY (LI r ta tb)):=by
  intro pj s σ H Q I h;refine wpAny_isTrue_Compare1 (thn (ha pj s σ H _ I h) λv s1 ⟨x,H1,I1,r1,q1⟩=>thn (hb pj s1 σ H1 _ I1 q1) λu s2 ⟨y,H2,I2,r2,q2⟩=>
    thn (ho pj s2 σ H2 x y v u _ I2 r1 r2 q2) λc s3 ⟨z,H3,I3,r3,k,e,q3⟩=>?_) hm
  subst e;cases r3;exact eg ⟨H3,I3,q3⟩
noncomputable def A4(r r':R2)(ta tb tc:TE):TE:=λσ H Q=>ta σ H λx H1=>tb σ H1 λy H2=>r x y H2 λz H3=>∃k,z=.bl k /\
  (if k=ah then tc σ H3 λw' H4=>r' y w' H4 Q else Q (.bl aj) H3)
theorem EM(ho:gR X (bu op) r)(ho':gR X (bu op') r')(ha:PE X a ta)(hb:PE X b tb)(hc:PE X c tc)
    (hm:autoParam (sy [op,op'] [b,c]=aj) JF._auto_1):PE X (.Compare a [op,op'] [b,c] pos) (A4 r r' ta tb tc):=by
  intro pj s σ H Q I h;refine Compare_chain (thn (ha pj s σ H _ I h) λv s1 ⟨x,H1,I1,r1,q1⟩=>P8 (thn (hb pj s1 σ H1 _ I1 q1) λu s2 ⟨y,H2,I2,r2,q2⟩=>
    thn (ho pj s2 σ H2 x y v u _ I2 r1 r2 q2) λd s3 ⟨z,H3,I3,r3,k,e,q3⟩=>?_)) hm
  subst e;cases r3;refine eg ?_;cases k with
  |false=>exact Qt ⟨.bl aj,H3,I3,rfl,q3⟩
  |true=>exact Qv (chain_last (thn (hc pj s3 σ H3 _ I3 q3) λw' s4 ⟨z',H4,I4,r4,q4⟩=>ho' pj s4 σ H4 y z' u w' Q I4 r2 r4 q4))
theorem E8(ho:gR X (bu op) r)(ho':gR X (bu op') r')(ha:PE X a ta)(hb:PE X b tb)(hc:PE X c tc)
    (hm:autoParam (sy [op,op'] [b,c]=aj) JF._auto_1):PT X (.Compare a [op,op'] [b,c] pos) (IY (A4 r r' ta tb tc)):=by
  intro pj s σ H Q I h;refine isTrue_chain (thn (ha pj s σ H _ I h) λv s1 ⟨x,H1,I1,r1,q1⟩=>test_link (thn (hb pj s1 σ H1 _ I1 q1) λu s2 ⟨y,H2,I2,r2,q2⟩=>
    thn (ho pj s2 σ H2 x y v u _ I2 r1 r2 q2) λd s3 ⟨z,H3,I3,r3,k,e,q3⟩=>?_)) hm
  subst e;cases r3;refine eg ?_;cases k with
  |false=>
    obtain⟨k',e',q'⟩:=q3;cases e';exact Qt ⟨H3,I3,q'⟩
  |true=>
    refine Qv (test_last (thn (hc pj s3 σ H3 _ I3 q3) λw' s4 ⟨z',H4,I4,r4,q4⟩=>thn (ho' pj s4 σ H4 y z' u w' _ I4 r2 r4 q4) λd' s5 zz=>?_));obtain⟨z2,H5,I5,r5,k2,e2,q5⟩:=zz;subst e2;cases r5;exact eg ⟨H5,I5,q5⟩
noncomputable def Mm(K:ai)(x:V)(H:Hp)(k:Bool):Prop:=
  match x with
  | .non=>k=aj
  | .bl b=>k=b
  | .int i=>k=(i != 0)
  | .str y=>y.length<=ay/\k=((y.length:Int) != 0)
  | .byt y=>y.size<=ay/\k=((y.size:Int) != 0)
  | .ref p=>(∃xs,eZ K H p xs/\k = !xs.isEmpty) \/ (∃xs,kH K H p xs/\k = !xs.isEmpty) \/ ∃kvs,H p=aa (.dK kvs)/\k = !kvs.isEmpty
  |_=>False
theorem AY{kvs:List (κ×V)}{vs:List (κ×ac)}(r:KV kvs vs):(!vs.isEmpty) = !kvs.isEmpty:=by
  cases r<;>rfl
theorem sD{xs:List V}{its:List ac}(r:bF xs its):(!its.toArray.isEmpty) = !xs.isEmpty:=by
  cases r<;>simp
theorem pD:(ay:Nat)<2 ^ 63:=by rw[io];decide
theorem JI:OH X (λx H Q=>∃k,Mm X.K x H k/\Q k H):=by
  intro pj s σ H x v Q I rx h;obtain⟨k,e,q⟩:=h;have hl:=pD;have hs:ay=16777216:=io;cases x with
  |non=>
    cases rx;have e':k=aj:=e;subst e';exact truthy_none ⟨H,I,q⟩
  |bl b=>
    cases rx;have e':k=b:=e;subst e';exact eg ⟨H,I,q⟩
  |int i=>
    obtain⟨t,rfl⟩:=rx;have e':k=(i != 0):=e;subst e';exact PySem.P.truthy_int ⟨H,I,q⟩
  |str y=>
    obtain⟨t,rfl⟩:=rx;obtain⟨hy,e'⟩:y.length<=ay/\k=((y.length:Int) != 0):=e;subst e';exact PySem.P.truthy_str ⋯ ⟨H,I.tok _,q⟩
  |byt y=>
    obtain⟨t,rfl⟩:=rx;obtain⟨hy,e'⟩:y.size<=ay/\k=((y.size:Int) != 0):=e;subst e';exact W.truthy_bytes ⋯ ⟨H,I.tok _,q⟩
  |ref p=>
    cases rx;have e':(∃xs,eZ X.K H p xs/\k = !xs.isEmpty) \/ (∃xs,kH X.K H p xs/\k = !xs.isEmpty) \/ ∃kvs,H p=aa (.dK kvs)/\k = !kvs.isEmpty:=e;rcases e' with⟨xs,hx,e'⟩ | ⟨xs,hx,e'⟩ | ⟨kvs,hx,e'⟩
    . subst e';obtain⟨its,r,pl,hz⟩:=I.list hx;have hlen:=r.length;exact wpAny_truthy_list pl.isList (by simp only[cg];right) ⟨H,I.tok _,by rw[sD r];exact q⟩
    . subst e';obtain⟨its,r,pl,hz⟩:=I.tuple hx;have hlen:=r.length;exact truthy_tuple pl (by simp only[cg];right) ⟨H,I.tok _,by rw[sD r];exact q⟩
    . subst e';obtain⟨hz,hS,vs,r,m⟩:kvs.length<=ay/\(p==ed)=aj /\ ∃vs,KV kvs vs/\s.heap.DictOf (cT X.prog X.w) p vs:=I.hok p _ hx;have hlen:kvs.length=vs.length:=Paired.length r;exact wpAny_truthy_dict hS m ⋯ ⟨H,I.tok _,by rw[AY r];exact q⟩
  |_=>exact(show False from e).elim
theorem E7(ha:PE X a ta)(he:∀Rc,isTrue a X.env Rc=(do let v <- Rc;ya a.pos;yb [v] (truthy v))):
    PT X a (λσ H Q=>ta σ H λx H'=>∃k,Mm X.K x H' k/\Q k H'):=by
  intro pj s σ H Q I h;exact isTrue_plain (thn (ha pj s σ H _ I h) λv s1 zq6=>by obtain⟨x,H1,I1,r1,q1⟩:=zq6;exact JI pj s1 σ H1 x v Q I1 r1 q1) (he _)
theorem AQ:gR X (fu .Add) (λx y H Q=>∃i j,x=.str i/\y=.str j/\i.length+j.length<=ay/\Q (.str (i++j)) H):=by
  intro pj s σ H x y v u Q I rx ry h;obtain⟨i,j,rfl,rfl,hz,q⟩:=h;obtain⟨t,rfl⟩:=rx;obtain⟨t',rfl⟩:=ry;exact add_str (λt' tk=>⟨.str (i++j),H,I.tok _,⟨_,rfl⟩,q⟩) hz
theorem kM{x:V}(r:bF [x] us):∃u,us=[u]/\bX x u:=by
  cases r with
  |cons r1 r2=>cases r2;exact⟨_,rfl,r1⟩
theorem DY{x:V}(r:bF [x,y] us):∃u w',us=[u,w']/\bX x u/\bX y w':=by
  cases r with
  |cons r1 r2=>
    cases r2 with
    |cons r3 r4=>cases r4;exact⟨_,_,rfl,r1,r3⟩
theorem GA:fX X (.builtin "abs") (λxs H Q=>∃i,xs=[.int i]/\Q (.int (if i<0 then -i else i)) H):=by
  intro pj s σ H xs us Q I r h;obtain⟨i,rfl,q⟩:=h;obtain⟨u,rfl,t,rfl⟩:=kM r;exact call_abs_int λu tk=>⟨.int (if i<0 then -i else i),H,I.tok _,⟨_,rfl⟩,q⟩
theorem DN(hc:X.calm=ah):fX X (.builtin "min") (λxs H Q=>∃i j,xs=[.int i,.int j]/\Q (.int (if j<i then j else i)) H):=by
  intro pj s σ H xs us Q I r h;obtain⟨i,j,rfl,q⟩:=h;obtain⟨u,w',rfl,⟨t,rfl⟩,⟨t',rfl⟩⟩:=DY r;refine min_two_ints (I.ok.hd hc) λh' tk k=>⟨_,H,I.kept k,?_,q⟩;by_cases hj:j<i
  . rw[QL hj,QL hj];exact⟨_,rfl⟩
  . rw[Qi hj,Qi hj];exact⟨_,rfl⟩
end
structure ObjM(h:ca)(x dx C:ae)(mA:az->Option ac):Prop where
  obj:h.get? x=aa (pf C dx)
  ns:h.Ns1 dx mA
  ne:dx≠x
variable {dx:ae}{mA:az->Option ac}
theorem Ct(n:h.Ns1 dx mA):∃od,h.get? dx=aa od /\ ∀name,P9 name od=aa (mA name):=by
  obtain⟨o,es,ep,ho,hd,hk,_,hm⟩:=n;refine⟨o,ho,λname=>?_⟩;have e:=hm name;unfold nsFind findBy at e;rw[<- Array.find?_toList] at e;unfold P9;rw[hd];dsimp only;split
  . rename_i y q;rw[q] at e;exact congrArg aa e
  . rename_i q;rw[q] at e;have a:es.toList.any (·.refKey)=aj:=by
      rw[yc];intro y hy;obtain⟨z,t,hkey⟩:=hk y (Array.mem_toList_iff.mp hy);simp[DictEntry.refKey,hkey]
    have a':¬es.toList.any (·.refKey)=ah:=by rw[a];exact gn
    rw[Qi a'];exact congrArg aa e
theorem ObjM.look{x:ae}(I:ObjM h x dx C mA):∃od,W.InstAt h x (pf C dx) C (aa od) /\ ∀name,P9 name od=aa (mA name):=
  let ⟨od,ho,hl⟩:=Ct I.ns
  ⟨od,⟨I.obj,rfl,rfl,ho⟩,hl⟩
variable {pl:PF Bool}{f:ae}{kw:List (az×ac)}{name:az}
section
variable {x:ae}{v:ac}
theorem ID{expr:Bool}(X:K.In s.heap)(I:ObjM s.heap x dx C mA)(hg:xi K C name=ah)(hh:zr K C=ah)
    (ha:ju K (.ref C) name=aa ap) (hv:mA name=aa v) (hv':W.handedIn v=ah) (h:Q v { s with toks:=s.toks+1 }):
    be (bn prog w) A (getAttr (.ref x) name expr) Q E s:=by
  obtain⟨od,J,hl⟩:=I.look;exact W.get_value X J (wq hg).1 (W.findObj_own hh ha rfl (by rw[hl,hv])) hv' h
theorem Fq{Q:ac×List ac->af->Prop}(X:K.In s.heap)(I:ObjM s.heap x dx C mA)(hg:xi K C name=ah)
    (hf:ju K (.ref C) name=aa (aa (.ref f))) (ht:Qw K (.ref f)=ah) (hv:mA name=ap) (h:Q (.ref f,[.ref x]) s):
    be (bn prog w) A (tf (.ref x) name pl) Q E s:=by
  obtain⟨od,J,hl⟩:=I.look;exact W.method_fn X J (wq hg).1 (wq hg).2 hf (beq_iff_eq.mp ht) (by show (P9 name od).map (·.isSome)=aa aj;rw[hl,hv];rfl) h
theorem GY{ns:List az}{Q:Unit->af->Prop}(X:K.In s.heap)(I:ObjM s.heap x dx C mA)
    (hs:ju K (.ref C) "__setattr__" = aa (aa (.builtin "object.__setattr__"))) (hp:W.plainOver K C=ah) (ht:PK K C name=aa ap) (hh:zr K C=ah)
    (hw:xw mA ns) (hsz:ns.length<=ay)
    (h:∀h',ObjM h' x dx C (λy=>if y=name then aa v else mA y)->oj dx s.heap h'->Q () { s with heap:=h',toks:=s.toks+2 }):
    be (bn prog w) A (setAttr (.ref x) name v) Q E s:=by
  obtain⟨od,J,hl⟩:=I.look;refine W.set_plain X J hs (W.osa_open (s:={ s with toks:=s.toks+1 }) (r:=ap) X J hp ht λb=>?_);obtain⟨cd,hc,hd'⟩:=W.any_some hh;have hx:s.heap.get? x=aa ⟨.ref C,aa dx,.plain,#[]⟩:=I.obj;refine ab (ao (ab (ab (wpAny_loadPart hx (ab (W.Looks.here (s:={ s with toks:=s.toks+1 }) (W.looks_clsIn X hc) ?_))))));rw[hd'];refine ao (a:=aa dx) (ab (ao (ab ?_)));refine wpAny_nsSet1 (s:={ s with toks:=s.toks+1 }) I.ns λh' hn2 hs2=>?_;obtain⟨oD,esD,epD,hoD,wW,hcD⟩:=hn2.count (PySem.Within.cons name v hw);refine ab (wpAny_lookBehind hoD (by rw[wW];exact pastItsLine_dict (fo hcD (by rw[cj];right))) ?_);exact ao (h _ ⟨(hs2.2 _ (gp I.ne)).trans I.obj,hn2,I.ne⟩ hs2)
theorem F6{R:Qx->af->Prop}{vs:List ac}(X:K.In s.heap)(hm:zb K C=ah)
    (hi:ju K (.ref C) "__init__" = aa (aa (.ref f))) (hf:W.typeIn K (.ref f)=aa (.type "function"))
    (h:uf (bn prog w) (A.under (.builtin "type.__call__" ⟨.ref C::vs,kw⟩)) (.call (.ref f) ⟨.ref (s.heap.objs.size+1)::vs,kw⟩) (W.InitBack (s.heap.objs.size+1) R)
      { s with heap:=(s.heap.push jx).push (pf C s.heap.objs.size) }):
    uf (bn prog w) A (.call (.ref C) ⟨vs,kw⟩) R s:=by
  obtain⟨hh,g,d,t,os⟩:=s;exact W.make_core (W.makes_of X hm) (W.looks_findIn X hi) (λself=>W.bind_fn X self hf) (.inl rfl) h
end
noncomputable def jW(f:az)(v:V):List (az×V)->List (az×V)
  | []=>[(f,v)]
  | (g,x)::r=>if g=f then (g,v)::r else (g,x)::jW f v r
theorem pV(f g:az)(v:V):∀fs:List (az×V),(jW f v fs).lookup g=if g=f then aa v else fs.lookup g
  | []=>by
    show List.lookup g [(f,v)]=_;by_cases h:g=f
    . have hb:(g==f)=ah:=beq_iff_eq.mpr h;simp only[List.lookup,hb,QL h]
    . have hb:(g==f)=aj:=beq_eq_false_iff_ne.mpr h;simp only[List.lookup,hb,Qi h]
  | (k,x)::r=>by
    have ih:=pV f g v r;rw[show jW f v ((k,x)::r)=(if k=f then (k,v)::r else (k,x)::jW f v r) from rfl];by_cases hk:k=f
    . rw[QL hk];by_cases h:g=k
      . have hb:(g==k)=ah:=beq_iff_eq.mpr h;simp only[List.lookup,hb,QL (h.trans hk)]
      . have hb:(g==k)=aj:=beq_eq_false_iff_ne.mpr h;simp only[List.lookup,hb,Qi (λe:g=f=>h (e.trans hk.symm))]
    . rw[Qi hk];by_cases h:g=k
      . have hb:(g==k)=ah:=beq_iff_eq.mpr h;simp only[List.lookup,hb,Qi (λe:g=f=>hk (h.symm.trans e))]
      . have hb:(g==k)=aj:=beq_eq_false_iff_ne.mpr h;simp only[List.lookup,hb];exact ih
theorem pF(f:az)(v:V):∀fs:List (az×V),f∈(jW f v fs).map (·.1) /\ ∀g,g∈fs.map (·.1)->g∈(jW f v fs).map (·.1)
  | []=>⟨by simp[jW],λg h=>by simp at h⟩
  | (k,x)::r=>by
    obtain⟨i1,i2⟩:=pF f v r;rw[show jW f v ((k,x)::r)=(if k=f then (k,v)::r else (k,x)::jW f v r) from rfl];by_cases hk:k=f
    . rw[QL hk];subst hk;exact⟨by simp,λg h=>by simpa using h⟩
    . rw[Qi hk];refine⟨?_,λg h=>?_⟩
      . rw[cb];exact bj _ i1
      . rw[cb] at h ⊢;rcases de.mp h with e | e
        . exact de.mpr (.inl e)
        . exact bj _ (i2 g e)
theorem pW(f:az)(v:V):∀fs:List (az×V),(jW f v fs).length<=fs.length+1
  | []=>by simp[jW]
  | (k,x)::r=>by
    have ih:=pW f v r;rw[show jW f v ((k,x)::r)=(if k=f then (k,v)::r else (k,x)::jW f v r) from rfl];by_cases hk:k=f
    . rw[QL hk,cj,cj];right
    . rw[Qi hk,cj,cj];right
theorem mH.some_of{o:Option ac}(r:mH (aa v) o):∃u,o=aa u/\bX v u:=by
  cases o with
  |none=>exact(show False from r).elim
  |some u=>exact⟨u,rfl,r⟩
theorem mH.none_of{o:Option ac}(r:mH ap o):o=ap:=by
  cases o with
  |none=>rfl
  |some u=>exact(show False from r).elim
theorem DC(r:bX v u):W.handedIn u=ah:=by
  cases v with
  |non=>cases (show u=gj from r);rfl
  |bl b=>cases (show u=xc b from r);rfl
  |int i=>obtain⟨t,e⟩:=(show ∃t,u=Value.int i t from r);cases e;rfl
  |str x=>obtain⟨t,e⟩:=(show ∃t,u=Value.str x t from r);cases e;rfl
  |byt b=>obtain⟨t,e⟩:=(show ∃t,u=Qc b t from r);cases e;rfl
  |flt b=>obtain⟨t,e⟩:=(show ∃t,u=zp b t from r);cases e;rfl
  |ref a=>cases (show u=Value.ref a from r);rfl
  |ty n=>cases (show u=Qr n from r);rfl
section
variable {fs fs':List (az×V)}
theorem qI(hok:nV P w H h)(e:H a=aa (.ins C dx fs)):∃mA,ObjM h a dx C mA/\(∀f,mH (fs.lookup f) (mA f))/\xw mA (fs.map (·.1))/\fs.length<=1000/\H dx=aa (.own a):=by
  obtain⟨d,z,ne,ob,mA,n,r,q⟩:=(show cF P w H h a (.ins C dx fs) from hok a _ e);exact⟨mA,⟨ob,n,ne⟩,r,q,z,d⟩
end
structure Cls(K:ai)(C:ae):Prop where
  pg:xi K C Str.empty=ah
  hd:zr K C=ah
  po:W.plainOver K C=ah
  sa:ju K (.ref C) "__setattr__" = aa (aa (.builtin "object.__setattr__"))
theorem Cls.get(c:Cls K C)(f:az):xi K C f=ah:=c.pg
noncomputable def fW(K:ai)(C:ae)(f:az):Prop:=ju K (.ref C) f=aa ap
theorem fW.taker{f:az}(n:fW K C f):PK K C f=aa ap:=by
  unfold PK;rw[show ju K (.ref C) f=aa ap from n];rfl
structure Meth(K:ai)(C:ae)(m:az)(f:ae):Prop where
  at_:ju K (.ref C) m=aa (aa (.ref f))
  fn:Qw K (.ref f)=ah
  kp:lv K (.ref f)=ah
variable {m:az}
section
variable {fs:List (az×V)}{f:az}
theorem Ac{b:Bool}(I:Inv X pj σ H s)(e:H a=aa (.ins C dx fs))(c:Cls X.K C)(n:fW X.K C f)(l:fs.lookup f=aa v)
    (h:∀u s',Inv X pj σ H s'->bX v u->Q u s'):be (bn X.prog X.w) A (getAttr (.ref a) f b) Q E s:=by
  obtain⟨mA,O,r,_,_,_⟩:=qI I.hok e;obtain⟨u,hu,ru⟩:=mH.some_of (v:=v) (o:=mA f) (by rw[<- l];exact r f);exact ID I.kIn O (c.get f) c.hd n hu (DC ru) (h u _ (I.tok _) ru)
theorem sH{g:ae}{Q:ac×List ac->af->Prop}(I:Inv X pj σ H s)(e:H a=aa (.ins C dx fs))(c:Cls X.K C)(k:Meth X.K C m g)(l:fs.lookup m=ap)
    (h:Q (.ref g,[.ref a]) s):be (bn X.prog X.w) A (tf (.ref a) m pl) Q E s:=by
  obtain⟨mA,O,r,_,_,_⟩:=qI I.hok e;have hn:mA m=ap:=mH.none_of (by rw[<- l];exact r m);exact Fq I.kIn O (c.get m) k.at_ k.fn hn h
theorem A7{Q:Unit->af->Prop}(I:Inv X pj σ H s)(e:H a=aa (.ins C dx fs))(c:Cls X.K C)(n:fW X.K C f)(hl:fs.length<1000)(ry:bX y u)
    (h:∀s',Inv X pj σ (upd H a (.ins C dx (jW f y fs))) s'->Q () s'):be (bn X.prog X.w) A (setAttr (.ref a) f u) Q E s:=by
  obtain⟨mA,O,r,wi,_,ho⟩:=qI I.hok e;have hz:(fs.map (·.1)).length<=ay:=by rw[bc,io];right
  refine GY I.kIn O c.sa c.po n.taker c.hd wi hz λh' O' sb=>h _ ?_;have hd:∃o,h'.get? dx=aa o:=let ⟨o,_,_,e',_⟩:=O'.ns;⟨o,e'⟩;refine I.write (x:=a) (e:=dx) (by rw[e];exact ii) (.inr ho) (λb q hb z=>(sb.2 b hb).trans z) hd ?_;refine⟨by rw[bB O.ne];exact ho,?_,O.ne,O'.obj,_,O'.ns,λg=>?_,λg hg=>?_⟩
  . have:=pW f y fs;right
  . show mH ((jW f y fs).lookup g) (if g=f then aa u else mA g);rw[pV];by_cases q:g=f
    . rw[QL q,QL q];exact ry
    . rw[Qi q,Qi q];exact r g
  . by_cases q:g=f
    . rw[q];exact(pF f y fs).1
    . refine(pF f y fs).2 g (wi g λz=>hg ?_);show (if g=f then aa u else mA g)=ap;rw[Qi q];exact z
theorem Inv.made(I:Inv X pj σ H s):Inv X pj σ (upd (upd H s.heap.objs.size (.own (s.heap.objs.size+1))) (s.heap.objs.size+1) (.ins C s.heap.objs.size []))
    { s with heap:=(s.heap.push jx).push (pf C s.heap.objs.size) }:=by
  have e1:(s.heap.push jx).get? s.heap.objs.size=aa jx:=bi s.heap rfl;have e2:((s.heap.push jx).push (pf C s.heap.objs.size)).get? (s.heap.objs.size+1)=aa (pf C s.heap.objs.size):=by
    have:=bi (s.heap.push jx) (o:=pf C s.heap.objs.size) rfl;rwa[nv] at this
  have e3:(s.heap.push jx).Ns s.heap.objs.size (λ_=>ap):=⟨jx,#[],_,e1,rfl,(λe he=>absurd he (by simp)),λ_=>rfl⟩;have I1:=I.laid (a:=s.heap.objs.size) (o:=.own (s.heap.objs.size+1)) (h':=s.heap.push jx) (t':=s.toks) (λb u q=>ak _ q) (bg _) ⟨_,e1⟩;refine I1.laid (a:=s.heap.objs.size+1) (o:=.ins C s.heap.objs.size []) (t':=s.toks) (λb u q=>ak _ q) (PU (nv _ _)) ?_;have ne:s.heap.objs.size≠s.heap.objs.size+1:=ef (zd _);refine⟨by rw[bB ne,bO],mj _,ne,e2,λ_=>ap,(Heap.Ns1.of_empty e3).at λo q=>ak _ q,λ_=>ii,λy hy=>absurd rfl hy⟩
theorem IR{f:az}(hb:jn e f env (em e env)=em e env)
    (h:be (bn prog w) A (em e env) (λo s₁=>be (bn prog w) A (getAttr o f ah) Q E s₁) E s):be (bn prog w) A (em (.Attribute e f pos) env) Q E s:=
  Attribute_any_ h (by rw[arm_eval_Attribute,hb])
end
noncomputable def NN(K:ai)(ta:TE)(f:az):TE:=λσ H Q=>ta σ H λx H1=>∃a C dx fs v,x=.ref a/\H1 a=aa (.ins C dx fs)/\Cls K C/\fW K C f/\fs.lookup f=aa v/\Q v H1
noncomputable def NS(K:ai)(ta tv:TE)(f:az):TS:=λD σ H=>tv σ H λy H1=>ta σ H1 λx H2=>∃a C dx fs,x=.ref a/\H2 a=aa (.ins C dx fs)/\Cls K C/\fW K C f/\fs.length<1000 /\
  D.nx σ (upd H2 a (.ins C dx (jW f y fs)))
section
variable {o QU:Expr}{f:az}{tpos:gv}{tv:TE}
theorem Jp(he:PE X e ta)(hb:jn e f X.env (em e X.env)=em e X.env):PE X (.Attribute e f pos) (NN X.K ta f):=by
  intro pj s σ H Q I h;refine IR hb (thn (he pj s σ H _ I h) λu s1 zz=>?_);obtain⟨x,H1,I1,rx,a,C,dx,fs,v,ex,ea,c,n,l,q⟩:=zz;subst ex;obtain rfl:u=Value.ref a:=rx;exact Ac I1 ea c n l λu' s2 I2 ru=>⟨v,H1,I2,ru,q⟩
theorem Jd(ha:PE X o ta)(hv:PE X QU tv)(hs:gk QU (aa (.Attribute o f R5)) pos.line X.env=gc aj):PS X (.Assign [.Attribute o f R5] QU pos) (NS X.K ta tv f):=by
  intro pj s σ H D I h;refine plainObj_wpAny_Assign_Attribute (thn (hv pj s σ H _ I h) λu s1 ⟨y,H1,I1,ry,q⟩=>thn (ha pj s1 σ H1 _ I1 q) λov s2 ⟨x,H2,I2,rx,a,C,dx,fs,ex,ea,c,n,l,q2⟩=>?_) hs;subst ex;obtain rfl:ov=Value.ref a:=rx;exact A7 I2 ea c n l ry λs3 I3=>⟨σ,_,I3,q2⟩
end
section
variable {c:ac}{b:Bool}
inductive TyOf(K:ai)(H:Hp):V->ac->Prop where
  |non:TyOf K H .non (.type "NoneType")
  |bl (x:Bool):TyOf K H (.bl x) (.type "bool")
  |int (i:Int):TyOf K H (.int i) (.type "int")
  |str (x:az):TyOf K H (.str x) (.type "str")
  |flt (x:UInt64):TyOf K H (.flt x) (.type "float")
  |lst {a:ae} {xs:List V} (e:H a=aa (.lst xs)):TyOf K H (.ref a) (.type "list")
  |frz {a:ae} {o:im} {xs:List V} (e:H a=aa (.frz o (.lst xs))):TyOf K H (.ref a) (.type "list")
  |tup {a:ae} {xs:List V} (e:H a=aa (.tup xs)):TyOf K H (.ref a) (.type "tuple")
  |dK {a:ae} {kvs:List (aY×V)} (e:H a=aa (.dK kvs)):TyOf K H (.ref a) (.type "dict")
  |dT {a:ae} {ep:Nat} {kvs:List (List aY×V)} (e:H a=aa (.dT ep kvs)):TyOf K H (.ref a) (.type "dict")
  |ins {a C dx:ae} {fs:List (az×V)} (e:H a=aa (.ins C dx fs)) (cl:Cls K C) (ha:ju K (.ref C) "__class__" = aa (aa (.builtin "object.__class__")))
      (hn:W.specialIn K (.builtin "object.__class__") "__get__" = aa (aa (.builtin "getset_descriptor.__get__"))) (htk:W.takesIn K (.builtin "object.__class__")=aa ah)
      (hm:W.mroIn K C (.type "object")=aa ah):TyOf K H (.ref a) (.ref C)
theorem D8{x:V}{t:ac}(I:Inv X pj σ H s)(rx:bX x u)(ty:TyOf X.K H x t)(e:Qg X.K t c=aa b)(h:∀tk,Q (.bool b) { s with toks:=tk }):
    be (bn X.prog X.w) A (call (.builtin "isinstance") [u,c]) Q E s:=by
  cases ty with
  |non=>cases (show u=gj from rx);exact kh W.kitx_none I.kIn ii e (λz=>nomatch z) h
  |bl y=>cases (show u=xc y from rx);exact kh W.kitx_bool I.kIn ii e (λz=>nomatch z) h
  |int i=>obtain⟨t,q⟩:=(show ∃t,u=Value.int i t from rx);cases q;exact kh W.kitx_int I.kIn ii e (λz=>nomatch z) h
  |str y=>obtain⟨t,q⟩:=(show ∃t,u=Value.str y t from rx);cases q;exact kh W.kitx_str I.kIn ii e (λz=>nomatch z) h
  |flt y=>obtain⟨t,q⟩:=(show ∃t,u=zp y t from rx);cases q;exact kh W.kitx_float I.kIn ii e (λz=>nomatch z) h
  | @lst a xs ea=>
    cases (show u=Value.ref a from rx);obtain⟨_,_,n,_,h1⟩:=(show cF X.prog X.w H s.heap a (.lst xs) from I.hok a _ ea);exact kh W.kitx_list I.kIn ⟨_,h1,rfl⟩ e (λz=>nomatch z) h
  | @frz a ob xs ea=>
    cases (show u=Value.ref a from rx);obtain⟨_,_,_,n,_,h1⟩:=(show cF X.prog X.w H s.heap a (.frz ob (.lst xs)) from I.hok a _ ea);exact kh W.kitx_list I.kIn ⟨_,h1,rfl⟩ e (λz=>nomatch z) h
  | @tup a xs ea=>
    cases (show u=Value.ref a from rx);obtain⟨_,_,_,p⟩:=(show cF X.prog X.w H s.heap a (.tup xs) from I.hok a _ ea);obtain⟨o,h1,h2,_⟩:=p;exact kh W.kitx_tuple I.kIn ⟨o,h1,h2⟩ e (λz=>nomatch z) h
  | @dK a kvs ea=>
    cases (show u=Value.ref a from rx);obtain⟨_,_,vs,_,p⟩:=(show cF X.prog X.w H s.heap a (.dK kvs) from I.hok a _ ea);obtain⟨o,es,ep,h1,h2,_⟩:=p;exact kh W.kitx_dict I.kIn ⟨o,h1,h2.1⟩ e (λz=>nomatch z) h
  | @dT a ep kvs ea=>
    cases (show u=Value.ref a from rx);obtain⟨_,_,xs,_,o,es,h1,h2,_⟩:=(show cF X.prog X.w H s.heap a (.dT ep kvs) from I.hok a _ ea);exact kh W.kitx_dict I.kIn ⟨o,h1,h2.1⟩ e (λz=>nomatch z) h
  | @ins a C dx fs ea cl ha hn htk hm=>
    cases (show u=Value.ref a from rx);obtain⟨mA,O,_⟩:=qI I.hok ea;obtain⟨od,J,_⟩:=O.look;exact kh (W.kitx_own (cl.get _) cl.hd ha hn htk hm) I.kIn J e (λz=>nomatch z) h
end
structure Room(k:Nat)(A:cf):Prop where
  hd:A.handled=ap
  dp:A.depth+3*k+5<Pa
  un:A.units+16*k+200<gy
theorem Room.mono{k:Nat}(r:Room k A)(h:j<=k):Room j A:=⟨r.hd,by have:=r.dp;right,by have:=r.un;right⟩
theorem Room.deeper{k:Nat}{A:cf}(r:Room (k+1) A)(env:uy):Room k (A.deeper env):=
  ⟨r.hd,by have:=r.dp;show A.depth+1+3*k+5<_;right,by have:=r.un;show A.units+3+16*k+200<_;right⟩
theorem AX:(A.under (.builtin "type.__call__" ⟨.ref C::us,kw⟩)).depth=A.depth+1:=by
  first | rfl | simp[yd,Code.weight,Code.isCreation,Code.isGuard,Code.isCaller,Code.frames,ye,guardIds]
theorem AW:(A.under (.builtin "type.__call__" ⟨.ref C::us,kw⟩)).units=A.units+1:=by
  first | rfl | simp[yd,Code.cUnits,Code.frames,ye]
theorem Room.make{k:Nat}(r:Room (k+1) A)(C:ae)(us:List ac)(kw:List (az×ac)):Room k (A.under (.builtin "type.__call__" ⟨.ref C::us,kw⟩)):=
  ⟨r.hd,by have:=r.dp;rw[AX];right,by have:=r.un;rw[AW];right⟩
theorem Room.depth{k:Nat}{A:cf}(r:Room k A):A.depth<Pa:=by have:=r.dp;right
theorem Room.units{k:Nat}{A:cf}(r:Room k A):A.units+64<gy:=by have:=r.un;right
noncomputable def LK:TA:=λ_ H Q=>Q [] H
noncomputable def LP(ta:TE)(tr:TA):TA:=λσ H Q=>ta σ H λx H1=>tr σ H1 λxs H2=>Q (x::xs) H2
section
variable {t:TA}
theorem v9:PA X [] LK:=λ_ _ _ _ H Q I h=>Calls.spliced_nil ⟨[],H,I,.nil,h⟩
theorem o6(ha:PE X e te)(hr:PA X es t)(hs:autoParam (aw (e::es) X.env=(aj,em e X.env)::aw es X.env) c6._auto_1):PA X (e::es) (LP te t):=by
  intro pos pj s σ H Q I h;rw[hs];show be _ _ (spliced ((aj,em e X.env)::ix pos (aw es X.env))) _ _ s;refine Calls.spliced_cons (thn (ha pj s σ H _ I h) λu s1 zz=>?_);obtain⟨x,H1,I1,r1,q1⟩:=zz;exact thn (hr pos pj s1 σ H1 _ I1 q1) λus s2 zq0=>by obtain⟨xs,H2,I2,r2,q2⟩:=zq0;exact⟨x::xs,H2,I2,.cons r1 r2,q2⟩
noncomputable def NF(t:TA):TE:=λσ H Q=>t σ H λxs H1=>xs.length<=ay /\ ∀p,H1 p=ap->Q (.ref p) (upd H1 p (.tup xs))
noncomputable def NK(t:TA):TE:=λσ H Q=>t σ H λxs H1=>xs.length<=ay /\ ∀p,H1 p=ap->Q (.ref p) (upd H1 p (.lst xs))
theorem Jj{x1}(h:PA X es t):PE X (.Tuple es x1 pos) (NF t):=by
  intro pj s σ H Q I hq;refine wpAny_Tuple_spliced (thn (h pos pj s σ H _ I hq) λus s1 ⟨xs,H1,I1,r,z,q⟩=>⟨by rw[<- r.length];exact z,?_⟩);have hf:H1 s1.heap.objs.size=ap:=I1.hok.fresh (bg _);refine⟨.ref s1.heap.objs.size,upd H1 s1.heap.objs.size (.tup xs),I1.laid (t':=s1.toks) (λb u e=>ak _ e) (bg _) ?_,rfl,q _ hf⟩;exact⟨z,us,r,⟨_,bi _ rfl,rfl,_,rfl⟩⟩
theorem Jn(h:PA X es t):PE X (.List es pos) (NK t):=by
  intro pj s σ H Q I hq;refine wpAny_List_spliced (thn (h pos pj s σ H _ I hq) λus s1 ⟨xs,H1,I1,r,z,q⟩=>⟨by rw[<- r.length];exact z,?_⟩);have hf:H1 s1.heap.objs.size=ap:=I1.hok.fresh (bg _);refine⟨.ref s1.heap.objs.size,upd H1 s1.heap.objs.size (.lst xs),I1.laid (t':=s1.toks) (λb u e=>ak _ e) (bg _) ?_,rfl,q _ hf⟩;exact⟨z,us,0,r,bi _ rfl⟩
end
noncomputable abbrev Sp:=List V->Hp->VK->XK->Prop
noncomputable abbrev GN:=List uy->Hp->af->XK->ac->af->Prop
structure Env0(P:aq)(w:bb)(K:ai)(mg:az->Option ac)(base:ca)(A:cf)(outer:List uy)(s:af)(H:Hp):Prop where
  frames:A.frames=aa outer
  mod:Mod K mg base
  bs:∀b o,base.get? b=aa o->s.heap.get? b=aa o/\H b=ap
  bsz:base.objs.size<=s.heap.objs.size
  funs:s.heap.FunFrames base outer
  frf:∀b∈frs outer,H b=ap
  hok:nV P w H s.heap
  bare:sh s.gens
noncomputable def CE(outer:List uy)(P:aq)(w:bb)(H:Hp)(s:af)(Q:VK)(u:ac)(s':af):Prop:=
  ∃v H',s'.os=s.os/\sh s'.gens/\Un (frs outer) [] H H' s.heap s'.heap/\nV P w H' s'.heap/\bX v u/\Q v H'
noncomputable def CR(CX:GN)(outer:List uy)(P:aq)(w:bb)(H:Hp)(s:af)(Q:VK)(E:XK)(r:Qx)(s':af):Prop:=
  match r with
  | .ok (.ret u)=>CE outer P w H s Q u s'
  | .ok _=>False
  | .error e=>CX outer H s E e s'
structure FnOk(P:aq)(w:bb)(K:ai)(mg:az->Option ac)(base:ca)(CX:GN)(k:Nat)(f:ae)(fd:gh)(ps:List az)(sp:Sp):Prop where
  len:∀vs H Q E,sp vs H Q E->vs.length=ps.length
  run:∀(A:cf) (outer:List uy) (s:af) (H:Hp) (args:Args) (us:List ac) (vs:List V) (Q:VK) (E:XK),Room k A->Env0 P w K mg base A outer s H->yf s fd args (ps.zip us)->bF vs us->sp vs H Q E ->
    uf (bn P w) A (.call (.ref f) args) (CR CX outer P w H s Q E) s
theorem Env0.make(e:Env0 P w K mg base A outer s H)(C:ae)(us:List ac)(kw:List (az×ac)):
    Env0 P w K mg base (A.under (.builtin "type.__call__" ⟨.ref C::us,kw⟩)) outer s H:=⟨by first | exact e.frames | (simpa [yd,Code.envs,ye,pushEnvs] using e.frames),e.mod,e.bs,e.bsz,e.funs,e.frf,e.hok,e.bare⟩
theorem Inv.env0(I:Inv X pj σ H s):Env0 X.prog X.w X.K X.mg X.base X.A X.stack s H:=
  ⟨I.ok.frames,I.ok.mod,I.bs,fo I.ok.bsz I.sz,I.stack,I.stkFree,I.hok,I.bare⟩
theorem Inv.after{Q:VK}(I:Inv X pj σ H s)(h:CE X.stack X.prog X.w H s Q u s'):EP X pj σ Q u s':=by
  obtain⟨v,H',os,bare,un,hok,r,q⟩:=h;obtain⟨hh,g,d,t,os'⟩:=s';obtain rfl:os'=s.os:=os;exact⟨v,H',I.call (h':=hh) (g':=g) (d':=d) (t':=t) (ch:=[]) un hok bare (λb z=>absurd z (by simp)),r,q⟩
noncomputable def LQ(sp:Sp)(dvs:List V)(E:XK)(t:TA):TE:=λσ H Q=>t σ H λvs H1=>sp (vs++dvs) H1 Q E
noncomputable def IZ(C:ae)(m:az)(sp:Sp)(dvs:List V)(E:XK)(ta:TE)(t:TA):TE:=λσ H Q=>ta σ H λx H1=>∃a dx fs,x=.ref a/\H1 a=aa (.ins C dx fs)/\fs.lookup m=ap /\
  t σ H1 λvs H2=>sp (x::(vs++dvs)) H2 Q E
noncomputable def LM(C:ae)(sp:Sp)(dvs:List V)(E:XK)(t:TA):TE:=λσ H Q=>t σ H λvs H1=>∀x dx,H1 x=ap->H1 dx=ap->dx≠x ->
  sp (.ref x::(vs++dvs)) (upd (upd H1 dx (.own x)) x (.ins C dx [])) (λv H2=>v=.non/\Q (.ref x) H2) E
noncomputable def i7(K:ai)(fd:gh)(ps:List az)(ds:List ac):Prop:=
  ∀(s:af) (us:List ac),K.In s.heap->(us++ds).length=ps.length->yf s fd ⟨us,[]⟩ (ps.zip (us++ds))
variable {fd:gh}
theorem i7.all(h:∀us:List ac,us.length=ps.length->Qh fd ⟨us,[]⟩=gc (ps.zip us)):i7 K fd ps []:=λs us _ hl=>by
  rw[fy] at hl ⊢;exact .of_eq (h us hl)
noncomputable def nS(CX:GN)(X:Cx)(E:XK):Prop:=∀(pj:List (ae×im)) (σ:St) (H:Hp) (s:af) (e:ac) (s':af),Inv X pj σ H s->CX X.stack H s E e s'->X.xe e s'
variable {vs:List V}{CX:GN}{sp:Sp}{QZ:gv}
section
variable {k:Nat}{dvs:List V}{ds:List ac}{E:XK}{o:Expr}{t:TA}
theorem A9{Q:VK}(F:FnOk X.prog X.w X.K X.mg X.base CX k f fd ps sp)(hr:Room k X.A)(hb:i7 X.K fd ps ds)(hd:bF dvs ds)(hx:nS CX X E)
    (I:Inv X pj σ H s) (r:bF vs us) (h:sp (vs++dvs) H Q E):be (bn X.prog X.w) X.A (call (.ref f) us) (EP X pj σ Q) X.xe s:=by
  have r2:bF (vs++dvs) (us++ds):=r.append hd;have hl:(us++ds).length=ps.length:=by rw[<- r2.length];exact F.len _ _ _ _ h
  refine wpAny_call (qv (F.run X.A X.stack s H ⟨us,[]⟩ (us++ds) (vs++dvs) Q E hr I.env0 (hb s us I.kIn hl) r2 h) λr s' hq=>?_);cases r with
  |error e=>exact hx pj σ H s e s' I hq
  |ok fl=>
    cases fl with
    |ret u=>exact I.after hq
    |next=>exact ig hq
    |brk=>exact ig hq
    |cont=>exact ig hq
theorem Gz(F:FnOk X.prog X.w X.K X.mg X.base CX k f fd ps sp)(hr:Room k X.A)(hg:Gl X x)(hm:X.mg x=aa (.ref f))(hk:lv X.K (.ref f)=ah)(hb:i7 X.K fd ps ds)(hd:bF dvs ds)(hx:nS CX X E)
    (ha:PA X (e::es) t) (hdb:autoParam ((x==("__debug__" : az))=aj) mQ._auto_1) (he:autoParam (aw (e::es) X.env=(aj,em e X.env)::aw es X.env) c6._auto_1) (hpl:autoParam ((ix pos (aw es X.env)).any (·.1)=aj) c6._auto_1):
    PE X (.Call (.Name x p) (e::es) [] pos) (LQ sp dvs E t):=by
  intro pj s σ H Q I h;refine mv (vQ I hg hm ?_ hdb);refine yg (h₀:=X.base) I.ok.mod.kin hk (thn (ha pos pj s σ H _ I h) λus s1 ⟨vs,H1,I1,r,q⟩=>⟨I1.kIn,?_⟩) he hpl;exact A9 F hr hb hd hx I1 r q
theorem Gx(he:PE X o ta)(c:Cls X.K C)(hm:Meth X.K C m f)(F:FnOk X.prog X.w X.K X.mg X.base CX k f fd ps sp)(hr:Room k X.A)(hb:i7 X.K fd ps ds)(hd:bF dvs ds)(hx:nS CX X E)(ha:PA X (e::es) t)
    (hst:autoParam (aw (e::es) X.env=(aj,em e X.env)::aw es X.env) c6._auto_1) (hpl:autoParam ((ix pos (aw es X.env)).any (·.1)=aj) c6._auto_1)
    (ht:autoParam (em (.Call (.Attribute o m QZ) (e::es) [] pos) X.env=(do
      let ov <- em o X.env
      ya QZ.atName
      let (f,first) <- yb [ov] (tf ov m pl)
      Pb pos f first (ix pos (aw (e::es) X.env)) (tj pos (ni [] X.env)))) c6._auto_1):
    PE X (.Call (.Attribute o m QZ) (e::es) [] pos) (IZ C m sp dvs E ta t):=by
  intro pj s σ H Q I h;refine Op (pl:=pl) (thn (he pj s σ H _ I h) λu s1 ⟨x,H1,I1,rx,a,dx,fs,ex,ea,l,q⟩=>?_) ht;subst ex;obtain rfl:u=Value.ref a:=rx;refine sH I1 ea c hm l ?_;refine yg (first:=[.ref a]) (h₀:=X.base) I.ok.mod.kin hm.kp (thn (ha pos pj s1 σ H1 _ I1 q) λus s2 ⟨vs,H2,I2,r,q2⟩=>⟨I2.kIn,?_⟩) hst hpl;exact A9 (us:=.ref a::us) (vs:=.ref a::vs) F hr hb hd hx I2 (.cons rfl r) q2
theorem EH(he:PE X o ta)(c:Cls X.K C)(hm:Meth X.K C m f)(F:FnOk X.prog X.w X.K X.mg X.base CX k f fd ps sp)(hr:Room k X.A)(hb:i7 X.K fd ps ds)(hd:bF dvs ds)(hx:nS CX X E)
    (ht:autoParam (em (.Call (.Attribute o m QZ) [] [] pos) X.env=(do
      let ov <- em o X.env
      ya QZ.atName
      let (f,first) <- yb [ov] (tf ov m pl)
      Pb pos f first (ix pos (aw [] X.env)) (tj pos (ni [] X.env)))) c6._auto_1):
    PE X (.Call (.Attribute o m QZ) [] [] pos) (IZ C m sp dvs E ta LK):=by
  intro pj s σ H Q I h;refine Op (pl:=pl) (thn (he pj s σ H _ I h) λu s1 ⟨x,H1,I1,rx,a,dx,fs,ex,ea,l,q⟩=>?_) ht;subst ex;obtain rfl:u=Value.ref a:=rx;refine sH I1 ea c hm l ?_;exact W.callWith_K0 (first:=[.ref a]) I1.kIn hm.kp (A9 (us:=[.ref a]) (vs:=[.ref a]) F hr hb hd hx I1 (.cons rfl .nil) q)
structure Mk(K:ai)(C f:ae):Prop where
  makes:zb K C=ah
  init:ju K (.ref C) "__init__" = aa (aa (.ref f))
  fn:Qw K (.ref f)=ah
  kp:lv K (.ref C)=ah
theorem Dw{Q:VK}(M:Mk X.K C f)(F:FnOk X.prog X.w X.K X.mg X.base CX k f fd ps sp)(hr:Room (k+1) X.A)(hb:i7 X.K fd ps ds)(hd:bF dvs ds)
    (hx:nS CX X E) (I:Inv X pj σ H s) (r:bF vs us)
    (h:∀x dx,H x=ap->H dx=ap->dx≠x->sp (.ref x::(vs++dvs)) (upd (upd H dx (.own x)) x (.ins C dx [])) (λv H2=>v=.non/\Q (.ref x) H2) E):
    be (bn X.prog X.w) X.A (call (.ref C) us) (EP X pj σ Q) X.xe s:=by
  have hq:=h (s.heap.objs.size+1) s.heap.objs.size (I.hok.fresh (PP _)) (I.hok.fresh (bg _)) (ef (zd _));have I2:=Inv.made (C:=C) I;have r2:bF (V.ref (s.heap.objs.size+1)::(vs++dvs)) (Value.ref (s.heap.objs.size+1)::(us++ds)):=.cons rfl (r.append hd);have hl:(Value.ref (s.heap.objs.size+1)::us++ds).length=ps.length:=by
    have e:=r2.length;rw[F.len _ _ _ _ hq] at e;exact e.symm
  refine wpAny_call (F6 (f:=f) I.kIn M.makes M.init (beq_iff_eq.mp M.fn) (qv (F.run _ X.stack _ _ ⟨Value.ref (s.heap.objs.size+1)::us,[]⟩ (Value.ref (s.heap.objs.size+1)::(us++ds)) _ _ E (hr.make C us [])
    (I2.env0.make C us []) (hb _ (Value.ref (s.heap.objs.size+1)::us) I2.kIn hl) r2 hq) λr s' hq'=>?_))
  cases r with
  |error e=>exact hx pj σ _ _ e s' I2 hq'
  |ok fl=>
    cases fl with
    |ret u=>
      obtain⟨v,H',I3,rv,ev,q3⟩:=I2.after hq';subst ev;exact⟨rv,⟨V.ref (s.heap.objs.size+1),H',I3,rfl,q3⟩⟩
    |next=>exact ig hq'
    |brk=>exact ig hq'
    |cont=>exact ig hq'
theorem Gy(M:Mk X.K C f)(F:FnOk X.prog X.w X.K X.mg X.base CX k f fd ps sp)(hr:Room (k+1) X.A)(hg:Gl X x)(hm:X.mg x=aa (.ref C))(hb:i7 X.K fd ps ds)(hd:bF dvs ds)(hx:nS CX X E)
    (ha:PA X (e::es) t) (hdb:autoParam ((x==("__debug__" : az))=aj) mQ._auto_1) (he:autoParam (aw (e::es) X.env=(aj,em e X.env)::aw es X.env) c6._auto_1) (hpl:autoParam ((ix pos (aw es X.env)).any (·.1)=aj) c6._auto_1):
    PE X (.Call (.Name x p) (e::es) [] pos) (LM C sp dvs E t):=by
  intro pj s σ H Q I h;refine mv (vQ I hg hm ?_ hdb);refine yg (h₀:=X.base) I.ok.mod.kin M.kp (thn (ha pos pj s σ H _ I h) λus s1 ⟨vs,H1,I1,r,q⟩=>⟨I1.kIn,?_⟩) he hpl;exact Dw M F hr hb hd hx I1 r q
end
section
variable {k:Nat}{ks:List az}{E:XK}{kpos:gv}{o:Expr}{kws:List wf}{t tk:TA}{nm:Option az}
variable {g:List ac->List ac->List ac}{gV:List V->List V->List V}
end
structure FnScope(N P:List az)(sc:Scope):Prop where
  kind:sc.kind=.function
  co:sc.isCoroutine=aj
  gen:sc.isGenerator=aj
  nd:N.Nodup
  pre:N.take P.length=P
  par:∀x∈P,sc.names.lookup x=aa .local \/ sc.names.lookup x=aa .cell
  nofree:∀y∈sc.names,y.2 ≠ .free
theorem uH{ph:az->Option qc}{x:az}:∀{binds:List (az×ac)} {m:az->Option ac},(∀v,(x,v) ∉ binds)->Pc ph binds m x=m x
  | [],_,_=>rfl
  | (n,v)::r,m,h=>by
    unfold Pc;rw[uH λw hw=>h w (bj _ hw)];split
    . have:x≠n:=by rintro rfl;exact h v bw
      simp[this]
    . rfl
theorem uJ{ph:az->Option qc}{x:az}:∀{binds:List (az×ac)} {m:az->Option ac},(∀v,(x,v) ∉ binds)->Pd ph binds m x=m x
  | [],_,_=>rfl
  | (n,v)::r,m,h=>by
    unfold Pd;rw[uJ λw hw=>h w (bj _ hw)];split
    . rfl
    . have:x≠n:=by rintro rfl;exact h v bw
      simp[this]
theorem uI{ph:az->Option qc}{x:az}{v:ac}:∀{P:List az} {vs:List ac} {i:Nat} {m:az->Option ac},P.Nodup->P[i]?=aa x->vs[i]?=aa v->ph x=aa .local ->
    Pc ph (P.zip vs) m x=aa v
  | [],_,_,_,_,h,_,_=>by simp at h
  |_::_,[],_,_,_,_,h,_=>by simp at h
  |p::P,w::vs,0,m,nd,h1,h2,hk=>by
    simp at h1 h2;subst h1;subst h2;show Pc ph ((p,w)::P.zip vs) m p=_;unfold Pc;rw[uH λv hv=>(ug.mp nd).1 (Pe hv).1,QL hk];simp
  |p::P,w::vs,i+1,m,nd,h1,h2,hk=>by
    show Pc ph ((p,w)::P.zip vs) m x=_;unfold Pc;exact uI (i:=i) (ug.mp nd).2 (by simpa using h1) (by simpa using h2) hk
theorem uK{ph:az->Option qc}{x:az}{v:ac}:∀{P:List az} {vs:List ac} {i:Nat} {m:az->Option ac},P.Nodup->P[i]?=aa x->vs[i]?=aa v->ph x≠aa .local ->
    Pd ph (P.zip vs) m x=aa v
  | [],_,_,_,_,h,_,_=>by simp at h
  |_::_,[],_,_,_,_,h,_=>by simp at h
  |p::P,w::vs,0,m,nd,h1,h2,hk=>by
    simp at h1 h2;subst h1;subst h2;show Pd ph ((p,w)::P.zip vs) m p=_;unfold Pd;rw[uJ λv hv=>(ug.mp nd).1 (Pe hv).1,Qi hk];simp
  |p::P,w::vs,i+1,m,nd,h1,h2,hk=>by
    show Pd ph ((p,w)::P.zip vs) m x=_;unfold Pd;exact uK (i:=i) (ug.mp nd).2 (by simpa using h1) (by simpa using h2) hk
noncomputable def start(N:List az)(vs:List V):St:=vs.map aa++au (N.length-vs.length) ap
noncomputable def IC(A:cf):List ae:=match A.handled with
  |some (.ref a)=>[a]
  |_=>[]
theorem DA(h:A.handled=ap):IC A=[]:=by
  unfold IC;rw[h]
noncomputable def sR(CX:GN)(P:aq)(w:bb)(K:ai)(mg:az->Option ac)(base:ca)(N:List az)(QP:az)(QM:Scope)(f:ae)(cd:ac)(A:cf)(outer:List uy)(s:af)(H:Hp)(E:XK):Cx where
  prog:=P
  w:=w
  K:=K
  mg:=mg
  base:=base
  A:=A.deeper (pk QP QM s.heap.objs.size f cd)
  N:=N
  s₀:=s
  HZ:=H
  env:=pk QP QM s.heap.objs.size f cd
  outer:=outer
  stack:=pk QP QM s.heap.objs.size f cd::outer
  ex:=[]
  calm:=ah
  fn:=λ_=>ah
  pn:=[]
  hs:=IC A
  xe:=λe s'=>be (bn P w) (A.deeper (pk QP QM s.heap.objs.size f cd)) (leaving (pk QP QM s.heap.objs.size f cd) e) (λ_ s''=>CX outer H s E e s'') (λe' s''=>CX outer H s E e' s'') s'
theorem zM{sc:Scope}(h:sc.names.lookup x=aa .cell):∃c,(PL n sc.names []).lookup x=aa c:=by
  have q:=ze sc.names n [] (.inl h);exact sk.mp q
theorem D9{cd:ac}{s1:af}{E:XK}
    (S:FnScope N ps QM) (hd:A.handled=ap) (e0:Env0 P w K mg base A outer s H) (hl:vs.length=ps.length) (r:bF vs us)
    (x:InCallC s s.heap.objs.size (Pc (pk QP QM s.heap.objs.size f cd).kindOf (ps.zip us) λ_=>ap) (PL (s.heap.objs.size+1) QM.names []) (Pd (pk QP QM s.heap.objs.size f cd).kindOf (ps.zip us) λ_=>ap) s1):
    Inv (sR CX P w K mg base N QP QM f cd A outer s H E) [] (start N vs) H s1:=by
  have hpl:ps.length<=N.length:=by have:=congrArg List.length S.pre;rw[kq] at this;right
  obtain⟨h1,tk,rfl,hk⟩:=x.done;have noA:∀b:ae,b ∉ (sR CX P w K mg base N QP QM f cd A outer s H E).ex:=λb z=>absurd (show b∈([]:List ae) from z) (by simp);refine⟨⟨e0.mod,S.kind,rfl,rfl,bg _,λy z c h1 h2=>?_,λy hy=>?_,λy c _ h=>?_,λ_=>hd,Around.frames_deeper e0.frames,.inr ⟨rfl,rfl⟩,λb z=>absurd z (noA b),e0.bs,e0.bsz,λb _ _=>noA b,λb z=>absurd z (noA b),e0.funs,e0.frf,.inl hd⟩,
    rfl,e0.bare,Un.kept hk,⟨_,x.toInCall.ns,λi y v h1 h2 h3=>?_⟩,λy c h=>⟨_,x.cell y c h⟩,e0.hok.fresh (bg _),λy c h=>?_,λp hp=>absurd (show p∈([]:List (ae×im)) from hp) (by simp),e0.hok.kept hk,?_,λa ha=>absurd (show a∈IC A from ha) (by rw[DA hd];simp)⟩
  . exact name_of_addr x.apart (fe h1) (fe h2)
  . have hy:QM.names.lookup y=aa .cell \/ QM.names.lookup y=aa .free:=hy;rcases hy with hy | hy
    . exact zM hy
    . exact absurd rfl (S.nofree _ (fe hy))
  . exact vm (x.above y c (fe h))
  . have hi:i<vs.length:=by
      unfold start at h2;by_cases hi:i<vs.length
      . exact hi
      . rw[cn (by simpa using hi)] at h2;rw[fv] at h2;split at h2<;>cases h2
    have ha:vs[i]?=aa v:=by
      unfold start at h2;rw[bv (by simpa using hi),bh] at h2;cases e:vs[i]? with
      |none=>rw[e] at h2;cases h2
      |some a=>rw[e] at h2;cases h2;rfl
    obtain⟨u,hu,rv⟩:=r.get ha;have hp:ps[i]?=aa y:=by
      rw[<- S.pre,sv ⋯];exact h1
    have ndP:ps.Nodup:=by rw[<- S.pre];exact S.nd.sublist (List.take_sublist _ _)
    refine⟨u,rv,?_⟩;rcases S.par y (cq hp) with k | k
    . exact .inl ⟨k,uI ndP hp hu k⟩
    . obtain⟨c,e⟩:=zM (n:=s.heap.objs.size+1) k;refine .inr ⟨.inl k,c,e,?_⟩;have q:=x.cell y c e;rw[uK ndP hp hu (by show QM.names.lookup y≠_;rw[k];decide)] at q;exact q
  . exact e0.hok.fresh (vm (x.above y c (fe h)))
  . unfold start;show _=N.length;rw[dj,bc,lg];right
theorem MU{k:Nat}{params:Arguments}{dV kV doc pm cdv ct oc:ac}{an od:Option ae}
    {osl:Array (Option ac)}   (lk:K.lookup f=aa ⟨oc,od,.func (sw name QP params R0 QM dV kV doc pm an cdv ct),osl⟩) (hcd:vn K cdv QP=ah) (S:FnScope N ps QM)
    (len:∀vs H Q E,sp vs H Q E->vs.length=ps.length)
    (Re:∀(A:cf) (outer:List uy) (s:af) (H:Hp) (vs:List V) (Q:VK) (E:XK),Room k (A.deeper (pk QP QM s.heap.objs.size f cdv))->sp vs H Q E ->
      ∃t,uO (sR CX P w K mg base N QP QM f cdv A outer s H E) R0 t/\t { nx:=λ_ H'=>Q .non H',rt:=Q } (start N vs) H):
    FnOk P w K mg base CX (k+1) f (sw name QP params R0 QM dV kV doc pm an cdv ct) ps sp:=by
  refine⟨len,λA outer s H args us vs Q E hr e0 hb r hsp=>?_⟩;have hl:=len _ _ _ _ hsp;have KX:K.In s.heap:=e0.mod.kin.keeps λb o e=>(e0.bs b o e).1;have lim:s.heap.NoLimit:=e0.mod.nolimit.keeps λb o e=>(e0.bs b o e).1;have QY:∀y∈ps.zip us,QM.names.lookup y.1=aa .local \/ (QM.names.lookup y.1=aa .cell/\((PL (s.heap.objs.size+1) QM.names []).lookup y.1).isSome=ah):=λ⟨n,v⟩ hy=>by
    rcases S.par n (Pe hy).1 with q | q
    . exact .inl q
    . exact .inr ⟨q,ze _ _ _ (.inl q)⟩
  refine codeAny_call_function hr.depth (KX _ _ lk) rfl S.co S.gen rfl (W.codeRec_of KX hcd) (hb _ _ _ _ ?_);refine wpAny_newFunctionEnv_cells S.kind QY λenv he s1 x=>?_;subst he;refine⟨lim.keeps x.toInCall.keep,codeAny_func ?_⟩;obtain⟨t,ht,hq⟩:=Re A outer s H vs Q E (hr.deeper _) hsp;have I:Inv (sR CX P w K mg base N QP QM f cdv A outer s H E) [] (start N vs) H s1:=D9 S hr.hd e0 hl r x;refine fx (ht [] s1 (start N vs) H _ I hq) (λfl s' hs=>?_) λe s' hs=>hs;have fin:∀{σ':St} {H':Hp} {v:V} {u:ac},Inv (sR CX P w K mg base N QP QM f cdv A outer s H E) [] σ' H' s'->bX v u->Q v H'->CE outer P w H s Q u s':=
    λ{σ' H' v u} J rv q=>⟨v,H',J.os,J.bare,J.base,J.hok,rv,q⟩
  cases fl with
  |ret u=>
    obtain⟨v,σ',H',J,rv,q⟩:=hs;exact fin J rv q
  |next=>
    obtain⟨σ',H',J,q⟩:=hs;exact fin (v:=V.non) (u:=gj) J rfl q
  |brk=>
    obtain⟨_,_,_,q⟩:=hs;exact ig q
  |cont=>
    obtain⟨_,_,_,q⟩:=hs;exact ig q
section
variable {t:TA}{id T:String}{r:List V->Hp->VK->Prop}
noncomputable def NO(r:List V->Hp->VK->Prop)(t:TA):TE:=λσ H Q=>t σ H λvs H1=>r vs H1 Q
theorem xQ(hc:fX X (.builtin id) r)(hg:Gl X x)(hm:X.mg x=ap)(hv:jy x=aa (.builtin id))(ha:PA X (e::es) t)(hn:autoParam (x ≠ "__name__") mQ._auto_1)(hdb:autoParam ((x==("__debug__" : az))=aj) mQ._auto_1)
    (he:autoParam (aw (e::es) X.env=(aj,em e X.env)::aw es X.env) c6._auto_1) (hpl:autoParam ((ix pos (aw es X.env)).any (·.1)=aj) c6._auto_1):PE X (.Call (.Name x p) (e::es) [] pos) (NO r t):=by
  intro pj s σ H Q I h;refine mv (l8 I hg hm hv ?_ hn hdb);exact zf (thn (ha pos pj s σ H _ I h) λus s1 zq1=>by obtain⟨vs,H1,I1,r1,q1⟩:=zq1;exact hc pj s1 σ H1 vs us Q I1 r1 q1) he hpl
theorem CZ(hc:fX X (.type T) r)(hg:Gl X x)(hm:X.mg x=ap)(hv:jy x=aa (.type T))(ha:PA X (e::es) t)(hn:autoParam (x ≠ "__name__") mQ._auto_1)(hdb:autoParam ((x==("__debug__" : az))=aj) mQ._auto_1)
    (he:autoParam (aw (e::es) X.env=(aj,em e X.env)::aw es X.env) c6._auto_1) (hpl:autoParam ((ix pos (aw es X.env)).any (·.1)=aj) c6._auto_1):PE X (.Call (.Name x p) (e::es) [] pos) (NO r t):=by
  intro pj s σ H Q I h;refine mv (l8 I hg hm hv ?_ hn hdb);exact fg (thn (ha pos pj s σ H _ I h) λus s1 zq2=>by obtain⟨vs,H1,I1,r1,q1⟩:=zq2;exact hc pj s1 σ H1 vs us Q I1 r1 q1) he hpl
end
end L2
namespace HT
open PySem PyProof.Rows
section
open PySem.SeqAt
open PySem.AutoSeq1 (wpAny_loadPart')
open PySem.MeetsSeq PySem.MeetsSeq2 PySem.MeetsSeq3
end
variable {sl:ae}{vl vu:ac}{lo hi:Option Int}
theorem IP{t:ae}{vs ws:List ac}(ht:QD s.heap t vs.toArray)(hb:QD s.heap b ws.toArray)(hv:vs≠[])
    (h1:ws=[]->Q (.ref t) s) (h2:ws≠[]->Q (.ref s.heap.objs.size) { s with heap:=s.heap.push { cls:=.type "tuple",data:=.seq (vs++ws).toArray } })
    (hsz:vs.length+ws.length<=ay):be (bn prog w) A (fu .Add (.ref t) (.ref b)) Q E s:=by
  obtain⟨⟨cls,dd,data,sl⟩,ho,hc,n,hd⟩:=id ht;obtain⟨⟨cls2,dd2,data2,sl2⟩,ho2,hc2,n2,hd2⟩:=id hb;simp only at hc hd hc2 hd2;subst hc hd hc2 hd2;have e:vs.toArray++ws.toArray=(vs++ws).toArray:=by simp
  by_cases hw:ws=[]
  . exact yh ⟨_,ho,rfl⟩ ⟨_,ho2,rfl⟩ tu wr om nj (ly _ _)
      (tuple_addW1 t b vs.toArray ws.toArray n n2 dd dd2 sl sl2 (by simpa using hv) (by simp[hw])) ⟨ho,ho2,h1 hw⟩
  . refine yh ⟨_,ho,rfl⟩ ⟨_,ho2,rfl⟩ tu wr om nj (ly _ _)
      (tuple_addW2 t b vs.toArray ws.toArray n n2 dd dd2 sl sl2 (by simpa using hv) (by simpa using hw) (by rw[cg,cg];exact hsz)) ⟨ho,ho2,?_⟩
    rw[e];exact h2 hw
noncomputable def f6(n d:Nat):Option Int->Nat
  |none=>d
  |some v=>if v<0 then (v+(n:Int)).toNat else min v.toNat n
theorem Ds(n d:Nat):f6 n d ap=d:=rfl
theorem JP(n d:Nat)(hd:d<=n)(o:Option Int):f6 n d o<=n:=by
  cases o with
  |none=>exact hd
  |some v=>
    show (if v<0 then (v+(n:Int)).toNat else min v.toNat n)<=n;by_cases hv:v<0
    . rw[QL hv];right
    . rw[Qi hv];exact Nat.min_le_right _ _
theorem By(v:Int)(n d:Nat):(if v<0 then max (v+(n:Int)) 0 else min v (n:Int))=((f6 n d (aa v):Nat):Int):=by
  show (if v<0 then max (v+(n:Int)) 0 else min v (n:Int))=(((if v<0 then (v+(n:Int)).toNat else min v.toNat n):Nat):Int);by_cases hv:v<0
  . simp only[QL hv];right
  . simp only[Qi hv];right
theorem As(lo hi:Option Int)(n:Nat):lq lo hi 1 (n:Int)=(((f6 n 0 lo:Nat):Int),((f6 n n hi:Nat):Int)):=by
  have h1:¬((1:Int)<0):=⋯;unfold lq;simp only[h1,if_false];refine Prod.ext ?_ ?_
  . cases lo with
    |none=>rfl
    |some v=>exact By v n 0
  . cases hi with
    |none=>rfl
    |some v=>exact By v n n
theorem AF(i j:Nat):je (i:Int) (j:Int) 1=j-i:=by
  unfold je;have h1:(1:Int) > 0:=⋯;simp only[h1,if_true,Int.ediv_one];split<;>right
theorem qX{v:ac}{o:Option Int}{Q:Option Int->af->Prop}(p:xj v o)(h:Q o s):be (bn prog w) A (Oq v) Q E s:=by
  cases p with
  |none=>exact Pf h
  |int i t=>exact slicePart_int h
theorem p7{Q:Int×Int×Nat->af->Prop}(hs:s.heap.IsSliceOf sl vl vu .none)(pl:xj vl lo)(pu:xj vu hi)
    (h:Q (((f6 n 0 lo:Nat):Int),1,f6 n n hi-f6 n 0 lo) s):be (bn prog w) A (rj (.ref sl) (gc (n:Int))) Q E s:=by
  obtain⟨os,hos,hcs,hds⟩:=id hs;unfold rj PC;refine ab (ab (er hos hds (x:=vl) rfl (ab (er hos hds (x:=vu) rfl (ab (er hos hds (x:=.none) rfl (ao ?_)))))));refine ab (Pf ?_);show be _ _ (if ((1:Int)==0)=ah then _ else _) _ _ s;rw[Qi ∅];refine ab (qX pl (ab (qX pu (ab (ao ?_)))));show be _ _ (match lq lo hi 1 (n:Int) with | (lo,hi)=>gc (lo,(1:Int),je lo hi 1)) _ _ s;rw[As lo hi n];show be _ _ (gc (((f6 n 0 lo:Nat):Int),(1:Int),je ((f6 n 0 lo:Nat):Int) ((f6 n n hi:Nat):Int) 1)) _ _ s;rw[AF];exact ao h
theorem EE(xs:Array ac)(i k:Nat):((ff k).filterMap λ(m:Nat)=>xs[((i:Int)+(m:Int)*1).toNat]?).toArray=((xs.toList.drop i).take k).toArray:=by
  have e:(λ(m:Nat)=>xs[((i:Int)+(m:Int)*1).toNat]?)=λm=>xs[i+m]?:=by
    funext m;have:((i:Int)+(m:Int)*1).toNat=i+m:=⋯;rw[this]
  rw[e];have:=pick_run xs i k;rw[List.filterMap_map] at this;have e2:((λx=>xs[x]?) ∘ λx=>i+x)=λm=>xs[i+m]?:=rfl;rw[e2] at this;rw[this]
theorem oF{t:ae}{items:Array ac}(ht:QD s.heap t items)(hs:s.heap.IsSliceOf sl vl vu .none)(pl:xj vl lo)(pu:xj vu hi)
    (hw:¬(f6 items.size 0 lo=0/\f6 items.size items.size hi=items.size))
    (h:Q (.ref s.heap.objs.size) { s with heap:=s.heap.push { cls:=.type "tuple",data:=.seq ((items.toList.drop (f6 items.size 0 lo)).take (f6 items.size items.size hi-f6 items.size 0 lo)).toArray } })
    (hsz:items.size<=ay):be (bn prog w) A (yi (.ref t) (.ref sl)) Q E s:=by
  have htake:sizeOk (.seq ((items.toList.drop (f6 items.size 0 lo)).take (f6 items.size items.size hi-f6 items.size 0 lo)).toArray):=by
    show ((items.toList.drop (f6 items.size 0 lo)).take (f6 items.size items.size hi-f6 items.size 0 lo)).toArray.size<=ay;rw[cg,kq,zu,wo];right
  have hj:f6 items.size items.size hi<=items.size:=JP _ _ (bg _) hi;obtain⟨os,hos,hcs,hds⟩:=id hs;have hTs:s.TypeIs (.ref sl) "slice" := ⟨os,hos,hcs⟩;unfold yi
  try with_reducible refine jm ?_
  first | refine ab (ao ?_) | skip
  refine ab (wpAny_sequenceKey ht.typeIs ∅ ?_);refine ab (dk (name:=dh "__getitem__") ht.typeIs jr
    (dv jr ht.typeIs entry_tuple_getitem ?_ (args_tuple_getitem _ _)))
  show be _ _ (Pg (.ref t) >>= _) _ _ s;refine ab (tupleItemsOf_ ht ?_);refine ab (wpAny_typeOf hTs ?_);rw[QL ∅];refine ab (p7 hs pl pu ?_);have hno:¬((((f6 items.size 0 lo:Nat):Int)==0&&(1:Int)==1&&(f6 items.size items.size hi-f6 items.size 0 lo)==items.size)=ah):=by
    intro q;rw[cw,cw] at q;have q1:((f6 items.size 0 lo:Nat):Int)=0:=eq_of_beq q.1.1;have q2:f6 items.size items.size hi-f6 items.size 0 lo=items.size:=eq_of_beq q.2;exact hw ⟨⋯,⋯⟩
  show be _ _ (if (((f6 items.size 0 lo:Nat):Int)==0&&(1:Int)==1&&(f6 items.size items.size hi-f6 items.size 0 lo)==items.size)=ah then _ else _) _ _ s;rw[Qi hno,EE]
  first
    |exact ab (m:=jo _) (fj (ao ⟨_,rfl,ao h⟩) htake)
    |exact ab (m:=jo _) (fj (ab (ao (ao ⟨_,rfl,ao h⟩))) htake)
    |exact ab (ab (m:=jo _) (fj (ao (ao ⟨_,rfl,ao h⟩)) htake))
    |exact ab (ab (m:=jo _) (fj (ao ⟨_,rfl,ao h⟩) htake))
end HT
variable {H:L2.Hp}{X:L2.Cx}{σ:L2.St}{ns:List Int}{Ri:gv}
namespace L2
noncomputable abbrev TO:=St->Hp->(Option Int->Hp->Prop)->Prop
noncomputable def PO(X:Cx)(e:Option Expr)(t:TO):Prop:=
  ∀(pj:List (ae×im)) (s:af) (σ:St) (H:Hp) (Q:Option Int->Hp->Prop),Inv X pj σ H s->t σ H Q ->
    be (bn X.prog X.w) X.A (evalPart e X.env) (λu s'=>∃o H',Inv X pj σ H' s'/\xj u o/\Q o H') X.xe s
noncomputable def GT:TO:=λ_ H Q=>Q ap H
noncomputable def LH(t:TE):TO:=λσ H Q=>t σ H λx H1=>∃i,x=.int i/\Q (aa i) H1
theorem AZ:∀{us:List ac},bF (ns.map V.int) us->ki us ns:=by
  induction ns with
  |nil=>intro us r;rw[uh] at r;cases r;exact .nil
  |cons n ns ih=>
    intro us r;rw[cb] at r;cases r with
    |cons r1 r2=>
      obtain⟨t,e⟩:=r1;subst e;exact .cons n t (ih r2)
variable {r:V->Option Int->Option Int->Hp->VK->Prop}{xs:List V}
section
variable {te:TE}{lo hi:Option Expr}{tl th:TO}{p2:gv}
theorem Gu:PO X ap GT:=by
  intro pj s σ H Q I h;rw[evalPart_none];exact ao ⟨ap,H,I,.none,h⟩
theorem Gs(h:PE X e te):PO X (aa e) (LH te):=by
  intro pj s σ H Q I hw;rw[evalPart_some];refine thn (h pj s σ H _ I hw) λu s1 zz=>?_;obtain⟨x,H1,I1,r1,q1⟩:=zz;obtain⟨i,rfl,q⟩:=q1;obtain⟨t,rfl⟩:=r1;exact⟨aa i,H1,I1,.int i t,q⟩
noncomputable def L6(X:Cx)(r:V->Option Int->Option Int->Hp->VK->Prop):Prop:=
  ∀(pj:List (ae×im)) (s:af) (σ:St) (H:Hp) (x:V) (v vl vu:ac) (lo hi:Option Int) (sl:ae) (Q:VK),Inv X pj σ H s->bX x v->s.heap.IsSliceOf sl vl vu .none->xj vl lo->xj vu hi->r x lo hi H Q ->
    ∃T id,typeLookup (.type T) "__getitem__" = gc (aa (.builtin id))/\s.TypeIs v T/\be (bn X.prog X.w) X.A (yi v (.ref sl)) (EP X pj σ Q) X.xe s
theorem L6.or{r':V->Option Int->Option Int->Hp->VK->Prop}(h:L6 X r)(h':L6 X r'):L6 X (λx lo hi H Q=>r x lo hi H Q \/ r' x lo hi H Q):=by
  intro pj s σ H x v vl vu lo hi sl Q I rx hs pl pu q;rcases q with q | q
  . exact h pj s σ H x v vl vu lo hi sl Q I rx hs pl pu q
  . exact h' pj s σ H x v vl vu lo hi sl Q I rx hs pl pu q
noncomputable def OZ(r:V->Option Int->Option Int->Hp->VK->Prop)(te:TE)(tl th:TO):TE:=λσ H Q=>te σ H λx H1=>tl σ H1 λl H2=>th σ H2 λu H3=>r x l u H3 Q
theorem EF(hr:L6 X r)(he:PE X e te)(hl:PO X lo tl)(hu:PO X hi th):PE X (.Subscript e (.Slice lo hi ap p2) pos) (OZ r te tl th):=by
  intro pj s σ H Q I h;refine Subscript_ (thn (he pj s σ H _ I h) λv s1 zz=>?_);obtain⟨x,H1,I1,r1,q1⟩:=zz;refine wpAny_Slice (thn (hl pj s1 σ H1 _ I1 q1) λvl s2 ⟨l,H2,I2,pl,q2⟩=>thn (hu pj s2 σ H2 _ I2 q2) λvu s3 zz=>?_);obtain⟨u,H3,I3,pu,q3⟩:=zz;rw[evalPart_none];refine ao ?_;have I4:Inv X pj σ H3 { s3 with heap:=s3.heap.push { cls:=.type "slice",data:=.fields #[vl,vu,.none] } }:=I3.kept (t':=s3.toks) λb ob q=>ak _ q;obtain⟨T,id,hT,ht,hg⟩:=hr pj { s3 with heap:=s3.heap.push { cls:=.type "slice",data:=.fields #[vl,vu,.none] } } σ H3 x v vl vu l u s3.heap.objs.size Q I4 r1 (Heap.IsSliceOf.new ..) pl pu q3;show be (bn X.prog X.w) X.A (wt e (.Slice lo hi ap p2) v (.ref s3.heap.objs.size)) (EP X pj σ Q) X.xe { s3 with heap:=s3.heap.push { cls:=.type "slice",data:=.fields #[vl,vu,.none] } };exact tail_any (ops:=[.ref s3.heap.objs.size,v]) ht hT hg (by with_unfolding_all rfl)
noncomputable def zJ(xs:List V)(lo hi:Option Int):List V:=(xs.drop (HT.f6 xs.length 0 lo)).take (HT.f6 xs.length xs.length hi-HT.f6 xs.length 0 lo)
theorem q8(xs:List V)(lo hi:Option Int):(zJ xs lo hi).length<=xs.length:=by
  unfold zJ;rw[kq,zu];right
noncomputable def NU(K:ai):V->Option Int->Option Int->Hp->VK->Prop:=λx lo hi H Q=>∃a xs,x=.ref a/\kH K H a xs /\
  ¬(HT.f6 xs.length 0 lo=0/\HT.f6 xs.length xs.length hi=xs.length) /\ ∀p,H p=ap->Q (.ref p) (upd H p (.tup (zJ xs lo hi)))
theorem JO:L6 X (NU X.K):=by
  intro pj s σ H x v vl vu lo hi sl Q I rx hs pl pu h;obtain⟨a,xs,rfl,hx,hw,q⟩:=h;cases rx;obtain⟨its,r,ht,hz⟩:=I.tuple hx;have hlen:its.toArray.size=xs.length:=by rw[cg];exact r.length.symm
  refine⟨"tuple",_,jr.lookup,ht.typeIs,?_⟩;refine HT.oF ht hs pl pu (by rw[hlen];exact hw) ?_ (by rw[hlen];exact hz);rw[hlen];refine⟨.ref s.heap.objs.size,_,I.laid (t':=s.toks) (o:=.tup (zJ xs lo hi)) (λb ob q=>ak _ q) (bg _) ?_,rfl,q _ (I.hok.fresh (bg _))⟩;exact⟨fo (q8 xs lo hi) hz,_,(r.drop (HT.f6 xs.length 0 lo)).take (HT.f6 xs.length xs.length hi-HT.f6 xs.length 0 lo),IsTup.new _ _⟩
noncomputable def Ld(K:ai):R2:=λx y H Q=>∃a b xs ys,x=.ref a/\y=.ref b/\kH K H a xs/\kH K H b ys/\xs≠[]/\xs.length+ys.length<=ay /\
  (ys=[]->Q (.ref a) H)/\(ys≠[] -> ∀p,H p=ap->Q (.ref p) (upd H p (.tup (xs++ys))))
theorem bF.nil_iff{us:List ac}(r:bF xs us):us=[] ↔ xs=[]:=by
  cases r with
  |nil=>simp
  |cons _ _=>simp
theorem HL:gR X (fu .Add) (Ld X.K):=by
  intro pj s σ H x y v u Q I rx ry h;obtain⟨a,b,xs,ys,rfl,rfl,ha,hb,hx,hz,q1,q2⟩:=h;cases rx;cases ry;obtain⟨its,r1,p1,_⟩:=I.tuple ha;obtain⟨its2,r2,p2,_⟩:=I.tuple hb;refine HT.IP p1 p2 (λz=>hx (r1.nil_iff.mp z)) (λz=>⟨.ref a,H,I,rfl,q1 (r2.nil_iff.mp z)⟩) (λz=>?_) (by rw[<- r1.length,<- r2.length];exact hz);refine⟨.ref s.heap.objs.size,_,I.laid (t':=s.toks) (o:=.tup (xs++ys)) (λb ob q=>ak _ q) (bg _) ?_,rfl,q2 (λw=>z (r2.nil_iff.mpr w)) _ (I.hok.fresh (bg _))⟩;exact⟨by rw[dj];exact hz,_,r1.append r2,IsTup.new _ _⟩
end
noncomputable def pG(n:Nat)(i:Int):Option Nat:=if 0<=i then (if i<n then aa i.toNat else ap) else if -(n:Int)<=i then aa (i+n).toNat else ap
noncomputable def j3(xs:List α)(i:Int):Option α:=(pG xs.length i).bind λj=>xs[j]?
variable {i:Int}{j:Nat}
theorem Hz(h:pG n i=aa j):seqIndex? i n=aa j/\j<n /\ -(n:Int)<=i/\i<n:=by
  unfold pG at h;by_cases h0:0<=i
  . rw[QL h0] at h;by_cases h1:i<n
    . rw[QL h1] at h;have e:i.toNat=j:=Option.some.inj h;exact⟨by rw[seqIndex_of h0 h1,e],⋯,⋯,h1⟩
    . rw[Qi h1] at h;cases h
  . rw[Qi h0] at h;by_cases h1:-(n:Int)<=i
    . rw[QL h1] at h;have e:(i+n).toNat=j:=Option.some.inj h;exact⟨by rw[seqIndex_neg ⋯ h1,e],⋯,h1,⋯⟩
    . rw[Qi h1] at h;cases h
theorem wR{xs:List α}{v:α}(h:j3 xs i=aa v):∃j,seqIndex? i xs.length=aa j/\xs[j]?=aa v/\j<xs.length /\ -(xs.length:Int)<=i/\i<xs.length:=by
  unfold j3 at h;cases e:pG xs.length i with
  |none=>rw[e] at h;cases h
  |some j=>
    rw[e] at h;obtain⟨h1,h2,h3,h4⟩:=Hz e;exact⟨j,h1,h,h2,h3,h4⟩
theorem dM{xs:List α}{v:α}(h:xs[j]?=aa v):j3 xs (j:Int)=aa v:=by
  have hj:j<xs.length:=(bt.mp h).1;have e:pG xs.length (j:Int)=aa j:=by
    unfold pG;rw[QL ⋯,QL ⋯];simp
  unfold j3;rw[e];exact h
noncomputable def C6(b:Expr):Prop:=∀o i,zv b aj o i=operate [o,i] (yi o i)
noncomputable def GP(X:Cx)(r:R2):Prop:=
  ∀(QU R4:Expr) (pj:List (ae×im)) (s:af) (σ:St) (H:Hp) (x y:V) (v u:ac) (Q:VK),Inv X pj σ H s->bX x v->bX y u->r x y H Q ->
    zv R4 aj v u=operate [v,u] (yi v u)->be (bn X.prog X.w) X.A (wt QU R4 v u) (EP X pj σ Q) X.xe s
noncomputable def OI(X:Cx)(id:String)(r:V->List V->Hp->VK->Prop):Prop:=
  ∀(pj:List (ae×im)) (s:af) (σ:St) (H:Hp) (x:V) (xs:List V) (v:ac) (us:List ac) (Q:VK),Inv X pj σ H s->bX x v->bF xs us->r x xs H Q ->
    be (bn X.prog X.w) X.A (call (.builtin id) (v::us)) (EP X pj σ Q) X.xe s
variable {T:String}
section
variable {a b:Expr}{ta tb:TE}
theorem GP.or{r r':R2}(h:GP X r)(h':GP X r'):GP X (λx y H Q=>r x y H Q \/ r' x y H Q):=by
  intro QU R4 pj s σ H x y v u Q I rx ry q hs;rcases q with q | q
  . exact h QU R4 pj s σ H x y v u Q I rx ry q hs
  . exact h' QU R4 pj s σ H x y v u Q I rx ry q hs
theorem Lp{r:R2}(hr:GP X r)(ha:PE X a ta)(hb:PE X b tb)(hs:C6 b):PE X (.Subscript a b pos) (LI r ta tb):=by
  intro pj s σ H Q I h;exact Subscript_ (L1 ha hb I h λv u s2 x y H2 I2 rx ry q=>hr a b pj s2 σ H2 x y v u Q I2 rx ry q (hs _ _))
noncomputable def La(K:ai):R2:=λx y H Q=>∃p xs i v,x=.ref p/\y=.int i/\eZ K H p xs/\j3 xs i=aa v/\Q v H
noncomputable def LY(K:ai):R2:=λx y H Q=>∃p xs i v,x=.ref p/\y=.int i/\kH K H p xs/\j3 xs i=aa v/\Q v H
noncomputable def LZ:R2:=λx y H Q=>∃z i c,x=.str z/\y=.int i/\z.length<=ay/\j3 z.cps.toList i=aa c/\Q (.str ⟨#[c]⟩) H
theorem Hx:GP X (La X.K):=by
  intro QU R4 pj s σ H x y v u Q I rx ry h hs;obtain⟨p,xs,i,z,rfl,rfl,hq,he,q⟩:=h;cases rx;obtain⟨t,rfl⟩:=ry;obtain⟨its,r,pl,hz⟩:=I.list hq;obtain⟨j,h1,h2,h3,h4,h5⟩:=wR he;obtain⟨w,ew,rw'⟩:=r.get h2;have hl:=r.length;have hn:=pD;have fin:EP X pj σ Q w s:=⟨z,H,I,rw',q⟩;by_cases h0:0<=i
  . have hj:i.toNat=j:=by
      rw[seqIndex_of h0 h5] at h1;exact Option.some.inj h1
    exact item_listR pl.isList h0 ⋯ (by rw[hj];simpa using ew) fin hs
  . have hj:(i+(its.toArray.size:Int)).toNat=j:=by
      rw[seqIndex_neg ⋯ h4] at h1;rw[cg,<- hl];exact Option.some.inj h1
    exact ui (x:=w) pl.isList.typeIs yj.lookup
      (wpAny_getItem_list_neg (Q:=λr s'=>r=w/\EP X pj σ Q r s') pl.isList ⋯ (by rw[cg]<;>right) ⋯ (by rw[hj];simpa using ew) ⟨rfl,fin⟩) hs
theorem Kh:GP X (LY X.K):=by
  intro QU R4 pj s σ H x y v u Q I rx ry h hs;obtain⟨p,xs,i,z,rfl,rfl,hq,he,q⟩:=h;cases rx;obtain⟨t,rfl⟩:=ry;obtain⟨its,r,pl,hz⟩:=I.tuple hq;obtain⟨j,h1,h2,h3,h4,h5⟩:=wR he;obtain⟨w,ew,rw'⟩:=r.get h2;have hl:=r.length;have hn:=pD;have fin:EP X pj σ Q w s:=⟨z,H,I,rw',q⟩;exact ui (x:=w) pl.typeIs slot_tuple_getitem.lookup
    (getItem_tuple (j:=j) (Q:=λr s'=>r=w/\EP X pj σ Q r s') pl ⋯ ⋯ (by rw[cg,<- hl];exact h1) (by simpa using ew) ⟨rfl,fin⟩) hs
theorem Ki:GP X LZ:=by
  intro QU R4 pj s σ H x y v u Q I rx ry h hs;obtain⟨z,i,c,rfl,rfl,hz,he,q⟩:=h;obtain⟨t,rfl⟩:=rx;obtain⟨t',rfl⟩:=ry;obtain⟨j,h1,h2,h3,h4,h5⟩:=wR he;have hl:z.cps.toList.length=z.length:=by simp[Str.length]
  rw[hl] at h1 h4 h5;have hn:=pD;exact tail_any (typeIs_str s z t) slot_str_getitem.lookup (getItem_str (c:=c) (by
    have e1:decide (i < -(2 ^ 63:Int))=aj:=decide_eq_false ⋯;have e2:decide (i >= 2 ^ 63)=aj:=decide_eq_false ⋯;rw[e1,e2,Bool.or_false]) (by rw[h1];simpa using h2) ⟨.str ⟨#[c]⟩,H,I.tok _,⟨_,rfl⟩,q⟩) hs
noncomputable def Od(K:ai):R2:=λx y H Q=>La K x y H Q \/ LY K x y H Q \/ LZ x y H Q
theorem Kj:GP X (Od X.K):=Hx.or (Kh.or Ki)
theorem uY(lo hi:Option Int)(n:Nat):(nk lo hi ap n).1=((HT.f6 n 0 lo:Nat):Int)/\(nk lo hi ap n).2.1=((HT.f6 n n hi:Nat):Int)/\(nk lo hi ap n).2.2=1:=by
  refine⟨?_,?_,rfl⟩
  . cases lo with
    |none=>simp[nk,HT.f6]
    |some i=>
      simp only[nk,HT.f6,getD_none,show (1:Int) > 0 by decide,if_true];by_cases h:i<0
      . simp only[h,if_true]<;>right
      . simp only[h,if_false]<;>right
  . cases hi with
    |none=>simp[nk,HT.f6]
    |some i=>
      simp only[nk,HT.f6,getD_none,show (1:Int) > 0 by decide,if_true];by_cases h:i<0
      . simp only[h,if_true]<;>right
      . simp only[h,if_false]<;>right
theorem t0(its:List ac)(lo hi:Option Int):slicePick its.toArray lo hi ap=((its.drop (HT.f6 its.length 0 lo)).take (HT.f6 its.length its.length hi-HT.f6 its.length 0 lo)).toArray:=by
  obtain⟨h1,h2,h3⟩:=uY lo hi its.toArray.size;unfold slicePick;rw[h1,h2,h3];simp only[sliceRange_one,pick_run,cg]<;>rfl
noncomputable def NV(K:ai):V->Option Int->Option Int->Hp->VK->Prop:=λx lo hi H Q=>∃a xs,x=.ref a/\eZ K H a xs /\ ∀p,H p=ap->Q (.ref p) (upd H p (.lst (zJ xs lo hi)))
theorem GX:L6 X (NV X.K):=by
  intro pj s σ H x v vl vu lo hi sl Q I rx hs pl pu h;obtain⟨a,xs,rfl,hx,q⟩:=h;cases rx;obtain⟨its,r,ht,hz⟩:=I.list hx;have hlen:=r.length;refine⟨"list",_,yj.lookup,ht.isList.typeIs,?_⟩;refine wpAny_getItem_list_slice ht.isList hs pl pu .none (by simp) ?_ (by rw[cg]<;>right);rw[t0,<- hlen];refine⟨.ref s.heap.objs.size,_,I.laid (t':=s.toks) (o:=.lst (zJ xs lo hi)) (λb ob q=>ak _ q) (bg _) ?_,rfl,q _ (I.hok.fresh (bg _))⟩;exact⟨fo (q8 xs lo hi) hz,_,0,(r.drop (HT.f6 xs.length 0 lo)).take (HT.f6 xs.length xs.length hi-HT.f6 xs.length 0 lo),bi _ rfl⟩
theorem wO:fX X (.builtin "len") (λxs H Q=>∃p ys,xs=[.ref p]/\(eZ X.K H p ys \/ kH X.K H p ys)/\Q (.int ys.length) H):=by
  intro pj s σ H xs us Q I r h;obtain⟨p,ys,rfl,hq,q⟩:=h;obtain⟨u,rfl,rx⟩:=kM r;cases rx;have hn:=pD;rcases hq with hq | hq
  . obtain⟨its,r',pl,hz⟩:=I.list hq;have hlen:=r'.length;exact Calls.call_len_list pl.isList (by simp only[cg]<;>right) ⟨.int ys.length,H,I.tok _,⟨s.toks+1,by rw[cg,hlen]⟩,q⟩
  . obtain⟨its,r',pl,hz⟩:=I.tuple hq;have hlen:=r'.length;exact len_tuple pl (by simp only[cg]<;>right) ⟨.int ys.length,H,I.tok _,⟨s.toks+1,by rw[cg,hlen]⟩,q⟩
theorem wN:fX X (.builtin "len") (λxs H Q=>∃z,xs=[.str z]/\z.length<=ay/\Q (.int z.length) H):=by
  intro pj s σ H xs us Q I r h;obtain⟨z,rfl,hz,q⟩:=h;obtain⟨u,rfl,t,rfl⟩:=kM r;have hn:=pD;exact len_str ⋯ ⟨.int z.length,H,I.tok _,⟨_,rfl⟩,q⟩
theorem fX.or{f:ac}{r r':List V->Hp->VK->Prop}(h:fX X f r)(h':fX X f r'):fX X f (λxs H Q=>r xs H Q \/ r' xs H Q):=by
  intro pj s σ H xs us Q I rs q;rcases q with q | q
  . exact h pj s σ H xs us Q I rs q
  . exact h' pj s σ H xs us Q I rs q
theorem wM:fX X (.type "list") (λxs H Q=>∃p ys,xs=[.ref p]/\(eZ X.K H p ys \/ kH X.K H p ys) /\ ∀l,H l=ap->Q (.ref l) (upd H l (.lst ys))):=by
  intro pj s σ H xs us Q I r h;obtain⟨p,ys,rfl,hq,q⟩:=h;obtain⟨u,rfl,rx⟩:=kM r;cases rx;have fin:∀(its:List ac),bF ys its->ys.length<=ay -> ∀(h':ca) (c':Nat),(∀b o',s.heap.get? b=aa o'->h'.get? b=aa o') ->
      h'.get? s.heap.objs.size=aa { cls:=.type "list",dict:=ap,data:=.seq its.toArray c',slots:=#[] }->EP X pj σ Q (.ref s.heap.objs.size) { s with heap:=h' }:=λits r' hz h' c' kp e=>
    ⟨.ref s.heap.objs.size,_,I.laid (t':=s.toks) kp (bg _) (show cF X.prog X.w _ h' _ (.lst ys) from⟨hz,its,c',r',e⟩),rfl,q _ (I.hok.fresh (bg _))⟩
  rcases hq with hq | hq
  . obtain⟨its,r',pl,hz⟩:=I.list hq;have hlen:=r'.length;obtain⟨o,ho,hc,n,hd⟩:=pl.isList;exact call_list_seq p (.inl rfl) ho hc hd (λh' c' kp e=>fin its r' hz h' c' kp e) (by simp only[cg]<;>right)
  . obtain⟨its,r',pl,hz⟩:=I.tuple hq;have hlen:=r'.length;obtain⟨o,ho,hc,n,hd⟩:=pl;exact call_list_seq p (.inr rfl) ho hc hd (λh' c' kp e=>fin its r' hz h' c' kp e) (by simp only[cg]<;>right)
theorem tN:fX X (.type "tuple") (λxs H Q=>∃p ys,xs=[.ref p]/\((eZ X.K H p ys /\ ∀l,H l=ap->Q (.ref l) (upd H l (.tup ys))) \/ (kH X.K H p ys/\Q (.ref p) H))):=by
  intro pj s σ H xs us Q I r h;obtain⟨p,ys,rfl,h⟩:=h;obtain⟨u,rfl,rx⟩:=kM r;cases rx;rcases h with⟨hq,q⟩ | ⟨hq,q⟩
  . obtain⟨its,r',pl,hz⟩:=I.list hq;have hlen:=r'.length;refine call_tuple_list pl.isList (λh' kp=>?_) (by simp only[cg]<;>right);have I1:Inv X pj σ H { s with heap:=h' }:=I.kept (t':=s.toks) kp;have I2:Inv X pj σ (upd H h'.objs.size (.tup ys)) { s with heap:=h'.push { cls:=.type "tuple",data:=.seq its.toArray } }:=
      I1.laid (t':=s.toks) (λb o e=>ak _ e) (bg _) (show cF X.prog X.w _ _ _ (.tup ys) from⟨hz,its,r',IsTup.new _ _⟩)
    exact⟨.ref h'.objs.size,_,I2,rfl,q _ (I1.hok.fresh (bg _))⟩
  . obtain⟨its,r',pl,hz⟩:=I.tuple hq;exact call_tuple_same pl ⟨.ref p,H,I,rfl,q⟩
noncomputable def ND(K:ai)(T:String)(x:V)(H:Hp):Prop:=match x with
  | .str _=>T = "str"
  | .int _=>T = "int"
  | .ref p=>(T = "list" /\ ∃xs,eZ K H p xs) \/ (T = "tuple" /\ ∃o,K.lookup p=aa o/\o.cls=.type "tuple" /\ o.dict=ap) \/
      (T = "dict" /\ ((∃kvs,H p=aa (.dK kvs)) \/ ∃ep kvs,H p=aa (.dT ep kvs))) \/ (T = "set" /\ ∃S n,H p=aa (.set S n))
  |_=>False
theorem Da{x:V}{v:ac}(I:Inv X pj σ H s)(r:bX x v)(ty:ND X.K T x H):
    s.TypeIs v T /\ ∀a,v=.ref a -> ∃ob,s.heap.get? a=aa ob/\ob.dict=ap:=by
  cases x with
  |str z=>
    obtain⟨t,rfl⟩:=r;cases (show T = "str" from ty);exact⟨typeIs_str s z t,λ_ e=>nomatch e⟩
  |int i=>
    obtain⟨t,rfl⟩:=r;cases (show T = "int" from ty);exact⟨Ph s i t,λ_ e=>nomatch e⟩
  |ref p=>
    cases r;rcases ty with⟨rfl,xs,hq⟩ | ⟨rfl,o,hk,hc,hd⟩ | ⟨rfl,hk⟩ | ⟨rfl,S,n,hk⟩
    . obtain⟨its,_,pl,_⟩:=I.list hq;refine⟨pl.isList.typeIs,λa e=>?_⟩;cases e;obtain⟨o,n,e,c,hd,_⟩:=pl;exact⟨o,e,hd⟩
    . refine⟨⟨o,I.kIn p o hk,hc⟩,λa e=>?_⟩;cases e;exact⟨o,I.kIn _ o hk,hd⟩
    . have z:∃o,s.heap.get? p=aa o/\o.ExactDict:=by
        rcases hk with⟨kvs,hk⟩ | ⟨ep,kvs,hk⟩
        . obtain⟨_,_,_,_,o,_,_,e,ex,_⟩:=I.hok p _ hk;exact⟨o,e,ex⟩
        . obtain⟨_,_,_,_,o,_,e,ex,_⟩:=I.hok p _ hk;exact⟨o,e,ex⟩
      obtain⟨o,e,ex⟩:=z;refine⟨⟨o,e,ex.1⟩,λa e2=>?_⟩;cases e2;exact⟨o,e,ex.2.1⟩
    . obtain⟨o,_,_,_,e,ex,_⟩:=I.hok p _ hk;refine⟨⟨o,e,ex.1⟩,λa e2=>?_⟩;cases e2;exact⟨o,e,ex.2.1⟩
  |_=>exact ig ty
noncomputable def NQ(K:ai)(T:String)(r:V->List V->Hp->VK->Prop)(to:TE):TE:=λσ H Q=>to σ H λx H1=>ND K T x H1/\r x [] H1 Q
noncomputable def Oc(K:ai)(T:String)(r:V->List V->Hp->VK->Prop)(to:TE)(t:TA):TE:=λσ H Q=>to σ H λx H1=>ND K T x H1/\t σ H1 λxs H2=>r x xs H2 Q
variable {o:Expr}{to:TE}{t:TA}{name:az}{QZ:gv}{id:String}{r:V->List V->Hp->VK->Prop}
theorem Jq(pa:PlainAttrs T)(slot:Slot T name id)(hty:typeOf (.builtin id)=gc (.type "method_descriptor"))(hm:OI X id r)(ho:PE X o to)
    (R6:autoParam (jn o name X.env (em o X.env)=em o X.env) c6._auto_1) (R7:autoParam ((QZ.endLine==Ri.line)=ah) c6._auto_1):PE X (.Call (.Attribute o name QZ) [] [] Ri) (NQ X.K T r to):=by
  intro pj s σ H Q I h;refine wpAny_Call_method0_late R6 R7 (thn (ho pj s σ H _ I h) λv s1 zz=>?_);obtain⟨x,H1,I1,r1,ty,q1⟩:=zz;obtain⟨h1,h2⟩:=Da I1 r1 ty;exact⟨T,id,pa,slot,hty,h1,h2,uj rfl (PySem.evalArgs_none (hm pj s1 σ H1 x [] v [] Q I1 r1 .nil q1))⟩
theorem Ii(pa:PlainAttrs T)(slot:Slot T name id)(hty:typeOf (.builtin id)=gc (.type "method_descriptor"))(hm:OI X id r)(ho:PE X o to)(ha:PA X (e::es) t)
    (R6:autoParam (jn o name X.env (em o X.env)=em o X.env) c6._auto_1)
    (hfew:autoParam (((ix Ri (aw (e::es) X.env)).all (λx=>!x.1)&&(tj Ri (ni [] X.env)).all (λx=>x.1.isSome)
      && decide ((e::es).length+([]:List wf).length+(if ([]:List wf).isEmpty then 0 else 1)<30))=ah) c6._auto_1)
    (R7:autoParam ((QZ.endLine==Ri.line)=ah) c6._auto_1) (hs:autoParam (aw (e::es) X.env=(aj,em e X.env)::aw es X.env) c6._auto_1) (Rf:autoParam ((ix Ri (aw es X.env)).any (·.1)=aj) c6._auto_1):
    PE X (.Call (.Attribute o name QZ) (e::es) [] Ri) (Oc X.K T r to t):=by
  intro pj s σ H Q I h;refine wpAny_Call_method_late R6 hfew R7 rfl (thn (ho pj s σ H _ I h) λv s1 zz=>?_);obtain⟨x,H1,I1,r1,ty,q1⟩:=zz;obtain⟨h1,h2⟩:=Da I1 r1 ty;refine⟨T,id,pa,slot,hty,h1,h2,?_⟩;have hA:=ha Ri pj s1 σ H1 _ I1 q1;rw[hs] at hA ⊢;refine uj (by show (aj || (ix Ri (aw es X.env)).any (·.1))=aj;rw[Rf]<;>rfl) (Calls.evalArgs_plain ?_);exact thn hA λus s2 zq3=>by obtain⟨vs,H2,I2,r2,q2⟩:=zq3;exact hm pj s2 σ H2 x vs v us Q I2 r1 r2 q2
/- xs.append(e),list.index on a module's tuple .. are OI facts of 06m -/
end
noncomputable def OJ(X:Cx)(id:String)(r:V->List V->Hp->VK->Prop):Prop:=
  ∀(pj:List (ae×im)) (s:af) (σ:St) (H:Hp) (x:V) (xs:List V) (v:ac) (us:List ac) (Q:VK),Inv X pj σ H s->bX x v->bF xs us->r x xs H Q ->
    be (bn X.prog X.w) X.A (call (.builtin id) (v::us)) (EP X pj σ Q) X.xe s
theorem bF.one:∀{x:V} {us:List ac},bF [x] us -> ∃u,us=[u]/\bX x u
  |_,_,.cons r .nil=>⟨_,rfl,r⟩
theorem bF.zero:∀{us:List ac},bF [] us->us=[]
  |_,.nil=>rfl
theorem bF.dropLast{xs:List V}{us:List ac}(h:bF xs us):bF xs.dropLast us.dropLast:=by
  induction h with
  |nil=>exact .nil
  |cons r t ih=>
    cases t with
    |nil=>exact .nil
    |cons q t'=>exact .cons r ih
theorem bF.rep{xs:List V}{us:List ac}(h:bF xs us):∀k:Nat,bF (au k xs).flatten (au k us).flatten
  |0=>.nil
  |k+1=>by
    rw[gr,gr,oo,oo];exact bF.append h (bF.rep h k)
theorem Ag(l:List α):l.eraseIdx (l.length-1)=l.dropLast:=by
  induction l with
  |nil=>rfl
  |cons a r ih=>
    cases r with
    |nil=>rfl
    |cons b r=>
      have e:(a::b::r).length-1=((b::r).length-1)+1:=by
        have h1:(a::b::r).length=r.length+2:=rfl;have h2:(b::r).length=r.length+1:=rfl;right
      rw[e,List.eraseIdx_cons_succ,ih]
      all_goals rfl
theorem uB(its:List ac):∀(k:Nat) (acc:List ac),
    Pi (λx1 x2=>x1++x2) acc.toArray (au k its.toArray)=(acc++(au k its).flatten).toArray
  |0,acc=>by simp
  |k+1,acc=>by
    have e:acc.toArray++its.toArray=(acc++its).toArray:=by simp
    have e2:(acc++its)++(au k its).flatten=acc++(au (k+1) its).flatten:=by
      rw[gr,oo,oq]
    rw[<- e2,<- uB its k (acc++its),<- e,gr,Pj]
variable {its:List ac}{t':Nat}
section
variable {l:ae}{ys zs:List V}
theorem Inv.lset{its':List ac}{f:Array ac->Array ac}(I:Inv X pj σ H s)(hH:H l=aa (.lst xs))
    (e:s.heap.get? l=aa { cls:=.type "list",data:=.seq its.toArray n }) (hf:f its.toArray=its'.toArray) (hv:bF ys its') (hz:ys.length<=ay):
    Inv X pj σ (upd H l (.lst ys)) { s with heap:=s.heap.update l (Pk f),toks:=t' }:=by
  have q:=PySem.IsL.update e f;rw[hf] at q;refine I.write (x:=l) (e:=l) (by rw[hH];exact trivial) (.inl rfl) (λb' u hb hu=>(di s.heap (Pk f) (gp hb)).trans hu) ⟨_,q⟩ ?_;exact⟨hz,its',_,hv,q⟩
theorem Inv.lnew(I:Inv X pj σ H s)(hv:bF ys its)(hz:ys.length<=ay):
    Inv X pj σ (upd H s.heap.objs.size (.lst ys)) { s with heap:=s.heap.push { cls:=.type "list",data:=.seq its.toArray },toks:=t' }:=
  I.laid (λ_ _ q=>ak _ q) (bg _) ⟨hz,its,0,hv,bi _ rfl⟩
theorem Inv.fresh(I:Inv X pj σ H s):H s.heap.objs.size=ap:=I.hok.fresh (bg _)
theorem Inv.lstM(I:Inv X pj σ H s)(hH:H l=aa (.lst xs)):xs.length<=ay /\ ∃(its:List ac) (n:Nat),bF xs its/\xs.length=its.length/\s.heap.get? l=aa { cls:=.type "list",data:=.seq its.toArray n }:=by
  obtain⟨z,its,n,r,e⟩:=I.hok l _ hH;exact⟨z,its,n,r,r.length,e⟩
theorem yI(h:n<=ay):jp n=aj:=by
  unfold jp;exact decide_eq_false ⋯
end
noncomputable def Gc:V->List V->Hp->VK->Prop:=λx vs H Q=>∃l xs y,x=.ref l/\vs=[y]/\H l=aa (.lst xs)/\xs.length<ay/\Q .non (upd H l (.lst (xs++[y])))
theorem u5:OJ X "list.append" Gc:=by
  intro pj s σ H x vs v us Q I rx rv h;obtain⟨l,xs,y,rfl,rfl,hH,hz,q⟩:=h;cases rx;obtain⟨u,rfl,ru⟩:=rv.one;obtain⟨z,its,n,r,hl,e⟩:=I.lstM hH;refine uk F.slot_list_append ⟨_,e,rfl⟩ F.entry_list_append (F.args_list_append_2 _ _) (PySem.list_append l its.toArray n u (by rw[cg];right)) ⟨e,?_⟩;refine⟨.non,_,I.lset (its':=its++[u]) hH e (by simp) (r.append (.cons ru .nil)) ?_,rfl,q⟩;rw[dj,vg];right
noncomputable def Gb:V->List V->Hp->VK->Prop:=λx vs H Q=>∃l b xs zs,x=.ref l/\vs=[.ref b]/\H l=aa (.lst xs)/\H b=aa (.lst zs)/\xs.length+zs.length<=ay/\Q .non (upd H l (.lst (xs++zs)))
theorem Cr:OJ X "list.extend" Gb:=by
  intro pj s σ H x vs v us Q I rx rv h;obtain⟨l,b,xs,zs,rfl,rfl,hH,hB,hz,q⟩:=h;cases rx;obtain⟨u,rfl,ru⟩:=rv.one;cases ru;obtain⟨z,its,n,r,hl,e⟩:=I.lstM hH;obtain⟨z2,its2,n2,r2,hl2,e2⟩:=I.lstM hB;have hsz:its.toArray.size+its2.toArray.size<=ay:=by rw[cg,cg];right
  have hlong:¬(!its.toArray.isEmpty&&jp (its.toArray.size+its2.toArray.size))=ah:=by
    rw[yI hsz,Bool.and_false];exact gn
  refine uk F.slot_list_extend ⟨_,e,rfl⟩ F.entry_list_extend (F.args_list_extend_2 _ _)
    (AutoSeq1.list_extend_list_list_0 l its.toArray n b its2.toArray n2 hlong (by rw[cg];right) ⋯) ⟨e,e2,?_⟩
  refine⟨.non,_,I.lset (its':=its++its2) hH e (by simp) (r.append r2) ?_,rfl,q⟩;rw[dj];right
noncomputable def NX:V->List V->Hp->VK->Prop:=λx vs H Q=>∃l xs y,x=.ref l/\vs=[]/\H l=aa (.lst xs)/\xs[xs.length-1]?=aa y/\Q y (upd H l (.lst xs.dropLast))
theorem KJ:OJ X "list.pop" NX:=by
  intro pj s σ H x vs v us Q I rx rv h;obtain⟨l,xs,y,rfl,rfl,hH,hy,q⟩:=h;cases rx;have hus:=rv.zero;subst hus;obtain⟨z,its,n,r,hl,e⟩:=I.lstM hH;obtain⟨u,hu,ru⟩:=r.get hy;have hy':its.toArray[its.toArray.size-1]?=aa u:=by
    show its.toArray[its.length-1]?=aa u;rw[<- jb,<- hl];exact hu
  refine uk F.slot_list_pop ⟨_,e,rfl⟩ F.entry_list_pop (F.args_list_pop_1 _) (MeetsSeq.list_pop_last l its.toArray n u hy' (by rw[cg];right)) ⟨e,?_⟩;refine⟨y,_,I.lset (its':=its.dropLast) hH e ?_ r.dropLast ?_,ru,q⟩
  . show its.toArray.eraseIdxIfInBounds (its.toArray.size-1)=its.dropLast.toArray;rw[cg,List.eraseIdxIfInBounds_toArray,Ag]
  . rw[List.length_dropLast];right
noncomputable def Nd:R2:=λx y H Q=>∃l b xs zs,x=.ref l/\y=.ref b/\H l=aa (.lst xs)/\H b=aa (.lst zs)/\xs.length+zs.length<=ay /\ ∀p,H p=ap->Q (.ref p) (upd H p (.lst (xs++zs)))
theorem KC:gR X (fu .Add) Nd:=by
  intro pj s σ H x y v u Q I rx ry h;obtain⟨l,b,xs,zs,rfl,rfl,hH,hB,hz,q⟩:=h;cases rx;cases ry;obtain⟨z,its,n,r,hl,e⟩:=I.lstM hH;obtain⟨z2,its2,n2,r2,hl2,e2⟩:=I.lstM hB;refine PySem.P.add_list e e2 ?_ (by rw[cg,cg];right);have ea:its.toArray++its2.toArray=(its++its2).toArray:=by simp
  rw[ea];exact⟨.ref _,_,I.lnew (t':=s.toks) (r.append r2) (by rw[dj];right),rfl,q _ I.fresh⟩
noncomputable def NW:R2:=λx y H Q=>∃l k xs,x=.ref l/\y=.int k/\H l=aa (.lst xs) /\ -(2 ^ 63)<=k/\k<2 ^ 63/\xs.length*k.toNat<=ay /\
  ∀p,H p=ap->Q (.ref p) (upd H p (.lst (au k.toNat xs).flatten))
theorem Hc(xs:List α)(k:Nat):(au k xs).flatten.length=k*xs.length:=by
  induction k with
  |zero=>simp
  |succ k ih=>rw[gr,oo,dj,ih,Nat.succ_mul,Nat.add_comm]
theorem Jy:gR X (fu .Mult) NW:=by
  intro pj s σ H x y v u Q I rx ry h;obtain⟨l,k,xs,rfl,rfl,hH,h1,h2,hz,q⟩:=h;cases rx;obtain⟨t,rfl⟩:=ry;obtain⟨z,its,n,r,hl,e⟩:=I.lstM hH;have hlen:its.toArray.size*k.toNat<=ay:=by rw[cg,<- hl];exact hz
  have hcap:¬its.toArray.size*k.toNat > (2 ^ 63-1) / 8:=by
    have:(ay:Nat)<=(2 ^ 63-1) / 8:=by decide
    right
  have hfit:¬(!Builtin.List.listFitsIndex k)=ah:=by
    rw[fitsIndex_both h1 h2];exact gn
  have hlong:¬jp (its.toArray.size*k.toNat)=ah:=by
    rw[yI hlen];exact gn
  have hnew:Pi (λx1 x2=>x1++x2) #[] (au (if its.toArray.isEmpty=ah then 0 else k.toNat) its.toArray)=(au k.toNat its).flatten.toArray:=by
    have f0:∀m:Nat,Pi (λx1 x2=>x1++x2) #[] (au m its.toArray)=(au m its).flatten.toArray:=λm=>by
      have:=uB its m [];rw[mw] at this;exact this
    rw[f0];cases its with
    |nil=>simp
    |cons a r'=>rw[Qi (by simp)]
  refine wpAny_binaryOp_repeat_ref (T:="list") (U:="int") ∅ ⟨_,e,rfl⟩ (λs'=>Ph s' k t) noFill_list_mul F.fills_int_mul Os repeat_list F.slot_int_index.lookup
    (uk Os (Ph s k t) F.entry_int_rmul (F.args_int_rmul_2 _ _) (int___rmul___int_list k t l its.toArray n)
      ⟨e,rfl,⟨_,e,rfl⟩,uk F.slot_list_mul ⟨_,e,rfl⟩ F.entry_list_mul (F.args_list_mul_2 _ _) (AutoListH.list___mul___list_int_3 l its.toArray n k t hfit hcap hlong) ⟨e,?_⟩⟩)
  rw[hnew];exact⟨.ref _,_,I.lnew (t':=s.toks) (r.rep k.toNat) (by rw[Hc,PV];exact hz),rfl,q _ I.fresh⟩
end L2
namespace Att
open PySem PySem.W PySem.Calls PyProof.Rows
variable {P:PX}
theorem qB:∀(ns:List Int) (vs:List ac),WellAll P h vs (ns.map WData.int)->ki vs ns:=by
  intro ns;induction ns with
  |nil=>
    intro vs w;rw[uh] at w;cases w;exact .nil
  |cons n ns ih=>
    intro vs w;rw[cb] at w;cases w with
    |cons a b=>
      cases a;exact .cons _ _ (ih _ b)
variable {l:OpenLaw}
theorem CI(hn:l.most=aa n){args:List WData}{vals:List ac}
    (hpre:l.row.toRowW.claim.pre args=ah) (hwl:WellAll P h vals args):
    ∃a vs ns,vals=[Value.ref a]/\args=[WData.list (ns.map WData.int)]/\h.get? a=aa { cls:=.type "list",data:=.seq vs.toArray }/\ki vs ns/\ns.length<=n:=by
  have hsh:WShape.hasAll [] args [.list .int]=ah:=(pre_splitW hpre).1;have hc:l.pre.holds [] { args:=args }=ah:=(pre_splitW hpre).2;obtain⟨d,r,rfl,h1,h2⟩:=hasAllW_cons hsh;obtain rfl:=hasAllW_nil h2;obtain⟨xs,rfl,h3⟩:=hasW_list h1;obtain⟨ns,rfl⟩:=items_int h3;have hlen:ns.length<=n:=by
    unfold OpenLaw.pre at hc;have h4:(WTm.not (.lt (.lit (.int (n:Int))) (.len (.arg 0)))).holds [] { args:=[.list (ns.map .int)] }=ah:=by
      have h4:=(holds_andW hc).1;rw[hn] at h4;exact h4
    have h5:=condW_of h4 (w_not (w_lt w_lit (w_len_list (w_arg rfl))));rw[bc] at h5;refine lh λq=>?_;have q':(n:Int)<((ns.length:Nat):Int):=⋯
    first
      | (rw[decide_eq_true q'] at h5;exact absurd h5 ∅)
      | (simp at h5;right)
  cases hwl with
  |cons w1 w2=>
    cases w2;cases w1 with
    |list ho Rj=>exact⟨_,_,ns,rfl,rfl,ho,qB ns _ Rj,hlen⟩
theorem CQ(l:OpenLaw)(args:List WData):l.row.toRowW.claim.post args (.bool ah) args=ah:=
  postW_of (r:=l.row.toRowW) (X:=(ah==ah))
    (show WShape.has [] (.bool ah) .bool=ah by first | rfl | decide | simp[WShape.has,WShape.arms,WShape.armsAll])
    (show (WTm.eq .res (.lit (.bool ah))).value [] { args:=args,res:=aa (.bool ah),after:=args }=aa (.bool (ah==ah)) from w_eq_bool (w_res rfl) w_lit) rfl
theorem zR{q:aq}{loose:List az}{XP:(az->Option ac)->ca->Prop}{YP:bb->ca->Prop}{d:DefRec}
    (hn:l.most=aa n) (hdf:d.params.defaults=[])
    (call:∀(w:bb) (s₀ s₁:af) (mg mb:az->Option ac) (fa:ae) (o:im) (pm cd doc:ac) (a:ae) (vs:List ac) (ns:List Int),
      Ground q loose [] XP w s₀ mg mb s₁.heap->YP w s₁.heap ->
      s₁.heap.get? fa=aa o->o.data=.func (docDef d.name d.params d.body d.scope pm cd doc)->s₁.heap.CodeRec cd d.name->mg d.name=aa (.ref fa) ->
      s₁.heap.get? a=aa { cls:=.type "list",data:=.seq vs.toArray }->ki vs ns->ns.length<=n->s₁.gens = #[] ->
      uf (bn l.prog w) wg (.call (.ref fa) ⟨[.ref a],[]⟩) (λr s'=>r=.ok (.ret (.bool ah))/\OldK s₁.heap s'.heap/\s'.os=s₁.os/\sh s'.gens) s₁):
    WalkO q loose XP YP l.row.toRowW d [] (λf vs=>PySem.call f vs):=by
  intro w s₀ s₁ mg mb G Y fa o pm cd doc dV kV ho hd hcd hD hmg hg args vals as hpre hlay hrd hwl hlo;obtain rfl:dV=.none:=Dflts.none hD hdf;obtain rfl:kV=.none:=Dflts.noKw hD;obtain⟨a,vs,ns,rfl,rfl,hobj,hints,hlen⟩:=CI hn hpre hwl;refine enter_call (qv (call w s₀ s₁ mg mb fa o pm cd doc a vs ns G Y ho (fd_plain hd) hcd hmg hobj hints hlen hg) λr s' hq=>?_);obtain⟨rfl,h2,h3,h4⟩:=hq;exact⟨.inl ⟨.bool ah,.bool ah,[],rfl,λ_=>rfl,.bool ah,CQ l _,λ_=>⟨List.Pairwise.nil,λ_ hm=>(nomatch hm)⟩⟩,h2,h3,h4⟩
section
variable {K:Frag}
end
end Att
variable {H' H1:L2.Hp}
namespace L2
theorem tU:∀{vs:List ac} {ns:List Int},ki vs ns->bF (ns.map V.int) vs
  |_,_,.nil=>.nil
  |_,_,.cons n t h=>.cons ⟨t,rfl⟩ (tU h)
noncomputable def GL(H:Hp):Prop:=∀b,H b=ap \/ ∃o xs,H b=aa (.frz o (.lst xs))
variable {fd:gh}{sp:Sp}
theorem FK{mb:az->Option ac}{CX:GN}{k:Nat}{fa:ae}{s₁:af}{vs:List ac}
    (KX:K.In s₁.heap) (hns:s₁.heap.Ns fk mg) (hb:s₁.heap.Ns P5 mb) (hbb:∀x:az,x ≠ "__name__" -> mb x=jy x) (hlim:s₁.heap.NoLimit) (hg:s₁.gens = #[])
    (ha:s₁.heap.get? a=aa { cls:=.type "list",data:=.seq vs.toArray }) (hi:ki vs ns) (hl:ns.length<=ay) (hr:Room k wg)
    (F:∀base:ca,K.In base->base.Ns fk mg->FnOk P w K mg base CX k fa fd [x] sp) (hbind:∀(s:af) (u:ac),yf s fd ⟨[u],[]⟩ [(x,u)])
    (hsp:∀H:Hp,GL H->eZ K H a (ns.map V.int)->sp [.ref a] H (λv _=>v=.bl ah) λ_ _ _=>False)
    (hCX:∀H e s',CX [] H s₁ (λ_ _ _=>False) e s'->False):
    uf (bn P w) wg (.call (.ref fa) ⟨[.ref a],[]⟩) (λr s'=>r=.ok (.ret (.bool ah))/\OldK s₁.heap s'.heap/\s'.os=s₁.os/\sh s'.gens) s₁:=by
  have rv:=tU hi;have lenV:=hi.length;have core:∀H:Hp,GL H->eZ K H a (ns.map V.int)->nV P w H s₁.heap->(∀b,H b≠ap->b=a)->(H a≠ap->K.lookup a=ap) ->
      uf (bn P w) wg (.call (.ref fa) ⟨[.ref a],[]⟩) (λr s'=>r=.ok (.ret (.bool ah))/\OldK s₁.heap s'.heap/\s'.os=s₁.os/\sh s'.gens) s₁:=by
    intro H hO hS hok hA hK;have base_of:∀{b:ae} {o:im},s₁.heap.get? b=aa o->H b=ap->(vU s₁.heap H).get? b=aa o:=λe n=>Fo e n;have noA:∀{b:ae} {o:im} {es:Array ir} {ep:Nat},s₁.heap.get? b=aa o->o.data=.dict es ep->H b=ap:=λ{b o es ep} e d=>by
      cases q:H b with
      |none=>rfl
      |some u=>
        have e':b=a:=hA b (by rw[q];simp);subst e';rw[ha] at e;cases e;have d':Data.seq vs.toArray _=Data.dict es ep:=d;cases d'
    have nsK:∀{b:ae} {m:az->Option ac},s₁.heap.Ns b m->(vU s₁.heap H).Ns b m:=λ{b m} ⟨o,es,ep,e,d,r⟩=>⟨o,es,ep,base_of e (noA e d),d,r⟩;have hKb:K.In (vU s₁.heap H):=λb o e=>base_of (KX b o e) (by
      cases q:H b with
      |none=>rfl
      |some u=>
        have e':b=a:=hA b (by rw[q];simp);subst e';rw[hK (by rw[q];simp)] at e;cases e)
    have hM:Mod K mg (vU s₁.heap H):=⟨hKb,nsK hns,⟨mb,nsK hb,hbb⟩,let ⟨mc,h1,h2⟩:=hlim;⟨mc,nsK h1,h2⟩⟩;have e0:Env0 P w K mg (vU s₁.heap H) wg [] s₁ H:=⟨rfl,hM,λb o e=>HN e,PU (DB _ _),trivial,λb hb=>absurd (show b∈([]:List ae) from hb) (by simp),hok,.of_eq hg⟩;refine qv ((F _ hKb (nsK hns)).run wg [] s₁ H ⟨[.ref a],[]⟩ [.ref a] [.ref a] _ _ hr e0 (hbind s₁ (.ref a)) (.cons rfl .nil) (hsp H hO hS)) λr s' h=>?_;cases r with
    |error e=>exact(hCX H e s' h).elim
    |ok fl=>
      cases fl with
      |next=>exact ig h
      |brk=>exact ig h
      |cont=>exact ig h
      |ret u=>
        obtain⟨v,H',os,bare,un,hok',r',q⟩:=h;have q':v=.bl ah:=q;subst q';obtain rfl:u=xc ah:=r';refine⟨rfl,OldK.of_keep λb o e=>?_,os,bare⟩;cases q:H b with
        |none=>exact un.keep b o e q (by intro z;exact absurd (show b∈([]:List ae) from z) (by simp)) (by simp)
        |some u=>
          rcases hO b with z | ⟨ob,xs,z⟩
          . rw[q] at z;cases z
          . have z2:=un.frzs b ob _ z;obtain⟨e1,_⟩:=hok b _ z;obtain⟨e2,_⟩:=hok' b _ z2;rw[e] at e1;cases e1;exact e2
  cases hk:K.lookup a with
  |some o=>
    have e:=KX a o hk;rw[ha] at e;cases e;refine core (λ_=>ap) (λ_=>.inl rfl) (.inr ⟨_,vs.toArray,_,hk,rfl,rfl,rfl,by rw[cg,lenV];exact hl,by simpa using rv⟩) (λb u z=>by have z':(ap:Option HO)=aa u:=z;cases z') (λb z=>absurd rfl z) λz=>absurd rfl z
  |none=>
    refine core (λb=>if b=a then aa (.frz { cls:=.type "list",data:=.seq vs.toArray } (.lst (ns.map V.int))) else ap) (λb=>?_) (.inl (.inr ⟨{ cls:=.type "list",data:=.seq vs.toArray },QL rfl⟩)) (λb u z=>?_) (λb z=>?_) λ_=>hk
    . by_cases hb:b=a
      . exact .inr ⟨_,_,QL hb⟩
      . exact .inl (Qi hb)
    . by_cases hb:b=a
      . have z':=(QL hb).symm.trans z;cases z';subst hb;exact⟨ha,by rw[bc];exact hl,vs,_,rv,ha⟩
      . have z':=(Qi hb).symm.trans z;cases z'
    . by_cases hb:b=a
      . exact hb
      . exact absurd (Qi hb) z
theorem GR{l:W.OpenLaw}{k:Nat}{q:aq}{loose:List az}{XP:(az->Option ac)->ca->Prop}{YP:bb->ca->Prop}{d:DefRec}{K:PX->ai}{CX:bb->GN}{sp:bb->Sp}
    (hn:l.most=aa n) (hn2:n<=ay) (hdf:d.params.defaults=[]) (hr:Room k wg)
    (hY:∀(w:bb) (h:ca),YP w h->(K w.params).In h)
    (F:∀(w:bb) (mg:az->Option ac) (fa:ae) (h:ca),(K w.params).In h->h.Ns fk mg->mg d.name=aa (.ref fa) ->
      ∃fd:gh,(∀(s:af) (u:ac),yf s fd ⟨[u],[]⟩ [(x,u)]) /\
        ∀base:ca,(K w.params).In base->base.Ns fk mg->FnOk l.prog w (K w.params) mg base (CX w) k fa fd [x] (sp w))
    (hsp:∀(w:bb) (H:Hp) (a:ae) (ns:List Int),ns.length<=n->GL H->eZ (K w.params) H a (ns.map V.int)->sp w [.ref a] H (λv _=>v=.bl ah) λ_ _ _=>False)
    (hCX:∀(w:bb) (H:Hp) (s:af) (e:ac) (s':af),CX w [] H s (λ_ _ _=>False) e s'->False):
    W.WalkO q loose XP YP l.row.toRowW d [] (λf vs=>PySem.call f vs):=by
  refine Att.zR hn hdf λw s₀ s₁ mg mb fa o pm cd doc a vs ns G Y ho hd hcd hmg hobj hints hlen hg=>?_;have KX:=hY w _ Y;obtain⟨fd,hb,hF⟩:=F w mg fa _ KX G.T.g hmg;exact FK KX G.T.g G.T.b G.T.builtins G.T.nolimit hg hobj hints (fo hlen hn2) hr hF hb (λH hO hS=>hsp w H a ns hlen hO hS) λH e s'=>hCX w H s₁ e s'
noncomputable def d7(s:iq)(j:Nat):iq:=match s with
  | .ClassDef _ _ _ R0 _ _ _ _ _ _ _=>R0.getD j (.Pass ⟨0,0,0,0⟩)
  |_=>.Pass ⟨0,0,0,0⟩
noncomputable def gZ(s:iq):Arguments:=match s with
  | .FunctionDef _ a _ _ _ _ _ _ _ _=>a
  |_=>{ posonlyargs:=[],args:=[],vararg:=ap,kwonlyargs:=[],kw_defaults:=[],kwarg:=ap,defaults:=[] }
noncomputable def dH(s:iq):List iq:=match s with
  | .FunctionDef _ _ b _ _ _ _ _ _ _=>b
  |_=>[]
noncomputable def aH(s:iq):Scope:=match s with
  | .FunctionDef _ _ _ _ _ _ sc _ _ _=>sc
  |_=>{ kind:=.function,names:=[],isGenerator:=aj,isCoroutine:=aj }
noncomputable abbrev Av:GN:=λ_ _ _ _ _ _=>False
noncomputable abbrev E0:XK:=λ_ _ _=>False
theorem BE:nS Av X E0:=λ_ _ _ _ _ _ _ h=>h.elim
structure Fun(K:ai)(x qual:az)(st:iq)(f:ae)(fd:gh):Prop where
  ex:∃(oc:ac) (od:Option ae) (kV doc pm:ac) (an:Option ae) (cdv ct:ac) (osl:Array (Option ac)),
    fd=sw x qual (gZ st) (dH st) (aH st) .none kV doc pm an cdv ct/\K.lookup f=aa ⟨oc,od,.func fd,osl⟩/\vn K cdv qual=ah
  kp:lv K (.ref f)=ah
variable {st:iq}{f:ae}
theorem Fun.ok{k:Nat}(F:Fun K x QP st f fd)(S:FnScope N ps (aH st))(len:∀vs H Q E,sp vs H Q E->vs.length=ps.length)
    (Re:∀(cdv:ac) (A:cf) (outer:List uy) (s:af) (H:Hp) (vs:List V) (Q:VK) (E:XK),Room k (A.deeper (pk QP (aH st) s.heap.objs.size f cdv))->sp vs H Q E ->
      ∃t,uO (sR Av P w K mg base N QP (aH st) f cdv A outer s H E).nox (dH st) t/\t { nx:=λ_ H'=>Q .non H',rt:=Q } (start N vs) H):FnOk P w K mg base Av (k+1) f fd ps sp:=by
  obtain⟨oc,od,kV,doc,pm,an,cdv,ct,osl,rfl,lk,hcd⟩:=F.ex;refine MU lk hcd S len λA outer s H vs Q E hr hsp=>?_;obtain⟨t,h,q⟩:=Re cdv A outer s H vs Q E hr hsp;exact⟨t,h.nox,q⟩
theorem Fun.binds(F:Fun K x QP st f fd)
    (h:∀(kV doc pm:ac) (an:Option ae) (cdv ct:ac) (us:List ac),us.length=ps.length->Qh (sw x QP (gZ st) (dH st) (aH st) .none kV doc pm an cdv ct) ⟨us,[]⟩=gc (ps.zip us)):i7 K fd ps []:=by
  obtain⟨oc,od,kV,doc,pm,an,cdv,ct,osl,rfl,lk,hcd⟩:=F.ex;exact .all (h kV doc pm an cdv ct)
theorem vW{oc:ac}{od an:Option ae}{osl:Array (Option ac)}{kV doc pm cdv ct:ac}(l:K.lookup f=aa ⟨oc,od,.func (sw x QP (gZ st) (dH st) (aH st) .none kV doc pm an cdv ct),osl⟩)
    (c:vn K cdv QP=ah) (k:lv K (.ref f)=ah):Fun K x QP st f (sw x QP (gZ st) (dH st) (aH st) .none kV doc pm an cdv ct):=⟨⟨oc,od,kV,doc,pm,an,cdv,ct,osl,rfl,l,c⟩,k⟩
theorem dA{k:Nat}(hr:Room k A):A.units+1<gy:=nc (Nat.add_le_add_left (by decide:1<=64) _) hr.units
theorem CH(h:n<=1000):n<ay:=nc h ∅
theorem pv(i:Nat)(hN:autoParam (X.N[i]?=aa x) c6._auto_1)(hv:N8 X.env.scope x:=by first | exact Or.inl rfl | exact Or.inr (.inl rfl) | exact Or.inr (.inr rfl))(hd:autoParam ((x==("__debug__" : az))=aj) mQ._auto_1)
    (hcd:autoParam ((x==("__classdict__" : az))=aj) mQ._auto_1):PE X (.Name x pos) (uU i):=Ji hN hv hd hcd
variable {B:Prop}
theorem jC{A:Prop}(h:B):if aj=ah then A else B:=by
  rw[Qi gn];exact h
theorem jB{A:Prop}(h:A):if ah=ah then A else B:=by
  rw[QL rfl];exact h
theorem eN{c A:Prop}[Decidable c](h1:c->A)(h2:¬c->B):if c then A else B:=by
  by_cases h:c
  . rw[QL h];exact h1 h
  . rw[Qi h];exact h2 h
noncomputable def aM(H H':Hp):Prop:=∀b o,H b=aa o->H' b=aa o
theorem aM.refl(H:Hp):aM H H:=λ_ _ h=>h
theorem aM.trans{H2:Hp}(a:aM H H1)(b:aM H1 H2):aM H H2:=λc o h=>b c o (a c o h)
theorem aM.free(e:aM H H'){l:ae}(h:H' l=ap):H l=ap:=by
  cases q:H l with
  |none=>rfl
  |some o=>
    rw[e l o q] at h;cases h
end L2
set_option maxHeartbeats 4000000
variable {ifs:List Expr}{kvs:List (List L2.aY×L2.V)}
namespace L2
noncomputable def N4(i j:Int):Prop:=0<j/\j<2 ^ 200
theorem Er:gR X (fu .FloorDiv) (rI N4 λi j=>.int (i / j)):=N7 λi j _ _ _ _ _ hc q=>by
  have p1:(0:Int)<j:=hc.1;have p2:j<2 ^ 200:=hc.2;have p3:j.natAbs<2 ^ 200:=⋯;have p4:j.natAbs.log2<200:=(Qj ⋯).mpr p3;refine floordiv_int ⋯ ?_ (.inl (PyProof.noPylong_of_log2 ⋯));rw[Int.fdiv_eq_ediv_of_nonneg i ⋯];exact q
theorem EJ{n:Int}(hm:∃t,X.mg x=aa (.int n t))(hg:autoParam (Gl X x) c6._auto_1)(hd:autoParam ((x==("__debug__" : az))=aj) mQ._auto_1):PE X (.Name x pos) (tC (.int n)):=by
  obtain⟨t,h⟩:=hm;exact BB hg h ⟨t,rfl⟩ hd
variable {t':Nat}{fp:List ae}{ob:HO}{h':ca}
theorem Inv.turnedL(I:Inv X pj σ H s)(hf:∀b∈fp,sY X pj H b)(k:∀b o,b ∉ fp->s.heap.get? b=aa o->h'.get? b=aa o):Inv X pj σ H { s with heap:=h',toks:=t' }:=by
  have nf:∀b u,H b=aa u->b ∉ fp:=λb u e z=>by have:=(hf b z).1;rw[e] at this;cases this
  refine I.step (g':=s.gens) (d':=s.drawn) (ch:=fp) (λb hb=>?_) (λb o _ _ hc e _=>k b o hc e) (λb o _ _ hc e _=>⟨o.slots,k b o hc e⟩) (λ_ _ _ _ n=>n) (λb o hc e=>⟨o,k b o hc e⟩) (λ_ _ e=>e) (λ_ _ _ e=>e)
    (λb ps e=>⟨#[],by rw[e];simp⟩) (λm hm=>?_) (λb u e=>?_) I.bare
  . obtain⟨_,f1,_,f3,f4,f5⟩:=hf b hb;exact⟨f3,f1,f4,f5⟩
  . obtain⟨o,es,ep,ho,r⟩:=hm;exact⟨o,es,ep,k _ o (λz=>(hf _ z).2.1 rfl) ho,r⟩
  . refine(I.hok b u e).stay (λc v hc q=>k c v ?_ q) (λ_ q=>q) (λ_ _ q=>q) λ_ _ q=>q;rcases hc with z | z
    . rw[z];exact nf b u e
    . exact nf c _ z
theorem Inv.turnedN{T:ae}(I:Inv X pj σ H s)(hf:∀b∈fp,sY X pj H b)(k:∀b o,b ∉ fp->s.heap.get? b=aa o->h'.get? b=aa o)(hT:s.heap.objs.size<=T)
    (new:cF X.prog X.w (upd H T ob) h' T ob):Inv X pj σ (upd H T ob) { s with heap:=h',toks:=t' }:=by
  have hn:H T=ap:=I.hok.fresh hT;have nf:∀b u,H b=aa u->b ∉ fp:=λb u e z=>by have:=(hf b z).1;rw[e] at this;cases this
  have nT:∀b o,s.heap.get? b=aa o->b≠T:=λb o e=>ef (df (av e) hT);refine I.step (g':=s.gens) (d':=s.drawn) (ch:=fp) (λb hb=>?_) (λb o _ _ hc e _=>k b o hc e) (λb o _ _ hc e _=>⟨o.slots,k b o hc e⟩) (λb o _ e n=>by rw[bB (nT b o e)];exact n) (λb o hc e=>⟨o,k b o hc e⟩)
    (λb xs e=>by rw[bB (bC e hn)];exact e) (λb _ _ e=>by rw[bB (bC e hn)];exact e)
    (λb ps e=>⟨#[],by rw[bB (bC e hn),e];simp⟩) (λm hm=>?_) (λb u e=>?_) I.bare
  . obtain⟨_,f1,_,f3,f4,f5⟩:=hf b hb;exact⟨f3,f1,f4,f5⟩
  . obtain⟨o,es,ep,ho,r⟩:=hm;exact⟨o,es,ep,k _ o (λz=>(hf _ z).2.1 rfl) ho,r⟩
  . by_cases hb:b=T
    . subst hb;rw[bO] at e;cases e;exact new
    . rw[bB hb] at e;refine(I.hok b u e).stay (λc v hc q=>k c v ?_ q) (λc q=>by rw[bB (bC q hn)];exact q) (λc xs q=>by rw[bB (bC q hn)];exact q) λc xs q=>by rw[bB (bC q hn)];exact q
      rcases hc with z | z
      . rw[z];exact nf b u e
      . exact nf c _ z
noncomputable def NB(K:ai)(a:ae):It:=
  ⟨λi H=>∃xs x,eZ K H a xs/\xs[i]?=aa x,λi H v H'=>∃T x,H T=ap/\v=.ref T/\H'=upd H T (.tup [.int i,x]) /\ ∀xs,eZ K H a xs->xs[i]?=aa x,λi H=>∃xs,eZ K H a xs/\xs.length<=i⟩
variable {elts:List Expr}{x1:Nat}
theorem CB(a e it:ae)(hne:e≠it):
    Turn P w K (.Tuple elts x1 pos) (NB K a) [e,it] e (λi h=>(∃old,IsEnum h e it (i:Nat) old)/\h.IsListIter it a i) where
  mem:=by simp
  obj:=λi h st b hb=>by
    obtain⟨⟨old,he⟩,o,ho,c,d⟩:=st;rcases de.mp hb with rfl | hb
    . exact⟨_,he,λv z=>by cases z⟩
    . rw[cp.mp hb];exact⟨o,ho,λv z=>by rw[d] at z;cases z⟩
  keep:=λi h h' st k=>⟨let ⟨old,he⟩:=st.1;⟨old,k e (by simp) _ he⟩,st.2.at λo q=>k it (by simp) o q⟩
  item:=by
    intro X hP hw hK hc i pj s σ H E I hf st hg;subst hP hw hK;obtain⟨xs,x,hq,hx⟩:=hg;obtain⟨its,rv,p,hz⟩:=I.list hq;obtain⟨u,hu,ru⟩:=rv.get hx;obtain⟨⟨old,he⟩,hit⟩:=st;refine wpAny_pyNext_enum_item he hit p.isList (x:=u) (by simpa using hu) hne λh1 heo hit1 ht hsz hk=>⟨_,rfl,?_⟩;refine wpAny_letOwnedTupleGo_enum heo λh2 he2 hs2=>?_;have heL:e<s.heap.objs.size:=av he;have hn:H s.heap.objs.size=ap:=I.hok.fresh (bg _);have k2:∀b o,b ∉ [e,it]->s.heap.get? b=aa o->h2.get? b=aa o:=λb o hb q=>by
      have b1:b≠e:=λz=>hb (by simp[z]);have b2:b≠it:=λz=>hb (by simp[z]);exact(hs2.2 b b1).trans (hk b o b1 b2 q)
    have tt:h2.get? s.heap.objs.size=aa { cls:=.type "tuple",data:=.seq #[.int i s.toks,u] }:=(hs2.2 _ (xz heL)).trans ht;refine⟨.ref s.heap.objs.size,_,I.turnedN (ob:=.tup [.int i,x]) (T:=s.heap.objs.size) (t':=s.toks+1) hf k2 (bg _) ?_,rfl,⟨_,x,hn,rfl,rfl,λys hy=>by rw[I.list_inj hy hq];exact hx⟩,⟨⟨u,?_⟩,hit1.extBut hs2.extBut (gp hne)⟩,λb hb=>?_⟩
    . exact⟨(by decide:2<=ay),[.int i s.toks,u],.cons ⟨_,rfl⟩ (.cons ru .nil),_,tt,rfl,_,rfl⟩
    . have:((i+1:Nat):Int)=(i:Int)+1:=⋯;rw[this];exact he2
    . have hb1:=(hf b hb).1;rw[bB ?_]
      . exact hb1
      . rintro rfl;obtain⟨o,ho,_⟩:=id hit;rcases de.mp hb with z | z
        . exact absurd heL (by rw[<- z];exact lc _)
        . have:=av ho;rw[<- cp.mp z] at this;exact lc _ this
  done:=by
    intro X hP hw hK hc i pj s σ H E I hf st hg;subst hP hw hK;obtain⟨xs,hq,hx⟩:=hg;obtain⟨its,rv,p,hz⟩:=I.list hq;obtain⟨⟨old,he⟩,hit⟩:=st;have hl:=rv.length;exact Fy I.qu he hit p.isList (by simp;right) λh1 eb=>⟨rfl,I.turnedL (t':=s.toks) hf λb o hb q=>eb b o (λz=>hb (by simp[z])) q⟩
  self:=λ_ _ _ _ _ st h=>by
    obtain⟨⟨old,he⟩,_⟩:=st;exact yk he h
variable {tp:gv}{ta:TA}
noncomputable def MP(K:ai)(ta:TA):TI:=λσ H R=>ta σ H λvs H1=>∃a,vs=[.ref a]/\(∃xs,eZ K H1 a xs)/\R (NB K a) H1
theorem Gv{a:Expr}(hg:Gl X "enumerate")(hm:X.mg "enumerate" = ap)(ha:PA X [a] ta)(hs:autoParam (aw [a] X.env=[(aj,em a X.env)]) c6._auto_1):
    PI X (.Tuple elts x1 tp) (.Call (.Name "enumerate" p) [a] [] pos) (MP X.K ta):=by
  intro pj s σ H R I h;refine QH (l8 I hg hm boot_enumerate (fg (thn (ha pos pj s σ H _ I h) λus s1 ⟨vs,H1,I1,r1,q1⟩=>?_) hs rfl));obtain⟨l,e,⟨xs,hq⟩,q⟩:=q1;subst e;obtain⟨u,rfl,ru⟩:=kM r1;cases ru;obtain⟨its,rv,pl,hz⟩:=I1.list hq;refine call_enumerate_list pl.isList λh1 he hit hsz hk=>yk he ?_;have I2:Inv X pj σ H1 { s1 with heap:=h1 }:=I1.kept (t':=s1.toks) hk;refine⟨s1.heap.objs.size+1,[s1.heap.objs.size+1,s1.heap.objs.size],_,_,H1,rfl,I2,CB l _ _ (Nat.succ_ne_self _),⟨⟨_,he⟩,hit⟩,λb hb=>?_,q⟩;refine I1.fpOk ?_ (I1.hok.fresh ?_)
  all_goals
    rcases de.mp hb with z | z
    . rw[z];exact PP _
    . rw[cp.mp z];exact bg _
noncomputable def ON(a b:ae):It:=
  ⟨λi H=>∃xs ys x y,H a=aa (.lst xs)/\H b=aa (.lst ys)/\xs[i]?=aa x/\ys[i]?=aa y,
   λi H v H'=>∃T x y,H T=ap/\v=.ref T/\H'=upd H T (.tup [x,y])/\(∀xs,H a=aa (.lst xs)->xs[i]?=aa x) /\ ∀ys,H b=aa (.lst ys)->ys[i]?=aa y,
   λi H=>∃xs ys,H a=aa (.lst xs)/\H b=aa (.lst ys)/\(xs.length<=i \/ ys.length<=i)⟩
structure ZApart(z TI TO i1 i2:ae):Prop where
  a:TI≠z
  b:TO≠z
  c:i1≠z
  d:i2≠z
  e:TI≠TO
  f:TI≠i1
  g:TI≠i2
  h:TO≠i1
  i:TO≠i2
  j:i1≠i2
theorem Db(a b z TI TO i1 i2:ae)(Z:ZApart z TI TO i1 i2):
    Turn P w K (.Tuple elts x1 pos) (ON a b) [z,TI,TO,i1,i2] z (λi h=>QC h z TI TO .none/\P4 h TI (.ref i1) (.ref i2)/\(∃p q,P4 h TO p q)/\h.IsListIter i1 a i/\h.IsListIter i2 b i) where
  mem:=by simp
  obj:=λi h st c hc=>by
    obtain⟨hz,hI,⟨p,q,hO⟩,⟨o1,h1,_,d1⟩,⟨o2,h2,_,d2⟩⟩:=st;simp only[de,gf,or_false] at hc;rcases hc with rfl | rfl | rfl | rfl | rfl
    . exact⟨_,hz,λv y=>by cases y⟩
    . exact⟨_,hI,λv y=>by cases y⟩
    . exact⟨_,hO,λv y=>by cases y⟩
    . exact⟨_,h1,λv y=>by rw[d1] at y;cases y⟩
    . exact⟨_,h2,λv y=>by rw[d2] at y;cases y⟩
  keep:=λi h h' st k=>by
    obtain⟨hz,hI,⟨p,q,hO⟩,h1,h2⟩:=st;exact⟨k z (by simp) _ hz,k TI (by simp) _ hI,⟨p,q,k TO (by simp) _ hO⟩,h1.at λo y=>k i1 (by simp) o y,h2.at λo y=>k i2 (by simp) o y⟩
  item:=by
    intro X hP hw hK hc i pj s σ H E I hf st hg;subst hP hw hK;obtain⟨xs,ys,x,y,ha,hb,hx,hy⟩:=hg;obtain⟨its,rv,pl,hz1⟩:=I.list (eZ.of ha);obtain⟨its2,rv2,pl2,hz2⟩:=I.list (eZ.of hb);obtain⟨u,hu,ru⟩:=rv.get hx;obtain⟨u2,hu2,ru2⟩:=rv2.get hy;obtain⟨hz,hI,⟨p,q,hO⟩,h1,h2⟩:=st;have na:∀c∈[z,TI,TO,i1,i2],a≠c:=λc hc=>bC ha (hf c hc).1;have nb:∀c∈[z,TI,TO,i1,i2],b≠c:=λc hc=>bC hb (hf c hc).1;have D:Q9 z TI TO i1 i2 a b:=⟨Z.a,Z.b,Z.c,Z.d,Z.e,Z.f,Z.g,Z.h,Z.i,Z.j,na z (by simp),na TO (by simp),na i1 (by simp),na i2 (by simp),nb z (by simp),nb TO (by simp),nb i1 (by simp),nb i2 (by simp)⟩;refine wpAny_pyNext_zip_item D hz hI hO h1 h2 pl.isList pl2.isList (x:=u) (y:=u2) (by simpa using hu) (by simpa using hu2) λg a1 a2 a3 a4 a5 a6 hk=>⟨_,rfl,?_⟩;refine wpAny_letOwnedTupleGo_zip a1 λg2 hz2 hs2=>?_;have hn:H s.heap.objs.size=ap:=I.hok.fresh (bg _);have zL:z<s.heap.objs.size:=av hz;have lt:∀{c:ae} {o:im},s.heap.get? c=aa o->c≠s.heap.objs.size:=λe=>ef (av e);have k2:∀c o,c ∉ [z,TI,TO,i1,i2]->s.heap.get? c=aa o->g2.get? c=aa o:=λc o hc e=>by
      simp only[de,gf,or_false,not_or] at hc;exact(hs2.2 c hc.1).trans (hk c o hc.1 hc.2.2.1 hc.2.2.2.1 hc.2.2.2.2 e)
    have tt:g2.get? s.heap.objs.size=aa { cls:=.type "tuple",data:=.seq #[u,u2] }:=(hs2.2 _ (xz zL)).trans a5;refine⟨.ref s.heap.objs.size,_,I.turnedN (ob:=.tup [x,y]) (T:=s.heap.objs.size) (t':=s.toks) hf k2 (bg _) ?_,rfl,
      ⟨_,x,y,hn,rfl,rfl,λzs hzs=>by rw[ha] at hzs;cases hzs;exact hx,λzs hzs=>by rw[hb] at hzs;cases hzs;exact hy⟩,
      ⟨hz2,hs2.extBut _ _ Z.a (hk _ _ Z.a Z.e Z.f Z.g hI),⟨_,_,hs2.extBut _ _ Z.b a2⟩,a3.extBut hs2.extBut Z.c,a4.extBut hs2.extBut Z.d⟩,λc hc=>?_⟩
    . exact⟨(by decide:2<=ay),[u,u2],.cons ru (.cons ru2 .nil),_,tt,rfl,_,rfl⟩
    . have hc1:=(hf c hc).1;have:c≠s.heap.objs.size:=by
        simp only[de,gf,or_false] at hc;rcases hc with rfl | rfl | rfl | rfl | rfl
        . exact lt hz
        . exact lt hI
        . exact lt hO
        . obtain⟨o,e,_⟩:=h1;exact lt e
        . obtain⟨o,e,_⟩:=h2;exact lt e
      rw[bB this];exact hc1
  done:=by
    intro X hP hw hK hc i pj s σ H E I hf st hg;subst hP hw hK;obtain⟨xs,ys,ha,hb,hor⟩:=hg;obtain⟨its,rv,pl,hz1⟩:=I.list (eZ.of ha);obtain⟨its2,rv2,pl2,hz2⟩:=I.list (eZ.of hb);obtain⟨hz,hI,⟨p,q,hO⟩,h1,h2⟩:=st;have na:∀c∈[z,TI,TO,i1,i2],a≠c:=λc hc=>bC ha (hf c hc).1;have nb:∀c∈[z,TI,TO,i1,i2],b≠c:=λc hc=>bC hb (hf c hc).1;have D:Q9 z TI TO i1 i2 a b:=⟨Z.a,Z.b,Z.c,Z.d,Z.e,Z.f,Z.g,Z.h,Z.i,Z.j,na z (by simp),na TO (by simp),na i1 (by simp),na i2 (by simp),nb z (by simp),nb TO (by simp),nb i1 (by simp),nb i2 (by simp)⟩;have l1:=rv.length;have l2:=rv2.length;refine IE I.qu D hz hI hO h1 h2 pl.isList pl2.isList ?_ λg hk=>⟨rfl,I.turnedL (t':=s.toks) hf λc o hc e=>?_⟩
    . rcases hor with h | h
      . exact .inl (by simp;right)
      . exact .inr (by simp;right)
    . simp only[de,gf,or_false,not_or] at hc;exact hk c o hc.1 hc.2.2.1 hc.2.2.2.1 hc.2.2.2.2 e
  self:=λ_ _ _ _ _ st h=>zg st.1 h
theorem zapart(n:Nat):ZApart (n+4) (n+2) (n+3) n (n+1):=
  ⟨λe=>by have e':(n+2:Nat)=n+4:=e;right,λe=>by have e':(n+3:Nat)=n+4:=e;right,λe=>by have e':(n:Nat)=n+4:=e;right,λe=>by have e':(n+1:Nat)=n+4:=e;right,
   λe=>by have e':(n+2:Nat)=n+3:=e;right,λe=>by have e':(n+2:Nat)=n:=e;right,λe=>by have e':(n+2:Nat)=n+1:=e;right,λe=>by have e':(n+3:Nat)=n:=e;right,
   λe=>by have e':(n+3:Nat)=n+1:=e;right,λe=>by have e':(n:Nat)=n+1:=e;right⟩
noncomputable def Ny(ta:TA):TI:=λσ H R=>ta σ H λvs H1=>∃a b,vs=[.ref a,.ref b]/\(∃xs,H1 a=aa (.lst xs))/\(∃ys,H1 b=aa (.lst ys))/\R (ON a b) H1
theorem Jf{a b:Expr}(hg:Gl X "zip")(hm:X.mg "zip" = ap)(ha:PA X [a,b] ta)
    (hs:autoParam (aw [a,b] X.env=[(aj,em a X.env),(aj,em b X.env)]) c6._auto_1) (hs2:autoParam (aw [b] X.env=[(aj,em b X.env)]) c6._auto_1):
    PI X (.Tuple elts x1 tp) (.Call (.Name "zip" p) [a,b] [] pos) (Ny ta):=by
  intro pj s σ H R I h;refine QH (l8 I hg hm boot_zip (fg (thn (ha pos pj s σ H _ I h) λus s1 ⟨vs,H1,I1,r1,q1⟩=>?_) (by rw[hs,hs2]) (by rw[hs2];rfl)));obtain⟨l,l2,e,⟨xs,hl⟩,⟨ys,hl2⟩,q⟩:=q1;subst e;obtain⟨u,u2,rfl,ru,ru2⟩:=DY r1;cases ru;cases ru2;obtain⟨its,rv,pl,hz⟩:=I1.list (eZ.of hl);obtain⟨its2,rv2,pl2,hz2⟩:=I1.list (eZ.of hl2);refine call_zip_2 pl.isList pl2.isList λh1 hz hI hO i1 i2 hsz hk=>zg hz ?_;have I2:Inv X pj σ H1 { s1 with heap:=h1 }:=I1.kept (t':=s1.toks) hk;refine⟨s1.heap.objs.size+4,[s1.heap.objs.size+4,s1.heap.objs.size+2,s1.heap.objs.size+3,s1.heap.objs.size,s1.heap.objs.size+1],_,_,H1,rfl,I2,
    Db l l2 _ _ _ _ _ (zapart s1.heap.objs.size),⟨hz,hI,⟨_,_,hO⟩,i1,i2⟩,λb hb=>?_,q⟩
  have hle:s1.heap.objs.size<=b:=by
    simp only[de,gf,or_false] at hb;rcases hb with rfl | rfl | rfl | rfl | rfl
    . exact ul _ _
    . exact ul _ _
    . exact ul _ _
    . exact bg _
    . exact ul _ _
  exact I1.fpOk hle (I1.hok.fresh hle)
noncomputable def Nb(K:ai):List V->Hp->VK->Prop:=λxs H Q=>∃x T t b,xs=[x,.ty T]/\TyOf K H x t/\Qg K t (.type T)=aa b/\Q (.bl b) H
theorem G9:fX X (.builtin "isinstance") (Nb X.K):=by
  intro pj s σ H xs us Q I r h;obtain⟨x,T,t,b,rfl,ty,k,q⟩:=h;obtain⟨u,u2,rfl,ru,ru2⟩:=DY r;cases ru2;exact D8 I ru ty k λtk=>⟨.bl b,H,I.tok tk,rfl,q⟩
theorem qT:∀{bs:List Bool} {us:List ac},bF (bs.map V.bl) us->LSm.BoolsAre us bs
  | [],_,.nil=>.nil
  |_::_,_,.cons r t=>by cases r;exact .cons _ (qT t)
theorem qS:∀{ns:List Int} {us:List ac},bF (ns.map V.int) us->ki us ns
  | [],_,.nil=>.nil
  |_::_,_,.cons r t=>by obtain⟨t',rfl⟩:=r;exact .cons _ _ (qS t)
noncomputable def Nf(K:ai):List V->Hp->VK->Prop:=λxs H Q=>∃(a:ae) (bs:List Bool),xs=[.ref a]/\eZ K H a (bs.map V.bl)/\Q (.bl (bs.all id)) H
theorem DP(hc:X.calm=ah):fX X (.builtin "all") (Nf X.K):=by
  intro pj s σ H xs us Q I r h;obtain⟨a,bs,rfl,hq,q⟩:=h;obtain⟨u,rfl,ru⟩:=kM r;cases ru;obtain⟨its,rv,pl,hz⟩:=I.list hq;have ba:=qT rv;have lt:a<s.heap.objs.size:=by obtain⟨_,e,_⟩:=pl.isList;exact av e
  refine call_all_walk (yl pl.isList ⟨s.heap.objs.size,[s.heap.objs.size,a],[s.heap.objs.size],its.toArray.size,_,_,λi=>(bs[i]?).getD ah,rfl,
    Walks.list (A:=X.A.in1) (I.ok.hd hc) _ a (ef lt) its.toArray,⟨⟨_,bi _ rfl,rfl,rfl⟩,pl.isList.push _⟩,λi v s' Q' E' hP hQ=>?_,λh' tk hk=>?_⟩)
  . obtain⟨b,e,rfl⟩:=ba.get i v (by simpa using hP);have hQ':Q' ((bs[i]?).getD ah) s':=hQ;rw[e] at hQ';exact eg hQ'
  . have e:((ff its.toArray.size).all λi=>(bs[i]?).getD ah)=bs.all id:=by
      have:=LSm.range_all bs;rw[<- ba.length] at this;simpa using this
    rw[e];exact⟨.bl _,H,I.kept (LSm.kept_iter hk),rfl,q⟩
noncomputable def NT(K:ai):List V->Hp->VK->Prop:=λxs H Q=>∃(a:ae) (ns:List Int),xs=[.ref a]/\eZ K H a (ns.map V.int)/\Q (.int ns.sum) H
theorem DM(hc:X.N=X.N):fX X (.builtin "sum") (NT X.K):=by
  intro pj s σ H xs us Q I r h;obtain⟨a,ns,rfl,hq,q⟩:=h;obtain⟨u,rfl,ru⟩:=kM r;cases ru;obtain⟨its,rv,pl,hz⟩:=I.list hq;have ia:=qS rv;obtain⟨ys,hy⟩:=ia.allInts.items;have e1:=nums_intItems ys;rw[<- hy,show numsOf its.toArray.toList=ns from ia.numsOf] at e1;refine LS I.qu (hy ▸ pl.isList) λh' tk t' hk=>⟨.int ns.sum,H,I.kept hk,⟨t',?_⟩,q⟩;rw[preSum_eq,e1,ot (by simp)]
noncomputable def pick(js:List Nat)(σ:St):St:=js.map λj=>(σ[j]?).join
noncomputable def nO(X:Cx)(QM:Scope)(cl:List (az×ae))(fp:List ae)(N:List az)(s:af)(H:Hp):Cx where
  prog:=X.prog
  w:=X.w
  K:=X.K
  mg:=X.mg
  base:=X.base
  A:=X.A
  N:=N
  s₀:=s
  HZ:=H
  env:=compEnvC QM cl s.heap.objs.size X.env
  outer:=X.stack
  stack:=X.stack
  ex:=fp
  fn:=λ_=>aj
  calm:=X.calm
  pn:=[]
  xe:=λ_ _=>False
  hs:=X.hs
noncomputable def L7(X:Cx)(ifs:List Expr)(t:TT):Prop:=
  ∀(pj:List (ae×im)) (s:af) (σ:St) (H:Hp) (Q:Bool->Hp->Prop),Inv X pj σ H s->t σ H Q ->
    be (bn X.prog X.w) X.A (forIn ifs ah λc r=>if r=ah then do let ok <- isTrue c X.env (em c X.env);gc (ka ok) else gc (ka r)) (TP X pj σ Q) X.xe s
theorem Go:L7 X [] (λ_ H Q=>Q ah H):=λpj s σ H Q I h=>wpAny_tests_nil ⟨H,I,h⟩
theorem Gm{c:Expr}{t:TT}(h:PT X c t):L7 X [c] t:=λpj s σ H Q I q=>wpAny_tests_one (h pj s σ H Q I q)
noncomputable def uV(wi:TI)(k:Nat)(js:List Nat)(g:TG)(tt:TT)(te:TE):TE:=λσ H Q=>wi σ H λJ H1=>∀D,H1 D=ap -> ∃W:Nat->Nat->List V->Hp->Prop,(∃m,W 0 m [] (upd H1 D (.lst []))) /\ ∀i m acc H2,W i m acc H2->H2 D=aa (.lst acc) ->
  (J.stop i H2/\Q (.ref D) H2) \/ (J.go i H2 /\ ∀y H3,J.yld i H2 y H3 -> ∀old:St,old.length=k->g y (old++pick js σ) H3 λσ4 H4=>(∃new:St,new.length=k/\σ4=new++pick js σ)/\tt σ4 H4 λb H5=>
    if b=ah then te σ4 H5 λv H6=>H6 D=aa (.lst acc)/\acc.length<ay /\ ∃m',m'<m/\W (i+1) m' (acc++[v]) (upd H6 D (.lst (acc++[v])))
    else H5 D=aa (.lst acc) /\ ∃m',m'<m/\W (i+1) m' acc H5)
variable {elt tgt iter:Expr}
theorem tM{R:Qx->af->Prop}{it acc:ac}{env:uy}(J:Nat->af->Prop)
    (turn:∀n s,J n s->be (bn prog w) A (kj it) (λr s1=>match r with
      |none=>R (.ok .next) s1
      |some v=>be (bn prog w) A (qi tgt it v) (λ_ s2=>be (bn prog w) A (xf tgt env v) (λ_ s3=>
          be (bn prog w) A (forIn ifs ah λc r=>if r=ah then do let ok <- isTrue c env (em c env);gc (ka ok) else gc (ka r)) (λb s3'=>
          if b=ah then be (bn prog w) A (em elt env) (λy s4=>be (bn prog w) A (call (.builtin "list.append") [acc,y]) (λ_ s5=>∃m,m<n/\J m s5) (λ_ _=>False) s4) (λ_ _=>False) s3'
          else ∃m,m<n/\J m s3') (λ_ _=>False) s3) (λ_ _=>False) s2) (λ_ _=>False) s1) (λ_ _=>False) s)
    (n:Nat) (h:J n s):uf (bn prog w) A (.compLoop (.ListComp elt [⟨tgt,iter,ifs,0⟩] QM pos) 0 it acc env) R s:=by
  refine codeAny_loop rfl J (λn' s' hJ=>?_) n h;show be _ _ ((compTurn (.ListComp elt [⟨tgt,iter,ifs,0⟩] QM pos) 0 it acc env).onRaise (λz=>do noteFrame z env;theTreesLotGoes z)) _ _ s';refine wpAny_noted ?_;rw[compTurn_list];have nope:∀{α:Type} {t:PF α} {Q:α->af->Prop} {E:ac->af->Prop} {q:af},be (bn prog w) A t Q (λ_ _=>False) q->be (bn prog w) A t Q E q:=λh=>fx h (λ_ _ z=>z) λ_ _ z=>z.elim;refine ab (wpAny_standAt (ab (fx (nope (turn n' s' hJ)) (λr s1 h1=>?_) λ_ _ z=>z)));cases r with
  |none=>exact ao h1
  |some v=>
    refine ab (fx (nope h1) (λ_ s2 h2=>?_) λ_ _ z=>z);refine ab (fx (nope h2) (λ_ s3 h3=>?_) λ_ _ z=>z);refine ab (fx (nope h3) (λb s4 h4=>?_) λ_ _ z=>z);cases b with
    |true=>
      have h4':=(show be _ _ _ _ _ s4 by simpa using h4);simp only[if_true];refine ab (ab (fx (nope h4') (λy s5 h5=>?_) λ_ _ z=>z));refine ab (fx (nope h5) (λ_ s6 h6=>?_) λ_ _ z=>z);exact ao (ao ⟨rfl,h6⟩)
    |false=>
      have h4':∃m,m<n'/\J m s4:=by simpa using h4
      simp only[cv,if_false];exact ab (ao (ao ⟨rfl,h4'⟩))
variable {js:List Nat}{v:V}{cl:List (az×ae)}{tgs ns:List az}{wi:TI}{g:TG}{tt:TT}{te:TE}
theorem ED(h:(pick js σ)[i]?=aa (aa v)):∃j,js[i]?=aa j/\σ[j]?=aa (aa v):=by
  unfold pick at h;rw[bh] at h;cases e:js[i]? with
  |none=>rw[e] at h;cases h
  |some j=>
    rw[e] at h;have h':(σ[j]?).join=aa v:=Option.some.inj h;refine⟨j,rfl,?_⟩;cases q:σ[j]? with
    |none=>rw[q] at h';cases h'
    |some o=>rw[q] at h';exact congrArg aa h'
theorem uG(hc:X.N=X.N)
    (hi:PI X tgt iter wi) (hg:∀(fp:List ae) (s:af) (H:Hp),PG (nO X QM cl fp (tgs++ns) s H) tgt g) (ht:∀(fp:List ae) (s:af) (H:Hp),L7 (nO X QM cl fp (tgs++ns) s H) ifs tt)
    (he:∀(fp:List ae) (s:af) (H:Hp),PE (nO X QM cl fp (tgs++ns) s H) elt te)
    (R8:pq QM X.env=gc cl) (R3:∀x c,cl.lookup x=aa c->X.env.cells.lookup x=aa c)
    (Rg:∀x,((fh QM X.env).names.lookup x=aa .cell \/ (fh QM X.env).names.lookup x=aa .free) -> ∃c,cl.lookup x=aa c)
    (hjs:js.map (λj=>X.N[j]?)=ns.map aa) (hin:∀y∈ns,(fh QM X.env).names.lookup y=aa .cell \/ (fh QM X.env).names.lookup y=aa .free)
    (R9:∀y∈ns,X.env.kindOf y=aa .cell \/ X.env.kindOf y=aa .free)
    (QQ:autoParam (∀y∈QM.names,y.2 ≠ .cell) Ax._auto_1) (QY:autoParam (QM.kind=.function) c6._auto_1)
    (QR:autoParam (∀y∈QM.names,y.2=.local->QM.names.lookup y.1=aa .local) Ax._auto_1)
    (hs:autoParam (∀z,fm iter X.env z=gc z) GO._auto_1):
    ∀(pos0:gv) (pj:List (ae×im)) (s:af) (σ:St) (H:Hp) (Q:VK) (I:Inv X pj σ H s) (h:uV wi tgs.length js g tt te σ H Q) (use:Option (ac->PF Unit)) (R:ac->af->Prop)
      (hfin:∀(D C:ae) (H':Hp) (s':af),Q (.ref D) H'->sY X pj H' C->(∃m,s'.heap.Ns C m)->(∀h',oj C s'.heap h'->Inv X pj σ H' { s' with heap:=h' })->Qk (bn X.prog X.w) X.A X.xe use R (.ref D) C (.ok .next) s'),
      be (bn X.prog X.w) X.A (comprehension (.ListComp elt [⟨tgt,iter,ifs,0⟩] QM pos) QM X.env pos0 (newList []) aj (em iter X.env) use) R X.xe s:=by
  intro pos0 pj s σ H Q I h use R hfin;refine wpAny_comprehension_free (use:=use) rfl hs R8 QY QR (thn (hi pj s σ H _ I h) λv s1 h1=>thn h1 λitv s2 h2=>?_);obtain⟨it,fp,tn,J,H2,rfl,I2,T,st2,f2,R0⟩:=h2;have hD:H2 s2.heap.objs.size=ap:=I2.hok.fresh (bg _);obtain⟨W,⟨m0,w0⟩,step⟩:=R0 _ hD;refine fj (wpAny_newFunctionEnv QQ (by intro y hy;simp at hy) (λg1 hns hsb=>?_) QY) (by size_fits);dsimp only at hns hsb ⊢;have I3:Inv X pj σ (upd H2 s2.heap.objs.size (.lst [])) { s2 with heap:=s2.heap.push { cls:=.type "list",dict:=ap,data:=.seq ([]:List ac).toArray } }:=I2.lnew (t':=s2.toks) .nil (by simp);generalize hD':s2.heap.objs.size=D at *;generalize hH3:upd H2 D (.lst [])=H3 at *;generalize hS3:s2.heap.push { cls:=.type "list",dict:=ap,data:=.seq ([]:List ac).toArray }=g3 at *;have zs:g3.objs.size=D+1:=by rw[<- hS3,nv,hD']
  have f3:∀b∈fp,sY X pj H3 b:=λb hb=>by
    obtain⟨o,ho,_⟩:=T.obj _ _ st2 b hb;have lt:=av ho;refine⟨?_,(f2 b hb).2⟩;rw[<- hH3,bB (ef (hD' ▸ lt))];exact(f2 b hb).1
  have ltf:∀b∈fp,b<g3.objs.size:=λb hb=>by
    obtain⟨o,ho,_⟩:=T.obj _ _ st2 b hb;rw[zs];exact sn (hD' ▸ av ho)
  have kept:∀b o,g3.get? b=aa o->g1.get? b=aa o:=λb o e=>hsb.extBut b o (ef (av e)) (ak _ e);have cne:∀x c,cl.lookup x=aa c->c≠g3.objs.size:=λx c e=>by
    obtain⟨v,q⟩:=I3.cell x c (R3 x c e);exact ef q.lt
  have ok:(nO X QM cl fp (tgs++ns) { s2 with heap:=g3 } H3).Ok:=by
    refine⟨I.ok.mod,QY,I.ok.glob,I.ok.blt,bg _,λy z c e1 e2=>I.ok.inj y z c (R3 y c e1) (R3 z c e2),λy hy=>Rg y hy,λy c e=>(nomatch e),I.ok.hd,I.ok.frames,.inl rfl,
      λb hb=>⟨ef (ltf b hb),λy c e=>(f3 b hb).2.2.2.2.1 y c (R3 y c e)⟩,I3.bs,fo I.ok.bsz I3.sz,λb o e hb=>?_,λb hb=>?_,I3.stack,I3.stkFree,I.ok.hq⟩
    . rcases(f3 b hb).2.2.2.1 with q | q
      . exact I.ok.noex b o e q
      . exact absurd (df (av (I.ok.bs b o e).1) q) (lc _)
    . intro z;rcases de.mp (I3.stkSub b z) with q | q
      . exact(f3 b hb).2.1 q
      . exact(f3 b hb).2.2.1 q
  have cells1:∀x c,cl.lookup x=aa c -> ∃v,g1.IsCell c v:=λx c e=>by
    obtain⟨v,o,ho,hd⟩:=I3.cell x c (R3 x c e);exact⟨v,o,kept _ _ ho,hd⟩
  have J4:Inv (nO X QM cl fp (tgs++ns) { s2 with heap:=g3 } H3) [] (au tgs.length ap++pick js σ) H3 { s2 with heap:=g1,toks:=s2.toks+([]:List (az×ac)).length }:=by
    refine⟨ok,rfl,I3.bare,Un.kept kept,⟨_,hns,λi y v e1 e2 e3=>?_⟩,λy c e=>cells1 y c e,I3.hok.fresh (bg _),λy c e=>I3.freeC y c (R3 y c e),λp hp=>absurd (show p∈([]:List (ae×im)) from hp) (by simp),I3.hok.kept kept,?_,I3.mild⟩
    . have hi2:tgs.length<=i:=by
        by_cases hlt:i<tgs.length
        . rw[bv (by simpa using hlt),fv,QL hlt] at e2;cases e2
        . right
      rw[cn (by simpa using hi2),lg] at e2;have e1':(tgs++ns)[i]?=aa y:=e1;rw[cn hi2] at e1';obtain⟨j,hj,hσ⟩:=ED e2;have hNj:X.N[j]?=aa y:=by
        have:=congrArg (λl=>l[i-tgs.length]?) hjs;simp only[bh,hj,e1',map_some] at this;exact Option.some.inj this
      have ym:y∈ns:=cq e1';obtain⟨m,hm,hl⟩:=I3.loc;have vis:N8 X.env.scope y:=by
        rcases R9 y ym with q | q
        . exact .inr (.inl q)
        . exact .inr (.inr q)
      obtain⟨u,ru,lk⟩:=hl j y v hNj hσ vis;refine⟨u,ru,?_⟩;rcases lk with⟨q,_⟩ | ⟨_,c,hc1,hc2⟩
      . rcases R9 y ym with z | z
        . rw[z] at q;cases q
        . rw[z] at q;cases q
      . obtain⟨c',hc'⟩:=Rg y (hin y ym);have:=R3 y c' hc';rw[hc1] at this;cases this;obtain⟨o,ho,hd⟩:=hc2;exact .inr ⟨hin y ym,c,hc',o,kept _ _ ho,hd⟩
    . show _=(tgs++ns).length;have:=congrArg List.length hjs;simp only[bc] at this;simp[pick,this]
  have st4:tn 0 g1:=T.keep 0 _ _ st2 λb hb o e=>kept b o (by rw[<- hS3];exact ak _ e);have fin:∀(H':Hp) (σ':St) (s':af),Inv (nO X QM cl fp (tgs++ns) { s2 with heap:=g3 } H3) [] σ' H' s'->Q (.ref D) H'->Qk (bn X.prog X.w) X.A X.xe use R (.ref D) g3.objs.size (.ok .next) s':=by
    intro H' σ' s' K q;obtain⟨m,hm,_⟩:=K.loc;refine hfin D g3.objs.size H' s' q (I3.fpOk (bg _) K.free) ⟨m,hm⟩ λh' hsb'=>?_;have ne:∀b o,g3.get? b=aa o->b≠g3.objs.size:=λb o e=>ef (av e);have B:Un (frs X.stack) fp H3 H' g3 s'.heap:=K.base;refine I3.call' (s':={ s' with heap:=h' }) (ch:=fp) K.os ⟨λb o e n hb hx=>(hsb'.2 b (ne b o e)).trans (B.keep b o e n hb hx),λb o e n hb hx=>?_,B.free,λb o e hx=>?_,B.tups,B.frzs,B.tbls⟩ (λb u e=>?_) K.bare (λb hb=>?_)
    . obtain⟨sl,e1⟩:=B.slot b o e n hb hx;exact⟨sl,(hsb'.2 b (ne b o e)).trans e1⟩
    . obtain⟨o',e1⟩:=B.there b o e hx;exact⟨o',(hsb'.2 b (ne b o e)).trans e1⟩
    . have nC:∀c v,H' c=aa v->c≠g3.objs.size:=λc v e z=>by
        have:H' g3.objs.size=ap:=K.free;rw[z,this] at e;cases e
      refine(K.hok b u e).stay (λc v hc q=>(hsb'.2 c ?_).trans q) (λ_ q=>q) (λ_ _ q=>q) λ_ _ q=>q;rcases hc with z | z
      . rw[z];exact nC b u e
      . exact nC c _ z
    . obtain⟨_,q1,_,q3,q4,q5⟩:=f3 b hb;exact⟨q3,q1,q4,q5⟩
  have loop:uf (bn X.prog X.w) X.A (.compLoop (.ListComp elt [⟨tgt,iter,ifs,0⟩] QM pos) 0 (.ref it) (.ref D) (compEnvC QM cl g3.objs.size X.env))
      (Qk (bn X.prog X.w) X.A X.xe use R (.ref D) g3.objs.size) { s2 with heap:=g1,toks:=s2.toks+([]:List (az×ac)).length }:=by
    refine tM (λn s'=>∃i acc old H',Inv (nO X QM cl fp (tgs++ns) { s2 with heap:=g3 } H3) [] (old++pick js σ) H' s'/\old.length=tgs.length/\tn i s'.heap/\(∀b∈fp,H' b=ap)/\H' D=aa (.lst acc)/\W i n acc H') ?_ m0
      ⟨0,[],au tgs.length ap,H3,J4,by simp,st4,λb hb=>(f3 b hb).1,by rw[<- hH3];exact bO,w0⟩
    rintro n s' ⟨i,acc,old,H',K,lo,st,fr,hDl,w⟩;have fpk:∀{H'':Hp},(∀b∈fp,H'' b=ap) -> ∀b∈fp,sY (nO X QM cl fp (tgs++ns) { s2 with heap:=g3 } H3) [] H'' b:=λhn b hb=>
      ⟨hn b hb,ef (ltf b hb),λz=>ok.exfs b hb z,.inl hb,λy c e=>(f3 b hb).2.2.2.2.1 y c (R3 y c e),λp hp=>absurd (show p∈([]:List (ae×im)) from hp) (by simp)⟩
    rcases step i n acc H' w hDl with⟨stop,q⟩ | ⟨go,next⟩
    . refine thn (T.done (nO X QM cl fp (tgs++ns) { s2 with heap:=g3 } H3) rfl rfl rfl rfl i [] s' _ H' _ K (fpk fr) st stop) λr s1 zz=>?_;obtain⟨hr,K1⟩:=zz;subst hr;exact fin H' _ s1 K1 q
    . refine thn (T.item (nO X QM cl fp (tgs++ns) { s2 with heap:=g3 } H3) rfl rfl rfl rfl i [] s' _ H' _ K (fpk fr) st go) λr s1 zz=>?_;obtain⟨u,hr,h4⟩:=zz;subst hr;refine thn h4 λ_ s5 zz=>?_;obtain⟨y,H5,K5,r5,y5,st5,fr5⟩:=zz;have K5':=K5.pinned (fpk fr5) (T.obj _ _ st5);refine thn (hg fp { s2 with heap:=g3 } H3 _ s5 _ H5 y u _ K5' r5 (next y H5 y5 old lo)) λ_ s6 ⟨σ6,H6,K6,⟨new,hnew,e6⟩,q6⟩=>?_;subst e6;refine thn (ht fp { s2 with heap:=g3 } H3 _ s6 _ H6 _ K6 q6) λb s6' zz=>?_;obtain⟨H6',K6',q6'⟩:=zz;have Qe:∀{s8:af} {H8:Hp} {acc':List V} {m':Nat},Inv (nO X QM cl fp (tgs++ns) { s2 with heap:=g3 } H3) ([]++rF fp s5.heap) (new++pick js σ) H8 s8->H8 D=aa (.lst acc')->m'<n->W (i+1) m' acc' H8 ->
          ∃m,m<n /\ ∃i acc old H',Inv (nO X QM cl fp (tgs++ns) { s2 with heap:=g3 } H3) [] (old++pick js σ) H' s8/\old.length=tgs.length/\tn i s8.heap/\(∀b∈fp,H' b=ap)/\H' D=aa (.lst acc)/\W i m acc H':=by
        intro s8 H8 acc' m' K8 h8 hm' w8;refine⟨m',hm',i+1,acc',new,H8,K8.unpinned,hnew,T.keep _ _ _ st5 λb hb o e=>(K8.pin (b,o) (dg _ (dg _ (k3 hb e)))).1,λb hb=>?_,h8,w8⟩;obtain⟨o,e,d⟩:=T.obj _ _ st5 b hb;exact(K8.pin (b,o) (dg _ (dg _ (k3 hb e)))).2.1
      cases b with
      |true=>
        refine jB ?_;rw[QL rfl] at q6';refine thn (he fp { s2 with heap:=g3 } H3 _ s6' _ H6' _ K6' q6') λvv s7 zz=>?_;obtain⟨v,H7,K7,r7,hD7,hlen,m',hm',w7⟩:=zz;refine thn (u5 (X:=nO X QM cl fp (tgs++ns) { s2 with heap:=g3 } H3) _ s7 _ H7 (.ref D) [v] (.ref D) [vv] (λ_ H8=>H8=upd H7 D (.lst (acc++[v]))) K7 rfl (.cons r7 .nil) ⟨D,acc,v,rfl,rfl,hD7,hlen,rfl⟩) λ_ s8 zz=>?_;obtain⟨_,H8,K8,_,e8⟩:=zz;subst e8;exact Qe K8 bO hm' w7
      |false=>
        refine jC ?_;have q6f:H6' D=aa (.lst acc) /\ ∃m',m'<n/\W (i+1) m' acc H6':=by simpa using q6'
        obtain⟨hD7,m',hm',w7⟩:=q6f;exact Qe K6' hD7 hm' w7
  exact codeAny_compStart_list loop (T.self _ 0 _ _ _ st4 loop)
theorem EL(hc:X.N=X.N)
    (hi:PI X tgt iter wi) (hg:∀(fp:List ae) (s:af) (H:Hp),PG (nO X QM cl fp (tgs++ns) s H) tgt g) (ht:∀(fp:List ae) (s:af) (H:Hp),L7 (nO X QM cl fp (tgs++ns) s H) ifs tt)
    (he:∀(fp:List ae) (s:af) (H:Hp),PE (nO X QM cl fp (tgs++ns) s H) elt te)
    (R8:pq QM X.env=gc cl) (R3:∀x c,cl.lookup x=aa c->X.env.cells.lookup x=aa c)
    (Rg:∀x,((fh QM X.env).names.lookup x=aa .cell \/ (fh QM X.env).names.lookup x=aa .free) -> ∃c,cl.lookup x=aa c)
    (hjs:js.map (λj=>X.N[j]?)=ns.map aa) (hin:∀y∈ns,(fh QM X.env).names.lookup y=aa .cell \/ (fh QM X.env).names.lookup y=aa .free)
    (R9:∀y∈ns,X.env.kindOf y=aa .cell \/ X.env.kindOf y=aa .free)
    (QQ:autoParam (∀y∈QM.names,y.2 ≠ .cell) Ax._auto_1) (QY:autoParam (QM.kind=.function) c6._auto_1)
    (QR:autoParam (∀y∈QM.names,y.2=.local->QM.names.lookup y.1=aa .local) Ax._auto_1)
    (hs:autoParam (∀z,fm iter X.env z=gc z) GO._auto_1):
    PE X (.ListComp elt [⟨tgt,iter,ifs,0⟩] QM pos) (uV wi tgs.length js g tt te):=by
  intro pj s σ H Q I h;rw[eval_ListComp];refine uG hc hi hg ht he R8 R3 Rg hjs hin R9 QQ QY QR hs _ pj s σ H Q I h ap _ ?_;intro D C H' s' q fp hm inv;obtain⟨m,hm⟩:=hm;exact⟨m,hm,λh' hs'=>⟨.ref D,H',inv h' hs',rfl,q⟩⟩
theorem EC{y:az}{py spos:gv}{iy:Nat}(hN:X.N.Nodup)(hi2:X.N[iy]?=aa y)(hx2:GM X.env.scope y)(hc:X.N=X.N)
    (hi:PI X tgt iter wi) (hg:∀(fp:List ae) (s:af) (H:Hp),PG (nO X QM cl fp (tgs++ns) s H) tgt g) (ht:∀(fp:List ae) (s:af) (H:Hp),L7 (nO X QM cl fp (tgs++ns) s H) ifs tt)
    (he:∀(fp:List ae) (s:af) (H:Hp),PE (nO X QM cl fp (tgs++ns) s H) elt te)
    (R8:pq QM X.env=gc cl) (R3:∀x c,cl.lookup x=aa c->X.env.cells.lookup x=aa c)
    (Rg:∀x,((fh QM X.env).names.lookup x=aa .cell \/ (fh QM X.env).names.lookup x=aa .free) -> ∃c,cl.lookup x=aa c)
    (hjs:js.map (λj=>X.N[j]?)=ns.map aa) (hin:∀y∈ns,(fh QM X.env).names.lookup y=aa .cell \/ (fh QM X.env).names.lookup y=aa .free)
    (R9:∀y∈ns,X.env.kindOf y=aa .cell \/ X.env.kindOf y=aa .free)
    (QQ:autoParam (∀y∈QM.names,y.2 ≠ .cell) Ax._auto_1) (QY:autoParam (QM.kind=.function) c6._auto_1)
    (QR:autoParam (∀y∈QM.names,y.2=.local->QM.names.lookup y.1=aa .local) Ax._auto_1)
    (hs:autoParam (∀z,fm iter X.env z=gc z) GO._auto_1)
    (hsw:autoParam (gk (.ListComp elt [⟨tgt,iter,ifs,0⟩] QM pos) (aa (.Name y py)) spos.line X.env=gc ah) c6._auto_1) (hf:autoParam (X.fn y=ah \/ X.env.scope.names.lookup y=aa .local) DU._auto_1):
    PS X (.Assign [.Name y py] (.ListComp elt [⟨tgt,iter,ifs,0⟩] QM pos) spos) (GV (uV wi tgs.length js g tt te) (yX iy)):=by
  intro pj s σ H D I h;rw[exec_Assign_Name_used _ _ _ _ hsw];refine ab (wpAny_standAt (ab ?_));show be _ X.A (do let _ <- comprehension (.ListComp elt [⟨tgt,iter,ifs,0⟩] QM pos) QM X.env _ (newList []) aj (em iter X.env) (aa (xf (.Name y py) X.env))) _ _ s;refine ab (fx (uG hc hi hg ht he R8 R3 Rg hjs hin R9 QQ QY QR hs _ pj s σ H _ I h (aa (xf (.Name y py) X.env)) (λ_ s'=>SP X pj D .next s') ?_) (λ_ s' hq=>ao (ao hq)) λ_ _ e=>e);intro E C H' s' q fp ⟨m,hm⟩ inv;have I1:Inv X pj σ H' s':=inv s'.heap ⟨rfl,λ_ _=>rfl⟩;show be _ X.A (xf (.Name y py) X.env (.ref E)) _ _ _;refine xy (tV I1 hN hi2 hx2 (v:=.ref E) rfl (λs2 I2 hsb=>?_) hf);obtain⟨a,hsb,ha⟩:=hsb;have aC:a≠C:=by
    rcases ha with ha | ha
    . rw[ha];exact gp fp.2.1
    . exact fp.2.2.2.2.1 _ _ ha
  refine⟨m,hm.sameBut hsb (gp aC),λh' hs'=>⟨_,H',?_,q⟩⟩;refine I2.call' (s':={ s2 with heap:=h' }) (ch:=[C]) rfl ⟨λb o e n hb hx=>?_,λb o e n hb hx=>?_,λb o e n hx=>n,λb o e hx=>?_,λ_ _ e=>e,λ_ _ _ e=>e,λb ps e=>⟨#[],by simpa using e⟩⟩ ?_ I2.bare ?_
  . exact hs'.extBut b o (by simpa using hx) e
  . exact⟨o.slots,hs'.extBut b o (by simpa using hx) e⟩
  . exact⟨o,hs'.extBut b o (by simpa using hx) e⟩
  . have nC:∀c v,H' c=aa v->c≠C:=λc v e z=>by
      rw[z,fp.1] at e;cases e
    intro b u e;refine(I2.hok b u e).stay (λc v hc q=>(hs'.2 c ?_).trans q) (λ_ q=>q) (λ_ _ q=>q) λ_ _ q=>q;rcases hc with z | z
    . rw[z];exact nC b u e
    . exact nC c _ z
  . intro b hb;obtain rfl:b=C:=by simpa using hb
    exact⟨fp.2.2.2.1,fp.2.1,fp.2.2.2.2.1,fp.2.2.2.2.2⟩
variable {y:V}{o:Option V}{κ:Type}
section
variable [DecidableEq κ]
noncomputable def iO(kvs:List (κ×V))(k:κ):Option V:=(kvs.find? λkv=>decide (kv.1=k)).map (·.2)
noncomputable def i9(kvs:List (κ×V))(k:κ)(v:V):List (κ×V):=
  if (kvs.any λkv=>decide (kv.1=k))=ah then kvs.map (λkv=>if kv.1=k then (kv.1,v) else kv) else kvs++[(k,v)]
theorem kN{p:κ×V}{r:List (κ×V)}{k:κ}(e:p.1=k):iO (p::r) k=aa p.2:=by simp[iO,rm,e]
theorem kO{p:κ×V}{r:List (κ×V)}{k:κ}(e:¬p.1=k):iO (p::r) k=iO r k:=by simp[iO,rm,e]
theorem wZ(k:κ):∀kvs:List (κ×V),(kvs.any λkv=>decide (kv.1=k))=(iO kvs k).isSome
  | []=>rfl
  |p::r=>by
    rw[ou];by_cases e:p.1=k
    . simp only[kN e,decide_eq_true e,Bool.true_or,xk]
    . rw[kO e,decide_eq_false e,Bool.false_or];exact wZ k r
theorem l7(kvs:List (κ×V))(k:κ)(v:V):(i9 kvs k v).length<=kvs.length+1:=by
  unfold i9;split
  . rw[bc];right
  . rw[dj,cj,um];right
theorem mH.isSome_eq{u:Option ac}(r:mH o u):o.isSome=u.isSome:=by
  cases o with
  |none=>cases u with
    |none=>rfl
    |some _=>exact(show False from r).elim
  |some _=>cases u with
    |none=>exact(show False from r).elim
    |some _=>rfl
theorem KV.val{kvs:List (κ×V)}{vs:List (κ×ac)}(r:KV kvs vs)(k:κ):mH (iO kvs k) (wj vs k):=by
  unfold KV at r;induction r with
  |nil=>exact ii
  | @cons p q ps qs h t ih=>
    obtain⟨h1,h2⟩:=h;by_cases e:p.1=k
    . have e':q.1=k:=h1.symm.trans e;have b:wj (q::qs) k=aa q.2:=by simp[wj,rm,e']
      rw[kN e,b];exact h2
    . have e':¬q.1=k:=λz=>e (h1.trans z);have b:wj (q::qs) k=wj qs k:=by simp[wj,rm,e']
      rw[kO e,b];exact ih
theorem KV.any{kvs:List (κ×V)}{vs:List (κ×ac)}(r:KV kvs vs)(k:κ):(kvs.any λkv=>decide (kv.1=k))=vs.any λkv=>decide (kv.1=k):=by
  unfold KV at r;induction r with
  |nil=>rfl
  |cons h t ih=>rw[ou,ou,ih,h.1]
theorem KV.repl{kvs:List (κ×V)}{vs:List (κ×ac)}(r:KV kvs vs)(k:κ)(ry:bX y u):
    KV (kvs.map λkv=>if kv.1=k then (kv.1,y) else kv) (vs.map λkv=>if kv.1=k then (kv.1,u) else kv):=by
  unfold KV at r ⊢;induction r with
  |nil=>exact .nil
  | @cons p q ps qs h t ih=>
    rw[cb,cb];refine .cons ?_ ih;obtain⟨h1,h2⟩:=h;by_cases e:p.1=k
    . rw[QL e,QL (h1.symm.trans e)];exact⟨h1,ry⟩
    . rw[Qi e,Qi (λz=>e (h1.trans z))];exact⟨h1,h2⟩
theorem KV.put{kvs:List (κ×V)}{vs:List (κ×ac)}(r:KV kvs vs)(k:κ)(ry:bX y u):KV (i9 kvs k y) (stored vs k u):=by
  unfold i9 stored;rw[r.any k];by_cases e:(vs.any λkv=>decide (kv.1=k))=ah
  . rw[QL e,QL e];exact r.repl k ry
  . rw[Qi e,Qi e];exact Paired.snoc r ⟨rfl,ry⟩
theorem KV.length{kvs:List (κ×V)}{vs:List (κ×ac)}(r:KV kvs vs):kvs.length=vs.length:=Paired.length r
end
theorem u8{k:aY}(r:bX (kV k) u):(cT P w).is k u=ah:=by
  cases k with
  |inl i=>obtain⟨t,e⟩:=(show ∃t,u=Value.int i t from r);subst e;exact yQ P w i t
  |inr x=>obtain⟨t,e⟩:=(show ∃t,u=Value.str x t from r);subst e;exact yP P w x t
theorem uA{P:aq}{w:bb}:∀{ks:List aY} {us:List ac},bF (ks.map kV) us->ItemsAre (cT P w) ks us
  | [],_,r=>by rw[uh] at r;cases r;exact .nil
  |k::ks,_,r=>by
    rw[cb] at r;cases r with
    |cons h t=>exact .cons (u8 h) (uA t)
noncomputable abbrev KT(H:Hp):List (List aY×V)->List (List aY×ae×ac)->Prop:=Paired λp q=>p.1=q.1/\H q.2.1=aa (.tup (p.1.map kV))/\bX p.2 q.2.2
variable {xs:List (List aY×ae×ac)}
theorem KT.val(r:KT H kvs xs)(k:List aY):mH (iO kvs k) ((zw xs k).map (·.2)):=by
  induction r with
  |nil=>exact ii
  | @cons p q ps qs h t ih=>
    obtain⟨h1,_,h2⟩:=h;by_cases e:p.1=k
    . have e':q.1=k:=h1.symm.trans e;have b:zw (q::qs) k=aa q.2:=by simp[zw,rm,e']
      rw[kN e,b];exact h2
    . have e':¬q.1=k:=λz=>e (h1.trans z);have b:zw (q::qs) k=zw qs k:=by simp[zw,rm,e']
      rw[kO e,b];exact ih
theorem KT.repl(r:KT H kvs xs)(k:List aY)(ry:bX y u):
    KT H (kvs.map λkv=>if kv.1=k then (kv.1,y) else kv) (xs.map (putAt k u)):=by
  induction r with
  |nil=>exact .nil
  | @cons p q ps qs h t ih=>
    rw[cb,cb];refine .cons ?_ ih;obtain⟨h1,h2,h3⟩:=h;unfold putAt;by_cases e:p.1=k
    . rw[QL e,QL (h1.symm.trans e)];exact⟨h1,h2,ry⟩
    . rw[Qi e,Qi (λz=>e (h1.trans z))];exact⟨h1,h2,h3⟩
theorem KT.put(r:KT H kvs xs)(k:List aY)(hb:H b=aa (.tup (k.map kV)))(ry:bX y u):
    KT H (i9 kvs k y) (storedH xs k b u):=by
  have e:(kvs.any λkv=>decide (kv.1=k))=(zw xs k).isSome:=by
    rw[wZ,(r.val k).isSome_eq,Pl]
  unfold i9 storedH;rw[e];by_cases q:(zw xs k).isSome=ah
  . rw[QL q,QL q];exact r.repl k ry
  . rw[Qi q,Qi q];exact Paired.snoc r ⟨rfl,hb,ry⟩
theorem KT.keeps(r:KT H kvs xs)(ht:∀b ys,H b=aa (.tup ys)->H' b=aa (.tup ys)):KT H' kvs xs:=
  Paired.mapP r λ_ _ z=>⟨z.1,ht _ _ z.2.1,z.2.2⟩
variable {ep:Nat}
theorem Ie{u:HO}(ok:nV P w H h)(e:Rd H a u):cF P w H h a u:=e.ok ok
theorem uE{kvs:List (aY×V)}(ok:nV P w H h)(e:Rd H a (.dK kvs)):kvs.length<=ay/\(a==ed)=aj /\ ∃vs,KV kvs vs/\h.DictOf (cT P w) a vs:=
  show cF P w H h a (.dK kvs) from Ie ok e
theorem J7{kvs:List (aY×V)}(ok:nV P w H h)(e:H a=aa (.dK kvs)):kvs.length<=ay/\(a==ed)=aj /\ ∃vs,KV kvs vs/\h.DictOf (cT P w) a vs:=uE ok (.inl e)
theorem rZ{ks:List aY}(ok:nV P w H h)(e:H a=aa (.tup (ks.map kV))):(we (cT P w)).is h ks a:=by
  obtain⟨_,its,r,o,h1,h2,n,h3⟩:=(show cF P w H h a (.tup (ks.map kV)) from ok a _ e);exact⟨o,its.toArray,n,h1,h2,h3,by simpa using uA r⟩
theorem zA(ok:nV P w H h)(e:Rd H a (.dT ep kvs)):kvs.length<=ay/\(a==ed)=aj /\
    ∃xs,KT H kvs xs/\h.DictOfH (we (cT P w)) a xs:=by
  obtain⟨z,y,xs,r,o,es,h1,h2,h3,h4,h5⟩:=(show cF P w H h a (.dT ep kvs) from Ie ok e);refine⟨z,y,xs,r,o,es,ep,h1,h2,h3,h4,λx hx=>?_,h5⟩;have all:∀{l:List (List aY×V)} {m:List (List aY×ae×ac)},KT H l m -> ∀x∈m,(we (cT P w)).is h x.1 x.2.1:=by
    intro l m q;induction q with
    |nil=>intro x hx;exact nomatch hx
    | @cons p q ps qs hq t ih=>
      intro x hx;rcases de.mp hx with e | hx
      . subst e;exact rZ ok (by rw[<- hq.1];exact hq.2.1)
      . exact ih x hx
  exact all r x hx
theorem G0(ok:nV P w H h)(e:H a=aa (.dT ep kvs)):kvs.length<=ay/\(a==ed)=aj /\
    ∃xs,KT H kvs xs/\h.DictOfH (we (cT P w)) a xs:=zA ok (.inl e)
noncomputable def mJ(H:Hp)(a:ae)(y:V)(r:Option V):Prop:=
  (∃kvs k,Rd H a (.dK kvs)/\y=kV k/\r=iO kvs k) \/ ∃ep kvs k b,Rd H a (.dT ep kvs)/\y=.ref b/\H b=aa (.tup (k.map kV))/\r=iO kvs k
noncomputable def zU(H:Hp)(a:ae)(y v:V)(R:Hp->Prop):Prop:=
  (∃kvs k,H a=aa (.dK kvs)/\y=kV k/\kvs.length<ay/\R (upd H a (.dK (i9 kvs k v)))) \/
  ∃ep kvs k b,H a=aa (.dT ep kvs)/\y=.ref b/\H b=aa (.tup (k.map kV))/\kvs.length<ay /\ ∀ep',R (upd H a (.dT ep' (i9 kvs k v)))
theorem mJ.k{H:Hp}{a:ae}{kvs:List (aY×V)}{k:aY}(e:H a=aa (.dK kvs)):mJ H a (kV k) (iO kvs k):=.inl ⟨kvs,k,.inl e,rfl,rfl⟩
theorem mJ.t{k:List aY}(e:H a=aa (.dT ep kvs))(eb:H b=aa (.tup (k.map kV))):mJ H a (.ref b) (iO kvs k):=.inr ⟨ep,kvs,k,b,.inl e,rfl,eb,rfl⟩
theorem zU.k{H:Hp}{a:ae}{kvs:List (aY×V)}{k:aY}{v:V}{R:Hp->Prop}(e:H a=aa (.dK kvs))(hl:kvs.length<ay)(r:R (upd H a (.dK (i9 kvs k v)))):zU H a (kV k) v R:=.inl ⟨kvs,k,e,rfl,hl,r⟩
theorem zU.t{k:List aY}{R:Hp->Prop}(e:H a=aa (.dT ep kvs))(eb:H b=aa (.tup (k.map kV)))(hl:kvs.length<ay)(r:∀ep',R (upd H a (.dT ep' (i9 kvs k v)))):zU H a (.ref b) v R:=.inr ⟨ep,kvs,k,b,e,rfl,eb,hl,r⟩
variable {r:ac}
theorem Inv.big(I:Inv X pj σ H s):ed<s.heap.objs.size:=by
  have h:fk<s.heap.objs.size:=(I.mod.glob.keeps I.bk).lt;exact PY ∅ h
theorem DK(hu:A.units+1<gy)(I:Inv X pj σ H s)(g:mJ H a y (aa v))(ry:bX y u)(h:∀w' s',Inv X pj σ H s'->bX v w'->Q w' s'):
    be (bn X.prog X.w) A (yi (.ref a) u) Q E s:=by
  rcases g with⟨kvs,k,e,ey,l⟩ | ⟨_,kvs,k,b,e,ey,eb,l⟩
  . subst ey;obtain⟨z,hd,vs,rel,dd⟩:=uE I.hok e;obtain⟨w',hw,rw'⟩:=mH.some_of (v:=v) (o:=wj vs k) (by rw[l];exact rel.val k);exact wpAny_getItem_of (u8 ry) dd.mapOf hw (h w' _ (I.tok _) rw')
  . subst ey;cases (show u=Value.ref b from ry);obtain⟨z,hd,xs,rel,dd⟩:=zA I.hok e;obtain⟨w',hw,rw'⟩:=mH.some_of (v:=v) (o:=(zw xs k).map (·.2)) (by rw[l];exact rel.val k);obtain⟨p,hp,hp2⟩:=uz.mp hw;refine wpAny_getItem_heap (jz hu) (rZ I.hok eb) dd hp ?_;rw[hp2];exact h w' _ (I.tok _) rw'
theorem O7(hu:A.units+1<gy)(I:Inv X pj σ H s)(g:mJ H a y o)(ry:bX y u)(h:∀s',Inv X pj σ H s'->Q (.bool o.isSome) s'):
    be (bn X.prog X.w) A (bu .In u (.ref a)) Q E s:=by
  rcases g with⟨kvs,k,e,ey,l⟩ | ⟨_,kvs,k,b,e,ey,eb,l⟩
  . subst ey;obtain⟨z,hd,vs,rel,dd⟩:=uE I.hok e;refine wpAny_in_of (u8 ry) hd dd.mapOf ?_;rw[<- (rel.val k).isSome_eq,<- l];exact h _ (I.tok _)
  . subst ey;cases (show u=Value.ref b from ry);obtain⟨z,hd,xs,rel,dd⟩:=zA I.hok e;refine wpAny_in_heap (jz hu) (rZ I.hok eb) hd dd ?_;have q:=(rel.val k).isSome_eq;rw[Pl] at q;rw[<- q,<- l];exact h _ (I.tok _)
theorem IM(hu:A.units+1<gy)(I:Inv X pj σ H s)(g:mJ H a y o)(ry:bX y u)(h:∀s',Inv X pj σ H s'->Q (.bool (!o.isSome)) s'):
    be (bn X.prog X.w) A (bu .NotIn u (.ref a)) Q E s:=by
  rcases g with⟨kvs,k,e,ey,l⟩ | ⟨_,kvs,k,b,e,ey,eb,l⟩
  . subst ey;obtain⟨z,hd,vs,rel,dd⟩:=uE I.hok e;refine wpAny_notIn_of (u8 ry) hd dd.mapOf ?_;rw[<- (rel.val k).isSome_eq,<- l];exact h _ (I.tok _)
  . subst ey;cases (show u=Value.ref b from ry);obtain⟨z,hd,xs,rel,dd⟩:=zA I.hok e;refine wpAny_notIn_heap (jz hu) (rZ I.hok eb) hd dd ?_;have q:=(rel.val k).isSome_eq;rw[Pl] at q;rw[<- q,<- l];exact h _ (I.tok _)
theorem wG(I:Inv X pj σ H s)(mu:DQ (H a))(hs:oj a s.heap h')(he:∃q,h'.get? a=aa q)(new:cF X.prog X.w (upd H a ob) h' a ob):
    Inv X pj σ (upd H a ob) { s with heap:=h',toks:=t' }:=
  I.write (x:=a) (e:=a) mu (.inl rfl) (λb q hb z=>(hs.2 b hb).trans z) he new
theorem G5{kvs:List (aY×V)}{vs:List (aY×ac)}(z:kvs.length<=ay)(hd:(a==ed)=aj)(rel:KV kvs vs)(dd:h'.DictOf (cT P w) a vs):
    cF P w H' h' a (.dK kvs):=⟨z,hd,vs,rel,dd⟩
theorem DJ{R:Hp->Prop}{Q:Unit->af->Prop}(hu:A.units+1<gy)(I:Inv X pj σ H s)(g:zU H a y v R)(ry:bX y u)(rv:bX v r)(h:∀H' s',R H'->Inv X pj σ H' s'->Q () s'):
    be (bn X.prog X.w) A (setItem (.ref a) u r) Q E s:=by
  rcases g with⟨kvs,k,e,ey,l,eH⟩ | ⟨ep0,kvs,k,b,e,ey,eb,l,eH⟩
  . subst ey;obtain⟨z,hd,vs,rel,dd⟩:=J7 I.hok e;have hz:vs.length<=ay:=by rw[<- rel.length];exact z
    have hl:(i9 kvs k v).length<=ay:=by have:=l7 kvs k v;right
    refine wpAny_setItem_pairs (hsz:=hz) (u8 ry) dd λh' dd' hs=>h _ _ eH ?_;have he:∃q,h'.get? a=aa q:=let ⟨q,_,_,hq,_⟩:=dd';⟨q,hq⟩;exact wG I (by rw[e];exact ii) hs he (G5 hl hd (rel.put k rv) dd')
  . subst ey;cases (show u=Value.ref b from ry);obtain⟨z,hd,xs,rel,dd⟩:=G0 I.hok e;have hz:xs.length<=ay:=by rw[<- Paired.length rel];exact z
    have hl:(i9 kvs k v).length<=ay:=by have:=l7 kvs k v;right
    refine wpAny_setItem_heap (hsz:=hz) (jz hu) (rZ I.hok eb) dd λh' dd' hs=>?_;obtain⟨q,es,ep,hq,h2,h3,h4,_,h5⟩:=dd';refine h _ _ (eH ep) ?_;refine wG I (by rw[e];exact ii) hs ⟨q,hq⟩ ⟨hl,hd,_,(rel.put k eb rv).keeps λc ys ec=>?_,q,es,hq,h2,h3,h4,h5⟩;rw[bB (M8 ec e (λz=>nomatch z))];exact ec
section
variable {kvs:List (aY×V)}{k:aY}
theorem Mb(I:Inv X pj σ H s)(e:Rd H a (.dK kvs))(h:∀t s',Inv X pj σ H s'->Q (.int kvs.length t) s'):be (bn X.prog X.w) A (call (.builtin "len") [.ref a]) Q E s:=by
  obtain⟨z,hd,vs,rel,dd⟩:=uE I.hok e;refine call_len_dict hd dd (by rw[<- rel.length];rw[io] at z;right) ?_;rw[<- rel.length];exact h _ _ (I.tok _)
end
theorem zI(I:Inv X pj σ H s)(g:mJ H a y o):s.TypeIs (.ref a) "dict" := by
  rcases g with⟨kvs,k,e,_,_⟩ | ⟨_,kvs,k,b,e,_,_,_⟩
  . obtain⟨_,_,vs,_,dd⟩:=uE I.hok e;exact dd.typeIs
  . obtain⟨_,_,xs,_,dd⟩:=zA I.hok e;exact dd.typeIs
noncomputable def LW(td ty tv:TE):TS:=λD σ H=>tv σ H λv H1=>td σ H1 λx H2=>ty σ H2 λy H3=>∃a,x=.ref a/\zU H3 a y v (D.nx σ)
variable {tv td:TE}{QU:Expr}{R5:gv}
section
variable {o i:Expr}{tpos:gv}{ty:TE}
theorem B8(hu:X.A.units+1<gy)(ho:PE X o td)(hi:PE X i ty)(hv:PE X QU tv)(hs:gk QU (aa (.Subscript o i R5)) pos.line X.env=gc aj):
    PS X (.Assign [.Subscript o i R5] QU pos) (LW td ty tv):=by
  intro pj s σ H D I h;refine wpAny_Assign_Subscript (thn (hv pj s σ H _ I h) λr s1 ⟨v,H1,I1,rv,q1⟩=>thn (ho pj s1 σ H1 _ I1 q1) λu s2 ⟨x,H2,I2,rx,q2⟩=>thn (hi pj s2 σ H2 _ I2 q2) λiv s3 ⟨y,H3,I3,ry,a,ex,g⟩=>?_) hs;subst ex;obtain rfl:u=Value.ref a:=rx;exact DJ hu I3 g ry rv λH4 s4 q3 I4=>⟨σ,H4,I4,q3⟩
end
theorem G7(h:ca)(hb:ed<h.objs.size):cF P w H (h.push { cls:=.type "dict",data:=.dict #[] }) h.objs.size (.dK []):=
  ⟨mj _,beq_eq_false_iff_ne.mpr (gp (ef hb)),[],.nil,Heap.DictOf.new h⟩
theorem G1(h:ca)(hb:ed<h.objs.size):cF P w H (h.push { cls:=.type "dict",data:=.dict #[] }) h.objs.size (.dT 0 []):=
  ⟨mj _,beq_eq_false_iff_ne.mpr (gp (ef hb)),[],.nil,_,#[],bi _ rfl,⟨rfl,rfl,rfl⟩,rfl,rfl,Pn⟩
noncomputable def JL:TE:=λ_ H Q=>∀p,H p=ap->Q (.ref p) (upd H p (.dT 0 []))
theorem EK:PE X (.Dict [] [] pos) JL:=λpj s σ H Q I h=>
  wpAny_Dict_empty ⟨.ref s.heap.objs.size,_,I.laid (a:=s.heap.objs.size) (o:=.dT 0 []) (t':=s.toks) (λ_ _ q=>ak _ q) (bg _) (G1 s.heap I.big),rfl,h _ (I.hok.fresh (bg _))⟩
noncomputable def A3:List (TE×TE)->St->Hp->(List (V×V)->Hp->Prop)->Prop
  | [],_,H,Q=>Q [] H
  | (tk,tv)::r,σ,H,Q=>tk σ H λx H1=>tv σ H1 λy H2=>A3 r σ H2 λps H3=>Q ((x,y)::ps) H3
noncomputable abbrev VV:List (V×V)->List (ac×ac)->Prop:=Paired λp q=>bX p.1 q.1/\bX p.2 q.2
noncomputable def NA(X:Cx)(pos:gv)(keys:List (Option Expr))(Rb:List Expr)(trs:List (TE×TE)):Prop:=
  ∀(pj:List (ae×im)) (s:af) (σ:St) (H:Hp) (Q:List (V×V)->Hp->Prop),Inv X pj σ H s->A3 trs σ H Q ->
    be (bn X.prog X.w) X.A (evalPairs (pairTrees keys Rb X.env pos)) (λvs s'=>∃ps H',Inv X pj σ H' s'/\VV ps vs/\Q ps H') X.xe s
theorem B9:NA X pos [] [] []:=λpj s σ H Q I h=>pairTrees_nil_walk ⟨[],H,I,.nil,h⟩
variable {trs:List (TE×TE)}
theorem xP{k v:Expr}{ks:List (Option Expr)}{vs:List Expr}{tk:TE}(hk:PE X k tk)(hv:PE X v tv)(hr:NA X pos ks vs trs):
    NA X pos (aa k::ks) (v::vs) ((tk,tv)::trs):=λpj s σ H Q I h=>
  pairTrees_cons_walk (thn (hk pj s σ H _ I h) λu s1 ⟨x,H1,I1,rx,q1⟩=>thn (hv pj s1 σ H1 _ I1 q1) λw2 s2 ⟨y,H2,I2,ry,q2⟩=>
    thn (hr pj s2 σ H2 _ I2 q2) λws s3 zq4=>by obtain⟨ps,H3,I3,rel,q3⟩:=zq4;exact⟨(x,y)::ps,H3,I3,.cons ⟨rx,ry⟩ rel,q3⟩)
noncomputable def rT(kvs more:List (aY×V)):List (aY×V):=more.foldl (λacc kv=>i9 acc kv.1 kv.2) kvs
theorem KV.merge:∀{more:List (aY×V)} {rs:List (aY×ac)} {kvs:List (aY×V)} {vs:List (aY×ac)},KV more rs->KV kvs vs->KV (rT kvs more) (merged vs rs):=by
  intro more rs kvs vs r;unfold KV at r;induction r generalizing kvs vs with
  |nil=>intro q;exact q
  | @cons p q ps qs h t ih=>
    intro r0;have e:KV (i9 kvs p.1 p.2) (stored vs q.1 q.2):=by
      have:=r0.put p.1 h.2;rw[<- h.1];exact this
    exact ih e
theorem mN:∀(more kvs:List (aY×V)),(rT kvs more).length<=kvs.length+more.length
  | [],kvs=>by show kvs.length<=kvs.length+0;right
  |p::r,kvs=>by
    have h1:=mN r (i9 kvs p.1 p.2);have h2:=l7 kvs p.1 p.2;show (rT (i9 kvs p.1 p.2) r).length<=_;rw[cj];right
theorem sS{P:aq}{w:bb}:∀{kvs:List (aY×V)} {ws:List (ac×ac)},VV (kvs.map λkv=>(kV kv.1,kv.2)) ws -> ∃rs,Carries (cT P w) ws rs/\KV kvs rs
  | [],_,r=>by rw[uh] at r;cases r;exact⟨[],ii,.nil⟩
  |p::kvs,_,r=>by
    rw[cb] at r;cases r with
    | @cons a b as bs h t=>
      obtain⟨rs,c,q⟩:=sS (P:=P) (w:=w) t;obtain⟨b1,b2⟩:=b;exact⟨(p.1,b2)::rs,⟨u8 h.1,rfl,c⟩,.cons ⟨rfl,h.2⟩ q⟩
noncomputable def LO(trs:List (TE×TE)):TE:=λσ H Q=>∀p,H p=ap->A3 trs σ (upd H p (.dK [])) λps H2=>H2 p=aa (.dK []) /\ ∃kvs:List (aY×V),ps=kvs.map (λkv=>(kV kv.1,kv.2))/\kvs.length<=15/\Q (.ref p) (upd H2 p (.dK (rT [] kvs)))
theorem BC{keys:List (Option Expr)}{Rb:List Expr}(h:NA X pos keys Rb trs)(Rj:keys.all (·.isSome)=ah)(hl:keys.length=Rb.length)(h0:keys≠[])
    (h15:keys.length<=15):PE X (.Dict keys Rb pos) (LO trs):=by
  intro pj s σ H Q I q;have hn:=I.hok.fresh (bg s.heap.objs.size);have I1:=I.laid (a:=s.heap.objs.size) (o:=.dK []) (h':=s.heap.push { cls:=.type "dict",data:=.dict #[] }) (t':=s.toks) (λ_ _ q=>ak _ q) (bg _) (G7 s.heap I.big);refine wpAny_Dict_walk (knd:=cT X.prog X.w) Rj hl h0 h15 (thn (h pj _ σ _ _ I1 (q _ hn)) λws s2 zz=>?_);obtain⟨ps,H2,I2,rel,e,kvs,ep,lk,q2⟩:=zz;subst ep;obtain⟨rs,c,rk⟩:=sS (P:=X.prog) (w:=X.w) rel;obtain⟨z,hd,vs0,r0,dd⟩:=J7 I2.hok e;cases r0;refine⟨rs,c,dd,λh' dd' hs=>⟨.ref s.heap.objs.size,_,?_,rfl,q2⟩⟩;have hz:(rT [] kvs).length<=ay:=by
    have h1:=mN kvs [];rw[um] at h1;rw[io];right
  have he:∃q,h'.get? s.heap.objs.size=aa q:=let ⟨q,_,_,hq,_⟩:=dd';⟨q,hq⟩;exact wG I2 (by rw[e];exact ii) hs he (G5 hz hd (rk.merge .nil) dd')
section
variable {d:V}
end
section
variable {o f:Expr}{QZ:gv}{ty tx:TE}
end
section
variable {kvs:List (aY×V)}
end
theorem DO:fX X (.builtin "len") (λxs H Q=>∃a kvs,xs=[V.ref a]/\H a=aa (.dK kvs)/\Q (.int kvs.length) H):=by
  intro pj s σ H xs us Q I r h;obtain⟨a,kvs,rfl,ha,q⟩:=h;obtain⟨u,rfl,ru⟩:=kM r;cases ru;exact Mb I (.inl ha) λt s' I'=>⟨.int kvs.length,H,I',⟨t,rfl⟩,q⟩
section
variable [DecidableEq κ]
end
noncomputable abbrev Tk:=Int×Int×List Int
noncomputable def Dj(k:Tk):Int:=reduceHash (sd [PQ k.1,PQ k.2.1,reduceHash (sd (k.2.2.map PQ))])
noncomputable abbrev O5(x:Tk×ae):ir:=⟨Dj x.1,.ref x.2,.bool ah⟩
noncomputable def ndict(a:ae)(xs:List (Tk×ae)):ca->Prop:=λh=>xs.length<=ay/\(a==ed)=aj /\ ∃o es ep,h.get? a=aa o/\o.ExactDict/\o.data=.dict es ep/\es.toList=xs.map O5/\(xs.map (·.1)).Nodup
noncomputable abbrev HO.dN(a:ae)(xs:List (Tk×ae)):HO:=.ext (ndict a xs)
noncomputable def TileAt(H:Hp)(k:Tk)(b:ae):Prop:=∃c,H b=aa (.tup [.int k.1,.int k.2.1,.ref c])/\H c=aa (.tup (k.2.2.map V.int))
section
variable {xs:List (Tk×ae)}{k:Tk}
end
section
variable {o i:Expr}{ty:TE}
end
end L2
variable {xs:List (List L2.aY×L2.V)}{M F:ae->Prop}
namespace Z
open L2
noncomputable abbrev St:=L2.St
inductive Dv where
 |non
 |bl (b:Bool)
 |int (i:Int)
 |str (x:az)
 |tup (xs:List Dv)
 |lst (xs:List Dv)
 |dik (kvs:List (aY×Dv))
 |dit (kvs:List (List aY×Dv))
 |obj (C:ae) (fs:List (az×Dv))
 |scr (ns:List Int)
 /-- an exception that was caught,of the class at C -/
 |exc (C:ae) (p:Option Int)
 /-- a dict by tiles whose values are True -/
 |dns (ks:List Tk)
noncomputable def iE:Dv->Bool
 | .lst _=>aj
 | .dik _=>aj
 | .dit _=>aj
 | .obj _ _=>aj
 | .dns _=>aj
 | .tup xs=>flatDs xs
 |_=>ah
where flatDs:List Dv->Bool
 | []=>ah
 |d::r=>iE d&&flatDs r
noncomputable abbrev flatDs:=iE.flatDs
noncomputable def IU(K:ai)(H:Hp)(a:ae)(ns:List Int):Prop:=
 (∃o,H a=aa (.frz o (.lst (ns.map V.int)))) \/
  ∃(o:im) (its:Array ac) (n:Nat),K.lookup a=aa o/\o.cls=.type "list" /\ o.dict=ap/\o.data=.seq its n/\its.size<=ay/\bF (ns.map V.int) its.toList
theorem IU.sq(h:IU K H a ns):eZ K H a (ns.map V.int):=by
 rcases h with⟨o,h⟩ | h
 ·exact .inl (.inr ⟨o,h⟩)
 ·exact .inr h
noncomputable def C7(H:Hp):Option Int->Option ae->Prop
 |none,ap=>True
 |some n,aa d=>∃od,H d=aa (.frz od (.xd [("step",.int n)]))
 |_,_=>False
theorem C7.gen(h:∀a o u,H a=aa (.frz o u)->H' a=aa (.frz o u)):∀{p:Option Int} {d:Option ae},C7 H p d->C7 H' p d
 |none,ap,z=>z
 |some _,aa _,⟨od,z⟩=>⟨od,h _ _ _ z⟩
 |none,aa _,z=>z.elim
 |some _,ap,z=>z.elim
noncomputable def N3(H:Hp)(a C:ae)(p:Option Int):Prop:=∃o u,H a=aa (.frz o u)/\o.cls=.ref C/\C7 H p o.dict/\pP o
noncomputable def OT(H:Hp)(a:ae)(ks:List Tk):Prop:=∃xs,H a=aa (.dN a xs)/\ks=xs.map (·.1) /\ ∀x∈xs,TileAt H x.1 x.2
mutual
inductive Rep(K:ai)(M:ae->Prop)(H:Hp):V->Dv->Prop
 |non:Rep K M H .non .non
 |bl (b:Bool):Rep K M H (.bl b) (.bl b)
 |int (i:Int):Rep K M H (.int i) (.int i)
 |str (x:az):Rep K M H (.str x) (.str x)
 |tup {a:ae} {xs:List V} {ds:List Dv}:H a=aa (.tup xs)->Reps K M H xs ds->Rep K M H (.ref a) (.tup ds)
 |lst {a:ae} {xs:List V} {ds:List Dv}:H a=aa (.lst xs) -> ¬M a->Reps K M H xs ds->Rep K M H (.ref a) (.lst ds)
 |dik {a:ae} {kvs:List (aY×V)} {ds:List (aY×Dv)}:H a=aa (.dK kvs) -> ¬M a->RepK K M H kvs ds->Rep K M H (.ref a) (.dik ds)
 |dit {a:ae} {ep:Nat} {kvs:List (List aY×V)} {ds:List (List aY×Dv)}:H a=aa (.dT ep kvs) -> ¬M a->RepT K M H kvs ds->Rep K M H (.ref a) (.dit ds)
 |obj {a C dx:ae} {fs:List (az×V)} {ds:List (az×Dv)}:H a=aa (.ins C dx fs) -> ¬M a->RepF K M H fs ds->Rep K M H (.ref a) (.obj C ds)
 |scr {a:ae} {ns:List Int}:IU K H a ns->Rep K M H (.ref a) (.scr ns)
 |exc {a C:ae} {p:Option Int}:N3 H a C p->Rep K M H (.ref a) (.exc C p)
 |dns {a:ae} {ks:List Tk}:OT H a ks -> ¬M a->Rep K M H (.ref a) (.dns ks)
inductive Reps(K:ai)(M:ae->Prop)(H:Hp):List V->List Dv->Prop
 |nil:Reps K M H [] []
 |cons {x:V} {d:Dv} {xs:List V} {ds:List Dv}:Rep K M H x d->Reps K M H xs ds->Reps K M H (x::xs) (d::ds)
inductive RepK(K:ai)(M:ae->Prop)(H:Hp):List (aY×V)->List (aY×Dv)->Prop
 |nil:RepK K M H [] []
 |cons {k:aY} {x:V} {d:Dv} {xs:List (aY×V)} {ds:List (aY×Dv)}:Rep K M H x d->RepK K M H xs ds->RepK K M H ((k,x)::xs) ((k,d)::ds)
inductive RepT(K:ai)(M:ae->Prop)(H:Hp):List (List aY×V)->List (List aY×Dv)->Prop
 |nil:RepT K M H [] []
 |cons {k:List aY} {x:V} {d:Dv} {xs:List (List aY×V)} {ds:List (List aY×Dv)}:Rep K M H x d->RepT K M H xs ds->RepT K M H ((k,x)::xs) ((k,d)::ds)
inductive RepF(K:ai)(M:ae->Prop)(H:Hp):List (az×V)->List (az×Dv)->Prop
 |nil:RepF K M H [] []
 |cons {k:az} {x:V} {d:Dv} {xs:List (az×V)} {ds:List (az×Dv)}:Rep K M H x d->RepF K M H xs ds->RepF K M H ((k,x)::xs) ((k,d)::ds)
end
structure Gen(K:ai)(M M':ae->Prop)(H H':Hp):Prop where
 l:∀a o,H a=aa o->DQ (aa o) -> ¬M a->H' a=aa o /\ ¬M' a
 t:∀a xs,H a=aa (.tup xs)->H' a=aa (.tup xs)
 s:∀a ns,IU K H a ns->IU K H' a ns
 x:∀a o u,H a=aa (.frz o u)->H' a=aa (.frz o u)
variable {ds:List Dv}{o:HO}{M':ae->Prop}{H'':Hp}
section
variable {M'':ae->Prop}
theorem Reps.ind{P:List V->List Dv->Prop}(h0:P [] [])(h1:∀(x:V) (d:Dv) (xs:List V) (ds:List Dv),Rep K M H x d->Reps K M H xs ds->P xs ds->P (x::xs) (d::ds)){xs:List V}(r:Reps K M H xs ds):P xs ds:=
 Reps.rec (motive_1:=λ_ _ _=>True) (motive_2:=λxs ds _=>P xs ds) (motive_3:=λ_ _ _=>True) (motive_4:=λ_ _ _=>True) (motive_5:=λ_ _ _=>True) trivial (λ_=>trivial) (λ_=>trivial) (λ_=>trivial) (λ_ _ _=>trivial) (λ_ _ _ _=>trivial) (λ_ _ _ _=>trivial) (λ_ _ _ _=>trivial) (λ_ _ _ _=>trivial) (λ_=>trivial) (λ_=>trivial) (λ_ _=>trivial) h0 (λa r _ ih=>h1 _ _ _ _ a r ih) trivial (λ_ _ _ _=>trivial) trivial (λ_ _ _ _=>trivial) trivial (λ_ _ _ _=>trivial) r
theorem RepK.ind{P:List (aY×V)->List (aY×Dv)->Prop}(h0:P [] [])(h1:∀(k:aY) (x:V) (d:Dv) (xs:List (aY×V)) (ds:List (aY×Dv)),Rep K M H x d->RepK K M H xs ds->P xs ds->P ((k,x)::xs) ((k,d)::ds)){xs:List (aY×V)}{ds:List (aY×Dv)}(r:RepK K M H xs ds):P xs ds:=
 RepK.rec (motive_1:=λ_ _ _=>True) (motive_2:=λ_ _ _=>True) (motive_3:=λxs ds _=>P xs ds) (motive_4:=λ_ _ _=>True) (motive_5:=λ_ _ _=>True) trivial (λ_=>trivial) (λ_=>trivial) (λ_=>trivial) (λ_ _ _=>trivial) (λ_ _ _ _=>trivial) (λ_ _ _ _=>trivial) (λ_ _ _ _=>trivial) (λ_ _ _ _=>trivial) (λ_=>trivial) (λ_=>trivial) (λ_ _=>trivial) trivial (λ_ _ _ _=>trivial) h0 (λa r _ ih=>h1 _ _ _ _ _ a r ih) trivial (λ_ _ _ _=>trivial) trivial (λ_ _ _ _=>trivial) r
theorem RepT.ind{P:List (List aY×V)->List (List aY×Dv)->Prop}(h0:P [] [])(h1:∀(k:List aY) (x:V) (d:Dv) (xs:List (List aY×V)) (ds:List (List aY×Dv)),Rep K M H x d->RepT K M H xs ds->P xs ds->P ((k,x)::xs) ((k,d)::ds)){ds:List (List aY×Dv)}(r:RepT K M H xs ds):P xs ds:=
 RepT.rec (motive_1:=λ_ _ _=>True) (motive_2:=λ_ _ _=>True) (motive_3:=λ_ _ _=>True) (motive_4:=λxs ds _=>P xs ds) (motive_5:=λ_ _ _=>True) trivial (λ_=>trivial) (λ_=>trivial) (λ_=>trivial) (λ_ _ _=>trivial) (λ_ _ _ _=>trivial) (λ_ _ _ _=>trivial) (λ_ _ _ _=>trivial) (λ_ _ _ _=>trivial) (λ_=>trivial) (λ_=>trivial) (λ_ _=>trivial) trivial (λ_ _ _ _=>trivial) trivial (λ_ _ _ _=>trivial) h0 (λa r _ ih=>h1 _ _ _ _ _ a r ih) trivial (λ_ _ _ _=>trivial) r
theorem RepF.ind{P:List (az×V)->List (az×Dv)->Prop}(h0:P [] [])(h1:∀(k:az) (x:V) (d:Dv) (xs:List (az×V)) (ds:List (az×Dv)),Rep K M H x d->RepF K M H xs ds->P xs ds->P ((k,x)::xs) ((k,d)::ds)){xs:List (az×V)}{ds:List (az×Dv)}(r:RepF K M H xs ds):P xs ds:=
 RepF.rec (motive_1:=λ_ _ _=>True) (motive_2:=λ_ _ _=>True) (motive_3:=λ_ _ _=>True) (motive_4:=λ_ _ _=>True) (motive_5:=λxs ds _=>P xs ds) trivial (λ_=>trivial) (λ_=>trivial) (λ_=>trivial) (λ_ _ _=>trivial) (λ_ _ _ _=>trivial) (λ_ _ _ _=>trivial) (λ_ _ _ _=>trivial) (λ_ _ _ _=>trivial) (λ_=>trivial) (λ_=>trivial) (λ_ _=>trivial) trivial (λ_ _ _ _=>trivial) trivial (λ_ _ _ _=>trivial) trivial (λ_ _ _ _=>trivial) h0 (λa r _ ih=>h1 _ _ _ _ _ a r ih) r
theorem _root_.L2.TileAt.gen{k:Tk}(t:TileAt H k b)(ht:∀a xs,H a=aa (.tup xs)->H' a=aa (.tup xs)):TileAt H' k b:=let ⟨c,e1,e2⟩:=t;⟨c,ht _ _ e1,ht _ _ e2⟩
theorem Rep.gen(G:Gen K M M' H H'){x:V}{d:Dv}(r:Rep K M H x d):Rep K M' H' x d:=
 Rep.rec (motive_1:=λx d _=>Rep K M' H' x d) (motive_2:=λxs ds _=>Reps K M' H' xs ds) (motive_3:=λxs ds _=>RepK K M' H' xs ds) (motive_4:=λxs ds _=>RepT K M' H' xs ds) (motive_5:=λxs ds _=>RepF K M' H' xs ds)
  .non .bl .int .str (λh _ r=>.tup (G.t _ _ h) r) (λh m _ r=>.lst (G.l _ _ h trivial m).1 (G.l _ _ h trivial m).2 r) (λh m _ r=>.dik (G.l _ _ h trivial m).1 (G.l _ _ h trivial m).2 r) (λh m _ r=>.dit (G.l _ _ h trivial m).1 (G.l _ _ h trivial m).2 r)
  (λh m _ r=>.obj (G.l _ _ h trivial m).1 (G.l _ _ h trivial m).2 r) (λh=>.scr (G.s _ _ h)) (λzq5=>by obtain⟨o,u,h,z,y,m⟩:=zq5;exact .exc ⟨o,u,G.x _ _ _ h,z,y.gen G.x,m⟩) (λ⟨xs,h,e,t⟩ m=>.dns ⟨xs,(G.l _ _ h trivial m).1,e,λx hx=>(t x hx).gen G.t⟩ (G.l _ _ h trivial m).2) .nil (λ_ _ a r=>.cons a r) .nil (λ_ _ a r=>.cons a r) .nil (λ_ _ a r=>.cons a r) .nil (λ_ _ a r=>.cons a r) r
theorem Reps.gen(G:Gen K M M' H H'){xs:List V}{ds:List Dv}(r:Reps K M H xs ds):Reps K M' H' xs ds:=r.ind .nil λ_ _ _ _ a _ ih=>.cons (a.gen G) ih
theorem RepK.gen(G:Gen K M M' H H'){xs:List (aY×V)}{ds:List (aY×Dv)}(r:RepK K M H xs ds):RepK K M' H' xs ds:=r.ind .nil λ_ _ _ _ _ a _ ih=>.cons (a.gen G) ih
theorem RepT.gen(G:Gen K M M' H H'){xs:List (List aY×V)}{ds:List (List aY×Dv)}(r:RepT K M H xs ds):RepT K M' H' xs ds:=r.ind .nil λ_ _ _ _ _ a _ ih=>.cons (a.gen G) ih
theorem RepF.gen(G:Gen K M M' H H'){xs:List (az×V)}{ds:List (az×Dv)}(r:RepF K M H xs ds):RepF K M' H' xs ds:=r.ind .nil λ_ _ _ _ _ a _ ih=>.cons (a.gen G) ih
theorem aM.scr(S:aM H H')(h:IU K H a ns):IU K H' a ns:=by
 rcases h with⟨o,h⟩ | h
 ·exact .inl ⟨o,S _ _ h⟩
 ·exact .inr h
theorem Gen.mono(S:aM H H'):Gen K M M H H':=⟨λa o h _ m=>⟨S _ _ h,m⟩,λ_ _ h=>S _ _ h,λ_ _ h=>aM.scr S h,λ_ _ _ h=>S _ _ h⟩
theorem Gen.weak(h:∀a,M' a->M a):Gen K M M' H H:=⟨λa o e _ m=>⟨e,λz=>m (h a z)⟩,λ_ _ h=>h,λ_ _ h=>h,λ_ _ _ h=>h⟩
theorem Gen.fresh{p:ae}(hp:H p=ap):Gen K M (λb=>M b \/ b=p) H H:=
 ⟨λa o e _ m=>⟨e,λz=>z.elim m λz=>by rw[z,hp] at e;cases e⟩,λ_ _ h=>h,λ_ _ h=>h,λ_ _ _ h=>h⟩
theorem Gen.trans(a:Gen K M M' H H')(b:Gen K M' M'' H' H''):Gen K M M'' H H'':=
 ⟨λc o e mu m=>b.l c o (a.l c o e mu m).1 mu (a.l c o e mu m).2,λc xs h=>b.t c xs (a.t c xs h),λc ns h=>b.s c ns (a.s c ns h),λc o u h=>b.x c o u (a.x c o u h)⟩
theorem AR{p:ae}{u:HO}(mu:DQ (H p))(e:H a=aa u)(n:¬DQ (aa u)):a≠p:=λz=>by
 subst z;rw[e] at mu;exact n mu
theorem Gen.write{p:ae}(hM:M p)(mu:DQ (H p)):Gen K M M H (upd H p o):=by
 refine⟨λa u e _ m=>⟨?_,m⟩,λa xs h=>?_,λa ns h=>?_,λa o u h=>by rw[bB (AR mu h λz=>z)];exact h⟩
 ·rw[bB λz=>m (by rw[z];exact hM)];exact e
 ·rw[bB (AR mu h λz=>z)];exact h
 ·rcases h with⟨u,h⟩ | h
  ·exact .inl ⟨u,by rw[bB (AR mu h λz=>z)];exact h⟩
  ·exact .inr h
end
theorem Rep.mono{x:V}{d:Dv}(S:aM H H')(h:Rep K M H x d):Rep K M H' x d:=h.gen (.mono S)
theorem Rep.weak{x:V}{d:Dv}(w:∀a,M' a->M a)(h:Rep K M H x d):Rep K M' H x d:=h.gen (.weak w)
theorem Reps.mono{xs:List V}{ds:List Dv}(S:aM H H')(h:Reps K M H xs ds):Reps K M H' xs ds:=h.gen (.mono S)
theorem Reps.weak{xs:List V}{ds:List Dv}(w:∀a,M' a->M a)(h:Reps K M H xs ds):Reps K M' H xs ds:=h.gen (.weak w)
theorem dU{d:Dv}(f:flatDs (d::ds)=ah):iE d=ah/\flatDs ds=ah:=by
 have f':(iE d&&flatDs ds)=ah:=f;rwa[cw] at f'
theorem Rep.flat{x:V}{d:Dv}(f:iE d=ah)(r:Rep K M H x d):Rep K M' H x d:=
 Rep.rec (motive_1:=λx d _=>iE d=ah->Rep K M' H x d) (motive_2:=λxs ds _=>flatDs ds=ah->Reps K M' H xs ds) (motive_3:=λ_ _ _=>True) (motive_4:=λ_ _ _=>True) (motive_5:=λ_ _ _=>True)
  (λ_=>.non) (λb _=>.bl b) (λi _=>.int i) (λx _=>.str x) (λh _ ih f=>.tup h (ih (by rw[iE] at f;exact f))) (λ_ _ _ _ f=>by simp[iE] at f) (λ_ _ _ _ f=>by simp[iE] at f) (λ_ _ _ _ f=>by simp[iE] at f)
  (λ_ _ _ _ f=>by simp[iE] at f) (λh _=>.scr h) (λh _=>.exc h) (λ_ _ f=>by simp[iE] at f) (λ_=>.nil) (λ_ _ a r f=>.cons (a (dU f).1) (r (dU f).2)) trivial (λ_ _ _ _=>trivial) trivial (λ_ _ _ _=>trivial) trivial (λ_ _ _ _=>trivial) r f
theorem Reps.flat{xs:List V}{ds:List Dv}(f:flatDs ds=ah)(r:Reps K M H xs ds):Reps K M' H xs ds:=
 r.ind (P:=λxs ds=>flatDs ds=ah->Reps K M' H xs ds) (λ_=>.nil) (λ_ _ _ _ a _ ih f=>.cons (a.flat (dU f).1) (ih (dU f).2)) f
theorem RepF.flat{xs:List (az×V)}{ds:List (az×Dv)}(f:flatDs (ds.map (·.2))=ah)(r:RepF K M H xs ds):RepF K M' H xs ds:=
 r.ind (P:=λxs ds=>flatDs (ds.map (·.2))=ah->RepF K M' H xs ds) (λ_=>.nil) (λ_ _ _ _ _ a _ ih f=>.cons (a.flat (dU f).1) (ih (dU f).2)) f
theorem RepK.flat{xs:List (aY×V)}{ds:List (aY×Dv)}(f:flatDs (ds.map (·.2))=ah)(r:RepK K M H xs ds):RepK K M' H xs ds:=
 r.ind (P:=λxs ds=>flatDs (ds.map (·.2))=ah->RepK K M' H xs ds) (λ_=>.nil) (λ_ _ _ _ _ a _ ih f=>.cons (a.flat (dU f).1) (ih (dU f).2)) f
theorem RepT.flat{xs:List (List aY×V)}{ds:List (List aY×Dv)}(f:flatDs (ds.map (·.2))=ah)(r:RepT K M H xs ds):RepT K M' H xs ds:=
 r.ind (P:=λxs ds=>flatDs (ds.map (·.2))=ah->RepT K M' H xs ds) (λ_=>.nil) (λ_ _ _ _ _ a _ ih f=>.cons (a.flat (dU f).1) (ih (dU f).2)) f
theorem Reps.length{xs:List V}{ds:List Dv}(r:Reps K M H xs ds):xs.length=ds.length:=r.ind (P:=λxs ds=>xs.length=ds.length) rfl λ_ _ _ _ _ _ ih=>congrArg (· + 1) ih
theorem Reps.append{xs ys:List V}{es:List Dv}(r:Reps K M H xs ds)(s:Reps K M H ys es):Reps K M H (xs++ys) (ds++es):=r.ind (P:=λxs ds=>Reps K M H (xs++ys) (ds++es)) s λ_ _ _ _ a _ ih=>.cons a ih
theorem Reps.get{xs:List V}{d:Dv}(r:Reps K M H xs ds)(e:ds[i]?=aa d):∃x,xs[i]?=aa x/\Rep K M H x d:=
 r.ind (P:=λxs ds=>∀i,ds[i]?=aa d -> ∃x,xs[i]?=aa x/\Rep K M H x d) (λi e=>by rw[List.getElem?_nil] at e;cases e) (λx y xs ys a _ ih i e=>by
  cases i with
  |zero=>rw[nq] at e;cases e;exact⟨x,rfl,a⟩
  |succ i=>exact ih i e) i e
theorem Reps.take{xs:List V}{ds:List Dv}(n:Nat)(r:Reps K M H xs ds):Reps K M H (xs.take n) (ds.take n):=
 r.ind (P:=λxs ds=>∀n,Reps K M H (xs.take n) (ds.take n)) (λn=>by cases n<;>exact .nil) (λ_ _ _ _ a r ih n=>by cases n with
  |zero=>exact .nil
  |succ n=>exact .cons a (ih n)) n
theorem Reps.drop{xs:List V}{ds:List Dv}(n:Nat)(r:Reps K M H xs ds):Reps K M H (xs.drop n) (ds.drop n):=
 r.ind (P:=λxs ds=>∀n,Reps K M H (xs.drop n) (ds.drop n)) (λn=>by cases n<;>exact .nil) (λ_ _ _ _ a r ih n=>by cases n with
  |zero=>exact .cons a r
  |succ n=>exact ih n) n
theorem Reps.repl{xs:List V}{ds:List Dv}(h:Reps K M H xs ds):∀n:Nat,Reps K M H (au n xs).flatten (au n ds).flatten
 |0=>.nil
 |n+1=>by
  rw[gr,gr,oo,oo];exact h.append (Reps.repl h n)
theorem Reps.ints:∀ns:List Int,Reps K M H (ns.map V.int) (ns.map Dv.int)
 | []=>.nil
 |n::r=>.cons (.int n) (Reps.ints r)
noncomputable def dR(K:ai)(M:ae->Prop)(H:Hp)(a:ae):Dv->Prop
 | .lst ds=>∃xs,H a=aa (.lst xs)/\Reps K M H xs ds
 | .dik ds=>∃kvs,H a=aa (.dK kvs)/\RepK K M H kvs ds
 | .dit ds=>∃ep kvs,H a=aa (.dT ep kvs)/\RepT K M H kvs ds
 | .obj C ds=>∃dx fs,H a=aa (.ins C dx fs)/\RepF K M H fs ds
 | .dns ks=>OT H a ks
 |_=>False
noncomputable def Fu:Dv->Bool
 | .lst ds=>flatDs ds
 | .dik ds=>flatDs (ds.map (·.2))
 | .dit ds=>flatDs (ds.map (·.2))
 | .obj _ ds=>flatDs (ds.map (·.2))
 | .dns _=>ah
 |_=>aj
theorem dR.gen{d:Dv}(G:Gen K M M' H H')(ha:∀o,H a=aa o->H' a=aa o)(h:dR K M H a d):dR K M' H' a d:=by
 cases d with
 |lst ds=>obtain⟨xs,e,r⟩:=h;exact⟨xs,ha _ e,r.gen G⟩
 |dik ds=>obtain⟨xs,e,r⟩:=h;exact⟨xs,ha _ e,r.gen G⟩
 |dit ds=>obtain⟨ep,xs,e,r⟩:=h;exact⟨ep,xs,ha _ e,r.gen G⟩
 |obj C ds=>obtain⟨dx,fs,e,r⟩:=h;exact⟨dx,fs,ha _ e,r.gen G⟩
 |dns ks=>obtain⟨xs,e,k,t⟩:=h;exact⟨xs,ha _ e,k,λx hx=>(t x hx).gen G.t⟩
 |_=>exact h.elim
theorem dR.mono{d:Dv}(S:aM H H')(h:dR K M H a d):dR K M H' a d:=h.gen (.mono S) λo e=>S _ _ e
theorem dR.weak{d:Dv}(w:∀a,M' a->M a)(h:dR K M H a d):dR K M' H a d:=h.gen (.weak w) λ_ e=>e
theorem dR.flat{d:Dv}(f:Fu d=ah)(h:dR K M H a d):dR K M' H a d:=by
 cases d with
 |lst ds=>obtain⟨xs,e,r⟩:=h;exact⟨xs,e,r.flat f⟩
 |dik ds=>obtain⟨xs,e,r⟩:=h;exact⟨xs,e,r.flat f⟩
 |dit ds=>obtain⟨ep,xs,e,r⟩:=h;exact⟨ep,xs,e,r.flat f⟩
 |obj C ds=>obtain⟨dx,fs,e,r⟩:=h;exact⟨dx,fs,e,r.flat f⟩
 |dns ks=>exact h
 |_=>exact h.elim
theorem dR.mut{d:Dv}(h:dR K M H a d):∃o,H a=aa o/\DQ (aa o):=by
 cases d with
 |lst ds=>obtain⟨xs,e,r⟩:=h;exact⟨_,e,trivial⟩
 |dik ds=>obtain⟨xs,e,r⟩:=h;exact⟨_,e,trivial⟩
 |dit ds=>obtain⟨ep,xs,e,r⟩:=h;exact⟨_,e,trivial⟩
 |obj C ds=>obtain⟨dx,fs,e,r⟩:=h;exact⟨_,e,trivial⟩
 |dns ks=>obtain⟨xs,e,_⟩:=h;exact⟨_,e,trivial⟩
 |_=>exact h.elim
theorem dR.rep{d:Dv}(h:dR K M H a d)(m:¬M a):Rep K M H (.ref a) d:=by
 cases d with
 |lst ds=>obtain⟨xs,e,r⟩:=h;exact .lst e m r
 |dik ds=>obtain⟨xs,e,r⟩:=h;exact .dik e m r
 |dit ds=>obtain⟨ep,xs,e,r⟩:=h;exact .dit e m r
 |obj C ds=>obtain⟨dx,fs,e,r⟩:=h;exact .obj e m r
 |dns ks=>exact .dns h m
 |_=>exact h.elim
inductive Sl where
 |un
 |v (d:Dv)
 |own (a:ae) (d:Dv)
noncomputable def MM(F:ae->Prop)(ρ:List Sl):ae->Prop:=λa=>F a \/ ∃d,Sl.own a d∈ρ
noncomputable def tP(K:ai)(M:ae->Prop)(H:Hp)(o:Option (Option V)):Sl->Prop
 | .un=>True
 | .v d=>∃x,o=aa (aa x)/\Rep K M H x d
 | .own a d=>o=aa (aa (.ref a))/\dR K M H a d
noncomputable abbrev MI:Bool:=aj
noncomputable def L8(K:ai)(P:ae)(q:az):Prop:=MI=ah /\ ∃(C f:ae) (o:ac) (od:Option ae) (fd:gh) (sl:Array (Option ac)) (c:ae) (oc:ac) (odc:Option ae) (vs:Array ac) (slc:Array (Option ac)),
 W.nsIn K fk "Sides" = aa (aa (.ref C))/\ju K (.ref C) "last" = aa (aa (.ref f))/\K.lookup f=aa ⟨o,od,.func fd,sl⟩/\fd.code=.ref c/\K.lookup c=aa ⟨oc,odc,.fields vs,slc⟩/\vs[11]?=aa (.ref P) /\
 q = "Sides.last" ++ ".<locals>." ++ "<lambda>"
noncomputable def uN(K:ai)(H:Hp):Prop:=∀P q,L8 K P q->H P=aa (.lam q)
structure OldF(K:ai)(F:ae->Prop)(HZ:Hp):Prop where
 f:∀a,F a->HZ a≠ap
 t:uN K HZ
theorem uN.mono(t:uN K H)(S:aM H H'):uN K H':=λP q z=>S _ _ (t P q z)
structure Fr(K:ai)(HZ:Hp)(F:ae->Prop)(σ:St)(H:Hp)(ρ:List Sl):Prop where
 len:σ.length=ρ.length
 sl:∀(i:Nat) (s:Sl),ρ[i]?=aa s->tP K (MM F ρ) H σ[i]? s
 nd:∀(i j:Nat) (a:ae) (d d':Dv),ρ[i]?=aa (.own a d)->ρ[j]?=aa (.own a d')->i=j
 new:∀(a:ae) (d:Dv),Sl.own a d∈ρ->HZ a=ap
 same:aM HZ H
 old:OldF K F HZ
variable {HZ:Hp}{σ:St}{ρ:List Sl}
theorem tP.mono{o:Option (Option V)}{s:Sl}(S:aM H H')(h:tP K M H o s):tP K M H' o s:=by
 cases s with
 |un=>trivial
 |v d=>obtain⟨x,e,r⟩:=h;exact⟨x,e,r.mono S⟩
 |own a d=>exact⟨h.1,h.2.mono S⟩
theorem tP.weak{o:Option (Option V)}{s:Sl}(w:∀a,M' a->M a)(h:tP K M H o s):tP K M' H o s:=by
 cases s with
 |un=>trivial
 |v d=>obtain⟨x,e,r⟩:=h;exact⟨x,e,r.weak w⟩
 |own a d=>exact⟨h.1,h.2.weak w⟩
theorem Fr.tab(fr:Fr K HZ F σ H ρ):uN K H:=fr.old.t.mono fr.same
theorem Fr.mono(fr:Fr K HZ F σ H ρ)(S:aM H H'):Fr K HZ F σ H' ρ:=⟨fr.len,λi s e=>(fr.sl i s e).mono S,fr.nd,fr.new,fr.same.trans S,fr.old⟩
theorem Fr.at_own(fr:Fr K HZ F σ H ρ){d:Dv}(h:Sl.own a d∈ρ):∃i:Nat,ρ[i]?=aa (.own a d)/\σ[i]?=aa (aa (.ref a))/\dR K (MM F ρ) H a d:=by
 obtain⟨i,e⟩:=px.mp h;have:=fr.sl i _ e;exact⟨i,e,this.1,this.2⟩
theorem Fr.dom(fr:Fr K HZ F σ H ρ)(m:MM F ρ a):H a≠ap:=by
 rcases m with m | ⟨d,m⟩
 ·intro e;exact fr.old.f a m (fr.same.free e)
 ·obtain⟨_,_,_,o⟩:=fr.at_own m;obtain⟨u,e,_⟩:=o.mut;rw[e];simp
theorem Fr.fresh(fr:Fr K HZ F σ H ρ)(e:H a=ap):¬MM F ρ a:=λm=>fr.dom m e
inductive R where
 |v (d:Dv)
 |ow (a:ae) (d:Dv)
 |nw (d:Dv)
noncomputable def R.d:R->Dv
 | .v d=>d
 | .ow _ d=>d
 | .nw d=>d
noncomputable def R.free:R->Bool
 | .ow _ _=>aj
 |_=>ah
noncomputable def wX(ρ:List Sl):ae->Dv->Prop:=λa d=>Sl.own a d∈ρ
noncomputable def zT:ae->Dv->Prop:=λ_ _=>False
noncomputable def dC(K:ai)(M:ae->Prop)(O:ae->Dv->Prop)(H:Hp)(x:V)(r:R)(H':Hp):Prop:=match r with
 | .v d=>Rep K M H' x d
 | .ow a d=>x=.ref a/\O a d/\dR K M H' a d
 | .nw d=>∃a,x=.ref a/\H a=ap/\dR K (λb=>M b \/ b=a) H' a d
noncomputable def cW(K:ai)(M:ae->Prop)(H:Hp)(x:V)(d:Dv):Prop:=Rep K M H x d \/ ∃a,x=.ref a/\dR K M H a d
section
variable {K:ai}{M M':ae->Prop}{O:ae->Dv->Prop}{H H' H'':Hp}{x:V}{r:R}
theorem dC.mono(h:dC K M O H x r H')(S:aM H' H''):dC K M O H x r H'':=by
 cases r with
 |v d=>exact Rep.mono S h
 |ow a d=>exact⟨h.1,h.2.1,h.2.2.mono S⟩
 |nw d=>obtain⟨a,e,n,o⟩:=h;exact⟨a,e,n,o.mono S⟩
theorem dC.ahead(h:dC K M O H1 x r H')(S:aM H H1):dC K M O H x r H':=by
 cases r with
 |v d=>exact h
 |ow a d=>exact h
 |nw d=>obtain⟨a,e,n,o⟩:=h;exact⟨a,e,S.free n,o⟩
theorem dC.c(h:dC K M O H x r H'):cW K M H' x r.d:=by
 cases r with
 |v d=>exact .inl h
 |ow a d=>exact .inr ⟨a,h.1,h.2.2⟩
 |nw d=>obtain⟨a,e,n,o⟩:=h;exact .inr ⟨a,e,o.weak λb z=>.inl z⟩
theorem dC.rep(h:dC K M O H x r H')(hM:∀a,M a->H a≠ap)(f:r.free=ah):Rep K M H' x r.d:=by
 cases r with
 |v d=>exact h
 |ow a d=>simp[R.free] at f
 |nw d=>
  obtain⟨a,e,n,o⟩:=h;subst e;exact(o.weak λb z=>.inl z).rep λz=>hM a z n
theorem cW.lst{ds:List Dv}(h:cW K M H x (.lst ds)):∃a xs,x=.ref a/\H a=aa (.lst xs)/\Reps K M H xs ds:=by
 rcases h with h | ⟨a,e,xs,h1,h2⟩
 ·cases h with
  |lst h1 _ h2=>exact⟨_,_,rfl,h1,h2⟩
 ·exact⟨a,xs,e,h1,h2⟩
theorem cW.tup{ds:List Dv}(h:cW K M H x (.tup ds)):∃a xs,x=.ref a/\H a=aa (.tup xs)/\Reps K M H xs ds:=by
 rcases h with h | ⟨a,e,o⟩
 ·cases h with
  |tup h1 h2=>exact⟨_,_,rfl,h1,h2⟩
 ·exact o.elim
theorem cW.int{i:Int}(h:cW K M H x (.int i)):x=.int i:=by
 rcases h with h | ⟨a,e,o⟩
 ·cases h;rfl
 ·exact o.elim
theorem cW.bl{b:Bool}(h:cW K M H x (.bl b)):x=.bl b:=by
 rcases h with h | ⟨a,e,o⟩
 ·cases h;rfl
 ·exact o.elim
theorem cW.non(h:cW K M H x .non):x=.non:=by
 rcases h with h | ⟨a,e,o⟩
 ·cases h;rfl
 ·exact o.elim
theorem cW.str{s:az}(h:cW K M H x (.str s)):x=.str s:=by
 rcases h with h | ⟨a,e,o⟩
 ·cases h;rfl
 ·exact o.elim
theorem cW.scr{ns:List Int}(h:cW K M H x (.scr ns)):∃a,x=.ref a/\IU K H a ns:=by
 rcases h with h | ⟨a,e,o⟩
 ·cases h with
  |scr h=>exact⟨_,rfl,h⟩
 ·exact o.elim
theorem cW.dik{ds:List (aY×Dv)}(h:cW K M H x (.dik ds)):∃a kvs,x=.ref a/\H a=aa (.dK kvs)/\RepK K M H kvs ds:=by
 rcases h with h | ⟨a,e,xs,h1,h2⟩
 ·cases h with
  |dik h1 _ h2=>exact⟨_,_,rfl,h1,h2⟩
 ·exact⟨a,xs,e,h1,h2⟩
theorem cW.dit{ds:List (List aY×Dv)}(h:cW K M H x (.dit ds)):∃a ep kvs,x=.ref a/\H a=aa (.dT ep kvs)/\RepT K M H kvs ds:=by
 rcases h with h | ⟨a,e,ep0,xs,h1,h2⟩
 ·cases h with
  |dit h1 _ h2=>exact⟨_,_,_,rfl,h1,h2⟩
 ·exact⟨a,ep0,xs,e,h1,h2⟩
theorem cW.obj{C:ae}{ds:List (az×Dv)}(h:cW K M H x (.obj C ds)):∃a dx fs,x=.ref a/\H a=aa (.ins C dx fs)/\RepF K M H fs ds:=by
 rcases h with h | ⟨a,e,dx,fs,h1,h2⟩
 ·cases h with
  |obj h1 _ h2=>exact⟨_,_,_,rfl,h1,h2⟩
 ·exact⟨a,dx,fs,e,h1,h2⟩
end
noncomputable abbrev cO:=List Sl->(R->Prop)->Prop
noncomputable abbrev lJ:=List Sl->(List R->Prop)->Prop
noncomputable abbrev jI:=List Sl->(Bool->Prop)->Prop
noncomputable def kI(K:ai)(M:ae->Prop)(O:ae->Dv->Prop)(H:Hp)(xs:List V)(rs:List R)(H':Hp):Prop:=Paired (λx r=>dC K M O H x r H') xs rs
noncomputable def uP(K:ai)(M:ae->Prop)(H:Hp):List V->List Dv->Prop:=Paired (cW K M H)
variable {O:ae->Dv->Prop}
theorem kI.ahead{xs:List V}{rs:List R}(h:kI K M O H1 xs rs H')(S:aM H H1):kI K M O H xs rs H':=Paired.mapP h λ_ _ q=>q.ahead S
theorem kI.c:∀{xs:List V} {rs:List R},kI K M O H xs rs H'->uP K M H' xs (rs.map R.d)
 |_,_,.nil=>.nil
 |_,_,.cons a t=>.cons a.c (kI.c t)
theorem kI.reps(hM:∀a,M a->H a≠ap):∀{xs:List V} {rs:List R},kI K M O H xs rs H'->rs.all R.free=ah->Reps K M H' xs (rs.map R.d)
 |_,_,.nil,_=>.nil
 |_,_,.cons a t,f=>by
  rw[tw,cw] at f;exact .cons (a.rep hM f.1) (kI.reps hM t f.2)
inductive lift(K:ai)(HZ:Hp)(F:ae->Prop)(t:cO)(σ:St)(H:Hp)(Q:VK):Prop
 |mk (ρ:List Sl) (fr:Fr K HZ F σ H ρ) (h:t ρ λr=>∀x H',aM H H'->dC K (MM F ρ) (wX ρ) H x r H'->Q x H')
inductive liftA(K:ai)(HZ:Hp)(F:ae->Prop)(t:lJ)(σ:St)(H:Hp)(Q:List V->Hp->Prop):Prop
 |mk (ρ:List Sl) (fr:Fr K HZ F σ H ρ) (h:t ρ λrs=>∀xs H',aM H H'->kI K (MM F ρ) (wX ρ) H xs rs H'->Q xs H')
inductive liftT(K:ai)(HZ:Hp)(F:ae->Prop)(t:jI)(σ:St)(H:Hp)(Q:Bool->Hp->Prop):Prop
 |mk (ρ:List Sl) (fr:Fr K HZ F σ H ρ) (h:t ρ λb=>∀H',aM H H'->Q b H')
structure QE(X:Cx)(e:Expr)(t:cO):Prop where
 mono:∀(ρ:List Sl) (Q Q':R->Prop),(∀r,Q r->Q' r)->t ρ Q->t ρ Q'
 run:∀(HZ:Hp) (F:ae->Prop),PE X e (lift X.K HZ F t)
structure QA(X:Cx)(es:List Expr)(t:lJ):Prop where
 mono:∀(ρ:List Sl) (Q Q':List R->Prop),(∀r,Q r->Q' r)->t ρ Q->t ρ Q'
 run:∀(HZ:Hp) (F:ae->Prop),PA X es (liftA X.K HZ F t)
structure QT(X:Cx)(e:Expr)(t:jI):Prop where
 mono:∀(ρ:List Sl) (Q Q':Bool->Prop),(∀r,Q r->Q' r)->t ρ Q->t ρ Q'
 run:∀(HZ:Hp) (F:ae->Prop),PT X e (liftT X.K HZ F t)
structure QW(X:Cx)(e:Expr)(t:jI):Prop where
 mono:∀(ρ:List Sl) (Q Q':Bool->Prop),(∀r,Q r->Q' r)->t ρ Q->t ρ Q'
 run:∀(HZ:Hp) (F:ae->Prop),PW X e (liftT X.K HZ F t)
variable {t':TT}{op:wp}{QN:List Expr}
section
variable {X:Cx}{a b e c:Expr}{es:List Expr}{ta tb te tc:cO}{ts:lJ}{pos:gv}
theorem c5{t t':TE}(h:PE X e t)(w:∀σ H Q,t' σ H Q->t σ H Q):PE X e t':=λpj s σ H Q I q=>h pj s σ H Q I (w σ H Q q)
theorem GK{t t':TA}(h:PA X es t)(w:∀σ H Q,t' σ H Q->t σ H Q):PA X es t':=λpos pj s σ H Q I q=>h pos pj s σ H Q I (w σ H Q q)
theorem wU{t:TT}(h:PT X e t)(w:∀σ H Q,t' σ H Q->t σ H Q):PT X e t':=λpj s σ H Q I q=>h pj s σ H Q I (w σ H Q q)
theorem GI{t:TT}(h:PW X e t)(w:∀σ H Q,t' σ H Q->t σ H Q):PW X e t':=λwh pj s σ H Q I q=>h wh pj s σ H Q I (w σ H Q q)
theorem QW.qt{t:jI}(h:QW X e t):QT X e t:=⟨h.mono,λHZ F=>(h.run HZ F).pt⟩
theorem QE.step{HZ:Hp}{F:ae->Prop}{σ:St}{H:Hp}{ρ:List Sl}{Q:R->Prop}{Q':VK}(h:QE X e te)(fr:Fr X.K HZ F σ H ρ)(q:te ρ Q)
  (k:∀r x H',Q r->aM H H'->dC X.K (MM F ρ) (wX ρ) H x r H'->Q' x H'):lift X.K HZ F te σ H Q':=⟨ρ,fr,h.mono _ _ _ (λr qr x H' S rx=>k r x H' qr S rx) q⟩
theorem QA.step{HZ:Hp}{F:ae->Prop}{σ:St}{H:Hp}{ρ:List Sl}{Q:List R->Prop}{Q':List V->Hp->Prop}(h:QA X es ts)(fr:Fr X.K HZ F σ H ρ)(q:ts ρ Q)
  (k:∀rs xs H',Q rs->aM H H'->kI X.K (MM F ρ) (wX ρ) H xs rs H'->Q' xs H'):liftA X.K HZ F ts σ H Q':=⟨ρ,fr,h.mono _ _ _ (λr qr x H' S rx=>k r x H' qr S rx) q⟩
theorem QT.step{t:jI}{HZ:Hp}{F:ae->Prop}{σ:St}{H:Hp}{ρ:List Sl}{Q:Bool->Prop}{Q':Bool->Hp->Prop}(h:QT X e t)(fr:Fr X.K HZ F σ H ρ)(q:t ρ Q)
  (k:∀b H',Q b->aM H H'->Q' b H'):liftT X.K HZ F t σ H Q':=⟨ρ,fr,h.mono _ _ _ (λr qr H' S=>k r H' qr S) q⟩
noncomputable def a8(i:Nat):cO:=λρ Q=>match ρ[i]? with
 |some (.v d)=>Q (.v d)
 |some (.own a d)=>Q (.ow a d)
 |_=>False
theorem a7(i:Nat)(h:PE X (.Name x pos) (uU i)):QE X (.Name x pos) (a8 i):=by
 refine⟨λρ Q Q' w h=>?_,λHZ F=>c5 h λσ H Q ⟨ρ,fr,q⟩=>?_⟩
 ·unfold a8 at *;split at h
  ·exact w _ h
  ·exact w _ h
  ·exact h
 ·unfold a8 at q;split at q
  ·rename_i d e;obtain⟨x,hx,r⟩:=fr.sl i _ e;exact⟨x,hx,q x H (aM.refl _) r⟩
  ·rename_i a d e;obtain⟨hx,r⟩:=fr.sl i _ e;exact⟨.ref a,hx,q _ H (aM.refl _) ⟨rfl,cq e,r⟩⟩
  ·exact q.elim
noncomputable def eC(d:Dv):cO:=λ_ Q=>Q (.v d)
theorem Lj{v:V}{d:Dv}(h:PE X e (tC v))(r:∀M H,Rep X.K M H v d):QE X e (eC d):=
 ⟨λ_ _ _ w q=>w _ q,λHZ F=>c5 h λσ H Q zq6=>by obtain⟨ρ,fr,q⟩:=zq6;exact q v H (aM.refl _) (r _ _)⟩
theorem aE{i j pos}:QE X (.Constant (.int i) j pos) (eC (.int i)):=Lj Jo λ_ _=>.int i
theorem gW{b j pos}:QE X (.Constant (.bool b) j pos) (eC (.bl b)):=Lj Ij λ_ _=>.bl b
theorem Ih{j pos}:QE X (.Constant .none j pos) (eC .non):=Lj EG λ_ _=>.non
theorem o0{x j pos}:QE X (.Constant (.str x) j pos) (eC (.str x)):=Lj Jk λ_ _=>.str x
theorem o4{n:Int}(hm:∃t,X.mg x=aa (.int n t))(hg:autoParam (Gl X x) c6._auto_1)(hd:autoParam ((x==("__debug__" : az))=aj) mQ._auto_1):QE X (.Name x pos) (eC (.int n)):=Lj (EJ hm hg hd) λ_ _=>.int n
noncomputable def aI:lJ:=λ_ Q=>Q []
noncomputable def a9(te:cO)(ts:lJ):lJ:=λρ Q=>te ρ λr=>ts ρ λrs=>Q (r::rs)
theorem aG:QA X [] aI:=⟨λ_ _ _ w q=>w _ q,λHZ F=>GK v9 λσ H Q zq0=>by obtain⟨ρ,fr,q⟩:=zq0;exact q [] H (aM.refl _) .nil⟩
theorem aA(ha:QE X e te)(hr:QA X es ts)(hs:autoParam (aw (e::es) X.env=(aj,em e X.env)::aw es X.env) c6._auto_1):QA X (e::es) (a9 te ts):=by
 refine⟨λρ Q Q' w h=>ha.mono _ _ _ (λr q=>hr.mono _ _ _ (λrs q=>w _ q) q) h,λHZ F=>GK (o6 (ha.run HZ F) (hr.run HZ F) hs) λσ H Q zz=>?_⟩;obtain⟨ρ,fr,q⟩:=zz;refine ha.step fr q λr x H1 q1 S1 r1=>?_;refine hr.step (fr.mono S1) q1 λrs xs H2 q2 S2 r2=>?_;exact q2 _ H2 (S1.trans S2) (.cons (r1.mono S2) (r2.ahead S1))
noncomputable def sX(X:Cx)(f:ac->ac->PF ac)(p:Dv->Dv->(R->Prop)->Prop):Prop:=
 (∀dx dy (Q Q':R->Prop),(∀r,Q r->Q' r)->p dx dy Q->p dx dy Q') /\ ∃r:R2,gR X f r /\ ∀(M:ae->Prop) (O:ae->Dv->Prop) (H:Hp) (x y:V) (dx dy:Dv) (Q:VK),cW X.K M H x dx->cW X.K M H y dy ->
  p dx dy (λrr=>∀z H',aM H H'->dC X.K M O H z rr H'->Q z H')->r x y H Q
noncomputable def aL(p:Dv->Dv->(R->Prop)->Prop)(ta tb:cO):cO:=λρ Q=>ta ρ λx=>tb ρ λy=>p x.d y.d Q
theorem qM{p:Dv->Dv->(R->Prop)->Prop}{r:R2}(ha:QE X a ta)(hb:QE X b tb) (hr:∀(M:ae->Prop) (O:ae->Dv->Prop) (H:Hp) (x y:V) (dx dy:Dv) (Q:VK),cW X.K M H x dx->cW X.K M H y dy ->
  p dx dy (λrr=>∀z H',aM H H'->dC X.K M O H z rr H'->Q z H')->r x y H Q) (mo:∀dx dy (Q Q':R->Prop),(∀r,Q r->Q' r)->p dx dy Q->p dx dy Q') (HZ:Hp) (F:ae->Prop) (σ:St) (H:Hp) (Q:VK)
  (h:lift X.K HZ F (aL p ta tb) σ H Q):LI r (lift X.K HZ F ta) (lift X.K HZ F tb) σ H Q:=by
 obtain⟨ρ,fr,q⟩:=h;refine ha.step fr q λrx x H1 q1 S1 r1=>?_;refine hb.step (fr.mono S1) q1 λry y H2 q2 S2 r2=>?_;refine hr (MM F ρ) (wX ρ) H2 x y _ _ Q (r1.mono S2).c r2.c (mo _ _ _ _ (λrr k z H' S rz=>?_) q2);exact k z H' ((S1.trans S2).trans S) (rz.ahead (S1.trans S2))
theorem oH{p:Dv->Dv->(R->Prop)->Prop}(ha:QE X a ta)(hb:QE X b tb)(mo:∀dx dy (Q Q':R->Prop),(∀r,Q r->Q' r)->p dx dy Q->p dx dy Q')(ρ:List Sl)(Q Q':R->Prop)(w:∀r,Q r->Q' r)(h:aL p ta tb ρ Q):aL p ta tb ρ Q':=
 ha.mono _ _ _ (λrx h=>hb.mono _ _ _ (λry h=>mo _ _ _ _ w h) h) h
theorem aR{op:Operator}{p:Dv->Dv->(R->Prop)->Prop}(ho:sX X (fu op) p)(ha:QE X a ta)(hb:QE X b tb):QE X (.BinOp a op b pos) (aL p ta tb):=by
 obtain⟨mo,r,hR,hr⟩:=ho;exact⟨oH ha hb mo,λHZ F=>c5 (Lo hR (ha.run HZ F) (hb.run HZ F)) (qM ha hb hr mo HZ F)⟩
theorem iB{p:Dv->Dv->(R->Prop)->Prop}(ho:sX X (bu op) p)(ha:QE X a ta)(hb:QE X b tb)(hm:autoParam (kg op b=aj) OP._auto_1):QE X (.Compare a [op] [b] pos) (aL p ta tb):=by
 obtain⟨mo,r,hR,hr⟩:=ho;exact⟨oH ha hb mo,λHZ F=>c5 (BD hR (ha.run HZ F) (hb.run HZ F) hm) (qM ha hb hr mo HZ F)⟩
noncomputable def aZ(te:cO):jI:=λρ Q=>te ρ λr=>match r.d with
 | .bl c=>Q c
 |_=>False
theorem sM(mo:∀(ρ:List Sl) (Q Q':R->Prop),(∀r,Q r->Q' r)->te ρ Q->te ρ Q')(ρ:List Sl)(Q Q':Bool->Prop)(w:∀r,Q r->Q' r)(h:aZ te ρ Q):aZ te ρ Q':=by
 refine mo _ _ _ (λr q=>?_) h;split at q
 ·exact w _ q
 ·exact q.elim
theorem Fz{Q:Bool->Hp->Prop}(mo:∀(ρ:List Sl) (Q Q':R->Prop),(∀r,Q r->Q' r)->te ρ Q->te ρ Q')(h:liftT X.K HZ F (aZ te) σ H Q):lift X.K HZ F te σ H λx H'=>∃k,x=.bl k/\Q k H':=by
 obtain⟨ρ,fr,q⟩:=h;refine⟨ρ,fr,mo _ _ _ (λr q x H' S rx=>?_) q⟩;split at q
 ·rename_i c e;have:=rx.c;rw[e] at this;exact⟨c,this.bl,q H' S⟩
 ·exact q.elim
theorem b6{p:Dv->Dv->(R->Prop)->Prop}(ho:sX X (bu op) p)(ha:QE X a ta)(hb:QE X b tb)(hm:autoParam (kg op b=aj) OP._auto_1):QT X (.Compare a [op] [b] pos) (aZ (aL p ta tb)):=by
 obtain⟨mo,r,hR,hr⟩:=ho;have m1:=oH ha hb mo;exact⟨sM m1,λHZ F=>wU (Gp hR (ha.run HZ F) (hb.run HZ F) hm) λσ H Q h=>qM ha hb hr mo HZ F σ H _ (Fz m1 h)⟩
noncomputable def z9(t u:jI):jI:=λρ Q=>t ρ λc=>if c=ah then u ρ Q else Q aj
noncomputable def zW(t u:jI):jI:=λρ Q=>t ρ λc=>if c=ah then Q ah else u ρ Q
noncomputable def fN(t:jI):jI:=λρ Q=>t ρ λc=>Q (!c)
theorem qG{t:jI}(h:QT X a t):QW X (.BoolOp .And [a] pos) t:=⟨h.mono,λHZ F=>Gh (h.run HZ F)⟩
theorem n5{t:jI}(h:QT X a t):QW X (.BoolOp .Or [a] pos) t:=⟨h.mono,λHZ F=>JV (h.run HZ F)⟩
theorem v3{t u:jI}(h:QT X a t)(k:QW X (.BoolOp .And (b::QN) pos) u):QW X (.BoolOp .And (a::b::QN) pos) (z9 t u):=by
 refine⟨λρ Q Q' w q=>h.mono _ _ _ (λc q=>?_) q,λHZ F=>GI (JW (h.run HZ F) (k.run HZ F)) λσ H Q ⟨ρ,fr,q⟩=>?_⟩
 ·split at q
  ·rw[QL ‹_›];exact k.mono _ _ _ w q
  ·rw[Qi ‹_›];exact w _ q
 ·refine h.step fr q λc H1 q1 S1=>?_;cases c with
  |true=>
   simp only[if_true] at q1;exact jB ⟨ρ,fr.mono S1,k.mono _ _ _ (λb q H' S=>q H' (S1.trans S)) q1⟩
  |false=>
   simp only[cv,if_false] at q1;exact jC (q1 H1 S1)
theorem kF{t u:jI}(h:QT X a t)(k:QW X (.BoolOp .Or (b::QN) pos) u):QW X (.BoolOp .Or (a::b::QN) pos) (zW t u):=by
 refine⟨λρ Q Q' w q=>h.mono _ _ _ (λc q=>?_) q,λHZ F=>GI (Lk (h.run HZ F) (k.run HZ F)) λσ H Q ⟨ρ,fr,q⟩=>?_⟩
 ·split at q
  ·rw[QL ‹_›];exact w _ q
  ·rw[Qi ‹_›];exact k.mono _ _ _ w q
 ·refine h.step fr q λc H1 q1 S1=>?_;cases c with
  |true=>
   simp only[if_true] at q1;exact jB (q1 H1 S1)
  |false=>
   simp only[cv,if_false] at q1;exact jC ⟨ρ,fr.mono S1,k.mono _ _ _ (λb q H' S=>q H' (S1.trans S)) q1⟩
theorem cU{t:jI}(h:QT X a t):QT X (.UnaryOp .Not a pos) (fN t):=
 ⟨λρ Q Q' w q=>h.mono _ _ _ (λc q=>w _ q) q,λHZ F=>wU (Ja (h.run HZ F)) λσ H Q zq1=>by obtain⟨ρ,fr,q⟩:=zq1;exact h.step fr q λc H1 q1 S1=>q1 H1 S1⟩
noncomputable def mO(ta tb:cO):cO:=λρ Q=>ta ρ λr=>match r.d with
 | .bl c=>if c=ah then tb ρ Q else Q (.v (.bl aj))
 |_=>False
noncomputable def IF(ta tb:cO):cO:=λρ Q=>ta ρ λr=>match r.d with
 | .bl c=>if c=ah then Q (.v (.bl ah)) else tb ρ Q
 |_=>False
noncomputable def z7(ta:cO):cO:=λρ Q=>ta ρ λr=>match r.d with
 | .bl c=>Q (.v (.bl (!c)))
 |_=>False
theorem pR{op}(h:QE X a ta):QE X (.BoolOp op [a] pos) ta:=⟨h.mono,λHZ F=>Jl (h.run HZ F)⟩
theorem rC(h:QE X a ta)(k:QE X (.BoolOp .And (b::QN) pos) tb):QE X (.BoolOp .And (a::b::QN) pos) (mO ta tb):=by
 refine⟨λρ Q Q' w q=>h.mono _ _ _ (λc q=>?_) q,λHZ F=>c5 (Jr (h.run HZ F) (k.run HZ F)) λσ H Q ⟨ρ,fr,q⟩=>?_⟩
 ·split at q
  ·split at q
   ·rw[QL ‹_›];exact k.mono _ _ _ w q
   ·rw[Qi ‹_›];exact w _ q
  ·exact q
 ·refine h.step fr q λr x H1 q1 S1 r1=>?_;split at q1
  ·rename_i c e;have rc:=r1.c;rw[e] at rc;refine⟨c,rc.bl,?_⟩;cases c with
   |true=>
    simp only[if_true] at q1;exact jB ⟨ρ,fr.mono S1,k.mono _ _ _ (λb q z H' S rz=>q z H' (S1.trans S) (rz.ahead S1)) q1⟩
   |false=>
    simp only[cv,if_false] at q1;exact jC (q1 _ H1 S1 (Rep.bl aj))
  ·exact q1.elim
theorem Ng(h:QE X a ta)(k:QE X (.BoolOp .Or (b::QN) pos) tb):QE X (.BoolOp .Or (a::b::QN) pos) (IF ta tb):=by
 refine⟨λρ Q Q' w q=>h.mono _ _ _ (λc q=>?_) q,λHZ F=>c5 (Ln (h.run HZ F) (k.run HZ F)) λσ H Q ⟨ρ,fr,q⟩=>?_⟩
 ·split at q
  ·split at q
   ·rw[QL ‹_›];exact w _ q
   ·rw[Qi ‹_›];exact k.mono _ _ _ w q
  ·exact q
 ·refine h.step fr q λr x H1 q1 S1 r1=>?_;split at q1
  ·rename_i c e;have rc:=r1.c;rw[e] at rc;refine⟨c,rc.bl,?_⟩;cases c with
   |true=>
    simp only[if_true] at q1;exact jB (q1 _ H1 S1 (Rep.bl ah))
   |false=>
    simp only[cv,if_false] at q1;exact jC ⟨ρ,fr.mono S1,k.mono _ _ _ (λb q z H' S rz=>q z H' (S1.trans S) (rz.ahead S1)) q1⟩
  ·exact q1.elim
theorem Ig(h:QE X a ta):QE X (.UnaryOp .Not a pos) (z7 ta):=by
 refine⟨λρ Q Q' w q=>h.mono _ _ _ (λc q=>?_) q,λHZ F=>c5 (Jm (h.run HZ F)) λσ H Q ⟨ρ,fr,q⟩=>?_⟩
 ·split at q
  ·exact w _ q
  ·exact q
 ·refine h.step fr q λr x H1 q1 S1 r1=>?_;split at q1
  ·rename_i c e;have rc:=r1.c;rw[e] at rc;exact⟨c,rc.bl,q1 _ H1 S1 (Rep.bl _)⟩
  ·exact q1.elim
noncomputable def J6(t:jI)(ta tb:cO):cO:=λρ Q=>t ρ λc=>if c=ah then ta ρ Q else tb ρ Q
theorem v5{t:jI}(hc:QT X c t)(ha:QE X a ta)(hb:QE X b tb):QE X (.IfExp c a b pos) (J6 t ta tb):=by
 refine⟨λρ Q Q' w q=>hc.mono _ _ _ (λc q=>?_) q,λHZ F=>c5 (EI (hc.run HZ F) (ha.run HZ F) (hb.run HZ F)) λσ H Q ⟨ρ,fr,q⟩=>?_⟩
 ·split at q
  ·rw[QL ‹_›];exact ha.mono _ _ _ w q
  ·rw[Qi ‹_›];exact hb.mono _ _ _ w q
 ·refine hc.step fr q λc H1 q1 S1=>?_;cases c with
  |true=>
   simp only[if_true] at q1;exact jB ⟨ρ,fr.mono S1,ha.mono _ _ _ (λb q z H' S rz=>q z H' (S1.trans S) (rz.ahead S1)) q1⟩
  |false=>
   simp only[cv,if_false] at q1;exact jC ⟨ρ,fr.mono S1,hb.mono _ _ _ (λb q z H' S rz=>q z H' (S1.trans S) (rz.ahead S1)) q1⟩
noncomputable def e9(ts:lJ):cO:=λρ Q=>ts ρ λrs=>rs.all R.free=ah/\rs.length<=1000/\Q (.v (.tup (rs.map R.d)))
noncomputable def jD(ts:lJ):cO:=λρ Q=>ts ρ λrs=>rs.all R.free=ah/\rs.length<=1000/\Q (.nw (.lst (rs.map R.d)))
theorem pQ(h:n<=1000):n<=ay:=vm (CH h)
theorem aM.new'{l:ae}(hl:H l=ap):aM H (upd H l o):=λb q e=>by rw[bB (bC e hl)];exact e
theorem d8{x1}(h:QA X es ts):QE X (.Tuple es x1 pos) (e9 ts):=by
 refine⟨λρ Q Q' w q=>h.mono _ _ _ (λrs q=>⟨q.1,q.2.1,w _ q.2.2⟩) q,λHZ F=>c5 (Jj (h.run HZ F)) λσ H Q zz=>?_⟩;obtain⟨ρ,fr,q⟩:=zz;refine h.step fr q λrs xs H1 ⟨q1,q2,q3⟩ S1 r1=>?_;have hl:xs.length=rs.length:=Paired.length r1;refine⟨pQ ⋯,λp hp=>q3 _ _ (S1.trans (aM.new' hp)) ?_⟩;exact .tup bO ((r1.reps (λa m=>fr.dom m) q1).mono (aM.new' hp))
theorem hX(h:QA X es ts):QE X (.List es pos) (jD ts):=by
 refine⟨λρ Q Q' w q=>h.mono _ _ _ (λrs q=>⟨q.1,q.2.1,w _ q.2.2⟩) q,λHZ F=>c5 (Jn (h.run HZ F)) λσ H Q zz=>?_⟩;obtain⟨ρ,fr,q⟩:=zz;refine h.step fr q λrs xs H1 ⟨q1,q2,q3⟩ S1 r1=>?_;have hl:xs.length=rs.length:=Paired.length r1;refine⟨pQ ⋯,λp hp=>q3 _ _ (S1.trans (aM.new' hp)) ?_⟩;exact⟨p,rfl,S1.free hp,xs,bO,((r1.reps (λa m=>fr.dom m) q1).gen (.fresh hp)).mono (aM.new' hp)⟩
end
noncomputable abbrev tQ:Nat:=1000000
theorem gK(h:n<=tQ):n<=ay:=fo h (by rw[io];decide)
theorem jX{p:ae}{xs:List V}(hp:H p=ap)(r:Reps K M H xs ds):dC K M O H (.ref p) (.nw (.lst ds)) (upd H p (.lst xs)):=⟨p,rfl,hp,xs,bO,(r.gen (.fresh hp)).mono (aM.new' hp)⟩
theorem DZ{p:ae}{xs:List V}(hp:H p=ap)(r:Reps K M H xs ds):dC K M O H (.ref p) (.v (.tup ds)) (upd H p (.tup xs)):=Rep.tup bO (r.mono (aM.new' hp))
noncomputable def dQ:Dv->Dv->(R->Prop)->Prop
 | .int i,.int j,Q=>Q (.v (.int (i+j)))
 | .lst xs,.lst ys,Q=>xs.length+ys.length<=tQ/\Q (.nw (.lst (xs++ys)))
 | .str x,.str y,Q=>x.length+y.length<=tQ/\Q (.v (.str (x++y)))
 |_,_,_=>False
noncomputable def gY:Dv->Dv->(R->Prop)->Prop
 | .int i,.int j,Q=>Q (.v (.int (i-j)))
 |_,_,_=>False
noncomputable def oP(i j:Int):Prop:=LA i j \/ (i.natAbs<2 ^ 4000/\j.natAbs<2 ^ 4000)
noncomputable def cG:Dv->Dv->(R->Prop)->Prop
 | .int i,.int j,Q=>oP i j/\Q (.v (.int (i*j)))
 | .lst xs,.int k,Q=>(-(2 ^ 63)<=k/\k<2 ^ 63/\xs.length*k.toNat<=tQ)/\Q (.nw (.lst (au k.toNat xs).flatten))
 |_,_,_=>False
noncomputable def kJ:Dv->Dv->(R->Prop)->Prop
 | .int i,.int j,Q=>(0<j/\j<2 ^ 200)/\Q (.v (.int (i / j)))
 |_,_,_=>False
noncomputable def Lz:Dv->Dv->(R->Prop)->Prop
 | .int i,.int j,Q=>(j≠0/\j.natAbs<2 ^ 4000)/\Q (.v (.int (i.fdiv j)))
 |_,_,_=>False
noncomputable def fY:Dv->Dv->(R->Prop)->Prop
 | .int i,.int j,Q=>0<j/\Q (.v (.int (i % j)))
 |_,_,_=>False
noncomputable def Ni:Dv->Dv->(R->Prop)->Prop
 | .int i,.int j,Q=>IW i j/\Q (.v (.int (i ^ j.toNat)))
 |_,_,_=>False
variable {f:Int->Int->Bool}
theorem Ck:∀dx dy (Q Q':R->Prop),(∀r,Q r->Q' r)->dQ dx dy Q->dQ dx dy Q':=by
 intro dx dy Q Q' w h;unfold dQ at h;split at h
 ·exact w _ h
 ·exact⟨h.1,w _ h.2⟩
 ·exact⟨h.1,w _ h.2⟩
 ·exact h.elim
theorem c7:sX X (fu .Add) dQ:=by
 refine⟨Ck,_,KF.or (KC.or AQ),λM O H x y dx dy Q cx cy h=>?_⟩;unfold dQ at h;split at h
 ·obtain rfl:=cx.int;obtain rfl:=cy.int;exact .inl ⟨_,_,rfl,rfl,h _ H (aM.refl _) (Rep.int _)⟩
 ·obtain⟨a,xs,rfl,ea,ra⟩:=cx.lst;obtain⟨b,ys,rfl,eb,rb⟩:=cy.lst;have l1:=ra.length;have l2:=rb.length;exact .inr (.inl ⟨a,b,xs,ys,rfl,rfl,ea,eb,gK ⋯,λp hp=>h.2 _ _ (aM.new' hp) (jX hp (ra.append rb))⟩)
 ·obtain rfl:=cx.str;obtain rfl:=cy.str;exact .inr (.inr ⟨_,_,rfl,rfl,gK h.1,h.2 _ H (aM.refl _) (Rep.str _)⟩)
 ·exact h.elim
theorem Cf:∀dx dy (Q Q':R->Prop),(∀r,Q r->Q' r)->gY dx dy Q->gY dx dy Q':=by
 intro dx dy Q Q' w h;unfold gY at h;split at h
 ·exact w _ h
 ·exact h.elim
theorem e7:sX X (fu .Sub) gY:=by
 refine⟨Cf,_,Jx,λM O H x y dx dy Q cx cy h=>?_⟩;unfold gY at h;split at h
 ·obtain rfl:=cx.int;obtain rfl:=cy.int;exact⟨_,_,rfl,rfl,h _ H (aM.refl _) (Rep.int _)⟩
 ·exact h.elim
theorem oP.ok{i j:Int}(h:oP i j):IntMulOk i j:=by
 rcases h with h | ⟨h1,h2⟩
 ·exact h.ok
 ·have key:∀{z:Int},z.natAbs<2 ^ 4000->wm z<=2 ^ 20:=λ{z} hz=>by
   have hl:z.natAbs≠0->z.natAbs.log2<4000:=λh0=>(Qj h0).mpr hz;clear hz h1 h2;unfold wm;by_cases h0:z=0
   ·simp[h0]
   ·have:=hl ⋯;simp[h0];right
  exact IntMulOk.of_bits (key h1) (key h2)
theorem HI:gR X (fu .Mult) (rI oP λi j=>.int (i*j)):=N7 λ_ _ _ _ _ _ _ hc q=>mul_int q hc.ok
theorem Cg:∀dx dy (Q Q':R->Prop),(∀r,Q r->Q' r)->cG dx dy Q->cG dx dy Q':=by
 intro dx dy Q Q' w h;unfold cG at h;split at h
 ·exact⟨h.1,w _ h.2⟩
 ·exact⟨h.1,w _ h.2⟩
 ·exact h.elim
theorem aV:sX X (fu .Mult) cG:=by
 refine⟨Cg,_,HI.or Jy,λM O H x y dx dy Q cx cy h=>?_⟩;unfold cG at h;split at h
 ·obtain rfl:=cx.int;obtain rfl:=cy.int;exact .inl ⟨_,_,rfl,rfl,h.1,h.2 _ H (aM.refl _) (Rep.int _)⟩
 ·obtain⟨a,xs,rfl,ea,ra⟩:=cx.lst;obtain rfl:=cy.int;have l1:=ra.length;exact .inr ⟨a,_,xs,rfl,rfl,ea,h.1.1,h.1.2.1,gK (by rw[l1];exact h.1.2.2),λp hp=>h.2 _ _ (aM.new' hp) (jX hp (ra.repl _))⟩
 ·exact h.elim
theorem Cj:∀dx dy (Q Q':R->Prop),(∀r,Q r->Q' r)->kJ dx dy Q->kJ dx dy Q':=by
 intro dx dy Q Q' w h;unfold kJ at h;split at h
 ·exact⟨h.1,w _ h.2⟩
 ·exact h.elim
theorem fI:sX X (fu .FloorDiv) kJ:=by
 refine⟨Cj,_,Er,λM O H x y dx dy Q cx cy h=>?_⟩;unfold kJ at h;split at h
 ·obtain rfl:=cx.int;obtain rfl:=cy.int;exact⟨_,_,rfl,rfl,h.1,h.2 _ H (aM.refl _) (Rep.int _)⟩
 ·exact h.elim
theorem Ch:∀dx dy (Q Q':R->Prop),(∀r,Q r->Q' r)->fY dx dy Q->fY dx dy Q':=by
 intro dx dy Q Q' w h;unfold fY at h;split at h
 ·exact⟨h.1,w _ h.2⟩
 ·exact h.elim
theorem cX:sX X (fu .Mod) fY:=by
 refine⟨Ch,_,K2,λM O H x y dx dy Q cx cy h=>?_⟩;unfold fY at h;split at h
 ·obtain rfl:=cx.int;obtain rfl:=cy.int;exact⟨_,_,rfl,rfl,h.1,h.2 _ H (aM.refl _) (Rep.int _)⟩
 ·exact h.elim
noncomputable def vY(ta:cO):cO:=λρ Q=>ta ρ λr=>match r.d with
 | .int i=>Q (.v (.int (-i)))
 |_=>False
theorem B6{a:Expr}{ta:cO}(h:QE X a ta):QE X (.UnaryOp .USub a pos) (vY ta):=by
 refine⟨λρ Q Q' w q=>h.mono _ _ _ (λc q=>?_) q,λHZ F=>c5 (Lm JH (h.run HZ F)) λσ H Q ⟨ρ,fr,q⟩=>?_⟩
 ·split at q
  ·exact w _ q
  ·exact q
 ·refine h.step fr q λr x H1 q1 S1 r1=>?_;split at q1
  ·rename_i i e;have rc:=r1.c;rw[e] at rc;exact⟨i,rc.int,q1 _ H1 S1 (Rep.int _)⟩
  ·exact q1.elim
noncomputable def tZ(f:Int->Int->Bool):Dv->Dv->(R->Prop)->Prop
 | .int i,.int j,Q=>Q (.v (.bl (f i j)))
 |_,_,_=>False
theorem rK:∀dx dy (Q Q':R->Prop),(∀r,Q r->Q' r)->tZ f dx dy Q->tZ f dx dy Q':=by
 intro dx dy Q Q' w h;unfold tZ at h;split at h
 ·exact w _ h
 ·exact h.elim
theorem vF{g:ac->ac->PF ac}(h:gR X g (wV λi j=>.bl (f i j))):sX X g (tZ f):=by
 refine⟨rK,_,h,λM O H x y dx dy Q cx cy h=>?_⟩;unfold tZ at h;split at h
 ·obtain rfl:=cx.int;obtain rfl:=cy.int;exact⟨_,_,rfl,rfl,h _ H (aM.refl _) (Rep.bl _)⟩
 ·exact h.elim
noncomputable abbrev Ip:=tZ λi j=>decide (i<j)
noncomputable abbrev HE:=tZ λi j=>decide (i<=j)
noncomputable abbrev Jw:=tZ λi j=>decide (j<i)
noncomputable abbrev N6:=tZ λi j=>decide (j<=i)
theorem nA:sX X (bu .Lt) Ip:=vF Ep
theorem pC:sX X (bu .LtE) HE:=vF Bd
theorem rM:sX X (bu .Gt) Jw:=vF M0
theorem AO:sX X (bu .GtE) N6:=vF M1
noncomputable def pJ(p p':Dv->Dv->(R->Prop)->Prop)(ta tb tc:cO):cO:=λρ Q=>ta ρ λx=>tb ρ λy=>p x.d y.d λz=>match z.d with
 | .bl k=>if k=ah then tc ρ λw=>p' y.d w.d Q else Q (.v (.bl aj))
 |_=>False
noncomputable def isN:Dv->Bool
 | .non=>ah
 |_=>aj
noncomputable def Ci:Dv->Dv->(R->Prop)->Prop
 |d,.non,Q=>Q (.v (.bl (isN d)))
 |_,_,_=>False
noncomputable def Lr:Dv->Dv->(R->Prop)->Prop
 |d,.non,Q=>Q (.v (.bl (!isN d)))
 |_,_,_=>False
theorem cW.non_iff{x:V}{d:Dv}(h:cW K M H x d):decide (x=.non)=isN d:=by
 rcases h with h | ⟨a,rfl,o⟩
 ·cases h<;>simp[isN]
 ·cases d<;>first | exact o.elim | simp[isN]
theorem HG:sX X (bu .Is) Ci:=by
 refine⟨λdx dy Q Q' w h=>?_,_,K3,λM O H x y dx dy Q cx cy h=>?_⟩
 ·unfold Ci at h;split at h
  ·exact w _ h
  ·exact h.elim
 ·unfold Ci at h;split at h
  ·refine⟨cy.non,?_⟩;rw[cx.non_iff];exact h _ H (aM.refl _) (Rep.bl _)
  ·exact h.elim
noncomputable def gJ:Dv->PZ
 | .non=>.none
 | .bl b=>.bool b
 | .int i=>.int i
 | .str x=>.str x
 | .tup xs=>.tuple (pyDs xs)
 | .lst xs=>.list (pyDs xs)
 | .scr ns=>.list (ns.map .int)
 |_=>.dict []
where pyDs:List Dv->List PZ
 | []=>[]
 |d::r=>gJ d::pyDs r
noncomputable abbrev pyDs:=gJ.pyDs
noncomputable def cJ:Nat->Dv->Bool
 |_,.non=>ah
 |_,.bl _=>ah
 |_,.int _=>ah
 |_,.str x=>PyData.strOk x
 |n+1,.tup xs=>okDs n xs
 |n+1,.lst xs=>okDs n xs
 |_+1,.scr _=>ah
 |_,_=>aj
where okDs:Nat->List Dv->Bool
 |_,[]=>ah
 |n,d::r=>cJ n d&&okDs n r
noncomputable abbrev okDs:=cJ.okDs
noncomputable def eqD(a b:Dv):Bool:=jq (gJ a) (gJ b)
theorem zP(ns:List Int):ji (ns.map .int)=ah:=by
 induction ns with
 |nil=>rfl
 |cons n r ih=>rw[cb,ji,ih];rfl
theorem Am(ns:List Int):ij (ns.map .int)=0:=by
 induction ns with
 |nil=>rfl
 |cons n r ih=>rw[cb,ij,ih];rfl
mutual
theorem lS:∀(n:Nat) (d:Dv),cJ n d=ah->(gJ d).canLay0=ah/\(gJ d).depth<=n
 |_,.non,_=>⟨by simp[gJ,jv],by simp[gJ,PyData.depth]⟩
 |_,.bl _,_=>⟨by simp[gJ,jv],by simp[gJ,PyData.depth]⟩
 |_,.int _,_=>⟨by simp[gJ,jv],by simp[gJ,PyData.depth]⟩
 |_,.str x,h=>⟨by rw[gJ,jv];cases ‹Nat›<;>simpa [cJ] using h,by simp[gJ,PyData.depth]⟩
 |0,.tup _,h=>by simp[cJ] at h
 |0,.lst _,h=>by simp[cJ] at h
 |0,.scr _,h=>by simp[cJ] at h
 |n+1,.tup xs,h=>by
  have:=rN n xs (by rw[cJ] at h;exact h);exact⟨by rw[gJ,jv];exact this.1,by rw[gJ,PyData.depth];have h2:ij (gJ.pyDs xs)<=n:=this.2;right⟩
 |n+1,.lst xs,h=>by
  have:=rN n xs (by rw[cJ] at h;exact h);exact⟨by rw[gJ,jv];exact this.1,by rw[gJ,PyData.depth];have h2:ij (gJ.pyDs xs)<=n:=this.2;right⟩
 |n+1,.scr ns,_=>⟨by rw[gJ,jv];exact zP ns,by rw[gJ,PyData.depth,Am];right⟩
 |0,.dik _,h=>by simp[cJ] at h
 |0,.dit _,h=>by simp[cJ] at h
 |0,.obj _ _,h=>by simp[cJ] at h
 |0,.exc _ _,h=>by simp[cJ] at h
 |_+1,.exc _ _,h=>by simp[cJ] at h
 |0,.dns _,h=>by simp[cJ] at h
 |_+1,.dns _,h=>by simp[cJ] at h
 |_+1,.dik _,h=>by simp[cJ] at h
 |_+1,.dit _,h=>by simp[cJ] at h
 |_+1,.obj _ _,h=>by simp[cJ] at h
theorem rN:∀(n:Nat) (ds:List Dv),okDs n ds=ah->ji (pyDs ds)=ah/\ij (pyDs ds)<=n
 |_,[],_=>⟨by simp[gJ.pyDs,ji],by simp[gJ.pyDs,ij]⟩
 |n,d::r,h=>by
  have h':(cJ n d&&okDs n r)=ah:=h;rw[cw] at h';have h1:=lS n d h'.1;have h2:=rN n r h'.2;refine⟨by show ji (gJ d::pyDs r)=ah;rw[ji,h1.1,h2.1];rfl,?_⟩;show ij (gJ d::pyDs r)<=n;rw[ij];right
end
theorem g8{d:Dv}(h:cJ n d=ah)(hn:n<=64):Q1 (gJ d)=ah:=by
 obtain⟨h1,h2⟩:=lS n d h;unfold Q1;rw[h1,decide_eq_true ⋯];rfl
theorem sE{h:ca}:∀{ns:List Int} {us:List ac},bF (ns.map V.int) us -> ∃as,Po h us (ns.map PyData.int) as
 | [],_,.nil=>⟨_,.nil⟩
 |n::r,_,.cons a t=>by
  obtain⟨tk,rfl⟩:=a;obtain⟨as,q⟩:=sE (h:=h) t;exact⟨_,.cons (.int n tk) q⟩
theorem qH{d:Dv}(f:okDs n (d::ds)=ah):cJ n d=ah/\okDs n ds=ah:=by
 have f':(cJ n d&&okDs n ds)=ah:=f;rwa[cw] at f'
theorem Rep.reads(I:Inv X pj σ H s){x:V}{d:Dv}(q:Rep X.K M H x d)(ok:cJ n d=ah)(r:bX x u):∃as,PM s.heap u (gJ d) as:=by
 refine Rep.rec (motive_1:=λx d _=>∀n u,cJ n d=ah->bX x u -> ∃as,PM s.heap u (gJ d) as) (motive_2:=λxs ds _=>∀n us,okDs n ds=ah->bF xs us -> ∃as,Po s.heap us (pyDs ds) as) (motive_3:=λ_ _ _=>True) (motive_4:=λ_ _ _=>True) (motive_5:=λ_ _ _=>True)
  (λn u _ r=>by cases r;exact⟨_,.none⟩) (λb n u _ r=>by cases r;exact⟨_,.bool b⟩) (λi n u _ r=>by obtain⟨t,rfl⟩:=r;exact⟨_,.int i t⟩) (λy n u _ r=>by obtain⟨t,rfl⟩:=r;exact⟨_,.str y t⟩) ?tup ?lst ?dik ?dit ?obj ?scr ?exc ?dns ?nil ?cons
  trivial (λ_ _ _ _=>trivial) trivial (λ_ _ _ _=>trivial) trivial (λ_ _ _ _=>trivial) q n u ok r
 case tup=>
  intro a xs ds e _ ih n u ok r;cases n with
  |zero=>simp[cJ] at ok
  |succ n=>
   cases r;obtain⟨_,its,rv,o,ho,hc,m,hd⟩:=I.hok _ _ e;obtain⟨as,ra⟩:=ih n its (by rw[cJ] at ok;exact ok) rv;exact⟨_,.tuple ho hc hd ra⟩
 case lst=>
  intro a xs ds e _ _ ih n u ok r;cases n with
  |zero=>simp[cJ] at ok
  |succ n=>
   cases r;obtain⟨_,its,m,rv,ho⟩:=I.hok _ _ e;obtain⟨as,ra⟩:=ih n its (by rw[cJ] at ok;exact ok) rv;exact⟨_,.list ho rfl rfl ra⟩
 case dik=>intro a xs ds _ _ _ _ n u ok;cases n<;>simp[cJ] at ok
 case dit=>intro a ep xs ds _ _ _ _ n u ok;cases n<;>simp[cJ] at ok
 case obj=>intro a C dx xs ds _ _ _ _ n u ok;cases n<;>simp[cJ] at ok
 case scr=>
  intro a ns e n u _ r;cases r;obtain⟨its,rv,pl,_⟩:=I.list e.sq;obtain⟨o,ho,hc,m,hd⟩:=pl.isList;obtain⟨as,ra⟩:=sE (h:=s.heap) rv;exact⟨_,.list ho hc hd (by simpa using ra)⟩
 case exc=>intro a C p _ n u ok;cases n<;>simp[cJ] at ok
 case dns=>intro a ks _ _ n u ok;cases n<;>simp[cJ] at ok
 case nil=>intro n us _ r;cases r;exact⟨_,.nil⟩
 case cons=>
  intro x d xs ds _ _ i1 i2 n us ok r;cases r with
  |cons r1 r2=>
   obtain⟨as,ra⟩:=i1 n _ (qH ok).1 r1;obtain⟨bs,rb⟩:=i2 n _ (qH ok).2 r2;exact⟨_,.cons ra rb⟩
theorem Reps.reads(I:Inv X pj σ H s){n:Nat}{xs:List V}{ds:List Dv}{us:List ac}(q:Reps X.K M H xs ds)(ok:okDs n ds=ah)(r:bF xs us):∃as,Po s.heap us (pyDs ds) as:=
 q.ind (P:=λxs ds=>∀us,okDs n ds=ah->bF xs us -> ∃as,Po s.heap us (pyDs ds) as) (λus _ r=>by cases r;exact⟨_,.nil⟩) (λx d xs ds a _ ih us ok r=>by
  cases r with
  |cons r1 r2=>
   obtain⟨as,ra⟩:=a.reads I (qH ok).1 r1;obtain⟨bs,rb⟩:=ih _ (qH ok).2 r2;exact⟨_,.cons ra rb⟩) us ok r
theorem cW.reads(I:Inv X pj σ H s){n:Nat}{x:V}{d:Dv}{u:ac}(c:cW X.K M H x d)(ok:cJ n d=ah)(r:bX x u):∃as,PM s.heap u (gJ d) as:=by
 rcases c with c | ⟨a,rfl,o⟩
 ·exact c.reads I ok r
 ·cases d with
  |lst ds=>
   obtain⟨xs,e,q⟩:=o;cases r;cases n with
   |zero=>simp[cJ] at ok
   |succ n=>
    obtain⟨_,its,m,rv,ho⟩:=I.hok _ _ e;obtain⟨as,ra⟩:=Reps.reads I q (by rw[cJ] at ok;exact ok) rv;exact⟨_,.list ho rfl rfl ra⟩
  |dik _=>cases n<;>simp[cJ] at ok
  |dit _=>cases n<;>simp[cJ] at ok
  |obj _ _=>cases n<;>simp[cJ] at ok
  |dns _=>cases n<;>simp[cJ] at ok
  |_=>exact o.elim
noncomputable def oB:Dv->Dv->(R->Prop)->Prop
 | .int i,.int j,Q=>Q (.v (.bl (decide (i=j))))
 |dx,dy,Q=>(cJ 8 dx=ah/\cJ 8 dy=ah)/\Q (.v (.bl (eqD dx dy)))
noncomputable def sZ:Dv->Dv->(R->Prop)->Prop
 | .int i,.int j,Q=>Q (.v (.bl (!decide (i=j))))
 |dx,dy,Q=>(cJ 8 dx=ah/\cJ 8 dy=ah)/\Q (.v (.bl (!eqD dx dy)))
noncomputable def Nc(K:ai):R2:=λx y H Q=>∃M dx dy,cW K M H x dx/\cW K M H y dy/\cJ 8 dx=ah/\cJ 8 dy=ah/\Q (.bl (eqD dx dy)) H
noncomputable def NY(K:ai):R2:=λx y H Q=>∃M dx dy,cW K M H x dx/\cW K M H y dy/\cJ 8 dx=ah/\cJ 8 dy=ah/\Q (.bl (!eqD dx dy)) H
theorem KB(hu:X.A.units+64<gy):gR X (bu .Eq) (Nc X.K):=by
 intro pj s σ H x y v u Q I rx ry h;obtain⟨M,dx,dy,r1,r2,o1,o2,q⟩:=h;obtain⟨as,ra⟩:=r1.reads I o1 rx;obtain⟨bs,rb⟩:=r2.reads I o2 ry;exact SeqAt.compareEq_shaped ra rb (g8 o1 ∅) (g8 o2 ∅) hu ⟨.bl _,H,I,rfl,q⟩
theorem Jz(hu:X.A.units+64<gy):gR X (bu .NotEq) (NY X.K):=by
 intro pj s σ H x y v u Q I rx ry h;obtain⟨M,dx,dy,r1,r2,o1,o2,q⟩:=h;obtain⟨as,ra⟩:=r1.reads I o1 rx;obtain⟨bs,rb⟩:=r2.reads I o2 ry;exact SeqAt.compareNe_shaped ra rb (g8 o1 ∅) (g8 o2 ∅) hu ⟨.bl _,H,I,rfl,q⟩
theorem oG(i j:Int):eqD (.int i) (.int j)=decide (i=j):=by
 show jq (.int i) (.int j)=_;rw[jq];exact Bool.beq_eq_decide_eq i j
theorem eA(hu:X.A.units+64<gy):sX X (bu .Eq) oB:=by
 refine⟨λdx dy Q Q' w h=>?_,_,KB hu,λM O H x y dx dy Q cx cy h=>?_⟩
 ·unfold oB at *;split at h
  ·exact w _ h
  ·exact⟨h.1,w _ h.2⟩
 ·unfold oB at h;split at h
  ·refine⟨M,_,_,cx,cy,by simp[cJ],by simp[cJ],?_⟩;rw[oG];exact h _ H (aM.refl _) (Rep.bl _)
  ·exact⟨M,_,_,cx,cy,h.1.1,h.1.2,h.2 _ H (aM.refl _) (Rep.bl _)⟩
theorem i3(hu:X.A.units+64<gy):sX X (bu .NotEq) sZ:=by
 refine⟨λdx dy Q Q' w h=>?_,_,Jz hu,λM O H x y dx dy Q cx cy h=>?_⟩
 ·unfold sZ at *;split at h
  ·exact w _ h
  ·exact⟨h.1,w _ h.2⟩
 ·unfold sZ at h;split at h
  ·refine⟨M,_,_,cx,cy,by simp[cJ],by simp[cJ],?_⟩;rw[oG];exact h _ H (aM.refl _) (Rep.bl _)
  ·exact⟨M,_,_,cx,cy,h.1.1,h.1.2,h.2 _ H (aM.refl _) (Rep.bl _)⟩
structure En where
 nx:List Sl->Prop
 rt:R->Prop
 bk:List Sl->Prop:=λ_=>False
 ct:List Sl->Prop:=λ_=>False
noncomputable abbrev bV:=En->List Sl->Prop
structure EnLe(E E':En):Prop where
 nx:∀ρ,E.nx ρ->E'.nx ρ
 rt:∀r,E.rt r->E'.rt r
 bk:∀ρ,E.bk ρ->E'.bk ρ
 ct:∀ρ,E.ct ρ->E'.ct ρ
structure Ent(K:ai)(HZ:Hp)(F:ae->Prop)(E:En)(D:Ends):Prop where
 nx:∀ρ σ H,Fr K HZ F σ H ρ->E.nx ρ->D.nx σ H
 bk:∀ρ σ H,Fr K HZ F σ H ρ->E.bk ρ->D.bk σ H
 ct:∀ρ σ H,Fr K HZ F σ H ρ->E.ct ρ->D.ct σ H
 rt:∀r x H,aM HZ H->dC K F zT HZ x r H->E.rt r->D.rt x H
inductive liftS(K:ai)(HZ:Hp)(F:ae->Prop)(t:bV)(D:Ends)(σ:St)(H:Hp):Prop
 |mk (ρ:List Sl) (E:En) (fr:Fr K HZ F σ H ρ) (h:t E ρ) (en:Ent K HZ F E D)
structure QS(X:Cx)(st:iq)(t:bV):Prop where
 mono:∀E E' ρ,EnLe E E'->t E ρ->t E' ρ
 run:∀(HZ:Hp) (F:ae->Prop),PS X st (liftS X.K HZ F t)
structure QSs(X:Cx)(sts:List iq)(t:bV):Prop where
 mono:∀E E' ρ,EnLe E E'->t E ρ->t E' ρ
 run:∀(HZ:Hp) (F:ae->Prop),uO X sts (liftS X.K HZ F t)
variable {E:En}{te:cO}{sts:List iq}
section
variable {st:iq}{t u:bV}{c:Expr}
theorem eJ{t t':TS}(h:PS X st t)(w:∀D σ H,t' D σ H->t D σ H):PS X st t':=λpj s σ H D I q=>h pj s σ H D I (w D σ H q)
theorem C8{t t':TS}(h:uO X sts t)(w:∀D σ H,t' D σ H->t D σ H):uO X sts t':=λpj s σ H D I q=>h pj s σ H D I (w D σ H q)
noncomputable def bD:bV:=λE ρ=>E.nx ρ
noncomputable def aN(t u:bV):bV:=λE ρ=>t { E with nx:=u E } ρ
theorem b7:QSs X [] bD:=⟨λE E' ρ w h=>w.nx _ h,λHZ F=>C8 Gr λD σ H zq2=>by obtain⟨ρ,E,fr,h,en⟩:=zq2;exact en.nx _ _ _ fr h⟩
theorem EnLe.with_nx{E':En}{a b:List Sl->Prop}(w:EnLe E E')(h:∀ρ,a ρ->b ρ):EnLe { E with nx:=a } { E' with nx:=b }:=⟨h,w.rt,w.bk,w.ct⟩
theorem aB(h1:QS X st t)(h2:QSs X sts u):QSs X (st::sts) (aN t u):=by
 refine⟨λE E' ρ w h=>h1.mono _ _ _ (w.with_nx λρ h=>h2.mono _ _ _ w h) h,λHZ F=>C8 (E9 (h1.run HZ F) (h2.run HZ F)) λD σ H zz=>?_⟩;obtain⟨ρ,E,fr,h,en⟩:=zz;exact⟨ρ,_,fr,h,λρ' σ' H' fr' h'=>⟨ρ',E,fr',h',en⟩,en.bk,en.ct,en.rt⟩
theorem aF(h1:QS X st t):QSs X [st] t:=⟨h1.mono,λHZ F=>Gq (h1.run HZ F)⟩
noncomputable def Du:bV:=λE ρ=>E.bk ρ
noncomputable def Ic:bV:=λE ρ=>E.ct ρ
noncomputable def gO:bV:=λ_ _=>False
theorem gU:QS X st gO:=⟨λ_ _ _ _ h=>h,λHZ F=>eJ EB λD σ H zq3=>by obtain⟨ρ,E,fr,h,en⟩:=zq3;exact h⟩
noncomputable def xK(te:cO):bV:=λE ρ=>te ρ λ_=>E.nx ρ
theorem E1(he:QE X e te)(hs:autoParam (gk e ap pos.line X.env=gc aj) c6._auto_1):QS X (.Expr e pos) (xK te):=
 ⟨λE E' ρ w h=>he.mono _ _ _ (λ_ q=>w.nx _ q) h,λHZ F=>eJ (v7 (he.run HZ F) hs) λD σ H zq4=>by obtain⟨ρ,E,fr,h,en⟩:=zq4;exact he.step fr h λr x H1 q S1 _=>en.nx _ _ _ (fr.mono S1) q⟩
noncomputable def R.out:R->R
 | .ow _ d=>.nw d
 |r=>r
theorem dC.out{K:ai}{HZ H H':Hp}{F:ae->Prop}{σ:St}{ρ:List Sl}{x:V}{r:R}(fr:Fr K HZ F σ H ρ)(h:dC K (MM F ρ) (wX ρ) H x r H'):dC K F zT HZ x r.out H':=by
 cases r with
 |v d=>exact Rep.weak (λa z=>.inl z) h
 |nw d=>
  obtain⟨a,e,n,o⟩:=h;exact⟨a,e,fr.same.free n,o.weak λb z=>z.elim (λz=>.inl (.inl z)) .inr⟩
 |ow a d=>
  obtain⟨e,m,o⟩:=h;refine⟨a,e,fr.new a d m,o.weak λb z=>?_⟩;rcases z with z | z
  ·exact .inl z
  ·rw[z];exact .inr ⟨d,m⟩
noncomputable def bK(te:cO):bV:=λE ρ=>te ρ λr=>E.rt r.out
noncomputable def Ib:bV:=λE _=>E.rt (.v .non)
theorem aX(he:QE X e te):QS X (.Return (aa e) pos) (bK te):=
 ⟨λE E' ρ w h=>he.mono _ _ _ (λ_ q=>w.rt _ q) h,λHZ F=>eJ (Jb (he.run HZ F)) λD σ H zq5=>by obtain⟨ρ,E,fr,h,en⟩:=zq5;exact he.step fr h λr x H1 q S1 r1=>en.rt _ _ _ (fr.same.trans S1) (dC.out fr r1) q⟩
noncomputable def g4(c:jI)(t u:bV):bV:=λE ρ=>c ρ λb=>if b=ah then t E ρ else u E ρ
theorem cV{a b:List iq}{tc:jI}(hc:QT X c tc)(ha:QSs X a t)(hb:QSs X b u):QS X (.If c a b pos) (g4 tc t u):=by
 refine⟨λE E' ρ w h=>hc.mono _ _ _ (λk q=>?_) h,λHZ F=>eJ (Ll (hc.run HZ F) (ha.run HZ F) (hb.run HZ F)) λD σ H ⟨ρ,E,fr,h,en⟩=>?_⟩
 ·split at q
  ·rw[QL ‹_›];exact ha.mono _ _ _ w q
  ·rw[Qi ‹_›];exact hb.mono _ _ _ w q
 ·refine hc.step fr h λk H1 q S1=>?_;cases k with
  |true=>exact jB ⟨ρ,E,fr.mono S1,by simpa using q,en⟩
  |false=>exact jC ⟨ρ,E,fr.mono S1,by simpa using q,en⟩
end
theorem fM{l:List α}{j:Nat}{a b:α}(h:(l.set i a)[j]?=aa b):(i=j/\i<l.length/\b=a) \/ (i≠j/\l[j]?=aa b):=by
 by_cases e:i=j
 ·subst e;by_cases hl:i<l.length
  ·rw[ik hl] at h;exact .inl ⟨rfl,hl,(Option.some.inj h).symm⟩
  ·rw[jc (by simp;right)] at h;cases h
 ·rw[eu e] at h;exact .inr ⟨e,h⟩
theorem MM.set{i:Nat}{s:Sl}(a:ae)(h:MM F (ρ.set i s) a):MM F ρ a \/ ∃d,s=.own a d:=by
 rcases h with h | ⟨d,h⟩
 ·exact .inl (.inl h)
 ·rcases jf h with h | h
  ·exact .inl (.inr ⟨d,h⟩)
  ·exact .inr ⟨d,h.symm⟩
theorem Fr.setv(fr:Fr K HZ F σ H ρ){x:V}{d:Dv}(r:Rep K (MM F ρ) H x d):Fr K HZ F (σ.set i (aa x)) H (ρ.set i (.v d)):=by
 have wk:∀a,MM F (ρ.set i (.v d)) a->MM F ρ a:=λa h=>by
  rcases MM.set a h with h | ⟨_,h⟩
  ·exact h
  ·cases h
 refine⟨by simp[fr.len],λj s e=>?_,λj k a d1 d2 e1 e2=>?_,λa d1 h=>?_,fr.same,fr.old⟩
 ·rcases fM e with⟨rfl,hl,rfl⟩ | ⟨ne,e⟩
  ·exact⟨x,by rw[ik (by rw[fr.len];exact hl)],r.weak wk⟩
  ·rw[eu ne];exact(fr.sl j s e).weak wk
 ·rcases fM e1 with⟨_,_,z⟩ | ⟨_,e1⟩
  ·cases z
  ·rcases fM e2 with⟨_,_,z⟩ | ⟨_,e2⟩
   ·cases z
   ·exact fr.nd j k a d1 d2 e1 e2
 ·rcases jf h with h | h
  ·exact fr.new a d1 h
  ·cases h
theorem tP.gen{M M':ae->Prop}{o:Option (Option V)}{s:Sl}(G:Gen K M M' H H')(hs:∀a d,s=.own a d -> ∀u,H a=aa u->H' a=aa u)(h:tP K M H o s):tP K M' H' o s:=by
 cases s with
 |un=>trivial
 |v d=>obtain⟨x,e,r⟩:=h;exact⟨x,e,r.gen G⟩
 |own a d=>exact⟨h.1,h.2.gen G (hs a d rfl)⟩
theorem Fr.seto(fr:Fr K HZ F σ H ρ)(S:aM H H'){d:Dv}(ha:H a=ap)(o:dR K (λb=>MM F ρ b \/ b=a) H' a d):Fr K HZ F (σ.set i (aa (.ref a))) H' (ρ.set i (.own a d)):=by
 have wk:∀b,MM F (ρ.set i (.own a d)) b->MM F ρ b \/ b=a:=λb h=>by
  rcases MM.set b h with h | ⟨_,h⟩
  ·exact .inl h
  ·cases h;exact .inr rfl
 have G:Gen K (MM F ρ) (MM F (ρ.set i (.own a d))) H H':=((Gen.fresh ha).trans (.mono S)).trans (.weak wk);have ne:∀(j:Nat) (b:ae) (d':Dv),ρ[j]?=aa (Sl.own b d')->b≠a:=λj b d' e z=>by
  have:=(fr.sl j _ e).2.mut;obtain⟨u,hu,_⟩:=this;rw[z,ha] at hu;cases hu
 refine⟨by simp[fr.len],λj s e=>?_,λj k b d1 d2 e1 e2=>?_,λb d1 h=>?_,fr.same.trans S,fr.old⟩
 ·rcases fM e with⟨rfl,hl,rfl⟩ | ⟨hne,e⟩
  ·exact⟨by rw[ik (by rw[fr.len];exact hl)],o.weak wk⟩
  ·rw[eu hne];exact(fr.sl j s e).gen G λb d' _ u hu=>S _ _ hu
 ·rcases fM e1 with⟨h1,_,z⟩ | ⟨_,e1⟩
  ·rcases fM e2 with⟨h2,_,z'⟩ | ⟨_,e2⟩
   ·right
   ·cases z;exact absurd rfl (ne k _ _ e2)
  ·rcases fM e2 with⟨h2,_,z'⟩ | ⟨_,e2⟩
   ·cases z';exact absurd rfl (ne j _ _ e1)
   ·exact fr.nd j k b d1 d2 e1 e2
 ·rcases jf h with h | h
  ·exact fr.new b d1 h
  ·cases h;exact fr.same.free ha
theorem Fr.write(fr:Fr K HZ F σ H ρ){i:Nat}{a:ae}{d d':Dv}{o:HO}(hi:ρ[i]?=aa (.own a d))(n:dR K (MM F ρ) (upd H a o) a d'):Fr K HZ F σ (upd H a o) (ρ.set i (.own a d')):=by
 have mem:Sl.own a d∈ρ:=cq hi;have wk:∀b,MM F (ρ.set i (.own a d')) b->MM F ρ b:=λb h=>by
  rcases MM.set b h with h | ⟨_,h⟩
  ·exact h
  ·cases h;exact .inr ⟨d,mem⟩
 obtain⟨hs,ow⟩:=fr.sl i _ hi;obtain⟨u,hu,mu⟩:=ow.mut;have mu':DQ (H a):=by rw[hu];exact mu
 have G:Gen K (MM F ρ) (MM F (ρ.set i (.own a d'))) H (upd H a o):=(Gen.write (.inr ⟨d,mem⟩) mu').trans (.weak wk);refine⟨by simp[fr.len],λj s e=>?_,λj k b d1 d2 e1 e2=>?_,λb d1 h=>?_,λb q e=>?_,fr.old⟩
 ·rcases fM e with⟨rfl,hl,rfl⟩ | ⟨hne,ej⟩
  ·exact⟨hs,n.weak wk⟩
  ·refine(fr.sl j s ej).gen G λb d2 es u hu=>?_;subst es;rw[bB λz=>hne ?_]
   ·exact hu
   ·subst z;exact fr.nd i j _ d d2 hi ej
 ·rcases fM e1 with⟨h1,_,z⟩ | ⟨_,e1⟩
  ·cases z;rcases fM e2 with⟨h2,_,z'⟩ | ⟨_,e2⟩
   ·right
   ·rw[<- h1];exact fr.nd i k _ d d2 hi e2
  ·rcases fM e2 with⟨h2,_,z'⟩ | ⟨_,e2⟩
   ·cases z';rw[<- h2];exact fr.nd j i _ d1 d e1 hi
   ·exact fr.nd j k b d1 d2 e1 e2
 ·rcases jf h with h | h
  ·exact fr.new b d1 h
  ·cases h;exact fr.new _ d mem
 ·rw[bB ?_]
  ·exact fr.same b q e
  ·intro z;subst z;rw[fr.new _ d mem] at e;cases e
noncomputable def freeze(i:Nat)(ρ:List Sl):List Sl:=match ρ[i]? with
 |some (.own _ d)=>ρ.set i (.v d)
 |_=>ρ
section
variable {R5:gv}{t:bV}
noncomputable def bQ(i:Nat)(te:cO):bV:=λE ρ=>te ρ λr=>match r with
 | .v d=>E.nx (ρ.set i (.v d))
 | .nw d=>E.nx (ρ.set i (.v d))
 | .ow _ _=>False
noncomputable def hV(i:Nat)(te:cO):bV:=λE ρ=>te ρ λr=>match r with
 | .v d=>E.nx (ρ.set i (.v d))
 | .nw d=>∀a,E.nx (ρ.set i (.own a d))
 | .ow _ _=>False
noncomputable def LV(i:Nat)(t:bV):bV:=λE ρ=>t E (freeze i ρ)
theorem bM(hN:X.N.Nodup)(hi:X.N[i]?=aa x)(hx:GM X.env.scope x)(he:QE X e te)(hs:autoParam (gk e (aa (.Name x R5)) pos.line X.env=gc aj) c6._auto_1)(hf:autoParam (X.fn x=ah \/ X.env.scope.names.lookup x=aa .local) DU._auto_1):
  QS X (.Assign [.Name x R5] e pos) (bQ i te):=by
 refine⟨λE E' ρ w h=>he.mono _ _ _ (λr q=>?_) h,λHZ F=>eJ (AE hN hi hx (he.run HZ F) hs hf) λD σ H ⟨ρ,E,fr,h,en⟩=>?_⟩
 ·cases r with
  |v d=>exact w.nx _ q
  |nw d=>exact w.nx _ q
  |ow a d=>exact q
 ·refine he.step fr h λr x H1 q S1 r1=>?_;cases r with
  |v d=>exact en.nx _ _ _ ((fr.mono S1).setv r1) q
  |nw d=>exact en.nx _ _ _ ((fr.mono S1).setv (r1.rep (λa m=>fr.dom m) rfl)) q
  |ow a d=>exact q.elim
theorem gP(hN:X.N.Nodup)(hi:X.N[i]?=aa x)(hx:GM X.env.scope x)(he:QE X e te)(hs:autoParam (gk e (aa (.Name x R5)) pos.line X.env=gc aj) c6._auto_1)(hf:autoParam (X.fn x=ah \/ X.env.scope.names.lookup x=aa .local) DU._auto_1):
  QS X (.Assign [.Name x R5] e pos) (hV i te):=by
 refine⟨λE E' ρ w h=>he.mono _ _ _ (λr q=>?_) h,λHZ F=>eJ (AE hN hi hx (he.run HZ F) hs hf) λD σ H ⟨ρ,E,fr,h,en⟩=>?_⟩
 ·cases r with
  |v d=>exact w.nx _ q
  |nw d=>exact λa=>w.nx _ (q a)
  |ow a d=>exact q
 ·refine he.step fr h λr x H1 q S1 r1=>?_;cases r with
  |v d=>exact en.nx _ _ _ ((fr.mono S1).setv r1) q
  |nw d=>
   obtain⟨a,rfl,ha,o⟩:=r1;exact en.nx _ _ _ (fr.seto S1 ha o) (q a)
  |ow a d=>exact q.elim
noncomputable def LX(i:Nat)(p:Dv->Dv->(R->Prop)->Prop)(te:cO):bV:=λE ρ=>match ρ[i]? with
 |some (.v d)=>te ρ λr=>p d r.d λz=>match z with
  | .v d'=>E.nx (ρ.set i (.v d'))
  |_=>False
 |_=>False
noncomputable def qA(i:Nat)(te:cO):bV:=λE ρ=>match ρ[i]? with
 |some (.own a (.lst xs))=>te ρ λr=>(r.free=ah/\xs.length<tQ)/\E.nx (ρ.set i (.own a (.lst (xs++[r.d]))))
 |_=>False
theorem rV(h:n<tQ):n<ay:=df h (gK (bg _))
theorem rB{p1 p2 p3:gv}(hv:PE X (.Name x p1) (uU i))(he:QE X e te)(hs:autoParam (gk (.Call (.Attribute (.Name x p1) "append" p2) [e] [] p3) ap pos.line X.env=gc aj) c6._auto_1)
  (R6:autoParam (jn (.Name x p1) "append" X.env (em (.Name x p1) X.env)=em (.Name x p1) X.env) c6._auto_1)
  (hfew:autoParam (((ix p3 (aw [e] X.env)).all (λx=>!x.1)&&(tj p3 (ni [] X.env)).all (λx=>x.1.isSome)
   && decide ([e].length+([]:List wf).length+(if ([]:List wf).isEmpty then 0 else 1)<30))=ah) c6._auto_1)
  (R7:autoParam ((p2.endLine==p3.line)=ah) c6._auto_1) (hst:autoParam (aw [e] X.env=(aj,em e X.env)::aw [] X.env) c6._auto_1) (Rf:autoParam ((ix p3 (aw [] X.env)).any (·.1)=aj) c6._auto_1):
  QS X (.Expr (.Call (.Attribute (.Name x p1) "append" p2) [e] [] p3) pos) (qA i te):=by
 refine⟨λE E' ρ w h=>?_,λHZ F=>eJ (v7 (Ii nu PySem.F.slot_list_append PySem.F.type_list_append u5 hv (o6 (he.run HZ F) v9 hst) R6 hfew R7 hst Rf) hs) λD σ H ⟨ρ,E,fr,h,en⟩=>?_⟩
 ·unfold qA at *;split at h
  ·exact he.mono _ _ _ (λr q=>⟨q.1,w.nx _ q.2⟩) h
  ·exact h
 ·unfold qA at h;split at h
  ·rename_i a xs hx;obtain⟨hs1,vs,hv1,rv1⟩:=fr.sl i _ hx;refine⟨_,hs1,.inl ⟨rfl,_,eZ.of hv1⟩,he.step fr h λr y H1 q S1 r1=>?_⟩;obtain⟨⟨qf,ql⟩,q2⟩:=q;have rep:=r1.rep (λa m=>fr.dom m) qf;have hv2:=S1 _ _ hv1;refine⟨a,vs,y,rfl,rfl,hv2,by rw[rv1.length];exact rV ql,?_⟩;refine en.nx _ _ _ ((fr.mono S1).write (d':=.lst (xs++[r.d])) hx ⟨_,bO,?_⟩) q2;have G:Gen X.K (MM F ρ) (MM F ρ) H1 (upd H1 a (.lst (vs++[y]))):=Gen.write (.inr ⟨_,cq hx⟩) (by rw[hv2];trivial);exact((rv1.mono S1).append (.cons rep .nil)).gen G
  ·exact h.elim
end
open Classical in
noncomputable def prot(H:Hp)(ρ:List Sl):Hp:=λb=>if ∃d,Sl.own b d∈ρ then ap else H b
section
variable {σ':St}{ρ':List Sl}
theorem rE{d:Dv}(h:Sl.own b d∈ρ):prot H ρ b=ap:=by unfold prot;rw[QL ⟨d,h⟩]
theorem c8(h:¬ ∃d,Sl.own b d∈ρ):prot H ρ b=H b:=by unfold prot;rw[Qi h]
theorem lR(h:prot H ρ b=aa o):H b=aa o:=by
 by_cases c:∃d,Sl.own b d∈ρ
 ·obtain⟨d,c⟩:=c;rw[rE c] at h;cases h
 ·rw[c8 c] at h;exact h
theorem CO(h:prot H ρ b=ap):(∃d,Sl.own b d∈ρ) \/ H b=ap:=by
 by_cases c:∃d,Sl.own b d∈ρ
 ·exact .inl c
 ·rw[c8 c] at h;exact .inr h
theorem Fr.prot(fr:Fr K HZ F σ H ρ):Fr K (prot H ρ) F σ H ρ:=by
 refine⟨fr.len,fr.sl,fr.nd,λa d h=>rE h,λb o h=>lR h,λa h=>?_,λP q z=>?_⟩
 ·rw[c8 ?_]
  ·exact fr.dom (.inl h)
  ·rintro⟨d,c⟩;exact fr.old.f a h (fr.new a d c)
 ·have e:=fr.old.t P q z;rw[c8 ?_]
  ·exact fr.same _ _ e
  ·rintro⟨d,c⟩;rw[fr.new P d c] at e;cases e
theorem Fr.free_of(fr:Fr K HZ F σ H ρ)(h:Z.prot H ρ b=ap):HZ b=ap:=by
 rcases CO h with⟨d,c⟩ | h
 ·exact fr.new b d c
 ·exact fr.same.free h
theorem Fr.same_of(fr:Fr K HZ F σ H ρ)(S:aM (Z.prot H ρ) H'):aM HZ H':=λb o e=>by
 refine S b o ?_;rw[c8 ?_]
 ·exact fr.same b o e
 ·rintro⟨d,c⟩;rw[fr.new b d c] at e;cases e
theorem Fr.unprot(fr:Fr K HZ F σ H ρ)(g:Fr K (Z.prot H ρ) F σ' H' ρ'):Fr K HZ F σ' H' ρ':=
 ⟨g.len,g.sl,g.nd,λa d h=>fr.free_of (g.new a d h),fr.same_of g.same,fr.old⟩
theorem Fr.gen(fr:Fr K HZ F σ H ρ)(g:Fr K (Z.prot H ρ) F σ' H' ρ'):Gen K (MM F ρ) (MM F ρ') H H':=by
 have no:∀a o,H a=aa o -> ¬MM F ρ a->Z.prot H ρ a=aa o:=λa o e m=>by
  rw[c8 λc=>m (.inr c)];exact e
 have no2:∀a o,H a=aa o -> ¬DQ (aa o)->Z.prot H ρ a=aa o:=λa o e m=>by
  rw[c8 ?_]
  ·exact e
  ·rintro⟨d,c⟩;obtain⟨_,_,_,ow⟩:=fr.at_own c;obtain⟨u,hu,mu⟩:=ow.mut;rw[e] at hu;cases hu;exact m mu
 refine⟨λa o e mu m=>⟨g.same _ _ (no a o e m),?_⟩,λa xs e=>g.same _ _ (no2 a _ e λz=>z),λa ns e=>?_,λa o u e=>g.same _ _ (no2 a _ e λz=>z)⟩
 ·rintro(h | ⟨d,h⟩)
  ·exact m (.inl h)
  ·have:=g.new a d h;rw[no a o e m] at this;cases this
 ·rcases e with⟨o,e⟩ | e
  ·exact .inl ⟨o,g.same _ _ (no2 a _ e λz=>z)⟩
  ·exact .inr e
theorem Ent.prot{E:En}{D:Ends}(fr:Fr K HZ F σ H ρ)(en:Ent K HZ F E D):Ent K (Z.prot H ρ) F E D:=by
 refine⟨λρ' σ' H' g h=>en.nx _ _ _ (fr.unprot g) h,λρ' σ' H' g h=>en.bk _ _ _ (fr.unprot g) h,λρ' σ' H' g h=>en.ct _ _ _ (fr.unprot g) h,λr x H' S rr h=>en.rt r x H' (fr.same_of S) ?_ h⟩;cases r with
 |v d=>exact rr
 |ow a d=>exact rr
 |nw d=>obtain⟨a,e,n,o⟩:=rr;exact⟨a,e,fr.free_of n,o⟩
end
noncomputable abbrev Au:=List Sl->(List Dv->List (ae×List Dv)->Prop)->Prop
noncomputable def guard(ogs:List (ae×List Dv))(ρ:List Sl):Prop:=∀p∈ogs,Sl.own p.1 (.lst p.2)∈ρ
noncomputable def tR(K:ai)(P:Hp)(M:ae->Prop)(H1:Hp)(J:It)(ds:List Dv)(ogs:List (ae×List Dv)):Prop:=
 ∀(i:Nat) (H':Hp) (M':ae->Prop),aM P H'->Gen K M M' H1 H'->(∀p∈ogs,dR K M' H' p.1 (.lst p.2)) ->
  (∀d,ds[i]?=aa d->J.go i H' /\ ∀y H'',J.yld i H' y H''->aM H' H''/\Rep K M' H'' y d)/\(ds.length<=i->J.stop i H')
structure QI(X:Cx)(tg iter:Expr)(ti:Au):Prop where
 mono:∀(ρ:List Sl) (Q Q':List Dv->List (ae×List Dv)->Prop),(∀ds g,Q ds g->Q' ds g)->ti ρ Q->ti ρ Q'
 run:∀(HZ:Hp) (F:ae->Prop),∃wi,PI X tg iter wi /\ ∀(σ:St) (H:Hp) (ρ:List Sl) (R:It->Hp->Prop),Fr X.K HZ F σ H ρ ->
  ti ρ (λds ogs=>∀J H1,aM H H1->guard ogs ρ->tR X.K (prot H1 ρ) (MM F ρ) H1 J ds ogs->R J H1)->wi σ H R
variable {P:Hp}{l:Expr}{lo:Int}{ts:lJ}
section
variable {tl:cO}
noncomputable def MK(K:ai)(tl:TE):TI:=λσ H R=>tl σ H λx H1=>∃a,x=.ref a/\(((∃xs,eZ K H1 a xs)/\R (N2 K a) H1) \/ ((∃xs,kH K H1 a xs)/\R (OM K a) H1))
theorem Jg{tl:TE}(hl:PE X l tl):PI X tg l (MK X.K tl):=by
 intro pj s σ H R I h;refine thn (hl pj s σ H _ I h) λv s1 zz=>?_;obtain⟨x,H1,I1,r1,q1⟩:=zz;obtain⟨a,e,q1⟩:=q1;subst e;cases r1;rcases q1 with⟨⟨xs,hq⟩,q⟩ | ⟨⟨xs,hq⟩,q⟩
 ·obtain⟨its,rv,p,hz⟩:=I1.list hq;refine yl p.isList ?_;refine⟨s1.heap.objs.size,[s1.heap.objs.size],_,_,H1,rfl,I1.kept (t':=s1.toks) λb o e=>ak _ e,CA a _,⟨_,bi _ rfl,rfl,rfl⟩,λb hb=>?_,q⟩;have e:b=s1.heap.objs.size:=by simpa using hb
  subst e;exact I1.fpOk (bg _) (I1.hok.fresh (bg _))
 ·obtain⟨its,rv,p,hz⟩:=I1.tuple hq;refine wpAny_pyIter_tuple (show s1.heap.IsTuple a its.toArray from p) ?_;refine⟨s1.heap.objs.size,[s1.heap.objs.size],_,_,H1,rfl,I1.kept (t':=s1.toks) λb o e=>ak _ e,zX a _,⟨_,bi _ rfl,rfl,rfl⟩,λb hb=>?_,q⟩;have e:b=s1.heap.objs.size:=by simpa using hb
  subst e;exact I1.fpOk (bg _) (I1.hok.fresh (bg _))
noncomputable def iA(tl:cO):Au:=λρ Q=>tl ρ λr=>match r with
 | .v (.lst ds)=>Q ds []
 | .nw (.lst ds)=>Q ds []
 | .ow a (.lst ds)=>Q ds [(a,ds)]
 | .v (.tup ds)=>Q ds []
 | .v (.scr ns)=>Q (ns.map .int) []
 |_=>False
theorem u9{xs:List V}(hP:P a=aa (.lst xs))(r:Reps K M H1 xs ds):tR K P M H1 (N2 K a) ds []:=by
 intro i H' M' S G _;have h':=S _ _ hP;refine⟨λd e=>?_,λh=>⟨xs,eZ.of h',by rw[r.length];exact h⟩⟩;obtain⟨x,hx,rx⟩:=r.get e;refine⟨⟨xs,x,eZ.of h',hx⟩,λy H'' zz=>?_⟩;obtain⟨e1,e2⟩:=zz;subst e1;have:=e2 xs (eZ.of h');rw[hx] at this;cases this;exact⟨aM.refl _,rx.gen G⟩
theorem Fi:tR K P M H1 (N2 K a) ds [(a,ds)]:=by
 intro i H' M' S G ow;obtain⟨xs,h',r⟩:=ow (a,ds) (by simp);refine⟨λd e=>?_,λh=>⟨xs,eZ.of h',by rw[r.length];exact h⟩⟩;obtain⟨x,hx,rx⟩:=r.get e;refine⟨⟨xs,x,eZ.of h',hx⟩,λy H'' zz=>?_⟩;obtain⟨e1,e2⟩:=zz;subst e1;have:=e2 xs (eZ.of h');rw[hx] at this;cases this;exact⟨aM.refl _,rx⟩
theorem Fg{xs:List V}(hP:P a=aa (.tup xs))(r:Reps K M H1 xs ds):tR K P M H1 (OM K a) ds []:=by
 intro i H' M' S G _;have h':=S _ _ hP;refine⟨λd e=>?_,λh=>⟨xs,kH.of h',by rw[r.length];exact h⟩⟩;obtain⟨x,hx,rx⟩:=r.get e;refine⟨⟨xs,x,kH.of h',hx⟩,λy H'' zz=>?_⟩;obtain⟨e1,e2⟩:=zz;subst e1;have:=e2 xs (kH.of h');rw[hx] at this;cases this;exact⟨aM.refl _,rx.gen G⟩
theorem Fh(hP:IU K P a ns):tR K P M H1 (N2 K a) (ns.map .int) []:=by
 intro i H' M' S G _;have h':=(aM.scr S hP).sq;refine⟨λd e=>?_,λh=>⟨_,h',by simpa using h⟩⟩;have r:Reps K M' H' (ns.map V.int) (ns.map .int):=Reps.ints ns;obtain⟨x,hx,rx⟩:=r.get e;refine⟨⟨_,x,h',hx⟩,λy H'' zz=>?_⟩;obtain⟨e1,e2⟩:=zz;subst e1;have:=e2 _ h';rw[hx] at this;cases this;exact⟨aM.refl _,rx⟩
theorem Bf(fr:Fr K HZ F σ H ρ)(e:H a=aa o)(m:¬DQ (aa o)):¬ ∃d,Sl.own a d∈ρ:=by
 rintro⟨d,c⟩;obtain⟨_,_,_,ow⟩:=fr.at_own c;obtain⟨u,hu,mu⟩:=ow.mut;rw[e] at hu;cases hu;exact m mu
theorem dX(h:QE X l tl):QI X tg l (iA tl):=by
 refine⟨λρ Q Q' w q=>h.mono _ _ _ (λr q=>?_) q,λHZ F=>⟨_,Jg (h.run HZ F),λσ H ρ R fr q=>?_⟩⟩
 ·unfold iA at *;split at q<;>first | exact w _ _ q | exact q
 ·refine h.step fr q λr x H1 q S1 r1=>?_;have fr1:=fr.mono S1;split at q
  ·rename_i ds;cases r1 with
   |lst e m rs=>
    exact⟨_,rfl,.inl ⟨⟨_,eZ.of e⟩,q _ H1 S1 (by intro p hp;simp at hp) (u9 (by rw[c8 λc=>m (.inr c)];exact e) rs)⟩⟩
  ·rename_i ds;obtain⟨a,rfl,n,xs,e,rs⟩:=r1;exact⟨_,rfl,.inl ⟨⟨_,eZ.of e⟩,q _ H1 S1 (by intro p hp;simp at hp) (u9 (by rw[c8 λc=>fr.fresh n (.inr c)];exact e) (rs.weak λb z=>.inl z))⟩⟩
  ·rename_i a ds;obtain⟨rfl,m,xs,e,rs⟩:=r1;exact⟨_,rfl,.inl ⟨⟨_,eZ.of e⟩,q _ H1 S1 (by intro p hp;simp at hp;subst hp;exact m) Fi⟩⟩
  ·rename_i ds;cases r1 with
   |tup e rs=>exact⟨_,rfl,.inr ⟨⟨_,kH.of e⟩,q _ H1 S1 (by intro p hp;simp at hp) (Fg (by rw[c8 (Bf fr1 e λz=>z)];exact e) rs)⟩⟩
  ·rename_i ns;cases r1 with
   |scr e=>
    refine⟨_,rfl,.inl ⟨⟨_,e.sq⟩,q _ H1 S1 (by intro p hp;simp at hp) (Fh ?_)⟩⟩;rcases e with⟨o,e⟩ | e
    ·exact .inl ⟨o,by rw[c8 (Bf fr1 e λz=>z)];exact e⟩
    ·exact .inr e
  ·exact q.elim
noncomputable def bN(lo:Int)(n:Nat):List Dv:=(ff n).map λ(k:Nat)=>Dv.int (lo+(k:Int))
theorem AB{d:Dv}(h:(bN lo n)[i]?=aa d):i<n/\d=.int (lo+i):=by
 unfold bN at h;rw[bh] at h;cases e:(ff n)[i]? with
 |none=>rw[e] at h;cases h
 |some k=>
  rw[e] at h;obtain⟨h1,h2⟩:=bt.mp e;simp at h1 h2;subst h2;exact⟨h1,(Option.some.inj h).symm⟩
theorem sB:tR K P M H1 (N1 lo n) (bN lo n) []:=by
 intro i H' M' S G _;refine⟨λd e=>?_,λh=>(show n<=i by simpa [bN] using h)⟩;obtain⟨h1,h2⟩:=AB e;subst h2;refine⟨h1,λy H'' zz=>?_⟩;obtain⟨e1,e2⟩:=zz;subst e1 e2;exact⟨aM.refl _,.int _⟩
noncomputable def eO(ts:lJ):Au:=λρ Q=>ts ρ λrs=>match rs.map R.d with
 | [.int j]=>(-(2 ^ 62)<=j/\j<2 ^ 62)/\Q (bN 0 j.toNat) []
 |_=>False
noncomputable def oE(ts:lJ):Au:=λρ Q=>ts ρ λrs=>match rs.map R.d with
 | [.int i,.int j]=>(-(2 ^ 62)<=i/\i<2 ^ 62 /\ -(2 ^ 62)<=j/\j<2 ^ 62)/\Q (bN i (j-i).toNat) []
 |_=>False
theorem eB{xs:List V}{d:Dv}(h:uP K M H xs [d]):∃x,xs=[x]/\cW K M H x d:=by
 cases h with
 |cons a t=>cases t;exact⟨_,rfl,a⟩
theorem Ao{xs:List V}{d d':Dv}(h:uP K M H xs [d,d']):∃x y,xs=[x,y]/\cW K M H x d/\cW K M H y d':=by
 cases h with
 |cons a t=>
  obtain⟨y,rfl,b⟩:=eB t;exact⟨_,_,rfl,a,b⟩
theorem eL{a:Expr}(hg:Gl X "range")(hm:X.mg "range" = ap)(ha:QA X [a] ts)(hs:autoParam (aw [a] X.env=[(aj,em a X.env)]) c6._auto_1):QI X tg (.Call (.Name "range" p) [a] [] pos) (eO ts):=by
 refine⟨λρ Q Q' w q=>ha.mono _ _ _ (λr q=>?_) q,λHZ F=>⟨_,CV hg hm (ha.run HZ F) hs,λσ H ρ R fr q=>?_⟩⟩
 ·split at q
  ·exact⟨q.1,w _ _ q.2⟩
  ·exact q
 ·refine ha.step fr q λrs xs H1 q S1 r1=>?_;split at q
  ·rename_i j e;have c:=r1.c;rw[e] at c;obtain⟨x,rfl,cx⟩:=eB c;obtain rfl:=cx.int;exact⟨j,rfl,q.1.1,q.1.2,q.2 _ H1 S1 (by intro p hp;simp at hp) sB⟩
  ·exact q.elim
theorem tX{a b:Expr}(hg:Gl X "range")(hm:X.mg "range" = ap)(ha:QA X [a,b] ts)(hs:autoParam (aw [a,b] X.env=[(aj,em a X.env),(aj,em b X.env)]) c6._auto_1)(hs2:autoParam (aw [b] X.env=[(aj,em b X.env)]) c6._auto_1):
  QI X tg (.Call (.Name "range" p) [a,b] [] pos) (oE ts):=by
 refine⟨λρ Q Q' w q=>ha.mono _ _ _ (λr q=>?_) q,λHZ F=>⟨_,CU hg hm (ha.run HZ F) hs hs2,λσ H ρ R fr q=>?_⟩⟩
 ·split at q
  ·exact⟨q.1,w _ _ q.2⟩
  ·exact q
 ·refine ha.step fr q λrs xs H1 q S1 r1=>?_;split at q
  ·rename_i i j e;have c:=r1.c;rw[e] at c;obtain⟨x,y,rfl,cx,cy⟩:=Ao c;obtain rfl:=cx.int;obtain rfl:=cy.int;exact⟨i,j,rfl,q.1,q.2 _ H1 S1 (by intro p hp;simp at hp) sB⟩
  ·exact q.elim
end
noncomputable abbrev wT:=Dv->List Sl->(List Sl->Prop)->Prop
structure QG(X:Cx)(tg:Expr)(k:Nat)(g:wT):Prop where
 mono:∀d ρ (Q Q':List Sl->Prop),(∀ρ,Q ρ->Q' ρ)->g d ρ Q->g d ρ Q'
 agree:∀d ρ (Q:List Sl->Prop),g d ρ Q->g d ρ λρ1=>Q ρ1/\ρ1.length=ρ.length /\ ∀j,k<=j->ρ1[j]?=ρ[j]?
 run:∃t,PG X tg t /\ ∀(HZ:Hp) (F:ae->Prop) (v:V) (d:Dv) (σ:St) (H:Hp) (ρ:List Sl) (Q:St->Hp->Prop),Fr X.K HZ F σ H ρ->Rep X.K (MM F ρ) H v d ->
  g d ρ (λρ1=>∀σ1,Fr X.K HZ F σ1 H ρ1->(∀j,k<=j->σ1[j]?=σ[j]?)->Q σ1 H)->t v σ H Q
noncomputable def gN(i:Nat):wT:=λd ρ Q=>Q (ρ.set i (.v d))
noncomputable def jU:List Nat->List Dv->List Sl->List Sl
 |i::is,d::ds,ρ=>jU is ds (ρ.set i (.v d))
 |_,_,ρ=>ρ
noncomputable def gT(is:List Nat):wT:=λd ρ Q=>match d with
 | .tup ds=>ds.length=is.length/\Q (jU is ds ρ)
 |_=>False
noncomputable def Nz:List Nat->JE
 | []=>MS
 |i::is=>J5 (yX i) (Nz is)
theorem qY:∀(is:List Nat) (ds:List Dv) (ρ:List Sl),(jU is ds ρ).length=ρ.length
 | [],_,_=>rfl
 |_::_,[],_=>rfl
 |i::is,d::ds,ρ=>by rw[jU,qY is ds];simp
theorem qZ{k:Nat}:∀(is:List Nat) (ds:List Dv) (ρ:List Sl),(∀i∈is,i<k) -> ∀j,k<=j->(jU is ds ρ)[j]?=ρ[j]?
 | [],_,_,_,_,_=>rfl
 |_::_,[],_,_,_,_=>rfl
 |i::is,d::ds,ρ,h,j,hj=>by
  have:=h i (by simp);rw[jU,qZ is ds _ (λi hi=>h i (by simp[hi])) j hj,eu ⋯]
theorem i8{k:Nat}(hN:X.N.Nodup)(hi:X.N[i]?=aa x)(hx:GM X.env.scope x)(hk:autoParam (i<k) mQ._auto_1)(hf:autoParam (X.fn x=ah \/ X.env.scope.names.lookup x=aa .local) DU._auto_1):QG X (.Name x pos) k (gN i):=by
 refine⟨λd ρ Q Q' w q=>w _ q,λd ρ Q q=>⟨q,by simp,λj hj=>by rw[eu ⋯]⟩,_,bJ hN hi hx hf,λHZ F v d σ H ρ Q fr r q=>?_⟩;exact q _ (fr.setv r) λj hj=>by rw[eu ⋯]
theorem Bp{K:ai}{HZ:Hp}{F:ae->Prop}{H:Hp}{k:Nat}:∀(is:List Nat) (ds:List Dv) (vs:List V) (σ:St) (ρ:List Sl) (Q:St->Hp->Prop),(∀i∈is,i<k)->ds.length=is.length->Fr K HZ F σ H ρ->Reps K (MM F ρ) H vs ds ->
  (∀σ1,Fr K HZ F σ1 H (jU is ds ρ)->(∀j,k<=j->σ1[j]?=σ[j]?)->Q σ1 H)->Nz is vs σ H Q
 | [],[],_,σ,ρ,Q,_,_,fr,.nil,q=>⟨rfl,q σ fr λ_ _=>rfl⟩
 |i::is,d::ds,_,σ,ρ,Q,hk,hl,fr,.cons (x:=x) a r,q=>by
  refine⟨x,_,rfl,?_⟩;have wk:∀b,MM F (ρ.set i (.v d)) b->MM F ρ b:=λb h=>by
   rcases MM.set b h with h | ⟨_,h⟩
   ·exact h
   ·cases h
  refine Bp is ds _ _ (ρ.set i (.v d)) Q (λi hi=>hk i (by simp[hi])) (by simpa using hl) (fr.setv a) (r.weak wk) λσ1 f1 e1=>q σ1 f1 λj hj=>?_;have:=hk i (by simp);rw[e1 j hj,eu ⋯]
theorem p8{x1 k:Nat}{is:List Nat}(hc:X.calm=ah)(h:N0 X es (Nz is))(hk:autoParam (∀i∈is,i<k) mQ._auto_1)(hl:autoParam (is.length=n) c6._auto_1)
  (hn:autoParam ((kn es X.env).length=n) c6._auto_1) (hst:autoParam ((kn es X.env).findIdx? (·.1)=ap) c6._auto_1):QG X (.Tuple es x1 pos) k (gT is):=by
 refine⟨λd ρ Q Q' w q=>?_,λd ρ Q q=>?_,_,Jh hc h hn hst,λHZ F v d σ H ρ Q fr r q=>?_⟩
 ·unfold gT at *;split at q
  ·exact⟨q.1,w _ q.2⟩
  ·exact q
 ·unfold gT at *;split at q
  ·exact⟨q.1,q.2,qY _ _ _,qZ _ _ _ hk⟩
  ·exact q
 ·unfold gT at q;split at q
  ·cases r with
   |tup e rs=>exact⟨_,_,rfl,kH.of e,by rw[rs.length,q.1,hl],Bp is _ _ σ ρ Q hk q.1 fr rs q.2⟩
  ·exact q.elim
noncomputable def aT(g:wT)(tb:bV)(ogs:List (ae×List Dv)):List Dv->bV
 | []=>λE ρ=>guard ogs ρ/\E.nx ρ
 |d::r=>λE ρ=>guard ogs ρ/\g d ρ λρ1=>tb { E with nx:=aT g tb ogs r E,ct:=aT g tb ogs r E,bk:=E.nx } ρ1
noncomputable def g7(ti:Au)(g:wT)(tb:bV):bV:=λE ρ=>ti ρ λds ogs=>aT g tb ogs ds E ρ
section
variable {X:Cx}{tg iter c:Expr}{ti:Au}{g:wT}{tb:bV}{R0:List iq}{pos:gv}{k:Nat}
theorem nG(mg:∀d ρ (Q Q':List Sl->Prop),(∀ρ,Q ρ->Q' ρ)->g d ρ Q->g d ρ Q')(mb:∀E E' ρ,EnLe E E'->tb E ρ->tb E' ρ)(ogs:List (ae×List Dv)):∀(ds:List Dv) (E E':En) (ρ:List Sl),EnLe E E'->aT g tb ogs ds E ρ->aT g tb ogs ds E' ρ
 | [],E,E',ρ,w,h=>⟨h.1,w.nx _ h.2⟩
 |d::r,E,E',ρ,w,h=>by
  have w2:EnLe { E with nx:=aT g tb ogs r E,ct:=aT g tb ogs r E,bk:=E.nx } { E' with nx:=aT g tb ogs r E',ct:=aT g tb ogs r E',bk:=E'.nx }:=
   ⟨λρ h=>nG mg mb ogs r E E' ρ w h,w.rt,w.nx,λρ h=>nG mg mb ogs r E E' ρ w h⟩
  exact⟨h.1,mg _ _ _ _ (λρ1 h=>mb _ _ _ w2 h) h.2⟩
theorem b4(ogs:List (ae×List Dv))(E:En)(ρ:List Sl):aT g tb ogs [] E ρ=(guard ogs ρ/\E.nx ρ):=rfl
theorem aW(ogs:List (ae×List Dv))(d:Dv)(r:List Dv)(E:En)(ρ:List Sl):aT g tb ogs (d::r) E ρ=(guard ogs ρ/\g d ρ λρ1=>tb { E with nx:=aT g tb ogs r E,ct:=aT g tb ogs r E,bk:=E.nx } ρ1):=rfl
theorem yY{ogs:List (ae×List Dv)}:∀{ds:List Dv},aT g tb ogs ds E ρ->guard ogs ρ
 | [],h=>by rw[b4] at h;exact h.1
 |_::_,h=>by rw[aW] at h;exact h.1
theorem dZ(hp:za (bn X.prog X.w) X.A X.env X.xe)(hc:X.N=X.N)(hi:QI X tg iter ti)(hg:QG X tg k g)(hb:QSs X R0 tb)(hs:autoParam (∀x,fm iter X.env x=gc x) GO._auto_1):QS X (.For tg iter R0 [] pos) (g7 ti g tb):=by
 refine⟨λE E' ρ w h=>hi.mono _ _ _ (λds ogs h=>nG hg.mono hb.mono ogs ds E E' ρ w h) h,λHZ F=>?_⟩;obtain⟨wi,hwi,wiq⟩:=hi.run HZ F;obtain⟨tt,htt,ttq⟩:=hg.run;have hb':uO X R0 (λD σ H=>∃P,liftS X.K P F tb D σ H):=λpj s σ H D I zq6=>by obtain⟨P,q⟩:=zq6;exact hb.run P F pj s σ H D I q
 refine eJ (Jc hp hc hwi htt hb' hs) λD σ H zz=>?_;obtain⟨ρ,E,fr,h,en⟩:=zz;refine wiq σ H ρ _ fr (hi.mono _ _ _ (λds ogs q J H2 S2 _ ok=>?_) h);have fr2:=fr.mono S2;have en2:Ent X.K (prot H2 ρ) F E D:=en.prot fr2;refine⟨λi m σ' H'=>m=ds.length-i/\i<=ds.length /\ ∃ρ',Fr X.K (prot H2 ρ) F σ' H' ρ'/\aT g tb ogs (ds.drop i) E ρ',⟨ds.length,by simp,mj _,ρ,fr2.prot,by simpa using q⟩,?_⟩;rintro i m σ' H' ⟨rfl,hil,ρ',fr',q'⟩;have gd:guard ogs ρ':=yY q';have Gn:=fr2.gen fr';have oks:=ok i H' (MM F ρ') fr'.same Gn λp hp=>let ⟨_,_,_,h⟩:=fr'.at_own (gd p hp);h;by_cases hlt:i<ds.length
 ·have hd:ds[i]?=aa ds[i]:=by simp[hlt]
  have hdr:ds.drop i=ds[i]::ds.drop (i+1):=lr hlt;rw[hdr,aW] at q';obtain⟨go,yld⟩:=oks.1 _ hd;refine .inr ⟨go,λσ2 H2'=>∃ρ2,Fr X.K (prot H2 ρ) F σ2 H2' ρ2/\aT g tb ogs (ds.drop (i+1)) E ρ2,λσ2 H2' zq0=>by obtain⟨ρ2,f2',q2⟩:=zq0;exact⟨ds.length-(i+1),⋯,rfl,hlt,ρ2,f2',q2⟩,λy H3 hy=>?_⟩;obtain⟨S3,ry⟩:=yld y H3 hy;refine ttq _ F y _ σ' H3 ρ' _ (fr'.mono S3) ry (hg.mono _ _ _ _ (λρ1 q1 σ1 f1 _=>?_) q'.2);exact⟨_,ρ1,_,f1,q1,λρ3 σ3 H3' f3 q3=>⟨ρ3,f3,q3⟩,en2.nx,λρ3 σ3 H3' f3 q3=>⟨ρ3,f3,q3⟩,en2.rt⟩
 ·have e:i=ds.length:=⋯;subst e;rw[zx,b4] at q';exact .inl ⟨oks.2 (bg _),en2.nx _ _ _ fr' q'.2⟩
end
end Z
variable {te:Z.cO}{ds:List (List L2.aY×Z.Dv)}{ρ:List Z.Sl}
namespace Z
open L2
noncomputable def uZ(tc:jI)(tb:bV):bV:=λE ρ=>∃I:Nat->List Sl->Prop,(∃m,I m ρ) /\ ∀m ρ,I m ρ->tc ρ λb=>
 if b=ah then tb { E with nx:=λρ'=>∃m',m'<m/\I m' ρ',ct:=λρ'=>∃m',m'<m/\I m' ρ',bk:=E.nx } ρ else E.nx ρ
variable {js:List Nat}{σ:St}{j:Nat}{HZ:Hp}{g:wT}{elt iter:Expr}{ti:Au}{ts:lJ}
section
variable {c:Expr}{tb:bV}{R0:List iq}{k:Nat}{tc:jI}
theorem v4(hp:za (bn X.prog X.w) X.A X.env X.xe)(hc:QT X c tc)(hb:QSs X R0 tb):QS X (.While c R0 [] pos) (uZ tc tb):=by
 refine⟨λE E' ρ w h=>?_,λHZ F=>eJ (EA hp (hc.run HZ F) (hb.run HZ F)) λD σ H ⟨ρ,E,fr,h,en⟩=>?_⟩
 ·obtain⟨I,i0,step⟩:=h;refine⟨I,i0,λm ρ hI=>hc.mono _ _ _ (λb q=>?_) (step m ρ hI)⟩;have w2:EnLe { E with nx:=λρ'=>∃m',m'<m/\I m' ρ',ct:=λρ'=>∃m',m'<m/\I m' ρ',bk:=E.nx } { E' with nx:=λρ'=>∃m',m'<m/\I m' ρ',ct:=λρ'=>∃m',m'<m/\I m' ρ',bk:=E'.nx }:=
   ⟨λ_ h=>h,w.rt,w.nx,λ_ h=>h⟩
  split at q
  ·rw[QL ‹_›];exact hb.mono _ _ _ w2 q
  ·rw[Qi ‹_›];exact w.nx _ q
 ·obtain⟨I,⟨m0,i0⟩,step⟩:=h;refine⟨λm σ H=>∃ρ,Fr X.K HZ F σ H ρ/\I m ρ,⟨m0,ρ,fr,i0⟩,?_⟩;rintro m σ H ⟨ρ,fr,hI⟩;refine hc.step fr (step m ρ hI) λb H1 q S1=>?_;cases b with
  |true=>
   simp only[if_true] at q;refine jB ⟨λσ' H'=>∃m',m'<m /\ ∃ρ',Fr X.K HZ F σ' H' ρ'/\I m' ρ',λσ' H' zq1=>by obtain⟨m',l,h⟩:=zq1;exact⟨m',l,h⟩,ρ,_,fr.mono S1,q,?_,en.nx,?_,en.rt⟩
   ·rintro ρ' σ' H' fr' ⟨m',l,h⟩;exact⟨m',l,ρ',fr',h⟩
   ·rintro ρ' σ' H' fr' ⟨m',l,h⟩;exact⟨m',l,ρ',fr',h⟩
  |false=>exact jC (en.nx _ _ _ (fr.mono S1) (by simpa using q))
noncomputable def dP(js:List Nat)(ρ:List Sl):List Sl:=js.map λj=>(ρ[j]?).getD .un
noncomputable def dI(ρ0:List Sl)(g:wT)(tt:jI)(te:cO):List Dv->List Dv->(R->Prop)->Prop
 | [],acc,Q=>Q (.nw (.lst acc))
 |d::r,acc,Q=>g d ρ0 λρ1=>tt ρ1 λb=>if b=ah then te ρ1 λv=>(v.free=ah/\acc.length<tQ)/\dI ρ0 g tt te r (acc++[v.d]) Q else dI ρ0 g tt te r acc Q
noncomputable def gQ(k:Nat)(js:List Nat)(ti:Au)(g:wT)(tt:jI)(te:cO):cO:=λρ Q=>ti ρ λds _=>dI (au k .un++dP js ρ) g tt te ds [] Q
structure QTs(X:Cx)(ifs:List Expr)(t:jI):Prop where
 mono:∀(ρ:List Sl) (Q Q':Bool->Prop),(∀r,Q r->Q' r)->t ρ Q->t ρ Q'
 run:∀(HZ:Hp) (F:ae->Prop),L7 X ifs (liftT X.K HZ F t)
noncomputable def fZ:jI:=λ_ Q=>Q ah
theorem jV:QTs X [] fZ:=⟨λ_ _ _ w q=>w _ q,λHZ F pj s σ H Q I zq2=>by obtain⟨ρ,fr,q⟩:=zq2;exact Go pj s σ H Q I (q H (aM.refl _))⟩
theorem Gd{t:jI}(h:QT X c t):QTs X [c] t:=⟨h.mono,λHZ F=>Gm (h.run HZ F)⟩
theorem j9{s:Sl}(h:(dP js ρ)[i]?=aa s)(hs:s ≠ .un):∃j,js[i]?=aa j/\ρ[j]?=aa s:=by
 unfold dP at h;rw[bh] at h;cases e:js[i]? with
 |none=>rw[e] at h;cases h
 |some j=>
  rw[e] at h;refine⟨j,rfl,?_⟩;have h':(ρ[j]?).getD .un=s:=Option.some.inj h;cases q:ρ[j]? with
  |none=>rw[q] at h';exact absurd h'.symm hs
  |some o=>rw[q] at h';exact congrArg aa h'
theorem BA{x:V}(hj:js[i]?=aa j)(h:σ[j]?=aa (aa x)):(pick js σ)[i]?=aa (aa x):=by
 unfold pick;rw[bh,hj,map_some,h];rfl
theorem iF{ρ0:List Sl}{tt:jI}(mg:∀d ρ (Q Q':List Sl->Prop),(∀ρ,Q ρ->Q' ρ)->g d ρ Q->g d ρ Q')(mt:∀(ρ:List Sl) (Q Q':Bool->Prop),(∀r,Q r->Q' r)->tt ρ Q->tt ρ Q')(me:∀(ρ:List Sl) (Q Q':R->Prop),(∀r,Q r->Q' r)->te ρ Q->te ρ Q'):
  ∀(ds acc:List Dv) (Q Q':R->Prop),(∀r,Q r->Q' r)->dI ρ0 g tt te ds acc Q->dI ρ0 g tt te ds acc Q'
 | [],acc,Q,Q',w,h=>w _ h
 |d::r,acc,Q,Q',w,h=>by
  refine mg _ _ _ _ (λρ1 h=>mt _ _ _ (λb h=>?_) h) h;split at h
  ·rw[QL ‹_›];exact me _ _ _ (λv h=>⟨h.1,iF mg mt me r _ Q Q' w h.2⟩) h
  ·rw[Qi ‹_›];exact iF mg mt me r _ Q Q' w h
theorem Cq{l:List Nat}(hN:l.Nodup){x:Nat}(a:l[i]?=aa x)(b:l[j]?=aa x):i=j:=by
 obtain⟨h1,e1⟩:=bt.mp a;obtain⟨h2,e2⟩:=bt.mp b;have P:=fc.mp hN;rcases Nat.lt_trichotomy i j with h | h | h
 ·exact absurd (e1.trans e2.symm) (P i j h1 h2 h)
 ·exact h
 ·exact absurd (e2.trans e1.symm) (P j i h2 h1 h)
theorem Fr.block{H2:Hp}{k:Nat}{D:ae}{old:St}(fr:Fr K HZ F σ H ρ)(S:aM H H2)(hD:H D=ap)(hD2:H2 D≠ap)(nd:js.Nodup)(lo:old.length=k):
  ∃(P:Hp) (F':ae->Prop),Fr K P F' (old++pick js σ) H2 (au k .un++dP js ρ)/\(∀a,MM F' (au k .un++dP js ρ) a ↔ MM F ρ a \/ a=D)/\(∀a,F' a ↔ (MM F ρ a \/ a=D) /\ ¬ ∃d,Sl.own a d∈dP js ρ):=by
 have mem:∀{a:ae} {d:Dv},Sl.own a d∈au k Sl.un++dP js ρ->Sl.own a d∈dP js ρ:=λh=>by
  rcases ee.mp h with h | h
  ·cases dm h
  ·exact h
 have sub:∀{a:ae} {d:Dv},Sl.own a d∈dP js ρ->Sl.own a d∈ρ:=λh=>by
  obtain⟨i,e⟩:=px.mp h;obtain⟨j,_,e2⟩:=j9 e (by intro z;cases z);exact cq e2
 refine⟨Z.prot H2 (dP js ρ),λa=>(MM F ρ a \/ a=D) /\ ¬ ∃d,Sl.own a d∈dP js ρ,?_,λa=>⟨λh=>?_,λh=>?_⟩,λa=>Iff.rfl⟩
 ·have iff:∀a,MM (λa=>(MM F ρ a \/ a=D) /\ ¬ ∃d,Sl.own a d∈dP js ρ) (au k .un++dP js ρ) a->MM F ρ a \/ a=D:=λa h=>by
   rcases h with h | ⟨d,h⟩
   ·exact h.1
   ·exact .inl (.inr ⟨d,sub (mem h)⟩)
  have G:Gen K (MM F ρ) (MM (λa=>(MM F ρ a \/ a=D) /\ ¬ ∃d,Sl.own a d∈dP js ρ) (au k .un++dP js ρ)) H H2:=((Gen.fresh hD).trans (.mono S)).trans (.weak iff);refine⟨by simp[pick,dP,lo],λi s e=>?_,λi j a d d' e1 e2=>?_,λa d h=>rE (mem h),λb o h=>lR h,λa h=>?_,λPt q z=>?_⟩
  ·by_cases hi:i<k
   ·rw[bv (by simpa using hi),fv,QL hi] at e;cases e;trivial
   ·rw[cn (by simpa using lh hi),lg] at e;rw[cn (by rw[lo];exact lh hi),lo];cases s with
    |un=>trivial
    |v d=>
     obtain⟨j,hj,e2⟩:=j9 e (by intro z;cases z);obtain⟨x,hx,r⟩:=fr.sl j _ e2;exact⟨x,BA hj hx,r.gen G⟩
    |own a d=>
     obtain⟨j,hj,e2⟩:=j9 e (by intro z;cases z);obtain⟨hx,r⟩:=fr.sl j _ e2;exact⟨BA hj hx,r.gen G λo e=>S _ _ e⟩
  ·have ge:∀{i:Nat} {d:Dv},(au k Sl.un++dP js ρ)[i]?=aa (.own a d)->k<=i/\(dP js ρ)[i-k]?=aa (.own a d):=λ{i d} e=>by
    by_cases hi:i<k
    ·rw[bv (by simpa using hi),fv,QL hi] at e;cases e
    ·rw[cn (by simpa using lh hi),lg] at e;exact⟨lh hi,e⟩
   obtain⟨k1,e1⟩:=ge e1;obtain⟨k2,e2⟩:=ge e2;obtain⟨j1,hj1,e1⟩:=j9 e1 (by intro z;cases z);obtain⟨j2,hj2,e2⟩:=j9 e2 (by intro z;cases z);have:=fr.nd j1 j2 a d d' e1 e2;subst this;have:=Cq nd hj1 hj2;right
  ·rw[c8 h.2];rcases h.1 with m | m
   ·intro z;exact fr.dom m (S.free z)
   ·rw[m];exact hD2
  ·have e:=fr.old.t Pt q z;rw[c8 ?_]
   ·exact S _ _ (fr.same _ _ e)
   ·rintro⟨d,c⟩;rw[fr.new Pt d (sub c)] at e;cases e
 ·rcases h with h | ⟨d,h⟩
  ·exact h.1
  ·exact .inl (.inr ⟨d,sub (mem h)⟩)
 ·by_cases c:∃d,Sl.own a d∈dP js ρ
  ·obtain⟨d,c⟩:=c;exact .inr ⟨d,dg _ c⟩
  ·exact .inl ⟨h,c⟩
end
inductive liftG(K:ai)(k:Nat)(g:wT)(v:V)(σ:St)(H:Hp)(Q:St->Hp->Prop):Prop
 |mk (d:Dv) (HZ:Hp) (F:ae->Prop) (ρ:List Sl) (fr:Fr K HZ F σ H ρ) (r:Rep K (MM F ρ) H v d) (h:g d ρ (λρ1=>∀σ1,Fr K HZ F σ1 H ρ1->(∀j,k<=j->σ1[j]?=σ[j]?)->Q σ1 H))
theorem QG.pg{k:Nat}(h:QG X tg k g):PG X tg (liftG X.K k g):=by
 obtain⟨t,ht,tq⟩:=h.run;intro pj s σ H v u Q I r ⟨d,HZ,F,ρ,fr,rv,q⟩;exact ht pj s σ H v u Q I r (tq HZ F v d σ H ρ Q fr rv q)
theorem QE.pe(h:QE X e te):PE X e (λσ H Q=>∃HZ F,lift X.K HZ F te σ H Q):=λpj s σ H Q I zq3=>by obtain⟨HZ,F,q⟩:=zq3;exact h.run HZ F pj s σ H Q I q
variable {tt:jI}
theorem QTs.pt(h:QTs X ifs tt):L7 X ifs (λσ H Q=>∃HZ F,liftT X.K HZ F tt σ H Q):=λpj s σ H Q I zq4=>by obtain⟨HZ,F,q⟩:=zq4;exact h.run HZ F pj s σ H Q I q
theorem xG{l a b:List α}{k:Nat}(ha:a.length=k)(hl:l.length=k+b.length)(h:∀j,k<=j->l[j]?=(a++b)[j]?):l=l.take k++b:=by
 refine ox λj=>?_;by_cases hj:j<k
 ·rw[bv (by rw[kq];right),sv hj]
 ·rw[h j ⋯,cn ⋯,cn (by rw[kq];right),ha,kq,va ⋯]
theorem JU{tgt:Expr}{cl:List (az×ae)}{tgs ns:List az}{k:Nat}(hc:X.N=X.N)(hk:tgs.length=k)
  (hi:QI X tgt iter ti) (hg:∀(fp:List ae) (s:af) (H:Hp),QG (nO X QM cl fp (tgs++ns) s H) tgt k g) (ht:∀(fp:List ae) (s:af) (H:Hp),QTs (nO X QM cl fp (tgs++ns) s H) ifs tt)
  (he:∀(fp:List ae) (s:af) (H:Hp),QE (nO X QM cl fp (tgs++ns) s H) elt te)
  (R8:pq QM X.env=gc cl) (R3:∀x c,cl.lookup x=aa c->X.env.cells.lookup x=aa c)
  (Rg:∀x,((fh QM X.env).names.lookup x=aa .cell \/ (fh QM X.env).names.lookup x=aa .free) -> ∃c,cl.lookup x=aa c)
  (hjs:js.map (λj=>X.N[j]?)=ns.map aa) (hin:∀y∈ns,(fh QM X.env).names.lookup y=aa .cell \/ (fh QM X.env).names.lookup y=aa .free)
  (R9:∀y∈ns,X.env.kindOf y=aa .cell \/ X.env.kindOf y=aa .free) (nd:js.Nodup)
  (QQ:autoParam (∀y∈QM.names,y.2 ≠ .cell) Ax._auto_1) (QY:autoParam (QM.kind=.function) c6._auto_1)
  (QR:autoParam (∀y∈QM.names,y.2=.local->QM.names.lookup y.1=aa .local) Ax._auto_1)
  (hs:autoParam (∀z,fm iter X.env z=gc z) GO._auto_1):
  QE X (.ListComp elt [⟨tgt,iter,ifs,0⟩] QM pos) (gQ k js ti g tt te):=by
 have mg:=(hg [] X.s₀ λ_=>ap).mono;have ag:=(hg [] X.s₀ λ_=>ap).agree;have mt:=(ht [] X.s₀ λ_=>ap).mono;have me:=(he [] X.s₀ λ_=>ap).mono;refine⟨λρ Q Q' w h=>hi.mono _ _ _ (λds ogs h=>iF mg mt me ds [] Q Q' w h) h,λHZ F=>?_⟩;obtain⟨wi,hwi,wiq⟩:=hi.run HZ F;refine c5 (EL (tgs:=tgs) (ns:=ns) (js:=js) (g:=liftG X.K k g) (tt:=λσ H Q=>∃HZ F,liftT X.K HZ F tt σ H Q) (te:=λσ H Q=>∃HZ F,lift X.K HZ F te σ H Q) hc hwi (λfp s H=>(hg fp s H).pg) (λfp s H=>(ht fp s H).pt) (λfp s H=>(he fp s H).pe) R8 R3 Rg hjs hin R9 QQ QY QR hs) λσ H Q zz=>?_;obtain⟨ρ,fr,h⟩:=zz;subst hk;refine wiq σ H ρ _ fr (hi.mono _ _ _ (λds ogs q J H1 S1 gd ok=>?_) h);intro D hD;have fr1:=fr.mono S1;refine⟨λi m acc H2=>m=ds.length-i/\i<=ds.length/\aM H1 H2 /\ ∃accD,Reps X.K (λa=>MM F ρ a \/ a=D) H2 acc accD /\
  dI (au tgs.length .un++dP js ρ) g tt te (ds.drop i) accD (λr=>∀x H',aM H H'->dC X.K (MM F ρ) (wX ρ) H x r H'->Q x H'),
  ⟨ds.length,by simp,mj _,aM.new' hD,[],.nil,by simpa using q⟩,?_⟩
 rintro i m acc H2 ⟨rfl,hil,S2,accD,ra,q⟩ hDl;have G2:Gen X.K (MM F ρ) (λa=>MM F ρ a \/ a=D) H1 H2:=(Gen.fresh hD).trans (.mono S2);have oks:=ok i H2 (λa=>MM F ρ a \/ a=D) (λb o e=>S2 _ _ (lR e)) G2 λp hp=>by
  obtain⟨_,_,_,ow⟩:=fr1.at_own (gd p hp);exact ow.gen G2 λo e=>S2 _ _ e
 by_cases hlt:i<ds.length
 ·have hd:ds[i]?=aa ds[i]:=by simp[hlt]
  rw[lr hlt] at q;obtain⟨go,yld⟩:=oks.1 _ hd;refine .inr ⟨go,λy H3 hy old lo=>?_⟩;obtain⟨S3,ry⟩:=yld y H3 hy;have hD3:=S3 _ _ hDl;obtain⟨P,F',fr',iff,iffF⟩:=fr1.block (js:=js) (old:=old) (S2.trans S3) hD (by rw[hD3];simp) nd lo;refine⟨_,P,F',_,fr',ry.weak λa z=>(iff a).mp z,mg _ _ _ _ (λρ1 q1 σ1 f1 a1=>?_) (ag _ _ _ q)⟩;obtain⟨q1,l1,b1⟩:=q1;have up:∀a,MM F ρ a \/ a=D->MM F' ρ1 a:=λa z=>by
   rcases(iff a).mpr z with z | ⟨d,z⟩
   ·exact .inl z
   ·refine .inr ⟨d,?_⟩;obtain⟨j,e⟩:=px.mp z;have hj:tgs.length<=j:=by
     by_cases hj:j<tgs.length
     ·rw[bv (by simpa using hj),fv,QL hj] at e;cases e
     ·right
    rw[<- b1 j hj] at e;exact cq e
  have hlen:σ1.length=tgs.length+(pick js σ).length:=by
   have:=f1.len;rw[l1] at this;simp[pick,dP] at this ⊢;right
  refine⟨⟨σ1.take tgs.length,by rw[kq];right,xG lo hlen a1⟩,P,F',ρ1,f1,mt _ _ _ (λb q5 H5 S5=>?_) q1⟩;have S25:=(S2.trans S3).trans S5;cases b with
  |true=>
   simp only[if_true] at q5;refine jB ⟨P,F',ρ1,f1.mono S5,me _ _ _ (λr q6 x H6 S6 rx=>?_) q5⟩;have hD6:=S6 _ _ (S5 _ _ hD3);obtain⟨⟨rf,rl⟩,q6⟩:=q6;have rep:=(rx.rep (λa z=>(f1.mono S5).dom z) rf).weak up;refine⟨hD6,by rw[ra.length];exact rV rl,ds.length-(i+1),⋯,rfl,hlt,λb o e=>?_,_,?_,q6⟩
   ·rw[bB (bC e hD)];exact S6 _ _ (S25 _ _ e)
   ·have G6:Gen X.K (λa=>MM F ρ a \/ a=D) (λa=>MM F ρ a \/ a=D) H6 (upd H6 D (.lst (acc++[x]))):=Gen.write (.inr rfl) (by rw[hD6];trivial);exact((ra.mono ((S3.trans S5).trans S6)).append (.cons rep .nil)).gen G6
  |false=>
   simp only[cv,if_false] at q5;exact jC ⟨S5 _ _ hD3,ds.length-(i+1),⋯,rfl,hlt,S25,accD,ra.mono (S3.trans S5),q5⟩
 ·have e:i=ds.length:=⋯;subst e;rw[zx] at q;exact .inl ⟨oks.2 (bg _),q (.ref D) H2 (S1.trans S2) ⟨D,rfl,S1.free hD,acc,hDl,ra⟩⟩
noncomputable def lK(X:Cx)(f:ac)(p:List Dv->(R->Prop)->Prop):Prop:=
 (∀ds (Q Q':R->Prop),(∀r,Q r->Q' r)->p ds Q->p ds Q') /\ ∃r:List V->Hp->VK->Prop,fX X f r /\ ∀(M:ae->Prop) (O:ae->Dv->Prop) (H:Hp) (xs:List V) (ds:List Dv) (Q:VK),uP X.K M H xs ds ->
  p ds (λrr=>∀z H',aM H H'->dC X.K M O H z rr H'->Q z H')->r xs H Q
noncomputable def i4(p:List Dv->(R->Prop)->Prop)(ts:lJ):cO:=λρ Q=>ts ρ λrs=>p (rs.map R.d) Q
variable {T:String}
section
variable {id:String}{pp:List Dv->(R->Prop)->Prop}
theorem Bx{r:List V->Hp->VK->Prop}(ha:QA X es ts)(mo:∀ds (Q Q':R->Prop),(∀r,Q r->Q' r)->pp ds Q->pp ds Q')
  (hr:∀(M:ae->Prop) (O:ae->Dv->Prop) (H:Hp) (xs:List V) (ds:List Dv) (Q:VK),uP X.K M H xs ds->pp ds (λrr=>∀z H',aM H H'->dC X.K M O H z rr H'->Q z H')->r xs H Q)
  (HZ:Hp) (F:ae->Prop) (σ:St) (H:Hp) (Q:VK) (h:lift X.K HZ F (i4 pp ts) σ H Q):NO r (liftA X.K HZ F ts) σ H Q:=by
 obtain⟨ρ,fr,h⟩:=h;refine ha.step fr h λrs xs H1 q S1 r1=>?_;exact hr (MM F ρ) (wX ρ) H1 xs _ Q r1.c (mo _ _ _ (λrr k z H' S rz=>k z H' (S1.trans S) (rz.ahead S1)) q)
theorem bI(hc:lK X (.builtin id) pp)(hg:Gl X x)(hm:X.mg x=ap)(hv:jy x=aa (.builtin id))(ha:QA X (e::es) ts)(hn:autoParam (x ≠ "__name__") mQ._auto_1)(hdb:autoParam ((x==("__debug__" : az))=aj) mQ._auto_1)
  (he:autoParam (aw (e::es) X.env=(aj,em e X.env)::aw es X.env) c6._auto_1) (hpl:autoParam ((ix pos (aw es X.env)).any (·.1)=aj) c6._auto_1):QE X (.Call (.Name x p) (e::es) [] pos) (i4 pp ts):=by
 obtain⟨mo,r,hR,hr⟩:=hc;exact⟨λρ Q Q' w q=>ha.mono _ _ _ (λrs q=>mo _ _ _ w q) q,λHZ F=>c5 (xQ hR hg hm hv (ha.run HZ F) hn hdb he hpl) (Bx ha mo hr HZ F)⟩
theorem o5(hc:lK X (.type T) pp)(hg:Gl X x)(hm:X.mg x=ap)(hv:jy x=aa (.type T))(ha:QA X (e::es) ts)(hn:autoParam (x ≠ "__name__") mQ._auto_1)(hdb:autoParam ((x==("__debug__" : az))=aj) mQ._auto_1)
  (he:autoParam (aw (e::es) X.env=(aj,em e X.env)::aw es X.env) c6._auto_1) (hpl:autoParam ((ix pos (aw es X.env)).any (·.1)=aj) c6._auto_1):QE X (.Call (.Name x p) (e::es) [] pos) (i4 pp ts):=by
 obtain⟨mo,r,hR,hr⟩:=hc;exact⟨λρ Q Q' w q=>ha.mono _ _ _ (λrs q=>mo _ _ _ w q) q,λHZ F=>c5 (CZ hR hg hm hv (ha.run HZ F) hn hdb he hpl) (Bx ha mo hr HZ F)⟩
noncomputable def fC:List Dv->(R->Prop)->Prop
 | [.lst xs],Q=>Q (.v (.int xs.length))
 | [.tup xs],Q=>Q (.v (.int xs.length))
 | [.scr ns],Q=>Q (.v (.int ns.length))
 | [.str y],Q=>y.length<=tQ/\Q (.v (.int y.length))
 | [.dik kvs],Q=>Q (.v (.int kvs.length))
 |_,_=>False
theorem RepK.length{K:ai}{M:ae->Prop}{H:Hp}{xs:List (aY×V)}{ds:List (aY×Dv)}(r:RepK K M H xs ds):xs.length=ds.length:=r.ind (P:=λxs ds=>xs.length=ds.length) rfl λ_ _ _ _ _ _ _ ih=>congrArg (· + 1) ih
theorem dB:lK X (.builtin "len") fC:=by
 refine⟨λds Q Q' w h=>?_,_,wO.or (wN.or DO),λM O H xs ds Q c h=>?_⟩
 ·unfold fC at *;split at h<;>first | exact w _ h | exact⟨h.1,w _ h.2⟩ | exact h
 ·unfold fC at h;split at h
  ·obtain⟨x,rfl,cx⟩:=eB c;obtain⟨a,ys,rfl,ea,ra⟩:=cx.lst;refine .inl ⟨a,ys,rfl,.inl (eZ.of ea),?_⟩;rw[ra.length];exact h _ H (aM.refl _) (Rep.int _)
  ·obtain⟨x,rfl,cx⟩:=eB c;obtain⟨a,ys,rfl,ea,ra⟩:=cx.tup;refine .inl ⟨a,ys,rfl,.inr (kH.of ea),?_⟩;rw[ra.length];exact h _ H (aM.refl _) (Rep.int _)
  ·obtain⟨x,rfl,cx⟩:=eB c;obtain⟨a,rfl,ea⟩:=cx.scr;refine .inl ⟨a,_,rfl,.inl ea.sq,?_⟩;rw[bc];exact h _ H (aM.refl _) (Rep.int _)
  ·obtain⟨x,rfl,cx⟩:=eB c;obtain rfl:=cx.str;exact .inr (.inl ⟨_,rfl,gK h.1,h.2 _ H (aM.refl _) (Rep.int _)⟩)
  ·obtain⟨x,rfl,cx⟩:=eB c;obtain⟨a,ys,rfl,ea,ra⟩:=cx.dik;refine .inr (.inr ⟨a,ys,rfl,ea,?_⟩);rw[ra.length];exact h _ H (aM.refl _) (Rep.int _)
  ·exact h.elim
noncomputable def yF:List Dv->(R->Prop)->Prop
 | [.int i],Q=>Q (.v (.int (if i<0 then -i else i)))
 |_,_=>False
theorem wK:lK X (.builtin "abs") yF:=by
 refine⟨λds Q Q' w h=>?_,_,GA,λM O H xs ds Q c h=>?_⟩
 ·unfold yF at *;split at h<;>first | exact w _ h | exact h
 ·unfold yF at h;split at h
  ·obtain⟨x,rfl,cx⟩:=eB c;obtain rfl:=cx.int;exact⟨_,rfl,h _ H (aM.refl _) (Rep.int _)⟩
  ·exact h.elim
noncomputable def rJ:List Dv->(R->Prop)->Prop
 | [.int i,.int j],Q=>Q (.v (.int (if j<i then j else i)))
 |_,_=>False
noncomputable def Lu:List Dv->(R->Prop)->Prop
 | [.int i,.int j],Q=>Q (.v (.int (if j > i then j else i)))
 |_,_=>False
theorem Bz(hc:X.calm=ah):lK X (.builtin "min") rJ:=by
 refine⟨λds Q Q' w h=>?_,_,DN hc,λM O H xs ds Q c h=>?_⟩
 ·unfold rJ at *;split at h<;>first | exact w _ h | exact h
 ·unfold rJ at h;split at h
  ·obtain⟨x,y,rfl,cx,cy⟩:=Ao c;obtain rfl:=cx.int;obtain rfl:=cy.int;exact⟨_,_,rfl,h _ H (aM.refl _) (Rep.int _)⟩
  ·exact h.elim
noncomputable def EQ:List Dv->(R->Prop)->Prop
 | [.lst ds],Q=>∃ns:List Int,ds=ns.map .int/\Q (.v (.int ns.sum))
 |_,_=>False
noncomputable def Ek:List Dv->(R->Prop)->Prop
 | [.lst ds],Q=>∃bs:List Bool,ds=bs.map .bl/\Q (.v (.bl (bs.all _root_.id)))
 |_,_=>False
theorem Reps.of_ints{K:ai}{M:ae->Prop}{H:Hp}:∀{xs:List V} {ns:List Int},Reps K M H xs (ns.map .int)->xs=ns.map V.int
 |_,[],.nil=>rfl
 |_,n::r,.cons a t=>by cases a;rw[Reps.of_ints t];rfl
theorem Reps.of_bls{K:ai}{M:ae->Prop}{H:Hp}:∀{xs:List V} {ns:List Bool},Reps K M H xs (ns.map .bl)->xs=ns.map V.bl
 |_,[],.nil=>rfl
 |_,n::r,.cons a t=>by cases a;rw[Reps.of_bls t];rfl
theorem Kz(hc:X.N=X.N):lK X (.builtin "sum") EQ:=by
 refine⟨λds Q Q' w h=>?_,_,DM hc,λM O H xs ds Q c h=>?_⟩
 ·unfold EQ at *;split at h
  ·obtain⟨ns,e,h⟩:=h;exact⟨ns,e,w _ h⟩
  ·exact h
 ·unfold EQ at h;split at h
  ·obtain⟨ns,rfl,h⟩:=h;obtain⟨x,rfl,cx⟩:=eB c;obtain⟨a,ys,rfl,ea,ra⟩:=cx.lst;obtain rfl:=ra.of_ints;exact⟨a,ns,rfl,eZ.of ea,h _ H (aM.refl _) (Rep.int _)⟩
  ·exact h.elim
theorem L0(hc:X.calm=ah):lK X (.builtin "all") Ek:=by
 refine⟨λds Q Q' w h=>?_,_,DP hc,λM O H xs ds Q c h=>?_⟩
 ·unfold Ek at *;split at h
  ·obtain⟨ns,e,h⟩:=h;exact⟨ns,e,w _ h⟩
  ·exact h
 ·unfold Ek at h;split at h
  ·obtain⟨ns,rfl,h⟩:=h;obtain⟨x,rfl,cx⟩:=eB c;obtain⟨a,ys,rfl,ea,ra⟩:=cx.lst;obtain rfl:=ra.of_bls;exact⟨a,ns,rfl,eZ.of ea,h _ H (aM.refl _) (Rep.bl _)⟩
  ·exact h.elim
noncomputable def oA:List Dv->(R->Prop)->Prop
 | [.lst ds],Q=>Q (.nw (.lst ds))
 | [.tup ds],Q=>Q (.nw (.lst ds))
 | [.scr ns],Q=>Q (.nw (.lst (ns.map .int)))
 |_,_=>False
theorem C0:lK X (.type "list") oA:=by
 refine⟨λds Q Q' w h=>?_,_,wM,λM O H xs ds Q c h=>?_⟩
 ·unfold oA at *;split at h<;>first | exact w _ h | exact h
 ·unfold oA at h;split at h
  ·obtain⟨x,rfl,cx⟩:=eB c;obtain⟨a,ys,rfl,ea,ra⟩:=cx.lst;exact⟨a,ys,rfl,.inl (eZ.of ea),λl hl=>h _ _ (aM.new' hl) (jX hl ra)⟩
  ·obtain⟨x,rfl,cx⟩:=eB c;obtain⟨a,ys,rfl,ea,ra⟩:=cx.tup;exact⟨a,ys,rfl,.inr (kH.of ea),λl hl=>h _ _ (aM.new' hl) (jX hl ra)⟩
  ·obtain⟨x,rfl,cx⟩:=eB c;obtain⟨a,rfl,ea⟩:=cx.scr;exact⟨a,_,rfl,.inl ea.sq,λl hl=>h _ _ (aM.new' hl) (jX hl (Reps.ints _))⟩
  ·exact h.elim
noncomputable def n9:List Dv->(R->Prop)->Prop
 | [.lst ds],Q=>Q (.v (.tup ds))
 | [.tup ds],Q=>Q (.v (.tup ds))
 |_,_=>False
theorem zN:lK X (.type "tuple") n9:=by
 refine⟨λds Q Q' w h=>?_,_,tN,λM O H xs ds Q c h=>?_⟩
 ·unfold n9 at *;split at h<;>first | exact w _ h | exact h
 ·unfold n9 at h;split at h
  ·obtain⟨x,rfl,cx⟩:=eB c;obtain⟨a,ys,rfl,ea,ra⟩:=cx.lst;exact⟨a,ys,rfl,.inl ⟨eZ.of ea,λl hl=>h _ _ (aM.new' hl) (DZ hl ra)⟩⟩
  ·obtain⟨x,rfl,cx⟩:=eB c;obtain⟨a,ys,rfl,ea,ra⟩:=cx.tup;exact⟨a,ys,rfl,.inr ⟨kH.of ea,h _ H (aM.refl _) (Rep.tup ea ra)⟩⟩
  ·exact h.elim
noncomputable def N5:Dv->String
 | .non=>"NoneType"
 | .bl _=>"bool"
 | .int _=>"int"
 | .str _=>"str"
 | .tup _=>"tuple"
 | .lst _=>"list"
 | .scr _=>"list"
 | .dik _=>"dict"
 | .dit _=>"dict"
 | .obj _ _=>""
 | .exc _ _=>""
 | .dns _=>""
noncomputable def I0(T:String)(d:Dv):Bool:=N5 d==T || (T == "int" && N5 d == "bool")
noncomputable def xB:Dv->Bool
 | .obj _ _=>aj
 | .exc _ _=>aj
 | .dns _=>aj
 | .scr _=>aj
 |_=>ah
noncomputable def qC(T:String)(te:cO):cO:=λρ Q=>te ρ λr=>xB r.d=ah/\Q (.v (.bl (I0 T r.d)))
theorem Hu(hT:T = "int" \/ T = "bool" \/ T = "tuple" \/ T = "list" \/ T = "str")(d:Dv)(ho:xB d=ah):Qg K (.type (N5 d)) (.type T)=aa (I0 T d):=by
 rcases hT with rfl | rfl | rfl | rfl | rfl<;>cases d<;>first | (simp[xB] at ho;done) | with_unfolding_all rfl
theorem cW.ty{x:V}{d:Dv}(c:cW K M H x d)(ho:xB d=ah):TyOf K H x (.type (N5 d)):=by
 cases d with
 |non=>obtain rfl:=c.non;exact .non
 |bl b=>obtain rfl:=c.bl;exact .bl b
 |int i=>obtain rfl:=c.int;exact .int i
 |str y=>obtain rfl:=c.str;exact .str y
 |tup ds=>obtain⟨a,xs,rfl,e,_⟩:=c.tup;exact .tup e
 |lst ds=>obtain⟨a,xs,rfl,e,_⟩:=c.lst;exact .lst e
 |dik ds=>obtain⟨a,xs,rfl,e,_⟩:=c.dik;exact .dK e
 |dit ds=>obtain⟨a,ep,xs,rfl,e,_⟩:=c.dit;exact .dT e
 |obj C fs=>simp[xB] at ho
 |scr ns=>simp[xB] at ho
 |exc C p=>simp[xB] at ho
 |dns ks=>simp[xB] at ho
theorem o3{p2:gv}(hT:T = "int" \/ T = "bool" \/ T = "tuple" \/ T = "list" \/ T = "str")(hg:Gl X "isinstance")(hm:X.mg "isinstance" = ap)(ha:QE X e te)(hty:PE X (.Name x p2) (tC (.ty T)))
  (he:autoParam (aw [e,.Name x p2] X.env=(aj,em e X.env)::aw [.Name x p2] X.env) c6._auto_1) (he2:autoParam (aw [Expr.Name x p2] X.env=(aj,em (.Name x p2) X.env)::aw [] X.env) c6._auto_1) (hpl:autoParam ((ix pos (aw [.Name x p2] X.env)).any (·.1)=aj) c6._auto_1):
  QE X (.Call (.Name "isinstance" p) [e,.Name x p2] [] pos) (qC T te):=by
 refine⟨λρ Q Q' w q=>ha.mono _ _ _ (λr q=>⟨q.1,w _ q.2⟩) q,λHZ F=>c5 (xQ G9 hg hm boot_isinstance (o6 (ha.run HZ F) (o6 hty v9 he2) he) ∅ ∅ he hpl) λσ H Q zz=>?_⟩;obtain⟨ρ,fr,h⟩:=zz;refine ha.step fr h λr x H1 q S1 r1=>?_;exact⟨x,T,_,_,rfl,r1.c.ty q.1,Hu hT _ q.1,q.2 _ H1 S1 (Rep.bl _)⟩
end
noncomputable def kD:aY->Dv
 | .inl i=>.int i
 | .inr x=>.str x
noncomputable def cA:Dv->Dv->(R->Prop)->Prop
 | .lst xs,.int i,Q=>match j3 xs i with
  |some d=>Q (.v d)
  |none=>False
 | .tup xs,.int i,Q=>match j3 xs i with
  |some d=>Q (.v d)
  |none=>False
 | .scr ns,.int i,Q=>match j3 ns i with
  |some n=>Q (.v (.int n))
  |none=>False
 | .str z,.int i,Q=>z.length<=tQ/\match j3 z.cps.toList i with
  |some c=>Q (.v (.str ⟨#[c]⟩))
  |none=>False
 | .dik kvs,.int i,Q=>match kvs.find? (λkv=>decide (kv.1=bo i)) with
  |some kv=>Q (.v kv.2)
  |none=>False
 | .dik kvs,.str x,Q=>match kvs.find? (λkv=>decide (kv.1=qp x)) with
  |some kv=>Q (.v kv.2)
  |none=>False
 | .dit kvs,.tup ds,Q=>∃k:List aY,ds=k.map kD/\match kvs.find? (λkv=>decide (kv.1=k)) with
  |some kv=>Q (.v kv.2)
  |none=>False
 |_,_,_=>False
variable {tb ta:cO}{a b:Expr}
theorem Reps.at{K:ai}{M:ae->Prop}{H:Hp}{xs:List V}{ds:List Dv}{i:Int}{d:Dv}(r:Reps K M H xs ds)(h:j3 ds i=aa d):∃x,j3 xs i=aa x/\Rep K M H x d:=by
 unfold j3 at *;rw[r.length];cases e:pG ds.length i with
 |none=>rw[e] at h;cases h
 |some j=>
  rw[e] at h;obtain⟨x,hx,rx⟩:=r.get (i:=j) h;exact⟨x,hx,rx⟩
theorem IS{β:Type}{f:α->β}{l:List α}{i:Int}:j3 (l.map f) i=(j3 l i).map f:=by
 unfold j3;rw[bc];cases pG l.length i with
 |none=>rfl
 |some j=>simp
theorem RepK.val{k:aY}{xs:List (aY×V)}{ds:List (aY×Dv)}(r:RepK K M H xs ds):(∀kv,ds.find? (λkv=>decide (kv.1=k))=aa kv -> ∃x,iO xs k=aa x/\Rep K M H x kv.2)/\(ds.find? (λkv=>decide (kv.1=k))=ap->iO xs k=ap):=
 r.ind (P:=λxs ds=>(∀kv,ds.find? (λkv=>decide (kv.1=k))=aa kv -> ∃x,iO xs k=aa x/\Rep K M H x kv.2)/\(ds.find? (λkv=>decide (kv.1=k))=ap->iO xs k=ap)) ⟨λ_ h=>(by cases h),λ_=>rfl⟩ λk' x d xs ds a _ ih=>by
  by_cases e:k'=k
  ·rw[oy (by simpa using e),kN e];exact⟨λkv h=>by cases h;exact⟨x,rfl,a⟩,λh=>by cases h⟩
  ·rw[oz (by simpa using e),kO e];exact ih
theorem RepT.val{k:List aY}(r:RepT K M H xs ds):(∀kv,ds.find? (λkv=>decide (kv.1=k))=aa kv -> ∃x,iO xs k=aa x/\Rep K M H x kv.2)/\(ds.find? (λkv=>decide (kv.1=k))=ap->iO xs k=ap):=
 r.ind (P:=λxs ds=>(∀kv,ds.find? (λkv=>decide (kv.1=k))=aa kv -> ∃x,iO xs k=aa x/\Rep K M H x kv.2)/\(ds.find? (λkv=>decide (kv.1=k))=ap->iO xs k=ap)) ⟨λ_ h=>(by cases h),λ_=>rfl⟩ λk' x d xs ds a _ ih=>by
  by_cases e:k'=k
  ·rw[oy (by simpa using e),kN e];exact⟨λkv h=>by cases h;exact⟨x,rfl,a⟩,λh=>by cases h⟩
  ·rw[oz (by simpa using e),kO e];exact ih
theorem Reps.keys{K:ai}{M:ae->Prop}{H:Hp}:∀{xs:List V} {k:List aY},Reps K M H xs (k.map kD)->xs=k.map kV
 |_,[],.nil=>rfl
 |_,.inl i::r,.cons a t=>by cases a;rw[Reps.keys t];rfl
 |_,.inr x::r,.cons a t=>by cases a;rw[Reps.keys t];rfl
noncomputable def Na:R2:=λx y H Q=>∃a v,x=.ref a/\mJ H a y (aa v)/\Q v H
theorem Hy(hu:X.A.units+1<gy):GP X Na:=by
 intro QU R4 pj s σ H x y v u Q I rx ry h hs;obtain⟨a,z,rfl,g,q⟩:=h;cases rx;have hT:=zI I g;unfold wt;refine ab ?_;rw[getitemInPython_of_ne hT.not_modules];refine ab (wpAny_specialOf hT PySem.F.slot_dict_getitem.lookup ?_);have fin:be (bn X.prog X.w) X.A (zv R4 aj (.ref a) u) (λr s₃=>be (bn X.prog X.w) X.A (letTemporaryGo QU (.ref a) r >>= λ_=>gc r) (EP X pj σ Q) X.xe s₃) X.xe s:=by
  rw[hs];exact wpAny_operating (fx (DK hu I g ry λw' s' I' rw'=>show EP X pj σ Q w' s' from⟨z,H,I',rw',q⟩) (λr s₃ h₃=>ab (wpAny_letTemporaryGo (ao h₃))) λ_ _ x=>x)
 first
  |exact ao (ab fin)
  |exact ab (ao (ab fin))
  |exact ab fin
theorem yA:∀dx dy (Q Q':R->Prop),(∀r,Q r->Q' r)->cA dx dy Q->cA dx dy Q':=by
 intro dx dy Q Q' w h;unfold cA at *;split at h
 ·split at h
  ·exact w _ h
  ·exact h
 ·split at h
  ·exact w _ h
  ·exact h
 ·split at h
  ·exact w _ h
  ·exact h
 ·refine⟨h.1,?_⟩;have h2:=h.2;split at h2
  ·exact w _ h2
  ·exact h2
 ·split at h
  ·exact w _ h
  ·exact h
 ·split at h
  ·exact w _ h
  ·exact h
 ·obtain⟨k,e,h⟩:=h;refine⟨k,e,?_⟩;split at h
  ·exact w _ h
  ·exact h
 ·exact h
theorem b3(hu:X.A.units+1<gy)(ha:QE X a ta)(hb:QE X b tb)(hs:autoParam (C6 b) OW._auto_1):QE X (.Subscript a b pos) (aL cA ta tb):=by
 refine⟨oH ha hb yA,λHZ F=>c5 (Lp (Kj.or (Hy hu)) (ha.run HZ F) (hb.run HZ F) hs) (qM ha hb (λM O H x y dx dy Q cx cy h=>?_) yA HZ F)⟩;unfold cA at h;split at h
 ·rename_i xs i;split at h
  ·rename_i d hd;obtain⟨p,vs,rfl,ea,ra⟩:=cx.lst;obtain rfl:=cy.int;obtain⟨z,hz,rz⟩:=ra.at hd;exact .inl (.inl ⟨p,vs,i,z,rfl,rfl,eZ.of ea,hz,h _ H (aM.refl _) rz⟩)
  ·exact h.elim
 ·rename_i xs i;split at h
  ·rename_i d hd;obtain⟨p,vs,rfl,ea,ra⟩:=cx.tup;obtain rfl:=cy.int;obtain⟨z,hz,rz⟩:=ra.at hd;exact .inl (.inr (.inl ⟨p,vs,i,z,rfl,rfl,kH.of ea,hz,h _ H (aM.refl _) rz⟩))
  ·exact h.elim
 ·rename_i ns i;split at h
  ·rename_i n hn;obtain⟨p,rfl,ea⟩:=cx.scr;obtain rfl:=cy.int;refine .inl (.inl ⟨p,_,i,.int n,rfl,rfl,ea.sq,?_,h _ H (aM.refl _) (Rep.int _)⟩);rw[IS,hn];rfl
  ·exact h.elim
 ·rename_i z i;obtain⟨hl,h⟩:=h;split at h
  ·rename_i c hc;obtain rfl:=cx.str;obtain rfl:=cy.int;exact .inl (.inr (.inr ⟨z,i,c,rfl,rfl,gK hl,hc,h _ H (aM.refl _) (Rep.str _)⟩))
  ·exact h.elim
 ·split at h
  ·rename_i kv hk;obtain⟨p,kvs,rfl,ea,ra⟩:=cx.dik;obtain rfl:=cy.int;obtain⟨z,hz,rz⟩:=ra.val.1 kv hk;exact .inr ⟨p,z,rfl,by rw[<- hz];exact mJ.k (k:=bo _) ea,h _ H (aM.refl _) rz⟩
  ·exact h.elim
 ·split at h
  ·rename_i kv hk;obtain⟨p,kvs,rfl,ea,ra⟩:=cx.dik;obtain rfl:=cy.str;obtain⟨z,hz,rz⟩:=ra.val.1 kv hk;exact .inr ⟨p,z,rfl,by rw[<- hz];exact mJ.k (k:=qp _) ea,h _ H (aM.refl _) rz⟩
  ·exact h.elim
 ·obtain⟨k,rfl,h⟩:=h;split at h
  ·rename_i kv hk;obtain⟨p,ep,kvs,rfl,ea,ra⟩:=cx.dit;obtain⟨b,ys,rfl,eb,rb⟩:=cy.tup;obtain rfl:=rb.keys;obtain⟨z,hz,rz⟩:=ra.val.1 kv hk;exact .inr ⟨p,z,rfl,by rw[<- hz];exact mJ.t ea eb,h _ H (aM.refl _) rz⟩
  ·exact h.elim
 ·exact h.elim
noncomputable abbrev Mn:=List Sl->(Option Int->Prop)->Prop
structure QO(X:Cx)(e:Option Expr)(t:Mn):Prop where
 mono:∀(ρ:List Sl) (Q Q':Option Int->Prop),(∀r,Q r->Q' r)->t ρ Q->t ρ Q'
 run:∀(HZ:Hp) (F:ae->Prop),PO X e (λσ H Q=>∃ρ,Fr X.K HZ F σ H ρ/\t ρ λo=>∀H',aM H H'->Q o H')
noncomputable def lV:Mn:=λ_ Q=>Q ap
noncomputable def uD(te:cO):Mn:=λρ Q=>te ρ λr=>match r.d with
 | .int i=>Q (aa i)
 |_=>False
theorem GJ{e:Option Expr}{t t':TO}(h:PO X e t)(w:∀σ H Q,t' σ H Q->t σ H Q):PO X e t':=λpj s σ H Q I q=>h pj s σ H Q I (w σ H Q q)
theorem B4:QO X ap lV:=⟨λ_ _ _ w q=>w _ q,λHZ F=>GJ Gu λσ H Q zq5=>by obtain⟨ρ,fr,q⟩:=zq5;exact q H (aM.refl _)⟩
theorem B3(h:QE X e te):QO X (aa e) (uD te):=by
 refine⟨λρ Q Q' w q=>h.mono _ _ _ (λr q=>?_) q,λHZ F=>GJ (Gs (h.run HZ F)) λσ H Q ⟨ρ,fr,q⟩=>?_⟩
 ·split at q
  ·exact w _ q
  ·exact q
 ·refine h.step fr q λr x H1 q S1 r1=>?_;split at q
  ·rename_i i e;have c:=r1.c;rw[e] at c;exact⟨i,c.int,q H1 S1⟩
  ·exact q.elim
noncomputable def cut(xs:List α)(lo hi:Option Int):List α:=(xs.drop (HT.f6 xs.length 0 lo)).take (HT.f6 xs.length xs.length hi-HT.f6 xs.length 0 lo)
noncomputable def Io:Dv->Option Int->Option Int->(R->Prop)->Prop
 | .lst xs,lo,hi,Q=>Q (.nw (.lst (cut xs lo hi)))
 | .scr ns,lo,hi,Q=>Q (.nw (.lst ((cut ns lo hi).map .int)))
 | .tup xs,lo,hi,Q=>¬(HT.f6 xs.length 0 lo=0/\HT.f6 xs.length xs.length hi=xs.length)/\Q (.v (.tup (cut xs lo hi)))
 |_,_,_,_=>False
noncomputable def LC(te:cO)(tl th:Mn):cO:=λρ Q=>te ρ λr=>tl ρ λlo=>th ρ λhi=>Io r.d lo hi Q
theorem ER:∀d lo hi (Q Q':R->Prop),(∀r,Q r->Q' r)->Io d lo hi Q->Io d lo hi Q':=by
 intro d lo hi Q Q' w h;unfold Io at *;split at h<;>first | exact w _ h | exact⟨h.1,w _ h.2⟩ | exact h
theorem Reps.cut{K:ai}{M:ae->Prop}{H:Hp}{xs:List V}{ds:List Dv}(r:Reps K M H xs ds)(lo hi:Option Int):Reps K M H (zJ xs lo hi) (Z.cut ds lo hi):=by
 unfold zJ Z.cut;rw[r.length];exact(r.drop _).take _
theorem B5{lo hi:Option Expr}{tl th:Mn}{p2:gv}(he:QE X e te)(hl:QO X lo tl)(hh:QO X hi th):QE X (.Subscript e (.Slice lo hi ap p2) pos) (LC te tl th):=by
 refine⟨λρ Q Q' w q=>he.mono _ _ _ (λr q=>hl.mono _ _ _ (λl q=>hh.mono _ _ _ (λu q=>ER _ _ _ _ _ w q) q) q) q,λHZ F=>c5 (EF (GX.or JO) (he.run HZ F) (hl.run HZ F) (hh.run HZ F)) λσ H Q zz=>?_⟩;obtain⟨ρ,fr,q⟩:=zz;refine he.step fr q λr x H1 q S1 r1=>?_;refine⟨ρ,fr.mono S1,hl.mono _ _ _ (λl q H2 S2=>?_) q⟩;refine⟨ρ,(fr.mono S1).mono S2,hh.mono _ _ _ (λu q H3 S3=>?_) q⟩;have S13:=(S1.trans S2).trans S3;have c:=(r1.mono (S2.trans S3)).c;generalize r.d=d at q c;unfold Io at q;split at q
 ·obtain⟨a,xs,rfl,ea,ra⟩:=c.lst;exact .inl ⟨a,xs,rfl,eZ.of ea,λp hp=>q _ _ (S13.trans (aM.new' hp)) ((jX hp (ra.cut _ _)).ahead S13)⟩
 ·obtain⟨a,rfl,ea⟩:=c.scr;refine .inl ⟨a,_,rfl,ea.sq,λp hp=>q _ _ (S13.trans (aM.new' hp)) (dC.ahead (jX hp ?_) S13)⟩;have:∀(ns:List Int) l u,(Z.cut ns l u).map Dv.int=Z.cut (ns.map Dv.int) l u:=λns l u=>by
   unfold Z.cut;simp[List.map_take,List.map_drop]
  rw[this];exact(Reps.ints _).cut _ _
 ·obtain⟨a,xs,rfl,ea,ra⟩:=c.tup;exact .inr ⟨a,xs,rfl,kH.of ea,by rw[ra.length];exact q.1,λp hp=>q.2 _ _ (S13.trans (aM.new' hp)) (dC.ahead (DZ hp (ra.cut _ _)) S13)⟩
 ·exact q.elim
section
variable {c:Expr}{tc:cO}
theorem Gg{op op':wp}{f f':Int->Int->Bool}(ho:gR X (bu op) (wV λi j=>.bl (f i j)))(ho':gR X (bu op') (wV λi j=>.bl (f' i j)))(ha:QE X a ta)(hb:QE X b tb)(hc:QE X c tc)
  (hm:autoParam (sy [op,op'] [b,c]=aj) JF._auto_1):QE X (.Compare a [op,op'] [b,c] pos) (pJ (tZ f) (tZ f') ta tb tc):=by
 refine⟨λρ Q Q' w q=>ha.mono _ _ _ (λrx q=>hb.mono _ _ _ (λry q=>rK _ _ _ _ (λz q=>?_) q) q) q,λHZ F=>c5 (EM ho ho' (ha.run HZ F) (hb.run HZ F) (hc.run HZ F) hm) λσ H Q ⟨ρ,fr,q⟩=>?_⟩
 ·split at q
  ·split at q
   ·rw[QL ‹_›];exact hc.mono _ _ _ (λw' q=>rK _ _ _ _ w q) q
   ·rw[Qi ‹_›];exact w _ q
  ·exact q
 ·refine ha.step fr q λrx x H1 q1 S1 r1=>?_;refine hb.step (fr.mono S1) q1 λry y H2 q2 S2 r2=>?_;have cx:=(r1.mono S2).c;have cy:=r2.c;generalize rx.d=dx at q2 cx;generalize ry.d=dy at q2 cy;unfold tZ at q2;split at q2
  ·rename_i Q2 i j;obtain rfl:=cx.int;obtain rfl:=cy.int;refine⟨_,_,rfl,rfl,f i j,rfl,?_⟩;have S12:=S1.trans S2;replace q2:=(show (if f i j=ah then tc ρ (λw=>tZ f' (.int j) w.d (λr=>∀x H',aM H H'->dC X.K (MM F ρ) (Z.wX ρ) H x r H'->Q x H')) else (∀x H',aM H H'->dC X.K (MM F ρ) (Z.wX ρ) H x (.v (.bl aj)) H'->Q x H')) from q2);cases h:f i j with
   |true=>
    rw[h] at q2;simp only[if_true] at q2;refine jB (hc.step ((fr.mono S1).mono S2) q2 λrw' z H3 q3 S3 r3=>?_);have cz:=r3.c;generalize rw'.d=dz at q3 cz;cases dz with
    |int l=>
     obtain rfl:=cz.int;exact⟨_,_,rfl,rfl,q3 _ H3 (S12.trans S3) (Rep.bl _)⟩
    |_=>exact(show False from q3).elim
   |false=>
    rw[h] at q2;simp only[cv,if_false] at q2;exact jC (q2 _ H2 S12 (Rep.bl _))
  ·exact q2.elim
noncomputable def mB:Dv->Option Bool
 | .non=>aa aj
 | .bl b=>aa b
 | .int i=>aa (i != 0)
 | .lst xs=>aa (!xs.isEmpty)
 | .tup xs=>aa (!xs.isEmpty)
 | .dik xs=>aa (!xs.isEmpty)
 | .scr xs=>aa (!xs.isEmpty)
 |_=>ap
noncomputable def fD(te:cO):jI:=λρ Q=>te ρ λr=>match mB r.d with
 |some k=>Q k
 |none=>False
theorem Reps.empty{xs:List V}{ds:List Dv}(r:Reps K M H xs ds):xs.isEmpty=ds.isEmpty:=by cases r<;>rfl
theorem cP(h:QE X e te)(he:autoParam (∀Rc,isTrue e X.env Rc=(do let v <- Rc;ya e.pos;yb [v] (truthy v))) GO._auto_1):QT X e (fD te):=by
 refine⟨λρ Q Q' w q=>h.mono _ _ _ (λr q=>?_) q,λHZ F=>wU (E7 (h.run HZ F) he) λσ H Q ⟨ρ,fr,q⟩=>?_⟩
 ·split at q
  ·exact w _ q
  ·exact q
 ·refine h.step fr q λr x H1 q S1 r1=>?_;have cx:=r1.c;generalize r.d=d at q cx;split at q
  ·rename_i k hk;refine⟨k,?_,q H1 S1⟩;cases d with
   |non=>obtain rfl:=cx.non;simp only[mB,gz] at hk;subst hk;rfl
   |bl b=>obtain rfl:=cx.bl;simp only[mB,gz] at hk;exact hk.symm
   |int i=>obtain rfl:=cx.int;simp only[mB,gz] at hk;exact hk.symm
   |lst ds=>
    obtain⟨a,xs,rfl,ea,ra⟩:=cx.lst;simp only[mB,gz] at hk;exact .inl ⟨xs,eZ.of ea,by rw[ra.empty];exact hk.symm⟩
   |tup ds=>
    obtain⟨a,xs,rfl,ea,ra⟩:=cx.tup;simp only[mB,gz] at hk;exact .inr (.inl ⟨xs,kH.of ea,by rw[ra.empty];exact hk.symm⟩)
   |dik ds=>
    obtain⟨a,xs,rfl,ea,ra⟩:=cx.dik;simp only[mB,gz] at hk;exact .inr (.inr ⟨xs,ea,by rw[<- hk];cases ra<;>rfl⟩)
   |scr ns=>
    obtain⟨a,rfl,ea⟩:=cx.scr;simp only[mB,gz] at hk;exact .inl ⟨_,ea.sq,by rw[<- hk];cases ns<;>rfl⟩
   |_=>simp[mB] at hk
  ·exact q.elim
end
noncomputable abbrev Fn:=List Dv->(R->Prop)->Prop
inductive low(K:ai)(sp:Fn)(vs:List V)(H:Hp)(Q:VK)(E:XK):Prop
 |mk (F:ae->Prop) (ds:List Dv) (hF:OldF K F H) (r:Reps K F H vs ds) (q:sp ds (λr=>∀x H',aM H H'->dC K F zT H x r H'->Q x H'))
structure MonoF(sp:Fn):Prop where
 mo:∀ds (Q Q':R->Prop),(∀r,Q r->Q' r)->sp ds Q->sp ds Q'
structure Def(P:aq)(w:bb)(K:ai)(mg:az->Option ac)(base:ca)(k:Nat)(x:az)(ps:List az)(sp:Sp):Prop where
 ex:∃f fd,mg x=aa (.ref f)/\lv K (.ref f)=ah/\i7 K fd ps []/\FnOk P w K mg base Av k f fd ps sp
structure At(K:ai)(mg:az->Option ac)(x nm:az)(st:iq)(ps:List az):Prop where
 ex:∃f fd,mg x=aa (.ref f)/\Fun K nm nm st f fd/\i7 K fd ps []
structure MDef(P:aq)(w:bb)(K:ai)(mg:az->Option ac)(base:ca)(k:Nat)(C:ae)(m:az)(ps:List az)(sp:Sp):Prop where
 ex:∃f fd,Meth K C m f/\i7 K fd ps []/\FnOk P w K mg base Av k f fd ps sp
structure MAt(K:ai)(C:ae)(m qual:az)(st:iq)(ps:List az):Prop where
 ex:∃f fd,Meth K C m f/\Fun K m qual st f fd/\i7 K fd ps []
theorem At.ok{P:aq}{w:bb}{K:ai}{mg:az->Option ac}{base:ca}{k:Nat}{x nm:az}{st:iq}{ps N:List az}{sp:Sp}(a:At K mg x nm st ps)(S:FnScope N ps (aH st))(len:∀vs H Q E,sp vs H Q E->vs.length=ps.length)
  (Re:∀(f:ae) (cdv:ac) (A:cf) (outer:List uy) (s:af) (H:Hp) (vs:List V) (Q:VK) (E:XK),Room k (A.deeper (pk nm (aH st) s.heap.objs.size f cdv))->sp vs H Q E ->
   ∃t,uO (sR Av P w K mg base N nm (aH st) f cdv A outer s H E).nox (dH st) t/\t { nx:=λ_ H'=>Q .non H',rt:=Q } (start N vs) H):Def P w K mg base (k+1) x ps sp:=by
 obtain⟨f,fd,hm,F,hb⟩:=a.ex;exact⟨f,fd,hm,F.kp,hb,F.ok S len (Re f)⟩
theorem MAt.ok{P:aq}{w:bb}{K:ai}{mg:az->Option ac}{base:ca}{k:Nat}{C:ae}{m QP:az}{st:iq}{ps N:List az}{sp:Sp}(a:MAt K C m QP st ps)(S:FnScope N ps (aH st))(len:∀vs H Q E,sp vs H Q E->vs.length=ps.length)
  (Re:∀(f:ae) (cdv:ac) (A:cf) (outer:List uy) (s:af) (H:Hp) (vs:List V) (Q:VK) (E:XK),Room k (A.deeper (pk QP (aH st) s.heap.objs.size f cdv))->sp vs H Q E ->
   ∃t,uO (sR Av P w K mg base N QP (aH st) f cdv A outer s H E).nox (dH st) t/\t { nx:=λ_ H'=>Q .non H',rt:=Q } (start N vs) H):MDef P w K mg base (k+1) C m ps sp:=by
 obtain⟨f,fd,hm,F,hb⟩:=a.ex;exact⟨f,fd,hm,hb,F.ok S len (Re f)⟩
noncomputable def aJ(N:List az)(ds:List Dv):List Sl:=ds.map .v++au (N.length-ds.length) .un
variable {vs:List V}
theorem Dm{ds:List Dv}(hF:OldF K F H)(r:Reps K F H vs ds):Fr K H F (start N vs) H (aJ N ds):=by
 have no:∀{a:ae} {d:Dv},Sl.own a d∈aJ N ds->False:=λ{a d} h=>by
  rcases ee.mp h with h | h
  ·obtain⟨z,_,e⟩:=gq.mp h;cases e
  ·cases dm h
 have wk:∀a,MM F (aJ N ds) a->F a:=λa h=>by
  rcases h with h | ⟨d,h⟩
  ·exact h
  ·exact(no h).elim
 have hl:=r.length;refine⟨by simp[L2.start,aJ,hl],λi s e=>?_,λi j a d d' e _=>(no (cq e)).elim,λa d h=>(no h).elim,aM.refl _,hF⟩;unfold aJ at e;by_cases hi:i<ds.length
 ·rw[bv (by simpa using hi),bh] at e;cases q:ds[i]? with
  |none=>rw[q] at e;cases e
  |some d=>
   rw[q] at e;cases e;obtain⟨x,hx,rx⟩:=r.get q;refine⟨x,?_,rx.weak wk⟩;unfold L2.start;rw[bv (by simpa using(bt.mp hx).1),bh,hx];rfl
 ·rw[cn (by simpa using lh hi)] at e;have:=cq e;cases dm this;trivial
variable {Q:VK}{E:XK}{sp:Fn}
theorem wP{sts:List iq}{t:bV}(h:QSs X sts t)(hsp:∀ds Q,sp ds Q->t ↥Q (aJ N ds))(q:low X.K sp vs H Q E):
  ∃t',uO X sts t'/\t' { nx:=λ_ H'=>Q .non H',rt:=Q } (start N vs) H:=by
 obtain⟨F,ds,hF,r,q⟩:=q;exact⟨_,h.run H F,aJ N ds,_,Dm hF r,hsp ds _ q,λρ σ H' fr q=>q .non H' fr.same Rep.non,λ_ _ _ _ z=>z.elim,λ_ _ _ _ z=>z.elim,λrr x H' S rx q=>q x H' S rx⟩
theorem vO(h:∀ds Q,sp ds Q->ds.length=n):∀vs H Q E,low K sp vs H Q E->vs.length=n:=λvs H Q E zq6=>by obtain⟨F,ds,_,r,q⟩:=zq6;(rw[r.length];exact h _ _ q)
variable {st:iq}
theorem At.okP{k:Nat}{nm:az}{t:bV}(a:At K mg x nm st ps)(S:FnScope N ps (aH st))
  (hq:∀(f:ae) (cdv:ac) (A:cf) (outer:List uy) (s:af) (H:Hp) (E:XK),Room k (A.deeper (pk nm (aH st) s.heap.objs.size f cdv))->QSs (sR Av P w K mg base N nm (aH st) f cdv A outer s H E).nox (dH st) t)
  (len:∀ds Q,sp ds Q->ds.length=ps.length) (hsp:∀ds Q,sp ds Q->t ↥Q (aJ N ds)):Def P w K mg base (k+1) x ps (low K sp):=
 a.ok S (vO len) λf cdv A outer s H vs Q E hr q=>wP (hq f cdv A outer s H E hr) hsp q
variable {m:az}
theorem MAt.okP{k:Nat}{t:bV}(a:MAt K C m QP st ps)(S:FnScope N ps (aH st))
  (hq:∀(f:ae) (cdv:ac) (A:cf) (outer:List uy) (s:af) (H:Hp) (E:XK),Room k (A.deeper (pk QP (aH st) s.heap.objs.size f cdv))->QSs (sR Av P w K mg base N QP (aH st) f cdv A outer s H E).nox (dH st) t)
  (len:∀ds Q,sp ds Q->ds.length=ps.length) (hsp:∀ds Q,sp ds Q->t ↥Q (aJ N ds)):MDef P w K mg base (k+1) C m ps (low K sp):=
 a.ok S (vO len) λf cdv A outer s H vs Q E hr q=>wP (hq f cdv A outer s H E hr) hsp q
noncomputable def R.flat:R->Bool
 | .v d=>iE d
 | .nw d=>Fu d
 | .ow _ _=>aj
noncomputable def back(rs:List R)(Q:R->Prop):R->Prop:=λr=>(rs.all R.free=ah \/ r.flat=ah)/\Q r
noncomputable def aQ(sp:Fn)(ts:lJ):cO:=λρ Q=>ts ρ λrs=>sp (rs.map R.d) (back rs Q)
variable {rs:List R}
noncomputable def lent(M:ae->Prop)(rs:List R):ae->Prop:=λa=>M a /\ ∀d,R.ow a d ∉ rs
theorem pE(fr:Fr K HZ F σ H ρ){all:List R}:∀{xs:List V} {rs:List R},(∀r∈rs,r∈all)->Paired (λx r=>dC K (MM F ρ) (Z.wX ρ) H x r H1) xs rs->Reps K (lent (MM F ρ) all) H1 xs (rs.map R.d)
 |_,_,_,.nil=>.nil
 |_,r::_,hs,.cons a t=>by
  refine .cons ?_ (pE fr (λr hr=>hs r (by simp[hr])) t);have wk:∀a,lent (MM F ρ) all a->MM F ρ a:=λa z=>z.1;cases r with
  |v d=>exact Rep.weak wk a
  |nw d=>exact(dC.rep a (λa m=>fr.dom m) rfl).weak wk
  |ow b d=>
   obtain⟨rfl,_,o⟩:=a;exact(o.weak wk).rep λz=>z.2 d (hs _ (by simp))
theorem GF(h:rs.all R.free=ah)(a:ae)(d:Dv):R.ow a d ∉ rs:=λz=>by
 have:=qd.mp h _ z;simp[R.free] at this
theorem u7{x:V}{r:R}{O:ae->Dv->Prop}(fr:Fr K HZ F σ H ρ)(S1:aM H H1)(h:dC K (lent (MM F ρ) rs) zT H1 x r H')(f:rs.all R.free=ah \/ r.flat=ah):dC K (MM F ρ) O H x r H':=by
 rcases f with f | f
 ·have wk:∀a,MM F ρ a->lent (MM F ρ) rs a:=λa z=>⟨z,λd=>GF f a d⟩;cases r with
  |v d=>exact Rep.weak wk h
  |ow a d=>exact h.2.1.elim
  |nw d=>
   obtain⟨a,e,n,o⟩:=h;exact⟨a,e,S1.free n,o.weak λb z=>z.elim (λz=>.inl (wk b z)) .inr⟩
 ·cases r with
  |v d=>exact Rep.flat f h
  |ow a d=>exact h.2.1.elim
  |nw d=>
   obtain⟨a,e,n,o⟩:=h;exact⟨a,e,S1.free n,o.flat f⟩
variable {Q':R->Prop}{pl:PF Bool}
section
variable {k:Nat}{o:Expr}{to:cO}{QZ:gv}
theorem sT{xs:List V}(mo:MonoF sp)(fr:Fr X.K HZ F σ H ρ)(S1:aM H H1)(r1:kI X.K (MM F ρ) (Z.wX ρ) H xs rs H1)(q:sp (rs.map R.d) (back rs Q'))
  (w:∀r,Q' r -> ∀x H',aM H H'->dC X.K (MM F ρ) (Z.wX ρ) H x r H'->Q x H'):low X.K sp xs H1 Q E:=by
 refine⟨lent (MM F ρ) rs,_,⟨λa z=>(fr.mono S1).dom z.1,(fr.mono S1).tab⟩,pE fr (λ_ h=>h) r1,mo.mo _ _ _ (λr q x H' S rx=>?_) q⟩;exact w r q.2 x H' (S1.trans S) (u7 fr S1 rx q.1)
theorem lX{Q:R->Prop}(w:∀r,Q r->Q' r):∀r,back rs Q r->back rs Q' r:=λr h=>⟨h.1,w r h.2⟩
theorem aU(d:Def X.prog X.w X.K X.mg X.base k x ps (low X.K sp))(mo:MonoF sp)(hr:Room k X.A)(ha:QA X (e::es) ts)(hg:autoParam (Gl X x) c6._auto_1)
  (hdb:autoParam ((x==("__debug__" : az))=aj) mQ._auto_1) (he:autoParam (aw (e::es) X.env=(aj,em e X.env)::aw es X.env) c6._auto_1) (hpl:autoParam ((ix pos (aw es X.env)).any (·.1)=aj) c6._auto_1):
  QE X (.Call (.Name x p) (e::es) [] pos) (aQ sp ts):=by
 obtain⟨f,fd,hm,hk,hb,FO⟩:=d.ex;refine⟨λρ Q Q' w q=>ha.mono _ _ _ (λrs q=>mo.mo _ _ _ (lX w) q) q,λHZ F=>c5 (Gz FO hr hg hm hk hb .nil BE (ha.run HZ F) hdb he hpl) λσ H Q zz=>?_⟩;obtain⟨ρ,fr,h⟩:=zz;refine ha.step fr h λrs xs H1 q S1 r1=>?_;rw[fy];exact sT mo fr S1 r1 q λr z=>z
noncomputable def eQ(C:ae)(m:az)(sp:Fn)(to:cO)(ts:lJ):cO:=λρ Q=>to ρ λro=>match ro.d with
 | .obj C' fs=>(C'=C/\fs.lookup m=ap)/\ts ρ λrs=>sp (ro.d::rs.map R.d) (back (ro::rs) Q)
 |_=>False
theorem RepF.lookup{K:ai}{M:ae->Prop}{H:Hp}{f:az}{xs:List (az×V)}{ds:List (az×Dv)}(r:RepF K M H xs ds):(ds.lookup f=ap->xs.lookup f=ap) /\ ∀d,ds.lookup f=aa d -> ∃x,xs.lookup f=aa x/\Rep K M H x d:=
 r.ind (P:=λxs ds=>(ds.lookup f=ap->xs.lookup f=ap) /\ ∀d,ds.lookup f=aa d -> ∃x,xs.lookup f=aa x/\Rep K M H x d) ⟨λ_=>rfl,λd h=>by cases h⟩ λk x d xs ds a _ ih=>by
  rw[zy,zy];cases h:f==k with
  |true=>
   refine⟨λz=>?_,λd' z=>?_⟩
   ·cases z
   ·cases z;exact⟨x,rfl,a⟩
  |false=>exact ih
theorem l4(c:Cls X.K C)(d:MDef X.prog X.w X.K X.mg X.base k C m ps (low X.K sp))(mo:MonoF sp)(hr:Room k X.A)(ho:QE X o to)(ha:QA X (e::es) ts)
  (hst:autoParam (aw (e::es) X.env=(aj,em e X.env)::aw es X.env) c6._auto_1) (hpl:autoParam ((ix pos (aw es X.env)).any (·.1)=aj) c6._auto_1)
  (ht:autoParam (em (.Call (.Attribute o m QZ) (e::es) [] pos) X.env=(do
   let ov <- em o X.env
   ya QZ.atName
   let (f,first) <- yb [ov] (tf ov m pl)
   Pb pos f first (ix pos (aw (e::es) X.env)) (tj pos (ni [] X.env)))) c6._auto_1):
  QE X (.Call (.Attribute o m QZ) (e::es) [] pos) (eQ C m sp to ts):=by
 obtain⟨f,fd,hm,hb,FO⟩:=d.ex;refine⟨λρ Q Q' w q=>ho.mono _ _ _ (λro q=>?_) q,λHZ F=>c5 (Gx (pl:=pl) (ho.run HZ F) c hm FO hr hb .nil BE (ha.run HZ F) hst hpl ht) λσ H Q ⟨ρ,fr,h⟩=>?_⟩
 ·split at q
  ·exact⟨q.1,ha.mono _ _ _ (λrs q=>mo.mo _ _ _ (lX w) q) q.2⟩
  ·exact q
 ·refine ho.step fr h λro x H1 q S1 r1=>?_;split at q
  ·rename_i C' fs e;obtain⟨⟨rfl,hl⟩,q⟩:=q;have cx:=r1.c;rw[e] at cx;obtain⟨a,dx,fs',rfl,ea,ra⟩:=cx.obj;refine⟨a,dx,fs',rfl,ea,ra.lookup.1 hl,ha.step (fr.mono S1) q λrs xs H2 q S2 r2=>?_⟩;rw[fy];exact sT (rs:=ro::rs) (xs:=.ref a::xs) mo fr (S1.trans S2) (.cons (r1.mono S2) (r2.ahead S1)) q λr z=>z
  ·exact q.elim
theorem lQ(c:Cls X.K C)(d:MDef X.prog X.w X.K X.mg X.base k C m ps (low X.K sp))(mo:MonoF sp)(hr:Room k X.A)(ho:QE X o to)
  (ht:autoParam (em (.Call (.Attribute o m QZ) [] [] pos) X.env=(do
   let ov <- em o X.env
   ya QZ.atName
   let (f,first) <- yb [ov] (tf ov m pl)
   Pb pos f first (ix pos (aw [] X.env)) (tj pos (ni [] X.env)))) c6._auto_1):
  QE X (.Call (.Attribute o m QZ) [] [] pos) (eQ C m sp to aI):=by
 obtain⟨f,fd,hm,hb,FO⟩:=d.ex;refine⟨λρ Q Q' w q=>ho.mono _ _ _ (λro q=>?_) q,λHZ F=>c5 (EH (pl:=pl) (ho.run HZ F) c hm FO hr hb .nil BE ht) λσ H Q ⟨ρ,fr,h⟩=>?_⟩
 ·split at q
  ·exact⟨q.1,mo.mo _ _ _ (lX w) q.2⟩
  ·exact q
 ·refine ho.step fr h λro x H1 q S1 r1=>?_;split at q
  ·rename_i C' fs e;obtain⟨⟨rfl,hl⟩,q⟩:=q;have cx:=r1.c;rw[e] at cx;obtain⟨a,dx,fs',rfl,ea,ra⟩:=cx.obj;refine⟨a,dx,fs',rfl,ea,ra.lookup.1 hl,?_⟩;exact sT (rs:=[ro]) (xs:=[.ref a]) (E:=E0) mo fr S1 (.cons r1 .nil) q λr z=>z
  ·exact q.elim
noncomputable def Ah(C:ae)(f:az)(to:cO):cO:=λρ Q=>to ρ λro=>match ro.d with
 | .obj C' fs=>C'=C/\match fs.lookup f with
  |some d=>Q (.v d)
  |none=>False
 |_=>False
theorem B7{f:az}(c:Cls X.K C)(n:fW X.K C f)(ho:QE X o to)(hb:autoParam (jn o f X.env (em o X.env)=em o X.env) c6._auto_1):QE X (.Attribute o f pos) (Ah C f to):=by
 refine⟨λρ Q Q' w q=>ho.mono _ _ _ (λro q=>?_) q,λHZ F=>c5 (Jp (ho.run HZ F) hb) λσ H Q ⟨ρ,fr,h⟩=>?_⟩
 ·split at q
  ·refine⟨q.1,?_⟩;have q2:=q.2;split at q2
   ·exact w _ q2
   ·exact q2
  ·exact q
 ·refine ho.step fr h λro x H1 q S1 r1=>?_;split at q
  ·rename_i C' fs e;obtain⟨rfl,q⟩:=q;have cx:=r1.c;rw[e] at cx;obtain⟨a,dx,fs',rfl,ea,ra⟩:=cx.obj;split at q
   ·rename_i d hd;obtain⟨z,hz,rz⟩:=ra.lookup.2 d hd;exact⟨a,_,dx,fs',z,rfl,ea,c,n,hz,q _ H1 S1 rz⟩
   ·exact q.elim
  ·exact q.elim
end
end Z
namespace L2
noncomputable def L9(lo c:Int)(n:Nat):It:=⟨λi _=>i<n,λi H x H'=>H'=H/\x=.int (lo+i*c),λi _=>n<=i⟩
theorem xC(it:ae)(lo c:Int)(n:Nat):Turn P w K tg (L9 lo c n) [it] it (λi h=>ng h it (lo+(i:Nat)*c) ((n:Int)-(i:Nat)) c) where
 mem:=by simp
 obj:=λi h st b hb=>by
  have e:b=it:=by simpa using hb
  subst e;exact⟨_,st,λv z=>by
   have z':Qd _=Data.cell v:=z;cases z'⟩
 keep:=λi h h' st k=>k it (by simp) _ st
 item:=by
  intro X hP hw hK hc i pj s σ H E I hf st hg;subst hP hw hK;obtain⟨f0,f1,f2,f3,f4,f5⟩:=hf it (by simp);refine sC hg st λv h' tk hv st' kk=>?_;obtain⟨t,rfl⟩:=hv;have I1:Inv X pj σ H { s with heap:=h',toks:=tk }:=I.turned (λb o hb e=>kk b o (by simpa using hb) e) f0 f1 f3 f4 f5;exact⟨_,rfl,Bq (s:={ s with heap:=h',toks:=tk }) (n:="range_iterator") st' rfl rfl ∅ ⟨.int (lo+i*c),H,I1,⟨t,rfl⟩,⟨rfl,rfl⟩,st',λb hb=>(hf b hb).1⟩⟩
 done:=by
  intro X hP hw hK hc i pj s σ H E I hf st hg;subst hP hw hK;obtain⟨f0,f1,f2,f3,f4,f5⟩:=hf it (by simp);exact uC I.qu st (by have:n<=i:=hg;right) λh' eb=>⟨rfl,I.turned (t':=s.toks) (λb o hb e=>eb b o hb e) f0 f1 f3 f4 f5⟩
 self:=λ_ _ _ _ _ st h=>ue st h
noncomputable def ML(ta:TA):TI:=λσ H R=>ta σ H λvs H1=>∃i j c:Int,vs=[.int i,.int j,.int c]/\c≠0/\c.natAbs<1000/\qo i j c=ah/\0<=cm i j c/\R (L9 i c (cm i j c).toNat) H1
theorem CT{a b c:Expr}{ta:TA}(hg:Gl X "range")(hm:X.mg "range" = ap)(ha:PA X [a,b,c] ta)(hs:autoParam (aw [a,b,c] X.env=[(aj,em a X.env),(aj,em b X.env),(aj,em c X.env)]) c6._auto_1)
  (hs2:autoParam (aw [b,c] X.env=[(aj,em b X.env),(aj,em c X.env)]) c6._auto_1):PI X tg (.Call (.Name "range" p) [a,b,c] [] pos) (ML ta):=by
 intro pj s σ H R I h;refine QH (l8 I hg hm P7 (fg (thn (ha pos pj s σ H _ I h) λus s1 ⟨vs,H1,I1,r1,q1⟩=>?_) (by rw[hs,hs2]) (by rw[hs2];rfl)));obtain⟨i,j,c,e,q0,qs,q1,q2,q⟩:=q1;subst e;cases r1 with
 |cons r rr=>
  cases rr with
  |cons r' rr=>
   cases rr with
   |cons r'' rr=>
    cases rr;obtain⟨t,rfl⟩:=r;obtain⟨t',rfl⟩:=r';obtain⟨t'',rfl⟩:=r'';refine call_range_3 q0 ?_ (.inl (PyProof.noPylong_small ⋯));refine xg (IsRange.new ..) q1 ?_;have I2:Inv X pj σ H1 { s1 with heap:=s1.heap.push { cls:=.type "range",data:=.fields #[.int i t,.int j t',.int c t''] },toks:=s1.toks }:=I1.kept λb o e=>ak _ e;refine⟨_,[_],_,_,H1,rfl,I2.kept (t':=s1.toks) λb o e=>ak _ e,xC _ i c (cm i j c).toNat,?_,λb hb=>?_,q⟩
    ·show ng _ _ (i+((0:Nat):Int)*c) ((((cm i j c).toNat:Nat):Int)-((0:Nat):Int)) c;have e1:i+((0:Nat):Int)*c=i:=by simp
     have e2:(((cm i j c).toNat:Nat):Int)-((0:Nat):Int)=cm i j c:=⋯;rw[e1,e2];exact bi _ rfl
    ·have e:b=_:=cp.mp hb;subst e;exact I2.fpOk (bg _) (I2.hok.fresh (bg _))
end L2
namespace Z
open L2
variable {lo:Int}{P:Hp}{ds:List Dv}{σ:St}{elts:List Expr}{x1:Nat}{tp:gv}
section
variable {a b c:Expr}{ta tb:cO}{ts:lJ}{p2:gv}
noncomputable def n4(lo c:Int)(n:Nat):List Dv:=(ff n).map λ(k:Nat)=>Dv.int (lo+(k:Int)*c)
noncomputable def qK(ts:lJ):Au:=λρ Q=>ts ρ λrs=>match rs.map R.d with
 | [.int i,.int j,.int c]=>(c≠0/\c.natAbs<1000/\qo i j c=ah/\0<=cm i j c)/\Q (n4 i c (cm i j c).toNat) []
 |_=>False
theorem AC{c:Int}{d:Dv}(h:(n4 lo c n)[i]?=aa d):i<n/\d=.int (lo+i*c):=by
 unfold n4 at h;rw[bh] at h;cases e:(ff n)[i]? with
 |none=>rw[e] at h;cases h
 |some k=>
  rw[e] at h;obtain⟨h1,h2⟩:=bt.mp e;simp at h1 h2;subst h2;exact⟨h1,(Option.some.inj h).symm⟩
theorem yV{c:Int}:tR K P M H1 (L9 lo c n) (n4 lo c n) []:=by
 intro i H' M' S G _;refine⟨λd e=>?_,λh=>(show n<=i by simpa [n4] using h)⟩;obtain⟨h1,h2⟩:=AC e;subst h2;refine⟨h1,λy H'' zz=>?_⟩;obtain⟨e1,e2⟩:=zz;subst e1 e2;exact⟨aM.refl _,.int _⟩
theorem Ky{xs:List V}{d d' d'':Dv}(h:uP K M H xs [d,d',d'']):∃x y z,xs=[x,y,z]/\cW K M H x d/\cW K M H y d'/\cW K M H z d'':=by
 cases h with
 |cons a t=>
  obtain⟨y,z,rfl,b,c⟩:=Ao t;exact⟨_,_,_,rfl,a,b,c⟩
theorem CN(hg:Gl X "range")(hm:X.mg "range" = ap)(ha:QA X [a,b,c] ts)(hs:autoParam (aw [a,b,c] X.env=[(aj,em a X.env),(aj,em b X.env),(aj,em c X.env)]) c6._auto_1)
  (hs2:autoParam (aw [b,c] X.env=[(aj,em b X.env),(aj,em c X.env)]) c6._auto_1):QI X tg (.Call (.Name "range" p) [a,b,c] [] pos) (qK ts):=by
 refine⟨λρ Q Q' w q=>ha.mono _ _ _ (λr q=>?_) q,λHZ F=>⟨_,CT hg hm (ha.run HZ F) hs hs2,λσ H ρ R fr q=>?_⟩⟩
 ·split at q
  ·exact⟨q.1,w _ _ q.2⟩
  ·exact q
 ·refine ha.step fr q λrs xs H1 q S1 r1=>?_;split at q
  ·rename_i i j c e;have cc:=r1.c;rw[e] at cc;obtain⟨x,y,z,rfl,cx,cy,cz⟩:=Ky cc;obtain rfl:=cx.int;obtain rfl:=cy.int;obtain rfl:=cz.int;exact⟨i,j,c,rfl,q.1.1,q.1.2.1,q.1.2.2.1,q.1.2.2.2,q.2 _ H1 S1 (by intro p hp;simp at hp) yV⟩
  ·exact q.elim
noncomputable def MZ(ts:lJ):cO:=λρ Q=>ts ρ λrs=>match rs.map R.d with
 | [.int j]=>(-(2 ^ 62)<=j/\j<2 ^ 62/\j.toNat<=1000000)/\Q (.nw (.lst (bN 0 j.toNat)))
 |_=>False
noncomputable def MY(ts:lJ):cO:=λρ Q=>ts ρ λrs=>match rs.map R.d with
 | [.int i,.int j]=>((-(2 ^ 62)<=i/\i<2 ^ 62 /\ -(2 ^ 62)<=j/\j<2 ^ 62)/\(j-i).toNat<=1000000)/\Q (.nw (.lst (bN i (j-i).toNat)))
 |_=>False
noncomputable def pZ(ds:List Dv):List Dv:=(ds.zipIdx).map λq=>.tup [.int (q.2:Int),q.1]
theorem DD{d:Dv}(h:(pZ ds)[i]?=aa d):∃d0,ds[i]?=aa d0/\d=.tup [.int i,d0]:=by
 unfold pZ at h;rw[bh,List.getElem?_zipIdx] at h;cases e:ds[i]? with
 |none=>rw[e] at h;cases h
 |some d0=>
  rw[e] at h;refine⟨d0,rfl,?_⟩;simp at h;exact h.symm
noncomputable def vT(ts:lJ):Au:=λρ Q=>ts ρ λrs=>match rs with
 | [.v (.lst ds)]=>Q (pZ ds) []
 | [.nw (.lst ds)]=>Q (pZ ds) []
 | [.ow a (.lst ds)]=>Q (pZ ds) [(a,ds)]
 |_=>False
structure Walked(K:ai)(P:Hp)(M:ae->Prop)(H1:Hp)(a:ae)(ds:List Dv)(ogs:List (ae×List Dv)):Prop where
 at_:∀(H':Hp) (M':ae->Prop),aM P H'->Gen K M M' H1 H'->(∀p∈ogs,dR K M' H' p.1 (.lst p.2)) -> ∃xs,H' a=aa (.lst xs)/\Reps K M' H' xs ds
noncomputable def mL:R->List (ae×List Dv)
 | .ow a (.lst ds)=>[(a,ds)]
 |_=>[]
theorem walked{HZ:Hp}{x:V}{r:R}(fr:Fr K HZ F σ H ρ)(S1:aM H H1)(r1:dC K (MM F ρ) (Z.wX ρ) H x r H1)(hd:r.d=.lst ds):
  ∃a xs,x=.ref a/\H1 a=aa (.lst xs)/\guard (mL r) ρ/\Walked K (prot H1 ρ) (MM F ρ) H1 a ds (mL r):=by
 cases r with
 |v d=>
  have e:d=.lst ds:=hd;subst e;cases r1 with
  |lst e m rs=>
   refine⟨_,_,rfl,e,by intro p hp;simp[mL] at hp,⟨λH' M' S G _=>⟨_,S _ _ (by rw[c8 λc=>m (.inr c)];exact e),rs.gen G⟩⟩⟩
 |nw d=>
  have e:d=.lst ds:=hd;subst e;obtain⟨a,rfl,n,xs,e,rs⟩:=r1;exact⟨_,_,rfl,e,by intro p hp;simp[mL] at hp,⟨λH' M' S G _=>⟨_,S _ _ (by rw[c8 λc=>fr.fresh n (.inr c)];exact e),(rs.weak λb z=>.inl z).gen G⟩⟩⟩
 |ow a d=>
  have e:d=.lst ds:=hd;subst e;obtain⟨rfl,m,xs,e,rs⟩:=r1;refine⟨_,_,rfl,e,by intro p hp;simp[mL] at hp;subst hp;exact m,⟨λH' M' S G ow=>?_⟩⟩;exact ow (a,ds) (by simp[mL])
theorem D7{a:ae}{ogs:List (ae×List Dv)}(w:Walked K P M H1 a ds ogs):tR K P M H1 (NB K a) (pZ ds) ogs:=by
 intro i H' M' S G ow;obtain⟨xs,h',r⟩:=w.at_ H' M' S G ow;refine⟨λd e=>?_,λh=>⟨xs,eZ.of h',by rw[r.length];simpa [pZ] using h⟩⟩;obtain⟨d0,e0,rfl⟩:=DD e;obtain⟨x,hx,rx⟩:=r.get e0;refine⟨⟨xs,x,eZ.of h',hx⟩,λy H'' zz=>?_⟩;obtain⟨T,z,hT,e1,e2,hz⟩:=zz;subst e1 e2;have:=hz xs (eZ.of h');rw[hx] at this;cases this;exact⟨aM.new' hT,.tup bO (.cons (.int _) (.cons (rx.mono (aM.new' hT)) .nil))⟩
theorem Ge(hg:Gl X "enumerate")(hm:X.mg "enumerate" = ap)(ha:QA X [a] ts)(hs:autoParam (aw [a] X.env=[(aj,em a X.env)]) c6._auto_1):QI X (.Tuple elts x1 tp) (.Call (.Name "enumerate" p) [a] [] pos) (vT ts):=by
 refine⟨λρ Q Q' w q=>ha.mono _ _ _ (λr q=>?_) q,λHZ F=>⟨_,Gv hg hm (ha.run HZ F) hs,λσ H ρ R fr q=>?_⟩⟩
 ·split at q<;>first | exact w _ _ q | exact q
 ·refine ha.step fr q λrs xs H1 q S1 r1=>?_;have one:∀{r:Z.R} {ds:List Dv},rs=[r]->r.d=.lst ds->(∀J H1',aM H H1'->guard (mL r) ρ->tR X.K (prot H1' ρ) (MM F ρ) H1' J (pZ ds) (mL r)->R J H1') -> ∃a,xs=[V.ref a]/\(∃xs,eZ X.K H1 a xs)/\R (NB X.K a) H1:=by
   intro r ds e hd k;subst e;cases r1 with
   |cons a1 t1=>
    cases t1;obtain⟨a,ys,rfl,ea,gd,wk⟩:=walked fr S1 a1 hd;exact⟨a,rfl,⟨ys,eZ.of ea⟩,k _ H1 S1 gd (D7 wk)⟩
  split at q
  ·exact one rfl rfl q
  ·exact one rfl rfl q
  ·exact one rfl rfl q
  ·exact q.elim
noncomputable def wY(xs ys:List Dv):List Dv:=yn (λx y=>.tup [x,y]) xs ys
noncomputable def Bo(ts:lJ):Au:=λρ Q=>ts ρ λrs=>match rs with
 | [r,r']=>match r.d,r'.d with
  | .lst xs,.lst ys=>Q (wY xs ys) (mL r++mL r')
  |_,_=>False
 |_=>False
theorem Ff{a b:ae}{es:List Dv}{o1 o2:List (ae×List Dv)}(w1:Walked K P M H1 a ds o1)(w2:Walked K P M H1 b es o2):tR K P M H1 (ON a b) (wY ds es) (o1++o2):=by
 intro i H' M' S G ow;obtain⟨xs,h1,r1⟩:=w1.at_ H' M' S G λp hp=>ow p (fq _ hp);obtain⟨ys,h2,r2⟩:=w2.at_ H' M' S G λp hp=>ow p (dg _ hp);refine⟨λd e=>?_,λh=>⟨xs,ys,h1,h2,?_⟩⟩
 ·unfold wY at e;rw[List.getElem?_zipWith] at e;cases e1:ds[i]? with
  |none=>rw[e1] at e;cases e
  |some d1=>
   cases e2:es[i]? with
   |none=>rw[e1,e2] at e;cases e
   |some d2=>
    rw[e1,e2] at e;cases e;obtain⟨x,hx,rx⟩:=r1.get e1;obtain⟨y,hy,ry⟩:=r2.get e2;refine⟨⟨xs,ys,x,y,h1,h2,hx,hy⟩,λz H'' zz=>?_⟩;obtain⟨T,z1,z2,hT,e3,e4,k1,k2⟩:=zz;subst e3 e4;have q1:=k1 xs h1;have q2:=k2 ys h2;rw[hx] at q1;rw[hy] at q2;cases q1;cases q2;exact⟨aM.new' hT,.tup bO (.cons (rx.mono (aM.new' hT)) (.cons (ry.mono (aM.new' hT)) .nil))⟩
 ·rw[r1.length,r2.length];simp only[wY,List.length_zipWith] at h;right
theorem JS(hg:Gl X "zip")(hm:X.mg "zip" = ap)(ha:QA X [a,b] ts)(hs:autoParam (aw [a,b] X.env=[(aj,em a X.env),(aj,em b X.env)]) c6._auto_1)(hs2:autoParam (aw [b] X.env=[(aj,em b X.env)]) c6._auto_1):
  QI X (.Tuple elts x1 tp) (.Call (.Name "zip" p) [a,b] [] pos) (Bo ts):=by
 refine⟨λρ Q Q' w q=>ha.mono _ _ _ (λr q=>?_) q,λHZ F=>⟨_,Jf hg hm (ha.run HZ F) hs hs2,λσ H ρ R fr q=>?_⟩⟩
 ·split at q
  ·split at q
   ·exact w _ _ q
   ·exact q
  ·exact q
 ·refine ha.step fr q λrs xs H1 q S1 r1=>?_;split at q
  ·rename_i r r';split at q
   ·rename_i ds es h1 h2;cases r1 with
    |cons a1 t1=>
     cases t1 with
     |cons a2 t2=>
      cases t2;obtain⟨a,ys,rfl,ea,gd,wk⟩:=walked fr S1 a1 h1;obtain⟨b,zs,rfl,eb,gd2,wk2⟩:=walked fr S1 a2 h2;refine⟨a,b,rfl,⟨ys,ea⟩,⟨zs,eb⟩,q _ H1 S1 (λp hp=>?_) (Ff wk wk2)⟩;rcases ee.mp hp with h | h
      ·exact gd p h
      ·exact gd2 p h
   ·exact q.elim
  ·exact q.elim
end
noncomputable def dY(env:uy):List (az×qc)->List (az×ae)->List (az×ae)
 | [],acc=>acc
 | (n,k)::r,acc=>if (k == .free)=ah then (match env.cells.lookup n with | some c=>dY env r ((n,c)::acc) | none=>dY env r acc) else dY env r acc
variable {env:uy}
theorem mP(h:(QM.names.all λy=>!(y.2 == .free) || (env.cells.lookup y.1).isSome)=ah):pq QM env=gc (dY env QM.names []):=by
 unfold pq;have key:∀(l:List (az×qc)) (acc:List (az×ae)),(l.all λy=>!(y.2 == .free) || (env.cells.lookup y.1).isSome)=ah ->
   (forIn (m:=PF) l acc λx r=>(match x with | (name,kind)=>if (kind==NameKind.free)=ah then (do let c <- cellOf env name;gc (ka ((name,c)::r))) else gc (ka r)))=gc (dY env l acc):=by
  intro l;induction l with
  |nil=>intro acc _;rfl
  |cons y r ih=>
   intro acc hl;obtain⟨n,k⟩:=y;rw[tw,cw] at hl;rw[On];unfold dY;by_cases hk:(k==NameKind.free)=ah
   ·rw[QL hk];have h1:(env.cells.lookup n).isSome=ah:=by
     have:=hl.1;simpa [hk] using this
    obtain⟨c,hc⟩:=sk.mp h1;have e:cellOf env n=gc c:=by unfold cellOf;rw[hc]
    simp only[hk,if_true,e,hc];exact ih _ hl.2
   ·rw[Qi hk];simp only[hk];exact ih _ hl.2
 dsimp only;have h2:=key QM.names [] h;refine Eq.trans (congrArg (λt:PF (List (az×ae))=>t >>= λr=>gc r) h2) ?_;rfl
theorem jF{env:uy}:∀(l:List (az×qc)) (acc:List (az×ae)),(∀q∈acc,env.cells.lookup q.1=aa q.2) -> ∀q∈dY env l acc,env.cells.lookup q.1=aa q.2
 | [],acc,h,q,hq=>h q hq
 | (n,k)::r,acc,h,q,hq=>by
  unfold dY at hq;split at hq
  ·split at hq
   ·rename_i c hc;refine jF r _ (λq' hq'=>?_) q hq;rcases de.mp hq' with e | e
    ·rw[e];exact hc
    ·exact h q' e
   ·exact jF r acc h q hq
  ·exact jF r acc h q hq
theorem kE{env:uy}:∀(l:List (az×qc)) (acc:List (az×ae)),∀q∈acc,q∈dY env l acc
 | [],acc,q,hq=>hq
 | (n,k)::r,acc,q,hq=>by
  unfold dY;split
  ·split
   ·exact kE r _ q (bj _ hq)
   ·exact kE r acc q hq
  ·exact kE r acc q hq
theorem i6{env:uy}{x:az}:∀(l:List (az×qc)) (acc:List (az×ae)),(l.all λy=>!(y.2 == .free) || (env.cells.lookup y.1).isSome)=ah->(x,NameKind.free)∈l -> ∃c,(x,c)∈dY env l acc
 | [],_,_,h=>by simp at h
 | (n,k)::r,acc,hl,h=>by
  rw[tw,cw] at hl;unfold dY;rcases de.mp h with e | e
  ·cases e;rw[QL (by rfl)];have h1:(env.cells.lookup x).isSome=ah:=by simpa using hl.1
   obtain⟨c,hc⟩:=sk.mp h1;rw[hc];exact⟨c,kE r _ _ (by simp)⟩
  ·split
   ·split
    ·exact i6 r _ hl.2 e
    ·exact i6 r _ hl.2 e
   ·exact i6 r _ hl.2 e
theorem iU{α:Type}{x:az}{c:α}:∀{l:List (az×α)},(x,c)∈l -> ∃c',l.lookup x=aa c'
 | (n,d)::r,h=>by
  rw[zy];cases e:x==n with
  |true=>exact⟨d,rfl⟩
  |false=>
   rcases de.mp h with z | z
   ·cases z;simp at e
   ·exact iU z
theorem nZ(QQ:∀y∈QM.names,y.2 ≠ .cell)(h:(fh QM env).names.lookup x=aa .cell \/ (fh QM env).names.lookup x=aa .free):(x,NameKind.free)∈QM.names:=by
 have:(x,NameKind.cell)∈(fh QM env).names \/ (x,NameKind.free)∈(fh QM env).names:=h.imp fe fe;rcases this with h | h
 ·obtain⟨⟨n,k⟩,hm,e⟩:=gq.mp h;dsimp only at e;split at e
  ·rename_i hc;rw[cw,cw,beq_iff_eq] at hc;cases e;rw[hc.1.1] at hm;exact hm
  ·cases e;exact absurd rfl (QQ _ hm)
 ·obtain⟨⟨n,k⟩,hm,e⟩:=gq.mp h;dsimp only at e;split at e
  ·cases e
  ·cases e;exact hm
theorem AD{elt iter tgt:Expr}(tgs ns:List az)(js:List Nat){k:Nat}{ti:Au}{g:wT}{tt:jI}(hc:X.N=X.N)(hi:QI X tgt iter ti)
  (hg:∀(fp:List ae) (s:af) (H:Hp),QG (nO X QM (dY X.env QM.names []) fp (tgs++ns) s H) tgt k g) (ht:∀(fp:List ae) (s:af) (H:Hp),QTs (nO X QM (dY X.env QM.names []) fp (tgs++ns) s H) ifs tt)
  (he:∀(fp:List ae) (s:af) (H:Hp),QE (nO X QM (dY X.env QM.names []) fp (tgs++ns) s H) elt te) (hk:autoParam (tgs.length=k) c6._auto_1)
  (Rj:autoParam ((QM.names.all λy=>!(y.2 == .free) || (X.env.cells.lookup y.1).isSome)=ah) c6._auto_1) (hjs:autoParam (js.map (λj=>X.N[j]?)=ns.map aa) c6._auto_1)
  (hin:autoParam ((ns.all λy=>(fh QM X.env).names.lookup y==aa .cell || (fh QM X.env).names.lookup y==aa .free)=ah) c6._auto_1) (R9:autoParam ((ns.all λy=>X.env.kindOf y==aa .cell || X.env.kindOf y==aa .free)=ah) c6._auto_1)
  (nd:autoParam (js.Nodup) mQ._auto_1) (QQ:autoParam (∀y∈QM.names,y.2 ≠ .cell) Ax._auto_1) (QY:autoParam (QM.kind=.function) c6._auto_1)
  (QR:autoParam (∀y∈QM.names,y.2=.local->QM.names.lookup y.1=aa .local) Ax._auto_1) (hs:autoParam (∀z,fm iter X.env z=gc z) GO._auto_1):
  QE X (.ListComp elt [⟨tgt,iter,ifs,0⟩] QM pos) (gQ k js ti g tt te):=by
 refine JU hc hk hi hg ht he (mP Rj) (λx c e=>jF QM.names [] (by simp) (x,c) (fe e)) (λx h=>?_) hjs (λy hy=>?_) (λy hy=>?_) nd QQ QY QR hs
 ·obtain⟨c,hc⟩:=i6 QM.names [] Rj (nZ QQ h);exact iU hc
 ·have:=qd.mp hin y hy;simpa using this
 ·have:=qd.mp R9 y hy;simpa using this
open Classical in
noncomputable def mE(h:ca)(db:PZ)(u:ac):Bool:=if q:∃d as,PM h u d as then jq (choose q) db else aj
theorem Bu{db d:PZ}{as:List ae}(ok:d.canLay0=ah)(r:PM h u d as):mE h db u=jq d db:=by
 unfold mE;have q:∃d as,PM h u d as:=⟨d,as,r⟩;rw[dif_pos q];obtain⟨as',r'⟩:=Classical.choose_spec q;rw[Qy d _ u as as' ok r r']
theorem lI(I:Inv X pj σ H s){db:PZ}{dx:Dv}(hb:db=gJ dx):∀{xs:List V} {ds:List Dv} {us:List ac},Reps X.K M H xs ds->okDs 8 ds=ah->bF xs us->us.any (mE s.heap db)=ds.any λd=>eqD d dx
 |_,_,_,.nil,_,r=>by cases r;rfl
 |_,_,_,.cons a q,ok,r=>by
  have ok':(cJ 8 _&&okDs 8 _)=ah:=ok;rw[cw] at ok';cases r with
  |cons r1 r2=>
   obtain⟨as,ra⟩:=Rep.reads I a ok'.1 r1;rw[ou,ou,lI I hb q ok'.2 r2,Bu (lS 8 _ ok'.1).1 ra,hb];rfl
theorem l6(I:Inv X pj σ H s){A:cf}{v:ac}{dx:Dv}{bs:List ae}(rb:PM s.heap v (gJ dx) bs)(ob:cJ 8 dx=ah)(hu:A.units+64<gy):∀{xs:List V} {ds:List Dv} {us:List ac},Reps X.K M H xs ds->okDs 8 ds=ah->bF xs us -> ∀u∈us,Pp A s u v (mE s.heap (gJ dx) u)
 |_,_,_,.nil,_,r,u,hm=>by cases r;simp at hm
 |_,_,_,.cons a q,ok,r,u,hm=>by
  have ok':(cJ 8 _&&okDs 8 _)=ah:=ok;rw[cw] at ok';cases r with
  |cons r1 r2=>
   rcases de.mp hm with e | hm
   ·subst e;obtain⟨as,ra⟩:=Rep.reads I a ok'.1 r1;obtain⟨l1,l2⟩:=lS 8 _ ok'.1;obtain⟨m1,m2⟩:=lS 8 _ ob;rw[Bu l1 ra];exact zh _ _ A s u v as bs ra rb l1 m1 ⋯
   ·exact l6 I rb ob hu q ok'.2 r2 u hm
noncomputable def Lb(K:ai)(neg:Bool):R2:=λx y H Q=>∃M dx ds p xs,cW K M H x dx/\y=.ref p/\(eZ K H p xs \/ kH K H p xs)/\Reps K M H xs ds/\cJ 8 dx=ah/\okDs 8 ds=ah /\
 Q (.bl (if neg then !(ds.any λd=>eqD d dx) else ds.any λd=>eqD d dx)) H
theorem lU(h:A.units+65<gy):A.in1.units+64<gy:=by
 have:A.in1.units<=A.units+1:=by unfold Around.in1;simp[Around.units]
 right
theorem K4(hu:X.A.units+65<gy):gR X (bu .In) (Lb X.K aj):=by
 intro pj s σ H x y v u Q I rx ry h;obtain⟨M,dx,ds,p,xs,cx,rfl,hq,rs,o1,o2,q⟩:=h;cases ry;obtain⟨bs,rb⟩:=cx.reads I o1 rx;rcases hq with hq | hq
 ·obtain⟨its,r,pl,hz⟩:=I.list hq;refine SeqAt.in_listAt (mE s.heap (gJ dx)) pl.isList (λw hw=>l6 I rb o1 (lU hu) rs o2 r w (by simpa using hw)) ⟨.bl _,H,I,rfl,?_⟩;rw[show its.toArray.any (mE s.heap (gJ dx))=its.any (mE s.heap (gJ dx)) by simp,lI I rfl rs o2 r];exact q
 ·obtain⟨its,r,pl,hz⟩:=I.tuple hq;refine SeqAt.in_tupleAt (mE s.heap (gJ dx)) pl (λw hw=>l6 I rb o1 (lU hu) rs o2 r w (by simpa using hw)) ⟨.bl _,H,I,rfl,?_⟩;rw[show its.toArray.any (mE s.heap (gJ dx))=its.any (mE s.heap (gJ dx)) by simp,lI I rfl rs o2 r];exact q
theorem Cn(hu:X.A.units+65<gy):gR X (bu .NotIn) (Lb X.K ah):=by
 intro pj s σ H x y v u Q I rx ry h;obtain⟨M,dx,ds,p,xs,cx,rfl,hq,rs,o1,o2,q⟩:=h;cases ry;obtain⟨bs,rb⟩:=cx.reads I o1 rx;rcases hq with hq | hq
 ·obtain⟨its,r,pl,hz⟩:=I.list hq;refine SeqAt.notIn_listAt (mE s.heap (gJ dx)) pl.isList (λw hw=>l6 I rb o1 (lU hu) rs o2 r w (by simpa using hw)) ⟨.bl _,H,I,rfl,?_⟩;rw[show its.toArray.any (mE s.heap (gJ dx))=its.any (mE s.heap (gJ dx)) by simp,lI I rfl rs o2 r];exact q
 ·obtain⟨its,r,pl,hz⟩:=I.tuple hq;refine SeqAt.notIn_tupleAt (mE s.heap (gJ dx)) pl (λw hw=>l6 I rb o1 (lU hu) rs o2 r w (by simpa using hw)) ⟨.bl _,H,I,rfl,?_⟩;rw[show its.toArray.any (mE s.heap (gJ dx))=its.any (mE s.heap (gJ dx)) by simp,lI I rfl rs o2 r];exact q
end Z
variable {sp:Z.Fn}
namespace Z
open L2
theorem uQ{k:Nat}(r:Room k A):A.units+65<gy:=by have:=r.un;right
noncomputable def y8:Dv->Dv->(R->Prop)->Prop
 | .int i,.int j,Q=>j≠0/\Q (.v (.int (i.fmod j)))
 |_,_,_=>False
noncomputable def isB(b:Bool):Dv->Bool
 | .bl c=>c==b
 |_=>aj
noncomputable def Nj:Dv->Dv->(R->Prop)->Prop
 |d,.bl b,Q=>Q (.v (.bl (isB b d)))
 |_,_,_=>False
noncomputable def Ls:Dv->Dv->(R->Prop)->Prop
 |d,.bl b,Q=>Q (.v (.bl (!isB b d)))
 |_,_,_=>False
theorem Em:sX X (fu .Mod) y8:=by
 refine⟨λdx dy Q Q' w h=>?_,_,HJ,λM O H x y dx dy Q cx cy h=>?_⟩
 ·unfold y8 at h;split at h
  ·exact⟨h.1,w _ h.2⟩
  ·exact h.elim
 ·unfold y8 at h;split at h
  ·obtain rfl:=cx.int;obtain rfl:=cy.int;exact⟨_,_,rfl,rfl,h.1,h.2 _ H (aM.refl _) (Rep.int _)⟩
  ·exact h.elim
noncomputable def Ia(i:Nat)(tk tv:cO):bV:=λE ρ=>match ρ[i]? with
 |some (.own a (.lst xs))=>tv ρ λr=>tk ρ λk=>match k.d with
  | .int n=>match pG xs.length n with
   |some j=>r.free=ah/\E.nx (ρ.set i (.own a (.lst (xs.set j r.d))))
   |none=>False
  |_=>False
 |_=>False
noncomputable def inD(d:Dv)(ds:List Dv):Bool:=ds.any λe=>eqD e d
noncomputable def DS:Dv->Dv->(R->Prop)->Prop
 |d,.lst ds,Q=>(cJ 8 d=ah/\okDs 8 ds=ah)/\Q (.v (.bl (inD d ds)))
 |d,.tup ds,Q=>(cJ 8 d=ah/\okDs 8 ds=ah)/\Q (.v (.bl (inD d ds)))
 |_,_,_=>False
noncomputable def rH:Dv->Dv->(R->Prop)->Prop
 |d,.lst ds,Q=>(cJ 8 d=ah/\okDs 8 ds=ah)/\Q (.v (.bl (!inD d ds)))
 |d,.tup ds,Q=>(cJ 8 d=ah/\okDs 8 ds=ah)/\Q (.v (.bl (!inD d ds)))
 |_,_,_=>False
theorem vE(hu:X.A.units+65<gy)(_hu1:X.A.units+1<gy):sX X (bu .In) DS:=by
 refine⟨λdx dy Q Q' w h=>?_,_,K4 hu,λM O H x y dx dy Q cx cy h=>?_⟩
 ·unfold DS at h;split at h
  ·exact⟨h.1,w _ h.2⟩
  ·exact⟨h.1,w _ h.2⟩
  ·exact h.elim
 ·unfold DS at h;split at h
  ·obtain⟨a,xs,rfl,ea,ra⟩:=cy.lst;exact⟨M,_,_,a,xs,cx,rfl,.inl (eZ.of ea),ra,h.1.1,h.1.2,h.2 _ H (aM.refl _) (Rep.bl _)⟩
  ·obtain⟨a,xs,rfl,ea,ra⟩:=cy.tup;exact⟨M,_,_,a,xs,cx,rfl,.inr (kH.of ea),ra,h.1.1,h.1.2,h.2 _ H (aM.refl _) (Rep.bl _)⟩
  ·exact h.elim
theorem Cm(hu:X.A.units+65<gy)(_hu1:X.A.units+1<gy):sX X (bu .NotIn) rH:=by
 refine⟨λdx dy Q Q' w h=>?_,_,Cn hu,λM O H x y dx dy Q cx cy h=>?_⟩
 ·unfold rH at h;split at h
  ·exact⟨h.1,w _ h.2⟩
  ·exact⟨h.1,w _ h.2⟩
  ·exact h.elim
 ·unfold rH at h;split at h
  ·obtain⟨a,xs,rfl,ea,ra⟩:=cy.lst;exact⟨M,_,_,a,xs,cx,rfl,.inl (eZ.of ea),ra,h.1.1,h.1.2,h.2 _ H (aM.refl _) (Rep.bl _)⟩
  ·obtain⟨a,xs,rfl,ea,ra⟩:=cy.tup;exact⟨M,_,_,a,xs,cx,rfl,.inr (kH.of ea),ra,h.1.1,h.1.2,h.2 _ H (aM.refl _) (Rep.bl _)⟩
  ·exact h.elim
structure QX(X:Cx)(st:iq)(i:Nat)(te:cO):Prop where
 mono:∀(ρ:List Sl) (Q Q':R->Prop),(∀r,Q r->Q' r)->te ρ Q->te ρ Q'
 run:∀(HZ:Hp) (F:ae->Prop),PS X st (GV (lift X.K HZ F te) (yX i))
section
variable {X:Cx}{pos:gv}{st:iq}{te:cO}{i:Nat}
theorem QX.step{HZ:Hp}{F:ae->Prop}{σ:St}{H:Hp}{ρ:List Sl}{Q:R->Prop}{Q':VK}(h:QX X st i te)(fr:Fr X.K HZ F σ H ρ)(q:te ρ Q)
  (k:∀r x H',Q r->aM H H'->dC X.K (MM F ρ) (wX ρ) H x r H'->Q' x H'):lift X.K HZ F te σ H Q':=⟨ρ,fr,h.mono _ _ _ (λr qr x H' S rx=>k r x H' qr S rx) q⟩
theorem JQ(he:QX X st i te):QS X st (bQ i te):=by
 refine⟨λE E' ρ w h=>he.mono _ _ _ (λr q=>?_) h,λHZ F=>eJ (he.run HZ F) λD σ H ⟨ρ,E,fr,h,en⟩=>?_⟩
 ·cases r with
  |v d=>exact w.nx _ q
  |nw d=>exact w.nx _ q
  |ow a d=>exact q
 ·refine he.step fr h λr x H1 q S1 r1=>?_;cases r with
  |v d=>exact en.nx _ _ _ ((fr.mono S1).setv r1) q
  |nw d=>exact en.nx _ _ _ ((fr.mono S1).setv (r1.rep (λa m=>fr.dom m) rfl)) q
  |ow a d=>exact q.elim
end
variable {y:az}{py spos:gv}{iy:Nat}{elt iter tgt:Expr}{ti:Au}{g:wT}{tt:jI}
theorem Gf{cl:List (az×ae)}{tgs ns:List az}{js:List Nat}{k:Nat}(hN:X.N.Nodup)(hi2:X.N[iy]?=aa y)(hx2:GM X.env.scope y)(hc:X.N=X.N)(hk:tgs.length=k)
  (hi:QI X tgt iter ti) (hg:∀(fp:List ae) (s:af) (H:Hp),QG (nO X QM cl fp (tgs++ns) s H) tgt k g) (ht:∀(fp:List ae) (s:af) (H:Hp),QTs (nO X QM cl fp (tgs++ns) s H) ifs tt)
  (he:∀(fp:List ae) (s:af) (H:Hp),QE (nO X QM cl fp (tgs++ns) s H) elt te)
  (R8:pq QM X.env=gc cl) (R3:∀x c,cl.lookup x=aa c->X.env.cells.lookup x=aa c)
  (Rg:∀x,((fh QM X.env).names.lookup x=aa .cell \/ (fh QM X.env).names.lookup x=aa .free) -> ∃c,cl.lookup x=aa c)
  (hjs:js.map (λj=>X.N[j]?)=ns.map aa) (hin:∀y∈ns,(fh QM X.env).names.lookup y=aa .cell \/ (fh QM X.env).names.lookup y=aa .free)
  (R9:∀y∈ns,X.env.kindOf y=aa .cell \/ X.env.kindOf y=aa .free) (nd:js.Nodup)
  (QQ:autoParam (∀y∈QM.names,y.2 ≠ .cell) Ax._auto_1) (QY:autoParam (QM.kind=.function) c6._auto_1)
  (QR:autoParam (∀y∈QM.names,y.2=.local->QM.names.lookup y.1=aa .local) Ax._auto_1)
  (hs:autoParam (∀z,fm iter X.env z=gc z) GO._auto_1)
  (hsw:autoParam (gk (.ListComp elt [⟨tgt,iter,ifs,0⟩] QM pos) (aa (.Name y py)) spos.line X.env=gc ah) c6._auto_1) (hf:autoParam (X.fn y=ah \/ X.env.scope.names.lookup y=aa .local) DU._auto_1):
  QX X (.Assign [.Name y py] (.ListComp elt [⟨tgt,iter,ifs,0⟩] QM pos) spos) iy (gQ k js ti g tt te):=by
 have mg:=(hg [] X.s₀ λ_=>ap).mono;have ag:=(hg [] X.s₀ λ_=>ap).agree;have mt:=(ht [] X.s₀ λ_=>ap).mono;have me:=(he [] X.s₀ λ_=>ap).mono;refine⟨λρ Q Q' w h=>hi.mono _ _ _ (λds ogs h=>iF mg mt me ds [] Q Q' w h) h,λHZ F=>?_⟩;obtain⟨wi,hwi,wiq⟩:=hi.run HZ F
 suffices key:∀σ H Q,lift X.K HZ F (gQ k js ti g tt te) σ H Q->uV wi tgs.length js (liftG X.K k g) (λσ H Q=>∃HZ F,liftT X.K HZ F tt σ H Q) (λσ H Q=>∃HZ F,lift X.K HZ F te σ H Q) σ H Q from
  eJ (EC (tgs:=tgs) (ns:=ns) (js:=js) (g:=liftG X.K k g) (tt:=λσ H Q=>∃HZ F,liftT X.K HZ F tt σ H Q) (te:=λσ H Q=>∃HZ F,lift X.K HZ F te σ H Q) hN hi2 hx2 hc hwi (λfp s H=>(hg fp s H).pg) (λfp s H=>(ht fp s H).pt) (λfp s H=>(he fp s H).pe) R8 R3 Rg hjs hin R9 QQ QY QR hs hsw hf) λD σ H h=>key σ H _ h
 intro σ H Q ⟨ρ,fr,h⟩;subst hk;refine wiq σ H ρ _ fr (hi.mono _ _ _ (λds ogs q J H1 S1 gd ok=>?_) h);intro D hD;have fr1:=fr.mono S1;refine⟨λi m acc H2=>m=ds.length-i/\i<=ds.length/\aM H1 H2 /\ ∃accD,Reps X.K (λa=>MM F ρ a \/ a=D) H2 acc accD /\
  dI (au tgs.length .un++dP js ρ) g tt te (ds.drop i) accD (λr=>∀x H',aM H H'->dC X.K (MM F ρ) (wX ρ) H x r H'->Q x H'),
  ⟨ds.length,by simp,mj _,aM.new' hD,[],.nil,by simpa using q⟩,?_⟩
 rintro i m acc H2 ⟨rfl,hil,S2,accD,ra,q⟩ hDl;have G2:Gen X.K (MM F ρ) (λa=>MM F ρ a \/ a=D) H1 H2:=(Gen.fresh hD).trans (.mono S2);have oks:=ok i H2 (λa=>MM F ρ a \/ a=D) (λb o e=>S2 _ _ (lR e)) G2 λp hp=>by
  obtain⟨_,_,_,ow⟩:=fr1.at_own (gd p hp);exact ow.gen G2 λo e=>S2 _ _ e
 by_cases hlt:i<ds.length
 ·have hd:ds[i]?=aa ds[i]:=by simp[hlt]
  rw[lr hlt] at q;obtain⟨go,yld⟩:=oks.1 _ hd;refine .inr ⟨go,λy H3 hy old lo=>?_⟩;obtain⟨S3,ry⟩:=yld y H3 hy;have hD3:=S3 _ _ hDl;obtain⟨P,F',fr',iff,iffF⟩:=fr1.block (js:=js) (old:=old) (S2.trans S3) hD (by rw[hD3];simp) nd lo;refine⟨_,P,F',_,fr',ry.weak λa z=>(iff a).mp z,mg _ _ _ _ (λρ1 q1 σ1 f1 a1=>?_) (ag _ _ _ q)⟩;obtain⟨q1,l1,b1⟩:=q1;have up:∀a,MM F ρ a \/ a=D->MM F' ρ1 a:=λa z=>by
   rcases(iff a).mpr z with z | ⟨d,z⟩
   ·exact .inl z
   ·refine .inr ⟨d,?_⟩;obtain⟨j,e⟩:=px.mp z;have hj:tgs.length<=j:=by
     by_cases hj:j<tgs.length
     ·rw[bv (by simpa using hj),fv,QL hj] at e;cases e
     ·right
    rw[<- b1 j hj] at e;exact cq e
  have hlen:σ1.length=tgs.length+(pick js σ).length:=by
   have:=f1.len;rw[l1] at this;simp[pick,dP] at this ⊢;right
  refine⟨⟨σ1.take tgs.length,by rw[kq];right,xG lo hlen a1⟩,P,F',ρ1,f1,mt _ _ _ (λb q5 H5 S5=>?_) q1⟩;have S25:=(S2.trans S3).trans S5;cases b with
  |true=>
   simp only[if_true] at q5;refine jB ⟨P,F',ρ1,f1.mono S5,me _ _ _ (λr q6 x H6 S6 rx=>?_) q5⟩;have hD6:=S6 _ _ (S5 _ _ hD3);obtain⟨⟨rf,rl⟩,q6⟩:=q6;have rep:=(rx.rep (λa z=>(f1.mono S5).dom z) rf).weak up;refine⟨hD6,by rw[ra.length];exact rV rl,ds.length-(i+1),⋯,rfl,hlt,λb o e=>?_,_,?_,q6⟩
   ·rw[bB (bC e hD)];exact S6 _ _ (S25 _ _ e)
   ·have G6:Gen X.K (λa=>MM F ρ a \/ a=D) (λa=>MM F ρ a \/ a=D) H6 (upd H6 D (.lst (acc++[x]))):=Gen.write (.inr rfl) (by rw[hD6];trivial);exact((ra.mono ((S3.trans S5).trans S6)).append (.cons rep .nil)).gen G6
  |false=>
   simp only[cv,if_false] at q5;exact jC ⟨S5 _ _ hD3,ds.length-(i+1),⋯,rfl,hlt,S25,accD,ra.mono (S3.trans S5),q5⟩
 ·have e:i=ds.length:=⋯;subst e;rw[zx] at q;exact .inl ⟨oks.2 (bg _),q (.ref D) H2 (S1.trans S2) ⟨D,rfl,S1.free hD,acc,hDl,ra⟩⟩
theorem Lf(tgs ns:List az)(js:List Nat){k:Nat}(hN:X.N.Nodup)(hi2:X.N[iy]?=aa y)(hx2:GM X.env.scope y)(hc:X.N=X.N)(hi:QI X tgt iter ti)
  (hg:∀(fp:List ae) (s:af) (H:Hp),QG (nO X QM (dY X.env QM.names []) fp (tgs++ns) s H) tgt k g) (ht:∀(fp:List ae) (s:af) (H:Hp),QTs (nO X QM (dY X.env QM.names []) fp (tgs++ns) s H) ifs tt)
  (he:∀(fp:List ae) (s:af) (H:Hp),QE (nO X QM (dY X.env QM.names []) fp (tgs++ns) s H) elt te) (hk:autoParam (tgs.length=k) c6._auto_1)
  (Rj:autoParam ((QM.names.all λy=>!(y.2 == .free) || (X.env.cells.lookup y.1).isSome)=ah) c6._auto_1) (hjs:autoParam (js.map (λj=>X.N[j]?)=ns.map aa) c6._auto_1)
  (hin:autoParam ((ns.all λy=>(fh QM X.env).names.lookup y==aa .cell || (fh QM X.env).names.lookup y==aa .free)=ah) c6._auto_1) (R9:autoParam ((ns.all λy=>X.env.kindOf y==aa .cell || X.env.kindOf y==aa .free)=ah) c6._auto_1)
  (nd:autoParam (js.Nodup) mQ._auto_1) (QQ:autoParam (∀y∈QM.names,y.2 ≠ .cell) Ax._auto_1) (QY:autoParam (QM.kind=.function) c6._auto_1)
  (QR:autoParam (∀y∈QM.names,y.2=.local->QM.names.lookup y.1=aa .local) Ax._auto_1) (hs:autoParam (∀z,fm iter X.env z=gc z) GO._auto_1)
  (hsw:autoParam (gk (.ListComp elt [⟨tgt,iter,ifs,0⟩] QM pos) (aa (.Name y py)) spos.line X.env=gc ah) c6._auto_1) (hf:autoParam (X.fn y=ah \/ X.env.scope.names.lookup y=aa .local) DU._auto_1):
  QX X (.Assign [.Name y py] (.ListComp elt [⟨tgt,iter,ifs,0⟩] QM pos) spos) iy (gQ k js ti g tt te):=by
 refine Gf hN hi2 hx2 hc hk hi hg ht he (mP Rj) (λx c e=>jF QM.names [] (by simp) (x,c) (fe e)) (λx h=>?_) hjs (λy hy=>?_) (λy hy=>?_) nd QQ QY QR hs hsw hf
 ·obtain⟨c,hc⟩:=i6 QM.names [] Rj (nZ QQ h);exact iU hc
 ·have:=qd.mp hin y hy;simpa using this
 ·have:=qd.mp R9 y hy;simpa using this
noncomputable def Ly:Dv->Dv->(R->Prop)->Prop
 | .int i,.int j,Q=>Q (.v (.int (i+j)))
 | .str x,.str y,Q=>x.length+y.length<=tQ/\Q (.v (.str (x++y)))
 |_,_,_=>False
noncomputable def Lv:Dv->Dv->(R->Prop)->Prop
 | .int i,.int j,Q=>Q (.v (.int (i-j)))
 |_,_,_=>False
noncomputable def Lx:Dv->Dv->(R->Prop)->Prop
 | .int i,.int j,Q=>oP i j/\Q (.v (.int (i*j)))
 |_,_,_=>False
noncomputable def CL(te:cO)(g:wT):bV:=λE ρ=>te ρ λr=>r.free=ah/\g r.d ρ E.nx
theorem E4{k:Nat}(he:QE X e te)(hg:QG X tg k g)(hs:autoParam (swapsWithSole [tg] e pos.line X.env=gc aj) c6._auto_1)(hw:autoParam (swappedStores [tg] e X.env=gc ap) c6._auto_1)
  (h1:autoParam ((kn [tg] X.env).map (·.2)=[xf tg X.env]) c6._auto_1):QS X (.Assign [tg] e pos) (CL te g):=by
 obtain⟨t,ht,hr⟩:=hg.run;refine⟨λE E' ρ w h=>he.mono _ _ _ (λr q=>⟨q.1,hg.mono _ _ _ _ (λρ q=>w.nx _ q) q.2⟩) h,λHZ F=>eJ (Je (he.run HZ F) ht hs hw h1) λD σ H zz=>?_⟩;obtain⟨ρ,E,fr,h,en⟩:=zz;refine he.step fr h λr x H1 q S1 r1=>?_;have rep:=r1.rep (λa m=>fr.dom m) q.1;exact hr HZ F x r.d σ H1 ρ _ (fr.mono S1) rep (hg.mono _ _ _ _ (λρ1 q σ1 fr1 _=>en.nx _ _ _ fr1 q) q.2)
theorem Dx{a b c:Expr}{ta tb tc:cO}{op op':wp}{f f':Int->Int->Bool}(ho:gR X (bu op) (wV λi j=>.bl (f i j)))(ho':gR X (bu op') (wV λi j=>.bl (f' i j)))(ha:QE X a ta)(hb:QE X b tb)(hc:QE X c tc)
  (hm:autoParam (sy [op,op'] [b,c]=aj) JF._auto_1):QT X (.Compare a [op,op'] [b,c] pos) (aZ (pJ (tZ f) (tZ f') ta tb tc)):=by
 have Q0:=Gg (pos:=pos) ho ho' ha hb hc hm;have low:∀(HZ:Hp) (F:ae->Prop) (σ:St) (H:Hp) (Q:VK),lift X.K HZ F (pJ (tZ f) (tZ f') ta tb tc) σ H Q->A4 (wV λi j=>.bl (f i j)) (wV λi j=>.bl (f' i j)) (lift X.K HZ F ta) (lift X.K HZ F tb) (lift X.K HZ F tc) σ H Q:=by
  rintro HZ F σ H Q ⟨ρ,fr,q⟩;refine ha.step fr q λrx x H1 q1 S1 r1=>?_;refine hb.step (fr.mono S1) q1 λry y H2 q2 S2 r2=>?_;have cx:=(r1.mono S2).c;have cy:=r2.c;generalize rx.d=dx at q2 cx;generalize ry.d=dy at q2 cy;unfold tZ at q2;split at q2
  ·rename_i Q2 i j;obtain rfl:=cx.int;obtain rfl:=cy.int;refine⟨_,_,rfl,rfl,f i j,rfl,?_⟩;have S12:=S1.trans S2;replace q2:=(show (if f i j=ah then tc ρ (λw=>tZ f' (.int j) w.d (λr=>∀x H',aM H H'->dC X.K (MM F ρ) (Z.wX ρ) H x r H'->Q x H')) else (∀x H',aM H H'->dC X.K (MM F ρ) (Z.wX ρ) H x (.v (.bl aj)) H'->Q x H')) from q2);cases h:f i j with
   |true=>
    rw[h] at q2;simp only[if_true] at q2;refine jB (hc.step ((fr.mono S1).mono S2) q2 λrw' z H3 q3 S3 r3=>?_);have cz:=r3.c;generalize rw'.d=dz at q3 cz;cases dz with
    |int l=>
     obtain rfl:=cz.int;exact⟨_,_,rfl,rfl,q3 _ H3 (S12.trans S3) (Rep.bl _)⟩
    |_=>exact(show False from q3).elim
   |false=>
    rw[h] at q2;simp only[cv,if_false] at q2;exact jC (q2 _ H2 S12 (Rep.bl _))
  ·exact q2.elim
 refine⟨λρ Q Q' w q=>sM Q0.mono ρ Q Q' w q,λHZ F=>wU (E8 ho ho' (ha.run HZ F) (hb.run HZ F) (hc.run HZ F) hm) λσ H Q zz=>?_⟩;obtain⟨ρ,fr,q⟩:=zz;refine low HZ F σ H _ (Q0.step fr q λr x H1 q S1 r1=>?_);have cx:=r1.c;generalize r.d=d at q cx;split at q
 ·obtain rfl:=cx.bl;exact⟨_,rfl,q H1 S1⟩
 ·exact q.elim
variable {f:az}
noncomputable def CK(i:Nat)(te:cO):bV:=λE ρ=>match ρ[i]? with
 |some (.own a (.lst xs))=>te ρ λr=>match r.d with
  | .lst ys=>xs.length+ys.length<=tQ/\E.nx (ρ.set i (.own a (.lst (xs++ys))))
  |_=>False
 |_=>False
theorem Lh{p1 p2 p3:gv}(hv:PE X (.Name x p1) (uU i))(he:QE X e te)(hs:autoParam (gk (.Call (.Attribute (.Name x p1) "extend" p2) [e] [] p3) ap pos.line X.env=gc aj) c6._auto_1)
  (R6:autoParam (jn (.Name x p1) "extend" X.env (em (.Name x p1) X.env)=em (.Name x p1) X.env) c6._auto_1)
  (hfew:autoParam (((ix p3 (aw [e] X.env)).all (λx=>!x.1)&&(tj p3 (ni [] X.env)).all (λx=>x.1.isSome)
   && decide ([e].length+([]:List wf).length+(if ([]:List wf).isEmpty then 0 else 1)<30))=ah) c6._auto_1)
  (R7:autoParam ((p2.endLine==p3.line)=ah) c6._auto_1) (hst:autoParam (aw [e] X.env=(aj,em e X.env)::aw [] X.env) c6._auto_1) (Rf:autoParam ((ix p3 (aw [] X.env)).any (·.1)=aj) c6._auto_1):
  QS X (.Expr (.Call (.Attribute (.Name x p1) "extend" p2) [e] [] p3) pos) (CK i te):=by
 refine⟨λE E' ρ w h=>?_,λHZ F=>eJ (v7 (Ii nu PySem.F.slot_list_extend PySem.F.type_list_extend Cr hv (o6 (he.run HZ F) v9 hst) R6 hfew R7 hst Rf) hs) λD σ H ⟨ρ,E,fr,h,en⟩=>?_⟩
 ·unfold CK at *;split at h
  ·refine he.mono _ _ _ (λr q=>?_) h;split at q
   ·exact⟨q.1,w.nx _ q.2⟩
   ·exact q
  ·exact h
 ·unfold CK at h;split at h
  ·rename_i a xs hx;obtain⟨hs1,vs,hv1,rv1⟩:=fr.sl i _ hx;refine⟨_,hs1,.inl ⟨rfl,_,eZ.of hv1⟩,he.step fr h λr y H1 q S1 r1=>?_⟩;have cy:=r1.c;generalize r.d=d at q cy;split at q
   ·rename_i ys;obtain⟨b,zs,rfl,eb,rb⟩:=cy.lst;obtain⟨ql,q2⟩:=q;have hv2:=S1 _ _ hv1;refine⟨a,b,vs,zs,rfl,rfl,hv2,eb,gK (by rw[rv1.length,rb.length];exact ql),?_⟩;refine en.nx _ _ _ ((fr.mono S1).write (d':=.lst (xs++ys)) hx ⟨_,bO,?_⟩) q2;have G:Gen X.K (MM F ρ) (MM F ρ) H1 (upd H1 a (.lst (vs++zs))):=Gen.write (.inr ⟨_,cq hx⟩) (by rw[hv2];trivial);exact((rv1.mono S1).append rb).gen G
   ·exact q.elim
  ·exact h.elim
noncomputable def E6(f:az)(d:Dv):List (az×Dv)->List (az×Dv)
 | []=>[(f,d)]
 | (g,x)::r=>if g=f then (g,d)::r else (g,x)::E6 f d r
theorem RepF.put{x:V}{d:Dv}(a:Rep K M H x d){xs:List (az×V)}{ds:List (az×Dv)}(r:RepF K M H xs ds):RepF K M H (jW f x xs) (E6 f d ds):=
 r.ind (P:=λxs ds=>RepF K M H (jW f x xs) (E6 f d ds)) (.cons a .nil) λk _ _ _ _ b r ih=>by
  show RepF K M H (if k=f then _ else _) (if k=f then _ else _);split
  ·exact .cons a r
  ·exact .cons b ih
theorem RepF.length{K:ai}{M:ae->Prop}{H:Hp}{xs:List (az×V)}{ds:List (az×Dv)}(r:RepF K M H xs ds):xs.length=ds.length:=r.ind (P:=λxs ds=>xs.length=ds.length) rfl λ_ _ _ _ _ _ _ ih=>congrArg (· + 1) ih
noncomputable def rA(C:ae)(i:Nat)(f:az)(te:cO):bV:=λE ρ=>match ρ[i]? with
 |some (.own a (.obj C' fs))=>te ρ λr=>(C'=C/\r.free=ah/\fs.length<1000)/\E.nx (ρ.set i (.own a (.obj C' (E6 f r.d fs))))
 |_=>False
theorem E3{p1 p2:gv}(c:Cls X.K C)(n:fW X.K C f)(hv:PE X (.Name x p1) (uU i))(he:QE X e te)
  (hs:autoParam (gk e (aa (.Attribute (.Name x p1) f p2)) pos.line X.env=gc aj) c6._auto_1):QS X (.Assign [.Attribute (.Name x p1) f p2] e pos) (rA C i f te):=by
 refine⟨λE E' ρ w h=>?_,λHZ F=>eJ (Jd hv he.pe hs) λD σ H ⟨ρ,E,fr,h,en⟩=>?_⟩
 ·unfold rA at *;split at h
  ·exact he.mono _ _ _ (λr q=>⟨q.1,w.nx _ q.2⟩) h
  ·exact h
 ·unfold rA at h;split at h
  ·rename_i a C' fs hx;refine⟨HZ,F,he.step fr h λr y H1 q S1 r1=>?_⟩;obtain⟨⟨rfl,qf,ql⟩,q2⟩:=q;have fr1:=fr.mono S1;obtain⟨hs1,dx,fs1,hv1,rv1⟩:=fr1.sl i _ hx;have rep:=r1.rep (λa m=>fr.dom m) qf;refine⟨_,hs1,a,C',dx,fs1,rfl,hv1,c,n,by rw[rv1.length];exact ql,?_⟩;refine en.nx _ _ _ (fr1.write (d':=.obj C' (E6 f r.d fs)) hx ⟨dx,_,bO,?_⟩) q2;have G:Gen X.K (MM F ρ) (MM F ρ) H1 (upd H1 a (.ins C' dx (jW f y fs1))):=Gen.write (.inr ⟨_,cq hx⟩) (by rw[hv1];trivial);exact(RepF.put rep rv1).gen G
  ·exact h.elim
noncomputable def Nn(K:ai)(C:ae)(sp:Fn):Sp:=λvs H Q _=>∃(x dx:ae) (vs':List V) (H0:Hp) (F:ae->Prop) (ds:List Dv),vs=.ref x::vs'/\H=upd (upd H0 dx (.own x)) x (.ins C dx [])/\H0 x=ap/\H0 dx=ap/\dx≠x/\OldF K F H0/\Reps K F H0 vs' ds /\
 sp ds (λr=>∀H',aM H0 H'->dC K F zT H0 (.ref x) r H'->Q .non H')
structure IDef(P:aq)(w:bb)(K:ai)(mg:az->Option ac)(base:ca)(k:Nat)(x:az)(C:ae)(ps:List az)(sp:Fn):Prop where
 ex:∃f fd,Mk K C f/\mg x=aa (.ref C)/\i7 K fd ps []/\FnOk P w K mg base Av k f fd ps (Nn K C sp)
structure IAt(K:ai)(mg:az->Option ac)(x:az)(C:ae)(qual:az)(st:iq)(ps:List az):Prop where
 ex:∃f fd,Mk K C f/\mg x=aa (.ref C)/\Fun K "__init__" qual st f fd/\i7 K fd ps []
noncomputable def gM(C a:ae)(N:List az)(ds:List Dv):List Sl:=.own a (.obj C [])::(ds.map .v++au (N.length-(ds.length+1)) .un)
variable {H0:Hp}{dx:ae}
theorem Dr{x:ae}{o o':HO}(hx:H0 x=ap)(hd:H0 dx=ap):aM H0 (upd (upd H0 dx o) x o'):=λb q e=>by
 rw[bB (bC e hx),bB (bC e hd)];exact e
theorem CF{x:ae}{vs:List V}{ds:List Dv}(hx:H0 x=ap)(hd:H0 dx=ap)(hF:OldF K F H0)(r:Reps K F H0 vs ds):
  Fr K H0 F (start N (.ref x::vs)) (upd (upd H0 dx (.own x)) x (.ins C dx [])) (gM C x N ds):=by
 have S:aM H0 (upd (upd H0 dx (.own x)) x (.ins C dx [])):=Dr hx hd;have only:∀{a:ae} {d:Dv},Sl.own a d∈gM C x N ds->a=x:=λ{a d} h=>by
  rcases de.mp h with h | h
  ·cases h;rfl
  ·rcases ee.mp h with h | h
   ·obtain⟨z,_,e⟩:=gq.mp h;cases e
   ·cases dm h
 have wk:∀a,MM F (gM C x N ds) a->F a \/ a=x:=λa h=>by
  rcases h with h | ⟨d,h⟩
  ·exact .inl h
  ·exact .inr (only h)
 have G:Gen K F (MM F (gM C x N ds)) H0 (upd (upd H0 dx (.own x)) x (.ins C dx [])):=((Gen.fresh hx).trans (.mono S)).trans (.weak wk);have hl:=r.length;have r':=r.gen G;have zero:∀(i:Nat) (a:ae) (d:Dv),(gM C x N ds)[i]?=aa (.own a d)->i=0:=λi a d e=>by
  cases i with
  |zero=>rfl
  |succ i=>
   have e':(ds.map Sl.v++au (N.length-(ds.length+1)) Sl.un)[i]?=aa (.own a d):=e;have:=cq e';rcases ee.mp this with h | h
   ·obtain⟨z,_,e⟩:=gq.mp h;cases e
   ·cases dm h
 refine⟨by simp[L2.start,gM,hl],λi s e=>?_,λi j a d d' e1 e2=>?_,λa d h=>by rw[only h];exact hx,S,hF⟩
 ·cases i with
  |zero=>
   cases e;exact⟨rfl,dx,[],bO,.nil⟩
  |succ i=>
   have e':(ds.map Sl.v++au (N.length-(ds.length+1)) Sl.un)[i]?=aa s:=e;have es:(start N (.ref x::vs))[i+1]?=(vs.map aa++au (N.length-(vs.length+1)) ap)[i]?:=by simp[L2.start]
   rw[es];by_cases hi:i<ds.length
   ·rw[bv (by simpa using hi),bh] at e';cases q:ds[i]? with
    |none=>rw[q] at e';cases e'
    |some d=>
     rw[q] at e';cases e';obtain⟨y,hy,ry⟩:=r'.get q;refine⟨y,?_,ry⟩;rw[bv (by simpa using(bt.mp hy).1),bh,hy];rfl
   ·rw[cn (by simpa using lh hi)] at e';have:=cq e';cases dm this;trivial
 ·rw[zero i a d e1,zero j a d' e2]
theorem IAt.okP{k:Nat}{st:iq}{t:bV}(m:IAt K mg x C QP st ps)(S:FnScope N ps (aH st))
  (hq:∀(f:ae) (cdv:ac) (A:cf) (outer:List uy) (s:af) (H:Hp) (E:XK),Room k (A.deeper (pk QP (aH st) s.heap.objs.size f cdv))->QSs (sR Av P w K mg base N QP (aH st) f cdv A outer s H E).nox (dH st) t)
  (len:∀ds Q,sp ds Q->ds.length+1=ps.length) (hsp:∀ds Q,sp ds Q -> ∀a,t { nx:=λρ=>∃d,ρ[0]?=aa (.own a d)/\Q (.nw d),rt:=λ_=>False } (gM C a N ds)):IDef P w K mg base (k+1) x C ps sp:=by
 obtain⟨f,fd,M,hm,FF,hb⟩:=m.ex;refine⟨f,fd,M,hm,hb,FF.ok S (λvs H Q E zz=>?_) λcdv A outer s H vs Q E hr q=>?_⟩
 ·obtain⟨a,dx,vs',H0,F,ds,e,_,_,_,_,_,r,q⟩:=zz;rw[e,cj,r.length];exact len _ _ q
 ·obtain⟨a,dx,vs',H0,F,ds,rfl,rfl,hx,hd,hn,hF,r,q⟩:=q;refine⟨_,(hq f cdv A outer s _ E hr).run H0 F,gM C a N ds,_,CF hx hd hF r,hsp ds _ q a,?_,λ_ _ _ _ z=>z.elim,λ_ _ _ _ z=>z.elim,λ_ _ _ _ _ z=>z.elim⟩;rintro ρ σ H' fr ⟨d,hd',q⟩;have mem:Sl.own a d∈ρ:=cq hd';exact q H' fr.same ⟨a,rfl,hx,(fr.sl 0 _ hd').2.weak λb z=>z.elim .inl λz=>.inr ⟨d,by rw[z];exact mem⟩⟩
noncomputable def z8(sp:Fn)(ts:lJ):cO:=λρ Q=>ts ρ λrs=>sp (rs.map R.d) (back rs Q)
variable {ts:lJ}
section
variable {k:Nat}
theorem JR(d:IDef X.prog X.w X.K X.mg X.base k x C ps sp)(mo:MonoF sp)(hr:Room (k+1) X.A)(ha:QA X (e::es) ts)(hg:autoParam (Gl X x) c6._auto_1)
  (hdb:autoParam ((x==("__debug__" : az))=aj) mQ._auto_1) (he:autoParam (aw (e::es) X.env=(aj,em e X.env)::aw es X.env) c6._auto_1) (hpl:autoParam ((ix pos (aw es X.env)).any (·.1)=aj) c6._auto_1):
  QE X (.Call (.Name x p) (e::es) [] pos) (z8 sp ts):=by
 obtain⟨f,fd,M,hm,hb,FO⟩:=d.ex;refine⟨λρ Q Q' w q=>ha.mono _ _ _ (λrs q=>mo.mo _ _ _ (lX w) q) q,λHZ F=>c5 (Gy M FO hr hg hm hb .nil BE (ha.run HZ F) hdb he hpl) λσ H Q zz=>?_⟩;obtain⟨ρ,fr,h⟩:=zz;refine ha.step fr h λrs xs H1 q S1 r1=>?_;intro a dx hx hd hn;rw[fy];refine⟨a,dx,xs,H1,lent (MM F ρ) rs,rs.map R.d,rfl,rfl,hx,hd,hn,⟨λb z=>(fr.mono S1).dom z.1,(fr.mono S1).tab⟩,pE fr (λ_ h=>h) r1,mo.mo _ _ _ (λr q H' S rx=>?_) q⟩;exact⟨rfl,q.2 _ H' (S1.trans S) (u7 fr S1 rx q.1)⟩
end
section
variable {HZ:Hp}{σ:St}
end
noncomputable def JN(a:ae)(N:List az):List Dv->List Sl
 | []=>[]
 |d::ds=>.own a d::(ds.map .v++au (N.length-(ds.length+1)) .un)
noncomputable def LU(i:Nat)(sp:Fn)(ts:lJ):bV:=λE ρ=>ts ρ λrs=>match rs with
 | .ow a d::QN=>ρ[i]?=aa (.own a d)/\QN.all R.free=ah/\sp (d::QN.map R.d) (λr=>match r with | .nw d'=>∀b,E.nx (ρ.set i (.own b d')) | _=>False)
 |_=>False
section
variable {k:Nat}{pos2:gv}
end
noncomputable def Nh:Dv->Dv->(R->Prop)->Prop
 | .int i,.int j,Q=>IW i j/\Q (.v (.int (i*2 ^ j.toNat)))
 |_,_,_=>False
end Z
namespace L2
open AutoSeq1
section
variable {r:ae}{a b c:Int}{t u v:QK}
end
end L2
namespace L2
end L2
namespace Z
open L2
section
variable {a:Expr}{ts:lJ}{p2:gv}
noncomputable def MX(ts:lJ):cO:=λρ Q=>ts ρ λrs=>match rs.map R.d with
 | [.int j]=>(-(2 ^ 62)<=j/\j<2 ^ 62/\j.toNat<=1000000)/\Q (.v (.tup (bN 0 j.toNat)))
 |_=>False
end
end Z
namespace Tim
open PySem PySem.W PyProof.Rows
noncomputable def ask(lt:Nat->Nat->Bool)(N:Nat){α:Type}:KasT α->(α->Prop)->Prop
 | .ret a,Q=>Q a
 | .ask i j k,Q=>(i<N/\j<N/\i≠j)/\ask lt N (k (lt i j)) Q
theorem jH{lt:Nat->Nat->Bool}{N:Nat}{α β:Type}{f:α->KasT β}{Q:β->Prop}:∀(t:KasT α),ask lt N t (λa=>ask lt N (f a) Q)->ask lt N (t.bind f) Q
 | .ret _,h=>h
 | .ask i j k,h=>⟨h.1,jH (k (lt i j)) h.2⟩
theorem GD{lt:Nat->Nat->Bool}{N:Nat}{α:Type}{cmp:Nat->Nat->(Bool->af->Prop)->af->Prop}{s:af}(hc:∀i j C,i<N->j<N->i≠j->C (lt i j) s->cmp i j C s){Q:α->af->Prop}:
  ∀(t:KasT α),ask lt N t (λa=>Q a s)->t.kasWp cmp Q s
 | .ret _,h=>h
 | .ask i j k,h=>hc i j _ h.1.1 h.1.2.1 h.1.2.2 (GD hc (k (lt i j)) h.2)
structure Weak(lt:Nat->Nat->Bool):Prop where
 irr:∀a,lt a a=aj
 tr:∀a b c,lt a b=ah->lt b c=ah->lt a c=ah
 nt:∀a b c,lt a c=ah->lt a b=ah \/ lt b c=ah
noncomputable def cH(p:Array Nat)(k:Nat):Nat:=p.getD k 0
variable {p:Array Nat}{j:Nat}
theorem zS{q:Array Nat}(h:p[i]?=q[j]?):cH p i=cH q j:=by
 unfold cH;rw[qw,qw,h]
theorem j0(hj:j<=p.size)(k:Nat):cH (kas_rev p i j) k=if i<=k/\k<j then cH p (i+j-1-k) else cH p k:=by
 have e:=getElem?_mirror_all (i:=i) hj k;split
 ·rename_i h;rw[QL h] at e;exact zS e
 ·rename_i h;rw[Qi h] at e;exact zS e
theorem L4{k d:Nat}(hs:k<p.size)(hd:d<=k)(u:Nat):cH (bubble p k d) u=if u=k-d then cH p k else if k-d<u/\u<=k then cH p (u-1) else cH p u:=by
 have e:=getElem?_bubble hs d hd u;by_cases h1:u=k-d
 ·rw[QL h1] at e ⊢;exact zS e
 ·rw[Qi h1] at e ⊢;by_cases h2:k-d<u/\u<=k
  ·rw[QL h2] at e ⊢;exact zS e
  ·rw[Qi h2] at e ⊢;exact zS e
noncomputable def Pm(N:Nat)(p:Array Nat):Prop:=p.Perm (yo (ff N))
variable {q a b:Nat}{Q:Nat×Array Nat->Prop}
section
variable {lt:Nat->Nat->Bool}{N:Nat}
theorem Pm.size(h:Pm N p):p.size=N:=by
 have:=Array.Perm.size_eq h;simpa using this
theorem Pm.list(h:Pm N p):p.toList.Perm (ff N):=by
 have:=Array.perm_iff_toList_perm.mp h;simpa using this
theorem nR{k:Nat}(hk:k<p.size):cH p k=p.toList[k]'(by simpa using hk):=by
 unfold cH;simp[Qz,hk]
theorem Pm.ltN(h:Pm N p){k:Nat}(hk:k<N):cH p k<N:=by
 have hs:k<p.size:=by rw[h.size];exact hk
 rw[nR hs];exact nh.mp (h.list.mem_iff.mp (iw _))
theorem Pm.ne(h:Pm N p)(hi:i<N)(hj:j<N)(n:i≠j):cH p i≠cH p j:=by
 have nd:p.toList.Nodup:=h.list.nodup_iff.mpr zi;rw[nR (by rw[h.size];exact hi),nR (by rw[h.size];exact hj)];intro e;rcases rn n with z | z
 ·exact fc.mp nd i j _ _ z e
 ·exact fc.mp nd j i _ _ z e.symm
theorem Pm.rev(h:Pm N p)(i j:Nat):Pm N (kas_rev p i j):=Array.Perm.trans (mirror_perm _ _ _ _) h
theorem Pm.bub(h:Pm N p)(i j:Nat):Pm N (bubble p i j):=Array.Perm.trans (bubble_perm _ _ _) h
noncomputable def Tl(N:Nat)(p:Array Nat)(k:Nat):Prop:=∀i,k<=i->i<N->cH p i=i
theorem Tl.up{k m:Nat}(h:Tl N p k)(hm:k<=m):Tl N p m:=λi hi hn=>h i (fo hm hi) hn
theorem Tl.below{k:Nat}(h:Tl N p k)(P:Pm N p)(hk:i<k)(hn:i<N):cH p i<k:=by
 have:=P.ltN hn;apply Nat.lt_of_not_le;intro z;have e:=h _ z this;exact P.ne hn this ⋯ e.symm
theorem Tl.rev{k:Nat}(h:Tl N p k)(P:Pm N p)(hj:j<=k)(hN:j<=N):Tl N (kas_rev p i j) k:=λu hu hn=>by
 rw[j0 (by rw[P.size];exact hN),Qi ⋯];exact h u hu hn
noncomputable def DR(lt:Nat->Nat->Bool)(a b:Nat):Prop:=lt b a=aj/\(lt a b=ah \/ a<b)
theorem DR.trans(W:Weak lt){c:Nat}(h:DR lt a b)(k:DR lt b c):DR lt a c:=by
 have n1:lt c a=aj:=by
  cases e:lt c a with
  |false=>rfl
  |true=>
   rcases W.nt c b a e with z | z
   ·rw[k.1] at z;cases z
   ·rw[h.1] at z;cases z
 refine⟨n1,?_⟩;rcases h.2 with x | x
 ·rcases W.nt a c b x with z | z
  ·exact .inl z
  ·rw[k.1] at z;cases z
 ·rcases k.2 with y | y
  ·rcases W.nt b a c y with z | z
   ·rw[h.1] at z;cases z
   ·exact .inl z
  ·exact .inr (PY x y)
theorem Weak.asym(W:Weak lt)(h:lt a b=ah):lt b a=aj:=by
 cases e:lt b a with
 |false=>rfl
 |true=>have:=W.tr _ _ _ h e;rw[W.irr] at this;cases this
theorem DR.of(W:Weak lt)(h:lt a b=ah):DR lt a b:=⟨W.asym h,.inl h⟩
noncomputable def Up(lt:Nat->Nat->Bool)(p:Array Nat)(k:Nat):Prop:=∀u v,u<v->v<k->DR lt (cH p u) (cH p v)
noncomputable def Dn(lt:Nat->Nat->Bool)(p:Array Nat)(k:Nat):Prop:=∀u v,u<v->v<k->DR lt (cH p v) (cH p u)
theorem Up.rev{k:Nat}(h:Up lt p k)(hk:k<=p.size):Dn lt (kas_rev p 0 k) k:=λu v huv hv=>by
 rw[j0 hk,j0 hk,QL (by omega),QL (by omega)];exact h _ _ (by omega) (by omega)
theorem Dn.rev{k:Nat}(h:Dn lt p k)(hk:k<=p.size):Up lt (kas_rev p 0 k) k:=λu v huv hv=>by
 rw[j0 hk,j0 hk,QL ⋯,QL ⋯];exact h _ _ ⋯ ⋯
theorem Up.snoc(W:Weak lt){k:Nat}(h:Up lt p k)(t:Tl N p k)(P:Pm N p)(h1:1<=k)(hk:k<N)(n:lt (cH p k) (cH p (k-1))=aj):Up lt p (k+1):=λu v huv hv=>by
 by_cases e:v=k
 ·subst e;have one:DR lt (cH p (v-1)) (cH p v):=⟨n,.inr (by rw[t v (bg _) hk];exact t.below P ⋯ ⋯)⟩;by_cases e2:u=v-1
  ·rw[e2];exact one
  ·exact(h u (v-1) ⋯ ⋯).trans W one
 ·exact h u v huv ⋯
theorem wS(W:Weak lt)(P:Pm N p){Q:Nat->Prop}:∀(f n:Nat),1<=n->n+f<=N->Up lt p n->Tl N p n ->
  (∀m,n<=m->m<=n+f->Up lt p m->(m=n+f \/ m<N/\lt (cH p m) (cH p (m-1))=ah)->Q m)->ask lt N (kas_asc p f n) Q
 |0,n,_,hn,u,t,k=>k n (bg _) (bg _) u (.inl rfl)
 |f+1,n,h1,hn,u,t,k=>by
  refine⟨⟨P.ltN ⋯,P.ltN ⋯,P.ne ⋯ ⋯ ⋯⟩,?_⟩;show ask lt N (if lt (cH p n) (cH p (n-1))=ah then KasT.ret n else kas_asc p f (n+1)) Q;cases e:lt (cH p n) (cH p (n-1)) with
  |true=>
   rw[QL rfl];exact k n (bg _) ⋯ u (.inr ⟨⋯,e⟩)
  |false=>
   rw[Qi (by simp)];exact wS W P f (n+1) ⋯ ⋯ (u.snoc W t P h1 ⋯ e) (t.up ⋯) λm a b c d=>k m ⋯ ⋯ c (d.elim (λz=>.inl ⋯) .inr)
structure Run(lt:Nat->Nat->Bool)(N:Nat)(p:Array Nat)(n q:Nat):Prop where
 pm:Pm N p
 tl:Tl N p n
 le:q+1<=n
 hi:n<=N
 dn:Dn lt p (n-(q+1))
 same:∀u v,n-(q+1)<=u->u<v->v<n->lt (cH p u) (cH p v)=aj/\lt (cH p v) (cH p u)=aj/\cH p u<cH p v
 less:∀u v,u<n-(q+1)->n-(q+1)<=v->v<n->lt (cH p v) (cH p u)=ah
theorem Run.turn(W:Weak lt)(h:Run lt N p n q):Dn lt (kas_rev p (n-(q+1)) n) n:=λu v huv hv=>by
 have hs:n<=p.size:=by rw[h.pm.size];exact h.hi
 have hl:=h.le;rw[j0 hs,j0 hs];by_cases c:n-(q+1)<=v
 ·rw[QL ⟨c,hv⟩];by_cases d:n-(q+1)<=u
  ·rw[QL ⟨d,by omega⟩];obtain⟨a,b,e⟩:=h.same (n-(q+1)+n-1-v) (n-(q+1)+n-1-u) (by omega) (by omega) (by omega);exact⟨b,.inr e⟩
  ·rw[Qi (by omega)];exact DR.of W (h.less u _ (by omega) (by omega) (by omega))
 ·rw[Qi (by omega),Qi (by omega)];exact h.dn u v huv (by omega)
theorem Run.flat(W:Weak lt)(h:Run lt N p n 0):Dn lt p n:=λu v huv hv=>by
 by_cases c:n-1<=v
 ·exact DR.of W (h.less u v ⋯ ⋯ hv)
 ·exact h.dn u v huv ⋯
theorem Run.done(W:Weak lt)(h:Run lt N p n q):∃p',(if q > 0 then kas_rev p (n-(q+1)) n else p)=p'/\Pm N p'/\Tl N p' n/\Dn lt p' n /\ ∀u,u<n -> ∃w,w<n/\cH p' u=cH p w:=by
 by_cases c:q > 0
 ·refine⟨_,QL c,h.pm.rev _ _,h.tl.rev h.pm (bg _) h.hi,h.turn W,λu hu=>?_⟩;have hl:=h.le;rw[j0 (by rw[h.pm.size];exact h.hi)];split
  ·exact⟨_,⋯,rfl⟩
  ·exact⟨u,hu,rfl⟩
 ·have:q=0:=⋯;subst this;exact⟨_,Qi c,h.pm,h.tl,h.flat W,λu hu=>⟨u,hu,rfl⟩⟩
theorem Run.next(W:Weak lt)(h:Run lt N p n q)(hn:n<N)(e:lt (cH p n) (cH p (n-1))=ah):Run lt N (if q > 0 then kas_rev p (n-(q+1)) n else p) (n+1) 0:=by
 have hl:=h.le;have all:∀w,w<n->lt (cH p n) (cH p w)=ah:=λw hw=>by
  by_cases c:w=n-1
  ·rw[c];exact e
  ·by_cases d:w<n-(q+1)
   ·exact W.tr _ _ _ e (h.less w (n-1) d ⋯ ⋯)
   ·rcases W.nt _ (cH p w) _ e with z | z
    ·exact z
    ·rw[(h.same w (n-1) ⋯ ⋯ ⋯).1] at z;cases z
 obtain⟨p',ep,P,T,D,A⟩:=h.done W;rw[ep];have en:cH p' n=cH p n:=by rw[T n (bg _) hn,h.tl n (bg _) hn]
 refine⟨P,T.up ⋯,⋯,hn,by simpa using D,λu v a b c=>by right,λu v a b c=>?_⟩;have:v=n:=⋯;subst this;obtain⟨w,hw,ew⟩:=A u ⋯;rw[en,ew];exact all w hw
theorem Run.more(W:Weak lt)(h:Run lt N p n q)(hn:n<N)(e:lt (cH p n) (cH p (n-1))=aj)(d:lt (cH p (n-1)) (cH p n)=aj):Run lt N p (n+1) (q+1):=by
 have hl:=h.le;have en:=h.tl n (bg _) hn;have sz:n+1-(q+1+1)=n-(q+1):=⋯;refine⟨h.pm,h.tl.up ⋯,⋯,hn,by rw[sz];exact h.dn,λu v a b c=>?_,λu v a b c=>?_⟩
 ·rw[sz] at a;by_cases z:v=n
  ·subst z;have lw:cH p u<cH p v:=by rw[en];exact h.tl.below h.pm b ⋯
   by_cases y:u=v-1
   ·subst y;exact⟨d,e,lw⟩
   ·obtain⟨s1,s2,_⟩:=h.same u (v-1) a ⋯ ⋯;refine⟨?_,?_,lw⟩
    ·cases q1:lt (cH p u) (cH p v) with
     |false=>rfl
     |true=>
      rcases W.nt _ (cH p (v-1)) _ q1 with x | x
      ·rw[s1] at x;cases x
      ·rw[d] at x;cases x
    ·cases q1:lt (cH p v) (cH p u) with
     |false=>rfl
     |true=>
      rcases W.nt _ (cH p (v-1)) _ q1 with x | x
      ·rw[e] at x;cases x
      ·rw[s2] at x;cases x
  ·exact h.same u v a b ⋯
 ·rw[sz] at a b;by_cases z:v=n
  ·subst z;rcases W.nt _ (cH p v) _ (h.less u (v-1) a ⋯ ⋯) with x | x
   ·rw[d] at x;cases x
   ·exact x
  ·exact h.less u v a b ⋯
theorem oJ(W:Weak lt){Q:Array Nat×Nat×Nat->Prop}:∀(f:Nat) (p:Array Nat) (n q:Nat),n+f<=N->Run lt N p n q->(∀p' n' q',n<=n'->n'<=n+f->Run lt N p' n' q'->Q (p',n',q'))->ask lt N (kas_desc f p n q) Q
 |0,p,n,q,hn,r,k=>k p n q (bg _) (bg _) r
 |f+1,p,n,q,hn,r,k=>by
  have hl:=r.le;refine⟨⟨r.pm.ltN ⋯,r.pm.ltN ⋯,r.pm.ne ⋯ ⋯ ⋯⟩,?_⟩;show ask lt N (if lt (cH p n) (cH p (n-1))=ah then (if q > 0 then kas_desc f (kas_rev p (n-(q+1)) n) (n+1) 0 else kas_desc f p (n+1) 0)
   else .ask (p.getD (n-1) 0) (p.getD n 0) λd=>if d=ah then .ret (p,n,q) else kas_desc f p (n+1) (q+1)) Q
  cases e:lt (cH p n) (cH p (n-1)) with
  |true=>
   rw[QL rfl];have r':=r.next W ⋯ e;by_cases c:q > 0
   ·rw[QL c] at r' ⊢;exact oJ W f _ (n+1) 0 ⋯ r' λp' n' q' a b c=>k p' n' q' ⋯ ⋯ c
   ·rw[Qi c] at r' ⊢;exact oJ W f _ (n+1) 0 ⋯ r' λp' n' q' a b c=>k p' n' q' ⋯ ⋯ c
  |false=>
   rw[Qi (by simp)];refine⟨⟨r.pm.ltN ⋯,r.pm.ltN ⋯,r.pm.ne ⋯ ⋯ ⋯⟩,?_⟩;show ask lt N (if lt (cH p (n-1)) (cH p n)=ah then .ret (p,n,q) else kas_desc f p (n+1) (q+1)) Q;cases d:lt (cH p (n-1)) (cH p n) with
   |true=>
    rw[QL rfl];exact k p n q (bg _) ⋯ r
   |false=>
    rw[Qi (by simp)];exact oJ W f _ (n+1) (q+1) ⋯ (r.more W ⋯ e d) λp' n' q' a b c=>k p' n' q' ⋯ ⋯ c
noncomputable def OO(lt:Nat->Nat->Bool)(N:Nat)(r:Nat×Array Nat):Prop:=1<=r.1/\r.1<=N/\Pm N r.2/\Up lt r.2 r.1/\Tl N r.2 r.1
theorem xD(W:Weak lt)(P:Pm N p)(h1:1<=n)(hn:n<=N)(D:Dn lt p n)(T:Tl N p n)(k:∀r,OO lt N r->Q r):ask lt N (kas_tail3 n N p) Q:=by
 unfold kas_tail3;have P':=P.rev 0 n;have T':Tl N (kas_rev p 0 n) n:=T.rev P (bg _) hn;refine jH _ (wS W P' (N-n) n h1 ⋯ (D.rev (by rw[P.size];exact hn)) T' λm a b c d=>?_);exact k _ ⟨by show 1<=m;right,by show m<=N;right,P',c,T'.up a⟩
theorem xR(W:Weak lt)(P:Pm N p)(h1:1<=n)(hn:n<N)(D:Dn lt p n)(T:Tl N p n)(e:∀w,w<n->lt (cH p n) (cH p w)=ah)(k:∀r,OO lt N r->Q r):ask lt N (kas_descPart n N p) Q:=by
 unfold kas_descPart;have r0:Run lt N p (n+1) 0:=⟨P,T.up ⋯,⋯,hn,by simpa using D,λu v a b c=>by right,λu v a b c=>by
  have:v=n:=⋯;subst this;exact e u ⋯⟩
 refine jH _ (oJ W _ p (n+1) 0 ⋯ r0 λp' n' q' a b r=>?_);obtain⟨p2,ep,P2,T2,D2,_⟩:=r.done W;show ask lt N (if q' > 0 then kas_tail3 n' N (kas_rev p' (n'-(q'+1)) n') else kas_tail3 n' N p') Q;by_cases c:q' > 0
 ·rw[QL c] at ep ⊢;rw[ep];exact xD W P2 ⋯ ⋯ D2 T2 k
 ·rw[Qi c] at ep ⊢;rw[ep];exact xD W P2 ⋯ ⋯ D2 T2 k
theorem DL(W:Weak lt)(P:Pm N p)(h1:1<=N)(T:Tl N p 0)(k:∀r,OO lt N r->Q r):ask lt N (kas_count N p) Q:=by
 unfold kas_count;refine jH _ (wS W P (N-1) 1 (bg _) ⋯ (λu v a b=>by right) (T.up ⋯) λm a b c d=>?_);by_cases z:m=N
 ·rw[QL (by simpa using z)];exact k _ ⟨a,by show m<=N;right,P,c,T.up ⋯⟩
 ·rw[Qi (by simpa using z)];have hm:m<N/\lt (cH p m) (cH p (m-1))=ah:=d.resolve_left ⋯;by_cases y:m > 1
  ·rw[QL y];refine⟨⟨P.ltN ⋯,P.ltN ⋯,P.ne ⋯ ⋯ ⋯⟩,?_⟩;show ask lt N (if lt (cH p 0) (cH p (m-1))=ah then .ret (m,p) else kas_descPart m N (kas_rev p 0 m)) Q;cases e:lt (cH p 0) (cH p (m-1)) with
   |true=>
    rw[QL rfl];exact k _ ⟨a,by show m<=N;right,P,c,T.up ⋯⟩
   |false=>
    rw[Qi (by simp)];have hs:m<=p.size:=by rw[P.size];right
    refine xR W (P.rev _ _) a hm.1 (c.rev hs) ((T.up (mj m)).rev P (bg _) ⋯) (λw hw=>?_) k;rw[j0 hs,j0 hs,Qi ⋯,QL ⋯];have m0:lt (cH p m) (cH p 0)=ah:=by
     rcases W.nt _ (cH p 0) _ hm.2 with x | x
     ·exact x
     ·rw[e] at x;cases x
    by_cases w0:0+m-1-w=0
    ·rw[w0];exact m0
    ·rcases W.nt _ (cH p (0+m-1-w)) _ m0 with x | x
     ·exact x
     ·rw[(c 0 (0+m-1-w) ⋯ ⋯).1] at x;cases x
  ·rw[Qi y];have:m=1:=⋯;subst this;refine xR W P a hm.1 (λu v a b=>by right) (T.up ⋯) (λw hw=>?_) k;have:w=0:=⋯;subst this;exact hm.2
theorem p9(W:Weak lt)(P:Pm N p){k:Nat}(hk:k<N)(U:Up lt p k){Q:Nat->Prop}:∀(f l r:Nat),l<=r->r<=k->r-l<=f->(∀u,u<l->lt (cH p k) (cH p u)=aj)->(∀u,r<=u->u<k->lt (cH p k) (cH p u)=ah) ->
  (∀l',l'<=k->(∀u,u<l'->lt (cH p k) (cH p u)=aj)->(∀u,l'<=u->u<k->lt (cH p k) (cH p u)=ah)->Q l')->ask lt N (kas_place p k f l r) Q
 |0,l,r,hl,hr,hf,a,b,g=>by
  have:r=l:=⋯;subst this;exact g r hr a b
 |f+1,l,r,hl,hr,hf,a,b,g=>by
  unfold kas_place;by_cases c:l >= r
  ·rw[QL c];have:r=l:=⋯;subst this;exact g r hr a b
  ·rw[Qi c];have hm:(l+r) / 2<r:=⋯;have hm2:l<=(l+r) / 2:=⋯;generalize (l+r) / 2=mid at *;refine⟨⟨P.ltN hk,P.ltN ⋯,P.ne hk ⋯ ⋯⟩,?_⟩;show ask lt N (if lt (cH p k) (cH p mid)=ah then kas_place p k f l mid else kas_place p k f (mid+1) r) Q;cases e:lt (cH p k) (cH p mid) with
   |true=>
    rw[QL rfl];refine p9 W P hk U f l mid hm2 ⋯ ⋯ a (λu h1 h2=>?_) g;by_cases z:u=mid
    ·rw[z];exact e
    ·rcases W.nt _ (cH p u) _ e with x | x
     ·exact x
     ·rw[(U mid u ⋯ h2).1] at x;cases x
   |false=>
    rw[Qi (by simp)];refine p9 W P hk U f (mid+1) r ⋯ hr ⋯ (λu hu=>?_) b g;by_cases z:u=mid
    ·rw[z];exact e
    ·cases q:lt (cH p k) (cH p u) with
     |false=>rfl
     |true=>
      rcases W.nt _ (cH p mid) _ q with x | x
      ·rw[e] at x;cases x
      ·rw[(U u mid ⋯ ⋯).1] at x;cases x
theorem C2(W:Weak lt){Q:Array Nat->Prop}:∀(f:Nat) (p:Array Nat) (k:Nat),k+f=N->Pm N p->Up lt p k->Tl N p k->(∀p',Pm N p'->Up lt p' N->Q p')->ask lt N (kas_bin f p k) Q
 |0,p,k,hk,P,U,T,g=>by
  have:k=N:=⋯;subst this;exact g p P U
 |f+1,p,k,hk,P,U,T,g=>by
  refine jH _ (p9 W P ⋯ U k 0 k (mj _) (bg _) ⋯ (λu h=>by right) (λu h1 h2=>by right) λl hl a b=>?_);have hs:k<p.size:=by rw[P.size];right
  have e:∀u,cH (bubble p k (k-l)) u=if u=l then cH p k else if l<u/\u<=k then cH p (u-1) else cH p u:=λu=>by
   rw[L4 hs ⋯ u,show k-(k-l)=l by right]
  refine C2 W f _ (k+1) ⋯ (P.bub _ _) (λu v huv hv=>?_) (λi hi hn=>?_) g
  ·have tk:=T k (bg _) ⋯;rw[e u,e v];by_cases u1:u=l
   ·rw[QL u1,Qi ⋯,QL ⋯];exact DR.of W (b (v-1) ⋯ ⋯)
   ·rw[Qi u1];by_cases v1:v=l
    ·rw[QL v1,Qi ⋯];exact⟨a u ⋯,.inr (by rw[tk];exact T.below P ⋯ ⋯)⟩
    ·rw[Qi v1];by_cases u2:l<u
     ·rw[QL ⋯,QL ⋯];exact U _ _ ⋯ ⋯
     ·rw[Qi ⋯];by_cases v2:l<v
      ·rw[QL ⋯];exact U _ _ ⋯ ⋯
      ·rw[Qi ⋯];exact U _ _ ⋯ ⋯
  ·rw[e i,Qi ⋯,Qi ⋯];exact T i ⋯ hn
theorem Do(W:Weak lt)(h1:1<=N){Q:Array Nat->Prop}(k:∀p',Pm N p'->Up lt p' N->Q p'):ask lt N (kas_sort N) Q:=by
 unfold kas_sort;refine jH _ (DL W (Array.Perm.refl _) h1 (λi _ hi=>by simp[cH,Qz,hi]) λr g=>?_);obtain⟨a,b,c,d,e⟩:=g;by_cases z:r.1<N
 ·rw[QL z];have:max r.1 1=r.1:=⋯;rw[this];exact C2 W _ r.2 r.1 ⋯ c d e k
 ·rw[Qi z];have:r.1=N:=⋯;rw[this] at d;exact k _ c d
end
end Tim
namespace L2
open PySem PySem.Spec PySem.W PyProof.Rows Tim
noncomputable abbrev picked(vs:List ac)(p:Array Nat):List ac:=p.toList.map λi=>vs.getD i gj
structure Cmp(prog:aq)(w:bb)(s:af)(a:ae)(vs:List ac)(lt:Nat->Nat->Bool)(κ:Pq):Prop where
 wk:Weak lt
 kind:∀(A:cf) (h:ca) (Q:Pq->af->Prop),(∀b o,b≠a->s.heap.get? b=aa o->h.get? b=aa o)->Q κ { s with heap:=h }->be (bn prog w) A (keyKind' vs.toArray) Q (λ_ _=>False) { s with heap:=h }
 less:∀(A:cf) (h:ca) (i j:Nat) (C:Bool->af->Prop),(∀b o,b≠a->s.heap.get? b=aa o->h.get? b=aa o)->i<vs.length->j<vs.length->i≠j->C (lt i j) { s with heap:=h } ->
  be (bn prog w) A (keyLt' κ (vs.getD i gj) (vs.getD j gj)) C (λ_ _=>False) { s with heap:=h }
theorem CS(vs:List ac):picked vs (yo (ff vs.length))=vs:=by
 apply ox;intro i;by_cases h:i<vs.length
 ·simp[picked,h]
 ·simp[picked,h]
theorem CG{vs:List ac}{lt:Nat->Nat->Bool}{κ:Pq}{P:Fin->af->Prop}(ho:s.heap.get? a=aa (kr "list" vs.toArray n))(h64:vs.length<64)(c:2<=vs.length->Cmp prog w s a vs lt κ)
  (k:∀p,Pm vs.length p->Up lt p vs.length->P (.done (.ret .none)) { s with heap:=Pr s.heap a vs (picked vs p).toArray }):be (bn prog w) A (wc.«list.sort» ⟨[.ref a],[]⟩) P E s:=by
 have la:a<s.heap.objs.size:=av ho
 let h1:=s.heap.update a (Pk λ_=>#[])
 let h2:=h1.push (kr "tuple" vs.toArray 0)
 let h3:=h2.push (kr "list" #[] 0)
 obtain⟨m,g1⟩:∃m,h1.get? a=aa (kr "list" #[] m):=⟨_,get?_update_seq ho λ_=>#[]⟩;have sz1:h1.objs.size=s.heap.objs.size:=Heap.size_update ..;have keep:∀b o,b≠a->s.heap.get? b=aa o->h3.get? b=aa o:=λb o hb e=>
  ak _ (ak _ ((Heap.get?_update_ne _ _ _ _ hb).trans e))
 have g3:h3.get? a=aa (kr "list" #[] m):=ak _ (ak _ g1);have line:vs.length<=ay:=by rw[io];right
 have fin:∀p,Pm vs.length p->Up lt p vs.length->be (bn prog w) A (do
   let touched:=(<- seqEpoch a) != m
   PN (.ref a) λ_=>(picked vs p).toArray
   if touched then Qf "list.sort.modified";raiseError "ValueError" "list modified during sort"
   ret .none) P E { s with heap:=h3 }:=λp pm up=>by
  have sz:(picked vs p).toArray.size=vs.length:=by simp[picked,pm.size]
  refine ab (seqEpoch_at g3 rfl (ab (listUpdate_at g3 rfl ?_ (mj _) (by rw[sz];right))));rw[show (m != m)=aj by simp];exact ao (k p pm up)
 rw[list_sort_plain];refine ab (listItems_at ho rfl (ab (listUpdate_at ho rfl ?_ (by simpa using line) (mj _))));refine ab (seqEpoch_at g1 rfl (ab (wpAny_newTuple (ab (wu (jm ?_) (mj _))) (by simpa using line))));show be (bn prog w) A _ P E { s with heap:=h3 };dsimp only;by_cases two:2<=vs.length
 ·have big:¬vs.toArray.size<2:=by simpa using two
  rw[Qi big,Qi big];have cc:=c two;refine ab (fx (cc.kind A h3 (λx s'=>x=κ/\s'={ s with heap:=h3 }) keep ⟨rfl,rfl⟩) (λx s' e=>?_) λ_ _ z=>z.elim);obtain⟨rfl,rfl⟩:=e;have tree:(kas_sort vs.length).kasWp (kas_ask prog w A x vs) (λp s'=>(Pm vs.length p/\Up lt p vs.length)/\s'={ s with heap:=h3 }) { s with heap:=h3 }:=
   GD (lt:=lt) (N:=vs.length) (λi j C hi hj hn q=>cc.less A h3 i j C keep hi hj hn q) _ (Do cc.wk ⋯ λp a b=>⟨⟨a,b⟩,rfl⟩)
  refine ab (fx (kat_run (E:=E) (Q:=λst' s'=>∃p,(Pm vs.length p/\Up lt p vs.length)/\arrOf st'=p.map (kas_item (vs.toArray.zip vs.toArray))/\failedOf st'=ap/\s'={ s with heap:=h3 })
   rfl two h64 (λp st' s' _ a b q=>⟨p,q.1,a,b,q.2⟩) tree) (λr s' q=>?_) λ_ _ z=>z)
  obtain⟨⟨⟩,st'⟩:=r;obtain⟨p,⟨pm,up⟩,e1,e2,rfl⟩:=q;dsimp only at e1 e2 ⊢;rw[kat_snds rfl e1,e2];exact fin p pm up
 ·have few:vs.toArray.size<2:=by simp;right
  rw[QL few,QL few];refine ab (ao ?_);rw[StateT.run_pure];refine ab (ao ?_);dsimp only;have e:((arrOf (SortSt.mk' general' (vs.toArray.zip vs.toArray) #[] 7 ap)).map λx=>x.2)=(picked vs (yo (ff vs.length))).toArray:=by
   rw[CS];apply Array.toList_inj.mp;show ((vs.toArray.zip vs.toArray).map λx=>x.2).toList=_;simp;apply ox;intro i;by_cases hi:i<vs.length
   ·simp[hi]
   ·simp[hi]
  rw[e];exact fin _ (Array.Perm.refl _) λu v h1 h2=>by right
noncomputable def k4:List Int->List Int->Bool
 | [],[]=>aj
 | [],_::_=>ah
 |_::_,[]=>aj
 |a::r,b::t=>if a=b then k4 r t else decide (a<b)
theorem yS:∀a,k4 a a=aj
 | []=>rfl
 |a::r=>by rw[k4,QL rfl];exact yS r
theorem vP:∀a b c,k4 a b=ah->k4 b c=ah->k4 a c=ah
 | [],[],_,h,_=>by cases h
 | [],_::_,[],_,k=>by cases k
 | [],_::_,_::_,_,_=>rfl
 |_::_,[],_,h,_=>by cases h
 |_::_,_::_,[],_,k=>by cases k
 |a::r,b::t,c::u,h,k=>by
  unfold k4 at h k ⊢;by_cases e:a=b
  ·rw[QL e] at h;subst e;by_cases e2:a=c
   ·rw[QL e2] at k ⊢;exact vP r t u h k
   ·rw[Qi e2] at k ⊢;exact k
  ·rw[Qi e] at h;have h1:=of_decide_eq_true h;by_cases e2:b=c
   ·subst e2;rw[Qi e];exact h
   ·rw[Qi e2] at k;have h2:=of_decide_eq_true k;rw[Qi ⋯];exact decide_eq_true ⋯
theorem rW:∀a b,a≠b->k4 a b=ah \/ k4 b a=ah
 | [],[],h=>absurd rfl h
 | [],_::_,_=>.inl rfl
 |_::_,[],_=>.inr rfl
 |a::r,b::t,h=>by
  unfold k4;by_cases e:a=b
  ·subst e;rw[QL rfl,QL rfl];exact rW r t λz=>h (by rw[z])
  ·rw[Qi e,Qi (gp e)];rcases xl e with z | z
   ·exact .inl (decide_eq_true z)
   ·exact .inr (decide_eq_true z)
theorem Cu(f:Nat->List Int):Weak λi j=>k4 (f i) (f j):=by
 refine⟨λa=>yS _,λa b c=>vP _ _ _,λa b c h=>?_⟩;by_cases e:f a=f b
 ·exact .inr (by rw[<- e];exact h)
 ·rcases rW _ _ e with z | z
  ·exact .inl z
  ·exact .inr (vP _ _ _ z h)
section
variable {C:Bool->af->Prop}{fin:Bool}
theorem yR:∀(ns ms:List Int) (us vs ru rv:List ac) (i:Nat),ki us ns->ki vs ms->ns.length=ms.length->ns≠ms->C (k4 ns ms) s->KatLex prog w A ah fin C ((us++ru).zip (vs++rv)) i s
 | [],[],_,_,_,_,_,_,_,_,n,_=>absurd rfl n
 | [],_::_,_,_,_,_,_,_,_,l,_,_=>by cases l
 |_::_,[],_,_,_,_,_,_,_,l,_,_=>by cases l
 |a::r,b::t,_,_,ru,rv,i,.cons _ x hu,.cons _ y hv,l,n,q=>by
  unfold k4 at q;refine kat_cons (yy (kat_go (λe=>kat_yes ?_) λe=>kat_no ?_))
  ·have e':a=b:=by simpa using e
   rw[QL e'] at q;exact yR r t _ _ ru rv (i+1) hu hv (by simpa using l) (λz=>n (by rw[e',z])) q
  ·have e':¬a=b:=by simpa using e
   rw[Qi e'] at q;by_cases z:i=0
   ·rw[show (ah&&i==0)=ah by simp[z]];exact oneLt_int q
   ·rw[show (ah&&i==0)=aj by simp[z]];exact kat_one _ _ (lt_int q)
end
variable {N:Nat}{p:Array Nat}
noncomputable abbrev N9:=ae×List Int×List V
theorem Gw(P:Pm N p)(xs:List α)(hl:xs.length=N)(d:α):(p.toList.map λi=>xs.getD i d).Perm xs:=by
 have e:(ff N).map (λi=>xs.getD i d)=xs:=by
  apply ox;intro i;by_cases h:i<N
  ·simp[h,hl]
  ·simp[h,hl]
 have:=P.list.map λi=>xs.getD i d;rwa[e] at this
theorem xA{lt:Nat->Nat->Bool}(P:Pm N p)(U:Up lt p N)(xs:List α)(d:α)(Rel:α->α->Prop)(hR:∀i j,i<N->j<N->DR lt i j->Rel (xs.getD i d) (xs.getD j d)):
  (p.toList.map λi=>xs.getD i d).Pairwise Rel:=by
 rw[pb];rw[fc];intro i j hi hj hij;have si:i<p.size:=by simpa using hi
 have sj:j<p.size:=by simpa using hj
 have b:=U i j hij (by rw[<- P.size];exact sj);rw[nR si,nR sj] at b;have:=P.ltN (k:=i) (by rw[<- P.size];exact si);have:=P.ltN (k:=j) (by rw[<- P.size];exact sj);rw[nR si] at *;rw[nR sj] at *;exact hR _ _ (by assumption) (by assumption) b
end L2
namespace Z
open L2
noncomputable def LD:cO:=λ_ Q=>Q (.nw (.dit []))
theorem v6:QE X (.Dict [] [] pos) LD:=
 ⟨λρ Q Q' w q=>w _ q,λHZ F=>c5 EK λσ H Q ⟨ρ,fr,q⟩ p hp=>q _ _ (aM.new' hp) ⟨p,rfl,hp,0,[],bO,.nil⟩⟩
noncomputable def t3(kvs:List (List aY×Dv))(k:List aY)(d:Dv):List (List aY×Dv):=
 if kvs.any (λkv=>decide (kv.1=k)) then kvs.map (λkv=>if kv.1=k then (kv.1,d) else kv) else kvs++[(k,d)]
theorem RepT.any{K:ai}{M:ae->Prop}{H:Hp}{k:List aY}{xs:List (List aY×V)}{ds:List (List aY×Dv)}(r:RepT K M H xs ds):xs.any (λkv=>decide (kv.1=k))=ds.any (λkv=>decide (kv.1=k)):=
 r.ind (P:=λxs ds=>xs.any (λkv=>decide (kv.1=k))=ds.any (λkv=>decide (kv.1=k))) rfl λ_ _ _ _ _ _ _ ih=>by rw[ou,ou,ih]
theorem RepT.len(r:RepT K M H xs ds):xs.length=ds.length:=r.ind (P:=λxs ds=>xs.length=ds.length) rfl λ_ _ _ _ _ _ _ ih=>congrArg (· + 1) ih
theorem RepT.snoc{k:List aY}{x:V}{d:Dv}(a:Rep K M H x d)(r:RepT K M H xs ds):RepT K M H (xs++[(k,x)]) (ds++[(k,d)]):=
 r.ind (P:=λxs ds=>RepT K M H (xs++[(k,x)]) (ds++[(k,d)])) (.cons a .nil) λ_ _ _ _ _ b _ ih=>.cons b ih
theorem RepT.repl{k:List aY}{x:V}{d:Dv}(a:Rep K M H x d)(r:RepT K M H xs ds):
  RepT K M H (xs.map λkv=>if kv.1=k then (kv.1,x) else kv) (ds.map λkv=>if kv.1=k then (kv.1,d) else kv):=
 r.ind (P:=λxs ds=>RepT K M H (xs.map λkv=>if kv.1=k then (kv.1,x) else kv) (ds.map λkv=>if kv.1=k then (kv.1,d) else kv)) .nil λk' _ _ _ _ b _ ih=>by
  rw[cb,cb];by_cases e:k'=k
  ·rw[QL e,QL e];exact .cons a ih
  ·rw[Qi e,Qi e];exact .cons b ih
theorem RepT.put{k:List aY}{x:V}{d:Dv}(r:RepT K M H xs ds)(a:Rep K M H x d):RepT K M H (i9 xs k x) (t3 ds k d):=by
 unfold i9 t3;rw[r.any (k:=k)];split
 ·exact r.repl a
 ·exact r.snoc a
noncomputable def xJ(i:Nat)(tk tv:cO):bV:=λE ρ=>match ρ[i]? with
 |some (.own a (.dit kvs))=>tv ρ λr=>tk ρ λkk=>∃k:List aY,kk.d=.tup (k.map kD)/\(r.free=ah/\kvs.length<tQ)/\E.nx (ρ.set i (.own a (.dit (t3 kvs k r.d))))
 |_=>False
theorem Dz{p1 p2:gv}{k:Expr}{tk:cO}(hu:X.A.units+1<gy)(hv:PE X (.Name x p1) (uU i))(hk:QE X k tk)(he:QE X e te)
  (hs:autoParam (gk e (aa (.Subscript (.Name x p1) k p2)) pos.line X.env=gc aj) c6._auto_1):QS X (.Assign [.Subscript (.Name x p1) k p2] e pos) (xJ i tk te):=by
 refine⟨λE E' ρ w h=>?_,λHZ F=>eJ (B8 hu hv (hk.run HZ F) (he.run HZ F) hs) λD σ H ⟨ρ,E,fr,h,en⟩=>?_⟩
 ·unfold xJ at *;split at h
  ·exact he.mono _ _ _ (λr q=>hk.mono _ _ _ (λkk zq0=>by obtain⟨k,a,b,c⟩:=zq0;exact⟨k,a,b,w.nx _ c⟩) q) h
  ·exact h
 ·unfold xJ at h;split at h
  ·rename_i a kvs hx;refine he.step fr h λr y H1 q S1 r1=>?_;have fr1:=fr.mono S1;obtain⟨hs1,ep,vs,hv1,rv1⟩:=fr1.sl i _ hx;refine⟨_,hs1,hk.step fr1 q λkk z H2 q S2 rk=>?_⟩;obtain⟨ks,ek,⟨qf,ql⟩,q2⟩:=q;have ck:=rk.c;rw[ek] at ck;obtain⟨b,zs,rfl,eb,rb⟩:=ck.tup;have ez:zs=ks.map kV:=rb.keys;have rep:=(r1.rep (λa m=>fr.dom m) qf).mono S2;have hv2:=S2 _ _ hv1;refine⟨a,rfl,zU.t hv2 (ez ▸ eb) (by rw[rv1.len];exact rV ql) λep2=>?_⟩;refine en.nx _ _ _ ((fr1.mono S2).write (d':=.dit (t3 kvs ks r.d)) hx ⟨_,_,bO,?_⟩) q2;have G:Gen X.K (MM F ρ) (MM F ρ) H2 (upd H2 a (.dT ep2 (i9 vs ks y))):=Gen.write (.inr ⟨_,cq hx⟩) (by rw[hv2];trivial);exact((rv1.gen (.mono S2)).put rep).gen G
  ·exact h.elim
noncomputable def Dt(i:Nat):bV:=λE ρ=>match ρ[i]? with
 |some (.own a (.lst _))=>E.nx (ρ.set i (.own a (.lst [])))
 |_=>False
noncomputable def xI(i:Nat):bV:=λE ρ=>match ρ[i]? with
 |some (.own a (.lst xs))=>E.nx (ρ.set i (.own a (.lst xs.reverse)))
 |_=>False
theorem CW{β:Type}{f:α->β}{zs ws:List β}(hp:zs.Perm ws):∀{its:List α},its.map f=ws -> ∃jts:List α,jts.Perm its/\zs=jts.map f:=by
 induction hp with
 |nil=>intro its hz;exact⟨its,.refl _,hz.symm⟩
 |cons x p ih=>
  intro its hz;cases its with
  |nil=>cases hz
  |cons t r=>
   rw[cb] at hz;injection hz with h1 h2;obtain⟨j,hj,e⟩:=ih h2;exact⟨t::j,hj.cons t,by rw[cb,h1,e]⟩
 |swap x y l=>
  intro its hz
  match its,hz with
  |t::u::r,hz=>
   simp only[cb,Ot] at hz;obtain⟨h1,h2,h3⟩:=hz;exact⟨u::t::r,.swap _ _ _,by simp only[cb,h1,h2,h3]⟩
 |trans p1 p2 ih1 ih2=>
  intro its hz;obtain⟨j,hj,e⟩:=ih2 hz;obtain⟨j2,hj2,e2⟩:=ih1 e.symm;exact⟨j2,hj2.trans hj,e2⟩
theorem Bc{i j:Int}{Q:R->Prop}:(dQ (.int i) (.int j) Q)=(Q (.v (.int (i+j)))):=rfl
theorem BF{i j:Int}{Q:R->Prop}:(gY (.int i) (.int j) Q)=(Q (.v (.int (i-j)))):=rfl
theorem BQ{i j:Int}{Q:R->Prop}:(cG (.int i) (.int j) Q)=(oP i j/\Q (.v (.int (i*j)))):=rfl
theorem BZ{i j:Int}{Q:R->Prop}:(kJ (.int i) (.int j) Q)=((0<j/\j<2 ^ 200)/\Q (.v (.int (i / j)))):=rfl
theorem yE{i j:Int}{Q:R->Prop}:(Lz (.int i) (.int j) Q)=((j≠0/\j.natAbs<2 ^ 4000)/\Q (.v (.int (i.fdiv j)))):=rfl
theorem BR{i j:Int}{Q:R->Prop}:(fY (.int i) (.int j) Q)=(0<j/\Q (.v (.int (i % j)))):=rfl
theorem y7{i j:Int}{Q:R->Prop}:(y8 (.int i) (.int j) Q)=(j≠0/\Q (.v (.int (i.fmod j)))):=rfl
theorem BH{i j:Int}{Q:R->Prop}:(Ni (.int i) (.int j) Q)=(IW i j/\Q (.v (.int (i ^ j.toNat)))):=rfl
theorem Bb{xs ys:List Dv}{Q:R->Prop}:(dQ (.lst xs) (.lst ys) Q)=((xs.length+ys.length<=tQ/\Q (.nw (.lst (xs++ys))))):=rfl
theorem Ba{x y:az}{Q:R->Prop}:(dQ (.str x) (.str y) Q)=((x.length+y.length<=tQ/\Q (.v (.str (x++y))))):=rfl
theorem BP{xs:List Dv}{k:Int}{Q:R->Prop}:(cG (.lst xs) (.int k) Q)=(((-(2 ^ 63)<=k/\k<2 ^ 63/\xs.length*k.toNat<=tQ)/\Q (.nw (.lst (au k.toNat xs).flatten)))):=rfl
theorem Ef{f:Int->Int->Bool}{i j:Int}{Q:R->Prop}:(tZ f (.int i) (.int j) Q)=(Q (.v (.bl (f i j)))):=rfl
theorem Eb{d:Dv}{Q:R->Prop}:(Ci d .non Q)=(Q (.v (.bl (isN d)))):=rfl
theorem BI{d:Dv}{Q:R->Prop}:(Lr d .non Q)=(Q (.v (.bl (!isN d)))):=rfl
theorem Ec{d:Dv}{b:Bool}{Q:R->Prop}:(Nj d (.bl b) Q)=(Q (.v (.bl (isB b d)))):=rfl
theorem BJ{d:Dv}{b:Bool}{Q:R->Prop}:(Ls d (.bl b) Q)=(Q (.v (.bl (!isB b d)))):=rfl
theorem Eg{i j:Int}{Q:R->Prop}:(oB (.int i) (.int j) Q)=(Q (.v (.bl (decide (i=j))))):=rfl
theorem ES{i j:Int}{Q:R->Prop}:(sZ (.int i) (.int j) Q)=(Q (.v (.bl (!decide (i=j))))):=rfl
theorem Eh{x:Bool}{d:Dv}{Q:R->Prop}:(oB (.bl x) d Q)=(((cJ 8 (.bl x)=ah/\cJ 8 d=ah)/\Q (.v (.bl (eqD (.bl x) d))))):=rfl
theorem ET{x:Bool}{d:Dv}{Q:R->Prop}:(sZ (.bl x) d Q)=(((cJ 8 (.bl x)=ah/\cJ 8 d=ah)/\Q (.v (.bl (!eqD (.bl x) d))))):=rfl
theorem BV{x:List Dv}{d:Dv}{Q:R->Prop}:(oB (.tup x) d Q)=(((cJ 8 (.tup x)=ah/\cJ 8 d=ah)/\Q (.v (.bl (eqD (.tup x) d))))):=rfl
theorem BL{x:List Dv}{d:Dv}{Q:R->Prop}:(sZ (.tup x) d Q)=(((cJ 8 (.tup x)=ah/\cJ 8 d=ah)/\Q (.v (.bl (!eqD (.tup x) d))))):=rfl
theorem BY{x:List Dv}{d:Dv}{Q:R->Prop}:(oB (.lst x) d Q)=(((cJ 8 (.lst x)=ah/\cJ 8 d=ah)/\Q (.v (.bl (eqD (.lst x) d))))):=rfl
theorem BO{x:List Dv}{d:Dv}{Q:R->Prop}:(sZ (.lst x) d Q)=(((cJ 8 (.lst x)=ah/\cJ 8 d=ah)/\Q (.v (.bl (!eqD (.lst x) d))))):=rfl
theorem BW{x:az}{d:Dv}{Q:R->Prop}:(oB (.str x) d Q)=(((cJ 8 (.str x)=ah/\cJ 8 d=ah)/\Q (.v (.bl (eqD (.str x) d))))):=rfl
theorem BM{x:az}{d:Dv}{Q:R->Prop}:(sZ (.str x) d Q)=(((cJ 8 (.str x)=ah/\cJ 8 d=ah)/\Q (.v (.bl (!eqD (.str x) d))))):=rfl
theorem BX{x:List Int}{d:Dv}{Q:R->Prop}:(oB (.scr x) d Q)=(((cJ 8 (.scr x)=ah/\cJ 8 d=ah)/\Q (.v (.bl (eqD (.scr x) d))))):=rfl
theorem BN{x:List Int}{d:Dv}{Q:R->Prop}:(sZ (.scr x) d Q)=(((cJ 8 (.scr x)=ah/\cJ 8 d=ah)/\Q (.v (.bl (!eqD (.scr x) d))))):=rfl
theorem Iu{xs:List Dv}{i:Int}{Q:R->Prop}:(cA (.lst xs) (.int i) Q)=((match j3 xs i with | some d=>Q (.v d) | none=>False)):=rfl
theorem Iq{xs:List Dv}{i:Int}{Q:R->Prop}:(cA (.tup xs) (.int i) Q)=((match j3 xs i with | some d=>Q (.v d) | none=>False)):=rfl
theorem Ir{ns:List Int}{i:Int}{Q:R->Prop}:(cA (.scr ns) (.int i) Q)=((match j3 ns i with | some n=>Q (.v (.int n)) | none=>False)):=rfl
theorem Im{xs:List Dv}{lo hi:Option Int}{Q:R->Prop}:(Io (.lst xs) lo hi Q)=(Q (.nw (.lst (cut xs lo hi)))):=rfl
theorem Il{ns:List Int}{lo hi:Option Int}{Q:R->Prop}:(Io (.scr ns) lo hi Q)=(Q (.nw (.lst ((cut ns lo hi).map .int)))):=rfl
theorem Ik{xs:List Dv}{lo hi:Option Int}{Q:R->Prop}:(Io (.tup xs) lo hi Q)=((¬(HT.f6 xs.length 0 lo=0/\HT.f6 xs.length xs.length hi=xs.length)/\Q (.v (.tup (cut xs lo hi))))):=rfl
theorem EY{xs:List Dv}{Q:R->Prop}:(fC [(.lst xs)] Q)=(Q (.v (.int xs.length))):=rfl
theorem EW{xs:List Dv}{Q:R->Prop}:(fC [(.tup xs)] Q)=(Q (.v (.int xs.length))):=rfl
theorem EX{ns:List Int}{Q:R->Prop}:(fC [.scr ns] Q)=(Q (.v (.int ns.length))):=rfl
theorem El{i:Int}{Q:R->Prop}:(yF [.int i] Q)=(Q (.v (.int (if i<0 then -i else i)))):=rfl
theorem EU{i j:Int}{Q:R->Prop}:(rJ [.int i,.int j] Q)=(Q (.v (.int (if j<i then j else i)))):=rfl
theorem EV{i j:Int}{Q:R->Prop}:(Lu [.int i,.int j] Q)=(Q (.v (.int (if j > i then j else i)))):=rfl
theorem y6{xs:List Dv}{Q:R->Prop}:(n9 [.lst xs] Q)=(Q (.v (.tup xs))):=rfl
theorem y3{xs:List Dv}{Q:R->Prop}:(n9 [.tup xs] Q)=(Q (.v (.tup xs))):=rfl
theorem BU{xs:List Dv}{Q:R->Prop}:(oA [.lst xs] Q)=(Q (.nw (.lst xs))):=rfl
theorem BS{xs:List Dv}{Q:R->Prop}:(oA [.tup xs] Q)=(Q (.nw (.lst xs))):=rfl
theorem Ej{ds:List Dv}{Q:R->Prop}:(Ek [.lst ds] Q)=((∃bs:List Bool,ds=bs.map .bl/\Q (.v (.bl (bs.all _root_.id))))):=rfl
theorem EO{ds:List Dv}{Q:R->Prop}:(EQ [.lst ds] Q)=((∃ns:List Int,ds=ns.map .int/\Q (.v (.int ns.sum)))):=rfl
theorem Mx{d:Dv}:(R.d (.v d))=(d):=rfl
theorem Mz{d:Dv}:(R.d (.nw d))=(d):=rfl
theorem My{a:ae}{d:Dv}:(R.d (.ow a d))=(d):=rfl
theorem Mo{d:Dv}:(R.out (.v d))=(.v d):=rfl
theorem Mq{d:Dv}:(R.out (.nw d))=(.nw d):=rfl
theorem Mp{a:ae}{d:Dv}:(R.out (.ow a d))=(.nw d):=rfl
theorem Mu{d:Dv}:(R.free (.v d))=(ah):=rfl
theorem Mw{d:Dv}:(R.free (.nw d))=(ah):=rfl
theorem Mv{a:ae}{d:Dv}:(R.free (.ow a d))=(aj):=rfl
theorem Mr{d:Dv}:(R.flat (.v d))=(iE d):=rfl
theorem Mt{d:Dv}:(R.flat (.nw d))=(Fu d):=rfl
theorem Ms{a:ae}{d:Dv}:(R.flat (.ow a d))=(aj):=rfl
theorem Fx{a b:Bool}:(eqD (.bl a) (.bl b))=((a==b)):=by cases a<;>cases b<;>simp[eqD,gJ,jq]
theorem kC{ρ0:List Sl}{g:wT}{tt:jI}{te:cO}{acc:List Dv}{Q:R->Prop}:(dI ρ0 g tt te [] acc Q)=(Q (.nw (.lst acc))):=rfl
theorem iG{ρ0:List Sl}{g:wT}{tt:jI}{te:cO}{d:Dv}{r acc:List Dv}{Q:R->Prop}:(dI ρ0 g tt te (d::r) acc Q)=((g d ρ0 λρ1=>tt ρ1 λb=>if b=ah then te ρ1 λv=>(v.free=ah/\acc.length<tQ)/\dI ρ0 g tt te r (acc++[v.d]) Q else dI ρ0 g tt te r acc Q)):=rfl
theorem dM{xs:List α}{i:Int}(h0:0<=i)(h1:i<xs.length):j3 xs i=xs[i.toNat]?:=by
 unfold j3 pG;rw[QL h0,QL h1];rfl
theorem JD{α:Type}{x:α}{r:List α}:j3 (x::r) 0=aa x:=by rw[dM ∅ (by simp<;>right)];rfl
theorem JC{α:Type}{x y:α}{r:List α}:j3 (x::y::r) 1=aa y:=by rw[dM ∅ (by simp<;>right)];rfl
theorem JB{α:Type}{x y z:α}{r:List α}:j3 (x::y::z::r) 2=aa z:=by rw[dM ∅ (by simp<;>right)];rfl
theorem JA{α:Type}{x y z w:α}{r:List α}:j3 (x::y::z::w::r) 3=aa w:=by rw[dM ∅ (by simp<;>right)];rfl
theorem J9{α:Type}{x y z w v:α}{r:List α}:j3 (x::y::z::w::v::r) 4=aa v:=by rw[dM ∅ (by simp<;>right)];rfl
theorem Fj{b c:Bool}:isB b (.bl c)=(c==b):=rfl
theorem Bm{b:Bool}{i:Int}:isB b (.int i)=aj:=rfl
theorem J0:isN .non=ah:=rfl
theorem J3{b:Bool}:isN (.bl b)=aj:=rfl
theorem J2{i:Int}:isN (.int i)=aj:=rfl
theorem Iy{i:az}:isN (.str i)=aj:=rfl
theorem Ix{i:List Dv}:isN (.tup i)=aj:=rfl
theorem J1{i:List Dv}:isN (.lst i)=aj:=rfl
theorem Iz{C:ae}{i:List (az×Dv)}:isN (.obj C i)=aj:=rfl
theorem Di{b:Bool}:mB (.bl b)=aa b:=rfl
theorem De:mB .non=aa aj:=rfl
theorem Dh{i:Int}:mB (.int i)=aa (i != 0):=rfl
theorem Df{xs:List Dv}:mB (.lst xs)=aa (!xs.isEmpty):=rfl
theorem Dc{xs:List Dv}:mB (.tup xs)=aa (!xs.isEmpty):=rfl
theorem Dg{xs:List (aY×Dv)}:mB (.dik xs)=aa (!xs.isEmpty):=rfl
theorem Dd{xs:List Int}:mB (.scr xs)=aa (!xs.isEmpty):=rfl
theorem Fe:pG 1 0=aa 0:=rfl
theorem Fd:pG 2 0=aa 0:=rfl
theorem Fc:pG 2 1=aa 1:=rfl
theorem Fb:pG 3 0=aa 0:=rfl
theorem Fa:pG 3 1=aa 1:=rfl
theorem FZ:pG 3 2=aa 2:=rfl
theorem FY:pG 4 0=aa 0:=rfl
theorem FX:pG 4 1=aa 1:=rfl
theorem FW:pG 4 2=aa 2:=rfl
theorem FV:pG 4 3=aa 3:=rfl
theorem FU:pG 5 0=aa 0:=rfl
theorem FT:pG 5 1=aa 1:=rfl
theorem FS:pG 5 2=aa 2:=rfl
theorem FR:pG 5 3=aa 3:=rfl
theorem FQ:pG 5 4=aa 4:=rfl
variable {lo:Int}
theorem d4:bN lo 0=[]:=rfl
theorem cI:bN lo (n+1)=.int lo::bN (lo+1) n:=by
 unfold bN;rw[List.range_succ_eq_map,cb,jt];congr 1
 ·simp
 ·apply ku;intro k _;show Dv.int _=Dv.int _;congr 1;show lo+((k+1:Nat):Int)=lo+1+k;right
theorem yD{i j:Int}{Q:R->Prop}:(Ly (.int i) (.int j) Q)=(Q (.v (.int (i+j)))):=rfl
theorem yB{i j:Int}{Q:R->Prop}:(Lv (.int i) (.int j) Q)=(Q (.v (.int (i-j)))):=rfl
theorem yC{i j:Int}{Q:R->Prop}:(Lx (.int i) (.int j) Q)=(oP i j/\Q (.v (.int (i*j)))):=rfl
theorem G8{xs:List α}{k:Int}(h0:0<=k):cut xs (aa k) ap=xs.drop k.toNat:=by
 unfold cut;have e:HT.f6 xs.length 0 (aa k)=min k.toNat xs.length:=by show (if k<0 then _ else _)=_;rw[Qi ⋯]
 rw[e,HT.Ds];rcases Nat.le_total k.toNat xs.length with h | h
 ·rw[va h];exact ot (by rw[zu];exact bg _)
 ·rw[Nat.min_eq_right h,uo (bg _),uo h,List.take_nil]
theorem xF{a:ae}{N:List az}{d:Dv}{ds:List Dv}:JN a N (d::ds)=.own a d::(ds.map .v++au (N.length-(ds.length+1)) .un):=rfl
theorem BG{i j:Int}{Q:R->Prop}:(Nh (.int i) (.int j) Q)=(IW i j/\Q (.v (.int (i*2 ^ j.toNat)))):=rfl
theorem FP:∀{a b:List aY},a.map kD=b.map kD->a=b
 | [],[],_=>rfl
 | [],_::_,h=>by cases h
 |_::_,[],h=>by cases h
 |a::r,b::t,h=>by
  rw[cb,cb] at h;injection h with h1 h2;have e:a=b:=by cases a<;>cases b<;>first | (injection h1 with h1;rw[h1]) | cases h1
  rw[e,FP h2]
theorem Ea{kvs:List (List aY×Dv)}{a b:Int}{Q:R->Prop}:(cA (.dit kvs) (.tup [.int a,.int b]) Q)=(match kvs.find? (λkv=>decide (kv.1=[bo a,bo b])) with | some kv=>Q (.v kv.2) | none=>False):=by
 apply propext;constructor
 ·rintro⟨k,e,h⟩;have:k=[bo a,bo b]:=FP (e.symm.trans rfl);subst this;exact h
 ·exact λh=>⟨[bo a,bo b],rfl,h⟩
theorem zc:(type_of% @beq_self_eq_true.{0})/\(type_of% @nq.{0})/\(type_of% @tz.{0})/\(type_of% @xm.{0})/\(type_of% @xn.{0})/\(type_of% @cb.{0,0})/\(type_of% @uh.{0,0})/\(type_of% @vo.{0})/\(type_of% @mw.{0})/\(type_of% @fy.{0})/\(type_of% @cj.{0})/\(type_of% @um.{0})/\(type_of% @gr.{0})/\(type_of% @wn.{0})/\(type_of% @tw.{0})/\(type_of% @Q3.{0})/\(type_of% @getD_some.{0})/\(type_of% @sx)/\(type_of% @lz)/\(type_of% @if_true.{1})/\(type_of% @cv)/\(type_of% @if_false.{1})/\(type_of% @true_and)/\(type_of% @and_true)/\(type_of% @true_or)/\(type_of% @decide_eq_true_eq)/\(type_of% @decide_true)/\(type_of% @decide_false)/\(type_of% @wv)/\(type_of% @Ps)/\(type_of% @gf.{0})/\(type_of% @false_imp_iff)/\(type_of% @implies_true.{1}):=
 ⟨@beq_self_eq_true.{0},@nq.{0},@tz.{0},@xm.{0},@xn.{0},@cb.{0,0},@uh.{0,0},@vo.{0},@mw.{0},@fy.{0},@cj.{0},@um.{0},@gr.{0},@wn.{0},@tw.{0},@Q3.{0},@getD_some.{0},@sx,@lz,@if_true.{1},@cv,@if_false.{1},@true_and,@and_true,@true_or,@decide_eq_true_eq,@decide_true,@decide_false,@wv,@Ps,@gf.{0},@false_imp_iff,@implies_true.{1}⟩
theorem zt:(type_of% @LD.eq_1)/\(type_of% @xJ.eq_1)/\(type_of% @Dt.eq_1)/\(type_of% @xI.eq_1)/\(type_of% @Ea)/\(type_of% @MX.eq_1)/\(type_of% @BG)/\(type_of% @CK.eq_1)/\(type_of% @rA.eq_1)/\(type_of% @z8.eq_1)/\(type_of% @LU.eq_1)/\(type_of% @eQ.eq_1)/\(type_of% @Ah.eq_1)/\(type_of% @gM.eq_1)/\(type_of% @xF)/\(type_of% @CL.eq_1)/\(type_of% @yD)/\(type_of% @yB)/\(type_of% @yC)/\(type_of% @qK.eq_1)/\(type_of% @vT.eq_1)/\(type_of% @Bo.eq_1)/\(type_of% @MZ.eq_1)/\(type_of% @MY.eq_1)/\(type_of% @aN.eq_1)/\(type_of% @bD.eq_1)/\(type_of% @Du.eq_1)/\(type_of% @Ic.eq_1)/\(type_of% @gO.eq_1)/\(type_of% @xK.eq_1)/\(type_of% @bK.eq_1)/\(type_of% @Ib.eq_1)/\(type_of% @g4.eq_1)/\(type_of% @bQ.eq_1)/\(type_of% @hV.eq_1)/\(type_of% @LV.eq_1)/\(type_of% @freeze.eq_1)/\(type_of% @LX.eq_1)/\(type_of% @qA.eq_1)/\(type_of% @Ia.eq_1)/\(type_of% @g7.eq_1)/\(type_of% @a8.eq_1)/\(type_of% @eC.eq_1)/\(type_of% @a9.eq_1)/\(type_of% @aI.eq_1)/\(type_of% @aL.eq_1)/\(type_of% @aZ.eq_1)/\(type_of% @z9.eq_1)/\(type_of% @zW.eq_1)/\(type_of% @fN.eq_1)/\(type_of% @mO.eq_1)/\(type_of% @IF.eq_1)/\(type_of% @z7.eq_1)/\(type_of% @J6.eq_1)/\(type_of% @e9.eq_1)/\(type_of% @jD.eq_1)/\(type_of% @vY.eq_1)/\(type_of% @fD.eq_1)/\(type_of% @aQ.eq_1)/\(type_of% @back.eq_1)/\(type_of% @i4.eq_1)/\(type_of% @qC.eq_1)/\(type_of% @gQ.eq_1)/\(type_of% @fZ.eq_1)/\(type_of% @LC.eq_1)/\(type_of% @uD.eq_1)/\(type_of% @lV.eq_1)/\(type_of% @iA.eq_1)/\(type_of% @eO.eq_1)/\(type_of% @oE.eq_1)/\(type_of% @gN.eq_1)/\(type_of% @gT.eq_1)/\(type_of% @aJ.eq_1)/\(type_of% @pJ.eq_1)/\(type_of% @Bc)/\(type_of% @BF)/\(type_of% @BQ)/\(type_of% @BZ)/\(type_of% @yE)/\(type_of% @BR)/\(type_of% @y7)/\(type_of% @BH)/\(type_of% @Bb)/\(type_of% @Ba)/\(type_of% @BP)/\(type_of% @Ef)/\(type_of% @Eb)/\(type_of% @BI)/\(type_of% @Ec)/\(type_of% @BJ)/\(type_of% @Eg)/\(type_of% @ES)/\(type_of% @Eh)/\(type_of% @ET)/\(type_of% @BV)/\(type_of% @BL)/\(type_of% @BY)/\(type_of% @BO)/\(type_of% @BW)/\(type_of% @BM)/\(type_of% @BX)/\(type_of% @BN)/\(type_of% @Iu)/\(type_of% @Iq)/\(type_of% @Ir)/\(type_of% @Im)/\(type_of% @Il)/\(type_of% @Ik)/\(type_of% @EY)/\(type_of% @EW)/\(type_of% @EX)/\(type_of% @El)/\(type_of% @EU)/\(type_of% @EV)/\(type_of% @y6)/\(type_of% @y3)/\(type_of% @BU)/\(type_of% @BS)/\(type_of% @Ej)/\(type_of% @EO)/\(type_of% @kC)/\(type_of% @iG)/\(type_of% @dP.eq_1):=
 ⟨@LD.eq_1,@xJ.eq_1,@Dt.eq_1,@xI.eq_1,@Ea,@MX.eq_1,@BG,@CK.eq_1,@rA.eq_1,@z8.eq_1,@LU.eq_1,@eQ.eq_1,@Ah.eq_1,@gM.eq_1,@xF,@CL.eq_1,@yD,@yB,@yC,@qK.eq_1,@vT.eq_1,@Bo.eq_1,@MZ.eq_1,@MY.eq_1,@aN.eq_1,@bD.eq_1,@Du.eq_1,@Ic.eq_1,@gO.eq_1,@xK.eq_1,@bK.eq_1,@Ib.eq_1,@g4.eq_1,@bQ.eq_1,@hV.eq_1,@LV.eq_1,@freeze.eq_1,@LX.eq_1,@qA.eq_1,@Ia.eq_1,@g7.eq_1,@a8.eq_1,@eC.eq_1,@a9.eq_1,@aI.eq_1,@aL.eq_1,@aZ.eq_1,@z9.eq_1,@zW.eq_1,@fN.eq_1,@mO.eq_1,@IF.eq_1,@z7.eq_1,@J6.eq_1,@e9.eq_1,@jD.eq_1,@vY.eq_1,@fD.eq_1,@aQ.eq_1,@back.eq_1,@i4.eq_1,@qC.eq_1,@gQ.eq_1,@fZ.eq_1,@LC.eq_1,@uD.eq_1,@lV.eq_1,@iA.eq_1,@eO.eq_1,@oE.eq_1,@gN.eq_1,@gT.eq_1,@aJ.eq_1,@pJ.eq_1,@Bc,@BF,@BQ,@BZ,@yE,@BR,@y7,@BH,@Bb,@Ba,@BP,@Ef,@Eb,@BI,@Ec,@BJ,@Eg,@ES,@Eh,@ET,@BV,@BL,@BY,@BO,@BW,@BM,@BX,@BN,@Iu,@Iq,@Ir,@Im,@Il,@Ik,@EY,@EW,@EX,@El,@EU,@EV,@y6,@y3,@BU,@BS,@Ej,@EO,@kC,@iG,@dP.eq_1⟩
theorem zo:(type_of% @Mx)/\(type_of% @Mz)/\(type_of% @My)/\(type_of% @Mo)/\(type_of% @Mq)/\(type_of% @Mp)/\(type_of% @Mu)/\(type_of% @Mw)/\(type_of% @Mv)/\(type_of% @Mr)/\(type_of% @Mt)/\(type_of% @Ms)/\(type_of% @Fx)/\(type_of% @b4)/\(type_of% @aW)/\(type_of% @Fj)/\(type_of% @Bm)/\(type_of% @J0)/\(type_of% @J3)/\(type_of% @J2)/\(type_of% @Iy)/\(type_of% @Ix)/\(type_of% @J1)/\(type_of% @Iz)/\(type_of% @Di)/\(type_of% @De)/\(type_of% @Dh)/\(type_of% @Df)/\(type_of% @Dc)/\(type_of% @Dg)/\(type_of% @Dd)/\(type_of% @JD)/\(type_of% @JC)/\(type_of% @JB)/\(type_of% @JA)/\(type_of% @J9)/\(type_of% @Fe)/\(type_of% @Fd)/\(type_of% @Fc)/\(type_of% @Fb)/\(type_of% @Fa)/\(type_of% @FZ)/\(type_of% @FY)/\(type_of% @FX)/\(type_of% @FW)/\(type_of% @FV)/\(type_of% @FU)/\(type_of% @FT)/\(type_of% @FS)/\(type_of% @FR)/\(type_of% @FQ):=
 ⟨@Mx,@Mz,@My,@Mo,@Mq,@Mp,@Mu,@Mw,@Mv,@Mr,@Mt,@Ms,@Fx,@b4,@aW,@Fj,@Bm,@J0,@J3,@J2,@Iy,@Ix,@J1,@Iz,@Di,@De,@Dh,@Df,@Dc,@Dg,@Dd,@JD,@JC,@JB,@JA,@J9,@Fe,@Fd,@Fc,@Fb,@Fa,@FZ,@FY,@FX,@FW,@FV,@FU,@FT,@FS,@FR,@FQ⟩
end Z
namespace Sf
structure Rw where
 x:Int
 y:Int
 m:Int
noncomputable def Rw.up(r:Rw):Prop:=0<r.y \/ (r.y=0/\0<r.x)
noncomputable def crs(a b:Rw):Int:=a.x*b.y-b.x*a.y
theorem uF{a b c:Rw}(ha:a.up)(hb:b.up)(hc:c.up)(h1:0<crs a b)(h2:0<crs b c):0<crs a c:=by
 unfold crs at *;have key:b.y*(a.x*c.y-c.x*a.y)=a.y*(b.x*c.y-c.x*b.y)+c.y*(a.x*b.y-b.x*a.y):=by
  simp only[Int.mul_sub];have e1:a.y*(b.x*c.y)=c.y*(b.x*a.y):=by rw[ma,vp a.y c.y,ma]
  have e2:b.y*(a.x*c.y)=c.y*(a.x*b.y):=by rw[ma,vp b.y c.y,ma]
  have e3:b.y*(c.x*a.y)=a.y*(c.x*b.y):=by rw[ma,vp b.y a.y,ma]
  right
 have hay:0<=a.y:=by rcases ha with h | ⟨h,_⟩<;>right
 have hcy:0<=c.y:=by rcases hc with h | ⟨h,_⟩<;>right
 rcases hb with hby | ⟨hby,hbx⟩
 ·have p1:0<=a.y*(b.x*c.y-c.x*b.y):=ja hay (uq h2);have p2:0<=c.y*(a.x*b.y-b.x*a.y):=ja hcy (uq h1);by_cases h0:0<a.x*c.y-c.x*a.y
  ·exact h0
  ·exfalso;have q:b.y*(a.x*c.y-c.x*a.y)<=0:=Int.mul_nonpos_of_nonneg_of_nonpos (uq hby) ⋯;have z1:a.y*(b.x*c.y-c.x*b.y)=0:=⋯;have z2:c.y*(a.x*b.y-b.x*a.y)=0:=⋯;have ay0:a.y=0:=by
    rcases Ou.mp z1 with h | h
    ·exact h
    ·right
   have cy0:c.y=0:=by
    rcases Ou.mp z2 with h | h
    ·exact h
    ·right
   have cx:0<c.x:=by rcases hc with h | ⟨_,h⟩<;>right
   rw[cy0] at h2;have:0<c.x*b.y:=li cx hby;right
 ·exfalso;rw[hby] at h1;have h3:b.x*a.y<0:=⋯;have h4:0<=b.x*a.y:=ja (uq hbx) hay;right
noncomputable def place(v:Rw)(rows:List Rw):Nat:=rows.countP λr=>decide (0<crs r v)
noncomputable def nU(rows:List Rw):Prop:=rows.Pairwise λa b=>0<crs a b
structure Pre(s:Int)(rows:List Rw):Prop where
 srt:nU rows
 ok:∀r∈rows,r.up /\ -s<=r.x/\r.x<=s/\r.y<=s/\1<=r.m
noncomputable def many(rows:List Rw):Int:=(rows.map (·.m)).sum
structure Good(rows:List Rw):Prop where
 lo:2<=rows.length
 hi:rows.length<=6
 srt:nU rows
 ok:∀r∈rows,r.up /\ -999999999999<=r.x/\r.x<=999999999999/\r.y<=999999999999/\1<=r.m
 tot:many rows<=12
noncomputable def aO:Nat->List Rw->List Int
 |_,[]=>[]
 |k,r::rs=>au r.m.toNat (k:Int)++aO (k+1) rs
noncomputable abbrev aD(rows:List Rw):List Int:=aO 0 rows
theorem rY:∀(k:Nat) (rows:List Rw),∀z∈aO k rows,(k:Int)<=z/\z<(k:Int)+rows.length
 |_,[],z,h=>by simp[aO] at h
 |k,r::rs,z,h=>by
  simp only[aO,ee,cj] at h ⊢;rcases h with h | h
  ·rw[dm h];right
  ·have:=rY (k+1) rs z h;right
end Sf
namespace L2
section
variable {D:Ends}{Q:VK}{t u:TS}{te ta tb tc:TE}{g:TG}
end
end L2
namespace Z
open L2
theorem CD(h:∀Q:R->Prop,Q (.v (.bl ah))->sp [.scr ns] Q)(hO:GL H)(hT:uN K H)(hS:eZ K H a (ns.map V.int)):low K sp [.ref a] H (λv _=>v=.bl ah) (λ_ _ _=>False):=by
 refine⟨λ_=>False,[.scr ns],⟨λ_ z=>z.elim,hT⟩,.cons (.scr ?_) .nil,h _ λx H' S r=>?_⟩
 ·rcases hS with(h | h) | h
  ·rcases hO a with z | ⟨o,xs,z⟩
   ·rw[z] at h;cases h
   ·rw[z] at h;cases h
  ·exact .inl h
  ·exact .inr h
 ·have r':Rep K (λ_=>False) H' x (.bl ah):=r;cases r';rfl
end Z
namespace L2
noncomputable def Lc(K:ai):R2:=λx y H Q=>∃a b xs ys,x=.ref a/\y=.ref b/\kH K H a xs/\kH K H b ys/\xs.length+ys.length<=ay /\
 (xs=[]->Q (.ref b) H)/\(xs≠[]->ys=[]->Q (.ref a) H)/\(xs≠[]->ys≠[] -> ∀p,H p=ap->Q (.ref p) (upd H p (.tup (xs++ys))))
theorem HK:gR X (fu .Add) (Lc X.K):=by
 intro pj s σ H x y v u Q I rx ry h;obtain⟨a,b,xs,ys,rfl,rfl,ha,hb,hz,q0,q1,q2⟩:=h;by_cases hx:xs=[]
 ·cases rx;cases ry;obtain⟨its,r1,p1,_⟩:=I.tuple ha;obtain⟨its2,r2,p2,_⟩:=I.tuple hb;have hv:=r1.nil_iff.mpr hx;obtain⟨⟨cls,dd,data,sl⟩,ho,hc,n,hd⟩:=id p1;obtain⟨⟨cls2,dd2,data2,sl2⟩,ho2,hc2,n2,hd2⟩:=id p2;simp only at hc hd hc2 hd2;subst hc hd hc2 hd2;exact yh ⟨_,ho,rfl⟩ ⟨_,ho2,rfl⟩ tu wr om nj (ly _ _)
   (tuple_addW0 a b its.toArray its2.toArray n n2 dd dd2 sl sl2 (by simp[hv])) ⟨ho,ho2,.ref b,H,I,rfl,q0 hx⟩
 ·exact HL pj s σ H _ _ v u Q I rx ry ⟨a,b,xs,ys,rfl,rfl,ha,hb,hx,hz,q1 hx,q2 hx⟩
end L2
namespace Z
open L2
noncomputable def u0:Dv->Dv->(R->Prop)->Prop
 | .tup xs,.tup ys,Q=>xs.length+ys.length<=tQ/\Q (.v (.tup (xs++ys)))
 |_,_,_=>False
theorem Ei{xs ys:List Dv}{Q:R->Prop}:u0 (.tup xs) (.tup ys) Q=(xs.length+ys.length<=tQ/\Q (.v (.tup (xs++ys)))):=rfl
theorem Eo:sX X (fu .Add) u0:=by
 refine⟨λdx dy Q Q' w h=>?_,_,HK,λM O H x y dx dy Q cx cy h=>?_⟩
 ·unfold u0 at *;split at h
  ·exact⟨h.1,w _ h.2⟩
  ·exact h
 ·unfold u0 at h;split at h
  ·obtain⟨a,xs,rfl,ea,ra⟩:=cx.tup;obtain⟨b,ys,rfl,eb,rb⟩:=cy.tup;have l1:=ra.length;have l2:=rb.length;refine⟨a,b,xs,ys,rfl,rfl,kH.of ea,kH.of eb,gK ⋯,λe=>?_,λ_ e=>?_,λ_ _ p hp=>h.2 _ _ (aM.new' hp) (DZ hp (ra.append rb))⟩
   ·subst e;cases ra;exact h.2 _ H (aM.refl _) (Rep.tup eb rb)
   ·subst e;cases rb;refine h.2 _ H (aM.refl _) ?_;rw[fy];exact Rep.tup ea ra
  ·exact h.elim
end Z
namespace L2
variable {it:ae}{ep:Nat}{es:Array ir}
structure Ent(h:ca)(d:ae)(es:Array ir)(ep:Nat):Prop where
 at_:∃o,h.get? d=aa o/\o.ExactDict/\o.data=.dict es ep
theorem Hv{d:ae}{en:ir}{Q:Option ac->af->Prop}(k:s.heap.IsKeyIter it d i n ep)(g:Ent s.heap d es ep)(hn:es.size=n)(he:es[i]?=aa en)
  (q:∀h',h'.IsKeyIter it d (i+1) n ep->oj it s.heap h'->Q (aa en.key) { s with heap:=h' }):be (bn prog w) A (kj (.ref it)) Q E s:=by
 obtain⟨⟨od,gd,_,dd⟩⟩:=g;obtain⟨oi,gi,ci,fi⟩:=id k;have up:(s.heap.update it (su (·.setIfInBounds 1 (vk ((i:Int)+1))))).IsKeyIter it d (i+1) n ep:=
  ⟨_,vc _ gi (vd (qx fi _)),(xv ..).trans ci,by rw[qx fi];simp[vk]⟩
 have fin:=q _ up (Qq ..);unfold kj;refine ab (kf (dk (name:=dh "__next__") k.typeIs ft (dv ft k.typeIs qe (ab (ao (ab (ab ?a)))) (pz _))));refine ab (gt k.typeIs (ao (ab (Pu gi fi ?b))));rw[show (if qj "dict_keyiterator" = ah then 2 else 0)=0 by decide];show be _ _ (ite ((Value.ref d==gj)=ah) _ _) _ _ s;rw[Qi (by exact λz=>nomatch z)];refine ab (ao (ab (ic gd dd ?c)));rw[Qi (by rw[hn];simp)];refine ab (ao (ab (ml gd dd ?d)));rw[Qi (by simp)];refine ao ?e;simp only[show ¬((i:Int)<0) by right,ite_false,dw,he];refine ab (ab (gt k.typeIs (ao (ab (vh k.typeIs ?f)))));show be _ _ (setField (.ref it) 1 (vk ((i:Int)+1)) >>= _) _ _ s;refine ab (og gi fi (by simp) (ab (jm (ab (vh (s:={ s with heap:=s.heap.update it (su (·.setIfInBounds 1 (vk ((i:Int)+1)))) }) up.typeIs ?g)))));show be _ _ (gc en.key) _ _ _;exact ao (ao ⟨_,rfl,ao fin⟩)
theorem Kg{d:ae}{Q:Option ac->af->Prop}(qu:Qu A s.heap)(k:s.heap.IsKeyIter it d i n ep)(g:Ent s.heap d es ep)(hn:es.size=n)(hi:n<=i)
  (q:∀h',qb it s.heap h'->Q ap { s with heap:=h' }):be (bn prog w) A (kj (.ref it)) Q E s:=by
 obtain⟨⟨od,gd,_,dd⟩⟩:=g;obtain⟨oi,gi,ci,fi⟩:=id k;have he:es[i]?=ap:=Array.getElem?_eq_none ⋯;unfold kj;refine ab (kf (dk (name:=dh "__next__") k.typeIs ft (dv ft k.typeIs qe (ab (ao (ab (ab ?a)))) (pz _))));refine ab (gt k.typeIs (ao (ab (Pu gi fi ?b))));rw[show (if qj "dict_keyiterator" = ah then 2 else 0)=0 by decide];show be _ _ (ite ((Value.ref d==gj)=ah) _ _) _ _ s;rw[Qi (by exact λz=>nomatch z)];refine ab (ao (ab (ic gd dd ?c)));rw[Qi (by rw[hn];simp)];refine ab (ao (ab (ml gd dd ?d)));rw[Qi (by simp)];refine ao ?e;simp only[show ¬((i:Int)<0) by right,ite_false,dw,he];refine ab (ab (gt k.typeIs (ao ?f)));show be _ _ (setField (.ref it) 0 .none >>= _) _ _ s;have ne:∀b u,pP u->s.heap.get? b=aa u->b≠it:=λb u m gb z=>by
  subst z;rw[gi] at gb;cases gb;obtain⟨us,du,z2⟩:=m;rw[fi] at du;cases du;simp at z2
 refine ab (og gi fi (by simp) (hW (qu.keeps λb u m z=>(di _ _ (gp (ne b u m z))).trans z) λh' e kk ⟨oe,ge,ce⟩=>?_));exact ab (ip (T:="StopIteration") (b:=ah) ⟨oe,ge,ce⟩ kl (ao (q _ λb u hb z=>kk b u ((di _ _ (gp hb)).trans z))))
theorem Hw{d:ae}(hd:(d==ed)=aj)(g:Ent s.heap d es ep)
  (q:Q (.ref s.heap.objs.size) { s with heap:=s.heap.push { cls:=.type "dict_keyiterator",data:=.fields #[.ref d,.int 0 0,.int es.size 0,.int ep 0] } }):be (bn prog w) A (Qs (.ref d)) Q E s:=by
 obtain⟨⟨od,gd,ex,dd⟩⟩:=g;have ty:s.TypeIs (.ref d) "dict" := ⟨od,gd,ex.1⟩;refine wpAny_pyIter_slot ty zj (dv zj ty F.entry_dict_iter (ab (show be _ _ (se _ _) _ _ s from ?a)) (F.args_dict_iter_1 _));unfold se;refine ab (vi ty (show be _ _ (gc (Value.ref d)) _ _ s from ao (show be _ _ (pc d >>= _) _ _ s from ab ?b)));unfold pc;rw[Qi (by rw[hd];exact gn)];refine ao (ab (ic gd dd (ab (ml gd dd (ab (fj (ao ⟨_,rfl, "dict_keyiterator",_,⟨_,bi _ rfl,rfl⟩,ft.lookup,?c⟩)))))));simpa [vk] using q
end L2
namespace Z
open L2
section
variable {l:Expr}{tl:cO}
end
end Z
namespace L2
section
variable {h':ca}
end
section
variable {fs:List ae}{h0 h1 h2 B:ca}
end
variable {f:ae}
section
variable {cd:ac}{s0:af}{H0:Hp}{E:XK}
end
section
variable {t:TA}{np:gv}
end
section
variable {s1 s2:af}{E:XK}{e:ac}{D:Ends}
end
variable {fd:gh}{sp:Sp}
section
variable {k:Nat}{epos:gv}{t:TA}
end
section
open PySem.Calls PySem.Builtin PySem.Builtin.ObjectAttr PySem.Builtin.Getset_descriptor
variable {M:Q7}{x:ae}
end
section
variable {k:Nat}{E:XK}{t:TA}
end
end L2
namespace Z
open L2
section
variable {HZ:Hp}{st:iq}{sts a b:List iq}{t u:bV}{c:Expr}{tc:jI}
end
section
variable {f:ae}{cd:ac}{s0:af}{H0:Hp}{E:XK}
end
variable {ts:lJ}
section
variable {k:Nat}{sp:FnX}{epos:gv}
end
section
variable {k:Nat}
end
end Z
namespace L2
end L2
namespace Z
open L2
section
variable {l o:Expr}{tl to:cO}{QZ:gv}
end
end Z
namespace L2
open PySem PySem.Spec PySem.W PyProof.Rows Tim
variable {es:Array ir}{ep:Nat}
theorem IN{its:List N9}{k:Nat}(two:2<=(its.map λt=>Value.ref t.1).length)(hits:∀t∈its,t.2.1.length=k+1)(hd:its.Pairwise (λt u=>t.2.1≠u.2.1))
  (tup:∀t∈its,∃(o:im) (a b:List ac) (n:Nat),s.heap.get? t.1=aa o/\o.cls=.type "tuple" /\ o.data=.seq (a++b).toArray n/\ki a t.2.1) (far:∀t∈its,t.1≠a):
  Cmp prog w s a (its.map λt=>Value.ref t.1) (λi j=>k4 (its.getD i (0,[],[])).2.1 (its.getD j (0,[],[])).2.1) (tuples' ah):=by
 have len:(its.map λt=>Value.ref t.1).length=its.length:=by simp
 let num:Nat->List Int:=λi=>(its.getD i (0,[],[])).2.1
 have get:∀i,i<its.length->(its.map λt=>Value.ref t.1).getD i gj=Value.ref (its.getD i (0,[],[])).1:=λi hi=>by simp[hi]
 have mem:∀i,i<its.length->its.getD i (0,[],[])∈its:=λi hi=>by
  rw[List.getD_eq_getElem?_getD,bz hi];exact iw hi
 have ne:∀i j,i<its.length->j<its.length->i≠j->num i≠num j:=λi j hi hj n=>by
  have e:∀i,i<its.length->num i=(its[i]!).2.1:=λi hi=>by simp[num,hi]
  have pw:=fc.mp hd;have ei:its.getD i (0,[],[])=its[i]:=by simp[hi]
  have ej:its.getD j (0,[],[])=its[j]:=by simp[hj]
  show (its.getD i (0,[],[])).2.1≠(its.getD j (0,[],[])).2.1;rw[ei,ej];rcases rn n with z | z
  ·exact pw i j hi hj z
  ·exact(pw j i hj hi z).symm
 refine⟨Cu num,λA h Q' hk q'=>?_,λA h i j C hk hi hj hn q'=>?_⟩
 ·have go:∀l:List N9,(∀t∈l,t∈its) -> ∃fs:List ac,KatTups h (l.map λt=>Value.ref t.1) fs/\fs.length=l.length /\ ∀v∈fs,∃x y,v=Value.int x y:=by
   intro l;induction l with
   |nil=>intro _;exact⟨[],.nil,rfl,λv hv=>by cases hv⟩
   |cons t r ih=>
    intro hm;obtain⟨fs,kt,e,al⟩:=ih λu hu=>hm u (bj _ hu);have ht:=hm t (bw ..);obtain⟨o,a,b,n,ho,hc,hd',ia⟩:=tup t ht;obtain⟨x,QN,ex⟩:∃x QN,t.2.1=x::QN:=by
     have:=hits t ht;cases e':t.2.1 with
     |nil=>rw[e'] at this;cases this
     |cons x QN=>exact⟨x,QN,rfl⟩
    rw[ex] at ia;cases ia with
    |cons _ y ia'=>
     refine⟨Value.int x y::fs,KatTups.cons (hk _ _ (far t ht) ho) hc hd' (by simp) kt,by simp[e],λv hv=>?_⟩;rcases de.mp hv with rfl | hv
     ·exact⟨x,y,rfl⟩
     ·exact al v hv
  obtain⟨fs,kt,e,al⟩:=go its λ_ h=>h;refine kat_kind (s:={ s with heap:=h }) (T:=.type "int") kt (by rw[e];simp at two;right) (λv hv=>?_) ∅ q';obtain⟨x,y,rfl⟩:=al v hv;exact Looks.of_pure rfl
 ·rw[len] at hi hj;rw[get i hi,get j hj];obtain⟨o,a,b,n,ho,hc,hd',ia⟩:=tup _ (mem i hi);obtain⟨o2,a2,b2,n2,ho2,hc2,hd2,ia2⟩:=tup _ (mem j hj);refine kat_lt (s:={ s with heap:=h }) (hk _ _ (far _ (mem i hi)) ho) hd' (hk _ _ (far _ (mem j hj)) ho2) hd2 ?_;exact yR _ _ a a2 b b2 0 ia ia2 (by rw[hits _ (mem i hi),hits _ (mem j hj)]) (ne i j hi hj hn) q'
theorem Ent.keep{h':ca}{d:ae}(x:Ent h d es ep)(k:∀o,h.get? d=aa o->h'.get? d=aa o):Ent h' d es ep:=by
 obtain⟨⟨o,g,r⟩⟩:=x;exact⟨⟨o,k o g,r⟩⟩
theorem Ent.lt{d:ae}(x:Ent h d es ep):d<h.objs.size:=by
 obtain⟨⟨o,g,r⟩⟩:=x;exact av g
theorem DE(hh:A.handled=ap)(I d:ae)(hne:d≠I)(es:Array ir)(ep:Nat):
  Walks prog w A I [I,d] [I] es.size (λi v=>∃en,es[i]?=aa en/\v=en.key) (λi h=>h.IsKeyIter I d i es.size ep/\Ent h d es ep) where
 sub:=λb hb=>by rw[cp.mp hb];exact bw ..
 frame:=λi h h' st k=>⟨st.1.at λo e=>k I (by simp) o e,st.2.keep λo e=>k d (by simp) o e⟩
 item:=λi s Q E hi st q=>by
  have hx:es[i]?=aa es[i]:=gg hi;exact Hv st.1 st.2 rfl hx λh' st' sb=>q _ h' s.toks ⟨_,hx,rfl⟩ ⟨st',st.2.keep λo e=>(sb.2 d hne).trans e⟩ λb o hb e=>(sb.2 b (by simpa using hb)).trans e
 done:=λs Q E st q=>Kg (.inl hh) st.1 st.2 rfl (bg _) λh' eb=>q h' s.toks λb o hb e=>eb b o (by simpa using hb) e
 self:=λi s Q E st q=>wpAny_pyIter_keyiter st.1 q
theorem Bv{d:ae}(lo:(d==ed)=aj):W.KdlSrc prog w "dict" d d es.size (λi v=>∃en,es[i]?=aa en/\v=en.key) (λh=>Ent h d es ep) where
 type:=λs x=>by
  obtain⟨⟨o,g,ex,_⟩⟩:=x;exact⟨o,g,ex.1⟩
 there:=λh x=>⟨x.lt,x.lt⟩
 keep:=λh h' x k=>x.keep λo e=>k d (.inl rfl) o e
 notList:=by decide
 notTuple:=by decide
 hint:=λA E s Q x q=>W.kdl_hint_dict (by obtain⟨⟨o,g,ex,_⟩⟩:=x;exact⟨o,g,ex.1⟩) q
 iter:=λA s hh x=>⟨_,_,λE Q q=>Hw lo x q,DE hh _ d (ef x.lt) es ep,⟨_,bi _ rfl,rfl,rfl⟩,x.keep λo e=>ak _ e⟩
theorem zK{T:String}{r d:ae}{P:Nat->ac->Prop}{OK:ca->Prop}{R:List ac->af->Prop}(K:W.KdlSrc prog w T r d n P OK)(hq:A.handled=ap)(ok:OK s.heap)(le:n<=ay)
  (fin:∀(h1:ca) (tk:Nat) (acc:Array ac),(∀b o,s.heap.get? b=aa o->h1.get? b=aa o)->s.heap.objs.size<h1.objs.size->ItemsOf P acc n->R acc.toList { s with heap:=h1,toks:=tk }):be (bn prog w) A (collect (.ref r)) R E s:=by
 obtain⟨l1,l2⟩:=K.there _ ok
 let N:=s.heap.objs.size
 let hN:=s.heap.push { cls:=.type "list",data:=.seq ([]:List ac).toArray }
 have oN:hN.get? N=aa { cls:=.type "list",data:=.seq #[] }:=bi _ rfl;have up:∀b o,s.heap.get? b=aa o->hN.get? b=aa o:=λb o e=>ak _ e
 let G:Qx->af->Prop:=λq s2=>∃(h1:ca) (tk:Nat) (acc:Array ac) (c:Nat),q=.ok (.ret (.ref N))/\s2={ s with heap:=h1,toks:=tk }/\(∀b o,s.heap.get? b=aa o->h1.get? b=aa o)/\h1.get? N=aa { cls:=.type "list",dict:=ap,data:=.seq acc c,slots:=#[] }/\ItemsOf P acc n
 have gone:=W.kdl_extend (A:=A) (s:={ s with heap:=hN }) (R:=G) K hq (K.keep _ _ ok λb _ o e=>up b o e) N (xz l1) (xz l2) (.ref N) 0 oN
  (λh1 tk acc c k g it=>⟨h1,tk,acc,c,rfl,rfl,λb o e=>k b o (ef (av e)) (up b o e),g,it⟩) le
 have last:∀(h1:ca) (tk:Nat) (acc:Array ac) (c:Nat),(∀b o,s.heap.get? b=aa o->h1.get? b=aa o)->h1.get? N=aa { cls:=.type "list",dict:=ap,data:=.seq acc c,slots:=#[] }->ItemsOf P acc n ->
   be (bn prog w) A (do let o <- load N;match o.data with | .seq xs _=>gc xs.toList | _=>unsupported "internal:collect") R E { s with heap:=h1,toks:=tk }:=λh1 tk acc c k g it=>
  ab (P1 g (ao (fin h1 tk acc k (av g) it)))
 unfold collect;refine ab (wpAny_runValue (Ov PySem.F.entry_proto_collect ?_));rw[vq PySem.F.plain_proto_collect _];refine ab (m:=newList []) (fj (ao ⟨plainId_quiet ua _,Ov PySem.F.entry_list_iadd ?_⟩));rw[vq ua _];refine fx gone (λfin2 s2 z=>?_) λe s2 z=>?_
 ·cases fin2 with
  |done f=>obtain⟨h1,tk,acc,c,e,rfl,k,g,it⟩:=z;cases e;exact last h1 tk acc c k g it
  |again c1=>exact⟨z.1,qv z.2 λq s3 y=>by obtain⟨h1,tk,acc,c,rfl,rfl,k,g,it⟩:=y;exact last h1 tk acc c k g it⟩
 ·obtain⟨_,_,_,_,z,_⟩:=z;cases z
theorem A6{d:ae}{vs:List ac}{lt:Nat->Nat->Bool}{κ:Pq}(hh:A.handled=ap)(lo:(d==ed)=aj)(x:Ent s.heap d es ep)(hv:es.toList.map (·.key)=vs)(h64:vs.length<64)
  (c:∀(h1:ca) (tk:Nat),(∀b o,s.heap.get? b=aa o->h1.get? b=aa o)->2<=vs.length->Cmp prog w { s with heap:=h1.push (kr "list" vs.toArray 0),toks:=tk } h1.objs.size vs lt κ)
  (k:∀(h1:ca) (tk:Nat) p,(∀b o,s.heap.get? b=aa o->h1.get? b=aa o)->s.heap.objs.size<h1.objs.size->Pm vs.length p->Up lt p vs.length->Q (.ref h1.objs.size) { s with heap:=Pr (h1.push (kr "list" vs.toArray 0)) h1.objs.size vs (picked vs p).toArray,toks:=tk }):
  be (bn prog w) A (call (.builtin "sorted") [.ref d]) Q E s:=by
 have line:vs.length<=ay:=by rw[io];right
 have hn:es.size=vs.length:=by rw[<- hv];simp
 refine sf kind_sorted plain_sorted entry_sorted (args_sorted1 _) ?_;unfold wc.«sorted»;refine ab (m:=checkCount "sorted" 1 1 _) (ao (ab (zK (Bv lo) hh x (by rw[hn];exact line) λh1 tk acc old big it=>?_)));have ea:acc.toList=vs:=by
  apply ox;intro i;rw[<- hv];by_cases hi:i<acc.size
  ·obtain⟨en,e1,e2⟩:=it.2 i acc[i] (gg hi);rw[jb,gg hi,bh,jb,e1,e2];rfl
  ·have:es.size<=i:=by rw[<- it.1];right
   rw[jc (by simpa using hi),jc (by simpa using this)]
 rw[ea];refine ab (wu ?_ line);have mine:(h1.push (kr "list" vs.toArray 0)).get? h1.objs.size=aa (kr "list" vs.toArray 0):=bi h1 rfl;refine ab (jm (dv Pv ⟨_,mine,rfl⟩ Ow ?_ (Pw _)));refine CG (s:={ s with heap:=h1.push (kr "list" vs.toArray 0),toks:=tk }) (lt:=lt) (κ:=κ) mine h64 (λtwo=>c h1 tk old two) λp a b=>⟨_,rfl,ao ⟨_,rfl,k h1 tk p old big a b⟩⟩
theorem Kk{xs:List (List aY×ae×ac)}(r:KT H kvs xs){kns:List (List Int)}(hk:kvs.map (·.1)=kns.map λl=>l.map bo):
  ∃its:List N9,its.map (·.2.1)=kns/\xs.map (λq=>Value.ref q.2.1)=its.map (λt=>Value.ref t.1)/\(∀t∈its,H t.1=aa (.tup (t.2.1.map V.int))/\t.2.2=[])/\xs.map (·.1)=kns.map λl=>l.map bo:=by
 induction r generalizing kns with
 |nil=>
  cases kns with
  |nil=>exact⟨[],rfl,rfl,λt ht=>(gf ht).elim,rfl⟩
  |cons _ _=>cases hk
 | @cons p q ps qs h t ih=>
  cases kns with
  |nil=>cases hk
  |cons l kns=>
   rw[cb,cb] at hk;injection hk with h1 h2;obtain⟨its,e1,e2,e3,e4⟩:=ih h2;refine⟨(q.2.1,l,[])::its,by rw[cb,e1],by rw[cb,cb,e2],λt ht=>?_,by rw[cb,cb,e4,<- h.1,h1]⟩;rcases de.mp ht with rfl | ht
   ·refine⟨?_,rfl⟩;have:=h.2.1;rw[h1,jt] at this;exact this
   ·exact e3 t ht
theorem wL(hc:X.calm=ah):fX X (.builtin "sorted") (λxs H Q=>∃(p:ae) (ep:Nat) (kvs:List (List aY×V)) (kns:List (List Int)) (k:Nat),xs=[.ref p]/\H p=aa (.dT ep kvs)/\kvs.map (·.1)=kns.map (λl=>l.map bo)/\kvs.length<64/\(∀l∈kns,l.length=k+1) /\
  ∀its':List (ae×List Int),(its'.map (·.2)).Perm kns->its'.Pairwise (λt u=>k4 t.2 u.2=ah)->(∀t∈its',H t.1=aa (.tup (t.2.map V.int))) -> ∀l,H l=ap->Q (.ref l) (upd H l (.lst (its'.map λt=>V.ref t.1)))):=by
 intro pj s σ H xs us Q I r h;obtain⟨p,ep,kvs,kns,k,rfl,hp,hk,h64,hlen,q⟩:=h;obtain⟨u,rfl,ru⟩:=kM r;cases ru;obtain⟨hz,hsys,xs,rx,o,es,g,ex,dd,he,nd⟩:=(show cF X.prog X.w H s.heap p (.dT ep kvs) from I.hok p _ hp);obtain⟨its,e1,e2,e3,e4⟩:=Kk rx hk;have ln:its.length=kvs.length:=by
  have a:=congrArg List.length e1;have b:=congrArg List.length hk;simp at a b;right
 have pw0:its.Pairwise (λt u=>t.2.1≠u.2.1):=by
  rw[e4] at nd;have nd2:kns.Nodup:=by
   rw[rp] at nd ⊢;rw[pb] at nd;exact nd.imp λh z=>h (by rw[z])
  rw[<- e1,rp,pb] at nd2;exact nd2
 have hits:∀t∈its,t.2.1.length=k+1:=λt ht=>hlen _ (by rw[<- e1];exact List.mem_map_of_mem ht);have tup:∀t∈its,∃(o:im) (a b:List ac) (n:Nat),s.heap.get? t.1=aa o/\o.cls=.type "tuple" /\ o.data=.seq (a++b).toArray n/\ki a t.2.1:=λt ht=>by
  obtain⟨z,r',⟨o,ho,hc,n,hd'⟩,_⟩:=I.tuple (kH.of (e3 t ht).1);exact⟨o,z,[],n,ho,hc,by rw[fy];exact hd',AZ r'⟩
 have hv:es.toList.map (·.key)=its.map (λt=>Value.ref t.1):=by
  rw[he,jt,<- e2];rfl
 have hl:(its.map λt=>Value.ref t.1).length=its.length:=bc ..;refine A6 (I.ok.hd hc) hsys ⟨⟨o,g,ex,dd⟩⟩ hv (by rw[hl,ln];exact h64) (λh1 tk old two=>IN (k:=k) two hits pw0 (λt ht=>?_) (λt ht=>?_)) λh1 tk p' old big pm up=>?_
 ·obtain⟨o,a,b,n,ho,r⟩:=tup t ht;exact⟨o,a,b,n,ak _ (old _ _ ho),r⟩
 ·obtain⟨o,a,b,n,ho,r⟩:=tup t ht;exact ef (av (old _ _ ho))
 ·rw[hl] at pm up
  let its':=p'.toList.map λi=>its.getD i (0,[],[])
  have perm:its'.Perm its:=Gw pm its rfl _;have ne:∀i j,i<its.length->j<its.length->i≠j->(its.getD i (0,[],[])).2.1≠(its.getD j (0,[],[])).2.1:=λi j hi hj n=>by
   have pw:=fc.mp pw0;have ei:its.getD i (0,[],[])=its[i]:=by simp[hi]
   have ej:its.getD j (0,[],[])=its[j]:=by simp[hj]
   rw[ei,ej];rcases rn n with z | z
   ·exact pw i j hi hj z
   ·exact(pw j i hj hi z).symm
  have pw:its'.Pairwise (λt u=>k4 t.2.1 u.2.1=ah):=xA pm up its _ _ λi j hi hj b=>by
   rcases b.2 with z | z
   ·exact z
   ·rcases rW _ _ (ne i j hi hj (ef z)) with y | y
    ·exact y
    ·have b1:k4 (its.getD j (0,[],[])).2.1 (its.getD i (0,[],[])).2.1=aj:=b.1;rw[b1] at y;cases y
  have ep:picked (its.map λt=>Value.ref t.1) p'=its'.map λt=>Value.ref t.1:=by
   unfold picked;rw[jt];apply ku;intro i hi;have hi':i<its.length:=nh.mp (pm.list.mem_iff.mp hi);simp[hi']
  rw[ep];have mine:(h1.push (kr "list" (its.map λt=>Value.ref t.1).toArray 0)).get? h1.objs.size=aa (kr "list" (its.map λt=>Value.ref t.1).toArray 0):=bi h1 rfl;have rel:∀l:List N9,bF (l.map λt=>V.ref t.1) (l.map λt=>Value.ref t.1):=λl=>by
   induction l with
   |nil=>exact .nil
   |cons t r ih=>exact .cons rfl ih
  have hle:(its'.map λt=>V.ref t.1).length<=ay:=by rw[io,bc,perm.length_eq];right
  have q':=q (its'.map λt=>(t.1,t.2.1)) (by rw[jt,<- e1];exact perm.map _) (by rw[pb];exact pw) (λt ht=>by
   obtain⟨u,hu,rfl⟩:=gq.mp ht;exact(e3 u (perm.mem_iff.mp hu)).1)
  rw[jt] at q';obtain⟨c,LF⟩:=sortedHeap_at (out:=(its'.map λt=>Value.ref t.1).toArray) mine;have low:∀b o,s.heap.get? b=aa o->b<h1.objs.size:=λb o e=>av (old b o e);have le:s.heap.objs.size<=h1.objs.size:=vm big;exact⟨.ref h1.objs.size,_,I.laid (λb o e=>(Px (ef (low b o e)) (by rw[size_push'];exact sn (low b o e))).trans (ak _ (old b o e))) le (show cF X.prog X.w _ _ _ (.lst _) from⟨hle,_,c,rel its',LF⟩),rfl,q' _ (I.hok.fresh le)⟩
end L2
namespace L2
structure Words(K:ai)(wa:ae)(ys:List az):Prop where
 at_:∃(o:im) (vs:List ac) (n:Nat),K.lookup wa=aa o/\o.cls=.type "tuple" /\ o.data=.seq vs.toArray n/\StrsAre vs ys
theorem K9{wa:ae}{ys:List az}(W:Words X.K wa ys):gR X (bu .In) (λx y H Q=>∃z,x=.str z/\y=.ref wa/\Q (.bl (ys.any (· == z))) H):=by
 intro pj s σ H x y v u Q I rx ry h;obtain⟨z,rfl,rfl,q⟩:=h;obtain⟨t,rfl⟩:=rx;cases ry;obtain⟨o,vs,n,hk,hc,hd,hs⟩:=W.at_;exact in_tuple_strs (items:=vs.toArray) ⟨o,I.kIn wa o hk,hc,n,hd⟩ (by simpa using hs) ⟨.bl _,H,I,rfl,q⟩
noncomputable def GU(r r' r'':R2)(ta tb tc td:TE):TE:=λσ H Q=>ta σ H λx H1=>tb σ H1 λy H2=>r x y H2 λz H3=>∃k,z=.bl k /\
 (if k=ah then tc σ H3 λw' H4=>r' y w' H4 λz' H5=>∃k',z'=.bl k'/\(if k'=ah then td σ H5 λu' H6=>r'' w' u' H6 Q else Q (.bl aj) H5) else Q (.bl aj) H3)
theorem CY{a b c d:Expr}{ta tb tc td:TE}{op op' op'':wp}{r r' r'':R2}(ho:gR X (bu op) r)(ho':gR X (bu op') r')(ho'':gR X (bu op'') r'')(ha:PE X a ta)(hb:PE X b tb)(hc:PE X c tc)(hd:PE X d td)
  (hm:autoParam (sy [op,op',op''] [b,c,d]=aj) JF._auto_1):PE X (.Compare a [op,op',op''] [b,c,d] pos) (GU r r' r'' ta tb tc td):=by
 intro pj s σ H Q I h;refine Compare_chain (thn (ha pj s σ H _ I h) λv s1 ⟨x,H1,I1,r1,q1⟩=>P8 (thn (hb pj s1 σ H1 _ I1 q1) λu s2 ⟨y,H2,I2,r2,q2⟩=>
  thn (ho pj s2 σ H2 x y v u _ I2 r1 r2 q2) λd1 s3 ⟨z,H3,I3,r3,k,e,q3⟩=>?_)) hm
 subst e;cases r3;refine eg ?_;cases k with
 |false=>exact Qt ⟨.bl aj,H3,I3,rfl,q3⟩
 |true=>
  refine Qv (P8 (thn (hc pj s3 σ H3 _ I3 q3) λu3 s4 ⟨y4,H4,I4,r4,q4⟩=>thn (ho' pj s4 σ H4 y y4 u u3 _ I4 r2 r4 q4) λd2 s5 zz=>?_));obtain⟨z5,H5,I5,r5,k5,e5,q5⟩:=zz;subst e5;cases r5;refine eg ?_;cases k5 with
  |false=>exact Qt ⟨.bl aj,H5,I5,rfl,q5⟩
  |true=>exact Qv (chain_last (thn (hd pj s5 σ H5 _ I5 q5) λw6 s6 ⟨z6,H6,I6,r6,q6⟩=>ho'' pj s6 σ H6 y4 z6 u3 w6 Q I6 r4 r6 q6))
end L2
namespace Z
open L2
section
variable {a b c d:Expr}{ta tb tc td:cO}
noncomputable def qN(f g h:Int->Int->Bool)(ta tb tc td:cO):cO:=λρ Q=>ta ρ λx=>tb ρ λy=>∃i j,x.d=.int i/\y.d=.int j /\
 if f i j=ah then tc ρ λz=>∃k,z.d=.int k/\(if g j k=ah then td ρ λu=>∃l,u.d=.int l/\Q (.v (.bl (h k l))) else Q (.v (.bl aj))) else Q (.v (.bl aj))
theorem E2{op op' op'':wp}{f g h:Int->Int->Bool}(ho:gR X (bu op) (wV λi j=>.bl (f i j)))(ho':gR X (bu op') (wV λi j=>.bl (g i j)))(ho'':gR X (bu op'') (wV λi j=>.bl (h i j)))(ha:QE X a ta)(hb:QE X b tb)(hc:QE X c tc)(hd:QE X d td)
  (hm:autoParam (sy [op,op',op''] [b,c,d]=aj) JF._auto_1):QE X (.Compare a [op,op',op''] [b,c,d] pos) (qN f g h ta tb tc td):=by
 refine⟨λρ Q Q' w q=>ha.mono _ _ _ (λx q=>hb.mono _ _ _ (λy q=>?_) q) q,λHZ F=>c5 (CY ho ho' ho'' (ha.run HZ F) (hb.run HZ F) (hc.run HZ F) (hd.run HZ F) hm) λσ H Q ⟨ρ,fr,q⟩=>?_⟩
 ·obtain⟨i,j,e1,e2,q⟩:=q;refine⟨i,j,e1,e2,?_⟩;cases hf:f i j with
  |false=>rw[hf] at q;exact jC (w _ (by simpa using q))
  |true=>
   rw[hf] at q;refine jB (hc.mono _ _ _ (λz q=>?_) (by simpa using q));obtain⟨k,e3,q⟩:=q;refine⟨k,e3,?_⟩;cases hg:g j k with
   |false=>rw[hg] at q;exact jC (w _ (by simpa using q))
   |true=>rw[hg] at q;exact jB (hd.mono _ (λu=>∃l,u.d=Dv.int l/\Q (.v (.bl (h k l)))) _ (λu q=>by obtain⟨l,e4,q⟩:=q;exact⟨l,e4,w _ q⟩) (by simpa using q))
 ·refine ha.step fr q λrx x H1 q1 S1 r1=>?_;refine hb.step (fr.mono S1) q1 λry y H2 q2 S2 r2=>?_;have cx:=(r1.mono S2).c;have cy:=r2.c;obtain⟨i,j,e1,e2,q2⟩:=q2;rw[e1] at cx;rw[e2] at cy;obtain rfl:=cx.int;obtain rfl:=cy.int;have S12:=S1.trans S2;refine⟨_,_,rfl,rfl,f i j,rfl,?_⟩;cases hf:f i j with
  |false=>
   rw[hf] at q2;simp only[cv,if_false] at q2;exact jC (q2 _ H2 S12 (Rep.bl _))
  |true=>
   rw[hf] at q2;refine jB (hc.step ((fr.mono S1).mono S2) (show tc ρ _ by simpa using q2) λrz z H3 q3 S3 r3=>?_);have cz:=r3.c;obtain⟨k,e3,q3⟩:=q3;rw[e3] at cz;obtain rfl:=cz.int;have S13:=S12.trans S3;refine⟨_,_,rfl,rfl,g j k,rfl,?_⟩;cases hg:g j k with
   |false=>
    rw[hg] at q3;simp only[cv,if_false] at q3;exact jC (q3 _ H3 S13 (Rep.bl _))
   |true=>
    rw[hg] at q3;refine jB (hd.step (((fr.mono S1).mono S2).mono S3) (show td ρ _ by simpa using q3) λru u H4 q4 S4 r4=>?_);have cu:=r4.c;obtain⟨l,e4,q4⟩:=q4;rw[e4] at cu;obtain rfl:=cu.int;exact⟨_,_,rfl,rfl,q4 _ H4 (S13.trans S4) (Rep.bl _)⟩
noncomputable def IG(ys:List az)(te:cO):cO:=λρ Q=>te ρ λr=>∃z,r.d=.str z/\Q (.v (.bl (ys.any (· == z))))
theorem Lg{y:az}{p2:gv}{wa:ae}{ys:List az}(he:QE X e te)(hmy:X.mg y=aa (.ref wa))(W:Words X.K wa ys)(hgy:autoParam (Gl X y) c6._auto_1)(hdy:autoParam ((y==("__debug__" : az))=aj) mQ._auto_1)(hmk:autoParam (kg .In (.Name y p2)=aj) JF._auto_1):
  QE X (.Compare e [.In] [.Name y p2] pos) (IG ys te):=by
 refine⟨λρ Q Q' w q=>he.mono _ _ _ (λr zq1=>by obtain⟨z,e1,q⟩:=zq1;exact⟨z,e1,w _ q⟩) q,λHZ F=>c5 (BD (K9 W) (he.run HZ F) (BB (v:=.ref wa) hgy hmy rfl hdy) hmk) λσ H Q zz=>?_⟩;obtain⟨ρ,fr,q⟩:=zz;refine he.step fr q λr x H1 q S1 r1=>?_;obtain⟨z,e1,q⟩:=q;have cx:=r1.c;rw[e1] at cx;obtain rfl:=cx.str;exact⟨_,rfl,rfl,q _ H1 S1 (Rep.bl _)⟩
end
end Z
namespace L2
theorem KA(hu:X.A.units+1<gy):gR X (bu .In) (λx y H Q=>∃a o,y=.ref a/\mJ H a x o/\Q (.bl o.isSome) H):=by
 intro pj s σ H x y v u Q I rx ry h;obtain⟨a,o,rfl,g,q⟩:=h;cases ry;exact O7 hu I g rx λs' I'=>⟨.bl o.isSome,H,I',rfl,q⟩
theorem Co(hu:X.A.units+1<gy):gR X (bu .NotIn) (λx y H Q=>∃a o,y=.ref a/\mJ H a x o/\Q (.bl (!o.isSome)) H):=by
 intro pj s σ H x y v u Q I rx ry h;obtain⟨a,o,rfl,g,q⟩:=h;cases ry;exact IM hu I g rx λs' I'=>⟨.bl (!o.isSome),H,I',rfl,q⟩
end L2
namespace Z
open L2
section
variable {a b c d:Expr}{ta tb tc td:cO}
noncomputable abbrev KD:=List (aY×Dv)
noncomputable def hasK(kvs:KD)(i:Int):Bool:=kvs.any λkv=>decide (kv.1=bo i)
noncomputable def pS(kvs:KD)(k:aY)(d:Dv):KD:=if kvs.any (λkv=>decide (kv.1=k)) then kvs.map (λkv=>if kv.1=k then (kv.1,d) else kv) else kvs++[(k,d)]
theorem RepK.any{K:ai}{M:ae->Prop}{H:Hp}{k:aY}{xs:List (aY×V)}{ds:KD}(r:RepK K M H xs ds):xs.any (λkv=>decide (kv.1=k))=ds.any (λkv=>decide (kv.1=k)):=
 r.ind (P:=λxs ds=>xs.any (λkv=>decide (kv.1=k))=ds.any (λkv=>decide (kv.1=k))) rfl λ_ _ _ _ _ _ _ ih=>by rw[ou,ou,ih]
theorem RepK.put{k:aY}{x:V}{d:Dv}{xs:List (aY×V)}{ds:KD}(r:RepK K M H xs ds)(a:Rep K M H x d):RepK K M H (i9 xs k x) (pS ds k d):=by
 unfold i9 pS;rw[r.any (k:=k)];split
 ·exact r.ind (P:=λxs ds=>RepK K M H (xs.map λkv=>if kv.1=k then (kv.1,x) else kv) (ds.map λkv=>if kv.1=k then (kv.1,d) else kv)) .nil λk' _ _ _ _ b _ ih=>by
   rw[cb,cb];by_cases e:k'=k
   ·rw[QL e,QL e];exact .cons a ih
   ·rw[Qi e,Qi e];exact .cons b ih
 ·exact r.ind (P:=λxs ds=>RepK K M H (xs++[(k,x)]) (ds++[(k,d)])) (.cons a .nil) λ_ _ _ _ _ b _ ih=>.cons b ih
theorem RepK.has{k:aY}{xs:List (aY×V)}{ds:KD}(r:RepK K M H xs ds):(iO xs k).isSome=ds.any λkv=>decide (kv.1=k):=by
 have h:=r.val (k:=k);cases e:ds.find? (λkv=>decide (kv.1=k)) with
 |none=>
  rw[h.2 e,Option.isSome_none];symm;rw[yc];exact List.find?_eq_none.mp e
 |some kv=>
  obtain⟨x,hx,_⟩:=h.1 kv e;rw[hx,xk];symm;rw[sr];exact⟨kv,List.mem_of_find?_eq_some e,by have:=List.find?_some (p:=λkv:aY×Dv=>decide (kv.1=k)) e;exact this⟩
noncomputable def Ee:Dv->Dv->(R->Prop)->Prop
 | .int i,.dik kvs,Q=>Q (.v (.bl (hasK kvs i)))
 |_,_,_=>False
noncomputable def o9:Dv->Dv->(R->Prop)->Prop
 | .int i,.dik kvs,Q=>Q (.v (.bl (!hasK kvs i)))
 |_,_,_=>False
theorem HH(hu:X.A.units+1<gy):sX X (bu .In) Ee:=by
 refine⟨λdx dy Q Q' w h=>?_,_,KA hu,λM O H x y dx dy Q cx cy h=>?_⟩
 ·unfold Ee at *;split at h
  ·exact w _ h
  ·exact h
 ·unfold Ee at h;split at h
  ·obtain rfl:=cx.int;obtain⟨a,kvs,rfl,ea,ra⟩:=cy.dik;refine⟨a,_,rfl,mJ.k (k:=bo _) ea,?_⟩;rw[ra.has];exact h _ H (aM.refl _) (Rep.bl _)
  ·exact h.elim
theorem AN(hu:X.A.units+1<gy):sX X (bu .NotIn) o9:=by
 refine⟨λdx dy Q Q' w h=>?_,_,Co hu,λM O H x y dx dy Q cx cy h=>?_⟩
 ·unfold o9 at *;split at h
  ·exact w _ h
  ·exact h
 ·unfold o9 at h;split at h
  ·obtain rfl:=cx.int;obtain⟨a,kvs,rfl,ea,ra⟩:=cy.dik;refine⟨a,_,rfl,mJ.k (k:=bo _) ea,?_⟩;rw[ra.has];exact h _ H (aM.refl _) (Rep.bl _)
  ·exact h.elim
noncomputable def IH(te:cO):cO:=λρ Q=>te ρ λr=>∃i,r.d=.int i/\Q (.nw (.dik [(bo i,.non)]))
theorem Li{k:Nat}{p2:gv}(he:QE X e te):QE X (.Dict [aa e] [.Constant .none k p2] pos) (IH te):=by
 refine⟨λρ Q Q' w q=>he.mono _ _ _ (λr q=>?_) q,λHZ F=>c5 (BC (xP (he.run HZ F) EG B9) rfl rfl (by simp) (by simp)) λσ H Q ⟨ρ,fr,q⟩=>?_⟩
 ·obtain⟨i,e1,q⟩:=q;exact⟨i,e1,w _ q⟩
 ·intro p hp;have S0:aM H (upd H p (.dK [])):=aM.new' hp;refine he.step (fr.mono S0) q λr x H1 q S1 r1=>?_;obtain⟨i,e1,q⟩:=q;have cx:=r1.c;rw[e1] at cx;obtain rfl:=cx.int;refine⟨S1 _ _ bO,[(bo i,.non)],rfl,by simp,q _ _ (λb o e=>?_) ⟨p,rfl,hp,_,bO,.cons .non .nil⟩⟩;by_cases hb:b=p
  ·rw[hb,hp] at e;cases e
  ·rw[bB hb];exact S1 _ _ (S0 _ _ e)
noncomputable def r8(i:Nat)(tk tv:cO):bV:=λE ρ=>match ρ[i]? with
 |some (.own a (.dik kvs))=>tv ρ λr=>tk ρ λkk=>∃k:Int,kk.d=.int k/\(r.free=ah/\kvs.length<tQ)/\E.nx (ρ.set i (.own a (.dik (pS kvs (bo k) r.d))))
 |_=>False
theorem Dy{p1 p2:gv}{k:Expr}{tk:cO}(hu:X.A.units+1<gy)(hv:PE X (.Name x p1) (uU i))(hk:QE X k tk)(he:QE X e te)
  (hs:autoParam (gk e (aa (.Subscript (.Name x p1) k p2)) pos.line X.env=gc aj) c6._auto_1):QS X (.Assign [.Subscript (.Name x p1) k p2] e pos) (r8 i tk te):=by
 refine⟨λE E' ρ w h=>?_,λHZ F=>eJ (B8 hu hv (hk.run HZ F) (he.run HZ F) hs) λD σ H ⟨ρ,E,fr,h,en⟩=>?_⟩
 ·unfold r8 at *;split at h
  ·exact he.mono _ _ _ (λr q=>hk.mono _ _ _ (λkk zq2=>by obtain⟨k,a,b,c⟩:=zq2;exact⟨k,a,b,w.nx _ c⟩) q) h
  ·exact h
 ·unfold r8 at h;split at h
  ·rename_i a kvs hx;refine he.step fr h λr y H1 q S1 r1=>?_;have fr1:=fr.mono S1;obtain⟨hs1,vs,hv1,rv1⟩:=fr1.sl i _ hx;refine⟨_,hs1,hk.step fr1 q λkk z H2 q S2 rk=>?_⟩;obtain⟨ks,ek,⟨qf,ql⟩,q2⟩:=q;have ck:=rk.c;rw[ek] at ck;obtain rfl:=ck.int;have rep:=(r1.rep (λa m=>fr.dom m) qf).mono S2;have hv2:=S2 _ _ hv1;refine⟨a,rfl,zU.k (k:=bo ks) hv2 (by rw[rv1.length];exact rV ql) ?_⟩;refine en.nx _ _ _ ((fr1.mono S2).write (d':=.dik (pS kvs (bo ks) r.d)) hx ⟨_,bO,?_⟩) q2;have G:Gen X.K (MM F ρ) (MM F ρ) H2 (upd H2 a (.dK (i9 vs (bo ks) y))):=Gen.write (.inr ⟨_,cq hx⟩) (by rw[hv2];trivial);exact((rv1.gen (.mono S2)).put rep).gen G
  ·exact h.elim
noncomputable def hZ:List Dv->(R->Prop)->Prop
 | [.dit kvs],Q=>∃(kns:List (List Int)) (k:Nat),kvs.map (·.1)=kns.map (λl=>l.map bo)/\kvs.length<64/\(∀l∈kns,l.length=k+1) /\ ∀ls:List (List Int),ls.Perm kns->ls.Pairwise (λt u=>k4 t u=ah)->Q (.nw (.lst (ls.map λl=>.tup (l.map .int))))
 |_,_=>False
theorem RepT.keys(r:RepT K M H xs ds):xs.map (·.1)=ds.map (·.1):=
 r.ind (P:=λxs ds=>xs.map (·.1)=ds.map (·.1)) rfl λ_ _ _ _ _ _ _ ih=>by rw[cb,cb,ih]
theorem Aq(hc:X.calm=ah):lK X (.builtin "sorted") hZ:=by
 refine⟨λds Q Q' w h=>?_,_,wL hc,λM O H xs ds Q c h=>?_⟩
 ·unfold hZ at *;split at h
  ·obtain⟨kns,k,a,b,c,q⟩:=h;exact⟨kns,k,a,b,c,λls x y=>w _ (q ls x y)⟩
  ·exact h
 ·unfold hZ at h;split at h
  ·obtain⟨x,rfl,cx⟩:=eB c;obtain⟨a,ep,kvs',rfl,ea,ra⟩:=cx.dit;obtain⟨kns,k,e1,e2,e3,q⟩:=h;refine⟨a,ep,kvs',kns,k,rfl,ea,by rw[ra.keys];exact e1,by rw[ra.len];exact e2,e3,λits' p1 p2 p3 l hl=>?_⟩;refine q (its'.map (·.2)) p1 (by rw[pb];exact p2) _ _ (aM.new' hl) (jX hl ?_);clear q p1 p2;induction its' with
   |nil=>exact .nil
   |cons t r ih=>
    refine .cons (.tup (p3 t (bw ..)) (Reps.ints _)) (ih λu hu=>p3 u (bj _ hu))
  ·exact h.elim
end
noncomputable def CJ(i j:Nat):bV:=λE ρ=>match ρ[i]? with
 |some (.own a (.lst xs))=>∃ys d,xs=ys++[d]/\E.nx ((ρ.set i (.own a (.lst ys))).set j (.v d))
 |_=>False
theorem Reps.unsnoc{d:Dv}:∀{ys:List Dv} {xs:List V},Reps K M H xs (ys++[d]) -> ∃vs v,xs=vs++[v]/\Reps K M H vs ys/\Rep K M H v d:=by
 intro ys;induction ys with
 |nil=>
  intro xs h;cases h with
  |cons a t=>cases t;exact⟨[],_,rfl,.nil,a⟩
 |cons y ys ih=>
  intro xs h;cases h with
  |cons a t=>
   obtain⟨vs,v,rfl,r1,r2⟩:=ih t;exact⟨_::vs,v,rfl,.cons a r1,r2⟩
theorem Le{j:Nat}{y:az}{p1 p2 p3 py:gv}(hv:PE X (.Name x p1) (uU i))(hN:X.N.Nodup)(hj:X.N[j]?=aa y)(hy:GM X.env.scope y)
  (hs:autoParam (gk (.Call (.Attribute (.Name x p1) "pop" p2) [] [] p3) (aa (.Name y py)) pos.line X.env=gc aj) c6._auto_1)
  (R6:autoParam (jn (.Name x p1) "pop" X.env (em (.Name x p1) X.env)=em (.Name x p1) X.env) c6._auto_1) (R7:autoParam ((p2.endLine==p3.line)=ah) c6._auto_1) (hf:autoParam (X.fn y=ah \/ X.env.scope.names.lookup y=aa .local) DU._auto_1):
  QS X (.Assign [.Name y py] (.Call (.Attribute (.Name x p1) "pop" p2) [] [] p3) pos) (CJ i j):=by
 refine⟨λE E' ρ w h=>?_,λHZ F=>eJ (AE hN hj hy (Jq nu PySem.F.slot_list_pop PySem.F.type_list_pop KJ hv R6 R7) hs hf) λD σ H ⟨ρ,E,fr,h,en⟩=>?_⟩
 ·unfold CJ at *;split at h
  ·obtain⟨ys,d,e,q⟩:=h;exact⟨ys,d,e,w.nx _ q⟩
  ·exact h
 ·unfold CJ at h;split at h
  ·rename_i a xs hx;obtain⟨hs1,vs,hv1,rv1⟩:=fr.sl i _ hx;obtain⟨ys,d,rfl,q⟩:=h;obtain⟨ws,v,rfl,r1,r2⟩:=rv1.unsnoc;have G:Gen X.K (MM F ρ) (MM F ρ) H (upd H a (.lst ws)):=Gen.write (.inr ⟨_,cq hx⟩) (by rw[hv1];trivial);have fr1:=fr.write (d':=.lst ys) hx ⟨ws,bO,r1.gen G⟩;refine⟨_,hs1,.inl ⟨rfl,_,eZ.of hv1⟩,a,ws++[v],v,rfl,rfl,hv1,by simp,?_⟩;rw[List.dropLast_concat];refine en.nx _ _ _ (fr1.setv ((r2.gen G).weak λb z=>?_)) q;rcases MM.set b z with z | ⟨_,z⟩
   ·exact z
   ·cases z;exact .inr ⟨_,cq hx⟩
  ·exact h.elim
variable {kvs:KD}{Q:R->Prop}
theorem Ed{i:Int}:(Ee (.int i) (.dik kvs) Q)=(Q (.v (.bl (hasK kvs i)))):=rfl
theorem tY{i:Int}:(o9 (.int i) (.dik kvs) Q)=(Q (.v (.bl (!hasK kvs i)))):=rfl
theorem rG{kvs:List (List aY×Dv)}:(hZ [.dit kvs] Q)=(∃(kns:List (List Int)) (k:Nat),kvs.map (·.1)=kns.map (λl=>l.map bo)/\kvs.length<64/\(∀l∈kns,l.length=k+1) /\ ∀ls:List (List Int),ls.Perm kns->ls.Pairwise (λt u=>k4 t u=ah)->Q (.nw (.lst (ls.map λl=>.tup (l.map .int))))):=rfl
theorem EZ:(fC [.dik kvs] Q)=(Q (.v (.int kvs.length))):=rfl
end Z
namespace L2
variable {f:ae}{cd:ac}{s0:af}{H0:Hp}{E:XK}
section
variable {E':XK}
end
section
variable {s1 s2:af}{e:ac}{D:Ends}
end
variable {fd:gh}{sp:Sp}
section
variable {k:Nat}{epos:gv}{t:TA}
end
section
variable {fa:ae}{E0:XK}
variable {k:Nat}{t:TA}
end
end L2
namespace Z
open L2
section
variable {f:ae}{cd:ac}{s0:af}{H0:Hp}{E:XK}{HZ:Hp}{Ψ:Exn->Prop}
end
variable {ts:lJ}
section
variable {k:Nat}{sp:FnX}{epos:gv}
end
section
variable {M':ae->Prop}
end
section
variable {k:Nat}{y f:az}{e1 e2 z c:Expr}{tt:jI}{tb tr:bV}{te2:cO}{R0 QN:List iq}{R5 QZ ipos q1 q2 q3 q4 q5 r1 r3 r4 r5:gv}
end
end Z
namespace L2
section
variable {fa:ae}{cd:ac}{s0:af}{H0:Hp}{E0:XK}
variable {k:Nat}{f:ae}{fd:gh}{sp:Sp}{t:TA}
end
end L2
namespace Z
open L2
section
variable {o:Expr}{to:cO}{QZ:gv}
end
section
variable {f:ae}{cd:ac}{s0:af}{H0:Hp}{E:XK}{HZ:Hp}{Ψ:Exn->Prop}
end
end Z
namespace L2
open PySem PySem.Spec PySem.W PyProof.Rows Tim
theorem xH{d:ae}{es:Array ir}{ep:Nat}{vs:List ac}(hh:A.handled=ap)(lo:(d==ed)=aj)(x:Ent s.heap d es ep)(hv:es.toList.map (·.key)=vs)(hi:ki vs ns)(h64:vs.length<64)
  (k:∀(h1:ca) (tk:Nat) (out:Array ac) (ms:List Int),(∀b o,s.heap.get? b=aa o->h1.get? b=aa o)->s.heap.objs.size<h1.objs.size->ki out.toList ms->ms.Perm ns->ms.Pairwise (· <= ·)->Q (.ref h1.objs.size) { s with heap:=Pr (h1.push (kr "list" vs.toArray 0)) h1.objs.size vs out,toks:=tk }):
  be (bn prog w) A (call (.builtin "sorted") [.ref d]) Q E s:=by
 have line:vs.length<=ay:=by rw[io];right
 have hn:es.size=vs.length:=by rw[<- hv];simp
 refine sf kind_sorted plain_sorted entry_sorted (args_sorted1 _) ?_;unfold wc.«sorted»;refine ab (m:=checkCount "sorted" 1 1 _) (ao (ab (zK (Bv lo) hh x (by rw[hn];exact line) λh1 tk acc old big it=>?_)));have ea:acc.toList=vs:=by
  apply ox;intro i;rw[<- hv];by_cases hi:i<acc.size
  ·obtain⟨en,e1,e2⟩:=it.2 i acc[i] (gg hi);rw[jb,gg hi,bh,jb,e1,e2];rfl
  ·have:es.size<=i:=by rw[<- it.1];right
   rw[jc (by simpa using hi),jc (by simpa using this)]
 rw[ea];refine ab (wu ?_ line);have mine:(h1.push (kr "list" vs.toArray 0)).get? h1.objs.size=aa (kr "list" vs.toArray 0):=bi h1 rfl;exact ab (jm (dv Pv ⟨_,mine,rfl⟩ Ow (list_sort_tree (s:={ s with heap:=h1.push (kr "list" vs.toArray 0),toks:=tk }) mine hi h64 λout ms a1 a2 a3=>⟨_,rfl,ao ⟨_,rfl,k h1 tk out ms old big a1 a2 a3⟩⟩) (Pw _)))
theorem D4{es:List ir}{kvs:List (aY×ac)}(h:Pairs (cT P w) es kvs):∀{ns:List Int},kvs.map (·.1)=ns.map bo->ki (es.map (·.key)) ns:=by
 induction h with
 |nil=>
  intro ns e;cases ns with
  |nil=>exact .nil
  |cons _ _=>cases e
 | @cons e kv es kvs h1 h2 _ ih=>
  intro ns q;cases ns with
  |nil=>cases q
  |cons n ns=>
   rw[cb,cb] at q;injection q with q1 q2;rw[q1,AU] at h1;rcases cK h1 with⟨i,t,e1,e2⟩ | ⟨x,t,e1,e2⟩
   ·cases e1;rw[cb,e2];exact .cons _ _ (ih q2)
   ·cases e1
theorem tO(hc:X.calm=ah):fX X (.builtin "sorted") (λxs H Q=>∃(p:ae) (kvs:List (aY×V)) (ns:List Int),xs=[.ref p]/\H p=aa (.dK kvs)/\kvs.map (·.1)=ns.map bo/\ns.length<64 /\
  ∀ms:List Int,ms.Perm ns->ms.Pairwise (· <= ·) -> ∀l,H l=ap->Q (.ref l) (upd H l (.lst (ms.map V.int)))):=by
 intro pj s σ H xs us Q I r h;obtain⟨p,kvs,ns,rfl,hp,hk,h64,q⟩:=h;obtain⟨u,rfl,ru⟩:=kM r;cases ru;obtain⟨hz,hsys,vs,rv,o,es,ep,g,ex,dd,ko,pr,nd⟩:=(show cF X.prog X.w H s.heap p (.dK kvs) from I.hok p _ hp);have ev:vs.map (·.1)=ns.map bo:=by
  rw[<- hk];clear pr nd hk hp hz q;induction rv with
  |nil=>rfl
  |cons a _ ih=>rw[cb,cb,ih,a.1]
 have ia:=D4 pr ev;refine xH (I.ok.hd hc) hsys ⟨⟨o,g,ex,dd⟩⟩ rfl ia (by rw[ia.length];exact h64) λh1 tk out ms old big a1 a2 a3=>?_;have mine:(h1.push (kr "list" (es.toList.map (·.key)).toArray 0)).get? h1.objs.size=aa (kr "list" (es.toList.map (·.key)).toArray 0):=bi h1 rfl;obtain⟨c,LF⟩:=sortedHeap_at (out:=out) mine;have back:∀{us:List ac} {ns:List Int},ki us ns->bF (ns.map V.int) us:=λh=>by
  induction h with
  |nil=>exact .nil
  |cons a t _ ih=>exact .cons ⟨t,rfl⟩ ih
 have eo:out.toList.toArray=out:=by cases out;rfl
 have low:∀b o,s.heap.get? b=aa o->b<h1.objs.size:=λb o e=>av (old b o e);have le:s.heap.objs.size<=h1.objs.size:=vm big;have hle:(ms.map V.int).length<=ay:=by rw[io,bc,a2.length_eq];right
 exact⟨.ref h1.objs.size,_,I.laid (λb o e=>(Px (ef (low b o e)) (by rw[size_push'];exact sn (low b o e))).trans (ak _ (old b o e))) le (show cF X.prog X.w _ _ _ (.lst _) from⟨hle,out.toList,c,back a1,by rw[eo];exact LF⟩),rfl,q ms a2 a3 _ (I.hok.fresh le)⟩
end L2
namespace Z
open L2
noncomputable def jA:List Dv->(R->Prop)->Prop
 | [.dik kvs],Q=>∃ns:List Int,kvs.map (·.1)=ns.map bo/\ns.length<64 /\ ∀ms:List Int,ms.Perm ns->ms.Pairwise (· <= ·)->Q (.nw (.lst (ms.map .int)))
 |_,_=>False
theorem pT{kvs:List (aY×Dv)}{Q:R->Prop}:(jA [.dik kvs] Q)=(∃ns:List Int,kvs.map (·.1)=ns.map bo/\ns.length<64 /\ ∀ms:List Int,ms.Perm ns->ms.Pairwise (· <= ·)->Q (.nw (.lst (ms.map .int)))):=rfl
theorem RepK.keys{xs:List (aY×V)}{ds:List (aY×Dv)}(r:RepK K M H xs ds):xs.map (·.1)=ds.map (·.1):=
 r.ind (P:=λxs ds=>xs.map (·.1)=ds.map (·.1)) rfl λ_ _ _ _ _ _ _ ih=>by rw[cb,cb,ih]
theorem zO(hc:X.calm=ah):lK X (.builtin "sorted") jA:=by
 refine⟨λds Q Q' w h=>?_,_,tO hc,λM O H xs ds Q c h=>?_⟩
 ·unfold jA at *;split at h
  ·obtain⟨ns,a,b,q⟩:=h;exact⟨ns,a,b,λms x y=>w _ (q ms x y)⟩
  ·exact h
 ·unfold jA at h;split at h
  ·obtain⟨x,rfl,cx⟩:=eB c;obtain⟨a,kvs',rfl,ea,ra⟩:=cx.dik;obtain⟨ns,e1,e2,q⟩:=h;exact⟨a,kvs',ns,rfl,ea,by rw[ra.keys];exact e1,e2,λms p1 p2 l hl=>q ms p1 p2 _ _ (aM.new' hl) (jX hl (Reps.ints _))⟩
  ·exact h.elim
section
variable {M':ae->Prop}
end
section
variable {k:Nat}{y f:az}{e1 e2 z c:Expr}{ts:lJ}{tt:jI}{tb tr:bV}{te2:cO}{R0 QN:List iq}{R5 QZ ipos q1 q3 q4 q5 r1 r2 r3:gv}
end
end Z
namespace L2
variable {K:Type}
theorem KH{xs:List (K×α)}(hn:(xs.map (·.1)).Nodup){k:K}{p q:α}{j:Nat}(hj:xs[j]?=aa (k,p))(m:(k,q)∈xs):p=q:=by
 obtain⟨i,hi,e⟩:=qg.mp m;have hj':=(bt.mp hj).1;have:i=j:=(List.getElem?_inj (by rw[bc];exact hi) hn).mp (by rw[bh,bh,hj,bz hi,e];rfl);subst this;rw[bz hi,e] at hj;cases hj;rfl
section
variable [DecidableEq K]{knd:HeapKind prog w K}{xs ys:List (K×ae×ac)}
end
end L2
namespace Z
open L2
theorem KT.ex{xs:List (List aY×ae×ac)}(r:KT H kvs xs):∀{k:List aY} {p:ae×ac},(k,p)∈xs -> ∃x,(k,x)∈kvs/\bX x p.2:=by
 induction r with
 |nil=>intro k p m;cases m
 | @cons q r' ps qs hq t ih=>
  intro k p m;rcases de.mp m with e | m
  ·subst e;exact⟨q.2,by rw[show k=q.1 from hq.1.symm];exact bw ..,hq.2.2⟩
  ·obtain⟨x,m,e⟩:=ih m;exact⟨x,bj _ m,e⟩
theorem KT.xe{xs:List (List aY×ae×ac)}(r:KT H kvs xs):∀{k:List aY} {x:V},(k,x)∈kvs -> ∃p,(k,p)∈xs/\bX x p.2:=by
 induction r with
 |nil=>intro k p m;cases m
 | @cons q r' ps qs hq t ih=>
  intro k x m;rcases de.mp m with e | m
  ·cases e;exact⟨r'.2,by rw[show k=r'.1 from hq.1];exact bw ..,hq.2.2⟩
  ·obtain⟨x,m,e⟩:=ih m;exact⟨x,bj _ m,e⟩
theorem RepT.ex(r:RepT K M H xs ds):∀{k:List aY} {x:V},(k,x)∈xs -> ∃d,(k,d)∈ds/\Rep K M H x d:=by
 refine RepT.ind (P:=λxs ds=>∀{k:List aY} {x:V},(k,x)∈xs -> ∃d,(k,d)∈ds/\Rep K M H x d) (λm=>by cases m) (λk0 x0 d0 xs0 ds0 a _ ih k x m=>?_) r;rcases de.mp m with e | m
 ·cases e;exact⟨_,bw ..,a⟩
 ·obtain⟨d,m,r⟩:=ih m;exact⟨d,bj _ m,r⟩
theorem RepT.xe(r:RepT K M H xs ds):∀{k:List aY} {d:Dv},(k,d)∈ds -> ∃x,(k,x)∈xs/\Rep K M H x d:=by
 refine RepT.ind (P:=λxs ds=>∀{k:List aY} {d:Dv},(k,d)∈ds -> ∃x,(k,x)∈xs/\Rep K M H x d) (λm=>by cases m) (λk0 x0 d0 xs0 ds0 a _ ih k x m=>?_) r;rcases de.mp m with e | m
 ·cases e;exact⟨_,bw ..,a⟩
 ·obtain⟨d,m,r⟩:=ih m;exact⟨d,bj _ m,r⟩
theorem RepT.lenT(r:RepT K M H xs ds):xs.length=ds.length:=
 RepT.ind (P:=λxs ds=>xs.length=ds.length) rfl (λ_ _ _ _ _ _ _ ih=>by rw[cj,cj,ih]) r
end Z
namespace L2
section
variable {K:Type}[DecidableEq K]{knd:HeapKind prog w K}{xs ys:List (K×ae×ac)}
theorem A8{nm:String}{Q:Bool->af->Prop}(c:K->Bool)(hu:knd.room A)(ha:(a==ed)=aj)(hb:(b==ed)=aj)(da:s.heap.DictOfH knd a xs)(db:s.heap.DictOfH knd b ys)(hl:xs.length=ys.length)
  (hit:∀k p,(k,p)∈xs -> ∃q,(k,q)∈ys/\Pp A s p.2 q.2 (c k)) (h:Q (xs.all λx=>c x.1) s):be (bn prog w) A (ur nm a b) Q E s:=by
 obtain⟨o,es,ep,ho,hc,hd,he,his,hn⟩:=da;obtain⟨o',es',ep',ho',hc',hd',he',his',hn'⟩:=db;have z:=Ox he;have z':=Ox he';have na:¬(a==ed)=ah:=by simp[ha]
 have nb:¬(b==ed)=ah:=by simp[hb]
 unfold ur pc;rw[Qi na,Qi nb];refine ab (ao (ab (ao (ab (ic ho hd ?_)))));dsimp only;refine ab (ic ho' hd' ?_);rw[Qi (by rw[z,z',hl];simp)];refine ab (ml ho hd (ab ?_));rw[vt];simp only[Std.Legacy.Range.size,Nat.sub_zero,Nat.add_sub_cancel,Nat.div_one];refine wpAny_forIn_list _ (λQN q t=>t=s/\q=(ap,()) /\ ∃i,QN=List.range' i (es.size-i)/\i<=es.size /\ ∀x∈xs.take i,c x.1=ah) _ ?_ ?_ _ _ ⟨rfl,rfl,0,by simp,mj _,by simp⟩
 ·rintro x QN q t ⟨rfl,rfl,i,hr,hi,so⟩;have lt:i<es.size:=by
   rcases Ql i es.size with g | g
   ·exact g
   ·rw[Nat.sub_eq_zero_of_le g] at hr;cases hr
  have e1:es.size-i=(es.size-(i+1))+1:=⋯;rw[e1,zk] at hr;injection hr with hx hr;subst hx;have lx:x<xs.length:=⋯;refine ab (ic ho hd ?_);have ex:es[x]?=aa (entryOfKey knd xs[x]):=by rw[entry_at he x,bz lx];rfl
  rw[ex];have mx:xs[x]∈xs:=iw lx;obtain⟨q,mq,eq⟩:=hit xs[x].1 xs[x].2 mx;refine ab (jm (ab (wpAny_dictFind_heap (knd:=knd) hu (his _ mx) ho' hd' he' his' hn' (λno=>?_) λj p hj=>?_)))
  ·obtain⟨j,hj,e⟩:=qg.mp mq;exact absurd (by rw[bz hj,e]) (no j q)
  ·have:=KH hn' hj mq;subst this;refine ab (ic ho' hd' ?_);rw[entry_at he' j,hj];refine jm (eq prog w _ _ ?_);by_cases cx:c xs[x].1=ah
   ·rw[cx];show be _ _ (if (!true)=ah then _ else _) _ _ _;rw[Qi ∅];refine ab (ml ho hd ?_);rw[Qi (by simp)];refine ao ⟨rfl,rfl,x+1,hr,lt,λy hy=>?_⟩;rw[yp,bz lx] at hy;rcases ee.mp hy with hy | hy
    ·exact so y hy
    ·rw[show y=xs[x] by simpa using hy];exact cx
   ·rw[Bool.not_eq_true] at cx;rw[cx];show be _ _ (if (!false)=ah then _ else _) _ _ _;rw[QL ∅];refine ao ?_;have e:(xs.all λx=>c x.1)=aj:=by
     rw[yq];exact⟨xs[x],mx,by simp[cx]⟩
    rw[e] at h;exact ao h
 ·rintro q t ⟨rfl,rfl,i,hr,hi,so⟩;have ie:i=es.size:=by
   rcases Ql i es.size with g | g
   ·rw[show es.size-i=(es.size-(i+1))+1 by right,zk] at hr;cases hr
   ·right
  have e:(xs.all λx=>c x.1)=ah:=by
   rw[qd];intro y hy;exact so y (by rw[ot ⋯];exact hy)
  rw[e] at h;exact ao h
theorem Of(c:K->Bool)(hr:knd.room A.in1)(hu:A.units<gy)(ha:(a==ed)=aj)(hb:(b==ed)=aj)(da:s.heap.DictOfH knd a xs)(db:s.heap.DictOfH knd b ys)(hl:xs.length=ys.length)
  (hit:∀k p,(k,p)∈xs -> ∃q,(k,q)∈ys/\Pp A.in1 s p.2 q.2 (c k)) (h:Q (.bool (!xs.all λx=>c x.1)) s):be (bn prog w) A (bu .NotEq (.ref a) (.ref b)) Q E s:=by
 refine wpAny_richCompare_same_room (op:=.NotEq) da.typeIs db.typeIs vw (dv vw da.typeIs PySem.F.entry_dict_ne ?_ (PySem.F.args_dict_ne_2 _ _)) hu;show be _ _ (sg "__ne__" ⟨[.ref a,.ref b],[]⟩ >>= _) _ _ s;refine ab ?_;unfold sg;refine ab (vi da.typeIs (show be _ _ (gc (Value.ref a,Value.ref b)) _ _ s from ao (ab (ip (T:="dict") db.typeIs PySem.F.sub_dict_dict ?_))));simp only[wv,cv,if_false];refine ab (ao (ab (ao (ab (A8 c hr ha hb da db hl hit (ao ⟨_,rfl,(λx=>nomatch x),?_⟩))))));simpa using h
end
end L2
namespace Z
open L2
theorem IB{k:Nat}(r:Room k A):A.units+66<gy:=by have:=r.un;right
theorem KT.all{H:Hp}{kvs:List (List aY×V)}{xs:List (List aY×ae×ac)}(r:KT H kvs xs)(c:List aY->Bool):(xs.all λx=>c x.1)=kvs.all λx=>c x.1:=by
 induction r with
 |nil=>rfl
 | @cons q r' ps qs hq t ih=>rw[tw,tw,ih,show q.1=r'.1 from hq.1]
noncomputable def HD:Dv->Dv->(R->Prop)->Prop
 | .dit ds,.dit es,Q=>∃c:List aY->Bool,ds.length=es.length/\(∀k d,(k,d)∈ds -> ∃e,(k,e)∈es/\cJ 8 d=ah/\cJ 8 e=ah/\eqD d e=c k)/\Q (.v (.bl (!ds.all λkv=>c kv.1)))
 |_,_,_=>False
noncomputable def NZ(K:ai):R2:=λx y H Q=>∃(M:ae->Prop) (ds es:List (List aY×Dv)) (c:List aY->Bool),cW K M H x (.dit ds)/\cW K M H y (.dit es)/\ds.length=es.length/\(∀k d,(k,d)∈ds -> ∃e,(k,e)∈es/\cJ 8 d=ah/\cJ 8 e=ah/\eqD d e=c k)/\Q (.bl (!ds.all λkv=>c kv.1)) H
theorem K0(hu:X.A.units+66<gy):gR X (bu .NotEq) (NZ X.K):=by
 intro pj s σ H x y v u Q I rx ry h;obtain⟨M,ds,es,c,r1,r2,hl,hit,q⟩:=h;obtain⟨a,ep,kvs,rfl,ea,ra⟩:=r1.dit;obtain⟨b,ep',kvs',rfl,eb,rb⟩:=r2.dit;cases (show v=Value.ref a from rx);cases (show u=Value.ref b from ry);obtain⟨z,hd,xs,rel,dd⟩:=G0 I.hok ea;obtain⟨z',hd',ys,rel',dd'⟩:=G0 I.hok eb;have ek:(xs.all λx=>c x.1)=ds.all λkv=>c kv.1:=by
  rw[KT.all rel c];have h1:∀l:List (List aY×V),(l.all λx=>c x.1)=(l.map (·.1)).all c:=λl=>by rw[Q4];rfl
  have h2:∀l:List (List aY×Dv),(l.all λx=>c x.1)=(l.map (·.1)).all c:=λl=>by rw[Q4];rfl
  rw[h1,h2,ra.keys]
 refine Of c (jz ⋯) ⋯ hd hd' dd dd' ?_ (λk p m=>?_) ⟨.bl (!ds.all λkv=>c kv.1),H,I,by rw[ek];rfl,q⟩
 ·rw[<- rel.length,<- rel'.length,RepT.lenT ra,RepT.lenT rb,hl]
 ·obtain⟨x,mx,rx⟩:=KT.ex rel m;obtain⟨d,md,rd⟩:=RepT.ex ra mx;obtain⟨e,me,o1,o2,eq⟩:=hit k d md;obtain⟨y,my,re⟩:=RepT.xe rb me;obtain⟨q,mq,ry⟩:=KT.xe rel' my;obtain⟨as,r1⟩:=rd.reads I o1 rx;obtain⟨bs,r2⟩:=re.reads I o2 ry;have s1:=g8 o1 ∅;have s2:=g8 o2 ∅;have:=zh _ _ X.A.in1 s _ _ as bs r1 r2 (ut s1) (ut s2) (SeqAt.room_of_shaped s1 (show X.A.units+1+64<gy by right));rw[show jq (gJ d) (gJ e)=c k from eq] at this;exact⟨q,mq,this⟩
theorem HF(hu:X.A.units+66<gy):sX X (bu .NotEq) HD:=by
 refine⟨λdx dy Q Q' w h=>?_,_,K0 hu,λM O H x y dx dy Q cx cy h=>?_⟩
 ·unfold HD at *;split at h
  ·obtain⟨c,a,b,q⟩:=h;exact⟨c,a,b,w _ q⟩
  ·exact h
 ·unfold HD at h;split at h
  ·obtain⟨c,a,b,q⟩:=h;exact⟨M,_,_,c,cx,cy,a,b,q _ H (aM.refl _) (Rep.bl _)⟩
  ·exact h.elim
noncomputable def Bw(b:Bool)(te:cO):cO:=λρ Q=>te ρ λr=>∃i,r.d=.int i/\Q (.nw (.dik [(bo i,.bl b)]))
theorem JT{b:Bool}{k:Nat}{p2:gv}(he:QE X e te):QE X (.Dict [aa e] [.Constant (.bool b) k p2] pos) (Bw b te):=by
 refine⟨λρ Q Q' w q=>he.mono _ _ _ (λr q=>?_) q,λHZ F=>c5 (BC (xP (he.run HZ F) Ij B9) rfl rfl (by simp) (by simp)) λσ H Q ⟨ρ,fr,q⟩=>?_⟩
 ·obtain⟨i,e1,q⟩:=q;exact⟨i,e1,w _ q⟩
 ·intro p hp;have S0:aM H (upd H p (.dK [])):=aM.new' hp;refine he.step (fr.mono S0) q λr x H1 q S1 r1=>?_;obtain⟨i,e1,q⟩:=q;have cx:=r1.c;rw[e1] at cx;obtain rfl:=cx.int;refine⟨S1 _ _ bO,[(bo i,.bl b)],rfl,by simp,q _ _ (λb o e=>?_) ⟨p,rfl,hp,_,bO,.cons (.bl _) .nil⟩⟩;by_cases hb:b=p
  ·rw[hb,hp] at e;cases e
  ·rw[bB hb];exact S1 _ _ (S0 _ _ e)
inductive DF(K:ai)(mg:az->Option ac)(x nm:az)(st:iq):Prop
 |mk {f:ae} {od an:Option ae} {sl:Array (Option ac)} {oc kV dc pm cd ct:ac} (a:mg x=aa (.ref f))
  (l:K.lookup f=aa ⟨oc,od,.func (sw nm nm (gZ st) (dH st) (aH st) .none kV dc pm an cd ct),sl⟩) (c:vn K cd nm=ah) (k:lv K (.ref f)=ah)
inductive MF(K:ai)(C:ae)(m qual:az)(st:iq):Prop
 |mk {f:ae} {od an:Option ae} {sl:Array (Option ac)} {oc kV dc pm cd ct:ac} (a:ju K (.ref C) m=aa (aa (.ref f))) (i:Qw K (.ref f)=ah)
  (l:K.lookup f=aa ⟨oc,od,.func (sw m qual (gZ st) (dH st) (aH st) .none kV dc pm an cd ct),sl⟩) (c:vn K cd qual=ah) (k:lv K (.ref f)=ah)
noncomputable abbrev Aw(x QP:az)(st:iq)(ps:List az):Prop:=∀(kV doc pm:ac) (an:Option ae) (cdv ct:ac) (us:List ac),us.length=ps.length->Qh (sw x QP (gZ st) (dH st) (aH st) .none kV doc pm an cdv ct) ⟨us,[]⟩=gc (ps.zip us)
variable {p:List ac->Prop}
theorem OD(h:∀(a:ac) (us:List ac),us.length=n->p (a::us)):∀us:List ac,us.length=n+1->p us
 | [],e=>by cases e
 |a::us,e=>h a us (Nat.succ.inj e)
theorem OE(h:p []):∀us:List ac,us.length=0->p us
 | [],_=>h
 |_::_,e=>by cases e
variable {st:iq}
theorem DF.at{nm:az}(d:DF K mg x nm st)(h:Aw nm nm st ps:=by intro _ _ _ _ _ _;(repeat refine Z.OD λ_=>?_);exact Z.OE rfl):At K mg x nm st ps:=by
 obtain⟨a,l,c,k⟩:=d;have F:=vW l c k;exact⟨_,_,a,F,F.binds h⟩
theorem MF.at{m:az}(d:MF K C m QP st)(h:Aw m QP st ps:=by intro _ _ _ _ _ _;(repeat refine Z.OD λ_=>?_);exact Z.OE rfl):MAt K C m QP st ps:=by
 obtain⟨a,i,l,c,k⟩:=d;have F:=vW l c k;exact⟨_,_,⟨a,i,k⟩,F,F.binds h⟩
theorem MF.ini(d:MF K C "__init__" QP st)(e:mg x=aa (.ref C))(mk:zb K C=ah)(kc:lv K (.ref C)=ah)
  (h:Aw "__init__" QP st ps:=by intro _ _ _ _ _ _;(repeat refine Z.OD λ_=>?_);exact Z.OE rfl):IAt K mg x C QP st ps:=by
 obtain⟨a,i,l,c,k⟩:=d;have F:=vW l c k;exact⟨_,_,⟨mk,a,i,kc⟩,e,F,F.binds h⟩
theorem Oi{n:Int}{t:QK}(h:mg x=aa (.int n t)):∃t,mg x=aa (.int n t):=⟨_,h⟩
end Z
local macro_rules | `(tactic| ac_nf)=>`(tactic| simp only[↓Z.zt,Z.zo,Z.zc,Z.jU,Nat.reduceSub,Nat.reduceAdd,↓reduceIte,Int.reduceEq,Int.reduceMul,Int.reduceAdd,Int.reduceSub,Int.reduceNeg,Z.guard,Int.reduceLT,Int.reduceLE,Int.reduceToNat,Int.reducePow,Nat.reduceLT,Nat.reduceLeDiff,Nat.reducePow,Z.tQ,↓Z.IH,↓Z.Bw,↓Z.r8,↓Z.CJ,↓Z.IG,↓Z.qN,↓Z.Ed,↓Z.tY,↓Z.rG,↓Z.EZ,↓Z.pT])
local macro_rules | `(tactic| push_cast [$xs,*])=>`(tactic| simp only[↓Z.zt,Z.zo,Z.zc,Z.jU,Nat.reduceSub,Nat.reduceAdd,↓reduceIte,Int.reduceEq,Int.reduceMul,Int.reduceAdd,Int.reduceSub,Int.reduceNeg,Z.guard,Int.reduceLT,Int.reduceLE,Int.reduceToNat,Int.reducePow,Nat.reduceLT,Nat.reduceLeDiff,Nat.reducePow,Z.tQ,↓Z.IH,↓Z.Bw,↓Z.r8,↓Z.CJ,↓Z.IG,↓Z.qN,↓Z.Ed,↓Z.tY,↓Z.rG,↓Z.EZ,↓Z.pT,$xs,*])
namespace Lw
open L2 Z
noncomputable def top(i:Nat):iq:=gw.main.body.getD i (.Pass ⟨0,0,0,0⟩)
noncomputable abbrev mX:bV:=
 (bK (mO (qC "int" (a8 0)) (z7 (qC "bool" (a8 0)))))
variable {bY bZ dL b9 aS bA:Fn}
section
local macro_rules | `(tactic| norm_cast)=>`(tactic| exact⟨rfl,rfl,rfl,by decide +kernel,rfl,by decide +kernel,by decide +kernel⟩)
theorem zH(P:aq)(w:bb)(mg:az->Option ac)(base:ca)(m:At K mg "is_whole" "is_whole" (top 6) ["thing"])(aP:mg "isinstance" = ap)(tT:mg "int" = ap)(oR:mg "bool" = ap)(len:∀ds Q,sp ds Q->ds.length=1)(hsp:∀ds Q,sp ds Q->mX  ↥Q (aJ ["thing"] ds)):Def P w K mg base 1 "is_whole" ["thing"] (low K sp):=by
 have sc:FnScope ["thing"] ["thing"] (aH (top 6)):=by norm_cast
 refine m.okP (k:=0) (t:=mX ) sc (λf cdv A outer s H E hr=>?_) len hsp
 ·
  exact(aF (aX (rC (o3 (.inl rfl) rfl aP (a7 0 (pv 0)) (gX (v:=.ty "int") rfl tT boot_int rfl)) (pR (Ig (o3 (.inr (.inl rfl)) rfl aP (a7 0 (pv 0)) (gX (v:=.ty "bool") rfl oR boot_bool rfl)))))))
noncomputable abbrev qV:bV:=
 (aN (bQ 2 (aL cA (a8 0) (eC (.int 0))))
 (aN (bQ 3 (aL cA (a8 0) (eC (.int 1))))
 (bK (e9 (a9 (aL gY (aL cG (aL cA (a8 1) (eC (.int 0))) (a8 2)) (aL cG (aL cA (a8 1) (eC (.int 1))) (a8 3))) (a9 (aL dQ (aL cG (aL cA (a8 1) (eC (.int 1))) (a8 2)) (aL cG (aL cA (a8 1) (eC (.int 0))) (a8 3))) aI))))))
theorem DI(P:aq)(w:bb)(mg:az->Option ac)(base:ca)(m:At K mg "turned" "turned" (top 8) ["vector", "turn"])(len:∀ds Q,sp ds Q->ds.length=2)(hsp:∀ds Q,sp ds Q->qV  ↥Q (aJ ["vector", "turn", "x", "y"] ds)):Def P w K mg base 1 "turned" ["vector", "turn"] (low K sp):=by
 have sc:FnScope ["vector", "turn", "x", "y"] ["vector", "turn"] (aH (top 8)):=by norm_cast
 refine m.okP (k:=0) (t:=qV ) sc (λf cdv A outer s H E hr=>?_) len hsp
 ·
  have hu1:=dA hr;exact(aB (bM (i:=2) sc.nd rfl (.inl rfl) (b3 hu1 (a7 0 (pv 0)) aE))
 (aB (bM (i:=3) sc.nd rfl (.inl rfl) (b3 hu1 (a7 0 (pv 0)) aE))
 (aF (aX (d8 (aA (aR e7 (aR aV (b3 hu1 (a7 1 (pv 1)) aE) (a7 2 (pv 2))) (aR aV (b3 hu1 (a7 1 (pv 1)) aE) (a7 3 (pv 3)))) (aA (aR c7 (aR aV (b3 hu1 (a7 1 (pv 1)) aE) (a7 2 (pv 2))) (aR aV (b3 hu1 (a7 1 (pv 1)) aE) (a7 3 (pv 3)))) aG)))))))
noncomputable abbrev eU(bY:Fn):bV:=
 (aN (g4 (zW (fN (fD (qC "tuple" (a8 0)))) (aZ (aL sZ (i4 fC (a9 (a8 0) aI)) (eC (.int 3))))) (bK (eC (.bl aj))) bD)
 (bK (i4 Ek (a9 (gQ 1 [] (iA (a8 0)) (gN 0) fZ (aQ bY (a9 (a8 0) aI))) aI))))
theorem mF(P:aq)(w:bb)(mg:az->Option ac)(base:ca)(m:At K mg "has_three_wholes" "has_three_wholes" (top 16) ["direction"])(aP:mg "isinstance" = ap)(eK:mg "tuple" = ap)(bL:mg "len" = ap)(DX:mg "all" = ap)(eW:Def P w K mg base 1 "is_whole" ["thing"] (low K bY))(iD:MonoF bY)(len:∀ds Q,sp ds Q->ds.length=1)(hsp:∀ds Q,sp ds Q->eU bY ↥Q (aJ ["direction"] ds)):Def P w K mg base 2 "has_three_wholes" ["direction"] (low K sp):=by
 have sc:FnScope ["direction"] ["direction"] (aH (top 16)):=by norm_cast
 refine m.okP (k:=1) (t:=eU bY) sc (λf cdv A outer s H E hr=>?_) len hsp
 ·
  have hu:=hr.units;exact(aB (cV (QW.qt (kF (cU (cP (o3 (.inr (.inr (.inl rfl))) rfl aP (a7 0 (pv 0)) (gX (v:=.ty "tuple") rfl eK uu rfl)))) (n5 (b6 (i3 hu) (bI dB rfl bL fz (aA (a7 0 (pv 0)) aG)) aE)))) (aF (aX gW)) b7)
 (aF (aX (bI (L0 rfl) rfl DX boot_all (aA (AD ["part"] [] [] rfl (dX (a7 0 (pv 0))) (λfp s H=>(i8 (i:=0) (k:=1) (show kz (["part"]:List az) by decide +kernel) rfl (.inl rfl))) (λfp s H=>jV) (λfp s H=>(aU eW iD (hr.mono ∅) (aA (a7 0 (pv 0)) aG)))) aG)))))
noncomputable abbrev fG:bV:=
 (bK (mO (aL HE (i4 yF (a9 (aL cA (a8 0) (eC (.int 0))) aI)) (eC (.int 999999999999))) (aL HE (i4 yF (a9 (aL cA (a8 0) (eC (.int 1))) aI)) (eC (.int 999999999999)))))
theorem nH(P:aq)(w:bb)(mg:az->Option ac)(base:ca)(m:At K mg "has_few_figures" "has_few_figures" (top 17) ["direction"])(mK:mg "abs" = ap)(fF:∃t,mg "LARGEST_PART" = aa (.int 999999999999 t))(len:∀ds Q,sp ds Q->ds.length=1)(hsp:∀ds Q,sp ds Q->fG  ↥Q (aJ ["direction"] ds)):Def P w K mg base 1 "has_few_figures" ["direction"] (low K sp):=by
 have sc:FnScope ["direction"] ["direction"] (aH (top 17)):=by norm_cast
 refine m.okP (k:=0) (t:=fG ) sc (λf cdv A outer s H E hr=>?_) len hsp
 ·
  have hu1:=dA hr;exact(aF (aX (rC (iB pC (bI wK rfl mK Py (aA (b3 hu1 (a7 0 (pv 0)) aE) aG)) (o4 fF)) (pR (iB pC (bI wK rfl mK Py (aA (b3 hu1 (a7 0 (pv 0)) aE) aG)) (o4 fF))))))
noncomputable abbrev kP:bV:=
 (bK (IF (aL Jw (aL cA (a8 0) (eC (.int 1))) (eC (.int 0))) (mO (aL oB (aL cA (a8 0) (eC (.int 1))) (eC (.int 0))) (aL Jw (aL cA (a8 0) (eC (.int 0))) (eC (.int 0))))))
theorem vZ(P:aq)(w:bb)(mg:az->Option ac)(base:ca)(m:At K mg "points_up" "points_up" (top 18) ["direction"])(len:∀ds Q,sp ds Q->ds.length=1)(hsp:∀ds Q,sp ds Q->kP  ↥Q (aJ ["direction"] ds)):Def P w K mg base 1 "points_up" ["direction"] (low K sp):=by
 have sc:FnScope ["direction"] ["direction"] (aH (top 18)):=by norm_cast
 refine m.okP (k:=0) (t:=kP ) sc (λf cdv A outer s H E hr=>?_) len hsp
 ·
  have hu:=hr.units;have hu1:=dA hr;exact(aF (aX (Ng (iB rM (b3 hu1 (a7 0 (pv 0)) aE) aE) (pR (rC (iB (eA hu) (b3 hu1 (a7 0 (pv 0)) aE) aE) (pR (iB rM (b3 hu1 (a7 0 (pv 0)) aE) aE)))))))
noncomputable abbrev kQ:bV:=
 (bK (aL Jw (aL gY (aL cG (aL cA (a8 1) (eC (.int 0))) (aL cA (a8 0) (eC (.int 1)))) (aL cG (aL cA (a8 0) (eC (.int 0))) (aL cA (a8 1) (eC (.int 1))))) (eC (.int 0))))
theorem w5(P:aq)(w:bb)(mg:az->Option ac)(base:ca)(m:At K mg "lies_left" "lies_left" (top 19) ["direction", "ahead"])(len:∀ds Q,sp ds Q->ds.length=2)(hsp:∀ds Q,sp ds Q->kQ  ↥Q (aJ ["direction", "ahead"] ds)):Def P w K mg base 1 "lies_left" ["direction", "ahead"] (low K sp):=by
 have sc:FnScope ["direction", "ahead"] ["direction", "ahead"] (aH (top 19)):=by norm_cast
 refine m.okP (k:=0) (t:=kQ ) sc (λf cdv A outer s H E hr=>?_) len hsp
 ·
  have hu1:=dA hr;exact(aF (aX (iB rM (aR e7 (aR aV (b3 hu1 (a7 1 (pv 1)) aE) (b3 hu1 (a7 0 (pv 0)) aE)) (aR aV (b3 hu1 (a7 0 (pv 0)) aE) (b3 hu1 (a7 1 (pv 1)) aE))) aE)))
noncomputable abbrev fH(c9 cE fB:Fn):bV:=
 (aN (g4 (fN (fD (aQ c9 (a9 (a8 0) aI)))) gO bD)
 (aN (g4 (fN (fD (aQ cE (a9 (a8 0) aI)))) gO bD)
 (aN (g4 (fN (fD (aQ fB (a9 (a8 0) aI)))) gO bD)
 (g4 (aZ (aL Ip (aL cA (a8 0) (eC (.int 2))) (eC (.int 1)))) gO bD))))
theorem nI(P:aq)(w:bb)(mg:az->Option ac)(base:ca){c9 cE fB:Fn}(m:At K mg "check_direction" "check_direction" (top 20) ["direction"])(eX:Def P w K mg base 2 "has_three_wholes" ["direction"] (low K c9))(mC:MonoF c9)(fO:Def P w K mg base 1 "has_few_figures" ["direction"] (low K cE))(nE:MonoF cE)(lA:Def P w K mg base 1 "points_up" ["direction"] (low K fB))(vG:MonoF fB)(len:∀ds Q,sp ds Q->ds.length=1)(hsp:∀ds Q,sp ds Q->fH c9 cE fB ↥Q (aJ ["direction"] ds)):Def P w K mg base 3 "check_direction" ["direction"] (low K sp):=by
 have sc:FnScope ["direction"] ["direction"] (aH (top 20)):=by norm_cast
 refine m.okP (k:=2) (t:=fH c9 cE fB) sc (λf cdv A outer s H E hr=>?_) len hsp
 ·
  have hu1:=dA hr;exact(aB (cV (cU (cP (aU eX mC (hr.mono ∅) (aA (a7 0 (pv 0)) aG)))) (aF gU) b7)
 (aB (cV (cU (cP (aU fO nE (hr.mono ∅) (aA (a7 0 (pv 0)) aG)))) (aF gU) b7)
 (aB (cV (cU (cP (aU lA vG (hr.mono ∅) (aA (a7 0 (pv 0)) aG)))) (aF gU) b7)
 (aF (cV (b6 nA (b3 hu1 (a7 0 (pv 0)) aE) aE) (aF gU) b7)))))
noncomputable abbrev gL(bE cL:Fn):bV:=
 (xK (aQ bE (a9 (a8 1) aI)))
noncomputable abbrev eI(bE cL:Fn):bV:=
 (g4 (fN (fD (aQ cL (a9 (a8 1) (a9 (a8 2) aI))))) gO bD)
noncomputable abbrev eV(bE cL:Fn):bV:=
 (aN (g4 (fN (fD (qC "list" (a8 0)))) gO bD)
 (aN (g4 (fN (aZ (pJ HE HE (eC (.int 2)) (i4 fC (a9 (a8 0) aI)) (eC (.int 6))))) gO bD)
 (aN (g7 (iA (a8 0)) (gN 1) (gL bE cL))
 (aN (g4 (aZ (aL Jw (i4 EQ (a9 (gQ 1 [] (iA (a8 0)) (gN 0) fZ (aL cA (a8 0) (eC (.int 2)))) aI)) (eC (.int 12)))) gO bD)
 (g7 (Bo (a9 (a8 0) (a9 (LC (a8 0) (uD (eC (.int 1))) lV) aI))) (gT [2,1]) (eI bE cL))))))
theorem mG(P:aq)(w:bb)(mg:az->Option ac)(base:ca){bE cL:Fn}(m:At K mg "check_directions" "check_directions" (top 21) ["directions"])(aP:mg "isinstance" = ap)(iN:mg "list" = ap)(bL:mg "len" = ap)(DW:mg "sum" = ap)(DV:mg "zip" = ap)(eR:∃t,mg "FEWEST_DIRECTIONS" = aa (.int 2 t))(fE:∃t,mg "MOST_DIRECTIONS" = aa (.int 6 t))(jK:∃t,mg "MOST_BANDS" = aa (.int 12 t))(fQ:Def P w K mg base 3 "check_direction" ["direction"] (low K bE))(nF:MonoF bE)(lB:Def P w K mg base 1 "lies_left" ["direction", "ahead"] (low K cL))(vH:MonoF cL)(len:∀ds Q,sp ds Q->ds.length=1)(hsp:∀ds Q,sp ds Q->eV bE cL ↥Q (aJ ["directions", "direction", "ahead"] ds)):Def P w K mg base 4 "check_directions" ["directions"] (low K sp):=by
 have sc:FnScope ["directions", "direction", "ahead"] ["directions"] (aH (top 21)):=by norm_cast
 refine m.okP (k:=3) (t:=eV bE cL) sc (λf cdv A outer s H E hr=>?_) len hsp
 ·
  have hu1:=dA hr;exact(aB (cV (cU (cP (o3 (.inr (.inr (.inr (.inl rfl)))) rfl aP (a7 0 (pv 0)) (gX (v:=.ty "list") rfl iN zl rfl)))) (aF gU) b7)
 (aB (cV (cU (Dx Bd Bd (o4 eR) (bI dB rfl bL fz (aA (a7 0 (pv 0)) aG)) (o4 fE))) (aF gU) b7)
 (aB (dZ bf rfl (dX (a7 0 (pv 0))) (i8 (i:=1) (k:=3) sc.nd rfl (.inl rfl)) (aF (E1 (aU fQ nF (hr.mono ∅) (aA (a7 1 (pv 1)) aG)))))
 (aB (cV (b6 rM (bI (Kz rfl) rfl DW boot_sum (aA (AD ["direction"] [] [] rfl (dX (a7 0 (pv 0))) (λfp s H=>(i8 (i:=0) (k:=1) (show kz (["direction"]:List az) by decide +kernel) rfl (.inl rfl))) (λfp s H=>jV) (λfp s H=>(b3 hu1 (a7 0 (pv 0)) aE))) aG)) (o4 jK)) (aF gU) b7)
 (aF (dZ bf rfl (JS rfl DV (aA (a7 0 (pv 0)) (aA (B5 (a7 0 (pv 0)) (B3 aE) B4) aG))) (p8 (k:=3) (is:=[2,1]) rfl (b8 (bJ (i:=2) sc.nd rfl (.inl rfl)) (b8 (bJ (i:=1) sc.nd rfl (.inl rfl)) eM))) (aF (cV (cU (cP (aU lB vH (hr.mono ∅) (aA (a7 1 (pv 1)) (aA (a7 2 (pv 2)) aG))))) (aF gU) b7))))))))
noncomputable abbrev oM(C:ae)(bR:Fn):bV:=
 (CK 2 (aL cG (jD (a9 (a8 3) aI)) (aL cA (a8 4) (eC (.int 2)))))
noncomputable abbrev A1(C:ae)(bR:Fn):bV:=
 (aN (xK (aQ bR (a9 (a8 1) aI)))
 (aN (hV 2 (jD aI))
 (aN (g7 (vT (a9 (a8 1) aI)) (gT [3,4]) (oM C bR))
 (aN (rA C 0 "kinds" (i4 n9 (a9 (a8 2) aI)))
 (rA C 0 "vectors" (i4 n9 (a9 (gQ 1 [] (iA (a8 1)) (gN 0) fZ (e9 (a9 (aL cA (a8 0) (eC (.int 0))) (a9 (aL cA (a8 0) (eC (.int 1))) aI)))) aI)))))))
theorem IK(P:aq)(w:bb)(mg:az->Option ac)(base:ca){bR:Fn}(m:IAt K mg "Sides" C "Sides.__init__" (d7 (top 22) 0) ["self", "directions"])(kL:mg "enumerate" = ap)(eK:mg "tuple" = ap)(cl:Cls K C)(eT:fW K C "kinds")(h9:fW K C "vectors")(eY:Def P w K mg base 4 "check_directions" ["directions"] (low K bR))(mD:MonoF bR)(len:∀ds Q,sp ds Q->ds.length+1=2)(hsp:∀ds Q,sp ds Q -> ∀a,A1 C bR { nx:=λρ=>∃d,ρ[0]?=aa (.own a d)/\Q (.nw d),rt:=λ_=>False } (gM C a ["self", "directions", "kinds", "number", "direction"] ds)):IDef P w K mg base 5 "Sides" C ["self", "directions"] sp:=by
 have sc:FnScope ["self", "directions", "kinds", "number", "direction"] ["self", "directions"] (aH (d7 (top 22) 0)):=by norm_cast
 refine m.okP (k:=4) (t:=A1 C bR) sc (λf cdv A outer s H E hr=>?_) len hsp
 ·
  have hu1:=dA hr;exact(aB (E1 (aU eY mD (hr.mono ∅) (aA (a7 1 (pv 1)) aG)))
 (aB (gP (i:=2) sc.nd rfl (.inl rfl) (hX aG))
 (aB (dZ bf rfl (Ge rfl kL (aA (a7 1 (pv 1)) aG)) (p8 (k:=5) (is:=[3,4]) rfl (b8 (bJ (i:=3) sc.nd rfl (.inl rfl)) (b8 (bJ (i:=4) sc.nd rfl (.inl rfl)) eM))) (aF (Lh (i:=2) (pv 2) (aR aV (hX (aA (a7 3 (pv 3)) aG)) (b3 hu1 (a7 4 (pv 4)) aE)))))
 (aB (E3 (i:=0) cl eT (pv 0) (o5 zN rfl eK uu (aA (a7 2 (pv 2)) aG)))
 (aF (E3 (i:=0) cl h9 (pv 0) (o5 zN rfl eK uu (aA (AD ["direction"] [] [] rfl (dX (a7 1 (pv 1))) (λfp s H=>(i8 (i:=0) (k:=1) (show kz (["direction"]:List az) by decide +kernel) rfl (.inl rfl))) (λfp s H=>jV) (λfp s H=>(d8 (aA (b3 hu1 (a7 0 (pv 0)) aE) (aA (b3 hu1 (a7 0 (pv 0)) aE) aG))))) aG))))))))
noncomputable abbrev zZ(C:ae):bV:=
 (bK (i4 fC (a9 (Ah C "kinds" (a8 0)) aI)))
theorem II(P:aq)(w:bb)(mg:az->Option ac)(base:ca)(m:MAt K C "many" "Sides.many" (d7 (top 22) 1) ["self"])(bL:mg "len" = ap)(cl:Cls K C)(eT:fW K C "kinds")(len:∀ds Q,sp ds Q->ds.length=1)(hsp:∀ds Q,sp ds Q->zZ C  ↥Q (aJ ["self"] ds)):MDef P w K mg base 1 C "many" ["self"] (low K sp):=by
 have sc:FnScope ["self"] ["self"] (aH (d7 (top 22) 1)):=by norm_cast
 refine m.okP (k:=0) (t:=zZ C ) sc (λf cdv A outer s H E hr=>?_) len hsp
 ·
  exact(aF (aX (bI dB rfl bL fz (aA (B7 cl eT (a7 0 (pv 0))) aG))))
noncomputable abbrev A0(C:ae):bV:=
 (bK (aL cA (Ah C "kinds" (a8 0)) (a8 1)))
theorem IJ(P:aq)(w:bb)(mg:az->Option ac)(base:ca)(m:MAt K C "kind" "Sides.kind" (d7 (top 22) 2) ["self", "band"])(cl:Cls K C)(eT:fW K C "kinds")(len:∀ds Q,sp ds Q->ds.length=2)(hsp:∀ds Q,sp ds Q->A0 C  ↥Q (aJ ["self", "band"] ds)):MDef P w K mg base 1 C "kind" ["self", "band"] (low K sp):=by
 have sc:FnScope ["self", "band"] ["self", "band"] (aH (d7 (top 22) 2)):=by norm_cast
 refine m.okP (k:=0) (t:=A0 C ) sc (λf cdv A outer s H E hr=>?_) len hsp
 ·
  have hu1:=dA hr;exact(aF (aX (b3 hu1 (B7 cl eT (a7 0 (pv 0))) (a7 1 (pv 1)))))
noncomputable abbrev qU(C:ae):bV:=
 (bK (aL cA (Ah C "vectors" (a8 0)) (aL cA (Ah C "kinds" (a8 0)) (a8 1))))
theorem DH(P:aq)(w:bb)(mg:az->Option ac)(base:ca)(m:MAt K C "vector" "Sides.vector" (d7 (top 22) 3) ["self", "band"])(cl:Cls K C)(h9:fW K C "vectors")(eT:fW K C "kinds")(len:∀ds Q,sp ds Q->ds.length=2)(hsp:∀ds Q,sp ds Q->qU C  ↥Q (aJ ["self", "band"] ds)):MDef P w K mg base 1 C "vector" ["self", "band"] (low K sp):=by
 have sc:FnScope ["self", "band"] ["self", "band"] (aH (d7 (top 22) 3)):=by norm_cast
 refine m.okP (k:=0) (t:=qU C ) sc (λf cdv A outer s H E hr=>?_) len hsp
 ·
  have hu1:=dA hr;exact(aF (aX (b3 hu1 (B7 cl h9 (a7 0 (pv 0))) (b3 hu1 (B7 cl eT (a7 0 (pv 0))) (a7 1 (pv 1))))))
noncomputable abbrev uM(C:ae)(bZ dL:Fn):bV:=
 (g4 (aZ (aL sZ (eQ C "kind" dL (a8 0) (a9 (a8 2) aI)) (eQ C "kind" dL (a8 0) (a9 (a8 3) aI)))) (qA 1 (e9 (a9 (a8 2) (a9 (a8 3) aI)))) bD)
noncomputable abbrev jG(C:ae)(bZ dL:Fn):bV:=
 (g7 (oE (a9 (aL dQ (a8 2) (eC (.int 1))) (a9 (eQ C "many" bZ (a8 0) aI) aI))) (gN 3) (uM C bZ dL))
noncomputable abbrev uT(C:ae)(bZ dL:Fn):bV:=
 (aN (hV 1 (jD aI))
 (aN (g7 (eO (a9 (eQ C "many" bZ (a8 0) aI) aI)) (gN 2) (jG C bZ dL))
 (bK (a8 1))))
theorem G4(P:aq)(w:bb)(mg:az->Option ac)(base:ca)(m:MAt K C "pairs" "Sides.pairs" (d7 (top 22) 4) ["self"])(bH:mg "range" = ap)(cl:Cls K C)(i5:MDef P w K mg base 1 C "many" ["self"] (low K bZ))(fJ:MonoF bZ)(lG:MDef P w K mg base 1 C "kind" ["self", "band"] (low K dL))(iC:MonoF dL)(len:∀ds Q,sp ds Q->ds.length=1)(hsp:∀ds Q,sp ds Q->uT C bZ dL ↥Q (aJ ["self", "found", "a", "b"] ds)):MDef P w K mg base 2 C "pairs" ["self"] (low K sp):=by
 have sc:FnScope ["self", "found", "a", "b"] ["self"] (aH (d7 (top 22) 4)):=by norm_cast
 refine m.okP (k:=1) (t:=uT C bZ dL) sc (λf cdv A outer s H E hr=>?_) len hsp
 ·
  have hu:=hr.units;exact(aB (gP (i:=1) sc.nd rfl (.inl rfl) (hX aG))
 (aB (dZ bf rfl (eL rfl bH (aA (lQ cl i5 fJ (hr.mono ∅) (a7 0 (pv 0))) aG)) (i8 (i:=2) (k:=4) sc.nd rfl (.inl rfl)) (aF (dZ bf rfl (tX rfl bH (aA (aR c7 (a7 2 (pv 2)) aE) (aA (lQ cl i5 fJ (hr.mono ∅) (a7 0 (pv 0))) aG))) (i8 (i:=3) (k:=4) sc.nd rfl (.inl rfl)) (aF (cV (b6 (i3 hu) (l4 cl lG iC (hr.mono ∅) (a7 0 (pv 0)) (aA (a7 2 (pv 2)) aG)) (l4 cl lG iC (hr.mono ∅) (a7 0 (pv 0)) (aA (a7 3 (pv 3)) aG))) (aF (rB (i:=1) (pv 1) (d8 (aA (a7 2 (pv 2)) (aA (a7 3 (pv 3)) aG))))) b7)))))
 (aF (aX (a7 1 (pv 1))))))
noncomputable abbrev kG(C:ae)(fR iI eD:Fn):bV:=
 (aN (bQ 5 (J6 (aZ (aL DS (a8 3) (a8 1))) (aQ fR (a9 (eQ C "vector" eD (a8 0) (a9 (a8 3) aI)) (a9 (a8 2) aI))) (eQ C "vector" eD (a8 0) (a9 (a8 3) aI))))
 (aN (bQ 6 (J6 (aZ (aL DS (a8 4) (a8 1))) (aQ fR (a9 (eQ C "vector" eD (a8 0) (a9 (a8 4) aI)) (a9 (a8 2) aI))) (eQ C "vector" eD (a8 0) (a9 (a8 4) aI))))
 (g4 (aZ (aL HE (aL gY (aL cG (aL cA (a8 5) (eC (.int 0))) (aL cA (a8 6) (eC (.int 1)))) (aL cG (aL cA (a8 6) (eC (.int 0))) (aL cA (a8 5) (eC (.int 1))))) (eC (.int 0)))) (bK (eC (.bl aj))) bD)))
noncomputable abbrev iS(C:ae)(fR iI eD:Fn):bV:=
 (aN (g7 (iA (eQ C "pairs" iI (a8 0) aI)) (gT [3,4]) (kG C fR iI eD))
 (bK (eC (.bl ah))))
theorem sQ(P:aq)(w:bb)(mg:az->Option ac)(base:ca){fR iI eD:Fn}(m:At K mg "keeps_tiles" "keeps_tiles" (top 9) ["sides", "some", "turn"])(cl:Cls K C)(oK:Def P w K mg base 1 "turned" ["vector", "turn"] (low K fR))(u6:MonoF fR)(wI:MDef P w K mg base 2 C "pairs" ["self"] (low K iI))(rP:MonoF iI)(jE:MDef P w K mg base 1 C "vector" ["self", "band"] (low K eD))(lT:MonoF eD)(len:∀ds Q,sp ds Q->ds.length=3)(hsp:∀ds Q,sp ds Q->iS C fR iI eD ↥Q (aJ ["sides", "some", "turn", "a", "b", "one", "other"] ds)):Def P w K mg base 3 "keeps_tiles" ["sides", "some", "turn"] (low K sp):=by
 have sc:FnScope ["sides", "some", "turn", "a", "b", "one", "other"] ["sides", "some", "turn"] (aH (top 9)):=by norm_cast
 refine m.okP (k:=2) (t:=iS C fR iI eD) sc (λf cdv A outer s H E hr=>?_) len hsp
 ·
  have hu1:=dA hr;have hu65:=uQ hr;exact(aB (dZ bf rfl (dX (lQ cl wI rP (hr.mono ∅) (a7 0 (pv 0)))) (p8 (k:=7) (is:=[3,4]) rfl (b8 (bJ (i:=3) sc.nd rfl (.inl rfl)) (b8 (bJ (i:=4) sc.nd rfl (.inl rfl)) eM))) (aB (bM (i:=5) sc.nd rfl (.inl rfl) (v5 (b6 (vE hu65 hu1) (a7 3 (pv 3)) (a7 1 (pv 1))) (aU oK u6 (hr.mono ∅) (aA (l4 cl jE lT (hr.mono ∅) (a7 0 (pv 0)) (aA (a7 3 (pv 3)) aG)) (aA (a7 2 (pv 2)) aG))) (l4 cl jE lT (hr.mono ∅) (a7 0 (pv 0)) (aA (a7 3 (pv 3)) aG))))
 (aB (bM (i:=6) sc.nd rfl (.inl rfl) (v5 (b6 (vE hu65 hu1) (a7 4 (pv 4)) (a7 1 (pv 1))) (aU oK u6 (hr.mono ∅) (aA (l4 cl jE lT (hr.mono ∅) (a7 0 (pv 0)) (aA (a7 4 (pv 4)) aG)) (aA (a7 2 (pv 2)) aG))) (l4 cl jE lT (hr.mono ∅) (a7 0 (pv 0)) (aA (a7 4 (pv 4)) aG))))
 (aF (cV (b6 pC (aR e7 (aR aV (b3 hu1 (a7 5 (pv 5)) aE) (b3 hu1 (a7 6 (pv 6)) aE)) (aR aV (b3 hu1 (a7 6 (pv 6)) aE) (b3 hu1 (a7 5 (pv 5)) aE))) aE) (aF (aX gW)) b7)))))
 (aF (aX gW)))
noncomputable abbrev wQ(cN:Fn):bV:=
 (aN (bQ 2 (aL cG (eC (.int 2)) (a8 2)))
 (bQ 3 (e9 (a9 (aL gY (aL cG (a8 2) (a8 2)) (eC (.int 1))) (a9 (aL cG (eC (.int 2)) (a8 2)) (a9 (aL dQ (aL cG (a8 2) (a8 2)) (eC (.int 1))) aI))))))
noncomputable abbrev mR(cN:Fn):bV:=
 (aN (bQ 2 (eC (.int 2)))
 (aN (bQ 3 (e9 (a9 (eC (.int 3)) (a9 (eC (.int 4)) (a9 (eC (.int 5)) aI)))))
 (aN (uZ (fN (fD (aQ cN (a9 (a8 0) (a9 (a8 1) (a9 (a8 3) aI)))))) (wQ cN))
 (bK (a8 3)))))
theorem zB(P:aq)(w:bb)(mg:az->Option ac)(base:ca){cN:Fn}(m:At K mg "turn_for" "turn_for" (top 10) ["sides", "some"])(iW:Def P w K mg base 3 "keeps_tiles" ["sides", "some", "turn"] (low K cN))(rS:MonoF cN)(len:∀ds Q,sp ds Q->ds.length=2)(hsp:∀ds Q,sp ds Q->mR cN ↥Q (aJ ["sides", "some", "m", "turn"] ds)):Def P w K mg base 4 "turn_for" ["sides", "some"] (low K sp):=by
 have sc:FnScope ["sides", "some", "m", "turn"] ["sides", "some"] (aH (top 10)):=by norm_cast
 refine m.okP (k:=3) (t:=mR cN) sc (λf cdv A outer s H E hr=>?_) len hsp
 ·
  exact(aB (bM (i:=2) sc.nd rfl (.inl rfl) aE)
 (aB (bM (i:=3) sc.nd rfl (.inl rfl) (d8 (aA aE (aA aE (aA aE aG)))))
 (aB (v4 bf (cU (cP (aU iW rS (hr.mono ∅) (aA (a7 0 (pv 0)) (aA (a7 1 (pv 1)) (aA (a7 3 (pv 3)) aG)))))) (aB (bM (i:=2) sc.nd rfl (.inl rfl) (aR aV aE (a7 2 (pv 2))))
 (aF (bM (i:=3) sc.nd rfl (.inl rfl) (d8 (aA (aR e7 (aR aV (a7 2 (pv 2)) (a7 2 (pv 2))) aE) (aA (aR aV aE (a7 2 (pv 2))) (aA (aR c7 (aR aV (a7 2 (pv 2)) (a7 2 (pv 2))) aE) aG))))))))
 (aF (aX (a7 3 (pv 3)))))))
noncomputable abbrev oU(C:ae)(bY bZ dL:Fn):bV:=
 (aN (g4 (zW (fN (fD (aQ bY (a9 (a8 1) aI)))) (fN (fD (aQ bY (a9 (a8 2) aI))))) (bK (eC (.bl aj))) bD)
 (bK (mO (qN (λi j=>decide (i<=j)) (λi j=>decide (i<j)) (λi j=>decide (i<j)) (eC (.int 0)) (a8 1) (a8 2) (eQ C "many" bZ (a8 0) aI)) (aL sZ (eQ C "kind" dL (a8 0) (a9 (a8 1) aI)) (eQ C "kind" dL (a8 0) (a9 (a8 2) aI))))))
theorem Ak(P:aq)(w:bb)(mg:az->Option ac)(base:ca)(m:At K mg "is_pair" "is_pair" (top 25) ["sides", "a", "b"])(cl:Cls K C)(eW:Def P w K mg base 1 "is_whole" ["thing"] (low K bY))(iD:MonoF bY)(i5:MDef P w K mg base 1 C "many" ["self"] (low K bZ))(fJ:MonoF bZ)(lG:MDef P w K mg base 1 C "kind" ["self", "band"] (low K dL))(iC:MonoF dL)(len:∀ds Q,sp ds Q->ds.length=3)(hsp:∀ds Q,sp ds Q->oU C bY bZ dL ↥Q (aJ ["sides", "a", "b"] ds)):Def P w K mg base 2 "is_pair" ["sides", "a", "b"] (low K sp):=by
 have sc:FnScope ["sides", "a", "b"] ["sides", "a", "b"] (aH (top 25)):=by norm_cast
 refine m.okP (k:=1) (t:=oU C bY bZ dL) sc (λf cdv A outer s H E hr=>?_) len hsp
 ·
  have hu:=hr.units;exact(aB (cV (QW.qt (kF (cU (cP (aU eW iD (hr.mono ∅) (aA (a7 1 (pv 1)) aG)))) (n5 (cU (cP (aU eW iD (hr.mono ∅) (aA (a7 2 (pv 2)) aG))))))) (aF (aX gW)) b7)
 (aF (aX (rC (E2 Bd Ep Ep aE (a7 1 (pv 1)) (a7 2 (pv 2)) (lQ cl i5 fJ (hr.mono ∅) (a7 0 (pv 0)))) (pR (iB (i3 hu) (l4 cl lG iC (hr.mono ∅) (a7 0 (pv 0)) (aA (a7 1 (pv 1)) aG)) (l4 cl lG iC (hr.mono ∅) (a7 0 (pv 0)) (aA (a7 2 (pv 2)) aG))))))))
noncomputable abbrev oV(hC:Fn):bV:=
 (aN (g4 (zW (fN (fD (qC "tuple" (a8 1)))) (aZ (aL sZ (i4 fC (a9 (a8 1) aI)) (eC (.int 3))))) (bK (eC (.bl aj))) bD)
 (bK (mO (aQ hC (a9 (a8 0) (a9 (aL cA (a8 1) (eC (.int 0))) (a9 (aL cA (a8 1) (eC (.int 1))) aI)))) (IG ["brace", "more", "less"] (aL cA (a8 1) (eC (.int 2)))))))
theorem Al(P:aq)(w:bb)(mg:az->Option ac)(base:ca){hC:Fn}{lZ:ae}(m:At K mg "is_hold" "is_hold" (top 26) ["sides", "thing"])(aP:mg "isinstance" = ap)(eK:mg "tuple" = ap)(bL:mg "len" = ap)(vV:mg "WORDS" = aa (.ref lZ))(qR:Words K lZ ["brace", "more", "less"])(pL:Def P w K mg base 2 "is_pair" ["sides", "a", "b"] (low K hC))(AS:MonoF hC)(len:∀ds Q,sp ds Q->ds.length=2)(hsp:∀ds Q,sp ds Q->oV hC ↥Q (aJ ["sides", "thing"] ds)):Def P w K mg base 3 "is_hold" ["sides", "thing"] (low K sp):=by
 have sc:FnScope ["sides", "thing"] ["sides", "thing"] (aH (top 26)):=by norm_cast
 refine m.okP (k:=2) (t:=oV hC) sc (λf cdv A outer s H E hr=>?_) len hsp
 ·
  have hu:=hr.units;have hu1:=dA hr;exact(aB (cV (QW.qt (kF (cU (cP (o3 (.inr (.inr (.inl rfl))) rfl aP (a7 1 (pv 1)) (gX (v:=.ty "tuple") rfl eK uu rfl)))) (n5 (b6 (i3 hu) (bI dB rfl bL fz (aA (a7 1 (pv 1)) aG)) aE)))) (aF (aX gW)) b7)
 (aF (aX (rC (aU pL AS (hr.mono ∅) (aA (a7 0 (pv 0)) (aA (b3 hu1 (a7 1 (pv 1)) aE) (aA (b3 hu1 (a7 1 (pv 1)) aE) aG)))) (pR (Lg (b3 hu1 (a7 1 (pv 1)) aE) vV qR))))))
noncomputable abbrev mS:bV:=
 (aN (bQ 1 (e9 (a9 (aL cA (a8 0) (eC (.int 0))) (a9 (aL cA (a8 0) (eC (.int 1))) aI))))
 (aN (bQ 2 (e9 (a9 (aL cA (a8 0) (eC (.int 1))) (a9 (aL cA (a8 0) (eC (.int 0))) aI))))
 (aN (g4 (aZ (aL oB (aL cA (a8 0) (eC (.int 2))) (eC (.str "brace")))) (bK (jD (a9 (a8 1) (a9 (a8 2) aI)))) bD)
 (bK (J6 (aZ (aL oB (aL cA (a8 0) (eC (.int 2))) (eC (.str "more")))) (jD (a9 (a8 1) aI)) (jD (a9 (a8 2) aI)))))))
theorem zC(P:aq)(w:bb)(mg:az->Option ac)(base:ca)(m:At K mg "pulls_of" "pulls_of" (top 27) ["hold"])(len:∀ds Q,sp ds Q->ds.length=1)(hsp:∀ds Q,sp ds Q->mS  ↥Q (aJ ["hold", "there", "back"] ds)):Def P w K mg base 1 "pulls_of" ["hold"] (low K sp):=by
 have sc:FnScope ["hold", "there", "back"] ["hold"] (aH (top 27)):=by norm_cast
 refine m.okP (k:=0) (t:=mS ) sc (λf cdv A outer s H E hr=>?_) len hsp
 ·
  have hu:=hr.units;have hu1:=dA hr;exact(aB (bM (i:=1) sc.nd rfl (.inl rfl) (d8 (aA (b3 hu1 (a7 0 (pv 0)) aE) (aA (b3 hu1 (a7 0 (pv 0)) aE) aG))))
 (aB (bM (i:=2) sc.nd rfl (.inl rfl) (d8 (aA (b3 hu1 (a7 0 (pv 0)) aE) (aA (b3 hu1 (a7 0 (pv 0)) aE) aG))))
 (aB (cV (b6 (eA hu) (b3 hu1 (a7 0 (pv 0)) aE) o0) (aF (aX (hX (aA (a7 1 (pv 1)) (aA (a7 2 (pv 2)) aG))))) b7)
 (aF (aX (v5 (b6 (eA hu) (b3 hu1 (a7 0 (pv 0)) aE) o0) (hX (aA (a7 1 (pv 1)) aG)) (hX (aA (a7 2 (pv 2)) aG))))))))
noncomputable abbrev lY(dW d5:Fn):bV:=
 (xJ 2 (a8 4) (eC (.bl ah)))
noncomputable abbrev hG(dW d5:Fn):bV:=
 (aN (g4 (fN (fD (aQ dW (a9 (a8 0) (a9 (a8 3) aI))))) gO bD)
 (g7 (iA (aQ d5 (a9 (a8 3) aI))) (gN 4) (lY dW d5)))
noncomputable abbrev uS(dW d5:Fn):bV:=
 (aN (hV 2 LD)
 (aN (g7 (iA (a8 1)) (gN 3) (hG dW d5))
 (bK (i4 hZ (a9 (a8 2) aI)))))
theorem G3(P:aq)(w:bb)(mg:az->Option ac)(base:ca){dW d5:Fn}(m:At K mg "pulls" "pulls" (top 28) ["sides", "holds"])(j4:mg "sorted" = ap)(pM:Def P w K mg base 3 "is_hold" ["sides", "thing"] (low K dW))(AT:MonoF dW)(nK:Def P w K mg base 1 "pulls_of" ["hold"] (low K d5))(yL:MonoF d5)(len:∀ds Q,sp ds Q->ds.length=2)(hsp:∀ds Q,sp ds Q->uS dW d5 ↥Q (aJ ["sides", "holds", "told", "hold", "pull"] ds)):Def P w K mg base 4 "pulls" ["sides", "holds"] (low K sp):=by
 have sc:FnScope ["sides", "holds", "told", "hold", "pull"] ["sides", "holds"] (aH (top 28)):=by norm_cast
 refine m.okP (k:=3) (t:=uS dW d5) sc (λf cdv A outer s H E hr=>?_) len hsp
 ·
  have hu1:=dA hr;exact(aB (gP (i:=2) sc.nd rfl (.inl rfl) v6)
 (aB (dZ bf rfl (dX (a7 1 (pv 1))) (i8 (i:=3) (k:=5) sc.nd rfl (.inl rfl)) (aB (cV (cU (cP (aU pM AT (hr.mono ∅) (aA (a7 0 (pv 0)) (aA (a7 3 (pv 3)) aG))))) (aF gU) b7)
 (aF (dZ bf rfl (dX (aU nK yL (hr.mono ∅) (aA (a7 3 (pv 3)) aG))) (i8 (i:=4) (k:=5) sc.nd rfl (.inl rfl)) (aF (Dz hu1 (i:=2) (pv 2) (a7 4 (pv 4)) gW))))))
 (aF (aX (bI (Aq rfl) rfl j4 boot_sorted (aA (a7 2 (pv 2)) aG))))))
noncomputable abbrev iK:bV:=
 (g4 (z9 (aZ (aL oB (a8 5) (a8 4))) (aZ (aL o9 (a8 6) (a8 2)))) (aN (r8 2 (a8 6) (a8 4))
 (qA 3 (a8 6))) bD)
noncomputable abbrev zQ:bV:=
 (aN (CJ 3 4)
 (g7 (iA (a8 0)) (gT [5,6]) iK))
noncomputable abbrev oS:bV:=
 (aN (hV 2 (IH (a8 1)))
 (aN (hV 3 (jD (a9 (a8 1) aI)))
 (aN (uZ (fD (a8 3)) zQ)
 (bK (a8 2)))))
theorem Ai(P:aq)(w:bb)(mg:az->Option ac)(base:ca)(m:At K mg "reached" "reached" (top 30) ["arrows", "start"])(len:∀ds Q,sp ds Q->ds.length=2)(hsp:∀ds Q,sp ds Q->oS  ↥Q (aJ ["arrows", "start", "told", "waiting", "band", "x", "y"] ds)):Def P w K mg base 1 "reached" ["arrows", "start"] (low K sp):=by
 have sc:FnScope ["arrows", "start", "told", "waiting", "band", "x", "y"] ["arrows", "start"] (aH (top 30)):=by norm_cast
 refine m.okP (k:=0) (t:=oS ) sc (λf cdv A outer s H E hr=>?_) len hsp
 ·
  have hu:=hr.units;have hu1:=dA hr;exact(aB (gP (i:=2) sc.nd rfl (.inl rfl) (Li (a7 1 (pv 1))))
 (aB (gP (i:=3) sc.nd rfl (.inl rfl) (hX (aA (a7 1 (pv 1)) aG)))
 (aB (v4 bf (cP (a7 3 (pv 3))) (aB (Le (i:=3) (j:=4) (pv 3) sc.nd rfl (.inl rfl))
 (aF (dZ bf rfl (dX (a7 0 (pv 0))) (p8 (k:=7) (is:=[5,6]) rfl (b8 (bJ (i:=5) sc.nd rfl (.inl rfl)) (b8 (bJ (i:=6) sc.nd rfl (.inl rfl)) eM))) (aF (cV (QW.qt (v3 (b6 (eA hu) (a7 5 (pv 5)) (a7 4 (pv 4))) (qG (b6 (AN hu1) (a7 6 (pv 6)) (a7 2 (pv 2)))))) (aB (Dy hu1 (i:=2) (pv 2) (a7 6 (pv 6)) (a7 4 (pv 4)))
 (aF (rB (i:=3) (pv 3) (a7 6 (pv 6))))) b7))))))
 (aF (aX (a7 2 (pv 2)))))))
noncomputable abbrev oO(C:ae)(iH f9 bZ:Fn):bV:=
 (aN (bQ 4 (i4 jA (a9 (aQ f9 (a9 (a8 2) (a9 (a8 3) aI))) aI)))
 (g4 (aZ (aL Ip (i4 fC (a9 (a8 4) aI)) (eQ C "many" bZ (a8 0) aI))) (bK (a8 4)) bD))
noncomputable abbrev A2(C:ae)(iH f9 bZ:Fn):bV:=
 (aN (bQ 2 (aQ iH (a9 (a8 0) (a9 (a8 1) aI))))
 (aN (g7 (eO (a9 (eQ C "many" bZ (a8 0) aI) aI)) (gN 3) (oO C iH f9 bZ))
 (bK (eC .non))))
theorem IL(P:aq)(w:bb)(mg:az->Option ac)(base:ca){iH f9:Fn}(m:At K mg "free" "free" (top 31) ["sides", "holds"])(bH:mg "range" = ap)(j4:mg "sorted" = ap)(bL:mg "len" = ap)(cl:Cls K C)(wH:Def P w K mg base 4 "pulls" ["sides", "holds"] (low K iH))(rO:MonoF iH)(pK:Def P w K mg base 1 "reached" ["arrows", "start"] (low K f9))(nD:MonoF f9)(i5:MDef P w K mg base 1 C "many" ["self"] (low K bZ))(fJ:MonoF bZ)(len:∀ds Q,sp ds Q->ds.length=2)(hsp:∀ds Q,sp ds Q->A2 C iH f9 bZ ↥Q (aJ ["sides", "holds", "arrows", "band", "some"] ds)):Def P w K mg base 5 "free" ["sides", "holds"] (low K sp):=by
 have sc:FnScope ["sides", "holds", "arrows", "band", "some"] ["sides", "holds"] (aH (top 31)):=by norm_cast
 refine m.okP (k:=4) (t:=A2 C iH f9 bZ) sc (λf cdv A outer s H E hr=>?_) len hsp
 ·
  exact(aB (bM (i:=2) sc.nd rfl (.inl rfl) (aU wH rO (hr.mono ∅) (aA (a7 0 (pv 0)) (aA (a7 1 (pv 1)) aG))))
 (aB (dZ bf rfl (eL rfl bH (aA (lQ cl i5 fJ (hr.mono ∅) (a7 0 (pv 0))) aG)) (i8 (i:=3) (k:=5) sc.nd rfl (.inl rfl)) (aB (bM (i:=4) sc.nd rfl (.inl rfl) (bI (zO rfl) rfl j4 boot_sorted (aA (aU pK nD (hr.mono ∅) (aA (a7 2 (pv 2)) (aA (a7 3 (pv 3)) aG))) aG)))
 (aF (cV (b6 nA (bI dB rfl bL fz (aA (a7 4 (pv 4)) aG)) (lQ cl i5 fJ (hr.mono ∅) (a7 0 (pv 0)))) (aF (aX (a7 4 (pv 4)))) b7))))
 (aF (aX Ih))))
noncomputable abbrev iR:bV:=
 (aN (g4 (aZ (aL Ip (a8 1) (i4 fC (a9 (a8 0) aI)))) (bK (aL cA (a8 0) (a8 1))) bD)
 (bK (eC (.int 5))))
theorem sP(P:aq)(w:bb)(mg:az->Option ac)(base:ca)(m:At K mg "_law_cell_at" "_law_cell_at" (top 33) ["_law_script", "_law_k"])(bL:mg "len" = ap)(len:∀ds Q,sp ds Q->ds.length=2)(hsp:∀ds Q,sp ds Q->iR  ↥Q (aJ ["_law_script", "_law_k"] ds)):Def P w K mg base 1 "_law_cell_at" ["_law_script", "_law_k"] (low K sp):=by
 have sc:FnScope ["_law_script", "_law_k"] ["_law_script", "_law_k"] (aH (top 33)):=by norm_cast
 refine m.okP (k:=0) (t:=iR ) sc (λf cdv A outer s H E hr=>?_) len hsp
 ·
  have hu1:=dA hr;exact(aB (cV (b6 nA (a7 1 (pv 1)) (bI dB rfl bL fz (aA (a7 0 (pv 0)) aG))) (aF (aX (b3 hu1 (a7 0 (pv 0)) (a7 1 (pv 1))))) b7)
 (aF (aX aE)))
noncomputable abbrev kR:bV:=
 (bK (mO (qC "int" (a8 0)) (z7 (qC "bool" (a8 0)))))
theorem w9(P:aq)(w:bb)(mg:az->Option ac)(base:ca)(m:At K mg "_law_whole" "_law_whole" (top 34) ["_law_found"])(aP:mg "isinstance" = ap)(tT:mg "int" = ap)(oR:mg "bool" = ap)(len:∀ds Q,sp ds Q->ds.length=1)(hsp:∀ds Q,sp ds Q->kR  ↥Q (aJ ["_law_found"] ds)):Def P w K mg base 1 "_law_whole" ["_law_found"] (low K sp):=by
 have sc:FnScope ["_law_found"] ["_law_found"] (aH (top 34)):=by norm_cast
 refine m.okP (k:=0) (t:=kR ) sc (λf cdv A outer s H E hr=>?_) len hsp
 ·
  exact(aF (aX (rC (o3 (.inl rfl) rfl aP (a7 0 (pv 0)) (gX (v:=.ty "int") rfl tT boot_int rfl)) (pR (Ig (o3 (.inr (.inl rfl)) rfl aP (a7 0 (pv 0)) (gX (v:=.ty "bool") rfl oR boot_bool rfl)))))))
noncomputable abbrev fS(b9:Fn):bV:=
 (g4 (fN (fD (aQ b9 (a9 (a8 1) aI)))) (bK (eC (.bl aj))) bD)
noncomputable abbrev jL(b9:Fn):bV:=
 (aN (g4 (fN (fD (qC "tuple" (a8 0)))) (bK (eC (.bl aj))) bD)
 (aN (g7 (iA (a8 0)) (gN 1) (fS b9))
 (bK (eC (.bl ah)))))
theorem tH(P:aq)(w:bb)(mg:az->Option ac)(base:ca)(m:At K mg "_law_wholes" "_law_wholes" (top 35) ["_law_found"])(aP:mg "isinstance" = ap)(eK:mg "tuple" = ap)(f7:Def P w K mg base 1 "_law_whole" ["_law_found"] (low K b9))(jY:MonoF b9)(len:∀ds Q,sp ds Q->ds.length=1)(hsp:∀ds Q,sp ds Q->jL b9 ↥Q (aJ ["_law_found", "_law_number"] ds)):Def P w K mg base 2 "_law_wholes" ["_law_found"] (low K sp):=by
 have sc:FnScope ["_law_found", "_law_number"] ["_law_found"] (aH (top 35)):=by norm_cast
 refine m.okP (k:=1) (t:=jL b9) sc (λf cdv A outer s H E hr=>?_) len hsp
 ·
  exact(aB (cV (cU (cP (o3 (.inr (.inr (.inl rfl))) rfl aP (a7 0 (pv 0)) (gX (v:=.ty "tuple") rfl eK uu rfl)))) (aF (aX gW)) b7)
 (aB (dZ bf rfl (dX (a7 0 (pv 0))) (i8 (i:=1) (k:=2) sc.nd rfl (.inl rfl)) (aF (cV (cU (cP (aU f7 jY (hr.mono ∅) (aA (a7 1 (pv 1)) aG)))) (aF (aX gW)) b7)))
 (aF (aX gW))))
noncomputable abbrev mU(aS:Fn):bV:=
 (aN (g4 (z9 (aZ (aL oB (a8 1) (eC (.int 0)))) (aZ (aL oB (aL fY (aL fY (aL cG (aQ aS (a9 (a8 0) (a9 (eC (.int 0)) aI))) (eC (.int 48271))) (eC (.int 2147483647))) (eC (.int 4))) (eC (.int 1))))) (bK (eC (.int 12))) bD)
 (bK (a8 2)))
theorem zE(P:aq)(w:bb)(mg:az->Option ac)(base:ca)(m:At K mg "_law_most" "_law_most" (top 36) ["_law_script", "_law_k", "_law_usual"])(cB:Def P w K mg base 1 "_law_cell_at" ["_law_script", "_law_k"] (low K aS))(d9:MonoF aS)(len:∀ds Q,sp ds Q->ds.length=3)(hsp:∀ds Q,sp ds Q->mU aS ↥Q (aJ ["_law_script", "_law_k", "_law_usual"] ds)):Def P w K mg base 2 "_law_most" ["_law_script", "_law_k", "_law_usual"] (low K sp):=by
 have sc:FnScope ["_law_script", "_law_k", "_law_usual"] ["_law_script", "_law_k", "_law_usual"] (aH (top 36)):=by norm_cast
 refine m.okP (k:=1) (t:=mU aS) sc (λf cdv A outer s H E hr=>?_) len hsp
 ·
  have hu:=hr.units;exact(aB (cV (QW.qt (v3 (b6 (eA hu) (a7 1 (pv 1)) aE) (qG (b6 (eA hu) (aR cX (aR cX (aR aV (aU cB d9 (hr.mono ∅) (aA (a7 0 (pv 0)) (aA aE aG))) aE) aE) aE) aE)))) (aF (aX aE)) b7)
 (aF (aX (a7 2 (pv 2)))))
noncomputable abbrev gH:bV:=
 (aN (bQ 6 (aL gY (aL gY (a8 1) (i4 fC (a9 (a8 4) aI))) (aL gY (aL gY (a8 2) (a8 5)) (eC (.int 1)))))
 (aN (bQ 7 (aL dQ (eC (.int 1)) (aL fY (aL fY (aL cG (aL fY (aL cG (aL dQ (a8 0) (aL cG (eC (.int 31)) (a8 5))) (eC (.int 48271))) (eC (.int 2147483647))) (aL dQ (aL cG (a8 5) (a8 5)) (eC (.int 17)))) (eC (.int 99991))) (i4 rJ (a9 (a8 6) (a9 (eC (.int 3)) aI))))))
 (aN (g4 (aZ (aL Jw (a8 3) (eC (.int 1)))) (aN (bQ 7 (aL dQ (eC (.int 1)) (aL fY (a8 3) (a8 6))))
 (bQ 3 (aL kJ (a8 3) (a8 6)))) bD)
 (bQ 4 (aL dQ (a8 4) (aL cG (jD (a9 (a8 5) aI)) (a8 7)))))))
noncomputable abbrev kX:bV:=
 (aN (bQ 2 (aL dQ (eC (.int 2)) (aL fY (a8 0) (eC (.int 5)))))
 (aN (bQ 3 (aL kJ (a8 0) (eC (.int 5))))
 (aN (bQ 4 (jD aI))
 (aN (g7 (eO (a9 (a8 2) aI)) (gN 5) gH)
 (bK (a8 4))))))
theorem wF(P:aq)(w:bb)(mg:az->Option ac)(base:ca)(m:At K mg "_law_bands" "_law_bands" (top 37) ["_law_cell", "_law_most_here"])(bH:mg "range" = ap)(bL:mg "len" = ap)(tS:mg "min" = ap)(len:∀ds Q,sp ds Q->ds.length=2)(hsp:∀ds Q,sp ds Q->kX  ↥Q (aJ ["_law_cell", "_law_most_here", "_law_kinds", "_law_rest", "_law_bands_here", "_law_k", "_law_spare", "_law_count"] ds)):Def P w K mg base 1 "_law_bands" ["_law_cell", "_law_most_here"] (low K sp):=by
 have sc:FnScope ["_law_cell", "_law_most_here", "_law_kinds", "_law_rest", "_law_bands_here", "_law_k", "_law_spare", "_law_count"] ["_law_cell", "_law_most_here"] (aH (top 37)):=by norm_cast
 refine m.okP (k:=0) (t:=kX ) sc (λf cdv A outer s H E hr=>?_) len hsp
 ·
  exact(aB (bM (i:=2) sc.nd rfl (.inl rfl) (aR c7 aE (aR cX (a7 0 (pv 0)) aE)))
 (aB (bM (i:=3) sc.nd rfl (.inl rfl) (aR fI (a7 0 (pv 0)) aE))
 (aB (bM (i:=4) sc.nd rfl (.inl rfl) (hX aG))
 (aB (dZ bf rfl (eL rfl bH (aA (a7 2 (pv 2)) aG)) (i8 (i:=5) (k:=8) sc.nd rfl (.inl rfl)) (aB (bM (i:=6) sc.nd rfl (.inl rfl) (aR e7 (aR e7 (a7 1 (pv 1)) (bI dB rfl bL fz (aA (a7 4 (pv 4)) aG))) (aR e7 (aR e7 (a7 2 (pv 2)) (a7 5 (pv 5))) aE)))
 (aB (bM (i:=7) sc.nd rfl (.inl rfl) (aR c7 aE (aR cX (aR cX (aR aV (aR cX (aR aV (aR c7 (a7 0 (pv 0)) (aR aV aE (a7 5 (pv 5)))) aE) aE) (aR c7 (aR aV (a7 5 (pv 5)) (a7 5 (pv 5))) aE)) aE) (bI (Bz rfl) rfl tS boot_min (aA (a7 6 (pv 6)) (aA aE aG))))))
 (aB (cV (b6 rM (a7 3 (pv 3)) aE) (aB (bM (i:=7) sc.nd rfl (.inl rfl) (aR c7 aE (aR cX (a7 3 (pv 3)) (a7 6 (pv 6)))))
 (aF (bM (i:=3) sc.nd rfl (.inl rfl) (aR fI (a7 3 (pv 3)) (a7 6 (pv 6)))))) b7)
 (aF (bM (i:=4) sc.nd rfl (.inl rfl) (aR c7 (a7 4 (pv 4)) (aR aV (hX (aA (a7 5 (pv 5)) aG)) (a7 7 (pv 7))))))))))
 (aF (aX (a7 4 (pv 4))))))))
noncomputable abbrev mT:bV:=
 (aN (bQ 3 (aL dQ (eC (.int 1)) (aL fY (a8 2) (eC (.int 9)))))
 (aN (bQ 4 (aL fY (aL kJ (a8 2) (eC (.int 9))) (eC (.int 100))))
 (aN (g4 (aZ (aL oB (a8 1) (eC (.int 0)))) (bK (e9 (a9 (aL gY (a8 4) (eC (.int 50))) (a9 (a8 3) aI)))) bD)
 (bK (e9 (a9 (aL gY (aL kJ (aL gY (aL cG (a8 0) (a8 3)) (eC (.int 1))) (a8 1)) (a8 4)) (a9 (a8 3) aI)))))))
theorem zD(P:aq)(w:bb)(mg:az->Option ac)(base:ca)(m:At K mg "_law_next" "_law_next" (top 38) ["_law_x", "_law_y", "_law_rest"])(len:∀ds Q,sp ds Q->ds.length=3)(hsp:∀ds Q,sp ds Q->mT  ↥Q (aJ ["_law_x", "_law_y", "_law_rest", "_law_rise", "_law_side"] ds)):Def P w K mg base 1 "_law_next" ["_law_x", "_law_y", "_law_rest"] (low K sp):=by
 have sc:FnScope ["_law_x", "_law_y", "_law_rest", "_law_rise", "_law_side"] ["_law_x", "_law_y", "_law_rest"] (aH (top 38)):=by norm_cast
 refine m.okP (k:=0) (t:=mT ) sc (λf cdv A outer s H E hr=>?_) len hsp
 ·
  have hu:=hr.units;exact(aB (bM (i:=3) sc.nd rfl (.inl rfl) (aR c7 aE (aR cX (a7 2 (pv 2)) aE)))
 (aB (bM (i:=4) sc.nd rfl (.inl rfl) (aR cX (aR fI (a7 2 (pv 2)) aE) aE))
 (aB (cV (b6 (eA hu) (a7 1 (pv 1)) aE) (aF (aX (d8 (aA (aR e7 (a7 4 (pv 4)) aE) (aA (a7 3 (pv 3)) aG))))) b7)
 (aF (aX (d8 (aA (aR e7 (aR fI (aR e7 (aR aV (a7 0 (pv 0)) (a7 3 (pv 3))) aE) (a7 1 (pv 1))) (a7 4 (pv 4))) (aA (a7 3 (pv 3)) aG))))))))
noncomputable abbrev cR(eF:Fn):bV:=
 (aN (bQ 7 (aL dQ (eC (.int 1)) (aL fY (a8 4) (eC (.int 10)))))
 (aN (qA 5 (e9 (a9 (aL cG (a8 2) (a8 7)) (a9 (aL cG (a8 3) (a8 7)) (a9 (i4 fC (a9 (gQ 1 [6] (iA (a8 0)) (gN 0) (aZ (aL oB (a8 0) (a8 1))) (a8 0)) aI)) aI)))))
 (aN (CL (aQ eF (a9 (a8 2) (a9 (a8 3) (a9 (aL kJ (a8 4) (eC (.int 10))) aI)))) (gT [2,3]))
 (bQ 4 (aL kJ (a8 4) (eC (.int 9000)))))))
noncomputable abbrev g5(eF:Fn):bV:=
 (aN (bQ 2 (aL gY (aL fY (a8 1) (eC (.int 200001))) (eC (.int 100000))))
 (aN (bQ 3 (aL dQ (eC (.int 1)) (aL fY (aL kJ (a8 1) (eC (.int 200001))) (eC (.int 9)))))
 (aN (bQ 4 (aL kJ (a8 1) (eC (.int 1800009))))
 (aN (g4 (aZ (aL oB (aL fY (a8 1) (eC (.int 4))) (eC (.int 0)))) (aN (bQ 2 (aL dQ (eC (.int 1)) (i4 yF (a9 (a8 2) aI))))
 (bQ 3 (eC (.int 0)))) bD)
 (aN (hV 5 (jD aI))
 (aN (g7 (eO (a9 (aL dQ (aL cA (a8 0) (vY (eC (.int 1)))) (eC (.int 1))) aI)) (gN 6) (cR eF))
 (bK (a8 5))))))))
theorem oI(P:aq)(w:bb)(mg:az->Option ac)(base:ca){eF:Fn}(m:At K mg "_law_directions" "_law_directions" (top 39) ["_law_bands_here", "_law_cell"])(mK:mg "abs" = ap)(bH:mg "range" = ap)(bL:mg "len" = ap)(nL:Def P w K mg base 1 "_law_next" ["_law_x", "_law_y", "_law_rest"] (low K eF))(yM:MonoF eF)(len:∀ds Q,sp ds Q->ds.length=2)(hsp:∀ds Q,sp ds Q->g5 eF ↥Q (aJ ["_law_bands_here", "_law_cell", "_law_x", "_law_y", "_law_rest", "_law_made", "_law_k", "_law_times"] ds)):Def P w K mg base 2 "_law_directions" ["_law_bands_here", "_law_cell"] (low K sp):=by
 have sc:FnScope ["_law_bands_here", "_law_cell", "_law_x", "_law_y", "_law_rest", "_law_made", "_law_k", "_law_times"] ["_law_bands_here", "_law_cell"] (aH (top 39)):=by norm_cast
 refine m.okP (k:=1) (t:=g5 eF) sc (λf cdv A outer s H E hr=>?_) len hsp
 ·
  have hu:=hr.units;have hu1:=dA hr;exact(aB (bM (i:=2) sc.nd rfl (.inl rfl) (aR e7 (aR cX (a7 1 (pv 1)) aE) aE))
 (aB (bM (i:=3) sc.nd rfl (.inl rfl) (aR c7 aE (aR cX (aR fI (a7 1 (pv 1)) aE) aE)))
 (aB (bM (i:=4) sc.nd rfl (.inl rfl) (aR fI (a7 1 (pv 1)) aE))
 (aB (cV (b6 (eA hu) (aR cX (a7 1 (pv 1)) aE) aE) (aB (bM (i:=2) sc.nd rfl (.inl rfl) (aR c7 aE (bI wK rfl mK Py (aA (a7 2 (pv 2)) aG))))
 (aF (bM (i:=3) sc.nd rfl (.inl rfl) aE))) b7)
 (aB (gP (i:=5) sc.nd rfl (.inl rfl) (hX aG))
 (aB (dZ bf rfl (eL rfl bH (aA (aR c7 (b3 hu1 (a7 0 (pv 0)) (B6 aE)) aE) aG)) (i8 (i:=6) (k:=8) sc.nd rfl (.inr rfl)) (aB (bM (i:=7) sc.nd rfl (.inl rfl) (aR c7 aE (aR cX (a7 4 (pv 4)) aE)))
 (aB (rB (i:=5) (pv 5) (d8 (aA (aR aV (a7 2 (pv 2)) (a7 7 (pv 7))) (aA (aR aV (a7 3 (pv 3)) (a7 7 (pv 7))) (aA (bI dB rfl bL fz (aA (AD ["_law_band"] ["_law_k"] [6] rfl (dX (a7 0 (pv 0))) (λfp s H=>(i8 (i:=0) (k:=1) (show kz (["_law_band", "_law_k"]:List az) by decide +kernel) rfl (.inl rfl))) (λfp s H=>(Gd (b6 (eA hu) (a7 0 (pv 0)) (a7 1 (pv 1))))) (λfp s H=>(a7 0 (pv 0)))) aG)) aG)))))
 (aB (E4 (aU nL yM (hr.mono ∅) (aA (a7 2 (pv 2)) (aA (a7 3 (pv 3)) (aA (aR fI (a7 4 (pv 4)) aE) aG)))) (p8 (k:=8) (is:=[2,3]) rfl (b8 (bJ (i:=2) sc.nd rfl (.inl rfl)) (b8 (bJ (i:=3) sc.nd rfl (.inl rfl)) eM))))
 (aF (bM (i:=4) sc.nd rfl (.inl rfl) (aR fI (a7 4 (pv 4)) aE)))))))
 (aF (aX (a7 5 (pv 5))))))))))
noncomputable abbrev gG:bV:=
 (g4 (aZ (aL Ip (aL cA (a8 0) (a8 2)) (aL cA (a8 0) (a8 3)))) (qA 1 (e9 (a9 (a8 2) (a9 (a8 3) aI)))) bD)
noncomputable abbrev gF:bV:=
 (g7 (oE (a9 (aL dQ (a8 2) (eC (.int 1))) (a9 (i4 fC (a9 (a8 0) aI)) aI))) (gN 3) gG)
noncomputable abbrev kT:bV:=
 (aN (hV 1 (jD aI))
 (aN (g7 (eO (a9 (i4 fC (a9 (a8 0) aI)) aI)) (gN 2) gF)
 (bK (a8 1))))
theorem wB(P:aq)(w:bb)(mg:az->Option ac)(base:ca)(m:At K mg "_law_pairs" "_law_pairs" (top 40) ["_law_bands_here"])(bL:mg "len" = ap)(bH:mg "range" = ap)(len:∀ds Q,sp ds Q->ds.length=1)(hsp:∀ds Q,sp ds Q->kT  ↥Q (aJ ["_law_bands_here", "_law_found", "_law_a", "_law_b"] ds)):Def P w K mg base 1 "_law_pairs" ["_law_bands_here"] (low K sp):=by
 have sc:FnScope ["_law_bands_here", "_law_found", "_law_a", "_law_b"] ["_law_bands_here"] (aH (top 40)):=by norm_cast
 refine m.okP (k:=0) (t:=kT ) sc (λf cdv A outer s H E hr=>?_) len hsp
 ·
  have hu1:=dA hr;exact(aB (gP (i:=1) sc.nd rfl (.inl rfl) (hX aG))
 (aB (dZ bf rfl (eL rfl bH (aA (bI dB rfl bL fz (aA (a7 0 (pv 0)) aG)) aG)) (i8 (i:=2) (k:=4) sc.nd rfl (.inl rfl)) (aF (dZ bf rfl (tX rfl bH (aA (aR c7 (a7 2 (pv 2)) aE) (aA (bI dB rfl bL fz (aA (a7 0 (pv 0)) aG)) aG))) (i8 (i:=3) (k:=4) sc.nd rfl (.inl rfl)) (aF (cV (b6 nA (b3 hu1 (a7 0 (pv 0)) (a7 2 (pv 2))) (b3 hu1 (a7 0 (pv 0)) (a7 3 (pv 3)))) (aF (rB (i:=1) (pv 1) (d8 (aA (a7 2 (pv 2)) (aA (a7 3 (pv 3)) aG))))) b7)))))
 (aF (aX (a7 1 (pv 1))))))
noncomputable abbrev iX(bA:Fn):bV:=
 (aN (CL (aL cA (a8 2) (aL fY (aL kJ (a8 4) (eC (.int 3))) (i4 fC (a9 (a8 2) aI)))) (gT [6,7]))
 (aN (qA 3 (e9 (a9 (a8 6) (a9 (a8 7) (a9 (aL cA (jD (a9 (eC (.str "brace")) (a9 (eC (.str "more")) (a9 (eC (.str "less")) aI)))) (aL fY (a8 4) (eC (.int 3)))) aI)))))
 (bQ 4 (aL kJ (a8 4) (aL cG (eC (.int 3)) (i4 fC (a9 (a8 2) aI)))))))
noncomputable abbrev kU(bA:Fn):bV:=
 (aN (bQ 2 (aQ bA (a9 (a8 0) aI)))
 (aN (hV 3 (jD aI))
 (aN (bQ 4 (aL kJ (a8 1) (eC (.int 16))))
 (aN (g7 (eO (a9 (aL fY (a8 1) (eC (.int 16))) aI)) (gN 5) (iX bA))
 (bK (a8 3))))))
theorem wC(P:aq)(w:bb)(mg:az->Option ac)(base:ca)(m:At K mg "_law_holds" "_law_holds" (top 41) ["_law_bands_here", "_law_cell"])(bH:mg "range" = ap)(bL:mg "len" = ap)(f8:Def P w K mg base 1 "_law_pairs" ["_law_bands_here"] (low K bA))(jZ:MonoF bA)(len:∀ds Q,sp ds Q->ds.length=2)(hsp:∀ds Q,sp ds Q->kU bA ↥Q (aJ ["_law_bands_here", "_law_cell", "_law_pairs_here", "_law_holds_here", "_law_rest", "_law_k", "_law_a", "_law_b"] ds)):Def P w K mg base 2 "_law_holds" ["_law_bands_here", "_law_cell"] (low K sp):=by
 have sc:FnScope ["_law_bands_here", "_law_cell", "_law_pairs_here", "_law_holds_here", "_law_rest", "_law_k", "_law_a", "_law_b"] ["_law_bands_here", "_law_cell"] (aH (top 41)):=by norm_cast
 refine m.okP (k:=1) (t:=kU bA) sc (λf cdv A outer s H E hr=>?_) len hsp
 ·
  have hu1:=dA hr;exact(aB (bM (i:=2) sc.nd rfl (.inl rfl) (aU f8 jZ (hr.mono ∅) (aA (a7 0 (pv 0)) aG)))
 (aB (gP (i:=3) sc.nd rfl (.inl rfl) (hX aG))
 (aB (bM (i:=4) sc.nd rfl (.inl rfl) (aR fI (a7 1 (pv 1)) aE))
 (aB (dZ bf rfl (eL rfl bH (aA (aR cX (a7 1 (pv 1)) aE) aG)) (i8 (i:=5) (k:=8) sc.nd rfl (.inl rfl)) (aB (E4 (b3 hu1 (a7 2 (pv 2)) (aR cX (aR fI (a7 4 (pv 4)) aE) (bI dB rfl bL fz (aA (a7 2 (pv 2)) aG)))) (p8 (k:=8) (is:=[6,7]) rfl (b8 (bJ (i:=6) sc.nd rfl (.inl rfl)) (b8 (bJ (i:=7) sc.nd rfl (.inl rfl)) eM))))
 (aB (rB (i:=3) (pv 3) (d8 (aA (a7 6 (pv 6)) (aA (a7 7 (pv 7)) (aA (b3 hu1 (hX (aA o0 (aA o0 (aA o0 aG)))) (aR cX (a7 4 (pv 4)) aE)) aG)))))
 (aF (bM (i:=4) sc.nd rfl (.inl rfl) (aR fI (a7 4 (pv 4)) (aR aV aE (bI dB rfl bL fz (aA (a7 2 (pv 2)) aG)))))))))
 (aF (aX (a7 3 (pv 3))))))))
noncomputable abbrev fV:bV:=
 (aN (g4 (aZ (aL sZ (a8 4) (eC (.str "less")))) (qA 1 (e9 (a9 (a8 2) (a9 (a8 3) aI)))) bD)
 (g4 (aZ (aL sZ (a8 4) (eC (.str "more")))) (qA 1 (e9 (a9 (a8 3) (a9 (a8 2) aI)))) bD))
noncomputable abbrev jP:bV:=
 (aN (hV 1 (jD aI))
 (aN (g7 (iA (a8 0)) (gT [2,3,4]) fV)
 (bK (a8 1))))
theorem tL(P:aq)(w:bb)(mg:az->Option ac)(base:ca)(m:At K mg "_law_arrows" "_law_arrows" (top 42) ["_law_holds_here"])(len:∀ds Q,sp ds Q->ds.length=1)(hsp:∀ds Q,sp ds Q->jP  ↥Q (aJ ["_law_holds_here", "_law_arrows_here", "_law_a", "_law_b", "_law_word"] ds)):Def P w K mg base 1 "_law_arrows" ["_law_holds_here"] (low K sp):=by
 have sc:FnScope ["_law_holds_here", "_law_arrows_here", "_law_a", "_law_b", "_law_word"] ["_law_holds_here"] (aH (top 42)):=by norm_cast
 refine m.okP (k:=0) (t:=jP ) sc (λf cdv A outer s H E hr=>?_) len hsp
 ·
  have hu:=hr.units;exact(aB (gP (i:=1) sc.nd rfl (.inl rfl) (hX aG))
 (aB (dZ bf rfl (dX (a7 0 (pv 0))) (p8 (k:=5) (is:=[2,3,4]) rfl (b8 (bJ (i:=2) sc.nd rfl (.inl rfl)) (b8 (bJ (i:=3) sc.nd rfl (.inl rfl)) (b8 (bJ (i:=4) sc.nd rfl (.inl rfl)) eM)))) (aB (cV (b6 (i3 hu) (a7 4 (pv 4)) o0) (aF (rB (i:=1) (pv 1) (d8 (aA (a7 2 (pv 2)) (aA (a7 3 (pv 3)) aG))))) b7)
 (aF (cV (b6 (i3 hu) (a7 4 (pv 4)) o0) (aF (rB (i:=1) (pv 1) (d8 (aA (a7 3 (pv 3)) (aA (a7 2 (pv 2)) aG))))) b7))))
 (aF (aX (a7 1 (pv 1))))))
noncomputable abbrev iM:bV:=
 (g4 (aZ (aL Ee (a8 4) (a8 2))) (r8 2 (a8 5) (eC (.bl ah))) bD)
noncomputable abbrev iL:bV:=
 (g7 (iA (a8 0)) (gT [4,5]) iM)
noncomputable abbrev oT:bV:=
 (aN (hV 2 (Bw ah (eC (.int 0))))
 (aN (g7 (eO (a9 (a8 1) aI)) (gN 3) iL)
 (bK (aL oB (i4 fC (a9 (a8 2) aI)) (a8 1)))))
theorem Aj(P:aq)(w:bb)(mg:az->Option ac)(base:ca)(m:At K mg "_law_led" "_law_led" (top 43) ["_law_arrows_here", "_law_many"])(bH:mg "range" = ap)(bL:mg "len" = ap)(len:∀ds Q,sp ds Q->ds.length=2)(hsp:∀ds Q,sp ds Q->oT  ↥Q (aJ ["_law_arrows_here", "_law_many", "_law_seen", "_law_turn", "_law_one", "_law_other"] ds)):Def P w K mg base 1 "_law_led" ["_law_arrows_here", "_law_many"] (low K sp):=by
 have sc:FnScope ["_law_arrows_here", "_law_many", "_law_seen", "_law_turn", "_law_one", "_law_other"] ["_law_arrows_here", "_law_many"] (aH (top 43)):=by norm_cast
 refine m.okP (k:=0) (t:=oT ) sc (λf cdv A outer s H E hr=>?_) len hsp
 ·
  have hu:=hr.units;have hu1:=dA hr;exact(aB (gP (i:=2) sc.nd rfl (.inl rfl) (JT aE))
 (aB (dZ bf rfl (eL rfl bH (aA (a7 1 (pv 1)) aG)) (i8 (i:=3) (k:=6) sc.nd rfl (.inl rfl)) (aF (dZ bf rfl (dX (a7 0 (pv 0))) (p8 (k:=6) (is:=[4,5]) rfl (b8 (bJ (i:=4) sc.nd rfl (.inl rfl)) (b8 (bJ (i:=5) sc.nd rfl (.inl rfl)) eM))) (aF (cV (b6 (HH hu1) (a7 4 (pv 4)) (a7 2 (pv 2))) (aF (Dy hu1 (i:=2) (pv 2) (a7 5 (pv 5)) gW)) b7)))))
 (aF (aX (iB (eA hu) (bI dB rfl bL fz (aA (a7 2 (pv 2)) aG)) (a7 1 (pv 1)))))))
noncomputable abbrev kS(gA:Fn):bV:=
 (bK (mO (aQ gA (a9 (a8 0) (a9 (a8 1) aI))) (aQ gA (a9 (gQ 2 [] (iA (a8 0)) (gT [0,1]) fZ (e9 (a9 (a8 1) (a9 (a8 0) aI)))) (a9 (a8 1) aI)))))
theorem wA(P:aq)(w:bb)(mg:az->Option ac)(base:ca){gA:Fn}(m:At K mg "_law_stiff" "_law_stiff" (top 44) ["_law_arrows_here", "_law_many"])(lW:Def P w K mg base 1 "_law_led" ["_law_arrows_here", "_law_many"] (low K gA))(rQ:MonoF gA)(len:∀ds Q,sp ds Q->ds.length=2)(hsp:∀ds Q,sp ds Q->kS gA ↥Q (aJ ["_law_arrows_here", "_law_many"] ds)):Def P w K mg base 2 "_law_stiff" ["_law_arrows_here", "_law_many"] (low K sp):=by
 have sc:FnScope ["_law_arrows_here", "_law_many"] ["_law_arrows_here", "_law_many"] (aH (top 44)):=by norm_cast
 refine m.okP (k:=1) (t:=kS gA) sc (λf cdv A outer s H E hr=>?_) len hsp
 ·
  exact(aF (aX (rC (aU lW rQ (hr.mono ∅) (aA (a7 0 (pv 0)) (aA (a7 1 (pv 1)) aG))) (pR (aU lW rQ (hr.mono ∅) (aA (AD ["_law_one", "_law_other"] [] [] rfl (dX (a7 0 (pv 0))) (λfp s H=>(p8 (k:=2) (is:=[0,1]) rfl (b8 (bJ (i:=0) (show kz (["_law_one", "_law_other"]:List az) by decide +kernel) rfl (.inl rfl)) (b8 (bJ (i:=1) (show kz (["_law_one", "_law_other"]:List az) by decide +kernel) rfl (.inl rfl)) eM)))) (λfp s H=>jV) (λfp s H=>(d8 (aA (a7 1 (pv 1)) (aA (a7 0 (pv 0)) aG))))) (aA (a7 1 (pv 1)) aG)))))))
noncomputable abbrev fU(b9:Fn):bV:=
 (aN (g4 (zW (fN (fD (aQ b9 (a9 (a8 4) aI)))) (zW (aZ (aL HE (a8 4) (a8 3))) (aZ (aL N6 (a8 4) (a8 2))))) (bK (eC (.bl aj))) bD)
 (bQ 3 (a8 4)))
noncomputable abbrev fT(b9:Fn):bV:=
 (g4 (z9 (aZ (aL DS (a8 5) (a8 0))) (aZ (aL rH (a8 6) (a8 0)))) (bK (eC (.bl aj))) bD)
noncomputable abbrev jO(b9:Fn):bV:=
 (aN (g4 (zW (fN (fD (qC "list" (a8 0)))) (zW (aZ (aL oB (i4 fC (a9 (a8 0) aI)) (eC (.int 0)))) (aZ (aL N6 (i4 fC (a9 (a8 0) aI)) (a8 2))))) (bK (eC (.bl aj))) bD)
 (aN (bQ 3 (vY (eC (.int 1))))
 (aN (g7 (iA (a8 0)) (gN 4) (fU b9))
 (aN (g7 (iA (a8 1)) (gT [5,6]) (fT b9))
 (bK (eC (.bl ah)))))))
theorem tK(P:aq)(w:bb)(mg:az->Option ac)(base:ca)(m:At K mg "_law_closed" "_law_closed" (top 45) ["_law_some", "_law_arrows_here", "_law_many"])(aP:mg "isinstance" = ap)(iN:mg "list" = ap)(bL:mg "len" = ap)(f7:Def P w K mg base 1 "_law_whole" ["_law_found"] (low K b9))(jY:MonoF b9)(len:∀ds Q,sp ds Q->ds.length=3)(hsp:∀ds Q,sp ds Q->jO b9 ↥Q (aJ ["_law_some", "_law_arrows_here", "_law_many", "_law_last", "_law_band", "_law_one", "_law_other"] ds)):Def P w K mg base 2 "_law_closed" ["_law_some", "_law_arrows_here", "_law_many"] (low K sp):=by
 have sc:FnScope ["_law_some", "_law_arrows_here", "_law_many", "_law_last", "_law_band", "_law_one", "_law_other"] ["_law_some", "_law_arrows_here", "_law_many"] (aH (top 45)):=by norm_cast
 refine m.okP (k:=1) (t:=jO b9) sc (λf cdv A outer s H E hr=>?_) len hsp
 ·
  have hu:=hr.units;have hu1:=dA hr;have hu65:=uQ hr;exact(aB (cV (QW.qt (kF (cU (cP (o3 (.inr (.inr (.inr (.inl rfl)))) rfl aP (a7 0 (pv 0)) (gX (v:=.ty "list") rfl iN zl rfl)))) (kF (b6 (eA hu) (bI dB rfl bL fz (aA (a7 0 (pv 0)) aG)) aE) (n5 (b6 AO (bI dB rfl bL fz (aA (a7 0 (pv 0)) aG)) (a7 2 (pv 2))))))) (aF (aX gW)) b7)
 (aB (bM (i:=3) sc.nd rfl (.inl rfl) (B6 aE))
 (aB (dZ bf rfl (dX (a7 0 (pv 0))) (i8 (i:=4) (k:=7) sc.nd rfl (.inl rfl)) (aB (cV (QW.qt (kF (cU (cP (aU f7 jY (hr.mono ∅) (aA (a7 4 (pv 4)) aG)))) (kF (b6 pC (a7 4 (pv 4)) (a7 3 (pv 3))) (n5 (b6 AO (a7 4 (pv 4)) (a7 2 (pv 2))))))) (aF (aX gW)) b7)
 (aF (bM (i:=3) sc.nd rfl (.inl rfl) (a7 4 (pv 4))))))
 (aB (dZ bf rfl (dX (a7 1 (pv 1))) (p8 (k:=7) (is:=[5,6]) rfl (b8 (bJ (i:=5) sc.nd rfl (.inl rfl)) (b8 (bJ (i:=6) sc.nd rfl (.inl rfl)) eM))) (aF (cV (QW.qt (v3 (b6 (vE hu65 hu1) (a7 5 (pv 5)) (a7 0 (pv 0))) (qG (b6 (Cm hu65 hu1) (a7 6 (pv 6)) (a7 0 (pv 0)))))) (aF (aX gW)) b7)))
 (aF (aX gW))))))
noncomputable abbrev sW:bV:=
 (aN (bQ 2 (aL y8 (a8 0) (a8 1)))
 (aN (bQ 0 (a8 1))
 (bQ 1 (a8 2))))
noncomputable abbrev jN:bV:=
 (aN (uZ (aZ (aL sZ (a8 1) (eC (.int 0)))) sW)
 (bK (i4 yF (a9 (a8 0) aI))))
theorem tJ(P:aq)(w:bb)(mg:az->Option ac)(base:ca)(m:At K mg "_law_common" "_law_common" (top 46) ["_law_one", "_law_other"])(mK:mg "abs" = ap)(len:∀ds Q,sp ds Q->ds.length=2)(hsp:∀ds Q,sp ds Q->jN  ↥Q (aJ ["_law_one", "_law_other", "_law_rest"] ds)):Def P w K mg base 1 "_law_common" ["_law_one", "_law_other"] (low K sp):=by
 have sc:FnScope ["_law_one", "_law_other", "_law_rest"] ["_law_one", "_law_other"] (aH (top 46)):=by norm_cast
 refine m.okP (k:=0) (t:=jN ) sc (λf cdv A outer s H E hr=>?_) len hsp
 ·
  have hu:=hr.units;exact(aB (v4 bf (b6 (i3 hu) (a7 1 (pv 1)) aE) (aB (bM (i:=2) sc.nd rfl (.inl rfl) (aR Em (a7 0 (pv 0)) (a7 1 (pv 1))))
 (aB (bM (i:=0) sc.nd rfl (.inl rfl) (a7 1 (pv 1)))
 (aF (bM (i:=1) sc.nd rfl (.inl rfl) (a7 2 (pv 2)))))))
 (aF (aX (bI wK rfl mK Py (aA (a7 0 (pv 0)) aG)))))
noncomputable abbrev iQ(eP dJ:Fn):bV:=
 (aN (g4 (zW (fN (fD (aQ eP (a9 (a8 0) aI)))) (zW (aZ (aL sZ (i4 fC (a9 (a8 0) aI)) (eC (.int 3)))) (zW (aZ (aL Ip (aL cA (a8 0) (eC (.int 0))) (eC (.int 1)))) (zW (aZ (aL Ip (aL cA (a8 0) (eC (.int 1))) (eC (.int 1)))) (aZ (aL Ip (aL cA (a8 0) (eC (.int 2))) (eC (.int 1)))))))) (bK (eC (.bl aj))) bD)
 (aN (g4 (aZ (aL sZ (aL dQ (aL cG (aL cA (a8 0) (eC (.int 0))) (aL cA (a8 0) (eC (.int 0)))) (aL cG (aL cA (a8 0) (eC (.int 1))) (aL cA (a8 0) (eC (.int 1))))) (aL cG (aL cA (a8 0) (eC (.int 2))) (aL cA (a8 0) (eC (.int 2)))))) (bK (eC (.bl aj))) bD)
 (bK (aL oB (aQ dJ (a9 (aQ dJ (a9 (aL cA (a8 0) (eC (.int 0))) (a9 (aL cA (a8 0) (eC (.int 1))) aI))) (a9 (aL cA (a8 0) (eC (.int 2))) aI))) (eC (.int 1))))))
theorem sO(P:aq)(w:bb)(mg:az->Option ac)(base:ca){eP dJ:Fn}(m:At K mg "_law_is_turn" "_law_is_turn" (top 47) ["_law_turn"])(bL:mg "len" = ap)(k7:Def P w K mg base 2 "_law_wholes" ["_law_found"] (low K eP))(tB:MonoF eP)(h7:Def P w K mg base 1 "_law_common" ["_law_one", "_law_other"] (low K dJ))(mM:MonoF dJ)(len:∀ds Q,sp ds Q->ds.length=1)(hsp:∀ds Q,sp ds Q->iQ eP dJ ↥Q (aJ ["_law_turn"] ds)):Def P w K mg base 3 "_law_is_turn" ["_law_turn"] (low K sp):=by
 have sc:FnScope ["_law_turn"] ["_law_turn"] (aH (top 47)):=by norm_cast
 refine m.okP (k:=2) (t:=iQ eP dJ) sc (λf cdv A outer s H E hr=>?_) len hsp
 ·
  have hu:=hr.units;have hu1:=dA hr;exact(aB (cV (QW.qt (kF (cU (cP (aU k7 tB (hr.mono ∅) (aA (a7 0 (pv 0)) aG)))) (kF (b6 (i3 hu) (bI dB rfl bL fz (aA (a7 0 (pv 0)) aG)) aE) (kF (b6 nA (b3 hu1 (a7 0 (pv 0)) aE) aE) (kF (b6 nA (b3 hu1 (a7 0 (pv 0)) aE) aE) (n5 (b6 nA (b3 hu1 (a7 0 (pv 0)) aE) aE))))))) (aF (aX gW)) b7)
 (aB (cV (b6 (i3 hu) (aR c7 (aR aV (b3 hu1 (a7 0 (pv 0)) aE) (b3 hu1 (a7 0 (pv 0)) aE)) (aR aV (b3 hu1 (a7 0 (pv 0)) aE) (b3 hu1 (a7 0 (pv 0)) aE))) (aR aV (b3 hu1 (a7 0 (pv 0)) aE) (b3 hu1 (a7 0 (pv 0)) aE))) (aF (aX gW)) b7)
 (aF (aX (iB (eA hu) (aU h7 mM (hr.mono ∅) (aA (aU h7 mM (hr.mono ∅) (aA (b3 hu1 (a7 0 (pv 0)) aE) (aA (b3 hu1 (a7 0 (pv 0)) aE) aG))) (aA (b3 hu1 (a7 0 (pv 0)) aE) aG))) aE)))))
noncomputable abbrev jM:bV:=
 (aN (CL (a8 2) (gT [3,4,5]))
 (aN (g4 (fD (a8 1)) (bK (e9 (a9 (aL gY (aL cG (a8 3) (aL cA (a8 0) (eC (.int 0)))) (aL cG (a8 4) (aL cA (a8 0) (eC (.int 1))))) (a9 (aL dQ (aL cG (a8 4) (aL cA (a8 0) (eC (.int 0)))) (aL cG (a8 3) (aL cA (a8 0) (eC (.int 1))))) aI)))) bD)
 (bK (e9 (a9 (aL cG (a8 5) (aL cA (a8 0) (eC (.int 0)))) (a9 (aL cG (a8 5) (aL cA (a8 0) (eC (.int 1)))) aI))))))
theorem tI(P:aq)(w:bb)(mg:az->Option ac)(base:ca)(m:At K mg "_law_vector" "_law_vector" (top 48) ["_law_direction", "_law_inside", "_law_turn"])(len:∀ds Q,sp ds Q->ds.length=3)(hsp:∀ds Q,sp ds Q->jM  ↥Q (aJ ["_law_direction", "_law_inside", "_law_turn", "_law_p", "_law_q", "_law_r"] ds)):Def P w K mg base 1 "_law_vector" ["_law_direction", "_law_inside", "_law_turn"] (low K sp):=by
 have sc:FnScope ["_law_direction", "_law_inside", "_law_turn", "_law_p", "_law_q", "_law_r"] ["_law_direction", "_law_inside", "_law_turn"] (aH (top 48)):=by norm_cast
 refine m.okP (k:=0) (t:=jM ) sc (λf cdv A outer s H E hr=>?_) len hsp
 ·
  have hu1:=dA hr;exact(aB (E4 (a7 2 (pv 2)) (p8 (k:=6) (is:=[3,4,5]) rfl (b8 (bJ (i:=3) sc.nd rfl (.inl rfl)) (b8 (bJ (i:=4) sc.nd rfl (.inl rfl)) (b8 (bJ (i:=5) sc.nd rfl (.inl rfl)) eM)))))
 (aB (cV (cP (a7 1 (pv 1))) (aF (aX (d8 (aA (aR e7 (aR aV (a7 3 (pv 3)) (b3 hu1 (a7 0 (pv 0)) aE)) (aR aV (a7 4 (pv 4)) (b3 hu1 (a7 0 (pv 0)) aE))) (aA (aR c7 (aR aV (a7 4 (pv 4)) (b3 hu1 (a7 0 (pv 0)) aE)) (aR aV (a7 3 (pv 3)) (b3 hu1 (a7 0 (pv 0)) aE))) aG))))) b7)
 (aF (aX (d8 (aA (aR aV (a7 5 (pv 5)) (b3 hu1 (a7 0 (pv 0)) aE)) (aA (aR aV (a7 5 (pv 5)) (b3 hu1 (a7 0 (pv 0)) aE)) aG)))))))
noncomputable abbrev mW:bV:=
 (bK (aL gY (aL cG (aL cA (a8 0) (eC (.int 0))) (aL cA (a8 1) (eC (.int 1)))) (aL cG (aL cA (a8 1) (eC (.int 0))) (aL cA (a8 0) (eC (.int 1))))))
theorem zG(P:aq)(w:bb)(mg:az->Option ac)(base:ca)(m:At K mg "_law_area" "_law_area" (top 49) ["_law_one", "_law_other"])(len:∀ds Q,sp ds Q->ds.length=2)(hsp:∀ds Q,sp ds Q->mW  ↥Q (aJ ["_law_one", "_law_other"] ds)):Def P w K mg base 1 "_law_area" ["_law_one", "_law_other"] (low K sp):=by
 have sc:FnScope ["_law_one", "_law_other"] ["_law_one", "_law_other"] (aH (top 49)):=by norm_cast
 refine m.okP (k:=0) (t:=mW ) sc (λf cdv A outer s H E hr=>?_) len hsp
 ·
  have hu1:=dA hr;exact(aF (aX (aR e7 (aR aV (b3 hu1 (a7 0 (pv 0)) aE) (b3 hu1 (a7 1 (pv 1)) aE)) (aR aV (b3 hu1 (a7 1 (pv 1)) aE) (b3 hu1 (a7 0 (pv 0)) aE)))))
noncomputable abbrev iP:bV:=
 (bK (aL dQ (aL cG (aL cA (a8 0) (eC (.int 0))) (aL cA (a8 1) (eC (.int 0)))) (aL cG (aL cA (a8 0) (eC (.int 1))) (aL cA (a8 1) (eC (.int 1))))))
theorem sN(P:aq)(w:bb)(mg:az->Option ac)(base:ca)(m:At K mg "_law_product" "_law_product" (top 50) ["_law_one", "_law_other"])(len:∀ds Q,sp ds Q->ds.length=2)(hsp:∀ds Q,sp ds Q->iP  ↥Q (aJ ["_law_one", "_law_other"] ds)):Def P w K mg base 1 "_law_product" ["_law_one", "_law_other"] (low K sp):=by
 have sc:FnScope ["_law_one", "_law_other"] ["_law_one", "_law_other"] (aH (top 50)):=by norm_cast
 refine m.okP (k:=0) (t:=iP ) sc (λf cdv A outer s H E hr=>?_) len hsp
 ·
  have hu1:=dA hr;exact(aF (aX (aR c7 (aR aV (b3 hu1 (a7 0 (pv 0)) aE) (b3 hu1 (a7 1 (pv 1)) aE)) (aR aV (b3 hu1 (a7 0 (pv 0)) aE) (b3 hu1 (a7 1 (pv 1)) aE)))))
noncomputable abbrev mV:bV:=
 (aN (g4 (aZ (aL oB (a8 0) (eC (.str "brace")))) (bK (aL oB (a8 1) (a8 2))) bD)
 (aN (g4 (aZ (aL oB (a8 0) (eC (.str "more")))) (bK (aL HE (aL cA (a8 2) (eC (.int 1))) (aL cA (a8 1) (eC (.int 1))))) bD)
 (bK (aL N6 (aL cA (a8 2) (eC (.int 1))) (aL cA (a8 1) (eC (.int 1)))))))
theorem zF(P:aq)(w:bb)(mg:az->Option ac)(base:ca)(m:At K mg "_law_held" "_law_held" (top 51) ["_law_word", "_law_ahead", "_law_behind"])(len:∀ds Q,sp ds Q->ds.length=3)(hsp:∀ds Q,sp ds Q->mV  ↥Q (aJ ["_law_word", "_law_ahead", "_law_behind"] ds)):Def P w K mg base 1 "_law_held" ["_law_word", "_law_ahead", "_law_behind"] (low K sp):=by
 have sc:FnScope ["_law_word", "_law_ahead", "_law_behind"] ["_law_word", "_law_ahead", "_law_behind"] (aH (top 51)):=by norm_cast
 refine m.okP (k:=0) (t:=mV ) sc (λf cdv A outer s H E hr=>?_) len hsp
 ·
  have hu:=hr.units;have hu1:=dA hr;exact(aB (cV (b6 (eA hu) (a7 0 (pv 0)) o0) (aF (aX (iB (eA hu) (a7 1 (pv 1)) (a7 2 (pv 2))))) b7)
 (aB (cV (b6 (eA hu) (a7 0 (pv 0)) o0) (aF (aX (iB pC (b3 hu1 (a7 2 (pv 2)) aE) (b3 hu1 (a7 1 (pv 1)) aE)))) b7)
 (aF (aX (iB AO (b3 hu1 (a7 2 (pv 2)) aE) (b3 hu1 (a7 1 (pv 1)) aE))))))
noncomputable abbrev iZ(cC bA bS cQ d6:Fn):bV:=
 (aN (xJ 8 (e9 (a9 (a8 10) (a9 (a8 11) aI))) (e9 (a9 (aL cG (a8 5) (aQ cQ (a9 (aL cA (a8 6) (a8 10)) (a9 (aL cA (a8 6) (a8 11)) aI)))) (a9 (aL cG (a8 5) (aQ bS (a9 (aL cA (a8 6) (a8 10)) (a9 (aL cA (a8 6) (a8 11)) aI)))) aI))))
 (aN (xJ 9 (e9 (a9 (a8 10) (a9 (a8 11) aI))) (e9 (a9 (aQ cQ (a9 (aL cA (a8 7) (a8 10)) (a9 (aL cA (a8 7) (a8 11)) aI))) (a9 (aQ bS (a9 (aL cA (a8 7) (a8 10)) (a9 (aL cA (a8 7) (a8 11)) aI))) aI))))
 (g4 (aZ (aL HE (aL cA (aL cA (a8 9) (e9 (a9 (a8 10) (a9 (a8 11) aI)))) (eC (.int 0))) (eC (.int 0)))) (bK (eC (.bl aj))) bD)))
noncomputable abbrev iY(cC bA bS cQ d6:Fn):bV:=
 (g4 (fN (fD (aQ d6 (a9 (a8 12) (a9 (aL cA (a8 8) (e9 (a9 (a8 10) (a9 (a8 11) aI)))) (a9 (aL cA (a8 9) (e9 (a9 (a8 10) (a9 (a8 11) aI)))) aI)))))) (bK (eC (.bl aj))) bD)
noncomputable abbrev kW(cC bA bS cQ d6:Fn):bV:=
 (aN (bQ 5 (aL cG (aL cA (a8 4) (eC (.int 2))) (aL cA (a8 4) (eC (.int 2)))))
 (aN (bQ 6 (gQ 1 [1] (iA (a8 0)) (gN 0) fZ (aL cA (a8 1) (a8 0))))
 (aN (bQ 7 (gQ 1 [4,6,3] (eO (a9 (i4 fC (a9 (a8 0) aI)) aI)) (gN 0) fZ (aQ cC (a9 (aL cA (a8 2) (a8 0)) (a9 (aL DS (a8 0) (a8 3)) (a9 (a8 1) aI))))))
 (aN (hV 8 LD)
 (aN (hV 9 LD)
 (aN (g7 (iA (aQ bA (a9 (a8 0) aI))) (gT [10,11]) (iZ cC bA bS cQ d6))
 (aN (g7 (iA (a8 2)) (gT [10,11,12]) (iY cC bA bS cQ d6))
 (bK (aL HD (a8 8) (a8 9))))))))))
theorem wE(P:aq)(w:bb)(mg:az->Option ac)(base:ca){cC bS cQ d6:Fn}(m:At K mg "_law_bends" "_law_bends" (top 52) ["_law_bands_here", "_law_directions_here", "_law_holds_here", "_law_some", "_law_turn"])(bL:mg "len" = ap)(bH:mg "range" = ap)(k8:Def P w K mg base 1 "_law_vector" ["_law_direction", "_law_inside", "_law_turn"] (low K cC))(tD:MonoF cC)(f8:Def P w K mg base 1 "_law_pairs" ["_law_bands_here"] (low K bA))(jZ:MonoF bA)(gE:Def P w K mg base 1 "_law_product" ["_law_one", "_law_other"] (low K bS))(l5:MonoF bS)(kB:Def P w K mg base 1 "_law_area" ["_law_one", "_law_other"] (low K cQ))(pU:MonoF cQ)(nN:Def P w K mg base 1 "_law_held" ["_law_word", "_law_ahead", "_law_behind"] (low K d6))(yO:MonoF d6)(len:∀ds Q,sp ds Q->ds.length=5)(hsp:∀ds Q,sp ds Q->kW cC bA bS cQ d6 ↥Q (aJ ["_law_bands_here", "_law_directions_here", "_law_holds_here", "_law_some", "_law_turn", "_law_square", "_law_old", "_law_new", "_law_ahead", "_law_behind", "_law_a", "_law_b", "_law_word"] ds)):Def P w K mg base 2 "_law_bends" ["_law_bands_here", "_law_directions_here", "_law_holds_here", "_law_some", "_law_turn"] (low K sp):=by
 have sc:FnScope ["_law_bands_here", "_law_directions_here", "_law_holds_here", "_law_some", "_law_turn", "_law_square", "_law_old", "_law_new", "_law_ahead", "_law_behind", "_law_a", "_law_b", "_law_word"] ["_law_bands_here", "_law_directions_here", "_law_holds_here", "_law_some", "_law_turn"] (aH (top 52)):=by norm_cast
 refine m.okP (k:=1) (t:=kW cC bA bS cQ d6) sc (λf cdv A outer s H E hr=>?_) len hsp
 ·
  have hu1:=dA hr;have hu65:=uQ hr;exact(aB (bM (i:=5) sc.nd rfl (.inl rfl) (aR aV (b3 hu1 (a7 4 (pv 4)) aE) (b3 hu1 (a7 4 (pv 4)) aE)))
 (aB (bM (i:=6) sc.nd rfl (.inr rfl) (AD ["_law_kind"] ["_law_directions_here"] [1] rfl (dX (a7 0 (pv 0))) (λfp s H=>(i8 (i:=0) (k:=1) (show kz (["_law_kind", "_law_directions_here"]:List az) by decide +kernel) rfl (.inl rfl))) (λfp s H=>jV) (λfp s H=>(b3 hu1 (a7 1 (pv 1)) (a7 0 (pv 0))))))
 (aB (JQ (Lf (iy:=7) ["_law_band"] ["_law_turn", "_law_old", "_law_some"] [4,6,3] sc.nd rfl (.inl rfl) rfl (eL rfl bH (aA (bI dB rfl bL fz (aA (a7 0 (pv 0)) aG)) aG)) (λfp s H=>(i8 (i:=0) (k:=1) (show kz (["_law_band", "_law_turn", "_law_old", "_law_some"]:List az) by decide +kernel) rfl (.inl rfl))) (λfp s H=>jV) (λfp s H=>(aU k8 tD (hr.mono ∅) (aA (b3 hu1 (a7 2 (pv 2)) (a7 0 (pv 0))) (aA (iB (vE hu65 hu1) (a7 0 (pv 0)) (a7 3 (pv 3))) (aA (a7 1 (pv 1)) aG)))))))
 (aB (gP (i:=8) sc.nd rfl (.inl rfl) v6)
 (aB (gP (i:=9) sc.nd rfl (.inl rfl) v6)
 (aB (dZ bf rfl (dX (aU f8 jZ (hr.mono ∅) (aA (a7 0 (pv 0)) aG))) (p8 (k:=13) (is:=[10,11]) rfl (b8 (bJ (i:=10) sc.nd rfl (.inl rfl)) (b8 (bJ (i:=11) sc.nd rfl (.inl rfl)) eM))) (aB (Dz hu1 (i:=8) (pv 8) (d8 (aA (a7 10 (pv 10)) (aA (a7 11 (pv 11)) aG))) (d8 (aA (aR aV (a7 5 (pv 5)) (aU kB pU (hr.mono ∅) (aA (b3 hu1 (a7 6 (pv 6)) (a7 10 (pv 10))) (aA (b3 hu1 (a7 6 (pv 6)) (a7 11 (pv 11))) aG)))) (aA (aR aV (a7 5 (pv 5)) (aU gE l5 (hr.mono ∅) (aA (b3 hu1 (a7 6 (pv 6)) (a7 10 (pv 10))) (aA (b3 hu1 (a7 6 (pv 6)) (a7 11 (pv 11))) aG)))) aG))))
 (aB (Dz hu1 (i:=9) (pv 9) (d8 (aA (a7 10 (pv 10)) (aA (a7 11 (pv 11)) aG))) (d8 (aA (aU kB pU (hr.mono ∅) (aA (b3 hu1 (a7 7 (pv 7)) (a7 10 (pv 10))) (aA (b3 hu1 (a7 7 (pv 7)) (a7 11 (pv 11))) aG))) (aA (aU gE l5 (hr.mono ∅) (aA (b3 hu1 (a7 7 (pv 7)) (a7 10 (pv 10))) (aA (b3 hu1 (a7 7 (pv 7)) (a7 11 (pv 11))) aG))) aG))))
 (aF (cV (b6 pC (b3 hu1 (b3 hu1 (a7 9 (pv 9)) (d8 (aA (a7 10 (pv 10)) (aA (a7 11 (pv 11)) aG)))) aE) aE) (aF (aX gW)) b7)))))
 (aB (dZ bf rfl (dX (a7 2 (pv 2))) (p8 (k:=13) (is:=[10,11,12]) rfl (b8 (bJ (i:=10) sc.nd rfl (.inl rfl)) (b8 (bJ (i:=11) sc.nd rfl (.inl rfl)) (b8 (bJ (i:=12) sc.nd rfl (.inl rfl)) eM)))) (aF (cV (cU (cP (aU nN yO (hr.mono ∅) (aA (a7 12 (pv 12)) (aA (b3 hu1 (a7 8 (pv 8)) (d8 (aA (a7 10 (pv 10)) (aA (a7 11 (pv 11)) aG)))) (aA (b3 hu1 (a7 9 (pv 9)) (d8 (aA (a7 10 (pv 10)) (aA (a7 11 (pv 11)) aG)))) aG)))))) (aF (aX gW)) b7)))
 (aF (aX (iB (HF (IB hr)) (a7 8 (pv 8)) (a7 9 (pv 9))))))))))))
noncomputable abbrev C4(eG aS dG bW dE cZ lH dD cY eE cM dF iJ:Fn):bV:=
 (aN (bQ 2 (aQ dG (a9 (aQ aS (a9 (a8 0) (a9 (a8 1) aI))) (a9 (aQ eG (a9 (a8 0) (a9 (a8 1) (a9 (eC (.int 9)) aI)))) aI))))
 (aN (bQ 3 (aQ bW (a9 (a8 2) (a9 (aQ aS (a9 (a8 0) (a9 (aL dQ (a8 1) (eC (.int 1))) aI))) aI))))
 (aN (g4 (z9 (aZ (aL oB (aL cA (a8 2) (vY (eC (.int 1)))) (eC (.int 2)))) (aZ (aL oB (aL fY (aQ aS (a9 (a8 0) (a9 (aL dQ (a8 1) (eC (.int 1))) aI))) (eC (.int 4))) (eC (.int 1))))) (aN (bQ 4 (jD (a9 (e9 (a9 (eC (.int 1)) (a9 (eC (.int 999999999999)) aI))) (a9 (e9 (a9 (eC (.int 0)) (a9 (eC (.int 1)) aI))) (a9 (e9 (a9 (vY (eC (.int 1))) (a9 (eC (.int 999999999999)) aI))) aI)))))
 (bQ 3 (gQ 1 [4,3] (eO (a9 (eC (.int 3)) aI)) (gN 0) fZ (aL u0 (aL cA (a8 1) (a8 0)) (LC (aL cA (a8 2) (a8 0)) (uD (eC (.int 2))) lV))))) bD)
 (aN (bQ 5 (aQ dE (a9 (a8 2) (a9 (aQ aS (a9 (a8 0) (a9 (aL dQ (a8 1) (eC (.int 2))) aI))) aI))))
 (aN (bQ 6 (aQ cZ (a9 (a8 5) aI)))
 (aN (bQ 7 (z8 iJ (a9 (a8 3) aI)))
 (aN (bQ 8 (i4 oA (a9 (a8 5) aI)))
 (aN (bQ 9 (aQ lH (a9 (a8 7) (a9 (a8 8) aI))))
 (aN (g4 (aZ (aL Ci (a8 9) (eC .non))) (g4 (fN (fD (aQ dD (a9 (a8 6) (a9 (i4 fC (a9 (a8 2) aI)) aI))))) (bK (eC (.bl aj))) bD) (aN (g4 (fN (fD (aQ cY (a9 (a8 9) (a9 (a8 6) (a9 (i4 fC (a9 (a8 2) aI)) aI)))))) (bK (eC (.bl aj))) bD)
 (aN (bQ 10 (i4 oA (a9 (a8 9) aI)))
 (aN (bQ 11 (aQ eE (a9 (a8 7) (a9 (a8 10) aI))))
 (aN (g4 (zW (fN (fD (aQ cM (a9 (a8 11) aI)))) (aZ (aL sZ (a8 10) (a8 9)))) (bK (eC (.bl aj))) bD)
 (g4 (fN (fD (aQ dF (a9 (a8 2) (a9 (a8 3) (a9 (a8 5) (a9 (a8 9) (a9 (a8 11) aI)))))))) (bK (eC (.bl aj))) bD))))))
 (g4 (aZ (aL sZ (a8 8) (a8 5))) (bK (eC (.bl aj))) bD))))))))))
noncomputable abbrev Dl(eG aS dG bW dE cZ lH dD cY eE cM dF iJ:Fn):bV:=
 (aN (g7 (qK (a9 (eC (.int 0)) (a9 (aL dQ (i4 rJ (a9 (eC (.int 13)) (a9 (i4 fC (a9 (a8 0) aI)) aI))) (eC (.int 1))) (a9 (eC (.int 3)) aI)))) (gN 1) (C4 eG aS dG bW dE cZ lH dD cY eE cM dF iJ))
 (bK (eC (.bl ah))))
theorem Kw(P:aq)(w:bb)(mg:az->Option ac)(base:ca){eG dG bW dE cZ lH dD cY eE cM dF iJ:Fn}{fL:ae}{fdL:gh}(F:Fun K "law" "law" (top 53) fL fdL)(bL:mg "len" = ap)(tS:mg "min" = ap)(bH:mg "range" = ap)(iN:mg "list" = ap)(nM:Def P w K mg base 2 "_law_most" ["_law_script", "_law_k", "_law_usual"] (low K eG))(yN:MonoF eG)(cB:Def P w K mg base 1 "_law_cell_at" ["_law_script", "_law_k"] (low K aS))(d9:MonoF aS)(lF:Def P w K mg base 1 "_law_bands" ["_law_cell", "_law_most_here"] (low K dG))(vL:MonoF dG)(g9:Def P w K mg base 2 "_law_directions" ["_law_bands_here", "_law_cell"] (low K bW))(oC:MonoF bW)(lD:Def P w K mg base 2 "_law_holds" ["_law_bands_here", "_law_cell"] (low K dE))(vJ:MonoF dE)(kA:Def P w K mg base 1 "_law_arrows" ["_law_holds_here"] (low K cZ))(tF:MonoF cZ)(An:Def P w K mg base 5 "free" ["sides", "holds"] (low K lH))(vM:MonoF lH)(lC:Def P w K mg base 2 "_law_stiff" ["_law_arrows_here", "_law_many"] (low K dD))(vI:MonoF dD)(k9:Def P w K mg base 2 "_law_closed" ["_law_some", "_law_arrows_here", "_law_many"] (low K cY))(tE:MonoF cY)(nJ:Def P w K mg base 4 "turn_for" ["sides", "some"] (low K eE))(yK:MonoF eE)(iV:Def P w K mg base 3 "_law_is_turn" ["_law_turn"] (low K cM))(rR:MonoF cM)(lE:Def P w K mg base 2 "_law_bends" ["_law_bands_here", "_law_directions_here", "_law_holds_here", "_law_some", "_law_turn"] (low K dF))(vK:MonoF dF)(wJ:IDef P w K mg base 5 "Sides" C ["self", "directions"] iJ)(F5:MonoF iJ)(len:∀ds Q,sp ds Q->ds.length=1)(hsp:∀ds Q,sp ds Q->Dl eG aS dG bW dE cZ lH dD cY eE cM dF iJ ↥Q (aJ ["_law_script", "_law_k", "_law_bands_here", "_law_directions_here", "_law_steep", "_law_holds_here", "_law_arrows_here", "_law_sides", "_law_handed", "_law_some", "_law_chosen", "_law_turn"] ds)):FnOk P w K mg base Av 7 fL fdL ["_law_script"] (low K sp):=by
 have sc:FnScope ["_law_script", "_law_k", "_law_bands_here", "_law_directions_here", "_law_steep", "_law_holds_here", "_law_arrows_here", "_law_sides", "_law_handed", "_law_some", "_law_chosen", "_law_turn"] ["_law_script"] (aH (top 53)):=by norm_cast
 refine F.ok (k:=6) sc (vO len) λcdv A outer s H vs Q E hr qq=>wP (N:=["_law_script", "_law_k", "_law_bands_here", "_law_directions_here", "_law_steep", "_law_holds_here", "_law_arrows_here", "_law_sides", "_law_handed", "_law_some", "_law_chosen", "_law_turn"]) (t:=Dl eG aS dG bW dE cZ lH dD cY eE cM dF iJ) ?_ hsp qq
 ·
  have hu:=hr.units;have hu1:=dA hr;exact(aB (dZ bf rfl (CN rfl bH (aA aE (aA (aR c7 (bI (Bz rfl) rfl tS boot_min (aA aE (aA (bI dB rfl bL fz (aA (a7 0 (pv 0)) aG)) aG))) aE) (aA aE aG)))) (i8 (i:=1) (k:=12) sc.nd rfl (.inl rfl)) (aB (bM (i:=2) sc.nd rfl (.inl rfl) (aU lF vL (hr.mono ∅) (aA (aU cB d9 (hr.mono ∅) (aA (a7 0 (pv 0)) (aA (a7 1 (pv 1)) aG))) (aA (aU nM yN (hr.mono ∅) (aA (a7 0 (pv 0)) (aA (a7 1 (pv 1)) (aA aE aG)))) aG))))
 (aB (bM (i:=3) sc.nd rfl (.inr rfl) (aU g9 oC (hr.mono ∅) (aA (a7 2 (pv 2)) (aA (aU cB d9 (hr.mono ∅) (aA (a7 0 (pv 0)) (aA (aR c7 (a7 1 (pv 1)) aE) aG))) aG))))
 (aB (cV (QW.qt (v3 (b6 (eA hu) (b3 hu1 (a7 2 (pv 2)) (B6 aE)) aE) (qG (b6 (eA hu) (aR cX (aU cB d9 (hr.mono ∅) (aA (a7 0 (pv 0)) (aA (aR c7 (a7 1 (pv 1)) aE) aG))) aE) aE)))) (aB (bM (i:=4) sc.nd rfl (.inr rfl) (hX (aA (d8 (aA aE (aA aE aG))) (aA (d8 (aA aE (aA aE aG))) (aA (d8 (aA (B6 aE) (aA aE aG))) aG)))))
 (aF (bM (i:=3) sc.nd rfl (.inr rfl) (AD ["_law_j"] ["_law_steep", "_law_directions_here"] [4,3] rfl (eL rfl bH (aA aE aG)) (λfp s H=>(i8 (i:=0) (k:=1) (show kz (["_law_j", "_law_steep", "_law_directions_here"]:List az) by decide +kernel) rfl (.inl rfl))) (λfp s H=>jV) (λfp s H=>(aR Eo (b3 hu1 (a7 1 (pv 1)) (a7 0 (pv 0))) (B5 (b3 hu1 (a7 2 (pv 2)) (a7 0 (pv 0))) (B3 aE) B4))))))) b7)
 (aB (bM (i:=5) sc.nd rfl (.inl rfl) (aU lD vJ (hr.mono ∅) (aA (a7 2 (pv 2)) (aA (aU cB d9 (hr.mono ∅) (aA (a7 0 (pv 0)) (aA (aR c7 (a7 1 (pv 1)) aE) aG))) aG))))
 (aB (bM (i:=6) sc.nd rfl (.inl rfl) (aU kA tF (hr.mono ∅) (aA (a7 5 (pv 5)) aG)))
 (aB (bM (i:=7) sc.nd rfl (.inl rfl) (JR wJ F5 (hr.mono ∅) (aA (a7 3 (pv 3)) aG)))
 (aB (bM (i:=8) sc.nd rfl (.inl rfl) (o5 C0 rfl iN zl (aA (a7 5 (pv 5)) aG)))
 (aB (bM (i:=9) sc.nd rfl (.inl rfl) (aU An vM (hr.mono ∅) (aA (a7 7 (pv 7)) (aA (a7 8 (pv 8)) aG))))
 (aB (cV (b6 HG (a7 9 (pv 9)) Ih) (aF (cV (cU (cP (aU lC vI (hr.mono ∅) (aA (a7 6 (pv 6)) (aA (bI dB rfl bL fz (aA (a7 2 (pv 2)) aG)) aG))))) (aF (aX gW)) b7)) (aB (cV (cU (cP (aU k9 tE (hr.mono ∅) (aA (a7 9 (pv 9)) (aA (a7 6 (pv 6)) (aA (bI dB rfl bL fz (aA (a7 2 (pv 2)) aG)) aG)))))) (aF (aX gW)) b7)
 (aB (bM (i:=10) sc.nd rfl (.inl rfl) (o5 C0 rfl iN zl (aA (a7 9 (pv 9)) aG)))
 (aB (bM (i:=11) sc.nd rfl (.inl rfl) (aU nJ yK (hr.mono ∅) (aA (a7 7 (pv 7)) (aA (a7 10 (pv 10)) aG))))
 (aB (cV (QW.qt (kF (cU (cP (aU iV rR (hr.mono ∅) (aA (a7 11 (pv 11)) aG)))) (n5 (b6 (i3 hu) (a7 10 (pv 10)) (a7 9 (pv 9)))))) (aF (aX gW)) b7)
 (aF (cV (cU (cP (aU lE vK (hr.mono ∅) (aA (a7 2 (pv 2)) (aA (a7 3 (pv 3)) (aA (a7 5 (pv 5)) (aA (a7 9 (pv 9)) (aA (a7 11 (pv 11)) aG)))))))) (aF (aX gW)) b7)))))))
 (aF (cV (b6 (i3 hu) (a7 8 (pv 8)) (a7 5 (pv 5))) (aF (aX gW)) b7))))))))))))
 (aF (aX gW)))
end
end Lw
variable {l ks:List Int}
namespace Fl
noncomputable abbrev ids(n:Nat):List Int:=(ff n).map λ(k:Nat)=>(k:Int)
variable {x y:Int}
section
variable {p:Nat}
end
noncomputable abbrev kd(ks:List Int)(x:Int):Int:=ks.getD x.toNat 0
variable {e r:List Int}
end Fl
set_option maxHeartbeats 8000000
namespace Fl
variable {r e:List Int}
section
variable {L:Nat}{kk:Int->Int}{T:Int->Int->Nat}
end
section
variable {R S cur:List Int}
end
end Fl
variable {rows:List Sf.Rw}
namespace Lw
open L2 Z
open Sf (Rw crs nU Pre Good aD aO)
noncomputable abbrev rD(r:Rw):Dv:=.tup [.int r.x,.int r.y,.int r.m]
noncomputable abbrev mZ(rows:List Rw):List Dv:=rows.map rD
noncomputable abbrev cD(r:List Int):List Dv:=r.map Dv.int
noncomputable abbrev q9(rows:List Rw):List Dv:=rows.map λr=>.tup [.int r.x,.int r.y]
noncomputable abbrev bU(C:ae)(rows:List Rw):Dv:=.obj C [("kinds",.tup (cD (aD rows))),("vectors",.tup (q9 rows))]
noncomputable def KI(r:Rw):Prop:=r.up /\ -999999999999<=r.x/\r.x<=999999999999/\r.y<=999999999999/\1<=r.m
noncomputable def wh:Dv->Option Bool
 | .int _=>aa ah
 | .bl _=>aa aj
 | .non=>aa aj
 | .str _=>aa aj
 |_=>ap
noncomputable def qW:Fn:=λds Q=>∃(d:Dv) (b:Bool),ds=[d]/\wh d=aa b/\Q (.v (.bl b))
noncomputable def nY:Fn:=λds Q=>∃r:Rw,ds=[rD r]/\Q (.v (.bl ah))
noncomputable def oZ:Fn:=λds Q=>∃r:Rw,ds=[rD r]/\KI r/\Q (.v (.bl ah))
noncomputable def jS:Fn:=λds Q=>∃r a:Rw,ds=[rD r,rD a]/\KI r/\KI a/\0<crs a r/\Q (.v (.bl ah))
noncomputable def jT:Fn:=λds Q=>∃r:Rw,ds=[rD r]/\KI r/\Q (.v .non)
noncomputable def p5:Fn:=λds Q=>∃rows:List Rw,ds=[.lst (mZ rows)]/\Good rows/\Q (.v .non)
noncomputable def j5(C:ae):Fn:=λds Q=>∃rows:List Rw,ds=[.lst (mZ rows)]/\Good rows/\Q (.nw (bU C rows))
theorem Ho:∀ds Q,qW ds Q->ds.length=1:=by rintro ds Q ⟨_,_,rfl,_⟩;rfl
theorem Cv:∀ds Q,nY ds Q->ds.length=1:=by rintro ds Q ⟨_,rfl,_⟩;rfl
theorem Bj:∀ds Q,oZ ds Q->ds.length=1:=by rintro ds Q ⟨_,rfl,_⟩;rfl
theorem FB:∀ds Q,jS ds Q->ds.length=2:=by rintro ds Q ⟨_,_,rfl,_⟩;rfl
theorem FI:∀ds Q,jT ds Q->ds.length=1:=by rintro ds Q ⟨_,rfl,_⟩;rfl
theorem Hq:∀ds Q,p5 ds Q->ds.length=1:=by rintro ds Q ⟨_,rfl,_⟩;rfl
theorem Cw:∀ds Q,j5 C ds Q->ds.length+1=2:=by rintro ds Q ⟨_,rfl,_⟩;rfl
theorem F2:MonoF qW:=⟨λds Q Q' w z=>by obtain⟨r,b,e,a,h⟩:=z;exact⟨r,b,e,a,w _ h⟩⟩
theorem Eu:MonoF nY:=⟨λds Q Q' w z=>by obtain⟨r,e,h⟩:=z;exact⟨r,e,w _ h⟩⟩
theorem F3:MonoF oZ:=⟨λds Q Q' w z=>by obtain⟨r,e,a,h⟩:=z;exact⟨r,e,a,w _ h⟩⟩
theorem HU:MonoF jS:=⟨λds Q Q' w z=>by obtain⟨r,e,a,b,c,d,h⟩:=z;exact⟨r,e,a,b,c,d,w _ h⟩⟩
theorem HY:MonoF jT:=⟨λds Q Q' w z=>by obtain⟨r,e,a,h⟩:=z;exact⟨r,e,a,w _ h⟩⟩
theorem KW:MonoF p5:=⟨λds Q Q' w z=>by obtain⟨r,e,a,h⟩:=z;exact⟨r,e,a,w _ h⟩⟩
theorem Ew:MonoF (j5 C):=⟨λds Q Q' w z=>by obtain⟨r,e,a,h⟩:=z;exact⟨r,e,a,w _ h⟩⟩
theorem AM:∀ds Q,qW ds Q->mX ↥Q (aJ ["thing"] ds):=by
 rintro ds Q ⟨d,b,rfl,hw,q⟩;cases d with
 |int n=>
  cases hw;ac_nf;exact⟨rfl,rfl,q⟩
 |bl x=>
  cases hw;ac_nf;exact⟨rfl,rfl,q⟩
 |non=>
  cases hw;ac_nf;exact⟨rfl,q⟩
 |str z=>
  cases hw;ac_nf;exact⟨rfl,q⟩
 |_=>cases hw
theorem n6:∀ds Q,nY ds Q->eU qW ↥Q (aJ ["direction"] ds):=by
 rintro ds Q ⟨r,rfl,q⟩;ac_nf;refine⟨rfl,?_⟩;rw[show I0 "tuple" (rD r)=ah from rfl];ac_nf;rw[show (!decide (((0+1+1+1:Nat):Int)=3))=aj from rfl];ac_nf;refine⟨_,_,rfl,rfl,?_⟩;ac_nf;refine⟨_,_,rfl,rfl,?_⟩;ac_nf;refine⟨_,_,rfl,rfl,?_⟩;ac_nf;exact⟨[ah,ah,ah],rfl,q⟩
theorem o7:∀ds Q,oZ ds Q->fG ↥Q (aJ ["direction"] ds):=by
 rintro ds Q ⟨r,rfl,⟨hu,h1,h2,h3,_⟩,q⟩;have hy:0<=r.y:=by rcases hu with h | h<;>right
 ac_nf;rw[QL (show (if r.x<0 then -r.x else r.x)<=999999999999 by split<;>right),decide_eq_true (show (if r.y<0 then -r.y else r.y)<=999999999999 by split<;>right)];exact q
theorem xT:∀ds Q,oZ ds Q->kP ↥Q (aJ ["direction"] ds):=by
 rintro ds Q ⟨r,rfl,⟨hu,h1,h2,h3,_⟩,q⟩;ac_nf;rcases hu with h | ⟨h,h'⟩
 ·rw[QL h];exact q
 ·rw[Qi ⋯,QL h,decide_eq_true h'];exact q
theorem xU:∀ds Q,jS ds Q->kQ ↥Q (aJ ["direction", "ahead"] ds):=by
 rintro ds Q ⟨r,a,rfl,⟨hu,h1,h2,h3,_⟩,⟨gu,g1,g2,g3,_⟩,hc,q⟩;ac_nf;refine⟨.inl (.inl ⟨⋯,⋯⟩),.inl (.inl ⟨⋯,⋯⟩),?_⟩;rw[decide_eq_true (show 0<a.x*r.y-r.x*a.y from hc)];exact q
theorem o8:∀ds Q,jT ds Q->fH nY oZ oZ ↥Q (aJ ["direction"] ds):=by
 rintro ds Q ⟨r,rfl,ok,q⟩;ac_nf;refine⟨r,rfl,?_⟩;ac_nf;refine⟨r,rfl,ok,?_⟩;ac_nf;refine⟨r,rfl,ok,?_⟩;ac_nf;rw[Qi (by have:=ok.2.2.2.2;right)];exact q
variable {x:Sl}{E:En}
theorem Me:∀(rows:List Rw) (s t:Sl),(∀r∈rows,KI r)->(∀s,E.nx [x,s,t])->aT (gN 1) (gL jT jS) [] (mZ rows) E [x,s,t]:=by
 intro rows;induction rows with
 |nil=>
  intro s t _ h;ac_nf;exact h s
 |cons r rs ih=>
  intro s t ok h;ac_nf;refine⟨r,rfl,ok r (by simp),?_⟩;ac_nf;exact ih _ _ (λr hr=>ok r (by simp[hr])) h
variable {Q:R->Prop}
theorem Mc:∀(rows:List Rw) (acc:List Int),acc.length+rows.length<=100->Q (.nw (.lst (cD (acc++rows.map (·.m)))))->dI [.un] (gN 0) fZ (aL cA (a8 0) (eC (.int 2))) (mZ rows) (cD acc) Q:=by
 intro rows;induction rows with
 |nil=>
  intro acc _ h;ac_nf;simpa using h
 |cons r rs ih=>
  intro acc hl h;simp only[cj] at hl;push_cast [bc];refine⟨⋯,?_⟩;rw[show cD acc++[Dv.int r.m]=cD (acc++[r.m]) by simp];exact ih _ (by simp;right) (by simpa using h)
theorem Md:∀(rows:List Rw) (s t:Sl),nU rows->(∀r∈rows,KI r)->(∀s t,E.nx [x,s,t])->aT (gT [2,1]) (eI jT jS) [] (wY (mZ rows) (mZ (rows.drop 1))) E [x,s,t]:=by
 intro rows;induction rows with
 |nil=>
  intro s t _ _ h;push_cast [wY,List.zipWith_nil_left];exact h s t
 |cons a rs ih=>
  intro s t srt ok h;cases rs with
  |nil=>
   push_cast [wY,List.drop,yn];exact h s t
  |cons b rs=>
   push_cast [wY,List.drop,yn];refine⟨b,a,rfl,ok b (by simp),ok a (by simp),?_,?_⟩
   ·exact(mf.mp srt).1 b (by simp)
   ·ac_nf;exact ih _ _ (mf.mp srt).2 (λr hr=>ok r (by simp at hr ⊢;exact .inr hr)) h
theorem n8:∀ds Q,p5 ds Q->eV jT jS ↥Q (aJ ["directions", "direction", "ahead"] ds):=by
 rintro ds Q ⟨rows,rfl,G,q⟩;have lo:=G.lo;have hi:=G.hi;push_cast [bc];refine⟨rfl,?_⟩;rw[show I0 "list" (.lst (mZ rows))=ah from rfl];ac_nf;rw[QL ⋯,decide_eq_true (show (rows.length:Int)<=6 by right)];ac_nf;refine Me rows _ _ G.ok λs=>?_;ac_nf;refine Mc rows [] (by simp;right) ?_;refine⟨rows.map (·.m),by simp,?_⟩;ac_nf;rw[Qi (by have:=G.tot;unfold Sf.many at this;right)];show aT (gT [2,1]) (eI jT jS) [] _ _ _;rw[G8 ∅,show (mZ rows).drop (Int.toNat 1)=mZ (rows.drop 1) by simp[mZ]];exact Md rows _ _ G.srt G.ok λs t=>q
theorem Cs(h:∀r∈rows,1<=r.m):∀k,Sf.many (rows.take k)<=Sf.many rows:=by
 induction rows with
 |nil=>intro k;simp
 |cons r rs ih=>
  intro k;cases k with
  |zero=>
   have:=ih (λr hr=>h r (by simp[hr])) 0;have hm:=h r (by simp);simp only[Sf.many,List.take_zero,uh,List.sum_nil,cb,yr] at *;right
  |succ k=>
   have:=ih (λr hr=>h r (by simp[hr])) k;simp only[Sf.many,List.take_succ_cons,cb,yr] at *;right
theorem Km{y:Sl}:∀(rs:List Rw) (k:Nat) (ks:List Int) (s t:Sl),(∀r∈rs,1<=r.m)->(ks.length:Int)+Sf.many rs<=12->(∀s t,E.nx [x,y,.own a (.lst (cD (ks++aO k rs))),s,t]) ->
  aT (gT [3,4]) (oM C p5) [] (((mZ rs).zipIdx k).map λq=>.tup [.int (q.2:Int),q.1]) E [x,y,.own a (.lst (cD ks)),s,t]:=by
 intro rs;induction rs with
 |nil=>
  intro k ks s t _ _ h;push_cast [Om];simpa [aO] using h s t
 |cons r rs ih=>
  intro k ks s t ok hb h;have hm:=ok r (by simp);have hp:0<=Sf.many rs:=by
   have:=Cs (λr hr=>ok r (by simp[hr])) (rows:=rs) 0;simpa [Sf.many] using this
  have hb':(ks.length:Int)+(r.m+Sf.many rs)<=12:=by simpa [Sf.many] using hb
  push_cast [yx,oM,bc];refine⟨⟨⋯,⋯,⋯⟩,?_⟩;have e:(au r.m.toNat [Dv.int (k:Int)]).flatten=cD (au r.m.toNat (k:Int)):=by
   rw[jj];simp
  rw[e];refine⟨by simp;right,?_⟩;rw[show cD ks++cD (au r.m.toNat (k:Int))=cD (ks++au r.m.toNat (k:Int)) by simp];refine ih (k+1) _ _ _ (λr hr=>ok r (by simp[hr])) (by simp;right) λs t=>?_;rw[oq];exact h s t
theorem Kl:∀(rows:List Rw) (acc:List Rw),acc.length+rows.length<=100->Q (.nw (.lst (q9 (acc++rows))))->dI [.un] (gN 0) fZ (e9 (a9 (aL cA (a8 0) (eC (.int 0))) (a9 (aL cA (a8 0) (eC (.int 1))) aI))) (mZ rows) (q9 acc) Q:=by
 intro rows;induction rows with
 |nil=>
  intro acc _ h;ac_nf;simpa using h
 |cons r rs ih=>
  intro acc hl h;simp only[cj] at hl;push_cast [bc];refine⟨⋯,?_⟩;rw[show q9 acc++[Dv.tup [Dv.int r.x,Dv.int r.y]]=q9 (acc++[r]) by simp];exact ih _ (by simp;right) (by simpa using h)
theorem Ju:∀ds Q,j5 C ds Q -> ∀a,A1 C p5 { nx:=λρ=>∃d,ρ[0]?=aa (.own a d)/\Q (.nw d),rt:=λ_=>False } (gM C a ["self", "directions", "kinds", "number", "direction"] ds):=by
 rintro ds Q ⟨rows,rfl,G,q⟩ a;have hi:=G.hi;ac_nf;refine⟨rows,rfl,G,?_⟩;ac_nf;intro b;show aT (gT [3,4]) (oM C p5) [] (((mZ rows).zipIdx 0).map λq=>.tup [.int (q.2:Int),q.1]) _ [_,_,.own b (.lst (cD [])),_,_];refine Km rows 0 [] _ _ (λr hr=>(G.ok r hr).2.2.2.2) (by simpa using G.tot) λs t=>?_;ac_nf;refine Kl rows [] (by simp;right) ?_;ac_nf;exact⟨(by decide:1<1000),_,rfl,q⟩
end Lw
namespace Lw
open L2 Z
open Sf (Rw crs nU Pre Good aD aO place many)
open Fl (kd ids)
variable {r:List Int}
theorem qP{k:Nat}(h:k<r.length):j3 (cD r) (k:Int)=aa (.int (r.getD k 0)):=by
 rw[dM ⋯ (by simp;right)];simp[jw,h]
theorem GC{i:Int}(h0:0<=i)(h:i<r.length):j3 (cD r) i=aa (.int (r.getD i.toNat 0)):=by
 obtain⟨k,rfl⟩:∃k:Nat,i=k:=⟨i.toNat,⋯⟩;rw[qP ⋯,dw]
noncomputable def gS(C:ae):Fn:=λds Q=>∃(rows:List Rw) (b:Nat),ds=[bU C rows,.int b]/\b<(aD rows).length/\Q (.v (.int ((aD rows).getD b 0)))
theorem FD:∀ds Q,gS C ds Q->ds.length=2:=by rintro ds Q ⟨_,_,rfl,_⟩;rfl
theorem iC:MonoF (gS C):=⟨λds Q Q' w z=>by obtain⟨r,b,e,a,h⟩:=z;exact⟨r,b,e,a,w _ h⟩⟩
theorem Jt:∀ds Q,gS C ds Q->A0 C ↥Q (aJ ["self", "band"] ds):=by
 rintro ds Q ⟨rows,b,rfl,hb,h⟩;ac_nf;rw[show List.lookup (dh "kinds") [(dh "kinds",Dv.tup (cD (aD rows))),(dh "vectors",Dv.tup (q9 rows))]=aa (Dv.tup (cD (aD rows))) from rfl];ac_nf;rw[qP hb];exact h
noncomputable def eS(C:ae):Fn:=λds Q=>∃rows:List Rw,ds=[bU C rows]/\Q (.v (.int (aD rows).length))
theorem F9:∀ds Q,eS C ds Q->ds.length=1:=by rintro ds Q ⟨_,rfl,_⟩;rfl
theorem fJ:MonoF (eS C):=⟨λds Q Q' w z=>by obtain⟨r,e,h⟩:=z;exact⟨r,e,w _ h⟩⟩
theorem Js:∀ds Q,eS C ds Q->zZ C ↥Q (aJ ["self"] ds):=by
 rintro ds Q ⟨rows,rfl,h⟩;ac_nf;rw[show List.lookup (dh "kinds") [(dh "kinds",Dv.tup (cD (aD rows))),(dh "vectors",Dv.tup (q9 rows))]=aa (Dv.tup (cD (aD rows))) from rfl];push_cast [bc];exact h
noncomputable abbrev dO(l:List (Int×Int)):List Dv:=l.map λt=>.tup [.int t.1,.int t.2]
noncomputable def Aa(ks:List Int)(a:Int):Nat->Nat->List (Int×Int)
 |0,_=>[]
 |i+1,b=>(if kd ks a=kd ks b then [] else [(a,(b:Int))])++Aa ks a i (b+1)
noncomputable def pB(ks:List Int):Nat->Nat->List (Int×Int)
 |0,_=>[]
 |i+1,a=>Aa ks a (ks.length-(a+1)) (a+1)++pB ks i (a+1)
noncomputable def bG(ks:List Int):List (Int×Int):=pB ks ks.length 0
theorem qJ(ks:List Int)(a:Int):∀i b,(Aa ks a i b).length<=i
 |0,_=>bg _
 |i+1,b=>by rw[Aa,dj];have:=qJ ks a i (b+1);split<;>simp<;>right
theorem rL(ks:List Int):∀i a,(pB ks i a).length<=i*ks.length
 |0,_=>mj _
 |i+1,a=>by rw[pB,dj,Nat.add_mul];have:=rL ks i (a+1);have:=qJ ks a (ks.length-(a+1)) (a+1);right
theorem Bn(ks:List Int)(a:Int):∀(i b:Nat) (t:Int×Int),t∈Aa ks a i b ↔ t.1=a/\(b:Int)<=t.2/\t.2<(b+i:Nat)/\kd ks a≠kd ks t.2
 |0,b,t=>by simp[Aa];intro _ h1 h2;right
 |i+1,b,t=>by
  rw[Aa,ee,Bn ks a i (b+1) t];obtain⟨x,y⟩:=t;by_cases e:kd ks a=kd ks (b:Int)
  ·rw[QL e];constructor
   ·rintro(h | ⟨h1,h2,h3,h4⟩)
    ·cases h
    ·exact⟨h1,⋯,⋯,h4⟩
   ·rintro⟨h1,h2,h3,h4⟩;have:y≠(b:Int):=λz=>h4 (by rw[z];exact e);exact .inr ⟨h1,by dsimp only at *;right,by dsimp only at *;right,h4⟩
  ·rw[Qi e];constructor
   ·rintro(h | ⟨h1,h2,h3,h4⟩)
    ·rw[cp] at h;cases h;exact⟨rfl,Qm _,by dsimp only;right,e⟩
    ·exact⟨h1,⋯,⋯,h4⟩
   ·rintro⟨h1,h2,h3,h4⟩;by_cases z:y=(b:Int)
    ·exact .inl (by rw[cp,z];dsimp only at h1;rw[h1])
    ·exact .inr ⟨h1,by dsimp only at *;right,by dsimp only at *;right,h4⟩
theorem yG(ks:List Int):∀(i a:Nat) (t:Int×Int),a+i=ks.length->(t∈pB ks i a ↔ (a:Int)<=t.1/\t.1<t.2/\t.2<ks.length/\kd ks t.1≠kd ks t.2)
 |0,a,t,h=>by simp[pB];intro h1 h2 h3;right
 |i+1,a,t,h=>by
  rw[pB,ee,Bn,yG ks i (a+1) t ⋯];constructor
  ·rintro(⟨h1,h2,h3,h4⟩ | ⟨h1,h2,h3,h4⟩)
   ·exact⟨⋯,⋯,⋯,by rw[h1];exact h4⟩
   ·exact⟨⋯,h2,h3,h4⟩
  ·rintro⟨h1,h2,h3,h4⟩;by_cases z:t.1=(a:Int)
   ·exact .inl ⟨z,⋯,⋯,by rw[<- z];exact h4⟩
   ·exact .inr ⟨⋯,h2,h3,h4⟩
theorem dS{t:Int×Int}:t∈bG ks ↔ 0<=t.1/\t.1<t.2/\t.2<ks.length/\kd ks t.1≠kd ks t.2:=yG ks ks.length 0 t ⋯
noncomputable def kY(C:ae):Fn:=λds Q=>∃rows:List Rw,ds=[bU C rows]/\(aD rows).length<=12/\Q (.nw (.lst (dO (bG (aD rows)))))
theorem Cz:∀ds Q,kY C ds Q->ds.length=1:=by rintro ds Q ⟨_,rfl,_⟩;rfl
theorem rP:MonoF (kY C):=⟨λds Q Q' w z=>by obtain⟨r,e,a,h⟩:=z;exact⟨r,e,a,w _ h⟩⟩
variable {l:ae}{E:En}
theorem HA{a:Nat}(ha:a<(aD rows).length):∀(i b:Nat) (acc:List (Int×Int)) (s:Sl),b+i=(aD rows).length->acc.length+i<=1000 ->
  (∀s,E.nx [.v (bU C rows),.own l (.lst (dO (acc++Aa (aD rows) a i b))),.v (.int a),s]) ->
  aT (gN 3) (uM C (eS C) (gS C)) [] (bN b i) E [.v (bU C rows),.own l (.lst (dO acc)),.v (.int a),s]:=by
 intro i;induction i with
 |zero=>
  intro b acc s _ _ h;rw[d4,b4];exact⟨λp hp=>by simp at hp,by simpa [Aa] using h s⟩
 |succ i ih=>
  intro b acc s hb hl h;push_cast [cI,bc];refine⟨rfl,rows,a,rfl,ha,?_⟩;ac_nf;refine⟨rfl,rows,b,rfl,⋯,?_⟩;ac_nf;rw[show ((b:Int)+1)=((b+1:Nat):Int) by right];by_cases e:(aD rows).getD a 0=(aD rows).getD b 0
  ·rw[decide_eq_true e];ac_nf;refine ih (b+1) acc _ ⋯ ⋯ λs=>?_;have:=h s;rw[Aa,QL (by simpa [kd] using e)] at this;exact this
  ·rw[decide_eq_false e];ac_nf;refine⟨⋯,?_⟩;rw[show dO acc++[Dv.tup [Dv.int a,Dv.int b]]=dO (acc++[((a:Int),(b:Int))]) by simp];refine ih (b+1) _ _ ⋯ (by simp;right) λs=>?_;have:=h s;rw[Aa,Qi (by simpa [kd] using e)] at this;simpa using this
theorem H9(hn:(aD rows).length<=12):∀(i a:Nat) (acc:List (Int×Int)) (s t:Sl),a+i=(aD rows).length->acc.length+i*12<=500 ->
  (∀s t,E.nx [.v (bU C rows),.own l (.lst (dO (acc++pB (aD rows) i a))),s,t]) ->
  aT (gN 2) (jG C (eS C) (gS C)) [] (bN a i) E [.v (bU C rows),.own l (.lst (dO acc)),s,t]:=by
 intro i;induction i with
 |zero=>
  intro a acc s t _ _ h;rw[d4,b4];exact⟨λp hp=>by simp at hp,by simpa [pB] using h s t⟩
 |succ i ih=>
  intro a acc s t ha hl h;rw[cI,aW];refine⟨λp hp=>by simp at hp,?_⟩;have nx:∀s t,aT (gN 2) (jG C (eS C) (gS C)) [] (bN ((a:Int)+1) i) E [.v (bU C rows),.own l (.lst (dO (acc++Aa (aD rows) a ((aD rows).length-(a+1)) (a+1)))),s,t]:=λs t=>by
   have il:=qJ (aD rows) a ((aD rows).length-(a+1)) (a+1);refine ih (a+1) _ s t ⋯ (by simp;right) λs t=>?_;have:=h s t;rw[pB] at this;simpa using this
  generalize aT (gN 2) (jG C (eS C) (gS C)) [] (bN ((a:Int)+1) i) E=G at nx ⊢;push_cast [jG];refine⟨rfl,rows,rfl,?_⟩;ac_nf;refine⟨⟨⋯,⋯,⋯⟩,?_⟩;rw[show ((aD rows).length-((a:Int)+1)).toNat=(aD rows).length-(a+1) by right,show ((a:Int)+1)=((a+1:Nat):Int) by right];exact HA ⋯ _ (a+1) acc _ ⋯ ⋯ λs=>nx _ s
theorem HC:∀ds Q,kY C ds Q->uT C (eS C) (gS C) ↥Q (aJ ["self", "found", "a", "b"] ds):=by
 rintro ds Q ⟨rows,rfl,hn,h⟩;ac_nf;intro l;refine⟨rfl,rows,rfl,?_⟩;ac_nf;refine⟨⋯,?_⟩;rw[show ((aD rows).length:Int).toNat=(aD rows).length by right];refine H9 hn _ 0 [] _ _ ⋯ (by simp;right) λs t=>?_;ac_nf;exact h
end Lw
namespace Lw
open L2 Z
open Sf (Rw crs nU Pre Good aD aO place many)
open Fl (kd ids)
noncomputable def qD(ks:List Int):Prop:=∀a b:Int,0<=a->a<=b->b<ks.length->kd ks a<=kd ks b
theorem M4(n:Nat)(i:Int):cJ n (.int i)=ah:=by cases n<;>rfl
theorem u4(n:Nat):∀l:List Int,okDs n (cD l)=ah
 | []=>rfl
 |i::r=>by
  show (cJ n (.int i)&&okDs n (cD r))=ah;rw[u4 n r];cases n<;>rfl
end Lw
variable {cs:List Nat}
namespace Lw
open L2 Z
open Sf (Rw crs nU Pre Good aD aO place many)
open Fl (kd ids)
theorem Dp{u k:Int}(h0:-1000000<k)(hk:k<1000000):oP u k:=.inl (.inr ⟨⋯,⋯⟩)
noncomputable def gC:Fn:=λds Q=>∃(ns:List Int) (k:Int),ds=[.scr ns,.int k]/\0<=k /\ ∀c:Int,Q (.v (.int c))
theorem FJ:∀ds Q,gC ds Q->ds.length=2:=by rintro ds Q ⟨_,_,rfl,_⟩;rfl
theorem Bh:MonoF gC:=⟨λds Q Q' w z=>by obtain⟨r,e,a,b,h⟩:=z;exact⟨r,e,a,b,λc=>w _ (h c)⟩⟩
theorem t8:∀ds Q,gC ds Q->iR ↥Q (aJ ["_law_script", "_law_k"] ds):=by
 rintro ds Q ⟨ns,k,rfl,h0,h⟩;ac_nf;by_cases hk:k<(ns.length:Int)
 ·rw[QL hk,dM h0 hk,bz ⋯];exact h _
 ·rw[Qi hk];exact h 5
noncomputable def lL:Fn:=λds Q=>∃(ns:List Int) (k:Int),ds=[.scr ns,.int k,.int 9] /\ ∀m:Int,6<=m->m<=12->Q (.v (.int m))
theorem F8:∀ds Q,lL ds Q->ds.length=3:=by rintro ds Q ⟨_,_,rfl,_⟩;rfl
theorem HR:MonoF lL:=⟨λds Q Q' w z=>by obtain⟨r,e,a,h⟩:=z;exact⟨r,e,a,λm x y=>w _ (h m x y)⟩⟩
theorem AJ:∀ds Q,lL ds Q->mU gC ↥Q (aJ ["_law_script", "_law_k", "_law_usual"] ds):=by
 rintro ds Q ⟨ns,k,rfl,h⟩;ac_nf;by_cases hk:k=0
 ·rw[QL hk];refine⟨ns,0,rfl,⋯,λc=>?_⟩;ac_nf;refine⟨Dp ∅ ∅,?_⟩;split
  ·exact h 12 ⋯ ⋯
  ·exact h 9 ⋯ ⋯
 ·rw[Qi hk];exact h 9 ⋯ ⋯
noncomputable def aK:Nat->List Nat->List Int
 |_,[]=>[]
 |k,c::cs=>au c (k:Int)++aK (k+1) cs
theorem nP:∀(k:Nat) (cs:List Nat) (c:Nat),aK k (cs++[c])=aK k cs++au c ((k+cs.length:Nat):Int)
 |_,[],_=>by simp[aK]
 |k,a::rs,c=>by
  simp only[vo,aK,nP (k+1) rs c,oq,cj];congr 3;right
theorem pN:∀(k:Nat) (cs:List Nat),(aK k cs).length=cs.sum
 |_,[]=>rfl
 |k,c::cs=>by simp[aK,pN (k+1) cs]
structure Cnt(cs:List Nat):Prop where
 lo:2<=cs.length
 hi:cs.length<=6
 ok:∀c∈cs,1<=c
 tot:cs.sum<=12
variable {M QN:Int}{E:En}{x6 x7:Sl}
theorem Mg{c:Int}{k:Nat}{tl:bV}(hk:k<=10)(sp:Int)(hs:M-(l.length:Int)-((n:Int)-(k:Int)-1)=sp)(h1:1<=sp)(h2:sp<=12)
  (h:∀Oy:Int,1<=Oy->Oy<=sp->tl E [.v (.int c),.v (.int M),.v (.int n),.v (.int QN),.v (.lst (cD l)),.v (.int k),.v (.int sp),.v (.int Oy)]):
  aN (bQ 6 (aL gY (aL gY (a8 1) (i4 fC (a9 (a8 4) aI))) (aL gY (aL gY (a8 2) (a8 5)) (eC (.int 1)))))
 (aN (bQ 7 (aL dQ (eC (.int 1)) (aL fY (aL fY (aL cG (aL fY (aL cG (aL dQ (a8 0) (aL cG (eC (.int 31)) (a8 5))) (eC (.int 48271))) (eC (.int 2147483647))) (aL dQ (aL cG (a8 5) (a8 5)) (eC (.int 17)))) (eC (.int 99991))) (i4 rJ (a9 (a8 6) (a9 (eC (.int 3)) aI)))))) tl) E [.v (.int c),.v (.int M),.v (.int n),.v (.int QN),.v (.lst (cD l)),.v (.int k),x6,x7]:=by
 push_cast [bc,hs];generalize hm:(if 3<sp then 3 else sp)=mn;have hmn:1<=mn/\mn<=sp:=by rw[<- hm];split<;>right
 have kk:(k:Int)*k<=10*10:=Pz ⋯ ⋯ ⋯ ⋯;have kk0:0<=(k:Int)*k:=ja ⋯ ⋯;refine⟨.inl (.inl ⟨by decide,by decide⟩),Dp ∅ ∅,Dp ⋯ ⋯,Dp ⋯ ⋯,⋯,?_⟩;generalize (c+31*(k:Int))*48271 % 2147483647*((k:Int)*k+17) % 99991=q;have a1:=jk q (show mn≠0 by right);have a2:=ga q (show 0<mn by right);exact h _ ⋯ ⋯
variable {x0 x1 x2:Sl}
theorem Mf{sp Oy k:Int}(h1:1<=sp)(h2:sp<=12)(c1:1<=Oy)(c2:Oy<=sp)(ll:l.length<=100)
  (h:∀QN Oy:Int,1<=Oy->Oy<=sp->E.nx [x0,x1,x2,.v (.int QN),.v (.lst (cD l++(au Oy.toNat [Dv.int k]).flatten)),.v (.int k),.v (.int sp),.v (.int Oy)]):
  aN (g4 (aZ (aL Jw (a8 3) (eC (.int 1)))) (aN (bQ 7 (aL dQ (eC (.int 1)) (aL fY (a8 3) (a8 6))))
 (bQ 3 (aL kJ (a8 3) (a8 6)))) bD)
 (bQ 4 (aL dQ (a8 4) (aL cG (jD (a9 (a8 5) aI)) (a8 7)))) E [x0,x1,x2,.v (.int QN),.v (.lst (cD l)),.v (.int k),.v (.int sp),.v (.int Oy)]:=by
 have fl:∀m:Nat,(au m [Dv.int k]).flatten.length=m:=λm=>by rw[jj];simp
 push_cast [bc,fl];split
 ·have a1:=jk QN (show sp≠0 by right);have a2:=ga QN (show 0<sp by right);exact⟨⋯,⋯,⋯,⋯,h _ _ ⋯ ⋯⟩
 ·exact⟨⋯,⋯,h _ _ c1 c2⟩
theorem MT{d:Dv}{x3 x4 x5:Sl}{Q:List Sl->Prop}(h:Q [x0,x1,x2,x3,x4,.v d,x6,x7]):gN 5 d [x0,x1,x2,x3,x4,x5,x6,x7] Q:=by
 ac_nf;exact h
theorem IQ{c:Int}(hn:n<=6)(hM:M<=12):∀(i k:Nat) (QN:Int) (cs:List Nat) (s5 s6 s7:Sl),k+i=n->cs.length=k->(∀x∈cs,1<=x)->(cs.sum:Int)+i<=M ->
  (∀(QN:Int) (cs:List Nat) (s5 s6 s7:Sl),cs.length=n->(∀x∈cs,1<=x)->(cs.sum:Int)<=M->E.nx [.v (.int c),.v (.int M),.v (.int n),.v (.int QN),.v (.lst (cD (aK 0 cs))),s5,s6,s7]) ->
  aT (gN 5) gH [] (bN k i) E [.v (.int c),.v (.int M),.v (.int n),.v (.int QN),.v (.lst (cD (aK 0 cs))),s5,s6,s7]:=by
 intro i;induction i with
 |zero=>
  intro k QN cs s5 s6 s7 hk hl ok ht h;rw[d4,b4];exact⟨λp hp=>by simp at hp,h _ _ _ _ _ ⋯ ok ⋯⟩
 |succ i ih=>
  intro k QN cs s5 s6 s7 hk hl ok ht h;rw[cI,aW];refine⟨λp hp=>by simp at hp,?_⟩;have next:∀(QN Oy:Int) (s5 s6 s7:Sl),1<=Oy->Oy+cs.sum+i<=M->aT (gN 5) gH [] (bN ((k:Int)+1) i) E [.v (.int c),.v (.int M),.v (.int n),.v (.int QN),.v (.lst (cD (aK 0 cs)++(au Oy.toNat [Dv.int (k:Int)]).flatten)),s5,s6,s7]:=λQN Oy s5 s6 s7 c1 c2=>by
   have e2:(au Oy.toNat [Dv.int (k:Int)]).flatten=cD (au Oy.toNat (k:Int)):=by
    rw[jj];simp
   have e3:cD (aK 0 cs)++cD (au Oy.toNat (k:Int))=cD (aK 0 (cs++[Oy.toNat])):=by
    rw[nP,hl,Qn];simp
   rw[e2,e3];exact ih (k+1) QN (cs++[Oy.toNat]) s5 s6 s7 ⋯ (by simp;right) (λx hx=>by
    rcases ee.mp hx with hx | hx
    ·exact ok x hx
    ·rw[cp.mp hx];right) (by simp;right) h
  generalize aT (gN 5) gH [] (bN ((k:Int)+1) i) E=nx at *;have bl:=pN 0 cs;exact MT (Mg ⋯ _ rfl ⋯ ⋯ λOy c1 c2=>Mf ⋯ ⋯ c1 c2 ⋯ λQN Oy d1 d2=>next QN Oy _ _ _ d1 ⋯)
noncomputable def j8:Fn:=λds Q=>∃c M:Int,ds=[.int c,.int M]/\6<=M/\M<=12 /\ ∀cs,Cnt cs->Q (.v (.lst (cD (aK 0 cs))))
theorem D3:∀ds Q,j8 ds Q->ds.length=2:=by rintro ds Q ⟨_,_,rfl,_⟩;rfl
theorem F4:MonoF j8:=⟨λds Q Q' w z=>by obtain⟨c,M,e,a,b,h⟩:=z;exact⟨c,M,e,a,b,λr g=>w _ (h r g)⟩⟩
theorem y2:∀ds Q,j8 ds Q->kX ↥Q (aJ ["_law_cell", "_law_most_here", "_law_kinds", "_law_rest", "_law_bands_here", "_law_k", "_law_spare", "_law_count"] ds):=by
 rintro ds Q ⟨c,M,rfl,M6,M12,h⟩;ac_nf;obtain⟨n,hn,h2,h6⟩:∃n:Nat,2+c % 5=(n:Int)/\2<=n/\n<=6:=⟨(2+c % 5).toNat,⋯,⋯,⋯⟩;rw[hn];refine⟨⋯,?_⟩;rw[dw];refine IQ h6 M12 n 0 _ [] _ _ _ ⋯ rfl (λx hx=>by simp at hx) (by simp;right) λQN cs s5 s6 s7 l ok t=>?_;ac_nf;exact h cs ⟨⋯,⋯,ok,⋯⟩
theorem sU(k:Nat)(cs:List Nat):(aK k cs).Pairwise (· <= ·) /\ ∀x∈aK k cs,(k:Int)<=x:=by
 induction cs generalizing k with
 |nil=>exact⟨List.Pairwise.nil,λx hx=>by cases hx⟩
 |cons c cs ih=>
  obtain⟨i1,i2⟩:=ih (k+1);rw[aK];refine⟨vz.mpr ⟨?_,i1,λa ha b hb=>?_⟩,λx hx=>?_⟩
  ·rw[fc];intro i j hi hj _;simp
  ·rw[dm ha];have:=i2 b hb;right
  ·rcases ee.mp hx with hx | hx
   ·rw[dm hx];exact Qm _
   ·have:=i2 x hx;right
theorem sV(cs:List Nat):qD (aK 0 cs):=λa b h0 hab hb=>by
 have pw:=fc.mp (sU 0 cs).1;show (aK 0 cs).getD a.toNat 0<=(aK 0 cs).getD b.toNat 0;have e1:(aK 0 cs).getD a.toNat 0=(aK 0 cs)[a.toNat]'⋯:=by simp[jw,show a.toNat<(aK 0 cs).length by right]
 have e2:(aK 0 cs).getD b.toNat 0=(aK 0 cs)[b.toNat]'⋯:=by simp[jw,show b.toNat<(aK 0 cs).length by right]
 rw[e1,e2];rcases Ql a.toNat b.toNat with h | h
 ·exact pw _ _ _ _ h
 ·have:a.toNat=b.toNat:=⋯;simp[this]
theorem qO(C:Cnt cs):2<=(aK 0 cs).length/\(aK 0 cs).length<=12:=by
 rw[pN];have h:∀cs:List Nat,(∀c∈cs,1<=c)->cs.length<=cs.sum:=by
  intro cs;induction cs with
  |nil=>intro _;simp
  |cons c cs ih=>
   intro h;have h1:=h c (by simp);have h2:=ih λx hx=>h x (by simp[hx]);simp only[cj,yr];right
 have:=h cs C.ok;have:=C.lo;have:=C.tot;right
end Lw
namespace Lw
open L2 Z
open Sf (Rw crs nU Pre Good aD aO place many)
open Fl (kd ids)
theorem Kt{k:Int}{Q:R->Prop}:∀(l acc:List Int),acc.length+l.length<=100->Q (.nw (.lst (cD (acc++l.filter λb=>decide (b=k))))) ->
  dI [.un,.v (.int k)] (gN 0) (aZ (aL oB (a8 0) (a8 1))) (a8 0) (cD l) (cD acc) Q:=by
 intro l;induction l with
 |nil=>
  intro acc _ h;ac_nf;simpa using h
 |cons b l ih=>
  intro acc hl h;simp only[cj] at hl;push_cast [bc];by_cases e:b=k
  ·rw[QL e];refine⟨⋯,?_⟩;rw[show cD acc++[Dv.int b]=cD (acc++[b]) by simp];refine ih _ (by simp;right) ?_;rw[List.filter_cons_of_pos (by simpa using e)] at h;simpa using h
  ·rw[Qi e];refine ih _ ⋯ ?_;rw[List.filter_cons_of_neg (by simpa using e)] at h;exact h
theorem sJ:∀(j:Nat) (cs:List Nat) (i:Nat),((aK j cs).filter λb=>decide (b=((j+i:Nat):Int))).length=cs.getD i 0
 |_,[],i=>by simp[aK]
 |j,c::cs,0=>by
  have key:∀(k:Nat) (cs:List Nat),j<k->(aK k cs).filter (λb=>decide (b=((j+0:Nat):Int)))=[]:=by
   intro k cs hk;apply uv.mpr;intro x hx;have:=(sU k cs).2 x hx;simp;right
  rw[aK,xo,key (j+1) cs ⋯,fy,List.filter_eq_self.mpr (λx hx=>by rw[dm hx];simp)];simp
 |j,c::cs,i+1=>by
  have e:=sJ (j+1) cs i;rw[aK,xo,dj];have z:(au c (j:Int)).filter (λb=>decide (b=((j+(i+1):Nat):Int)))=[]:=by
   apply uv.mpr;intro x hx;rw[dm hx];simp;right
  rw[z,show j+(i+1)=j+1+i by right,e];simp
theorem nQ(C:Cnt cs):j3 (cD (aK 0 cs)) (-1)=aa (.int ((cs.length:Int)-1)):=by
 have hne:cs≠[]:=by intro z;have:=C.lo;rw[z] at this;simp at this
 have e:cs=cs.dropLast++[cs.getLast hne]:=(qk hne).symm;have h1:=C.ok _ (List.getLast_mem hne);have lo:=C.lo;generalize cs.getLast hne=c at *;generalize cs.dropLast=ds at *;subst e;obtain⟨c,rfl⟩:∃k,c=k+1:=⟨c-1,⋯⟩;rw[nP,Qn];unfold j3 pG;rw[Qi ∅,QL (by simp;right)];simp only[bc,dj,lg,bind_some];rw[show (-1+(((aK 0 ds).length+(c+1):Nat):Int)).toNat=(aK 0 ds).length+c by right];simp
end Lw
namespace Lw
open L2 Z
open Sf (Rw crs nU Pre Good aD aO place many)
theorem IT(i:Int):(if i<0 then -i else i)=((i.natAbs:Nat):Int):=by split<;>right
noncomputable def B2:Fn:=λds Q=>∃a b:Int,ds=[.int a,.int b]/\Q (.v (.int (yu a b:Nat)))
theorem Kb:∀ds Q,B2 ds Q->ds.length=2:=by rintro ds Q ⟨_,_,rfl,_⟩;rfl
theorem MB:MonoF B2:=⟨λds Q Q' w z=>by obtain⟨a,b,e,h⟩:=z;exact⟨a,b,e,w _ h⟩⟩
noncomputable def Ad(a b c:Int):Nat:=yu (yu a b:Nat) c
theorem Ae{a b:Int}(h:b≠0):(a.fmod b).natAbs<b.natAbs:=by
 rcases xl h with z | z
 ·have h1:=Int.neg_fmod_neg (-a) (-b);rw[Qo,Qo] at h1;have h2:=xq (-a) (show 0 < -b by right);have h3:=uw (-a) (show 0 < -b by right);right
 ·have h2:=xq a z;have h3:=uw a z;right
theorem vB:∀ds Q,B2 ds Q->jN ↥Q (aJ ["_law_one", "_law_other", "_law_rest"] ds):=by
 rintro ds Q ⟨a,b,rfl,h⟩;ac_nf;refine⟨λm ρ=>∃(x y:Int) (s:Sl),ρ=[.v (.int x),.v (.int y),s]/\yu x y=yu a b/\m=y.natAbs,⟨_,a,b,_,rfl,rfl,rfl⟩,?_⟩;rintro m ρ ⟨x,y,s,rfl,g,rfl⟩;ac_nf;refine eN (λz=>?_) λz=>?_
 ·have y0:y≠0:=λe=>by subst e;simp at z
  refine⟨y0,_,Ae y0,y,x.fmod y,_,rfl,?_,rfl⟩;rw[Int.fmod_def,Int.gcd_sub_mul_left_right,Int.gcd_comm];exact g
 ·have y0:y=0:=by simpa using z
  subst y0;rw[Int.gcd_zero_right] at g;push_cast [IT];rw[g];exact h
theorem Fs(a b c:Int):((Ad a b c:Nat):Int) ∣ a/\((Ad a b c:Nat):Int) ∣ b/\((Ad a b c:Nat):Int) ∣ c:=by
 have h1:=zm ((yu a b:Nat):Int) c;exact⟨PH h1 (zm a b),PH h1 (yv a b),yv _ _⟩
end Lw
namespace Lw
open L2 Z
open Sf (Rw crs nU Pre Good aD aO place many)
theorem bP{a b:Int}(ha:a.natAbs<=10 ^ 1000)(hb:b.natAbs<=10 ^ 1000):oP a b:=.inr ⟨nc ha (by decide +kernel),nc hb (by decide +kernel)⟩
theorem uL(h:n<=1000000000000000000000):n<=10 ^ 1000:=fo h (by decide +kernel)
end Lw
namespace Lw
open L2 Z
open Sf (Rw crs nU Pre Good aD aO place many uF)
structure Dn(x y:Int)(B:Nat):Prop where
 y0:0<=y
 y9:y<=9
 xp:y=0->0<x
 bx:x.natAbs<=B
variable {x y:Int}
theorem Dn.next{Rh side:Int}{b:Nat}(h:Dn x y b)(r1:1<=Rh)(r9:Rh<=9)(s0:0<=side)(s9:side<=99)(x':Int)
  (e:x'=if y=0 then side-50 else (x*Rh-1) / y-side):Dn x' Rh (9*b+100)/\0<x*Rh-x'*y:=by
 obtain⟨y0,y9,xp,bx⟩:=h;have ub:(x*Rh).natAbs<=9*b:=by
  rw[wb,PV 9 b];exact ux bx ⋯
 by_cases z:y=0
 ·rw[QL z] at e;refine⟨⟨⋯,r9,λz=>by right,⋯⟩,?_⟩;have:=li (xp z) (show 0<Rh by right);rw[z,Int.mul_zero];right
 ·rw[Qi z] at e;have q:=Int.natAbs_ediv_le_natAbs (x*Rh-1) y;have d:=Int.mul_ediv_self_le (x:=x*Rh-1) (k:=y) z;refine⟨⟨⋯,r9,λz=>by right,⋯⟩,?_⟩;have s:=ja s0 y0;rw[e,Int.sub_mul,vp _ y];right
noncomputable def gI:Fn:=λds Q=>∃(x y c:Int) (b:Nat),ds=[.int x,.int y,.int c]/\Dn x y b/\b<=1000000000000 /\ ∀x' y',Dn x' y' (9*b+100)->1<=y'->0<x*y'-x'*y->Q (.v (.tup [.int x',.int y']))
theorem D0:∀ds Q,gI ds Q->ds.length=3:=by rintro ds Q ⟨_,_,_,_,rfl,_⟩;rfl
theorem Ez:MonoF gI:=⟨λds Q Q' w z=>by obtain⟨a,b,c,d,e,f,g,h⟩:=z;exact⟨a,b,c,d,e,f,g,λx y u v z=>w _ (h x y u v z)⟩⟩
theorem AI:∀ds Q,gI ds Q->mT ↥Q (aJ ["_law_x", "_law_y", "_law_rest", "_law_rise", "_law_side"] ds):=by
 rintro ds Q ⟨x,y,c,b,rfl,n,hb,h⟩;have u1:=jk c (show (9:Int)≠0 by decide);have u2:=ga c (show (0:Int)<9 by decide);have v1:=jk (c / 9) (show (100:Int)≠0 by decide);have v2:=ga (c / 9) (show (0:Int)<100 by decide);ac_nf;generalize c / 9 % 100=side at *;have r1:1<=1+c % 9:=⋯;have r9:1+c % 9<=9:=⋯;generalize 1+c % 9=Rh at *;have k:=n.next r1 r9 v1 ⋯ _ rfl;have bx:=n.bx;have y0:=n.y0;have y9:=n.y9;refine eN (λz=>?_) λz=>?_
 ·rw[QL z] at k;exact h _ _ k.1 r1 k.2
 ·rw[Qi z] at k;refine⟨bP (uL ⋯) (uL ⋯),⟨⋯,⋯⟩,h _ _ k.1 r1 k.2⟩
noncomputable def bnd:Nat->Nat
 |0=>100001
 |k+1=>9*bnd k+100
theorem GB:∀k:Nat,k<=5->bnd k<=10000000000:=by decide
theorem rX:∀(k:Nat) (rows:List Rw) (cs:List Nat),rows.map (·.m)=cs.map (λc:Nat=>(c:Int))->aO k rows=aK k cs
 |_,[],[],_=>rfl
 |k,r::rows,c::cs,h=>by
  obtain⟨h1,h2⟩:=List.cons.inj h;rw[aO,aK,rX (k+1) rows cs h2,show r.m=(c:Int) from h1];rfl
theorem vN:∀(rows:List Rw) (cs:List Nat),rows.map (·.m)=cs.map (λc:Nat=>(c:Int))->many rows=(cs.sum:Int)
 | [],[],_=>rfl
 |r::rows,c::cs,h=>by
  obtain⟨h1,h2⟩:=List.cons.inj h;have:=vN rows cs h2;unfold many at this ⊢;rw[cb,yr,this,yr];show r.m+_=_;rw[show r.m=(c:Int) from h1];right
structure Mk(cs:List Nat)(k:Nat)(rows:List Rw)(x y:Int):Prop where
 ms:rows.map (·.m)=(cs.take k).map (λc:Nat=>(c:Int))
 srt:nU rows
 ok:∀r∈rows,KI r
 lf:∀r∈rows,0<crs r ⟨x,y,1⟩
 dn:Dn x y (bnd k)
theorem Mk.next{k:Nat}{t x' y':Int}(M:Mk cs k rows x y)(hk:k<cs.length)(k6:k<=5)(c1:1<=cs.getD k 0)(t1:1<=t)(t2:t<=10)(D:Dn x' y' (9*bnd k+100))(cr:0<x*y'-x'*y)(y1:1<=y'):
  Mk cs (k+1) (rows++[⟨x*t,y*t,(cs.getD k 0:Nat)⟩]) x' y':=by
 obtain⟨y0,y9,xp,bx⟩:=M.dn;have bl:=GB k k6;have up:Rw.up ⟨x,y,1⟩:=by
  by_cases z:y=0
  ·exact .inr ⟨z,xp z⟩
  ·exact .inl (by show 0<y;right)
 have xt:(x*t).natAbs<=10000000000*10:=by
  rw[wb];exact ux ⋯ ⋯
 have yt:y*t<=9*10:=Pz y9 t2 ⋯ ⋯;have upr:Rw.up ⟨x*t,y*t,(cs.getD k 0:Nat)⟩:=by
  rcases up with u | ⟨u,v⟩
  ·exact .inl (li u ⋯)
  ·refine .inr ⟨?_,li v ⋯⟩;show y*t=0;rw[show y=0 from u,Int.zero_mul]
 have up':Rw.up ⟨x',y',1⟩:=.inl (by show 0<y';right);refine⟨?_,?_,λr hr=>?_,λr hr=>?_,D⟩
 ·rw[lb,M.ms,yp,bz hk,lb];rw[show cs.getD k 0=cs[k] by simp[jw,hk]];rfl
 ·refine vz.mpr ⟨M.srt,by simp,λa ha b hb=>?_⟩;rw[cp.mp hb];have:=li (M.lf a ha) (show 0<t by right);show 0<a.x*(y*t)-x*t*a.y;have e:a.x*(y*t)-x*t*a.y=(a.x*y-x*a.y)*t:=by grind
  rw[e];exact this
 ·rcases ee.mp hr with hr | hr
  ·exact M.ok r hr
  ·rw[cp.mp hr];exact⟨upr,by show _<=x*t;right,by show x*t<=_;right,by show y*t<=_;right,by show (1:Int)<=(cs.getD k 0:Nat);right⟩
 ·rcases ee.mp hr with hr | hr
  ·exact uF (M.ok r hr).1 up up' (M.lf r hr) cr
  ·rw[cp.mp hr];have:=li cr (show 0<t by right);show 0<x*t*y'-x'*(y*t);have e:x*t*y'-x'*(y*t)=(x*y'-x'*y)*t:=by grind
   rw[e];exact this
theorem Mk.good(C:Cnt cs)(M:Mk cs cs.length rows x y):Good rows/\rows.map (·.m)=cs.map (λc:Nat=>(c:Int)):=by
 have ms:=M.ms;rw[List.take_length] at ms;have l:rows.length=cs.length:=by simpa using congrArg List.length ms
 have lo:=C.lo;have hi:=C.hi;have tt:=C.tot;exact⟨⟨⋯,⋯,M.srt,M.ok,by rw[vN rows cs ms];right⟩,ms⟩
variable {x1:Sl}
theorem Og{d:Dv}{x0 x2 x3 x4 x5 x6 x7:Sl}{Q:List Sl->Prop}(h:Q [x0,x1,x2,x3,x4,x5,.v d,x7]):gN 6 d [x0,x1,x2,x3,x4,x5,x6,x7] Q:=by
 ac_nf;exact h
theorem Kx{E:En}(C:Cnt cs):∀(i k:Nat) (x y c:Int) (rows:List Rw) (s6 s7:Sl),k+i=cs.length->Mk cs k rows x y ->
  (∀(x y c:Int) (rows:List Rw) (s6 s7:Sl),Mk cs cs.length rows x y->E.nx [.v (.lst (cD (aK 0 cs))),x1,.v (.int x),.v (.int y),.v (.int c),.own a (.lst (mZ rows)),s6,s7]) ->
  aT (gN 6) (cR gI) [] (bN k i) E [.v (.lst (cD (aK 0 cs))),x1,.v (.int x),.v (.int y),.v (.int c),.own a (.lst (mZ rows)),s6,s7]:=by
 intro i;have hi:=C.hi;have bl:=(qO C).2;induction i with
 |zero=>
  intro k x y c rows s6 s7 hk M h;rw[d4,b4];exact⟨λp hp=>by simp at hp,h _ _ _ _ _ _ (by rw[<- hk];exact M)⟩
 |succ i ih=>
  intro k x y c rows s6 s7 hk M h;rw[cI,aW];refine⟨λp hp=>by simp at hp,Og ?_⟩;have nx:∀(x y c:Int) (rows:List Rw) (s6 s7:Sl),Mk cs (k+1) rows x y->aT (gN 6) (cR gI) [] (bN ((k:Int)+1) i) E [.v (.lst (cD (aK 0 cs))),x1,.v (.int x),.v (.int y),.v (.int c),.own a (.lst (mZ rows)),s6,s7]:=λx y c rows s6 s7 M=>ih (k+1) x y c rows s6 s7 ⋯ M h;generalize aT (gN 6) (cR gI) [] (bN ((k:Int)+1) i) E=nn at *;have t1:=jk c (show (10:Int)≠0 by decide);have t2:=ga c (show (0:Int)<10 by decide);obtain⟨y0,y9,xp,bx⟩:=M.dn;have b5:=GB k ⋯;have c1:1<=cs.getD k 0:=by
   have hlt:k<cs.length:=⋯;rw[show cs.getD k 0=cs[k] by simp[jw,hlt]];exact C.ok _ (iw hlt)
  ac_nf;generalize c % 10=t at *;have rl:rows.length=k:=by simpa [va (show k<=cs.length by right)] using congrArg List.length M.ms
  refine⟨bP (uL ⋯) (uL ⋯),bP (uL ⋯) (uL ⋯),Kt _ [] (by simp;right) ?_⟩;have fb:=sJ 0 cs k;rw[Qn] at fb;push_cast [fb,bc,mw];refine⟨⋯,x,y,_,bnd k,rfl,M.dn,⋯,λx' y' D y1 cr=>?_⟩;ac_nf;have:=nx x' y' (c / 9000) _ (.v (.int k)) (.v (.int (1+t))) (M.next ⋯ ⋯ c1 (show 1<=1+t by right) ⋯ D cr y1);unfold mZ at this ⊢;rw[lb] at this;exact this
noncomputable def j7:Fn:=λds Q=>∃(cs:List Nat) (c:Int),ds=[.lst (cD (aK 0 cs)),.int c]/\Cnt cs /\ ∀rows:List Rw,Good rows->rows.map (·.m)=cs.map (λc:Nat=>(c:Int))->Q (.nw (.lst (mZ rows)))
theorem D1:∀ds Q,j7 ds Q->ds.length=2:=by rintro ds Q ⟨_,_,rfl,_⟩;rfl
theorem F1:MonoF j7:=⟨λds Q Q' w z=>by obtain⟨a,b,c,d,h⟩:=z;exact⟨a,b,c,d,λx y u=>w _ (h x y u)⟩⟩
theorem pA:∀ds Q,j7 ds Q->g5 gI ↥Q (aJ ["_law_bands_here", "_law_cell", "_law_x", "_law_y", "_law_rest", "_law_made", "_law_k", "_law_times"] ds):=by
 rintro ds Q ⟨cs,c,rfl,C,h⟩;have u1:=jk c (show (200001:Int)≠0 by decide);have u2:=ga c (show (0:Int)<200001 by decide);have v1:=jk (c / 200001) (show (9:Int)≠0 by decide);have v2:=ga (c / 200001) (show (0:Int)<9 by decide);have hi:=C.hi;have key:∀(x y:Int),Dn x y 100001 -> ∀a,aT (gN 6) (cR gI) [] (bN 0 cs.length) { nx:=bK (a8 5) ↥Q,rt:=Q } [.v (.lst (cD (aK 0 cs))),.v (.int c),.v (.int x),.v (.int y),.v (.int (c / 1800009)),.own a (.lst []),.un,.un]:=λx y D a=>by
  refine Kx C cs.length 0 x y _ [] _ _ ⋯ ⟨rfl,List.Pairwise.nil,λr hr=>(by cases hr),λr hr=>(by cases hr),D⟩ λx y c' rows s6 s7 M=>?_;ac_nf;exact h rows (M.good C).1 (M.good C).2
 push_cast [nQ C];rw[show ((cs.length:Int)-1+1).toNat=cs.length by right];refine eN (λz=>λa=>⟨⟨⋯,⋯⟩,key _ _ ⟨by decide,by decide,λ_=>by split<;>right,by split<;>right⟩ a⟩) λz=>λa=>⟨⟨⋯,⋯⟩,key _ _ ⟨⋯,⋯,λ_=>by right,⋯⟩ a⟩
end Lw
namespace Lw
open L2 Z
open Sf (Rw crs nU Pre Good aD aO place many)
open Fl (kd ids)
end Lw
namespace Lw
open L2 Z
open Sf (Rw crs nU Pre Good aD aO place many)
open Fl (kd ids)
noncomputable def vec(rows:List Rw)(b:Int):Rw:=rows.getD (kd (aD rows) b).toNat ⟨0,0,0⟩
variable {b:Int}
theorem Bk(h0:0<=b)(h1:b<(aD rows).length):0<=kd (aD rows) b/\kd (aD rows) b<rows.length:=by
 have h:b.toNat<(aD rows).length:=⋯;have:=Sf.rY 0 rows ((aD rows)[b.toNat]) (iw h);rw[show kd (aD rows) b=(aD rows)[b.toNat] by simp[kd,jw,h]];right
noncomputable def jQ(C:ae):Fn:=λds Q=>∃(rows:List Rw) (b:Int),ds=[bU C rows,.int b]/\0<=b/\b<(aD rows).length/\Q (.v (.tup [.int (vec rows b).x,.int (vec rows b).y]))
theorem Ha:∀ds Q,jQ C ds Q->ds.length=2:=by rintro ds Q ⟨_,_,rfl,_⟩;rfl
theorem KL:MonoF (jQ C):=⟨λds Q Q' w z=>by obtain⟨a,b,c,d,e,h⟩:=z;exact⟨a,b,c,d,e,w _ h⟩⟩
theorem L3{i:Int}(h0:0<=i)(h1:i<rows.length):j3 (q9 rows) i=aa (.tup [.int (rows.getD i.toNat ⟨0,0,0⟩).x,.int (rows.getD i.toNat ⟨0,0,0⟩).y]):=by
 have h:i.toNat<rows.length:=⋯;have e:rows.getD i.toNat ⟨0,0,0⟩=rows[i.toNat]:=by simp[jw,h]
 rw[e];have a:=L2.dM (xs:=q9 rows) (j:=i.toNat) (v:=.tup [.int rows[i.toNat].x,.int rows[i.toNat].y]) (by rw[bh,bz h];rfl);rw[show ((i.toNat:Nat):Int)=i by right] at a;exact a
theorem EN:∀ds Q,jQ C ds Q->qU C ↥Q (aJ ["self", "band"] ds):=by
 rintro ds Q ⟨rows,b,rfl,h0,h1,h⟩;have k:=Bk h0 h1;ac_nf;rw[show List.lookup (dh "kinds") [(dh "kinds",Dv.tup (cD (aD rows))),(dh "vectors",Dv.tup (q9 rows))]=aa (Dv.tup (cD (aD rows))) from rfl,
  show List.lookup (dh "vectors") [(dh "kinds",Dv.tup (cD (aD rows))),(dh "vectors",Dv.tup (q9 rows))]=aa (Dv.tup (q9 rows)) from rfl]
 push_cast [GC h0 h1];rw[L3 k.1 k.2];exact h
theorem jJ(G:Good rows)(h0:0<=b)(h1:b<(aD rows).length):(vec rows b).x.natAbs<=1000000000000/\(vec rows b).y.natAbs<=1000000000000:=by
 have k:=Bk h0 h1;have h:(kd (aD rows) b).toNat<rows.length:=⋯;obtain⟨u,a1,a2,a3,_⟩:=G.ok rows[(kd (aD rows) b).toNat] (iw h);rw[show vec rows b=rows[(kd (aD rows) b).toNat] by unfold vec;generalize (kd (aD rows) b).toNat=j at h ⊢;simp[jw,h]];refine⟨⋯,?_⟩;rcases u with u | ⟨u,_⟩<;>right
theorem bT(h:n<=1000000000000000000000000000000000000000000000000000000000000000000000000000000):n<=10 ^ 1000:=fo h (by decide +kernel)
noncomputable def wx(rows:List Rw)(so:List Int)(p q r:Int)(b:Int):Int:=if b∈so then p*(vec rows b).x-q*(vec rows b).y else r*(vec rows b).x
noncomputable def wy(rows:List Rw)(so:List Int)(p q r:Int)(b:Int):Int:=if b∈so then q*(vec rows b).x+p*(vec rows b).y else r*(vec rows b).y
noncomputable def JM(w:Int->Int):List Int->Int
 | []=>0
 |b::l=>w b+JM w l
end Lw
variable {so:List Int}
namespace Lw
open L2 Z
open Sf (Rw crs nU Pre Good aD aO place many)
open Fl (kd ids)
theorem Fm(i:Int):∀l:List Int,inD (.int i) (cD l)=decide (i∈l)
 | []=>rfl
 |j::l=>by
  have ih:=Fm i l;unfold inD at ih ⊢;rw[show cD (j::l)=.int j::cD l from rfl,ou,ih];by_cases e:i=j
  ·subst e;rw[Z.oG];simp
  ·rw[Z.oG];simp[e,gp e]
theorem I9(b:Int)(Q:R->Prop)(h:Q (.v (.bl (decide (b∈so))))):DS (.int b) (.lst (cD so)) Q:=by
 show (_/\_)/\Q (R.v (Dv.bl (inD (Dv.int b) (cD so))));rw[Fm];exact⟨⟨M4 8 b,u4 8 so⟩,h⟩
theorem M5(b:Int)(Q:R->Prop)(h:Q (.v (.bl (!decide (b∈so))))):rH (.int b) (.lst (cD so)) Q:=by
 show (_/\_)/\Q (R.v (Dv.bl (!inD (Dv.int b) (cD so))));rw[Fm];exact⟨⟨M4 8 b,u4 8 so⟩,h⟩
theorem nb{a b:Int}{A B:Nat}(ha:a.natAbs<=A)(hb:b.natAbs<=B):(a*b).natAbs<=A*B:=by
 rw[wb];exact ux ha hb
section
variable (rows:List Rw)(so:List Int)(p q r:Int)(l:List Int)
noncomputable def pX:Int:=JM (wx rows so p q r) l
noncomputable def pY:Int:=JM (wy rows so p q r) l
noncomputable def pd:Nat:=Ad (pX rows so p q r l) (pY rows so p q r l) r
noncomputable def p0:Int:=pX rows so p q r l / (pd rows so p q r l:Nat)
noncomputable def p1:Int:=pY rows so p q r l / (pd rows so p q r l:Nat)
noncomputable def p2:Int:=r / (pd rows so p q r l:Nat)
end
section
variable {p q r:Int}
end
end Lw
namespace Lw
open L2 Z
open Sf (Rw crs nU Pre Good aD aO place many)
open Fl (kd ids)
theorem vX{α:Type}(f:α->Dv)(hf:∀a b,eqD (f a) (f b)=ah ↔ a=b):∀l m:List α,mh (pyDs (l.map f)) (pyDs (m.map f))=ah ↔ l=m
 | [],[]=>by simp[gJ.pyDs,mh]
 | [],_::_=>by simp[gJ.pyDs,mh]
 |_::_,[]=>by simp[gJ.pyDs,mh]
 |a::l,b::m=>by
  show mh (gJ (f a)::pyDs (l.map f)) (gJ (f b)::pyDs (m.map f))=ah ↔ _;have h:=hf a b;unfold eqD at h;rw[mh,cw,vX f hf l m,h,Ot]
theorem Fv(f:α->Dv)(hf:∀a b,eqD (f a) (f b)=ah ↔ a=b)(l m:List α):eqD (.lst (l.map f)) (.lst (m.map f))=ah ↔ l=m:=by
 unfold eqD;show jq (.list (pyDs _)) (.list (pyDs _))=ah ↔ _;rw[jq];exact vX f hf l m
theorem z0(f:α->Dv)(hf:∀a b,eqD (f a) (f b)=ah ↔ a=b)(l m:List α):eqD (.tup (l.map f)) (.tup (m.map f))=ah ↔ l=m:=by
 unfold eqD;show jq (.tuple (pyDs _)) (.tuple (pyDs _))=ah ↔ _;rw[jq];exact vX f hf l m
theorem Fw(a b:Int):eqD (.int a) (.int b)=ah ↔ a=b:=by rw[Z.oG,decide_eq_true_eq]
noncomputable def hU:Fn:=λds Q=>∃n:Int,ds=[.int n]/\Q (.v (.bl ah))
theorem Hg:∀ds Q,hU ds Q->ds.length=1:=by rintro ds Q ⟨_,rfl,_⟩;rfl
theorem Ex:MonoF hU:=⟨λds Q Q' w z=>by obtain⟨a,b,h⟩:=z;exact⟨a,b,w _ h⟩⟩
theorem xV:∀ds Q,hU ds Q->kR ↥Q (aJ ["_law_found"] ds):=by
 rintro ds Q ⟨n,rfl,h⟩;ac_nf;exact⟨rfl,eN (λ_=>⟨rfl,h⟩) λz=>absurd rfl z⟩
noncomputable def uW:Fn:=λds Q=>∃l:List Int,ds=[.tup (cD l)]/\Q (.v (.bl ah))
theorem Hf:∀ds Q,uW ds Q->ds.length=1:=by rintro ds Q ⟨_,rfl,_⟩;rfl
theorem KO:MonoF uW:=⟨λds Q Q' w z=>by obtain⟨a,b,h⟩:=z;exact⟨a,b,w _ h⟩⟩
theorem MD{E:En}{x0:Sl}:∀(l:List Int) (s:Sl),(∀s,E.nx [x0,s])->aT (gN 1) (fS hU) [] (cD l) E [x0,s]:=by
 intro l;induction l with
 |nil=>
  intro s h;rw[show cD []=[] from rfl,b4];exact⟨λp hp=>by simp at hp,h _⟩
 |cons n l ih=>
  intro s h;rw[show cD (n::l)=.int n::cD l from rfl,aW];refine⟨λp hp=>by simp at hp,?_⟩;have nx:=λs=>ih s h;generalize aT (gN 1) (fS hU) [] (cD l) E=G at nx ⊢;push_cast [fS];refine⟨n,rfl,?_⟩;ac_nf;exact nx _
theorem vA:∀ds Q,uW ds Q->jL hU ↥Q (aJ ["_law_found", "_law_number"] ds):=by
 rintro ds Q ⟨l,rfl,h⟩;ac_nf;refine⟨rfl,eN (λz=>by cases z) λ_=>MD l _ λs=>?_⟩;ac_nf;exact h
end Lw
variable {ar:List (Int×Int)}
namespace Lw
open L2 Z
open Sf (Rw crs nU Pre Good aD aO)
noncomputable abbrev FN(ps:List (Int×Dv)):KD:=ps.map λp=>(bo p.1,p.2)
noncomputable abbrev ky(ps:List (Int×Dv)):List Int:=ps.map (·.1)
theorem Ab(ps:List (Int×Dv))(i:Int):hasK (FN ps) i=decide (i∈ky ps):=by
 unfold hasK;rw[Q5,Oz,sr,decide_eq_true_eq,gq];constructor
 ·rintro⟨p,h1,h2⟩;have:bo p.1=(bo i:aY):=by simpa using h2
  injection this with e;exact⟨p,h1,e⟩
 ·rintro⟨p,h1,rfl⟩;exact⟨p,h1,by simp⟩
variable {ps:List (Int×Dv)}
theorem JZ{i:Int}(d:Dv)(h:i ∉ ky ps):pS (FN ps) (bo i) d=FN (ps++[(i,d)]):=by
 unfold pS;have:(FN ps).any (λkv=>decide (kv.1=bo i))=aj:=by
  have:=Ab ps i;unfold hasK at this;rw[this,decide_eq_false h]
 rw[this];simp
inductive Rch(ar:List (Int×Int))(s:Int):Int->Prop
 |base:Rch ar s s
 |step {x y:Int}:Rch ar s x->(x,y)∈ar->Rch ar s y
structure Tree(ar:List (Int×Int))(s:Int)(ps:List (Int×Dv)):Prop where
 fst:ps[0]?=aa (s,.non)
 nxt:∀(j:Nat) (k:Int) (d:Dv),ps[j+1]?=aa (k,d) -> ∃(i:Nat) (p:Int),i<=j/\(ky ps)[i]?=aa p/\d=.int p/\(p,k)∈ar
variable {s:Int}
theorem Tree.snoc{b y:Int}(t:Tree ar s ps)(hb:b∈ky ps)(m:(b,y)∈ar):Tree ar s (ps++[(y,.int b)]):=by
 have l0:0<ps.length:=(bt.mp t.fst).1;have keep:∀{i:Nat} {p:Int},(ky ps)[i]?=aa p->(ky (ps++[(y,Dv.int b)]))[i]?=aa p:=λ{i p} e=>by
  rw[show ky (ps++[(y,Dv.int b)])=ky ps++[y] by simp,bv (bt.mp e).1,e]
 refine⟨by rw[bv l0,t.fst],λj k d e=>?_⟩;by_cases hj:j+1<ps.length
 ·rw[bv hj] at e;obtain⟨i,p,h1,h2,h3,h4⟩:=t.nxt j k d e;exact⟨i,p,h1,keep h2,h3,h4⟩
 ·have hl:=(bt.mp e).1;rw[dj,vg] at hl;rw[cn ⋯,show j+1-ps.length=0 by right] at e;cases e;obtain⟨i,hi,ei⟩:=qg.mp hb;rw[bc] at hi;exact⟨i,b,⋯,keep (by rw[bz (by rw[bc];exact hi),ei]),rfl,m⟩
structure RI(ar:List (Int×Int))(s:Int)(ps:List (Int×Dv))(ws:List Int):Prop where
 nd:(ky ps).Nodup
 st:s∈ky ps
 rch:∀k∈ky ps,Rch ar s k
 sub:∀w∈ws,w∈ky ps
 tre:Tree ar s ps
 done:∀k∈ky ps,k ∉ ws -> ∀y,(k,y)∈ar->y∈ky ps
structure RJ(ar:List (Int×Int))(s:Int)(band:Int)(todo:List (Int×Int))(ps:List (Int×Dv))(ws:List Int):Prop where
 nd:(ky ps).Nodup
 st:s∈ky ps
 rch:∀k∈ky ps,Rch ar s k
 sub:∀w∈ws,w∈ky ps
 bd:band∈ky ps
 tre:Tree ar s ps
 done:∀k∈ky ps,k ∉ ws -> ∀y,(k,y)∈ar->y∈ky ps \/ (k=band/\(k,y)∈todo)
theorem GZ{R1:Int}{E:En}{a1 a2:ae}{x0 x1:Sl}:∀(Ra:List (Int×Int)) (ps:List (Int×Dv)) (ws:List Int) (s5 s6:Sl),(∀p∈Ra,p∈ar)->RJ ar s R1 Ra ps ws->ps.length+Ra.length<=10000->ws.length<=ps.length ->
  (∀(ps':List (Int×Dv)) (ws':List Int) (t:Nat) (s5 s6:Sl),RJ ar s R1 [] ps' ws'->ps'.length=ps.length+t->ws'.length=ws.length+t->t<=Ra.length->E.nx [x0,x1,.own a1 (.dik (FN ps')),.own a2 (.lst (cD ws')),.v (.int R1),s5,s6]) ->
  aT (gT [5,6]) iK [] (dO Ra) E [x0,x1,.own a1 (.dik (FN ps)),.own a2 (.lst (cD ws)),.v (.int R1),s5,s6]:=by
 intro Ra;induction Ra with
 |nil=>
  intro ps ws s5 s6 hm J hl hw h;rw[show dO []=[] from rfl,b4];exact⟨λp hp=>by simp at hp,h ps ws 0 s5 s6 J rfl rfl (bg _)⟩
 |cons p Ra ih=>
  intro ps ws s5 s6 hm J hl hw h;obtain⟨x,y⟩:=p;rw[cj] at hl;have hm':∀p∈Ra,p∈ar:=λp hp=>hm p (bj _ hp);have hxy:(x,y)∈ar:=hm _ (bw ..);rw[show dO ((x,y)::Ra)=.tup [.int x,.int y]::dO Ra from rfl,aW];refine⟨λp hp=>by simp at hp,?_⟩;have nx:=λps ws s5 s6=>ih ps ws s5 s6 hm';generalize aT (gT [5,6]) iK [] (dO Ra) E=G at nx ⊢;have stay:(x=R1->y∈ky ps)->G [x0,x1,.own a1 (.dik (FN ps)),.own a2 (.lst (cD ws)),.v (.int R1),.v (.int x),.v (.int y)]:=λhy=>by
   refine nx ps ws _ _ ⟨J.nd,J.st,J.rch,J.sub,J.bd,J.tre,λk hk hn z hz=>?_⟩ ⋯ hw λps' ws' t s5 s6 J' e1 e2 e3=>h ps' ws' t s5 s6 J' e1 e2 (by rw[cj];right);rcases J.done k hk hn z hz with q | ⟨q1,q2⟩
   ·exact .inl q
   ·rcases de.mp q2 with q2 | q2
    ·cases q2;exact .inl (hy q1)
    ·exact .inr ⟨q1,q2⟩
  push_cast [iK,Ab];refine eN (λe=>?_) λe=>stay λz=>absurd z e;by_cases hy:y∈ky ps
  ·rw[decide_eq_true hy];exact jC (stay λ_=>hy)
  ·rw[decide_eq_false hy];refine jB ?_;push_cast [bc];refine⟨y,rfl,?_⟩;rw[JZ _ hy,show cD ws++[Dv.int y]=cD (ws++[y]) by simp];have ke:ky (ps++[(y,Dv.int R1)])=ky ps++[y]:=by simp
   refine⟨⋯,⋯,?_⟩;refine nx (ps++[(y,.int R1)]) (ws++[y]) _ _ ⟨?_,?_,λk hk=>?_,λw hw'=>?_,?_,J.tre.snoc J.bd (e ▸ hxy),λk hk hn z hz=>?_⟩ (by simp;right) (by simp;right) λps' ws' t s5 s6 J' e1 e2 e3=>h ps' ws' (t+1) s5 s6 J' (by rw[e1];simp;right) (by rw[e2];simp;right) (by rw[cj];right)
   ·rw[ke,ss];exact⟨J.nd,by simp,λa ha b hb=>by rw[cp.mp hb];exact λz=>hy (z ▸ ha)⟩
   ·rw[ke];exact fq _ J.st
   ·rw[ke] at hk;rcases ee.mp hk with hk | hk
    ·exact J.rch k hk
    ·rw[cp.mp hk];exact .step (J.rch R1 J.bd) (e ▸ hxy)
   ·rw[ke];rcases ee.mp hw' with hw' | hw'
    ·exact fq _ (J.sub w hw')
    ·exact dg _ hw'
   ·rw[ke];exact fq _ J.bd
   ·rw[ke] at hk ⊢;have hn1:k ∉ ws:=λz=>hn (fq _ z);have hk1:k∈ky ps:=by
     rcases ee.mp hk with hk | hk
     ·exact hk
     ·exact absurd (dg _ hk) hn
    rcases J.done k hk1 hn1 z hz with q | ⟨q1,q2⟩
    ·exact .inl (fq _ q)
    ·rcases de.mp q2 with q2 | q2
     ·cases q2;exact .inl (dg _ (cp.mpr rfl))
     ·exact .inr ⟨q1,q2⟩
noncomputable def g6:Fn:=λds Q=>∃(ar:List (Int×Int)) (s:Int),ds=[.lst (dO ar),.int s]/\ar.length<=200 /\ ∀ps:List (Int×Dv),(ky ps).Nodup->(∀k,k∈ky ps ↔ Rch ar s k)->Tree ar s ps->Q (.nw (.dik (FN ps)))
theorem yT:∀ds Q,g6 ds Q->ds.length=2:=by rintro ds Q ⟨_,_,rfl,_⟩;rfl
theorem nD:MonoF g6:=⟨λds Q Q' w z=>by obtain⟨p,q,e,a,h⟩:=z;exact⟨p,q,e,a,λps x y z=>w _ (h ps x y z)⟩⟩
theorem FM(nd:(ky ps).Nodup)(h:∀k∈ky ps,Rch ar s k):ps.length<=ar.length+1:=by
 have sub:∀k∈ky ps,k∈s::ar.map (·.2):=λk hk=>by
  cases h k hk with
  |base=>exact bw ..
  |step _ m=>exact bj _ (gq.mpr ⟨_,m,rfl⟩)
 have:=nd.length_le_of_subset (l₂:=s::ar.map (·.2)) (λk hk=>sub k hk);simpa using this
theorem Cb:∀ds Q,g6 ds Q->oS ↥Q (aJ ["arrows", "start", "told", "waiting", "band", "x", "y"] ds):=by
 rintro ds Q ⟨ar,s,rfl,hl,h⟩;ac_nf;refine⟨s,rfl,λa1=>?_⟩;intro a2;refine⟨λm ρ=>∃(ps:List (Int×Dv)) (ws:List Int) (s4 s5 s6:Sl),ρ=[.v (.lst (dO ar)),.v (.int s),.own a1 (.dik (FN ps)),.own a2 (.lst (cD ws)),s4,s5,s6]/\RI ar s ps ws/\ws.length<=ps.length/\m+2*ps.length=1000+ws.length,⟨999,[(s,.non)],[s],_,_,_,rfl,⟨by simp,by simp,λk hk=>?_,λw hw=>?_,⟨rfl,λj k d z=>(nomatch z)⟩,λk hk hn=>?_⟩,by simp,rfl⟩,λm ρ I=>?_⟩
 ·rw[show ky [(s,Dv.non)]=[s] from rfl] at hk;rw[cp.mp hk];exact .base
 ·exact hw
 ·exact absurd hk hn
 ·obtain⟨ps,ws,s4,s5,s6,rfl,I,hw,hm⟩:=I;ac_nf;cases ws with
  |nil=>
   refine jC (h ps I.nd (λk=>⟨I.rch k,λr=>?_⟩) I.tre);induction r with
   |base=>exact I.st
   |step _ m ih=>exact I.done _ ih (λz=>nomatch z) _ m
  |cons w ws0=>
   refine jB ?_;have el:w::ws0=(w::ws0).dropLast++[(w::ws0).getLast (by simp)]:=(qk _).symm;generalize (w::ws0).dropLast=vs at el;generalize (w::ws0).getLast _=R1 at el;rw[el] at I hw hm ⊢;refine⟨cD vs,.int R1,by simp,?_⟩;have lp:=FM I.nd I.rch;have bm:R1∈ky ps:=I.sub R1 (dg _ (cp.mpr rfl));refine GZ ar ps vs _ _ (λ_ h=>h) ⟨I.nd,I.st,I.rch,λw hw=>I.sub w (fq _ hw),bm,I.tre,λk hk hn y hy=>?_⟩ ⋯ (by simp at hw;right) λps' ws' t s5 s6 J e1 e2 e3=>?_
   ·by_cases e:k=R1
    ·exact .inr ⟨e,hy⟩
    ·refine .inl (I.done k hk (λz=>?_) y hy);rcases ee.mp z with z | z
     ·exact hn z
     ·exact e (cp.mp z)
   ·have lp':=FM J.nd J.rch;simp only[dj,cj,um] at hw hm;refine⟨1000+ws'.length-2*ps'.length,⋯,ps',ws',_,s5,s6,rfl,⟨J.nd,J.st,J.rch,J.sub,J.tre,λk hk hn y hy=>?_⟩,⋯,⋯⟩;rcases J.done k hk hn y hy with q | ⟨_,q⟩
    ·exact q
    ·exact nomatch q
end Lw
namespace Lw
open L2 Z
open Sf (Rw crs nU Pre Good aD aO)
structure Hd where
 a:Nat
 b:Nat
 w:Nat
noncomputable def wd(w:Nat):az:=if w=0 then "brace" else if w=1 then "more" else "less"
noncomputable abbrev wW(h:Hd):Dv:=.tup [.int h.a,.int h.b,.str (wd h.w)]
noncomputable def CP(ks:List Int)(a b:Nat):Bool:=decide (a<b)&&(decide (b<ks.length) && !decide (ks.getD a 0=ks.getD b 0))
noncomputable def DT(rows:List Rw)(h:Hd):Prop:=CP (aD rows) h.a h.b=ah
noncomputable def cS(h:Hd):List (Int×Int):=if h.w=0 then [((h.a:Int),(h.b:Int)),((h.b:Int),(h.a:Int))] else if h.w=1 then [((h.a:Int),(h.b:Int))] else [((h.b:Int),(h.a:Int))]
noncomputable def kK(hs:List Hd):List (Int×Int):=hs.flatMap cS
variable {ar':List (Int×Int)}{s y:Int}
theorem Rch.mono(h:∀p,p∈ar->p∈ar')(r:Rch ar s y):Rch ar' s y:=by
 induction r with
 |base=>exact .base
 |step _ m ih=>exact .step ih (h _ m)
theorem Ga(h:∀p,p∈ar ↔ p∈ar'):Rch ar s y ↔ Rch ar' s y:=⟨λr=>r.mono λp m=>(h p).mp m,λr=>r.mono λp m=>(h p).mpr m⟩
theorem Ay(w:Nat):cJ 8 (.str (wd w))=ah:=by
 unfold wd;split
 ·decide +kernel
 ·split<;>decide +kernel
variable {w:Nat}
theorem sL:eqD (.str (wd w)) (.str "brace")=decide (w=0):=by
 unfold wd;by_cases h:w=0
 ·rw[QL h,decide_eq_true h];decide +kernel
 ·rw[Qi h,decide_eq_false h];split<;>decide +kernel
theorem Bs(h:w≠0):eqD (.str (wd w)) (.str "more")=decide (w=1):=by
 unfold wd;rw[Qi h];by_cases h:w=1
 ·rw[QL h,decide_eq_true h];decide +kernel
 ·rw[Qi h,decide_eq_false h];decide +kernel
theorem Fk(w:Nat):(["brace", "more", "less"]:List az).any (· == wd w)=ah:=by
 unfold wd;split
 ·decide +kernel
 ·split<;>decide +kernel
noncomputable def qF(C:ae):Fn:=λds Q=>∃(rows:List Rw) (a b:Nat),ds=[bU C rows,.int a,.int b]/\Q (.v (.bl (CP (aD rows) a b)))
theorem F7:∀ds Q,qF C ds Q->ds.length=3:=by rintro ds Q ⟨_,_,_,rfl,_⟩;rfl
theorem HQ:MonoF (qF C):=⟨λds Q Q' w z=>by obtain⟨p,q,r,e,h⟩:=z;exact⟨p,q,r,e,w _ h⟩⟩
theorem Cd:∀ds Q,qF C ds Q->oU C qW (eS C) (gS C) ↥Q (aJ ["sides", "a", "b"] ds):=by
 rintro ds Q ⟨rows,a,b,rfl,h⟩;unfold CP at h;ac_nf;refine⟨_,ah,rfl,rfl,?_⟩;ac_nf;refine⟨_,ah,rfl,rfl,?_⟩;ac_nf;refine⟨_,_,rfl,rfl,?_⟩;rw[QL (show (0:Int)<=a by right)];refine⟨_,rfl,?_⟩;by_cases h1:a<b
 ·rw[decide_eq_true h1,lz] at h;rw[QL (show (a:Int)<b by right)];refine⟨rfl,rows,rfl,?_⟩;ac_nf;refine⟨_,rfl,?_⟩;by_cases h2:b<(aD rows).length
  ·rw[decide_eq_true h2,lz] at h;rw[QL (show (b:Int)<(aD rows).length by right)];refine⟨rfl,rows,a,rfl,⋯,?_⟩;ac_nf;refine⟨rfl,rows,b,rfl,h2,?_⟩;ac_nf;exact h
  ·rw[decide_eq_false h2] at h;rw[Qi (show ¬(b:Int)<(aD rows).length by right)];exact h
 ·rw[decide_eq_false h1] at h;rw[Qi (show ¬(a:Int)<b by right)];exact h
noncomputable abbrev OC(a b:Nat):Dv:=.tup [.int a,.int b,.str "held"]
inductive HoldB(ks:List Int):Dv->Bool->Prop
 |ok (h:Hd):HoldB ks (wW h) (CP ks h.a h.b)
 |bad (a b:Nat):HoldB ks (OC a b) aj
theorem IA:(["brace", "more", "less"]:List az).any (· == ("held" : az))=aj:=by decide +kernel
noncomputable def gB(C:ae):Fn:=λds Q=>∃(rows:List Rw) (d:Dv) (b:Bool),ds=[bU C rows,d]/\HoldB (aD rows) d b/\Q (.v (.bl b))
theorem FE:∀ds Q,gB C ds Q->ds.length=2:=by rintro ds Q ⟨_,_,_,rfl,_⟩;rfl
theorem HW:MonoF (gB C):=⟨λds Q Q' w z=>by obtain⟨p,q,b,e,a,h⟩:=z;exact⟨p,q,b,e,a,w _ h⟩⟩
theorem Ce:∀ds Q,gB C ds Q->oV (qF C) ↥Q (aJ ["sides", "thing"] ds):=by
 rintro ds Q ⟨rows,d,b,rfl,hb,q⟩;cases hb with
 |ok h=>
  ac_nf;refine⟨rfl,?_⟩;refine⟨rows,h.a,h.b,rfl,?_⟩;cases e:CP (aD rows) h.a h.b with
  |false=>
   rw[e] at q;ac_nf;exact q
  |true=>
   rw[e] at q;ac_nf;refine⟨_,rfl,?_⟩;rw[Fk];exact q
 |bad a b=>
  ac_nf;refine⟨rfl,?_⟩;refine⟨rows,a,b,rfl,?_⟩;cases e:CP (aD rows) a b with
  |false=>
   ac_nf;exact q
  |true=>
   ac_nf;refine⟨_,rfl,?_⟩;rw[IA];exact q
noncomputable def iT:Fn:=λds Q=>∃h:Hd,ds=[wW h]/\Q (.nw (.lst (dO (cS h))))
theorem He:∀ds Q,iT ds Q->ds.length=1:=by rintro ds Q ⟨_,rfl,_⟩;rfl
theorem KN:MonoF iT:=⟨λds Q Q' w z=>by obtain⟨p,e,h⟩:=z;exact⟨p,e,w _ h⟩⟩
theorem AH:∀ds Q,iT ds Q->mS ↥Q (aJ ["hold", "there", "back"] ds):=by
 rintro ds Q ⟨h,rfl,q⟩;ac_nf;refine⟨⟨Ay _,by decide +kernel⟩,?_⟩;rw[sL];unfold cS at q;by_cases e:h.w=0
 ·rw[QL e] at q;rw[decide_eq_true e];exact jB q
 ·rw[Qi e] at q;rw[decide_eq_false e];refine jC ⟨⟨Ay _,by decide +kernel⟩,?_⟩;rw[Bs e];by_cases e1:h.w=1
  ·rw[QL e1] at q;rw[decide_eq_true e1];exact jB q
  ·rw[Qi e1] at q;rw[decide_eq_false e1];exact jC q
end Lw
namespace Lw
open L2 Z
open Sf (Rw crs nU Pre Good aD aO)
noncomputable abbrev Oe(p:Int×Int):List Int:=[p.1,p.2]
noncomputable abbrev IX(ks:List (Int×Int)):List (List aY×Dv):=ks.map λp=>([bo p.1,bo p.2],.bl ah)
noncomputable def fK(ks:List (Int×Int))(p:Int×Int):List (Int×Int):=if p∈ks then ks else ks++[p]
theorem vR(p q:Int×Int):([bo p.1,bo p.2]:List aY)=[bo q.1,bo q.2] ↔ p=q:=by
 constructor
 ·intro h;injection h with h1 h2;injection h2 with h2 _;injection h1 with h1;injection h2 with h2;exact Prod.ext h1 h2
 ·rintro rfl;rfl
theorem JX(ks:List (Int×Int))(p:Int×Int):t3 (IX ks) [bo p.1,bo p.2] (.bl ah)=IX (fK ks p):=by
 unfold t3 fK;have e:(IX ks).any (λkv=>decide (kv.1=[bo p.1,bo p.2]))=decide (p∈ks):=by
  rw[Q5,Oz,sr,decide_eq_true_eq];constructor
  ·rintro⟨q,h1,h2⟩;have:=(vR q p).mp (by simpa using h2);exact this ▸ h1
  ·exact λh=>⟨p,h,by simp⟩
 rw[e];by_cases h:p∈ks
 ·rw[decide_eq_true h,QL rfl,QL h,jt];apply ku;intro q _;show (if [bo q.1,bo q.2]=[bo p.1,bo p.2] then _ else _)=_;split<;>rfl
 ·rw[decide_eq_false h,Qi ∅,Qi h];simp
theorem yW(ks:List (Int×Int))(p q:Int×Int):q∈fK ks p ↔ q∈ks \/ q=p:=by
 unfold fK;split
 ·rename_i h;exact⟨.inl,λz=>z.elim id λz=>z ▸ h⟩
 ·rw[ee,cp]
theorem I8{ks:List (Int×Int)}(h:ks.Nodup)(p:Int×Int):(fK ks p).Nodup:=by
 unfold fK;split
 ·exact h
 ·rename_i hp;rw[ss];exact⟨h,by simp,λa ha b hb=>by rw[cp.mp hb];exact λz=>hp (z ▸ ha)⟩
theorem sF(ks:List (Int×Int))(p:Int×Int):(fK ks p).length<=ks.length+1:=by
 unfold fK;split
 ·right
 ·simp
theorem sI(q:Int×Int):∀(ps ks:List (Int×Int)),q∈ps.foldl fK ks ↔ q∈ks \/ q∈ps
 | [],ks=>by simp
 |p::ps,ks=>by
  rw[Pj,sI q ps,yW,de,or_assoc]
theorem Br:∀(ps:List (Int×Int)) {ks:List (Int×Int)},ks.Nodup->(ps.foldl fK ks).Nodup
 | [],_,h=>h
 |p::ps,_,h=>Br ps (I8 h p)
theorem yZ:∀(ps ks:List (Int×Int)),(ps.foldl fK ks).length<=ks.length+ps.length
 | [],ks=>by simp
 |p::ps,ks=>by
  have h1:=yZ ps (fK ks p);have h2:=sF ks p;rw[Pj,cj];right
variable {E:En}{x1:Sl}
theorem Gk{x0 x3:Sl}:∀(ps ks:List (Int×Int)) (s4:Sl),ks.length+ps.length<=10000->(∀s4,E.nx [x0,x1,.own a (.dit (IX (ps.foldl fK ks))),x3,s4]) ->
  aT (gN 4) (lY (gB C) iT) [] (dO ps) E [x0,x1,.own a (.dit (IX ks)),x3,s4]:=by
 intro ps;induction ps with
 |nil=>
  intro ks s4 hl h;rw[show dO []=[] from rfl,b4];exact⟨λp hp=>by simp at hp,h _⟩
 |cons p ps ih=>
  intro ks s4 hl h;rw[cj] at hl;rw[show dO (p::ps)=.tup [.int p.1,.int p.2]::dO ps from rfl,aW];refine⟨λp hp=>by simp at hp,?_⟩;have nx:=λks s4=>ih ks s4;generalize aT (gN 4) (lY (gB C) iT) [] (dO ps) E=G at nx ⊢;push_cast [lY];refine⟨[bo p.1,bo p.2],rfl,by rw[bc];right,?_⟩;rw[JX];have:=sF ks p;exact nx _ _ ⋯ h
noncomputable def NC(hs:List Hd):Prop:=∃L:List (Int×Int),L.length<=63 /\ ∀p∈kK hs,p∈L
theorem C5(hs:List Hd):(kK hs).length<=2*hs.length:=by
 unfold kK;induction hs with
 |nil=>simp
 |cons h hs ih=>
  have pl:(cS h).length<=2:=by unfold cS;split<;>(try split)<;>simp
  rw[yw,dj,cj];right
theorem Gi{hs:List Hd}(fw:NC hs){Q:R->Prop}(h:∀ar:List (Int×Int),ar.length<=63->(∀p,p∈ar ↔ p∈kK hs)->Q (.nw (.lst (dO ar)))){E:En}(hE:∀r,Q r->E.rt r){x0 x1 s3 s4:Sl}{a:ae}:
  bK (i4 hZ (a9 (a8 2) aI)) E [x0,x1,.own a (.dit (IX ((kK hs).foldl fK []))),s3,s4]:=by
 have mem:=λq=>sI q (kK hs) [];have nd:((kK hs).foldl fK []).Nodup:=Br (kK hs) Pn;obtain⟨L,hL,hm⟩:=fw;have ln:((kK hs).foldl fK []).length<=63:=fo (nd.length_le_of_subset (l₂:=L) λp hp=>hm p (by have:=(mem p).mp hp;simpa using this)) hL;generalize (kK hs).foldl fK []=ks at ln mem ⊢;ac_nf;refine⟨ks.map Oe,1,by rw[jt,jt];rfl,by rw[bc];right,λl hl=>?_,λls pm _=>?_⟩
 ·obtain⟨p,_,rfl⟩:=gq.mp hl;rfl
 ·obtain⟨ps,pp,rfl⟩:=CW pm (its:=ks) rfl;rw[jt];refine hE _ (h ps (by rw[pp.length_eq];exact ln) λp=>?_);rw[pp.mem_iff,mem p];simp
noncomputable def j6(C:ae):Fn:=λds Q=>∃(rows:List Rw) (hs:List Hd),ds=[bU C rows,.lst (hs.map wW)]/\hs.length<=100/\(∀h∈hs,DT rows h)/\NC hs /\ ∀ar:List (Int×Int),ar.length<=63->(∀p,p∈ar ↔ p∈kK hs)->Q (.nw (.lst (dO ar)))
theorem Cy:∀ds Q,j6 C ds Q->ds.length=2:=by rintro ds Q ⟨_,_,rfl,_⟩;rfl
theorem rO:MonoF (j6 C):=⟨λds Q Q' w z=>by obtain⟨p,q,a,b,c,d,z⟩:=z;exact⟨p,q,a,b,c,d,λar h1 h2=>w _ (z ar h1 h2)⟩⟩
theorem Gj(QN:List Dv):∀(hs:List Hd) (ks:List (Int×Int)) (s3 s4:Sl),ks.length+2*hs.length<=10000->(∀h∈hs,DT rows h) ->
  (∀s3 s4,aT (gN 3) (hG (gB C) iT) [] QN E [.v (bU C rows),x1,.own a (.dit (IX ((kK hs).foldl fK ks))),s3,s4]) ->
  aT (gN 3) (hG (gB C) iT) [] (hs.map wW++QN) E [.v (bU C rows),x1,.own a (.dit (IX ks)),s3,s4]:=by
 intro hs;induction hs with
 |nil=>
  intro ks s3 s4 hl _ h;exact h _ _
 |cons hd hs ih=>
  intro ks s3 s4 hl ok h;rw[cj] at hl;rw[cb,vo,aW];refine⟨λp hp=>by simp at hp,?_⟩;have e2:(kK (hd::hs)).foldl fK ks=(kK hs).foldl fK ((cS hd).foldl fK ks):=by
   unfold kK;rw[yw,List.foldl_append]
  rw[e2] at h;have nx:=λks s3 s4 hl h=>ih ks s3 s4 hl (λz hz=>ok z (bj _ hz)) h;generalize aT (gN 3) (hG (gB C) iT) [] (hs.map wW++QN) E=G at nx ⊢;generalize aT (gN 3) (hG (gB C) iT) [] QN E=G2 at h nx;have pl:(cS hd).length<=2:=by unfold cS;split<;>(try split)<;>simp
  push_cast [hG];refine⟨rows,_,_,rfl,.ok hd,?_⟩;rw[show CP (aD rows) hd.a hd.b=ah from ok hd (bw ..)];ac_nf;refine⟨hd,rfl,?_⟩;ac_nf;refine Gk (cS hd) ks _ ⋯ λs4=>?_;have:=yZ (cS hd) ks;exact nx _ _ _ ⋯ h
theorem HB:∀ds Q,j6 C ds Q->uS (gB C) iT ↥Q (aJ ["sides", "holds", "told", "hold", "pull"] ds):=by
 rintro ds Q ⟨rows,hs,rfl,hl,ok,fw,h⟩;have e:=λ(s3 s4:Sl) (a:ae)=>@Gi hs fw Q h ↥Q (λr q=>q) (.v (bU C rows)) (.v (.lst (hs.map wW))) s3 s4 a;ac_nf;intro a;have k:=Gj (C:=C) (rows:=rows) (x1:=.v (.lst (hs.map wW))) (a:=a) (E:={ nx:=bK (i4 hZ (a9 (a8 2) aI)) ↥Q,rt:=Q }) [] hs [] .un .un (by simp;right) ok λs3 s4=>by
  rw[b4];exact⟨λp hp=>by simp at hp,e s3 s4 a⟩
 rw[fy] at k;exact k
noncomputable abbrev tr(l:List (Int×Int)):List (Int×Int):=l.map λp=>(p.2,p.1)
end Lw
namespace Lw
open L2 Z
open Sf (Rw crs nU Pre Good aD aO)
variable {hs:List Hd}
theorem qQ{p:Int×Int}:p∈kK hs ↔ ∃h∈hs,p∈cS h:=by
 unfold kK;rw[List.mem_flatMap]
variable {s y:Int}
theorem Rch.trans{x:Int}(h1:Rch ar s x)(h2:Rch ar x y):Rch ar s y:=by
 induction h2 with
 |base=>exact h1
 |step _ m ih=>exact .step ih m
theorem AV{a b:Int}:(a,b)∈tr ar ↔ (b,a)∈ar:=by
 rw[gq];constructor
 ·rintro⟨⟨x,y⟩,h,e⟩;cases e;exact h
 ·exact λh=>⟨_,h,rfl⟩
theorem Rch.rev(h:Rch ar s y):Rch (tr ar) y s:=by
 induction h with
 |base=>exact .base
 |step _ m ih=>exact Rch.trans (.step .base (AV.mpr m)) ih
theorem Rch.ver(h:Rch (tr ar) s y):Rch ar y s:=by
 induction h with
 |base=>exact .base
 |step _ m ih=>exact Rch.trans (.step .base (AV.mp m)) ih
noncomputable def IV(ar:List (Int×Int))(n:Nat):Prop:=∀x y,(x,y)∈ar->(0<=x/\x<n)/\0<=y/\y<n
theorem IV.tr{ar:List (Int×Int)}{n:Nat}(h:IV ar n):IV (tr ar) n:=λx y m=>(h y x (AV.mp m)).symm
theorem Rch.inb(ib:IV ar n)(hs:0<=s/\s<n)(h:Rch ar s y):0<=y/\y<n:=by
 cases h with
 |base=>exact hs
 |step _ m=>exact(ib _ _ m).2
theorem xO(ok:∀h∈hs,DT rows h):IV (kK hs) (aD rows).length:=λx y m=>by
 obtain⟨h,hh,hp⟩:=qQ.mp m;have o:=ok h hh;unfold DT CP at o;rw[cw,cw,decide_eq_true_eq,decide_eq_true_eq] at o;unfold cS at hp;split at hp
 ·simp only[de,gf,or_false,qa] at hp;right
 ·split at hp
  ·simp only[de,gf,or_false,qa] at hp;right
  ·simp only[de,gf,or_false,qa] at hp;right
theorem GE(nd:l.Nodup)(ib:∀k∈l,0<=k/\k<n)(h:n<=l.length){k:Nat}(hk:k<n):(k:Int)∈l:=by
 apply dq;intro z;have nd2:((k:Int)::l).Nodup:=ug.mpr ⟨z,nd⟩;have:=nd2.length_le_of_subset (l₂:=(ff n).map λk:Nat=>(k:Int)) λx hx=>by
  rcases de.mp hx with rfl | hx
  ·exact gq.mpr ⟨k,nh.mpr hk,rfl⟩
  ·have:=ib x hx;exact gq.mpr ⟨x.toNat,nh.mpr ⋯,⋯⟩
 simp at this;right
theorem sK(nd:l.Nodup)(ib:∀k∈l,0<=k/\k<n)(h:∀k:Nat,k<n->(k:Int)∈l):l.length=n:=by
 have h1:=nd.length_le_of_subset (l₂:=(ff n).map λk:Nat=>(k:Int)) λx hx=>by
  have:=ib x hx;exact gq.mpr ⟨x.toNat,nh.mpr ⋯,⋯⟩
 have nr:((ff n).map λk:Nat=>(k:Int)).Nodup:=pb.mpr (zi.imp λh z=>h (Int.ofNat.inj z));have h2:=nr.length_le_of_subset (l₂:=l) λx hx=>by
  obtain⟨k,hk,rfl⟩:=gq.mp hx;exact h k (nh.mp hk)
 simp at h1 h2;right
end Lw
namespace Lw
open L2 Z
open Sf (Rw crs nU Pre Good aD aO)
noncomputable def oQ(ar:List (Int×Int))(n:Nat)(s:Int):Prop:=∀k:Nat,k<n->Rch ar s k
structure FreeS(ar:List (Int×Int))(n:Nat)(ms:List Int):Prop where
 up:ms.Pairwise (· < ·)
 inb:∀x∈ms,0<=x/\x<n
 ne:ms≠[]
 few:ms.length<n
 cl:∀x∈ms,∀y,(x,y)∈ar->y∈ms
noncomputable def lP(C:ae):Fn:=λds Q=>∃(rows:List Rw) (hs:List Hd),ds=[bU C rows,.lst (hs.map wW)]/\hs.length<=100/\(∀h∈hs,DT rows h)/\NC hs/\(aD rows).length<=12 /\
   (∀(b:Nat) ms,b<(aD rows).length -> ¬oQ (kK hs) (aD rows).length b->FreeS (kK hs) (aD rows).length ms->Q (.v (.lst (cD ms)))) /\
   ((∀b:Nat,b<(aD rows).length->oQ (kK hs) (aD rows).length b)->Q (.v .non))
theorem FH:∀ds Q,lP C ds Q->ds.length=2:=by rintro ds Q ⟨_,_,rfl,_⟩;rfl
theorem vM:MonoF (lP C):=⟨λds Q Q' w z=>by obtain⟨p,q,a,b,c,d,e,z1,z2⟩:=z;exact⟨p,q,a,b,c,d,e,λb ms h1 h2 h3=>w _ (z1 b ms h1 h2 h3),λh=>w _ (z2 h)⟩⟩
theorem Kr{ar':List (Int×Int)}(al:ar.length<=63)(am:∀p,p∈ar ↔ p∈ar')(hn:(aD rows).length<=12)(ib:IV ar' (aD rows).length){E:En}{x1:Sl}
  (h1:∀(b:Nat) ms,b<(aD rows).length -> ¬oQ ar' (aD rows).length b->FreeS ar' (aD rows).length ms->E.rt (.v (.lst (cD ms)))) (h2:(∀b:Nat,b<(aD rows).length->oQ ar' (aD rows).length b) -> ∀s3 s4,E.nx [.v (bU C rows),x1,.v (.lst (dO ar)),s3,s4]):
  ∀(i k:Nat) (s3 s4:Sl),k+i=(aD rows).length->(∀b:Nat,b<k->oQ ar' (aD rows).length b) ->
  aT (gN 3) (oO C (j6 C) g6 (eS C)) [] (bN k i) E [.v (bU C rows),x1,.v (.lst (dO ar)),s3,s4]:=by
 intro i;induction i with
 |zero=>
  intro k s3 s4 hk ha;rw[d4,b4];exact⟨λp hp=>by simp at hp,h2 (λb hb=>ha b ⋯) _ _⟩
 |succ i ih=>
  intro k s3 s4 hk ha;rw[cI,aW,show ((k:Int)+1)=((k+1:Nat):Int) by right];refine⟨λp hp=>by simp at hp,?_⟩;have nx:=λs3 s4=>ih (k+1) s3 s4 ⋯;generalize aT (gN 3) (oO C (j6 C) g6 (eS C)) [] (bN ((k+1:Nat):Int) i) E=G at nx ⊢;push_cast [oO];refine⟨ar,k,rfl,⋯,λps nd km _=>?_⟩;have km:∀y,y∈ky ps ↔ Rch ar' k y:=λy=>(km y).trans (Ga am);have kb:∀y∈ky ps,0<=y/\y<(aD rows).length:=λy hy=>Rch.inb ib ⟨⋯,⋯⟩ ((km y).mp hy);have ll:(ky ps).length=ps.length:=bc ..;have le:ps.length<=(aD rows).length:=by
   have:=nd.length_le_of_subset (l₂:=(ff (aD rows).length).map λk:Nat=>(k:Int)) λx hx=>by
    have:=kb x hx;exact gq.mpr ⟨x.toNat,nh.mpr ⋯,⋯⟩
   simp at this;right
  ac_nf;refine⟨ky ps,by rw[jt,jt];rfl,⋯,λms pm up=>?_⟩;have lm:=pm.length_eq;push_cast [bc];refine⟨rfl,rows,rfl,?_⟩;ac_nf;refine eN (λlt=>?_) λge=>?_
  ·refine h1 k ms ⋯ (λa=>?_) ⟨?_,λx hx=>kb x (pm.mem_iff.mp hx),λe=>?_,⋯,λx hx y hy=>?_⟩
   ·have:=sK nd kb λy hy=>(km y).mpr (a y hy);right
   ·have nm:ms.Nodup:=pm.nodup_iff.mpr nd;exact(up.and nm).imp λ{a b} z=>by have z1:=z.1;have z2:=z.2;right
   ·have:(k:Int)∈ms:=pm.mem_iff.mpr ((km k).mpr .base);rw[e] at this;cases this
   ·exact pm.mem_iff.mpr ((km y).mpr (.step ((km x).mp (pm.mem_iff.mp hx)) hy))
  ·refine nx _ _ λb hb=>?_;by_cases e:b=k
   ·subst e;exact λy hy=>(km y).mp (GE nd kb ⋯ hy)
   ·exact ha b ⋯
theorem Jv:∀ds Q,lP C ds Q->A2 C (j6 C) g6 (eS C) ↥Q (aJ ["sides", "holds", "arrows", "band", "some"] ds):=by
 rintro ds Q ⟨rows,hs,rfl,hl,ok,fw,hn,h1,h2⟩;ac_nf;refine⟨rows,hs,rfl,hl,ok,fw,λar al am=>?_⟩;ac_nf;refine⟨rfl,rows,rfl,?_⟩;ac_nf;refine⟨⋯,?_⟩;rw[dw];refine Kr al am hn (xO ok) h1 (λa s3 s4=>?_) (aD rows).length 0 _ _ ⋯ (λb hb=>by right);ac_nf;exact h2 a
theorem CC(n0:0<n):(oQ ar n 0/\oQ (tr ar) n 0) ↔ ∀b:Nat,b<n->oQ ar n b:=by
 constructor
 ·exact λh b hb k hk=>(Rch.ver (h.2 b hb)).trans (h.1 k hk)
 ·exact λh=>⟨h 0 n0,λk hk=>Rch.rev (h k hk 0 n0)⟩
end Lw
namespace Lw
open L2 Z
open Sf (Rw crs nU Pre Good aD aO place many)
open Fl (kd ids)
noncomputable def mY:Fn:=λds Q=>∃x y p q r:Int,ds=[.tup [.int x,.int y],.tup [.int p,.int q,.int r]]/\x.natAbs<=1000000000000/\y.natAbs<=1000000000000/\p.natAbs<=1000000000000000000000000000000000000000000000000000000000000/\q.natAbs<=1000000000000000000000000000000000000000000000000000000000000/\Q (.v (.tup [.int (p*x-q*y),.int (q*x+p*y)]))
theorem Hb:∀ds Q,mY ds Q->ds.length=2:=by rintro ds Q ⟨_,_,_,_,_,rfl,_⟩;rfl
theorem KM:MonoF mY:=⟨λds Q Q' w z=>by obtain⟨a,b,c,d,e,f,g,h,i,j,k⟩:=z;exact⟨a,b,c,d,e,f,g,h,i,j,w _ k⟩⟩
theorem Ca:∀ds Q,mY ds Q->qV ↥Q (aJ ["vector", "turn", "x", "y"] ds):=by
 rintro ds Q ⟨x,y,p,q,r,rfl,h1,h2,h3,h4,h⟩;ac_nf;exact⟨bP (bT ⋯) (bT ⋯),bP (bT ⋯) (bT ⋯),bP (bT ⋯) (bT ⋯),bP (bT ⋯) (bT ⋯),h⟩
section
variable (rows:List Rw)(so:List Int)(p q:Int)
noncomputable def kx(b:Int):Int:=if b∈so then p*(vec rows b).x-q*(vec rows b).y else (vec rows b).x
noncomputable def Ht(b:Int):Int:=if b∈so then q*(vec rows b).x+p*(vec rows b).y else (vec rows b).y
noncomputable def kar(t:Int×Int):Int:=kx rows so p q t.1*Ht rows so p q t.2-kx rows so p q t.2*Ht rows so p q t.1
end
structure Tb(p q:Int):Prop where
 bp:p.natAbs<=1000000000000000000000000000000000000000000000000000000000000
 bq:q.natAbs<=1000000000000000000000000000000000000000000000000000000000000
variable {p q:Int}
theorem MJ{b:Int}(G:Good rows)(T:Tb p q)(h0:0<=b)(h1:b<(aD rows).length):(kx rows so p q b).natAbs<=2000000000000000000000000000000000000000000000000000000000000000000000000/\(Ht rows so p q b).natAbs<=2000000000000000000000000000000000000000000000000000000000000000000000000:=by
 obtain⟨vx,vy⟩:=jJ G h0 h1;have a1:=nb T.bp vx;have a2:=nb T.bq vy;have a3:=nb T.bq vx;have a4:=nb T.bp vy;unfold kx Ht;split<;>right
noncomputable abbrev BK(C:ae):bV:=kG C mY (kY C) (jQ C)
variable {x3 x4 x5 x6:Sl}
theorem O3{a b:Dv}{x0 x1 x2:Sl}{Q:List Sl->Prop}(h:Q [x0,x1,x2,.v a,.v b,x5,x6]):gT [3,4] (.tup [a,b]) [x0,x1,x2,x3,x4,x5,x6] Q:=by
 ac_nf;exact h
variable {a r:Int}{tl:bV}{E:En}
theorem Nv(G:Good rows)(T:Tb p q)(h0:0<=a)(h1:a<(aD rows).length)
  (h:tl E [.v (bU C rows),.v (.lst (cD so)),.v (.tup [.int p,.int q,.int r]),.v (.int a),x4,.v (.tup [.int (kx rows so p q a),.int (Ht rows so p q a)]),x6]):
  aN (bQ 5 (J6 (aZ (aL DS (a8 3) (a8 1))) (aQ mY (a9 (eQ C "vector" (jQ C) (a8 0) (a9 (a8 3) aI)) (a9 (a8 2) aI))) (eQ C "vector" (jQ C) (a8 0) (a9 (a8 3) aI)))) tl E
   [.v (bU C rows),.v (.lst (cD so)),.v (.tup [.int p,.int q,.int r]),.v (.int a),x4,x5,x6]:=by
 have hb:=jJ G h0 h1;ac_nf;refine I9 _ _ ?_;unfold kx Ht at h;ac_nf;refine eN (λz=>?_) λz=>?_
 ·rw[QL z,QL z] at h;refine⟨rfl,rows,a,rfl,h0,h1,?_⟩;ac_nf;refine⟨_,_,p,q,r,rfl,hb.1,hb.2,T.bp,T.bq,?_⟩;ac_nf;exact h
 ·rw[Qi z,Qi z] at h;refine⟨rfl,rows,a,rfl,h0,h1,?_⟩;ac_nf;exact h
theorem Nu(G:Good rows)(T:Tb p q)(h0:0<=a)(h1:a<(aD rows).length)
  (h:tl E [.v (bU C rows),.v (.lst (cD so)),.v (.tup [.int p,.int q,.int r]),x3,.v (.int a),x5,.v (.tup [.int (kx rows so p q a),.int (Ht rows so p q a)])]):
  aN (bQ 6 (J6 (aZ (aL DS (a8 4) (a8 1))) (aQ mY (a9 (eQ C "vector" (jQ C) (a8 0) (a9 (a8 4) aI)) (a9 (a8 2) aI))) (eQ C "vector" (jQ C) (a8 0) (a9 (a8 4) aI)))) tl E
   [.v (bU C rows),.v (.lst (cD so)),.v (.tup [.int p,.int q,.int r]),x3,.v (.int a),x5,x6]:=by
 have hb:=jJ G h0 h1;ac_nf;refine I9 _ _ ?_;unfold kx Ht at h;ac_nf;refine eN (λz=>?_) λz=>?_
 ·rw[QL z,QL z] at h;refine⟨rfl,rows,a,rfl,h0,h1,?_⟩;ac_nf;refine⟨_,_,p,q,r,rfl,hb.1,hb.2,T.bp,T.bq,?_⟩;ac_nf;exact h
 ·rw[Qi z,Qi z] at h;refine⟨rfl,rows,a,rfl,h0,h1,?_⟩;ac_nf;exact h
theorem Nw(G:Good rows)(T:Tb p q):∀(l:List (Int×Int)) (s3 s4 s5 s6:Sl),(∀t∈l,(0<=t.1/\t.1<(aD rows).length)/\0<=t.2/\t.2<(aD rows).length) ->
  ((∀t∈l,0<kar rows so p q t) -> ∀s3 s4 s5 s6,E.nx [.v (bU C rows),.v (.lst (cD so)),.v (.tup [.int p,.int q,.int r]),s3,s4,s5,s6])->(¬(∀t∈l,0<kar rows so p q t)->E.rt (.v (.bl aj))) ->
  aT (gT [3,4]) (BK C) [] (dO l) E [.v (bU C rows),.v (.lst (cD so)),.v (.tup [.int p,.int q,.int r]),s3,s4,s5,s6]:=by
 intro l;induction l with
 |nil=>
  intro s3 s4 s5 s6 _ h _;rw[show dO []=[] from rfl,b4];exact⟨λp hp=>by simp at hp,h (λt ht=>by cases ht) _ _ _ _⟩
 |cons t l ih=>
  intro s3 s4 s5 s6 hi h hf;rw[show dO (t::l)=.tup [.int t.1,.int t.2]::dO l from rfl,aW];refine⟨λp hp=>by simp at hp,O3 ?_⟩;obtain⟨⟨a0,a1⟩,b0,b1⟩:=hi t (bw ..);obtain⟨c1,c2⟩:=MJ (so:=so) G T a0 a1;obtain⟨c3,c4⟩:=MJ (so:=so) G T b0 b1;have nx:=λ(pt:0<kar rows so p q t) s3 s4 s5 s6=>ih s3 s4 s5 s6 (λx hx=>hi x (bj _ hx)) (λha=>h λu hu=>by
   rcases de.mp hu with rfl | hu
   ·exact pt
   ·exact ha u hu) (λhn=>hf λz=>hn λu hu=>z u (bj _ hu))
  generalize aT (gT [3,4]) (BK C) [] (dO l) E=GG at nx ⊢;refine Nv G T a0 a1 (Nu G T b0 b1 ?_);unfold kar at nx hf;ac_nf;refine⟨bP (bT ⋯) (bT ⋯),bP (bT ⋯) (bT ⋯),eN (λz=>?_) λz=>?_⟩
  ·exact hf λy=>by
    have:=y t (bw ..);right
  ·exact nx ⋯ _ _ _ _
noncomputable def B1(C:ae):Fn:=λds Q=>∃(rows:List Rw) (so:List Int) (p q r:Int),ds=[bU C rows,.lst (cD so),.tup [.int p,.int q,.int r]]/\Good rows/\Tb p q/\(aD rows).length<=12/\((∀t∈bG (aD rows),0<kar rows so p q t)->Q (.v (.bl ah)))/\(¬(∀t∈bG (aD rows),0<kar rows so p q t)->Q (.v (.bl aj)))
theorem Ka:∀ds Q,B1 C ds Q->ds.length=3:=by rintro ds Q ⟨_,_,_,_,_,rfl,_⟩;rfl
theorem MA:MonoF (B1 C):=⟨λds Q Q' w z=>by obtain⟨a,b,c,d,e,f,g,h,i,j,k⟩:=z;exact⟨a,b,c,d,e,f,g,h,i,λz=>w _ (j z),λz=>w _ (k z)⟩⟩
theorem t9:∀ds Q,B1 C ds Q->iS C mY (kY C) (jQ C) ↥Q (aJ ["sides", "some", "turn", "a", "b", "one", "other"] ds):=by
 rintro ds Q ⟨rows,so,p,q,r,rfl,G,T,hn,h1,h2⟩;ac_nf;refine⟨rfl,rows,rfl,hn,?_⟩;ac_nf;refine Nw G T _ _ _ _ _ (λt ht=>?_) (λha s3 s4 s5 s6=>?_) h2
 ·have:=dS.mp ht;right
 ·ac_nf;exact h1 ha
end Lw
namespace Lw
open L2 Z
open Sf (Rw crs nU Pre Good aD aO place many)
open Fl (kd ids)
section
variable (rows:List Rw)
noncomputable def cr(t:Int×Int):Int:=(vec rows t.1).x*(vec rows t.2).y-(vec rows t.2).x*(vec rows t.1).y
noncomputable def dt(t:Int×Int):Int:=(vec rows t.1).x*(vec rows t.2).x+(vec rows t.1).y*(vec rows t.2).y
end
theorem Ap(G:Good rows)(M:qD (aD rows)){t:Int×Int}(ht:t∈bG (aD rows)):0<cr rows t:=by
 obtain⟨h0,h1,h2,h3⟩:=dS.mp ht;have le:=M t.1 t.2 h0 ⋯ h2;have b1:=Bk h0 (show t.1<(aD rows).length by right);have b2:=Bk (show 0<=t.2 by right) h2;have k:=fc.mp G.srt (kd (aD rows) t.1).toNat (kd (aD rows) t.2).toNat ⋯ ⋯ ⋯;have gd:∀(j:Nat) (h:j<rows.length),rows.getD j ⟨0,0,0⟩=rows[j]:=λj h=>by simp[jw,h]
 unfold cr vec;rw[gd _ ⋯,gd _ ⋯];exact k
theorem Bl(rows:List Rw)(so:List Int)(p q:Int)(t:Int×Int):kar rows so p q t=if t.1∈so then (if t.2∈so then (p*p+q*q)*cr rows t else p*cr rows t-q*dt rows t) else (if t.2∈so then p*cr rows t+q*dt rows t else cr rows t):=by
 unfold kar kx Ht cr dt;generalize (vec rows t.1).x=a;generalize (vec rows t.1).y=b;generalize (vec rows t.2).x=c;generalize (vec rows t.2).y=d;by_cases h1:t.1∈so<;>by_cases h2:t.2∈so
 ·rw[QL h1,QL h2,QL h2,QL h1,QL h1,QL h2];grind
 ·rw[QL h1,Qi h2,Qi h2,QL h1,QL h1,Qi h2];grind
 ·rw[Qi h1,QL h2,QL h2,Qi h1,Qi h1,QL h2];grind
 ·rw[Qi h1,Qi h2,Qi h2,Qi h1,Qi h1,Qi h2]
theorem Ma(G:Good rows){t:Int×Int}(ht:t∈bG (aD rows)):(dt rows t).natAbs<=2000000000000000000000000:=by
 obtain⟨h0,h1,h2,h3⟩:=dS.mp ht;obtain⟨a1,a2⟩:=jJ G h0 (show t.1<(aD rows).length by right);obtain⟨b1,b2⟩:=jJ G (show 0<=t.2 by right) h2;have c1:=nb a1 b1;have c2:=nb a2 b2;unfold dt;right
variable {m:Int}
theorem late(G:Good rows)(M:qD (aD rows))(hm:4000000000000000000000001<=m):∀t∈bG (aD rows),0<kar rows so (m*m-1) (2*m) t:=λt ht=>by
 have c0:=Ap G M ht;have d0:=Ma G ht;rw[Bl];generalize cr rows t=c at *;generalize dt rows t=d at *;have mm:m*4000000000000000000000001<=m*m:=dr hm ⋯;have p1:(m*m-1)*1<=(m*m-1)*c:=dr ⋯ ⋯;have d1:m*d<=m*2000000000000000000000000:=dr ⋯ ⋯;have d2:m*(-d)<=m*2000000000000000000000000:=dr ⋯ ⋯;rw[P0] at d2;have q:2*m*d=2*(m*d):=lj ..;split
 ·split
  ·refine li ?_ c0;have s1:0<=(m*m-1)*(m*m-1):=ja ⋯ ⋯;have s2:0<2*m*(2*m):=li ⋯ ⋯;right
  ·right
 ·split
  ·right
  ·exact c0
noncomputable def tm(m:Int):Dv:=.tup [.int (m*m-1),.int (2*m),.int (m*m+1)]
theorem v8(h:i<=90):((2:Int) ^ i).natAbs<=1237940039285380274899124224/\(1:Int)<=2 ^ i:=by
 have p1:0<2 ^ i:=Nat.pow_pos ∅;have p2:2 ^ i<=2 ^ 90:=Nat.pow_le_pow_right ∅ h;rw[show (2:Int) ^ i=((2 ^ i:Nat):Int) by simp];right
theorem Dk(h:m.natAbs<=1237940039285380274899124224):Tb (m*m-1) (2*m):=by
 have:=nb h h;exact⟨⋯,⋯⟩
noncomputable def tW(C:ae):Fn:=λds Q=>∃(rows:List Rw) (so:List Int),ds=[bU C rows,.lst (cD so)]/\Good rows/\qD (aD rows)/\(aD rows).length<=12 /\ ∀i:Nat,1<=i->i<=90->(∀t∈bG (aD rows),0<kar rows so (2 ^ i*2 ^ i-1) (2*2 ^ i) t)->Q (.v (tm (2 ^ i)))
theorem KZ:∀ds Q,tW C ds Q->ds.length=2:=by rintro ds Q ⟨_,_,rfl,_⟩;rfl
theorem M9:MonoF (tW C):=⟨λds Q Q' w z=>by obtain⟨a,b,c,d,e,f,h⟩:=z;exact⟨a,b,c,d,e,f,λi x y z=>w _ (h i x y z)⟩⟩
theorem AG:∀ds Q,tW C ds Q->mR (B1 C) ↥Q (aJ ["sides", "some", "m", "turn"] ds):=by
 rintro ds Q ⟨rows,so,rfl,G,M,hn,h⟩;ac_nf;refine⟨λj ρ=>∃i:Nat,j+i=90/\1<=i/\ρ=[.v (bU C rows),.v (.lst (cD so)),.v (.int (2 ^ i)),.v (tm (2 ^ i))],⟨89,1,rfl,by decide,rfl⟩,?_⟩;rintro j ρ ⟨i,hj,hi,rfl⟩;obtain⟨mb,m1⟩:=v8 (i:=i) ⋯;have tb:=Dk mb;have key:=λz=>h i hi ⋯ z;push_cast [tm];refine⟨rows,so,_,_,_,rfl,G,tb,hn,λha=>?_,λhf=>?_⟩
 ·ac_nf;exact key ha
 ·ac_nf;have lt:i<90:=dq λz=>hf (late G M (by
   rw[show i=90 by right];decide))
  have e:(2:Int)*2 ^ i=2 ^ (i+1):=by rw[Q6,vp]
  obtain⟨nb2,_⟩:=v8 (i:=i+1) ⋯;rw[e];have g1:=bT (fo mb ∅);have g2:=bT (fo nb2 ∅);have g3:(2:Int).natAbs<=10 ^ 1000:=bT ∅;exact⟨bP g3 g1,bP g2 g2,bP g3 g2,bP g2 g2,j-1,⋯,i+1,⋯,⋯,rfl⟩
end Lw
namespace Lw
open L2 Z
open Sf (Rw crs nU Pre Good aD aO place many)
open Fl (kd ids)
variable {E:En}
theorem Nm(m:qD ks){x:Nat}:∀(i b:Nat) (acc:List (Int×Int)) (s3:Sl),x<b->b+i<=ks.length->acc.length+i<=1000->(∀s3,E.nx [.v (.lst (cD ks)),.own a (.lst (dO (acc++Aa ks x i b))),.v (.int x),s3]) ->
  aT (gN 3) gG [] (bN b i) E [.v (.lst (cD ks)),.own a (.lst (dO acc)),.v (.int x),s3]:=by
 intro i;induction i with
 |zero=>
  intro b acc s3 _ _ _ h;rw[d4,b4];rw[show Aa ks x 0 b=[] from rfl,fy] at h;exact⟨λp hp=>by simp at hp,h _⟩
 |succ i ih=>
  intro b acc s3 hb hi hl h;rw[cI,aW];refine⟨λp hp=>by simp at hp,?_⟩;rw[show ((b:Int)+1)=((b+1:Nat):Int) by right];have nx:=λacc s3=>ih (b+1) acc s3 ⋯ ⋯;generalize aT (gN 3) gG [] (bN ((b+1:Nat):Int) i) E=G at nx ⊢;have mo:=m x b ⋯ ⋯ ⋯;rw[Aa] at h;push_cast [gG];rw[qP (show x<ks.length by right),qP (show b<ks.length by right)];push_cast [bc];have k1:kd ks (x:Int)=ks.getD x 0:=by unfold kd;rw[dw]
  have k2:kd ks (b:Int)=ks.getD b 0:=by unfold kd;rw[dw]
  rw[k1,k2] at mo;rw[k1,k2] at h;refine eN (λq=>?_) λq=>?_
  ·refine⟨⋯,?_⟩;rw[show dO acc++[Dv.tup [Dv.int (x:Int),Dv.int (b:Int)]]=dO (acc++[((x:Int),(b:Int))]) by simp];refine nx _ _ (by simp;right) λs3=>?_;rw[Qi ⋯] at h;rw[oq];exact h s3
  ·refine nx _ _ ⋯ λs3=>?_;rw[QL ⋯,mw] at h;exact h s3
theorem Nl(m:qD ks)(hn:ks.length<=12):∀(i x:Nat) (acc:List (Int×Int)) (s2 s3:Sl),x+i=ks.length->acc.length+12*i<=900->(∀s2 s3,E.nx [.v (.lst (cD ks)),.own a (.lst (dO (acc++pB ks i x))),s2,s3]) ->
  aT (gN 2) gF [] (bN x i) E [.v (.lst (cD ks)),.own a (.lst (dO acc)),s2,s3]:=by
 intro i;induction i with
 |zero=>
  intro x acc s2 s3 _ _ h;rw[d4,b4];rw[show pB ks 0 x=[] from rfl,fy] at h;exact⟨λp hp=>by simp at hp,h _ _⟩
 |succ i ih=>
  intro x acc s2 s3 hi hl h;rw[cI,aW];refine⟨λp hp=>by simp at hp,?_⟩;rw[show ((x:Int)+1)=((x+1:Nat):Int) by right];have nx:=λacc s2 s3=>ih (x+1) acc s2 s3 ⋯;generalize aT (gN 2) gF [] (bN ((x+1:Nat):Int) i) E=G at nx ⊢;rw[pB] at h;have il:=qJ ks x (ks.length-(x+1)) (x+1);push_cast [gF,bc];rw[show ((x:Int)+1)=((x+1:Nat):Int) by right];refine⟨⋯,?_⟩;rw[show ((ks.length:Int)-((x+1:Nat):Int)).toNat=ks.length-(x+1) by right];refine Nm m _ (x+1) acc _ ⋯ ⋯ ⋯ λs3=>?_;refine nx _ _ _ (by rw[dj];right) λs2 s3=>?_;rw[oq];exact h s2 s3
noncomputable def jR:Fn:=λds Q=>∃ks:List Int,ds=[.lst (cD ks)]/\ks.length<=12/\qD ks/\Q (.nw (.lst (dO (bG ks))))
theorem Hj:∀ds Q,jR ds Q->ds.length=1:=by rintro ds Q ⟨_,rfl,_⟩;rfl
theorem Ey:MonoF jR:=⟨λds Q Q' w z=>by obtain⟨a,b,c,d,e⟩:=z;exact⟨a,b,c,d,w _ e⟩⟩
theorem xX:∀ds Q,jR ds Q->kT ↥Q (aJ ["_law_bands_here", "_law_found", "_law_a", "_law_b"] ds):=by
 rintro ds Q ⟨ks,rfl,hn,m,q⟩;push_cast [bc];refine λa=>⟨⋯,?_⟩;rw[dw];refine Nl m hn ks.length 0 [] _ _ ⋯ (by simp;right) λs2 s3=>?_;rw[mw];ac_nf;exact q
variable {i:Int}
theorem Mi{l:List (Int×Int)}(h0:0<=i)(h:i<l.length):∃t∈l,j3 (dO l) i=aa (.tup [.int t.1,.int t.2]):=by
 have hj:i.toNat<l.length:=⋯;refine⟨l[i.toNat],iw hj,?_⟩;have a:=L2.dM (xs:=dO l) (j:=i.toNat) (v:=.tup [.int l[i.toNat].1,.int l[i.toNat].2]) (by rw[bh,bz hj];rfl);rw[show ((i.toNat:Nat):Int)=i by right] at a;exact a
theorem Mh(h0:0<=i)(h:i<3):∃w:Nat,j3 [Dv.str "brace",.str "more",.str "less"] i=aa (.str (wd w)):=by
 obtain rfl | rfl | rfl:i=0 \/ i=1 \/ i=2:=⋯
 ·exact⟨0,rfl⟩
 ·exact⟨1,rfl⟩
 ·exact⟨2,rfl⟩
noncomputable abbrev pH(hs:List Hd):List Dv:=hs.map wW
noncomputable def lM:Fn:=λds Q=>∃(ks:List Int) (c:Int),ds=[.lst (cD ks),.int c]/\ks.length<=12/\qD ks/\bG ks≠[] /\ ∀hs:List Hd,hs.length<=15->(∀h∈hs,CP ks h.a h.b=ah)->Q (.nw (.lst (pH hs)))
theorem FA:∀ds Q,lM ds Q->ds.length=2:=by rintro ds Q ⟨_,_,rfl,_⟩;rfl
theorem HS:MonoF lM:=⟨λds Q Q' w z=>by obtain⟨a,b,c,d,e,f,h⟩:=z;exact⟨a,b,c,d,e,f,λx y z=>w _ (h x y z)⟩⟩
variable {x0 x1:Sl}
theorem MQ(hn:ks.length<=12)(ne:bG ks≠[]):∀(i k:Nat) (hs:List Hd) (QN:Int) (s5 s6 s7:Sl),hs.length+i<=15->(∀h∈hs,CP ks h.a h.b=ah) ->
  (∀(hs:List Hd) (QN:Int) (s5 s6 s7:Sl),hs.length<=15->(∀h∈hs,CP ks h.a h.b=ah)->E.nx [x0,x1,.v (.lst (dO (bG ks))),.own a (.lst (pH hs)),.v (.int QN),s5,s6,s7]) ->
  aT (gN 5) (iX jR) [] (bN k i) E [x0,x1,.v (.lst (dO (bG ks))),.own a (.lst (pH hs)),.v (.int QN),s5,s6,s7]:=by
 intro i;have pl:1<=(bG ks).length:=by
  cases e:bG ks with
  |nil=>exact absurd e ne
  |cons t l=>simp
 have pl2:(bG ks).length<=12*12:=fo (rL ks ks.length 0) (ux hn hn);induction i with
 |zero=>
  intro k hs QN s5 s6 s7 hl ok h;rw[d4,b4];exact⟨λp hp=>by simp at hp,h _ _ _ _ _ ⋯ ok⟩
 |succ i ih=>
  intro k hs QN s5 s6 s7 hl ok h;rw[cI,aW,show ((k:Int)+1)=((k+1:Nat):Int) by right];refine⟨λp hp=>by simp at hp,MT ?_⟩;have nx:=λhs QN s5 s6 s7 l o=>ih (k+1) hs QN s5 s6 s7 l o h;generalize aT (gN 5) (iX jR) [] (bN ((k+1:Nat):Int) i) E=G at nx ⊢;have u1:=jk (QN / 3) (show ((bG ks).length:Int)≠0 by right);have u2:=ga (QN / 3) (show (0:Int)<(bG ks).length by right);have v1:=jk QN (show (3:Int)≠0 by decide);have v2:=ga QN (show (0:Int)<3 by decide);obtain⟨t,ht,et⟩:=Mi (l:=bG ks) u1 u2;obtain⟨w,ew⟩:=Mh v1 v2;obtain⟨p0,p1,p2,p3⟩:=dS.mp ht;push_cast [bc,et,ew];refine⟨⋯,⋯,Dp ⋯ ⋯,⟨⋯,⋯⟩,?_⟩;have e:pH hs++[Dv.tup [Dv.int t.1,Dv.int t.2,Dv.str (wd w)]]=pH (hs++[⟨t.1.toNat,t.2.toNat,w⟩]):=by
   have e1:((t.1.toNat:Nat):Int)=t.1:=⋯;have e2:((t.2.toNat:Nat):Int)=t.2:=⋯;unfold pH;rw[lb];show _=hs.map wW++[Dv.tup [.int ((t.1.toNat:Nat):Int),.int ((t.2.toNat:Nat):Int),.str (wd w)]];rw[e1,e2]
  rw[e];refine nx _ _ _ _ _ (by simp;right) λh hh=>?_;rcases ee.mp hh with hh | hh
  ·exact ok h hh
  ·rw[cp.mp hh];unfold CP;unfold kd at p3;show (decide (t.1.toNat<t.2.toNat)&&(decide (t.2.toNat<ks.length) && !decide (ks.getD t.1.toNat 0=ks.getD t.2.toNat 0)))=ah;rw[decide_eq_true (show t.1.toNat<t.2.toNat by right),decide_eq_true (show t.2.toNat<ks.length by right),decide_eq_false p3];rfl
theorem xY:∀ds Q,lM ds Q->kU jR ↥Q (aJ ["_law_bands_here", "_law_cell", "_law_pairs_here", "_law_holds_here", "_law_rest", "_law_k", "_law_a", "_law_b"] ds):=by
 rintro ds Q ⟨ks,c,rfl,hn,m,ne,h⟩;have v1:=jk c (show (16:Int)≠0 by decide);have v2:=ga c (show (0:Int)<16 by decide);ac_nf;refine⟨ks,rfl,hn,m,?_⟩;ac_nf;refine λa=>⟨⋯,?_⟩;refine MQ hn ne _ 0 [] _ _ _ _ (by simp;right) (λh hh=>by cases hh) λhs QN s5 s6 s7 hl ok=>?_;ac_nf;exact h hs hl ok
variable {w:Nat}
theorem Bt:eqD (.str (wd w)) (.str "less")=decide (w≠0/\w≠1):=by
 unfold wd;by_cases h:w=0
 ·rw[QL h,decide_eq_false ⋯];decide +kernel
 ·rw[Qi h];by_cases h1:w=1
  ·rw[QL h1,decide_eq_false ⋯];decide +kernel
  ·rw[Qi h1,decide_eq_true ⋯];decide +kernel
theorem l9:eqD (.str (wd w)) (.str "more")=decide (w=1):=by
 by_cases h:w=0
 ·rw[h];decide +kernel
 ·exact Bs h
noncomputable def lN:Fn:=λds Q=>∃hs:List Hd,ds=[.lst (pH hs)]/\hs.length<=100/\Q (.nw (.lst (dO (kK hs))))
theorem FC:∀ds Q,lN ds Q->ds.length=1:=by rintro ds Q ⟨_,rfl,_⟩;rfl
theorem HV:MonoF lN:=⟨λds Q Q' w z=>by obtain⟨a,b,c,h⟩:=z;exact⟨a,b,c,w _ h⟩⟩
theorem Kp{a b c:Dv}{x2 x3 x4:Sl}{Q:List Sl->Prop}(h:Q [x0,x1,.v a,.v b,.v c]):gT [2,3,4] (.tup [a,b,c]) [x0,x1,x2,x3,x4] Q:=by
 ac_nf;exact h
theorem Mj{h:Hd}{acc:List (Int×Int)}(al:acc.length<=1000)(k:E.nx [x0,.own a (.lst (dO (acc++cS h))),.v (.int h.a),.v (.int h.b),.v (.str (wd h.w))]):
  fV E [x0,.own a (.lst (dO acc)),.v (.int h.a),.v (.int h.b),.v (.str (wd h.w))]:=by
 have ok:=Ay h.w;have o1:cJ 8 (.str "less")=ah:=by decide +kernel
 have o2:cJ 8 (.str "more")=ah:=by decide +kernel
 unfold cS at k;push_cast [fV,bc,dj];refine⟨⟨ok,o1⟩,eN (λz=>?_) λz=>?_⟩
 ·rw[Bt,jl,decide_eq_false_iff_not] at z;refine⟨⋯,⟨ok,o2⟩,eN (λy=>?_) λy=>?_⟩
  ·rw[l9,jl,decide_eq_false_iff_not] at y;refine⟨⋯,?_⟩;rw[QL ⋯,<- fy [((h.a:Int),(h.b:Int)),((h.b:Int),(h.a:Int))]] at k;simpa using k
  ·rw[l9,jl,decide_eq_false_iff_not] at y;rw[Qi ⋯,QL ⋯] at k;simpa using k
 ·rw[Bt,jl,decide_eq_false_iff_not] at z;refine⟨⟨ok,o2⟩,eN (λy=>?_) λy=>?_⟩
  ·refine⟨⋯,?_⟩;rw[Qi ⋯,Qi ⋯] at k;simpa using k
  ·rw[l9,jl,decide_eq_false_iff_not] at y;right
theorem Ml:∀(hs:List Hd) (acc:List (Int×Int)) (s2 s3 s4:Sl),acc.length+2*hs.length<=1000->(∀s2 s3 s4,E.nx [x0,.own a (.lst (dO (acc++kK hs))),s2,s3,s4]) ->
  aT (gT [2,3,4]) fV [] (pH hs) E [x0,.own a (.lst (dO acc)),s2,s3,s4]:=by
 intro hs;induction hs with
 |nil=>
  intro acc s2 s3 s4 _ h;rw[show pH []=[] from rfl,b4];rw[show kK []=[] from rfl,fy] at h;exact⟨λp hp=>by simp at hp,h _ _ _⟩
 |cons d hs ih=>
  intro acc s2 s3 s4 hl h;rw[cj] at hl;rw[show pH (d::hs)=.tup [.int d.a,.int d.b,.str (wd d.w)]::pH hs from rfl,aW];refine⟨λp hp=>by simp at hp,Kp (Mj ⋯ ?_)⟩;have pl:(cS d).length<=2:=by unfold cS;split<;>(try split)<;>simp
  refine ih _ _ _ _ (by rw[dj];right) λs2 s3 s4=>?_;rw[oq];exact h _ _ _
theorem vD:∀ds Q,lN ds Q->jP ↥Q (aJ ["_law_holds_here", "_law_arrows_here", "_law_a", "_law_b", "_law_word"] ds):=by
 rintro ds Q ⟨hs,rfl,hl,h⟩;ac_nf;intro a;refine Ml hs [] _ _ _ (by simp;right) λs2 s3 s4=>?_;rw[mw];ac_nf;exact h
end Lw
namespace Lw
open L2 Z
open Sf (Rw crs nU Pre Good aD aO place many)
open Fl (kd ids)
noncomputable abbrev Dq(l:List Int):KD:=l.map λk=>(bo k,.bl ah)
noncomputable def vS(l:List Int)(k:Int):List Int:=if k∈l then l else l++[k]
theorem Fp(l:List Int)(i:Int):hasK (Dq l) i=decide (i∈l):=by
 have e:Dq l=FN (l.map λk=>(k,Dv.bl ah)):=by unfold Dq FN;rw[jt];rfl
 have k:ky (l.map λk=>(k,Dv.bl ah))=l:=by unfold ky;rw[jt];exact List.map_id l
 rw[e,Ab,k]
theorem JY(l:List Int)(i:Int):pS (Dq l) (bo i) (.bl ah)=Dq (vS l i):=by
 have h:=Fp l i;unfold hasK at h;unfold pS vS;rw[h];by_cases e:i∈l
 ·rw[QL (decide_eq_true e),QL e];unfold Dq;rw[jt];refine ku λx _=>?_;show (if (_:aY)=_ then _ else _)=_;split<;>rfl
 ·rw[Qi (by simpa using e),Qi e];unfold Dq;rw[lb];rfl
noncomputable def stp(l:List Int)(p:Int×Int):List Int:=if p.1∈l then vS l p.2 else l
noncomputable def rnd(ar:List (Int×Int))(l:List Int):List Int:=ar.foldl stp l
theorem GW{p:Int×Int}{x:Int}(h:x∈l):x∈stp l p:=by
 unfold stp vS;split
 ·split
  ·exact h
  ·exact fq _ h
 ·exact h
theorem Az(l:List Int)(p:Int×Int):l.length<=(stp l p).length/\(stp l p).length<=l.length+1:=by
 unfold stp vS;split
 ·split
  ·right
  ·rw[dj];simp
 ·right
structure Sn(n:Nat)(l:List Int):Prop where
 nd:l.Nodup
 ib:∀x∈l,0<=x/\x<n
 z:(0:Int)∈l
theorem Sn.stp{n:Nat}{l:List Int}{p:Int×Int}(S:Sn n l)(h:0<=p.2/\p.2<n):Sn n (stp l p):=by
 refine⟨?_,λx hx=>?_,GW S.z⟩
 ·unfold Lw.stp vS;split
  ·split
   ·exact S.nd
   ·rename_i _ q;exact ss.mpr ⟨S.nd,by simp,λx hx y hy=>by rw[cp.mp hy];exact λz=>q (z ▸ hx)⟩
  ·exact S.nd
 ·unfold Lw.stp vS at hx;split at hx
  ·split at hx
   ·exact S.ib x hx
   ·rcases ee.mp hx with hx | hx
    ·exact S.ib x hx
    ·rw[cp.mp hx];exact h
  ·exact S.ib x hx
theorem Sn.rnd{n:Nat}:∀{ar:List (Int×Int)} {l:List Int},(∀p∈ar,0<=p.2/\p.2<(n:Int))->Sn n l->Sn n (rnd ar l)
 | [],_,_,S=>S
 |p::ar,l,h,S=>Sn.rnd (ar:=ar) (λq hq=>h q (bj _ hq)) (S.stp (h p (bw ..)))
theorem Sn.le(S:Sn n l):l.length<=n:=by
 have:=S.nd.length_le_of_subset (l₂:=(ff n).map λk:Nat=>(k:Int)) λx hx=>by
  have:=S.ib x hx;exact gq.mpr ⟨x.toNat,nh.mpr ⋯,⋯⟩
 simpa using this
theorem v0:∀(ar:List (Int×Int)) (l:List Int),l.length<=(rnd ar l).length
 | [],_=>bg _
 |p::ar,l=>fo (Az l p).1 (v0 ar (stp l p))
theorem xM:∀(ar:List (Int×Int)) (l:List Int),(∃p∈ar,p.1∈l/\p.2 ∉ l)->l.length<(rnd ar l).length
 | [],_,h=>by obtain⟨p,hp,_⟩:=h;cases hp
 |p::ar,l,h=>by
  show l.length<(rnd ar (stp l p)).length;have g:=v0 ar (stp l p);by_cases e:p.1∈l/\p.2 ∉ l
  ·have:(stp l p).length=l.length+1:=by
    unfold stp vS;rw[QL e.1,Qi e.2];simp
   right
  ·have es:stp l p=l:=by
    unfold stp vS;split
    ·rw[QL (dq λz=>e ⟨by assumption,z⟩)]
    ·rfl
   rw[es] at g ⊢;obtain⟨q,hq,h1,h2⟩:=h;rcases de.mp hq with rfl | hq
   ·exact absurd ⟨h1,h2⟩ e
   ·exact xM ar l ⟨q,hq,h1,h2⟩
theorem cross{s y:Int}(r:Rch ar s y)(hs:s∈l)(hy:y ∉ l):∃p∈ar,p.1∈l/\p.2 ∉ l:=by
 induction r with
 |base=>exact absurd hs hy
 | @step x y _ m ih=>
  by_cases hx:x∈l
  ·exact⟨_,m,hx,hy⟩
  ·exact ih hx
theorem Sn.more(S:Sn n l)(A:oQ ar n 0)(h:l.length<n):l.length<(Lw.rnd ar l).length:=by
 refine xM ar l ?_;obtain⟨k,hk,hl⟩:∃k:Nat,k<n/\(k:Int) ∉ l:=dq λz=>by
  have:=sK S.nd S.ib λk hk=>dq λy=>z ⟨k,hk,y⟩;right
 exact cross (A k hk) S.z hl
variable {x0 x1 x3:Sl}
theorem O2{a b:Dv}{x2 x4 x5:Sl}{Q:List Sl->Prop}(h:Q [x0,x1,x2,x3,.v a,.v b]):gT [4,5] (.tup [a,b]) [x0,x1,x2,x3,x4,x5] Q:=by
 ac_nf;exact h
variable {E:En}
theorem MG:∀(ar:List (Int×Int)) (l:List Int) (s4 s5:Sl),l.length+ar.length<=10000->(∀s4 s5,E.nx [x0,x1,.own a (.dik (Dq (rnd ar l))),x3,s4,s5]) ->
  aT (gT [4,5]) iM [] (dO ar) E [x0,x1,.own a (.dik (Dq l)),x3,s4,s5]:=by
 intro ar;induction ar with
 |nil=>
  intro l s4 s5 _ h;rw[show dO []=[] from rfl,b4];exact⟨λp hp=>by simp at hp,h _ _⟩
 |cons p ar ih=>
  intro l s4 s5 hl h;rw[cj] at hl;rw[show dO (p::ar)=.tup [.int p.1,.int p.2]::dO ar from rfl,aW];refine⟨λp hp=>by simp at hp,O2 ?_⟩;have sl:=Az l p;have nx:=λs4 s5=>ih (stp l p) s4 s5 ⋯ h;generalize aT (gT [4,5]) iM [] (dO ar) E=G at nx ⊢;unfold stp at nx;push_cast [iM,Fp,bc];refine eN (λz=>?_) λz=>?_
  ·rw[QL z] at nx;refine⟨p.2,rfl,⋯,?_⟩;rw[JY];exact nx _ _
  ·rw[Qi z] at nx;exact nx _ _
noncomputable def uX:Fn:=λds Q=>∃(ar:List (Int×Int)) (n:Nat),ds=[.lst (dO ar),.int n]/\1<=n/\n<=12/\ar.length<=100/\IV ar n/\oQ ar n 0/\Q (.v (.bl ah))
theorem Hl:∀ds Q,uX ds Q->ds.length=2:=by rintro ds Q ⟨_,_,rfl,_⟩;rfl
theorem KS:MonoF uX:=⟨λds Q Q' w z=>by obtain⟨a,b,c,d,e,f,g,i,h⟩:=z;exact⟨a,b,c,d,e,f,g,i,w _ h⟩⟩
theorem ME(n12:n<=12)(al:ar.length<=100)(ib:IV ar n)(A:oQ ar n 0):∀(i k:Nat) (l:List Int) (s3 s4 s5:Sl),Sn n l->min n (k+1)<=l.length->k+i=n ->
  (∀l s3 s4 s5,Sn n l->l.length=n->E.nx [.v (.lst (dO ar)),x1,.own a (.dik (Dq l)),s3,s4,s5]) ->
  aT (gN 3) iL [] (bN k i) E [.v (.lst (dO ar)),x1,.own a (.dik (Dq l)),s3,s4,s5]:=by
 intro i;induction i with
 |zero=>
  intro k l s3 s4 s5 S hl hk h;rw[d4,b4];have:=S.le;exact⟨λp hp=>by simp at hp,h _ _ _ _ S ⋯⟩
 |succ i ih=>
  intro k l s3 s4 s5 S hl hk h;have le:=S.le;have S2:Sn n (rnd ar l):=S.rnd λp hp=>(ib p.1 p.2 hp).2;have l2:min n (k+1+1)<=(rnd ar l).length:=by
   have:=v0 ar l;by_cases e:l.length<n
   ·have:=S.more A e;right
   ·right
  rw[cI,aW,show ((k:Int)+1)=((k+1:Nat):Int) by right];refine⟨λp hp=>by simp at hp,?_⟩;have nx:=λs3 s4 s5=>ih (k+1) (rnd ar l) s3 s4 s5 S2 l2 ⋯ h;generalize aT (gN 3) iL [] (bN ((k+1:Nat):Int) i) E=G at nx ⊢;push_cast [iL];refine MG ar l _ _ ⋯ λs4 s5=>?_;exact nx _ _ _
theorem Cc:∀ds Q,uX ds Q->oT ↥Q (aJ ["_law_arrows_here", "_law_many", "_law_seen", "_law_turn", "_law_one", "_law_other"] ds):=by
 rintro ds Q ⟨ar,n,rfl,n1,n12,al,ib,A,h⟩;ac_nf;refine⟨0,rfl,λa=>⟨⋯,?_⟩⟩;rw[dw];refine ME n12 al ib A n 0 [0] _ _ _ ⟨by simp,λx hx=>?_,by simp⟩ (by simp;right) ⋯ λl s3 s4 s5 S hl=>?_
 ·rw[cp.mp hx];right
 ·push_cast [bc,hl];exact h
end Lw
namespace Lw
open L2 Z
open Sf (Rw crs nU Pre Good aD aO place many)
open Fl (kd ids)
theorem NE{Q:R->Prop}:∀(l acc:List (Int×Int)),acc.length+l.length<=10000->Q (.nw (.lst (dO (acc++tr l)))) ->
  dI [.un,.un] (gT [0,1]) fZ (e9 (a9 (a8 1) (a9 (a8 0) aI))) (dO l) (dO acc) Q:=by
 intro l;induction l with
 |nil=>
  intro acc _ h;rw[show dO []=[] from rfl,kC];simpa using h
 |cons p l ih=>
  intro acc hl h;rw[cj] at hl;have nx:=ih (acc++[(p.2,p.1)]) (by simp;right) (by simpa using h);rw[show dO (p::l)=.tup [.int p.1,.int p.2]::dO l from rfl,iG];generalize dI [.un,.un] (gT [0,1]) fZ (e9 (a9 (a8 1) (a9 (a8 0) aI))) (dO l)=G at nx ⊢;push_cast [bc];refine⟨⋯,?_⟩;rw[show dO acc++[Dv.tup [Dv.int p.2,Dv.int p.1]]=dO (acc++[(p.2,p.1)]) by simp];exact nx
noncomputable def oW:Fn:=λds Q=>∃(ar:List (Int×Int)) (n:Nat),ds=[.lst (dO ar),.int n]/\1<=n/\n<=12/\ar.length<=100/\IV ar n/\(∀b:Nat,b<n->oQ ar n b)/\Q (.v (.bl ah))
theorem Hi:∀ds Q,oW ds Q->ds.length=2:=by rintro ds Q ⟨_,_,rfl,_⟩;rfl
theorem KQ:MonoF oW:=⟨λds Q Q' w z=>by obtain⟨a,b,c,d,e,f,g,i,h⟩:=z;exact⟨a,b,c,d,e,f,g,i,w _ h⟩⟩
theorem xW:∀ds Q,oW ds Q->kS uX ↥Q (aJ ["_law_arrows_here", "_law_many"] ds):=by
 rintro ds Q ⟨ar,n,rfl,n1,n12,al,ib,A,h⟩;obtain⟨a1,a2⟩:=(CC ⋯).mpr A;ac_nf;refine⟨ar,n,rfl,n1,n12,al,ib,a1,?_⟩;ac_nf;refine NE ar [] (by simp;right) ?_;ac_nf;refine⟨tr ar,n,rfl,n1,n12,by rw[bc];right,ib.tr,a2,?_⟩;ac_nf;exact h
noncomputable def oY:Fn:=λds Q=>∃(ms:List Int) (ar:List (Int×Int)) (n:Nat),ds=[.lst (cD ms),.lst (dO ar),.int n]/\FreeS ar n ms/\Q (.v (.bl ah))
theorem Hm:∀ds Q,oY ds Q->ds.length=3:=by rintro ds Q ⟨_,_,_,rfl,_⟩;rfl
theorem KU:MonoF oY:=⟨λds Q Q' w z=>by obtain⟨a,b,c,d,e,h⟩:=z;exact⟨a,b,c,d,e,w _ h⟩⟩
variable {Q:List Sl->Prop}{x0 x1 x2 x3 x4 x5 x6:Sl}
theorem O4{d:Dv}(h:Q [x0,x1,x2,x3,.v d,x5,x6]):gN 4 d [x0,x1,x2,x3,x4,x5,x6] Q:=by
 ac_nf;exact h
theorem O1{a b:Dv}(h:Q [x0,x1,x2,x3,x4,.v a,.v b]):gT [5,6] (.tup [a,b]) [x0,x1,x2,x3,x4,x5,x6] Q:=by
 ac_nf;exact h
variable {E:En}
theorem O9:∀(ms:List Int) (last:Int) (s4:Sl),ms.Pairwise (· < ·)->(∀x∈ms,last<x/\x<n)->(∀s3 s4,E.nx [x0,x1,.v (.int n),s3,s4,x5,x6]) ->
  aT (gN 4) (fU hU) [] (cD ms) E [x0,x1,.v (.int n),.v (.int last),s4,x5,x6]:=by
 intro ms;induction ms with
 |nil=>
  intro last s4 _ _ h;rw[show cD []=[] from rfl,b4];exact⟨λp hp=>by simp at hp,h _ _⟩
 |cons b ms ih=>
  intro last s4 up hb h;rw[show cD (b::ms)=.int b::cD ms from rfl,aW];refine⟨λp hp=>by simp at hp,O4 ?_⟩;obtain⟨h1,h2⟩:=hb b (bw ..);have nx:=λs4=>ih b s4 (mf.mp up).2 (λx hx=>⟨(mf.mp up).1 x hx,(hb x (bj _ hx)).2⟩) h;generalize aT (gN 4) (fU hU) [] (cD ms) E=G at nx ⊢;push_cast [fU];refine⟨b,rfl,?_⟩;ac_nf;exact eN (λz=>absurd z ⋯) λ_=>eN (λz=>absurd z ⋯) λ_=>nx _
theorem O8{ms:List Int}:∀(ar:List (Int×Int)) (s5 s6:Sl),(∀p∈ar,p.1∈ms->p.2∈ms)->(∀s5 s6,E.nx [.v (.lst (cD ms)),x1,x2,x3,x4,s5,s6]) ->
  aT (gT [5,6]) (fT hU) [] (dO ar) E [.v (.lst (cD ms)),x1,x2,x3,x4,s5,s6]:=by
 intro ar;induction ar with
 |nil=>
  intro s5 s6 _ h;rw[show dO []=[] from rfl,b4];exact⟨λp hp=>by simp at hp,h _ _⟩
 |cons p ar ih=>
  intro s5 s6 hc h;rw[show dO (p::ar)=.tup [.int p.1,.int p.2]::dO ar from rfl,aW];refine⟨λp hp=>by simp at hp,O1 ?_⟩;have nx:=λs5 s6=>ih s5 s6 (λq hq=>hc q (bj _ hq)) h;generalize aT (gT [5,6]) (fT hU) [] (dO ar) E=G at nx ⊢;have k:=hc p (bw ..);push_cast [fT];refine I9 _ _ ?_;ac_nf;refine eN (λz=>?_) λz=>nx _ _;refine M5 _ _ ?_;ac_nf;exact eN (λy=>absurd (k z) (by simpa using y)) λ_=>nx _ _
theorem vC:∀ds Q,oY ds Q->jO hU ↥Q (aJ ["_law_some", "_law_arrows_here", "_law_many", "_law_last", "_law_band", "_law_one", "_law_other"] ds):=by
 rintro ds Q ⟨ms,ar,n,rfl,F,h⟩;have l0:ms.length≠0:=λz=>F.ne (List.eq_nil_of_length_eq_zero z);have few:=F.few;push_cast [bc];refine⟨rfl,eN (λz=>by cases z) λ_=>eN (λz=>absurd z ⋯) λ_=>eN (λz=>absurd z ⋯) λ_=>?_⟩;refine O9 ms (-1) _ F.up (λx hx=>⟨by have:=F.inb x hx;right,(F.inb x hx).2⟩) λs3 s4=>?_;ac_nf;refine O8 ar _ _ (λp hp h1=>F.cl p.1 h1 p.2 hp) λs5 s6=>?_;ac_nf;exact h
theorem MR{k:Int}:Ad (2*k*(2*k)-1) (2*(2*k)) (2*k*(2*k)+1)=1:=by
 obtain⟨d1,_,d3⟩:=Fs (2*k*(2*k)-1) (2*(2*k)) (2*k*(2*k)+1);generalize Ad (2*k*(2*k)-1) (2*(2*k)) (2*k*(2*k)+1)=g at *;have d2:(g:Int) ∣ 2:=by
  have:=Int.dvd_sub d3 d1;rwa[show 2*k*(2*k)+1-(2*k*(2*k)-1)=2 by right] at this
 have le:=Int.le_of_dvd ∅ d2;have e:2*k*(2*k)=4*(k*k):=by grind
 rw[e] at d3;have g0:g≠0:=λz=>by subst z;simp at d2
 have g2:g≠2:=λz=>by subst z;right
 right
structure Ev(m:Int):Prop where
 ev:∃k,m=2*k
 lo:2<=m
 hi:m.natAbs<=1237940039285380274899124224
noncomputable def oX:Fn:=λds Q=>∃m:Int,ds=[tm m]/\Ev m/\Q (.v (.bl ah))
theorem Hk:∀ds Q,oX ds Q->ds.length=1:=by rintro ds Q ⟨_,rfl,_⟩;rfl
theorem KR:MonoF oX:=⟨λds Q Q' w z=>by obtain⟨a,b,c,h⟩:=z;exact⟨a,b,c,w _ h⟩⟩
theorem t7:∀ds Q,oX ds Q->iQ uW B2 ↥Q (aJ ["_law_turn"] ds):=by
 rintro ds Q ⟨m,rfl,⟨⟨k,ek⟩,lo,hi⟩,h⟩;have gm:=MR (k:=k);rw[<- ek] at gm;have mm:=nb hi hi;have m4:m*2<=m*m:=dr lo ⋯;have sq:(m*m-1)*(m*m-1)+2*m*(2*m)=(m*m+1)*(m*m+1):=by grind
 generalize hs:m*m=s at *;unfold tm;rw[hs];ac_nf;refine⟨[s-1,2*m,s+1],rfl,?_⟩;ac_nf;refine eN (λz=>by cases z) λ_=>eN (λz=>absurd z ⋯) λ_=>eN (λz=>absurd z ⋯) λ_=>eN (λz=>absurd z ⋯) λ_=>?_;refine⟨bP (bT ⋯) (bT ⋯),bP (bT ⋯) (bT ⋯),bP (bT ⋯) (bT ⋯),eN (λz=>absurd sq (by simpa using z)) λ_=>?_⟩;refine⟨_,_,rfl,?_⟩;ac_nf;refine⟨_,_,rfl,?_⟩;ac_nf;unfold Ad at gm;rw[gm];exact h
end Lw
namespace Lw
open L2 Z
open Sf (Rw crs nU Pre Good aD aO place many)
open Fl (kd ids)
section
variable (rows:List Rw)(so:List Int)(p q r:Int)
noncomputable def nar(t:Int×Int):Int:=wx rows so p q r t.1*wy rows so p q r t.2-wx rows so p q r t.2*wy rows so p q r t.1
noncomputable def ndt(t:Int×Int):Int:=wx rows so p q r t.1*wx rows so p q r t.2+wy rows so p q r t.1*wy rows so p q r t.2
end
theorem Et(rows:List Rw)(so:List Int)(p q r:Int)(t:Int×Int):nar rows so p q r t=if t.1∈so then (if t.2∈so then (p*p+q*q)*cr rows t else r*(p*cr rows t-q*dt rows t)) else (if t.2∈so then r*(p*cr rows t+q*dt rows t) else r*r*cr rows t):=by
 unfold nar wx wy cr dt;generalize (vec rows t.1).x=a;generalize (vec rows t.1).y=b;generalize (vec rows t.2).x=c;generalize (vec rows t.2).y=d;by_cases h1:t.1∈so<;>by_cases h2:t.2∈so
 ·rw[QL h1,QL h2,QL h2,QL h1,QL h1,QL h2];grind
 ·rw[QL h1,Qi h2,Qi h2,QL h1,QL h1,Qi h2];grind
 ·rw[Qi h1,QL h2,QL h2,Qi h1,Qi h1,QL h2];grind
 ·rw[Qi h1,Qi h2,Qi h2,Qi h1,Qi h1,Qi h2];grind
theorem Bg(rows:List Rw)(so:List Int)(p q r:Int)(t:Int×Int):ndt rows so p q r t=if t.1∈so then (if t.2∈so then (p*p+q*q)*dt rows t else r*(p*dt rows t+q*cr rows t)) else (if t.2∈so then r*(p*dt rows t-q*cr rows t) else r*r*dt rows t):=by
 unfold ndt wx wy cr dt;generalize (vec rows t.1).x=a;generalize (vec rows t.1).y=b;generalize (vec rows t.2).x=c;generalize (vec rows t.2).y=d;by_cases h1:t.1∈so<;>by_cases h2:t.2∈so
 ·rw[QL h1,QL h2,QL h1,QL h2,QL h1,QL h2];grind
 ·rw[QL h1,Qi h2,QL h1,Qi h2,QL h1,Qi h2];grind
 ·rw[Qi h1,QL h2,Qi h1,QL h2,Qi h1,QL h2];grind
 ·rw[Qi h1,Qi h2,Qi h1,Qi h2,Qi h1,Qi h2];grind
variable {m:Int}
theorem MC{c d:Int}(m2:2<=m)(c0:0<c)(h:0<(m*m-1)*c-2*m*d):d<=m*c:=by
 refine dq λz=>?_;have k:m*(m*c+1)<=m*d:=dr ⋯ ⋯;have e1:m*(m*c+1)=m*m*c+m:=by grind
 have e2:(m*m-1)*c=m*m*c-c:=by grind
 have e3:2*m*d=2*(m*d):=lj ..;have mm:0<=m*m*c:=ja (ja ⋯ ⋯) ⋯;right
theorem Nk{c d:Int}(m2:2<=m)(c0:0<c)(h:0<(m*m-1)*c+2*m*d):-d<=m*c:=MC m2 c0 (by
 have:2*m * -d = -(2*m*d):=P0 ..;right)
theorem sG{t:Int×Int}(h:(t.1∈so) ↔ (t.2∈so)):nar rows so (m*m-1) (2*m) (m*m+1) t=(m*m+1)*(m*m+1)*cr rows t/\ndt rows so (m*m-1) (2*m) (m*m+1) t=(m*m+1)*(m*m+1)*dt rows t:=by
 have sq:(m*m-1)*(m*m-1)+2*m*(2*m)=(m*m+1)*(m*m+1):=by grind
 rw[Et,Bg,sq];by_cases h1:t.1∈so
 ·rw[QL h1,QL (h.mp h1),QL h1,QL (h.mp h1)];exact⟨rfl,rfl⟩
 ·have h2:t.2 ∉ so:=λz=>h1 (h.mpr z);rw[Qi h1,Qi h2,Qi h1,Qi h2];exact⟨rfl,rfl⟩
theorem Ko{t:Int×Int}(m2:2<=m)(c0:0<cr rows t)(k:0<kar rows so (m*m-1) (2*m) t)(h:(t.1∈so)->(t.2∈so)):ndt rows so (m*m-1) (2*m) (m*m+1) t<=(m*m+1)*(m*m+1)*dt rows t:=by
 by_cases h1:t.1∈so
 ·exact PB (sG ⟨h,λ_=>h1⟩).2
 ·by_cases h2:t.2∈so
  ·rw[Bl,Qi h1,QL h2] at k;rw[Bg,Qi h1,QL h2,lj (m*m+1) (m*m+1) (dt rows t)];have mm:0<=m*m:=ja ⋯ ⋯;refine dr ?_ (show 0<=m*m+1 by right);have g:=Nk m2 c0 k;generalize cr rows t=c at *;generalize dt rows t=d at *;have e1:(m*m-1)*d=m*m*d-d:=by grind
   have e2:(m*m+1)*d=m*m*d+d:=by grind
   have e3:2*m*c=2*(m*c):=lj ..;right
  ·exact PB (sG ⟨h,λz=>absurd z h2⟩).2
theorem Kn{t:Int×Int}(m2:2<=m)(c0:0<cr rows t)(k:0<kar rows so (m*m-1) (2*m) t)(h:(t.2∈so)->(t.1∈so)):(m*m+1)*(m*m+1)*dt rows t<=ndt rows so (m*m-1) (2*m) (m*m+1) t:=by
 by_cases h2:t.2∈so
 ·exact PB (sG ⟨λ_=>h2,h⟩).2.symm
 ·by_cases h1:t.1∈so
  ·rw[Bl,QL h1,Qi h2] at k;rw[Bg,QL h1,Qi h2,lj (m*m+1) (m*m+1) (dt rows t)];have mm:0<=m*m:=ja ⋯ ⋯;refine dr ?_ (show 0<=m*m+1 by right);have g:=MC m2 c0 k;generalize cr rows t=c at *;generalize dt rows t=d at *;have e1:(m*m-1)*d=m*m*d-d:=by grind
   have e2:(m*m+1)*d=m*m*d+d:=by grind
   have e3:2*m*c=2*(m*c):=lj ..;right
  ·exact PB (sG ⟨λz=>absurd z h1,h⟩).2.symm
theorem C1{c d:Int}(m2:2<=m)(c0:0<c)(e1:(m*m-1)*c-2*m*d=(m*m+1)*c)(e2:(m*m-1)*d+2*m*c=(m*m+1)*d):False:=by
 have a1:(m*m-1)*c=m*m*c-c:=by grind
 have a2:(m*m+1)*c=m*m*c+c:=by grind
 have a3:(m*m-1)*d=m*m*d-d:=by grind
 have a4:(m*m+1)*d=m*m*d+d:=by grind
 have a5:2*m*d=2*(m*d):=lj ..;have a6:2*m*c=2*(m*c):=lj ..;have b1:c = -(m*d):=⋯;have b2:d=m*c:=⋯;have mc:0<m*c:=li ⋯ c0;have md:0<m*d:=li ⋯ ⋯;right
theorem bends{t:Int×Int}(m2:2<=m)(c0:0<cr rows t)(h:¬((t.1∈so) ↔ (t.2∈so)))(e1:nar rows so (m*m-1) (2*m) (m*m+1) t=(m*m+1)*(m*m+1)*cr rows t)(e2:ndt rows so (m*m-1) (2*m) (m*m+1) t=(m*m+1)*(m*m+1)*dt rows t):False:=by
 have mm:0<=m*m:=ja ⋯ ⋯;rw[Et,lj (m*m+1) (m*m+1) (cr rows t)] at e1;rw[Bg,lj (m*m+1) (m*m+1) (dt rows t)] at e2;by_cases h1:t.1∈so<;>by_cases h2:t.2∈so
 ·exact h ⟨λ_=>h2,λ_=>h1⟩
 ·rw[QL h1,Qi h2] at e1 e2;exact C1 m2 c0 (jg (show m*m+1≠0 by right) e1) (jg (show m*m+1≠0 by right) e2)
 ·rw[Qi h1,QL h2] at e1 e2;have f1:=jg (show m*m+1≠0 by right) e1;have f2:=jg (show m*m+1≠0 by right) e2;refine C1 (d:=-dt rows t) m2 c0 ?_ ?_
  ·rw[P0];right
  ·rw[P0,P0];right
 ·exact h ⟨λz=>absurd z h1,λz=>absurd z h2⟩
theorem HP{t:Int×Int}(m2:2<=m)(k:0<kar rows so (m*m-1) (2*m) t):0<nar rows so (m*m-1) (2*m) (m*m+1) t:=by
 have mm:0<=m*m:=ja ⋯ ⋯;rw[Bl] at k;rw[Et];by_cases h1:t.1∈so<;>by_cases h2:t.2∈so
 ·rw[QL h1,QL h2] at k ⊢;exact k
 ·rw[QL h1,Qi h2] at k ⊢;exact li ⋯ k
 ·rw[Qi h1,QL h2] at k ⊢;exact li ⋯ k
 ·rw[Qi h1,Qi h2] at k ⊢;exact li (li ⋯ ⋯) k
theorem KG(M:qD ks){x y:Int}(hx:x∈so)(hy:y ∉ so)(x0:0<=x/\x<ks.length)(y0:0<=y/\y<ks.length)(ne:bG ks≠[]):∃t∈bG ks,¬((t.1∈so) ↔ (t.2∈so)):=by
 have pr:∀u v:Int,(0<=u/\u<ks.length)->(0<=v/\v<ks.length)->kd ks u≠kd ks v->u∈so->v ∉ so -> ∃t∈bG ks,¬((t.1∈so) ↔ (t.2∈so)):=λu v hu hv hk iu iv=>by
  rcases Int.lt_trichotomy u v with l | l | l
  ·exact⟨(u,v),dS.mpr ⟨hu.1,l,hv.2,hk⟩,λz=>iv (z.mp iu)⟩
  ·exact absurd (l ▸ rfl) hk
  ·exact⟨(v,u),dS.mpr ⟨hv.1,l,hu.2,λe=>hk e.symm⟩,λz=>iv (z.mpr iu)⟩
 by_cases e:kd ks x=kd ks y
 ·obtain⟨t,ht⟩:∃t,t∈bG ks:=by
   cases e:bG ks with
   |nil=>exact absurd e ne
   |cons t l=>exact⟨t,bw ..⟩
  obtain⟨h0,h1,h2,h3⟩:=dS.mp ht;obtain⟨z,hz,nz⟩:∃z:Int,(0<=z/\z<ks.length)/\kd ks z≠kd ks x:=by
   by_cases q:kd ks t.1=kd ks x
   ·exact⟨t.2,⟨⋯,h2⟩,λw=>h3 (q.trans w.symm)⟩
   ·exact⟨t.1,⟨h0,⋯⟩,q⟩
  by_cases iz:z∈so
  ·exact pr z y hz y0 (λw=>nz (w.trans e.symm)) iz hy
  ·exact pr x z x0 hz (λw=>nz w.symm) hx iz
 ·exact pr x y x0 y0 e hx hy
end Lw
namespace Lw
open L2 Z
open Sf (Rw crs nU Pre Good aD aO place many)
open Fl (kd ids)
variable {a:Dv}{l:List Dv}
theorem OR:j3 (a::l) 0=aa a:=L2.dM (j:=0) rfl
theorem LF{b:Dv}:j3 (a::b::l) 1=aa b:=L2.dM (j:=1) rfl
noncomputable abbrev GQ:Nat:=1000000000000000000000000000000000000000000000000000000000000000000000000000
noncomputable def gD(f:Int->Int->Int->Int->Int):Fn:=λds Q=>∃(x y z w:Int) (l k:List Dv),ds=[.tup (.int x :: .int y::l),.tup (.int z :: .int w::k)]/\(x.natAbs<=GQ/\y.natAbs<=GQ/\z.natAbs<=GQ/\w.natAbs<=GQ)/\Q (.v (.int (f x y z w)))
noncomputable abbrev fA(x y z w:Int):Int:=x*w-z*y
noncomputable abbrev fP(x y z w:Int):Int:=x*z+y*w
theorem yU{f}:∀ds Q,gD f ds Q->ds.length=2:=by rintro ds Q ⟨_,_,_,_,_,_,rfl,_⟩;rfl
theorem Bi{f}:MonoF (gD f):=⟨λds Q Q' w z=>by obtain⟨a,b,c,d,e,g,i,j,h⟩:=z;exact⟨a,b,c,d,e,g,i,j,w _ h⟩⟩
theorem AL:∀ds Q,gD fA ds Q->mW ↥Q (aJ ["_law_one", "_law_other"] ds):=by
 rintro ds Q ⟨x,y,z,w,l,k,rfl,⟨h1,h2,h3,h4⟩,h⟩;unfold GQ at *;push_cast [OR,LF];exact⟨bP (bT ⋯) (bT ⋯),bP (bT ⋯) (bT ⋯),h⟩
theorem t6:∀ds Q,gD fP ds Q->iP ↥Q (aJ ["_law_one", "_law_other"] ds):=by
 rintro ds Q ⟨x,y,z,w,l,k,rfl,⟨h1,h2,h3,h4⟩,h⟩;unfold GQ at *;push_cast [OR,LF];exact⟨bP (bT ⋯) (bT ⋯),bP (bT ⋯) (bT ⋯),h⟩
noncomputable def kZ:Fn:=λds Q=>∃(u:Rw) (i:Bool) (p q r:Int),ds=[rD u,.bl i,.tup [.int p,.int q,.int r]]/\u.x.natAbs<=1000000000000/\u.y.natAbs<=1000000000000/\Tb p q/\r.natAbs<=1000000000000000000000000000000000000000000000000000000000000/\Q (.v (.tup [.int (if i then p*u.x-q*u.y else r*u.x),.int (if i then q*u.x+p*u.y else r*u.y)]))
theorem Hh:∀ds Q,kZ ds Q->ds.length=3:=by rintro ds Q ⟨_,_,_,_,_,rfl,_⟩;rfl
theorem KP:MonoF kZ:=⟨λds Q Q' w z=>by obtain⟨a,b,c,d,e,f,g,h,i,j,k⟩:=z;exact⟨a,b,c,d,e,f,g,h,i,j,w _ k⟩⟩
theorem t5:∀ds Q,kZ ds Q->jM ↥Q (aJ ["_law_direction", "_law_inside", "_law_turn", "_law_p", "_law_q", "_law_r"] ds):=by
 rintro ds Q ⟨u,i,p,q,r,rfl,h1,h2,⟨bp,bq⟩,br,h⟩;cases i with
 |false=>
  ac_nf;exact⟨bP (bT ⋯) (bT ⋯),bP (bT ⋯) (bT ⋯),h⟩
 |true=>
  ac_nf;exact⟨bP (bT ⋯) (bT ⋯),bP (bT ⋯) (bT ⋯),bP (bT ⋯) (bT ⋯),bP (bT ⋯) (bT ⋯),h⟩
noncomputable def lO:Fn:=λds Q=>∃(w:Nat) (a b c d:Int),ds=[.str (wd w),.tup [.int a,.int b],.tup [.int c,.int d]]/\(w=0->a=c/\b=d)/\(w=1->d<=b)/\(w≠0->w≠1->b<=d)/\Q (.v (.bl ah))
theorem FG:∀ds Q,lO ds Q->ds.length=3:=by rintro ds Q ⟨_,_,_,_,_,rfl,_⟩;rfl
theorem HX:MonoF lO:=⟨λds Q Q' w z=>by obtain⟨a,b,c,d,e,f,g,h,i,j⟩:=z;exact⟨a,b,c,d,e,f,g,h,i,w _ j⟩⟩
theorem Be(a b:Int):cJ 8 (.tup [.int a,.int b])=ah:=u4 7 [a,b]
theorem AK:∀ds Q,lO ds Q->mV ↥Q (aJ ["_law_word", "_law_ahead", "_law_behind"] ds):=by
 rintro ds Q ⟨w,a,b,c,d,rfl,h0,h1,h2,h⟩;have ok:=Ay w;have o1:cJ 8 (.str "brace")=ah:=by decide +kernel
 have o2:cJ 8 (.str "more")=ah:=by decide +kernel
 ac_nf;refine⟨⟨ok,o1⟩,eN (λz=>?_) λz=>⟨⟨ok,o2⟩,eN (λy=>?_) λy=>?_⟩⟩
 ·rw[sL,decide_eq_true_eq] at z;obtain⟨rfl,rfl⟩:=h0 z;rw[show eqD (Dv.tup [.int a,.int b]) (.tup [.int a,.int b])=ah from(z0 Dv.int Fw [a,b] [a,b]).mpr rfl];exact⟨⟨Be a b,Be a b⟩,h⟩
 ·rw[l9,decide_eq_true_eq] at y;rw[decide_eq_true (h1 y)];exact h
 ·rw[sL,decide_eq_true_eq] at z;rw[l9,decide_eq_true_eq] at y;rw[decide_eq_true (h2 z y)];exact h
noncomputable abbrev kp(t:Int×Int):List aY:=[bo t.1,bo t.2]
noncomputable def t4(f:Int×Int->Dv)(l:List (Int×Int)):List (List aY×Dv):=l.map λt=>(kp t,f t)
theorem E5(f:Int×Int->Dv)(l:List (Int×Int))(t:Int×Int):t3 (t4 f l) (kp t) (f t)=t4 f (fK l t):=by
 unfold t3 t4 fK;by_cases h:t∈l
 ·rw[QL h,QL (sr.mpr ⟨_,gq.mpr ⟨t,h,rfl⟩,by simp⟩),jt];refine ku λx _=>?_;show (if kp x=kp t then (kp x,f t) else (kp x,f x))=(kp x,f x);by_cases e:kp x=kp t
  ·rw[QL e,(vR x t).mp e]
  ·rw[Qi e]
 ·rw[Qi h,Qi ?_,lb]
  ·rfl
  ·intro z;obtain⟨x,hx,e⟩:=sr.mp z;obtain⟨y,hy,rfl⟩:=gq.mp hx;exact h ((vR y t).mp (of_decide_eq_true e) ▸ hy)
theorem qL(f:Int×Int->Dv){t:Int×Int}:∀{l:List (Int×Int)},t∈l->(t4 f l).find? (λkv=>decide (kv.1=[bo t.1,bo t.2]))=aa (kp t,f t)
 | [],h=>by cases h
 |x::l,h=>by
  unfold t4;rw[cb];by_cases e:x=t
  ·subst e;rw[oy (by simp)]
  ·have ne:¬decide (kp x=kp t)=ah:=λz=>e ((vR x t).mp (of_decide_eq_true z));rw[oz (by exact ne)];refine qL f ?_;rcases de.mp h with h | h
   ·exact absurd h.symm e
   ·exact h
end Lw
namespace Lw
open L2 Z
open Sf (Rw crs nU Pre Good aD aO place many)
open Fl (kd ids)
theorem C3(h:n<=1000000000000000000000000000000000000000000000000000000000000000000000000000000000000000000000000000000000000000000000000):n<=10 ^ 1000:=fo h (by decide +kernel)
noncomputable def Iv(rows:List Rw):List Dv:=(aD rows).map λk=>rD (rows.getD k.toNat ⟨0,0,0⟩)
theorem Ar{b:Int}(h0:0<=b)(h1:b<(aD rows).length):j3 (Iv rows) b=aa (rD (vec rows b)):=by
 have h:b.toNat<(aD rows).length:=⋯;have a:=L2.dM (xs:=Iv rows) (j:=b.toNat) (v:=rD (vec rows b)) (by
  unfold Iv;rw[bh,bz h];show aa (rD (rows.getD (aD rows)[b.toNat].toNat ⟨0,0,0⟩))=aa (rD (vec rows b));unfold vec kd;rw[show (aD rows).getD b.toNat 0=(aD rows)[b.toNat] by simp[jw,h]])
 rw[show ((b.toNat:Nat):Int)=b by right] at a;exact a
variable {Q:R->Prop}
theorem M3:∀(l acc:List Int),(∀k∈l,0<=k/\k<rows.length)->acc.length+l.length<=1000->Q (.nw (.lst ((acc++l).map λk=>rD (rows.getD k.toNat ⟨0,0,0⟩)))) ->
  dI [.un,.v (.lst (mZ rows))] (gN 0) fZ (aL cA (a8 1) (a8 0)) (cD l) (acc.map λk=>rD (rows.getD k.toNat ⟨0,0,0⟩)) Q:=by
 intro l;induction l with
 |nil=>
  intro acc _ _ h;ac_nf;simpa using h
 |cons k l ih=>
  intro acc hk hl h;simp only[cj] at hl;obtain⟨k0,k1⟩:=hk k (bw ..);have hj:k.toNat<rows.length:=⋯;have a:=L2.dM (xs:=mZ rows) (j:=k.toNat) (v:=rD (rows.getD k.toNat ⟨0,0,0⟩)) (by rw[bh,bz hj];simp[jw,hj]);rw[show ((k.toNat:Nat):Int)=k by right] at a;push_cast [a,bc];refine⟨⋯,?_⟩;have:=ih (acc++[k]) (λx hx=>hk x (bj _ hx)) (by simp;right) (by simpa using h);rw[lb] at this;exact this
section
variable (rows:List Rw)(so:List Int)(p q r:Int)
noncomputable abbrev wD(b:Int):Dv:=.tup [.int (wx rows so p q r b),.int (wy rows so p q r b)]
noncomputable abbrev JG(l:List Int):List Dv:=l.map (wD rows so p q r)
end
variable {p q r:Int}
theorem J8{b:Int}(h0:0<=b)(h1:b<n):j3 (JG rows so p q r (ids n)) b=aa (wD rows so p q r b):=by
 have a:=L2.dM (xs:=JG rows so p q r (ids n)) (j:=b.toNat) (v:=wD rows so p q r b) (by
  rw[bh,bh,List.getElem?_range ⋯];show aa (wD rows so p q r ((b.toNat:Nat):Int))=_;rw[show ((b.toNat:Nat):Int)=b by right])
 rw[show ((b.toNat:Nat):Int)=b by right] at a;exact a
theorem M7(G:Good rows)(T:Tb p q)(br:r.natAbs<=1000000000000000000000000000000000000000000000000000000000000)(hn:(aD rows).length<=12):∀(m k:Nat),k+m=(aD rows).length->Q (.nw (.lst (JG rows so p q r (ids (aD rows).length)))) ->
  dI [.un,.v (.tup [.int p,.int q,.int r]),.v (.lst (Iv rows)),.v (.lst (cD so))] (gN 0) fZ (aQ kZ (a9 (aL cA (a8 2) (a8 0)) (a9 (aL DS (a8 0) (a8 3)) (a9 (a8 1) aI)))) (bN k m) (JG rows so p q r (ids k)) Q:=by
 intro m;induction m with
 |zero=>
  intro k hk h;rw[d4,kC];rw[<- hk] at h;exact h
 |succ m ih=>
  intro k hk h;have k0:(0:Int)<=(k:Int):=⋯;have k1:(k:Int)<(aD rows).length:=⋯;have hb:=jJ G k0 k1;have ih:=ih (k+1) ⋯ h;rw[cI,iG];rw[show ((k:Int)+1)=((k+1:Nat):Int) by right];generalize dI [.un,.v (.tup [.int p,.int q,.int r]),.v (.lst (Iv rows)),.v (.lst (cD so))] (gN 0) fZ (aQ kZ (a9 (aL cA (a8 2) (a8 0)) (a9 (aL DS (a8 0) (a8 3)) (a9 (a8 1) aI)))) (bN ((k+1:Nat):Int) m)=GG at ih ⊢;push_cast [Ar k0 k1];refine I9 _ _ ?_;ac_nf;refine⟨vec rows k,_,p,q,r,rfl,hb.1,hb.2,T,br,?_⟩;push_cast [bc];refine⟨by rw[List.length_range];right,?_⟩;unfold JG ids at ih;rw[List.range_succ,lb,lb] at ih;exact ih
section
variable (rows:List Rw)(so:List Int)(m:Int)
noncomputable def Af(t:Int×Int):Dv:=.tup [.int ((m*m+1)*(m*m+1)*cr rows t),.int ((m*m+1)*(m*m+1)*dt rows t)]
noncomputable def zV(t:Int×Int):Dv:=.tup [.int (nar rows so (m*m-1) (2*m) (m*m+1) t),.int (ndt rows so (m*m-1) (2*m) (m*m+1) t)]
end
noncomputable abbrev OV:bV:=iZ kZ jR (gD fP) (gD fA) lO
noncomputable abbrev OU:bV:=iY kZ jR (gD fP) (gD fA) lO
variable {x0 x1 x2 x3 x4 x5 x6 x7 x8 x9 x10 x11 x12:Sl}
theorem Kq{a b:Dv}{Q:List Sl->Prop}(h:Q [x0,x1,x2,x3,x4,x5,x6,x7,x8,x9,.v a,.v b,x12]):gT [10,11] (.tup [a,b]) [x0,x1,x2,x3,x4,x5,x6,x7,x8,x9,x10,x11,x12] Q:=by
 ac_nf;exact h
theorem Ft{a b c:Dv}{Q:List Sl->Prop}(h:Q [x0,x1,x2,x3,x4,x5,x6,x7,x8,x9,.v a,.v b,.v c]):gT [10,11,12] (.tup [a,b,c]) [x0,x1,x2,x3,x4,x5,x6,x7,x8,x9,x10,x11,x12] Q:=by
 ac_nf;exact h
theorem LG{b:Int}(G:Good rows)(T:Tb p q)(br:r.natAbs<=1000000000000000000000000000000000000000000000000000000000000)(h0:0<=b)(h1:b<(aD rows).length):(wx rows so p q r b).natAbs<=GQ/\(wy rows so p q r b).natAbs<=GQ:=by
 obtain⟨vx,vy⟩:=jJ G h0 h1;have a1:=nb T.bp vx;have a2:=nb T.bq vy;have a3:=nb T.bq vx;have a4:=nb T.bp vy;have a5:=nb br vx;have a6:=nb br vy;unfold wx wy GQ;split<;>right
variable {m:Int}{E:En}
theorem OB(G:Good rows)(M:qD (aD rows))(V:Ev m)(kt:∀t∈bG (aD rows),0<kar rows so (m*m-1) (2*m) t):∀(l acc:List (Int×Int)) (s10 s11 s12:Sl),(∀t∈l,t∈bG (aD rows))->acc.length+l.length<=1000 ->
  (∀s10 s11 s12,E.nx [x0,x1,x2,x3,x4,.v (.int ((m*m+1)*(m*m+1))),.v (.lst (Iv rows)),.v (.lst (JG rows so (m*m-1) (2*m) (m*m+1) (ids (aD rows).length))),.own a (.dit (t4 (Af rows m) (l.foldl fK acc))),.own b (.dit (t4 (zV rows so m) (l.foldl fK acc))),s10,s11,s12]) ->
  aT (gT [10,11]) OV [] (dO l) E [x0,x1,x2,x3,x4,.v (.int ((m*m+1)*(m*m+1))),.v (.lst (Iv rows)),.v (.lst (JG rows so (m*m-1) (2*m) (m*m+1) (ids (aD rows).length))),.own a (.dit (t4 (Af rows m) acc)),.own b (.dit (t4 (zV rows so m) acc)),s10,s11,s12]:=by
 intro l;induction l with
 |nil=>
  intro acc s10 s11 s12 _ _ h;rw[show dO []=[] from rfl,b4];exact⟨λp hp=>by simp at hp,h _ _ _⟩
 |cons t l ih=>
  intro acc s10 s11 s12 hp hl h;rw[cj] at hl;rw[show dO (t::l)=.tup [.int t.1,.int t.2]::dO l from rfl,aW];refine⟨λp hp=>by simp at hp,Kq ?_⟩;have il:=sF acc t;have nx:=λs10 s11 s12=>ih (fK acc t) s10 s11 s12 (λu hu=>hp u (bj _ hu)) ⋯ h;generalize aT (gT [10,11]) OV [] (dO l) E=GG at nx ⊢;have ht:=hp t (bw ..);obtain⟨p0,p1,p2,p3⟩:=dS.mp ht;have hi:=V.hi;have lo:=V.lo;have mm:=nb hi hi;have T:=Dk hi;have br:(m*m+1).natAbs<=1000000000000000000000000000000000000000000000000000000000000:=⋯;obtain⟨a1,a2⟩:=jJ G p0 (show t.1<(aD rows).length by right);obtain⟨b1,b2⟩:=jJ G (show 0<=t.2 by right) p2;obtain⟨w1,w2⟩:=LG (so:=so) G T br p0 (show t.1<(aD rows).length by right);obtain⟨w3,w4⟩:=LG (so:=so) G T br (show 0<=t.2 by right) p2;have rr:=nb br br;have c1:=nb a1 b2;have c2:=nb b1 a2;have c3:=nb a1 b1;have c4:=nb a2 b2;have np:=HP V.lo (kt t ht);have o1:=Ar (rows:=rows) p0 (show t.1<(aD rows).length by right);have o2:=Ar (rows:=rows) (show 0<=t.2 by right) p2;have n1:=J8 (rows:=rows) (so:=so) (p:=m*m-1) (q:=2*m) (r:=m*m+1) (n:=(aD rows).length) p0 ⋯;have n2:=J8 (rows:=rows) (so:=so) (p:=m*m-1) (q:=2*m) (r:=m*m+1) (n:=(aD rows).length) (show 0<=t.2 by right) p2;have le:∀{n:Nat},n<=1000000000000->n<=GQ:=λh=>fo h ∅;push_cast [iZ,o1,o2,n1,n2];refine⟨_,_,_,_,_,_,rfl,⟨le a1,le a2,le b1,le b2⟩,?_⟩;ac_nf;refine⟨bP (C3 ⋯) (C3 (by unfold fA;right)),?_⟩;refine⟨_,_,_,_,_,_,rfl,⟨le a1,le a2,le b1,le b2⟩,?_⟩;ac_nf;refine⟨bP (C3 ⋯) (C3 (by unfold fP;right)),kp t,rfl,by unfold t4;rw[bc];right,?_⟩;refine⟨_,_,_,_,_,_,rfl,⟨w1,w2,w3,w4⟩,?_⟩;ac_nf;refine⟨_,_,_,_,_,_,rfl,⟨w1,w2,w3,w4⟩,?_⟩;ac_nf;refine⟨kp t,rfl,by unfold t4;rw[bc];right,?_⟩;have e1:=E5 (Af rows m) acc t;have e2:=E5 (zV rows so m) acc t;have e3:=qL (zV rows so m) ((yW acc t t).mpr (.inr rfl));unfold Af at e1;unfold zV at e2;have e1':t3 (t4 (Af rows m) acc) (kp t) (Dv.tup [.int ((m*m+1)*(m*m+1)*fA (vec rows t.1).x (vec rows t.1).y (vec rows t.2).x (vec rows t.2).y),.int ((m*m+1)*(m*m+1)*fP (vec rows t.1).x (vec rows t.1).y (vec rows t.2).x (vec rows t.2).y)])=t4 (Af rows m) (fK acc t):=e1;have e2':t3 (t4 (zV rows so m) acc) (kp t) (Dv.tup [.int (fA (wx rows so (m*m-1) (2*m) (m*m+1) t.1) (wy rows so (m*m-1) (2*m) (m*m+1) t.1) (wx rows so (m*m-1) (2*m) (m*m+1) t.2) (wy rows so (m*m-1) (2*m) (m*m+1) t.2)),.int (fP (wx rows so (m*m-1) (2*m) (m*m+1) t.1) (wy rows so (m*m-1) (2*m) (m*m+1) t.1) (wx rows so (m*m-1) (2*m) (m*m+1) t.2) (wy rows so (m*m-1) (2*m) (m*m+1) t.2))])=t4 (zV rows so m) (fK acc t):=e2;rw[e1',e2',e3];unfold zV;ac_nf;refine eN (λz=>absurd np ⋯) λ_=>?_;exact nx _ _ _
theorem OA{L:List (Int×Int)}(G:Good rows)(M:qD (aD rows))(V:Ev m)(kt:∀t∈bG (aD rows),0<kar rows so (m*m-1) (2*m) t)(mem:∀t,t∈L ↔ t∈bG (aD rows)):∀(hs:List Hd) (s10 s11 s12:Sl),(∀h∈hs,DT rows h)->(∀x∈so,∀y,(x,y)∈kK hs->y∈so) ->
  (∀s10 s11 s12,E.nx [x0,x1,x2,x3,x4,x5,x6,x7,.own a (.dit (t4 (Af rows m) L)),.own b (.dit (t4 (zV rows so m) L)),s10,s11,s12]) ->
  aT (gT [10,11,12]) OU [] (pH hs) E [x0,x1,x2,x3,x4,x5,x6,x7,.own a (.dit (t4 (Af rows m) L)),.own b (.dit (t4 (zV rows so m) L)),s10,s11,s12]:=by
 intro hs;induction hs with
 |nil=>
  intro s10 s11 s12 _ _ h;rw[show pH []=[] from rfl,b4];exact⟨λp hp=>by simp at hp,h _ _ _⟩
 |cons d hs ih=>
  intro s10 s11 s12 ok cl h;rw[show pH (d::hs)=.tup [.int d.a,.int d.b,.str (wd d.w)]::pH hs from rfl,aW];refine⟨λp hp=>by simp at hp,Ft ?_⟩;have nx:=λs10 s11 s12=>ih s10 s11 s12 (λu hu=>ok u (bj _ hu)) (λx hx y hy=>cl x hx y (by
   obtain⟨u,hu,z⟩:=qQ.mp hy;exact qQ.mpr ⟨u,bj _ hu,z⟩)) h
  generalize aT (gT [10,11,12]) OU [] (pH hs) E=GG at nx ⊢;have ht:((d.a:Int),(d.b:Int))∈bG (aD rows):=by
   have o:=ok d (bw ..);unfold DT CP at o;rw[cw,cw,decide_eq_true_eq,decide_eq_true_eq,jl,decide_eq_false_iff_not] at o;refine dS.mpr ⟨by show (0:Int)<=d.a;right,by show (d.a:Int)<d.b;right,by show (d.b:Int)<_;right,?_⟩;show (aD rows).getD ((d.a:Int)).toNat 0≠(aD rows).getD ((d.b:Int)).toNat 0;rw[dw,dw];exact o.2.2
  have c0:=Ap G M ht;have k:=kt _ ht;have pl:∀q∈cS d,q.1∈so->q.2∈so:=λq hq h1=>cl q.1 h1 q.2 (qQ.mpr ⟨d,bw ..,hq⟩);have f1:=qL (Af rows m) ((mem _).mpr ht);have f2:=qL (zV rows so m) ((mem _).mpr ht);unfold cS at pl;push_cast [iY,f1,f2];refine⟨d.w,_,_,_,_,rfl,λw0=>?_,λw1=>?_,λw0 w1=>?_,?_⟩
  ·rw[QL w0] at pl;have p1:=pl _ (bw ..);have p2:=pl _ (bj _ (bw ..));have e:=sG (rows:=rows) (m:=m) (t:=((d.a:Int),(d.b:Int))) ⟨p1,p2⟩;exact⟨e.1.symm,e.2.symm⟩
  ·rw[Qi ⋯,QL w1] at pl;exact Ko V.lo c0 k (pl _ (bw ..))
  ·rw[Qi w0,Qi w1] at pl;exact Kn V.lo c0 k (pl _ (bw ..))
  ·ac_nf;exact nx _ _ _
noncomputable def p6:Fn:=λds Q=>∃(rows:List Rw) (hs:List Hd) (so:List Int) (m:Int),ds=[.lst (cD (aD rows)),.lst (mZ rows),.lst (pH hs),.lst (cD so),tm m]/\Good rows/\qD (aD rows)/\(aD rows).length<=12/\Ev m/\(∀t∈bG (aD rows),0<kar rows so (m*m-1) (2*m) t)/\(∀h∈hs,DT rows h)/\(∀x∈so,∀y,(x,y)∈kK hs->y∈so)/\(∃t∈bG (aD rows),¬((t.1∈so) ↔ (t.2∈so)))/\Q (.v (.bl ah))
theorem Hr:∀ds Q,p6 ds Q->ds.length=5:=by rintro ds Q ⟨_,_,_,_,rfl,_⟩;rfl
theorem KY:MonoF p6:=⟨λds Q Q' w z=>by obtain⟨a,b,c,d,e,f,g,h,i,j,k,l,m,n⟩:=z;exact⟨a,b,c,d,e,f,g,h,i,j,k,l,m,w _ n⟩⟩
noncomputable def same(f g:Int×Int->Dv):List aY->Bool
 | [bo a,bo b]=>eqD (f (a,b)) (g (a,b))
 |_=>ah
theorem xZ:∀ds Q,p6 ds Q->kW kZ jR (gD fP) (gD fA) lO ↥Q (aJ ["_law_bands_here", "_law_directions_here", "_law_holds_here", "_law_some", "_law_turn", "_law_square", "_law_old", "_law_new", "_law_ahead", "_law_behind", "_law_a", "_law_b", "_law_word"] ds):=by
 rintro ds Q ⟨rows,hs,so,m,rfl,G,M,hn,V,kt,ok,cl,⟨t,ht,one⟩,h⟩;have hi:=V.hi;have lo:=V.lo;have mm:=nb hi hi;have T:=Dk hi;have br:(m*m+1).natAbs<=1000000000000000000000000000000000000000000000000000000000000:=⋯;have c0:=Ap G M ht;unfold tm;push_cast [bc];refine⟨bP (bT ⋯) (bT ⋯),?_⟩;refine M3 (aD rows) [] (λk hk=>?_) (by simp;right) ?_
 ·have:=Sf.rY 0 rows k hk;right
 rw[mw,show ((aD rows).map λk=>rD (rows.getD k.toNat ⟨0,0,0⟩))=Iv rows from rfl];push_cast [bc];refine⟨⋯,?_⟩;rw[dw];refine M7 G T br hn (aD rows).length 0 ⋯ ?_;ac_nf;intro a b;refine⟨aD rows,rfl,hn,M,?_⟩;have pl2:(bG (aD rows)).length<=12*12:=fo (rL (aD rows) (aD rows).length 0) (ux hn hn);have mem:=λt=>sI t (bG (aD rows)) [];ac_nf;refine OB G M V kt (bG (aD rows)) [] _ _ _ (λt ht=>ht) (by simp;right) λs10 s11 s12=>?_;generalize (bG (aD rows)).foldl fK []=L at mem ⊢;have mem:∀t,t∈L ↔ t∈bG (aD rows):=λt=>by rw[mem t];simp
 ac_nf;refine OA G M V kt mem hs _ _ _ ok cl λs10 s11 s12=>?_;ac_nf;refine⟨same (Af rows m) (zV rows so m),by unfold t4;simp,λk d hd=>?_,?_⟩
 ·obtain⟨u,hu,e⟩:=gq.mp hd;cases e;exact⟨zV rows so m u,gq.mpr ⟨u,hu,rfl⟩,Be _ _,Be _ _,rfl⟩
 ·have e:((t4 (Af rows m) L).all λkv=>same (Af rows m) (zV rows so m) kv.1)=aj:=yq.mpr ⟨(kp t,Af rows m t),gq.mpr ⟨t,(mem t).mpr ht,rfl⟩,λz=>by
   have z':eqD (Af rows m t) (zV rows so m t)=ah:=z;unfold Af zV at z';have q:=(z0 Dv.int Fw [_,_] [_,_]).mp z';injection q with q1 q2;injection q2 with q2 _;exact bends lo c0 one q1.symm q2.symm⟩
  rw[e];exact h
end Lw
namespace Lw
open L2 Z
open Sf (Rw crs nU Pre Good aD aO place many)
open Fl (kd ids)
theorem Iw(hs:List Hd):cJ 8 (.lst (hs.map wW))=ah:=by
 show okDs 7 (hs.map wW)=ah;induction hs with
 |nil=>rfl
 |cons h hs ih=>
  show (cJ 7 (wW h)&&okDs 7 (hs.map wW))=ah;rw[ih,sx];show (ah&&(ah&&(cJ 6 (.str (wd h.w))&&ah)))=ah;rw[sx,lz,lz];unfold wd;split
  ·decide +kernel
  ·split<;>decide +kernel
theorem MW(hs:List Hd):eqD (.lst (hs.map wW)) (.lst (hs.map wW))=ah:=Qp _ (lS 8 _ (Iw hs)).1
theorem OQ{b:Bool}(h:b=ah):¬(!b)=ah:=by rw[h];decide
theorem Kv(l:List Int):eqD (.lst (cD l)) (.lst (cD l))=ah:=(Fv _ Fw l l).mpr rfl
theorem A5{a b c:Rw}(C:Cnt cs)(ms:[a,b,c].map (·.m)=cs.map (λc:Nat=>(c:Int))):Good [⟨1,999999999999,a.m⟩,⟨0,1,b.m⟩,⟨-1,999999999999,c.m⟩]/\([⟨1,999999999999,a.m⟩,⟨0,1,b.m⟩,⟨-1,999999999999,c.m⟩]:List Rw).map (·.m)=cs.map (λc:Nat=>(c:Int)):=by
 have mp:∀x∈cs.map (λc:Nat=>(c:Int)),1<=x:=λx hx=>by
  obtain⟨y,hy,rfl⟩:=gq.mp hx;have:=C.ok y hy;right
 have ms2:([⟨1,999999999999,a.m⟩,⟨0,1,b.m⟩,⟨-1,999999999999,c.m⟩]:List Rw).map (·.m)=cs.map (λc:Nat=>(c:Int)):=ms;have m0:=mp a.m (by rw[<- ms];simp);have m1:=mp b.m (by rw[<- ms];simp);have m2:=mp c.m (by rw[<- ms];simp);have tt:=C.tot;refine⟨⟨by simp,by simp,?_,λr hr=>?_,by rw[vN _ cs ms2];right⟩,ms2⟩
 ·refine mf.mpr ⟨λr hr=>?_,mf.mpr ⟨λr hr=>?_,by simp⟩⟩
  ·simp only[de,gf,or_false] at hr;rcases hr with rfl | rfl
   ·show (0:Int)<1*1-0*999999999999;decide
   ·show (0:Int)<1*999999999999 - -1*999999999999;decide
  ·rw[cp.mp hr];show (0:Int)<0*999999999999 - -1*1;decide
 ·simp only[de,gf,or_false] at hr;rcases hr with rfl | rfl | rfl
  ·exact⟨.inl (by show (0:Int)<999999999999;decide),by show (-999999999999:Int)<=1;decide,by show (1:Int)<=999999999999;decide,by show (999999999999:Int)<=999999999999;decide,m0⟩
  ·exact⟨.inl (by show (0:Int)<1;decide),by show (-999999999999:Int)<=0;decide,by show (0:Int)<=999999999999;decide,by show (1:Int)<=999999999999;decide,m1⟩
  ·exact⟨.inl (by show (0:Int)<999999999999;decide),by show (-999999999999:Int) <= -1;decide,by show (-1:Int)<=999999999999;decide,by show (999999999999:Int)<=999999999999;decide,m2⟩
variable {tl:bV}{E:En}{x4 x5 x6 x7 x8 x9 x10 x11:Sl}
theorem No{k:Nat}(C:Cnt cs)(G:Good rows)(ms:rows.map (·.m)=cs.map (λc:Nat=>(c:Int)))
  (h:∀(rows:List Rw) (s4:Sl),Good rows->rows.map (·.m)=cs.map (λc:Nat=>(c:Int))->tl E [.v (.scr ns),.v (.int k),.v (.lst (cD (aK 0 cs))),.v (.lst (mZ rows)),s4,x5,x6,x7,x8,x9,x10,x11]):
  aN (g4 (z9 (aZ (aL oB (aL cA (a8 2) (vY (eC (.int 1)))) (eC (.int 2)))) (aZ (aL oB (aL fY (aQ gC (a9 (a8 0) (a9 (aL dQ (a8 1) (eC (.int 1))) aI))) (eC (.int 4))) (eC (.int 1))))) (aN (bQ 4 (jD (a9 (e9 (a9 (eC (.int 1)) (a9 (eC (.int 999999999999)) aI))) (a9 (e9 (a9 (eC (.int 0)) (a9 (eC (.int 1)) aI))) (a9 (e9 (a9 (vY (eC (.int 1))) (a9 (eC (.int 999999999999)) aI))) aI)))))
 (bQ 3 (gQ 1 [4,3] (eO (a9 (eC (.int 3)) aI)) (gN 0) fZ (aL u0 (aL cA (a8 1) (a8 0)) (LC (aL cA (a8 2) (a8 0)) (uD (eC (.int 2))) lV))))) bD) tl E
   [.v (.scr ns),.v (.int k),.v (.lst (cD (aK 0 cs))),.v (.lst (mZ rows)),x4,x5,x6,x7,x8,x9,x10,x11]:=by
 push_cast [nQ C];refine eN (λz=>?_) λz=>h rows _ G ms;refine⟨ns,(k:Int)+1,rfl,⋯,λc=>?_⟩;ac_nf;refine eN (λy=>?_) λy=>h rows _ G ms;have l3:rows.length=3:=by
  have:=congrArg List.length ms;simp only[bc] at this;right
 obtain⟨a,b,c,rfl⟩:∃a b c,rows=[a,b,c]:=by
  match rows,l3 with
  | [a,b,c],_=>exact⟨a,b,c,rfl⟩
 have key:=A5 C ms;have cu:∀x y z:Dv,cut [x,y,z] (aa 2) ap=[z]:=λx y z=>rfl;have ns3:¬(HT.f6 3 0 (aa 2)=0/\HT.f6 3 3 ap=3):=by decide
 have rg:bN 0 3=[.int 0,.int 1,.int 2]:=rfl;have q0:j3 (mZ [a,b,c]) 0=aa (rD a):=rfl;have q1:j3 (mZ [a,b,c]) 1=aa (rD b):=rfl;have q2:j3 (mZ [a,b,c]) 2=aa (rD c):=rfl;rw[rg];push_cast [q0,q1,q2,cu,Ei];exact⟨ns3,ns3,ns3,h _ _ key.1 key.2⟩
theorem xS(C:Cnt cs):bG (aK 0 cs)≠[]:=λz=>by
 obtain⟨l2,l12⟩:=qO C;have lo:=C.lo;have lst:kd (aK 0 cs) ((aK 0 cs).length-1:Nat)=(cs.length:Int)-1:=by
  have b:=nQ C;unfold j3 pG at b;rw[Qi ∅,QL (by simp;right)] at b;simp only[bc,bind_some] at b;rw[show (-1+(((aK 0 cs).length:Nat):Int)).toNat=(aK 0 cs).length-1 by right,bh] at b;unfold kd;rw[dw,jw];have hl:(aK 0 cs).length-1<(aK 0 cs).length:=⋯;rw[bz hl] at b ⊢;exact Dv.int.inj (Option.some.inj b)
 have k0:kd (aK 0 cs) 0=0:=by
  obtain⟨c,cs,rfl⟩:∃c cs',cs=c::cs':=by cases cs with
   |nil=>simp at lo
   |cons c cs=>exact⟨c,cs,rfl⟩
  have c1:=C.ok c (bw ..);obtain⟨c,rfl⟩:∃n,c=n+1:=⟨c-1,⋯⟩;rfl
 have:((0:Int),(((aK 0 cs).length-1:Nat):Int))∈bG (aK 0 cs):=dS.mpr ⟨by show (0:Int)<=0;decide,by show (0:Int)<_;right,by show (_:Int)<_;right,by show kd _ 0≠kd _ _;rw[k0,lst];right⟩;rw[z] at this;cases this
theorem MV(h1:1<=i)(h2:i<=90):Ev (2 ^ i):=by
 obtain⟨j,rfl⟩:∃j,i=j+1:=⟨i-1,⋯⟩;have e:(2:Int) ^ (j+1)=2*2 ^ j:=by rw[Q6,vp]
 have b:=(v8 (i:=j) ⋯).2;exact⟨⟨2 ^ j,e⟩,by rw[e];right,(v8 h2).1⟩
noncomputable abbrev B0(C:ae):bV:=C4 lL gC j8 j7 lM lN (lP C) oW oY (tW C) oX p6 (j5 C)
variable {x2 x3:Sl}
theorem Nr{k:Nat}(h:∀(cs:List Nat) (rows:List Rw),Cnt cs->Good rows->rows.map (·.m)=cs.map (λc:Nat=>(c:Int))->tl E [.v (.scr ns),.v (.int k),.v (.lst (cD (aK 0 cs))),.v (.lst (mZ rows)),x4,x5,x6,x7,x8,x9,x10,x11]):
  aN (bQ 2 (aQ j8 (a9 (aQ gC (a9 (a8 0) (a9 (a8 1) aI))) (a9 (aQ lL (a9 (a8 0) (a9 (a8 1) (a9 (eC (.int 9)) aI)))) aI)))) (aN (bQ 3 (aQ j7 (a9 (a8 2) (a9 (aQ gC (a9 (a8 0) (a9 (aL dQ (a8 1) (eC (.int 1))) aI))) aI)))) tl) E [.v (.scr ns),.v (.int k),x2,x3,x4,x5,x6,x7,x8,x9,x10,x11]:=by
 ac_nf;refine⟨ns,k,rfl,⋯,λc=>?_⟩;ac_nf;refine⟨ns,k,rfl,λm h6 h12=>?_⟩;ac_nf;refine⟨c,m,rfl,h6,h12,λcs hc=>?_⟩;ac_nf;refine⟨ns,(k:Int)+1,rfl,⋯,λc=>?_⟩;ac_nf;refine⟨cs,c,rfl,hc,λrows G ms=>?_⟩;ac_nf;exact h cs rows hc G ms
variable {hs:List Hd}
theorem Ku(h:hs.length<=15):NC hs:=⟨kK hs,by have:=C5 hs;right,λp hp=>hp⟩
theorem Nq{k:Nat}(hc:Cnt cs)(G:Good rows)(ek:aD rows=aK 0 cs)
  (h:∀(hs:List Hd) (d:Dv),hs.length<=15->(∀h∈hs,DT rows h)->((d=.non /\ ∀b:Nat,b<(aD rows).length->oQ (kK hs) (aD rows).length b) \/ (∃ms,d=.lst (cD ms)/\FreeS (kK hs) (aD rows).length ms))->tl E [.v (.scr ns),.v (.int k),.v (.lst (cD (aK 0 cs))),.v (.lst (mZ rows)),x4,.v (.lst (pH hs)),.v (.lst (dO (kK hs))),.v (bU C rows),.v (.lst (pH hs)),.v d,x10,x11]):
  aN (bQ 5 (aQ lM (a9 (a8 2) (a9 (aQ gC (a9 (a8 0) (a9 (aL dQ (a8 1) (eC (.int 2))) aI))) aI)))) (aN (bQ 6 (aQ lN (a9 (a8 5) aI))) (aN (bQ 7 (z8 (j5 C) (a9 (a8 3) aI))) (aN (bQ 8 (i4 oA (a9 (a8 5) aI))) (aN (bQ 9 (aQ (lP C) (a9 (a8 7) (a9 (a8 8) aI)))) tl)))) E [.v (.scr ns),.v (.int k),.v (.lst (cD (aK 0 cs))),.v (.lst (mZ rows)),x4,x5,x6,x7,x8,x9,x10,x11]:=by
 obtain⟨n2,n12⟩:=qO hc;have mo:=sV cs;ac_nf;refine⟨ns,(k:Int)+2,rfl,⋯,λc=>?_⟩;ac_nf;refine⟨aK 0 cs,c,rfl,n12,mo,xS hc,λhs hl ok=>?_⟩;have ok2:∀h∈hs,DT rows h:=λh hh=>by
  unfold DT;rw[ek];exact ok h hh
 ac_nf;refine⟨hs,rfl,⋯,?_⟩;ac_nf;refine⟨rows,rfl,G,?_⟩;ac_nf;refine⟨rows,hs,rfl,⋯,ok2,Ku hl,by rw[ek];exact n12,λb ms _ _ F=>?_,λA=>?_⟩
 ·ac_nf;exact h hs _ hl ok2 (.inr ⟨ms,rfl,F⟩)
 ·ac_nf;exact h hs _ hl ok2 (.inl ⟨rfl,A⟩)
theorem Np{d:Dv}{k:Nat}(hc:Cnt cs)(G:Good rows)(ek:aD rows=aK 0 cs)(hl:hs.length<=15)(ok:∀h∈hs,DT rows h)
  (hd:(d=.non /\ ∀b:Nat,b<(aD rows).length->oQ (kK hs) (aD rows).length b) \/ (∃ms,d=.lst (cD ms)/\FreeS (kK hs) (aD rows).length ms))
  (h:∀s2 s3 s4 s5 s6 s7 s8 s9 s10 s11,E.nx [.v (.scr ns),.v (.int k),s2,s3,s4,s5,s6,s7,s8,s9,s10,s11]):
  aN (g4 (aZ (aL Ci (a8 9) (eC .non))) (g4 (fN (fD (aQ oW (a9 (a8 6) (a9 (i4 fC (a9 (a8 2) aI)) aI))))) (bK (eC (.bl aj))) bD) (aN (g4 (fN (fD (aQ oY (a9 (a8 9) (a9 (a8 6) (a9 (i4 fC (a9 (a8 2) aI)) aI)))))) (bK (eC (.bl aj))) bD) (aN (bQ 10 (i4 oA (a9 (a8 9) aI))) (aN (bQ 11 (aQ (tW C) (a9 (a8 7) (a9 (a8 10) aI)))) (aN (g4 (zW (fN (fD (aQ oX (a9 (a8 11) aI)))) (aZ (aL sZ (a8 10) (a8 9)))) (bK (eC (.bl aj))) bD) (g4 (fN (fD (aQ p6 (a9 (a8 2) (a9 (a8 3) (a9 (a8 5) (a9 (a8 9) (a9 (a8 11) aI)))))))) (bK (eC (.bl aj))) bD)))))) (g4 (aZ (aL sZ (a8 8) (a8 5))) (bK (eC (.bl aj))) bD) E [.v (.scr ns),.v (.int k),.v (.lst (cD (aK 0 cs))),.v (.lst (mZ rows)),x4,.v (.lst (pH hs)),.v (.lst (dO (kK hs))),.v (bU C rows),.v (.lst (pH hs)),.v d,x10,x11]:=by
 obtain⟨n2,n12⟩:=qO hc;have mo:=sV cs;have al:=C5 hs;have pi:=xO ok;have pn:=xS hc;rw[<- ek] at n2 n12 mo pn ⊢;have oh:=Iw hs;have eh:=MW hs;have fin:∀s10 s11:Sl,(cJ 8 (.lst (pH hs))=ah/\cJ 8 (.lst (pH hs))=ah)/\(if (!eqD (.lst (pH hs)) (.lst (pH hs)))=ah then E.rt (.v (.bl aj)) else E.nx [.v (.scr ns),.v (.int k),.v (.lst (cD (aD rows))),.v (.lst (mZ rows)),x4,.v (.lst (pH hs)),.v (.lst (dO (kK hs))),.v (bU C rows),.v (.lst (pH hs)),.v d,s10,s11]):=λs10 s11=>⟨⟨oh,oh⟩,eN (λz=>absurd z (OQ eh)) λ_=>h _ _ _ _ _ _ _ _ _ _⟩;rcases hd with⟨rfl,A⟩ | ⟨ms,rfl,F⟩
 ·push_cast [bc];refine⟨kK hs,(aD rows).length,rfl,⋯,n12,⋯,pi,A,?_⟩;ac_nf;exact fin _ _
 ·push_cast [bc];refine⟨ms,kK hs,(aD rows).length,rfl,F,?_⟩;ac_nf;refine⟨rows,ms,rfl,G,mo,n12,λi i1 i2 kt=>?_⟩;have V:=MV i1 i2;generalize (2:Int) ^ i=m at V kt ⊢;ac_nf;refine⟨m,rfl,V,?_⟩;ac_nf;refine⟨⟨u4 7 ms,u4 7 ms⟩,eN (λz=>absurd z (OQ (Kv ms))) λ_=>?_⟩;have nm:ms.Nodup:=F.up.imp λ{a b} z=>by right
  obtain⟨x,hx⟩:∃x,x∈ms:=by
   cases e:ms with
   |nil=>exact absurd e F.ne
   |cons x l=>exact⟨x,bw ..⟩
  obtain⟨y,hy,ny⟩:∃y:Nat,y<(aD rows).length/\(y:Int) ∉ ms:=dq λz=>by
   have:=sK nm F.inb λk hk=>dq λw=>z ⟨k,hk,w⟩;have:=F.few;right
  refine⟨rows,hs,ms,m,rfl,G,mo,n12,V,kt,ok,F.cl,KG mo hx ny (F.inb x hx) ⟨⋯,⋯⟩ pn,?_⟩;ac_nf;exact fin _ _
theorem Nt{k:Nat}(h:∀s2 s3 s4 s5 s6 s7 s8 s9 s10 s11,E.nx [.v (.scr ns),.v (.int k),s2,s3,s4,s5,s6,s7,s8,s9,s10,s11]):B0 C E [.v (.scr ns),.v (.int k),x2,x3,x4,x5,x6,x7,x8,x9,x10,x11]:=
 Nr λcs rows hc G ms=>No hc G ms λrows s4 G ms=>Nq hc G (rX 0 rows cs ms) λhs d hl ok hd=>Np hc G (rX 0 rows cs ms) hl ok hd h
theorem Oh{d:Dv}{x0 x1:Sl}{Q:List Sl->Prop}(h:Q [x0,.v d,x2,x3,x4,x5,x6,x7,x8,x9,x10,x11]):gN 1 d [x0,x1,x2,x3,x4,x5,x6,x7,x8,x9,x10,x11] Q:=by
 ac_nf;exact h
theorem MH:∀(ks:List Nat) (s1 s2 s3 s4 s5 s6 s7 s8 s9 s10 s11:Sl),(∀s1 s2 s3 s4 s5 s6 s7 s8 s9 s10 s11,E.nx [.v (.scr ns),s1,s2,s3,s4,s5,s6,s7,s8,s9,s10,s11]) ->
  aT (gN 1) (B0 C) [] (ks.map λ(m:Nat)=>Dv.int (m:Int)) E [.v (.scr ns),s1,s2,s3,s4,s5,s6,s7,s8,s9,s10,s11]:=by
 intro ks;induction ks with
 |nil=>
  intro s1 s2 s3 s4 s5 s6 s7 s8 s9 s10 s11 h;rw[uh,b4];exact⟨λp hp=>by simp at hp,h _ _ _ _ _ _ _ _ _ _ _⟩
 |cons k ks ih=>
  intro s1 s2 s3 s4 s5 s6 s7 s8 s9 s10 s11 h;rw[cb,aW];refine⟨λp hp=>by simp at hp,?_⟩;have next:=λs1 s2 s3 s4 s5 s6 s7 s8 s9 s10 s11=>ih s1 s2 s3 s4 s5 s6 s7 s8 s9 s10 s11 h;generalize aT (gN 1) (B0 C) [] (ks.map λ(m:Nat)=>Dv.int (m:Int)) E=G at next ⊢;exact Oh (Nt λs2 s3 s4 s5 s6 s7 s8 s9 s10 s11=>next _ _ _ _ _ _ _ _ _ _ _)
noncomputable def spLaw:Fn:=λds Q=>∃ns:List Int,ds=[.scr ns]/\ns.length<=63/\Q (.v (.bl ah))
theorem Hn:∀ds Q,spLaw ds Q->ds.length=1:=by rintro ds Q ⟨d,rfl,_⟩;rfl
theorem Lq:∀ds Q,spLaw ds Q->Dl lL gC j8 j7 lM lN (lP C) oW oY (tW C) oX p6 (j5 C) ↥Q (aJ ["_law_script", "_law_k", "_law_bands_here", "_law_directions_here", "_law_steep", "_law_holds_here", "_law_arrows_here", "_law_sides", "_law_handed", "_law_some", "_law_chosen", "_law_turn"] ds):=by
 rintro ds Q ⟨ns,rfl,hl,h⟩;ac_nf;obtain⟨m,hm,m22⟩:∃m:Nat,(if (ns.length:Int)<13 then (ns.length:Int) else 13)+1=m/\m<23:=⟨((if (ns.length:Int)<13 then (ns.length:Int) else 13)+1).toNat,by split<;>right,by split<;>right⟩;rw[hm];have sm:∀m:Nat,m<23->qo 0 (m:Int) 3=ah/\0<=cm 0 (m:Int) 3/\(cm 0 (m:Int) 3).toNat<=23:=by decide +kernel
 obtain⟨q1,q2,q3⟩:=sm m m22;refine⟨⟨by decide,by decide,q1,q2⟩,?_⟩;have e:n4 0 3 (cm 0 (m:Int) 3).toNat=((ff (cm 0 (m:Int) 3).toNat).map λ(k:Nat)=>3*k).map λ(m:Nat)=>Dv.int (m:Int):=by
  unfold n4;rw[jt];apply ku;intro k _;show Dv.int (0+(k:Int)*3)=Dv.int ((3*k:Nat):Int);rw[show 0+(k:Int)*3=((3*k:Nat):Int) by right]
 rw[e];refine MH _ _ _ _ _ _ _ _ _ _ _ _ λs1 s2 s3 s4 s5 s6 s7 s8 s9 s10 s11=>?_;ac_nf;exact h
end Lw
namespace Hd
open PySem PySem.W
noncomputable def LB:List im->Nat->BT->Option (BT×Nat)
 | [],n,t=>aa (t,n)
 |o::r,n,t=>match ((t.ins n o).get n).isSome with
  |true=>LB r (n+1) (t.ins n o)
  |false=>ap
theorem yH{life:Life}:∀(l:List im) (n:Nat) (t:BT) {t':BT} {n':Nat},LB l n t=aa (t',n')->absHeap t' n' life=⟨((absHeap t n life).objs.toList++l).toArray,life⟩
 | [],n,t,t',n',h=>by
  cases h;rw[fy];rfl
 |o::r,n,t,t',n',h=>by
  rw[LB] at h;cases g:((t.ins n o).get n).isSome with
  |false=>rw[g] at h;cases h
  |true=>
   rw[g] at h;rw[yH r (n+1) (t.ins n o) h,absHeap_ins g];show Heap.mk _ _=Heap.mk _ _;congr 1;show (((absHeap t n life).objs.push o).toList++r).toArray=_;simp
theorem Es{t:BT}(e:LB h.objs.toList 0 .nil=aa (t,n)):absHeap t n h.life=h:=by
 rw[yH (life:=h.life) _ _ _ e];rfl
noncomputable def qE(st:SharedT->rq->Option (SharedT×rq))(th:rq->Bool)(ok:rq->Bool):Nat->SharedT->rq->Option SharedT
 |0,_,_=>ap
 |n+1,s,t=>match th t with
  |true=>aa s
  |false=>match ok t with
   |false=>ap
   |true=>match QJ s.toks 1000000 with
    |false=>ap
    |true=>match st s t with
     |some (s',t')=>qE st th ok n s' t'
     |none=>ap
theorem nX{tb:String->Option wc}{p:aq}{w:bb}{n₀:Nat}{ann:Option ac}:∀(n:Nat) (s:SharedT) (t:rq) {s':SharedT},qE (stepT (QB tb) p w) through (stepOk n₀ ann) n s t=aa s'->topRun tb p w n₀ ann n s.abs t=aa s'.abs
 |0,_,_,_,h=>by cases h
 |n+1,s,t,s',h=>by
  unfold qE at h;unfold topRun;cases ht:through t with
  |true=>rw[ht] at h;cases h;rfl
  |false=>
   rw[ht] at h;cases hk:stepOk n₀ ann t with
   |false=>rw[hk] at h;cases h
   |true=>
    rw[hk] at h;dsimp only at h ⊢;cases hb:QJ s.toks 1000000 with
    |false=>rw[hb] at h;cases h
    |true=>
     rw[hb] at h;dsimp only at h;cases hs:stepT (QB tb) p w s t with
     |none=>rw[hs] at h;cases h
     |some x=>
      obtain⟨s1,t1⟩:=x;rw[hs] at h;rw[stepT_spec hs];exact nX n s1 t1 h
noncomputable def AA(st:SharedT->rq->Option (SharedT×rq))(th:rq->Bool)(ok:rq->Bool)(M:Nat)(h:ca)(gs:Array xx)(d:QF)(k:Nat)(os:OsState)(t:rq):Option SharedT:=
 match LB h.objs.toList 0 .nil with
 |some (b,n)=>qE st th ok M ⟨b,n,h.life,gs,d,k,os⟩ t
 |none=>ap
variable {p:aq}{ann:Option ac}{M:Nat}
theorem xL{tb:String->Option wc}{n₀:Nat}{gs:Array xx}{d:QF}{k:Nat}{os:OsState}{t:rq}{s':SharedT}
  (e:AA (stepT (QB tb) p w) through (stepOk n₀ ann) M h gs d k os t=aa s'):topRun tb p w n₀ ann M ⟨h,gs,d,k,os⟩ t=aa s'.abs:=by
 unfold AA at e;cases q:LB h.objs.toList 0 .nil with
 |none=>rw[q] at e;cases e
 |some x=>
  obtain⟨b,n⟩:=x;rw[q] at e;have:=nX M _ _ e;unfold SharedT.abs at this;dsimp only at this;rw[Es q] at this;exact this
theorem Hs{q:aq}{loose:List az}{Xt:af->Bool}{Yf:af->α}{Ya:bb->α}{N:Nat}{g0:Bool}{HZ:PX->ca}{gs₀:Array xx}{d₀:QF}{k₀:Nat}{m₀:Nat}
  (open_:∀w:bb,(fencedOpening zn p w N).map (λs=>(s.heap,s.gens,s.drawn,s.toks))=aa (HZ w.params,gs₀,d₀,k₀))
  (size:∀w:bb,((HZ w.params).isNs fk&&gs₀.size==0,(HZ w.params).objs.size,(HZ w.params).nsMap fk "__annotations__")=(ah,m₀,ann)) (le:QJ M N=ah)
  (run:∀(w:bb) (os:OsState),(AA (stepT (QB zn) p w) through (stepOk m₀ ann) M (HZ w.params) gs₀ d₀ k₀ os (topStub p)).map (λs=>
    ((staticsOk (vb p.main.body) (HZ w.params) s.abs.heap&&namesBound p s.abs.heap&&gensDone s.abs&&laidKept (HZ w.params) s.abs.heap),openSeen q loose (vb p.main.body) Xt g0 s.abs,Yf s.abs))=aa (ah,openGood q loose,Ya w)):
  LeftO p q loose Xt Yf Ya N g0:=λw=>by
 obtain⟨⟨h,gs,d,k,os⟩,e,e'⟩:=uz.mp (open_ w);obtain⟨rfl,rfl,rfl,rfl⟩:h=HZ w.params/\gs=gs₀/\d=d₀/\k=k₀:=by simpa using e'
 obtain⟨z1,z2,z3⟩:_/\_/\_:=by simpa only[qa] using size w
 obtain⟨s',r,l⟩:=uz.mp (run w os);obtain⟨l1,l2,l3⟩:_/\_/\_:=by simpa only[qa] using l
 have r:=topRun_mono (N-M) _ _ _ _ (xL r);rw[show M+(N-M)=N by have:=Nat.le_of_ble_eq_true le;right] at r;have t:topFrom zn p w N ⟨HZ w.params,gs,d,k,os⟩=aa s'.abs:=by
  unfold topFrom;dsimp only;rw[z1,z2,z3,r];show (match staticsOk (vb p.main.body) (HZ w.params) s'.abs.heap&&namesBound p s'.abs.heap&&gensDone s'.abs&&laidKept (HZ w.params) s'.abs.heap with | true=>_ | false=>_)=_;rw[l1]
 unfold openEnds;rw[e];show (topFrom zn p w N _).map _=_;rw[t];exact congrArg aa (Prod.ext l2 l3)
end Hd
namespace Lw
open L2 Z
theorem law_start(hl:ns.length<=63)(hO:GL H)(hS:eZ K H a (ns.map V.int)):low K spLaw [.ref a] H (λv _=>v=.bl ah) (λ_ _ _=>False):=
 CD (λQ q=>⟨ns,rfl,hl,q⟩) hO (λP q z=>nomatch z.1) hS
theorem Oj{us:List ac}(h:us.length=1):∃a0,us=[a0]:=by
 cases us with
 |nil=>cases h
 |cons a r=>obtain⟨rfl⟩:=List.length_eq_zero_iff.mp (Nat.succ.inj h);exact⟨a,rfl⟩
theorem L5{fa:ae}(X:K.In h)(G:h.Ns fk mg)(hfa:mg "law" = aa (.ref fa))
  {od0 an0:Option ae} {sl0:Array (Option ac)} {oc0 kV0 dc0 pm0 cd0 ct0:ac} {f0:ae}
  {lZ:ae}
  {odW:Option ae} {slW:Array (Option ac)} {tW1 tW2 tW3:QK} {nW:Nat}
  (aC:mg "Sides" = aa (.ref C))
  (m1:MF K C "__init__" "Sides.__init__" (d7 (top 22) 0))
  (m2:MF K C "many" "Sides.many" (d7 (top 22) 1))
  (m3:MF K C "kind" "Sides.kind" (d7 (top 22) 2))
  (m4:MF K C "vector" "Sides.vector" (d7 (top 22) 3))
  (m5:MF K C "pairs" "Sides.pairs" (d7 (top 22) 4))
  (cl:Cls K C) (mk:zb K C=ah) (kc:lv K (.ref C)=ah)
  (eT:ju K (.ref C) "kinds" = aa ap)
  (h9:ju K (.ref C) "vectors" = aa ap)
  (m6:DF K mg "is_whole" "is_whole" (top 6))
  (m7:DF K mg "turned" "turned" (top 8))
  (m8:DF K mg "keeps_tiles" "keeps_tiles" (top 9))
  (m9:DF K mg "turn_for" "turn_for" (top 10))
  (m10:DF K mg "has_three_wholes" "has_three_wholes" (top 16))
  (m11:DF K mg "has_few_figures" "has_few_figures" (top 17))
  (m12:DF K mg "points_up" "points_up" (top 18))
  (m13:DF K mg "lies_left" "lies_left" (top 19))
  (m14:DF K mg "check_direction" "check_direction" (top 20))
  (m15:DF K mg "check_directions" "check_directions" (top 21))
  (m16:DF K mg "is_pair" "is_pair" (top 25))
  (m17:DF K mg "is_hold" "is_hold" (top 26))
  (m18:DF K mg "pulls_of" "pulls_of" (top 27))
  (m19:DF K mg "pulls" "pulls" (top 28))
  (m20:DF K mg "reached" "reached" (top 30))
  (m21:DF K mg "free" "free" (top 31))
  (m22:DF K mg "_law_cell_at" "_law_cell_at" (top 33))
  (m23:DF K mg "_law_whole" "_law_whole" (top 34))
  (m24:DF K mg "_law_wholes" "_law_wholes" (top 35))
  (m25:DF K mg "_law_most" "_law_most" (top 36))
  (m26:DF K mg "_law_bands" "_law_bands" (top 37))
  (m27:DF K mg "_law_next" "_law_next" (top 38))
  (m28:DF K mg "_law_directions" "_law_directions" (top 39))
  (m29:DF K mg "_law_pairs" "_law_pairs" (top 40))
  (m30:DF K mg "_law_holds" "_law_holds" (top 41))
  (m31:DF K mg "_law_arrows" "_law_arrows" (top 42))
  (m32:DF K mg "_law_led" "_law_led" (top 43))
  (m33:DF K mg "_law_stiff" "_law_stiff" (top 44))
  (m34:DF K mg "_law_closed" "_law_closed" (top 45))
  (m35:DF K mg "_law_common" "_law_common" (top 46))
  (m36:DF K mg "_law_is_turn" "_law_is_turn" (top 47))
  (m37:DF K mg "_law_vector" "_law_vector" (top 48))
  (m38:DF K mg "_law_area" "_law_area" (top 49))
  (m39:DF K mg "_law_product" "_law_product" (top 50))
  (m40:DF K mg "_law_held" "_law_held" (top 51))
  (m41:DF K mg "_law_bends" "_law_bends" (top 52))
  (a0:mg "law" = aa (.ref f0))
  (l0:K.lookup f0=aa ⟨oc0,od0,.func (sw "law" "law" (gZ (top 53)) (dH (top 53)) (aH (top 53)) .none kV0 dc0 pm0 an0 cd0 ct0),sl0⟩) (c0:vn K cd0 "law" = ah) (k0:lv K (.ref f0)=ah)
  (eR:∃t,mg "FEWEST_DIRECTIONS" = aa (.int 2 t))
  (fE:∃t,mg "MOST_DIRECTIONS" = aa (.int 6 t))
  (jK:∃t,mg "MOST_BANDS" = aa (.int 12 t))
  (fF:∃t,mg "LARGEST_PART" = aa (.int 999999999999 t))
  (GS:mg "ValueError" = ap)
  (mK:mg "abs" = ap)
  (DX:mg "all" = ap)
  (oR:mg "bool" = ap)
  (kL:mg "enumerate" = ap)
  (tT:mg "int" = ap)
  (aP:mg "isinstance" = ap)
  (bL:mg "len" = ap)
  (iN:mg "list" = ap)
  (tS:mg "min" = ap)
  (bH:mg "range" = ap)
  (j4:mg "sorted" = ap)
  (DW:mg "sum" = ap)
  (eK:mg "tuple" = ap)
  (DV:mg "zip" = ap)
  (GH:W.nsIn K fk "WORDS" = aa (aa (.ref lZ)))
  (FL:K.lookup lZ=aa ⟨.type "tuple",odW,.seq #[.str "brace" tW1,.str "more" tW2,.str "less" tW3] nW,slW⟩):
  ∃fd:gh,(∀(s:af) (v:ac),yf s fd ⟨[v],[]⟩ [("_law_script",v)]) /\ ∀base:ca,K.In base->base.Ns fk mg->FnOk P w K mg base Av 7 fa fd ["_law_script"] ((low K spLaw)):=by
 have e:=hfa.symm.trans a0;cases e;have F0:=vW (st:=(top 53)) l0 c0 k0;have vV:=W.mg_of X G GH;have qR:Words K lZ ["brace", "more", "less"]:=⟨⟨_,[.str "brace" tW1,.str "more" tW2,.str "less" tW3],nW,FL,rfl,rfl,.cons _ _ (.cons _ _ (.cons _ _ .nil))⟩⟩;refine⟨sw "law" "law" (gZ (top 53)) (dH (top 53)) (aH (top 53)) .none kV0 dc0 pm0 an0 cd0 ct0,λs v=>.of_eq rfl,λbase _ _=>?_⟩;have mI:IAt K mg "Sides" C "Sides.__init__" (d7 (top 22) 0) ["self", "directions"]:=m1.ini aC mk kc;have eW:=zH P w mg base m6.at aP tT oR Ho AM;have oK:=DI P w mg base m7.at  Hb Ca;have eX:=mF P w mg base m10.at aP eK bL DX eW F2 Cv n6;have fO:=nH P w mg base m11.at mK fF Bj o7;have lA:=vZ P w mg base m12.at  Bj xT;have lB:=w5 P w mg base m13.at  FB xU;have fQ:=nI P w mg base m14.at eX Eu fO F3 lA F3 FI o8;have eY:=mG P w mg base m15.at aP iN bL DW DV eR fE jK fQ HY lB HU Hq n8;have wJ:=IK P w mg base mI kL eK cl eT h9 eY KW Cw Ju;have i5:=II P w mg base m2.at bL cl eT F9 Js;have lG:=IJ P w mg base m3.at cl eT FD Jt;have jE:=DH P w mg base m4.at cl h9 eT Ha EN;have wI:=G4 P w mg base m5.at bH cl i5 fJ lG iC Cz HC;have iW:=sQ P w mg base m8.at cl oK KM wI rP jE KL Ka t9;have nJ:=zB P w mg base m9.at iW MA KZ AG;have pL:=Ak P w mg base m16.at cl eW F2 i5 fJ lG iC F7 Cd;have pM:=Al P w mg base m17.at aP eK bL vV qR pL HQ FE Ce;have nK:=zC P w mg base m18.at  He AH;have wH:=G3 P w mg base m19.at j4 pM HW nK KN Cy HB;have pK:=Ai P w mg base m20.at  yT Cb;have An:=IL P w mg base m21.at bH j4 bL cl wH rO pK nD i5 fJ FH Jv;have cB:=sP P w mg base m22.at bL FJ t8;have f7:=w9 P w mg base m23.at aP tT oR Hg xV;have k7:=tH P w mg base m24.at aP eK f7 Ex Hf vA;have nM:=zE P w mg base m25.at cB Bh F8 AJ;have lF:=wF P w mg base m26.at bH bL tS D3 y2;have nL:=zD P w mg base m27.at  D0 AI;have g9:=oI P w mg base m28.at mK bH bL nL Ez D1 pA;have f8:=wB P w mg base m29.at bL bH Hj xX;have lD:=wC P w mg base m30.at bH bL f8 Ey FA xY;have kA:=tL P w mg base m31.at  FC vD;have lW:=Aj P w mg base m32.at bH bL Hl Cc;have lC:=wA P w mg base m33.at lW KS Hi xW;have k9:=tK P w mg base m34.at aP iN bL f7 Ex Hm vC;have h7:=tJ P w mg base m35.at mK Kb vB;have iV:=sO P w mg base m36.at bL k7 KO h7 MB Hk t7;have k8:=tI P w mg base m37.at  Hh t5;have kB:=zG P w mg base m38.at  yU AL;have gE:=sN P w mg base m39.at  yU t6;have nN:=zF P w mg base m40.at  FG AK;have lE:=wE P w mg base m41.at bL bH k8 KP f8 Ey gE Bi kB Bi nN HX Hr xZ;exact Kw P w mg base F0 bL tS bH iN nM HR cB Bh lF F4 g9 F1 lD HS kA HV An vM lC KQ k9 KU nJ M9 iV KR lE KY wJ Ew Hn Lq
theorem walk{l:W.OpenLaw}{q:aq}{loose:List az}{XP:(az->Option ac)->ca->Prop}{YP:bb->ca->Prop}{d:DefRec}{K:PX->ai}(hn:l.most=aa 63)(hdf:d.params.defaults=[])
  (hY:∀(w:bb) (h:ca),YP w h->(K w.params).In h)
  (F:∀(w:bb) (mg:az->Option ac) (fa:ae) (h:ca),(K w.params).In h->h.Ns fk mg->mg d.name=aa (.ref fa) ->
   ∃fd:gh,(∀(s:af) (u:ac),yf s fd ⟨[u],[]⟩ [("_law_script",u)]) /\ ∀base:ca,(K w.params).In base->base.Ns fk mg->FnOk l.prog w (K w.params) mg base Av 7 fa fd ["_law_script"] ((low (K w.params) spLaw))):
  W.WalkO q loose XP YP l.row.toRowW d [] (λf vs=>PySem.call f vs):=
 L2.GR (n:=63) (k:=7) (x:="_law_script") (CX:=λ_=>Av) (sp:=λw=>(low (K w.params) spLaw)) hn ∅ hdf ⟨rfl,by decide,by decide⟩ hY F (λ_ H a ns hl hO hS=>law_start hl hO hS) λ_ _ _ _ _ z=>z
end Lw
noncomputable def Hd.QV:PySem.Program:=PySem.W.view gw [0,2,3,4,6,8,9,10,12,13,14,15,16,17,18,19,20,21,22,24,25,26,27,28,30,31,33,34,35,36,37,38,39,40,41,42,43,44,45,46,47,48,49,50,51,52,53]
open PySem PySem.W PyProof.Rows
local macro_rules | `(tactic| o_head $H)=>`(tactic| refine holds_open (q:=Hd.QV) (loose:=[]) (Xt:=λs=>xlAt Hd.QV [] s&&recOk (RowW.records (OpenRow.toRowW (OpenLaw.row PySem.Challenge.rw_slantfloor_k83_whole_free_bands_bend))) s) (XP:=XL Hd.QV []) (Yf:=Hook.obs $H) (Ya:=Hook.val $H) (YP:=Hook.says $H) (N:=4728) ?hl (Hook.of $H) (Hook.keeps $H) (λs e=>xl_of s (Bool.and_eq_true_iff.mp e).1) XL.keeps (by rfl) (by rfl) (by rfl) (λs e=>recFacts_of (Bool.and_eq_true_iff.mp e).2) (by rfl) (by first | assumption | decide +kernel) (by decide +kernel) ⟨rfl,rfl,rfl,rfl,rfl,by decide +kernel⟩ ?hw ?hc)
set_option maxRecDepth 100000 in
noncomputable def PySem.W.Fast.tw5042594664184877692:=PySem.Challenge.rw_slantfloor_k83_whole_free_bands_bend
theorem PySem.W.Fast.te5042594664184877692:PySem.Challenge.rw_slantfloor_k83_whole_free_bands_bend=PySem.W.Fast.tw5042594664184877692:=rfl
set_option maxHeartbeats 0 in
theorem PySem.Challenge.cw_slantfloor_k83_whole_free_bands_bend_holds : PySem.Challenge.rw_slantfloor_k83_whole_free_bands_bend.Holds := by
 w_on;o_law;k_head
 (case hl=>exact Hd.Hs (HZ:=boot_heap) (gs₀:=Array.mk []) (d₀:=boot_drawn) (k₀:=boot_toks) (m₀:=11) (ann:=aa (.ref 6)) (M:=4728) (boot_open (by kernel_rfl) rfl (λs=>by kernel_rfl)) (λw=>by kernel_rfl) rfl (λw os=>by rw[ww,wz,xa,xr,xu];kernel_rfl))
 (case hw=>w_witness2)
 k_fill
 refine Lw.walk (l:=gx) rfl rfl (λw h Y=>by first | exact PySem.W.kIn_of Y | exact PySem.W.km_in_of Y) ?F
 case F=>
  intro w mg fa h KX G hmg;apply Lw.L5 KX G hmg
  any_goals first | refine' Z.DF.mk (mg_of KX G ?_) ?_ ?_ ?_ | refine' Z.MF.mk ?_ ?_ ?_ ?_ ?_ | refine' mg_none_of KX G ?_ | refine' mg_of KX G ?_ | refine' Z.Oi (mg_of KX G ?_) | refine' Z.exS (mg_of KX G ?_) | refine' L2.Cls.mk ?_ ?_ ?_ ?_
  any_goals k_is

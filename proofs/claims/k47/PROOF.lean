import PyProof.Rows.All
import Wide.All
import OpenK.AllK
import Wide.FinOn
import Lean
import PyProof.EqAt
import PyProof.EqKinds
import PyProof.TupleCall
import PyProof.NeKinds
import PyProof.NeData
import PyProof.EqLayable
import PyProof.ZipIter
import PyProof.EnumMake
import KE.LcSums
import PyProof.CompFree
import PyProof.ListRange
import PyProof.Rows.Range3
import PyProof.TupleOfSeq
import KE.KSortTup
import PyProof.Rows.TupAdd
import PyProof.DictWalks
import PyProof.AutoListH
import PyProof.StrWalks
import PyProof.SliceStr2
import PyProof.StrBlock2
import PyProof.StrLaws
import PyProof.StrCalls
import PyProof.CallStr
import KE.KIntText
import KE.KDictSum
import PyProof.Rows.SetFrom
import PyProof.SetRoads
import PyProof.Rows.StrInSeq3
import Open.Boot
import Open.Tree
import PySem.Challenge.RW_slantfloor_k47_down_to_the_low_floor
local macro_rules | `(tactic| ac_rfl)=>`(tactic| first | lia | omega)
local macro_rules | `(term| ⋯)=>`(by  ac_rfl)
local macro_rules | `(term| ∅)=>`(by  decide)
local macro_rules | `(term| ↥$q)=>`({ nx:=fun _=>$q (.v .non),rt:=$q })
open List (mem_cons mem_filter mem_range mem_cons_self mem_cons_of_mem mem_append mem_append_left mem_append_right size_toArray length_cons map_cons length_map append_nil nodup_cons of_mem_zip length_take mem_of_getElem? length_append length_replicate length_drop map_nil replicate_succ flatten_cons append_assoc length_singleton nil_append mem_singleton not_mem_nil take_of_length_le find?_cons any_cons length_nil nodup_nil mem_iff_getElem? all_cons mem_or_eq_of_mem_set drop_eq_getElem_cons drop_length pairwise_iff_getElem eq_of_mem_replicate ext_getElem? map_take mem_map all_eq_true lookup_cons map_append pairwise_map map_map map_congr_left cons_append mem_singleton_self find?_some filter_cons filter_append length_filter_le take_append_drop mem_iff_getElem pairwise_cons perm_ext_iff_of_nodup take_take sum_cons mem_flatMap pairwise_append filter_eq_nil_iff filter_cons_of_pos filter_cons_of_neg perm_middle map_id perm_append_comm)
open Nat (lt_irrefl lt_of_lt_of_le le_succ ne_of_lt le_trans le_of_lt ne_of_gt le_refl le_of_eq zero_le succ_mul add_comm le_of_not_lt le_add_right lt_trans lt_trichotomy min_eq_left zero_add add_mul mul_add lt_or_ge lt_asymm mul_le_mul add_zero zero_mul mul_assoc)
open Int (toNat_natCast lt_or_gt_of_ne not_lt emod_nonneg emod_lt_of_pos ofNat_lt)
open Option (isSome_iff_exists getD_none map_some isSome_map map_eq_some_iff getD_some)
open Array (length_toList)
open PySem PySem.Spec PyProof.Rows
noncomputable section
set_option Elab.async false
set_option linter.all false
set_option maxRecDepth 100000
set_option maxHeartbeats 1000000
namespace L2
def u5(o:Obj):Prop:=∃us:Array Value,o.data=.fields us/\us[2]?=some .none
theorem Rv{o:Obj}{vs:Array Value}{i:Nat}{v:Value}(d:o.data=.fields vs):(Obj.mapFields (·.setIfInBounds i v) o).data=.fields (vs.setIfInBounds i v):=Obj.data_mapFields d _
section
variable {M:Model} {A:Around} {E:Value->Shared->Prop} {s:Shared} {base:Heap} {env:Env} {outer:List Env} {L e:Addr} {o:Obj}
end
def Qu(A:Around)(h:Heap):Prop:=A.handled=none \/ ∃(a:Addr) (o:Obj),A.handled=some (.ref a)/\h.get? a=some o/\u5 o
theorem Qu.keeps{A:Around}{h h':Heap}(q:Qu A h)(k:∀b o,u5 o->h.get? b=some o->h'.get? b=some o):Qu A h':=by
  rcases q with q | ⟨a,o,e,g,m⟩
  . exact .inl q
  . exact .inr ⟨a,o,e,k a o m g,m⟩
theorem xS:entryFor table "proto.unchain" = some Builtin.«proto.unchain» := entryFor_of_fast (by kernel_rfl)
section
variable {prog:Program} {w:World} {A:Around} {E:Value->Shared->Prop} {s:Shared}
theorem zE{e:Value}{a:Addr}{o:Obj}{Q:Value->Shared->Prop}(g:s.heap.get? a=some o)(m:u5 o)(q:Q .none s):wpAny (model prog w) A (runValue (.builtin "proto.unchain" ⟨[e,.ref a,.ref a,.bool false],[]⟩)) Q E s:=by
  obtain⟨us,d,n2⟩:=m
  refine runValue_entry xS ?_
  unfold Builtin.«proto.unchain»
  dsimp only
  refine wpAny_bind (wpAny_field g d n2 ?_)
  rw[if_pos ∅]
  exact wpAny_pure ⟨_,rfl,q⟩
theorem Ez{α:Type}{a:Addr}{o:Obj}{us:Array Value}{Q:α->Shared->Prop}(q:Qu A s.heap)(g:s.heap.get? a=some o)(d:o.data=.fields us)(hz:2<us.size)(hm:∀v,A.handled=some v->v ≠ .ref a)
    (h:∀h' o',(∀b u,b≠a->s.heap.get? b=some u->h'.get? b=some u)->h'.get? a=some o'->o'.cls=o.cls->E (.ref a) { s with heap:=h' }):wpAny (model prog w) A (raiseNew (α:=α) (.ref a)) Q E s:=by
  simp only[raiseNew]
  refine wpAny_bind (wpAny_handled ?_)
  rcases q with q | ⟨b,ob,q,gb,mb⟩
  . rw[q]
    exact wpAny_bind (wpAny_pure (wpAny_throw (h s.heap o (fun _ _ _ z=>z) g rfl)))
  . rw[q]
    have ne:b≠a:=fun z=>hm _ q (by rw[z])
    dsimp only
    rw[if_pos (show (Value.ref b != Value.ref a)=true by simpa using ne)]
    refine wpAny_bind (wpAny_holding (zE gb mb (wpAny_bind ?_)))
    unfold updateField
    refine wpAny_bind (wpAny_load g ?_)
    rw[d]
    dsimp only
    rw[if_pos hz]
    refine wpAny_update g (wpAny_throw (h _ (Obj.mapFields (·.setIfInBounds 2 (.ref b)) o) (fun c u hc z=>(Heap.get?_update_other _ _ (Ne.symm hc)).trans z) (Heap.get?_update_self _ g (Obj.isFreed_of_fields (Rv d))) (Obj.cls_mapFields ..)))
theorem lB{α:Type}{Q:α->Shared->Prop}(q:Qu A s.heap)(h:∀h' e,(∀b u,s.heap.get? b=some u->h'.get? b=some u)->(∃o,h'.get? e=some o/\o.cls=.type "StopIteration")->E (.ref e) { s with heap:=h' }):
    wpAny (model prog w) A (newExc (.type "StopIteration") [] >>= fun e=>raiseNew (α:=α) e) Q E s:=by
  refine wpAny_bind ?_
  simp only[newExc,newTuple]
  refine wpAny_bind (wpAny_newObj_type (wpAny_bind (m:=firstArgMember _ _) (wpAny_of_eq (a:=Value.none) (by first | rfl | (simp only[firstArgMember];rfl)) (wpAny_newObj_type ?_ (by size_fits)))) (by size_fits))
  refine Ez (q.keeps fun b u _ z=>Heap.get?_push_of_some _ (Heap.get?_push_of_some _ z)) (Heap.get?_push_size _ rfl) rfl (by simp;ac_rfl) (fun v e z=>?_) fun h' o' k g c=>h h' _ (fun b u z=>k b u ?_ (Heap.get?_push_of_some _ (Heap.get?_push_of_some _ z))) ⟨o',g,c⟩
  . subst z
    rcases q with q | ⟨b,ob,q,gb,_⟩
    . rw[q] at e;cases e
    . rw[q] at e
      cases e
      exact lt_irrefl _ (lt_of_lt_of_le (Heap.lt_size gb) (by rw[Heap.size_push];exact le_succ _))
  . intro e
    subst e
    exact lt_irrefl _ (lt_of_lt_of_le (Heap.lt_size z) (by rw[Heap.size_push];exact le_succ _))
theorem C6{it l:Addr}{i:Nat}{xs:Array Value}{Q:Option Value->Shared->Prop}(q:Qu A s.heap)(t:s.heap.IsListIter it l i)(il:s.heap.IsList l xs)(n:xs[i]?=none)(h:∀h',Heap.ExtBut it s.heap h'->Q none { s with heap:=h' }):
    wpAny (model prog w) A (pyNext (.ref it)) Q E s:=by
  obtain⟨o,g,c,d⟩:=id t
  obtain⟨ol,gl,_,nl,dl⟩:=il
  unfold pyNext
  refine wpAny_bind (wpAny_attempt (wpAny_callSpecial?_slot (name:=Str.ofString "__next__") t.typeIs slot_listiter_next (wpAny_call_entry slot_listiter_next t.typeIs entry_listiter_next ?_ (args_listiter_next _))))
  refine wpAny_bind (m:=field (.ref it) 0) (wpAny_field g d (x:=.ref l) rfl ?_)
  rw[if_neg (show ¬((Value.ref l==Value.none)=true) from fun z=>nomatch z)]
  refine wpAny_bind (m:=field (.ref it) 1) (wpAny_field g d (x:=.int i 0) rfl (wpAny_bind (m:=seqItems? (.ref l)) (wpAny_seqItems gl dl ?_)))
  simp only[toNat_natCast,n]
  have ne:∀b u,u5 u->s.heap.get? b=some u->b≠it:=fun b u m gb z=>by
    subst z
    rw[g] at gb
    cases gb
    obtain⟨us,du,z2⟩:=m
    rw[d] at du
    cases du
    simp at z2
  refine wpAny_bind (wpAny_rule (wpAny_bind (wpAny_setField g d (by simp) (lB (q.keeps fun b u m z=>(Heap.get?_update_other _ _ (Ne.symm (ne b u m z))).trans z) fun h' e k ⟨oe,ge,ce⟩=>?_))))
  refine wpAny_bind (wpAny_isInstance (T:="StopIteration") (b:=true) ⟨oe,ge,ce⟩ isSubtype_stop (wpAny_pure (h _ fun b u hb z=>k b u ((Heap.get?_update_other _ _ (Ne.symm hb)).trans z))))
theorem Fy{it l:Addr}{i:Nat}{xs:Array Value}{Q:Option Value->Shared->Prop}(q:Qu A s.heap)(t:s.heap.IsTupleIter it l i)(il:s.heap.IsTuple l xs)(n:xs[i]?=none)(h:∀h',Heap.ExtBut it s.heap h'->Q none { s with heap:=h' }):
    wpAny (model prog w) A (pyNext (.ref it)) Q E s:=by
  obtain⟨o,g,c,d⟩:=id t
  obtain⟨ol,gl,_,nl,dl⟩:=il
  unfold pyNext
  refine wpAny_bind (wpAny_attempt (wpAny_callSpecial?_slot (name:=Str.ofString "__next__") t.typeIs F.slot_tuple_iterator_next (wpAny_call_entry F.slot_tuple_iterator_next t.typeIs F.entry_tuple_iterator_next ?_ (F.args_tuple_iterator_next_1 _))))
  refine wpAny_bind (m:=field (.ref it) 0) (wpAny_field g d (x:=.ref l) rfl ?_)
  rw[if_neg (show ¬((Value.ref l==Value.none)=true) from fun z=>nomatch z)]
  refine wpAny_bind (m:=field (.ref it) 1) (wpAny_field g d (x:=.int i 0) rfl (wpAny_bind (m:=seqItems? (.ref l)) (wpAny_seqItems gl dl ?_)))
  simp only[toNat_natCast,n]
  have ne:∀b u,u5 u->s.heap.get? b=some u->b≠it:=fun b u m gb z=>by
    subst z
    rw[g] at gb
    cases gb
    obtain⟨us,du,z2⟩:=m
    rw[d] at du
    cases du
    simp at z2
  refine wpAny_bind (wpAny_rule (wpAny_bind (wpAny_setField g d (by simp) (lB (q.keeps fun b u m z=>(Heap.get?_update_other _ _ (Ne.symm (ne b u m z))).trans z) fun h' e k ⟨oe,ge,ce⟩=>?_))))
  refine wpAny_bind (wpAny_isInstance (T:="StopIteration") (b:=true) ⟨oe,ge,ce⟩ isSubtype_stop (wpAny_pure (h _ fun b u hb z=>k b u ((Heap.get?_update_other _ _ (Ne.symm hb)).trans z))))
theorem yY{it:Addr}{x left step:Int}{Q:Option Value->Shared->Prop}(q:Qu A s.heap)(t:IsRangeIter s.heap it x left step)(n:left<=0)(h:∀h',Heap.ExtBut it s.heap h'->Q none { s with heap:=h' }):
    wpAny (model prog w) A (pyNext (.ref it)) Q E s:=by
  have ty:s.TypeIs (.ref it) "range_iterator" := ⟨_,t,rfl⟩
  unfold pyNext
  refine wpAny_bind (wpAny_attempt (wpAny_callSpecial?_slot (name:=Str.ofString "__next__") ty F.slot_range_iterator_next (wpAny_call_entry F.slot_range_iterator_next ty F.entry_range_iterator_next ?_ (F.args_range_iterator_next_1 _))))
  refine wpAny_bind (m:=field (.ref it) 0) (wpAny_field t rfl (x:=rawInt x) rfl (wpAny_bind (m:=field (.ref it) 1) (wpAny_field t rfl (x:=rawInt left) rfl (wpAny_bind (m:=field (.ref it) 2) (wpAny_field t rfl (x:=rawInt step) rfl ?_)))))
  refine(show wpAny _ _ (ite (left<=0) _ _) _ _ s from ?_)
  rw[if_pos n]
  refine wpAny_bind (wpAny_rule (wpAny_bind (lB q fun h' e k ⟨oe,ge,ce⟩=>?_)))
  refine wpAny_bind (wpAny_isInstance (T:="StopIteration") (b:=true) ⟨oe,ge,ce⟩ isSubtype_stop (wpAny_pure (h _ fun b u hb z=>k b u z)))
theorem qX{it l:Addr}{i:Nat}{xs:Array Value}{Q:Value->Shared->Prop}(q:Qu A s.heap)(t:s.heap.IsListIter it l i)(il:s.heap.IsList l xs)(n:xs[i]?=none)
    (h:∀h' e,Heap.ExtBut it s.heap h'->(∃o,h'.get? e=some o/\o.cls=.type "StopIteration")->E (.ref e) { s with heap:=h' }):wpAny (model prog w) A (Builtin.SmallTypes.nextOf (.ref it)) Q E s:=by
  obtain⟨o,g,c,d⟩:=id t
  obtain⟨ol,gl,_,nl,dl⟩:=il
  unfold Builtin.SmallTypes.nextOf
  refine wpAny_bind (wpAny_callSpecial?_slot (name:=Str.ofString "__next__") t.typeIs slot_listiter_next (wpAny_call_entry slot_listiter_next t.typeIs entry_listiter_next ?_ (args_listiter_next _)))
  refine wpAny_bind (m:=field (.ref it) 0) (wpAny_field g d (x:=.ref l) rfl ?_)
  rw[if_neg (show ¬((Value.ref l==Value.none)=true) from fun z=>nomatch z)]
  refine wpAny_bind (m:=field (.ref it) 1) (wpAny_field g d (x:=.int i 0) rfl (wpAny_bind (m:=seqItems? (.ref l)) (wpAny_seqItems gl dl ?_)))
  simp only[toNat_natCast,n]
  have ne:∀b u,u5 u->s.heap.get? b=some u->b≠it:=fun b u m gb z=>by
    subst z
    rw[g] at gb
    cases gb
    obtain⟨us,du,z2⟩:=m
    rw[d] at du
    cases du
    simp at z2
  exact wpAny_bind (wpAny_rule (wpAny_bind (wpAny_setField g d (by simp) (lB (q.keeps fun b u m z=>(Heap.get?_update_other _ _ (Ne.symm (ne b u m z))).trans z) fun h' e k z=>h h' e (fun b u hb z=>k b u ((Heap.get?_update_other _ _ (Ne.symm hb)).trans z)) z))))
theorem JB{e it l:Addr}{i:Nat}{xs:Array Value}{old:Value}{Q:Option Value->Shared->Prop}(q:Qu A s.heap)(he:IsEnum s.heap e it i old)(t:s.heap.IsListIter it l i)(il:s.heap.IsList l xs)(n:xs[i]?=none)
    (h:∀h',Heap.ExtBut it s.heap h'->Q none { s with heap:=h' }):wpAny (model prog w) A (pyNext (.ref e)) Q E s:=by
  have ty:s.TypeIs (.ref e) "enumerate" := ⟨_,he,rfl⟩
  unfold pyNext
  refine wpAny_bind (wpAny_attempt (wpAny_callSpecial?_slot (name:=Str.ofString "__next__") ty F.slot_enumerate_next (wpAny_call_entry F.slot_enumerate_next ty F.entry_enumerate_next ?_ (F.args_enumerate_next_1 _))))
  refine wpAny_bind (m:=field (.ref e) 2) (wpAny_field he rfl (x:=.ref it) rfl (wpAny_bind (qX q t il n fun h' x k ⟨oe,ge,ce⟩=>?_)))
  exact wpAny_bind (wpAny_isInstance (T:="StopIteration") (b:=true) ⟨oe,ge,ce⟩ isSubtype_stop (wpAny_pure (h _ k)))
theorem LM{z TI TO i1 i2 l1 l2:Addr}{k1 k2:Nat}{xs ys:Array Value}{a b:Value}{Q:Option Value->Shared->Prop}(q:Qu A s.heap)(D:ZipApart z TI TO i1 i2 l1 l2)(hz:IsZip s.heap z TI TO .none)(pI:IsPair s.heap TI (.ref i1) (.ref i2))(pO:IsPair s.heap TO a b)
    (t1:s.heap.IsListIter i1 l1 k1) (t2:s.heap.IsListIter i2 l2 k2) (il1:s.heap.IsList l1 xs) (il2:s.heap.IsList l2 ys) (n:xs[k1]?=none \/ ys[k2]?=none)
    (h:∀h',(∀c o,c≠z->c≠TO->c≠i1->c≠i2->s.heap.get? c=some o->h'.get? c=some o)->Q none { s with heap:=h' }):wpAny (model prog w) A (pyNext (.ref z)) Q E s:=by
  have ty:s.TypeIs (.ref z) "zip" := ⟨_,hz,rfl⟩
  have fin:∀h' e,(∃o,h'.get? e=some o/\o.cls=.type "StopIteration")->(∀c o,c≠z->c≠TO->c≠i1->c≠i2->s.heap.get? c=some o->h'.get? c=some o) ->
      wpAny (model prog w) A (isInstance (.ref e) (.type "StopIteration") >>= fun y=>if y=true then pure none else throw (.ref e)) Q E { s with heap:=h' }:=fun h' e ⟨oe,ge,ce⟩ k=>
    wpAny_bind (wpAny_isInstance (T:="StopIteration") (b:=true) ⟨oe,ge,ce⟩ isSubtype_stop (wpAny_pure (h _ k)))
  have mz:∀f0,¬u5 { cls:=.type "zip",dict:=none,data:=.fields #[f0,.bool false,.bool false,.ref TI,.ref TO],slots:=#[] }:=fun f0 ⟨us,du,z2⟩=>by
    cases du
    simp at z2
  have mi:∀{h1:Heap} {i l:Addr} {k:Nat},h1.IsListIter i l k -> ∀u,u5 u->h1.get? i≠some u:=fun⟨o,g,_,d⟩ u ⟨us,du,z2⟩ gu=>by
    rw[g] at gu
    cases gu
    rw[d] at du
    cases du
    simp at z2
  have mp:∀{h1:Heap} {p:Addr} {x y:Value},IsPair h1 p x y -> ∀u,u5 u->h1.get? p≠some u:=fun g u ⟨us,du,z2⟩ gu=>by
    rw[g] at gu
    cases gu
    cases du
  unfold pyNext
  refine wpAny_bind (wpAny_attempt (wpAny_callSpecial?_slot (name:=Str.ofString "__next__") ty F.slot_zip_next (wpAny_call_entry F.slot_zip_next ty F.entry_zip_next ?_ (F.args_zip_next_1 _))))
  refine wpAny_bind (m:=field (.ref z) 2) (wpAny_field hz rfl (x:=.bool false) rfl (wpAny_bind (m:=field (.ref z) 3) (wpAny_field hz rfl (x:=.ref TI) rfl (wpAny_bind (wpAny_seqItems pI rfl ?_)))))
  refine wpAny_bind (m:=Builtin.SmallTypes.ownedTupleIsFree (.ref z)) ?_
  unfold Builtin.SmallTypes.ownedTupleIsFree
  refine wpAny_bind (wpAny_field hz rfl (x:=.none) rfl (wpAny_pure ?_))
  simp only[if_true]
  refine wpAny_bind (wpAny_rule (wpAny_bind (wpAny_field hz rfl (x:=.ref TO) rfl (wpAny_bind (wpAny_setField_rec hz (by simp) fun h1 hz1 s1=>wpAny_bind ?_)))))
  replace hz1:IsZip h1 z TI TO .ellipsis:=hz1
  have q1:Qu A h1:=q.keeps fun c u m g=>s1.extBut c u (fun e=>by subst e;rw[hz] at g;cases g;exact mz _ m) g
  simp only[List.zipIdx_cons,List.zipIdx_nil,List.forIn_cons,List.forIn_nil]
  refine wpAny_bind (wpAny_bind (wpAny_onRaise (wpAny_bind (m:=Builtin.SmallTypes.nextOf (.ref i1)) ?_)))
  have t1':=t1.extBut s1.extBut D.i1z
  have il1':=il1.extBut s1.extBut D.l1z
  cases hx:xs[k1]? with
  |none=>
    refine qX q1 t1' il1' hx fun h2 e s2 ⟨oe,ge,ce⟩=>?_
    have hz2:IsZip h2 z TI TO .ellipsis:=s2 _ _ D.i1z.symm hz1
    have ne:e≠z:=fun y=>by subst y;rw[hz2] at ge;cases ge;simp at ce
    exact wpAny_setField_rec hz2 (by simp) fun h3 _ s3=>fin h3 e ⟨oe,s3.extBut _ _ ne ge,ce⟩ fun c o c1 _ c3 _ g=>s3.extBut _ _ c1 (s2 _ _ c3 (s1.extBut _ _ c1 g))
  |some x=>
    have hy:ys[k2]?=none:=n.elim (fun y=>by rw[hx] at y;cases y) id
    refine wpAny_nextOf_list_item t1' il1' hx fun h2 t2' s2=>wpAny_pure ?_
    have pO2:IsPair h2 TO a b:=s2.extBut _ _ D.TOi1 (s1.extBut _ _ D.TOz pO)
    have q2:Qu A h2:=q1.keeps fun c u m g=>s2.extBut c u (fun e=>by subst e;exact mi t1' u m g) g
    refine wpAny_bind (wpAny_seqItems pO2 rfl (wpAny_bind (wpAny_updateSeq_pair pO2 fun h3 pO3 s3=>wpAny_bind (wpAny_letGo (wpAny_pure ?_)))))
    have q3:Qu A h3:=q2.keeps fun c u m g=>s3.extBut c u (fun e=>by subst e;exact mp pO2 u m g) g
    refine wpAny_bind (wpAny_bind (wpAny_onRaise (wpAny_bind (m:=Builtin.SmallTypes.nextOf (.ref i2)) ?_)))
    refine qX q3 (((t2.extBut s1.extBut D.i2z).extBut s2.extBut D.i12.symm).extBut s3.extBut D.TOi2.symm) (((il2.extBut s1.extBut D.l2z).extBut s2.extBut D.l2i1).extBut s3.extBut D.l2TO) hy fun h4 e s4 ⟨oe,ge,ce⟩=>?_
    have hz4:IsZip h4 z TI TO .ellipsis:=s4 _ _ D.i2z.symm (s3.extBut _ _ D.TOz.symm (s2.extBut _ _ D.i1z.symm hz1))
    have ne:e≠z:=fun y=>by subst y;rw[hz4] at ge;cases ge;simp at ce
    exact wpAny_setField_rec hz4 (by simp) fun h5 _ s5=>fin h5 e ⟨oe,s5.extBut _ _ ne ge,ce⟩ fun c o c1 c2 c3 c4 g=>s5.extBut _ _ c1 (s4 _ _ c4 (s3.extBut _ _ c2 (s2.extBut _ _ c3 (s1.extBut _ _ c1 g))))
theorem Ei{a:Addr}{o:Obj}(hh:A.handled=some (.ref a))(m:u5 o)(I ax:Addr)(hne:ax≠I)(xs:Array Value):
    Walks prog w A I [I,ax,a] [I] xs.size (fun i v=>xs[i]?=some v) (fun i h=>(h.IsListIter I ax i/\h.IsList ax xs)/\h.get? a=some o) where
  sub:=fun b hb=>by simp at hb;simp[hb]
  frame:=fun _ _ _ st k=>⟨⟨st.1.1.at fun o e=>k I (by simp) o e,st.1.2.at fun o e=>k ax (by simp) o e⟩,k a (by simp) _ st.2⟩
  item:=fun i s Q E hi st h=>by
    have na:a≠I:=fun e=>by
      subst e
      obtain⟨o',g,_,d⟩:=st.1.1
      obtain⟨us,du,z2⟩:=m
      rw[st.2] at g
      cases g
      rw[d] at du
      cases du
      simp at z2
    exact wpAny_pyNext_list_item st.1.1 st.1.2 (x:=xs[i]) (by simp[hi]) fun h' t sb=>h _ h' s.toks (by simp[hi]) ⟨⟨t,st.1.2.extBut sb.extBut hne⟩,sb.extBut _ _ na st.2⟩ fun b o hb e=>sb.extBut b o (fun z=>hb (by simp[z])) e
  done:=fun s Q E st h=>C6 (.inr ⟨a,o,hh,st.2,m⟩) st.1.1 st.1.2 (by simp) fun h' k=>h h' s.toks fun b o hb e=>k b o (fun z=>hb (by simp[z])) e
  self:=fun _ _ _ _ st q=>wpAny_pyIter_listiter st.1.1 q
theorem OP{l:Addr}{xs:Array (Int×Tok)}{Q:Value->Shared->Prop}(q:Qu A s.heap)(il:s.heap.IsList l (intItems xs))
    (h:∀h' tk t',(∀b o,s.heap.get? b=some o->h'.get? b=some o)->Q (.int (preSum (numAt xs) xs.size) t') { s with heap:=h',toks:=tk }):wpAny (model prog w) A (call (.builtin "sum") [.ref l]) Q E s:=by
  rcases q with q | ⟨a,o,q,g,m⟩
  . exact sum_intListG q il h
  . refine call_sum_walkG (iter_intList il fun s2 e st fp ne=>?_)
    subst e
    refine⟨_,_,_,_,_,_,numAt xs,rfl,Ei (A:=A.in1) q m _ l ne (intItems xs),⟨st,Heap.get?_push_of_some _ g⟩,fun b hb=>?_,fun _ _=>intItems_at,fun h' tk t' k=>?_⟩
    . rcases mem_cons.mp hb with e | hb
      . exact fp b (by simp[e])
      . rcases mem_cons.mp hb with e | hb
        . exact fp b (by simp[e])
        . have e:b=a:=by simpa using hb
          subst e
          exact Heap.lt_size (Heap.get?_push_of_some _ g)
    . have:=h h' tk t' (old_kept k)
      simpa [intItems] using this
theorem wM{it:Addr}{lo c:Int}{n i:Nat}{Q:Option Value->Shared->Prop}(hi:i<n)(t:IsRangeIter s.heap it (lo+(i:Nat)*c) ((n:Int)-(i:Nat)) c)
    (h:∀v h' tk,(∃t,v=.int (lo+i*c) t)->IsRangeIter h' it (lo+((i+1:Nat):Int)*c) ((n:Int)-((i+1:Nat):Int)) c->(∀b o,b ∉ [it]->s.heap.get? b=some o->h'.get? b=some o)->Q (some v) { s with heap:=h',toks:=tk }):
    wpAny (model prog w) A (pyNext (.ref it)) Q E s:=by
  refine wpAny_pyNext_range_item t ⋯ fun h' t' sb=>h _ h' _ ⟨_,rfl⟩ ?_ fun b o hb e=>sb.extBut b o (fun z=>hb (by simp[z])) e
  rw[show ((i+1:Nat):Int)=(i:Int)+1 by simp,show lo+((i:Int)+1)*c=lo+i*c+c by rw[Int.add_mul,Int.one_mul,Int.add_assoc],show (n:Int)-((i:Int)+1)=n-i-1 by ac_rfl]
  exact t'
end
abbrev cL:=Sum Int Str
def yR:cL->Value->Bool
  | .inl k,v=>Value.isInt k v
  | .inr x,v=>Value.isStrOf x v
def Rh(w:World):cL->Int
  | .inl k=>hashInt k
  | .inr x=>hashStr w x
theorem eK:∀{k:cL} {v:Value},yR k v=true->(∃i t,k=Sum.inl i/\v=Value.int i t) \/ (∃x t,k=Sum.inr x/\v=Value.str x t)
  | .inl i,v,h=>by
    obtain⟨t,e⟩:=Value.isInt_shape (k:=i) (v:=v) h
    exact .inl ⟨i,t,rfl,e⟩
  | .inr x,v,h=>by
    obtain⟨t,e⟩:=Value.isStrOf_shape (x:=x) (v:=v) h
    exact .inr ⟨x,t,rfl,e⟩
theorem Fo(i:Int)(t:Tok):yR (.inl i) (.int i t)=true:=by simp[yR,Value.isInt]
theorem Fm(x:Str)(t:Tok):yR (.inr x) (.str x t)=true:=by simp[yR,Value.isStrOf]
theorem NZ(a b:Int):decide ((Sum.inl a:cL)=Sum.inl b)=(a==b):=by
  by_cases e:a=b
  . subst e;simp
  . have h:¬(Sum.inl a:cL)=Sum.inl b:=fun q=>e (Sum.inl.inj q)
    rw[decide_eq_false h]
    exact(beq_eq_false_iff_ne.mpr e).symm
theorem NW(a b:Str):decide ((Sum.inr a:cL)=Sum.inr b)=decide (a=b):=by
  by_cases e:a=b
  . subst e;simp
  . have h:¬(Sum.inr a:cL)=Sum.inr b:=fun q=>e (Sum.inr.inj q)
    rw[decide_eq_false h,decide_eq_false e]
theorem NY(a:Int)(b:Str):decide ((Sum.inl a:cL)=Sum.inr b)=false:=decide_eq_false (fun q=>nomatch q)
theorem NX(a:Str)(b:Int):decide ((Sum.inr a:cL)=Sum.inl b)=false:=decide_eq_false (fun q=>nomatch q)
def fW(prog:Program)(w:World):PySem.KeyKind prog w cL where
  is:=yR
  hash:=Rh w
  inj:=fun v a b ha hb=>by
    rcases eK ha with⟨i,t,rfl,rfl⟩ | ⟨x,t,rfl,rfl⟩
    . rcases eK hb with⟨j,u,rfl,e⟩ | ⟨y,u,rfl,e⟩
      . injection e with e1 _;rw[e1]
      . exact nomatch e
    . rcases eK hb with⟨j,u,rfl,e⟩ | ⟨y,u,rfl,e⟩
      . exact nomatch e
      . injection e with e1 _;rw[e1]
  byValue:=fun k v h=>by
    rcases eK h with⟨i,t,rfl,rfl⟩ | ⟨x,t,rfl,rfl⟩<;>rfl
  pyHash:=fun hv h=>by
    rcases eK hv with⟨i,t,rfl,rfl⟩ | ⟨x,t,rfl,rfl⟩
    . exact wpAny_pyHash_int h
    . exact wpAny_pyHash_str h
  eqBool:=fun hu hv h=>by
    rcases eK hu with⟨i,t,rfl,rfl⟩ | ⟨x,t,rfl,rfl⟩
    . rcases eK hv with⟨j,u,rfl,rfl⟩ | ⟨y,u,rfl,rfl⟩
      . rw[NZ] at h;exact wpAny_eqBool_int h
      . rw[NY] at h;exact SeqAt.EqAt.int_str i t y u _ _ _ _ h
    . rcases eK hv with⟨j,u,rfl,rfl⟩ | ⟨y,u,rfl,rfl⟩
      . rw[NX] at h;exact SeqAt.EqAt.str_int x t j u _ _ _ _ h
      . rw[NW] at h;exact wpAny_eqBool_str h
  «strs» := fun k x t v h=>by
    rcases eK h with⟨i,u,rfl,e⟩ | ⟨y,u,rfl,e⟩
    . exact nomatch e
    . injection e with e1 _
      subst e1
      cases v<;>rfl
theorem Bq(prog:Program)(w:World)(i:Int)(t:Tok):(fW prog w).is (.inl i) (.int i t)=true:=Fo i t
theorem Bp(prog:Program)(w:World)(x:Str)(t:Tok):(fW prog w).is (.inr x) (.str x t)=true:=Fm x t
inductive V where
  |non | bl (b:Bool) | int (i:Int) | str (x:Str) | byt (b:Array UInt8) | flt (b:UInt64) | ref (a:Addr) | ty (n:String)
  deriving DecidableEq
def d7:V->Value->Prop
  | .non,u=>u=Value.none
  | .bl b,u=>u=Value.bool b
  | .int i,u=>∃t,u=Value.int i t
  | .str x,u=>∃t,u=Value.str x t
  | .byt b,u=>∃t,u=Value.bytes b t
  | .flt b,u=>∃t,u=Value.float b t
  | .ref a,u=>u=Value.ref a
  | .ty n,u=>u=Value.type n
abbrev bV:List V->List Value->Prop:=Paired d7
theorem bV.length{xs:List V}{us:List Value}(r:bV xs us):xs.length=us.length:=Paired.length r
theorem bV.get:∀{xs:List V} {us:List Value} {i:Nat} {x:V},bV xs us->xs[i]?=some x -> ∃u,us[i]?=some u/\d7 x u
  |_,_,_,_,.nil,e=>by simp at e
  |_,_,0,_,.cons r _,e=>by simp at e;subst e;exact⟨_,rfl,r⟩
  |_,_,i+1,x,.cons _ t,e=>by
    obtain⟨u,h1,h2⟩:=bV.get (i:=i) (x:=x) t (by simpa using e)
    exact⟨u,by simpa using h1,h2⟩
theorem bV.append:∀{xs ys:List V} {us ws:List Value},bV xs us->bV ys ws->bV (xs++ys) (us++ws)
  |_,_,_,_,.nil,s=>s
  |_,_,_,_,.cons r t,s=>.cons r (bV.append t s)
theorem bV.take:∀{xs:List V} {us:List Value} (n:Nat),bV xs us->bV (xs.take n) (us.take n)
  |_,_,0,_=>.nil
  |_,_,_+1,.nil=>.nil
  |_,_,n+1,.cons r t=>.cons r (bV.take n t)
theorem bV.drop:∀{xs:List V} {us:List Value} (n:Nat),bV xs us->bV (xs.drop n) (us.drop n)
  |_,_,0,r=>r
  |_,_,_+1,.nil=>.nil
  |_,_,n+1,.cons _ t=>bV.drop n t
def qF:Option V->Option Value->Prop
  |some v,some u=>d7 v u
  |none,none=>True
  |_,_=>False
def KV{κ:Type}:List (κ×V)->List (κ×Value)->Prop:=Paired fun(p:κ×V) (q:κ×Value)=>p.1=q.1/\d7 p.2 q.2
def kV:cL->V
  | .inl i=>.int i
  | .inr x=>.str x
inductive HO where
  /-- a list -/
  |lst (xs:List V)
  /-- a tuple (never changes) -/
  |tup (xs:List V)
  /-- a dict whose keys are ints and texts;one whose keys are tuples of ints and texts (the empty one is both) -/
  |dK (kvs:List (cL×V)) | dT (ep:Nat) (kvs:List (List cL×V))
  /-- a set of ints: its members,its size -/
  |set (S:Int->Bool) (n:Nat)
  /-- an instance of the class at C,its dict at dx,its attributes -/
  |ins (C dx:Addr) (fs:List (Str×V))
  /-- the dict of the instance at x -/
  |own (x:Addr)
  /-- the dict of an exception -/
  |xd (fs:List (Str×V))
  /-- a bound method,f of x -/
  |met (f x:Addr)
  /-- a range object lo,lo+1,.. below hi -/
  |rng (lo hi:Int)
  /-- a thing that is known to the object (the script;a dict while a loop walks it): read,never written while it is so -/
  |frz (o:Obj) (u:HO)
  /-- a code object's table -/
  |tbl (ps:Array Value)
  /-- a code object's table whose lambdas are named q;such a lambda's code -/
  |lam (q:Str) | cod (q:Str)
  /-- any other thing,by what is true of its one object (a def of one's own: SetO a S n:=HO.ext fun h=>..) -/
  |ext (φ:Heap->Prop)
abbrev Hp:=Addr->Option HO
def upd(H:Hp)(a:Addr)(o:HO):Hp:=fun b=>if b=a then some o else H b
theorem cT{H:Hp}{a:Addr}{o:HO}:upd H a o a=some o:=by unfold upd;rw[if_pos rfl]
theorem bY{H:Hp}{a b:Addr}{o:HO}(h:b≠a):upd H a o b=H b:=by unfold upd;rw[if_neg h]
theorem Pa{H:Hp}{a b:Addr}{o u:HO}(h:H a=some o)(h':H b=some u)(d:o≠u):a≠b:=by
  intro e;subst e;rw[h] at h';exact d (Option.some.inj h')
theorem bT{H:Hp}{a b:Addr}{o:HO}(h:H a=some o)(h':H b=none):a≠b:=by
  intro e;subst e;rw[h] at h';cases h'
section
variable (P:Program) (w:World)
def dR(H:Hp)(h:Heap)(a:Addr):HO->Prop
  | .lst xs=>xs.length<=sizeLine /\ ∃(its:List Value) (n:Nat),bV xs its/\h.get? a=some { cls:=.type "list",data:=.seq its.toArray n }
  | .tup xs=>xs.length<=sizeLine /\ ∃its:List Value,bV xs its/\IsTup h a its.toArray
  | .dK kvs=>kvs.length<=sizeLine/\(a==sysModules)=false /\ ∃vs,KV kvs vs/\h.DictOf (fW P w) a vs
  | .dT ep kvs=>kvs.length<=sizeLine/\(a==sysModules)=false /\ ∃xs:List (List cL×Addr×Value),
      Paired (fun(p:List cL×V) (q:List cL×Addr×Value)=>p.1=q.1/\H q.2.1=some (.tup (p.1.map kV))/\d7 p.2 q.2.2) kvs xs /\
      ∃o es,h.get? a=some o/\o.ExactDict/\o.data=.dict es ep/\es.toList=xs.map (entryOfKey (tupleKind (fW P w)))/\(xs.map (·.1)).Nodup
  | .set S n=>h.SetOf (intKind P w) a S n
  | .ins C dx fs=>H dx=some (.own a)/\fs.length<=1000/\dx≠a/\h.get? a=some (W.instObj C dx) /\
      ∃mA,h.Ns1 dx mA/\(∀f,qF (fs.lookup f) (mA f))/\PySem.Within mA (fs.map (·.1))
  | .own _=>∃o,h.get? a=some o
  | .xd fs=>∃mA,h.Ns1 a mA /\ ∀f,qF (fs.lookup f) (mA f)
  | .rng lo hi=>∃t u v,h.get? a=some { cls:=.type "range",data:=.fields #[.int lo t,.int hi u,.int 1 v] }
  | .frz o u=>h.get? a=some o/\dR H h a u
  | .tbl ps=>h.get? a=some { cls:=.none,data:=.fields ps }
  | .lam q=>∃ps:Array Value,h.get? a=some (W.tabObj ps)/\TriplesOk ps.toList /\ ∀p:Pos,codeAmong p ps.toList=none \/ ∃c,codeAmong p ps.toList=some (.ref c)/\H c=some (.cod q)
  | .cod q=>h.CodeRec (.ref a) q
  | .met f x=>h.get? a=some (W.methodObj (.ref f) (.ref x))
  | .ext φ=>φ h/\(∃o,h.get? a=some o) /\ ∀h1 h2:Heap,φ h1->(∀o,h1.get? a=some o->h2.get? a=some o)->φ h2
def rY(H:Hp)(h:Heap):Prop:=∀a o,H a=some o->dR P w H h a o
end
section
variable {P:Program} {w:World} {H H':Hp} {h h':Heap} {a:Addr} {o:HO}
theorem dR.lt(x:dR P w H h a o):a<h.objs.size:=by
  cases o with
  |lst xs=>obtain⟨_,_,_,_,e⟩:=x;exact Heap.lt_size e
  |tup xs=>obtain⟨_,_,_,p⟩:=x;exact p.lt
  |dK kvs=>obtain⟨_,_,_,_,o,_,_,e,_⟩:=x;exact Heap.lt_size e
  |dT ep kvs=>obtain⟨_,_,_,_,o,_,e,_⟩:=x;exact Heap.lt_size e
  |set S n=>obtain⟨o,_,_,_,e,_⟩:=x;exact Heap.lt_size e
  |ins C dx fs=>obtain⟨_,_,_,e,_⟩:=x;exact Heap.lt_size e
  |own y=>obtain⟨_,e⟩:=x;exact Heap.lt_size e
  |xd fs=>obtain⟨_,⟨_,_,_,e,_⟩,_⟩:=x;exact Heap.lt_size e
  |rng lo hi=>obtain⟨_,_,_,e⟩:=x;exact Heap.lt_size e
  |frz ob u=>obtain⟨e,_⟩:=x;exact Heap.lt_size e
  |tbl ps=>exact Heap.lt_size (show h.get? a=some _ from x)
  |lam q=>obtain⟨_,e,_⟩:=x;exact Heap.lt_size e
  |cod q=>obtain⟨_,_,_,_,e,e2,_⟩:=x;cases e;exact Heap.lt_size e2
  |met f y=>exact Heap.lt_size (show h.get? a=some _ from x)
  |ext φ=>obtain⟨_,⟨_,e⟩,_⟩:=x;exact Heap.lt_size e
theorem Paired.mapP{α β:Type}{F G:α->β->Prop}:∀{l₁:List α} {l₂:List β},Paired F l₁ l₂->(∀a b,F a b->G a b)->Paired G l₁ l₂
  |_,_,.nil,_=>.nil
  |_,_,.cons r t,f=>.cons (f _ _ r) (Paired.mapP t f)
theorem dR.stay(x:dR P w H h a o)(k:∀b u,(b=a \/ H b=some (.own a))->h.get? b=some u->h'.get? b=some u)
    (ho:∀b,H b=some (.own a)->H' b=some (.own a)) (ht:∀b xs,H b=some (.tup xs)->H' b=some (.tup xs)) (hc:∀b q,H b=some (.cod q)->H' b=some (.cod q)):dR P w H' h' a o:=by
  induction o with
  |lst xs=>obtain⟨z,its,n,r,e⟩:=x;exact⟨z,its,n,r,k _ _ (.inl rfl) e⟩
  |tup xs=>obtain⟨z,its,r,ob,e,c⟩:=x;exact⟨z,its,r,ob,k _ _ (.inl rfl) e,c⟩
  |dK kvs=>obtain⟨z,y,vs,r,ob,es,ep,e,c⟩:=x;exact⟨z,y,vs,r,ob,es,ep,k _ _ (.inl rfl) e,c⟩
  |dT ep kvs=>
    obtain⟨z,y,xs,r,ob,es,e,c⟩:=x
    exact⟨z,y,xs,Paired.mapP r fun p q z=>⟨z.1,ht _ _ z.2.1,z.2.2⟩,ob,es,k _ _ (.inl rfl) e,c⟩
  |set S n=>obtain⟨ob,es,ep,t,e,c⟩:=x;exact⟨ob,es,ep,t,k _ _ (.inl rfl) e,c⟩
  |ins C dx fs=>
    obtain⟨d,z,ne,e,mA,⟨od,es,ep,e2,c⟩,r⟩:=x
    exact⟨ho _ d,z,ne,k _ _ (.inl rfl) e,mA,⟨od,es,ep,k _ _ (.inr d) e2,c⟩,r⟩
  |own y=>obtain⟨ob,e⟩:=x;exact⟨ob,k _ _ (.inl rfl) e⟩
  |xd fs=>obtain⟨mA,⟨od,es,ep,e,c⟩,r⟩:=x;exact⟨mA,⟨od,es,ep,k _ _ (.inl rfl) e,c⟩,r⟩
  |rng lo hi=>obtain⟨t,u,v,e⟩:=x;exact⟨t,u,v,k _ _ (.inl rfl) e⟩
  |frz ob u ih=>obtain⟨e,q⟩:=x;exact⟨k _ _ (.inl rfl) e,ih q⟩
  |tbl ps=>
    have e:h.get? a=some { cls:=.none,data:=.fields ps }:=x
    show h'.get? a=some { cls:=.none,data:=.fields ps }
    exact k a _ (.inl rfl) e
  |lam q=>
    obtain⟨ps,e,t,f⟩:=x
    exact⟨ps,k _ _ (.inl rfl) e,t,fun p=>(f p).imp_right fun⟨c,e1,e2⟩=>⟨c,e1,hc _ _ e2⟩⟩
  |cod q=>
    obtain⟨_,o,vs,t,e,e2,e3⟩:=x
    cases e
    exact⟨a,o,vs,t,rfl,k _ _ (.inl rfl) e2,e3⟩
  |met f y=>
    have e:h.get? a=some (W.methodObj (.ref f) (.ref y)):=x
    show h'.get? a=some (W.methodObj (.ref f) (.ref y))
    exact k a _ (.inl rfl) e
  |ext φ=>obtain⟨p,⟨o,e⟩,st⟩:=x;exact⟨st _ _ p fun o q=>k _ _ (.inl rfl) q,⟨o,k _ _ (.inl rfl) e⟩,st⟩
theorem rY.lt(x:rY P w H h)(e:H a=some o):a<h.objs.size:=(x a o e).lt
theorem rY.fresh(x:rY P w H h)(e:h.objs.size<=a):H a=none:=by
  cases q:H a with
  |none=>rfl
  |some u=>exact absurd (lt_of_lt_of_le (x.lt q) e) (lt_irrefl _)
theorem rY.kept(x:rY P w H h)(k:∀b u,h.get? b=some u->h'.get? b=some u):rY P w H h':=fun a o e=>
  (x a o e).stay (fun b u _ q=>k b u q) (fun _ q=>q) (fun _ _ q=>q) fun _ _ q=>q
theorem rY.laid(x:rY P w H h)(k:∀b u,h.get? b=some u->h'.get? b=some u)(hp:h.objs.size<=a)(new:dR P w (upd H a o) h' a o):rY P w (upd H a o) h':=fun b u e=>by
  have hn:=x.fresh hp
  by_cases hb:b=a
  . subst hb;rw[cT] at e;cases e;exact new
  . rw[bY hb] at e
    exact(x b u e).stay (fun c v _ q=>k c v q) (fun c q=>by rw[bY (bT q hn)];exact q) (fun c xs q=>by rw[bY (bT q hn)];exact q) fun c xs q=>by rw[bY (bT q hn)];exact q
end
def Rd(H:Hp)(a:Addr)(u:HO):Prop:=H a=some u \/ ∃o,H a=some (.frz o u)
theorem Rd.ok{P:Program}{w:World}{H:Hp}{h:Heap}{a:Addr}{u:HO}(r:Rd H a u)(x:rY P w H h):dR P w H h a u:=by
  rcases r with r | ⟨o,r⟩
  . exact x a u r
  . obtain⟨_,q⟩:=x a _ r
    exact q
def GE:Option HO->Prop
  |some (.lst _)=>True
  |some (.dK _)=>True
  |some (.dT _ _)=>True
  |some (.set _ _)=>True
  |some (.ins _ _ _)=>True
  |some (.ext _)=>True
  |_=>False
section
variable {P:Program} {w:World} {H:Hp} {h h':Heap} {x e:Addr} {o':HO}
theorem rY.write(ok:rY P w H h)(mu:GE (H x))(he:e=x \/ H e=some (.own x))(k:∀b u,b≠e->h.get? b=some u->h'.get? b=some u)(heo:∃u,h'.get? e=some u)
    (new:dR P w (upd H x o') h' x o'):rY P w (upd H x o') h':=fun b u q=>by
  have nown:∀c y,H c=some (.own y)->c≠x:=fun c y r z=>by subst z;rw[r] at mu;exact mu
  have ntup:∀c xs,H c=some (.tup xs)->c≠x:=fun c xs r z=>by subst z;rw[r] at mu;exact mu
  have ncod:∀c q,H c=some (.cod q)->c≠x:=fun c xs r z=>by subst z;rw[r] at mu;exact mu
  by_cases hb:b=x
  . subst hb;rw[cT] at q;cases q;exact new
  . rw[bY hb] at q
    by_cases hbe:b=e
    . have q':H b=some (.own x):=by
        rcases he with z | z
        . exact absurd (hbe.trans z) hb
        . rw[hbe];exact z
      rw[q] at q';cases q'
      obtain⟨v,hv⟩:=heo
      exact⟨v,by rw[hbe];exact hv⟩
    . refine(ok b u q).stay (fun c v hc r=>k c v ?_ r) (fun c r=>by rw[bY (nown c b r)];exact r) (fun c xs r=>by rw[bY (ntup c xs r)];exact r) fun c xs r=>by rw[bY (ncod c xs r)];exact r
      rcases hc with rfl | hc
      . exact hbe
      . rintro rfl
        rcases he with z | z
        . exact nown c b hc z
        . rw[hc] at z;cases z;exact hb rfl
end
structure Un(fs ex:List Addr)(H H':Hp)(h h':Heap):Prop where
  keep:∀b o,h.get? b=some o->H b=none->b ∉ fs->b ∉ ex->h'.get? b=some o
  slot:∀b o,h.get? b=some o->H b=none->b∈fs->b ∉ ex -> ∃sl,h'.get? b=some { o with slots:=sl }
  free:∀b o,h.get? b=some o->H b=none->b ∉ ex->H' b=none
  there:∀b o,h.get? b=some o->b ∉ ex -> ∃o',h'.get? b=some o'
  tups:∀b xs,H b=some (.tup xs)->H' b=some (.tup xs)
  frzs:∀b o u,H b=some (.frz o u)->H' b=some (.frz o u)
  tbls:∀b ps,H b=some (.tbl ps) -> ∃more,H' b=some (.tbl (ps++more))
section
variable {fs fs' ex ex':List Addr} {H H1 H2:Hp} {h h1 h2 h':Heap} {a x e:Addr} {o:HO}
theorem Un.any(u:Un fs ex H H1 h h1){b:Addr}{ob:Obj}(q:h.get? b=some ob)(n:H b=none)(hx:b ∉ ex):∃sl,h1.get? b=some { ob with slots:=sl }:=by
  by_cases hb:b∈fs
  . exact u.slot b ob q n hb hx
  . exact⟨ob.slots,u.keep b ob q n hb hx⟩
theorem Un.kept(k:∀b u,h.get? b=some u->h'.get? b=some u):Un fs ex H H h h':=
  ⟨fun b ob q _ _ _=>k b ob q,fun b ob q _ _ _=>⟨ob.slots,k b ob q⟩,fun _ _ _ n _=>n,fun b ob q _=>⟨ob,k b ob q⟩,fun _ _ q=>q,fun _ _ _ q=>q,fun _ ps q=>⟨#[],by rw[q];simp⟩⟩
theorem Un.refl:Un fs ex H H h h:=Un.kept fun _ _ q=>q
theorem Un.laid(k:∀b u,h.get? b=some u->h'.get? b=some u)(hp:h.objs.size<=a)(hn:H a=none):Un fs ex H (upd H a o) h h' where
  keep:=fun b u q _ _ _=>k b u q
  slot:=fun b u q _ _ _=>⟨u.slots,k b u q⟩
  free:=fun b u q n _=>by rw[bY (ne_of_lt (lt_of_lt_of_le (Heap.lt_size q) hp))];exact n
  there:=fun b u q _=>⟨u,k b u q⟩
  tups:=fun b xs q=>by rw[bY (bT q hn)];exact q
  frzs:=fun b u xs q=>by rw[bY (bT q hn)];exact q
  tbls:=fun b ps q=>⟨#[],by rw[bY (bT q hn),q];simp⟩
theorem Un.write(mu:GE (H x))(he:e=x \/ H e=some (.own x))(k:∀b u,b≠e->h.get? b=some u->h'.get? b=some u)(heo:∃u,h'.get? e=some u):Un fs ex H (upd H x o) h h':=by
  have hx:∀b,H b=none->b≠x:=fun b n z=>by subst z;rw[n] at mu;exact mu
  have hb:∀b,H b=none->b≠e:=fun b n z=>by
    subst z
    rcases he with r | r
    . exact hx b n r
    . rw[n] at r;cases r
  have hm:∀b u,H b=some u -> ¬GE (some u)->b≠x:=fun b u q nm z=>by subst z;rw[q] at mu;exact nm mu
  refine⟨fun b u q n _ _=>k b u (hb b n) q,fun b u q n _ _=>⟨u.slots,k b u (hb b n) q⟩,fun b u q n _=>by rw[bY (hx b n)];exact n,fun b u q _=>?_,
    fun b xs q=>by rw[bY (hm b _ q fun z=>z)];exact q,fun b u xs q=>by rw[bY (hm b _ q fun z=>z)];exact q,fun b ps q=>⟨#[],by rw[bY (hm b _ q fun z=>z),q];simp⟩⟩
  by_cases hbe:b=e
  . subst hbe;exact heo
  . exact⟨u,k b u hbe q⟩
end
def trk(h:Heap)(H:Hp):List Addr:=(List.range h.objs.size).filter fun a=>(H a).isSome
def AB(h:Heap)(H:Hp):Heap:=W.hideAll h (trk h H)
theorem Fv(h:Heap)(H:Hp):(AB h H).objs.size=h.objs.size:=W.hideAll_size _ _
theorem J2{h:Heap}{H:Hp}{b:Addr}{o:Obj}(e:h.get? b=some o)(n:H b=none):(AB h H).get? b=some o:=
  W.hideAll_get _ e fun hm=>by
    have q:(H b).isSome=true:=(mem_filter.mp hm).2
    rw[n] at q;simp at q
theorem KZ{h:Heap}{H:Hp}{b:Addr}{o:Obj}(e:(AB h H).get? b=some o):h.get? b=some o/\H b=none:=by
  have e':h.get? b=some o:=W.of_hideAll (trk h H) e
  refine⟨e',?_⟩
  cases q:H b with
  |none=>rfl
  |some x=>
    have hm:b∈trk h H:=mem_filter.mpr ⟨mem_range.mpr (Heap.lt_size e'),by simp[q]⟩
    have z:(AB h H).get? b=none:=W.hideAll_none (trk h H) hm
    rw[z] at e;cases e
structure Mod(K:W.Frag)(mg:Str->Option Value)(base:Heap):Prop where
  kin:K.In base
  glob:base.Ns mainGlobals mg
  blt:∃mb,base.Ns builtinsNs mb /\ ∀x:Str,x ≠ "__name__" -> mb x=bootBuiltins x
  nolimit:base.NoLimit
/-- the context: a def's body (or a comprehension's block) running. base: fixed through the whole law;s₀,HZ: the entry;outer: the frames whose slots others may change (a def's callers);stack: all frames that run;
   ex: iterators that were made ahead of the entry and are walked here (a comprehension's);fn: the names whose cells were made at the entry (a def: all;a comprehension's block: its own);calm: not within an except suite;pn: pj that every state bears;xe: what is wanted of an exception that leaves the code -/
structure Cx where
  prog:Program
  w:World
  K:W.Frag
  mg:Str->Option Value
  base:Heap
  A:Around
  N:List Str
  s₀:Shared
  HZ:Hp
  env:Env
  outer:List Env
  stack:List Env
  ex:List Addr
  fn:Str->Bool
  calm:Bool
  pn:List (Addr×Obj)
  xe:Value->Shared->Prop
  hs:List Addr
def frs(l:List Env):List Addr:=l.filterMap (·.frame)
abbrev Cx.fs(X:Cx):List Addr:=frs X.outer
def Qt(sc:Scope)(x:Str):Prop:=sc.names.lookup x=some .local \/ sc.names.lookup x=some .cell \/ sc.names.lookup x=some .free
def JY(sc:Scope)(x:Str):Prop:=sc.names.lookup x=some .local \/ sc.names.lookup x=some .cell
def S7(env:Env)(h:Heap)(m:Str->Option Value)(x:Str)(u:Value):Prop:=
  (env.kindOf x=some .local/\m x=some u) \/ ((env.kindOf x=some .cell \/ env.kindOf x=some .free) /\ ∃c,env.cells.lookup x=some c/\h.IsCell c (some u))
structure Cx.Ok(X:Cx):Prop where
  mod:Mod X.K X.mg X.base
  kind:X.env.scope.kind=.function
  glob:X.env.globals=mainGlobals
  blt:X.env.builtins=builtinsNs
  above:X.s₀.heap.objs.size<=X.env.locals
  inj:∀x y c,X.env.cells.lookup x=some c->X.env.cells.lookup y=some c->x=y
  has:∀x,(X.env.kindOf x=some .cell \/ X.env.kindOf x=some .free) -> ∃c,X.env.cells.lookup x=some c
  cab:∀x c,X.fn x=true->X.env.cells.lookup x=some c->X.s₀.heap.objs.size<=c
  hd:X.calm=true->X.A.handled=none
  frames:X.A.frames=some X.stack
  stk:X.stack=X.outer \/ (X.stack=X.env::X.outer/\X.env.frame=some X.env.locals)
  exf:∀b∈X.ex,b≠X.env.locals /\ ∀x c,X.env.cells.lookup x=some c->c≠b
  bs:∀b o,X.base.get? b=some o->X.s₀.heap.get? b=some o/\X.HZ b=none
  bsz:X.base.objs.size<=X.s₀.heap.objs.size
  noex:∀b o,X.base.get? b=some o->b ∉ X.ex
  exfs:∀b∈X.ex,b ∉ X.fs
  funs:X.s₀.heap.FunFrames X.base X.outer
  frf:∀b∈X.fs,X.HZ b=none
  hq:X.A.handled=none \/ ∃a,a∈X.hs/\X.A.handled=some (.ref a)
structure Inv(X:Cx)(pj:List (Addr×Obj))(σ:List (Option V))(H:Hp)(s:Shared):Prop where
  ok:X.Ok
  os:s.os=X.s₀.os
  bare:AllBare s.gens
  base:Un X.fs X.ex X.HZ H X.s₀.heap s.heap
  loc:∃m,s.heap.Ns X.env.locals m /\ ∀(i:Nat) (x:Str) (v:V),X.N[i]?=some x->σ[i]?=some (some v)->Qt X.env.scope x -> ∃u,d7 v u/\S7 X.env s.heap m x u
  cell:∀x c,X.env.cells.lookup x=some c -> ∃v,s.heap.IsCell c v
  free:H X.env.locals=none
  freeC:∀x c,X.env.cells.lookup x=some c->H c=none
  pin:∀p∈X.pn++pj,s.heap.get? p.1=some p.2/\H p.1=none/\p.1≠X.env.locals/\p.1 ∉ X.fs /\ ∀v,p.2.data ≠ .cell v
  hok:rY X.prog X.w H s.heap
  len:σ.length=X.N.length
  mild:∀a∈X.hs,∃o u,H a=some (.frz o u)/\u5 o
section
variable {X:Cx} {pj:List (Addr×Obj)} {σ:List (Option V)} {H H':Hp} {s:Shared} {h':Heap}
theorem Cx.Ok.nofr(ok:X.Ok){b:Addr}{o:Obj}(e:X.base.get? b=some o):b ∉ X.fs:=fun hb=>by
  have:=(ok.funs.mem hb).1
  rw[e] at this;cases this
theorem Inv.bs(I:Inv X pj σ H s):∀b o,X.base.get? b=some o->s.heap.get? b=some o/\H b=none:=fun b o e=>
  ⟨I.base.keep b o (I.ok.bs b o e).1 (I.ok.bs b o e).2 (I.ok.nofr e) (I.ok.noex b o e),I.base.free b o (I.ok.bs b o e).1 (I.ok.bs b o e).2 (I.ok.noex b o e)⟩
theorem Inv.qu(I:Inv X pj σ H s):Qu X.A s.heap:=by
  rcases I.ok.hq with e | ⟨a,ha,e⟩
  . exact .inl e
  . obtain⟨o,u,g,m⟩:=I.mild a ha
    obtain⟨ho,_⟩:=(show dR X.prog X.w H s.heap a (.frz o u) from I.hok a _ g)
    exact .inr ⟨a,o,e,ho,m⟩
theorem Inv.bk(I:Inv X pj σ H s):∀b o,X.base.get? b=some o->s.heap.get? b=some o:=fun b o e=>(I.bs b o e).1
theorem Inv.mod(I:Inv X pj σ H s):Mod X.K X.mg X.base:=I.ok.mod
theorem Inv.kIn(I:Inv X pj σ H s):X.K.In s.heap:=I.ok.mod.kin.keeps I.bk
theorem Inv.lt(I:Inv X pj σ H s):X.env.locals<s.heap.objs.size:=let ⟨_,hn,_⟩:=I.loc;hn.lt
theorem Inv.sz(I:Inv X pj σ H s):X.s₀.heap.objs.size<=s.heap.objs.size:=le_trans I.ok.above (le_of_lt I.lt)
theorem Inv.nofs(I:Inv X pj σ H s){a:Addr}(h:s.heap.objs.size<=a):a ∉ X.fs:=fun hb=>by
  obtain⟨_,o,ho,_⟩:=I.ok.funs.mem hb
  exact absurd (lt_of_lt_of_le (Heap.lt_size ho) (le_trans I.sz h)) (lt_irrefl _)
theorem Inv.cne(I:Inv X pj σ H s):∀x c,X.env.cells.lookup x=some c->c≠X.env.locals:=fun x c e z=>by
  obtain⟨v,o,ho,hd⟩:=I.cell x c e
  obtain⟨m,⟨o',es,ep,ho',hd',_⟩,_⟩:=I.loc
  rw[z,ho'] at ho;cases ho;rw[hd'] at hd;cases hd
theorem Inv.funs(I:Inv X pj σ H s):s.heap.FunFrames X.base X.outer:=by
  have all:∀(l:List Env),(∀b∈frs l,b∈X.fs)->X.s₀.heap.FunFrames X.base l->s.heap.FunFrames X.base l:=by
    intro l
    induction l with
    |nil=>intro _ _;trivial
    |cons env r ih=>
      intro hs hl
      obtain⟨hk,⟨L,o,hf,hn,ho,hd⟩,hr⟩:=hl
      have hL:L∈X.fs:=hs L (by unfold frs;rw[List.filterMap_cons,hf];exact mem_cons_self)
      obtain⟨sl,e⟩:=I.base.slot L o ho (I.ok.frf L hL) hL fun z=>I.ok.exfs L z hL
      exact⟨hk,⟨L,_,hf,hn,e,hd⟩,ih (fun b hb=>hs b (by unfold frs;rw[List.filterMap_cons,hf];exact mem_cons_of_mem _ hb)) hr⟩
  exact all X.outer (fun _ hb=>hb) I.ok.funs
theorem Inv.stack(I:Inv X pj σ H s):s.heap.FunFrames X.base X.stack:=by
  rcases I.ok.stk with e | ⟨e,hf⟩
  . rw[e];exact I.funs
  . rw[e]
    obtain⟨m,hn,_⟩:=I.loc
    refine .cons (by rw[I.ok.kind];decide) hf hn ?_ I.funs
    exact Heap.get?_none_of_le (le_trans I.ok.bsz I.ok.above)
theorem Inv.stkSub(I:Inv X pj σ H s):∀b∈frs X.stack,b∈X.env.locals::X.fs:=fun b hb=>by
  rcases I.ok.stk with e | ⟨e,hf⟩
  . rw[e] at hb;exact mem_cons_of_mem _ hb
  . rw[e] at hb
    unfold frs at hb
    rw[List.filterMap_cons,hf] at hb
    exact hb
theorem Inv.stkFree(I:Inv X pj σ H s):∀b∈frs X.stack,H b=none:=fun b hb=>by
  rcases mem_cons.mp (I.stkSub b hb) with e | hb
  . rw[e];exact I.free
  . obtain⟨_,o,ho,_⟩:=I.ok.funs.mem hb
    exact I.base.free b o ho (I.ok.frf b hb) fun z=>I.ok.exfs b z hb
theorem Inv.step{g':Array GenState}{t':Nat}{d':Drawn}{ch:List Addr}(I:Inv X pj σ H s)
    (hch:∀b∈ch,(b∈X.ex \/ X.s₀.heap.objs.size<=b)/\b≠X.env.locals/\(∀x c,X.env.cells.lookup x=some c->c≠b) /\ ∀p∈X.pn++pj,p.1≠b)
    (keep:∀b o,b≠X.env.locals->b ∉ X.fs->b ∉ ch->s.heap.get? b=some o->H b=none->h'.get? b=some o)
    (slot:∀b o,b≠X.env.locals->b∈X.fs->b ∉ ch->s.heap.get? b=some o->H b=none -> ∃sl,h'.get? b=some { o with slots:=sl }) (free:∀b o,b ∉ ch->s.heap.get? b=some o->H b=none->H' b=none)
    (there:∀b o,b ∉ ch->s.heap.get? b=some o -> ∃o',h'.get? b=some o')
    (tups:∀b xs,H b=some (.tup xs)->H' b=some (.tup xs)) (frzs:∀b o u,H b=some (.frz o u)->H' b=some (.frz o u)) (tbls:∀b ps,H b=some (.tbl ps) -> ∃more,H' b=some (.tbl (ps++more)))
    (ns:∀m,s.heap.Ns X.env.locals m->h'.Ns X.env.locals m) (hok:rY X.prog X.w H' h') (hg:AllBare g'):
    Inv X pj σ H' { s with heap:=h',gens:=g',drawn:=d',toks:=t' }:=by
  have neL:∀b o,X.s₀.heap.get? b=some o->b≠X.env.locals:=fun b o e=>ne_of_lt (lt_of_lt_of_le (Heap.lt_size e) I.ok.above)
  have neC:∀b o,X.s₀.heap.get? b=some o->b ∉ X.ex->b ∉ ch:=fun b o e hx hb=>by
    rcases(hch b hb).1 with z | z
    . exact hx z
    . exact absurd (lt_of_lt_of_le (Heap.lt_size e) z) (lt_irrefl _)
  have cellK:∀x c,X.env.cells.lookup x=some c -> ∀v,s.heap.IsCell c v->h'.IsCell c v:=fun x c e v ⟨o,ho,hd⟩=>by
    have nch:c ∉ ch:=fun z=>(hch c z).2.2.1 x c e rfl
    by_cases hc:c∈X.fs
    . obtain⟨sl,q⟩:=slot c o (I.cne x c e) hc nch ho (I.freeC x c e)
      exact⟨_,q,hd⟩
    . exact⟨o,keep c o (I.cne x c e) hc nch ho (I.freeC x c e),hd⟩
  refine⟨I.ok,I.os,hg,⟨fun b o e n hb hx=>?_,fun b o e n hb hx=>?_,fun b o e n hx=>?_,fun b o e hx=>?_,fun b xs e=>tups b xs (I.base.tups b xs e),fun b o xs e=>frzs b o xs (I.base.frzs b o xs e),fun b ps e=>?_⟩,?_,fun x c e=>?_,?_,fun x c e=>?_,fun p hp=>?_,hok,I.len,fun a ha=>let ⟨o,u,g,m⟩:=I.mild a ha;⟨o,u,frzs a o u g,m⟩⟩
  . exact keep b o (neL b o e) hb (neC b o e hx) (I.base.keep b o e n hb hx) (I.base.free b o e n hx)
  . obtain⟨sl,e1⟩:=I.base.slot b o e n hb hx
    obtain⟨sl',e2⟩:=slot b _ (neL b o e) hb (neC b o e hx) e1 (I.base.free b o e n hx)
    exact⟨sl',e2⟩
  . obtain⟨o',e1⟩:=I.base.there b o e hx
    exact free b o' (neC b o e hx) e1 (I.base.free b o e n hx)
  . obtain⟨o',e1⟩:=I.base.there b o e hx
    exact there b o' (neC b o e hx) e1
  . obtain⟨m1,e1⟩:=I.base.tbls b ps e
    obtain⟨m2,e2⟩:=tbls b _ e1
    exact⟨m1++m2,by rw[e2,Array.append_assoc]⟩
  . obtain⟨m,hn,hl⟩:=I.loc
    refine⟨m,ns m hn,fun i x v e1 e2 e3=>?_⟩
    obtain⟨u,r,l⟩:=hl i x v e1 e2 e3
    refine⟨u,r,?_⟩
    rcases l with l | ⟨k,c,e,z⟩
    . exact .inl l
    . exact .inr ⟨k,c,e,cellK x c e _ z⟩
  . obtain⟨v,z⟩:=I.cell x c e
    exact⟨v,cellK x c e v z⟩
  . obtain⟨m,⟨o,_,_,ho,_⟩,_⟩:=I.loc
    exact free _ o (fun z=>(hch _ z).2.1 rfl) ho I.free
  . obtain⟨v,o,ho,hd⟩:=I.cell x c e
    exact free c o (fun z=>(hch c z).2.2.1 x c e rfl) ho (I.freeC x c e)
  . obtain⟨e,n,ne,nf,d⟩:=I.pin p hp
    have nch:p.1 ∉ ch:=fun z=>(hch p.1 z).2.2.2 p hp rfl
    exact⟨keep p.1 p.2 ne nf nch e n,free p.1 p.2 nch e n,ne,nf,d⟩
theorem Inv.un{t':Nat}(I:Inv X pj σ H s)(u:Un X.fs [] H H' s.heap h')(hok:rY X.prog X.w H' h'):Inv X pj σ H' { s with heap:=h',toks:=t' }:=by
  obtain⟨m,⟨o,es,ep,ho,r⟩,_⟩:=id I.loc
  obtain⟨sl,hL⟩:=u.any ho I.free (by simp)
  exact I.step (g':=s.gens) (d':=s.drawn) (ch:=[]) (fun _ z=>nomatch z) (fun b o _ hb _ e n=>u.keep b o e n hb (by simp)) (fun b o _ hb _ e n=>u.slot b o e n hb (by simp)) (fun b o _ e n=>u.free b o e n (by simp)) (fun b o _ e=>u.there b o e (by simp)) u.tups u.frzs u.tbls (fun m' hm=>by
    obtain⟨o',es',ep',ho',r'⟩:=hm
    rw[ho] at ho';cases ho'
    exact⟨_,es',ep',hL,r'⟩) hok I.bare
theorem Inv.call{g':Array GenState}{t':Nat}{d':Drawn}{ch:List Addr}(I:Inv X pj σ H s)(u:Un (frs X.stack) ch H H' s.heap h')(hok:rY X.prog X.w H' h')(hg:AllBare g')
    (hch:∀b∈ch,(b∈X.ex \/ X.s₀.heap.objs.size<=b)/\b≠X.env.locals/\(∀x c,X.env.cells.lookup x=some c->c≠b) /\ ∀p∈X.pn++pj,p.1≠b):
    Inv X pj σ H' { s with heap:=h',gens:=g',drawn:=d',toks:=t' }:=by
  obtain⟨m,⟨o,es,ep,ho,r⟩,_⟩:=id I.loc
  obtain⟨sl,hL⟩:=u.any ho I.free fun z=>(hch _ z).2.1 rfl
  exact I.step (ch:=ch) hch (fun b o hL hb hc e n=>u.keep b o e n (fun z=>(mem_cons.mp (I.stkSub b z)).elim hL hb) hc) (fun b o _ _ hc e n=>u.any e n hc) (fun b o hc e n=>u.free b o e n hc) (fun b o hc e=>u.there b o e hc) u.tups u.frzs u.tbls (fun m' hm=>by
    obtain⟨o',es',ep',ho',r'⟩:=hm
    rw[ho] at ho';cases ho'
    exact⟨_,es',ep',hL,r'⟩) hok hg
theorem Inv.turned{t':Nat}{it:Addr}(I:Inv X pj σ H s)(k:∀b o,b≠it->s.heap.get? b=some o->h'.get? b=some o)(hn:H it=none)(hL:it≠X.env.locals)
    (h1:it∈X.ex \/ X.s₀.heap.objs.size<=it) (h2:∀x c,X.env.cells.lookup x=some c->c≠it) (h3:∀p∈X.pn++pj,p.1≠it):Inv X pj σ H { s with heap:=h',toks:=t' }:=by
  have nit:∀b u,H b=some u->b≠it:=fun b u e z=>by rw[z,hn] at e;cases e
  refine I.step (g':=s.gens) (d':=s.drawn) (ch:=[it]) (fun b hb=>?_) (fun b o _ _ hc e _=>k b o (fun z=>hc (by simp[z])) e) (fun b o _ _ hc e _=>⟨o.slots,k b o (fun z=>hc (by simp[z])) e⟩) (fun _ _ _ _ n=>n)
    (fun b o hc e=>⟨o,k b o (fun z=>hc (by simp[z])) e⟩) (fun _ _ e=>e) (fun _ _ _ e=>e) (fun b ps e=>⟨#[],by rw[e];simp⟩) (fun m hm=>?_) (fun b u e=>?_) I.bare
  . have e:b=it:=by simpa using hb
    subst e
    exact⟨h1,hL,h2,h3⟩
  . obtain⟨o,es,ep,ho,r⟩:=hm
    exact⟨o,es,ep,k _ o (Ne.symm hL) ho,r⟩
  . refine(I.hok b u e).stay (fun c v hc q=>k c v ?_ q) (fun _ q=>q) (fun _ _ q=>q) fun _ _ q=>q
    rcases hc with z | z
    . rw[z];exact nit b u e
    . exact nit c _ z
theorem Inv.tok(I:Inv X pj σ H s)(t:Nat):Inv X pj σ H { s with toks:=t }:=I.un (h':=s.heap) (t':=t) Un.refl I.hok
theorem Inv.kept{t':Nat}(I:Inv X pj σ H s)(k:∀b u,s.heap.get? b=some u->h'.get? b=some u):Inv X pj σ H { s with heap:=h',toks:=t' }:=I.un (Un.kept k) (I.hok.kept k)
theorem Inv.laid{a:Addr}{o:HO}{t':Nat}(I:Inv X pj σ H s)(k:∀b u,s.heap.get? b=some u->h'.get? b=some u)(hp:s.heap.objs.size<=a)(new:dR X.prog X.w (upd H a o) h' a o):
    Inv X pj σ (upd H a o) { s with heap:=h',toks:=t' }:=I.un (Un.laid k hp (I.hok.fresh hp)) (I.hok.laid k hp new)
theorem Inv.write{x e:Addr}{o:HO}{t':Nat}(I:Inv X pj σ H s)(mu:GE (H x))(he:e=x \/ H e=some (.own x))(k:∀b u,b≠e->s.heap.get? b=some u->h'.get? b=some u)(heo:∃u,h'.get? e=some u)
    (new:dR X.prog X.w (upd H x o) h' x o):Inv X pj σ (upd H x o) { s with heap:=h',toks:=t' }:=I.un (Un.write mu he k heo) (I.hok.write mu he k heo new)
theorem Inv.pins_of{pins':List (Addr×Obj)}(I:Inv X pj σ H s)(h:∀p∈pins',s.heap.get? p.1=some p.2/\H p.1=none/\p.1≠X.env.locals/\p.1 ∉ X.fs /\ ∀v,p.2.data ≠ .cell v):Inv X pins' σ H s:=
  ⟨I.ok,I.os,I.bare,I.base,I.loc,I.cell,I.free,I.freeC,fun p hp=>(mem_append.mp hp).elim (fun z=>I.pin p (mem_append_left _ z)) (h p),I.hok,I.len,I.mild⟩
theorem Bi{N:List Str}(hN:N.Nodup){i j:Nat}{x:Str}(a:N[i]?=some x)(b:N[j]?=some x):i=j:=by
  obtain⟨h1,e1⟩:=List.getElem?_eq_some_iff.mp a
  obtain⟨h2,e2⟩:=List.getElem?_eq_some_iff.mp b
  exact(List.getElem_inj hN).mp (e1.trans e2.symm)
theorem yB{M:Model}{A:Around}{E:Value->Shared->Prop}{i:Nat}{x:Str}{v:V}{u:Value}{Q:Unit->Shared->Prop}(I:Inv X pj σ H s)(hN:X.N.Nodup)(hi:X.N[i]?=some x)(hx:JY X.env.scope x)(r:d7 v u)
    (h:∀s',Inv X pj (σ.set i (some v)) H s'->(∃a,Heap.SameBut a s.heap s'.heap/\(a=X.env.locals \/ X.env.cells.lookup x=some a))->Q () s') (hf:X.fn x=true \/ X.env.scope.names.lookup x=some .local:=by first | exact .inl rfl | exact .inr rfl | assumption):wpAny M A (storeName X.env x u) Q E s:=by
  obtain⟨m,hn,hl⟩:=id I.loc
  have hcls:(X.env.scope.kind == .class || (X.env.scope.kind == .module&&X.env.locals != X.env.globals))=false:=by rw[I.ok.kind];rfl
  have hiσ:i<σ.length:=by rw[I.len];exact(List.getElem?_eq_some_iff.mp hi).1
  have cne:=I.cne
  have tracked:∀{a:Addr} {h':Heap},(∃o,s.heap.get? a=some o/\H a=none)->Heap.SameBut a s.heap h'->rY X.prog X.w H h':=fun {a h'} ha hs b ob e=>by
    obtain⟨_,_,hfree⟩:=ha
    refine(I.hok b ob e).stay (fun c w' hc q=>(hs.2 c ?_).trans q) (fun _ q=>q) (fun _ _ q=>q) fun _ _ q=>q
    rintro rfl
    rcases hc with rfl | hc
    . rw[hfree] at e;cases e
    . rw[hfree] at hc;cases hc
  rcases hx with hk | hk
  . refine wpAny_storeName_local hk hn (fun h' hn' hs=>?_) hcls
    obtain⟨oL,_,_,hoL,_⟩:=id hn
    refine h _ ⟨I.ok,I.os,I.bare,⟨fun b o e n hb hx=>?_,fun b o e n hb hx=>?_,I.base.free,fun b o e hx=>?_,I.base.tups,I.base.frzs,I.base.tbls⟩,⟨_,hn',fun j y v' e1 e2 e3=>?_⟩,fun y c e=>?_,I.free,I.freeC,fun p hp=>?_,tracked ⟨oL,hoL,I.free⟩ hs,by simpa using I.len,I.mild⟩ ⟨_,hs,.inl rfl⟩
    . exact(hs.2 b (ne_of_lt (lt_of_lt_of_le (Heap.lt_size e) I.ok.above))).trans (I.base.keep b o e n hb hx)
    . obtain⟨sl,e1⟩:=I.base.slot b o e n hb hx
      exact⟨sl,(hs.2 b (ne_of_lt (lt_of_lt_of_le (Heap.lt_size e) I.ok.above))).trans e1⟩
    . obtain⟨o',e1⟩:=I.base.there b o e hx
      exact⟨o',(hs.2 b (ne_of_lt (lt_of_lt_of_le (Heap.lt_size e) I.ok.above))).trans e1⟩
    . by_cases hj:j=i
      . subst hj
        rw[hi] at e1;cases e1
        rw[List.getElem?_set_self hiσ] at e2
        cases e2
        exact⟨u,r,.inl ⟨hk,by simp⟩⟩
      . rw[List.getElem?_set_ne (Ne.symm hj)] at e2
        obtain⟨u',r',q⟩:=hl j y v' e1 e2 e3
        refine⟨u',r',?_⟩
        rcases q with⟨k,e⟩ | ⟨k,c,e,z⟩
        . refine .inl ⟨k,?_⟩
          have:y≠x:=fun e=>hj (Bi hN e1 (e ▸ hi))
          simp[this,e]
        . exact .inr ⟨k,c,e,z.sameBut hs (cne y c e)⟩
    . obtain⟨w',z⟩:=I.cell y c e
      exact⟨w',z.sameBut hs (cne y c e)⟩
    . obtain⟨e,n,ne,nf,d⟩:=I.pin p hp
      exact⟨(hs.2 p.1 ne).trans e,n,ne,nf,d⟩
  . have hfn:X.fn x=true:=by
      rcases hf with z | z
      . exact z
      . rw[z] at hk;cases hk
    obtain⟨c,hc⟩:=I.ok.has x (.inl hk)
    obtain⟨w',z⟩:=I.cell x c hc
    refine wpAny_storeName_cell I.ok.kind hk hc z (fun h' hc' hs=>?_)
    obtain⟨oc,hoc,hocd⟩:=id z
    refine h { s with heap:=h' } ⟨I.ok,I.os,I.bare,⟨fun b o e n hb hx=>?_,fun b o e n hb hx=>?_,I.base.free,fun b o e hx=>?_,I.base.tups,I.base.frzs,I.base.tbls⟩,⟨m,hn.sameBut hs (Ne.symm (cne x c hc)),fun j y v' e1 e2 e3=>?_⟩,fun y c' e=>?_,I.free,I.freeC,fun p hp=>?_,tracked ⟨oc,hoc,I.freeC x c hc⟩ hs,by simpa using I.len,I.mild⟩ ⟨c,hs,.inr hc⟩
    . exact(hs.2 b (ne_of_lt (lt_of_lt_of_le (Heap.lt_size e) (I.ok.cab x c hfn hc)))).trans (I.base.keep b o e n hb hx)
    . obtain⟨sl,e1⟩:=I.base.slot b o e n hb hx
      exact⟨sl,(hs.2 b (ne_of_lt (lt_of_lt_of_le (Heap.lt_size e) (I.ok.cab x c hfn hc)))).trans e1⟩
    . obtain⟨o',e1⟩:=I.base.there b o e hx
      exact⟨o',(hs.2 b (ne_of_lt (lt_of_lt_of_le (Heap.lt_size e) (I.ok.cab x c hfn hc)))).trans e1⟩
    . by_cases hj:j=i
      . subst hj
        rw[hi] at e1;cases e1
        rw[List.getElem?_set_self hiσ] at e2
        cases e2
        exact⟨u,r,.inr ⟨.inl hk,c,hc,hc'⟩⟩
      . rw[List.getElem?_set_ne (Ne.symm hj)] at e2
        obtain⟨u',r',q⟩:=hl j y v' e1 e2 e3
        refine⟨u',r',?_⟩
        rcases q with q | ⟨k,c',e,z'⟩
        . exact .inl q
        . refine .inr ⟨k,c',e,z'.sameBut hs ?_⟩
          rintro rfl
          exact hj (Bi hN e1 (I.ok.inj _ _ _ e hc ▸ hi))
    . by_cases hcc:c'=c
      . subst hcc;exact⟨_,hc'⟩
      . obtain⟨w2,z2⟩:=I.cell y c' e
        exact⟨w2,z2.sameBut hs hcc⟩
    . obtain⟨e,n,ne,nf,d⟩:=I.pin p hp
      refine⟨(hs.2 p.1 ?_).trans e,n,ne,nf,d⟩
      intro q
      rw[q,hoc] at e
      have q':oc=p.2:=Option.some.inj e
      exact d w' (by rw[<- q'];exact hocd)
theorem Ay{M:Model}{A:Around}{E:Value->Shared->Prop}{i:Nat}{x:Str}{v:V}{u:Value}{Q:Unit->Shared->Prop}(I:Inv X pj σ H s)(hN:X.N.Nodup)(hi:X.N[i]?=some x)(hx:JY X.env.scope x)(r:d7 v u)
    (h:∀s',Inv X pj (σ.set i (some v)) H s'->Q () s') (hf:X.fn x=true \/ X.env.scope.names.lookup x=some .local:=by first | exact .inl rfl | exact .inr rfl | assumption):wpAny M A (storeName X.env x u) Q E s:=
  yB I hN hi hx r (fun s' I' _=>h s' I') hf
theorem Inv.call'{s':Shared}{ch:List Addr}(I:Inv X pj σ H s)(ho:s'.os=s.os)(u:Un (frs X.stack) ch H H' s.heap s'.heap)(hok:rY X.prog X.w H' s'.heap)(hg:AllBare s'.gens)
    (hch:∀b∈ch,(b∈X.ex \/ X.s₀.heap.objs.size<=b)/\b≠X.env.locals/\(∀x c,X.env.cells.lookup x=some c->c≠b) /\ ∀p∈X.pn++pj,p.1≠b):Inv X pj σ H' s':=by
  obtain⟨h',g',d',t',o'⟩:=s'
  have e:o'=s.os:=ho
  subst e
  exact I.call (g':=g') (t':=t') (d':=d') u hok hg hch
end
abbrev XK:=Value->Option Addr->Hp->Prop
abbrev St:=List (Option V)
abbrev VK:=V->Hp->Prop
abbrev TE:=St->Hp->VK->Prop
abbrev TT:=St->Hp->(Bool->Hp->Prop)->Prop
abbrev TA:=St->Hp->(List V->Hp->Prop)->Prop
structure Ends where
  nx:St->Hp->Prop
  rt:VK
  bk:St->Hp->Prop:=fun _ _=>False
  ct:St->Hp->Prop:=fun _ _=>False
abbrev TS:=Ends->St->Hp->Prop
inductive EP(X:Cx)(pj:List (Addr×Obj))(σ:St)(Q:VK)(u:Value)(s':Shared):Prop
  |mk (v:V) (H':Hp) (I:Inv X pj σ H' s') (r:d7 v u) (q:Q v H')
inductive TP(X:Cx)(pj:List (Addr×Obj))(σ:St)(Q:Bool->Hp->Prop)(b:Bool)(s':Shared):Prop
  |mk (H':Hp) (I:Inv X pj σ H' s') (q:Q b H')
inductive AP(X:Cx)(pj:List (Addr×Obj))(σ:St)(Q:List V->Hp->Prop)(us:List Value)(s':Shared):Prop
  |mk (vs:List V) (H':Hp) (I:Inv X pj σ H' s') (r:bV vs us) (q:Q vs H')
inductive NP(X:Cx)(pj:List (Addr×Obj))(P:St->Hp->Prop)(s':Shared):Prop
  |mk (σ':St) (H':Hp) (I:Inv X pj σ' H' s') (q:P σ' H')
inductive RP(X:Cx)(pj:List (Addr×Obj))(P:VK)(u:Value)(s':Shared):Prop
  |mk (v:V) (σ':St) (H':Hp) (I:Inv X pj σ' H' s') (r:d7 v u) (q:P v H')
def SP(X:Cx)(pj:List (Addr×Obj))(D:Ends)(f:Flow)(s':Shared):Prop:=
  match f with
  | .next=>NP X pj D.nx s'
  | .brk=>NP X pj D.bk s'
  | .cont=>NP X pj D.ct s'
  | .ret u=>RP X pj D.rt u s'
def PE(X:Cx)(e:Expr)(t:TE):Prop:=
  ∀(pj:List (Addr×Obj)) (s:Shared) (σ:St) (H:Hp) (Q:VK),Inv X pj σ H s->t σ H Q->wpAny (model X.prog X.w) X.A (eval e X.env) (EP X pj σ Q) X.xe s
def PT(X:Cx)(e:Expr)(t:TT):Prop:=
  ∀(pj:List (Addr×Obj)) (s:Shared) (σ:St) (H:Hp) (Q:Bool->Hp->Prop),Inv X pj σ H s->t σ H Q->wpAny (model X.prog X.w) X.A (isTrue e X.env (eval e X.env)) (TP X pj σ Q) X.xe s
def PW(X:Cx)(e:Expr)(t:TT):Prop:=
  ∀(whole:Sem Value) (pj:List (Addr×Obj)) (s:Shared) (σ:St) (H:Hp) (Q:Bool->Hp->Prop),Inv X pj σ H s->t σ H Q->wpAny (model X.prog X.w) X.A (isTrue e X.env whole) (TP X pj σ Q) X.xe s
theorem PW.pt{X:Cx}{e:Expr}{t:TT}(h:PW X e t):PT X e t:=h _
def PA(X:Cx)(es:List Expr)(t:TA):Prop:=
  ∀(pos:Pos) (pj:List (Addr×Obj)) (s:Shared) (σ:St) (H:Hp) (Q:List V->Hp->Prop),Inv X pj σ H s->t σ H Q->wpAny (model X.prog X.w) X.A (spliced (backTo pos (starEach es X.env))) (AP X pj σ Q) X.xe s
def PS(X:Cx)(st:Stmt)(t:TS):Prop:=
  ∀(pj:List (Addr×Obj)) (s:Shared) (σ:St) (H:Hp) (D:Ends),Inv X pj σ H s->t D σ H->wpAny (model X.prog X.w) X.A (exec st X.env) (SP X pj D) X.xe s
def Ah(X:Cx)(st:List Stmt)(t:TS):Prop:=
  ∀(pj:List (Addr×Obj)) (s:Shared) (σ:St) (H:Hp) (D:Ends),Inv X pj σ H s->t D σ H->wpAny (model X.prog X.w) X.A (execs st X.env) (SP X pj D) X.xe s
theorem thn{α:Type}{t:Sem α}{Q Q':α->Shared->Prop}{M:Model}{A:Around}{E:Value->Shared->Prop}{s:Shared}(h:wpAny M A t Q E s)(hQ:∀a s,Q a s->Q' a s):wpAny M A t Q' E s:=wpAny_mono h hQ fun _ _ x=>x
section
variable {X:Cx}
def zH(i:Nat):TE:=fun σ H Q=>∃v,σ[i]?=some (some v)/\Q v H
def tC(v:V):TE:=fun _ H Q=>Q v H
theorem Mn{i:Nat}{x:Str}{pos:Pos}(hN:X.N[i]?=some x)(hv:Qt X.env.scope x)(hd:(x==("__debug__" : Str))=false:=by decide)(hcd:(x==("__classdict__" : Str))=false:=by decide):PE X (.Name x pos) (zH i):=by
  intro pj s σ H Q I h
  obtain⟨v,e,h⟩:=h
  obtain⟨m,hn,hl⟩:=I.loc
  obtain⟨u,r,l⟩:=hl i x v hN e hv
  have fin:EP X pj σ Q u s:=⟨v,H,I,r,h⟩
  rcases l with⟨hk,hm⟩ | ⟨hk,c,hc,hcell⟩
  . exact wpAny_Name (wpAny_loadName_local I.ok.kind hk hn hm fin) hd
  . rcases hk with hk | hk
    . exact wpAny_Name (wpAny_loadName_cell I.ok.kind hk hc hcell fin) hd
    . exact wpAny_Name (wpAny_loadName_free I.ok.kind hk hc hcell fin hcd) hd
theorem Mt{i j pos}:PE X (.Constant (.int i) j pos) (tC (.int i)):=fun _ _ _ H _ I h=>wpAny_Constant_int ⟨.int i,H,I.tok _,⟨_,rfl⟩,h⟩
theorem Oz{b j pos}:PE X (.Constant (.bool b) j pos) (tC (.bl b)):=fun _ _ _ H _ I h=>Constant_bool ⟨.bl b,H,I,rfl,h⟩
theorem Mr{j pos}:PE X (.Constant .none j pos) (tC .non):=fun _ _ _ H _ I h=>Constant_none ⟨.non,H,I,rfl,h⟩
def Gl(X:Cx)(x:Str):Prop:=X.env.kindOf x=some .globalImplicit
theorem A7{E:Value->Shared->Prop}{pj:List (Addr×Obj)}{s:Shared}{σ:St}{H:Hp}{x:Str}{u:Value}{pos:Pos}{Q:Value->Shared->Prop}(I:Inv X pj σ H s)(hg:Gl X x)(hm:X.mg x=some u)(h:Q u s)
    (hd:(x==("__debug__" : Str))=false:=by decide):wpAny (model X.prog X.w) X.A (eval (.Name x pos) X.env) Q E s:=
  Calls.Name_function_global I.ok.kind hg (Calls.loadGlobal_global (by rw[I.ok.glob];exact I.mod.glob.keeps I.bk) hm h) hd
theorem p6{E:Value->Shared->Prop}{pj:List (Addr×Obj)}{s:Shared}{σ:St}{H:Hp}{x:Str}{u:Value}{pos:Pos}{Q:Value->Shared->Prop}(I:Inv X pj σ H s)(hg:Gl X x)(hm:X.mg x=none)(hv:bootBuiltins x=some u)(h:Q u s)
    (hn:x ≠ "__name__" := by decide) (hd:(x==("__debug__" : Str))=false:=by decide):wpAny (model X.prog X.w) X.A (eval (.Name x pos) X.env) Q E s:=by
  obtain⟨mb,h1,h2⟩:=I.mod.blt
  exact Calls.Name_function_global I.ok.kind hg (Calls.loadGlobal_builtin (by rw[I.ok.glob];exact I.mod.glob.keeps I.bk) hm (by rw[I.ok.blt];exact h1.keeps I.bk) ((h2 x hn).trans hv) h) hd
theorem KI{x:Str}{v:V}{u:Value}{pos:Pos}(hg:Gl X x)(hm:X.mg x=some u)(r:d7 v u)(hd:(x==("__debug__" : Str))=false:=by decide):PE X (.Name x pos) (tC v):=
  fun _ _ _ H _ I h=>A7 I hg hm ⟨v,H,I,r,h⟩ hd
theorem kG{x:Str}{v:V}{u:Value}{pos:Pos}(hg:Gl X x)(hm:X.mg x=none)(hv:bootBuiltins x=some u)(r:d7 v u)(hn:x ≠ "__name__" := by decide)(hd:(x==("__debug__" : Str))=false:=by decide):PE X (.Name x pos) (tC v):=
  fun _ _ _ H _ I h=>p6 I hg hm hv ⟨v,H,I,r,h⟩ hn hd
variable {a b:Expr} {ta tb:TE} {pos:Pos}
variable {tA tB':TT} {rest:List Expr}
def RG(t u:TT):TT:=fun σ H Q=>t σ H fun c H1=>if c=true then u σ H1 Q else Q false H1
def SL(t u:TT):TT:=fun σ H Q=>t σ H fun c H1=>if c=true then Q true H1 else u σ H1 Q
def R9(t:TT):TT:=fun σ H Q=>t σ H fun c H1=>Q (!c) H1
theorem Jw(ha:PT X a tA):PW X (.BoolOp .And [a] pos) tA:=by
  intro wh pj s σ H Q I h
  refine isTrue_and (thn (ha pj s σ H Q I h) fun c s1 e=>?_)
  cases c with
  |true=>exact isTrue_and_nil e
  |false=>exact e
theorem Mc(ha:PT X a tA):PW X (.BoolOp .Or [a] pos) tA:=by
  intro wh pj s σ H Q I h
  refine isTrue_or (thn (ha pj s σ H Q I h) fun c s1 e=>?_)
  cases c with
  |false=>exact isTrue_or_nil e
  |true=>exact e
theorem Md(ha:PT X a tA)(hb:PW X (.BoolOp .And (b::rest) pos) tB'):PW X (.BoolOp .And (a::b::rest) pos) (RG tA tB'):=by
  intro wh pj s σ H Q I h
  refine isTrue_and (thn (ha pj s σ H _ I h) fun c s1 ⟨H1,I1,q1⟩=>?_)
  cases c with
  |true=>exact hb wh pj s1 σ H1 Q I1 q1
  |false=>exact⟨H1,I1,q1⟩
theorem Os(ha:PT X a tA)(hb:PW X (.BoolOp .Or (b::rest) pos) tB'):PW X (.BoolOp .Or (a::b::rest) pos) (SL tA tB'):=by
  intro wh pj s σ H Q I h
  refine isTrue_or (thn (ha pj s σ H _ I h) fun c s1 ⟨H1,I1,q1⟩=>?_)
  cases c with
  |true=>exact⟨H1,I1,q1⟩
  |false=>exact hb wh pj s1 σ H1 Q I1 q1
theorem Mf(ha:PT X a tA):PT X (.UnaryOp .Not a pos) (R9 tA):=by
  intro pj s σ H Q I h
  exact isTrue_not (thn (ha pj s σ H (fun c H1=>Q (!c) H1) I h) fun c s' z=>by cases z;exact⟨_,by assumption,by assumption⟩)
def ON(ta tb:TE):TE:=fun σ H Q=>ta σ H fun x H1=>∃c,x=.bl c/\if c=true then tb σ H1 Q else Q (.bl false) H1
def R8(ta tb:TE):TE:=fun σ H Q=>ta σ H fun x H1=>∃c,x=.bl c/\if c=true then Q (.bl true) H1 else tb σ H1 Q
def OG(ta:TE):TE:=fun σ H Q=>ta σ H fun x H1=>∃c,x=.bl c/\Q (.bl (!c)) H1
theorem Mp{op}{t:TE}(h:PE X a t):PE X (.BoolOp op [a] pos) t:=fun pj s σ H Q I hw=>BoolOp_one (h pj s σ H Q I hw)
theorem Mw(ha:PE X a ta)(hb:PE X (.BoolOp .And (b::rest) pos) tb):PE X (.BoolOp .And (a::b::rest) pos) (ON ta tb):=by
  intro pj s σ H Q I h
  refine BoolOp_and (thn (ha pj s σ H _ I h) fun v s1 ⟨x,H1,I1,r1,q1⟩=>?_)
  obtain⟨c,rfl,q1⟩:=q1
  cases r1
  refine wpAny_truthy_bool ?_
  cases c with
  |true=>exact hb pj s1 σ H1 Q I1 q1
  |false=>exact⟨.bl false,H1,I1,rfl,q1⟩
theorem Ow(ha:PE X a ta)(hb:PE X (.BoolOp .Or (b::rest) pos) tb):PE X (.BoolOp .Or (a::b::rest) pos) (R8 ta tb):=by
  intro pj s σ H Q I h
  refine BoolOp_or (thn (ha pj s σ H _ I h) fun v s1 ⟨x,H1,I1,r1,q1⟩=>?_)
  obtain⟨c,rfl,q1⟩:=q1
  cases r1
  refine wpAny_truthy_bool ?_
  cases c with
  |false=>exact hb pj s1 σ H1 Q I1 q1
  |true=>exact⟨.bl true,H1,I1,rfl,q1⟩
theorem Mq(ha:PE X a ta):PE X (.UnaryOp .Not a pos) (OG ta):=by
  intro pj s σ H Q I h
  refine UnaryOp_ (thn (ha pj s σ H _ I h) fun v s1 ⟨x,H1,I1,r1,q1⟩=>?_)
  obtain⟨c,rfl,q1⟩:=q1
  cases r1
  exact not_of (wpAny_truthy_bool ⟨.bl (!c),H1,I1,rfl,q1⟩)
end
def gM(K:W.Frag)(H:Hp)(a:Addr)(xs:List V):Prop:=
  Rd H a (.lst xs) \/
    ∃(o:Obj) (its:Array Value) (n:Nat),K.lookup a=some o/\o.cls=.type "list" /\ o.dict=none/\o.data=.seq its n/\its.size<=sizeLine/\bV xs its.toList
def mY(K:W.Frag)(H:Hp)(a:Addr)(xs:List V):Prop:=
  Rd H a (.tup xs) \/
    ∃(o:Obj) (its:Array Value) (n:Nat),K.lookup a=some o/\o.cls=.type "tuple" /\ o.data=.seq its n/\its.size<=sizeLine/\bV xs its.toList
def Ry:Value->Option V
  | .none=>some .non
  | .bool b=>some (.bl b)
  | .int i _=>some (.int i)
  | .str x _=>some (.str x)
  | .bytes b _=>some (.byt b)
  | .float b _=>some (.flt b)
  | .ref a=>some (.ref a)
  | .type n=>some (.ty n)
  |_=>none
theorem d7.abs{x:V}{u:Value}(r:d7 x u):Ry u=some x:=by
  cases x with
  |non=>cases r;rfl
  |bl _=>cases r;rfl
  |int _=>obtain⟨t,rfl⟩:=r;rfl
  |str _=>obtain⟨t,rfl⟩:=r;rfl
  |byt _=>obtain⟨t,rfl⟩:=r;rfl
  |flt _=>obtain⟨t,rfl⟩:=r;rfl
  |ref _=>cases r;rfl
  |ty _=>cases r;rfl
theorem d7.inj{x y:V}{u:Value}(r:d7 x u)(q:d7 y u):x=y:=Option.some.inj (r.abs.symm.trans q.abs)
theorem bV.inj:∀{xs ys:List V} {us:List Value},bV xs us->bV ys us->xs=ys
  |_,_,_,.nil,.nil=>rfl
  |_,_,_,.cons r t,.cons r' t'=>by rw[r.inj r',bV.inj t t']
section
variable {X:Cx} {pj:List (Addr×Obj)} {σ:St} {H:Hp} {s:Shared} {a:Addr} {xs ys:List V}
theorem gM.of{K:W.Frag}(h:H a=some (.lst xs)):gM K H a xs:=.inl (.inl h)
theorem mY.of{K:W.Frag}(h:H a=some (.tup xs)):mY K H a xs:=.inl (.inl h)
theorem Inv.list(I:Inv X pj σ H s)(h:gM X.K H a xs):∃its:List Value,bV xs its/\PlainL s.heap a its.toArray/\xs.length<=sizeLine:=by
  rcases h with h | ⟨o,its,n,hk,hc,hd,hs,hz,r⟩
  . obtain⟨z,its,n,r,e⟩:=h.ok I.hok
    exact⟨its,r,⟨_,n,e,rfl,rfl,rfl⟩,z⟩
  . refine⟨its.toList,r,⟨o,n,I.kIn a o hk,hc,hd,by simpa using hs⟩,?_⟩
    have e:=r.length
    simp only[length_toList] at e
    ac_rfl
theorem Inv.tuple(I:Inv X pj σ H s)(h:mY X.K H a xs):∃its:List Value,bV xs its/\IsTup s.heap a its.toArray/\xs.length<=sizeLine:=by
  rcases h with h | ⟨o,its,n,hk,hc,hs,hz,r⟩
  . obtain⟨z,its,r,p⟩:=h.ok I.hok
    exact⟨its,r,p,z⟩
  . refine⟨its.toList,r,⟨o,I.kIn a o hk,hc,n,by simpa using hs⟩,?_⟩
    have e:=r.length
    simp only[length_toList] at e
    ac_rfl
theorem Inv.list_inj(I:Inv X pj σ H s)(h:gM X.K H a xs)(h':gM X.K H a ys):xs=ys:=by
  obtain⟨its,r,⟨o,n,e,_,_,d⟩,_⟩:=I.list h
  obtain⟨its',r',⟨o',n',e',_,_,d'⟩,_⟩:=I.list h'
  rw[e] at e';cases e'
  rw[d] at d'
  injection d' with d1 _
  have:its=its':=by simpa using congrArg Array.toList d1
  subst this
  exact r.inj r'
theorem Inv.tuple_inj(I:Inv X pj σ H s)(h:mY X.K H a xs)(h':mY X.K H a ys):xs=ys:=by
  obtain⟨its,r,⟨o,e,_,n,d⟩,_⟩:=I.tuple h
  obtain⟨its',r',⟨o',e',_,n',d'⟩,_⟩:=I.tuple h'
  rw[e] at e';cases e'
  rw[d] at d'
  injection d' with d1 _
  have:its=its':=by simpa using congrArg Array.toList d1
  subst this
  exact r.inj r'
end
abbrev Cx.wish(X:Cx)(E:Value->Shared->Prop):Cx:={ X with xe:=E }
abbrev Cx.nox(X:Cx):Cx:=X.wish fun _ _=>False
theorem Cx.Ok.wish{X:Cx}(ok:X.Ok)(E:Value->Shared->Prop):(X.wish E).Ok:=
  ⟨ok.mod,ok.kind,ok.glob,ok.blt,ok.above,ok.inj,ok.has,ok.cab,ok.hd,ok.frames,ok.stk,ok.exf,ok.bs,ok.bsz,ok.noex,ok.exfs,ok.funs,ok.frf,ok.hq⟩
theorem Cx.Ok.unwish{X:Cx}{E:Value->Shared->Prop}(ok:(X.wish E).Ok):X.Ok:=
  ⟨ok.mod,ok.kind,ok.glob,ok.blt,ok.above,ok.inj,ok.has,ok.cab,ok.hd,ok.frames,ok.stk,ok.exf,ok.bs,ok.bsz,ok.noex,ok.exfs,ok.funs,ok.frf,ok.hq⟩
section
variable {X:Cx} {pj:List (Addr×Obj)} {σ:St} {H:Hp} {s:Shared} {E:Value->Shared->Prop}
theorem Inv.wish(I:Inv X pj σ H s)(E:Value->Shared->Prop):Inv (X.wish E) pj σ H s:=⟨I.ok.wish E,I.os,I.bare,I.base,I.loc,I.cell,I.free,I.freeC,I.pin,I.hok,I.len,I.mild⟩
theorem Inv.unwish(I:Inv (X.wish E) pj σ H s):Inv X pj σ H s:=⟨I.ok.unwish,I.os,I.bare,I.base,I.loc,I.cell,I.free,I.freeC,I.pin,I.hok,I.len,I.mild⟩
theorem SP.unwish{D:Ends}{f:Flow}{s':Shared}(h:SP (X.wish E) pj D f s'):SP X pj D f s':=by
  cases f with
  |next=>obtain⟨σ',H',I,q⟩:=h;exact⟨σ',H',I.unwish,q⟩
  |brk=>obtain⟨σ',H',I,q⟩:=h;exact⟨σ',H',I.unwish,q⟩
  |cont=>obtain⟨σ',H',I,q⟩:=h;exact⟨σ',H',I.unwish,q⟩
  |ret u=>obtain⟨v,σ',H',I,r,q⟩:=h;exact⟨v,σ',H',I.unwish,r,q⟩
theorem Ah.nox{st:List Stmt}{t:TS}(h:Ah X.nox st t):Ah X st t:=fun pj s σ H D I hw=>
  wpAny_mono (h pj s σ H D (I.wish _) hw) (fun _ _ q=>q.unwish) fun _ _ z=>False.elim z
end
section
variable {X:Cx} {st:Stmt} {rest:List Stmt} {t u:TS} {e:Expr} {te:TE} {pos:Pos}
def OI:TS:=fun D σ H=>D.nx σ H
def R6(t u:TS):TS:=fun D σ H=>t { D with nx:=u D } σ H
theorem K3:Ah X [] OI:=fun _ _ σ H _ I h=>wpAny_execs_nil ⟨σ,H,I,h⟩
theorem Gx(h1:PS X st t)(h2:Ah X rest u):Ah X (st::rest) (R6 t u):=by
  intro pj s σ H D I h
  refine wpAny_execs_cons (thn (h1 pj s σ H { D with nx:=u D } I h) fun f s1 q=>?_)
  cases f with
  |next=>
    obtain⟨σ',H',I',q⟩:=q
    exact h2 pj s1 σ' H' D I' q
  |ret v=>exact q
  |brk=>exact q
  |cont=>exact q
theorem K2(h1:PS X st t):Ah X [st] t:=by
  intro pj s σ H D I h
  refine wpAny_execs_cons (thn (h1 pj s σ H D I h) fun f s1 q=>?_)
  cases f with
  |next=>exact wpAny_execs_nil q
  |ret v=>exact q
  |brk=>exact q
  |cont=>exact q
def MT:TS:=fun D σ H=>D.bk σ H
theorem HA:PS X (.Break pos) MT:=fun _ _ σ H _ I h=>wpAny_Break ⟨σ,H,I,h⟩
theorem Inv.quiet{pj:List (Addr×Obj)}{σ:St}{H:Hp}{s:Shared}(I:Inv X pj σ H s):interactive X.env=false:=by simp[interactive,I.ok.kind]
def OK(te:TE):TS:=fun D σ H=>te σ H fun _ H1=>D.nx σ H1
theorem sN(he:PE X e te)(hs:swapsWith e none pos.line X.env=pure false:=by rfl):PS X (.Expr e pos) (OK te):=by
  intro pj s σ H D I h
  exact wpAny_Expr_any (thn (he pj s σ H _ I h) fun v s1 ⟨x,H1,I1,r1,q1⟩=>⟨σ,H1,I1,q1⟩) I.quiet hs
def R7(te:TE):TS:=fun D σ H=>te σ H D.rt
theorem Mg(he:PE X e te):PS X (.Return (some e) pos) (R7 te):=by
  intro pj s σ H D I h
  exact wpAny_Return_some (thn (he pj s σ H _ I h) fun v s1 ⟨x,H1,I1,r1,q1⟩=>⟨x,σ,H1,I1,r1,q1⟩)
def RB(c:TT)(t u:TS):TS:=fun D σ H=>c σ H fun b H1=>if b=true then t D σ H1 else u D σ H1
theorem Ot{c:Expr}{a b:List Stmt}{tc:TT}(hc:PT X c tc)(ha:Ah X a t)(hb:Ah X b u):PS X (.If c a b pos) (RB tc t u):=by
  intro pj s σ H D I h
  refine wpAny_If (thn (hc pj s σ H _ I h) fun d s1 ⟨H1,I1,q1⟩=>?_)
  cases d with
  |true=>exact ha pj s1 σ H1 D I1 q1
  |false=>exact hb pj s1 σ H1 D I1 q1
def MR:TS:=fun _ _ _=>False
theorem Gz:PS X st MR:=fun _ _ _ _ _ _ h=>h.elim
end
abbrev TG:=V->St->Hp->(St->Hp->Prop)->Prop
abbrev MI:=List V->St->Hp->(St->Hp->Prop)->Prop
def PG(X:Cx)(target:Expr)(t:TG):Prop:=
  ∀(pj:List (Addr×Obj)) (s:Shared) (σ:St) (H:Hp) (v:V) (u:Value) (Q:St->Hp->Prop),Inv X pj σ H s->d7 v u->t v σ H Q ->
    wpAny (model X.prog X.w) X.A (assign target X.env u) (fun _ s'=>∃σ' H',Inv X pj σ' H' s'/\Q σ' H') X.xe s
def Qh(X:Cx)(ts:List Expr)(t:MI):Prop:=
  ∀(pj:List (Addr×Obj)) (s:Shared) (σ:St) (H:Hp) (vs:List V) (us:List Value) (Q:St->Hp->Prop),Inv X pj σ H s->bV vs us->t vs σ H Q ->
    wpAny (model X.prog X.w) X.A (assignInOrder ((assignEach ts X.env).map (·.2)) us) (fun _ s'=>∃σ' H',Inv X pj σ' H' s'/\Q σ' H') X.xe s
section
variable {X:Cx} {pos:Pos}
def By(i:Nat):TG:=fun v σ H Q=>Q (σ.set i (some v)) H
theorem dH{i:Nat}{x:Str}(hN:X.N.Nodup)(hi:X.N[i]?=some x)(hx:JY X.env.scope x)(hf:X.fn x=true \/ X.env.scope.names.lookup x=some .local:=by first | exact .inl rfl | exact .inr rfl | assumption):PG X (.Name x pos) (By i):=by
  intro pj s σ H v u Q I r h
  exact wpAny_assign_Name (Ay I hN hi hx r (fun s' I'=>⟨_,H,I',h⟩) hf)
def Pu:MI:=fun vs σ H Q=>vs=[]/\Q σ H
def M4(t:TG)(u:MI):MI:=fun vs σ H Q=>∃v r,vs=v::r/\t v σ H fun σ' H'=>u r σ' H' Q
theorem lN:Qh X [] Pu:=by
  intro pj s σ H vs us Q I r h
  obtain⟨e,h⟩:=h
  subst e
  cases r
  exact assignInOrder_nil ⟨σ,H,I,h⟩
theorem d5{e:Expr}{es:List Expr}{t:TG}{u:MI}(h1:PG X e t)(h2:Qh X es u)
    (hs:(assignEach (e::es) X.env).map (·.2)=assign e X.env::(assignEach es X.env).map (·.2):=by rfl):Qh X (e::es) (M4 t u):=by
  intro pj s σ H vs us Q I r h
  obtain⟨v,vr,e1,h⟩:=h
  subst e1
  cases r with
  |cons r rr=>
    rw[hs]
    refine assignInOrder_cons (thn (h1 pj s σ H _ _ _ I r h) fun _ s1 ⟨σ1,H1,I1,q1⟩=>?_)
    exact h2 pj s1 σ1 H1 _ _ Q I1 rr q1
def Rl(K:W.Frag)(n:Nat)(t:MI):TG:=fun v σ H Q=>∃a xs,v=.ref a/\mY K H a xs/\xs.length=n/\t xs σ H Q
theorem Mm{es:List Expr}{k:Nat}{t:MI}{n:Nat}(hc:X.calm=true)(h:Qh X es t)
    (hn:(assignEach es X.env).length=n:=by rfl) (hst:(assignEach es X.env).findIdx? (·.1)=none:=by rfl):PG X (.Tuple es k pos) (Rl X.K n t):=by
  intro pj s σ H v u Q I r hw
  obtain⟨a,xs,e1,hq,hl,hw⟩:=hw
  subst e1
  cases r
  obtain⟨its,rv,ht,hz⟩:=I.tuple hq
  refine assign_Tuple_tuple (I.ok.hd hc) ht (by simp[hn,<- hl,rv.length]) hst fun h' hx=>?_
  have I1:Inv X pj σ H { s with heap:=h' }:=I.kept (t':=s.toks) fun b o e=>hx b o (ne_of_lt (Heap.lt_size e)) e
  exact h pj _ σ H xs _ Q I1 (by simpa using rv) hw
def MU(te:TE)(g:TG):TS:=fun D σ H=>te σ H fun x H1=>g x σ H1 D.nx
theorem Gy{i:Nat}{x:Str}{e:Expr}{te:TE}{pos':Pos}(hN:X.N.Nodup)(hi:X.N[i]?=some x)(hx:JY X.env.scope x)(he:PE X e te)(hs:swapsWith e (some (.Name x pos')) pos.line X.env=pure false:=by rfl)(hf:X.fn x=true \/ X.env.scope.names.lookup x=some .local:=by first | exact .inl rfl | exact .inr rfl | assumption):
    PS X (.Assign [.Name x pos'] e pos) (MU te (By i)):=by
  intro pj s σ H D I h
  refine wpAny_Assign_Name (thn (he pj s σ H _ I h) fun v s1 ⟨y,H1,I1,r1,q1⟩=>?_) hs
  exact Ay I1 hN hi hx r1 (fun s2 I2=>⟨_,H1,I2,q1⟩) hf
end
structure It where
  go:Nat->Hp->Prop
  yld:Nat->Hp->V->Hp->Prop
  stop:Nat->Hp->Prop
def xF(X:Cx)(pj:List (Addr×Obj))(H:Hp)(b:Addr):Prop:=
  H b=none/\b≠X.env.locals/\b ∉ X.fs/\(b∈X.ex \/ X.s₀.heap.objs.size<=b)/\(∀x c,X.env.cells.lookup x=some c->c≠b) /\ ∀p∈X.pn++pj,p.1≠b
theorem Inv.fpOk{X:Cx}{pj:List (Addr×Obj)}{σ:St}{H H':Hp}{s:Shared}{b:Addr}(I:Inv X pj σ H s)(hb:s.heap.objs.size<=b)(hn:H' b=none):xF X pj H' b:=by
  refine⟨hn,ne_of_gt (lt_of_lt_of_le I.lt hb),I.nofs hb,.inr (le_trans I.sz hb),fun x c e z=>?_,fun p hp z=>?_⟩
  . obtain⟨v,q⟩:=I.cell x c e
    exact absurd (lt_of_lt_of_le q.lt (by rw[z];exact hb)) (lt_irrefl _)
  . exact absurd (lt_of_lt_of_le (Heap.lt_size (I.pin p hp).1) (by rw[z];exact hb)) (lt_irrefl _)
structure Turn(P:Program)(w:World)(K:W.Frag)(tg:Expr)(J:It)(fp:List Addr)(it:Addr)(tn:Nat->Heap->Prop):Prop where
  mem:it∈fp
  obj:∀i h,tn i h -> ∀b∈fp,∃o,h.get? b=some o /\ ∀v,o.data ≠ .cell v
  keep:∀i h h',tn i h->(∀b∈fp,∀o,h.get? b=some o->h'.get? b=some o)->tn i h'
  item:∀(X:Cx),X.prog=P->X.w=w->X.K=K->X.N=X.N -> ∀(i:Nat) (pj:List (Addr×Obj)) (s:Shared) (σ:St) (H:Hp) (E:Value->Shared->Prop),Inv X pj σ H s->(∀b∈fp,xF X pj H b)->tn i s.heap->J.go i H ->
    wpAny (model P w) X.A (pyNext (.ref it)) (fun r s1=>∃u,r=some u /\
      wpAny (model P w) X.A (letOwnedTupleGo tg (.ref it) u) (fun _ s2=>∃x H',Inv X pj σ H' s2/\d7 x u/\J.yld i H x H'/\tn (i+1) s2.heap /\ ∀b∈fp,H' b=none) E s1) E s
  done:∀(X:Cx),X.prog=P->X.w=w->X.K=K->X.N=X.N -> ∀(i:Nat) (pj:List (Addr×Obj)) (s:Shared) (σ:St) (H:Hp) (E:Value->Shared->Prop),Inv X pj σ H s->(∀b∈fp,xF X pj H b)->tn i s.heap->J.stop i H ->
    wpAny (model P w) X.A (pyNext (.ref it)) (fun r s1=>r=none/\Inv X pj σ H s1) E s
  self:∀(A:Around) (i:Nat) (s:Shared) (Q:Value->Shared->Prop) (E:Value->Shared->Prop),tn i s.heap->Q (.ref it) s->wpAny (model P w) A (pyIter (.ref it)) Q E s
abbrev TI:=St->Hp->(It->Hp->Prop)->Prop
def SF(X:Cx)(pj:List (Addr×Obj))(σ:St)(tg:Expr)(R:It->Hp->Prop)(itv:Value)(s2:Shared):Prop:=
  ∃(it:Addr) (fp:List Addr) (tn:Nat->Heap->Prop) (J:It) (H':Hp),itv=.ref it/\Inv X pj σ H' s2/\Turn X.prog X.w X.K tg J fp it tn/\tn 0 s2.heap/\(∀b∈fp,xF X pj H' b)/\R J H'
def PI(X:Cx)(tg iter:Expr)(wi:TI):Prop:=
  ∀(pj:List (Addr×Obj)) (s:Shared) (σ:St) (H:Hp) (R:It->Hp->Prop),Inv X pj σ H s->wi σ H R ->
    wpAny (model X.prog X.w) X.A (eval iter X.env) (fun v s1=>wpAny (model X.prog X.w) X.A (pyIter v) (SF X pj σ tg R) X.xe s1) X.xe s
theorem Bw{M:Model}{A:Around}{E:Value->Shared->Prop}{s:Shared}{tg:Expr}{it:Addr}{u:Value}{o:Obj}{n:String}{vs:Array Value}{Q:Unit->Shared->Prop}(ho:s.heap.get? it=some o)(hc:o.cls=.type n)(hd:o.data=.fields vs)
    (hn:["enumerate", "zip", "dict_itemiterator", "dict_reverseitemiterator", "odict_iterator", "itertools.zip_longest", "itertools.pairwise"].contains n=false) (hQ:Q () s):wpAny M A (letOwnedTupleGo tg (.ref it) u) Q E s:=by
  unfold letOwnedTupleGo
  cases tg<;>first
    |exact wpAny_pure hQ
    | (cases u<;>first
        |exact wpAny_pure hQ
        | (refine wpAny_bind (wpAny_load ho ?_)
           rw[hc,hd]
           show wpAny M A (if (["enumerate", "zip", "dict_itemiterator", "dict_reverseitemiterator", "odict_iterator", "itertools.zip_longest", "itertools.pairwise"].contains n&&vs[0]?==some (rawInt _))=true then _ else _) Q E s
           rw[if_neg (by intro h;rw[hn,Bool.false_and] at h;cases h)]
           exact wpAny_pure hQ))
def Qj(K:W.Frag)(a:Addr):It:=
  ⟨fun i H=>∃xs x,gM K H a xs/\xs[i]?=some x,fun i H x H'=>H'=H /\ ∀xs,gM K H a xs->xs[i]?=some x,fun i H=>∃xs,gM K H a xs/\xs.length<=i⟩
def S8(K:W.Frag)(a:Addr):It:=
  ⟨fun i H=>∃xs x,mY K H a xs/\xs[i]?=some x,fun i H x H'=>H'=H /\ ∀xs,mY K H a xs->xs[i]?=some x,fun i H=>∃xs,mY K H a xs/\xs.length<=i⟩
def Qi(lo:Int)(n:Nat):It:=⟨fun i _=>i<n,fun i H x H'=>H'=H/\x=.int (lo+i),fun i _=>n<=i⟩
theorem Ej{P:Program}{w:World}{K:W.Frag}{tg:Expr}(a it:Addr):Turn P w K tg (Qj K a) [it] it (fun i h=>h.IsListIter it a i) where
  mem:=by simp
  obj:=fun i h st b hb=>by
    have e:b=it:=by simpa using hb
    subst e
    obtain⟨o,e,c,d⟩:=st
    exact⟨o,e,fun v z=>by rw[d] at z;cases z⟩
  keep:=fun i h h' st k=>st.at fun o e=>k it (by simp) o e
  item:=by
    intro X hP hw hK hc i pj s σ H E I hf st hg
    subst hP hw hK
    obtain⟨xs,x,hq,hx⟩:=hg
    obtain⟨its,rv,p,hz⟩:=I.list hq
    obtain⟨u,hu,ru⟩:=rv.get hx
    obtain⟨f0,f1,f2,f3,f4,f5⟩:=hf it (by simp)
    refine wpAny_pyNext_list_item st p.isList (x:=u) (by simpa using hu) fun h' st' sb=>?_
    have I1:Inv X pj σ H { s with heap:=h' }:=I.turned (t':=s.toks) (fun b o hb e=>(sb.2 b hb).trans e) f0 f1 f3 f4 f5
    obtain⟨o,e,c,d⟩:=id st'
    exact⟨u,rfl,Bw (s:={ s with heap:=h' }) e c d ∅ ⟨x,H,I1,ru,⟨rfl,fun ys hy=>by rw[I.list_inj hy hq];exact hx⟩,st',fun b hb=>(hf b hb).1⟩⟩
  done:=by
    intro X hP hw hK hc i pj s σ H E I hf st hg
    subst hP hw hK
    obtain⟨xs,hq,hx⟩:=hg
    obtain⟨its,rv,p,hz⟩:=I.list hq
    obtain⟨f0,f1,f2,f3,f4,f5⟩:=hf it (by simp)
    have hl:=rv.length
    exact C6 I.qu st p.isList (by simp;ac_rfl) fun h' eb=>⟨rfl,I.turned (t':=s.toks) (fun b o hb e=>eb b o hb e) f0 f1 f3 f4 f5⟩
  self:=fun _ _ _ _ _ st h=>wpAny_pyIter_listiter st h
theorem Ca{P:Program}{w:World}{K:W.Frag}{tg:Expr}(a it:Addr):Turn P w K tg (S8 K a) [it] it (fun i h=>h.IsTupleIter it a i) where
  mem:=by simp
  obj:=fun i h st b hb=>by
    have e:b=it:=by simpa using hb
    subst e
    obtain⟨o,e,c,d⟩:=st
    exact⟨o,e,fun v z=>by rw[d] at z;cases z⟩
  keep:=fun i h h' st k=>st.at fun o e=>k it (by simp) o e
  item:=by
    intro X hP hw hK hc i pj s σ H E I hf st hg
    subst hP hw hK
    obtain⟨xs,x,hq,hx⟩:=hg
    obtain⟨its,rv,p,hz⟩:=I.tuple hq
    obtain⟨u,hu,ru⟩:=rv.get hx
    obtain⟨f0,f1,f2,f3,f4,f5⟩:=hf it (by simp)
    refine wpAny_pyNext_tuple_item st (show s.heap.IsTuple a its.toArray from p) (x:=u) (by simpa using hu) fun h' st' sb=>?_
    have I1:Inv X pj σ H { s with heap:=h' }:=I.turned (t':=s.toks) (fun b o hb e=>(sb.2 b hb).trans e) f0 f1 f3 f4 f5
    obtain⟨o,e,c,d⟩:=id st'
    exact⟨u,rfl,Bw (s:={ s with heap:=h' }) e c d ∅ ⟨x,H,I1,ru,⟨rfl,fun ys hy=>by rw[I.tuple_inj hy hq];exact hx⟩,st',fun b hb=>(hf b hb).1⟩⟩
  done:=by
    intro X hP hw hK hc i pj s σ H E I hf st hg
    subst hP hw hK
    obtain⟨xs,hq,hx⟩:=hg
    obtain⟨its,rv,p,hz⟩:=I.tuple hq
    obtain⟨f0,f1,f2,f3,f4,f5⟩:=hf it (by simp)
    have hl:=rv.length
    exact Fy I.qu st (show s.heap.IsTuple a its.toArray from p) (by simp;ac_rfl) fun h' eb=>⟨rfl,I.turned (t':=s.toks) (fun b o hb e=>eb b o hb e) f0 f1 f3 f4 f5⟩
  self:=fun _ _ _ _ _ st h=>wpAny_pyIter_tupleiter st h
theorem Cb{P:Program}{w:World}{K:W.Frag}{tg:Expr}(it:Addr)(lo:Int)(n:Nat):Turn P w K tg (Qi lo n) [it] it (fun i h=>IsRangeIter h it (lo+(i:Nat)*1) ((n:Int)-(i:Nat)) 1) where
  mem:=by simp
  obj:=fun i h st b hb=>by
    have e:b=it:=by simpa using hb
    subst e
    exact⟨_,st,fun v z=>by
      have z':Data.fields _=Data.cell v:=z
      cases z'⟩
  keep:=fun i h h' st k=>k it (by simp) _ st
  item:=by
    intro X hP hw hK hc i pj s σ H E I hf st hg
    subst hP hw hK
    obtain⟨f0,f1,f2,f3,f4,f5⟩:=hf it (by simp)
    refine wM hg st fun v h' tk hv st' kk=>?_
    obtain⟨t,rfl⟩:=hv
    have I1:Inv X pj σ H { s with heap:=h',toks:=tk }:=I.turned (fun b o hb e=>kk b o (by simpa using hb) e) f0 f1 f3 f4 f5
    refine⟨_,rfl,Bw (s:={ s with heap:=h',toks:=tk }) (n:="range_iterator") st' rfl rfl ∅ ⟨.int (lo+i),H,I1,⟨t,?_⟩,⟨rfl,rfl⟩,st',fun b hb=>(hf b hb).1⟩⟩
    rw[Int.mul_one]
  done:=by
    intro X hP hw hK hc i pj s σ H E I hf st hg
    subst hP hw hK
    obtain⟨f0,f1,f2,f3,f4,f5⟩:=hf it (by simp)
    exact yY I.qu st (by have:n<=i:=hg;ac_rfl) fun h' eb=>⟨rfl,I.turned (t':=s.toks) (fun b o hb e=>eb b o hb e) f0 f1 f3 f4 f5⟩
  self:=fun _ _ _ _ _ st h=>wpAny_pyIter_rangeiter st h
section
variable {X:Cx} {tg:Expr}
theorem B8{pj:List (Addr×Obj)}{σ:St}{H:Hp}{s:Shared}{R:It->Hp->Prop}{E:Value->Shared->Prop}{lo hi:Int}{t u v:Tok}{tk:Nat}(I:Inv X pj σ H s)(h1:-(2 ^ 62)<=lo)(h2:lo<2 ^ 62)(h3:-(2 ^ 62)<=hi)(h4:hi<2 ^ 62)
    (q:R (Qi lo (hi-lo).toNat) H):wpAny (model X.prog X.w) X.A (pyIter (.ref s.heap.objs.size)) (SF X pj σ tg R) E { s with heap:=s.heap.push { cls:=.type "range",data:=.fields #[.int lo t,.int hi u,.int 1 v] },toks:=tk }:=by
  refine wpAny_pyIter_range (IsRange.new ..) (small_one h1 h2 h3 h4) ?_
  have I1:Inv X pj σ H { s with heap:=s.heap.push { cls:=.type "range",data:=.fields #[.int lo t,.int hi u,.int 1 v] },toks:=tk }:=I.kept fun b o e=>Heap.get?_push_of_some _ e
  refine⟨(s.heap.push { cls:=.type "range",data:=.fields #[.int lo t,.int hi u,.int 1 v] }).objs.size,[(s.heap.push { cls:=.type "range",data:=.fields #[.int lo t,.int hi u,.int 1 v] }).objs.size],_,_,H,rfl,
    I1.kept (t':=tk) fun b o e=>Heap.get?_push_of_some _ e,Cb _ lo (hi-lo).toNat,?_,fun b hb=>?_,q⟩
  . have e1:lo+((0:Nat):Int)*1=lo:=by simp
    have e2:(((hi-lo).toNat:Nat):Int)-((0:Nat):Int)=Builtin.Range.rangeSize lo hi 1:=by rw[rangeSize_one];split<;>ac_rfl
    show IsRangeIter _ _ (lo+((0:Nat):Int)*1) ((((hi-lo).toNat:Nat):Int)-((0:Nat):Int)) 1
    rw[e1,e2]
    exact Heap.get?_push_size _ rfl
  . have e:b=(s.heap.push { cls:=.type "range",data:=.fields #[.int lo t,.int hi u,.int 1 v] }).objs.size:=by simpa using hb
    subst e
    exact I1.fpOk (le_refl _) (I1.hok.fresh (le_refl _))
def Pq(ta:TA):TI:=fun σ H R=>ta σ H fun vs H1=>∃j:Int,vs=[.int j] /\ -(2 ^ 62)<=j/\j<2 ^ 62/\R (Qi 0 j.toNat) H1
def Pp(ta:TA):TI:=fun σ H R=>ta σ H fun vs H1=>∃i j:Int,vs=[.int i,.int j]/\(-(2 ^ 62)<=i/\i<2 ^ 62 /\ -(2 ^ 62)<=j/\j<2 ^ 62)/\R (Qi i (j-i).toNat) H1
theorem FH{a:Expr}{ta:TA}{p pos:Pos}(hg:Gl X "range")(hm:X.mg "range" = none)(ha:PA X [a] ta)(hs:starEach [a] X.env=[(false,eval a X.env)]:=by rfl):PI X tg (.Call (.Name "range" p) [a] [] pos) (Pq ta):=by
  intro pj s σ H R I h
  refine Call_ (p6 I hg hm boot_range (PyProof.Rows.callWith_type1 (thn (ha pos pj s σ H _ I h) fun us s1 ⟨vs,H1,I1,r1,q1⟩=>?_) hs rfl))
  obtain⟨j,e,q1,q2,q⟩:=q1
  subst e
  cases r1 with
  |cons r rr=>
    cases rr
    obtain⟨t,rfl⟩:=r
    exact call_range_1 (B8 I1 ⋯ ⋯ q1 q2 (by simpa using q))
theorem FG{a b:Expr}{ta:TA}{p pos:Pos}(hg:Gl X "range")(hm:X.mg "range" = none)(ha:PA X [a,b] ta)(hs:starEach [a,b] X.env=[(false,eval a X.env),(false,eval b X.env)]:=by rfl)(hs2:starEach [b] X.env=[(false,eval b X.env)]:=by rfl):
    PI X tg (.Call (.Name "range" p) [a,b] [] pos) (Pp ta):=by
  intro pj s σ H R I h
  refine Call_ (p6 I hg hm boot_range (PyProof.Rows.callWith_type1 (thn (ha pos pj s σ H _ I h) fun us s1 ⟨vs,H1,I1,r1,q1⟩=>?_) (by rw[hs,hs2]) (by rw[hs2];rfl)))
  obtain⟨i,j,e,⟨q1,q2,q3,q4⟩,q⟩:=q1
  subst e
  cases r1 with
  |cons r rr=>
    cases rr with
    |cons r' rr=>
      cases rr
      obtain⟨t,rfl⟩:=r
      obtain⟨t',rfl⟩:=r'
      exact call_range_2 (B8 I1 q1 q2 q3 q4 q)
def RC(wi:TI)(g:TG)(tb:TS):TS:=fun D σ H=>wi σ H fun J H1=>∃W:Nat->Nat->St->Hp->Prop,(∃m,W 0 m σ H1) /\ ∀i m σ H,W i m σ H ->
  (J.stop i H/\D.nx σ H) \/ (J.go i H /\ ∃N:St->Hp->Prop,(∀σ' H',N σ' H' -> ∃m',m'<m/\W (i+1) m' σ' H') /\ ∀x H',J.yld i H x H'->g x σ H' fun σ2 H2=>tb { D with nx:=N,ct:=N,bk:=D.nx } σ2 H2)
def vZ(fp:List Addr)(h:Heap):List (Addr×Obj):=fp.filterMap fun b=>(h.get? b).map fun o=>(b,o)
theorem nW{fp:List Addr}{h:Heap}{b:Addr}{o:Obj}(hb:b∈fp)(e:h.get? b=some o):(b,o)∈vZ fp h:=List.mem_filterMap.mpr ⟨b,hb,by rw[e];rfl⟩
theorem FT{fp:List Addr}{h:Heap}{p:Addr×Obj}(hp:p∈vZ fp h):p.1∈fp/\h.get? p.1=some p.2:=by
  obtain⟨b,hb,e⟩:=List.mem_filterMap.mp hp
  cases q:h.get? b with
  |none=>rw[q] at e;cases e
  |some o=>
    rw[q] at e
    have e':(b,o)=p:=Option.some.inj e
    subst e'
    exact⟨hb,q⟩
theorem Inv.pinned{pj:List (Addr×Obj)}{σ:St}{H:Hp}{s:Shared}{fp:List Addr}(I:Inv X pj σ H s)(hf:∀b∈fp,xF X pj H b)(ho:∀b∈fp,∃o,s.heap.get? b=some o /\ ∀v,o.data ≠ .cell v):Inv X (pj++vZ fp s.heap) σ H s:=
  I.pins_of fun p hp=>(mem_append.mp hp).elim (fun z=>I.pin p (mem_append_right _ z)) fun z=>by
    obtain⟨hb,e⟩:=FT z
    obtain⟨f0,f1,f2,_⟩:=hf p.1 hb
    obtain⟨o,e',d⟩:=ho p.1 hb
    rw[e] at e';cases e'
    exact⟨e,f0,f1,f2,d⟩
theorem Inv.unpinned{pj pl:List (Addr×Obj)}{σ:St}{H:Hp}{s:Shared}(I:Inv X (pj++pl) σ H s):Inv X pj σ H s:=I.pins_of fun p hp=>I.pin p (mem_append_right _ (mem_append_left _ hp))
theorem Mh{iter:Expr}{body:List Stmt}{wi:TI}{g:TG}{tb:TS}{pos:Pos}(hp:PassesOwn (model X.prog X.w) X.A X.env X.xe)(hc:X.N=X.N)(hi:PI X tg iter wi)(hg:PG X tg g)(hb:Ah X body tb)
    (hs:∀x,foldedSetIterable iter X.env x=pure x:=by intro _;rfl):PS X (.For tg iter body [] pos) (RC wi g tb):=by
  intro pj s σ H D I h
  refine wpAny_For (thn (hi pj s σ H _ I h) fun v s1 h1=>thn h1 fun itv s2 h2=>?_) hs
  obtain⟨it,fp,tn,J,H2,e,I2,T,st2,f2,W,⟨m0,w0⟩,turn⟩:=h2
  subst e
  have stat:∀{H':Hp},(∀b∈fp,H' b=none) -> ∀b∈fp,xF X pj H' b:=fun hn b hb=>⟨hn b hb,(f2 b hb).2⟩
  refine codeAny_forLoop_any (fun n s'=>∃i σ' H',Inv X pj σ' H' s'/\tn i s'.heap/\(∀b∈fp,H' b=none)/\W i n σ' H') ?_ m0 ⟨0,σ,H2,I2,st2,fun b hb=>(f2 b hb).1,w0⟩
  rintro n s3 ⟨i,σ3,H3,I3,st3,fr3,w3⟩
  rcases turn i n σ3 H3 w3 with⟨stop,qn⟩ | ⟨go,N,hN,step⟩
  . refine wpAny_passesOwn hp (thn (T.done X rfl rfl rfl hc i pj s3 σ3 H3 X.xe I3 (stat fr3) st3 stop) fun r s4 ⟨hr,I4⟩=>?_)
    subst hr
    exact wpAny_execs_nil ⟨σ3,H3,I4,qn⟩
  . refine wpAny_passesOwn hp (thn (T.item X rfl rfl rfl hc i pj s3 σ3 H3 X.xe I3 (stat fr3) st3 go) fun r s4 ⟨u,hr,h4⟩=>?_)
    subst hr
    refine wpAny_passesOwn hp (thn h4 fun _ s5 ⟨x,H5,I5,r5,y5,st5,fr5⟩=>?_)
    have I5':=I5.pinned (stat fr5) (T.obj _ _ st5)
    refine wpAny_passesOwn hp (thn (hg _ s5 σ3 H5 x u _ I5' r5 (step x H5 y5)) fun _ s6 ⟨σ6,H6,I6,q6⟩=>?_)
    refine wpAny_passesOwn hp (thn (hb _ s6 σ6 H6 _ I6 q6) fun f s7 q7=>?_)
    have again:∀{σ7:St} {H7:Hp},Inv X (pj++vZ fp s5.heap) σ7 H7 s7->N σ7 H7 -> ∃m,m<n /\ ∃i σ' H',Inv X pj σ' H' s7/\tn i s7.heap/\(∀b∈fp,H' b=none)/\W i m σ' H':=fun {σ7 H7} I7 n7=>by
      obtain⟨m',hm,w7⟩:=hN σ7 H7 n7
      refine⟨m',hm,i+1,σ7,H7,I7.unpinned,T.keep _ _ _ st5 fun b hb o e=>(I7.pin (b,o) (mem_append_right _ (mem_append_right _ (nW hb e)))).1,fun b hb=>?_,w7⟩
      obtain⟨o,e,d⟩:=T.obj _ _ st5 b hb
      exact(I7.pin (b,o) (mem_append_right _ (mem_append_right _ (nW hb e)))).2.1
    cases f with
    |next=>obtain⟨σ7,H7,I7,n7⟩:=q7;exact again I7 n7
    |cont=>obtain⟨σ7,H7,I7,n7⟩:=q7;exact again I7 n7
    |brk=>obtain⟨σ7,H7,I7,q7⟩:=q7;exact⟨σ7,H7,I7.unpinned,q7⟩
    |ret v=>obtain⟨x7,σ7,H7,I7,r7,q7⟩:=q7;exact⟨x7,σ7,H7,I7.unpinned,r7,q7⟩
end
abbrev R2:=V->V->Hp->VK->Prop
def n0(X:Cx)(f:Value->Value->Sem Value)(r:R2):Prop:=
  ∀(pj:List (Addr×Obj)) (s:Shared) (σ:St) (H:Hp) (x y:V) (v u:Value) (Q:VK),Inv X pj σ H s->d7 x v->d7 y u->r x y H Q ->
    wpAny (model X.prog X.w) X.A (f v u) (EP X pj σ Q) X.xe s
def Rz(X:Cx)(f:Value->Sem Value)(r:V->Hp->VK->Prop):Prop:=
  ∀(pj:List (Addr×Obj)) (s:Shared) (σ:St) (H:Hp) (x:V) (v:Value) (Q:VK),Inv X pj σ H s->d7 x v->r x H Q ->
    wpAny (model X.prog X.w) X.A (f v) (EP X pj σ Q) X.xe s
def gO(X:Cx)(f:Value)(r:List V->Hp->VK->Prop):Prop:=
  ∀(pj:List (Addr×Obj)) (s:Shared) (σ:St) (H:Hp) (xs:List V) (us:List Value) (Q:VK),Inv X pj σ H s->bV xs us->r xs H Q ->
    wpAny (model X.prog X.w) X.A (call f us) (EP X pj σ Q) X.xe s
def S0(X:Cx)(r:V->Hp->(Bool->Hp->Prop)->Prop):Prop:=
  ∀(pj:List (Addr×Obj)) (s:Shared) (σ:St) (H:Hp) (x:V) (v:Value) (Q:Bool->Hp->Prop),Inv X pj σ H s->d7 x v->r x H Q ->
    wpAny (model X.prog X.w) X.A (truthy v) (TP X pj σ Q) X.xe s
def OF(r:R2)(ta tb:TE):TE:=fun σ H Q=>ta σ H fun x H1=>tb σ H1 fun y H2=>r x y H2 Q
def SJ(r:V->Hp->VK->Prop)(ta:TE):TE:=fun σ H Q=>ta σ H fun x H1=>r x H1 Q
def rI(C:Int->Int->Prop)(g:Int->Int->V):R2:=fun x y H Q=>∃i j,x=.int i/\y=.int j/\C i j/\Q (g i j) H
def Df(g:Int->Int->V):R2:=fun x y H Q=>∃i j,x=.int i/\y=.int j/\Q (g i j) H
def rU(g:Int->V):V->Hp->VK->Prop:=fun x H Q=>∃i,x=.int i/\Q (g i) H
section
variable {X:Cx} {a b c:Expr} {ta tb tc:TE} {pos:Pos}
theorem Ny(ha:PE X a ta)(hb:PE X b tb){pj:List (Addr×Obj)}{s:Shared}{σ:St}{H:Hp}{R:V->V->Hp->Prop}(I:Inv X pj σ H s)
    (h:ta σ H fun x H1=>tb σ H1 fun y H2=>R x y H2) {Q:Value->Shared->Prop} {f:Value->Value->Sem Value}
    (hf:∀v u s2 x y H2,Inv X pj σ H2 s2->d7 x v->d7 y u->R x y H2->wpAny (model X.prog X.w) X.A (f v u) Q X.xe s2):
    wpAny (model X.prog X.w) X.A (eval a X.env) (fun v s₁=>wpAny (model X.prog X.w) X.A (eval b X.env) (fun u s₂=>wpAny (model X.prog X.w) X.A (f v u) Q X.xe s₂) X.xe s₁) X.xe s:=by
  refine thn (ha pj s σ H _ I h) fun v s1 ⟨x,H1,I1,r1,q1⟩=>?_
  refine thn (hb pj s1 σ H1 _ I1 q1) fun u s2 ⟨y,H2,I2,r2,q2⟩=>?_
  exact hf v u s2 x y H2 I2 r1 r2 q2
theorem Ox{op:Operator}{r:R2}(ho:n0 X (binaryOp op) r)(ha:PE X a ta)(hb:PE X b tb):PE X (.BinOp a op b pos) (OF r ta tb):=by
  intro pj s σ H Q I h
  exact wpAny_BinOp (Ny ha hb I h fun v u s2 x y H2 I2 rx ry q=>ho pj s2 σ H2 x y v u Q I2 rx ry q)
theorem Ov{op:UnaryOp}{r:V->Hp->VK->Prop}(ho:Rz X (unaryOp op) r)(ha:PE X a ta):PE X (.UnaryOp op a pos) (SJ r ta):=by
  intro pj s σ H Q I h
  exact UnaryOp_ (thn (ha pj s σ H _ I h) fun v s1 ⟨x,H1,I1,r1,q1⟩=>ho pj s1 σ H1 x v Q I1 r1 q1)
theorem RX{f:Value->Value->Sem Value}{C:Int->Int->Prop}{g:Int->Int->Int}
    (rule:∀(i j:Int) (t u:Tok) (s:Shared) (Q:Value->Shared->Prop) (E:Value->Shared->Prop),C i j->Q (.int (g i j) s.toks) { s with toks:=s.toks+1 }->wpAny (model X.prog X.w) X.A (f (.int i t) (.int j u)) Q E s):
    n0 X f (rI C fun i j=>.int (g i j)):=by
  intro pj s σ H x y v u Q I rx ry h
  obtain⟨i,j,rfl,rfl,hc,q⟩:=h
  obtain⟨t,rfl⟩:=rx
  obtain⟨t',rfl⟩:=ry
  exact rule i j t t' s _ _ hc ⟨.int (g i j),H,I.tok _,⟨_,rfl⟩,q⟩
theorem PQ{f:Value->Value->Sem Value}{g:Int->Int->Int}
    (rule:∀(i j:Int) (t u:Tok) (s:Shared) (Q:Value->Shared->Prop) (E:Value->Shared->Prop),Q (.int (g i j) s.toks) { s with toks:=s.toks+1 }->wpAny (model X.prog X.w) X.A (f (.int i t) (.int j u)) Q E s):
    n0 X f (Df fun i j=>.int (g i j)):=by
  intro pj s σ H x y v u Q I rx ry h
  obtain⟨i,j,rfl,rfl,q⟩:=h
  obtain⟨t,rfl⟩:=rx
  obtain⟨t',rfl⟩:=ry
  exact rule i j t t' s _ _ ⟨.int (g i j),H,I.tok _,⟨_,rfl⟩,q⟩
theorem NA{f:Value->Value->Sem Value}{g:Int->Int->Bool}
    (rule:∀(i j:Int) (t u:Tok) (s:Shared) (Q:Value->Shared->Prop) (E:Value->Shared->Prop),Q (.bool (g i j)) s->wpAny (model X.prog X.w) X.A (f (.int i t) (.int j u)) Q E s):
    n0 X f (Df fun i j=>.bl (g i j)):=by
  intro pj s σ H x y v u Q I rx ry h
  obtain⟨i,j,rfl,rfl,q⟩:=h
  obtain⟨t,rfl⟩:=rx
  obtain⟨t',rfl⟩:=ry
  exact rule i j t t' s _ _ ⟨.bl (g i j),H,I,rfl,q⟩
def LX(i j:Int):Prop:=0<=j/\j<=1000000/\i.natAbs<2 ^ 64
def O5(i j:Int):Prop:=(-(2 ^ 64)<i/\i<2 ^ 64) \/ (-(2 ^ 64)<j/\j<2 ^ 64)
theorem O5.ok{i j:Int}(h:O5 i j):IntMulOk i j:=by
  rcases h with⟨h1,h2⟩ | ⟨h1,h2⟩
  . exact .of_left (intBits_le_64 h1 h2)
  . exact .of_right (intBits_le_64 h1 h2)
theorem N9:n0 X (binaryOp .Add) (Df fun i j=>.int (i+j)):=PQ fun _ _ _ _ _ _ _ q=>add_int q
theorem N0:n0 X (binaryOp .Sub) (Df fun i j=>.int (i-j)):=PQ fun _ _ _ _ _ _ _ q=>sub_int q
theorem N3:n0 X (binaryOp .Mod) (rI (fun _ j=>0<j) fun i j=>.int (i % j)):=RX fun i j _ _ _ _ _ hc q=>by
  have h1:(0:Int)<j:=hc
  exact mod_int' ⋯ (by rw[Int.fmod_eq_emod_of_nonneg i ⋯];exact q)
theorem SI{f:Value->Sem Value}{g:Int->Int}
    (rule:∀(i:Int) (t:Tok) (s:Shared) (Q:Value->Shared->Prop) (E:Value->Shared->Prop),Q (.int (g i) s.toks) { s with toks:=s.toks+1 }->wpAny (model X.prog X.w) X.A (f (.int i t)) Q E s):
    Rz X f (rU fun i=>.int (g i)):=by
  intro pj s σ H x v Q I rx h
  obtain⟨i,rfl,q⟩:=h
  obtain⟨t,rfl⟩:=rx
  exact rule i t s _ _ ⟨.int (g i),H,I.tok _,⟨_,rfl⟩,q⟩
theorem MO:Rz X (unaryOp .USub) (rU fun i=>.int (-i)):=SI fun _ _ _ _ _ q=>neg_int q
theorem J6{pj:List (Addr×Obj)}{σ:St}{H:Hp}{s:Shared}{Q:VK}{k k':Bool}(I:Inv X pj σ H s)(q:Q (.bl k) H)(e:k=k'):EP X pj σ Q (.bool k') s:=by
  subst e
  exact⟨.bl k,H,I,rfl,q⟩
theorem Be:n0 X (compareOp .Lt) (Df fun i j=>.bl (decide (i<j))):=NA fun _ _ _ _ _ _ _ q=>lt_int q
theorem Ht:n0 X (compareOp .LtE) (Df fun i j=>.bl (decide (i<=j))):=NA fun _ _ _ _ _ _ _ q=>le_int q
theorem PP:n0 X (compareOp .Gt) (Df fun i j=>.bl (decide (j<i))):=NA fun _ _ _ _ _ _ _ q=>gt_int q
theorem N4:n0 X (compareOp .Is) (fun x y H Q=>y=.non/\Q (.bl (decide (x=.non))) H):=by
  intro pj s σ H x y v u Q I rx ry h
  obtain⟨rfl,q⟩:=h
  cases ry
  refine is_none_gen (J6 I q ?_)
  cases x<;>first
    | (cases rx;rfl)
    | (obtain⟨t,rfl⟩:=rx;rfl)
theorem KS:n0 X (compareOp .IsNot) (fun x y H Q=>y=.non/\Q (.bl (!decide (x=.non))) H):=by
  intro pj s σ H x y v u Q I rx ry h
  obtain⟨rfl,q⟩:=h
  cases ry
  refine isnot_none_gen (J6 I q ?_)
  cases x<;>first
    | (cases rx;rfl)
    | (obtain⟨t,rfl⟩:=rx;rfl)
theorem n0.or{f:Value->Value->Sem Value}{r r':R2}(h:n0 X f r)(h':n0 X f r'):n0 X f (fun x y H Q=>r x y H Q \/ r' x y H Q):=by
  intro pj s σ H x y v u Q I rx ry q
  rcases q with q | q
  . exact h pj s σ H x y v u Q I rx ry q
  . exact h' pj s σ H x y v u Q I rx ry q
theorem nomark(b:Expr){op:CmpOp}(h:op ≠ .In:=by decide)(h2:op ≠ .NotIn:=by decide):behindInMarks op b=false:=by
  have e1:(op==CmpOp.In)=false:=by cases op<;>first | rfl | exact absurd rfl h
  have e2:(op==CmpOp.NotIn)=false:=by cases op<;>first | rfl | exact absurd rfl h2
  cases b<;>simp[behindInMarks,e1,e2]
theorem KJ{op:CmpOp}{r:R2}(ho:n0 X (compareOp op) r)(ha:PE X a ta)(hb:PE X b tb)(hm:behindInMarks op b=false):PE X (.Compare a [op] [b] pos) (OF r ta tb):=by
  intro pj s σ H Q I h
  exact wpAny_Compare1 (Ny ha hb I h fun v u s2 x y H2 I2 rx ry q=>ho pj s2 σ H2 x y v u Q I2 rx ry q) hm
def Lb(t:TE):TT:=fun σ H Q=>t σ H fun x H'=>∃k,x=.bl k/\Q k H'
theorem K0{op:CmpOp}{r:R2}(ho:n0 X (compareOp op) r)(ha:PE X a ta)(hb:PE X b tb)(hm:behindInMarks op b=false):PT X (.Compare a [op] [b] pos) (Lb (OF r ta tb)):=by
  intro pj s σ H Q I h
  refine wpAny_isTrue_Compare1 (thn (ha pj s σ H _ I h) fun v s1 ⟨x,H1,I1,r1,q1⟩=>thn (hb pj s1 σ H1 _ I1 q1) fun u s2 ⟨y,H2,I2,r2,q2⟩=>
    thn (ho pj s2 σ H2 x y v u _ I2 r1 r2 q2) fun c s3 ⟨z,H3,I3,r3,k,e,q3⟩=>?_) hm
  subst e
  cases r3
  exact wpAny_truthy_bool ⟨H3,I3,q3⟩
def Cg(r r':R2)(ta tb tc:TE):TE:=fun σ H Q=>ta σ H fun x H1=>tb σ H1 fun y H2=>r x y H2 fun z H3=>∃k,z=.bl k /\
  (if k=true then tc σ H3 fun w' H4=>r' y w' H4 Q else Q (.bl false) H3)
theorem HI{op op':CmpOp}{r r':R2}(ho:n0 X (compareOp op) r)(ho':n0 X (compareOp op') r')(ha:PE X a ta)(hb:PE X b tb)(hc:PE X c tc)
    (hm:lastMarks [op,op'] [b,c]=false:=by with_unfolding_all rfl):PE X (.Compare a [op,op'] [b,c] pos) (Cg r r' ta tb tc):=by
  intro pj s σ H Q I h
  refine Compare_chain (thn (ha pj s σ H _ I h) fun v s1 ⟨x,H1,I1,r1,q1⟩=>chain_link (thn (hb pj s1 σ H1 _ I1 q1) fun u s2 ⟨y,H2,I2,r2,q2⟩=>
    thn (ho pj s2 σ H2 x y v u _ I2 r1 r2 q2) fun d s3 ⟨z,H3,I3,r3,k,e,q3⟩=>?_)) hm
  subst e
  cases r3
  refine wpAny_truthy_bool ?_
  cases k with
  |false=>exact ite_ff ⟨.bl false,H3,I3,rfl,q3⟩
  |true=>exact ite_tt (chain_last (thn (hc pj s3 σ H3 _ I3 q3) fun w' s4 ⟨z',H4,I4,r4,q4⟩=>ho' pj s4 σ H4 y z' u w' Q I4 r2 r4 q4))
theorem Gw{op op':CmpOp}{r r':R2}(ho:n0 X (compareOp op) r)(ho':n0 X (compareOp op') r')(ha:PE X a ta)(hb:PE X b tb)(hc:PE X c tc)
    (hm:lastMarks [op,op'] [b,c]=false:=by with_unfolding_all rfl):PT X (.Compare a [op,op'] [b,c] pos) (Lb (Cg r r' ta tb tc)):=by
  intro pj s σ H Q I h
  refine isTrue_chain (thn (ha pj s σ H _ I h) fun v s1 ⟨x,H1,I1,r1,q1⟩=>test_link (thn (hb pj s1 σ H1 _ I1 q1) fun u s2 ⟨y,H2,I2,r2,q2⟩=>
    thn (ho pj s2 σ H2 x y v u _ I2 r1 r2 q2) fun d s3 ⟨z,H3,I3,r3,k,e,q3⟩=>?_)) hm
  subst e
  cases r3
  refine wpAny_truthy_bool ?_
  cases k with
  |false=>
    obtain⟨k',e',q'⟩:=q3
    cases e'
    exact ite_ff ⟨H3,I3,q'⟩
  |true=>
    refine ite_tt (test_last (thn (hc pj s3 σ H3 _ I3 q3) fun w' s4 ⟨z',H4,I4,r4,q4⟩=>thn (ho' pj s4 σ H4 y z' u w' _ I4 r2 r4 q4) fun d' s5 ⟨z2,H5,I5,r5,k2,e2,q5⟩=>?_))
    subst e2
    cases r5
    exact wpAny_truthy_bool ⟨H5,I5,q5⟩
def QN(K:W.Frag)(x:V)(H:Hp)(k:Bool):Prop:=
  match x with
  | .non=>k=false
  | .bl b=>k=b
  | .int i=>k=(i != 0)
  | .str y=>y.length<=sizeLine/\k=((y.length:Int) != 0)
  | .byt y=>y.size<=sizeLine/\k=((y.size:Int) != 0)
  | .ref p=>(∃xs,gM K H p xs/\k = !xs.isEmpty) \/ (∃xs,mY K H p xs/\k = !xs.isEmpty) \/ ∃kvs,H p=some (.dK kvs)/\k = !kvs.isEmpty
  |_=>False
theorem DI{κ:Type}{kvs:List (κ×V)}{vs:List (κ×Value)}(r:KV kvs vs):(!vs.isEmpty) = !kvs.isEmpty:=by
  cases r<;>rfl
theorem wN{xs:List V}{its:List Value}(r:bV xs its):(!its.toArray.isEmpty) = !xs.isEmpty:=by
  cases r<;>simp
theorem tO:(sizeLine:Nat)<2 ^ 63:=by rw[sizeLine_eq];decide
theorem MP:S0 X (fun x H Q=>∃k,QN X.K x H k/\Q k H):=by
  intro pj s σ H x v Q I rx h
  obtain⟨k,e,q⟩:=h
  have hl:=tO
  have hs:sizeLine=16777216:=sizeLine_eq
  cases x with
  |non=>
    cases rx
    have e':k=false:=e
    subst e'
    exact truthy_none ⟨H,I,q⟩
  |bl b=>
    cases rx
    have e':k=b:=e
    subst e'
    exact wpAny_truthy_bool ⟨H,I,q⟩
  |int i=>
    obtain⟨t,rfl⟩:=rx
    have e':k=(i != 0):=e
    subst e'
    exact PySem.P.truthy_int ⟨H,I,q⟩
  |str y=>
    obtain⟨t,rfl⟩:=rx
    obtain⟨hy,e'⟩:y.length<=sizeLine/\k=((y.length:Int) != 0):=e
    subst e'
    exact PySem.P.truthy_str ⋯ ⟨H,I.tok _,q⟩
  |byt y=>
    obtain⟨t,rfl⟩:=rx
    obtain⟨hy,e'⟩:y.size<=sizeLine/\k=((y.size:Int) != 0):=e
    subst e'
    exact W.truthy_bytes ⋯ ⟨H,I.tok _,q⟩
  |ref p=>
    cases rx
    have e':(∃xs,gM X.K H p xs/\k = !xs.isEmpty) \/ (∃xs,mY X.K H p xs/\k = !xs.isEmpty) \/ ∃kvs,H p=some (.dK kvs)/\k = !kvs.isEmpty:=e
    rcases e' with⟨xs,hx,e'⟩ | ⟨xs,hx,e'⟩ | ⟨kvs,hx,e'⟩
    . subst e'
      obtain⟨its,r,pl,hz⟩:=I.list hx
      have hlen:=r.length
      exact wpAny_truthy_list pl.isList (by simp only[size_toArray];ac_rfl) ⟨H,I.tok _,by rw[wN r];exact q⟩
    . subst e'
      obtain⟨its,r,pl,hz⟩:=I.tuple hx
      have hlen:=r.length
      exact truthy_tuple pl (by simp only[size_toArray];ac_rfl) ⟨H,I.tok _,by rw[wN r];exact q⟩
    . subst e'
      obtain⟨hz,hS,vs,r,m⟩:kvs.length<=sizeLine/\(p==sysModules)=false /\ ∃vs,KV kvs vs/\s.heap.DictOf (fW X.prog X.w) p vs:=I.hok p _ hx
      have hlen:kvs.length=vs.length:=Paired.length r
      exact wpAny_truthy_dict hS m ⋯ ⟨H,I.tok _,by rw[DI r];exact q⟩
  |_=>exact(show False from e).elim
theorem Gv(ha:PE X a ta)(he:∀whole,isTrue a X.env whole=(do let v <- whole;standAt a.pos;holding [v] (truthy v))):
    PT X a (fun σ H Q=>ta σ H fun x H'=>∃k,QN X.K x H' k/\Q k H'):=by
  intro pj s σ H Q I h
  exact isTrue_plain (thn (ha pj s σ H _ I h) fun v s1 ⟨x,H1,I1,r1,q1⟩=>MP pj s1 σ H1 x v Q I1 r1 q1) (he _)
theorem D1:n0 X (binaryOp .Add) (fun x y H Q=>∃i j,x=.str i/\y=.str j/\i.length+j.length<=sizeLine/\Q (.str (i++j)) H):=by
  intro pj s σ H x y v u Q I rx ry h
  obtain⟨i,j,rfl,rfl,hz,q⟩:=h
  obtain⟨t,rfl⟩:=rx
  obtain⟨t',rfl⟩:=ry
  exact add_str (fun t' tk=>⟨.str (i++j),H,I.tok _,⟨_,rfl⟩,q⟩) hz
theorem lJ{x:V}{us:List Value}(r:bV [x] us):∃u,us=[u]/\d7 x u:=by
  cases r with
  |cons r1 r2=>cases r2;exact⟨_,rfl,r1⟩
theorem GL{x y:V}{us:List Value}(r:bV [x,y] us):∃u w',us=[u,w']/\d7 x u/\d7 y w':=by
  cases r with
  |cons r1 r2=>
    cases r2 with
    |cons r3 r4=>cases r4;exact⟨_,_,rfl,r1,r3⟩
theorem JM:gO X (.builtin "abs") (fun xs H Q=>∃i,xs=[.int i]/\Q (.int (if i<0 then -i else i)) H):=by
  intro pj s σ H xs us Q I r h
  obtain⟨i,rfl,q⟩:=h
  obtain⟨u,rfl,t,rfl⟩:=lJ r
  exact call_abs_int fun u tk=>⟨.int (if i<0 then -i else i),H,I.tok _,⟨_,rfl⟩,q⟩
theorem GB(hc:X.calm=true):gO X (.builtin "min") (fun xs H Q=>∃i j,xs=[.int i,.int j]/\Q (.int (if j<i then j else i)) H):=by
  intro pj s σ H xs us Q I r h
  obtain⟨i,j,rfl,q⟩:=h
  obtain⟨u,w',rfl,⟨t,rfl⟩,⟨t',rfl⟩⟩:=GL r
  refine min_two_ints (I.ok.hd hc) fun h' tk k=>⟨_,H,I.kept k,?_,q⟩
  by_cases hj:j<i
  . rw[if_pos hj,if_pos hj];exact⟨_,rfl⟩
  . rw[if_neg hj,if_neg hj];exact⟨_,rfl⟩
end
structure ObjM(h:Heap)(x dx C:Addr)(mA:Str->Option Value):Prop where
  obj:h.get? x=some (W.instObj C dx)
  ns:h.Ns1 dx mA
  ne:dx≠x
theorem Fa{h:Heap}{dx:Addr}{mA:Str->Option Value}(n:h.Ns1 dx mA):∃od,h.get? dx=some od /\ ∀name,W.lookIn name od=some (mA name):=by
  obtain⟨o,es,ep,ho,hd,hk,_,hm⟩:=n
  refine⟨o,ho,fun name=>?_⟩
  have e:=hm name
  unfold nsFind findBy at e
  rw[<- Array.find?_toList] at e
  unfold W.lookIn
  rw[hd]
  dsimp only
  split
  . rename_i y q
    rw[q] at e
    exact congrArg some e
  . rename_i q
    rw[q] at e
    have a:es.toList.any (·.refKey)=false:=by
      rw[List.any_eq_false]
      intro y hy
      obtain⟨z,t,hkey⟩:=hk y (Array.mem_toList_iff.mp hy)
      simp[DictEntry.refKey,hkey]
    have a':¬es.toList.any (·.refKey)=true:=by rw[a];exact Bool.false_ne_true
    rw[if_neg a']
    exact congrArg some e
theorem ObjM.look{h:Heap}{x dx C:Addr}{mA:Str->Option Value}(I:ObjM h x dx C mA):∃od,W.InstAt h x (W.instObj C dx) C (some od) /\ ∀name,W.lookIn name od=some (mA name):=
  let ⟨od,ho,hl⟩:=Fa I.ns
  ⟨od,⟨I.obj,rfl,rfl,ho⟩,hl⟩
section
variable {prog:Program} {w:World} {A:Around} {E:Value->Shared->Prop} {s:Shared} {K:W.Frag} {x dx C f:Addr} {mA:Str->Option Value} {name:Str} {v:Value}
theorem LC{expr:Bool}{Q:Value->Shared->Prop}(X:K.In s.heap)(I:ObjM s.heap x dx C mA)(hg:W.plainGet K C name=true)(hh:W.hasDictIn K C=true)
    (ha:W.findIn K (.ref C) name=some none) (hv:mA name=some v) (hv':W.handedIn v=true) (h:Q v { s with toks:=s.toks+1 }):
    wpAny (model prog w) A (getAttr (.ref x) name expr) Q E s:=by
  obtain⟨od,J,hl⟩:=I.look
  exact W.get_value X J (W.plainGet_of hg).1 (W.findObj_own hh ha rfl (by rw[hl,hv])) hv' h
theorem J5{pl:Sem Bool}{Q:Value×List Value->Shared->Prop}(X:K.In s.heap)(I:ObjM s.heap x dx C mA)(hg:W.plainGet K C name=true)
    (hf:W.findIn K (.ref C) name=some (some (.ref f))) (ht:W.isFn K (.ref f)=true) (hv:mA name=none) (h:Q (.ref f,[.ref x]) s):
    wpAny (model prog w) A (getMethod (.ref x) name pl) Q E s:=by
  obtain⟨od,J,hl⟩:=I.look
  exact W.method_fn X J (W.plainGet_of hg).1 (W.plainGet_of hg).2 hf (beq_iff_eq.mp ht) (by show (W.lookIn name od).map (·.isSome)=some false;rw[hl,hv];rfl) h
theorem Jl{ns:List Str}{Q:Unit->Shared->Prop}(X:K.In s.heap)(I:ObjM s.heap x dx C mA)
    (hs:W.findIn K (.ref C) "__setattr__" = some (some (.builtin "object.__setattr__"))) (hp:W.plainOver K C=true) (ht:W.takerIn K C name=some none) (hh:W.hasDictIn K C=true)
    (hw:PySem.Within mA ns) (hsz:ns.length<=sizeLine)
    (h:∀h',ObjM h' x dx C (fun y=>if y=name then some v else mA y)->Heap.SameBut dx s.heap h'->Q () { s with heap:=h',toks:=s.toks+2 }):
    wpAny (model prog w) A (setAttr (.ref x) name v) Q E s:=by
  obtain⟨od,J,hl⟩:=I.look
  refine W.set_plain X J hs (W.osa_open (s:={ s with toks:=s.toks+1 }) (r:=none) X J hp ht fun b=>?_)
  obtain⟨cd,hc,hd'⟩:=W.any_some hh
  have hx:s.heap.get? x=some ⟨.ref C,some dx,.plain,#[]⟩:=I.obj
  refine wpAny_bind (wpAny_pure (wpAny_bind (wpAny_bind (wpAny_loadPart hx (wpAny_bind (W.Looks.here (s:={ s with toks:=s.toks+1 }) (W.looks_clsIn X hc) ?_))))))
  rw[hd']
  refine wpAny_pure (a:=some dx) (wpAny_bind (wpAny_pure (wpAny_bind ?_)))
  refine wpAny_nsSet1 (s:={ s with toks:=s.toks+1 }) I.ns fun h' hn2 hs2=>?_
  obtain⟨oD,esD,epD,hoD,hdD,hcD⟩:=hn2.count (PySem.Within.cons name v hw)
  refine wpAny_bind (wpAny_lookBehind hoD (by rw[hdD];exact pastItsLine_dict (le_trans hcD (by rw[length_cons];ac_rfl))) ?_)
  exact wpAny_pure (h _ ⟨(hs2.2 _ (Ne.symm I.ne)).trans I.obj,hn2,I.ne⟩ hs2)
theorem IH{R:Result->Shared->Prop}{vs:List Value}{kw:List (Str×Value)}(X:K.In s.heap)(hm:W.makesIn K C=true)
    (hi:W.findIn K (.ref C) "__init__" = some (some (.ref f))) (hf:W.typeIn K (.ref f)=some (.type "function"))
    (h:codeAny (model prog w) (A.under (.builtin "type.__call__" ⟨.ref C::vs,kw⟩)) (.call (.ref f) ⟨.ref (s.heap.objs.size+1)::vs,kw⟩) (W.InitBack (s.heap.objs.size+1) R)
      { s with heap:=(s.heap.push W.emptyDict).push (W.instObj C s.heap.objs.size) }):
    codeAny (model prog w) A (.call (.ref C) ⟨vs,kw⟩) R s:=by
  obtain⟨hh,g,d,t,os⟩:=s
  exact W.make_core (W.makes_of X hm) (W.looks_findIn X hi) (fun self=>W.bind_fn X self hf) (.inl rfl) h
end
def nO(f:Str)(v:V):List (Str×V)->List (Str×V)
  | []=>[(f,v)]
  | (g,x)::r=>if g=f then (g,v)::r else (g,x)::nO f v r
theorem uD(f g:Str)(v:V):∀fs:List (Str×V),(nO f v fs).lookup g=if g=f then some v else fs.lookup g
  | []=>by
    show List.lookup g [(f,v)]=_
    by_cases h:g=f
    . have hb:(g==f)=true:=beq_iff_eq.mpr h
      simp only[List.lookup,hb,if_pos h]
    . have hb:(g==f)=false:=beq_eq_false_iff_ne.mpr h
      simp only[List.lookup,hb,if_neg h]
  | (k,x)::r=>by
    have ih:=uD f g v r
    rw[show nO f v ((k,x)::r)=(if k=f then (k,v)::r else (k,x)::nO f v r) from rfl]
    by_cases hk:k=f
    . rw[if_pos hk]
      by_cases h:g=k
      . have hb:(g==k)=true:=beq_iff_eq.mpr h
        simp only[List.lookup,hb,if_pos (h.trans hk)]
      . have hb:(g==k)=false:=beq_eq_false_iff_ne.mpr h
        simp only[List.lookup,hb,if_neg (fun e:g=f=>h (e.trans hk.symm))]
    . rw[if_neg hk]
      by_cases h:g=k
      . have hb:(g==k)=true:=beq_iff_eq.mpr h
        simp only[List.lookup,hb,if_neg (fun e:g=f=>hk (h.symm.trans e))]
      . have hb:(g==k)=false:=beq_eq_false_iff_ne.mpr h
        simp only[List.lookup,hb]
        exact ih
theorem tQ(f:Str)(v:V):∀fs:List (Str×V),f∈(nO f v fs).map (·.1) /\ ∀g,g∈fs.map (·.1)->g∈(nO f v fs).map (·.1)
  | []=>⟨by simp[nO],fun g h=>by simp at h⟩
  | (k,x)::r=>by
    obtain⟨i1,i2⟩:=tQ f v r
    rw[show nO f v ((k,x)::r)=(if k=f then (k,v)::r else (k,x)::nO f v r) from rfl]
    by_cases hk:k=f
    . rw[if_pos hk]
      subst hk
      exact⟨by simp,fun g h=>by simpa using h⟩
    . rw[if_neg hk]
      refine⟨?_,fun g h=>?_⟩
      . rw[map_cons]
        exact mem_cons_of_mem _ i1
      . rw[map_cons] at h ⊢
        rcases mem_cons.mp h with e | e
        . exact mem_cons.mpr (.inl e)
        . exact mem_cons_of_mem _ (i2 g e)
theorem uF(f:Str)(v:V):∀fs:List (Str×V),(nO f v fs).length<=fs.length+1
  | []=>by simp[nO]
  | (k,x)::r=>by
    have ih:=uF f v r
    rw[show nO f v ((k,x)::r)=(if k=f then (k,v)::r else (k,x)::nO f v r) from rfl]
    by_cases hk:k=f
    . rw[if_pos hk,length_cons,length_cons];ac_rfl
    . rw[if_neg hk,length_cons,length_cons];ac_rfl
theorem qF.some_of{v:V}{o:Option Value}(r:qF (some v) o):∃u,o=some u/\d7 v u:=by
  cases o with
  |none=>exact(show False from r).elim
  |some u=>exact⟨u,rfl,r⟩
theorem qF.none_of{o:Option Value}(r:qF none o):o=none:=by
  cases o with
  |none=>rfl
  |some u=>exact(show False from r).elim
theorem Fw{v:V}{u:Value}(r:d7 v u):W.handedIn u=true:=by
  cases v with
  |non=>cases (show u=Value.none from r);rfl
  |bl b=>cases (show u=Value.bool b from r);rfl
  |int i=>obtain⟨t,e⟩:=(show ∃t,u=Value.int i t from r);cases e;rfl
  |str x=>obtain⟨t,e⟩:=(show ∃t,u=Value.str x t from r);cases e;rfl
  |byt b=>obtain⟨t,e⟩:=(show ∃t,u=Value.bytes b t from r);cases e;rfl
  |flt b=>obtain⟨t,e⟩:=(show ∃t,u=Value.float b t from r);cases e;rfl
  |ref a=>cases (show u=Value.ref a from r);rfl
  |ty n=>cases (show u=Value.type n from r);rfl
section
variable {P:Program} {w:World} {H H':Hp} {h h':Heap} {a C dx:Addr} {fs fs':List (Str×V)}
theorem v7(hok:rY P w H h)(e:H a=some (.ins C dx fs)):∃mA,ObjM h a dx C mA/\(∀f,qF (fs.lookup f) (mA f))/\PySem.Within mA (fs.map (·.1))/\fs.length<=1000/\H dx=some (.own a):=by
  obtain⟨d,z,ne,ob,mA,n,r,q⟩:=(show dR P w H h a (.ins C dx fs) from hok a _ e)
  exact⟨mA,⟨ob,n,ne⟩,r,q,z,d⟩
end
structure Cls(K:W.Frag)(C:Addr):Prop where
  pg:W.plainGet K C Str.empty=true
  hd:W.hasDictIn K C=true
  po:W.plainOver K C=true
  sa:W.findIn K (.ref C) "__setattr__" = some (some (.builtin "object.__setattr__"))
theorem Cls.get{K:W.Frag}{C:Addr}(c:Cls K C)(f:Str):W.plainGet K C f=true:=c.pg
def kB(K:W.Frag)(C:Addr)(f:Str):Prop:=W.findIn K (.ref C) f=some none
theorem kB.taker{K:W.Frag}{C:Addr}{f:Str}(n:kB K C f):W.takerIn K C f=some none:=by
  unfold W.takerIn
  rw[show W.findIn K (.ref C) f=some none from n]
  rfl
structure Meth(K:W.Frag)(C:Addr)(m:Str)(f:Addr):Prop where
  at_:W.findIn K (.ref C) m=some (some (.ref f))
  fn:W.isFn K (.ref f)=true
  kp:W.keepIn K (.ref f)=true
section
variable {X:Cx} {pj:List (Addr×Obj)} {σ:St} {H:Hp} {s:Shared} {a C dx:Addr} {fs:List (Str×V)} {f:Str} {v:V} {A:Around} {E:Value->Shared->Prop}
theorem DJ{b:Bool}{Q:Value->Shared->Prop}(I:Inv X pj σ H s)(e:H a=some (.ins C dx fs))(c:Cls X.K C)(n:kB X.K C f)(l:fs.lookup f=some v)
    (h:∀u s',Inv X pj σ H s'->d7 v u->Q u s'):wpAny (model X.prog X.w) A (getAttr (.ref a) f b) Q E s:=by
  obtain⟨mA,O,r,_,_,_⟩:=v7 I.hok e
  obtain⟨u,hu,ru⟩:=qF.some_of (v:=v) (o:=mA f) (by rw[<- l];exact r f)
  exact LC I.kIn O (c.get f) c.hd n hu (Fw ru) (h u _ (I.tok _) ru)
theorem wQ{m:Str}{g:Addr}{pl:Sem Bool}{Q:Value×List Value->Shared->Prop}(I:Inv X pj σ H s)(e:H a=some (.ins C dx fs))(c:Cls X.K C)(k:Meth X.K C m g)(l:fs.lookup m=none)
    (h:Q (.ref g,[.ref a]) s):wpAny (model X.prog X.w) A (getMethod (.ref a) m pl) Q E s:=by
  obtain⟨mA,O,r,_,_,_⟩:=v7 I.hok e
  have hn:mA m=none:=qF.none_of (by rw[<- l];exact r m)
  exact J5 I.kIn O (c.get m) k.at_ k.fn hn h
theorem Ch{y:V}{u:Value}{Q:Unit->Shared->Prop}(I:Inv X pj σ H s)(e:H a=some (.ins C dx fs))(c:Cls X.K C)(n:kB X.K C f)(hl:fs.length<1000)(ry:d7 y u)
    (h:∀s',Inv X pj σ (upd H a (.ins C dx (nO f y fs))) s'->Q () s'):wpAny (model X.prog X.w) A (setAttr (.ref a) f u) Q E s:=by
  obtain⟨mA,O,r,wi,_,ho⟩:=v7 I.hok e
  have hz:(fs.map (·.1)).length<=sizeLine:=by rw[length_map,sizeLine_eq];ac_rfl
  refine Jl I.kIn O c.sa c.po n.taker c.hd wi hz fun h' O' sb=>h _ ?_
  have hd:∃o,h'.get? dx=some o:=let ⟨o,_,_,e',_⟩:=O'.ns;⟨o,e'⟩
  refine I.write (x:=a) (e:=dx) (by rw[e];exact True.intro) (.inr ho) (fun b q hb z=>(sb.2 b hb).trans z) hd ?_
  refine⟨by rw[bY O.ne];exact ho,?_,O.ne,O'.obj,_,O'.ns,fun g=>?_,fun g hg=>?_⟩
  . have:=uF f y fs;ac_rfl
  . show qF ((nO f y fs).lookup g) (if g=f then some u else mA g)
    rw[uD]
    by_cases q:g=f
    . rw[if_pos q,if_pos q];exact ry
    . rw[if_neg q,if_neg q];exact r g
  . by_cases q:g=f
    . rw[q];exact(tQ f y fs).1
    . refine(tQ f y fs).2 g (wi g fun z=>hg ?_)
      show (if g=f then some u else mA g)=none
      rw[if_neg q];exact z
theorem Inv.made(I:Inv X pj σ H s):Inv X pj σ (upd (upd H s.heap.objs.size (.own (s.heap.objs.size+1))) (s.heap.objs.size+1) (.ins C s.heap.objs.size []))
    { s with heap:=(s.heap.push W.emptyDict).push (W.instObj C s.heap.objs.size) }:=by
  have e1:(s.heap.push W.emptyDict).get? s.heap.objs.size=some W.emptyDict:=Heap.get?_push_size s.heap rfl
  have e2:((s.heap.push W.emptyDict).push (W.instObj C s.heap.objs.size)).get? (s.heap.objs.size+1)=some (W.instObj C s.heap.objs.size):=by
    have:=Heap.get?_push_size (s.heap.push W.emptyDict) (o:=W.instObj C s.heap.objs.size) rfl
    rwa[Heap.size_push] at this
  have e3:(s.heap.push W.emptyDict).Ns s.heap.objs.size (fun _=>none):=⟨W.emptyDict,#[],_,e1,rfl,(fun e he=>absurd he (by simp)),fun _=>rfl⟩
  have I1:=I.laid (a:=s.heap.objs.size) (o:=.own (s.heap.objs.size+1)) (h':=s.heap.push W.emptyDict) (t':=s.toks) (fun b u q=>Heap.get?_push_of_some _ q) (le_refl _) ⟨_,e1⟩
  refine I1.laid (a:=s.heap.objs.size+1) (o:=.ins C s.heap.objs.size []) (t':=s.toks) (fun b u q=>Heap.get?_push_of_some _ q) (le_of_eq (Heap.size_push _ _)) ?_
  have ne:s.heap.objs.size≠s.heap.objs.size+1:=ne_of_lt (Nat.lt_succ_self _)
  refine⟨by rw[bY ne,cT],zero_le _,ne,e2,fun _=>none,(Heap.Ns1.of_empty e3).at fun o q=>Heap.get?_push_of_some _ q,fun _=>True.intro,fun y hy=>absurd rfl hy⟩
theorem LU{prog:Program}{w:World}{env:Env}{e:Expr}{f:Str}{pos:Pos}{s:Shared}{Q:Value->Shared->Prop}(hb:attributeBase e f env (eval e env)=eval e env)
    (h:wpAny (model prog w) A (eval e env) (fun o s₁=>wpAny (model prog w) A (getAttr o f true) Q E s₁) E s):wpAny (model prog w) A (eval (.Attribute e f pos) env) Q E s:=
  Attribute_any_ h (by rw[arm_eval_Attribute,hb])
end
def RD(K:W.Frag)(ta:TE)(f:Str):TE:=fun σ H Q=>ta σ H fun x H1=>∃a C dx fs v,x=.ref a/\H1 a=some (.ins C dx fs)/\Cls K C/\kB K C f/\fs.lookup f=some v/\Q v H1
def RH(K:W.Frag)(ta tv:TE)(f:Str):TS:=fun D σ H=>tv σ H fun y H1=>ta σ H1 fun x H2=>∃a C dx fs,x=.ref a/\H2 a=some (.ins C dx fs)/\Cls K C/\kB K C f/\fs.length<1000 /\
  D.nx σ (upd H2 a (.ins C dx (nO f y fs)))
section
variable {X:Cx} {o e value:Expr} {f:Str} {pos pos' tpos:Pos} {ta tv:TE}
theorem Mu(he:PE X e ta)(hb:attributeBase e f X.env (eval e X.env)=eval e X.env):PE X (.Attribute e f pos) (RD X.K ta f):=by
  intro pj s σ H Q I h
  refine LU hb (thn (he pj s σ H _ I h) fun u s1 ⟨x,H1,I1,rx,a,C,dx,fs,v,ex,ea,c,n,l,q⟩=>?_)
  subst ex
  obtain rfl:u=Value.ref a:=rx
  exact DJ I1 ea c n l fun u' s2 I2 ru=>⟨v,H1,I2,ru,q⟩
theorem Mi(ha:PE X o ta)(hv:PE X value tv)(hs:swapsWith value (some (.Attribute o f pos')) pos.line X.env=pure false):PS X (.Assign [.Attribute o f pos'] value pos) (RH X.K ta tv f):=by
  intro pj s σ H D I h
  refine plainObj_wpAny_Assign_Attribute (thn (hv pj s σ H _ I h) fun u s1 ⟨y,H1,I1,ry,q⟩=>thn (ha pj s1 σ H1 _ I1 q) fun ov s2 ⟨x,H2,I2,rx,a,C,dx,fs,ex,ea,c,n,l,q2⟩=>?_) hs
  subst ex
  obtain rfl:ov=Value.ref a:=rx
  exact Ch I2 ea c n l ry fun s3 I3=>⟨σ,_,I3,q2⟩
end
section
variable {X:Cx} {pj:List (Addr×Obj)} {σ:St} {H:Hp} {s:Shared} {A:Around} {E:Value->Shared->Prop} {Q:Value->Shared->Prop} {c:Value} {b:Bool}
inductive TyOf(K:W.Frag)(H:Hp):V->Value->Prop where
  |non:TyOf K H .non (.type "NoneType")
  |bl (x:Bool):TyOf K H (.bl x) (.type "bool")
  |int (i:Int):TyOf K H (.int i) (.type "int")
  |str (x:Str):TyOf K H (.str x) (.type "str")
  |flt (x:UInt64):TyOf K H (.flt x) (.type "float")
  |lst {a:Addr} {xs:List V} (e:H a=some (.lst xs)):TyOf K H (.ref a) (.type "list")
  |frz {a:Addr} {o:Obj} {xs:List V} (e:H a=some (.frz o (.lst xs))):TyOf K H (.ref a) (.type "list")
  |tup {a:Addr} {xs:List V} (e:H a=some (.tup xs)):TyOf K H (.ref a) (.type "tuple")
  |dK {a:Addr} {kvs:List (cL×V)} (e:H a=some (.dK kvs)):TyOf K H (.ref a) (.type "dict")
  |dT {a:Addr} {ep:Nat} {kvs:List (List cL×V)} (e:H a=some (.dT ep kvs)):TyOf K H (.ref a) (.type "dict")
  |ins {a C dx:Addr} {fs:List (Str×V)} (e:H a=some (.ins C dx fs)) (cl:Cls K C) (ha:W.findIn K (.ref C) "__class__" = some (some (.builtin "object.__class__")))
      (hn:W.specialIn K (.builtin "object.__class__") "__get__" = some (some (.builtin "getset_descriptor.__get__"))) (htk:W.takesIn K (.builtin "object.__class__")=some true)
      (hm:W.mroIn K C (.type "object")=some true):TyOf K H (.ref a) (.ref C)
theorem Fq{x:V}{u t:Value}(I:Inv X pj σ H s)(rx:d7 x u)(ty:TyOf X.K H x t)(e:W.kitOne X.K t c=some b)(h:∀tk,Q (.bool b) { s with toks:=tk }):
    wpAny (model X.prog X.w) A (call (.builtin "isinstance") [u,c]) Q E s:=by
  cases ty with
  |non=>cases (show u=Value.none from rx);exact W.kia_one W.kitx_none I.kIn True.intro e (fun z=>nomatch z) h
  |bl y=>cases (show u=Value.bool y from rx);exact W.kia_one W.kitx_bool I.kIn True.intro e (fun z=>nomatch z) h
  |int i=>obtain⟨t,q⟩:=(show ∃t,u=Value.int i t from rx);cases q;exact W.kia_one W.kitx_int I.kIn True.intro e (fun z=>nomatch z) h
  |str y=>obtain⟨t,q⟩:=(show ∃t,u=Value.str y t from rx);cases q;exact W.kia_one W.kitx_str I.kIn True.intro e (fun z=>nomatch z) h
  |flt y=>obtain⟨t,q⟩:=(show ∃t,u=Value.float y t from rx);cases q;exact W.kia_one W.kitx_float I.kIn True.intro e (fun z=>nomatch z) h
  | @lst a xs ea=>
    cases (show u=Value.ref a from rx)
    obtain⟨_,_,n,_,h1⟩:=(show dR X.prog X.w H s.heap a (.lst xs) from I.hok a _ ea)
    exact W.kia_one W.kitx_list I.kIn ⟨_,h1,rfl⟩ e (fun z=>nomatch z) h
  | @frz a ob xs ea=>
    cases (show u=Value.ref a from rx)
    obtain⟨_,_,_,n,_,h1⟩:=(show dR X.prog X.w H s.heap a (.frz ob (.lst xs)) from I.hok a _ ea)
    exact W.kia_one W.kitx_list I.kIn ⟨_,h1,rfl⟩ e (fun z=>nomatch z) h
  | @tup a xs ea=>
    cases (show u=Value.ref a from rx)
    obtain⟨_,_,_,p⟩:=(show dR X.prog X.w H s.heap a (.tup xs) from I.hok a _ ea)
    obtain⟨o,h1,h2,_⟩:=p
    exact W.kia_one W.kitx_tuple I.kIn ⟨o,h1,h2⟩ e (fun z=>nomatch z) h
  | @dK a kvs ea=>
    cases (show u=Value.ref a from rx)
    obtain⟨_,_,vs,_,p⟩:=(show dR X.prog X.w H s.heap a (.dK kvs) from I.hok a _ ea)
    obtain⟨o,es,ep,h1,h2,_⟩:=p
    exact W.kia_one W.kitx_dict I.kIn ⟨o,h1,h2.1⟩ e (fun z=>nomatch z) h
  | @dT a ep kvs ea=>
    cases (show u=Value.ref a from rx)
    obtain⟨_,_,xs,_,o,es,h1,h2,_⟩:=(show dR X.prog X.w H s.heap a (.dT ep kvs) from I.hok a _ ea)
    exact W.kia_one W.kitx_dict I.kIn ⟨o,h1,h2.1⟩ e (fun z=>nomatch z) h
  | @ins a C dx fs ea cl ha hn htk hm=>
    cases (show u=Value.ref a from rx)
    obtain⟨mA,O,_⟩:=v7 I.hok ea
    obtain⟨od,J,_⟩:=O.look
    exact W.kia_one (W.kitx_own (cl.get _) cl.hd ha hn htk hm) I.kIn J e (fun z=>nomatch z) h
end
structure Room(k:Nat)(A:Around):Prop where
  hd:A.handled=none
  dp:A.depth+3*k+5<recursionLimit
  un:A.units+16*k+200<cLine
theorem Room.mono{j k:Nat}{A:Around}(r:Room k A)(h:j<=k):Room j A:=⟨r.hd,by have:=r.dp;ac_rfl,by have:=r.un;ac_rfl⟩
theorem Room.deeper{k:Nat}{A:Around}(r:Room (k+1) A)(env:Env):Room k (A.deeper env):=
  ⟨r.hd,by have:=r.dp;show A.depth+1+3*k+5<_;ac_rfl,by have:=r.un;show A.units+3+16*k+200<_;ac_rfl⟩
theorem DB{A:Around}{C:Addr}{us:List Value}{kw:List (Str×Value)}:(A.under (.builtin "type.__call__" ⟨.ref C::us,kw⟩)).depth=A.depth+1:=by
  first | rfl | simp[Around.under,Code.weight,Code.isCreation,Code.isGuard,Code.isCaller,Code.frames,Code.isFrame,guardIds]
theorem DA{A:Around}{C:Addr}{us:List Value}{kw:List (Str×Value)}:(A.under (.builtin "type.__call__" ⟨.ref C::us,kw⟩)).units=A.units+1:=by
  first | rfl | simp[Around.under,Code.cUnits,Code.frames,Code.isFrame]
theorem Room.make{k:Nat}{A:Around}(r:Room (k+1) A)(C:Addr)(us:List Value)(kw:List (Str×Value)):Room k (A.under (.builtin "type.__call__" ⟨.ref C::us,kw⟩)):=
  ⟨r.hd,by have:=r.dp;rw[DB];ac_rfl,by have:=r.un;rw[DA];ac_rfl⟩
theorem Room.depth{k:Nat}{A:Around}(r:Room k A):A.depth<recursionLimit:=by have:=r.dp;ac_rfl
theorem Room.units{k:Nat}{A:Around}(r:Room k A):A.units+64<cLine:=by have:=r.un;ac_rfl
def OH:TA:=fun _ H Q=>Q [] H
def OL(ta:TE)(tr:TA):TA:=fun σ H Q=>ta σ H fun x H1=>tr σ H1 fun xs H2=>Q (x::xs) H2
section
variable {X:Cx} {e:Expr} {es:List Expr} {te:TE} {t:TA} {pos:Pos}
theorem w4:PA X [] OH:=fun _ _ _ _ H Q I h=>Calls.spliced_nil ⟨[],H,I,.nil,h⟩
theorem pN(ha:PE X e te)(hr:PA X es t)(hs:starEach (e::es) X.env=(false,eval e X.env)::starEach es X.env:=by rfl):PA X (e::es) (OL te t):=by
  intro pos pj s σ H Q I h
  rw[hs]
  show wpAny _ _ (spliced ((false,eval e X.env)::backTo pos (starEach es X.env))) _ _ s
  refine Calls.spliced_cons (thn (ha pj s σ H _ I h) fun u s1 ⟨x,H1,I1,r1,q1⟩=>?_)
  exact thn (hr pos pj s1 σ H1 _ I1 q1) fun us s2 ⟨xs,H2,I2,r2,q2⟩=>⟨x::xs,H2,I2,.cons r1 r2,q2⟩
def R5(t:TA):TE:=fun σ H Q=>t σ H fun xs H1=>xs.length<=sizeLine /\ ∀p,H1 p=none->Q (.ref p) (upd H1 p (.tup xs))
def RA(t:TA):TE:=fun σ H Q=>t σ H fun xs H1=>xs.length<=sizeLine /\ ∀p,H1 p=none->Q (.ref p) (upd H1 p (.lst xs))
theorem Mo{x1}(h:PA X es t):PE X (.Tuple es x1 pos) (R5 t):=by
  intro pj s σ H Q I hq
  refine wpAny_Tuple_spliced (thn (h pos pj s σ H _ I hq) fun us s1 ⟨xs,H1,I1,r,z,q⟩=>⟨by rw[<- r.length];exact z,?_⟩)
  have hf:H1 s1.heap.objs.size=none:=I1.hok.fresh (le_refl _)
  refine⟨.ref s1.heap.objs.size,upd H1 s1.heap.objs.size (.tup xs),I1.laid (t':=s1.toks) (fun b u e=>Heap.get?_push_of_some _ e) (le_refl _) ?_,rfl,q _ hf⟩
  exact⟨z,us,r,⟨_,Heap.get?_push_size _ rfl,rfl,_,rfl⟩⟩
theorem Ms(h:PA X es t):PE X (.List es pos) (RA t):=by
  intro pj s σ H Q I hq
  refine wpAny_List_spliced (thn (h pos pj s σ H _ I hq) fun us s1 ⟨xs,H1,I1,r,z,q⟩=>⟨by rw[<- r.length];exact z,?_⟩)
  have hf:H1 s1.heap.objs.size=none:=I1.hok.fresh (le_refl _)
  refine⟨.ref s1.heap.objs.size,upd H1 s1.heap.objs.size (.lst xs),I1.laid (t':=s1.toks) (fun b u e=>Heap.get?_push_of_some _ e) (le_refl _) ?_,rfl,q _ hf⟩
  exact⟨z,us,0,r,Heap.get?_push_size _ rfl⟩
end
abbrev Sp:=List V->Hp->VK->XK->Prop
abbrev JX:=List Env->Hp->Shared->XK->Value->Shared->Prop
structure Env0(P:Program)(w:World)(K:W.Frag)(mg:Str->Option Value)(base:Heap)(A:Around)(outer:List Env)(s:Shared)(H:Hp):Prop where
  frames:A.frames=some outer
  mod:Mod K mg base
  bs:∀b o,base.get? b=some o->s.heap.get? b=some o/\H b=none
  bsz:base.objs.size<=s.heap.objs.size
  funs:s.heap.FunFrames base outer
  frf:∀b∈frs outer,H b=none
  hok:rY P w H s.heap
  bare:AllBare s.gens
def CE(outer:List Env)(P:Program)(w:World)(H:Hp)(s:Shared)(Q:VK)(u:Value)(s':Shared):Prop:=
  ∃v H',s'.os=s.os/\AllBare s'.gens/\Un (frs outer) [] H H' s.heap s'.heap/\rY P w H' s'.heap/\d7 v u/\Q v H'
def CR(CX:JX)(outer:List Env)(P:Program)(w:World)(H:Hp)(s:Shared)(Q:VK)(E:XK)(r:Result)(s':Shared):Prop:=
  match r with
  | .ok (.ret u)=>CE outer P w H s Q u s'
  | .ok _=>False
  | .error e=>CX outer H s E e s'
structure FnOk(P:Program)(w:World)(K:W.Frag)(mg:Str->Option Value)(base:Heap)(CX:JX)(k:Nat)(f:Addr)(fd:FuncData)(ps:List Str)(sp:Sp):Prop where
  len:∀vs H Q E,sp vs H Q E->vs.length=ps.length
  run:∀(A:Around) (outer:List Env) (s:Shared) (H:Hp) (args:Args) (us:List Value) (vs:List V) (Q:VK) (E:XK),Room k A->Env0 P w K mg base A outer s H->BindsTo s fd args (ps.zip us)->bV vs us->sp vs H Q E ->
    codeAny (model P w) A (.call (.ref f) args) (CR CX outer P w H s Q E) s
theorem Env0.make{P:Program}{w:World}{K:W.Frag}{mg:Str->Option Value}{base:Heap}{A:Around}{outer:List Env}{s:Shared}{H:Hp}(e:Env0 P w K mg base A outer s H)(C:Addr)(us:List Value)(kw:List (Str×Value)):
    Env0 P w K mg base (A.under (.builtin "type.__call__" ⟨.ref C::us,kw⟩)) outer s H:=⟨by first | exact e.frames | (simpa [Around.under,Code.envs,Code.isFrame,pushEnvs] using e.frames),e.mod,e.bs,e.bsz,e.funs,e.frf,e.hok,e.bare⟩
section
variable {X:Cx} {pj:List (Addr×Obj)} {σ:St} {H:Hp} {s s':Shared}
theorem Inv.env0(I:Inv X pj σ H s):Env0 X.prog X.w X.K X.mg X.base X.A X.stack s H:=
  ⟨I.ok.frames,I.ok.mod,I.bs,le_trans I.ok.bsz I.sz,I.stack,I.stkFree,I.hok,I.bare⟩
theorem Inv.after{Q:VK}{u:Value}(I:Inv X pj σ H s)(h:CE X.stack X.prog X.w H s Q u s'):EP X pj σ Q u s':=by
  obtain⟨v,H',os,bare,un,hok,r,q⟩:=h
  obtain⟨hh,g,d,t,os'⟩:=s'
  obtain rfl:os'=s.os:=os
  exact⟨v,H',I.call (h':=hh) (g':=g) (d':=d) (t':=t) (ch:=[]) un hok bare (fun b z=>absurd z (by simp)),r,q⟩
end
def OM(sp:Sp)(dvs:List V)(E:XK)(t:TA):TE:=fun σ H Q=>t σ H fun vs H1=>sp (vs++dvs) H1 Q E
def Lc(C:Addr)(m:Str)(sp:Sp)(dvs:List V)(E:XK)(ta:TE)(t:TA):TE:=fun σ H Q=>ta σ H fun x H1=>∃a dx fs,x=.ref a/\H1 a=some (.ins C dx fs)/\fs.lookup m=none /\
  t σ H1 fun vs H2=>sp (x::(vs++dvs)) H2 Q E
def OJ(C:Addr)(sp:Sp)(dvs:List V)(E:XK)(t:TA):TE:=fun σ H Q=>t σ H fun vs H1=>∀x dx,H1 x=none->H1 dx=none->dx≠x ->
  sp (.ref x::(vs++dvs)) (upd (upd H1 dx (.own x)) x (.ins C dx [])) (fun v H2=>v=.non/\Q (.ref x) H2) E
def lH(K:W.Frag)(fd:FuncData)(ps:List Str)(ds:List Value):Prop:=
  ∀(s:Shared) (us:List Value),K.In s.heap->(us++ds).length=ps.length->BindsTo s fd ⟨us,[]⟩ (ps.zip (us++ds))
theorem lH.all{K:W.Frag}{fd:FuncData}{ps:List Str}(h:∀us:List Value,us.length=ps.length->bindArgs fd ⟨us,[]⟩=pure (ps.zip us)):lH K fd ps []:=fun s us _ hl=>by
  rw[append_nil] at hl ⊢
  exact .of_eq (h us hl)
def rW(CX:JX)(X:Cx)(E:XK):Prop:=∀(pj:List (Addr×Obj)) (σ:St) (H:Hp) (s:Shared) (e:Value) (s':Shared),Inv X pj σ H s->CX X.stack H s E e s'->X.xe e s'
section
variable {X:Cx} {CX:JX} {k:Nat} {f C:Addr} {fd:FuncData} {ps:List Str} {sp:Sp} {dvs:List V} {ds:List Value} {E:XK} {x m:Str} {p pos apos:Pos} {e o:Expr} {es:List Expr} {ta:TE} {t:TA}
theorem Cj{pj:List (Addr×Obj)}{σ:St}{H:Hp}{s:Shared}{Q:VK}{us:List Value}{vs:List V}(F:FnOk X.prog X.w X.K X.mg X.base CX k f fd ps sp)(hr:Room k X.A)(hb:lH X.K fd ps ds)(hd:bV dvs ds)(hx:rW CX X E)
    (I:Inv X pj σ H s) (r:bV vs us) (h:sp (vs++dvs) H Q E):wpAny (model X.prog X.w) X.A (call (.ref f) us) (EP X pj σ Q) X.xe s:=by
  have r2:bV (vs++dvs) (us++ds):=r.append hd
  have hl:(us++ds).length=ps.length:=by rw[<- r2.length];exact F.len _ _ _ _ h
  refine wpAny_call (codeAny_mono (F.run X.A X.stack s H ⟨us,[]⟩ (us++ds) (vs++dvs) Q E hr I.env0 (hb s us I.kIn hl) r2 h) fun r s' hq=>?_)
  cases r with
  |error e=>exact hx pj σ H s e s' I hq
  |ok fl=>
    cases fl with
    |ret u=>exact I.after hq
    |next=>exact False.elim hq
    |brk=>exact False.elim hq
    |cont=>exact False.elim hq
theorem KK(F:FnOk X.prog X.w X.K X.mg X.base CX k f fd ps sp)(hr:Room k X.A)(hg:Gl X x)(hm:X.mg x=some (.ref f))(hk:W.keepIn X.K (.ref f)=true)(hb:lH X.K fd ps ds)(hd:bV dvs ds)(hx:rW CX X E)
    (ha:PA X (e::es) t) (hdb:(x==("__debug__" : Str))=false:=by decide) (he:starEach (e::es) X.env=(false,eval e X.env)::starEach es X.env:=by rfl) (hpl:(backTo pos (starEach es X.env)).any (·.1)=false:=by rfl):
    PE X (.Call (.Name x p) (e::es) [] pos) (OM sp dvs E t):=by
  intro pj s σ H Q I h
  refine wpAny_Call_Name_kw (A7 I hg hm ?_ hdb)
  refine W.callWith_K (h₀:=X.base) I.ok.mod.kin hk (thn (ha pos pj s σ H _ I h) fun us s1 ⟨vs,H1,I1,r,q⟩=>⟨I1.kIn,?_⟩) he hpl
  exact Cj F hr hb hd hx I1 r q
theorem KG{pl:Sem Bool}(he:PE X o ta)(c:Cls X.K C)(hm:Meth X.K C m f)(F:FnOk X.prog X.w X.K X.mg X.base CX k f fd ps sp)(hr:Room k X.A)(hb:lH X.K fd ps ds)(hd:bV dvs ds)(hx:rW CX X E)(ha:PA X (e::es) t)
    (hst:starEach (e::es) X.env=(false,eval e X.env)::starEach es X.env:=by rfl) (hpl:(backTo pos (starEach es X.env)).any (·.1)=false:=by rfl)
    (ht:eval (.Call (.Attribute o m apos) (e::es) [] pos) X.env=(do
      let ov <- eval o X.env
      standAt apos.atName
      let (f,first) <- holding [ov] (getMethod ov m pl)
      callWith pos f first (backTo pos (starEach (e::es) X.env)) (backToKw pos (keywordEach [] X.env))):=by rfl):
    PE X (.Call (.Attribute o m apos) (e::es) [] pos) (Lc C m sp dvs E ta t):=by
  intro pj s σ H Q I h
  refine W.methodCall_KW (pl:=pl) (thn (he pj s σ H _ I h) fun u s1 ⟨x,H1,I1,rx,a,dx,fs,ex,ea,l,q⟩=>?_) ht
  subst ex
  obtain rfl:u=Value.ref a:=rx
  refine wQ I1 ea c hm l ?_
  refine W.callWith_K (first:=[.ref a]) (h₀:=X.base) I.ok.mod.kin hm.kp (thn (ha pos pj s1 σ H1 _ I1 q) fun us s2 ⟨vs,H2,I2,r,q2⟩=>⟨I2.kIn,?_⟩) hst hpl
  exact Cj (us:=.ref a::us) (vs:=.ref a::vs) F hr hb hd hx I2 (.cons rfl r) q2
theorem HE{pl:Sem Bool}(he:PE X o ta)(c:Cls X.K C)(hm:Meth X.K C m f)(F:FnOk X.prog X.w X.K X.mg X.base CX k f fd ps sp)(hr:Room k X.A)(hb:lH X.K fd ps ds)(hd:bV dvs ds)(hx:rW CX X E)
    (ht:eval (.Call (.Attribute o m apos) [] [] pos) X.env=(do
      let ov <- eval o X.env
      standAt apos.atName
      let (f,first) <- holding [ov] (getMethod ov m pl)
      callWith pos f first (backTo pos (starEach [] X.env)) (backToKw pos (keywordEach [] X.env))):=by rfl):
    PE X (.Call (.Attribute o m apos) [] [] pos) (Lc C m sp dvs E ta OH):=by
  intro pj s σ H Q I h
  refine W.methodCall_KW (pl:=pl) (thn (he pj s σ H _ I h) fun u s1 ⟨x,H1,I1,rx,a,dx,fs,ex,ea,l,q⟩=>?_) ht
  subst ex
  obtain rfl:u=Value.ref a:=rx
  refine wQ I1 ea c hm l ?_
  exact W.callWith_K0 (first:=[.ref a]) I1.kIn hm.kp (Cj (us:=[.ref a]) (vs:=[.ref a]) F hr hb hd hx I1 (.cons rfl .nil) q)
structure Mk(K:W.Frag)(C f:Addr):Prop where
  makes:W.makesIn K C=true
  init:W.findIn K (.ref C) "__init__" = some (some (.ref f))
  fn:W.isFn K (.ref f)=true
  kp:W.keepIn K (.ref C)=true
theorem Go{pj:List (Addr×Obj)}{σ:St}{H:Hp}{s:Shared}{Q:VK}{us:List Value}{vs:List V}(M:Mk X.K C f)(F:FnOk X.prog X.w X.K X.mg X.base CX k f fd ps sp)(hr:Room (k+1) X.A)(hb:lH X.K fd ps ds)(hd:bV dvs ds)
    (hx:rW CX X E) (I:Inv X pj σ H s) (r:bV vs us)
    (h:∀x dx,H x=none->H dx=none->dx≠x->sp (.ref x::(vs++dvs)) (upd (upd H dx (.own x)) x (.ins C dx [])) (fun v H2=>v=.non/\Q (.ref x) H2) E):
    wpAny (model X.prog X.w) X.A (call (.ref C) us) (EP X pj σ Q) X.xe s:=by
  have hq:=h (s.heap.objs.size+1) s.heap.objs.size (I.hok.fresh (le_succ _)) (I.hok.fresh (le_refl _)) (ne_of_lt (Nat.lt_succ_self _))
  have I2:=Inv.made (C:=C) I
  have r2:bV (V.ref (s.heap.objs.size+1)::(vs++dvs)) (Value.ref (s.heap.objs.size+1)::(us++ds)):=.cons rfl (r.append hd)
  have hl:(Value.ref (s.heap.objs.size+1)::us++ds).length=ps.length:=by
    have e:=r2.length
    rw[F.len _ _ _ _ hq] at e
    exact e.symm
  refine wpAny_call (IH (f:=f) I.kIn M.makes M.init (beq_iff_eq.mp M.fn) (codeAny_mono (F.run _ X.stack _ _ ⟨Value.ref (s.heap.objs.size+1)::us,[]⟩ (Value.ref (s.heap.objs.size+1)::(us++ds)) _ _ E (hr.make C us [])
    (I2.env0.make C us []) (hb _ (Value.ref (s.heap.objs.size+1)::us) I2.kIn hl) r2 hq) fun r s' hq'=>?_))
  cases r with
  |error e=>exact hx pj σ _ _ e s' I2 hq'
  |ok fl=>
    cases fl with
    |ret u=>
      obtain⟨v,H',I3,rv,ev,q3⟩:=I2.after hq'
      subst ev
      exact⟨rv,⟨V.ref (s.heap.objs.size+1),H',I3,rfl,q3⟩⟩
    |next=>exact False.elim hq'
    |brk=>exact False.elim hq'
    |cont=>exact False.elim hq'
theorem KH(M:Mk X.K C f)(F:FnOk X.prog X.w X.K X.mg X.base CX k f fd ps sp)(hr:Room (k+1) X.A)(hg:Gl X x)(hm:X.mg x=some (.ref C))(hb:lH X.K fd ps ds)(hd:bV dvs ds)(hx:rW CX X E)
    (ha:PA X (e::es) t) (hdb:(x==("__debug__" : Str))=false:=by decide) (he:starEach (e::es) X.env=(false,eval e X.env)::starEach es X.env:=by rfl) (hpl:(backTo pos (starEach es X.env)).any (·.1)=false:=by rfl):
    PE X (.Call (.Name x p) (e::es) [] pos) (OJ C sp dvs E t):=by
  intro pj s σ H Q I h
  refine wpAny_Call_Name_kw (A7 I hg hm ?_ hdb)
  refine W.callWith_K (h₀:=X.base) I.ok.mod.kin M.kp (thn (ha pos pj s σ H _ I h) fun us s1 ⟨vs,H1,I1,r,q⟩=>⟨I1.kIn,?_⟩) he hpl
  exact Go M F hr hb hd hx I1 r q
end
section
variable {X:Cx} {CX:JX} {k:Nat} {f C:Addr} {fd:FuncData} {ps ks:List Str} {sp:Sp} {E:XK} {x m:Str} {p pos apos kpos:Pos} {e o:Expr} {es:List Expr} {kws:List Keyword} {te ta:TE} {t tk:TA} {nm:Option Str}
variable {g:List Value->List Value->List Value} {gV:List V->List V->List V}
end
structure FnScope(N P:List Str)(sc:Scope):Prop where
  kind:sc.kind=.function
  co:sc.isCoroutine=false
  gen:sc.isGenerator=false
  nd:N.Nodup
  pre:N.take P.length=P
  par:∀x∈P,sc.names.lookup x=some .local \/ sc.names.lookup x=some .cell
  nofree:∀y∈sc.names,y.2 ≠ .free
theorem z4{kindOf:Str->Option NameKind}{x:Str}:∀{binds:List (Str×Value)} {m:Str->Option Value},(∀v,(x,v) ∉ binds)->bindL kindOf binds m x=m x
  | [],_,_=>rfl
  | (n,v)::r,m,h=>by
    unfold bindL
    rw[z4 fun w hw=>h w (mem_cons_of_mem _ hw)]
    split
    . have:x≠n:=by rintro rfl;exact h v mem_cons_self
      simp[this]
    . rfl
theorem z6{kindOf:Str->Option NameKind}{x:Str}:∀{binds:List (Str×Value)} {m:Str->Option Value},(∀v,(x,v) ∉ binds)->bindC kindOf binds m x=m x
  | [],_,_=>rfl
  | (n,v)::r,m,h=>by
    unfold bindC
    rw[z6 fun w hw=>h w (mem_cons_of_mem _ hw)]
    split
    . rfl
    . have:x≠n:=by rintro rfl;exact h v mem_cons_self
      simp[this]
theorem z5{kindOf:Str->Option NameKind}{x:Str}{v:Value}:∀{P:List Str} {vs:List Value} {i:Nat} {m:Str->Option Value},P.Nodup->P[i]?=some x->vs[i]?=some v->kindOf x=some .local ->
    bindL kindOf (P.zip vs) m x=some v
  | [],_,_,_,_,h,_,_=>by simp at h
  |_::_,[],_,_,_,_,h,_=>by simp at h
  |p::P,w::vs,0,m,nd,h1,h2,hk=>by
    simp at h1 h2;subst h1;subst h2
    show bindL kindOf ((p,w)::P.zip vs) m p=_
    unfold bindL
    rw[z4 fun v hv=>(nodup_cons.mp nd).1 (of_mem_zip hv).1,if_pos hk]
    simp
  |p::P,w::vs,i+1,m,nd,h1,h2,hk=>by
    show bindL kindOf ((p,w)::P.zip vs) m x=_
    unfold bindL
    exact z5 (i:=i) (nodup_cons.mp nd).2 (by simpa using h1) (by simpa using h2) hk
theorem z7{kindOf:Str->Option NameKind}{x:Str}{v:Value}:∀{P:List Str} {vs:List Value} {i:Nat} {m:Str->Option Value},P.Nodup->P[i]?=some x->vs[i]?=some v->kindOf x≠some .local ->
    bindC kindOf (P.zip vs) m x=some v
  | [],_,_,_,_,h,_,_=>by simp at h
  |_::_,[],_,_,_,_,h,_=>by simp at h
  |p::P,w::vs,0,m,nd,h1,h2,hk=>by
    simp at h1 h2;subst h1;subst h2
    show bindC kindOf ((p,w)::P.zip vs) m p=_
    unfold bindC
    rw[z6 fun v hv=>(nodup_cons.mp nd).1 (of_mem_zip hv).1,if_neg hk]
    simp
  |p::P,w::vs,i+1,m,nd,h1,h2,hk=>by
    show bindC kindOf ((p,w)::P.zip vs) m x=_
    unfold bindC
    exact z7 (i:=i) (nodup_cons.mp nd).2 (by simpa using h1) (by simpa using h2) hk
def start(N:List Str)(vs:List V):St:=vs.map some++List.replicate (N.length-vs.length) none
def LA(A:Around):List Addr:=match A.handled with
  |some (.ref a)=>[a]
  |_=>[]
theorem Fu{A:Around}(h:A.handled=none):LA A=[]:=by
  unfold LA
  rw[h]
def wY(CX:JX)(P:Program)(w:World)(K:W.Frag)(mg:Str->Option Value)(base:Heap)(N:List Str)(qual:Str)(scope:Scope)(f:Addr)(cd:Value)(A:Around)(outer:List Env)(s:Shared)(H:Hp)(E:XK):Cx where
  prog:=P
  w:=w
  K:=K
  mg:=mg
  base:=base
  A:=A.deeper (envOfC qual scope s.heap.objs.size f cd)
  N:=N
  s₀:=s
  HZ:=H
  env:=envOfC qual scope s.heap.objs.size f cd
  outer:=outer
  stack:=envOfC qual scope s.heap.objs.size f cd::outer
  ex:=[]
  calm:=true
  fn:=fun _=>true
  pn:=[]
  hs:=LA A
  xe:=fun e s'=>wpAny (model P w) (A.deeper (envOfC qual scope s.heap.objs.size f cd)) (leaving (envOfC qual scope s.heap.objs.size f cd) e) (fun _ s''=>CX outer H s E e s'') (fun e' s''=>CX outer H s E e' s'') s'
theorem CM{sc:Scope}{n:Nat}{x:Str}(h:sc.names.lookup x=some .cell):∃c,(cellsFrom n sc.names []).lookup x=some c:=by
  have q:=W.cellsFrom_some sc.names n [] (.inl h)
  exact isSome_iff_exists.mp q
theorem Fs{CX:JX}{P:Program}{w:World}{K:W.Frag}{mg:Str->Option Value}{base:Heap}{N ps:List Str}{qual:Str}{scope:Scope}{f:Addr}{cd:Value}{A:Around}{outer:List Env}{s s1:Shared}{H:Hp}{E:XK}{us:List Value}{vs:List V}
    (S:FnScope N ps scope) (hd:A.handled=none) (e0:Env0 P w K mg base A outer s H) (hl:vs.length=ps.length) (r:bV vs us)
    (x:InCallC s s.heap.objs.size (bindL (envOfC qual scope s.heap.objs.size f cd).kindOf (ps.zip us) fun _=>none) (cellsFrom (s.heap.objs.size+1) scope.names []) (bindC (envOfC qual scope s.heap.objs.size f cd).kindOf (ps.zip us) fun _=>none) s1):
    Inv (wY CX P w K mg base N qual scope f cd A outer s H E) [] (start N vs) H s1:=by
  have hpl:ps.length<=N.length:=by have:=congrArg List.length S.pre;rw[length_take] at this;ac_rfl
  obtain⟨h1,tk,rfl,hk⟩:=x.done
  have noA:∀b:Addr,b ∉ (wY CX P w K mg base N qual scope f cd A outer s H E).ex:=fun b z=>absurd (show b∈([]:List Addr) from z) (by simp)
  refine⟨⟨e0.mod,S.kind,rfl,rfl,le_refl _,fun y z c h1 h2=>?_,fun y hy=>?_,fun y c _ h=>?_,fun _=>hd,Around.frames_deeper e0.frames,.inr ⟨rfl,rfl⟩,fun b z=>absurd z (noA b),e0.bs,e0.bsz,fun b _ _=>noA b,fun b z=>absurd z (noA b),e0.funs,e0.frf,.inl hd⟩,
    rfl,e0.bare,Un.kept hk,⟨_,x.toInCall.ns,fun i y v h1 h2 h3=>?_⟩,fun y c h=>⟨_,x.cell y c h⟩,e0.hok.fresh (le_refl _),fun y c h=>?_,fun p hp=>absurd (show p∈([]:List (Addr×Obj)) from hp) (by simp),e0.hok.kept hk,?_,fun a ha=>absurd (show a∈LA A from ha) (by rw[Fu hd];simp)⟩
  . exact name_of_addr x.apart (PySem.mem_of_lookup h1) (PySem.mem_of_lookup h2)
  . have hy:scope.names.lookup y=some .cell \/ scope.names.lookup y=some .free:=hy
    rcases hy with hy | hy
    . exact CM hy
    . exact absurd rfl (S.nofree _ (PySem.mem_of_lookup hy))
  . exact le_of_lt (x.above y c (PySem.mem_of_lookup h))
  . have hi:i<vs.length:=by
      unfold start at h2
      by_cases hi:i<vs.length
      . exact hi
      . rw[List.getElem?_append_right (by simpa using hi)] at h2
        rw[List.getElem?_replicate] at h2
        split at h2<;>cases h2
    have ha:vs[i]?=some v:=by
      unfold start at h2
      rw[List.getElem?_append_left (by simpa using hi),List.getElem?_map] at h2
      cases e:vs[i]? with
      |none=>rw[e] at h2;cases h2
      |some a=>rw[e] at h2;cases h2;rfl
    obtain⟨u,hu,rv⟩:=r.get ha
    have hp:ps[i]?=some y:=by
      rw[<- S.pre,List.getElem?_take_of_lt ⋯];exact h1
    have ndP:ps.Nodup:=by rw[<- S.pre];exact S.nd.sublist (List.take_sublist _ _)
    refine⟨u,rv,?_⟩
    rcases S.par y (mem_of_getElem? hp) with k | k
    . exact .inl ⟨k,z5 ndP hp hu k⟩
    . obtain⟨c,e⟩:=CM (n:=s.heap.objs.size+1) k
      refine .inr ⟨.inl k,c,e,?_⟩
      have q:=x.cell y c e
      rw[z7 ndP hp hu (by show scope.names.lookup y≠_;rw[k];decide)] at q
      exact q
  . exact e0.hok.fresh (le_of_lt (x.above y c (PySem.mem_of_lookup h)))
  . unfold start
    show _=N.length
    rw[length_append,length_map,length_replicate]
    ac_rfl
theorem Pv{CX:JX}{P:Program}{w:World}{K:W.Frag}{mg:Str->Option Value}{base:Heap}{k:Nat}{f:Addr}{name qual:Str}{params:Arguments}{body:List Stmt}{scope:Scope}{dV kV doc pm cdv ct oc:Value}{an od:Option Addr}
    {osl:Array (Option Value)} {N ps:List Str} {sp:Sp} (lk:K.lookup f=some ⟨oc,od,.func (W.fnOf name qual params body scope dV kV doc pm an cdv ct),osl⟩) (hcd:W.codeIn K cdv qual=true) (S:FnScope N ps scope)
    (len:∀vs H Q E,sp vs H Q E->vs.length=ps.length)
    (hbody:∀(A:Around) (outer:List Env) (s:Shared) (H:Hp) (vs:List V) (Q:VK) (E:XK),Room k (A.deeper (envOfC qual scope s.heap.objs.size f cdv))->sp vs H Q E ->
      ∃t,Ah (wY CX P w K mg base N qual scope f cdv A outer s H E) body t/\t { nx:=fun _ H'=>Q .non H',rt:=Q } (start N vs) H):
    FnOk P w K mg base CX (k+1) f (W.fnOf name qual params body scope dV kV doc pm an cdv ct) ps sp:=by
  refine⟨len,fun A outer s H args us vs Q E hr e0 hb r hsp=>?_⟩
  have hl:=len _ _ _ _ hsp
  have KX:K.In s.heap:=e0.mod.kin.keeps fun b o e=>(e0.bs b o e).1
  have lim:s.heap.NoLimit:=e0.mod.nolimit.keeps fun b o e=>(e0.bs b o e).1
  have hkind:∀y∈ps.zip us,scope.names.lookup y.1=some .local \/ (scope.names.lookup y.1=some .cell/\((cellsFrom (s.heap.objs.size+1) scope.names []).lookup y.1).isSome=true):=fun⟨n,v⟩ hy=>by
    rcases S.par n (of_mem_zip hy).1 with q | q
    . exact .inl q
    . exact .inr ⟨q,W.cellsFrom_some _ _ _ (.inl q)⟩
  refine codeAny_call_function hr.depth (KX _ _ lk) rfl S.co S.gen rfl (W.codeRec_of KX hcd) (hb _ _ _ _ ?_)
  refine wpAny_newFunctionEnv_cells S.kind hkind fun env he s1 x=>?_
  subst he
  refine⟨lim.keeps x.toInCall.keep,codeAny_func ?_⟩
  obtain⟨t,ht,hq⟩:=hbody A outer s H vs Q E (hr.deeper _) hsp
  have I:Inv (wY CX P w K mg base N qual scope f cdv A outer s H E) [] (start N vs) H s1:=Fs S hr.hd e0 hl r x
  refine wpAny_mono (ht [] s1 (start N vs) H _ I hq) (fun fl s' hs=>?_) fun e s' hs=>hs
  have fin:∀{σ':St} {H':Hp} {v:V} {u:Value},Inv (wY CX P w K mg base N qual scope f cdv A outer s H E) [] σ' H' s'->d7 v u->Q v H'->CE outer P w H s Q u s':=
    fun {σ' H' v u} J rv q=>⟨v,H',J.os,J.bare,J.base,J.hok,rv,q⟩
  cases fl with
  |ret u=>
    obtain⟨v,σ',H',J,rv,q⟩:=hs
    exact fin J rv q
  |next=>
    obtain⟨σ',H',J,q⟩:=hs
    exact fin (v:=V.non) (u:=Value.none) J rfl q
  |brk=>
    obtain⟨_,_,_,q⟩:=hs
    exact False.elim q
  |cont=>
    obtain⟨_,_,_,q⟩:=hs
    exact False.elim q
section
variable {X:Cx} {x:Str} {p pos:Pos} {e:Expr} {es:List Expr} {t:TA} {id T:String} {r:List V->Hp->VK->Prop}
def RE(r:List V->Hp->VK->Prop)(t:TA):TE:=fun σ H Q=>t σ H fun vs H1=>r vs H1 Q
theorem BE(hc:gO X (.builtin id) r)(hg:Gl X x)(hm:X.mg x=none)(hv:bootBuiltins x=some (.builtin id))(ha:PA X (e::es) t)(hn:x ≠ "__name__" := by decide)(hdb:(x==("__debug__" : Str))=false:=by decide)
    (he:starEach (e::es) X.env=(false,eval e X.env)::starEach es X.env:=by rfl) (hpl:(backTo pos (starEach es X.env)).any (·.1)=false:=by rfl):PE X (.Call (.Name x p) (e::es) [] pos) (RE r t):=by
  intro pj s σ H Q I h
  refine wpAny_Call_Name_kw (p6 I hg hm hv ?_ hn hdb)
  exact PyProof.Rows.callWith_builtin1 (thn (ha pos pj s σ H _ I h) fun us s1 ⟨vs,H1,I1,r1,q1⟩=>hc pj s1 σ H1 vs us Q I1 r1 q1) he hpl
theorem tM(hc:gO X (.type T) r)(hg:Gl X x)(hm:X.mg x=none)(hv:bootBuiltins x=some (.type T))(ha:PA X (e::es) t)(hn:x ≠ "__name__" := by decide)(hdb:(x==("__debug__" : Str))=false:=by decide)
    (he:starEach (e::es) X.env=(false,eval e X.env)::starEach es X.env:=by rfl) (hpl:(backTo pos (starEach es X.env)).any (·.1)=false:=by rfl):PE X (.Call (.Name x p) (e::es) [] pos) (RE r t):=by
  intro pj s σ H Q I h
  refine wpAny_Call_Name_kw (p6 I hg hm hv ?_ hn hdb)
  exact PyProof.Rows.callWith_type1 (thn (ha pos pj s σ H _ I h) fun us s1 ⟨vs,H1,I1,r1,q1⟩=>hc pj s1 σ H1 vs us Q I1 r1 q1) he hpl
end
end L2
namespace HT
open PySem PyProof.Rows
section
open PySem.SeqAt
open PySem.AutoSeq1 (wpAny_loadPart')
open PySem.MeetsSeq PySem.MeetsSeq2 PySem.MeetsSeq3
end
section
variable {prog:Program} {w:World} {A:Around} {E:Value->Shared->Prop} {s:Shared}
theorem LS{t b:Addr}{vs ws:List Value}{Q:Value->Shared->Prop}(ht:IsTup s.heap t vs.toArray)(hb:IsTup s.heap b ws.toArray)(hv:vs≠[])
    (h1:ws=[]->Q (.ref t) s) (h2:ws≠[]->Q (.ref s.heap.objs.size) { s with heap:=s.heap.push { cls:=.type "tuple",data:=.seq (vs++ws).toArray } })
    (hsz:vs.length+ws.length<=sizeLine):wpAny (model prog w) A (binaryOp .Add (.ref t) (.ref b)) Q E s:=by
  obtain⟨⟨cls,dd,data,sl⟩,ho,hc,n,hd⟩:=id ht
  obtain⟨⟨cls2,dd2,data2,sl2⟩,ho2,hc2,n2,hd2⟩:=id hb
  simp only at hc hd hc2 hd2
  subst hc hd hc2 hd2
  have e:vs.toArray++ws.toArray=(vs++ws).toArray:=by simp
  by_cases hw:ws=[]
  . exact concat_meets ⟨_,ho,rfl⟩ ⟨_,ho2,rfl⟩ noFill_tuple_add seq_tuple_add PySem.F.slot_tuple_add PySem.F.entry_tuple_add (PySem.F.args_tuple_add_2 _ _)
      (tuple_addW1 t b vs.toArray ws.toArray n n2 dd dd2 sl sl2 (by simpa using hv) (by simp[hw])) ⟨ho,ho2,h1 hw⟩
  . refine concat_meets ⟨_,ho,rfl⟩ ⟨_,ho2,rfl⟩ noFill_tuple_add seq_tuple_add PySem.F.slot_tuple_add PySem.F.entry_tuple_add (PySem.F.args_tuple_add_2 _ _)
      (tuple_addW2 t b vs.toArray ws.toArray n n2 dd dd2 sl sl2 (by simpa using hv) (by simpa using hw) (by rw[size_toArray,size_toArray];exact hsz)) ⟨ho,ho2,?_⟩
    rw[e]
    exact h2 hw
def iE(n d:Nat):Option Int->Nat
  |none=>d
  |some v=>if v<0 then (v+(n:Int)).toNat else min v.toNat n
theorem B5(n d:Nat):iE n d none=d:=rfl
theorem MX(n d:Nat)(hd:d<=n)(o:Option Int):iE n d o<=n:=by
  cases o with
  |none=>exact hd
  |some v=>
    show (if v<0 then (v+(n:Int)).toNat else min v.toNat n)<=n
    by_cases hv:v<0
    . rw[if_pos hv];ac_rfl
    . rw[if_neg hv];exact Nat.min_le_right _ _
theorem Ea(v:Int)(n d:Nat):(if v<0 then max (v+(n:Int)) 0 else min v (n:Int))=((iE n d (some v):Nat):Int):=by
  show (if v<0 then max (v+(n:Int)) 0 else min v (n:Int))=(((if v<0 then (v+(n:Int)).toNat else min v.toNat n):Nat):Int)
  by_cases hv:v<0
  . simp only[if_pos hv];ac_rfl
  . simp only[if_neg hv];ac_rfl
theorem DV(lo hi:Option Int)(n:Nat):Builtin.Slice.sliceAdjust lo hi 1 (n:Int)=(((iE n 0 lo:Nat):Int),((iE n n hi:Nat):Int)):=by
  have h1:¬((1:Int)<0):=⋯
  unfold Builtin.Slice.sliceAdjust
  simp only[h1,if_false]
  refine Prod.ext ?_ ?_
  . cases lo with
    |none=>rfl
    |some v=>exact Ea v n 0
  . cases hi with
    |none=>rfl
    |some v=>exact Ea v n n
theorem Cq(i j:Nat):Builtin.Slice.slicePlaces (i:Int) (j:Int) 1=j-i:=by
  unfold Builtin.Slice.slicePlaces
  have h1:(1:Int) > 0:=⋯
  simp only[h1,if_true,Int.ediv_one]
  split<;>ac_rfl
theorem vQ{v:Value}{o:Option Int}{Q:Option Int->Shared->Prop}(p:IsPart v o)(h:Q o s):wpAny (model prog w) A (Builtin.Slice.slicePartIndex v) Q E s:=by
  cases p with
  |none=>exact slicePart_none h
  |int i t=>exact slicePart_int h
theorem tG{sl:Addr}{vl vu:Value}{lo hi:Option Int}{n:Nat}{Q:Int×Int×Nat->Shared->Prop}(hs:s.heap.IsSliceOf sl vl vu .none)(pl:IsPart vl lo)(pu:IsPart vu hi)
    (h:Q (((iE n 0 lo:Nat):Int),1,iE n n hi-iE n 0 lo) s):wpAny (model prog w) A (Builtin.Slice.sliceApplied (.ref sl) (pure (n:Int))) Q E s:=by
  obtain⟨os,hos,hcs,hds⟩:=id hs
  unfold Builtin.Slice.sliceApplied Builtin.Slice.sliceFields
  refine wpAny_bind (wpAny_bind (wpAny_field hos hds (x:=vl) rfl (wpAny_bind (wpAny_field hos hds (x:=vu) rfl (wpAny_bind (wpAny_field hos hds (x:=.none) rfl (wpAny_pure ?_)))))))
  refine wpAny_bind (slicePart_none ?_)
  show wpAny _ _ (if ((1:Int)==0)=true then _ else _) _ _ s
  rw[if_neg ∅]
  refine wpAny_bind (vQ pl (wpAny_bind (vQ pu (wpAny_bind (wpAny_pure ?_)))))
  show wpAny _ _ (match Builtin.Slice.sliceAdjust lo hi 1 (n:Int) with | (lo,hi)=>pure (lo,(1:Int),Builtin.Slice.slicePlaces lo hi 1)) _ _ s
  rw[DV lo hi n]
  show wpAny _ _ (pure (((iE n 0 lo:Nat):Int),(1:Int),Builtin.Slice.slicePlaces ((iE n 0 lo:Nat):Int) ((iE n n hi:Nat):Int) 1)) _ _ s
  rw[Cq]
  exact wpAny_pure h
theorem HC(xs:Array Value)(i k:Nat):((List.range k).filterMap fun(m:Nat)=>xs[((i:Int)+(m:Int)*1).toNat]?).toArray=((xs.toList.drop i).take k).toArray:=by
  have e:(fun(m:Nat)=>xs[((i:Int)+(m:Int)*1).toNat]?)=fun m=>xs[i+m]?:=by
    funext m
    have:((i:Int)+(m:Int)*1).toNat=i+m:=⋯
    rw[this]
  rw[e]
  have:=pick_run xs i k
  rw[List.filterMap_map] at this
  have e2:((fun x=>xs[x]?) ∘ fun x=>i+x)=fun m=>xs[i+m]?:=rfl
  rw[e2] at this
  rw[this]
theorem sU{t sl:Addr}{items:Array Value}{vl vu:Value}{lo hi:Option Int}{Q:Value->Shared->Prop}(ht:IsTup s.heap t items)(hs:s.heap.IsSliceOf sl vl vu .none)(pl:IsPart vl lo)(pu:IsPart vu hi)
    (hw:¬(iE items.size 0 lo=0/\iE items.size items.size hi=items.size))
    (h:Q (.ref s.heap.objs.size) { s with heap:=s.heap.push { cls:=.type "tuple",data:=.seq ((items.toList.drop (iE items.size 0 lo)).take (iE items.size items.size hi-iE items.size 0 lo)).toArray } })
    (hsz:items.size<=sizeLine):wpAny (model prog w) A (getItem (.ref t) (.ref sl)) Q E s:=by
  have htake:sizeOk (.seq ((items.toList.drop (iE items.size 0 lo)).take (iE items.size items.size hi-iE items.size 0 lo)).toArray):=by
    show ((items.toList.drop (iE items.size 0 lo)).take (iE items.size items.size hi-iE items.size 0 lo)).toArray.size<=sizeLine
    rw[size_toArray,length_take,length_drop,length_toList]
    ac_rfl
  have hj:iE items.size items.size hi<=items.size:=MX _ _ (le_refl _) hi
  obtain⟨os,hos,hcs,hds⟩:=id hs
  have hTs:s.TypeIs (.ref sl) "slice" := ⟨os,hos,hcs⟩
  unfold getItem
  try with_reducible refine wpAny_holding ?_
  first | refine wpAny_bind (wpAny_pure ?_) | skip
  refine wpAny_bind (wpAny_sequenceKey ht.typeIs ∅ ?_)
  refine wpAny_bind (wpAny_callSpecial?_slot (name:=Str.ofString "__getitem__") ht.typeIs PyProof.Rows.slot_tuple_getitem
    (wpAny_call_entry PyProof.Rows.slot_tuple_getitem ht.typeIs entry_tuple_getitem ?_ (args_tuple_getitem _ _)))
  show wpAny _ _ (Builtin.Tuple.tupleItemsOf (.ref t) >>= _) _ _ s
  refine wpAny_bind (tupleItemsOf_ ht ?_)
  refine wpAny_bind (wpAny_typeOf hTs ?_)
  rw[if_pos ∅]
  refine wpAny_bind (tG hs pl pu ?_)
  have hno:¬((((iE items.size 0 lo:Nat):Int)==0&&(1:Int)==1&&(iE items.size items.size hi-iE items.size 0 lo)==items.size)=true):=by
    intro q
    rw[Bool.and_eq_true,Bool.and_eq_true] at q
    have q1:((iE items.size 0 lo:Nat):Int)=0:=eq_of_beq q.1.1
    have q2:iE items.size items.size hi-iE items.size 0 lo=items.size:=eq_of_beq q.2
    exact hw ⟨⋯,⋯⟩
  show wpAny _ _ (if (((iE items.size 0 lo:Nat):Int)==0&&(1:Int)==1&&(iE items.size items.size hi-iE items.size 0 lo)==items.size)=true then _ else _) _ _ s
  rw[if_neg hno,HC]
  first
    |exact wpAny_bind (m:=Builtin.Tuple.tupleExact _) (wpAny_newObj_type (wpAny_pure ⟨_,rfl,wpAny_pure h⟩) htake)
    |exact wpAny_bind (m:=Builtin.Tuple.tupleExact _) (wpAny_newObj_type (wpAny_bind (wpAny_pure (wpAny_pure ⟨_,rfl,wpAny_pure h⟩))) htake)
    |exact wpAny_bind (wpAny_bind (m:=Builtin.Tuple.tupleExact _) (wpAny_newObj_type (wpAny_pure (wpAny_pure ⟨_,rfl,wpAny_pure h⟩)) htake))
    |exact wpAny_bind (wpAny_bind (m:=Builtin.Tuple.tupleExact _) (wpAny_newObj_type (wpAny_pure ⟨_,rfl,wpAny_pure h⟩) htake))
end
end HT
namespace L2
abbrev TO:=St->Hp->(Option Int->Hp->Prop)->Prop
def PO(X:Cx)(e:Option Expr)(t:TO):Prop:=
  ∀(pj:List (Addr×Obj)) (s:Shared) (σ:St) (H:Hp) (Q:Option Int->Hp->Prop),Inv X pj σ H s->t σ H Q ->
    wpAny (model X.prog X.w) X.A (evalPart e X.env) (fun u s'=>∃o H',Inv X pj σ H' s'/\IsPart u o/\Q o H') X.xe s
def Jh:TO:=fun _ H Q=>Q none H
def OE(t:TE):TO:=fun σ H Q=>t σ H fun x H1=>∃i,x=.int i/\Q (some i) H1
theorem rC{ns:List Int}:∀{us:List Value},bV (ns.map V.int) us->IntsAre us ns:=by
  induction ns with
  |nil=>intro us r;rw[map_nil] at r;cases r;exact .nil
  |cons n ns ih=>
    intro us r
    rw[map_cons] at r
    cases r with
    |cons r1 r2=>
      obtain⟨t,e⟩:=r1
      subst e
      exact .cons n t (ih r2)
section
variable {X:Cx} {e:Expr} {te:TE} {lo hi:Option Expr} {tl th:TO} {pos p2:Pos}
theorem KB:PO X none Jh:=by
  intro pj s σ H Q I h
  rw[evalPart_none]
  exact wpAny_pure ⟨none,H,I,.none,h⟩
theorem KA(h:PE X e te):PO X (some e) (OE te):=by
  intro pj s σ H Q I hw
  rw[evalPart_some]
  refine thn (h pj s σ H _ I hw) fun u s1 ⟨x,H1,I1,r1,q1⟩=>?_
  obtain⟨i,rfl,q⟩:=q1
  obtain⟨t,rfl⟩:=r1
  exact⟨some i,H1,I1,.int i t,q⟩
def O1(X:Cx)(r:V->Option Int->Option Int->Hp->VK->Prop):Prop:=
  ∀(pj:List (Addr×Obj)) (s:Shared) (σ:St) (H:Hp) (x:V) (v vl vu:Value) (lo hi:Option Int) (sl:Addr) (Q:VK),Inv X pj σ H s->d7 x v->s.heap.IsSliceOf sl vl vu .none->IsPart vl lo->IsPart vu hi->r x lo hi H Q ->
    ∃T id,typeLookup (.type T) "__getitem__" = pure (some (.builtin id))/\s.TypeIs v T/\wpAny (model X.prog X.w) X.A (getItem v (.ref sl)) (EP X pj σ Q) X.xe s
theorem O1.or{r r':V->Option Int->Option Int->Hp->VK->Prop}(h:O1 X r)(h':O1 X r'):O1 X (fun x lo hi H Q=>r x lo hi H Q \/ r' x lo hi H Q):=by
  intro pj s σ H x v vl vu lo hi sl Q I rx hs pl pu q
  rcases q with q | q
  . exact h pj s σ H x v vl vu lo hi sl Q I rx hs pl pu q
  . exact h' pj s σ H x v vl vu lo hi sl Q I rx hs pl pu q
def SK(r:V->Option Int->Option Int->Hp->VK->Prop)(te:TE)(tl th:TO):TE:=fun σ H Q=>te σ H fun x H1=>tl σ H1 fun l H2=>th σ H2 fun u H3=>r x l u H3 Q
theorem HD{r:V->Option Int->Option Int->Hp->VK->Prop}(hr:O1 X r)(he:PE X e te)(hl:PO X lo tl)(hu:PO X hi th):PE X (.Subscript e (.Slice lo hi none p2) pos) (SK r te tl th):=by
  intro pj s σ H Q I h
  refine Subscript_ (thn (he pj s σ H _ I h) fun v s1 ⟨x,H1,I1,r1,q1⟩=>?_)
  refine wpAny_Slice (thn (hl pj s1 σ H1 _ I1 q1) fun vl s2 ⟨l,H2,I2,pl,q2⟩=>thn (hu pj s2 σ H2 _ I2 q2) fun vu s3 ⟨u,H3,I3,pu,q3⟩=>?_)
  rw[evalPart_none]
  refine wpAny_pure ?_
  have I4:Inv X pj σ H3 { s3 with heap:=s3.heap.push { cls:=.type "slice",data:=.fields #[vl,vu,.none] } }:=I3.kept (t':=s3.toks) fun b ob q=>Heap.get?_push_of_some _ q
  obtain⟨T,id,hT,ht,hg⟩:=hr pj { s3 with heap:=s3.heap.push { cls:=.type "slice",data:=.fields #[vl,vu,.none] } } σ H3 x v vl vu l u s3.heap.objs.size Q I4 r1 (Heap.IsSliceOf.new ..) pl pu q3
  show wpAny (model X.prog X.w) X.A (subscriptTail e (.Slice lo hi none p2) v (.ref s3.heap.objs.size)) (EP X pj σ Q) X.xe { s3 with heap:=s3.heap.push { cls:=.type "slice",data:=.fields #[vl,vu,.none] } }
  exact tail_any (ops:=[.ref s3.heap.objs.size,v]) ht hT hg (by with_unfolding_all rfl)
def CI(xs:List V)(lo hi:Option Int):List V:=(xs.drop (HT.iE xs.length 0 lo)).take (HT.iE xs.length xs.length hi-HT.iE xs.length 0 lo)
theorem uJ(xs:List V)(lo hi:Option Int):(CI xs lo hi).length<=xs.length:=by
  unfold CI
  rw[length_take,length_drop]
  ac_rfl
def RJ(K:W.Frag):V->Option Int->Option Int->Hp->VK->Prop:=fun x lo hi H Q=>∃a xs,x=.ref a/\mY K H a xs /\
  ¬(HT.iE xs.length 0 lo=0/\HT.iE xs.length xs.length hi=xs.length) /\ ∀p,H p=none->Q (.ref p) (upd H p (.tup (CI xs lo hi)))
theorem MW:O1 X (RJ X.K):=by
  intro pj s σ H x v vl vu lo hi sl Q I rx hs pl pu h
  obtain⟨a,xs,rfl,hx,hw,q⟩:=h
  cases rx
  obtain⟨its,r,ht,hz⟩:=I.tuple hx
  have hlen:its.toArray.size=xs.length:=by rw[size_toArray];exact r.length.symm
  refine⟨"tuple",_,PyProof.Rows.slot_tuple_getitem.lookup,ht.typeIs,?_⟩
  refine HT.sU ht hs pl pu (by rw[hlen];exact hw) ?_ (by rw[hlen];exact hz)
  rw[hlen]
  refine⟨.ref s.heap.objs.size,_,I.laid (t':=s.toks) (o:=.tup (CI xs lo hi)) (fun b ob q=>Heap.get?_push_of_some _ q) (le_refl _) ?_,rfl,q _ (I.hok.fresh (le_refl _))⟩
  exact⟨le_trans (uJ xs lo hi) hz,_,(r.drop (HT.iE xs.length 0 lo)).take (HT.iE xs.length xs.length hi-HT.iE xs.length 0 lo),IsTup.new _ _⟩
def Ol(K:W.Frag):R2:=fun x y H Q=>∃a b xs ys,x=.ref a/\y=.ref b/\mY K H a xs/\mY K H b ys/\xs≠[]/\xs.length+ys.length<=sizeLine /\
  (ys=[]->Q (.ref a) H)/\(ys≠[] -> ∀p,H p=none->Q (.ref p) (upd H p (.tup (xs++ys))))
theorem bV.nil_iff{xs:List V}{us:List Value}(r:bV xs us):us=[] ↔ xs=[]:=by
  cases r with
  |nil=>simp
  |cons _ _=>simp
theorem KY:n0 X (binaryOp .Add) (Ol X.K):=by
  intro pj s σ H x y v u Q I rx ry h
  obtain⟨a,b,xs,ys,rfl,rfl,ha,hb,hx,hz,q1,q2⟩:=h
  cases rx
  cases ry
  obtain⟨its,r1,p1,_⟩:=I.tuple ha
  obtain⟨its2,r2,p2,_⟩:=I.tuple hb
  refine HT.LS p1 p2 (fun z=>hx (r1.nil_iff.mp z)) (fun z=>⟨.ref a,H,I,rfl,q1 (r2.nil_iff.mp z)⟩) (fun z=>?_) (by rw[<- r1.length,<- r2.length];exact hz)
  refine⟨.ref s.heap.objs.size,_,I.laid (t':=s.toks) (o:=.tup (xs++ys)) (fun b ob q=>Heap.get?_push_of_some _ q) (le_refl _) ?_,rfl,q2 (fun w=>z (r2.nil_iff.mpr w)) _ (I.hok.fresh (le_refl _))⟩
  exact⟨by rw[length_append];exact hz,_,r1.append r2,IsTup.new _ _⟩
end
def v6(n:Nat)(i:Int):Option Nat:=if 0<=i then (if i<n then some i.toNat else none) else if -(n:Int)<=i then some (i+n).toNat else none
def t5{α:Type}(xs:List α)(i:Int):Option α:=(v6 xs.length i).bind fun j=>xs[j]?
theorem L8{n:Nat}{i:Int}{j:Nat}(h:v6 n i=some j):seqIndex? i n=some j/\j<n /\ -(n:Int)<=i/\i<n:=by
  unfold v6 at h
  by_cases h0:0<=i
  . rw[if_pos h0] at h
    by_cases h1:i<n
    . rw[if_pos h1] at h
      have e:i.toNat=j:=Option.some.inj h
      exact⟨by rw[seqIndex_of h0 h1,e],⋯,⋯,h1⟩
    . rw[if_neg h1] at h;cases h
  . rw[if_neg h0] at h
    by_cases h1:-(n:Int)<=i
    . rw[if_pos h1] at h
      have e:(i+n).toNat=j:=Option.some.inj h
      exact⟨by rw[seqIndex_neg ⋯ h1,e],⋯,h1,⋯⟩
    . rw[if_neg h1] at h;cases h
theorem Ad{α:Type}{xs:List α}{i:Int}{v:α}(h:t5 xs i=some v):∃j,seqIndex? i xs.length=some j/\xs[j]?=some v/\j<xs.length /\ -(xs.length:Int)<=i/\i<xs.length:=by
  unfold t5 at h
  cases e:v6 xs.length i with
  |none=>rw[e] at h;cases h
  |some j=>
    rw[e] at h
    obtain⟨h1,h2,h3,h4⟩:=L8 e
    exact⟨j,h1,h,h2,h3,h4⟩
def Ef(b:Expr):Prop:=∀o i,subscripted b false o i=operate [o,i] (getItem o i)
def JZ(X:Cx)(r:R2):Prop:=
  ∀(value slice:Expr) (pj:List (Addr×Obj)) (s:Shared) (σ:St) (H:Hp) (x y:V) (v u:Value) (Q:VK),Inv X pj σ H s->d7 x v->d7 y u->r x y H Q ->
    subscripted slice false v u=operate [v,u] (getItem v u)->wpAny (model X.prog X.w) X.A (subscriptTail value slice v u) (EP X pj σ Q) X.xe s
def S4(X:Cx)(id:String)(r:V->List V->Hp->VK->Prop):Prop:=
  ∀(pj:List (Addr×Obj)) (s:Shared) (σ:St) (H:Hp) (x:V) (xs:List V) (v:Value) (us:List Value) (Q:VK),Inv X pj σ H s->d7 x v->bV xs us->r x xs H Q ->
    wpAny (model X.prog X.w) X.A (call (.builtin id) (v::us)) (EP X pj σ Q) X.xe s
section
variable {X:Cx} {a b:Expr} {ta tb:TE} {pos:Pos}
theorem JZ.or{r r':R2}(h:JZ X r)(h':JZ X r'):JZ X (fun x y H Q=>r x y H Q \/ r' x y H Q):=by
  intro value slice pj s σ H x y v u Q I rx ry q hs
  rcases q with q | q
  . exact h value slice pj s σ H x y v u Q I rx ry q hs
  . exact h' value slice pj s σ H x y v u Q I rx ry q hs
theorem Oy{r:R2}(hr:JZ X r)(ha:PE X a ta)(hb:PE X b tb)(hs:Ef b):PE X (.Subscript a b pos) (OF r ta tb):=by
  intro pj s σ H Q I h
  exact Subscript_ (Ny ha hb I h fun v u s2 x y H2 I2 rx ry q=>hr a b pj s2 σ H2 x y v u Q I2 rx ry q (hs _ _))
def Oh(K:W.Frag):R2:=fun x y H Q=>∃p xs i v,x=.ref p/\y=.int i/\gM K H p xs/\t5 xs i=some v/\Q v H
def Of(K:W.Frag):R2:=fun x y H Q=>∃p xs i v,x=.ref p/\y=.int i/\mY K H p xs/\t5 xs i=some v/\Q v H
def Og:R2:=fun x y H Q=>∃z i c,x=.str z/\y=.int i/\z.length<=sizeLine/\t5 z.cps.toList i=some c/\Q (.str ⟨#[c]⟩) H
theorem L6:JZ X (Oh X.K):=by
  intro value slice pj s σ H x y v u Q I rx ry h hs
  obtain⟨p,xs,i,z,rfl,rfl,hq,he,q⟩:=h
  cases rx
  obtain⟨t,rfl⟩:=ry
  obtain⟨its,r,pl,hz⟩:=I.list hq
  obtain⟨j,h1,h2,h3,h4,h5⟩:=Ad he
  obtain⟨w,ew,rw'⟩:=r.get h2
  have hl:=r.length
  have hn:=tO
  have fin:EP X pj σ Q w s:=⟨z,H,I,rw',q⟩
  by_cases h0:0<=i
  . have hj:i.toNat=j:=by
      rw[seqIndex_of h0 h5] at h1
      exact Option.some.inj h1
    exact item_listR pl.isList h0 ⋯ (by rw[hj];simpa using ew) fin hs
  . have hj:(i+(its.toArray.size:Int)).toNat=j:=by
      rw[seqIndex_neg ⋯ h4] at h1
      rw[size_toArray,<- hl]
      exact Option.some.inj h1
    exact subscriptTail_builtinR (x:=w) pl.isList.typeIs slot_list_getitem.lookup
      (wpAny_getItem_list_neg (Q:=fun r s'=>r=w/\EP X pj σ Q r s') pl.isList ⋯ (by rw[size_toArray]<;>ac_rfl) ⋯ (by rw[hj];simpa using ew) ⟨rfl,fin⟩) hs
theorem Nb:JZ X (Of X.K):=by
  intro value slice pj s σ H x y v u Q I rx ry h hs
  obtain⟨p,xs,i,z,rfl,rfl,hq,he,q⟩:=h
  cases rx
  obtain⟨t,rfl⟩:=ry
  obtain⟨its,r,pl,hz⟩:=I.tuple hq
  obtain⟨j,h1,h2,h3,h4,h5⟩:=Ad he
  obtain⟨w,ew,rw'⟩:=r.get h2
  have hl:=r.length
  have hn:=tO
  have fin:EP X pj σ Q w s:=⟨z,H,I,rw',q⟩
  exact subscriptTail_builtinR (x:=w) pl.typeIs slot_tuple_getitem.lookup
    (getItem_tuple (j:=j) (Q:=fun r s'=>r=w/\EP X pj σ Q r s') pl ⋯ ⋯ (by rw[size_toArray,<- hl];exact h1) (by simpa using ew) ⟨rfl,fin⟩) hs
theorem Nc:JZ X Og:=by
  intro value slice pj s σ H x y v u Q I rx ry h hs
  obtain⟨z,i,c,rfl,rfl,hz,he,q⟩:=h
  obtain⟨t,rfl⟩:=rx
  obtain⟨t',rfl⟩:=ry
  obtain⟨j,h1,h2,h3,h4,h5⟩:=Ad he
  have hl:z.cps.toList.length=z.length:=by simp[Str.length]
  rw[hl] at h1 h4 h5
  have hn:=tO
  exact tail_any (typeIs_str s z t) slot_str_getitem.lookup (getItem_str (c:=c) (by
    have e1:decide (i < -(2 ^ 63:Int))=false:=decide_eq_false ⋯
    have e2:decide (i >= 2 ^ 63)=false:=decide_eq_false ⋯
    rw[e1,e2,Bool.or_false]) (by rw[h1];simpa using h2) ⟨.str ⟨#[c]⟩,H,I.tok _,⟨_,rfl⟩,q⟩) hs
def SN(K:W.Frag):R2:=fun x y H Q=>Oh K x y H Q \/ Of K x y H Q \/ Og x y H Q
theorem Nd:JZ X (SN X.K):=L6.or (Nb.or Nc)
theorem zK(lo hi:Option Int)(n:Nat):(sliceBounds lo hi none n).1=((HT.iE n 0 lo:Nat):Int)/\(sliceBounds lo hi none n).2.1=((HT.iE n n hi:Nat):Int)/\(sliceBounds lo hi none n).2.2=1:=by
  refine⟨?_,?_,rfl⟩
  . cases lo with
    |none=>simp[sliceBounds,HT.iE]
    |some i=>
      simp only[sliceBounds,HT.iE,getD_none,show (1:Int) > 0 by decide,if_true]
      by_cases h:i<0
      . simp only[h,if_true]<;>ac_rfl
      . simp only[h,if_false]<;>ac_rfl
  . cases hi with
    |none=>simp[sliceBounds,HT.iE]
    |some i=>
      simp only[sliceBounds,HT.iE,getD_none,show (1:Int) > 0 by decide,if_true]
      by_cases h:i<0
      . simp only[h,if_true]<;>ac_rfl
      . simp only[h,if_false]<;>ac_rfl
theorem xJ(its:List Value)(lo hi:Option Int):slicePick its.toArray lo hi none=((its.drop (HT.iE its.length 0 lo)).take (HT.iE its.length its.length hi-HT.iE its.length 0 lo)).toArray:=by
  obtain⟨h1,h2,h3⟩:=zK lo hi its.toArray.size
  unfold slicePick
  rw[h1,h2,h3]
  simp only[sliceRange_one,pick_run,size_toArray]<;>rfl
def RK(K:W.Frag):V->Option Int->Option Int->Hp->VK->Prop:=fun x lo hi H Q=>∃a xs,x=.ref a/\gM K H a xs /\ ∀p,H p=none->Q (.ref p) (upd H p (.lst (CI xs lo hi)))
theorem Jj:O1 X (RK X.K):=by
  intro pj s σ H x v vl vu lo hi sl Q I rx hs pl pu h
  obtain⟨a,xs,rfl,hx,q⟩:=h
  cases rx
  obtain⟨its,r,ht,hz⟩:=I.list hx
  have hlen:=r.length
  refine⟨"list",_,slot_list_getitem.lookup,ht.isList.typeIs,?_⟩
  refine wpAny_getItem_list_slice ht.isList hs pl pu .none (by simp) ?_ (by rw[size_toArray]<;>ac_rfl)
  rw[xJ,<- hlen]
  refine⟨.ref s.heap.objs.size,_,I.laid (t':=s.toks) (o:=.lst (CI xs lo hi)) (fun b ob q=>Heap.get?_push_of_some _ q) (le_refl _) ?_,rfl,q _ (I.hok.fresh (le_refl _))⟩
  exact⟨le_trans (uJ xs lo hi) hz,_,0,(r.drop (HT.iE xs.length 0 lo)).take (HT.iE xs.length xs.length hi-HT.iE xs.length 0 lo),Heap.get?_push_size _ rfl⟩
theorem Aa:gO X (.builtin "len") (fun xs H Q=>∃p ys,xs=[.ref p]/\(gM X.K H p ys \/ mY X.K H p ys)/\Q (.int ys.length) H):=by
  intro pj s σ H xs us Q I r h
  obtain⟨p,ys,rfl,hq,q⟩:=h
  obtain⟨u,rfl,rx⟩:=lJ r
  cases rx
  have hn:=tO
  rcases hq with hq | hq
  . obtain⟨its,r',pl,hz⟩:=I.list hq
    have hlen:=r'.length
    exact Calls.call_len_list pl.isList (by simp only[size_toArray]<;>ac_rfl) ⟨.int ys.length,H,I.tok _,⟨s.toks+1,by rw[size_toArray,hlen]⟩,q⟩
  . obtain⟨its,r',pl,hz⟩:=I.tuple hq
    have hlen:=r'.length
    exact len_tuple pl (by simp only[size_toArray]<;>ac_rfl) ⟨.int ys.length,H,I.tok _,⟨s.toks+1,by rw[size_toArray,hlen]⟩,q⟩
theorem AZ:gO X (.builtin "len") (fun xs H Q=>∃z,xs=[.str z]/\z.length<=sizeLine/\Q (.int z.length) H):=by
  intro pj s σ H xs us Q I r h
  obtain⟨z,rfl,hz,q⟩:=h
  obtain⟨u,rfl,t,rfl⟩:=lJ r
  have hn:=tO
  exact len_str ⋯ ⟨.int z.length,H,I.tok _,⟨_,rfl⟩,q⟩
theorem gO.or{f:Value}{r r':List V->Hp->VK->Prop}(h:gO X f r)(h':gO X f r'):gO X f (fun xs H Q=>r xs H Q \/ r' xs H Q):=by
  intro pj s σ H xs us Q I rs q
  rcases q with q | q
  . exact h pj s σ H xs us Q I rs q
  . exact h' pj s σ H xs us Q I rs q
theorem AY:gO X (.type "list") (fun xs H Q=>∃p ys,xs=[.ref p]/\(gM X.K H p ys \/ mY X.K H p ys) /\ ∀l,H l=none->Q (.ref l) (upd H l (.lst ys))):=by
  intro pj s σ H xs us Q I r h
  obtain⟨p,ys,rfl,hq,q⟩:=h
  obtain⟨u,rfl,rx⟩:=lJ r
  cases rx
  have fin:∀(its:List Value),bV ys its->ys.length<=sizeLine -> ∀(h':Heap) (c':Nat),(∀b o',s.heap.get? b=some o'->h'.get? b=some o') ->
      h'.get? s.heap.objs.size=some { cls:=.type "list",dict:=none,data:=.seq its.toArray c',slots:=#[] }->EP X pj σ Q (.ref s.heap.objs.size) { s with heap:=h' }:=fun its r' hz h' c' kp e=>
    ⟨.ref s.heap.objs.size,_,I.laid (t':=s.toks) kp (le_refl _) (show dR X.prog X.w _ h' _ (.lst ys) from⟨hz,its,c',r',e⟩),rfl,q _ (I.hok.fresh (le_refl _))⟩
  rcases hq with hq | hq
  . obtain⟨its,r',pl,hz⟩:=I.list hq
    have hlen:=r'.length
    obtain⟨o,ho,hc,n,hd⟩:=pl.isList
    exact call_list_seq p (.inl rfl) ho hc hd (fun h' c' kp e=>fin its r' hz h' c' kp e) (by simp only[size_toArray]<;>ac_rfl)
  . obtain⟨its,r',pl,hz⟩:=I.tuple hq
    have hlen:=r'.length
    obtain⟨o,ho,hc,n,hd⟩:=pl
    exact call_list_seq p (.inr rfl) ho hc hd (fun h' c' kp e=>fin its r' hz h' c' kp e) (by simp only[size_toArray]<;>ac_rfl)
theorem xX:gO X (.type "tuple") (fun xs H Q=>∃p ys,xs=[.ref p]/\((gM X.K H p ys /\ ∀l,H l=none->Q (.ref l) (upd H l (.tup ys))) \/ (mY X.K H p ys/\Q (.ref p) H))):=by
  intro pj s σ H xs us Q I r h
  obtain⟨p,ys,rfl,h⟩:=h
  obtain⟨u,rfl,rx⟩:=lJ r
  cases rx
  rcases h with⟨hq,q⟩ | ⟨hq,q⟩
  . obtain⟨its,r',pl,hz⟩:=I.list hq
    have hlen:=r'.length
    refine call_tuple_list pl.isList (fun h' kp=>?_) (by simp only[size_toArray]<;>ac_rfl)
    have I1:Inv X pj σ H { s with heap:=h' }:=I.kept (t':=s.toks) kp
    have I2:Inv X pj σ (upd H h'.objs.size (.tup ys)) { s with heap:=h'.push { cls:=.type "tuple",data:=.seq its.toArray } }:=
      I1.laid (t':=s.toks) (fun b o e=>Heap.get?_push_of_some _ e) (le_refl _) (show dR X.prog X.w _ _ _ (.tup ys) from⟨hz,its,r',IsTup.new _ _⟩)
    exact⟨.ref h'.objs.size,_,I2,rfl,q _ (I1.hok.fresh (le_refl _))⟩
  . obtain⟨its,r',pl,hz⟩:=I.tuple hq
    exact call_tuple_same pl ⟨.ref p,H,I,rfl,q⟩
def Qy(K:W.Frag)(T:String)(x:V)(H:Hp):Prop:=match x with
  | .str _=>T = "str"
  | .int _=>T = "int"
  | .ref p=>(T = "list" /\ ∃xs,gM K H p xs) \/ (T = "tuple" /\ ∃o,K.lookup p=some o/\o.cls=.type "tuple" /\ o.dict=none) \/
      (T = "dict" /\ ((∃kvs,H p=some (.dK kvs)) \/ ∃ep kvs,H p=some (.dT ep kvs))) \/ (T = "set" /\ ∃S n,H p=some (.set S n))
  |_=>False
theorem GO{pj:List (Addr×Obj)}{σ:St}{H:Hp}{s:Shared}{T:String}{x:V}{v:Value}(I:Inv X pj σ H s)(r:d7 x v)(ty:Qy X.K T x H):
    s.TypeIs v T /\ ∀a,v=.ref a -> ∃ob,s.heap.get? a=some ob/\ob.dict=none:=by
  cases x with
  |str z=>
    obtain⟨t,rfl⟩:=r
    cases (show T = "str" from ty)
    exact⟨typeIs_str s z t,fun _ e=>nomatch e⟩
  |int i=>
    obtain⟨t,rfl⟩:=r
    cases (show T = "int" from ty)
    exact⟨typeIs_int s i t,fun _ e=>nomatch e⟩
  |ref p=>
    cases r
    rcases ty with⟨rfl,xs,hq⟩ | ⟨rfl,o,hk,hc,hd⟩ | ⟨rfl,hk⟩ | ⟨rfl,S,n,hk⟩
    . obtain⟨its,_,pl,_⟩:=I.list hq
      refine⟨pl.isList.typeIs,fun a e=>?_⟩
      cases e
      obtain⟨o,n,e,c,hd,_⟩:=pl
      exact⟨o,e,hd⟩
    . refine⟨⟨o,I.kIn p o hk,hc⟩,fun a e=>?_⟩
      cases e
      exact⟨o,I.kIn _ o hk,hd⟩
    . have z:∃o,s.heap.get? p=some o/\o.ExactDict:=by
        rcases hk with⟨kvs,hk⟩ | ⟨ep,kvs,hk⟩
        . obtain⟨_,_,_,_,o,_,_,e,ex,_⟩:=I.hok p _ hk
          exact⟨o,e,ex⟩
        . obtain⟨_,_,_,_,o,_,e,ex,_⟩:=I.hok p _ hk
          exact⟨o,e,ex⟩
      obtain⟨o,e,ex⟩:=z
      refine⟨⟨o,e,ex.1⟩,fun a e2=>?_⟩
      cases e2
      exact⟨o,e,ex.2.1⟩
    . obtain⟨o,_,_,_,e,ex,_⟩:=I.hok p _ hk
      refine⟨⟨o,e,ex.1⟩,fun a e2=>?_⟩
      cases e2
      exact⟨o,e,ex.2.1⟩
  |_=>exact False.elim ty
def RF(K:W.Frag)(T:String)(r:V->List V->Hp->VK->Prop)(to:TE):TE:=fun σ H Q=>to σ H fun x H1=>Qy K T x H1/\r x [] H1 Q
def SM(K:W.Frag)(T:String)(r:V->List V->Hp->VK->Prop)(to:TE)(t:TA):TE:=fun σ H Q=>to σ H fun x H1=>Qy K T x H1/\t σ H1 fun xs H2=>r x xs H2 Q
variable {o e:Expr} {es:List Expr} {to:TE} {t:TA} {name:Str} {apos cpos:Pos} {T id:String} {r:V->List V->Hp->VK->Prop}
theorem Mv(pa:PlainAttrs T)(slot:Slot T name id)(hty:typeOf (.builtin id)=pure (.type "method_descriptor"))(hm:S4 X id r)(ho:PE X o to)
    (hbase:attributeBase o name X.env (eval o X.env)=eval o X.env:=by rfl) (hline:(apos.endLine==cpos.line)=true:=by rfl):PE X (.Call (.Attribute o name apos) [] [] cpos) (RF X.K T r to):=by
  intro pj s σ H Q I h
  refine wpAny_Call_method0_late hbase hline (thn (ho pj s σ H _ I h) fun v s1 ⟨x,H1,I1,r1,ty,q1⟩=>?_)
  obtain⟨h1,h2⟩:=GO I1 r1 ty
  exact⟨T,id,pa,slot,hty,h1,h2,Calls.callWith_builtin rfl (PySem.evalArgs_none (hm pj s1 σ H1 x [] v [] Q I1 r1 .nil q1))⟩
theorem HJ(pa:PlainAttrs T)(slot:Slot T name id)(hty:typeOf (.builtin id)=pure (.type "method_descriptor"))(hm:S4 X id r)(ho:PE X o to)(ha:PA X (e::es) t)
    (hbase:attributeBase o name X.env (eval o X.env)=eval o X.env:=by rfl)
    (hfew:((backTo cpos (starEach (e::es) X.env)).all (fun x=>!x.1)&&(backToKw cpos (keywordEach [] X.env)).all (fun x=>x.1.isSome)
      && decide ((e::es).length+([]:List Keyword).length+(if ([]:List Keyword).isEmpty then 0 else 1)<30))=true:=by rfl)
    (hline:(apos.endLine==cpos.line)=true:=by rfl) (hs:starEach (e::es) X.env=(false,eval e X.env)::starEach es X.env:=by rfl) (hplain:(backTo cpos (starEach es X.env)).any (·.1)=false:=by rfl):
    PE X (.Call (.Attribute o name apos) (e::es) [] cpos) (SM X.K T r to t):=by
  intro pj s σ H Q I h
  refine wpAny_Call_method_late hbase hfew hline rfl (thn (ho pj s σ H _ I h) fun v s1 ⟨x,H1,I1,r1,ty,q1⟩=>?_)
  obtain⟨h1,h2⟩:=GO I1 r1 ty
  refine⟨T,id,pa,slot,hty,h1,h2,?_⟩
  have hA:=ha cpos pj s1 σ H1 _ I1 q1
  rw[hs] at hA ⊢
  refine Calls.callWith_builtin (by show (false || (backTo cpos (starEach es X.env)).any (·.1))=false;rw[hplain]<;>rfl) (Calls.evalArgs_plain ?_)
  exact thn hA fun us s2 ⟨vs,H2,I2,r2,q2⟩=>hm pj s2 σ H2 x vs v us Q I2 r1 r2 q2
/- xs.append(e),list.index on a module's tuple .. are S4 facts of 06m -/
end
def Qv(X:Cx)(id:String)(r:V->List V->Hp->VK->Prop):Prop:=
  ∀(pj:List (Addr×Obj)) (s:Shared) (σ:St) (H:Hp) (x:V) (xs:List V) (v:Value) (us:List Value) (Q:VK),Inv X pj σ H s->d7 x v->bV xs us->r x xs H Q ->
    wpAny (model X.prog X.w) X.A (call (.builtin id) (v::us)) (EP X pj σ Q) X.xe s
theorem bV.one:∀{x:V} {us:List Value},bV [x] us -> ∃u,us=[u]/\d7 x u
  |_,_,.cons r .nil=>⟨_,rfl,r⟩
theorem bV.zero:∀{us:List Value},bV [] us->us=[]
  |_,.nil=>rfl
theorem bV.eraseIdx:∀{xs:List V} {us:List Value} (i:Nat),bV xs us->bV (xs.eraseIdx i) (us.eraseIdx i)
  |_,_,_,.nil=>.nil
  |_,_,0,.cons _ t=>t
  |_,_,i+1,.cons r t=>.cons r (bV.eraseIdx i t)
theorem bV.rep{xs:List V}{us:List Value}(h:bV xs us):∀k:Nat,bV (List.replicate k xs).flatten (List.replicate k us).flatten
  |0=>.nil
  |k+1=>by
    rw[replicate_succ,replicate_succ,flatten_cons,flatten_cons]
    exact bV.append h (bV.rep h k)
theorem yQ{α:Type}:∀(l:List α) (i:Nat),(l.eraseIdx i).length<=l.length
  | [],_=>le_refl _
  |_::_,0=>le_succ _
  |_::r,i+1=>Nat.succ_le_succ (yQ r i)
theorem yX(its:List Value):∀(k:Nat) (acc:List Value),
    List.foldl (fun x1 x2=>x1++x2) acc.toArray (List.replicate k its.toArray)=(acc++(List.replicate k its).flatten).toArray
  |0,acc=>by simp
  |k+1,acc=>by
    have e:acc.toArray++its.toArray=(acc++its).toArray:=by simp
    have e2:(acc++its)++(List.replicate k its).flatten=acc++(List.replicate (k+1) its).flatten:=by
      rw[replicate_succ,flatten_cons,append_assoc]
    rw[<- e2,<- yX its k (acc++its),<- e,replicate_succ,List.foldl_cons]
section
variable {X:Cx} {pj:List (Addr×Obj)} {σ:St} {H:Hp} {s:Shared} {l b:Addr} {xs ys zs:List V}
theorem Inv.lset{its its':List Value}{n:Nat}{f:Array Value->Array Value}{t':Nat}(I:Inv X pj σ H s)(hH:H l=some (.lst xs))
    (e:s.heap.get? l=some { cls:=.type "list",data:=.seq its.toArray n }) (hf:f its.toArray=its'.toArray) (hv:bV ys its') (hz:ys.length<=sizeLine):
    Inv X pj σ (upd H l (.lst ys)) { s with heap:=s.heap.update l (Obj.mapSeq f),toks:=t' }:=by
  have q:=PySem.IsL.update e f
  rw[hf] at q
  refine I.write (x:=l) (e:=l) (by rw[hH];exact trivial) (.inl rfl) (fun b' u hb hu=>(Heap.get?_update_other s.heap (Obj.mapSeq f) (Ne.symm hb)).trans hu) ⟨_,q⟩ ?_
  exact⟨hz,its',_,hv,q⟩
theorem Inv.lnew{its:List Value}{t':Nat}(I:Inv X pj σ H s)(hv:bV ys its)(hz:ys.length<=sizeLine):
    Inv X pj σ (upd H s.heap.objs.size (.lst ys)) { s with heap:=s.heap.push { cls:=.type "list",data:=.seq its.toArray },toks:=t' }:=
  I.laid (fun _ _ q=>Heap.get?_push_of_some _ q) (le_refl _) ⟨hz,its,0,hv,Heap.get?_push_size _ rfl⟩
theorem Inv.fresh(I:Inv X pj σ H s):H s.heap.objs.size=none:=I.hok.fresh (le_refl _)
theorem Inv.lstM(I:Inv X pj σ H s)(hH:H l=some (.lst xs)):xs.length<=sizeLine /\ ∃(its:List Value) (n:Nat),bV xs its/\xs.length=its.length/\s.heap.get? l=some { cls:=.type "list",data:=.seq its.toArray n }:=by
  obtain⟨z,its,n,r,e⟩:=I.hok l _ hH
  exact⟨z,its,n,r,r.length,e⟩
theorem Bh{n:Nat}(h:n<=sizeLine):Builtin.List.listTooLong n=false:=by
  unfold Builtin.List.listTooLong
  exact decide_eq_false ⋯
end
section
variable {X:Cx}
def Jq:V->List V->Hp->VK->Prop:=fun x vs H Q=>∃l xs y,x=.ref l/\vs=[y]/\H l=some (.lst xs)/\xs.length<sizeLine/\Q .non (upd H l (.lst (xs++[y])))
theorem yN:Qv X "list.append" Jq:=by
  intro pj s σ H x vs v us Q I rx rv h
  obtain⟨l,xs,y,rfl,rfl,hH,hz,q⟩:=h
  cases rx
  obtain⟨u,rfl,ru⟩:=rv.one
  obtain⟨z,its,n,r,hl,e⟩:=I.lstM hH
  refine call_meets F.slot_list_append ⟨_,e,rfl⟩ F.entry_list_append (F.args_list_append_2 _ _) (PySem.list_append l its.toArray n u (by rw[size_toArray];ac_rfl)) ⟨e,?_⟩
  refine⟨.non,_,I.lset (its':=its++[u]) hH e (by simp) (r.append (.cons ru .nil)) ?_,rfl,q⟩
  rw[length_append,length_singleton]
  ac_rfl
def Jp:V->List V->Hp->VK->Prop:=fun x vs H Q=>∃l b xs zs,x=.ref l/\vs=[.ref b]/\H l=some (.lst xs)/\H b=some (.lst zs)/\xs.length+zs.length<=sizeLine/\Q .non (upd H l (.lst (xs++zs)))
theorem FV:Qv X "list.extend" Jp:=by
  intro pj s σ H x vs v us Q I rx rv h
  obtain⟨l,b,xs,zs,rfl,rfl,hH,hB,hz,q⟩:=h
  cases rx
  obtain⟨u,rfl,ru⟩:=rv.one
  cases ru
  obtain⟨z,its,n,r,hl,e⟩:=I.lstM hH
  obtain⟨z2,its2,n2,r2,hl2,e2⟩:=I.lstM hB
  have hsz:its.toArray.size+its2.toArray.size<=sizeLine:=by rw[size_toArray,size_toArray];ac_rfl
  have hlong:¬(!its.toArray.isEmpty&&Builtin.List.listTooLong (its.toArray.size+its2.toArray.size))=true:=by
    rw[Bh hsz,Bool.and_false]
    exact Bool.false_ne_true
  refine call_meets F.slot_list_extend ⟨_,e,rfl⟩ F.entry_list_extend (F.args_list_extend_2 _ _)
    (AutoSeq1.list_extend_list_list_0 l its.toArray n b its2.toArray n2 hlong (by rw[size_toArray];ac_rfl) ⋯) ⟨e,e2,?_⟩
  refine⟨.non,_,I.lset (its':=its++its2) hH e (by simp) (r.append r2) ?_,rfl,q⟩
  rw[length_append]
  ac_rfl
def MZ:V->List V->Hp->VK->Prop:=fun x vs H Q=>∃l xs,x=.ref l/\vs=[]/\H l=some (.lst xs)/\Q .non (upd H l (.lst []))
theorem Hz:Qv X "list.clear" MZ:=by
  intro pj s σ H x vs v us Q I rx rv h
  obtain⟨l,xs,rfl,rfl,hH,q⟩:=h
  cases rx
  have hus:=rv.zero
  subst hus
  obtain⟨z,its,n,r,hl,e⟩:=I.lstM hH
  refine call_meets F.slot_list_clear ⟨_,e,rfl⟩ F.entry_list_clear (F.args_list_clear_1 _) (AutoSeq1.list_clear_list_0 l its.toArray n (by rw[size_toArray];ac_rfl)) ⟨e,?_⟩
  exact⟨.non,_,I.lset (its':=[]) (ys:=[]) hH e rfl .nil (zero_le _),rfl,q⟩
def RS:R2:=fun x y H Q=>∃l b xs zs,x=.ref l/\y=.ref b/\H l=some (.lst xs)/\H b=some (.lst zs)/\xs.length+zs.length<=sizeLine /\ ∀p,H p=none->Q (.ref p) (upd H p (.lst (xs++zs)))
theorem N8:n0 X (binaryOp .Add) RS:=by
  intro pj s σ H x y v u Q I rx ry h
  obtain⟨l,b,xs,zs,rfl,rfl,hH,hB,hz,q⟩:=h
  cases rx
  cases ry
  obtain⟨z,its,n,r,hl,e⟩:=I.lstM hH
  obtain⟨z2,its2,n2,r2,hl2,e2⟩:=I.lstM hB
  refine PySem.P.add_list e e2 ?_ (by rw[size_toArray,size_toArray];ac_rfl)
  have ea:its.toArray++its2.toArray=(its++its2).toArray:=by simp
  rw[ea]
  exact⟨.ref _,_,I.lnew (t':=s.toks) (r.append r2) (by rw[length_append];ac_rfl),rfl,q _ I.fresh⟩
def RL:R2:=fun x y H Q=>∃l k xs,x=.ref l/\y=.int k/\H l=some (.lst xs) /\ -(2 ^ 63)<=k/\k<2 ^ 63/\xs.length*k.toNat<=sizeLine /\
  ∀p,H p=none->Q (.ref p) (upd H p (.lst (List.replicate k.toNat xs).flatten))
theorem Kk{α:Type}(xs:List α)(k:Nat):(List.replicate k xs).flatten.length=k*xs.length:=by
  induction k with
  |zero=>simp
  |succ k ih=>rw[replicate_succ,flatten_cons,length_append,ih,succ_mul,add_comm]
theorem N1:n0 X (binaryOp .Mult) RL:=by
  intro pj s σ H x y v u Q I rx ry h
  obtain⟨l,k,xs,rfl,rfl,hH,h1,h2,hz,q⟩:=h
  cases rx
  obtain⟨t,rfl⟩:=ry
  obtain⟨z,its,n,r,hl,e⟩:=I.lstM hH
  have hlen:its.toArray.size*k.toNat<=sizeLine:=by rw[size_toArray,<- hl];exact hz
  have hcap:¬its.toArray.size*k.toNat > (2 ^ 63-1) / 8:=by
    have:(sizeLine:Nat)<=(2 ^ 63-1) / 8:=by decide
    ac_rfl
  have hfit:¬(!Builtin.List.listFitsIndex k)=true:=by
    rw[fitsIndex_both h1 h2]
    exact Bool.false_ne_true
  have hlong:¬Builtin.List.listTooLong (its.toArray.size*k.toNat)=true:=by
    rw[Bh hlen]
    exact Bool.false_ne_true
  have hnew:List.foldl (fun x1 x2=>x1++x2) #[] (List.replicate (if its.toArray.isEmpty=true then 0 else k.toNat) its.toArray)=(List.replicate k.toNat its).flatten.toArray:=by
    have f0:∀m:Nat,List.foldl (fun x1 x2=>x1++x2) #[] (List.replicate m its.toArray)=(List.replicate m its).flatten.toArray:=fun m=>by
      have:=yX its m []
      rw[nil_append] at this
      exact this
    rw[f0]
    cases its with
    |nil=>simp
    |cons a r'=>rw[if_neg (by simp)]
  refine wpAny_binaryOp_repeat_ref (T:="list") (U:="int") ∅ ⟨_,e,rfl⟩ (fun s'=>typeIs_int s' k t) noFill_list_mul F.fills_int_mul F.slot_int_rmul repeat_list F.slot_int_index.lookup
    (call_meets F.slot_int_rmul (typeIs_int s k t) F.entry_int_rmul (F.args_int_rmul_2 _ _) (int___rmul___int_list k t l its.toArray n)
      ⟨e,rfl,⟨_,e,rfl⟩,call_meets F.slot_list_mul ⟨_,e,rfl⟩ F.entry_list_mul (F.args_list_mul_2 _ _) (AutoListH.list___mul___list_int_3 l its.toArray n k t hfit hcap hlong) ⟨e,?_⟩⟩)
  rw[hnew]
  exact⟨.ref _,_,I.lnew (t':=s.toks) (r.rep k.toNat) (by rw[Kk,Nat.mul_comm];exact hz),rfl,q _ I.fresh⟩
end
section
variable {prog:Program} {w:World} {A:Around} {E:Value->Shared->Prop} {s:Shared}
end
section
variable {X:Cx}
end
end L2
namespace Att
open PySem PySem.W PySem.Calls PyProof.Rows
theorem uR{P:Params}{h:Heap}:∀(ns:List Int) (vs:List Value),WellAll P h vs (ns.map WData.int)->IntsAre vs ns:=by
  intro ns
  induction ns with
  |nil=>
    intro vs w
    rw[map_nil] at w
    cases w
    exact .nil
  |cons n ns ih=>
    intro vs w
    rw[map_cons] at w
    cases w with
    |cons a b=>
      cases a
      exact .cons _ _ (ih _ b)
theorem Ew{l:OpenLaw}{n:Nat}(hn:l.most=some n){P:Params}{h:Heap}{args:List WData}{vals:List Value}
    (hpre:l.row.toRowW.claim.pre args=true) (hwl:WellAll P h vals args):
    ∃a vs ns,vals=[Value.ref a]/\args=[WData.list (ns.map WData.int)]/\h.get? a=some { cls:=.type "list",data:=.seq vs.toArray }/\IntsAre vs ns/\ns.length<=n:=by
  have hsh:WShape.hasAll [] args [.list .int]=true:=(pre_splitW hpre).1
  have hc:l.pre.holds [] { args:=args }=true:=(pre_splitW hpre).2
  obtain⟨d,r,rfl,h1,h2⟩:=hasAllW_cons hsh
  obtain rfl:=hasAllW_nil h2
  obtain⟨xs,rfl,h3⟩:=hasW_list h1
  obtain⟨ns,rfl⟩:=items_int h3
  have hlen:ns.length<=n:=by
    unfold OpenLaw.pre at hc
    have h4:(WTm.not (.lt (.lit (.int (n:Int))) (.len (.arg 0)))).holds [] { args:=[.list (ns.map .int)] }=true:=by
      have h4:=(holds_andW hc).1
      rw[hn] at h4
      exact h4
    have h5:=condW_of h4 (w_not (w_lt w_lit (w_len_list (w_arg rfl))))
    rw[length_map] at h5
    refine le_of_not_lt fun q=>?_
    have q':(n:Int)<((ns.length:Nat):Int):=⋯
    first
      | (rw[decide_eq_true q'] at h5;exact absurd h5 ∅)
      | (simp at h5;ac_rfl)
  cases hwl with
  |cons w1 w2=>
    cases w2
    cases w1 with
    |list ho hall=>exact⟨_,_,ns,rfl,rfl,ho,uR ns _ hall,hlen⟩
theorem FC(l:OpenLaw)(args:List WData):l.row.toRowW.claim.post args (.bool true) args=true:=
  postW_of (r:=l.row.toRowW) (X:=(true==true))
    (show WShape.has [] (.bool true) .bool=true by first | rfl | decide | simp[WShape.has,WShape.arms,WShape.armsAll])
    (show (WTm.eq .res (.lit (.bool true))).value [] { args:=args,res:=some (.bool true),after:=args }=some (.bool (true==true)) from w_eq_bool (w_res rfl) w_lit) rfl
theorem CO{l:OpenLaw}{n:Nat}{q:Program}{loose:List Str}{XP:(Str->Option Value)->Heap->Prop}{YP:World->Heap->Prop}{d:DefRec}
    (hn:l.most=some n) (hdf:d.params.defaults=[])
    (call:∀(w:World) (s₀ s₁:Shared) (mg mb:Str->Option Value) (fa:Addr) (o:Obj) (pm cd doc:Value) (a:Addr) (vs:List Value) (ns:List Int),
      Ground q loose [] XP w s₀ mg mb s₁.heap->YP w s₁.heap ->
      s₁.heap.get? fa=some o->o.data=.func (docDef d.name d.params d.body d.scope pm cd doc)->s₁.heap.CodeRec cd d.name->mg d.name=some (.ref fa) ->
      s₁.heap.get? a=some { cls:=.type "list",data:=.seq vs.toArray }->IntsAre vs ns->ns.length<=n->s₁.gens = #[] ->
      codeAny (model l.prog w) callerA (.call (.ref fa) ⟨[.ref a],[]⟩) (fun r s'=>r=.ok (.ret (.bool true))/\OldK s₁.heap s'.heap/\s'.os=s₁.os/\AllBare s'.gens) s₁):
    WalkO q loose XP YP l.row.toRowW d [] (fun f vs=>PySem.call f vs):=by
  intro w s₀ s₁ mg mb G Y fa o pm cd doc dV kV ho hd hcd hD hmg hg args vals as hpre hlay hrd hwl hlo
  obtain rfl:dV=.none:=Dflts.none hD hdf
  obtain rfl:kV=.none:=Dflts.noKw hD
  obtain⟨a,vs,ns,rfl,rfl,hobj,hints,hlen⟩:=Ew hn hpre hwl
  refine enter_call (codeAny_mono (call w s₀ s₁ mg mb fa o pm cd doc a vs ns G Y ho (fd_plain hd) hcd hmg hobj hints hlen hg) fun r s' hq=>?_)
  obtain⟨rfl,h2,h3,h4⟩:=hq
  exact⟨.inl ⟨.bool true,.bool true,[],rfl,fun _=>rfl,.bool true,FC l _,fun _=>⟨List.Pairwise.nil,fun _ hm=>(nomatch hm)⟩⟩,h2,h3,h4⟩
section
variable {prog:Program} {w:World} {A:Around} {E:Value->Shared->Prop} {s:Shared} {K:Frag}
end
end Att
namespace L2
theorem y8:∀{vs:List Value} {ns:List Int},IntsAre vs ns->bV (ns.map V.int) vs
  |_,_,.nil=>.nil
  |_,_,.cons n t h=>.cons ⟨t,rfl⟩ (y8 h)
def JV(H:Hp):Prop:=∀b,H b=none \/ ∃o xs,H b=some (.frz o (.lst xs))
theorem IV{P:Program}{w:World}{K:W.Frag}{mg mb:Str->Option Value}{CX:JX}{k:Nat}{fa a:Addr}{fd:FuncData}{x:Str}{sp:Sp}{s₁:Shared}{vs:List Value}{ns:List Int}
    (KX:K.In s₁.heap) (hns:s₁.heap.Ns mainGlobals mg) (hb:s₁.heap.Ns builtinsNs mb) (hbb:∀x:Str,x ≠ "__name__" -> mb x=bootBuiltins x) (hlim:s₁.heap.NoLimit) (hg:s₁.gens = #[])
    (ha:s₁.heap.get? a=some { cls:=.type "list",data:=.seq vs.toArray }) (hi:IntsAre vs ns) (hl:ns.length<=sizeLine) (hr:Room k callerA)
    (F:∀base:Heap,K.In base->base.Ns mainGlobals mg->FnOk P w K mg base CX k fa fd [x] sp) (hbind:∀(s:Shared) (u:Value),BindsTo s fd ⟨[u],[]⟩ [(x,u)])
    (hsp:∀H:Hp,JV H->gM K H a (ns.map V.int)->sp [.ref a] H (fun v _=>v=.bl true) fun _ _ _=>False)
    (hCX:∀H e s',CX [] H s₁ (fun _ _ _=>False) e s'->False):
    codeAny (model P w) callerA (.call (.ref fa) ⟨[.ref a],[]⟩) (fun r s'=>r=.ok (.ret (.bool true))/\OldK s₁.heap s'.heap/\s'.os=s₁.os/\AllBare s'.gens) s₁:=by
  have rv:=y8 hi
  have lenV:=hi.length
  have core:∀H:Hp,JV H->gM K H a (ns.map V.int)->rY P w H s₁.heap->(∀b,H b≠none->b=a)->(H a≠none->K.lookup a=none) ->
      codeAny (model P w) callerA (.call (.ref fa) ⟨[.ref a],[]⟩) (fun r s'=>r=.ok (.ret (.bool true))/\OldK s₁.heap s'.heap/\s'.os=s₁.os/\AllBare s'.gens) s₁:=by
    intro H hO hS hok hA hK
    have base_of:∀{b:Addr} {o:Obj},s₁.heap.get? b=some o->H b=none->(AB s₁.heap H).get? b=some o:=fun e n=>J2 e n
    have noA:∀{b:Addr} {o:Obj} {es:Array DictEntry} {ep:Nat},s₁.heap.get? b=some o->o.data=.dict es ep->H b=none:=fun {b o es ep} e d=>by
      cases q:H b with
      |none=>rfl
      |some u=>
        have e':b=a:=hA b (by rw[q];simp)
        subst e'
        rw[ha] at e;cases e
        have d':Data.seq vs.toArray _=Data.dict es ep:=d
        cases d'
    have nsK:∀{b:Addr} {m:Str->Option Value},s₁.heap.Ns b m->(AB s₁.heap H).Ns b m:=fun {b m} ⟨o,es,ep,e,d,r⟩=>⟨o,es,ep,base_of e (noA e d),d,r⟩
    have hKb:K.In (AB s₁.heap H):=fun b o e=>base_of (KX b o e) (by
      cases q:H b with
      |none=>rfl
      |some u=>
        have e':b=a:=hA b (by rw[q];simp)
        subst e'
        rw[hK (by rw[q];simp)] at e;cases e)
    have hM:Mod K mg (AB s₁.heap H):=⟨hKb,nsK hns,⟨mb,nsK hb,hbb⟩,let ⟨mc,h1,h2⟩:=hlim;⟨mc,nsK h1,h2⟩⟩
    have e0:Env0 P w K mg (AB s₁.heap H) callerA [] s₁ H:=⟨rfl,hM,fun b o e=>KZ e,le_of_eq (Fv _ _),trivial,fun b hb=>absurd (show b∈([]:List Addr) from hb) (by simp),hok,.of_eq hg⟩
    refine codeAny_mono ((F _ hKb (nsK hns)).run callerA [] s₁ H ⟨[.ref a],[]⟩ [.ref a] [.ref a] _ _ hr e0 (hbind s₁ (.ref a)) (.cons rfl .nil) (hsp H hO hS)) fun r s' h=>?_
    cases r with
    |error e=>exact(hCX H e s' h).elim
    |ok fl=>
      cases fl with
      |next=>exact False.elim h
      |brk=>exact False.elim h
      |cont=>exact False.elim h
      |ret u=>
        obtain⟨v,H',os,bare,un,hok',r',q⟩:=h
        have q':v=.bl true:=q
        subst q'
        obtain rfl:u=Value.bool true:=r'
        refine⟨rfl,OldK.of_keep fun b o e=>?_,os,bare⟩
        cases q:H b with
        |none=>exact un.keep b o e q (by intro z;exact absurd (show b∈([]:List Addr) from z) (by simp)) (by simp)
        |some u=>
          rcases hO b with z | ⟨ob,xs,z⟩
          . rw[q] at z;cases z
          . have z2:=un.frzs b ob _ z
            obtain⟨e1,_⟩:=hok b _ z
            obtain⟨e2,_⟩:=hok' b _ z2
            rw[e] at e1;cases e1
            exact e2
  cases hk:K.lookup a with
  |some o=>
    have e:=KX a o hk
    rw[ha] at e
    cases e
    refine core (fun _=>none) (fun _=>.inl rfl) (.inr ⟨_,vs.toArray,_,hk,rfl,rfl,rfl,by rw[size_toArray,lenV];exact hl,by simpa using rv⟩) (fun b u z=>by have z':(none:Option HO)=some u:=z;cases z') (fun b z=>absurd rfl z) fun z=>absurd rfl z
  |none=>
    refine core (fun b=>if b=a then some (.frz { cls:=.type "list",data:=.seq vs.toArray } (.lst (ns.map V.int))) else none) (fun b=>?_) (.inl (.inr ⟨{ cls:=.type "list",data:=.seq vs.toArray },if_pos rfl⟩)) (fun b u z=>?_) (fun b z=>?_) fun _=>hk
    . by_cases hb:b=a
      . exact .inr ⟨_,_,if_pos hb⟩
      . exact .inl (if_neg hb)
    . by_cases hb:b=a
      . have z':=(if_pos hb).symm.trans z
        cases z'
        subst hb
        exact⟨ha,by rw[length_map];exact hl,vs,_,rv,ha⟩
      . have z':=(if_neg hb).symm.trans z
        cases z'
    . by_cases hb:b=a
      . exact hb
      . exact absurd (if_neg hb) z
theorem Ja{l:W.OpenLaw}{n k:Nat}{q:Program}{loose:List Str}{XP:(Str->Option Value)->Heap->Prop}{YP:World->Heap->Prop}{d:DefRec}{K:Params->W.Frag}{CX:World->JX}{sp:World->Sp}{x:Str}
    (hn:l.most=some n) (hn2:n<=sizeLine) (hdf:d.params.defaults=[]) (hr:Room k callerA)
    (hY:∀(w:World) (h:Heap),YP w h->(K w.params).In h)
    (F:∀(w:World) (mg:Str->Option Value) (fa:Addr) (h:Heap),(K w.params).In h->h.Ns mainGlobals mg->mg d.name=some (.ref fa) ->
      ∃fd:FuncData,(∀(s:Shared) (u:Value),BindsTo s fd ⟨[u],[]⟩ [(x,u)]) /\
        ∀base:Heap,(K w.params).In base->base.Ns mainGlobals mg->FnOk l.prog w (K w.params) mg base (CX w) k fa fd [x] (sp w))
    (hsp:∀(w:World) (H:Hp) (a:Addr) (ns:List Int),ns.length<=n->JV H->gM (K w.params) H a (ns.map V.int)->sp w [.ref a] H (fun v _=>v=.bl true) fun _ _ _=>False)
    (hCX:∀(w:World) (H:Hp) (s:Shared) (e:Value) (s':Shared),CX w [] H s (fun _ _ _=>False) e s'->False):
    W.WalkO q loose XP YP l.row.toRowW d [] (fun f vs=>PySem.call f vs):=by
  refine Att.CO hn hdf fun w s₀ s₁ mg mb fa o pm cd doc a vs ns G Y ho hd hcd hmg hobj hints hlen hg=>?_
  have KX:=hY w _ Y
  obtain⟨fd,hb,hF⟩:=F w mg fa _ KX G.T.g hmg
  exact IV KX G.T.g G.T.b G.T.builtins G.T.nolimit hg hobj hints (le_trans hlen hn2) hr hF hb (fun H hO hS=>hsp w H a ns hlen hO hS) fun H e s'=>hCX w H s₁ e s'
def cG(s:Stmt)(j:Nat):Stmt:=match s with
  | .ClassDef _ _ _ body _ _ _ _ _ _ _=>body.getD j (.Pass ⟨0,0,0,0⟩)
  |_=>.Pass ⟨0,0,0,0⟩
def aY(s:Stmt):Arguments:=match s with
  | .FunctionDef _ a _ _ _ _ _ _ _ _=>a
  |_=>{ posonlyargs:=[],args:=[],vararg:=none,kwonlyargs:=[],kw_defaults:=[],kwarg:=none,defaults:=[] }
def aX(s:Stmt):List Stmt:=match s with
  | .FunctionDef _ _ b _ _ _ _ _ _ _=>b
  |_=>[]
def aH(s:Stmt):Scope:=match s with
  | .FunctionDef _ _ _ _ _ _ sc _ _ _=>sc
  |_=>{ kind:=.function,names:=[],isGenerator:=false,isCoroutine:=false }
abbrev DX:JX:=fun _ _ _ _ _ _=>False
abbrev E0:XK:=fun _ _ _=>False
theorem Dm{X:Cx}:rW DX X E0:=fun _ _ _ _ _ _ _ h=>h.elim
structure Fun(K:W.Frag)(x qual:Str)(st:Stmt)(f:Addr)(fd:FuncData):Prop where
  ex:∃(oc:Value) (od:Option Addr) (kV doc pm:Value) (an:Option Addr) (cdv ct:Value) (osl:Array (Option Value)),
    fd=W.fnOf x qual (aY st) (aX st) (aH st) .none kV doc pm an cdv ct/\K.lookup f=some ⟨oc,od,.func fd,osl⟩/\W.codeIn K cdv qual=true
  kp:W.keepIn K (.ref f)=true
section
variable {P:Program} {w:World} {K:W.Frag} {mg:Str->Option Value} {base:Heap}
theorem Fun.ok{x qual:Str}{st:Stmt}{f:Addr}{fd:FuncData}{N ps:List Str}{k:Nat}{sp:Sp}(F:Fun K x qual st f fd)(S:FnScope N ps (aH st))(len:∀vs H Q E,sp vs H Q E->vs.length=ps.length)
    (hbody:∀(cdv:Value) (A:Around) (outer:List Env) (s:Shared) (H:Hp) (vs:List V) (Q:VK) (E:XK),Room k (A.deeper (envOfC qual (aH st) s.heap.objs.size f cdv))->sp vs H Q E ->
      ∃t,Ah (wY DX P w K mg base N qual (aH st) f cdv A outer s H E).nox (aX st) t/\t { nx:=fun _ H'=>Q .non H',rt:=Q } (start N vs) H):FnOk P w K mg base DX (k+1) f fd ps sp:=by
  obtain⟨oc,od,kV,doc,pm,an,cdv,ct,osl,rfl,lk,hcd⟩:=F.ex
  refine Pv lk hcd S len fun A outer s H vs Q E hr hsp=>?_
  obtain⟨t,h,q⟩:=hbody cdv A outer s H vs Q E hr hsp
  exact⟨t,h.nox,q⟩
theorem Fun.binds{x qual:Str}{st:Stmt}{f:Addr}{fd:FuncData}{ps:List Str}(F:Fun K x qual st f fd)
    (h:∀(kV doc pm:Value) (an:Option Addr) (cdv ct:Value) (us:List Value),us.length=ps.length->bindArgs (W.fnOf x qual (aY st) (aX st) (aH st) .none kV doc pm an cdv ct) ⟨us,[]⟩=pure (ps.zip us)):lH K fd ps []:=by
  obtain⟨oc,od,kV,doc,pm,an,cdv,ct,osl,rfl,lk,hcd⟩:=F.ex
  exact .all (h kV doc pm an cdv ct)
theorem bP{x qual:Str}{st:Stmt}{f:Addr}{oc:Value}{od an:Option Addr}{osl:Array (Option Value)}{kV doc pm cdv ct:Value}(l:K.lookup f=some ⟨oc,od,.func (W.fnOf x qual (aY st) (aX st) (aH st) .none kV doc pm an cdv ct),osl⟩)
    (c:W.codeIn K cdv qual=true) (k:W.keepIn K (.ref f)=true):Fun K x qual st f (W.fnOf x qual (aY st) (aX st) (aH st) .none kV doc pm an cdv ct):=⟨⟨oc,od,kV,doc,pm,an,cdv,ct,osl,rfl,l,c⟩,k⟩
end
theorem eZ{A:Around}{k:Nat}(hr:Room k A):A.units+1<cLine:=Nat.lt_of_le_of_lt (Nat.add_le_add_left (by decide:1<=64) _) hr.units
theorem Ev{n:Nat}(h:n<=1000):n<sizeLine:=Nat.lt_of_le_of_lt h ∅
section
variable {X:Cx}
theorem pv(i:Nat){x:Str}{pos:Pos}(hN:X.N[i]?=some x:=by rfl)(hv:Qt X.env.scope x:=by first | exact Or.inl rfl | exact Or.inr (.inl rfl) | exact Or.inr (.inr rfl))(hd:(x==("__debug__" : Str))=false:=by decide)
    (hcd:(x==("__classdict__" : Str))=false:=by decide):PE X (.Name x pos) (zH i):=Mn hN hv hd hcd
end
theorem nX{A B:Prop}(h:B):if false=true then A else B:=by
  rw[if_neg Bool.false_ne_true]
  exact h
theorem tR{A B:Prop}(h:A):if true=true then A else B:=by
  rw[if_pos rfl]
  exact h
theorem xQ{c A B:Prop}[Decidable c](h1:c->A)(h2:¬c->B):if c then A else B:=by
  by_cases h:c
  . rw[if_pos h]
    exact h1 h
  . rw[if_neg h]
    exact h2 h
def aW(H H':Hp):Prop:=∀b o,H b=some o->H' b=some o
theorem aW.refl(H:Hp):aW H H:=fun _ _ h=>h
theorem aW.trans{H H1 H2:Hp}(a:aW H H1)(b:aW H1 H2):aW H H2:=fun c o h=>b c o (a c o h)
theorem aW.free{H H':Hp}(e:aW H H'){l:Addr}(h:H' l=Option.none):H l=Option.none:=by
  cases q:H l with
  |none=>rfl
  |some o=>
    rw[e l o q] at h
    cases h
end L2
set_option maxHeartbeats 4000000
namespace L2
def Qm(i j:Int):Prop:=0<j/\j<2 ^ 200
theorem Hu{X:Cx}:n0 X (binaryOp .FloorDiv) (rI Qm fun i j=>.int (i / j)):=RX fun i j _ _ _ _ _ hc q=>by
  have p1:(0:Int)<j:=hc.1
  have p2:j<2 ^ 200:=hc.2
  have p3:j.natAbs<2 ^ 200:=⋯
  have p4:j.natAbs.log2<200:=(Nat.log2_lt ⋯).mpr p3
  refine floordiv_int ⋯ ?_ (.inl (PyProof.noPylong_of_log2 ⋯))
  rw[Int.fdiv_eq_ediv_of_nonneg i ⋯]
  exact q
theorem HF{X:Cx}{x:Str}{n:Int}{pos:Pos}(hm:∃t,X.mg x=some (.int n t))(hg:Gl X x:=by rfl)(hd:(x==("__debug__" : Str))=false:=by decide):PE X (.Name x pos) (tC (.int n)):=by
  obtain⟨t,h⟩:=hm
  exact KI hg h ⟨t,rfl⟩ hd
section
variable {X:Cx} {pj:List (Addr×Obj)} {σ:St} {H:Hp} {s:Shared} {h':Heap}
theorem Inv.turnedL{t':Nat}{fp:List Addr}(I:Inv X pj σ H s)(hf:∀b∈fp,xF X pj H b)(k:∀b o,b ∉ fp->s.heap.get? b=some o->h'.get? b=some o):Inv X pj σ H { s with heap:=h',toks:=t' }:=by
  have nf:∀b u,H b=some u->b ∉ fp:=fun b u e z=>by have:=(hf b z).1;rw[e] at this;cases this
  refine I.step (g':=s.gens) (d':=s.drawn) (ch:=fp) (fun b hb=>?_) (fun b o _ _ hc e _=>k b o hc e) (fun b o _ _ hc e _=>⟨o.slots,k b o hc e⟩) (fun _ _ _ _ n=>n) (fun b o hc e=>⟨o,k b o hc e⟩) (fun _ _ e=>e) (fun _ _ _ e=>e)
    (fun b ps e=>⟨#[],by rw[e];simp⟩) (fun m hm=>?_) (fun b u e=>?_) I.bare
  . obtain⟨_,f1,_,f3,f4,f5⟩:=hf b hb
    exact⟨f3,f1,f4,f5⟩
  . obtain⟨o,es,ep,ho,r⟩:=hm
    exact⟨o,es,ep,k _ o (fun z=>(hf _ z).2.1 rfl) ho,r⟩
  . refine(I.hok b u e).stay (fun c v hc q=>k c v ?_ q) (fun _ q=>q) (fun _ _ q=>q) fun _ _ q=>q
    rcases hc with z | z
    . rw[z];exact nf b u e
    . exact nf c _ z
theorem Inv.turnedN{t':Nat}{fp:List Addr}{T:Addr}{ob:HO}(I:Inv X pj σ H s)(hf:∀b∈fp,xF X pj H b)(k:∀b o,b ∉ fp->s.heap.get? b=some o->h'.get? b=some o)(hT:s.heap.objs.size<=T)
    (new:dR X.prog X.w (upd H T ob) h' T ob):Inv X pj σ (upd H T ob) { s with heap:=h',toks:=t' }:=by
  have hn:H T=none:=I.hok.fresh hT
  have nf:∀b u,H b=some u->b ∉ fp:=fun b u e z=>by have:=(hf b z).1;rw[e] at this;cases this
  have nT:∀b o,s.heap.get? b=some o->b≠T:=fun b o e=>ne_of_lt (lt_of_lt_of_le (Heap.lt_size e) hT)
  refine I.step (g':=s.gens) (d':=s.drawn) (ch:=fp) (fun b hb=>?_) (fun b o _ _ hc e _=>k b o hc e) (fun b o _ _ hc e _=>⟨o.slots,k b o hc e⟩) (fun b o _ e n=>by rw[bY (nT b o e)];exact n) (fun b o hc e=>⟨o,k b o hc e⟩)
    (fun b xs e=>by rw[bY (bT e hn)];exact e) (fun b _ _ e=>by rw[bY (bT e hn)];exact e)
    (fun b ps e=>⟨#[],by rw[bY (bT e hn),e];simp⟩) (fun m hm=>?_) (fun b u e=>?_) I.bare
  . obtain⟨_,f1,_,f3,f4,f5⟩:=hf b hb
    exact⟨f3,f1,f4,f5⟩
  . obtain⟨o,es,ep,ho,r⟩:=hm
    exact⟨o,es,ep,k _ o (fun z=>(hf _ z).2.1 rfl) ho,r⟩
  . by_cases hb:b=T
    . subst hb
      rw[cT] at e
      cases e
      exact new
    . rw[bY hb] at e
      refine(I.hok b u e).stay (fun c v hc q=>k c v ?_ q) (fun c q=>by rw[bY (bT q hn)];exact q) (fun c xs q=>by rw[bY (bT q hn)];exact q) fun c xs q=>by rw[bY (bT q hn)];exact q
      rcases hc with z | z
      . rw[z];exact nf b u e
      . exact nf c _ z
end
def Qw(K:W.Frag)(a:Addr):It:=
  ⟨fun i H=>∃xs x,gM K H a xs/\xs[i]?=some x,fun i H v H'=>∃T x,H T=none/\v=.ref T/\H'=upd H T (.tup [.int i,x]) /\ ∀xs,gM K H a xs->xs[i]?=some x,fun i H=>∃xs,gM K H a xs/\xs.length<=i⟩
theorem El{P:Program}{w:World}{K:W.Frag}{elts:List Expr}{x1:Nat}{pos:Pos}(a e it:Addr)(hne:e≠it):
    Turn P w K (.Tuple elts x1 pos) (Qw K a) [e,it] e (fun i h=>(∃old,IsEnum h e it (i:Nat) old)/\h.IsListIter it a i) where
  mem:=by simp
  obj:=fun i h st b hb=>by
    obtain⟨⟨old,he⟩,o,ho,c,d⟩:=st
    rcases mem_cons.mp hb with rfl | hb
    . exact⟨_,he,fun v z=>by cases z⟩
    . rw[mem_singleton.mp hb]
      exact⟨o,ho,fun v z=>by rw[d] at z;cases z⟩
  keep:=fun i h h' st k=>⟨let ⟨old,he⟩:=st.1;⟨old,k e (by simp) _ he⟩,st.2.at fun o q=>k it (by simp) o q⟩
  item:=by
    intro X hP hw hK hc i pj s σ H E I hf st hg
    subst hP hw hK
    obtain⟨xs,x,hq,hx⟩:=hg
    obtain⟨its,rv,p,hz⟩:=I.list hq
    obtain⟨u,hu,ru⟩:=rv.get hx
    obtain⟨⟨old,he⟩,hit⟩:=st
    refine wpAny_pyNext_enum_item he hit p.isList (x:=u) (by simpa using hu) hne fun h1 heo hit1 ht hsz hk=>⟨_,rfl,?_⟩
    refine wpAny_letOwnedTupleGo_enum heo fun h2 he2 hs2=>?_
    have heL:e<s.heap.objs.size:=Heap.lt_size he
    have hn:H s.heap.objs.size=none:=I.hok.fresh (le_refl _)
    have k2:∀b o,b ∉ [e,it]->s.heap.get? b=some o->h2.get? b=some o:=fun b o hb q=>by
      have b1:b≠e:=fun z=>hb (by simp[z])
      have b2:b≠it:=fun z=>hb (by simp[z])
      exact(hs2.2 b b1).trans (hk b o b1 b2 q)
    have tt:h2.get? s.heap.objs.size=some { cls:=.type "tuple",data:=.seq #[.int i s.toks,u] }:=(hs2.2 _ (ne_of_gt heL)).trans ht
    refine⟨.ref s.heap.objs.size,_,I.turnedN (ob:=.tup [.int i,x]) (T:=s.heap.objs.size) (t':=s.toks+1) hf k2 (le_refl _) ?_,rfl,⟨_,x,hn,rfl,rfl,fun ys hy=>by rw[I.list_inj hy hq];exact hx⟩,⟨⟨u,?_⟩,hit1.extBut hs2.extBut (Ne.symm hne)⟩,fun b hb=>?_⟩
    . exact⟨(by decide:2<=sizeLine),[.int i s.toks,u],.cons ⟨_,rfl⟩ (.cons ru .nil),_,tt,rfl,_,rfl⟩
    . have:((i+1:Nat):Int)=(i:Int)+1:=⋯
      rw[this]
      exact he2
    . have hb1:=(hf b hb).1
      rw[bY ?_]
      . exact hb1
      . rintro rfl
        obtain⟨o,ho,_⟩:=id hit
        rcases mem_cons.mp hb with z | z
        . exact absurd heL (by rw[<- z];exact lt_irrefl _)
        . have:=Heap.lt_size ho
          rw[<- mem_singleton.mp z] at this
          exact lt_irrefl _ this
  done:=by
    intro X hP hw hK hc i pj s σ H E I hf st hg
    subst hP hw hK
    obtain⟨xs,hq,hx⟩:=hg
    obtain⟨its,rv,p,hz⟩:=I.list hq
    obtain⟨⟨old,he⟩,hit⟩:=st
    have hl:=rv.length
    exact JB I.qu he hit p.isList (by simp;ac_rfl) fun h1 eb=>⟨rfl,I.turnedL (t':=s.toks) hf fun b o hb q=>eb b o (fun z=>hb (by simp[z])) q⟩
  self:=fun _ _ _ _ _ st h=>by
    obtain⟨⟨old,he⟩,_⟩:=st
    exact wpAny_pyIter_enum he h
section
variable {X:Cx}
def Pr(K:W.Frag)(ta:TA):TI:=fun σ H R=>ta σ H fun vs H1=>∃a,vs=[.ref a]/\(∃xs,gM K H1 a xs)/\R (Qw K a) H1
theorem KD{elts:List Expr}{x1:Nat}{tp:Pos}{a:Expr}{ta:TA}{p pos:Pos}(hg:Gl X "enumerate")(hm:X.mg "enumerate" = none)(ha:PA X [a] ta)(hs:starEach [a] X.env=[(false,eval a X.env)]:=by rfl):
    PI X (.Tuple elts x1 tp) (.Call (.Name "enumerate" p) [a] [] pos) (Pr X.K ta):=by
  intro pj s σ H R I h
  refine Call_ (p6 I hg hm boot_enumerate (PyProof.Rows.callWith_type1 (thn (ha pos pj s σ H _ I h) fun us s1 ⟨vs,H1,I1,r1,q1⟩=>?_) hs rfl))
  obtain⟨l,e,⟨xs,hq⟩,q⟩:=q1
  subst e
  obtain⟨u,rfl,ru⟩:=lJ r1
  cases ru
  obtain⟨its,rv,pl,hz⟩:=I1.list hq
  refine call_enumerate_list pl.isList fun h1 he hit hsz hk=>wpAny_pyIter_enum he ?_
  have I2:Inv X pj σ H1 { s1 with heap:=h1 }:=I1.kept (t':=s1.toks) hk
  refine⟨s1.heap.objs.size+1,[s1.heap.objs.size+1,s1.heap.objs.size],_,_,H1,rfl,I2,El l _ _ (Nat.succ_ne_self _),⟨⟨_,he⟩,hit⟩,fun b hb=>?_,q⟩
  refine I1.fpOk ?_ (I1.hok.fresh ?_)
  all_goals
    rcases mem_cons.mp hb with z | z
    . rw[z];exact le_succ _
    . rw[mem_singleton.mp z];exact le_refl _
end
def SA(a b:Addr):It:=
  ⟨fun i H=>∃xs ys x y,H a=some (.lst xs)/\H b=some (.lst ys)/\xs[i]?=some x/\ys[i]?=some y,
   fun i H v H'=>∃T x y,H T=none/\v=.ref T/\H'=upd H T (.tup [x,y])/\(∀xs,H a=some (.lst xs)->xs[i]?=some x) /\ ∀ys,H b=some (.lst ys)->ys[i]?=some y,
   fun i H=>∃xs ys,H a=some (.lst xs)/\H b=some (.lst ys)/\(xs.length<=i \/ ys.length<=i)⟩
structure ZApart(z TI TO i1 i2:Addr):Prop where
  a:TI≠z
  b:TO≠z
  c:i1≠z
  d:i2≠z
  e:TI≠TO
  f:TI≠i1
  g:TI≠i2
  h:TO≠i1
  i:TO≠i2
  j:i1≠i2
theorem GP{P:Program}{w:World}{K:W.Frag}{elts:List Expr}{x1:Nat}{pos:Pos}(a b z TI TO i1 i2:Addr)(Z:ZApart z TI TO i1 i2):
    Turn P w K (.Tuple elts x1 pos) (SA a b) [z,TI,TO,i1,i2] z (fun i h=>IsZip h z TI TO .none/\IsPair h TI (.ref i1) (.ref i2)/\(∃p q,IsPair h TO p q)/\h.IsListIter i1 a i/\h.IsListIter i2 b i) where
  mem:=by simp
  obj:=fun i h st c hc=>by
    obtain⟨hz,hI,⟨p,q,hO⟩,⟨o1,h1,_,d1⟩,⟨o2,h2,_,d2⟩⟩:=st
    simp only[mem_cons,not_mem_nil,or_false] at hc
    rcases hc with rfl | rfl | rfl | rfl | rfl
    . exact⟨_,hz,fun v y=>by cases y⟩
    . exact⟨_,hI,fun v y=>by cases y⟩
    . exact⟨_,hO,fun v y=>by cases y⟩
    . exact⟨_,h1,fun v y=>by rw[d1] at y;cases y⟩
    . exact⟨_,h2,fun v y=>by rw[d2] at y;cases y⟩
  keep:=fun i h h' st k=>by
    obtain⟨hz,hI,⟨p,q,hO⟩,h1,h2⟩:=st
    exact⟨k z (by simp) _ hz,k TI (by simp) _ hI,⟨p,q,k TO (by simp) _ hO⟩,h1.at fun o y=>k i1 (by simp) o y,h2.at fun o y=>k i2 (by simp) o y⟩
  item:=by
    intro X hP hw hK hc i pj s σ H E I hf st hg
    subst hP hw hK
    obtain⟨xs,ys,x,y,ha,hb,hx,hy⟩:=hg
    obtain⟨its,rv,pl,hz1⟩:=I.list (gM.of ha)
    obtain⟨its2,rv2,pl2,hz2⟩:=I.list (gM.of hb)
    obtain⟨u,hu,ru⟩:=rv.get hx
    obtain⟨u2,hu2,ru2⟩:=rv2.get hy
    obtain⟨hz,hI,⟨p,q,hO⟩,h1,h2⟩:=st
    have na:∀c∈[z,TI,TO,i1,i2],a≠c:=fun c hc=>bT ha (hf c hc).1
    have nb:∀c∈[z,TI,TO,i1,i2],b≠c:=fun c hc=>bT hb (hf c hc).1
    have D:ZipApart z TI TO i1 i2 a b:=⟨Z.a,Z.b,Z.c,Z.d,Z.e,Z.f,Z.g,Z.h,Z.i,Z.j,na z (by simp),na TO (by simp),na i1 (by simp),na i2 (by simp),nb z (by simp),nb TO (by simp),nb i1 (by simp),nb i2 (by simp)⟩
    refine wpAny_pyNext_zip_item D hz hI hO h1 h2 pl.isList pl2.isList (x:=u) (y:=u2) (by simpa using hu) (by simpa using hu2) fun g a1 a2 a3 a4 a5 a6 hk=>⟨_,rfl,?_⟩
    refine wpAny_letOwnedTupleGo_zip a1 fun g2 hz2 hs2=>?_
    have hn:H s.heap.objs.size=none:=I.hok.fresh (le_refl _)
    have zL:z<s.heap.objs.size:=Heap.lt_size hz
    have lt:∀{c:Addr} {o:Obj},s.heap.get? c=some o->c≠s.heap.objs.size:=fun e=>ne_of_lt (Heap.lt_size e)
    have k2:∀c o,c ∉ [z,TI,TO,i1,i2]->s.heap.get? c=some o->g2.get? c=some o:=fun c o hc e=>by
      simp only[mem_cons,not_mem_nil,or_false,not_or] at hc
      exact(hs2.2 c hc.1).trans (hk c o hc.1 hc.2.2.1 hc.2.2.2.1 hc.2.2.2.2 e)
    have tt:g2.get? s.heap.objs.size=some { cls:=.type "tuple",data:=.seq #[u,u2] }:=(hs2.2 _ (ne_of_gt zL)).trans a5
    refine⟨.ref s.heap.objs.size,_,I.turnedN (ob:=.tup [x,y]) (T:=s.heap.objs.size) (t':=s.toks) hf k2 (le_refl _) ?_,rfl,
      ⟨_,x,y,hn,rfl,rfl,fun zs hzs=>by rw[ha] at hzs;cases hzs;exact hx,fun zs hzs=>by rw[hb] at hzs;cases hzs;exact hy⟩,
      ⟨hz2,hs2.extBut _ _ Z.a (hk _ _ Z.a Z.e Z.f Z.g hI),⟨_,_,hs2.extBut _ _ Z.b a2⟩,a3.extBut hs2.extBut Z.c,a4.extBut hs2.extBut Z.d⟩,fun c hc=>?_⟩
    . exact⟨(by decide:2<=sizeLine),[u,u2],.cons ru (.cons ru2 .nil),_,tt,rfl,_,rfl⟩
    . have hc1:=(hf c hc).1
      have:c≠s.heap.objs.size:=by
        simp only[mem_cons,not_mem_nil,or_false] at hc
        rcases hc with rfl | rfl | rfl | rfl | rfl
        . exact lt hz
        . exact lt hI
        . exact lt hO
        . obtain⟨o,e,_⟩:=h1;exact lt e
        . obtain⟨o,e,_⟩:=h2;exact lt e
      rw[bY this]
      exact hc1
  done:=by
    intro X hP hw hK hc i pj s σ H E I hf st hg
    subst hP hw hK
    obtain⟨xs,ys,ha,hb,hor⟩:=hg
    obtain⟨its,rv,pl,hz1⟩:=I.list (gM.of ha)
    obtain⟨its2,rv2,pl2,hz2⟩:=I.list (gM.of hb)
    obtain⟨hz,hI,⟨p,q,hO⟩,h1,h2⟩:=st
    have na:∀c∈[z,TI,TO,i1,i2],a≠c:=fun c hc=>bT ha (hf c hc).1
    have nb:∀c∈[z,TI,TO,i1,i2],b≠c:=fun c hc=>bT hb (hf c hc).1
    have D:ZipApart z TI TO i1 i2 a b:=⟨Z.a,Z.b,Z.c,Z.d,Z.e,Z.f,Z.g,Z.h,Z.i,Z.j,na z (by simp),na TO (by simp),na i1 (by simp),na i2 (by simp),nb z (by simp),nb TO (by simp),nb i1 (by simp),nb i2 (by simp)⟩
    have l1:=rv.length
    have l2:=rv2.length
    refine LM I.qu D hz hI hO h1 h2 pl.isList pl2.isList ?_ fun g hk=>⟨rfl,I.turnedL (t':=s.toks) hf fun c o hc e=>?_⟩
    . rcases hor with h | h
      . exact .inl (by simp;ac_rfl)
      . exact .inr (by simp;ac_rfl)
    . simp only[mem_cons,not_mem_nil,or_false,not_or] at hc
      exact hk c o hc.1 hc.2.2.1 hc.2.2.2.1 hc.2.2.2.2 e
  self:=fun _ _ _ _ _ st h=>wpAny_pyIter_zip st.1 h
theorem zapart(n:Nat):ZApart (n+4) (n+2) (n+3) n (n+1):=
  ⟨fun e=>by have e':(n+2:Nat)=n+4:=e;ac_rfl,fun e=>by have e':(n+3:Nat)=n+4:=e;ac_rfl,fun e=>by have e':(n:Nat)=n+4:=e;ac_rfl,fun e=>by have e':(n+1:Nat)=n+4:=e;ac_rfl,
   fun e=>by have e':(n+2:Nat)=n+3:=e;ac_rfl,fun e=>by have e':(n+2:Nat)=n:=e;ac_rfl,fun e=>by have e':(n+2:Nat)=n+1:=e;ac_rfl,fun e=>by have e':(n+3:Nat)=n:=e;ac_rfl,
   fun e=>by have e':(n+3:Nat)=n+1:=e;ac_rfl,fun e=>by have e':(n:Nat)=n+1:=e;ac_rfl⟩
section
variable {X:Cx}
def Rj(ta:TA):TI:=fun σ H R=>ta σ H fun vs H1=>∃a b,vs=[.ref a,.ref b]/\(∃xs,H1 a=some (.lst xs))/\(∃ys,H1 b=some (.lst ys))/\R (SA a b) H1
theorem Mj{elts:List Expr}{x1:Nat}{tp:Pos}{a b:Expr}{ta:TA}{p pos:Pos}(hg:Gl X "zip")(hm:X.mg "zip" = none)(ha:PA X [a,b] ta)
    (hs:starEach [a,b] X.env=[(false,eval a X.env),(false,eval b X.env)]:=by rfl) (hs2:starEach [b] X.env=[(false,eval b X.env)]:=by rfl):
    PI X (.Tuple elts x1 tp) (.Call (.Name "zip" p) [a,b] [] pos) (Rj ta):=by
  intro pj s σ H R I h
  refine Call_ (p6 I hg hm boot_zip (PyProof.Rows.callWith_type1 (thn (ha pos pj s σ H _ I h) fun us s1 ⟨vs,H1,I1,r1,q1⟩=>?_) (by rw[hs,hs2]) (by rw[hs2];rfl)))
  obtain⟨l,l2,e,⟨xs,hl⟩,⟨ys,hl2⟩,q⟩:=q1
  subst e
  obtain⟨u,u2,rfl,ru,ru2⟩:=GL r1
  cases ru
  cases ru2
  obtain⟨its,rv,pl,hz⟩:=I1.list (gM.of hl)
  obtain⟨its2,rv2,pl2,hz2⟩:=I1.list (gM.of hl2)
  refine call_zip_2 pl.isList pl2.isList fun h1 hz hI hO i1 i2 hsz hk=>wpAny_pyIter_zip hz ?_
  have I2:Inv X pj σ H1 { s1 with heap:=h1 }:=I1.kept (t':=s1.toks) hk
  refine⟨s1.heap.objs.size+4,[s1.heap.objs.size+4,s1.heap.objs.size+2,s1.heap.objs.size+3,s1.heap.objs.size,s1.heap.objs.size+1],_,_,H1,rfl,I2,
    GP l l2 _ _ _ _ _ (zapart s1.heap.objs.size),⟨hz,hI,⟨_,_,hO⟩,i1,i2⟩,fun b hb=>?_,q⟩
  have hle:s1.heap.objs.size<=b:=by
    simp only[mem_cons,not_mem_nil,or_false] at hb
    rcases hb with rfl | rfl | rfl | rfl | rfl
    . exact le_add_right _ _
    . exact le_add_right _ _
    . exact le_add_right _ _
    . exact le_refl _
    . exact le_add_right _ _
  exact I1.fpOk hle (I1.hok.fresh hle)
def RO(K:W.Frag):List V->Hp->VK->Prop:=fun xs H Q=>∃x T t b,xs=[x,.ty T]/\TyOf K H x t/\W.kitOne K t (.type T)=some b/\Q (.bl b) H
theorem JL:gO X (.builtin "isinstance") (RO X.K):=by
  intro pj s σ H xs us Q I r h
  obtain⟨x,T,t,b,rfl,ty,k,q⟩:=h
  obtain⟨u,u2,rfl,ru,ru2⟩:=GL r
  cases ru2
  exact Fq I ru ty k fun tk=>⟨.bl b,H,I.tok tk,rfl,q⟩
theorem vG:∀{bs:List Bool} {us:List Value},bV (bs.map V.bl) us->LSm.BoolsAre us bs
  | [],_,.nil=>.nil
  |_::_,_,.cons r t=>by cases r;exact .cons _ (vG t)
theorem vF:∀{ns:List Int} {us:List Value},bV (ns.map V.int) us->IntsAre us ns
  | [],_,.nil=>.nil
  |_::_,_,.cons r t=>by obtain⟨t',rfl⟩:=r;exact .cons _ _ (vF t)
def RT(K:W.Frag):List V->Hp->VK->Prop:=fun xs H Q=>∃(a:Addr) (bs:List Bool),xs=[.ref a]/\gM K H a (bs.map V.bl)/\Q (.bl (bs.all id)) H
theorem GD(hc:X.calm=true):gO X (.builtin "all") (RT X.K):=by
  intro pj s σ H xs us Q I r h
  obtain⟨a,bs,rfl,hq,q⟩:=h
  obtain⟨u,rfl,ru⟩:=lJ r
  cases ru
  obtain⟨its,rv,pl,hz⟩:=I.list hq
  have ba:=vG rv
  have lt:a<s.heap.objs.size:=by obtain⟨_,e,_⟩:=pl.isList;exact Heap.lt_size e
  refine call_all_walk (wpAny_pyIter_list pl.isList ⟨s.heap.objs.size,[s.heap.objs.size,a],[s.heap.objs.size],its.toArray.size,_,_,fun i=>(bs[i]?).getD true,rfl,
    Walks.list (A:=X.A.in1) (I.ok.hd hc) _ a (ne_of_lt lt) its.toArray,⟨⟨_,Heap.get?_push_size _ rfl,rfl,rfl⟩,pl.isList.push _⟩,fun i v s' Q' E' hP hQ=>?_,fun h' tk hk=>?_⟩)
  . obtain⟨b,e,rfl⟩:=ba.get i v (by simpa using hP)
    have hQ':Q' ((bs[i]?).getD true) s':=hQ
    rw[e] at hQ'
    exact wpAny_truthy_bool hQ'
  . have e:((List.range its.toArray.size).all fun i=>(bs[i]?).getD true)=bs.all id:=by
      have:=LSm.range_all bs
      rw[<- ba.length] at this
      simpa using this
    rw[e]
    exact⟨.bl _,H,I.kept (LSm.kept_iter hk),rfl,q⟩
def RI(K:W.Frag):List V->Hp->VK->Prop:=fun xs H Q=>∃(a:Addr) (ns:List Int),xs=[.ref a]/\gM K H a (ns.map V.int)/\Q (.int ns.sum) H
theorem G9(hc:X.N=X.N):gO X (.builtin "sum") (RI X.K):=by
  intro pj s σ H xs us Q I r h
  obtain⟨a,ns,rfl,hq,q⟩:=h
  obtain⟨u,rfl,ru⟩:=lJ r
  cases ru
  obtain⟨its,rv,pl,hz⟩:=I.list hq
  have ia:=vF rv
  obtain⟨ys,hy⟩:=ia.allInts.items
  have e1:=nums_intItems ys
  rw[<- hy,show numsOf its.toArray.toList=ns from ia.numsOf] at e1
  refine OP I.qu (hy ▸ pl.isList) fun h' tk t' hk=>⟨.int ns.sum,H,I.kept hk,⟨t',?_⟩,q⟩
  rw[preSum_eq,e1,take_of_length_le (by simp)]
end
def pick(js:List Nat)(σ:St):St:=js.map fun j=>(σ[j]?).join
def rP(X:Cx)(scope:Scope)(cl:List (Str×Addr))(fp:List Addr)(N:List Str)(s:Shared)(H:Hp):Cx where
  prog:=X.prog
  w:=X.w
  K:=X.K
  mg:=X.mg
  base:=X.base
  A:=X.A
  N:=N
  s₀:=s
  HZ:=H
  env:=compEnvC scope cl s.heap.objs.size X.env
  outer:=X.stack
  stack:=X.stack
  ex:=fp
  fn:=fun _=>false
  calm:=X.calm
  pn:=[]
  xe:=fun _ _=>False
  hs:=X.hs
def O2(X:Cx)(ifs:List Expr)(t:TT):Prop:=
  ∀(pj:List (Addr×Obj)) (s:Shared) (σ:St) (H:Hp) (Q:Bool->Hp->Prop),Inv X pj σ H s->t σ H Q ->
    wpAny (model X.prog X.w) X.A (forIn ifs true fun c r=>if r=true then do let ok <- isTrue c X.env (eval c X.env);pure (ForInStep.yield ok) else pure (ForInStep.yield r)) (TP X pj σ Q) X.xe s
theorem Jz{X:Cx}:O2 X [] (fun _ H Q=>Q true H):=fun pj s σ H Q I h=>wpAny_tests_nil ⟨H,I,h⟩
theorem Jy{X:Cx}{c:Expr}{t:TT}(h:PT X c t):O2 X [c] t:=fun pj s σ H Q I q=>wpAny_tests_one (h pj s σ H Q I q)
def zI(wi:TI)(k:Nat)(js:List Nat)(g:TG)(tt:TT)(te:TE):TE:=fun σ H Q=>wi σ H fun J H1=>∀D,H1 D=none -> ∃W:Nat->Nat->List V->Hp->Prop,(∃m,W 0 m [] (upd H1 D (.lst []))) /\ ∀i m acc H2,W i m acc H2->H2 D=some (.lst acc) ->
  (J.stop i H2/\Q (.ref D) H2) \/ (J.go i H2 /\ ∀y H3,J.yld i H2 y H3 -> ∀old:St,old.length=k->g y (old++pick js σ) H3 fun σ4 H4=>(∃new:St,new.length=k/\σ4=new++pick js σ)/\tt σ4 H4 fun b H5=>
    if b=true then te σ4 H5 fun v H6=>H6 D=some (.lst acc)/\acc.length<sizeLine /\ ∃m',m'<m/\W (i+1) m' (acc++[v]) (upd H6 D (.lst (acc++[v])))
    else H5 D=some (.lst acc) /\ ∃m',m'<m/\W (i+1) m' acc H5)
theorem xW{prog:Program}{w:World}{A:Around}{R:Result->Shared->Prop}{s:Shared}{elt tgt iter:Expr}{ifs:List Expr}{scope:Scope}{pos:Pos}{it acc:Value}{env:Env}(J:Nat->Shared->Prop)
    (turn:∀n s,J n s->wpAny (model prog w) A (pyNext it) (fun r s1=>match r with
      |none=>R (.ok .next) s1
      |some v=>wpAny (model prog w) A (letOwnedTupleGo tgt it v) (fun _ s2=>wpAny (model prog w) A (assign tgt env v) (fun _ s3=>
          wpAny (model prog w) A (forIn ifs true fun c r=>if r=true then do let ok <- isTrue c env (eval c env);pure (ForInStep.yield ok) else pure (ForInStep.yield r)) (fun b s3'=>
          if b=true then wpAny (model prog w) A (eval elt env) (fun y s4=>wpAny (model prog w) A (call (.builtin "list.append") [acc,y]) (fun _ s5=>∃m,m<n/\J m s5) (fun _ _=>False) s4) (fun _ _=>False) s3'
          else ∃m,m<n/\J m s3') (fun _ _=>False) s3) (fun _ _=>False) s2) (fun _ _=>False) s1) (fun _ _=>False) s)
    (n:Nat) (h:J n s):codeAny (model prog w) A (.compLoop (.ListComp elt [⟨tgt,iter,ifs,0⟩] scope pos) 0 it acc env) R s:=by
  refine codeAny_loop rfl J (fun n' s' hJ=>?_) n h
  show wpAny _ _ ((compTurn (.ListComp elt [⟨tgt,iter,ifs,0⟩] scope pos) 0 it acc env).onRaise (fun z=>do noteFrame z env;theTreesLotGoes z)) _ _ s'
  refine wpAny_noted ?_
  rw[compTurn_list]
  have nope:∀{α:Type} {t:Sem α} {Q:α->Shared->Prop} {E:Value->Shared->Prop} {q:Shared},wpAny (model prog w) A t Q (fun _ _=>False) q->wpAny (model prog w) A t Q E q:=fun h=>wpAny_mono h (fun _ _ z=>z) fun _ _ z=>z.elim
  refine wpAny_bind (wpAny_standAt (wpAny_bind (wpAny_mono (nope (turn n' s' hJ)) (fun r s1 h1=>?_) fun _ _ z=>z)))
  cases r with
  |none=>exact wpAny_pure h1
  |some v=>
    refine wpAny_bind (wpAny_mono (nope h1) (fun _ s2 h2=>?_) fun _ _ z=>z)
    refine wpAny_bind (wpAny_mono (nope h2) (fun _ s3 h3=>?_) fun _ _ z=>z)
    refine wpAny_bind (wpAny_mono (nope h3) (fun b s4 h4=>?_) fun _ _ z=>z)
    cases b with
    |true=>
      have h4':=(show wpAny _ _ _ _ _ s4 by simpa using h4)
      simp only[if_true]
      refine wpAny_bind (wpAny_bind (wpAny_mono (nope h4') (fun y s5 h5=>?_) fun _ _ z=>z))
      refine wpAny_bind (wpAny_mono (nope h5) (fun _ s6 h6=>?_) fun _ _ z=>z)
      exact wpAny_pure (wpAny_pure ⟨rfl,h6⟩)
    |false=>
      have h4':∃m,m<n'/\J m s4:=by simpa using h4
      simp only[Bool.false_eq_true,if_false]
      exact wpAny_bind (wpAny_pure (wpAny_pure ⟨rfl,h4'⟩))
section
variable {X:Cx}
theorem HB{js:List Nat}{σ:St}{i:Nat}{v:V}(h:(pick js σ)[i]?=some (some v)):∃j,js[i]?=some j/\σ[j]?=some (some v):=by
  unfold pick at h
  rw[List.getElem?_map] at h
  cases e:js[i]? with
  |none=>rw[e] at h;cases h
  |some j=>
    rw[e] at h
    have h':(σ[j]?).join=some v:=Option.some.inj h
    refine⟨j,rfl,?_⟩
    cases q:σ[j]? with
    |none=>rw[q] at h';cases h'
    |some o=>rw[q] at h';exact congrArg some h'
theorem yZ{elt iter tgt:Expr}{ifs:List Expr}{scope:Scope}{pos:Pos}{cl:List (Str×Addr)}{tgs ns:List Str}{js:List Nat}{wi:TI}{g:TG}{tt:TT}{te:TE}(hc:X.N=X.N)
    (hi:PI X tgt iter wi) (hg:∀(fp:List Addr) (s:Shared) (H:Hp),PG (rP X scope cl fp (tgs++ns) s H) tgt g) (ht:∀(fp:List Addr) (s:Shared) (H:Hp),O2 (rP X scope cl fp (tgs++ns) s H) ifs tt)
    (he:∀(fp:List Addr) (s:Shared) (H:Hp),PE (rP X scope cl fp (tgs++ns) s H) elt te)
    (hclos:closureFor scope X.env=pure cl) (hsub:∀x c,cl.lookup x=some c->X.env.cells.lookup x=some c)
    (hhas:∀x,((relabel scope X.env).names.lookup x=some .cell \/ (relabel scope X.env).names.lookup x=some .free) -> ∃c,cl.lookup x=some c)
    (hjs:js.map (fun j=>X.N[j]?)=ns.map some) (hin:∀y∈ns,(relabel scope X.env).names.lookup y=some .cell \/ (relabel scope X.env).names.lookup y=some .free)
    (hout:∀y∈ns,X.env.kindOf y=some .cell \/ X.env.kindOf y=some .free)
    (hcell:∀y∈scope.names,y.2 ≠ .cell:=by decide +kernel) (hkind:scope.kind=.function:=by rfl)
    (hnames:∀y∈scope.names,y.2=.local->scope.names.lookup y.1=some .local:=by decide +kernel)
    (hs:∀z,foldedSetIterable iter X.env z=pure z:=by intro _;rfl):
    ∀(pos0:Pos) (pj:List (Addr×Obj)) (s:Shared) (σ:St) (H:Hp) (Q:VK) (I:Inv X pj σ H s) (h:zI wi tgs.length js g tt te σ H Q) (use:Option (Value->Sem Unit)) (R:Value->Shared->Prop)
      (hfin:∀(D C:Addr) (H':Hp) (s':Shared),Q (.ref D) H'->xF X pj H' C->(∃m,s'.heap.Ns C m)->(∀h',Heap.SameBut C s'.heap h'->Inv X pj σ H' { s' with heap:=h' })->compPost (model X.prog X.w) X.A X.xe use R (.ref D) C (.ok .next) s'),
      wpAny (model X.prog X.w) X.A (comprehension (.ListComp elt [⟨tgt,iter,ifs,0⟩] scope pos) scope X.env pos0 (newList []) false (eval iter X.env) use) R X.xe s:=by
  intro pos0 pj s σ H Q I h use R hfin
  refine wpAny_comprehension_free (use:=use) rfl hs hclos hkind hnames (thn (hi pj s σ H _ I h) fun v s1 h1=>thn h1 fun itv s2 h2=>?_)
  obtain⟨it,fp,tn,J,H2,rfl,I2,T,st2,f2,body⟩:=h2
  have hD:H2 s2.heap.objs.size=none:=I2.hok.fresh (le_refl _)
  obtain⟨W,⟨m0,w0⟩,step⟩:=body _ hD
  refine wpAny_newObj_type (wpAny_newFunctionEnv hcell (by intro y hy;simp at hy) (fun g1 hns hsb=>?_) hkind) (by size_fits)
  dsimp only at hns hsb ⊢
  have I3:Inv X pj σ (upd H2 s2.heap.objs.size (.lst [])) { s2 with heap:=s2.heap.push { cls:=.type "list",dict:=none,data:=.seq ([]:List Value).toArray } }:=I2.lnew (t':=s2.toks) .nil (by simp)
  generalize hD':s2.heap.objs.size=D at *
  generalize hH3:upd H2 D (.lst [])=H3 at *
  generalize hS3:s2.heap.push { cls:=.type "list",dict:=none,data:=.seq ([]:List Value).toArray }=g3 at *
  have zs:g3.objs.size=D+1:=by rw[<- hS3,Heap.size_push,hD']
  have f3:∀b∈fp,xF X pj H3 b:=fun b hb=>by
    obtain⟨o,ho,_⟩:=T.obj _ _ st2 b hb
    have lt:=Heap.lt_size ho
    refine⟨?_,(f2 b hb).2⟩
    rw[<- hH3,bY (ne_of_lt (hD' ▸ lt))]
    exact(f2 b hb).1
  have ltf:∀b∈fp,b<g3.objs.size:=fun b hb=>by
    obtain⟨o,ho,_⟩:=T.obj _ _ st2 b hb
    rw[zs]
    exact Nat.lt_succ_of_lt (hD' ▸ Heap.lt_size ho)
  have kept:∀b o,g3.get? b=some o->g1.get? b=some o:=fun b o e=>hsb.extBut b o (ne_of_lt (Heap.lt_size e)) (Heap.get?_push_of_some _ e)
  have cne:∀x c,cl.lookup x=some c->c≠g3.objs.size:=fun x c e=>by
    obtain⟨v,q⟩:=I3.cell x c (hsub x c e)
    exact ne_of_lt q.lt
  have ok:(rP X scope cl fp (tgs++ns) { s2 with heap:=g3 } H3).Ok:=by
    refine⟨I.ok.mod,hkind,I.ok.glob,I.ok.blt,le_refl _,fun y z c e1 e2=>I.ok.inj y z c (hsub y c e1) (hsub z c e2),fun y hy=>hhas y hy,fun y c e=>(nomatch e),I.ok.hd,I.ok.frames,.inl rfl,
      fun b hb=>⟨ne_of_lt (ltf b hb),fun y c e=>(f3 b hb).2.2.2.2.1 y c (hsub y c e)⟩,I3.bs,le_trans I.ok.bsz I3.sz,fun b o e hb=>?_,fun b hb=>?_,I3.stack,I3.stkFree,I.ok.hq⟩
    . rcases(f3 b hb).2.2.2.1 with q | q
      . exact I.ok.noex b o e q
      . exact absurd (lt_of_lt_of_le (Heap.lt_size (I.ok.bs b o e).1) q) (lt_irrefl _)
    . intro z
      rcases mem_cons.mp (I3.stkSub b z) with q | q
      . exact(f3 b hb).2.1 q
      . exact(f3 b hb).2.2.1 q
  have cells1:∀x c,cl.lookup x=some c -> ∃v,g1.IsCell c v:=fun x c e=>by
    obtain⟨v,o,ho,hd⟩:=I3.cell x c (hsub x c e)
    exact⟨v,o,kept _ _ ho,hd⟩
  have J4:Inv (rP X scope cl fp (tgs++ns) { s2 with heap:=g3 } H3) [] (List.replicate tgs.length none++pick js σ) H3 { s2 with heap:=g1,toks:=s2.toks+([]:List (Str×Value)).length }:=by
    refine⟨ok,rfl,I3.bare,Un.kept kept,⟨_,hns,fun i y v e1 e2 e3=>?_⟩,fun y c e=>cells1 y c e,I3.hok.fresh (le_refl _),fun y c e=>I3.freeC y c (hsub y c e),fun p hp=>absurd (show p∈([]:List (Addr×Obj)) from hp) (by simp),I3.hok.kept kept,?_,I3.mild⟩
    . have hi2:tgs.length<=i:=by
        by_cases hlt:i<tgs.length
        . rw[List.getElem?_append_left (by simpa using hlt),List.getElem?_replicate,if_pos hlt] at e2
          cases e2
        . ac_rfl
      rw[List.getElem?_append_right (by simpa using hi2),length_replicate] at e2
      have e1':(tgs++ns)[i]?=some y:=e1
      rw[List.getElem?_append_right hi2] at e1'
      obtain⟨j,hj,hσ⟩:=HB e2
      have hNj:X.N[j]?=some y:=by
        have:=congrArg (fun l=>l[i-tgs.length]?) hjs
        simp only[List.getElem?_map,hj,e1',map_some] at this
        exact Option.some.inj this
      have ym:y∈ns:=mem_of_getElem? e1'
      obtain⟨m,hm,hl⟩:=I3.loc
      have vis:Qt X.env.scope y:=by
        rcases hout y ym with q | q
        . exact .inr (.inl q)
        . exact .inr (.inr q)
      obtain⟨u,ru,lk⟩:=hl j y v hNj hσ vis
      refine⟨u,ru,?_⟩
      rcases lk with⟨q,_⟩ | ⟨_,c,hc1,hc2⟩
      . rcases hout y ym with z | z
        . rw[z] at q;cases q
        . rw[z] at q;cases q
      . obtain⟨c',hc'⟩:=hhas y (hin y ym)
        have:=hsub y c' hc'
        rw[hc1] at this
        cases this
        obtain⟨o,ho,hd⟩:=hc2
        exact .inr ⟨hin y ym,c,hc',o,kept _ _ ho,hd⟩
    . show _=(tgs++ns).length
      have:=congrArg List.length hjs
      simp only[length_map] at this
      simp[pick,this]
  have st4:tn 0 g1:=T.keep 0 _ _ st2 fun b hb o e=>kept b o (by rw[<- hS3];exact Heap.get?_push_of_some _ e)
  have fin:∀(H':Hp) (σ':St) (s':Shared),Inv (rP X scope cl fp (tgs++ns) { s2 with heap:=g3 } H3) [] σ' H' s'->Q (.ref D) H'->compPost (model X.prog X.w) X.A X.xe use R (.ref D) g3.objs.size (.ok .next) s':=by
    intro H' σ' s' K q
    obtain⟨m,hm,_⟩:=K.loc
    refine hfin D g3.objs.size H' s' q (I3.fpOk (le_refl _) K.free) ⟨m,hm⟩ fun h' hsb'=>?_
    have ne:∀b o,g3.get? b=some o->b≠g3.objs.size:=fun b o e=>ne_of_lt (Heap.lt_size e)
    have B:Un (frs X.stack) fp H3 H' g3 s'.heap:=K.base
    refine I3.call' (s':={ s' with heap:=h' }) (ch:=fp) K.os ⟨fun b o e n hb hx=>(hsb'.2 b (ne b o e)).trans (B.keep b o e n hb hx),fun b o e n hb hx=>?_,B.free,fun b o e hx=>?_,B.tups,B.frzs,B.tbls⟩ (fun b u e=>?_) K.bare (fun b hb=>?_)
    . obtain⟨sl,e1⟩:=B.slot b o e n hb hx
      exact⟨sl,(hsb'.2 b (ne b o e)).trans e1⟩
    . obtain⟨o',e1⟩:=B.there b o e hx
      exact⟨o',(hsb'.2 b (ne b o e)).trans e1⟩
    . have nC:∀c v,H' c=some v->c≠g3.objs.size:=fun c v e z=>by
        have:H' g3.objs.size=none:=K.free
        rw[z,this] at e
        cases e
      refine(K.hok b u e).stay (fun c v hc q=>(hsb'.2 c ?_).trans q) (fun _ q=>q) (fun _ _ q=>q) fun _ _ q=>q
      rcases hc with z | z
      . rw[z];exact nC b u e
      . exact nC c _ z
    . obtain⟨_,q1,_,q3,q4,q5⟩:=f3 b hb
      exact⟨q3,q1,q4,q5⟩
  have loop:codeAny (model X.prog X.w) X.A (.compLoop (.ListComp elt [⟨tgt,iter,ifs,0⟩] scope pos) 0 (.ref it) (.ref D) (compEnvC scope cl g3.objs.size X.env))
      (compPost (model X.prog X.w) X.A X.xe use R (.ref D) g3.objs.size) { s2 with heap:=g1,toks:=s2.toks+([]:List (Str×Value)).length }:=by
    refine xW (fun n s'=>∃i acc old H',Inv (rP X scope cl fp (tgs++ns) { s2 with heap:=g3 } H3) [] (old++pick js σ) H' s'/\old.length=tgs.length/\tn i s'.heap/\(∀b∈fp,H' b=none)/\H' D=some (.lst acc)/\W i n acc H') ?_ m0
      ⟨0,[],List.replicate tgs.length none,H3,J4,by simp,st4,fun b hb=>(f3 b hb).1,by rw[<- hH3];exact cT,w0⟩
    rintro n s' ⟨i,acc,old,H',K,lo,st,fr,hDl,w⟩
    have fpk:∀{H'':Hp},(∀b∈fp,H'' b=none) -> ∀b∈fp,xF (rP X scope cl fp (tgs++ns) { s2 with heap:=g3 } H3) [] H'' b:=fun hn b hb=>
      ⟨hn b hb,ne_of_lt (ltf b hb),fun z=>ok.exfs b hb z,.inl hb,fun y c e=>(f3 b hb).2.2.2.2.1 y c (hsub y c e),fun p hp=>absurd (show p∈([]:List (Addr×Obj)) from hp) (by simp)⟩
    rcases step i n acc H' w hDl with⟨stop,q⟩ | ⟨go,next⟩
    . refine thn (T.done (rP X scope cl fp (tgs++ns) { s2 with heap:=g3 } H3) rfl rfl rfl rfl i [] s' _ H' _ K (fpk fr) st stop) fun r s1 ⟨hr,K1⟩=>?_
      subst hr
      exact fin H' _ s1 K1 q
    . refine thn (T.item (rP X scope cl fp (tgs++ns) { s2 with heap:=g3 } H3) rfl rfl rfl rfl i [] s' _ H' _ K (fpk fr) st go) fun r s1 ⟨u,hr,h4⟩=>?_
      subst hr
      refine thn h4 fun _ s5 ⟨y,H5,K5,r5,y5,st5,fr5⟩=>?_
      have K5':=K5.pinned (fpk fr5) (T.obj _ _ st5)
      refine thn (hg fp { s2 with heap:=g3 } H3 _ s5 _ H5 y u _ K5' r5 (next y H5 y5 old lo)) fun _ s6 ⟨σ6,H6,K6,⟨new,hnew,e6⟩,q6⟩=>?_
      subst e6
      refine thn (ht fp { s2 with heap:=g3 } H3 _ s6 _ H6 _ K6 q6) fun b s6' ⟨H6',K6',q6'⟩=>?_
      have again:∀{s8:Shared} {H8:Hp} {acc':List V} {m':Nat},Inv (rP X scope cl fp (tgs++ns) { s2 with heap:=g3 } H3) ([]++vZ fp s5.heap) (new++pick js σ) H8 s8->H8 D=some (.lst acc')->m'<n->W (i+1) m' acc' H8 ->
          ∃m,m<n /\ ∃i acc old H',Inv (rP X scope cl fp (tgs++ns) { s2 with heap:=g3 } H3) [] (old++pick js σ) H' s8/\old.length=tgs.length/\tn i s8.heap/\(∀b∈fp,H' b=none)/\H' D=some (.lst acc)/\W i m acc H':=by
        intro s8 H8 acc' m' K8 h8 hm' w8
        refine⟨m',hm',i+1,acc',new,H8,K8.unpinned,hnew,T.keep _ _ _ st5 fun b hb o e=>(K8.pin (b,o) (mem_append_right _ (mem_append_right _ (nW hb e)))).1,fun b hb=>?_,h8,w8⟩
        obtain⟨o,e,d⟩:=T.obj _ _ st5 b hb
        exact(K8.pin (b,o) (mem_append_right _ (mem_append_right _ (nW hb e)))).2.1
      cases b with
      |true=>
        refine tR ?_
        rw[if_pos rfl] at q6'
        refine thn (he fp { s2 with heap:=g3 } H3 _ s6' _ H6' _ K6' q6') fun vv s7 ⟨v,H7,K7,r7,hD7,hlen,m',hm',w7⟩=>?_
        refine thn (yN (X:=rP X scope cl fp (tgs++ns) { s2 with heap:=g3 } H3) _ s7 _ H7 (.ref D) [v] (.ref D) [vv] (fun _ H8=>H8=upd H7 D (.lst (acc++[v]))) K7 rfl (.cons r7 .nil) ⟨D,acc,v,rfl,rfl,hD7,hlen,rfl⟩) fun _ s8 ⟨_,H8,K8,_,e8⟩=>?_
        subst e8
        exact again K8 cT hm' w7
      |false=>
        refine nX ?_
        have q6f:H6' D=some (.lst acc) /\ ∃m',m'<n/\W (i+1) m' acc H6':=by simpa using q6'
        obtain⟨hD7,m',hm',w7⟩:=q6f
        exact again K6' hD7 hm' w7
  exact codeAny_compStart_list loop (T.self _ 0 _ _ _ st4 loop)
theorem HH{elt iter tgt:Expr}{ifs:List Expr}{scope:Scope}{pos:Pos}{cl:List (Str×Addr)}{tgs ns:List Str}{js:List Nat}{wi:TI}{g:TG}{tt:TT}{te:TE}(hc:X.N=X.N)
    (hi:PI X tgt iter wi) (hg:∀(fp:List Addr) (s:Shared) (H:Hp),PG (rP X scope cl fp (tgs++ns) s H) tgt g) (ht:∀(fp:List Addr) (s:Shared) (H:Hp),O2 (rP X scope cl fp (tgs++ns) s H) ifs tt)
    (he:∀(fp:List Addr) (s:Shared) (H:Hp),PE (rP X scope cl fp (tgs++ns) s H) elt te)
    (hclos:closureFor scope X.env=pure cl) (hsub:∀x c,cl.lookup x=some c->X.env.cells.lookup x=some c)
    (hhas:∀x,((relabel scope X.env).names.lookup x=some .cell \/ (relabel scope X.env).names.lookup x=some .free) -> ∃c,cl.lookup x=some c)
    (hjs:js.map (fun j=>X.N[j]?)=ns.map some) (hin:∀y∈ns,(relabel scope X.env).names.lookup y=some .cell \/ (relabel scope X.env).names.lookup y=some .free)
    (hout:∀y∈ns,X.env.kindOf y=some .cell \/ X.env.kindOf y=some .free)
    (hcell:∀y∈scope.names,y.2 ≠ .cell:=by decide +kernel) (hkind:scope.kind=.function:=by rfl)
    (hnames:∀y∈scope.names,y.2=.local->scope.names.lookup y.1=some .local:=by decide +kernel)
    (hs:∀z,foldedSetIterable iter X.env z=pure z:=by intro _;rfl):
    PE X (.ListComp elt [⟨tgt,iter,ifs,0⟩] scope pos) (zI wi tgs.length js g tt te):=by
  intro pj s σ H Q I h
  rw[eval_ListComp]
  refine yZ hc hi hg ht he hclos hsub hhas hjs hin hout hcell hkind hnames hs _ pj s σ H Q I h none _ ?_
  intro D C H' s' q fp hm inv
  obtain⟨m,hm⟩:=hm
  exact⟨m,hm,fun h' hs'=>⟨.ref D,H',inv h' hs',rfl,q⟩⟩
theorem H9{y:Str}{py spos:Pos}{iy:Nat}{elt iter tgt:Expr}{ifs:List Expr}{scope:Scope}{pos:Pos}{cl:List (Str×Addr)}{tgs ns:List Str}{js:List Nat}{wi:TI}{g:TG}{tt:TT}{te:TE}(hN:X.N.Nodup)(hi2:X.N[iy]?=some y)(hx2:JY X.env.scope y)(hc:X.N=X.N)
    (hi:PI X tgt iter wi) (hg:∀(fp:List Addr) (s:Shared) (H:Hp),PG (rP X scope cl fp (tgs++ns) s H) tgt g) (ht:∀(fp:List Addr) (s:Shared) (H:Hp),O2 (rP X scope cl fp (tgs++ns) s H) ifs tt)
    (he:∀(fp:List Addr) (s:Shared) (H:Hp),PE (rP X scope cl fp (tgs++ns) s H) elt te)
    (hclos:closureFor scope X.env=pure cl) (hsub:∀x c,cl.lookup x=some c->X.env.cells.lookup x=some c)
    (hhas:∀x,((relabel scope X.env).names.lookup x=some .cell \/ (relabel scope X.env).names.lookup x=some .free) -> ∃c,cl.lookup x=some c)
    (hjs:js.map (fun j=>X.N[j]?)=ns.map some) (hin:∀y∈ns,(relabel scope X.env).names.lookup y=some .cell \/ (relabel scope X.env).names.lookup y=some .free)
    (hout:∀y∈ns,X.env.kindOf y=some .cell \/ X.env.kindOf y=some .free)
    (hcell:∀y∈scope.names,y.2 ≠ .cell:=by decide +kernel) (hkind:scope.kind=.function:=by rfl)
    (hnames:∀y∈scope.names,y.2=.local->scope.names.lookup y.1=some .local:=by decide +kernel)
    (hs:∀z,foldedSetIterable iter X.env z=pure z:=by intro _;rfl)
    (hsw:swapsWith (.ListComp elt [⟨tgt,iter,ifs,0⟩] scope pos) (some (.Name y py)) spos.line X.env=pure true:=by rfl) (hf:X.fn y=true \/ X.env.scope.names.lookup y=some .local:=by first | exact .inl rfl | exact .inr rfl | assumption):
    PS X (.Assign [.Name y py] (.ListComp elt [⟨tgt,iter,ifs,0⟩] scope pos) spos) (MU (zI wi tgs.length js g tt te) (By iy)):=by
  intro pj s σ H D I h
  rw[exec_Assign_Name_used _ _ _ _ hsw]
  refine wpAny_bind (wpAny_standAt (wpAny_bind ?_))
  show wpAny _ X.A (do let _ <- comprehension (.ListComp elt [⟨tgt,iter,ifs,0⟩] scope pos) scope X.env _ (newList []) false (eval iter X.env) (some (assign (.Name y py) X.env))) _ _ s
  refine wpAny_bind (wpAny_mono (yZ hc hi hg ht he hclos hsub hhas hjs hin hout hcell hkind hnames hs _ pj s σ H _ I h (some (assign (.Name y py) X.env)) (fun _ s'=>SP X pj D .next s') ?_) (fun _ s' hq=>wpAny_pure (wpAny_pure hq)) fun _ _ e=>e)
  intro E C H' s' q fp ⟨m,hm⟩ inv
  have I1:Inv X pj σ H' s':=inv s'.heap ⟨rfl,fun _ _=>rfl⟩
  show wpAny _ X.A (assign (.Name y py) X.env (.ref E)) _ _ _
  refine wpAny_assign_Name (yB I1 hN hi2 hx2 (v:=.ref E) rfl (fun s2 I2 hsb=>?_) hf)
  obtain⟨a,hsb,ha⟩:=hsb
  have aC:a≠C:=by
    rcases ha with ha | ha
    . rw[ha];exact Ne.symm fp.2.1
    . exact fp.2.2.2.2.1 _ _ ha
  refine⟨m,hm.sameBut hsb (Ne.symm aC),fun h' hs'=>⟨_,H',?_,q⟩⟩
  refine I2.call' (s':={ s2 with heap:=h' }) (ch:=[C]) rfl ⟨fun b o e n hb hx=>?_,fun b o e n hb hx=>?_,fun b o e n hx=>n,fun b o e hx=>?_,fun _ _ e=>e,fun _ _ _ e=>e,fun b ps e=>⟨#[],by simpa using e⟩⟩ ?_ I2.bare ?_
  . exact hs'.extBut b o (by simpa using hx) e
  . exact⟨o.slots,hs'.extBut b o (by simpa using hx) e⟩
  . exact⟨o,hs'.extBut b o (by simpa using hx) e⟩
  . have nC:∀c v,H' c=some v->c≠C:=fun c v e z=>by
      rw[z,fp.1] at e
      cases e
    intro b u e
    refine(I2.hok b u e).stay (fun c v hc q=>(hs'.2 c ?_).trans q) (fun _ q=>q) (fun _ _ q=>q) fun _ _ q=>q
    rcases hc with z | z
    . rw[z];exact nC b u e
    . exact nC c _ z
  . intro b hb
    obtain rfl:b=C:=by simpa using hb
    exact⟨fp.2.2.2.1,fp.2.1,fp.2.2.2.2.1,fp.2.2.2.2.2⟩
end
section
variable {κ:Type} [DecidableEq κ]
def lU(kvs:List (κ×V))(k:κ):Option V:=(kvs.find? fun kv=>decide (kv.1=k)).map (·.2)
def sM(kvs:List (κ×V))(k:κ)(v:V):List (κ×V):=
  if (kvs.any fun kv=>decide (kv.1=k))=true then kvs.map (fun kv=>if kv.1=k then (kv.1,v) else kv) else kvs++[(k,v)]
theorem oC{p:κ×V}{r:List (κ×V)}{k:κ}(e:p.1=k):lU (p::r) k=some p.2:=by simp[lU,find?_cons,e]
theorem oE{p:κ×V}{r:List (κ×V)}{k:κ}(e:¬p.1=k):lU (p::r) k=lU r k:=by simp[lU,find?_cons,e]
theorem Ao(k:κ):∀kvs:List (κ×V),(kvs.any fun kv=>decide (kv.1=k))=(lU kvs k).isSome
  | []=>rfl
  |p::r=>by
    rw[any_cons]
    by_cases e:p.1=k
    . simp only[oC e,decide_eq_true e,Bool.true_or,Option.isSome_some]
    . rw[oE e,decide_eq_false e,Bool.false_or];exact Ao k r
theorem uE(kvs:List (κ×V))(k:κ)(v:V):(sM kvs k v).length<=kvs.length+1:=by
  unfold sM
  split
  . rw[length_map];ac_rfl
  . rw[length_append,length_cons,length_nil];ac_rfl
theorem qF.isSome_eq{o:Option V}{u:Option Value}(r:qF o u):o.isSome=u.isSome:=by
  cases o with
  |none=>cases u with
    |none=>rfl
    |some _=>exact(show False from r).elim
  |some _=>cases u with
    |none=>exact(show False from r).elim
    |some _=>rfl
theorem KV.val{kvs:List (κ×V)}{vs:List (κ×Value)}(r:KV kvs vs)(k:κ):qF (lU kvs k) (valueAt vs k):=by
  unfold KV at r
  induction r with
  |nil=>exact True.intro
  | @cons p q ps qs h t ih=>
    obtain⟨h1,h2⟩:=h
    by_cases e:p.1=k
    . have e':q.1=k:=h1.symm.trans e
      have b:valueAt (q::qs) k=some q.2:=by simp[valueAt,find?_cons,e']
      rw[oC e,b];exact h2
    . have e':¬q.1=k:=fun z=>e (h1.trans z)
      have b:valueAt (q::qs) k=valueAt qs k:=by simp[valueAt,find?_cons,e']
      rw[oE e,b];exact ih
theorem KV.any{kvs:List (κ×V)}{vs:List (κ×Value)}(r:KV kvs vs)(k:κ):(kvs.any fun kv=>decide (kv.1=k))=vs.any fun kv=>decide (kv.1=k):=by
  unfold KV at r
  induction r with
  |nil=>rfl
  |cons h t ih=>rw[any_cons,any_cons,ih,h.1]
theorem KV.repl{kvs:List (κ×V)}{vs:List (κ×Value)}(r:KV kvs vs)(k:κ){y:V}{u:Value}(ry:d7 y u):
    KV (kvs.map fun kv=>if kv.1=k then (kv.1,y) else kv) (vs.map fun kv=>if kv.1=k then (kv.1,u) else kv):=by
  unfold KV at r ⊢
  induction r with
  |nil=>exact .nil
  | @cons p q ps qs h t ih=>
    rw[map_cons,map_cons]
    refine .cons ?_ ih
    obtain⟨h1,h2⟩:=h
    by_cases e:p.1=k
    . rw[if_pos e,if_pos (h1.symm.trans e)];exact⟨h1,ry⟩
    . rw[if_neg e,if_neg (fun z=>e (h1.trans z))];exact⟨h1,h2⟩
theorem KV.put{kvs:List (κ×V)}{vs:List (κ×Value)}(r:KV kvs vs)(k:κ){y:V}{u:Value}(ry:d7 y u):KV (sM kvs k y) (stored vs k u):=by
  unfold sM stored
  rw[r.any k]
  by_cases e:(vs.any fun kv=>decide (kv.1=k))=true
  . rw[if_pos e,if_pos e];exact r.repl k ry
  . rw[if_neg e,if_neg e];exact Paired.snoc r ⟨rfl,ry⟩
theorem KV.length{kvs:List (κ×V)}{vs:List (κ×Value)}(r:KV kvs vs):kvs.length=vs.length:=Paired.length r
end
theorem EJ{P:Program}{w:World}{k:cL}{u:Value}(r:d7 (kV k) u):(fW P w).is k u=true:=by
  cases k with
  |inl i=>obtain⟨t,e⟩:=(show ∃t,u=Value.int i t from r);subst e;exact Bq P w i t
  |inr x=>obtain⟨t,e⟩:=(show ∃t,u=Value.str x t from r);subst e;exact Bp P w x t
theorem yU{P:Program}{w:World}:∀{ks:List cL} {us:List Value},bV (ks.map kV) us->ItemsAre (fW P w) ks us
  | [],_,r=>by rw[map_nil] at r;cases r;exact .nil
  |k::ks,_,r=>by
    rw[map_cons] at r
    cases r with
    |cons h t=>exact .cons (EJ h) (yU t)
abbrev KT(H:Hp):List (List cL×V)->List (List cL×Addr×Value)->Prop:=Paired fun p q=>p.1=q.1/\H q.2.1=some (.tup (p.1.map kV))/\d7 p.2 q.2.2
theorem KT.val{H:Hp}{kvs:List (List cL×V)}{xs:List (List cL×Addr×Value)}(r:KT H kvs xs)(k:List cL):qF (lU kvs k) ((atKey xs k).map (·.2)):=by
  induction r with
  |nil=>exact True.intro
  | @cons p q ps qs h t ih=>
    obtain⟨h1,_,h2⟩:=h
    by_cases e:p.1=k
    . have e':q.1=k:=h1.symm.trans e
      have b:atKey (q::qs) k=some q.2:=by simp[atKey,find?_cons,e']
      rw[oC e,b];exact h2
    . have e':¬q.1=k:=fun z=>e (h1.trans z)
      have b:atKey (q::qs) k=atKey qs k:=by simp[atKey,find?_cons,e']
      rw[oE e,b];exact ih
theorem KT.repl{H:Hp}{kvs:List (List cL×V)}{xs:List (List cL×Addr×Value)}(r:KT H kvs xs)(k:List cL){y:V}{u:Value}(ry:d7 y u):
    KT H (kvs.map fun kv=>if kv.1=k then (kv.1,y) else kv) (xs.map (putAt k u)):=by
  induction r with
  |nil=>exact .nil
  | @cons p q ps qs h t ih=>
    rw[map_cons,map_cons]
    refine .cons ?_ ih
    obtain⟨h1,h2,h3⟩:=h
    unfold putAt
    by_cases e:p.1=k
    . rw[if_pos e,if_pos (h1.symm.trans e)];exact⟨h1,h2,ry⟩
    . rw[if_neg e,if_neg (fun z=>e (h1.trans z))];exact⟨h1,h2,h3⟩
theorem KT.put{H:Hp}{kvs:List (List cL×V)}{xs:List (List cL×Addr×Value)}(r:KT H kvs xs)(k:List cL){b:Addr}{y:V}{u:Value}(hb:H b=some (.tup (k.map kV)))(ry:d7 y u):
    KT H (sM kvs k y) (storedH xs k b u):=by
  have e:(kvs.any fun kv=>decide (kv.1=k))=(atKey xs k).isSome:=by
    rw[Ao,(r.val k).isSome_eq,isSome_map]
  unfold sM storedH
  rw[e]
  by_cases q:(atKey xs k).isSome=true
  . rw[if_pos q,if_pos q];exact r.repl k ry
  . rw[if_neg q,if_neg q];exact Paired.snoc r ⟨rfl,hb,ry⟩
theorem KT.keeps{H H':Hp}{kvs:List (List cL×V)}{xs:List (List cL×Addr×Value)}(r:KT H kvs xs)(ht:∀b ys,H b=some (.tup ys)->H' b=some (.tup ys)):KT H' kvs xs:=
  Paired.mapP r fun _ _ z=>⟨z.1,ht _ _ z.2.1,z.2.2⟩
section
variable {P:Program} {w:World} {H:Hp} {h:Heap} {a:Addr}
theorem Lg{u:HO}(ok:rY P w H h)(e:Rd H a u):dR P w H h a u:=e.ok ok
theorem CF{kvs:List (cL×V)}(ok:rY P w H h)(e:Rd H a (.dK kvs)):kvs.length<=sizeLine/\(a==sysModules)=false /\ ∃vs,KV kvs vs/\h.DictOf (fW P w) a vs:=
  show dR P w H h a (.dK kvs) from Lg ok e
theorem Q4{kvs:List (cL×V)}(ok:rY P w H h)(e:H a=some (.dK kvs)):kvs.length<=sizeLine/\(a==sysModules)=false /\ ∃vs,KV kvs vs/\h.DictOf (fW P w) a vs:=CF ok (.inl e)
theorem A8{ks:List cL}(ok:rY P w H h)(e:H a=some (.tup (ks.map kV))):(tupleKind (fW P w)).is h ks a:=by
  obtain⟨_,its,r,o,h1,h2,n,h3⟩:=(show dR P w H h a (.tup (ks.map kV)) from ok a _ e)
  exact⟨o,its.toArray,n,h1,h2,h3,by simpa using yU r⟩
theorem EW{ep:Nat}{kvs:List (List cL×V)}(ok:rY P w H h)(e:Rd H a (.dT ep kvs)):kvs.length<=sizeLine/\(a==sysModules)=false /\
    ∃xs,KT H kvs xs/\h.DictOfH (tupleKind (fW P w)) a xs:=by
  obtain⟨z,y,xs,r,o,es,h1,h2,h3,h4,h5⟩:=(show dR P w H h a (.dT ep kvs) from Lg ok e)
  refine⟨z,y,xs,r,o,es,ep,h1,h2,h3,h4,fun x hx=>?_,h5⟩
  have all:∀{l:List (List cL×V)} {m:List (List cL×Addr×Value)},KT H l m -> ∀x∈m,(tupleKind (fW P w)).is h x.1 x.2.1:=by
    intro l m q
    induction q with
    |nil=>intro x hx;exact nomatch hx
    | @cons p q ps qs hq t ih=>
      intro x hx
      rcases mem_cons.mp hx with e | hx
      . subst e
        exact A8 ok (by rw[<- hq.1];exact hq.2.1)
      . exact ih x hx
  exact all r x hx
theorem Q3{ep:Nat}{kvs:List (List cL×V)}(ok:rY P w H h)(e:H a=some (.dT ep kvs)):kvs.length<=sizeLine/\(a==sysModules)=false /\
    ∃xs,KT H kvs xs/\h.DictOfH (tupleKind (fW P w)) a xs:=EW ok (.inl e)
end
def u7(H:Hp)(a:Addr)(y:V)(r:Option V):Prop:=
  (∃kvs k,Rd H a (.dK kvs)/\y=kV k/\r=lU kvs k) \/ ∃ep kvs k b,Rd H a (.dT ep kvs)/\y=.ref b/\H b=some (.tup (k.map kV))/\r=lU kvs k
def JW(H:Hp)(a:Addr)(y v:V)(R:Hp->Prop):Prop:=
  (∃kvs k,H a=some (.dK kvs)/\y=kV k/\kvs.length<sizeLine/\R (upd H a (.dK (sM kvs k v)))) \/
  ∃ep kvs k b,H a=some (.dT ep kvs)/\y=.ref b/\H b=some (.tup (k.map kV))/\kvs.length<sizeLine /\ ∀ep',R (upd H a (.dT ep' (sM kvs k v)))
theorem u7.k{H:Hp}{a:Addr}{kvs:List (cL×V)}{k:cL}(e:H a=some (.dK kvs)):u7 H a (kV k) (lU kvs k):=.inl ⟨kvs,k,.inl e,rfl,rfl⟩
theorem u7.t{H:Hp}{a b:Addr}{ep:Nat}{kvs:List (List cL×V)}{k:List cL}(e:H a=some (.dT ep kvs))(eb:H b=some (.tup (k.map kV))):u7 H a (.ref b) (lU kvs k):=.inr ⟨ep,kvs,k,b,.inl e,rfl,eb,rfl⟩
theorem JW.t{H:Hp}{a b:Addr}{ep:Nat}{kvs:List (List cL×V)}{k:List cL}{v:V}{R:Hp->Prop}(e:H a=some (.dT ep kvs))(eb:H b=some (.tup (k.map kV)))(hl:kvs.length<sizeLine)(r:∀ep',R (upd H a (.dT ep' (sM kvs k v)))):JW H a (.ref b) v R:=.inr ⟨ep,kvs,k,b,e,rfl,eb,hl,r⟩
section
variable {X:Cx} {pj:List (Addr×Obj)} {σ:St} {H:Hp} {s:Shared} {a:Addr} {y v:V} {u r:Value} {o:Option V} {A:Around} {E:Value->Shared->Prop}
theorem Inv.big(I:Inv X pj σ H s):sysModules<s.heap.objs.size:=by
  have h:mainGlobals<s.heap.objs.size:=(I.mod.glob.keeps I.bk).lt
  exact lt_trans ∅ h
theorem G7{Q:Value->Shared->Prop}(hu:A.units+1<cLine)(I:Inv X pj σ H s)(g:u7 H a y (some v))(ry:d7 y u)(h:∀w' s',Inv X pj σ H s'->d7 v w'->Q w' s'):
    wpAny (model X.prog X.w) A (getItem (.ref a) u) Q E s:=by
  rcases g with⟨kvs,k,e,ey,l⟩ | ⟨_,kvs,k,b,e,ey,eb,l⟩
  . subst ey
    obtain⟨z,hd,vs,rel,dd⟩:=CF I.hok e
    obtain⟨w',hw,rw'⟩:=qF.some_of (v:=v) (o:=valueAt vs k) (by rw[l];exact rel.val k)
    exact wpAny_getItem_of (EJ ry) dd.mapOf hw (h w' _ (I.tok _) rw')
  . subst ey
    cases (show u=Value.ref b from ry)
    obtain⟨z,hd,xs,rel,dd⟩:=EW I.hok e
    obtain⟨w',hw,rw'⟩:=qF.some_of (v:=v) (o:=(atKey xs k).map (·.2)) (by rw[l];exact rel.val k)
    obtain⟨p,hp,hp2⟩:=map_eq_some_iff.mp hw
    refine wpAny_getItem_heap (tupleKind_room_in1 hu) (A8 I.hok eb) dd hp ?_
    rw[hp2]
    exact h w' _ (I.tok _) rw'
theorem Rx{Q:Value->Shared->Prop}(hu:A.units+1<cLine)(I:Inv X pj σ H s)(g:u7 H a y o)(ry:d7 y u)(h:∀s',Inv X pj σ H s'->Q (.bool o.isSome) s'):
    wpAny (model X.prog X.w) A (compareOp .In u (.ref a)) Q E s:=by
  rcases g with⟨kvs,k,e,ey,l⟩ | ⟨_,kvs,k,b,e,ey,eb,l⟩
  . subst ey
    obtain⟨z,hd,vs,rel,dd⟩:=CF I.hok e
    refine wpAny_in_of (EJ ry) hd dd.mapOf ?_
    rw[<- (rel.val k).isSome_eq,<- l]
    exact h _ (I.tok _)
  . subst ey
    cases (show u=Value.ref b from ry)
    obtain⟨z,hd,xs,rel,dd⟩:=EW I.hok e
    refine wpAny_in_heap (tupleKind_room_in1 hu) (A8 I.hok eb) hd dd ?_
    have q:=(rel.val k).isSome_eq
    rw[isSome_map] at q
    rw[<- q,<- l]
    exact h _ (I.tok _)
theorem EX{h':Heap}{t':Nat}{ob:HO}(I:Inv X pj σ H s)(mu:GE (H a))(hs:Heap.SameBut a s.heap h')(he:∃q,h'.get? a=some q)(new:dR X.prog X.w (upd H a ob) h' a ob):
    Inv X pj σ (upd H a ob) { s with heap:=h',toks:=t' }:=
  I.write (x:=a) (e:=a) mu (.inl rfl) (fun b q hb z=>(hs.2 b hb).trans z) he new
theorem Nq{P:Program}{w:World}{H':Hp}{h':Heap}{kvs:List (cL×V)}{vs:List (cL×Value)}(z:kvs.length<=sizeLine)(hd:(a==sysModules)=false)(rel:KV kvs vs)(dd:h'.DictOf (fW P w) a vs):
    dR P w H' h' a (.dK kvs):=⟨z,hd,vs,rel,dd⟩
theorem G5{R:Hp->Prop}{Q:Unit->Shared->Prop}(hu:A.units+1<cLine)(I:Inv X pj σ H s)(g:JW H a y v R)(ry:d7 y u)(rv:d7 v r)(h:∀H' s',R H'->Inv X pj σ H' s'->Q () s'):
    wpAny (model X.prog X.w) A (setItem (.ref a) u r) Q E s:=by
  rcases g with⟨kvs,k,e,ey,l,eH⟩ | ⟨ep0,kvs,k,b,e,ey,eb,l,eH⟩
  . subst ey
    obtain⟨z,hd,vs,rel,dd⟩:=Q4 I.hok e
    have hz:vs.length<=sizeLine:=by rw[<- rel.length];exact z
    have hl:(sM kvs k v).length<=sizeLine:=by have:=uE kvs k v;ac_rfl
    refine wpAny_setItem_pairs (hsz:=hz) (EJ ry) dd fun h' dd' hs=>h _ _ eH ?_
    have he:∃q,h'.get? a=some q:=let ⟨q,_,_,hq,_⟩:=dd';⟨q,hq⟩
    exact EX I (by rw[e];exact True.intro) hs he (Nq hl hd (rel.put k rv) dd')
  . subst ey
    cases (show u=Value.ref b from ry)
    obtain⟨z,hd,xs,rel,dd⟩:=Q3 I.hok e
    have hz:xs.length<=sizeLine:=by rw[<- Paired.length rel];exact z
    have hl:(sM kvs k v).length<=sizeLine:=by have:=uE kvs k v;ac_rfl
    refine wpAny_setItem_heap (hsz:=hz) (tupleKind_room_in1 hu) (A8 I.hok eb) dd fun h' dd' hs=>?_
    obtain⟨q,es,ep,hq,h2,h3,h4,_,h5⟩:=dd'
    refine h _ _ (eH ep) ?_
    refine EX I (by rw[e];exact True.intro) hs ⟨q,hq⟩ ⟨hl,hd,_,(rel.put k eb rv).keeps fun c ys ec=>?_,q,es,hq,h2,h3,h4,h5⟩
    rw[bY (Pa ec e (fun z=>nomatch z))]
    exact ec
end
section
variable {X:Cx} {pj:List (Addr×Obj)} {σ:St} {H:Hp} {s:Shared} {a:Addr} {kvs:List (cL×V)} {k:cL} {u:Value} {A:Around} {E:Value->Shared->Prop}
theorem Q7{Q:Value->Shared->Prop}(I:Inv X pj σ H s)(e:Rd H a (.dK kvs))(h:∀t s',Inv X pj σ H s'->Q (.int kvs.length t) s'):wpAny (model X.prog X.w) A (call (.builtin "len") [.ref a]) Q E s:=by
  obtain⟨z,hd,vs,rel,dd⟩:=CF I.hok e
  refine call_len_dict hd dd (by rw[<- rel.length];rw[sizeLine_eq] at z;ac_rfl) ?_
  rw[<- rel.length]
  exact h _ _ (I.tok _)
end
theorem CG{X:Cx}{pj:List (Addr×Obj)}{σ:St}{H:Hp}{s:Shared}{a:Addr}{y:V}{o:Option V}(I:Inv X pj σ H s)(g:u7 H a y o):s.TypeIs (.ref a) "dict" := by
  rcases g with⟨kvs,k,e,_,_⟩ | ⟨_,kvs,k,b,e,_,_,_⟩
  . obtain⟨_,_,vs,_,dd⟩:=CF I.hok e
    exact dd.typeIs
  . obtain⟨_,_,xs,_,dd⟩:=EW I.hok e
    exact dd.typeIs
def OT(td ty tv:TE):TS:=fun D σ H=>tv σ H fun v H1=>td σ H1 fun x H2=>ty σ H2 fun y H3=>∃a,x=.ref a/\JW H3 a y v (D.nx σ)
section
variable {X:Cx} {o i e value:Expr} {pos pos' tpos:Pos} {td ty tv:TE}
theorem K4(hu:X.A.units+1<cLine)(ho:PE X o td)(hi:PE X i ty)(hv:PE X value tv)(hs:swapsWith value (some (.Subscript o i pos')) pos.line X.env=pure false):
    PS X (.Assign [.Subscript o i pos'] value pos) (OT td ty tv):=by
  intro pj s σ H D I h
  refine wpAny_Assign_Subscript (thn (hv pj s σ H _ I h) fun r s1 ⟨v,H1,I1,rv,q1⟩=>thn (ho pj s1 σ H1 _ I1 q1) fun u s2 ⟨x,H2,I2,rx,q2⟩=>thn (hi pj s2 σ H2 _ I2 q2) fun iv s3 ⟨y,H3,I3,ry,a,ex,g⟩=>?_) hs
  subst ex
  obtain rfl:u=Value.ref a:=rx
  exact G5 hu I3 g ry rv fun H4 s4 q3 I4=>⟨σ,H4,I4,q3⟩
end
theorem JF{P:Program}{w:World}{H:Hp}(h:Heap)(hb:sysModules<h.objs.size):dR P w H (h.push { cls:=.type "dict",data:=.dict #[] }) h.objs.size (.dT 0 []):=
  ⟨zero_le _,beq_eq_false_iff_ne.mpr (Ne.symm (ne_of_lt hb)),[],.nil,_,#[],Heap.get?_push_size _ rfl,⟨rfl,rfl,rfl⟩,rfl,rfl,nodup_nil⟩
def MS:TE:=fun _ H Q=>∀p,H p=none->Q (.ref p) (upd H p (.dT 0 []))
section
variable {X:Cx} {pos:Pos}
theorem HG:PE X (.Dict [] [] pos) MS:=fun pj s σ H Q I h=>
  wpAny_Dict_empty ⟨.ref s.heap.objs.size,_,I.laid (a:=s.heap.objs.size) (o:=.dT 0 []) (t':=s.toks) (fun _ _ q=>Heap.get?_push_of_some _ q) (le_refl _) (JF s.heap I.big),rfl,h _ (I.hok.fresh (le_refl _))⟩
end
section
variable {X:Cx} {pj:List (Addr×Obj)} {σ:St} {H:Hp} {s:Shared} {a:Addr} {y d:V} {u r:Value} {o:Option V} {A:Around} {E:Value->Shared->Prop}
end
section
variable {X:Cx} {o e f:Expr} {apos cpos:Pos} {td ty tx:TE}
end
section
variable {X:Cx} {pj:List (Addr×Obj)} {σ:St} {H:Hp} {s:Shared} {a:Addr} {kvs:List (cL×V)} {A:Around} {E:Value->Shared->Prop}
end
section
variable {X:Cx} {pj:List (Addr×Obj)} {σ:St} {H:Hp} {s:Shared} {a:Addr} {y:V} {u:Value} {A:Around} {E:Value->Shared->Prop}
end
section
variable {X:Cx}
theorem GC:gO X (.builtin "len") (fun xs H Q=>∃a kvs,xs=[V.ref a]/\H a=some (.dK kvs)/\Q (.int kvs.length) H):=by
  intro pj s σ H xs us Q I r h
  obtain⟨a,kvs,rfl,ha,q⟩:=h
  obtain⟨u,rfl,ru⟩:=lJ r
  cases ru
  exact Q7 I (.inl ha) fun t s' I'=>⟨.int kvs.length,H,I',⟨t,rfl⟩,q⟩
end
section
variable {κ:Type} [DecidableEq κ]
end
abbrev Tk:=Int×Int×List Int
section
variable {prog:Program} {w:World}
def GY(k:Tk):Int:=reduceHash (Builtin.Tuple.tupleHashOf [hashInt k.1,hashInt k.2.1,reduceHash (Builtin.Tuple.tupleHashOf (k.2.2.map hashInt))])
variable {A:Around} {E:Value->Shared->Prop} {s:Shared}
end
abbrev Rt(x:Tk×Addr):DictEntry:=⟨GY x.1,.ref x.2,.bool true⟩
def ndict(a:Addr)(xs:List (Tk×Addr)):Heap->Prop:=fun h=>xs.length<=sizeLine/\(a==sysModules)=false /\ ∃o es ep,h.get? a=some o/\o.ExactDict/\o.data=.dict es ep/\es.toList=xs.map Rt/\(xs.map (·.1)).Nodup
abbrev HO.dN(a:Addr)(xs:List (Tk×Addr)):HO:=.ext (ndict a xs)
def TileAt(H:Hp)(k:Tk)(b:Addr):Prop:=∃c,H b=some (.tup [.int k.1,.int k.2.1,.ref c])/\H c=some (.tup (k.2.2.map V.int))
section
variable {P:Program} {w:World} {H:Hp} {h:Heap} {a b:Addr}
end
section
variable {X:Cx} {pj:List (Addr×Obj)} {σ:St} {H:Hp} {s:Shared} {a b:Addr} {xs:List (Tk×Addr)} {k:Tk} {A:Around} {E:Value->Shared->Prop}
end
section
variable {X:Cx} {pos pos':Pos} {o i value:Expr} {td ty tv:TE}
end
end L2
namespace Z
open L2
abbrev St:=L2.St
inductive Dv where
 |non
 |bl (b:Bool)
 |int (i:Int)
 |str (x:Str)
 |tup (xs:List Dv)
 |lst (xs:List Dv)
 |dik (kvs:List (cL×Dv))
 |dit (kvs:List (List cL×Dv))
 |obj (C:Addr) (fs:List (Str×Dv))
 |scr (ns:List Int)
 /-- an exception that was caught,of the class at C -/
 |exc (C:Addr) (p:Option Int)
 /-- a dict by tiles whose values are True -/
 |dns (ks:List Tk)
def kF:Dv->Bool
 | .lst _=>false
 | .dik _=>false
 | .dit _=>false
 | .obj _ _=>false
 | .dns _=>false
 | .tup xs=>flatDs xs
 |_=>true
where flatDs:List Dv->Bool
 | []=>true
 |d::r=>kF d&&flatDs r
abbrev flatDs:=kF.flatDs
def LW(K:W.Frag)(H:Hp)(a:Addr)(ns:List Int):Prop:=
 (∃o,H a=some (.frz o (.lst (ns.map V.int)))) \/
  ∃(o:Obj) (its:Array Value) (n:Nat),K.lookup a=some o/\o.cls=.type "list" /\ o.dict=none/\o.data=.seq its n/\its.size<=sizeLine/\bV (ns.map V.int) its.toList
theorem LW.sq{K:W.Frag}{H:Hp}{a:Addr}{ns:List Int}(h:LW K H a ns):gM K H a (ns.map V.int):=by
 rcases h with⟨o,h⟩ | h
 ·exact .inl (.inr ⟨o,h⟩)
 ·exact .inr h
def Eg(H:Hp):Option Int->Option Addr->Prop
 |none,none=>True
 |some n,some d=>∃od,H d=some (.frz od (.xd [("step",.int n)]))
 |_,_=>False
theorem Eg.gen{H H':Hp}(h:∀a o u,H a=some (.frz o u)->H' a=some (.frz o u)):∀{p:Option Int} {d:Option Addr},Eg H p d->Eg H' p d
 |none,none,z=>z
 |some _,some _,⟨od,z⟩=>⟨od,h _ _ _ z⟩
 |none,some _,z=>z.elim
 |some _,none,z=>z.elim
def Ql(H:Hp)(a C:Addr)(p:Option Int):Prop:=∃o u,H a=some (.frz o u)/\o.cls=.ref C/\Eg H p o.dict/\u5 o
def SG(H:Hp)(a:Addr)(ks:List Tk):Prop:=∃xs,H a=some (.dN a xs)/\ks=xs.map (·.1) /\ ∀x∈xs,TileAt H x.1 x.2
mutual
inductive Rep(K:W.Frag)(M:Addr->Prop)(H:Hp):V->Dv->Prop
 |non:Rep K M H .non .non
 |bl (b:Bool):Rep K M H (.bl b) (.bl b)
 |int (i:Int):Rep K M H (.int i) (.int i)
 |str (x:Str):Rep K M H (.str x) (.str x)
 |tup {a:Addr} {xs:List V} {ds:List Dv}:H a=some (.tup xs)->Reps K M H xs ds->Rep K M H (.ref a) (.tup ds)
 |lst {a:Addr} {xs:List V} {ds:List Dv}:H a=some (.lst xs) -> ¬M a->Reps K M H xs ds->Rep K M H (.ref a) (.lst ds)
 |dik {a:Addr} {kvs:List (cL×V)} {ds:List (cL×Dv)}:H a=some (.dK kvs) -> ¬M a->RepK K M H kvs ds->Rep K M H (.ref a) (.dik ds)
 |dit {a:Addr} {ep:Nat} {kvs:List (List cL×V)} {ds:List (List cL×Dv)}:H a=some (.dT ep kvs) -> ¬M a->RepT K M H kvs ds->Rep K M H (.ref a) (.dit ds)
 |obj {a C dx:Addr} {fs:List (Str×V)} {ds:List (Str×Dv)}:H a=some (.ins C dx fs) -> ¬M a->RepF K M H fs ds->Rep K M H (.ref a) (.obj C ds)
 |scr {a:Addr} {ns:List Int}:LW K H a ns->Rep K M H (.ref a) (.scr ns)
 |exc {a C:Addr} {p:Option Int}:Ql H a C p->Rep K M H (.ref a) (.exc C p)
 |dns {a:Addr} {ks:List Tk}:SG H a ks -> ¬M a->Rep K M H (.ref a) (.dns ks)
inductive Reps(K:W.Frag)(M:Addr->Prop)(H:Hp):List V->List Dv->Prop
 |nil:Reps K M H [] []
 |cons {x:V} {d:Dv} {xs:List V} {ds:List Dv}:Rep K M H x d->Reps K M H xs ds->Reps K M H (x::xs) (d::ds)
inductive RepK(K:W.Frag)(M:Addr->Prop)(H:Hp):List (cL×V)->List (cL×Dv)->Prop
 |nil:RepK K M H [] []
 |cons {k:cL} {x:V} {d:Dv} {xs:List (cL×V)} {ds:List (cL×Dv)}:Rep K M H x d->RepK K M H xs ds->RepK K M H ((k,x)::xs) ((k,d)::ds)
inductive RepT(K:W.Frag)(M:Addr->Prop)(H:Hp):List (List cL×V)->List (List cL×Dv)->Prop
 |nil:RepT K M H [] []
 |cons {k:List cL} {x:V} {d:Dv} {xs:List (List cL×V)} {ds:List (List cL×Dv)}:Rep K M H x d->RepT K M H xs ds->RepT K M H ((k,x)::xs) ((k,d)::ds)
inductive RepF(K:W.Frag)(M:Addr->Prop)(H:Hp):List (Str×V)->List (Str×Dv)->Prop
 |nil:RepF K M H [] []
 |cons {k:Str} {x:V} {d:Dv} {xs:List (Str×V)} {ds:List (Str×Dv)}:Rep K M H x d->RepF K M H xs ds->RepF K M H ((k,x)::xs) ((k,d)::ds)
end
structure Gen(K:W.Frag)(M M':Addr->Prop)(H H':Hp):Prop where
 l:∀a o,H a=some o->GE (some o) -> ¬M a->H' a=some o /\ ¬M' a
 t:∀a xs,H a=some (.tup xs)->H' a=some (.tup xs)
 s:∀a ns,LW K H a ns->LW K H' a ns
 x:∀a o u,H a=some (.frz o u)->H' a=some (.frz o u)
section
variable {K:W.Frag} {M M' M'':Addr->Prop} {H H' H'':Hp}
theorem Reps.ind{P:List V->List Dv->Prop}(h0:P [] [])(h1:∀(x:V) (d:Dv) (xs:List V) (ds:List Dv),Rep K M H x d->Reps K M H xs ds->P xs ds->P (x::xs) (d::ds)){xs:List V}{ds:List Dv}(r:Reps K M H xs ds):P xs ds:=
 Reps.rec (motive_1:=fun _ _ _=>True) (motive_2:=fun xs ds _=>P xs ds) (motive_3:=fun _ _ _=>True) (motive_4:=fun _ _ _=>True) (motive_5:=fun _ _ _=>True) trivial (fun _=>trivial) (fun _=>trivial) (fun _=>trivial) (fun _ _ _=>trivial) (fun _ _ _ _=>trivial) (fun _ _ _ _=>trivial) (fun _ _ _ _=>trivial) (fun _ _ _ _=>trivial) (fun _=>trivial) (fun _=>trivial) (fun _ _=>trivial) h0 (fun a r _ ih=>h1 _ _ _ _ a r ih) trivial (fun _ _ _ _=>trivial) trivial (fun _ _ _ _=>trivial) trivial (fun _ _ _ _=>trivial) r
theorem RepK.ind{P:List (cL×V)->List (cL×Dv)->Prop}(h0:P [] [])(h1:∀(k:cL) (x:V) (d:Dv) (xs:List (cL×V)) (ds:List (cL×Dv)),Rep K M H x d->RepK K M H xs ds->P xs ds->P ((k,x)::xs) ((k,d)::ds)){xs:List (cL×V)}{ds:List (cL×Dv)}(r:RepK K M H xs ds):P xs ds:=
 RepK.rec (motive_1:=fun _ _ _=>True) (motive_2:=fun _ _ _=>True) (motive_3:=fun xs ds _=>P xs ds) (motive_4:=fun _ _ _=>True) (motive_5:=fun _ _ _=>True) trivial (fun _=>trivial) (fun _=>trivial) (fun _=>trivial) (fun _ _ _=>trivial) (fun _ _ _ _=>trivial) (fun _ _ _ _=>trivial) (fun _ _ _ _=>trivial) (fun _ _ _ _=>trivial) (fun _=>trivial) (fun _=>trivial) (fun _ _=>trivial) trivial (fun _ _ _ _=>trivial) h0 (fun a r _ ih=>h1 _ _ _ _ _ a r ih) trivial (fun _ _ _ _=>trivial) trivial (fun _ _ _ _=>trivial) r
theorem RepT.ind{P:List (List cL×V)->List (List cL×Dv)->Prop}(h0:P [] [])(h1:∀(k:List cL) (x:V) (d:Dv) (xs:List (List cL×V)) (ds:List (List cL×Dv)),Rep K M H x d->RepT K M H xs ds->P xs ds->P ((k,x)::xs) ((k,d)::ds)){xs:List (List cL×V)}{ds:List (List cL×Dv)}(r:RepT K M H xs ds):P xs ds:=
 RepT.rec (motive_1:=fun _ _ _=>True) (motive_2:=fun _ _ _=>True) (motive_3:=fun _ _ _=>True) (motive_4:=fun xs ds _=>P xs ds) (motive_5:=fun _ _ _=>True) trivial (fun _=>trivial) (fun _=>trivial) (fun _=>trivial) (fun _ _ _=>trivial) (fun _ _ _ _=>trivial) (fun _ _ _ _=>trivial) (fun _ _ _ _=>trivial) (fun _ _ _ _=>trivial) (fun _=>trivial) (fun _=>trivial) (fun _ _=>trivial) trivial (fun _ _ _ _=>trivial) trivial (fun _ _ _ _=>trivial) h0 (fun a r _ ih=>h1 _ _ _ _ _ a r ih) trivial (fun _ _ _ _=>trivial) r
theorem RepF.ind{P:List (Str×V)->List (Str×Dv)->Prop}(h0:P [] [])(h1:∀(k:Str) (x:V) (d:Dv) (xs:List (Str×V)) (ds:List (Str×Dv)),Rep K M H x d->RepF K M H xs ds->P xs ds->P ((k,x)::xs) ((k,d)::ds)){xs:List (Str×V)}{ds:List (Str×Dv)}(r:RepF K M H xs ds):P xs ds:=
 RepF.rec (motive_1:=fun _ _ _=>True) (motive_2:=fun _ _ _=>True) (motive_3:=fun _ _ _=>True) (motive_4:=fun _ _ _=>True) (motive_5:=fun xs ds _=>P xs ds) trivial (fun _=>trivial) (fun _=>trivial) (fun _=>trivial) (fun _ _ _=>trivial) (fun _ _ _ _=>trivial) (fun _ _ _ _=>trivial) (fun _ _ _ _=>trivial) (fun _ _ _ _=>trivial) (fun _=>trivial) (fun _=>trivial) (fun _ _=>trivial) trivial (fun _ _ _ _=>trivial) trivial (fun _ _ _ _=>trivial) trivial (fun _ _ _ _=>trivial) h0 (fun a r _ ih=>h1 _ _ _ _ _ a r ih) r
theorem _root_.L2.TileAt.gen{k:Tk}{b:Addr}(t:TileAt H k b)(ht:∀a xs,H a=some (.tup xs)->H' a=some (.tup xs)):TileAt H' k b:=let ⟨c,e1,e2⟩:=t;⟨c,ht _ _ e1,ht _ _ e2⟩
theorem Rep.gen(G:Gen K M M' H H'){x:V}{d:Dv}(r:Rep K M H x d):Rep K M' H' x d:=
 Rep.rec (motive_1:=fun x d _=>Rep K M' H' x d) (motive_2:=fun xs ds _=>Reps K M' H' xs ds) (motive_3:=fun xs ds _=>RepK K M' H' xs ds) (motive_4:=fun xs ds _=>RepT K M' H' xs ds) (motive_5:=fun xs ds _=>RepF K M' H' xs ds)
  .non .bl .int .str (fun h _ r=>.tup (G.t _ _ h) r) (fun h m _ r=>.lst (G.l _ _ h trivial m).1 (G.l _ _ h trivial m).2 r) (fun h m _ r=>.dik (G.l _ _ h trivial m).1 (G.l _ _ h trivial m).2 r) (fun h m _ r=>.dit (G.l _ _ h trivial m).1 (G.l _ _ h trivial m).2 r)
  (fun h m _ r=>.obj (G.l _ _ h trivial m).1 (G.l _ _ h trivial m).2 r) (fun h=>.scr (G.s _ _ h)) (fun⟨o,u,h,z,y,m⟩=>.exc ⟨o,u,G.x _ _ _ h,z,y.gen G.x,m⟩) (fun⟨xs,h,e,t⟩ m=>.dns ⟨xs,(G.l _ _ h trivial m).1,e,fun x hx=>(t x hx).gen G.t⟩ (G.l _ _ h trivial m).2) .nil (fun _ _ a r=>.cons a r) .nil (fun _ _ a r=>.cons a r) .nil (fun _ _ a r=>.cons a r) .nil (fun _ _ a r=>.cons a r) r
theorem Reps.gen(G:Gen K M M' H H'){xs:List V}{ds:List Dv}(r:Reps K M H xs ds):Reps K M' H' xs ds:=r.ind .nil fun _ _ _ _ a _ ih=>.cons (a.gen G) ih
theorem RepK.gen(G:Gen K M M' H H'){xs:List (cL×V)}{ds:List (cL×Dv)}(r:RepK K M H xs ds):RepK K M' H' xs ds:=r.ind .nil fun _ _ _ _ _ a _ ih=>.cons (a.gen G) ih
theorem RepT.gen(G:Gen K M M' H H'){xs:List (List cL×V)}{ds:List (List cL×Dv)}(r:RepT K M H xs ds):RepT K M' H' xs ds:=r.ind .nil fun _ _ _ _ _ a _ ih=>.cons (a.gen G) ih
theorem RepF.gen(G:Gen K M M' H H'){xs:List (Str×V)}{ds:List (Str×Dv)}(r:RepF K M H xs ds):RepF K M' H' xs ds:=r.ind .nil fun _ _ _ _ _ a _ ih=>.cons (a.gen G) ih
theorem aW.scr(S:aW H H'){a:Addr}{ns:List Int}(h:LW K H a ns):LW K H' a ns:=by
 rcases h with⟨o,h⟩ | h
 ·exact .inl ⟨o,S _ _ h⟩
 ·exact .inr h
theorem Gen.mono(S:aW H H'):Gen K M M H H':=⟨fun a o h _ m=>⟨S _ _ h,m⟩,fun _ _ h=>S _ _ h,fun _ _ h=>aW.scr S h,fun _ _ _ h=>S _ _ h⟩
theorem Gen.weak(h:∀a,M' a->M a):Gen K M M' H H:=⟨fun a o e _ m=>⟨e,fun z=>m (h a z)⟩,fun _ _ h=>h,fun _ _ h=>h,fun _ _ _ h=>h⟩
theorem Gen.fresh{p:Addr}(hp:H p=none):Gen K M (fun b=>M b \/ b=p) H H:=
 ⟨fun a o e _ m=>⟨e,fun z=>z.elim m fun z=>by rw[z,hp] at e;cases e⟩,fun _ _ h=>h,fun _ _ h=>h,fun _ _ _ h=>h⟩
theorem Gen.trans(a:Gen K M M' H H')(b:Gen K M' M'' H' H''):Gen K M M'' H H'':=
 ⟨fun c o e mu m=>b.l c o (a.l c o e mu m).1 mu (a.l c o e mu m).2,fun c xs h=>b.t c xs (a.t c xs h),fun c ns h=>b.s c ns (a.s c ns h),fun c o u h=>b.x c o u (a.x c o u h)⟩
theorem D4{p a:Addr}{u:HO}(mu:GE (H p))(e:H a=some u)(n:¬GE (some u)):a≠p:=fun z=>by
 subst z
 rw[e] at mu
 exact n mu
theorem Gen.write{p:Addr}{o:HO}(hM:M p)(mu:GE (H p)):Gen K M M H (upd H p o):=by
 refine⟨fun a u e _ m=>⟨?_,m⟩,fun a xs h=>?_,fun a ns h=>?_,fun a o u h=>by rw[bY (D4 mu h fun z=>z)];exact h⟩
 ·rw[bY fun z=>m (by rw[z];exact hM)]
  exact e
 ·rw[bY (D4 mu h fun z=>z)]
  exact h
 ·rcases h with⟨u,h⟩ | h
  ·exact .inl ⟨u,by rw[bY (D4 mu h fun z=>z)];exact h⟩
  ·exact .inr h
end
section
variable {K:W.Frag} {M M':Addr->Prop} {H H':Hp}
theorem Rep.mono{x:V}{d:Dv}(S:aW H H')(h:Rep K M H x d):Rep K M H' x d:=h.gen (.mono S)
theorem Rep.weak{x:V}{d:Dv}(w:∀a,M' a->M a)(h:Rep K M H x d):Rep K M' H x d:=h.gen (.weak w)
theorem Reps.mono{xs:List V}{ds:List Dv}(S:aW H H')(h:Reps K M H xs ds):Reps K M H' xs ds:=h.gen (.mono S)
theorem Reps.weak{xs:List V}{ds:List Dv}(w:∀a,M' a->M a)(h:Reps K M H xs ds):Reps K M' H xs ds:=h.gen (.weak w)
theorem fS{d:Dv}{ds:List Dv}(f:flatDs (d::ds)=true):kF d=true/\flatDs ds=true:=by
 have f':(kF d&&flatDs ds)=true:=f
 rwa[Bool.and_eq_true] at f'
theorem Rep.flat{x:V}{d:Dv}(f:kF d=true)(r:Rep K M H x d):Rep K M' H x d:=
 Rep.rec (motive_1:=fun x d _=>kF d=true->Rep K M' H x d) (motive_2:=fun xs ds _=>flatDs ds=true->Reps K M' H xs ds) (motive_3:=fun _ _ _=>True) (motive_4:=fun _ _ _=>True) (motive_5:=fun _ _ _=>True)
  (fun _=>.non) (fun b _=>.bl b) (fun i _=>.int i) (fun x _=>.str x) (fun h _ ih f=>.tup h (ih (by rw[kF] at f;exact f))) (fun _ _ _ _ f=>by simp[kF] at f) (fun _ _ _ _ f=>by simp[kF] at f) (fun _ _ _ _ f=>by simp[kF] at f)
  (fun _ _ _ _ f=>by simp[kF] at f) (fun h _=>.scr h) (fun h _=>.exc h) (fun _ _ f=>by simp[kF] at f) (fun _=>.nil) (fun _ _ a r f=>.cons (a (fS f).1) (r (fS f).2)) trivial (fun _ _ _ _=>trivial) trivial (fun _ _ _ _=>trivial) trivial (fun _ _ _ _=>trivial) r f
theorem Reps.flat{xs:List V}{ds:List Dv}(f:flatDs ds=true)(r:Reps K M H xs ds):Reps K M' H xs ds:=
 r.ind (P:=fun xs ds=>flatDs ds=true->Reps K M' H xs ds) (fun _=>.nil) (fun _ _ _ _ a _ ih f=>.cons (a.flat (fS f).1) (ih (fS f).2)) f
theorem RepF.flat{xs:List (Str×V)}{ds:List (Str×Dv)}(f:flatDs (ds.map (·.2))=true)(r:RepF K M H xs ds):RepF K M' H xs ds:=
 r.ind (P:=fun xs ds=>flatDs (ds.map (·.2))=true->RepF K M' H xs ds) (fun _=>.nil) (fun _ _ _ _ _ a _ ih f=>.cons (a.flat (fS f).1) (ih (fS f).2)) f
theorem RepK.flat{xs:List (cL×V)}{ds:List (cL×Dv)}(f:flatDs (ds.map (·.2))=true)(r:RepK K M H xs ds):RepK K M' H xs ds:=
 r.ind (P:=fun xs ds=>flatDs (ds.map (·.2))=true->RepK K M' H xs ds) (fun _=>.nil) (fun _ _ _ _ _ a _ ih f=>.cons (a.flat (fS f).1) (ih (fS f).2)) f
theorem RepT.flat{xs:List (List cL×V)}{ds:List (List cL×Dv)}(f:flatDs (ds.map (·.2))=true)(r:RepT K M H xs ds):RepT K M' H xs ds:=
 r.ind (P:=fun xs ds=>flatDs (ds.map (·.2))=true->RepT K M' H xs ds) (fun _=>.nil) (fun _ _ _ _ _ a _ ih f=>.cons (a.flat (fS f).1) (ih (fS f).2)) f
theorem Reps.length{xs:List V}{ds:List Dv}(r:Reps K M H xs ds):xs.length=ds.length:=r.ind (P:=fun xs ds=>xs.length=ds.length) rfl fun _ _ _ _ _ _ ih=>congrArg (· + 1) ih
theorem Reps.append{xs ys:List V}{ds es:List Dv}(r:Reps K M H xs ds)(s:Reps K M H ys es):Reps K M H (xs++ys) (ds++es):=r.ind (P:=fun xs ds=>Reps K M H (xs++ys) (ds++es)) s fun _ _ _ _ a _ ih=>.cons a ih
theorem Reps.get{xs:List V}{ds:List Dv}{i:Nat}{d:Dv}(r:Reps K M H xs ds)(e:ds[i]?=some d):∃x,xs[i]?=some x/\Rep K M H x d:=
 r.ind (P:=fun xs ds=>∀i,ds[i]?=some d -> ∃x,xs[i]?=some x/\Rep K M H x d) (fun i e=>by rw[List.getElem?_nil] at e;cases e) (fun x y xs ys a _ ih i e=>by
  cases i with
  |zero=>rw[List.getElem?_cons_zero] at e;cases e;exact⟨x,rfl,a⟩
  |succ i=>exact ih i e) i e
theorem Reps.take{xs:List V}{ds:List Dv}(n:Nat)(r:Reps K M H xs ds):Reps K M H (xs.take n) (ds.take n):=
 r.ind (P:=fun xs ds=>∀n,Reps K M H (xs.take n) (ds.take n)) (fun n=>by cases n<;>exact .nil) (fun _ _ _ _ a r ih n=>by cases n with
  |zero=>exact .nil
  |succ n=>exact .cons a (ih n)) n
theorem Reps.drop{xs:List V}{ds:List Dv}(n:Nat)(r:Reps K M H xs ds):Reps K M H (xs.drop n) (ds.drop n):=
 r.ind (P:=fun xs ds=>∀n,Reps K M H (xs.drop n) (ds.drop n)) (fun n=>by cases n<;>exact .nil) (fun _ _ _ _ a r ih n=>by cases n with
  |zero=>exact .cons a r
  |succ n=>exact ih n) n
theorem Reps.erase:∀{xs:List V} {ds:List Dv} (n:Nat),Reps K M H xs ds->Reps K M H (xs.eraseIdx n) (ds.eraseIdx n)
 |_,_,_,.nil=>by simpa using Reps.nil
 |_,_,0,.cons _ r=>r
 |_,_,n+1,.cons b r=>.cons b (Reps.erase n r)
theorem Reps.repl{xs:List V}{ds:List Dv}(h:Reps K M H xs ds):∀n:Nat,Reps K M H (List.replicate n xs).flatten (List.replicate n ds).flatten
 |0=>.nil
 |n+1=>by
  rw[replicate_succ,replicate_succ,flatten_cons,flatten_cons]
  exact h.append (Reps.repl h n)
theorem Reps.ints:∀ns:List Int,Reps K M H (ns.map V.int) (ns.map Dv.int)
 | []=>.nil
 |n::r=>.cons (.int n) (Reps.ints r)
end
def fR(K:W.Frag)(M:Addr->Prop)(H:Hp)(a:Addr):Dv->Prop
 | .lst ds=>∃xs,H a=some (.lst xs)/\Reps K M H xs ds
 | .dik ds=>∃kvs,H a=some (.dK kvs)/\RepK K M H kvs ds
 | .dit ds=>∃ep kvs,H a=some (.dT ep kvs)/\RepT K M H kvs ds
 | .obj C ds=>∃dx fs,H a=some (.ins C dx fs)/\RepF K M H fs ds
 | .dns ks=>SG H a ks
 |_=>False
def C0:Dv->Bool
 | .lst ds=>flatDs ds
 | .dik ds=>flatDs (ds.map (·.2))
 | .dit ds=>flatDs (ds.map (·.2))
 | .obj _ ds=>flatDs (ds.map (·.2))
 | .dns _=>true
 |_=>false
section
variable {K:W.Frag} {M M':Addr->Prop} {H H':Hp} {a:Addr}
theorem fR.gen{d:Dv}(G:Gen K M M' H H')(ha:∀o,H a=some o->H' a=some o)(h:fR K M H a d):fR K M' H' a d:=by
 cases d with
 |lst ds=>obtain⟨xs,e,r⟩:=h;exact⟨xs,ha _ e,r.gen G⟩
 |dik ds=>obtain⟨xs,e,r⟩:=h;exact⟨xs,ha _ e,r.gen G⟩
 |dit ds=>obtain⟨ep,xs,e,r⟩:=h;exact⟨ep,xs,ha _ e,r.gen G⟩
 |obj C ds=>obtain⟨dx,fs,e,r⟩:=h;exact⟨dx,fs,ha _ e,r.gen G⟩
 |dns ks=>obtain⟨xs,e,k,t⟩:=h;exact⟨xs,ha _ e,k,fun x hx=>(t x hx).gen G.t⟩
 |_=>exact h.elim
theorem fR.mono{d:Dv}(S:aW H H')(h:fR K M H a d):fR K M H' a d:=h.gen (.mono S) fun o e=>S _ _ e
theorem fR.weak{d:Dv}(w:∀a,M' a->M a)(h:fR K M H a d):fR K M' H a d:=h.gen (.weak w) fun _ e=>e
theorem fR.flat{d:Dv}(f:C0 d=true)(h:fR K M H a d):fR K M' H a d:=by
 cases d with
 |lst ds=>obtain⟨xs,e,r⟩:=h;exact⟨xs,e,r.flat f⟩
 |dik ds=>obtain⟨xs,e,r⟩:=h;exact⟨xs,e,r.flat f⟩
 |dit ds=>obtain⟨ep,xs,e,r⟩:=h;exact⟨ep,xs,e,r.flat f⟩
 |obj C ds=>obtain⟨dx,fs,e,r⟩:=h;exact⟨dx,fs,e,r.flat f⟩
 |dns ks=>exact h
 |_=>exact h.elim
theorem fR.mut{d:Dv}(h:fR K M H a d):∃o,H a=some o/\GE (some o):=by
 cases d with
 |lst ds=>obtain⟨xs,e,r⟩:=h;exact⟨_,e,trivial⟩
 |dik ds=>obtain⟨xs,e,r⟩:=h;exact⟨_,e,trivial⟩
 |dit ds=>obtain⟨ep,xs,e,r⟩:=h;exact⟨_,e,trivial⟩
 |obj C ds=>obtain⟨dx,fs,e,r⟩:=h;exact⟨_,e,trivial⟩
 |dns ks=>obtain⟨xs,e,_⟩:=h;exact⟨_,e,trivial⟩
 |_=>exact h.elim
theorem fR.rep{d:Dv}(h:fR K M H a d)(m:¬M a):Rep K M H (.ref a) d:=by
 cases d with
 |lst ds=>obtain⟨xs,e,r⟩:=h;exact .lst e m r
 |dik ds=>obtain⟨xs,e,r⟩:=h;exact .dik e m r
 |dit ds=>obtain⟨ep,xs,e,r⟩:=h;exact .dit e m r
 |obj C ds=>obtain⟨dx,fs,e,r⟩:=h;exact .obj e m r
 |dns ks=>exact .dns h m
 |_=>exact h.elim
end
inductive Sl where
 |un
 |v (d:Dv)
 |own (a:Addr) (d:Dv)
def MM(F:Addr->Prop)(ρ:List Sl):Addr->Prop:=fun a=>F a \/ ∃d,Sl.own a d∈ρ
def xZ(K:W.Frag)(M:Addr->Prop)(H:Hp)(o:Option (Option V)):Sl->Prop
 | .un=>True
 | .v d=>∃x,o=some (some x)/\Rep K M H x d
 | .own a d=>o=some (some (.ref a))/\fR K M H a d
abbrev Pk:Bool:=false
def O3(K:W.Frag)(P:Addr)(q:Str):Prop:=Pk=true /\ ∃(C f:Addr) (o:Value) (od:Option Addr) (fd:FuncData) (sl:Array (Option Value)) (c:Addr) (oc:Value) (odc:Option Addr) (vs:Array Value) (slc:Array (Option Value)),
 W.nsIn K mainGlobals "Sides" = some (some (.ref C))/\W.findIn K (.ref C) "last" = some (some (.ref f))/\K.lookup f=some ⟨o,od,.func fd,sl⟩/\fd.code=.ref c/\K.lookup c=some ⟨oc,odc,.fields vs,slc⟩/\vs[11]?=some (.ref P) /\
 q = "Sides.last" ++ ".<locals>." ++ "<lambda>"
def z9(K:W.Frag)(H:Hp):Prop:=∀P q,O3 K P q->H P=some (.lam q)
structure OldF(K:W.Frag)(F:Addr->Prop)(HZ:Hp):Prop where
 f:∀a,F a->HZ a≠none
 t:z9 K HZ
theorem z9.mono{K:W.Frag}{H H':Hp}(t:z9 K H)(S:aW H H'):z9 K H':=fun P q z=>S _ _ (t P q z)
structure Fr(K:W.Frag)(HZ:Hp)(F:Addr->Prop)(σ:St)(H:Hp)(ρ:List Sl):Prop where
 len:σ.length=ρ.length
 sl:∀(i:Nat) (s:Sl),ρ[i]?=some s->xZ K (MM F ρ) H σ[i]? s
 nd:∀(i j:Nat) (a:Addr) (d d':Dv),ρ[i]?=some (.own a d)->ρ[j]?=some (.own a d')->i=j
 new:∀(a:Addr) (d:Dv),Sl.own a d∈ρ->HZ a=none
 same:aW HZ H
 old:OldF K F HZ
section
variable {K:W.Frag} {M M':Addr->Prop} {HZ H H':Hp} {F:Addr->Prop} {σ:St} {ρ:List Sl}
theorem xZ.mono{o:Option (Option V)}{s:Sl}(S:aW H H')(h:xZ K M H o s):xZ K M H' o s:=by
 cases s with
 |un=>trivial
 |v d=>obtain⟨x,e,r⟩:=h;exact⟨x,e,r.mono S⟩
 |own a d=>exact⟨h.1,h.2.mono S⟩
theorem xZ.weak{o:Option (Option V)}{s:Sl}(w:∀a,M' a->M a)(h:xZ K M H o s):xZ K M' H o s:=by
 cases s with
 |un=>trivial
 |v d=>obtain⟨x,e,r⟩:=h;exact⟨x,e,r.weak w⟩
 |own a d=>exact⟨h.1,h.2.weak w⟩
theorem Fr.tab(fr:Fr K HZ F σ H ρ):z9 K H:=fr.old.t.mono fr.same
theorem Fr.mono(fr:Fr K HZ F σ H ρ)(S:aW H H'):Fr K HZ F σ H' ρ:=⟨fr.len,fun i s e=>(fr.sl i s e).mono S,fr.nd,fr.new,fr.same.trans S,fr.old⟩
theorem Fr.at_own(fr:Fr K HZ F σ H ρ){a:Addr}{d:Dv}(h:Sl.own a d∈ρ):∃i:Nat,ρ[i]?=some (.own a d)/\σ[i]?=some (some (.ref a))/\fR K (MM F ρ) H a d:=by
 obtain⟨i,e⟩:=mem_iff_getElem?.mp h
 have:=fr.sl i _ e
 exact⟨i,e,this.1,this.2⟩
theorem Fr.dom(fr:Fr K HZ F σ H ρ){a:Addr}(m:MM F ρ a):H a≠none:=by
 rcases m with m | ⟨d,m⟩
 ·intro e
  exact fr.old.f a m (fr.same.free e)
 ·obtain⟨_,_,_,o⟩:=fr.at_own m
  obtain⟨u,e,_⟩:=o.mut
  rw[e]
  simp
theorem Fr.fresh(fr:Fr K HZ F σ H ρ){a:Addr}(e:H a=none):¬MM F ρ a:=fun m=>fr.dom m e
end
inductive R where
 |v (d:Dv)
 |ow (a:Addr) (d:Dv)
 |nw (d:Dv)
def R.d:R->Dv
 | .v d=>d
 | .ow _ d=>d
 | .nw d=>d
def R.free:R->Bool
 | .ow _ _=>false
 |_=>true
def Am(ρ:List Sl):Addr->Dv->Prop:=fun a d=>Sl.own a d∈ρ
def CU:Addr->Dv->Prop:=fun _ _=>False
def eU(K:W.Frag)(M:Addr->Prop)(O:Addr->Dv->Prop)(H:Hp)(x:V)(r:R)(H':Hp):Prop:=match r with
 | .v d=>Rep K M H' x d
 | .ow a d=>x=.ref a/\O a d/\fR K M H' a d
 | .nw d=>∃a,x=.ref a/\H a=none/\fR K (fun b=>M b \/ b=a) H' a d
def eP(K:W.Frag)(M:Addr->Prop)(H:Hp)(x:V)(d:Dv):Prop:=Rep K M H x d \/ ∃a,x=.ref a/\fR K M H a d
section
variable {K:W.Frag} {M M':Addr->Prop} {O:Addr->Dv->Prop} {H H' H'':Hp} {x:V} {r:R}
theorem eU.mono(h:eU K M O H x r H')(S:aW H' H''):eU K M O H x r H'':=by
 cases r with
 |v d=>exact Rep.mono S h
 |ow a d=>exact⟨h.1,h.2.1,h.2.2.mono S⟩
 |nw d=>obtain⟨a,e,n,o⟩:=h;exact⟨a,e,n,o.mono S⟩
theorem eU.ahead{H1:Hp}(h:eU K M O H1 x r H')(S:aW H H1):eU K M O H x r H':=by
 cases r with
 |v d=>exact h
 |ow a d=>exact h
 |nw d=>obtain⟨a,e,n,o⟩:=h;exact⟨a,e,S.free n,o⟩
theorem eU.c(h:eU K M O H x r H'):eP K M H' x r.d:=by
 cases r with
 |v d=>exact .inl h
 |ow a d=>exact .inr ⟨a,h.1,h.2.2⟩
 |nw d=>obtain⟨a,e,n,o⟩:=h;exact .inr ⟨a,e,o.weak fun b z=>.inl z⟩
theorem eU.rep(h:eU K M O H x r H')(hM:∀a,M a->H a≠none)(f:r.free=true):Rep K M H' x r.d:=by
 cases r with
 |v d=>exact h
 |ow a d=>simp[R.free] at f
 |nw d=>
  obtain⟨a,e,n,o⟩:=h
  subst e
  exact(o.weak fun b z=>.inl z).rep fun z=>hM a z n
theorem eP.lst{ds:List Dv}(h:eP K M H x (.lst ds)):∃a xs,x=.ref a/\H a=some (.lst xs)/\Reps K M H xs ds:=by
 rcases h with h | ⟨a,e,xs,h1,h2⟩
 ·cases h with
  |lst h1 _ h2=>exact⟨_,_,rfl,h1,h2⟩
 ·exact⟨a,xs,e,h1,h2⟩
theorem eP.tup{ds:List Dv}(h:eP K M H x (.tup ds)):∃a xs,x=.ref a/\H a=some (.tup xs)/\Reps K M H xs ds:=by
 rcases h with h | ⟨a,e,o⟩
 ·cases h with
  |tup h1 h2=>exact⟨_,_,rfl,h1,h2⟩
 ·exact o.elim
theorem eP.int{i:Int}(h:eP K M H x (.int i)):x=.int i:=by
 rcases h with h | ⟨a,e,o⟩
 ·cases h;rfl
 ·exact o.elim
theorem eP.bl{b:Bool}(h:eP K M H x (.bl b)):x=.bl b:=by
 rcases h with h | ⟨a,e,o⟩
 ·cases h;rfl
 ·exact o.elim
theorem eP.non(h:eP K M H x .non):x=.non:=by
 rcases h with h | ⟨a,e,o⟩
 ·cases h;rfl
 ·exact o.elim
theorem eP.str{s:Str}(h:eP K M H x (.str s)):x=.str s:=by
 rcases h with h | ⟨a,e,o⟩
 ·cases h;rfl
 ·exact o.elim
theorem eP.scr{ns:List Int}(h:eP K M H x (.scr ns)):∃a,x=.ref a/\LW K H a ns:=by
 rcases h with h | ⟨a,e,o⟩
 ·cases h with
  |scr h=>exact⟨_,rfl,h⟩
 ·exact o.elim
theorem eP.dik{ds:List (cL×Dv)}(h:eP K M H x (.dik ds)):∃a kvs,x=.ref a/\H a=some (.dK kvs)/\RepK K M H kvs ds:=by
 rcases h with h | ⟨a,e,xs,h1,h2⟩
 ·cases h with
  |dik h1 _ h2=>exact⟨_,_,rfl,h1,h2⟩
 ·exact⟨a,xs,e,h1,h2⟩
theorem eP.dit{ds:List (List cL×Dv)}(h:eP K M H x (.dit ds)):∃a ep kvs,x=.ref a/\H a=some (.dT ep kvs)/\RepT K M H kvs ds:=by
 rcases h with h | ⟨a,e,ep0,xs,h1,h2⟩
 ·cases h with
  |dit h1 _ h2=>exact⟨_,_,_,rfl,h1,h2⟩
 ·exact⟨a,ep0,xs,e,h1,h2⟩
theorem eP.obj{C:Addr}{ds:List (Str×Dv)}(h:eP K M H x (.obj C ds)):∃a dx fs,x=.ref a/\H a=some (.ins C dx fs)/\RepF K M H fs ds:=by
 rcases h with h | ⟨a,e,dx,fs,h1,h2⟩
 ·cases h with
  |obj h1 _ h2=>exact⟨_,_,_,rfl,h1,h2⟩
 ·exact⟨a,dx,fs,e,h1,h2⟩
end
abbrev eT:=List Sl->(R->Prop)->Prop
abbrev qJ:=List Sl->(List R->Prop)->Prop
abbrev oA:=List Sl->(Bool->Prop)->Prop
def o8(K:W.Frag)(M:Addr->Prop)(O:Addr->Dv->Prop)(H:Hp)(xs:List V)(rs:List R)(H':Hp):Prop:=Paired (fun x r=>eU K M O H x r H') xs rs
def zC(K:W.Frag)(M:Addr->Prop)(H:Hp):List V->List Dv->Prop:=Paired (eP K M H)
section
variable {K:W.Frag} {M:Addr->Prop} {O:Addr->Dv->Prop} {H H1 H' H'':Hp}
theorem o8.ahead{xs:List V}{rs:List R}(h:o8 K M O H1 xs rs H')(S:aW H H1):o8 K M O H xs rs H':=Paired.mapP h fun _ _ q=>q.ahead S
theorem o8.c:∀{xs:List V} {rs:List R},o8 K M O H xs rs H'->zC K M H' xs (rs.map R.d)
 |_,_,.nil=>.nil
 |_,_,.cons a t=>.cons a.c (o8.c t)
theorem o8.reps(hM:∀a,M a->H a≠none):∀{xs:List V} {rs:List R},o8 K M O H xs rs H'->rs.all R.free=true->Reps K M H' xs (rs.map R.d)
 |_,_,.nil,_=>.nil
 |_,_,.cons a t,f=>by
  rw[all_cons,Bool.and_eq_true] at f
  exact .cons (a.rep hM f.1) (o8.reps hM t f.2)
end
inductive lift(K:W.Frag)(HZ:Hp)(F:Addr->Prop)(t:eT)(σ:St)(H:Hp)(Q:VK):Prop
 |mk (ρ:List Sl) (fr:Fr K HZ F σ H ρ) (h:t ρ fun r=>∀x H',aW H H'->eU K (MM F ρ) (Am ρ) H x r H'->Q x H')
inductive liftA(K:W.Frag)(HZ:Hp)(F:Addr->Prop)(t:qJ)(σ:St)(H:Hp)(Q:List V->Hp->Prop):Prop
 |mk (ρ:List Sl) (fr:Fr K HZ F σ H ρ) (h:t ρ fun rs=>∀xs H',aW H H'->o8 K (MM F ρ) (Am ρ) H xs rs H'->Q xs H')
inductive liftT(K:W.Frag)(HZ:Hp)(F:Addr->Prop)(t:oA)(σ:St)(H:Hp)(Q:Bool->Hp->Prop):Prop
 |mk (ρ:List Sl) (fr:Fr K HZ F σ H ρ) (h:t ρ fun b=>∀H',aW H H'->Q b H')
structure QE(X:Cx)(e:Expr)(t:eT):Prop where
 mono:∀(ρ:List Sl) (Q Q':R->Prop),(∀r,Q r->Q' r)->t ρ Q->t ρ Q'
 run:∀(HZ:Hp) (F:Addr->Prop),PE X e (lift X.K HZ F t)
structure QA(X:Cx)(es:List Expr)(t:qJ):Prop where
 mono:∀(ρ:List Sl) (Q Q':List R->Prop),(∀r,Q r->Q' r)->t ρ Q->t ρ Q'
 run:∀(HZ:Hp) (F:Addr->Prop),PA X es (liftA X.K HZ F t)
structure QT(X:Cx)(e:Expr)(t:oA):Prop where
 mono:∀(ρ:List Sl) (Q Q':Bool->Prop),(∀r,Q r->Q' r)->t ρ Q->t ρ Q'
 run:∀(HZ:Hp) (F:Addr->Prop),PT X e (liftT X.K HZ F t)
structure QW(X:Cx)(e:Expr)(t:oA):Prop where
 mono:∀(ρ:List Sl) (Q Q':Bool->Prop),(∀r,Q r->Q' r)->t ρ Q->t ρ Q'
 run:∀(HZ:Hp) (F:Addr->Prop),PW X e (liftT X.K HZ F t)
section
variable {X:Cx} {a b e c:Expr} {es:List Expr} {ta tb te tc:eT} {ts:qJ} {pos:Pos}
theorem dU{t t':TE}(h:PE X e t)(w:∀σ H Q,t' σ H Q->t σ H Q):PE X e t':=fun pj s σ H Q I q=>h pj s σ H Q I (w σ H Q q)
theorem JU{t t':TA}(h:PA X es t)(w:∀σ H Q,t' σ H Q->t σ H Q):PA X es t':=fun pos pj s σ H Q I q=>h pos pj s σ H Q I (w σ H Q q)
theorem Af{t t':TT}(h:PT X e t)(w:∀σ H Q,t' σ H Q->t σ H Q):PT X e t':=fun pj s σ H Q I q=>h pj s σ H Q I (w σ H Q q)
theorem JS{t t':TT}(h:PW X e t)(w:∀σ H Q,t' σ H Q->t σ H Q):PW X e t':=fun wh pj s σ H Q I q=>h wh pj s σ H Q I (w σ H Q q)
theorem QW.qt{t:oA}(h:QW X e t):QT X e t:=⟨h.mono,fun HZ F=>(h.run HZ F).pt⟩
theorem QE.step{HZ:Hp}{F:Addr->Prop}{σ:St}{H:Hp}{ρ:List Sl}{Q:R->Prop}{Q':VK}(h:QE X e te)(fr:Fr X.K HZ F σ H ρ)(q:te ρ Q)
  (k:∀r x H',Q r->aW H H'->eU X.K (MM F ρ) (Am ρ) H x r H'->Q' x H'):lift X.K HZ F te σ H Q':=⟨ρ,fr,h.mono _ _ _ (fun r qr x H' S rx=>k r x H' qr S rx) q⟩
theorem QA.step{HZ:Hp}{F:Addr->Prop}{σ:St}{H:Hp}{ρ:List Sl}{Q:List R->Prop}{Q':List V->Hp->Prop}(h:QA X es ts)(fr:Fr X.K HZ F σ H ρ)(q:ts ρ Q)
  (k:∀rs xs H',Q rs->aW H H'->o8 X.K (MM F ρ) (Am ρ) H xs rs H'->Q' xs H'):liftA X.K HZ F ts σ H Q':=⟨ρ,fr,h.mono _ _ _ (fun r qr x H' S rx=>k r x H' qr S rx) q⟩
theorem QT.step{t:oA}{HZ:Hp}{F:Addr->Prop}{σ:St}{H:Hp}{ρ:List Sl}{Q:Bool->Prop}{Q':Bool->Hp->Prop}(h:QT X e t)(fr:Fr X.K HZ F σ H ρ)(q:t ρ Q)
  (k:∀b H',Q b->aW H H'->Q' b H'):liftT X.K HZ F t σ H Q':=⟨ρ,fr,h.mono _ _ _ (fun r qr H' S=>k r H' qr S) q⟩
def aE(i:Nat):eT:=fun ρ Q=>match ρ[i]? with
 |some (.v d)=>Q (.v d)
 |some (.own a d)=>Q (.ow a d)
 |_=>False
theorem aF(i:Nat){x:Str}(h:PE X (.Name x pos) (zH i)):QE X (.Name x pos) (aE i):=by
 refine⟨fun ρ Q Q' w h=>?_,fun HZ F=>dU h fun σ H Q ⟨ρ,fr,q⟩=>?_⟩
 ·unfold aE at *
  split at h
  ·exact w _ h
  ·exact w _ h
  ·exact h
 ·unfold aE at q
  split at q
  ·rename_i d e
   obtain⟨x,hx,r⟩:=fr.sl i _ e
   exact⟨x,hx,q x H (aW.refl _) r⟩
  ·rename_i a d e
   obtain⟨hx,r⟩:=fr.sl i _ e
   exact⟨.ref a,hx,q _ H (aW.refl _) ⟨rfl,mem_of_getElem? e,r⟩⟩
  ·exact q.elim
def eC(d:Dv):eT:=fun _ Q=>Q (.v d)
theorem Qq{v:V}{d:Dv}(h:PE X e (tC v))(r:∀M H,Rep X.K M H v d):QE X e (eC d):=
 ⟨fun _ _ _ w q=>w _ q,fun HZ F=>dU h fun σ H Q ⟨ρ,fr,q⟩=>q v H (aW.refl _) (r _ _)⟩
theorem aU{i j pos}:QE X (.Constant (.int i) j pos) (eC (.int i)):=Qq Mt fun _ _=>.int i
theorem o9{b j pos}:QE X (.Constant (.bool b) j pos) (eC (.bl b)):=Qq Oz fun _ _=>.bl b
theorem Di{j pos}:QE X (.Constant .none j pos) (eC .non):=Qq Mr fun _ _=>.non
theorem sL{x:Str}{n:Int}(hm:∃t,X.mg x=some (.int n t))(hg:Gl X x:=by rfl)(hd:(x==("__debug__" : Str))=false:=by decide):QE X (.Name x pos) (eC (.int n)):=Qq (HF hm hg hd) fun _ _=>.int n
def aJ:qJ:=fun _ Q=>Q []
def aD(te:eT)(ts:qJ):qJ:=fun ρ Q=>te ρ fun r=>ts ρ fun rs=>Q (r::rs)
theorem aI:QA X [] aJ:=⟨fun _ _ _ w q=>w _ q,fun HZ F=>JU w4 fun σ H Q ⟨ρ,fr,q⟩=>q [] H (aW.refl _) .nil⟩
theorem aG(ha:QE X e te)(hr:QA X es ts)(hs:starEach (e::es) X.env=(false,eval e X.env)::starEach es X.env:=by rfl):QA X (e::es) (aD te ts):=by
 refine⟨fun ρ Q Q' w h=>ha.mono _ _ _ (fun r q=>hr.mono _ _ _ (fun rs q=>w _ q) q) h,fun HZ F=>JU (pN (ha.run HZ F) (hr.run HZ F) hs) fun σ H Q ⟨ρ,fr,q⟩=>?_⟩
 refine ha.step fr q fun r x H1 q1 S1 r1=>?_
 refine hr.step (fr.mono S1) q1 fun rs xs H2 q2 S2 r2=>?_
 exact q2 _ H2 (S1.trans S2) (.cons (r1.mono S2) (r2.ahead S1))
def zA(X:Cx)(f:Value->Value->Sem Value)(p:Dv->Dv->(R->Prop)->Prop):Prop:=
 (∀dx dy (Q Q':R->Prop),(∀r,Q r->Q' r)->p dx dy Q->p dx dy Q') /\ ∃r:R2,n0 X f r /\ ∀(M:Addr->Prop) (O:Addr->Dv->Prop) (H:Hp) (x y:V) (dx dy:Dv) (Q:VK),eP X.K M H x dx->eP X.K M H y dy ->
  p dx dy (fun rr=>∀z H',aW H H'->eU X.K M O H z rr H'->Q z H')->r x y H Q
def aT(p:Dv->Dv->(R->Prop)->Prop)(ta tb:eT):eT:=fun ρ Q=>ta ρ fun x=>tb ρ fun y=>p x.d y.d Q
theorem vE{p:Dv->Dv->(R->Prop)->Prop}{r:R2}(ha:QE X a ta)(hb:QE X b tb) (hr:∀(M:Addr->Prop) (O:Addr->Dv->Prop) (H:Hp) (x y:V) (dx dy:Dv) (Q:VK),eP X.K M H x dx->eP X.K M H y dy ->
  p dx dy (fun rr=>∀z H',aW H H'->eU X.K M O H z rr H'->Q z H')->r x y H Q) (mo:∀dx dy (Q Q':R->Prop),(∀r,Q r->Q' r)->p dx dy Q->p dx dy Q') (HZ:Hp) (F:Addr->Prop) (σ:St) (H:Hp) (Q:VK)
  (h:lift X.K HZ F (aT p ta tb) σ H Q):OF r (lift X.K HZ F ta) (lift X.K HZ F tb) σ H Q:=by
 obtain⟨ρ,fr,q⟩:=h
 refine ha.step fr q fun rx x H1 q1 S1 r1=>?_
 refine hb.step (fr.mono S1) q1 fun ry y H2 q2 S2 r2=>?_
 refine hr (MM F ρ) (Am ρ) H2 x y _ _ Q (r1.mono S2).c r2.c (mo _ _ _ _ (fun rr k z H' S rz=>?_) q2)
 exact k z H' ((S1.trans S2).trans S) (rz.ahead (S1.trans S2))
theorem sX{p:Dv->Dv->(R->Prop)->Prop}(ha:QE X a ta)(hb:QE X b tb)(mo:∀dx dy (Q Q':R->Prop),(∀r,Q r->Q' r)->p dx dy Q->p dx dy Q')(ρ:List Sl)(Q Q':R->Prop)(w:∀r,Q r->Q' r)(h:aT p ta tb ρ Q):aT p ta tb ρ Q':=
 ha.mono _ _ _ (fun rx h=>hb.mono _ _ _ (fun ry h=>mo _ _ _ _ w h) h) h
theorem cF{op:Operator}{p:Dv->Dv->(R->Prop)->Prop}(ho:zA X (binaryOp op) p)(ha:QE X a ta)(hb:QE X b tb):QE X (.BinOp a op b pos) (aT p ta tb):=by
 obtain⟨mo,r,hR,hr⟩:=ho
 exact⟨sX ha hb mo,fun HZ F=>dU (Ox hR (ha.run HZ F) (hb.run HZ F)) (vE ha hb hr mo HZ F)⟩
theorem oT{op:CmpOp}{p:Dv->Dv->(R->Prop)->Prop}(ho:zA X (compareOp op) p)(ha:QE X a ta)(hb:QE X b tb)(hm:behindInMarks op b=false:=by first | exact nomark _ | rfl):QE X (.Compare a [op] [b] pos) (aT p ta tb):=by
 obtain⟨mo,r,hR,hr⟩:=ho
 exact⟨sX ha hb mo,fun HZ F=>dU (KJ hR (ha.run HZ F) (hb.run HZ F) hm) (vE ha hb hr mo HZ F)⟩
def bB(te:eT):oA:=fun ρ Q=>te ρ fun r=>match r.d with
 | .bl c=>Q c
 |_=>False
theorem wT(mo:∀(ρ:List Sl) (Q Q':R->Prop),(∀r,Q r->Q' r)->te ρ Q->te ρ Q')(ρ:List Sl)(Q Q':Bool->Prop)(w:∀r,Q r->Q' r)(h:bB te ρ Q):bB te ρ Q':=by
 refine mo _ _ _ (fun r q=>?_) h
 split at q
 ·exact w _ q
 ·exact q.elim
theorem JC{HZ:Hp}{F:Addr->Prop}{σ:St}{H:Hp}{Q:Bool->Hp->Prop}(mo:∀(ρ:List Sl) (Q Q':R->Prop),(∀r,Q r->Q' r)->te ρ Q->te ρ Q')(h:liftT X.K HZ F (bB te) σ H Q):lift X.K HZ F te σ H fun x H'=>∃k,x=.bl k/\Q k H':=by
 obtain⟨ρ,fr,q⟩:=h
 refine⟨ρ,fr,mo _ _ _ (fun r q x H' S rx=>?_) q⟩
 split at q
 ·rename_i c e
  have:=rx.c
  rw[e] at this
  exact⟨c,this.bl,q H' S⟩
 ·exact q.elim
theorem cC{op:CmpOp}{p:Dv->Dv->(R->Prop)->Prop}(ho:zA X (compareOp op) p)(ha:QE X a ta)(hb:QE X b tb)(hm:behindInMarks op b=false:=by first | exact nomark _ | rfl):QT X (.Compare a [op] [b] pos) (bB (aT p ta tb)):=by
 obtain⟨mo,r,hR,hr⟩:=ho
 have m1:=sX ha hb mo
 exact⟨wT m1,fun HZ F=>Af (K0 hR (ha.run HZ F) (hb.run HZ F) hm) fun σ H Q h=>vE ha hb hr mo HZ F σ H _ (JC m1 h)⟩
def C7(t u:oA):oA:=fun ρ Q=>t ρ fun c=>if c=true then u ρ Q else Q false
def DM(t u:oA):oA:=fun ρ Q=>t ρ fun c=>if c=true then Q true else u ρ Q
def j5(t:oA):oA:=fun ρ Q=>t ρ fun c=>Q (!c)
theorem Dg{t:oA}(h:QT X a t):QW X (.BoolOp .And [a] pos) t:=⟨h.mono,fun HZ F=>Jw (h.run HZ F)⟩
theorem tH{t:oA}(h:QT X a t):QW X (.BoolOp .Or [a] pos) t:=⟨h.mono,fun HZ F=>Mc (h.run HZ F)⟩
theorem Co{t u:oA}{rest:List Expr}(h:QT X a t)(k:QW X (.BoolOp .And (b::rest) pos) u):QW X (.BoolOp .And (a::b::rest) pos) (C7 t u):=by
 refine⟨fun ρ Q Q' w q=>h.mono _ _ _ (fun c q=>?_) q,fun HZ F=>JS (Md (h.run HZ F) (k.run HZ F)) fun σ H Q ⟨ρ,fr,q⟩=>?_⟩
 ·split at q
  ·rw[if_pos ‹_›];exact k.mono _ _ _ w q
  ·rw[if_neg ‹_›];exact w _ q
 ·refine h.step fr q fun c H1 q1 S1=>?_
  cases c with
  |true=>
   simp only[if_true] at q1
   exact tR ⟨ρ,fr.mono S1,k.mono _ _ _ (fun b q H' S=>q H' (S1.trans S)) q1⟩
  |false=>
   simp only[Bool.false_eq_true,if_false] at q1
   exact nX (q1 H1 S1)
theorem uB{t u:oA}{rest:List Expr}(h:QT X a t)(k:QW X (.BoolOp .Or (b::rest) pos) u):QW X (.BoolOp .Or (a::b::rest) pos) (DM t u):=by
 refine⟨fun ρ Q Q' w q=>h.mono _ _ _ (fun c q=>?_) q,fun HZ F=>JS (Os (h.run HZ F) (k.run HZ F)) fun σ H Q ⟨ρ,fr,q⟩=>?_⟩
 ·split at q
  ·rw[if_pos ‹_›];exact w _ q
  ·rw[if_neg ‹_›];exact k.mono _ _ _ w q
 ·refine h.step fr q fun c H1 q1 S1=>?_
  cases c with
  |true=>
   simp only[if_true] at q1
   exact tR (q1 H1 S1)
  |false=>
   simp only[Bool.false_eq_true,if_false] at q1
   exact nX ⟨ρ,fr.mono S1,k.mono _ _ _ (fun b q H' S=>q H' (S1.trans S)) q1⟩
theorem fU{t:oA}(h:QT X a t):QT X (.UnaryOp .Not a pos) (j5 t):=
 ⟨fun ρ Q Q' w q=>h.mono _ _ _ (fun c q=>w _ q) q,fun HZ F=>Af (Mf (h.run HZ F)) fun σ H Q ⟨ρ,fr,q⟩=>h.step fr q fun c H1 q1 S1=>q1 H1 S1⟩
def uI(ta tb:eT):eT:=fun ρ Q=>ta ρ fun r=>match r.d with
 | .bl c=>if c=true then tb ρ Q else Q (.v (.bl false))
 |_=>False
def JD(ta tb:eT):eT:=fun ρ Q=>ta ρ fun r=>match r.d with
 | .bl c=>if c=true then Q (.v (.bl true)) else tb ρ Q
 |_=>False
def wU(ta:eT):eT:=fun ρ Q=>ta ρ fun r=>match r.d with
 | .bl c=>Q (.v (.bl (!c)))
 |_=>False
theorem vX{op}(h:QE X a ta):QE X (.BoolOp op [a] pos) ta:=⟨h.mono,fun HZ F=>Mp (h.run HZ F)⟩
theorem BC{rest:List Expr}(h:QE X a ta)(k:QE X (.BoolOp .And (b::rest) pos) tb):QE X (.BoolOp .And (a::b::rest) pos) (uI ta tb):=by
 refine⟨fun ρ Q Q' w q=>h.mono _ _ _ (fun c q=>?_) q,fun HZ F=>dU (Mw (h.run HZ F) (k.run HZ F)) fun σ H Q ⟨ρ,fr,q⟩=>?_⟩
 ·split at q
  ·split at q
   ·rw[if_pos ‹_›];exact k.mono _ _ _ w q
   ·rw[if_neg ‹_›];exact w _ q
  ·exact q
 ·refine h.step fr q fun r x H1 q1 S1 r1=>?_
  split at q1
  ·rename_i c e
   have rc:=r1.c
   rw[e] at rc
   refine⟨c,rc.bl,?_⟩
   cases c with
   |true=>
    simp only[if_true] at q1
    exact tR ⟨ρ,fr.mono S1,k.mono _ _ _ (fun b q z H' S rz=>q z H' (S1.trans S) (rz.ahead S1)) q1⟩
   |false=>
    simp only[Bool.false_eq_true,if_false] at q1
    exact nX (q1 _ H1 S1 (Rep.bl false))
  ·exact q1.elim
theorem On{rest:List Expr}(h:QE X a ta)(k:QE X (.BoolOp .Or (b::rest) pos) tb):QE X (.BoolOp .Or (a::b::rest) pos) (JD ta tb):=by
 refine⟨fun ρ Q Q' w q=>h.mono _ _ _ (fun c q=>?_) q,fun HZ F=>dU (Ow (h.run HZ F) (k.run HZ F)) fun σ H Q ⟨ρ,fr,q⟩=>?_⟩
 ·split at q
  ·split at q
   ·rw[if_pos ‹_›];exact w _ q
   ·rw[if_neg ‹_›];exact k.mono _ _ _ w q
  ·exact q
 ·refine h.step fr q fun r x H1 q1 S1 r1=>?_
  split at q1
  ·rename_i c e
   have rc:=r1.c
   rw[e] at rc
   refine⟨c,rc.bl,?_⟩
   cases c with
   |true=>
    simp only[if_true] at q1
    exact tR (q1 _ H1 S1 (Rep.bl true))
   |false=>
    simp only[Bool.false_eq_true,if_false] at q1
    exact nX ⟨ρ,fr.mono S1,k.mono _ _ _ (fun b q z H' S rz=>q z H' (S1.trans S) (rz.ahead S1)) q1⟩
  ·exact q1.elim
theorem Dh(h:QE X a ta):QE X (.UnaryOp .Not a pos) (wU ta):=by
 refine⟨fun ρ Q Q' w q=>h.mono _ _ _ (fun c q=>?_) q,fun HZ F=>dU (Mq (h.run HZ F)) fun σ H Q ⟨ρ,fr,q⟩=>?_⟩
 ·split at q
  ·exact w _ q
  ·exact q
 ·refine h.step fr q fun r x H1 q1 S1 r1=>?_
  split at q1
  ·rename_i c e
   have rc:=r1.c
   rw[e] at rc
   exact⟨c,rc.bl,q1 _ H1 S1 (Rep.bl _)⟩
  ·exact q1.elim
def SE(t:oA)(ta tb:eT):eT:=fun ρ Q=>t ρ fun c=>if c=true then ta ρ Q else tb ρ Q
def cZ(ts:qJ):eT:=fun ρ Q=>ts ρ fun rs=>rs.all R.free=true/\rs.length<=1000/\Q (.v (.tup (rs.map R.d)))
def i5(ts:qJ):eT:=fun ρ Q=>ts ρ fun rs=>rs.all R.free=true/\rs.length<=1000/\Q (.nw (.lst (rs.map R.d)))
theorem uA{n:Nat}(h:n<=1000):n<=sizeLine:=le_of_lt (Ev h)
theorem aW.new'{H:Hp}{l:Addr}{o:HO}(hl:H l=none):aW H (upd H l o):=fun b q e=>by rw[bY (bT e hl)];exact e
theorem d6{x1}(h:QA X es ts):QE X (.Tuple es x1 pos) (cZ ts):=by
 refine⟨fun ρ Q Q' w q=>h.mono _ _ _ (fun rs q=>⟨q.1,q.2.1,w _ q.2.2⟩) q,fun HZ F=>dU (Mo (h.run HZ F)) fun σ H Q ⟨ρ,fr,q⟩=>?_⟩
 refine h.step fr q fun rs xs H1 ⟨q1,q2,q3⟩ S1 r1=>?_
 have hl:xs.length=rs.length:=Paired.length r1
 refine⟨uA ⋯,fun p hp=>q3 _ _ (S1.trans (aW.new' hp)) ?_⟩
 exact .tup cT ((r1.reps (fun a m=>fr.dom m) q1).mono (aW.new' hp))
theorem gK(h:QA X es ts):QE X (.List es pos) (i5 ts):=by
 refine⟨fun ρ Q Q' w q=>h.mono _ _ _ (fun rs q=>⟨q.1,q.2.1,w _ q.2.2⟩) q,fun HZ F=>dU (Ms (h.run HZ F)) fun σ H Q ⟨ρ,fr,q⟩=>?_⟩
 refine h.step fr q fun rs xs H1 ⟨q1,q2,q3⟩ S1 r1=>?_
 have hl:xs.length=rs.length:=Paired.length r1
 refine⟨uA ⋯,fun p hp=>q3 _ _ (S1.trans (aW.new' hp)) ?_⟩
 exact⟨p,rfl,S1.free hp,xs,cT,((r1.reps (fun a m=>fr.dom m) q1).gen (.fresh hp)).mono (aW.new' hp)⟩
end
abbrev zB:Nat:=1000000
theorem jN{n:Nat}(h:n<=zB):n<=sizeLine:=le_trans h (by rw[sizeLine_eq];decide)
section
variable {K:W.Frag} {M:Addr->Prop} {O:Addr->Dv->Prop} {H:Hp}
theorem lC{p:Addr}{xs:List V}{ds:List Dv}(hp:H p=none)(r:Reps K M H xs ds):eU K M O H (.ref p) (.nw (.lst ds)) (upd H p (.lst xs)):=⟨p,rfl,hp,xs,cT,(r.gen (.fresh hp)).mono (aW.new' hp)⟩
theorem GM{p:Addr}{xs:List V}{ds:List Dv}(hp:H p=none)(r:Reps K M H xs ds):eU K M O H (.ref p) (.v (.tup ds)) (upd H p (.tup xs)):=Rep.tup cT (r.mono (aW.new' hp))
end
def dZ:Dv->Dv->(R->Prop)->Prop
 | .int i,.int j,Q=>Q (.v (.int (i+j)))
 | .lst xs,.lst ys,Q=>xs.length+ys.length<=zB/\Q (.nw (.lst (xs++ys)))
 | .str x,.str y,Q=>x.length+y.length<=zB/\Q (.v (.str (x++y)))
 |_,_,_=>False
def lI:Dv->Dv->(R->Prop)->Prop
 | .int i,.int j,Q=>Q (.v (.int (i-j)))
 |_,_,_=>False
def uK(i j:Int):Prop:=O5 i j \/ (i.natAbs<2 ^ 4000/\j.natAbs<2 ^ 4000)
def gY:Dv->Dv->(R->Prop)->Prop
 | .int i,.int j,Q=>uK i j/\Q (.v (.int (i*j)))
 | .lst xs,.int k,Q=>(-(2 ^ 63)<=k/\k<2 ^ 63/\xs.length*k.toNat<=zB)/\Q (.nw (.lst (List.replicate k.toNat xs).flatten))
 |_,_,_=>False
def nP:Dv->Dv->(R->Prop)->Prop
 | .int i,.int j,Q=>(0<j/\j<2 ^ 200)/\Q (.v (.int (i / j)))
 |_,_,_=>False
def PM:Dv->Dv->(R->Prop)->Prop
 | .int i,.int j,Q=>(j≠0/\j.natAbs<2 ^ 4000)/\Q (.v (.int (i.fdiv j)))
 |_,_,_=>False
def iT:Dv->Dv->(R->Prop)->Prop
 | .int i,.int j,Q=>0<j/\Q (.v (.int (i % j)))
 |_,_,_=>False
def RV:Dv->Dv->(R->Prop)->Prop
 | .int i,.int j,Q=>LX i j/\Q (.v (.int (i ^ j.toNat)))
 |_,_,_=>False
section
variable {X:Cx}
theorem FQ:∀dx dy (Q Q':R->Prop),(∀r,Q r->Q' r)->dZ dx dy Q->dZ dx dy Q':=by
 intro dx dy Q Q' w h
 unfold dZ at h
 split at h
 ·exact w _ h
 ·exact⟨h.1,w _ h.2⟩
 ·exact⟨h.1,w _ h.2⟩
 ·exact h.elim
theorem cR:zA X (binaryOp .Add) dZ:=by
 refine⟨FQ,_,N9.or (N8.or D1),fun M O H x y dx dy Q cx cy h=>?_⟩
 unfold dZ at h
 split at h
 ·obtain rfl:=cx.int
  obtain rfl:=cy.int
  exact .inl ⟨_,_,rfl,rfl,h _ H (aW.refl _) (Rep.int _)⟩
 ·obtain⟨a,xs,rfl,ea,ra⟩:=cx.lst
  obtain⟨b,ys,rfl,eb,rb⟩:=cy.lst
  have l1:=ra.length
  have l2:=rb.length
  exact .inr (.inl ⟨a,b,xs,ys,rfl,rfl,ea,eb,jN ⋯,fun p hp=>h.2 _ _ (aW.new' hp) (lC hp (ra.append rb))⟩)
 ·obtain rfl:=cx.str
  obtain rfl:=cy.str
  exact .inr (.inr ⟨_,_,rfl,rfl,jN h.1,h.2 _ H (aW.refl _) (Rep.str _)⟩)
 ·exact h.elim
theorem FL:∀dx dy (Q Q':R->Prop),(∀r,Q r->Q' r)->lI dx dy Q->lI dx dy Q':=by
 intro dx dy Q Q' w h
 unfold lI at h
 split at h
 ·exact w _ h
 ·exact h.elim
theorem kH:zA X (binaryOp .Sub) lI:=by
 refine⟨FL,_,N0,fun M O H x y dx dy Q cx cy h=>?_⟩
 unfold lI at h
 split at h
 ·obtain rfl:=cx.int
  obtain rfl:=cy.int
  exact⟨_,_,rfl,rfl,h _ H (aW.refl _) (Rep.int _)⟩
 ·exact h.elim
theorem uK.ok{i j:Int}(h:uK i j):IntMulOk i j:=by
 rcases h with h | ⟨h1,h2⟩
 ·exact h.ok
 ·have key:∀{z:Int},z.natAbs<2 ^ 4000->Builtin.Int.intBits z<=2 ^ 20:=fun {z} hz=>by
   have hl:z.natAbs≠0->z.natAbs.log2<4000:=fun h0=>(Nat.log2_lt h0).mpr hz
   clear hz h1 h2
   unfold Builtin.Int.intBits
   by_cases h0:z=0
   ·simp[h0]
   ·have:=hl ⋯
    simp[h0]
    ac_rfl
  exact IntMulOk.of_bits (key h1) (key h2)
theorem KU:n0 X (binaryOp .Mult) (rI uK fun i j=>.int (i*j)):=RX fun _ _ _ _ _ _ _ hc q=>mul_int q hc.ok
theorem FM:∀dx dy (Q Q':R->Prop),(∀r,Q r->Q' r)->gY dx dy Q->gY dx dy Q':=by
 intro dx dy Q Q' w h
 unfold gY at h
 split at h
 ·exact⟨h.1,w _ h.2⟩
 ·exact⟨h.1,w _ h.2⟩
 ·exact h.elim
theorem dY:zA X (binaryOp .Mult) gY:=by
 refine⟨FM,_,KU.or N1,fun M O H x y dx dy Q cx cy h=>?_⟩
 unfold gY at h
 split at h
 ·obtain rfl:=cx.int
  obtain rfl:=cy.int
  exact .inl ⟨_,_,rfl,rfl,h.1,h.2 _ H (aW.refl _) (Rep.int _)⟩
 ·obtain⟨a,xs,rfl,ea,ra⟩:=cx.lst
  obtain rfl:=cy.int
  have l1:=ra.length
  exact .inr ⟨a,_,xs,rfl,rfl,ea,h.1.1,h.1.2.1,jN (by rw[l1];exact h.1.2.2),fun p hp=>h.2 _ _ (aW.new' hp) (lC hp (ra.repl _))⟩
 ·exact h.elim
theorem FP:∀dx dy (Q Q':R->Prop),(∀r,Q r->Q' r)->nP dx dy Q->nP dx dy Q':=by
 intro dx dy Q Q' w h
 unfold nP at h
 split at h
 ·exact⟨h.1,w _ h.2⟩
 ·exact h.elim
theorem nR:zA X (binaryOp .FloorDiv) nP:=by
 refine⟨FP,_,Hu,fun M O H x y dx dy Q cx cy h=>?_⟩
 unfold nP at h
 split at h
 ·obtain rfl:=cx.int
  obtain rfl:=cy.int
  exact⟨_,_,rfl,rfl,h.1,h.2 _ H (aW.refl _) (Rep.int _)⟩
 ·exact h.elim
theorem FN:∀dx dy (Q Q':R->Prop),(∀r,Q r->Q' r)->iT dx dy Q->iT dx dy Q':=by
 intro dx dy Q Q' w h
 unfold iT at h
 split at h
 ·exact⟨h.1,w _ h.2⟩
 ·exact h.elim
theorem gD:zA X (binaryOp .Mod) iT:=by
 refine⟨FN,_,N3,fun M O H x y dx dy Q cx cy h=>?_⟩
 unfold iT at h
 split at h
 ·obtain rfl:=cx.int
  obtain rfl:=cy.int
  exact⟨_,_,rfl,rfl,h.1,h.2 _ H (aW.refl _) (Rep.int _)⟩
 ·exact h.elim
def LN(ta:eT):eT:=fun ρ Q=>ta ρ fun r=>match r.d with
 | .int i=>Q (.v (.int (-i)))
 |_=>False
theorem Oo{a:Expr}{pos:Pos}{ta:eT}(h:QE X a ta):QE X (.UnaryOp .USub a pos) (LN ta):=by
 refine⟨fun ρ Q Q' w q=>h.mono _ _ _ (fun c q=>?_) q,fun HZ F=>dU (Ov MO (h.run HZ F)) fun σ H Q ⟨ρ,fr,q⟩=>?_⟩
 ·split at q
  ·exact w _ q
  ·exact q
 ·refine h.step fr q fun r x H1 q1 S1 r1=>?_
  split at q1
  ·rename_i i e
   have rc:=r1.c
   rw[e] at rc
   exact⟨i,rc.int,q1 _ H1 S1 (Rep.int _)⟩
  ·exact q1.elim
def zS(f:Int->Int->Bool):Dv->Dv->(R->Prop)->Prop
 | .int i,.int j,Q=>Q (.v (.bl (f i j)))
 |_,_,_=>False
theorem wE{f:Int->Int->Bool}:∀dx dy (Q Q':R->Prop),(∀r,Q r->Q' r)->zS f dx dy Q->zS f dx dy Q':=by
 intro dx dy Q Q' w h
 unfold zS at h
 split at h
 ·exact w _ h
 ·exact h.elim
theorem D0{g:Value->Value->Sem Value}{f:Int->Int->Bool}(h:n0 X g (Df fun i j=>.bl (f i j))):zA X g (zS f):=by
 refine⟨wE,_,h,fun M O H x y dx dy Q cx cy h=>?_⟩
 unfold zS at h
 split at h
 ·obtain rfl:=cx.int
  obtain rfl:=cy.int
  exact⟨_,_,rfl,rfl,h _ H (aW.refl _) (Rep.bl _)⟩
 ·exact h.elim
abbrev xN:=zS fun i j=>decide (i<j)
abbrev PH:=zS fun i j=>decide (i<=j)
abbrev Hi:=zS fun i j=>decide (j<i)
theorem oV:zA X (compareOp .Lt) xN:=D0 Be
theorem Hr:zA X (compareOp .LtE) PH:=D0 Ht
theorem oW:zA X (compareOp .Gt) Hi:=D0 PP
def nZ(p p':Dv->Dv->(R->Prop)->Prop)(ta tb tc:eT):eT:=fun ρ Q=>ta ρ fun x=>tb ρ fun y=>p x.d y.d fun z=>match z.d with
 | .bl k=>if k=true then tc ρ fun w=>p' y.d w.d Q else Q (.v (.bl false))
 |_=>False
def isN:Dv->Bool
 | .non=>true
 |_=>false
def He:Dv->Dv->(R->Prop)->Prop
 |d,.non,Q=>Q (.v (.bl (isN d)))
 |_,_,_=>False
def yM:Dv->Dv->(R->Prop)->Prop
 |d,.non,Q=>Q (.v (.bl (!isN d)))
 |_,_,_=>False
theorem eP.non_iff{K:W.Frag}{M:Addr->Prop}{H:Hp}{x:V}{d:Dv}(h:eP K M H x d):decide (x=.non)=isN d:=by
 rcases h with h | ⟨a,rfl,o⟩
 ·cases h<;>simp[isN]
 ·cases d<;>first | exact o.elim | simp[isN]
theorem KQ:zA X (compareOp .Is) He:=by
 refine⟨fun dx dy Q Q' w h=>?_,_,N4,fun M O H x y dx dy Q cx cy h=>?_⟩
 ·unfold He at h
  split at h
  ·exact w _ h
  ·exact h.elim
 ·unfold He at h
  split at h
  ·refine⟨cy.non,?_⟩
   rw[cx.non_iff]
   exact h _ H (aW.refl _) (Rep.bl _)
  ·exact h.elim
theorem Hq:zA X (compareOp .IsNot) yM:=by
 refine⟨fun dx dy Q Q' w h=>?_,_,KS,fun M O H x y dx dy Q cx cy h=>?_⟩
 ·unfold yM at h
  split at h
  ·exact w _ h
  ·exact h.elim
 ·unfold yM at h
  split at h
  ·refine⟨cy.non,?_⟩
   rw[cx.non_iff]
   exact h _ H (aW.refl _) (Rep.bl _)
  ·exact h.elim
end
def gL:Dv->PyData
 | .non=>.none
 | .bl b=>.bool b
 | .int i=>.int i
 | .str x=>.str x
 | .tup xs=>.tuple (pyDs xs)
 | .lst xs=>.list (pyDs xs)
 | .scr ns=>.list (ns.map .int)
 |_=>.dict []
where pyDs:List Dv->List PyData
 | []=>[]
 |d::r=>gL d::pyDs r
abbrev pyDs:=gL.pyDs
def dQ:Nat->Dv->Bool
 |_,.non=>true
 |_,.bl _=>true
 |_,.int _=>true
 |_,.str x=>PyData.strOk x
 |n+1,.tup xs=>okDs n xs
 |n+1,.lst xs=>okDs n xs
 |_+1,.scr _=>true
 |_,_=>false
where okDs:Nat->List Dv->Bool
 |_,[]=>true
 |n,d::r=>dQ n d&&okDs n r
abbrev okDs:=dQ.okDs
def eqD(a b:Dv):Bool:=PyData.eqv (gL a) (gL b)
theorem CN(ns:List Int):PyData.canLayAll0 (ns.map .int)=true:=by
 induction ns with
 |nil=>rfl
 |cons n r ih=>rw[map_cons,PyData.canLayAll0,ih];rfl
theorem DQ(ns:List Int):PyData.depthAll (ns.map .int)=0:=by
 induction ns with
 |nil=>rfl
 |cons n r ih=>rw[map_cons,PyData.depthAll,ih];rfl
mutual
theorem nV:∀(n:Nat) (d:Dv),dQ n d=true->(gL d).canLay0=true/\(gL d).depth<=n
 |_,.non,_=>⟨by simp[gL,PyData.canLay0],by simp[gL,PyData.depth]⟩
 |_,.bl _,_=>⟨by simp[gL,PyData.canLay0],by simp[gL,PyData.depth]⟩
 |_,.int _,_=>⟨by simp[gL,PyData.canLay0],by simp[gL,PyData.depth]⟩
 |_,.str x,h=>⟨by rw[gL,PyData.canLay0];cases ‹Nat›<;>simpa [dQ] using h,by simp[gL,PyData.depth]⟩
 |0,.tup _,h=>by simp[dQ] at h
 |0,.lst _,h=>by simp[dQ] at h
 |0,.scr _,h=>by simp[dQ] at h
 |n+1,.tup xs,h=>by
  have:=wG n xs (by rw[dQ] at h;exact h)
  exact⟨by rw[gL,PyData.canLay0];exact this.1,by rw[gL,PyData.depth];have h2:PyData.depthAll (gL.pyDs xs)<=n:=this.2;ac_rfl⟩
 |n+1,.lst xs,h=>by
  have:=wG n xs (by rw[dQ] at h;exact h)
  exact⟨by rw[gL,PyData.canLay0];exact this.1,by rw[gL,PyData.depth];have h2:PyData.depthAll (gL.pyDs xs)<=n:=this.2;ac_rfl⟩
 |n+1,.scr ns,_=>⟨by rw[gL,PyData.canLay0];exact CN ns,by rw[gL,PyData.depth,DQ];ac_rfl⟩
 |0,.dik _,h=>by simp[dQ] at h
 |0,.dit _,h=>by simp[dQ] at h
 |0,.obj _ _,h=>by simp[dQ] at h
 |0,.exc _ _,h=>by simp[dQ] at h
 |_+1,.exc _ _,h=>by simp[dQ] at h
 |0,.dns _,h=>by simp[dQ] at h
 |_+1,.dns _,h=>by simp[dQ] at h
 |_+1,.dik _,h=>by simp[dQ] at h
 |_+1,.dit _,h=>by simp[dQ] at h
 |_+1,.obj _ _,h=>by simp[dQ] at h
theorem wG:∀(n:Nat) (ds:List Dv),okDs n ds=true->PyData.canLayAll0 (pyDs ds)=true/\PyData.depthAll (pyDs ds)<=n
 |_,[],_=>⟨by simp[gL.pyDs,PyData.canLayAll0],by simp[gL.pyDs,PyData.depthAll]⟩
 |n,d::r,h=>by
  have h':(dQ n d&&okDs n r)=true:=h
  rw[Bool.and_eq_true] at h'
  have h1:=nV n d h'.1
  have h2:=wG n r h'.2
  refine⟨by show PyData.canLayAll0 (gL d::pyDs r)=true;rw[PyData.canLayAll0,h1.1,h2.1];rfl,?_⟩
  show PyData.depthAll (gL d::pyDs r)<=n
  rw[PyData.depthAll]
  ac_rfl
end
theorem nU{n:Nat}{d:Dv}(h:dQ n d=true)(hn:n<=64):SeqAt.shaped (gL d)=true:=by
 obtain⟨h1,h2⟩:=nV n d h
 unfold SeqAt.shaped
 rw[h1,decide_eq_true ⋯]
 rfl
section
variable {X:Cx} {M:Addr->Prop} {pj:List (Addr×Obj)} {σ:St} {H:Hp} {s:Shared}
theorem wO{h:Heap}:∀{ns:List Int} {us:List Value},bV (ns.map V.int) us -> ∃as,ReadsAll h us (ns.map PyData.int) as
 | [],_,.nil=>⟨_,.nil⟩
 |n::r,_,.cons a t=>by
  obtain⟨tk,rfl⟩:=a
  obtain⟨as,q⟩:=wO (h:=h) t
  exact⟨_,.cons (.int n tk) q⟩
theorem uY{n:Nat}{d:Dv}{ds:List Dv}(f:okDs n (d::ds)=true):dQ n d=true/\okDs n ds=true:=by
 have f':(dQ n d&&okDs n ds)=true:=f
 rwa[Bool.and_eq_true] at f'
theorem Rep.reads(I:Inv X pj σ H s){n:Nat}{x:V}{d:Dv}{u:Value}(q:Rep X.K M H x d)(ok:dQ n d=true)(r:d7 x u):∃as,Reads s.heap u (gL d) as:=by
 refine Rep.rec (motive_1:=fun x d _=>∀n u,dQ n d=true->d7 x u -> ∃as,Reads s.heap u (gL d) as) (motive_2:=fun xs ds _=>∀n us,okDs n ds=true->bV xs us -> ∃as,ReadsAll s.heap us (pyDs ds) as) (motive_3:=fun _ _ _=>True) (motive_4:=fun _ _ _=>True) (motive_5:=fun _ _ _=>True)
  (fun n u _ r=>by cases r;exact⟨_,.none⟩) (fun b n u _ r=>by cases r;exact⟨_,.bool b⟩) (fun i n u _ r=>by obtain⟨t,rfl⟩:=r;exact⟨_,.int i t⟩) (fun y n u _ r=>by obtain⟨t,rfl⟩:=r;exact⟨_,.str y t⟩) ?tup ?lst ?dik ?dit ?obj ?scr ?exc ?dns ?nil ?cons
  trivial (fun _ _ _ _=>trivial) trivial (fun _ _ _ _=>trivial) trivial (fun _ _ _ _=>trivial) q n u ok r
 case tup=>
  intro a xs ds e _ ih n u ok r
  cases n with
  |zero=>simp[dQ] at ok
  |succ n=>
   cases r
   obtain⟨_,its,rv,o,ho,hc,m,hd⟩:=I.hok _ _ e
   obtain⟨as,ra⟩:=ih n its (by rw[dQ] at ok;exact ok) rv
   exact⟨_,.tuple ho hc hd ra⟩
 case lst=>
  intro a xs ds e _ _ ih n u ok r
  cases n with
  |zero=>simp[dQ] at ok
  |succ n=>
   cases r
   obtain⟨_,its,m,rv,ho⟩:=I.hok _ _ e
   obtain⟨as,ra⟩:=ih n its (by rw[dQ] at ok;exact ok) rv
   exact⟨_,.list ho rfl rfl ra⟩
 case dik=>intro a xs ds _ _ _ _ n u ok;cases n<;>simp[dQ] at ok
 case dit=>intro a ep xs ds _ _ _ _ n u ok;cases n<;>simp[dQ] at ok
 case obj=>intro a C dx xs ds _ _ _ _ n u ok;cases n<;>simp[dQ] at ok
 case scr=>
  intro a ns e n u _ r
  cases r
  obtain⟨its,rv,pl,_⟩:=I.list e.sq
  obtain⟨o,ho,hc,m,hd⟩:=pl.isList
  obtain⟨as,ra⟩:=wO (h:=s.heap) rv
  exact⟨_,.list ho hc hd (by simpa using ra)⟩
 case exc=>intro a C p _ n u ok;cases n<;>simp[dQ] at ok
 case dns=>intro a ks _ _ n u ok;cases n<;>simp[dQ] at ok
 case nil=>intro n us _ r;cases r;exact⟨_,.nil⟩
 case cons=>
  intro x d xs ds _ _ i1 i2 n us ok r
  cases r with
  |cons r1 r2=>
   obtain⟨as,ra⟩:=i1 n _ (uY ok).1 r1
   obtain⟨bs,rb⟩:=i2 n _ (uY ok).2 r2
   exact⟨_,.cons ra rb⟩
theorem Reps.reads(I:Inv X pj σ H s){n:Nat}{xs:List V}{ds:List Dv}{us:List Value}(q:Reps X.K M H xs ds)(ok:okDs n ds=true)(r:bV xs us):∃as,ReadsAll s.heap us (pyDs ds) as:=
 q.ind (P:=fun xs ds=>∀us,okDs n ds=true->bV xs us -> ∃as,ReadsAll s.heap us (pyDs ds) as) (fun us _ r=>by cases r;exact⟨_,.nil⟩) (fun x d xs ds a _ ih us ok r=>by
  cases r with
  |cons r1 r2=>
   obtain⟨as,ra⟩:=a.reads I (uY ok).1 r1
   obtain⟨bs,rb⟩:=ih _ (uY ok).2 r2
   exact⟨_,.cons ra rb⟩) us ok r
theorem eP.reads(I:Inv X pj σ H s){n:Nat}{x:V}{d:Dv}{u:Value}(c:eP X.K M H x d)(ok:dQ n d=true)(r:d7 x u):∃as,Reads s.heap u (gL d) as:=by
 rcases c with c | ⟨a,rfl,o⟩
 ·exact c.reads I ok r
 ·cases d with
  |lst ds=>
   obtain⟨xs,e,q⟩:=o
   cases r
   cases n with
   |zero=>simp[dQ] at ok
   |succ n=>
    obtain⟨_,its,m,rv,ho⟩:=I.hok _ _ e
    obtain⟨as,ra⟩:=Reps.reads I q (by rw[dQ] at ok;exact ok) rv
    exact⟨_,.list ho rfl rfl ra⟩
  |dik _=>cases n<;>simp[dQ] at ok
  |dit _=>cases n<;>simp[dQ] at ok
  |obj _ _=>cases n<;>simp[dQ] at ok
  |dns _=>cases n<;>simp[dQ] at ok
  |_=>exact o.elim
end
def t6:Dv->Dv->(R->Prop)->Prop
 | .int i,.int j,Q=>Q (.v (.bl (decide (i=j))))
 |dx,dy,Q=>(dQ 8 dx=true/\dQ 8 dy=true)/\Q (.v (.bl (eqD dx dy)))
def wB:Dv->Dv->(R->Prop)->Prop
 | .int i,.int j,Q=>Q (.v (.bl (!decide (i=j))))
 |dx,dy,Q=>(dQ 8 dx=true/\dQ 8 dy=true)/\Q (.v (.bl (!eqD dx dy)))
section
variable {X:Cx}
def RR(K:W.Frag):R2:=fun x y H Q=>∃M dx dy,eP K M H x dx/\eP K M H y dy/\dQ 8 dx=true/\dQ 8 dy=true/\Q (.bl (eqD dx dy)) H
def RM(K:W.Frag):R2:=fun x y H Q=>∃M dx dy,eP K M H x dx/\eP K M H y dy/\dQ 8 dx=true/\dQ 8 dy=true/\Q (.bl (!eqD dx dy)) H
theorem N7(hu:X.A.units+64<cLine):n0 X (compareOp .Eq) (RR X.K):=by
 intro pj s σ H x y v u Q I rx ry h
 obtain⟨M,dx,dy,r1,r2,o1,o2,q⟩:=h
 obtain⟨as,ra⟩:=r1.reads I o1 rx
 obtain⟨bs,rb⟩:=r2.reads I o2 ry
 exact SeqAt.compareEq_shaped ra rb (nU o1 ∅) (nU o2 ∅) hu ⟨.bl _,H,I,rfl,q⟩
theorem N2(hu:X.A.units+64<cLine):n0 X (compareOp .NotEq) (RM X.K):=by
 intro pj s σ H x y v u Q I rx ry h
 obtain⟨M,dx,dy,r1,r2,o1,o2,q⟩:=h
 obtain⟨as,ra⟩:=r1.reads I o1 rx
 obtain⟨bs,rb⟩:=r2.reads I o2 ry
 exact SeqAt.compareNe_shaped ra rb (nU o1 ∅) (nU o2 ∅) hu ⟨.bl _,H,I,rfl,q⟩
theorem AG(i j:Int):eqD (.int i) (.int j)=decide (i=j):=by
 show PyData.eqv (.int i) (.int j)=_
 rw[PyData.eqv]
 exact Bool.beq_eq_decide_eq i j
theorem jZ(hu:X.A.units+64<cLine):zA X (compareOp .Eq) t6:=by
 refine⟨fun dx dy Q Q' w h=>?_,_,N7 hu,fun M O H x y dx dy Q cx cy h=>?_⟩
 ·unfold t6 at *
  split at h
  ·exact w _ h
  ·exact⟨h.1,w _ h.2⟩
 ·unfold t6 at h
  split at h
  ·refine⟨M,_,_,cx,cy,by simp[dQ],by simp[dQ],?_⟩
   rw[AG]
   exact h _ H (aW.refl _) (Rep.bl _)
  ·exact⟨M,_,_,cx,cy,h.1.1,h.1.2,h.2 _ H (aW.refl _) (Rep.bl _)⟩
theorem nQ(hu:X.A.units+64<cLine):zA X (compareOp .NotEq) wB:=by
 refine⟨fun dx dy Q Q' w h=>?_,_,N2 hu,fun M O H x y dx dy Q cx cy h=>?_⟩
 ·unfold wB at *
  split at h
  ·exact w _ h
  ·exact⟨h.1,w _ h.2⟩
 ·unfold wB at h
  split at h
  ·refine⟨M,_,_,cx,cy,by simp[dQ],by simp[dQ],?_⟩
   rw[AG]
   exact h _ H (aW.refl _) (Rep.bl _)
  ·exact⟨M,_,_,cx,cy,h.1.1,h.1.2,h.2 _ H (aW.refl _) (Rep.bl _)⟩
end
structure En where
 nx:List Sl->Prop
 rt:R->Prop
 bk:List Sl->Prop:=fun _=>False
 ct:List Sl->Prop:=fun _=>False
abbrev cO:=En->List Sl->Prop
structure EnLe(E E':En):Prop where
 nx:∀ρ,E.nx ρ->E'.nx ρ
 rt:∀r,E.rt r->E'.rt r
 bk:∀ρ,E.bk ρ->E'.bk ρ
 ct:∀ρ,E.ct ρ->E'.ct ρ
structure Ent(K:W.Frag)(HZ:Hp)(F:Addr->Prop)(E:En)(D:Ends):Prop where
 nx:∀ρ σ H,Fr K HZ F σ H ρ->E.nx ρ->D.nx σ H
 bk:∀ρ σ H,Fr K HZ F σ H ρ->E.bk ρ->D.bk σ H
 ct:∀ρ σ H,Fr K HZ F σ H ρ->E.ct ρ->D.ct σ H
 rt:∀r x H,aW HZ H->eU K F CU HZ x r H->E.rt r->D.rt x H
inductive liftS(K:W.Frag)(HZ:Hp)(F:Addr->Prop)(t:cO)(D:Ends)(σ:St)(H:Hp):Prop
 |mk (ρ:List Sl) (E:En) (fr:Fr K HZ F σ H ρ) (h:t E ρ) (en:Ent K HZ F E D)
structure QS(X:Cx)(st:Stmt)(t:cO):Prop where
 mono:∀E E' ρ,EnLe E E'->t E ρ->t E' ρ
 run:∀(HZ:Hp) (F:Addr->Prop),PS X st (liftS X.K HZ F t)
structure QSs(X:Cx)(sts:List Stmt)(t:cO):Prop where
 mono:∀E E' ρ,EnLe E E'->t E ρ->t E' ρ
 run:∀(HZ:Hp) (F:Addr->Prop),Ah X sts (liftS X.K HZ F t)
section
variable {X:Cx} {st:Stmt} {sts:List Stmt} {t u:cO} {e c:Expr} {te:eT} {pos:Pos}
theorem gR{t t':TS}(h:PS X st t)(w:∀D σ H,t' D σ H->t D σ H):PS X st t':=fun pj s σ H D I q=>h pj s σ H D I (w D σ H q)
theorem Ag{t t':TS}(h:Ah X sts t)(w:∀D σ H,t' D σ H->t D σ H):Ah X sts t':=fun pj s σ H D I q=>h pj s σ H D I (w D σ H q)
def bL:cO:=fun E ρ=>E.nx ρ
def aR(t u:cO):cO:=fun E ρ=>t { E with nx:=u E } ρ
theorem bZ:QSs X [] bL:=⟨fun E E' ρ w h=>w.nx _ h,fun HZ F=>Ag K3 fun D σ H ⟨ρ,E,fr,h,en⟩=>en.nx _ _ _ fr h⟩
theorem EnLe.with_nx{E E':En}{a b:List Sl->Prop}(w:EnLe E E')(h:∀ρ,a ρ->b ρ):EnLe { E with nx:=a } { E' with nx:=b }:=⟨h,w.rt,w.bk,w.ct⟩
theorem aL(h1:QS X st t)(h2:QSs X sts u):QSs X (st::sts) (aR t u):=by
 refine⟨fun E E' ρ w h=>h1.mono _ _ _ (w.with_nx fun ρ h=>h2.mono _ _ _ w h) h,fun HZ F=>Ag (Gx (h1.run HZ F) (h2.run HZ F)) fun D σ H ⟨ρ,E,fr,h,en⟩=>?_⟩
 exact⟨ρ,_,fr,h,fun ρ' σ' H' fr' h'=>⟨ρ',E,fr',h',en⟩,en.bk,en.ct,en.rt⟩
theorem aM(h1:QS X st t):QSs X [st] t:=⟨h1.mono,fun HZ F=>K2 (h1.run HZ F)⟩
def zM:cO:=fun E ρ=>E.bk ρ
def Lf:cO:=fun E ρ=>E.ct ρ
theorem Jv:QS X (.Break pos) zM:=⟨fun E E' ρ w h=>w.bk _ h,fun HZ F=>gR HA fun D σ H ⟨ρ,E,fr,h,en⟩=>en.bk _ _ _ fr h⟩
def hX:cO:=fun _ _=>False
theorem hC:QS X st hX:=⟨fun _ _ _ _ h=>h,fun HZ F=>gR Gz fun D σ H ⟨ρ,E,fr,h,en⟩=>h⟩
def yF(te:eT):cO:=fun E ρ=>te ρ fun _=>E.nx ρ
theorem Cp(he:QE X e te)(hs:swapsWith e none pos.line X.env=pure false:=by rfl):QS X (.Expr e pos) (yF te):=
 ⟨fun E E' ρ w h=>he.mono _ _ _ (fun _ q=>w.nx _ q) h,fun HZ F=>gR (sN (he.run HZ F) hs) fun D σ H ⟨ρ,E,fr,h,en⟩=>he.step fr h fun r x H1 q S1 _=>en.nx _ _ _ (fr.mono S1) q⟩
def R.out:R->R
 | .ow _ d=>.nw d
 |r=>r
theorem eU.out{K:W.Frag}{HZ H H':Hp}{F:Addr->Prop}{σ:St}{ρ:List Sl}{x:V}{r:R}(fr:Fr K HZ F σ H ρ)(h:eU K (MM F ρ) (Am ρ) H x r H'):eU K F CU HZ x r.out H':=by
 cases r with
 |v d=>exact Rep.weak (fun a z=>.inl z) h
 |nw d=>
  obtain⟨a,e,n,o⟩:=h
  exact⟨a,e,fr.same.free n,o.weak fun b z=>z.elim (fun z=>.inl (.inl z)) .inr⟩
 |ow a d=>
  obtain⟨e,m,o⟩:=h
  refine⟨a,e,fr.new a d m,o.weak fun b z=>?_⟩
  rcases z with z | z
  ·exact .inl z
  ·rw[z];exact .inr ⟨d,m⟩
def cD(te:eT):cO:=fun E ρ=>te ρ fun r=>E.rt r.out
def Le:cO:=fun E _=>E.rt (.v .non)
theorem bO(he:QE X e te):QS X (.Return (some e) pos) (cD te):=
 ⟨fun E E' ρ w h=>he.mono _ _ _ (fun _ q=>w.rt _ q) h,fun HZ F=>gR (Mg (he.run HZ F)) fun D σ H ⟨ρ,E,fr,h,en⟩=>he.step fr h fun r x H1 q S1 r1=>en.rt _ _ _ (fr.same.trans S1) (eU.out fr r1) q⟩
def hZ(c:oA)(t u:cO):cO:=fun E ρ=>c ρ fun b=>if b=true then t E ρ else u E ρ
theorem eW{a b:List Stmt}{tc:oA}(hc:QT X c tc)(ha:QSs X a t)(hb:QSs X b u):QS X (.If c a b pos) (hZ tc t u):=by
 refine⟨fun E E' ρ w h=>hc.mono _ _ _ (fun k q=>?_) h,fun HZ F=>gR (Ot (hc.run HZ F) (ha.run HZ F) (hb.run HZ F)) fun D σ H ⟨ρ,E,fr,h,en⟩=>?_⟩
 ·split at q
  ·rw[if_pos ‹_›];exact ha.mono _ _ _ w q
  ·rw[if_neg ‹_›];exact hb.mono _ _ _ w q
 ·refine hc.step fr h fun k H1 q S1=>?_
  cases k with
  |true=>exact tR ⟨ρ,E,fr.mono S1,by simpa using q,en⟩
  |false=>exact nX ⟨ρ,E,fr.mono S1,by simpa using q,en⟩
end
section
variable {K:W.Frag} {HZ H H':Hp} {F:Addr->Prop} {σ:St} {ρ:List Sl}
theorem fI{α:Type}{l:List α}{i j:Nat}{a b:α}(h:(l.set i a)[j]?=some b):(i=j/\i<l.length/\b=a) \/ (i≠j/\l[j]?=some b):=by
 by_cases e:i=j
 ·subst e
  by_cases hl:i<l.length
  ·rw[List.getElem?_set_self hl] at h
   exact .inl ⟨rfl,hl,(Option.some.inj h).symm⟩
  ·rw[List.getElem?_eq_none (by simp;ac_rfl)] at h
   cases h
 ·rw[List.getElem?_set_ne e] at h
  exact .inr ⟨e,h⟩
theorem MM.set{i:Nat}{s:Sl}(a:Addr)(h:MM F (ρ.set i s) a):MM F ρ a \/ ∃d,s=.own a d:=by
 rcases h with h | ⟨d,h⟩
 ·exact .inl (.inl h)
 ·rcases mem_or_eq_of_mem_set h with h | h
  ·exact .inl (.inr ⟨d,h⟩)
  ·exact .inr ⟨d,h.symm⟩
theorem Fr.setv(fr:Fr K HZ F σ H ρ){i:Nat}{x:V}{d:Dv}(r:Rep K (MM F ρ) H x d):Fr K HZ F (σ.set i (some x)) H (ρ.set i (.v d)):=by
 have wk:∀a,MM F (ρ.set i (.v d)) a->MM F ρ a:=fun a h=>by
  rcases MM.set a h with h | ⟨_,h⟩
  ·exact h
  ·cases h
 refine⟨by simp[fr.len],fun j s e=>?_,fun j k a d1 d2 e1 e2=>?_,fun a d1 h=>?_,fr.same,fr.old⟩
 ·rcases fI e with⟨rfl,hl,rfl⟩ | ⟨ne,e⟩
  ·exact⟨x,by rw[List.getElem?_set_self (by rw[fr.len];exact hl)],r.weak wk⟩
  ·rw[List.getElem?_set_ne ne]
   exact(fr.sl j s e).weak wk
 ·rcases fI e1 with⟨_,_,z⟩ | ⟨_,e1⟩
  ·cases z
  ·rcases fI e2 with⟨_,_,z⟩ | ⟨_,e2⟩
   ·cases z
   ·exact fr.nd j k a d1 d2 e1 e2
 ·rcases mem_or_eq_of_mem_set h with h | h
  ·exact fr.new a d1 h
  ·cases h
theorem xZ.gen{M M':Addr->Prop}{o:Option (Option V)}{s:Sl}(G:Gen K M M' H H')(hs:∀a d,s=.own a d -> ∀u,H a=some u->H' a=some u)(h:xZ K M H o s):xZ K M' H' o s:=by
 cases s with
 |un=>trivial
 |v d=>obtain⟨x,e,r⟩:=h;exact⟨x,e,r.gen G⟩
 |own a d=>exact⟨h.1,h.2.gen G (hs a d rfl)⟩
theorem Fr.seto(fr:Fr K HZ F σ H ρ)(S:aW H H'){i:Nat}{a:Addr}{d:Dv}(ha:H a=none)(o:fR K (fun b=>MM F ρ b \/ b=a) H' a d):Fr K HZ F (σ.set i (some (.ref a))) H' (ρ.set i (.own a d)):=by
 have wk:∀b,MM F (ρ.set i (.own a d)) b->MM F ρ b \/ b=a:=fun b h=>by
  rcases MM.set b h with h | ⟨_,h⟩
  ·exact .inl h
  ·cases h;exact .inr rfl
 have G:Gen K (MM F ρ) (MM F (ρ.set i (.own a d))) H H':=((Gen.fresh ha).trans (.mono S)).trans (.weak wk)
 have ne:∀(j:Nat) (b:Addr) (d':Dv),ρ[j]?=some (Sl.own b d')->b≠a:=fun j b d' e z=>by
  have:=(fr.sl j _ e).2.mut
  obtain⟨u,hu,_⟩:=this
  rw[z,ha] at hu
  cases hu
 refine⟨by simp[fr.len],fun j s e=>?_,fun j k b d1 d2 e1 e2=>?_,fun b d1 h=>?_,fr.same.trans S,fr.old⟩
 ·rcases fI e with⟨rfl,hl,rfl⟩ | ⟨hne,e⟩
  ·exact⟨by rw[List.getElem?_set_self (by rw[fr.len];exact hl)],o.weak wk⟩
  ·rw[List.getElem?_set_ne hne]
   exact(fr.sl j s e).gen G fun b d' _ u hu=>S _ _ hu
 ·rcases fI e1 with⟨h1,_,z⟩ | ⟨_,e1⟩
  ·rcases fI e2 with⟨h2,_,z'⟩ | ⟨_,e2⟩
   ·ac_rfl
   ·cases z
    exact absurd rfl (ne k _ _ e2)
  ·rcases fI e2 with⟨h2,_,z'⟩ | ⟨_,e2⟩
   ·cases z'
    exact absurd rfl (ne j _ _ e1)
   ·exact fr.nd j k b d1 d2 e1 e2
 ·rcases mem_or_eq_of_mem_set h with h | h
  ·exact fr.new b d1 h
  ·cases h
   exact fr.same.free ha
theorem Fr.write(fr:Fr K HZ F σ H ρ){i:Nat}{a:Addr}{d d':Dv}{o:HO}(hi:ρ[i]?=some (.own a d))(n:fR K (MM F ρ) (upd H a o) a d'):Fr K HZ F σ (upd H a o) (ρ.set i (.own a d')):=by
 have mem:Sl.own a d∈ρ:=mem_of_getElem? hi
 have wk:∀b,MM F (ρ.set i (.own a d')) b->MM F ρ b:=fun b h=>by
  rcases MM.set b h with h | ⟨_,h⟩
  ·exact h
  ·cases h;exact .inr ⟨d,mem⟩
 obtain⟨hs,ow⟩:=fr.sl i _ hi
 obtain⟨u,hu,mu⟩:=ow.mut
 have mu':GE (H a):=by rw[hu];exact mu
 have G:Gen K (MM F ρ) (MM F (ρ.set i (.own a d'))) H (upd H a o):=(Gen.write (.inr ⟨d,mem⟩) mu').trans (.weak wk)
 refine⟨by simp[fr.len],fun j s e=>?_,fun j k b d1 d2 e1 e2=>?_,fun b d1 h=>?_,fun b q e=>?_,fr.old⟩
 ·rcases fI e with⟨rfl,hl,rfl⟩ | ⟨hne,ej⟩
  ·exact⟨hs,n.weak wk⟩
  ·refine(fr.sl j s ej).gen G fun b d2 es u hu=>?_
   subst es
   rw[bY fun z=>hne ?_]
   ·exact hu
   ·subst z;exact fr.nd i j _ d d2 hi ej
 ·rcases fI e1 with⟨h1,_,z⟩ | ⟨_,e1⟩
  ·cases z
   rcases fI e2 with⟨h2,_,z'⟩ | ⟨_,e2⟩
   ·ac_rfl
   ·rw[<- h1];exact fr.nd i k _ d d2 hi e2
  ·rcases fI e2 with⟨h2,_,z'⟩ | ⟨_,e2⟩
   ·cases z'
    rw[<- h2];exact fr.nd j i _ d1 d e1 hi
   ·exact fr.nd j k b d1 d2 e1 e2
 ·rcases mem_or_eq_of_mem_set h with h | h
  ·exact fr.new b d1 h
  ·cases h
   exact fr.new _ d mem
 ·rw[bY ?_]
  ·exact fr.same b q e
  ·intro z
   subst z
   rw[fr.new _ d mem] at e
   cases e
def freeze(i:Nat)(ρ:List Sl):List Sl:=match ρ[i]? with
 |some (.own _ d)=>ρ.set i (.v d)
 |_=>ρ
theorem Fr.freeze(fr:Fr K HZ F σ H ρ)(i:Nat):Fr K HZ F σ H (freeze i ρ):=by
 unfold Z.freeze
 split
 ·rename_i a d hi
  have mem:Sl.own a d∈ρ:=mem_of_getElem? hi
  obtain⟨hs,ow⟩:=fr.sl i _ hi
  have nF:¬F a:=fun z=>fr.old.f a z (fr.new a d mem)
  have wk:∀b,MM F (ρ.set i (.v d)) b->MM F ρ b:=fun b h=>by
   rcases MM.set b h with h | ⟨_,h⟩
   ·exact h
   ·cases h
  have nM:¬MM F (ρ.set i (.v d)) a:=by
   rintro(h | ⟨d',h⟩)
   ·exact nF h
   ·obtain⟨j,e⟩:=mem_iff_getElem?.mp h
    rcases fI e with⟨_,_,z⟩ | ⟨ne,e⟩
    ·cases z
    ·exact ne (fr.nd i j a d d' hi e)
  refine⟨by simp[fr.len],fun j s e=>?_,fun j k b d1 d2 e1 e2=>?_,fun b d1 h=>?_,fr.same,fr.old⟩
  ·rcases fI e with⟨rfl,hl,rfl⟩ | ⟨hne,e⟩
   ·exact⟨_,hs,(ow.weak wk).rep nM⟩
   ·exact(fr.sl j s e).weak wk
  ·rcases fI e1 with⟨_,_,z⟩ | ⟨_,e1⟩
   ·cases z
   ·rcases fI e2 with⟨_,_,z⟩ | ⟨_,e2⟩
    ·cases z
    ·exact fr.nd j k b d1 d2 e1 e2
  ·rcases mem_or_eq_of_mem_set h with h | h
   ·exact fr.new b d1 h
   ·cases h
 ·exact fr
end
section
variable {X:Cx} {e:Expr} {te:eT} {pos pos':Pos} {sts:List Stmt} {t:cO}
def bK(i:Nat)(te:eT):cO:=fun E ρ=>te ρ fun r=>match r with
 | .v d=>E.nx (ρ.set i (.v d))
 | .nw d=>E.nx (ρ.set i (.v d))
 | .ow _ _=>False
def iV(i:Nat)(te:eT):cO:=fun E ρ=>te ρ fun r=>match r with
 | .v d=>E.nx (ρ.set i (.v d))
 | .nw d=>∀a,E.nx (ρ.set i (.own a d))
 | .ow _ _=>False
def Jm(i:Nat)(t:cO):cO:=fun E ρ=>t E (freeze i ρ)
theorem Op(i:Nat)(h:QSs X sts t):QSs X sts (Jm i t):=
 ⟨fun E E' ρ w q=>h.mono _ _ _ w q,fun HZ F=>Ag (h.run HZ F) fun D σ H ⟨ρ,E,fr,q,en⟩=>⟨_,E,fr.freeze i,q,en⟩⟩
theorem cN{i:Nat}{x:Str}(hN:X.N.Nodup)(hi:X.N[i]?=some x)(hx:JY X.env.scope x)(he:QE X e te)(hs:swapsWith e (some (.Name x pos')) pos.line X.env=pure false:=by rfl)(hf:X.fn x=true \/ X.env.scope.names.lookup x=some .local:=by first | exact .inl rfl | exact .inr rfl | assumption):
  QS X (.Assign [.Name x pos'] e pos) (bK i te):=by
 refine⟨fun E E' ρ w h=>he.mono _ _ _ (fun r q=>?_) h,fun HZ F=>gR (Gy hN hi hx (he.run HZ F) hs hf) fun D σ H ⟨ρ,E,fr,h,en⟩=>?_⟩
 ·cases r with
  |v d=>exact w.nx _ q
  |nw d=>exact w.nx _ q
  |ow a d=>exact q
 ·refine he.step fr h fun r x H1 q S1 r1=>?_
  cases r with
  |v d=>exact en.nx _ _ _ ((fr.mono S1).setv r1) q
  |nw d=>exact en.nx _ _ _ ((fr.mono S1).setv (r1.rep (fun a m=>fr.dom m) rfl)) q
  |ow a d=>exact q.elim
theorem iL{i:Nat}{x:Str}(hN:X.N.Nodup)(hi:X.N[i]?=some x)(hx:JY X.env.scope x)(he:QE X e te)(hs:swapsWith e (some (.Name x pos')) pos.line X.env=pure false:=by rfl)(hf:X.fn x=true \/ X.env.scope.names.lookup x=some .local:=by first | exact .inl rfl | exact .inr rfl | assumption):
  QS X (.Assign [.Name x pos'] e pos) (iV i te):=by
 refine⟨fun E E' ρ w h=>he.mono _ _ _ (fun r q=>?_) h,fun HZ F=>gR (Gy hN hi hx (he.run HZ F) hs hf) fun D σ H ⟨ρ,E,fr,h,en⟩=>?_⟩
 ·cases r with
  |v d=>exact w.nx _ q
  |nw d=>exact fun a=>w.nx _ (q a)
  |ow a d=>exact q
 ·refine he.step fr h fun r x H1 q S1 r1=>?_
  cases r with
  |v d=>exact en.nx _ _ _ ((fr.mono S1).setv r1) q
  |nw d=>
   obtain⟨a,rfl,ha,o⟩:=r1
   exact en.nx _ _ _ (fr.seto S1 ha o) (q a)
  |ow a d=>exact q.elim
def OU(i:Nat)(p:Dv->Dv->(R->Prop)->Prop)(te:eT):cO:=fun E ρ=>match ρ[i]? with
 |some (.v d)=>te ρ fun r=>p d r.d fun z=>match z with
  | .v d'=>E.nx (ρ.set i (.v d'))
  |_=>False
 |_=>False
def pZ(i:Nat)(te:eT):cO:=fun E ρ=>match ρ[i]? with
 |some (.own a (.lst xs))=>te ρ fun r=>(r.free=true/\xs.length<zB)/\E.nx (ρ.set i (.own a (.lst (xs++[r.d]))))
 |_=>False
theorem A6{n:Nat}(h:n<zB):n<sizeLine:=lt_of_lt_of_le h (jN (le_refl _))
theorem uC{i:Nat}{x:Str}{p1 p2 p3:Pos}(hv:PE X (.Name x p1) (zH i))(he:QE X e te)(hs:swapsWith (.Call (.Attribute (.Name x p1) "append" p2) [e] [] p3) none pos.line X.env=pure false:=by rfl)
  (hbase:attributeBase (.Name x p1) "append" X.env (eval (.Name x p1) X.env)=eval (.Name x p1) X.env:=by rfl)
  (hfew:((backTo p3 (starEach [e] X.env)).all (fun x=>!x.1)&&(backToKw p3 (keywordEach [] X.env)).all (fun x=>x.1.isSome)
   && decide ([e].length+([]:List Keyword).length+(if ([]:List Keyword).isEmpty then 0 else 1)<30))=true:=by rfl)
  (hline:(p2.endLine==p3.line)=true:=by rfl) (hst:starEach [e] X.env=(false,eval e X.env)::starEach [] X.env:=by rfl) (hplain:(backTo p3 (starEach [] X.env)).any (·.1)=false:=by rfl):
  QS X (.Expr (.Call (.Attribute (.Name x p1) "append" p2) [e] [] p3) pos) (pZ i te):=by
 refine⟨fun E E' ρ w h=>?_,fun HZ F=>gR (sN (HJ PySem.F.plainAttrs_list PySem.F.slot_list_append PySem.F.type_list_append yN hv (pN (he.run HZ F) w4 hst) hbase hfew hline hst hplain) hs) fun D σ H ⟨ρ,E,fr,h,en⟩=>?_⟩
 ·unfold pZ at *
  split at h
  ·exact he.mono _ _ _ (fun r q=>⟨q.1,w.nx _ q.2⟩) h
  ·exact h
 ·unfold pZ at h
  split at h
  ·rename_i a xs hx
   obtain⟨hs1,vs,hv1,rv1⟩:=fr.sl i _ hx
   refine⟨_,hs1,.inl ⟨rfl,_,gM.of hv1⟩,he.step fr h fun r y H1 q S1 r1=>?_⟩
   obtain⟨⟨qf,ql⟩,q2⟩:=q
   have rep:=r1.rep (fun a m=>fr.dom m) qf
   have hv2:=S1 _ _ hv1
   refine⟨a,vs,y,rfl,rfl,hv2,by rw[rv1.length];exact A6 ql,?_⟩
   refine en.nx _ _ _ ((fr.mono S1).write (d':=.lst (xs++[r.d])) hx ⟨_,cT,?_⟩) q2
   have G:Gen X.K (MM F ρ) (MM F ρ) H1 (upd H1 a (.lst (vs++[y]))):=Gen.write (.inr ⟨_,mem_of_getElem? hx⟩) (by rw[hv2];trivial)
   exact((rv1.mono S1).append (.cons rep .nil)).gen G
  ·exact h.elim
end
open Classical in
def prot(H:Hp)(ρ:List Sl):Hp:=fun b=>if ∃d,Sl.own b d∈ρ then none else H b
section
variable {K:W.Frag} {HZ H H1 H':Hp} {F:Addr->Prop} {σ σ':St} {ρ ρ':List Sl}
theorem vY{b:Addr}{d:Dv}(h:Sl.own b d∈ρ):prot H ρ b=none:=by unfold prot;rw[if_pos ⟨d,h⟩]
theorem cY{b:Addr}(h:¬ ∃d,Sl.own b d∈ρ):prot H ρ b=H b:=by unfold prot;rw[if_neg h]
theorem pM{b:Addr}{o:HO}(h:prot H ρ b=some o):H b=some o:=by
 by_cases c:∃d,Sl.own b d∈ρ
 ·obtain⟨d,c⟩:=c
  rw[vY c] at h
  cases h
 ·rw[cY c] at h
  exact h
theorem FB(h:prot H ρ b=none):(∃d,Sl.own b d∈ρ) \/ H b=none:=by
 by_cases c:∃d,Sl.own b d∈ρ
 ·exact .inl c
 ·rw[cY c] at h
  exact .inr h
theorem Fr.prot(fr:Fr K HZ F σ H ρ):Fr K (prot H ρ) F σ H ρ:=by
 refine⟨fr.len,fr.sl,fr.nd,fun a d h=>vY h,fun b o h=>pM h,fun a h=>?_,fun P q z=>?_⟩
 ·rw[cY ?_]
  ·exact fr.dom (.inl h)
  ·rintro⟨d,c⟩
   exact fr.old.f a h (fr.new a d c)
 ·have e:=fr.old.t P q z
  rw[cY ?_]
  ·exact fr.same _ _ e
  ·rintro⟨d,c⟩
   rw[fr.new P d c] at e
   cases e
theorem Fr.free_of(fr:Fr K HZ F σ H ρ){b:Addr}(h:Z.prot H ρ b=none):HZ b=none:=by
 rcases FB h with⟨d,c⟩ | h
 ·exact fr.new b d c
 ·exact fr.same.free h
theorem Fr.same_of(fr:Fr K HZ F σ H ρ)(S:aW (Z.prot H ρ) H'):aW HZ H':=fun b o e=>by
 refine S b o ?_
 rw[cY ?_]
 ·exact fr.same b o e
 ·rintro⟨d,c⟩
  rw[fr.new b d c] at e
  cases e
theorem Fr.unprot(fr:Fr K HZ F σ H ρ)(g:Fr K (Z.prot H ρ) F σ' H' ρ'):Fr K HZ F σ' H' ρ':=
 ⟨g.len,g.sl,g.nd,fun a d h=>fr.free_of (g.new a d h),fr.same_of g.same,fr.old⟩
theorem Fr.gen(fr:Fr K HZ F σ H ρ)(g:Fr K (Z.prot H ρ) F σ' H' ρ'):Gen K (MM F ρ) (MM F ρ') H H':=by
 have no:∀a o,H a=some o -> ¬MM F ρ a->Z.prot H ρ a=some o:=fun a o e m=>by
  rw[cY fun c=>m (.inr c)]
  exact e
 have no2:∀a o,H a=some o -> ¬GE (some o)->Z.prot H ρ a=some o:=fun a o e m=>by
  rw[cY ?_]
  ·exact e
  ·rintro⟨d,c⟩
   obtain⟨_,_,_,ow⟩:=fr.at_own c
   obtain⟨u,hu,mu⟩:=ow.mut
   rw[e] at hu
   cases hu
   exact m mu
 refine⟨fun a o e mu m=>⟨g.same _ _ (no a o e m),?_⟩,fun a xs e=>g.same _ _ (no2 a _ e fun z=>z),fun a ns e=>?_,fun a o u e=>g.same _ _ (no2 a _ e fun z=>z)⟩
 ·rintro(h | ⟨d,h⟩)
  ·exact m (.inl h)
  ·have:=g.new a d h
   rw[no a o e m] at this
   cases this
 ·rcases e with⟨o,e⟩ | e
  ·exact .inl ⟨o,g.same _ _ (no2 a _ e fun z=>z)⟩
  ·exact .inr e
theorem Ent.prot{E:En}{D:Ends}(fr:Fr K HZ F σ H ρ)(en:Ent K HZ F E D):Ent K (Z.prot H ρ) F E D:=by
 refine⟨fun ρ' σ' H' g h=>en.nx _ _ _ (fr.unprot g) h,fun ρ' σ' H' g h=>en.bk _ _ _ (fr.unprot g) h,fun ρ' σ' H' g h=>en.ct _ _ _ (fr.unprot g) h,fun r x H' S rr h=>en.rt r x H' (fr.same_of S) ?_ h⟩
 cases r with
 |v d=>exact rr
 |ow a d=>exact rr
 |nw d=>obtain⟨a,e,n,o⟩:=rr;exact⟨a,e,fr.free_of n,o⟩
end
abbrev CY:=List Sl->(List Dv->List (Addr×List Dv)->Prop)->Prop
def guard(ogs:List (Addr×List Dv))(ρ:List Sl):Prop:=∀p∈ogs,Sl.own p.1 (.lst p.2)∈ρ
def xE(K:W.Frag)(P:Hp)(M:Addr->Prop)(H1:Hp)(J:It)(ds:List Dv)(ogs:List (Addr×List Dv)):Prop:=
 ∀(i:Nat) (H':Hp) (M':Addr->Prop),aW P H'->Gen K M M' H1 H'->(∀p∈ogs,fR K M' H' p.1 (.lst p.2)) ->
  (∀d,ds[i]?=some d->J.go i H' /\ ∀y H'',J.yld i H' y H''->aW H' H''/\Rep K M' H'' y d)/\(ds.length<=i->J.stop i H')
structure QI(X:Cx)(tg iter:Expr)(ti:CY):Prop where
 mono:∀(ρ:List Sl) (Q Q':List Dv->List (Addr×List Dv)->Prop),(∀ds g,Q ds g->Q' ds g)->ti ρ Q->ti ρ Q'
 run:∀(HZ:Hp) (F:Addr->Prop),∃wi,PI X tg iter wi /\ ∀(σ:St) (H:Hp) (ρ:List Sl) (R:It->Hp->Prop),Fr X.K HZ F σ H ρ ->
  ti ρ (fun ds ogs=>∀J H1,aW H H1->guard ogs ρ->xE X.K (prot H1 ρ) (MM F ρ) H1 J ds ogs->R J H1)->wi σ H R
section
variable {X:Cx} {tg l:Expr} {tl:eT}
def Pn(K:W.Frag)(tl:TE):TI:=fun σ H R=>tl σ H fun x H1=>∃a,x=.ref a/\(((∃xs,gM K H1 a xs)/\R (Qj K a) H1) \/ ((∃xs,mY K H1 a xs)/\R (S8 K a) H1))
theorem Ml{l:Expr}{tl:TE}(hl:PE X l tl):PI X tg l (Pn X.K tl):=by
 intro pj s σ H R I h
 refine thn (hl pj s σ H _ I h) fun v s1 ⟨x,H1,I1,r1,q1⟩=>?_
 obtain⟨a,e,q1⟩:=q1
 subst e
 cases r1
 rcases q1 with⟨⟨xs,hq⟩,q⟩ | ⟨⟨xs,hq⟩,q⟩
 ·obtain⟨its,rv,p,hz⟩:=I1.list hq
  refine wpAny_pyIter_list p.isList ?_
  refine⟨s1.heap.objs.size,[s1.heap.objs.size],_,_,H1,rfl,I1.kept (t':=s1.toks) fun b o e=>Heap.get?_push_of_some _ e,Ej a _,⟨_,Heap.get?_push_size _ rfl,rfl,rfl⟩,fun b hb=>?_,q⟩
  have e:b=s1.heap.objs.size:=by simpa using hb
  subst e
  exact I1.fpOk (le_refl _) (I1.hok.fresh (le_refl _))
 ·obtain⟨its,rv,p,hz⟩:=I1.tuple hq
  refine wpAny_pyIter_tuple (show s1.heap.IsTuple a its.toArray from p) ?_
  refine⟨s1.heap.objs.size,[s1.heap.objs.size],_,_,H1,rfl,I1.kept (t':=s1.toks) fun b o e=>Heap.get?_push_of_some _ e,Ca a _,⟨_,Heap.get?_push_size _ rfl,rfl,rfl⟩,fun b hb=>?_,q⟩
  have e:b=s1.heap.objs.size:=by simpa using hb
  subst e
  exact I1.fpOk (le_refl _) (I1.hok.fresh (le_refl _))
def jP(tl:eT):CY:=fun ρ Q=>tl ρ fun r=>match r with
 | .v (.lst ds)=>Q ds []
 | .nw (.lst ds)=>Q ds []
 | .ow a (.lst ds)=>Q ds [(a,ds)]
 | .v (.tup ds)=>Q ds []
 | .v (.scr ns)=>Q (ns.map .int) []
 |_=>False
theorem yS{K:W.Frag}{P:Hp}{M:Addr->Prop}{H1:Hp}{a:Addr}{xs:List V}{ds:List Dv}(hP:P a=some (.lst xs))(r:Reps K M H1 xs ds):xE K P M H1 (Qj K a) ds []:=by
 intro i H' M' S G _
 have h':=S _ _ hP
 refine⟨fun d e=>?_,fun h=>⟨xs,gM.of h',by rw[r.length];exact h⟩⟩
 obtain⟨x,hx,rx⟩:=r.get e
 refine⟨⟨xs,x,gM.of h',hx⟩,fun y H'' ⟨e1,e2⟩=>?_⟩
 subst e1
 have:=e2 xs (gM.of h')
 rw[hx] at this
 cases this
 exact⟨aW.refl _,rx.gen G⟩
theorem Iu{K:W.Frag}{P:Hp}{M:Addr->Prop}{H1:Hp}{a:Addr}{ds:List Dv}:xE K P M H1 (Qj K a) ds [(a,ds)]:=by
 intro i H' M' S G ow
 obtain⟨xs,h',r⟩:=ow (a,ds) (by simp)
 refine⟨fun d e=>?_,fun h=>⟨xs,gM.of h',by rw[r.length];exact h⟩⟩
 obtain⟨x,hx,rx⟩:=r.get e
 refine⟨⟨xs,x,gM.of h',hx⟩,fun y H'' ⟨e1,e2⟩=>?_⟩
 subst e1
 have:=e2 xs (gM.of h')
 rw[hx] at this
 cases this
 exact⟨aW.refl _,rx⟩
theorem Iq{K:W.Frag}{P:Hp}{M:Addr->Prop}{H1:Hp}{a:Addr}{xs:List V}{ds:List Dv}(hP:P a=some (.tup xs))(r:Reps K M H1 xs ds):xE K P M H1 (S8 K a) ds []:=by
 intro i H' M' S G _
 have h':=S _ _ hP
 refine⟨fun d e=>?_,fun h=>⟨xs,mY.of h',by rw[r.length];exact h⟩⟩
 obtain⟨x,hx,rx⟩:=r.get e
 refine⟨⟨xs,x,mY.of h',hx⟩,fun y H'' ⟨e1,e2⟩=>?_⟩
 subst e1
 have:=e2 xs (mY.of h')
 rw[hx] at this
 cases this
 exact⟨aW.refl _,rx.gen G⟩
theorem Ir{K:W.Frag}{P:Hp}{M:Addr->Prop}{H1:Hp}{a:Addr}{ns:List Int}(hP:LW K P a ns):xE K P M H1 (Qj K a) (ns.map .int) []:=by
 intro i H' M' S G _
 have h':=(aW.scr S hP).sq
 refine⟨fun d e=>?_,fun h=>⟨_,h',by simpa using h⟩⟩
 have r:Reps K M' H' (ns.map V.int) (ns.map .int):=Reps.ints ns
 obtain⟨x,hx,rx⟩:=r.get e
 refine⟨⟨_,x,h',hx⟩,fun y H'' ⟨e1,e2⟩=>?_⟩
 subst e1
 have:=e2 _ h'
 rw[hx] at this
 cases this
 exact⟨aW.refl _,rx⟩
theorem EF{K:W.Frag}{HZ:Hp}{F:Addr->Prop}{σ:St}{H:Hp}{ρ:List Sl}{a:Addr}{o:HO}(fr:Fr K HZ F σ H ρ)(e:H a=some o)(m:¬GE (some o)):¬ ∃d,Sl.own a d∈ρ:=by
 rintro⟨d,c⟩
 obtain⟨_,_,_,ow⟩:=fr.at_own c
 obtain⟨u,hu,mu⟩:=ow.mut
 rw[e] at hu
 cases hu
 exact m mu
theorem eX(h:QE X l tl):QI X tg l (jP tl):=by
 refine⟨fun ρ Q Q' w q=>h.mono _ _ _ (fun r q=>?_) q,fun HZ F=>⟨_,Ml (h.run HZ F),fun σ H ρ R fr q=>?_⟩⟩
 ·unfold jP at *
  split at q<;>first | exact w _ _ q | exact q
 ·refine h.step fr q fun r x H1 q S1 r1=>?_
  have fr1:=fr.mono S1
  split at q
  ·rename_i ds
   cases r1 with
   |lst e m rs=>
    exact⟨_,rfl,.inl ⟨⟨_,gM.of e⟩,q _ H1 S1 (by intro p hp;simp at hp) (yS (by rw[cY fun c=>m (.inr c)];exact e) rs)⟩⟩
  ·rename_i ds
   obtain⟨a,rfl,n,xs,e,rs⟩:=r1
   exact⟨_,rfl,.inl ⟨⟨_,gM.of e⟩,q _ H1 S1 (by intro p hp;simp at hp) (yS (by rw[cY fun c=>fr.fresh n (.inr c)];exact e) (rs.weak fun b z=>.inl z))⟩⟩
  ·rename_i a ds
   obtain⟨rfl,m,xs,e,rs⟩:=r1
   exact⟨_,rfl,.inl ⟨⟨_,gM.of e⟩,q _ H1 S1 (by intro p hp;simp at hp;subst hp;exact m) Iu⟩⟩
  ·rename_i ds
   cases r1 with
   |tup e rs=>exact⟨_,rfl,.inr ⟨⟨_,mY.of e⟩,q _ H1 S1 (by intro p hp;simp at hp) (Iq (by rw[cY (EF fr1 e fun z=>z)];exact e) rs)⟩⟩
  ·rename_i ns
   cases r1 with
   |scr e=>
    refine⟨_,rfl,.inl ⟨⟨_,e.sq⟩,q _ H1 S1 (by intro p hp;simp at hp) (Ir ?_)⟩⟩
    rcases e with⟨o,e⟩ | e
    ·exact .inl ⟨o,by rw[cY (EF fr1 e fun z=>z)];exact e⟩
    ·exact .inr e
  ·exact q.elim
def bF(lo:Int)(n:Nat):List Dv:=(List.range n).map fun(k:Nat)=>Dv.int (lo+(k:Int))
theorem Cm{lo:Int}{n i:Nat}{d:Dv}(h:(bF lo n)[i]?=some d):i<n/\d=.int (lo+i):=by
 unfold bF at h
 rw[List.getElem?_map] at h
 cases e:(List.range n)[i]? with
 |none=>rw[e] at h;cases h
 |some k=>
  rw[e] at h
  obtain⟨h1,h2⟩:=List.getElem?_eq_some_iff.mp e
  simp at h1 h2
  subst h2
  exact⟨h1,(Option.some.inj h).symm⟩
theorem wL{K:W.Frag}{P:Hp}{M:Addr->Prop}{H1:Hp}{lo:Int}{n:Nat}:xE K P M H1 (Qi lo n) (bF lo n) []:=by
 intro i H' M' S G _
 refine⟨fun d e=>?_,fun h=>(show n<=i by simpa [bF] using h)⟩
 obtain⟨h1,h2⟩:=Cm e
 subst h2
 refine⟨h1,fun y H'' ⟨e1,e2⟩=>?_⟩
 subst e1 e2
 exact⟨aW.refl _,.int _⟩
def eM(ts:qJ):CY:=fun ρ Q=>ts ρ fun rs=>match rs.map R.d with
 | [.int j]=>(-(2 ^ 62)<=j/\j<2 ^ 62)/\Q (bF 0 j.toNat) []
 |_=>False
def kL(ts:qJ):CY:=fun ρ Q=>ts ρ fun rs=>match rs.map R.d with
 | [.int i,.int j]=>(-(2 ^ 62)<=i/\i<2 ^ 62 /\ -(2 ^ 62)<=j/\j<2 ^ 62)/\Q (bF i (j-i).toNat) []
 |_=>False
theorem fJ{K:W.Frag}{M:Addr->Prop}{H:Hp}{xs:List V}{d:Dv}(h:zC K M H xs [d]):∃x,xs=[x]/\eP K M H x d:=by
 cases h with
 |cons a t=>cases t;exact⟨_,rfl,a⟩
theorem DS{K:W.Frag}{M:Addr->Prop}{H:Hp}{xs:List V}{d d':Dv}(h:zC K M H xs [d,d']):∃x y,xs=[x,y]/\eP K M H x d/\eP K M H y d':=by
 cases h with
 |cons a t=>
  obtain⟨y,rfl,b⟩:=fJ t
  exact⟨_,_,rfl,a,b⟩
theorem eD{a:Expr}{ts:qJ}{p pos:Pos}(hg:Gl X "range")(hm:X.mg "range" = none)(ha:QA X [a] ts)(hs:starEach [a] X.env=[(false,eval a X.env)]:=by rfl):QI X tg (.Call (.Name "range" p) [a] [] pos) (eM ts):=by
 refine⟨fun ρ Q Q' w q=>ha.mono _ _ _ (fun r q=>?_) q,fun HZ F=>⟨_,FH hg hm (ha.run HZ F) hs,fun σ H ρ R fr q=>?_⟩⟩
 ·split at q
  ·exact⟨q.1,w _ _ q.2⟩
  ·exact q
 ·refine ha.step fr q fun rs xs H1 q S1 r1=>?_
  split at q
  ·rename_i j e
   have c:=r1.c
   rw[e] at c
   obtain⟨x,rfl,cx⟩:=fJ c
   obtain rfl:=cx.int
   exact⟨j,rfl,q.1.1,q.1.2,q.2 _ H1 S1 (by intro p hp;simp at hp) wL⟩
  ·exact q.elim
theorem kQ{a b:Expr}{ts:qJ}{p pos:Pos}(hg:Gl X "range")(hm:X.mg "range" = none)(ha:QA X [a,b] ts)(hs:starEach [a,b] X.env=[(false,eval a X.env),(false,eval b X.env)]:=by rfl)(hs2:starEach [b] X.env=[(false,eval b X.env)]:=by rfl):
  QI X tg (.Call (.Name "range" p) [a,b] [] pos) (kL ts):=by
 refine⟨fun ρ Q Q' w q=>ha.mono _ _ _ (fun r q=>?_) q,fun HZ F=>⟨_,FG hg hm (ha.run HZ F) hs hs2,fun σ H ρ R fr q=>?_⟩⟩
 ·split at q
  ·exact⟨q.1,w _ _ q.2⟩
  ·exact q
 ·refine ha.step fr q fun rs xs H1 q S1 r1=>?_
  split at q
  ·rename_i i j e
   have c:=r1.c
   rw[e] at c
   obtain⟨x,y,rfl,cx,cy⟩:=DS c
   obtain rfl:=cx.int
   obtain rfl:=cy.int
   exact⟨i,j,rfl,q.1,q.2 _ H1 S1 (by intro p hp;simp at hp) wL⟩
  ·exact q.elim
end
abbrev Ak:=Dv->List Sl->(List Sl->Prop)->Prop
structure QG(X:Cx)(tg:Expr)(k:Nat)(g:Ak):Prop where
 mono:∀d ρ (Q Q':List Sl->Prop),(∀ρ,Q ρ->Q' ρ)->g d ρ Q->g d ρ Q'
 agree:∀d ρ (Q:List Sl->Prop),g d ρ Q->g d ρ fun ρ1=>Q ρ1/\ρ1.length=ρ.length /\ ∀j,k<=j->ρ1[j]?=ρ[j]?
 run:∃t,PG X tg t /\ ∀(HZ:Hp) (F:Addr->Prop) (v:V) (d:Dv) (σ:St) (H:Hp) (ρ:List Sl) (Q:St->Hp->Prop),Fr X.K HZ F σ H ρ->Rep X.K (MM F ρ) H v d ->
  g d ρ (fun ρ1=>∀σ1,Fr X.K HZ F σ1 H ρ1->(∀j,k<=j->σ1[j]?=σ[j]?)->Q σ1 H)->t v σ H Q
def gN(i:Nat):Ak:=fun d ρ Q=>Q (ρ.set i (.v d))
def nH:List Nat->List Dv->List Sl->List Sl
 |i::is,d::ds,ρ=>nH is ds (ρ.set i (.v d))
 |_,_,ρ=>ρ
def gT(is:List Nat):Ak:=fun d ρ Q=>match d with
 | .tup ds=>ds.length=is.length/\Q (nH is ds ρ)
 |_=>False
def Rk:List Nat->MI
 | []=>Pu
 |i::is=>M4 (By i) (Rk is)
theorem vR:∀(is:List Nat) (ds:List Dv) (ρ:List Sl),(nH is ds ρ).length=ρ.length
 | [],_,_=>rfl
 |_::_,[],_=>rfl
 |i::is,d::ds,ρ=>by rw[nH,vR is ds];simp
theorem vS{k:Nat}:∀(is:List Nat) (ds:List Dv) (ρ:List Sl),(∀i∈is,i<k) -> ∀j,k<=j->(nH is ds ρ)[j]?=ρ[j]?
 | [],_,_,_,_,_=>rfl
 |_::_,[],_,_,_,_=>rfl
 |i::is,d::ds,ρ,h,j,hj=>by
  have:=h i (by simp)
  rw[nH,vS is ds _ (fun i hi=>h i (by simp[hi])) j hj,List.getElem?_set_ne ⋯]
section
variable {X:Cx} {pos:Pos}
theorem g6{i k:Nat}{x:Str}(hN:X.N.Nodup)(hi:X.N[i]?=some x)(hx:JY X.env.scope x)(hk:i<k:=by decide)(hf:X.fn x=true \/ X.env.scope.names.lookup x=some .local:=by first | exact .inl rfl | exact .inr rfl | assumption):QG X (.Name x pos) k (gN i):=by
 refine⟨fun d ρ Q Q' w q=>w _ q,fun d ρ Q q=>⟨q,by simp,fun j hj=>by rw[List.getElem?_set_ne ⋯]⟩,_,dH hN hi hx hf,fun HZ F v d σ H ρ Q fr r q=>?_⟩
 exact q _ (fr.setv r) fun j hj=>by rw[List.getElem?_set_ne ⋯]
theorem EQ{K:W.Frag}{HZ:Hp}{F:Addr->Prop}{H:Hp}{k:Nat}:∀(is:List Nat) (ds:List Dv) (vs:List V) (σ:St) (ρ:List Sl) (Q:St->Hp->Prop),(∀i∈is,i<k)->ds.length=is.length->Fr K HZ F σ H ρ->Reps K (MM F ρ) H vs ds ->
  (∀σ1,Fr K HZ F σ1 H (nH is ds ρ)->(∀j,k<=j->σ1[j]?=σ[j]?)->Q σ1 H)->Rk is vs σ H Q
 | [],[],_,σ,ρ,Q,_,_,fr,.nil,q=>⟨rfl,q σ fr fun _ _=>rfl⟩
 |i::is,d::ds,_,σ,ρ,Q,hk,hl,fr,.cons (x:=x) a r,q=>by
  refine⟨x,_,rfl,?_⟩
  have wk:∀b,MM F (ρ.set i (.v d)) b->MM F ρ b:=fun b h=>by
   rcases MM.set b h with h | ⟨_,h⟩
   ·exact h
   ·cases h
  refine EQ is ds _ _ (ρ.set i (.v d)) Q (fun i hi=>hk i (by simp[hi])) (by simpa using hl) (fr.setv a) (r.weak wk) fun σ1 f1 e1=>q σ1 f1 fun j hj=>?_
  have:=hk i (by simp)
  rw[e1 j hj,List.getElem?_set_ne ⋯]
theorem BB{es:List Expr}{x1 n k:Nat}{is:List Nat}(hc:X.calm=true)(h:Qh X es (Rk is))(hk:∀i∈is,i<k:=by decide)(hl:is.length=n:=by rfl)
  (hn:(assignEach es X.env).length=n:=by rfl) (hst:(assignEach es X.env).findIdx? (·.1)=none:=by rfl):QG X (.Tuple es x1 pos) k (gT is):=by
 refine⟨fun d ρ Q Q' w q=>?_,fun d ρ Q q=>?_,_,Mm hc h hn hst,fun HZ F v d σ H ρ Q fr r q=>?_⟩
 ·unfold gT at *
  split at q
  ·exact⟨q.1,w _ q.2⟩
  ·exact q
 ·unfold gT at *
  split at q
  ·exact⟨q.1,q.2,vR _ _ _,vS _ _ _ hk⟩
  ·exact q
 ·unfold gT at q
  split at q
  ·cases r with
   |tup e rs=>exact⟨_,_,rfl,mY.of e,by rw[rs.length,q.1,hl],EQ is _ _ σ ρ Q hk q.1 fr rs q.2⟩
  ·exact q.elim
end
def bE(g:Ak)(tb:cO)(ogs:List (Addr×List Dv)):List Dv->cO
 | []=>fun E ρ=>guard ogs ρ/\E.nx ρ
 |d::r=>fun E ρ=>guard ogs ρ/\g d ρ fun ρ1=>tb { E with nx:=bE g tb ogs r E,ct:=bE g tb ogs r E,bk:=E.nx } ρ1
def gQ(ti:CY)(g:Ak)(tb:cO):cO:=fun E ρ=>ti ρ fun ds ogs=>bE g tb ogs ds E ρ
section
variable {X:Cx} {tg iter c:Expr} {ti:CY} {g:Ak} {tb:cO} {body:List Stmt} {pos:Pos} {k:Nat}
theorem rE(mg:∀d ρ (Q Q':List Sl->Prop),(∀ρ,Q ρ->Q' ρ)->g d ρ Q->g d ρ Q')(mb:∀E E' ρ,EnLe E E'->tb E ρ->tb E' ρ)(ogs:List (Addr×List Dv)):∀(ds:List Dv) (E E':En) (ρ:List Sl),EnLe E E'->bE g tb ogs ds E ρ->bE g tb ogs ds E' ρ
 | [],E,E',ρ,w,h=>⟨h.1,w.nx _ h.2⟩
 |d::r,E,E',ρ,w,h=>by
  have w2:EnLe { E with nx:=bE g tb ogs r E,ct:=bE g tb ogs r E,bk:=E.nx } { E' with nx:=bE g tb ogs r E',ct:=bE g tb ogs r E',bk:=E'.nx }:=
   ⟨fun ρ h=>rE mg mb ogs r E E' ρ w h,w.rt,w.nx,fun ρ h=>rE mg mb ogs r E E' ρ w h⟩
  exact⟨h.1,mg _ _ _ _ (fun ρ1 h=>mb _ _ _ w2 h) h.2⟩
theorem bI(ogs:List (Addr×List Dv))(E:En)(ρ:List Sl):bE g tb ogs [] E ρ=(guard ogs ρ/\E.nx ρ):=rfl
theorem bM(ogs:List (Addr×List Dv))(d:Dv)(r:List Dv)(E:En)(ρ:List Sl):bE g tb ogs (d::r) E ρ=(guard ogs ρ/\g d ρ fun ρ1=>tb { E with nx:=bE g tb ogs r E,ct:=bE g tb ogs r E,bk:=E.nx } ρ1):=rfl
theorem Bz{ogs:List (Addr×List Dv)}{E:En}{ρ:List Sl}:∀{ds:List Dv},bE g tb ogs ds E ρ->guard ogs ρ
 | [],h=>by rw[bI] at h;exact h.1
 |_::_,h=>by rw[bM] at h;exact h.1
theorem eJ(hp:PassesOwn (model X.prog X.w) X.A X.env X.xe)(hc:X.N=X.N)(hi:QI X tg iter ti)(hg:QG X tg k g)(hb:QSs X body tb)(hs:∀x,foldedSetIterable iter X.env x=pure x:=by intro _;rfl):QS X (.For tg iter body [] pos) (gQ ti g tb):=by
 refine⟨fun E E' ρ w h=>hi.mono _ _ _ (fun ds ogs h=>rE hg.mono hb.mono ogs ds E E' ρ w h) h,fun HZ F=>?_⟩
 obtain⟨wi,hwi,wiq⟩:=hi.run HZ F
 obtain⟨tt,htt,ttq⟩:=hg.run
 have hb':Ah X body (fun D σ H=>∃P,liftS X.K P F tb D σ H):=fun pj s σ H D I ⟨P,q⟩=>hb.run P F pj s σ H D I q
 refine gR (Mh hp hc hwi htt hb' hs) fun D σ H ⟨ρ,E,fr,h,en⟩=>?_
 refine wiq σ H ρ _ fr (hi.mono _ _ _ (fun ds ogs q J H2 S2 _ ok=>?_) h)
 have fr2:=fr.mono S2
 have en2:Ent X.K (prot H2 ρ) F E D:=en.prot fr2
 refine⟨fun i m σ' H'=>m=ds.length-i/\i<=ds.length /\ ∃ρ',Fr X.K (prot H2 ρ) F σ' H' ρ'/\bE g tb ogs (ds.drop i) E ρ',⟨ds.length,by simp,zero_le _,ρ,fr2.prot,by simpa using q⟩,?_⟩
 rintro i m σ' H' ⟨rfl,hil,ρ',fr',q'⟩
 have gd:guard ogs ρ':=Bz q'
 have Gn:=fr2.gen fr'
 have oks:=ok i H' (MM F ρ') fr'.same Gn fun p hp=>let ⟨_,_,_,h⟩:=fr'.at_own (gd p hp);h
 by_cases hlt:i<ds.length
 ·have hd:ds[i]?=some ds[i]:=by simp[hlt]
  have hdr:ds.drop i=ds[i]::ds.drop (i+1):=drop_eq_getElem_cons hlt
  rw[hdr,bM] at q'
  obtain⟨go,yld⟩:=oks.1 _ hd
  refine .inr ⟨go,fun σ2 H2'=>∃ρ2,Fr X.K (prot H2 ρ) F σ2 H2' ρ2/\bE g tb ogs (ds.drop (i+1)) E ρ2,fun σ2 H2' ⟨ρ2,f2',q2⟩=>⟨ds.length-(i+1),⋯,rfl,hlt,ρ2,f2',q2⟩,fun y H3 hy=>?_⟩
  obtain⟨S3,ry⟩:=yld y H3 hy
  refine ttq _ F y _ σ' H3 ρ' _ (fr'.mono S3) ry (hg.mono _ _ _ _ (fun ρ1 q1 σ1 f1 _=>?_) q'.2)
  exact⟨_,ρ1,_,f1,q1,fun ρ3 σ3 H3' f3 q3=>⟨ρ3,f3,q3⟩,en2.nx,fun ρ3 σ3 H3' f3 q3=>⟨ρ3,f3,q3⟩,en2.rt⟩
 ·have e:i=ds.length:=⋯
  subst e
  rw[drop_length,bI] at q'
  exact .inl ⟨oks.2 (le_refl _),en2.nx _ _ _ fr' q'.2⟩
end
end Z
namespace Z
open L2
section
variable {X:Cx} {tg iter c e elt:Expr} {ti:CY} {g:Ak} {tb:cO} {body:List Stmt} {pos:Pos} {k:Nat} {tc:oA} {es:List Expr} {ts:qJ} {te:eT}
def fN(js:List Nat)(ρ:List Sl):List Sl:=js.map fun j=>(ρ[j]?).getD .un
def d8(ρ0:List Sl)(g:Ak)(tt:oA)(te:eT):List Dv->List Dv->(R->Prop)->Prop
 | [],acc,Q=>Q (.nw (.lst acc))
 |d::r,acc,Q=>g d ρ0 fun ρ1=>tt ρ1 fun b=>if b=true then te ρ1 fun v=>(v.free=true/\acc.length<zB)/\d8 ρ0 g tt te r (acc++[v.d]) Q else d8 ρ0 g tt te r acc Q
def fP(k:Nat)(js:List Nat)(ti:CY)(g:Ak)(tt:oA)(te:eT):eT:=fun ρ Q=>ti ρ fun ds _=>d8 (List.replicate k .un++fN js ρ) g tt te ds [] Q
structure QTs(X:Cx)(ifs:List Expr)(t:oA):Prop where
 mono:∀(ρ:List Sl) (Q Q':Bool->Prop),(∀r,Q r->Q' r)->t ρ Q->t ρ Q'
 run:∀(HZ:Hp) (F:Addr->Prop),O2 X ifs (liftT X.K HZ F t)
def jK:oA:=fun _ Q=>Q true
theorem pL:QTs X [] jK:=⟨fun _ _ _ w q=>w _ q,fun HZ F pj s σ H Q I ⟨ρ,fr,q⟩=>Jz pj s σ H Q I (q H (aW.refl _))⟩
theorem lM{t:oA}(h:QT X c t):QTs X [c] t:=⟨h.mono,fun HZ F=>Jy (h.run HZ F)⟩
theorem mH{js:List Nat}{ρ:List Sl}{i:Nat}{s:Sl}(h:(fN js ρ)[i]?=some s)(hs:s ≠ .un):∃j,js[i]?=some j/\ρ[j]?=some s:=by
 unfold fN at h
 rw[List.getElem?_map] at h
 cases e:js[i]? with
 |none=>rw[e] at h;cases h
 |some j=>
  rw[e] at h
  refine⟨j,rfl,?_⟩
  have h':(ρ[j]?).getD .un=s:=Option.some.inj h
  cases q:ρ[j]? with
  |none=>rw[q] at h';exact absurd h'.symm hs
  |some o=>rw[q] at h';exact congrArg some h'
theorem Dk{js:List Nat}{σ:St}{i j:Nat}{x:V}(hj:js[i]?=some j)(h:σ[j]?=some (some x)):(pick js σ)[i]?=some (some x):=by
 unfold pick
 rw[List.getElem?_map,hj,map_some,h]
 rfl
theorem lQ{ρ0:List Sl}{tt:oA}(mg:∀d ρ (Q Q':List Sl->Prop),(∀ρ,Q ρ->Q' ρ)->g d ρ Q->g d ρ Q')(mt:∀(ρ:List Sl) (Q Q':Bool->Prop),(∀r,Q r->Q' r)->tt ρ Q->tt ρ Q')(me:∀(ρ:List Sl) (Q Q':R->Prop),(∀r,Q r->Q' r)->te ρ Q->te ρ Q'):
  ∀(ds acc:List Dv) (Q Q':R->Prop),(∀r,Q r->Q' r)->d8 ρ0 g tt te ds acc Q->d8 ρ0 g tt te ds acc Q'
 | [],acc,Q,Q',w,h=>w _ h
 |d::r,acc,Q,Q',w,h=>by
  refine mg _ _ _ _ (fun ρ1 h=>mt _ _ _ (fun b h=>?_) h) h
  split at h
  ·rw[if_pos ‹_›];exact me _ _ _ (fun v h=>⟨h.1,lQ mg mt me r _ Q Q' w h.2⟩) h
  ·rw[if_neg ‹_›];exact lQ mg mt me r _ Q Q' w h
theorem FU{l:List Nat}(hN:l.Nodup){i j x:Nat}(a:l[i]?=some x)(b:l[j]?=some x):i=j:=by
 obtain⟨h1,e1⟩:=List.getElem?_eq_some_iff.mp a
 obtain⟨h2,e2⟩:=List.getElem?_eq_some_iff.mp b
 have P:=pairwise_iff_getElem.mp hN
 rcases lt_trichotomy i j with h | h | h
 ·exact absurd (e1.trans e2.symm) (P i j h1 h2 h)
 ·exact h
 ·exact absurd (e2.trans e1.symm) (P j i h2 h1 h)
theorem Fr.block{K:W.Frag}{HZ H H2:Hp}{F:Addr->Prop}{σ:St}{ρ:List Sl}{k:Nat}{js:List Nat}{D:Addr}{old:St}(fr:Fr K HZ F σ H ρ)(S:aW H H2)(hD:H D=none)(hD2:H2 D≠none)(nd:js.Nodup)(lo:old.length=k):
  ∃(P:Hp) (F':Addr->Prop),Fr K P F' (old++pick js σ) H2 (List.replicate k .un++fN js ρ)/\(∀a,MM F' (List.replicate k .un++fN js ρ) a ↔ MM F ρ a \/ a=D)/\(∀a,F' a ↔ (MM F ρ a \/ a=D) /\ ¬ ∃d,Sl.own a d∈fN js ρ):=by
 have mem:∀{a:Addr} {d:Dv},Sl.own a d∈List.replicate k Sl.un++fN js ρ->Sl.own a d∈fN js ρ:=fun h=>by
  rcases mem_append.mp h with h | h
  ·cases eq_of_mem_replicate h
  ·exact h
 have sub:∀{a:Addr} {d:Dv},Sl.own a d∈fN js ρ->Sl.own a d∈ρ:=fun h=>by
  obtain⟨i,e⟩:=mem_iff_getElem?.mp h
  obtain⟨j,_,e2⟩:=mH e (by intro z;cases z)
  exact mem_of_getElem? e2
 refine⟨Z.prot H2 (fN js ρ),fun a=>(MM F ρ a \/ a=D) /\ ¬ ∃d,Sl.own a d∈fN js ρ,?_,fun a=>⟨fun h=>?_,fun h=>?_⟩,fun a=>Iff.rfl⟩
 ·have iff:∀a,MM (fun a=>(MM F ρ a \/ a=D) /\ ¬ ∃d,Sl.own a d∈fN js ρ) (List.replicate k .un++fN js ρ) a->MM F ρ a \/ a=D:=fun a h=>by
   rcases h with h | ⟨d,h⟩
   ·exact h.1
   ·exact .inl (.inr ⟨d,sub (mem h)⟩)
  have G:Gen K (MM F ρ) (MM (fun a=>(MM F ρ a \/ a=D) /\ ¬ ∃d,Sl.own a d∈fN js ρ) (List.replicate k .un++fN js ρ)) H H2:=((Gen.fresh hD).trans (.mono S)).trans (.weak iff)
  refine⟨by simp[pick,fN,lo],fun i s e=>?_,fun i j a d d' e1 e2=>?_,fun a d h=>vY (mem h),fun b o h=>pM h,fun a h=>?_,fun Pt q z=>?_⟩
  ·by_cases hi:i<k
   ·rw[List.getElem?_append_left (by simpa using hi),List.getElem?_replicate,if_pos hi] at e
    cases e
    trivial
   ·rw[List.getElem?_append_right (by simpa using le_of_not_lt hi),length_replicate] at e
    rw[List.getElem?_append_right (by rw[lo];exact le_of_not_lt hi),lo]
    cases s with
    |un=>trivial
    |v d=>
     obtain⟨j,hj,e2⟩:=mH e (by intro z;cases z)
     obtain⟨x,hx,r⟩:=fr.sl j _ e2
     exact⟨x,Dk hj hx,r.gen G⟩
    |own a d=>
     obtain⟨j,hj,e2⟩:=mH e (by intro z;cases z)
     obtain⟨hx,r⟩:=fr.sl j _ e2
     exact⟨Dk hj hx,r.gen G fun o e=>S _ _ e⟩
  ·have ge:∀{i:Nat} {d:Dv},(List.replicate k Sl.un++fN js ρ)[i]?=some (.own a d)->k<=i/\(fN js ρ)[i-k]?=some (.own a d):=fun {i d} e=>by
    by_cases hi:i<k
    ·rw[List.getElem?_append_left (by simpa using hi),List.getElem?_replicate,if_pos hi] at e
     cases e
    ·rw[List.getElem?_append_right (by simpa using le_of_not_lt hi),length_replicate] at e
     exact⟨le_of_not_lt hi,e⟩
   obtain⟨k1,e1⟩:=ge e1
   obtain⟨k2,e2⟩:=ge e2
   obtain⟨j1,hj1,e1⟩:=mH e1 (by intro z;cases z)
   obtain⟨j2,hj2,e2⟩:=mH e2 (by intro z;cases z)
   have:=fr.nd j1 j2 a d d' e1 e2
   subst this
   have:=FU nd hj1 hj2
   ac_rfl
  ·rw[cY h.2]
   rcases h.1 with m | m
   ·intro z
    exact fr.dom m (S.free z)
   ·rw[m];exact hD2
  ·have e:=fr.old.t Pt q z
   rw[cY ?_]
   ·exact S _ _ (fr.same _ _ e)
   ·rintro⟨d,c⟩
    rw[fr.new Pt d (sub c)] at e
    cases e
 ·rcases h with h | ⟨d,h⟩
  ·exact h.1
  ·exact .inl (.inr ⟨d,sub (mem h)⟩)
 ·by_cases c:∃d,Sl.own a d∈fN js ρ
  ·obtain⟨d,c⟩:=c
   exact .inr ⟨d,mem_append_right _ c⟩
  ·exact .inl ⟨h,c⟩
end
inductive liftG(K:W.Frag)(k:Nat)(g:Ak)(v:V)(σ:St)(H:Hp)(Q:St->Hp->Prop):Prop
 |mk (d:Dv) (HZ:Hp) (F:Addr->Prop) (ρ:List Sl) (fr:Fr K HZ F σ H ρ) (r:Rep K (MM F ρ) H v d) (h:g d ρ (fun ρ1=>∀σ1,Fr K HZ F σ1 H ρ1->(∀j,k<=j->σ1[j]?=σ[j]?)->Q σ1 H))
theorem QG.pg{X:Cx}{tg:Expr}{k:Nat}{g:Ak}(h:QG X tg k g):PG X tg (liftG X.K k g):=by
 obtain⟨t,ht,tq⟩:=h.run
 intro pj s σ H v u Q I r ⟨d,HZ,F,ρ,fr,rv,q⟩
 exact ht pj s σ H v u Q I r (tq HZ F v d σ H ρ Q fr rv q)
theorem QE.pe{X:Cx}{e:Expr}{te:eT}(h:QE X e te):PE X e (fun σ H Q=>∃HZ F,lift X.K HZ F te σ H Q):=fun pj s σ H Q I ⟨HZ,F,q⟩=>h.run HZ F pj s σ H Q I q
theorem QTs.pt{X:Cx}{ifs:List Expr}{tt:oA}(h:QTs X ifs tt):O2 X ifs (fun σ H Q=>∃HZ F,liftT X.K HZ F tt σ H Q):=fun pj s σ H Q I ⟨HZ,F,q⟩=>h.run HZ F pj s σ H Q I q
theorem B0{α:Type}{l a b:List α}{k:Nat}(ha:a.length=k)(hl:l.length=k+b.length)(h:∀j,k<=j->l[j]?=(a++b)[j]?):l=l.take k++b:=by
 refine ext_getElem? fun j=>?_
 by_cases hj:j<k
 ·rw[List.getElem?_append_left (by rw[length_take];ac_rfl),List.getElem?_take_of_lt hj]
 ·rw[h j ⋯,List.getElem?_append_right ⋯,List.getElem?_append_right (by rw[length_take];ac_rfl),ha,length_take,min_eq_left ⋯]
section
variable {X:Cx} {pos:Pos}
theorem Mb{elt iter tgt:Expr}{ifs:List Expr}{scope:Scope}{cl:List (Str×Addr)}{tgs ns:List Str}{js:List Nat}{k:Nat}{ti:CY}{g:Ak}{tt:oA}{te:eT}(hc:X.N=X.N)(hk:tgs.length=k)
  (hi:QI X tgt iter ti) (hg:∀(fp:List Addr) (s:Shared) (H:Hp),QG (rP X scope cl fp (tgs++ns) s H) tgt k g) (ht:∀(fp:List Addr) (s:Shared) (H:Hp),QTs (rP X scope cl fp (tgs++ns) s H) ifs tt)
  (he:∀(fp:List Addr) (s:Shared) (H:Hp),QE (rP X scope cl fp (tgs++ns) s H) elt te)
  (hclos:closureFor scope X.env=pure cl) (hsub:∀x c,cl.lookup x=some c->X.env.cells.lookup x=some c)
  (hhas:∀x,((relabel scope X.env).names.lookup x=some .cell \/ (relabel scope X.env).names.lookup x=some .free) -> ∃c,cl.lookup x=some c)
  (hjs:js.map (fun j=>X.N[j]?)=ns.map some) (hin:∀y∈ns,(relabel scope X.env).names.lookup y=some .cell \/ (relabel scope X.env).names.lookup y=some .free)
  (hout:∀y∈ns,X.env.kindOf y=some .cell \/ X.env.kindOf y=some .free) (nd:js.Nodup)
  (hcell:∀y∈scope.names,y.2 ≠ .cell:=by decide +kernel) (hkind:scope.kind=.function:=by rfl)
  (hnames:∀y∈scope.names,y.2=.local->scope.names.lookup y.1=some .local:=by decide +kernel)
  (hs:∀z,foldedSetIterable iter X.env z=pure z:=by intro _;rfl):
  QE X (.ListComp elt [⟨tgt,iter,ifs,0⟩] scope pos) (fP k js ti g tt te):=by
 have mg:=(hg [] X.s₀ fun _=>none).mono
 have ag:=(hg [] X.s₀ fun _=>none).agree
 have mt:=(ht [] X.s₀ fun _=>none).mono
 have me:=(he [] X.s₀ fun _=>none).mono
 refine⟨fun ρ Q Q' w h=>hi.mono _ _ _ (fun ds ogs h=>lQ mg mt me ds [] Q Q' w h) h,fun HZ F=>?_⟩
 obtain⟨wi,hwi,wiq⟩:=hi.run HZ F
 refine dU (HH (tgs:=tgs) (ns:=ns) (js:=js) (g:=liftG X.K k g) (tt:=fun σ H Q=>∃HZ F,liftT X.K HZ F tt σ H Q) (te:=fun σ H Q=>∃HZ F,lift X.K HZ F te σ H Q) hc hwi (fun fp s H=>(hg fp s H).pg) (fun fp s H=>(ht fp s H).pt) (fun fp s H=>(he fp s H).pe) hclos hsub hhas hjs hin hout hcell hkind hnames hs) fun σ H Q ⟨ρ,fr,h⟩=>?_
 subst hk
 refine wiq σ H ρ _ fr (hi.mono _ _ _ (fun ds ogs q J H1 S1 gd ok=>?_) h)
 intro D hD
 have fr1:=fr.mono S1
 refine⟨fun i m acc H2=>m=ds.length-i/\i<=ds.length/\aW H1 H2 /\ ∃accD,Reps X.K (fun a=>MM F ρ a \/ a=D) H2 acc accD /\
  d8 (List.replicate tgs.length .un++fN js ρ) g tt te (ds.drop i) accD (fun r=>∀x H',aW H H'->eU X.K (MM F ρ) (Am ρ) H x r H'->Q x H'),
  ⟨ds.length,by simp,zero_le _,aW.new' hD,[],.nil,by simpa using q⟩,?_⟩
 rintro i m acc H2 ⟨rfl,hil,S2,accD,ra,q⟩ hDl
 have G2:Gen X.K (MM F ρ) (fun a=>MM F ρ a \/ a=D) H1 H2:=(Gen.fresh hD).trans (.mono S2)
 have oks:=ok i H2 (fun a=>MM F ρ a \/ a=D) (fun b o e=>S2 _ _ (pM e)) G2 fun p hp=>by
  obtain⟨_,_,_,ow⟩:=fr1.at_own (gd p hp)
  exact ow.gen G2 fun o e=>S2 _ _ e
 by_cases hlt:i<ds.length
 ·have hd:ds[i]?=some ds[i]:=by simp[hlt]
  rw[drop_eq_getElem_cons hlt] at q
  obtain⟨go,yld⟩:=oks.1 _ hd
  refine .inr ⟨go,fun y H3 hy old lo=>?_⟩
  obtain⟨S3,ry⟩:=yld y H3 hy
  have hD3:=S3 _ _ hDl
  obtain⟨P,F',fr',iff,iffF⟩:=fr1.block (js:=js) (old:=old) (S2.trans S3) hD (by rw[hD3];simp) nd lo
  refine⟨_,P,F',_,fr',ry.weak fun a z=>(iff a).mp z,mg _ _ _ _ (fun ρ1 q1 σ1 f1 a1=>?_) (ag _ _ _ q)⟩
  obtain⟨q1,l1,b1⟩:=q1
  have up:∀a,MM F ρ a \/ a=D->MM F' ρ1 a:=fun a z=>by
   rcases(iff a).mpr z with z | ⟨d,z⟩
   ·exact .inl z
   ·refine .inr ⟨d,?_⟩
    obtain⟨j,e⟩:=mem_iff_getElem?.mp z
    have hj:tgs.length<=j:=by
     by_cases hj:j<tgs.length
     ·rw[List.getElem?_append_left (by simpa using hj),List.getElem?_replicate,if_pos hj] at e
      cases e
     ·ac_rfl
    rw[<- b1 j hj] at e
    exact mem_of_getElem? e
  have hlen:σ1.length=tgs.length+(pick js σ).length:=by
   have:=f1.len
   rw[l1] at this
   simp[pick,fN] at this ⊢
   ac_rfl
  refine⟨⟨σ1.take tgs.length,by rw[length_take];ac_rfl,B0 lo hlen a1⟩,P,F',ρ1,f1,mt _ _ _ (fun b q5 H5 S5=>?_) q1⟩
  have S25:=(S2.trans S3).trans S5
  cases b with
  |true=>
   simp only[if_true] at q5
   refine tR ⟨P,F',ρ1,f1.mono S5,me _ _ _ (fun r q6 x H6 S6 rx=>?_) q5⟩
   have hD6:=S6 _ _ (S5 _ _ hD3)
   obtain⟨⟨rf,rl⟩,q6⟩:=q6
   have rep:=(rx.rep (fun a z=>(f1.mono S5).dom z) rf).weak up
   refine⟨hD6,by rw[ra.length];exact A6 rl,ds.length-(i+1),⋯,rfl,hlt,fun b o e=>?_,_,?_,q6⟩
   ·rw[bY (bT e hD)]
    exact S6 _ _ (S25 _ _ e)
   ·have G6:Gen X.K (fun a=>MM F ρ a \/ a=D) (fun a=>MM F ρ a \/ a=D) H6 (upd H6 D (.lst (acc++[x]))):=Gen.write (.inr rfl) (by rw[hD6];trivial)
    exact((ra.mono ((S3.trans S5).trans S6)).append (.cons rep .nil)).gen G6
  |false=>
   simp only[Bool.false_eq_true,if_false] at q5
   exact nX ⟨S5 _ _ hD3,ds.length-(i+1),⋯,rfl,hlt,S25,accD,ra.mono (S3.trans S5),q5⟩
 ·have e:i=ds.length:=⋯
  subst e
  rw[drop_length] at q
  exact .inl ⟨oks.2 (le_refl _),q (.ref D) H2 (S1.trans S2) ⟨D,rfl,S1.free hD,acc,hDl,ra⟩⟩
end
def pK(X:Cx)(f:Value)(p:List Dv->(R->Prop)->Prop):Prop:=
 (∀ds (Q Q':R->Prop),(∀r,Q r->Q' r)->p ds Q->p ds Q') /\ ∃r:List V->Hp->VK->Prop,gO X f r /\ ∀(M:Addr->Prop) (O:Addr->Dv->Prop) (H:Hp) (xs:List V) (ds:List Dv) (Q:VK),zC X.K M H xs ds ->
  p ds (fun rr=>∀z H',aW H H'->eU X.K M O H z rr H'->Q z H')->r xs H Q
def fX(p:List Dv->(R->Prop)->Prop)(ts:qJ):eT:=fun ρ Q=>ts ρ fun rs=>p (rs.map R.d) Q
section
variable {X:Cx} {pos p:Pos} {e:Expr} {es:List Expr} {ts:qJ} {x:Str} {id T:String} {pp:List Dv->(R->Prop)->Prop}
theorem EV{r:List V->Hp->VK->Prop}(ha:QA X es ts)(mo:∀ds (Q Q':R->Prop),(∀r,Q r->Q' r)->pp ds Q->pp ds Q')
  (hr:∀(M:Addr->Prop) (O:Addr->Dv->Prop) (H:Hp) (xs:List V) (ds:List Dv) (Q:VK),zC X.K M H xs ds->pp ds (fun rr=>∀z H',aW H H'->eU X.K M O H z rr H'->Q z H')->r xs H Q)
  (HZ:Hp) (F:Addr->Prop) (σ:St) (H:Hp) (Q:VK) (h:lift X.K HZ F (fX pp ts) σ H Q):RE r (liftA X.K HZ F ts) σ H Q:=by
 obtain⟨ρ,fr,h⟩:=h
 refine ha.step fr h fun rs xs H1 q S1 r1=>?_
 exact hr (MM F ρ) (Am ρ) H1 xs _ Q r1.c (mo _ _ _ (fun rr k z H' S rz=>k z H' (S1.trans S) (rz.ahead S1)) q)
theorem bC(hc:pK X (.builtin id) pp)(hg:Gl X x)(hm:X.mg x=none)(hv:bootBuiltins x=some (.builtin id))(ha:QA X (e::es) ts)(hn:x ≠ "__name__" := by decide)(hdb:(x==("__debug__" : Str))=false:=by decide)
  (he:starEach (e::es) X.env=(false,eval e X.env)::starEach es X.env:=by rfl) (hpl:(backTo pos (starEach es X.env)).any (·.1)=false:=by rfl):QE X (.Call (.Name x p) (e::es) [] pos) (fX pp ts):=by
 obtain⟨mo,r,hR,hr⟩:=hc
 exact⟨fun ρ Q Q' w q=>ha.mono _ _ _ (fun rs q=>mo _ _ _ w q) q,fun HZ F=>dU (BE hR hg hm hv (ha.run HZ F) hn hdb he hpl) (EV ha mo hr HZ F)⟩
theorem jM(hc:pK X (.type T) pp)(hg:Gl X x)(hm:X.mg x=none)(hv:bootBuiltins x=some (.type T))(ha:QA X (e::es) ts)(hn:x ≠ "__name__" := by decide)(hdb:(x==("__debug__" : Str))=false:=by decide)
  (he:starEach (e::es) X.env=(false,eval e X.env)::starEach es X.env:=by rfl) (hpl:(backTo pos (starEach es X.env)).any (·.1)=false:=by rfl):QE X (.Call (.Name x p) (e::es) [] pos) (fX pp ts):=by
 obtain⟨mo,r,hR,hr⟩:=hc
 exact⟨fun ρ Q Q' w q=>ha.mono _ _ _ (fun rs q=>mo _ _ _ w q) q,fun HZ F=>dU (tM hR hg hm hv (ha.run HZ F) hn hdb he hpl) (EV ha mo hr HZ F)⟩
def dE:List Dv->(R->Prop)->Prop
 | [.lst xs],Q=>Q (.v (.int xs.length))
 | [.tup xs],Q=>Q (.v (.int xs.length))
 | [.scr ns],Q=>Q (.v (.int ns.length))
 | [.str y],Q=>y.length<=zB/\Q (.v (.int y.length))
 | [.dik kvs],Q=>Q (.v (.int kvs.length))
 |_,_=>False
theorem RepK.length{K:W.Frag}{M:Addr->Prop}{H:Hp}{xs:List (cL×V)}{ds:List (cL×Dv)}(r:RepK K M H xs ds):xs.length=ds.length:=r.ind (P:=fun xs ds=>xs.length=ds.length) rfl fun _ _ _ _ _ _ _ ih=>congrArg (· + 1) ih
theorem cM:pK X (.builtin "len") dE:=by
 refine⟨fun ds Q Q' w h=>?_,_,Aa.or (AZ.or GC),fun M O H xs ds Q c h=>?_⟩
 ·unfold dE at *
  split at h<;>first | exact w _ h | exact⟨h.1,w _ h.2⟩ | exact h
 ·unfold dE at h
  split at h
  ·obtain⟨x,rfl,cx⟩:=fJ c
   obtain⟨a,ys,rfl,ea,ra⟩:=cx.lst
   refine .inl ⟨a,ys,rfl,.inl (gM.of ea),?_⟩
   rw[ra.length]
   exact h _ H (aW.refl _) (Rep.int _)
  ·obtain⟨x,rfl,cx⟩:=fJ c
   obtain⟨a,ys,rfl,ea,ra⟩:=cx.tup
   refine .inl ⟨a,ys,rfl,.inr (mY.of ea),?_⟩
   rw[ra.length]
   exact h _ H (aW.refl _) (Rep.int _)
  ·obtain⟨x,rfl,cx⟩:=fJ c
   obtain⟨a,rfl,ea⟩:=cx.scr
   refine .inl ⟨a,_,rfl,.inl ea.sq,?_⟩
   rw[length_map]
   exact h _ H (aW.refl _) (Rep.int _)
  ·obtain⟨x,rfl,cx⟩:=fJ c
   obtain rfl:=cx.str
   exact .inr (.inl ⟨_,rfl,jN h.1,h.2 _ H (aW.refl _) (Rep.int _)⟩)
  ·obtain⟨x,rfl,cx⟩:=fJ c
   obtain⟨a,ys,rfl,ea,ra⟩:=cx.dik
   refine .inr (.inr ⟨a,ys,rfl,ea,?_⟩)
   rw[ra.length]
   exact h _ H (aW.refl _) (Rep.int _)
  ·exact h.elim
def FR:List Dv->(R->Prop)->Prop
 | [.int i],Q=>Q (.v (.int (if i<0 then -i else i)))
 |_,_=>False
theorem JK:pK X (.builtin "abs") FR:=by
 refine⟨fun ds Q Q' w h=>?_,_,JM,fun M O H xs ds Q c h=>?_⟩
 ·unfold FR at *
  split at h<;>first | exact w _ h | exact h
 ·unfold FR at h
  split at h
  ·obtain⟨x,rfl,cx⟩:=fJ c
   obtain rfl:=cx.int
   exact⟨_,rfl,h _ H (aW.refl _) (Rep.int _)⟩
  ·exact h.elim
def wC:List Dv->(R->Prop)->Prop
 | [.int i,.int j],Q=>Q (.v (.int (if j<i then j else i)))
 |_,_=>False
def PF:List Dv->(R->Prop)->Prop
 | [.int i,.int j],Q=>Q (.v (.int (if j > i then j else i)))
 |_,_=>False
theorem Eb(hc:X.calm=true):pK X (.builtin "min") wC:=by
 refine⟨fun ds Q Q' w h=>?_,_,GB hc,fun M O H xs ds Q c h=>?_⟩
 ·unfold wC at *
  split at h<;>first | exact w _ h | exact h
 ·unfold wC at h
  split at h
  ·obtain⟨x,y,rfl,cx,cy⟩:=DS c
   obtain rfl:=cx.int
   obtain rfl:=cy.int
   exact⟨_,_,rfl,h _ H (aW.refl _) (Rep.int _)⟩
  ·exact h.elim
def HQ:List Dv->(R->Prop)->Prop
 | [.lst ds],Q=>∃ns:List Int,ds=ns.map .int/\Q (.v (.int ns.sum))
 |_,_=>False
def Hn:List Dv->(R->Prop)->Prop
 | [.lst ds],Q=>∃bs:List Bool,ds=bs.map .bl/\Q (.v (.bl (bs.all _root_.id)))
 |_,_=>False
theorem Reps.of_ints{K:W.Frag}{M:Addr->Prop}{H:Hp}:∀{xs:List V} {ns:List Int},Reps K M H xs (ns.map .int)->xs=ns.map V.int
 |_,[],.nil=>rfl
 |_,n::r,.cons a t=>by cases a;rw[Reps.of_ints t];rfl
theorem Reps.of_bls{K:W.Frag}{M:Addr->Prop}{H:Hp}:∀{xs:List V} {ns:List Bool},Reps K M H xs (ns.map .bl)->xs=ns.map V.bl
 |_,[],.nil=>rfl
 |_,n::r,.cons a t=>by cases a;rw[Reps.of_bls t];rfl
theorem Nv(hc:X.N=X.N):pK X (.builtin "sum") HQ:=by
 refine⟨fun ds Q Q' w h=>?_,_,G9 hc,fun M O H xs ds Q c h=>?_⟩
 ·unfold HQ at *
  split at h
  ·obtain⟨ns,e,h⟩:=h;exact⟨ns,e,w _ h⟩
  ·exact h
 ·unfold HQ at h
  split at h
  ·obtain⟨ns,rfl,h⟩:=h
   obtain⟨x,rfl,cx⟩:=fJ c
   obtain⟨a,ys,rfl,ea,ra⟩:=cx.lst
   obtain rfl:=ra.of_ints
   exact⟨a,ns,rfl,gM.of ea,h _ H (aW.refl _) (Rep.int _)⟩
  ·exact h.elim
theorem Nx(hc:X.calm=true):pK X (.builtin "all") Hn:=by
 refine⟨fun ds Q Q' w h=>?_,_,GD hc,fun M O H xs ds Q c h=>?_⟩
 ·unfold Hn at *
  split at h
  ·obtain⟨ns,e,h⟩:=h;exact⟨ns,e,w _ h⟩
  ·exact h
 ·unfold Hn at h
  split at h
  ·obtain⟨ns,rfl,h⟩:=h
   obtain⟨x,rfl,cx⟩:=fJ c
   obtain⟨a,ys,rfl,ea,ra⟩:=cx.lst
   obtain rfl:=ra.of_bls
   exact⟨a,ns,rfl,gM.of ea,h _ H (aW.refl _) (Rep.bl _)⟩
  ·exact h.elim
def wD:List Dv->(R->Prop)->Prop
 | [.lst ds],Q=>Q (.nw (.lst ds))
 | [.tup ds],Q=>Q (.nw (.lst ds))
 | [.scr ns],Q=>Q (.nw (.lst (ns.map .int)))
 |_,_=>False
theorem Ec:pK X (.type "list") wD:=by
 refine⟨fun ds Q Q' w h=>?_,_,AY,fun M O H xs ds Q c h=>?_⟩
 ·unfold wD at *
  split at h<;>first | exact w _ h | exact h
 ·unfold wD at h
  split at h
  ·obtain⟨x,rfl,cx⟩:=fJ c
   obtain⟨a,ys,rfl,ea,ra⟩:=cx.lst
   exact⟨a,ys,rfl,.inl (gM.of ea),fun l hl=>h _ _ (aW.new' hl) (lC hl ra)⟩
  ·obtain⟨x,rfl,cx⟩:=fJ c
   obtain⟨a,ys,rfl,ea,ra⟩:=cx.tup
   exact⟨a,ys,rfl,.inr (mY.of ea),fun l hl=>h _ _ (aW.new' hl) (lC hl ra)⟩
  ·obtain⟨x,rfl,cx⟩:=fJ c
   obtain⟨a,rfl,ea⟩:=cx.scr
   exact⟨a,_,rfl,.inl ea.sq,fun l hl=>h _ _ (aW.new' hl) (lC hl (Reps.ints _))⟩
  ·exact h.elim
def jY:List Dv->(R->Prop)->Prop
 | [.lst ds],Q=>Q (.v (.tup ds))
 | [.tup ds],Q=>Q (.v (.tup ds))
 |_,_=>False
theorem mV:pK X (.type "tuple") jY:=by
 refine⟨fun ds Q Q' w h=>?_,_,xX,fun M O H xs ds Q c h=>?_⟩
 ·unfold jY at *
  split at h<;>first | exact w _ h | exact h
 ·unfold jY at h
  split at h
  ·obtain⟨x,rfl,cx⟩:=fJ c
   obtain⟨a,ys,rfl,ea,ra⟩:=cx.lst
   exact⟨a,ys,rfl,.inl ⟨gM.of ea,fun l hl=>h _ _ (aW.new' hl) (GM hl ra)⟩⟩
  ·obtain⟨x,rfl,cx⟩:=fJ c
   obtain⟨a,ys,rfl,ea,ra⟩:=cx.tup
   exact⟨a,ys,rfl,.inr ⟨mY.of ea,h _ H (aW.refl _) (Rep.tup ea ra)⟩⟩
  ·exact h.elim
def Qo:Dv->String
 | .non=>"NoneType"
 | .bl _=>"bool"
 | .int _=>"int"
 | .str _=>"str"
 | .tup _=>"tuple"
 | .lst _=>"list"
 | .scr _=>"list"
 | .dik _=>"dict"
 | .dit _=>"dict"
 | .obj _ _=>""
 | .exc _ _=>""
 | .dns _=>""
def Iv(T:String)(d:Dv):Bool:=Qo d==T || (T == "int" && Qo d == "bool")
def Aq:Dv->Bool
 | .obj _ _=>false
 | .exc _ _=>false
 | .dns _=>false
 | .scr _=>false
 |_=>true
def uS(T:String)(te:eT):eT:=fun ρ Q=>te ρ fun r=>Aq r.d=true/\Q (.v (.bl (Iv T r.d)))
theorem L0{K:W.Frag}{T:String}(hT:T = "int" \/ T = "bool" \/ T = "tuple" \/ T = "list" \/ T = "str")(d:Dv)(ho:Aq d=true):W.kitOne K (.type (Qo d)) (.type T)=some (Iv T d):=by
 rcases hT with rfl | rfl | rfl | rfl | rfl<;>cases d<;>first | (simp[Aq] at ho;done) | with_unfolding_all rfl
theorem eP.ty{K:W.Frag}{M:Addr->Prop}{H:Hp}{x:V}{d:Dv}(c:eP K M H x d)(ho:Aq d=true):TyOf K H x (.type (Qo d)):=by
 cases d with
 |non=>obtain rfl:=c.non;exact .non
 |bl b=>obtain rfl:=c.bl;exact .bl b
 |int i=>obtain rfl:=c.int;exact .int i
 |str y=>obtain rfl:=c.str;exact .str y
 |tup ds=>obtain⟨a,xs,rfl,e,_⟩:=c.tup;exact .tup e
 |lst ds=>obtain⟨a,xs,rfl,e,_⟩:=c.lst;exact .lst e
 |dik ds=>obtain⟨a,xs,rfl,e,_⟩:=c.dik;exact .dK e
 |dit ds=>obtain⟨a,ep,xs,rfl,e,_⟩:=c.dit;exact .dT e
 |obj C fs=>simp[Aq] at ho
 |scr ns=>simp[Aq] at ho
 |exc C p=>simp[Aq] at ho
 |dns ks=>simp[Aq] at ho
theorem sK{te:eT}{p2:Pos}(hT:T = "int" \/ T = "bool" \/ T = "tuple" \/ T = "list" \/ T = "str")(hg:Gl X "isinstance")(hm:X.mg "isinstance" = none)(ha:QE X e te)(hty:PE X (.Name x p2) (tC (.ty T)))
  (he:starEach [e,.Name x p2] X.env=(false,eval e X.env)::starEach [.Name x p2] X.env:=by rfl) (he2:starEach [Expr.Name x p2] X.env=(false,eval (.Name x p2) X.env)::starEach [] X.env:=by rfl) (hpl:(backTo pos (starEach [.Name x p2] X.env)).any (·.1)=false:=by rfl):
  QE X (.Call (.Name "isinstance" p) [e,.Name x p2] [] pos) (uS T te):=by
 refine⟨fun ρ Q Q' w q=>ha.mono _ _ _ (fun r q=>⟨q.1,w _ q.2⟩) q,fun HZ F=>dU (BE JL hg hm boot_isinstance (pN (ha.run HZ F) (pN hty w4 he2) he) ∅ ∅ he hpl) fun σ H Q ⟨ρ,fr,h⟩=>?_⟩
 refine ha.step fr h fun r x H1 q S1 r1=>?_
 exact⟨x,T,_,_,rfl,r1.c.ty q.1,L0 hT _ q.1,q.2 _ H1 S1 (Rep.bl _)⟩
end
def kD:cL->Dv
 | .inl i=>.int i
 | .inr x=>.str x
def cX:Dv->Dv->(R->Prop)->Prop
 | .lst xs,.int i,Q=>match t5 xs i with
  |some d=>Q (.v d)
  |none=>False
 | .tup xs,.int i,Q=>match t5 xs i with
  |some d=>Q (.v d)
  |none=>False
 | .scr ns,.int i,Q=>match t5 ns i with
  |some n=>Q (.v (.int n))
  |none=>False
 | .str z,.int i,Q=>z.length<=zB/\match t5 z.cps.toList i with
  |some c=>Q (.v (.str ⟨#[c]⟩))
  |none=>False
 | .dik kvs,.int i,Q=>match kvs.find? (fun kv=>decide (kv.1=Sum.inl i)) with
  |some kv=>Q (.v kv.2)
  |none=>False
 | .dik kvs,.str x,Q=>match kvs.find? (fun kv=>decide (kv.1=Sum.inr x)) with
  |some kv=>Q (.v kv.2)
  |none=>False
 | .dit kvs,.tup ds,Q=>∃k:List cL,ds=k.map kD/\match kvs.find? (fun kv=>decide (kv.1=k)) with
  |some kv=>Q (.v kv.2)
  |none=>False
 |_,_,_=>False
section
variable {X:Cx} {a b e:Expr} {ta tb te:eT} {pos:Pos}
theorem Reps.at{K:W.Frag}{M:Addr->Prop}{H:Hp}{xs:List V}{ds:List Dv}{i:Int}{d:Dv}(r:Reps K M H xs ds)(h:t5 ds i=some d):∃x,t5 xs i=some x/\Rep K M H x d:=by
 unfold t5 at *
 rw[r.length]
 cases e:v6 ds.length i with
 |none=>rw[e] at h;cases h
 |some j=>
  rw[e] at h
  obtain⟨x,hx,rx⟩:=r.get (i:=j) h
  exact⟨x,hx,rx⟩
theorem LV{α β:Type}{f:α->β}{l:List α}{i:Int}:t5 (l.map f) i=(t5 l i).map f:=by
 unfold t5
 rw[length_map]
 cases v6 l.length i with
 |none=>rfl
 |some j=>simp
theorem RepK.val{K:W.Frag}{M:Addr->Prop}{H:Hp}{k:cL}{xs:List (cL×V)}{ds:List (cL×Dv)}(r:RepK K M H xs ds):(∀kv,ds.find? (fun kv=>decide (kv.1=k))=some kv -> ∃x,lU xs k=some x/\Rep K M H x kv.2)/\(ds.find? (fun kv=>decide (kv.1=k))=none->lU xs k=none):=
 r.ind (P:=fun xs ds=>(∀kv,ds.find? (fun kv=>decide (kv.1=k))=some kv -> ∃x,lU xs k=some x/\Rep K M H x kv.2)/\(ds.find? (fun kv=>decide (kv.1=k))=none->lU xs k=none)) ⟨fun _ h=>(by cases h),fun _=>rfl⟩ fun k' x d xs ds a _ ih=>by
  by_cases e:k'=k
  ·rw[List.find?_cons_of_pos (by simpa using e),oC e]
   exact⟨fun kv h=>by cases h;exact⟨x,rfl,a⟩,fun h=>by cases h⟩
  ·rw[List.find?_cons_of_neg (by simpa using e),oE e]
   exact ih
theorem RepT.val{K:W.Frag}{M:Addr->Prop}{H:Hp}{k:List cL}{xs:List (List cL×V)}{ds:List (List cL×Dv)}(r:RepT K M H xs ds):(∀kv,ds.find? (fun kv=>decide (kv.1=k))=some kv -> ∃x,lU xs k=some x/\Rep K M H x kv.2)/\(ds.find? (fun kv=>decide (kv.1=k))=none->lU xs k=none):=
 r.ind (P:=fun xs ds=>(∀kv,ds.find? (fun kv=>decide (kv.1=k))=some kv -> ∃x,lU xs k=some x/\Rep K M H x kv.2)/\(ds.find? (fun kv=>decide (kv.1=k))=none->lU xs k=none)) ⟨fun _ h=>(by cases h),fun _=>rfl⟩ fun k' x d xs ds a _ ih=>by
  by_cases e:k'=k
  ·rw[List.find?_cons_of_pos (by simpa using e),oC e]
   exact⟨fun kv h=>by cases h;exact⟨x,rfl,a⟩,fun h=>by cases h⟩
  ·rw[List.find?_cons_of_neg (by simpa using e),oE e]
   exact ih
theorem Reps.keys{K:W.Frag}{M:Addr->Prop}{H:Hp}:∀{xs:List V} {k:List cL},Reps K M H xs (k.map kD)->xs=k.map kV
 |_,[],.nil=>rfl
 |_,.inl i::r,.cons a t=>by cases a;rw[Reps.keys t];rfl
 |_,.inr x::r,.cons a t=>by cases a;rw[Reps.keys t];rfl
def RN:R2:=fun x y H Q=>∃a v,x=.ref a/\u7 H a y (some v)/\Q v H
theorem L7(hu:X.A.units+1<cLine):JZ X RN:=by
 intro value slice pj s σ H x y v u Q I rx ry h hs
 obtain⟨a,z,rfl,g,q⟩:=h
 cases rx
 have hT:=CG I g
 unfold subscriptTail
 refine wpAny_bind ?_
 rw[getitemInPython_of_ne hT.not_modules]
 refine wpAny_bind (wpAny_specialOf hT PySem.F.slot_dict_getitem.lookup ?_)
 have fin:wpAny (model X.prog X.w) X.A (subscripted slice false (.ref a) u) (fun r s₃=>wpAny (model X.prog X.w) X.A (letTemporaryGo value (.ref a) r >>= fun _=>pure r) (EP X pj σ Q) X.xe s₃) X.xe s:=by
  rw[hs]
  exact wpAny_operating (wpAny_mono (G7 hu I g ry fun w' s' I' rw'=>show EP X pj σ Q w' s' from⟨z,H,I',rw',q⟩) (fun r s₃ h₃=>wpAny_bind (wpAny_letTemporaryGo (wpAny_pure h₃))) fun _ _ x=>x)
 first
  |exact wpAny_pure (wpAny_bind fin)
  |exact wpAny_bind (wpAny_pure (wpAny_bind fin))
  |exact wpAny_bind fin
theorem BX:∀dx dy (Q Q':R->Prop),(∀r,Q r->Q' r)->cX dx dy Q->cX dx dy Q':=by
 intro dx dy Q Q' w h
 unfold cX at *
 split at h
 ·split at h
  ·exact w _ h
  ·exact h
 ·split at h
  ·exact w _ h
  ·exact h
 ·split at h
  ·exact w _ h
  ·exact h
 ·refine⟨h.1,?_⟩
  have h2:=h.2
  split at h2
  ·exact w _ h2
  ·exact h2
 ·split at h
  ·exact w _ h
  ·exact h
 ·split at h
  ·exact w _ h
  ·exact h
 ·obtain⟨k,e,h⟩:=h
  refine⟨k,e,?_⟩
  split at h
  ·exact w _ h
  ·exact h
 ·exact h
theorem cJ(hu:X.A.units+1<cLine)(ha:QE X a ta)(hb:QE X b tb)(hs:Ef b:=by intro _ _;rfl):QE X (.Subscript a b pos) (aT cX ta tb):=by
 refine⟨sX ha hb BX,fun HZ F=>dU (Oy (Nd.or (L7 hu)) (ha.run HZ F) (hb.run HZ F) hs) (vE ha hb (fun M O H x y dx dy Q cx cy h=>?_) BX HZ F)⟩
 unfold cX at h
 split at h
 ·rename_i xs i
  split at h
  ·rename_i d hd
   obtain⟨p,vs,rfl,ea,ra⟩:=cx.lst
   obtain rfl:=cy.int
   obtain⟨z,hz,rz⟩:=ra.at hd
   exact .inl (.inl ⟨p,vs,i,z,rfl,rfl,gM.of ea,hz,h _ H (aW.refl _) rz⟩)
  ·exact h.elim
 ·rename_i xs i
  split at h
  ·rename_i d hd
   obtain⟨p,vs,rfl,ea,ra⟩:=cx.tup
   obtain rfl:=cy.int
   obtain⟨z,hz,rz⟩:=ra.at hd
   exact .inl (.inr (.inl ⟨p,vs,i,z,rfl,rfl,mY.of ea,hz,h _ H (aW.refl _) rz⟩))
  ·exact h.elim
 ·rename_i ns i
  split at h
  ·rename_i n hn
   obtain⟨p,rfl,ea⟩:=cx.scr
   obtain rfl:=cy.int
   refine .inl (.inl ⟨p,_,i,.int n,rfl,rfl,ea.sq,?_,h _ H (aW.refl _) (Rep.int _)⟩)
   rw[LV,hn]
   rfl
  ·exact h.elim
 ·rename_i z i
  obtain⟨hl,h⟩:=h
  split at h
  ·rename_i c hc
   obtain rfl:=cx.str
   obtain rfl:=cy.int
   exact .inl (.inr (.inr ⟨z,i,c,rfl,rfl,jN hl,hc,h _ H (aW.refl _) (Rep.str _)⟩))
  ·exact h.elim
 ·split at h
  ·rename_i kv hk
   obtain⟨p,kvs,rfl,ea,ra⟩:=cx.dik
   obtain rfl:=cy.int
   obtain⟨z,hz,rz⟩:=ra.val.1 kv hk
   exact .inr ⟨p,z,rfl,by rw[<- hz];exact u7.k (k:=Sum.inl _) ea,h _ H (aW.refl _) rz⟩
  ·exact h.elim
 ·split at h
  ·rename_i kv hk
   obtain⟨p,kvs,rfl,ea,ra⟩:=cx.dik
   obtain rfl:=cy.str
   obtain⟨z,hz,rz⟩:=ra.val.1 kv hk
   exact .inr ⟨p,z,rfl,by rw[<- hz];exact u7.k (k:=Sum.inr _) ea,h _ H (aW.refl _) rz⟩
  ·exact h.elim
 ·obtain⟨k,rfl,h⟩:=h
  split at h
  ·rename_i kv hk
   obtain⟨p,ep,kvs,rfl,ea,ra⟩:=cx.dit
   obtain⟨b,ys,rfl,eb,rb⟩:=cy.tup
   obtain rfl:=rb.keys
   obtain⟨z,hz,rz⟩:=ra.val.1 kv hk
   exact .inr ⟨p,z,rfl,by rw[<- hz];exact u7.t ea eb,h _ H (aW.refl _) rz⟩
  ·exact h.elim
 ·exact h.elim
abbrev QP:=List Sl->(Option Int->Prop)->Prop
structure QO(X:Cx)(e:Option Expr)(t:QP):Prop where
 mono:∀(ρ:List Sl) (Q Q':Option Int->Prop),(∀r,Q r->Q' r)->t ρ Q->t ρ Q'
 run:∀(HZ:Hp) (F:Addr->Prop),PO X e (fun σ H Q=>∃ρ,Fr X.K HZ F σ H ρ/\t ρ fun o=>∀H',aW H H'->Q o H')
def gG:QP:=fun _ Q=>Q none
def mS(te:eT):QP:=fun ρ Q=>te ρ fun r=>match r.d with
 | .int i=>Q (some i)
 |_=>False
theorem JT{e:Option Expr}{t t':TO}(h:PO X e t)(w:∀σ H Q,t' σ H Q->t σ H Q):PO X e t':=fun pj s σ H Q I q=>h pj s σ H Q I (w σ H Q q)
theorem nJ:QO X none gG:=⟨fun _ _ _ w q=>w _ q,fun HZ F=>JT KB fun σ H Q ⟨ρ,fr,q⟩=>q H (aW.refl _)⟩
theorem nI(h:QE X e te):QO X (some e) (mS te):=by
 refine⟨fun ρ Q Q' w q=>h.mono _ _ _ (fun r q=>?_) q,fun HZ F=>JT (KA (h.run HZ F)) fun σ H Q ⟨ρ,fr,q⟩=>?_⟩
 ·split at q
  ·exact w _ q
  ·exact q
 ·refine h.step fr q fun r x H1 q S1 r1=>?_
  split at q
  ·rename_i i e
   have c:=r1.c
   rw[e] at c
   exact⟨i,c.int,q H1 S1⟩
  ·exact q.elim
def cut{α:Type}(xs:List α)(lo hi:Option Int):List α:=(xs.drop (HT.iE xs.length 0 lo)).take (HT.iE xs.length xs.length hi-HT.iE xs.length 0 lo)
def Lm:Dv->Option Int->Option Int->(R->Prop)->Prop
 | .lst xs,lo,hi,Q=>Q (.nw (.lst (cut xs lo hi)))
 | .scr ns,lo,hi,Q=>Q (.nw (.lst ((cut ns lo hi).map .int)))
 | .tup xs,lo,hi,Q=>¬(HT.iE xs.length 0 lo=0/\HT.iE xs.length xs.length hi=xs.length)/\Q (.v (.tup (cut xs lo hi)))
 |_,_,_,_=>False
def Fz(te:eT)(tl th:QP):eT:=fun ρ Q=>te ρ fun r=>tl ρ fun lo=>th ρ fun hi=>Lm r.d lo hi Q
theorem HR:∀d lo hi (Q Q':R->Prop),(∀r,Q r->Q' r)->Lm d lo hi Q->Lm d lo hi Q':=by
 intro d lo hi Q Q' w h
 unfold Lm at *
 split at h<;>first | exact w _ h | exact⟨h.1,w _ h.2⟩ | exact h
theorem Reps.cut{K:W.Frag}{M:Addr->Prop}{H:Hp}{xs:List V}{ds:List Dv}(r:Reps K M H xs ds)(lo hi:Option Int):Reps K M H (CI xs lo hi) (Z.cut ds lo hi):=by
 unfold CI Z.cut
 rw[r.length]
 exact(r.drop _).take _
theorem nK{lo hi:Option Expr}{tl th:QP}{p2:Pos}(he:QE X e te)(hl:QO X lo tl)(hh:QO X hi th):QE X (.Subscript e (.Slice lo hi none p2) pos) (Fz te tl th):=by
 refine⟨fun ρ Q Q' w q=>he.mono _ _ _ (fun r q=>hl.mono _ _ _ (fun l q=>hh.mono _ _ _ (fun u q=>HR _ _ _ _ _ w q) q) q) q,fun HZ F=>dU (HD (Jj.or MW) (he.run HZ F) (hl.run HZ F) (hh.run HZ F)) fun σ H Q ⟨ρ,fr,q⟩=>?_⟩
 refine he.step fr q fun r x H1 q S1 r1=>?_
 refine⟨ρ,fr.mono S1,hl.mono _ _ _ (fun l q H2 S2=>?_) q⟩
 refine⟨ρ,(fr.mono S1).mono S2,hh.mono _ _ _ (fun u q H3 S3=>?_) q⟩
 have S13:=(S1.trans S2).trans S3
 have c:=(r1.mono (S2.trans S3)).c
 generalize r.d=d at q c
 unfold Lm at q
 split at q
 ·obtain⟨a,xs,rfl,ea,ra⟩:=c.lst
  exact .inl ⟨a,xs,rfl,gM.of ea,fun p hp=>q _ _ (S13.trans (aW.new' hp)) ((lC hp (ra.cut _ _)).ahead S13)⟩
 ·obtain⟨a,rfl,ea⟩:=c.scr
  refine .inl ⟨a,_,rfl,ea.sq,fun p hp=>q _ _ (S13.trans (aW.new' hp)) (eU.ahead (lC hp ?_) S13)⟩
  have:∀(ns:List Int) l u,(Z.cut ns l u).map Dv.int=Z.cut (ns.map Dv.int) l u:=fun ns l u=>by
   unfold Z.cut
   simp[map_take,List.map_drop]
  rw[this]
  exact(Reps.ints _).cut _ _
 ·obtain⟨a,xs,rfl,ea,ra⟩:=c.tup
  exact .inr ⟨a,xs,rfl,mY.of ea,by rw[ra.length];exact q.1,fun p hp=>q.2 _ _ (S13.trans (aW.new' hp)) (eU.ahead (GM hp (ra.cut _ _)) S13)⟩
 ·exact q.elim
end
section
variable {X:Cx} {a b c e:Expr} {ta tb tc te:eT} {pos:Pos}
theorem Dj{op op':CmpOp}{f f':Int->Int->Bool}(ho:n0 X (compareOp op) (Df fun i j=>.bl (f i j)))(ho':n0 X (compareOp op') (Df fun i j=>.bl (f' i j)))(ha:QE X a ta)(hb:QE X b tb)(hc:QE X c tc)
  (hm:lastMarks [op,op'] [b,c]=false:=by with_unfolding_all rfl):QE X (.Compare a [op,op'] [b,c] pos) (nZ (zS f) (zS f') ta tb tc):=by
 refine⟨fun ρ Q Q' w q=>ha.mono _ _ _ (fun rx q=>hb.mono _ _ _ (fun ry q=>wE _ _ _ _ (fun z q=>?_) q) q) q,fun HZ F=>dU (HI ho ho' (ha.run HZ F) (hb.run HZ F) (hc.run HZ F) hm) fun σ H Q ⟨ρ,fr,q⟩=>?_⟩
 ·split at q
  ·split at q
   ·rw[if_pos ‹_›];exact hc.mono _ _ _ (fun w' q=>wE _ _ _ _ w q) q
   ·rw[if_neg ‹_›];exact w _ q
  ·exact q
 ·refine ha.step fr q fun rx x H1 q1 S1 r1=>?_
  refine hb.step (fr.mono S1) q1 fun ry y H2 q2 S2 r2=>?_
  have cx:=(r1.mono S2).c
  have cy:=r2.c
  generalize rx.d=dx at q2 cx
  generalize ry.d=dy at q2 cy
  unfold zS at q2
  split at q2
  ·rename_i Q2 i j
   obtain rfl:=cx.int
   obtain rfl:=cy.int
   refine⟨_,_,rfl,rfl,f i j,rfl,?_⟩
   have S12:=S1.trans S2
   replace q2:=(show (if f i j=true then tc ρ (fun w=>zS f' (.int j) w.d (fun r=>∀x H',aW H H'->eU X.K (MM F ρ) (Z.Am ρ) H x r H'->Q x H')) else (∀x H',aW H H'->eU X.K (MM F ρ) (Z.Am ρ) H x (.v (.bl false)) H'->Q x H')) from q2)
   cases h:f i j with
   |true=>
    rw[h] at q2
    simp only[if_true] at q2
    refine tR (hc.step ((fr.mono S1).mono S2) q2 fun rw' z H3 q3 S3 r3=>?_)
    have cz:=r3.c
    generalize rw'.d=dz at q3 cz
    cases dz with
    |int l=>
     obtain rfl:=cz.int
     exact⟨_,_,rfl,rfl,q3 _ H3 (S12.trans S3) (Rep.bl _)⟩
    |_=>exact(show False from q3).elim
   |false=>
    rw[h] at q2
    simp only[Bool.false_eq_true,if_false] at q2
    exact nX (q2 _ H2 S12 (Rep.bl _))
  ·exact q2.elim
def pY:Dv->Option Bool
 | .non=>some false
 | .bl b=>some b
 | .int i=>some (i != 0)
 | .lst xs=>some (!xs.isEmpty)
 | .tup xs=>some (!xs.isEmpty)
 | .dik xs=>some (!xs.isEmpty)
 | .scr xs=>some (!xs.isEmpty)
 |_=>none
def iO(te:eT):oA:=fun ρ Q=>te ρ fun r=>match pY r.d with
 |some k=>Q k
 |none=>False
theorem Reps.empty{K:W.Frag}{M:Addr->Prop}{H:Hp}{xs:List V}{ds:List Dv}(r:Reps K M H xs ds):xs.isEmpty=ds.isEmpty:=by cases r<;>rfl
theorem fG(h:QE X e te)(he:∀whole,isTrue e X.env whole=(do let v <- whole;standAt e.pos;holding [v] (truthy v)):=by intro _;rfl):QT X e (iO te):=by
 refine⟨fun ρ Q Q' w q=>h.mono _ _ _ (fun r q=>?_) q,fun HZ F=>Af (Gv (h.run HZ F) he) fun σ H Q ⟨ρ,fr,q⟩=>?_⟩
 ·split at q
  ·exact w _ q
  ·exact q
 ·refine h.step fr q fun r x H1 q S1 r1=>?_
  have cx:=r1.c
  generalize r.d=d at q cx
  split at q
  ·rename_i k hk
   refine⟨k,?_,q H1 S1⟩
   cases d with
   |non=>obtain rfl:=cx.non;simp only[pY,Option.some.injEq] at hk;subst hk;rfl
   |bl b=>obtain rfl:=cx.bl;simp only[pY,Option.some.injEq] at hk;exact hk.symm
   |int i=>obtain rfl:=cx.int;simp only[pY,Option.some.injEq] at hk;exact hk.symm
   |lst ds=>
    obtain⟨a,xs,rfl,ea,ra⟩:=cx.lst
    simp only[pY,Option.some.injEq] at hk
    exact .inl ⟨xs,gM.of ea,by rw[ra.empty];exact hk.symm⟩
   |tup ds=>
    obtain⟨a,xs,rfl,ea,ra⟩:=cx.tup
    simp only[pY,Option.some.injEq] at hk
    exact .inr (.inl ⟨xs,mY.of ea,by rw[ra.empty];exact hk.symm⟩)
   |dik ds=>
    obtain⟨a,xs,rfl,ea,ra⟩:=cx.dik
    simp only[pY,Option.some.injEq] at hk
    exact .inr (.inr ⟨xs,ea,by rw[<- hk];cases ra<;>rfl⟩)
   |scr ns=>
    obtain⟨a,rfl,ea⟩:=cx.scr
    simp only[pY,Option.some.injEq] at hk
    exact .inl ⟨_,ea.sq,by rw[<- hk];cases ns<;>rfl⟩
   |_=>simp[pY] at hk
  ·exact q.elim
end
abbrev Fn:=List Dv->(R->Prop)->Prop
inductive low(K:W.Frag)(sp:Fn)(vs:List V)(H:Hp)(Q:VK)(E:XK):Prop
 |mk (F:Addr->Prop) (ds:List Dv) (hF:OldF K F H) (r:Reps K F H vs ds) (q:sp ds (fun r=>∀x H',aW H H'->eU K F CU H x r H'->Q x H'))
structure MonoF(sp:Fn):Prop where
 mo:∀ds (Q Q':R->Prop),(∀r,Q r->Q' r)->sp ds Q->sp ds Q'
structure Def(P:Program)(w:World)(K:W.Frag)(mg:Str->Option Value)(base:Heap)(k:Nat)(x:Str)(ps:List Str)(sp:Sp):Prop where
 ex:∃f fd,mg x=some (.ref f)/\W.keepIn K (.ref f)=true/\lH K fd ps []/\FnOk P w K mg base DX k f fd ps sp
structure At(K:W.Frag)(mg:Str->Option Value)(x nm:Str)(st:Stmt)(ps:List Str):Prop where
 ex:∃f fd,mg x=some (.ref f)/\Fun K nm nm st f fd/\lH K fd ps []
structure MDef(P:Program)(w:World)(K:W.Frag)(mg:Str->Option Value)(base:Heap)(k:Nat)(C:Addr)(m:Str)(ps:List Str)(sp:Sp):Prop where
 ex:∃f fd,Meth K C m f/\lH K fd ps []/\FnOk P w K mg base DX k f fd ps sp
structure MAt(K:W.Frag)(C:Addr)(m qual:Str)(st:Stmt)(ps:List Str):Prop where
 ex:∃f fd,Meth K C m f/\Fun K m qual st f fd/\lH K fd ps []
theorem At.ok{P:Program}{w:World}{K:W.Frag}{mg:Str->Option Value}{base:Heap}{k:Nat}{x nm:Str}{st:Stmt}{ps N:List Str}{sp:Sp}(a:At K mg x nm st ps)(S:FnScope N ps (aH st))(len:∀vs H Q E,sp vs H Q E->vs.length=ps.length)
  (hbody:∀(f:Addr) (cdv:Value) (A:Around) (outer:List Env) (s:Shared) (H:Hp) (vs:List V) (Q:VK) (E:XK),Room k (A.deeper (envOfC nm (aH st) s.heap.objs.size f cdv))->sp vs H Q E ->
   ∃t,Ah (wY DX P w K mg base N nm (aH st) f cdv A outer s H E).nox (aX st) t/\t { nx:=fun _ H'=>Q .non H',rt:=Q } (start N vs) H):Def P w K mg base (k+1) x ps sp:=by
 obtain⟨f,fd,hm,F,hb⟩:=a.ex
 exact⟨f,fd,hm,F.kp,hb,F.ok S len (hbody f)⟩
theorem MAt.ok{P:Program}{w:World}{K:W.Frag}{mg:Str->Option Value}{base:Heap}{k:Nat}{C:Addr}{m qual:Str}{st:Stmt}{ps N:List Str}{sp:Sp}(a:MAt K C m qual st ps)(S:FnScope N ps (aH st))(len:∀vs H Q E,sp vs H Q E->vs.length=ps.length)
  (hbody:∀(f:Addr) (cdv:Value) (A:Around) (outer:List Env) (s:Shared) (H:Hp) (vs:List V) (Q:VK) (E:XK),Room k (A.deeper (envOfC qual (aH st) s.heap.objs.size f cdv))->sp vs H Q E ->
   ∃t,Ah (wY DX P w K mg base N qual (aH st) f cdv A outer s H E).nox (aX st) t/\t { nx:=fun _ H'=>Q .non H',rt:=Q } (start N vs) H):MDef P w K mg base (k+1) C m ps sp:=by
 obtain⟨f,fd,hm,F,hb⟩:=a.ex
 exact⟨f,fd,hm,hb,F.ok S len (hbody f)⟩
def aN(N:List Str)(ds:List Dv):List Sl:=ds.map .v++List.replicate (N.length-ds.length) .un
theorem Gf{K:W.Frag}{F:Addr->Prop}{H:Hp}{N:List Str}{vs:List V}{ds:List Dv}(hF:OldF K F H)(r:Reps K F H vs ds):Fr K H F (start N vs) H (aN N ds):=by
 have no:∀{a:Addr} {d:Dv},Sl.own a d∈aN N ds->False:=fun {a d} h=>by
  rcases mem_append.mp h with h | h
  ·obtain⟨z,_,e⟩:=mem_map.mp h
   cases e
  ·cases eq_of_mem_replicate h
 have wk:∀a,MM F (aN N ds) a->F a:=fun a h=>by
  rcases h with h | ⟨d,h⟩
  ·exact h
  ·exact(no h).elim
 have hl:=r.length
 refine⟨by simp[L2.start,aN,hl],fun i s e=>?_,fun i j a d d' e _=>(no (mem_of_getElem? e)).elim,fun a d h=>(no h).elim,aW.refl _,hF⟩
 unfold aN at e
 by_cases hi:i<ds.length
 ·rw[List.getElem?_append_left (by simpa using hi),List.getElem?_map] at e
  cases q:ds[i]? with
  |none=>rw[q] at e;cases e
  |some d=>
   rw[q] at e
   cases e
   obtain⟨x,hx,rx⟩:=r.get q
   refine⟨x,?_,rx.weak wk⟩
   unfold L2.start
   rw[List.getElem?_append_left (by simpa using(List.getElem?_eq_some_iff.mp hx).1),List.getElem?_map,hx]
   rfl
 ·rw[List.getElem?_append_right (by simpa using le_of_not_lt hi)] at e
  have:=mem_of_getElem? e
  cases eq_of_mem_replicate this
  trivial
theorem Ab{X:Cx}{sts:List Stmt}{t:cO}{N:List Str}{H:Hp}{vs:List V}{Q:VK}{E:XK}{sp:Fn}(h:QSs X sts t)(hsp:∀ds Q,sp ds Q->t ↥Q (aN N ds))(q:low X.K sp vs H Q E):
  ∃t',Ah X sts t'/\t' { nx:=fun _ H'=>Q .non H',rt:=Q } (start N vs) H:=by
 obtain⟨F,ds,hF,r,q⟩:=q
 exact⟨_,h.run H F,aN N ds,_,Gf hF r,hsp ds _ q,fun ρ σ H' fr q=>q .non H' fr.same Rep.non,fun _ _ _ _ z=>z.elim,fun _ _ _ _ z=>z.elim,fun rr x H' S rx q=>q x H' S rx⟩
theorem A4{K:W.Frag}{sp:Fn}{n:Nat}(h:∀ds Q,sp ds Q->ds.length=n):∀vs H Q E,low K sp vs H Q E->vs.length=n:=fun vs H Q E ⟨F,ds,_,r,q⟩=>by rw[r.length];exact h _ _ q
theorem At.okP{P:Program}{w:World}{K:W.Frag}{mg:Str->Option Value}{base:Heap}{k:Nat}{x nm:Str}{st:Stmt}{ps N:List Str}{sp:Fn}{t:cO}(a:At K mg x nm st ps)(S:FnScope N ps (aH st))
  (hq:∀(f:Addr) (cdv:Value) (A:Around) (outer:List Env) (s:Shared) (H:Hp) (E:XK),Room k (A.deeper (envOfC nm (aH st) s.heap.objs.size f cdv))->QSs (wY DX P w K mg base N nm (aH st) f cdv A outer s H E).nox (aX st) t)
  (len:∀ds Q,sp ds Q->ds.length=ps.length) (hsp:∀ds Q,sp ds Q->t ↥Q (aN N ds)):Def P w K mg base (k+1) x ps (low K sp):=
 a.ok S (A4 len) fun f cdv A outer s H vs Q E hr q=>Ab (hq f cdv A outer s H E hr) hsp q
theorem MAt.okP{P:Program}{w:World}{K:W.Frag}{mg:Str->Option Value}{base:Heap}{k:Nat}{C:Addr}{m qual:Str}{st:Stmt}{ps N:List Str}{sp:Fn}{t:cO}(a:MAt K C m qual st ps)(S:FnScope N ps (aH st))
  (hq:∀(f:Addr) (cdv:Value) (A:Around) (outer:List Env) (s:Shared) (H:Hp) (E:XK),Room k (A.deeper (envOfC qual (aH st) s.heap.objs.size f cdv))->QSs (wY DX P w K mg base N qual (aH st) f cdv A outer s H E).nox (aX st) t)
  (len:∀ds Q,sp ds Q->ds.length=ps.length) (hsp:∀ds Q,sp ds Q->t ↥Q (aN N ds)):MDef P w K mg base (k+1) C m ps (low K sp):=
 a.ok S (A4 len) fun f cdv A outer s H vs Q E hr q=>Ab (hq f cdv A outer s H E hr) hsp q
def R.flat:R->Bool
 | .v d=>kF d
 | .nw d=>C0 d
 | .ow _ _=>false
def back(rs:List R)(Q:R->Prop):R->Prop:=fun r=>(rs.all R.free=true \/ r.flat=true)/\Q r
def aS(sp:Fn)(ts:qJ):eT:=fun ρ Q=>ts ρ fun rs=>sp (rs.map R.d) (back rs Q)
section
variable {K:W.Frag} {HZ H H1:Hp} {F:Addr->Prop} {σ:St} {ρ:List Sl}
def lent(M:Addr->Prop)(rs:List R):Addr->Prop:=fun a=>M a /\ ∀d,R.ow a d ∉ rs
theorem tP(fr:Fr K HZ F σ H ρ){all:List R}:∀{xs:List V} {rs:List R},(∀r∈rs,r∈all)->Paired (fun x r=>eU K (MM F ρ) (Z.Am ρ) H x r H1) xs rs->Reps K (lent (MM F ρ) all) H1 xs (rs.map R.d)
 |_,_,_,.nil=>.nil
 |_,r::_,hs,.cons a t=>by
  refine .cons ?_ (tP fr (fun r hr=>hs r (by simp[hr])) t)
  have wk:∀a,lent (MM F ρ) all a->MM F ρ a:=fun a z=>z.1
  cases r with
  |v d=>exact Rep.weak wk a
  |nw d=>exact(eU.rep a (fun a m=>fr.dom m) rfl).weak wk
  |ow b d=>
   obtain⟨rfl,_,o⟩:=a
   exact(o.weak wk).rep fun z=>z.2 d (hs _ (by simp))
theorem JR{rs:List R}(h:rs.all R.free=true)(a:Addr)(d:Dv):R.ow a d ∉ rs:=fun z=>by
 have:=all_eq_true.mp h _ z
 simp[R.free] at this
theorem yP{rs:List R}{x:V}{r:R}{H':Hp}{O:Addr->Dv->Prop}(fr:Fr K HZ F σ H ρ)(S1:aW H H1)(h:eU K (lent (MM F ρ) rs) CU H1 x r H')(f:rs.all R.free=true \/ r.flat=true):eU K (MM F ρ) O H x r H':=by
 rcases f with f | f
 ·have wk:∀a,MM F ρ a->lent (MM F ρ) rs a:=fun a z=>⟨z,fun d=>JR f a d⟩
  cases r with
  |v d=>exact Rep.weak wk h
  |ow a d=>exact h.2.1.elim
  |nw d=>
   obtain⟨a,e,n,o⟩:=h
   exact⟨a,e,S1.free n,o.weak fun b z=>z.elim (fun z=>.inl (wk b z)) .inr⟩
 ·cases r with
  |v d=>exact Rep.flat f h
  |ow a d=>exact h.2.1.elim
  |nw d=>
   obtain⟨a,e,n,o⟩:=h
   exact⟨a,e,S1.free n,o.flat f⟩
end
section
variable {X:Cx} {k:Nat} {x:Str} {ps:List Str} {sp:Fn} {e o:Expr} {es:List Expr} {ts:qJ} {to:eT} {p pos apos:Pos} {C:Addr} {m:Str}
theorem x9{rs:List R}{xs:List V}{HZ H H1:Hp}{F:Addr->Prop}{σ:St}{ρ:List Sl}{Q:VK}{E:XK}{Q':R->Prop}(mo:MonoF sp)(fr:Fr X.K HZ F σ H ρ)(S1:aW H H1)(r1:o8 X.K (MM F ρ) (Z.Am ρ) H xs rs H1)(q:sp (rs.map R.d) (back rs Q'))
  (w:∀r,Q' r -> ∀x H',aW H H'->eU X.K (MM F ρ) (Z.Am ρ) H x r H'->Q x H'):low X.K sp xs H1 Q E:=by
 refine⟨lent (MM F ρ) rs,_,⟨fun a z=>(fr.mono S1).dom z.1,(fr.mono S1).tab⟩,tP fr (fun _ h=>h) r1,mo.mo _ _ _ (fun r q x H' S rx=>?_) q⟩
 exact w r q.2 x H' (S1.trans S) (yP fr S1 rx q.1)
theorem pU{rs:List R}{Q Q':R->Prop}(w:∀r,Q r->Q' r):∀r,back rs Q r->back rs Q' r:=fun r h=>⟨h.1,w r h.2⟩
theorem aZ(d:Def X.prog X.w X.K X.mg X.base k x ps (low X.K sp))(mo:MonoF sp)(hr:Room k X.A)(ha:QA X (e::es) ts)(hg:Gl X x:=by rfl)
  (hdb:(x==("__debug__" : Str))=false:=by decide) (he:starEach (e::es) X.env=(false,eval e X.env)::starEach es X.env:=by rfl) (hpl:(backTo pos (starEach es X.env)).any (·.1)=false:=by rfl):
  QE X (.Call (.Name x p) (e::es) [] pos) (aS sp ts):=by
 obtain⟨f,fd,hm,hk,hb,FO⟩:=d.ex
 refine⟨fun ρ Q Q' w q=>ha.mono _ _ _ (fun rs q=>mo.mo _ _ _ (pU w) q) q,fun HZ F=>dU (KK FO hr hg hm hk hb .nil Dm (ha.run HZ F) hdb he hpl) fun σ H Q ⟨ρ,fr,h⟩=>?_⟩
 refine ha.step fr h fun rs xs H1 q S1 r1=>?_
 rw[append_nil]
 exact x9 mo fr S1 r1 q fun r z=>z
def g7(C:Addr)(m:Str)(sp:Fn)(to:eT)(ts:qJ):eT:=fun ρ Q=>to ρ fun ro=>match ro.d with
 | .obj C' fs=>(C'=C/\fs.lookup m=none)/\ts ρ fun rs=>sp (ro.d::rs.map R.d) (back (ro::rs) Q)
 |_=>False
theorem RepF.lookup{K:W.Frag}{M:Addr->Prop}{H:Hp}{f:Str}{xs:List (Str×V)}{ds:List (Str×Dv)}(r:RepF K M H xs ds):(ds.lookup f=none->xs.lookup f=none) /\ ∀d,ds.lookup f=some d -> ∃x,xs.lookup f=some x/\Rep K M H x d:=
 r.ind (P:=fun xs ds=>(ds.lookup f=none->xs.lookup f=none) /\ ∀d,ds.lookup f=some d -> ∃x,xs.lookup f=some x/\Rep K M H x d) ⟨fun _=>rfl,fun d h=>by cases h⟩ fun k x d xs ds a _ ih=>by
  rw[lookup_cons,lookup_cons]
  cases h:f==k with
  |true=>
   refine⟨fun z=>?_,fun d' z=>?_⟩
   ·cases z
   ·cases z;exact⟨x,rfl,a⟩
  |false=>exact ih
theorem jX(c:Cls X.K C)(d:MDef X.prog X.w X.K X.mg X.base k C m ps (low X.K sp))(mo:MonoF sp)(hr:Room k X.A)(ho:QE X o to)(ha:QA X (e::es) ts){pl:Sem Bool}
  (hst:starEach (e::es) X.env=(false,eval e X.env)::starEach es X.env:=by rfl) (hpl:(backTo pos (starEach es X.env)).any (·.1)=false:=by rfl)
  (ht:eval (.Call (.Attribute o m apos) (e::es) [] pos) X.env=(do
   let ov <- eval o X.env
   standAt apos.atName
   let (f,first) <- holding [ov] (getMethod ov m pl)
   callWith pos f first (backTo pos (starEach (e::es) X.env)) (backToKw pos (keywordEach [] X.env))):=by rfl):
  QE X (.Call (.Attribute o m apos) (e::es) [] pos) (g7 C m sp to ts):=by
 obtain⟨f,fd,hm,hb,FO⟩:=d.ex
 refine⟨fun ρ Q Q' w q=>ho.mono _ _ _ (fun ro q=>?_) q,fun HZ F=>dU (KG (pl:=pl) (ho.run HZ F) c hm FO hr hb .nil Dm (ha.run HZ F) hst hpl ht) fun σ H Q ⟨ρ,fr,h⟩=>?_⟩
 ·split at q
  ·exact⟨q.1,ha.mono _ _ _ (fun rs q=>mo.mo _ _ _ (pU w) q) q.2⟩
  ·exact q
 ·refine ho.step fr h fun ro x H1 q S1 r1=>?_
  split at q
  ·rename_i C' fs e
   obtain⟨⟨rfl,hl⟩,q⟩:=q
   have cx:=r1.c
   rw[e] at cx
   obtain⟨a,dx,fs',rfl,ea,ra⟩:=cx.obj
   refine⟨a,dx,fs',rfl,ea,ra.lookup.1 hl,ha.step (fr.mono S1) q fun rs xs H2 q S2 r2=>?_⟩
   rw[append_nil]
   exact x9 (rs:=ro::rs) (xs:=.ref a::xs) mo fr (S1.trans S2) (.cons (r1.mono S2) (r2.ahead S1)) q fun r z=>z
  ·exact q.elim
theorem nL(c:Cls X.K C)(d:MDef X.prog X.w X.K X.mg X.base k C m ps (low X.K sp))(mo:MonoF sp)(hr:Room k X.A)(ho:QE X o to){pl:Sem Bool}
  (ht:eval (.Call (.Attribute o m apos) [] [] pos) X.env=(do
   let ov <- eval o X.env
   standAt apos.atName
   let (f,first) <- holding [ov] (getMethod ov m pl)
   callWith pos f first (backTo pos (starEach [] X.env)) (backToKw pos (keywordEach [] X.env))):=by rfl):
  QE X (.Call (.Attribute o m apos) [] [] pos) (g7 C m sp to aJ):=by
 obtain⟨f,fd,hm,hb,FO⟩:=d.ex
 refine⟨fun ρ Q Q' w q=>ho.mono _ _ _ (fun ro q=>?_) q,fun HZ F=>dU (HE (pl:=pl) (ho.run HZ F) c hm FO hr hb .nil Dm ht) fun σ H Q ⟨ρ,fr,h⟩=>?_⟩
 ·split at q
  ·exact⟨q.1,mo.mo _ _ _ (pU w) q.2⟩
  ·exact q
 ·refine ho.step fr h fun ro x H1 q S1 r1=>?_
  split at q
  ·rename_i C' fs e
   obtain⟨⟨rfl,hl⟩,q⟩:=q
   have cx:=r1.c
   rw[e] at cx
   obtain⟨a,dx,fs',rfl,ea,ra⟩:=cx.obj
   refine⟨a,dx,fs',rfl,ea,ra.lookup.1 hl,?_⟩
   exact x9 (rs:=[ro]) (xs:=[.ref a]) (E:=E0) mo fr S1 (.cons r1 .nil) q fun r z=>z
  ·exact q.elim
def JE(C:Addr)(f:Str)(to:eT):eT:=fun ρ Q=>to ρ fun ro=>match ro.d with
 | .obj C' fs=>C'=C/\match fs.lookup f with
  |some d=>Q (.v d)
  |none=>False
 |_=>False
theorem Lh{f:Str}(c:Cls X.K C)(n:kB X.K C f)(ho:QE X o to)(hb:attributeBase o f X.env (eval o X.env)=eval o X.env:=by rfl):QE X (.Attribute o f pos) (JE C f to):=by
 refine⟨fun ρ Q Q' w q=>ho.mono _ _ _ (fun ro q=>?_) q,fun HZ F=>dU (Mu (ho.run HZ F) hb) fun σ H Q ⟨ρ,fr,h⟩=>?_⟩
 ·split at q
  ·refine⟨q.1,?_⟩
   have q2:=q.2
   split at q2
   ·exact w _ q2
   ·exact q2
  ·exact q
 ·refine ho.step fr h fun ro x H1 q S1 r1=>?_
  split at q
  ·rename_i C' fs e
   obtain⟨rfl,q⟩:=q
   have cx:=r1.c
   rw[e] at cx
   obtain⟨a,dx,fs',rfl,ea,ra⟩:=cx.obj
   split at q
   ·rename_i d hd
    obtain⟨z,hz,rz⟩:=ra.lookup.2 d hd
    exact⟨a,_,dx,fs',z,rfl,ea,c,n,hz,q _ H1 S1 rz⟩
   ·exact q.elim
  ·exact q.elim
end
end Z
namespace L2
section
variable {X:Cx} {tg:Expr}
def O4(lo c:Int)(n:Nat):It:=⟨fun i _=>i<n,fun i H x H'=>H'=H/\x=.int (lo+i*c),fun i _=>n<=i⟩
theorem Ar{P:Program}{w:World}{K:W.Frag}{tg:Expr}(it:Addr)(lo c:Int)(n:Nat):Turn P w K tg (O4 lo c n) [it] it (fun i h=>IsRangeIter h it (lo+(i:Nat)*c) ((n:Int)-(i:Nat)) c) where
 mem:=by simp
 obj:=fun i h st b hb=>by
  have e:b=it:=by simpa using hb
  subst e
  exact⟨_,st,fun v z=>by
   have z':Data.fields _=Data.cell v:=z
   cases z'⟩
 keep:=fun i h h' st k=>k it (by simp) _ st
 item:=by
  intro X hP hw hK hc i pj s σ H E I hf st hg
  subst hP hw hK
  obtain⟨f0,f1,f2,f3,f4,f5⟩:=hf it (by simp)
  refine wM hg st fun v h' tk hv st' kk=>?_
  obtain⟨t,rfl⟩:=hv
  have I1:Inv X pj σ H { s with heap:=h',toks:=tk }:=I.turned (fun b o hb e=>kk b o (by simpa using hb) e) f0 f1 f3 f4 f5
  exact⟨_,rfl,Bw (s:={ s with heap:=h',toks:=tk }) (n:="range_iterator") st' rfl rfl ∅ ⟨.int (lo+i*c),H,I1,⟨t,rfl⟩,⟨rfl,rfl⟩,st',fun b hb=>(hf b hb).1⟩⟩
 done:=by
  intro X hP hw hK hc i pj s σ H E I hf st hg
  subst hP hw hK
  obtain⟨f0,f1,f2,f3,f4,f5⟩:=hf it (by simp)
  exact yY I.qu st (by have:n<=i:=hg;ac_rfl) fun h' eb=>⟨rfl,I.turned (t':=s.toks) (fun b o hb e=>eb b o hb e) f0 f1 f3 f4 f5⟩
 self:=fun _ _ _ _ _ st h=>wpAny_pyIter_rangeiter st h
def Po(ta:TA):TI:=fun σ H R=>ta σ H fun vs H1=>∃i j c:Int,vs=[.int i,.int j,.int c]/\c≠0/\c.natAbs<1000/\Builtin.Range.small i j c=true/\0<=Builtin.Range.rangeSize i j c/\R (O4 i c (Builtin.Range.rangeSize i j c).toNat) H1
theorem FE{a b c:Expr}{ta:TA}{p pos:Pos}(hg:Gl X "range")(hm:X.mg "range" = none)(ha:PA X [a,b,c] ta)(hs:starEach [a,b,c] X.env=[(false,eval a X.env),(false,eval b X.env),(false,eval c X.env)]:=by rfl)
  (hs2:starEach [b,c] X.env=[(false,eval b X.env),(false,eval c X.env)]:=by rfl):PI X tg (.Call (.Name "range" p) [a,b,c] [] pos) (Po ta):=by
 intro pj s σ H R I h
 refine Call_ (p6 I hg hm boot_range (PyProof.Rows.callWith_type1 (thn (ha pos pj s σ H _ I h) fun us s1 ⟨vs,H1,I1,r1,q1⟩=>?_) (by rw[hs,hs2]) (by rw[hs2];rfl)))
 obtain⟨i,j,c,e,q0,qs,q1,q2,q⟩:=q1
 subst e
 cases r1 with
 |cons r rr=>
  cases rr with
  |cons r' rr=>
   cases rr with
   |cons r'' rr=>
    cases rr
    obtain⟨t,rfl⟩:=r
    obtain⟨t',rfl⟩:=r'
    obtain⟨t'',rfl⟩:=r''
    refine call_range_3 q0 ?_ (.inl (PyProof.noPylong_small ⋯))
    refine wpAny_pyIter_range (IsRange.new ..) q1 ?_
    have I2:Inv X pj σ H1 { s1 with heap:=s1.heap.push { cls:=.type "range",data:=.fields #[.int i t,.int j t',.int c t''] },toks:=s1.toks }:=I1.kept fun b o e=>Heap.get?_push_of_some _ e
    refine⟨_,[_],_,_,H1,rfl,I2.kept (t':=s1.toks) fun b o e=>Heap.get?_push_of_some _ e,Ar _ i c (Builtin.Range.rangeSize i j c).toNat,?_,fun b hb=>?_,q⟩
    ·show IsRangeIter _ _ (i+((0:Nat):Int)*c) ((((Builtin.Range.rangeSize i j c).toNat:Nat):Int)-((0:Nat):Int)) c
     have e1:i+((0:Nat):Int)*c=i:=by simp
     have e2:(((Builtin.Range.rangeSize i j c).toNat:Nat):Int)-((0:Nat):Int)=Builtin.Range.rangeSize i j c:=⋯
     rw[e1,e2]
     exact Heap.get?_push_size _ rfl
    ·have e:b=_:=mem_singleton.mp hb
     subst e
     exact I2.fpOk (le_refl _) (I2.hok.fresh (le_refl _))
def uG(lo:Int)(n:Nat):List V:=(List.range n).map fun(k:Nat)=>V.int (lo+(k:Int))
theorem GA:gO X (.type "range") (fun xs H Q=>∃j:Int,xs=[.int j] /\ ∀p,H p=none->Q (.ref p) (upd H p (.rng 0 j))):=by
 intro pj s σ H xs us Q I r h
 obtain⟨j,rfl,q⟩:=h
 obtain⟨u,rfl,ru⟩:=lJ r
 obtain⟨t,rfl⟩:=ru
 exact call_range_1 ⟨.ref s.heap.objs.size,_,I.laid (o:=.rng 0 j) (fun b o e=>Heap.get?_push_of_some _ e) (le_refl _) ⟨_,_,_,Heap.get?_push_size _ rfl⟩,rfl,q _ (I.hok.fresh (le_refl _))⟩
theorem xY(hc:X.calm=true):gO X (.type "list") (fun xs H Q=>∃p lo hi,xs=[.ref p]/\H p=some (.rng lo hi)/\(-(2 ^ 62)<=lo/\lo<2 ^ 62 /\ -(2 ^ 62)<=hi/\hi<2 ^ 62)/\(hi-lo).toNat<=1000000 /\ ∀l,H l=none->Q (.ref l) (upd H l (.lst (uG lo (hi-lo).toNat)))):=by
 intro pj s σ H xs us Q I r h
 obtain⟨p,lo,hi,rfl,hp,⟨b1,b2,b3,b4⟩,hn,q⟩:=h
 obtain⟨u,rfl,ru⟩:=lJ r
 cases ru
 obtain⟨t,t2,t3,e⟩:=I.hok _ _ hp
 refine call_list_range (n:=(hi-lo).toNat) (I.ok.hd hc) e (small_one b1 b2 b3 b4) (by rw[rangeSize_one];split<;>ac_rfl) ⋯ fun h' tk acc c' hk hS hacc=>?_
 refine⟨.ref s.heap.objs.size,_,I.laid (o:=.lst (uG lo (hi-lo).toNat)) hk (le_refl _) ?_,rfl,q _ (I.hok.fresh (le_refl _))⟩
 have hl:acc.size=(hi-lo).toNat:=hacc.1
 refine⟨by simp only[uG,length_map,List.length_range];rw[sizeLine_eq];ac_rfl,acc.toList,c',?_,by simpa using hS⟩
 have key:∀(n:Nat) (l:List Value),l.length=n->(∀(i:Nat) (v:Value),l[i]?=some v -> ∃t,v=Value.int (lo+(i:Int)*1) t)->bV (uG lo n) l:=by
  intro n
  induction n with
  |zero=>intro l hl _;rw[List.length_eq_zero_iff.mp hl];exact .nil
  |succ n ih=>
   intro l hl hi
   have hne:l≠[]:=by intro z;rw[z] at hl;cases hl
   have e1:l=l.dropLast++[l.getLast hne]:=(List.dropLast_concat_getLast hne).symm
   rw[e1]
   unfold uG
   rw[List.range_succ,map_append]
   have l1:l.dropLast.length=n:=by simp[hl]
   refine bV.append (ih l.dropLast l1 fun i v hv=>hi i v ?_) (.cons ?_ .nil)
   ·have hlt:i<l.dropLast.length:=(List.getElem?_eq_some_iff.mp hv).1
    rw[e1,List.getElem?_append_left hlt]
    exact hv
   ·obtain⟨t,ht⟩:=hi n (l.getLast hne) (by simp[List.getLast_eq_getElem,hl])
    rw[ht,Int.mul_one]
    exact⟨t,rfl⟩
 refine key _ _ (by simpa using hl) fun i v hv=>?_
 exact hacc.2 i v (by simpa using hv)
end
end L2
namespace Z
open L2
section
variable {X:Cx} {tg a b c e:Expr} {ta tb te:eT} {ts:qJ} {pos p p2:Pos}
def qU(lo c:Int)(n:Nat):List Dv:=(List.range n).map fun(k:Nat)=>Dv.int (lo+(k:Int)*c)
def vC(ts:qJ):CY:=fun ρ Q=>ts ρ fun rs=>match rs.map R.d with
 | [.int i,.int j,.int c]=>(c≠0/\c.natAbs<1000/\Builtin.Range.small i j c=true/\0<=Builtin.Range.rangeSize i j c)/\Q (qU i c (Builtin.Range.rangeSize i j c).toNat) []
 |_=>False
theorem Cn{lo c:Int}{n i:Nat}{d:Dv}(h:(qU lo c n)[i]?=some d):i<n/\d=.int (lo+i*c):=by
 unfold qU at h
 rw[List.getElem?_map] at h
 cases e:(List.range n)[i]? with
 |none=>rw[e] at h;cases h
 |some k=>
  rw[e] at h
  obtain⟨h1,h2⟩:=List.getElem?_eq_some_iff.mp e
  simp at h1 h2
  subst h2
  exact⟨h1,(Option.some.inj h).symm⟩
theorem Bt{K:W.Frag}{P:Hp}{M:Addr->Prop}{H1:Hp}{lo c:Int}{n:Nat}:xE K P M H1 (O4 lo c n) (qU lo c n) []:=by
 intro i H' M' S G _
 refine⟨fun d e=>?_,fun h=>(show n<=i by simpa [qU] using h)⟩
 obtain⟨h1,h2⟩:=Cn e
 subst h2
 refine⟨h1,fun y H'' ⟨e1,e2⟩=>?_⟩
 subst e1 e2
 exact⟨aW.refl _,.int _⟩
theorem Nr{K:W.Frag}{M:Addr->Prop}{H:Hp}{xs:List V}{d d' d'':Dv}(h:zC K M H xs [d,d',d'']):∃x y z,xs=[x,y,z]/\eP K M H x d/\eP K M H y d'/\eP K M H z d'':=by
 cases h with
 |cons a t=>
  obtain⟨y,z,rfl,b,c⟩:=DS t
  exact⟨_,_,_,rfl,a,b,c⟩
theorem FA(hg:Gl X "range")(hm:X.mg "range" = none)(ha:QA X [a,b,c] ts)(hs:starEach [a,b,c] X.env=[(false,eval a X.env),(false,eval b X.env),(false,eval c X.env)]:=by rfl)
  (hs2:starEach [b,c] X.env=[(false,eval b X.env),(false,eval c X.env)]:=by rfl):QI X tg (.Call (.Name "range" p) [a,b,c] [] pos) (vC ts):=by
 refine⟨fun ρ Q Q' w q=>ha.mono _ _ _ (fun r q=>?_) q,fun HZ F=>⟨_,FE hg hm (ha.run HZ F) hs hs2,fun σ H ρ R fr q=>?_⟩⟩
 ·split at q
  ·exact⟨q.1,w _ _ q.2⟩
  ·exact q
 ·refine ha.step fr q fun rs xs H1 q S1 r1=>?_
  split at q
  ·rename_i i j c e
   have cc:=r1.c
   rw[e] at cc
   obtain⟨x,y,z,rfl,cx,cy,cz⟩:=Nr cc
   obtain rfl:=cx.int
   obtain rfl:=cy.int
   obtain rfl:=cz.int
   exact⟨i,j,c,rfl,q.1.1,q.1.2.1,q.1.2.2.1,q.1.2.2.2,q.2 _ H1 S1 (by intro p hp;simp at hp) Bt⟩
  ·exact q.elim
def G0(ts:qJ):eT:=fun ρ Q=>ts ρ fun rs=>match rs.map R.d with
 | [.int j]=>(-(2 ^ 62)<=j/\j<2 ^ 62/\j.toNat<=1000000)/\Q (.nw (.lst (bF 0 j.toNat)))
 |_=>False
def Q1(ts:qJ):eT:=fun ρ Q=>ts ρ fun rs=>match rs.map R.d with
 | [.int i,.int j]=>((-(2 ^ 62)<=i/\i<2 ^ 62 /\ -(2 ^ 62)<=j/\j<2 ^ 62)/\(j-i).toNat<=1000000)/\Q (.nw (.lst (bF i (j-i).toNat)))
 |_=>False
theorem Cl{K:W.Frag}{M:Addr->Prop}{H:Hp}(lo:Int)(n:Nat):Reps K M H (uG lo n) (bF lo n):=by
 unfold uG bF
 induction (List.range n) with
 |nil=>exact .nil
 |cons k r ih=>exact .cons (.int _) ih
theorem nN{pos2:Pos}(hc:X.calm=true)(hg:Gl X "list")(hm:X.mg "list" = none)(hg2:Gl X "range")(hm2:X.mg "range" = none)(ha:QA X [a] ts)
  (h1:starEach [.Call (.Name "range" p2) [a] [] pos2] X.env=(false,eval (.Call (.Name "range" p2) [a] [] pos2) X.env)::starEach [] X.env:=by rfl) (h2:(backTo pos (starEach [] X.env)).any (·.1)=false:=by rfl)
  (h3:starEach [a] X.env=(false,eval a X.env)::starEach [] X.env:=by rfl) (h4:(backTo pos2 (starEach [] X.env)).any (·.1)=false:=by rfl):
  QE X (.Call (.Name "list" p) [.Call (.Name "range" p2) [a] [] pos2] [] pos) (G0 ts):=by
 refine⟨fun ρ Q Q' w q=>ha.mono _ _ _ (fun r q=>?_) q,fun HZ F=>dU (tM (xY hc) hg hm boot_list (pN (tM GA hg2 hm2 boot_range (ha.run HZ F) ∅ ∅ h3 h4) w4 h1) ∅ ∅ h1 h2) fun σ H Q ⟨ρ,fr,q⟩=>?_⟩
 ·split at q
  ·exact⟨q.1,w _ q.2⟩
  ·exact q
 ·refine ha.step fr q fun rs xs H1 q S1 r1=>?_
  split at q
  ·rename_i j e
   have cc:=r1.c
   rw[e] at cc
   obtain⟨x,rfl,cx⟩:=fJ cc
   obtain rfl:=cx.int
   obtain⟨⟨b1,b2,b3⟩,q⟩:=q
   refine⟨j,rfl,fun r hr=>⟨r,0,j,rfl,cT,⟨⋯,⋯,b1,b2⟩,by rw[Int.sub_zero];exact b3,fun l hl=>?_⟩⟩
   have S2:aW H (upd (upd H1 r (.rng 0 j)) l (.lst (uG 0 (j-0).toNat))):=(S1.trans (aW.new' hr)).trans (aW.new' hl)
   rw[Int.sub_zero] at S2 ⊢
   exact q _ _ S2 (eU.ahead (lC hl (Cl 0 _)) (S1.trans (aW.new' hr)))
  ·exact q.elim
def uH(ds:List Dv):List Dv:=(ds.zipIdx).map fun q=>.tup [.int (q.2:Int),q.1]
theorem Fx{ds:List Dv}{i:Nat}{d:Dv}(h:(uH ds)[i]?=some d):∃d0,ds[i]?=some d0/\d=.tup [.int i,d0]:=by
 unfold uH at h
 rw[List.getElem?_map,List.getElem?_zipIdx] at h
 cases e:ds[i]? with
 |none=>rw[e] at h;cases h
 |some d0=>
  rw[e] at h
  refine⟨d0,rfl,?_⟩
  simp at h
  exact h.symm
def AA(ts:qJ):CY:=fun ρ Q=>ts ρ fun rs=>match rs with
 | [.v (.lst ds)]=>Q (uH ds) []
 | [.nw (.lst ds)]=>Q (uH ds) []
 | [.ow a (.lst ds)]=>Q (uH ds) [(a,ds)]
 |_=>False
structure Walked(K:W.Frag)(P:Hp)(M:Addr->Prop)(H1:Hp)(a:Addr)(ds:List Dv)(ogs:List (Addr×List Dv)):Prop where
 at_:∀(H':Hp) (M':Addr->Prop),aW P H'->Gen K M M' H1 H'->(∀p∈ogs,fR K M' H' p.1 (.lst p.2)) -> ∃xs,H' a=some (.lst xs)/\Reps K M' H' xs ds
def qG:R->List (Addr×List Dv)
 | .ow a (.lst ds)=>[(a,ds)]
 |_=>[]
theorem walked{K:W.Frag}{HZ H H1:Hp}{F:Addr->Prop}{σ:St}{ρ:List Sl}{x:V}{r:R}{ds:List Dv}(fr:Fr K HZ F σ H ρ)(S1:aW H H1)(r1:eU K (MM F ρ) (Z.Am ρ) H x r H1)(hd:r.d=.lst ds):
  ∃a xs,x=.ref a/\H1 a=some (.lst xs)/\guard (qG r) ρ/\Walked K (prot H1 ρ) (MM F ρ) H1 a ds (qG r):=by
 cases r with
 |v d=>
  have e:d=.lst ds:=hd
  subst e
  cases r1 with
  |lst e m rs=>
   refine⟨_,_,rfl,e,by intro p hp;simp[qG] at hp,⟨fun H' M' S G _=>⟨_,S _ _ (by rw[cY fun c=>m (.inr c)];exact e),rs.gen G⟩⟩⟩
 |nw d=>
  have e:d=.lst ds:=hd
  subst e
  obtain⟨a,rfl,n,xs,e,rs⟩:=r1
  exact⟨_,_,rfl,e,by intro p hp;simp[qG] at hp,⟨fun H' M' S G _=>⟨_,S _ _ (by rw[cY fun c=>fr.fresh n (.inr c)];exact e),(rs.weak fun b z=>.inl z).gen G⟩⟩⟩
 |ow a d=>
  have e:d=.lst ds:=hd
  subst e
  obtain⟨rfl,m,xs,e,rs⟩:=r1
  refine⟨_,_,rfl,e,by intro p hp;simp[qG] at hp;subst hp;exact m,⟨fun H' M' S G ow=>?_⟩⟩
  exact ow (a,ds) (by simp[qG])
theorem Fp{K:W.Frag}{P:Hp}{M:Addr->Prop}{H1:Hp}{a:Addr}{ds:List Dv}{ogs:List (Addr×List Dv)}(w:Walked K P M H1 a ds ogs):xE K P M H1 (Qw K a) (uH ds) ogs:=by
 intro i H' M' S G ow
 obtain⟨xs,h',r⟩:=w.at_ H' M' S G ow
 refine⟨fun d e=>?_,fun h=>⟨xs,gM.of h',by rw[r.length];simpa [uH] using h⟩⟩
 obtain⟨d0,e0,rfl⟩:=Fx e
 obtain⟨x,hx,rx⟩:=r.get e0
 refine⟨⟨xs,x,gM.of h',hx⟩,fun y H'' ⟨T,z,hT,e1,e2,hz⟩=>?_⟩
 subst e1 e2
 have:=hz xs (gM.of h')
 rw[hx] at this
 cases this
 exact⟨aW.new' hT,.tup cT (.cons (.int _) (.cons (rx.mono (aW.new' hT)) .nil))⟩
theorem Js{elts:List Expr}{x1:Nat}{tp:Pos}(hg:Gl X "enumerate")(hm:X.mg "enumerate" = none)(ha:QA X [a] ts)(hs:starEach [a] X.env=[(false,eval a X.env)]:=by rfl):QI X (.Tuple elts x1 tp) (.Call (.Name "enumerate" p) [a] [] pos) (AA ts):=by
 refine⟨fun ρ Q Q' w q=>ha.mono _ _ _ (fun r q=>?_) q,fun HZ F=>⟨_,KD hg hm (ha.run HZ F) hs,fun σ H ρ R fr q=>?_⟩⟩
 ·split at q<;>first | exact w _ _ q | exact q
 ·refine ha.step fr q fun rs xs H1 q S1 r1=>?_
  have one:∀{r:Z.R} {ds:List Dv},rs=[r]->r.d=.lst ds->(∀J H1',aW H H1'->guard (qG r) ρ->xE X.K (prot H1' ρ) (MM F ρ) H1' J (uH ds) (qG r)->R J H1') -> ∃a,xs=[V.ref a]/\(∃xs,gM X.K H1 a xs)/\R (Qw X.K a) H1:=by
   intro r ds e hd k
   subst e
   cases r1 with
   |cons a1 t1=>
    cases t1
    obtain⟨a,ys,rfl,ea,gd,wk⟩:=walked fr S1 a1 hd
    exact⟨a,rfl,⟨ys,gM.of ea⟩,k _ H1 S1 gd (Fp wk)⟩
  split at q
  ·exact one rfl rfl q
  ·exact one rfl rfl q
  ·exact one rfl rfl q
  ·exact q.elim
def An(xs ys:List Dv):List Dv:=List.zipWith (fun x y=>.tup [x,y]) xs ys
def yW(ts:qJ):CY:=fun ρ Q=>ts ρ fun rs=>match rs with
 | [r,r']=>match r.d,r'.d with
  | .lst xs,.lst ys=>Q (An xs ys) (qG r++qG r')
  |_,_=>False
 |_=>False
theorem Ip{K:W.Frag}{P:Hp}{M:Addr->Prop}{H1:Hp}{a b:Addr}{ds es:List Dv}{o1 o2:List (Addr×List Dv)}(w1:Walked K P M H1 a ds o1)(w2:Walked K P M H1 b es o2):xE K P M H1 (SA a b) (An ds es) (o1++o2):=by
 intro i H' M' S G ow
 obtain⟨xs,h1,r1⟩:=w1.at_ H' M' S G fun p hp=>ow p (mem_append_left _ hp)
 obtain⟨ys,h2,r2⟩:=w2.at_ H' M' S G fun p hp=>ow p (mem_append_right _ hp)
 refine⟨fun d e=>?_,fun h=>⟨xs,ys,h1,h2,?_⟩⟩
 ·unfold An at e
  rw[List.getElem?_zipWith] at e
  cases e1:ds[i]? with
  |none=>rw[e1] at e;cases e
  |some d1=>
   cases e2:es[i]? with
   |none=>rw[e1,e2] at e;cases e
   |some d2=>
    rw[e1,e2] at e
    cases e
    obtain⟨x,hx,rx⟩:=r1.get e1
    obtain⟨y,hy,ry⟩:=r2.get e2
    refine⟨⟨xs,ys,x,y,h1,h2,hx,hy⟩,fun z H'' ⟨T,z1,z2,hT,e3,e4,k1,k2⟩=>?_⟩
    subst e3 e4
    have q1:=k1 xs h1
    have q2:=k2 ys h2
    rw[hx] at q1
    rw[hy] at q2
    cases q1
    cases q2
    exact⟨aW.new' hT,.tup cT (.cons (rx.mono (aW.new' hT)) (.cons (ry.mono (aW.new' hT)) .nil))⟩
 ·rw[r1.length,r2.length]
  simp only[An,List.length_zipWith] at h
  ac_rfl
theorem Gr{elts:List Expr}{x1:Nat}{tp:Pos}(hg:Gl X "zip")(hm:X.mg "zip" = none)(ha:QA X [a,b] ts)(hs:starEach [a,b] X.env=[(false,eval a X.env),(false,eval b X.env)]:=by rfl)(hs2:starEach [b] X.env=[(false,eval b X.env)]:=by rfl):
  QI X (.Tuple elts x1 tp) (.Call (.Name "zip" p) [a,b] [] pos) (yW ts):=by
 refine⟨fun ρ Q Q' w q=>ha.mono _ _ _ (fun r q=>?_) q,fun HZ F=>⟨_,Mj hg hm (ha.run HZ F) hs hs2,fun σ H ρ R fr q=>?_⟩⟩
 ·split at q
  ·split at q
   ·exact w _ _ q
   ·exact q
  ·exact q
 ·refine ha.step fr q fun rs xs H1 q S1 r1=>?_
  split at q
  ·rename_i r r'
   split at q
   ·rename_i ds es h1 h2
    cases r1 with
    |cons a1 t1=>
     cases t1 with
     |cons a2 t2=>
      cases t2
      obtain⟨a,ys,rfl,ea,gd,wk⟩:=walked fr S1 a1 h1
      obtain⟨b,zs,rfl,eb,gd2,wk2⟩:=walked fr S1 a2 h2
      refine⟨a,b,rfl,⟨ys,ea⟩,⟨zs,eb⟩,q _ H1 S1 (fun p hp=>?_) (Ip wk wk2)⟩
      rcases mem_append.mp hp with h | h
      ·exact gd p h
      ·exact gd2 p h
   ·exact q.elim
  ·exact q.elim
end
def fV(env:Env):List (Str×NameKind)->List (Str×Addr)->List (Str×Addr)
 | [],acc=>acc
 | (n,k)::r,acc=>if (k == .free)=true then (match env.cells.lookup n with | some c=>fV env r ((n,c)::acc) | none=>fV env r acc) else fV env r acc
theorem qI{scope:Scope}{env:Env}(h:(scope.names.all fun y=>!(y.2 == .free) || (env.cells.lookup y.1).isSome)=true):closureFor scope env=pure (fV env scope.names []):=by
 unfold closureFor
 have key:∀(l:List (Str×NameKind)) (acc:List (Str×Addr)),(l.all fun y=>!(y.2 == .free) || (env.cells.lookup y.1).isSome)=true ->
   (forIn (m:=Sem) l acc fun x r=>(match x with | (name,kind)=>if (kind==NameKind.free)=true then (do let c <- cellOf env name;pure (ForInStep.yield ((name,c)::r))) else pure (ForInStep.yield r)))=pure (fV env l acc):=by
  intro l
  induction l with
  |nil=>intro acc _;rfl
  |cons y r ih=>
   intro acc hl
   obtain⟨n,k⟩:=y
   rw[all_cons,Bool.and_eq_true] at hl
   rw[List.forIn_cons]
   unfold fV
   by_cases hk:(k==NameKind.free)=true
   ·rw[if_pos hk]
    have h1:(env.cells.lookup n).isSome=true:=by
     have:=hl.1
     simpa [hk] using this
    obtain⟨c,hc⟩:=isSome_iff_exists.mp h1
    have e:cellOf env n=pure c:=by unfold cellOf;rw[hc]
    simp only[hk,if_true,e,hc]
    exact ih _ hl.2
   ·rw[if_neg hk]
    simp only[hk]
    exact ih _ hl.2
 dsimp only
 have h2:=key scope.names [] h
 refine Eq.trans (congrArg (fun t:Sem (List (Str×Addr))=>t >>= fun r=>pure r) h2) ?_
 rfl
theorem mU{env:Env}:∀(l:List (Str×NameKind)) (acc:List (Str×Addr)),(∀q∈acc,env.cells.lookup q.1=some q.2) -> ∀q∈fV env l acc,env.cells.lookup q.1=some q.2
 | [],acc,h,q,hq=>h q hq
 | (n,k)::r,acc,h,q,hq=>by
  unfold fV at hq
  split at hq
  ·split at hq
   ·rename_i c hc
    refine mU r _ (fun q' hq'=>?_) q hq
    rcases mem_cons.mp hq' with e | e
    ·rw[e];exact hc
    ·exact h q' e
   ·exact mU r acc h q hq
  ·exact mU r acc h q hq
theorem o5{env:Env}:∀(l:List (Str×NameKind)) (acc:List (Str×Addr)),∀q∈acc,q∈fV env l acc
 | [],acc,q,hq=>hq
 | (n,k)::r,acc,q,hq=>by
  unfold fV
  split
  ·split
   ·exact o5 r _ q (mem_cons_of_mem _ hq)
   ·exact o5 r acc q hq
  ·exact o5 r acc q hq
theorem lF{env:Env}{x:Str}:∀(l:List (Str×NameKind)) (acc:List (Str×Addr)),(l.all fun y=>!(y.2 == .free) || (env.cells.lookup y.1).isSome)=true->(x,NameKind.free)∈l -> ∃c,(x,c)∈fV env l acc
 | [],_,_,h=>by simp at h
 | (n,k)::r,acc,hl,h=>by
  rw[all_cons,Bool.and_eq_true] at hl
  unfold fV
  rcases mem_cons.mp h with e | e
  ·cases e
   rw[if_pos (by rfl)]
   have h1:(env.cells.lookup x).isSome=true:=by simpa using hl.1
   obtain⟨c,hc⟩:=isSome_iff_exists.mp h1
   rw[hc]
   exact⟨c,o5 r _ _ (by simp)⟩
  ·split
   ·split
    ·exact lF r _ hl.2 e
    ·exact lF r _ hl.2 e
   ·exact lF r _ hl.2 e
theorem mD{α:Type}{x:Str}{c:α}:∀{l:List (Str×α)},(x,c)∈l -> ∃c',l.lookup x=some c'
 | (n,d)::r,h=>by
  rw[lookup_cons]
  cases e:x==n with
  |true=>exact⟨d,rfl⟩
  |false=>
   rcases mem_cons.mp h with z | z
   ·cases z
    simp at e
   ·exact mD z
theorem sJ{scope:Scope}{env:Env}{x:Str}(hcell:∀y∈scope.names,y.2 ≠ .cell)(h:(relabel scope env).names.lookup x=some .cell \/ (relabel scope env).names.lookup x=some .free):(x,NameKind.free)∈scope.names:=by
 have:(x,NameKind.cell)∈(relabel scope env).names \/ (x,NameKind.free)∈(relabel scope env).names:=h.imp PySem.mem_of_lookup PySem.mem_of_lookup
 rcases this with h | h
 ·obtain⟨⟨n,k⟩,hm,e⟩:=mem_map.mp h
  dsimp only at e
  split at e
  ·rename_i hc
   rw[Bool.and_eq_true,Bool.and_eq_true,beq_iff_eq] at hc
   cases e
   rw[hc.1.1] at hm
   exact hm
  ·cases e
   exact absurd rfl (hcell _ hm)
 ·obtain⟨⟨n,k⟩,hm,e⟩:=mem_map.mp h
  dsimp only at e
  split at e
  ·cases e
  ·cases e
   exact hm
section
variable {X:Cx} {pos:Pos}
theorem BA{elt iter tgt:Expr}{ifs:List Expr}{scope:Scope}(tgs ns:List Str)(js:List Nat){k:Nat}{ti:CY}{g:Ak}{tt:oA}{te:eT}(hc:X.N=X.N)(hi:QI X tgt iter ti)
  (hg:∀(fp:List Addr) (s:Shared) (H:Hp),QG (rP X scope (fV X.env scope.names []) fp (tgs++ns) s H) tgt k g) (ht:∀(fp:List Addr) (s:Shared) (H:Hp),QTs (rP X scope (fV X.env scope.names []) fp (tgs++ns) s H) ifs tt)
  (he:∀(fp:List Addr) (s:Shared) (H:Hp),QE (rP X scope (fV X.env scope.names []) fp (tgs++ns) s H) elt te) (hk:tgs.length=k:=by rfl)
  (hall:(scope.names.all fun y=>!(y.2 == .free) || (X.env.cells.lookup y.1).isSome)=true:=by rfl) (hjs:js.map (fun j=>X.N[j]?)=ns.map some:=by rfl)
  (hin:(ns.all fun y=>(relabel scope X.env).names.lookup y==some .cell || (relabel scope X.env).names.lookup y==some .free)=true:=by rfl) (hout:(ns.all fun y=>X.env.kindOf y==some .cell || X.env.kindOf y==some .free)=true:=by rfl)
  (nd:js.Nodup:=by decide) (hcell:∀y∈scope.names,y.2 ≠ .cell:=by decide +kernel) (hkind:scope.kind=.function:=by rfl)
  (hnames:∀y∈scope.names,y.2=.local->scope.names.lookup y.1=some .local:=by decide +kernel) (hs:∀z,foldedSetIterable iter X.env z=pure z:=by intro _;rfl):
  QE X (.ListComp elt [⟨tgt,iter,ifs,0⟩] scope pos) (fP k js ti g tt te):=by
 refine Mb hc hk hi hg ht he (qI hall) (fun x c e=>mU scope.names [] (by simp) (x,c) (PySem.mem_of_lookup e)) (fun x h=>?_) hjs (fun y hy=>?_) (fun y hy=>?_) nd hcell hkind hnames hs
 ·obtain⟨c,hc⟩:=lF scope.names [] hall (sJ hcell h)
  exact mD hc
 ·have:=all_eq_true.mp hin y hy
  simpa using this
 ·have:=all_eq_true.mp hout y hy
  simpa using this
end
open Classical in
def mR(h:Heap)(db:PyData)(u:Value):Bool:=if q:∃d as,Reads h u d as then PyData.eqv (choose q) db else false
section
variable {X:Cx} {M:Addr->Prop} {pj:List (Addr×Obj)} {σ:St} {H:Hp} {s:Shared}
theorem AE{h:Heap}{db d:PyData}{u:Value}{as:List Addr}(ok:d.canLay0=true)(r:Reads h u d as):mR h db u=PyData.eqv d db:=by
 unfold mR
 have q:∃d as,Reads h u d as:=⟨d,as,r⟩
 rw[dif_pos q]
 obtain⟨as',r'⟩:=Classical.choose_spec q
 rw[SeqAt.Reads.unique d _ u as as' ok r r']
theorem pJ(I:Inv X pj σ H s){db:PyData}{dx:Dv}(hb:db=gL dx):∀{xs:List V} {ds:List Dv} {us:List Value},Reps X.K M H xs ds->okDs 8 ds=true->bV xs us->us.any (mR s.heap db)=ds.any fun d=>eqD d dx
 |_,_,_,.nil,_,r=>by cases r;rfl
 |_,_,_,.cons a q,ok,r=>by
  have ok':(dQ 8 _&&okDs 8 _)=true:=ok
  rw[Bool.and_eq_true] at ok'
  cases r with
  |cons r1 r2=>
   obtain⟨as,ra⟩:=Rep.reads I a ok'.1 r1
   rw[any_cons,any_cons,pJ I hb q ok'.2 r2,AE (nV 8 _ ok'.1).1 ra,hb]
   rfl
theorem mO(I:Inv X pj σ H s){A:Around}{v:Value}{dx:Dv}{bs:List Addr}(rb:Reads s.heap v (gL dx) bs)(ob:dQ 8 dx=true)(hu:A.units+64<cLine):∀{xs:List V} {ds:List Dv} {us:List Value},Reps X.K M H xs ds->okDs 8 ds=true->bV xs us -> ∀u∈us,SeqAt.EqAt A s u v (mR s.heap (gL dx) u)
 |_,_,_,.nil,_,r,u,hm=>by cases r;simp at hm
 |_,_,_,.cons a q,ok,r,u,hm=>by
  have ok':(dQ 8 _&&okDs 8 _)=true:=ok
  rw[Bool.and_eq_true] at ok'
  cases r with
  |cons r1 r2=>
   rcases mem_cons.mp hm with e | hm
   ·subst e
    obtain⟨as,ra⟩:=Rep.reads I a ok'.1 r1
    obtain⟨l1,l2⟩:=nV 8 _ ok'.1
    obtain⟨m1,m2⟩:=nV 8 _ ob
    rw[AE l1 ra]
    exact SeqAt.eqAt_reads _ _ A s u v as bs ra rb l1 m1 ⋯
   ·exact mO I rb ob hu q ok'.2 r2 u hm
end
def Oi(K:W.Frag)(neg:Bool):R2:=fun x y H Q=>∃M dx ds p xs,eP K M H x dx/\y=.ref p/\(gM K H p xs \/ mY K H p xs)/\Reps K M H xs ds/\dQ 8 dx=true/\okDs 8 ds=true /\
 Q (.bl (if neg then !(ds.any fun d=>eqD d dx) else ds.any fun d=>eqD d dx)) H
section
variable {X:Cx}
theorem mP{A:Around}(h:A.units+65<cLine):A.in1.units+64<cLine:=by
 have:A.in1.units<=A.units+1:=by unfold Around.in1;simp[Around.units]
 ac_rfl
theorem N5(hu:X.A.units+65<cLine):n0 X (compareOp .In) (Oi X.K false):=by
 intro pj s σ H x y v u Q I rx ry h
 obtain⟨M,dx,ds,p,xs,cx,rfl,hq,rs,o1,o2,q⟩:=h
 cases ry
 obtain⟨bs,rb⟩:=cx.reads I o1 rx
 rcases hq with hq | hq
 ·obtain⟨its,r,pl,hz⟩:=I.list hq
  refine SeqAt.in_listAt (mR s.heap (gL dx)) pl.isList (fun w hw=>mO I rb o1 (mP hu) rs o2 r w (by simpa using hw)) ⟨.bl _,H,I,rfl,?_⟩
  rw[show its.toArray.any (mR s.heap (gL dx))=its.any (mR s.heap (gL dx)) by simp,pJ I rfl rs o2 r]
  exact q
 ·obtain⟨its,r,pl,hz⟩:=I.tuple hq
  refine SeqAt.in_tupleAt (mR s.heap (gL dx)) pl (fun w hw=>mO I rb o1 (mP hu) rs o2 r w (by simpa using hw)) ⟨.bl _,H,I,rfl,?_⟩
  rw[show its.toArray.any (mR s.heap (gL dx))=its.any (mR s.heap (gL dx)) by simp,pJ I rfl rs o2 r]
  exact q
theorem FS(hu:X.A.units+65<cLine):n0 X (compareOp .NotIn) (Oi X.K true):=by
 intro pj s σ H x y v u Q I rx ry h
 obtain⟨M,dx,ds,p,xs,cx,rfl,hq,rs,o1,o2,q⟩:=h
 cases ry
 obtain⟨bs,rb⟩:=cx.reads I o1 rx
 rcases hq with hq | hq
 ·obtain⟨its,r,pl,hz⟩:=I.list hq
  refine SeqAt.notIn_listAt (mR s.heap (gL dx)) pl.isList (fun w hw=>mO I rb o1 (mP hu) rs o2 r w (by simpa using hw)) ⟨.bl _,H,I,rfl,?_⟩
  rw[show its.toArray.any (mR s.heap (gL dx))=its.any (mR s.heap (gL dx)) by simp,pJ I rfl rs o2 r]
  exact q
 ·obtain⟨its,r,pl,hz⟩:=I.tuple hq
  refine SeqAt.notIn_tupleAt (mR s.heap (gL dx)) pl (fun w hw=>mO I rb o1 (mP hu) rs o2 r w (by simpa using hw)) ⟨.bl _,H,I,rfl,?_⟩
  rw[show its.toArray.any (mR s.heap (gL dx))=its.any (mR s.heap (gL dx)) by simp,pJ I rfl rs o2 r]
  exact q
end
end Z
namespace Z
open L2
theorem rZ{k:Nat}{A:Around}(r:Room k A):A.units+65<cLine:=by have:=r.un;ac_rfl
def PD:Dv->Dv->(R->Prop)->Prop
 | .int i,.int j,Q=>j≠0/\Q (.v (.int (i.fmod j)))
 |_,_,_=>False
def isB(b:Bool):Dv->Bool
 | .bl c=>c==b
 |_=>false
def RW:Dv->Dv->(R->Prop)->Prop
 |d,.bl b,Q=>Q (.v (.bl (isB b d)))
 |_,_,_=>False
def PC:Dv->Dv->(R->Prop)->Prop
 |d,.bl b,Q=>Q (.v (.bl (!isB b d)))
 |_,_,_=>False
section
variable {X:Cx}
def Ld(i:Nat)(tk tv:eT):cO:=fun E ρ=>match ρ[i]? with
 |some (.own a (.lst xs))=>tv ρ fun r=>tk ρ fun k=>match k.d with
  | .int n=>match v6 xs.length n with
   |some j=>r.free=true/\E.nx (ρ.set i (.own a (.lst (xs.set j r.d))))
   |none=>False
  |_=>False
 |_=>False
def inD(d:Dv)(ds:List Dv):Bool:=ds.any fun e=>eqD e d
def Hg:Dv->Dv->(R->Prop)->Prop
 |d,.lst ds,Q=>(dQ 8 d=true/\okDs 8 ds=true)/\Q (.v (.bl (inD d ds)))
 |d,.tup ds,Q=>(dQ 8 d=true/\okDs 8 ds=true)/\Q (.v (.bl (inD d ds)))
 |_,_,_=>False
def eQ:Dv->Dv->(R->Prop)->Prop
 |d,.lst ds,Q=>(dQ 8 d=true/\okDs 8 ds=true)/\Q (.v (.bl (!inD d ds)))
 |d,.tup ds,Q=>(dQ 8 d=true/\okDs 8 ds=true)/\Q (.v (.bl (!inD d ds)))
 |_,_,_=>False
theorem Cz(hu:X.A.units+65<cLine)(_hu1:X.A.units+1<cLine):zA X (compareOp .In) Hg:=by
 refine⟨fun dx dy Q Q' w h=>?_,_,N5 hu,fun M O H x y dx dy Q cx cy h=>?_⟩
 ·unfold Hg at h
  split at h
  ·exact⟨h.1,w _ h.2⟩
  ·exact⟨h.1,w _ h.2⟩
  ·exact h.elim
 ·unfold Hg at h
  split at h
  ·obtain⟨a,xs,rfl,ea,ra⟩:=cy.lst
   exact⟨M,_,_,a,xs,cx,rfl,.inl (gM.of ea),ra,h.1.1,h.1.2,h.2 _ H (aW.refl _) (Rep.bl _)⟩
  ·obtain⟨a,xs,rfl,ea,ra⟩:=cy.tup
   exact⟨M,_,_,a,xs,cx,rfl,.inr (mY.of ea),ra,h.1.1,h.1.2,h.2 _ H (aW.refl _) (Rep.bl _)⟩
  ·exact h.elim
theorem mK(hu:X.A.units+65<cLine)(_hu1:X.A.units+1<cLine):zA X (compareOp .NotIn) eQ:=by
 refine⟨fun dx dy Q Q' w h=>?_,_,FS hu,fun M O H x y dx dy Q cx cy h=>?_⟩
 ·unfold eQ at h
  split at h
  ·exact⟨h.1,w _ h.2⟩
  ·exact⟨h.1,w _ h.2⟩
  ·exact h.elim
 ·unfold eQ at h
  split at h
  ·obtain⟨a,xs,rfl,ea,ra⟩:=cy.lst
   exact⟨M,_,_,a,xs,cx,rfl,.inl (gM.of ea),ra,h.1.1,h.1.2,h.2 _ H (aW.refl _) (Rep.bl _)⟩
  ·obtain⟨a,xs,rfl,ea,ra⟩:=cy.tup
   exact⟨M,_,_,a,xs,cx,rfl,.inr (mY.of ea),ra,h.1.1,h.1.2,h.2 _ H (aW.refl _) (Rep.bl _)⟩
  ·exact h.elim
end
structure QX(X:Cx)(st:Stmt)(i:Nat)(te:eT):Prop where
 mono:∀(ρ:List Sl) (Q Q':R->Prop),(∀r,Q r->Q' r)->te ρ Q->te ρ Q'
 run:∀(HZ:Hp) (F:Addr->Prop),PS X st (MU (lift X.K HZ F te) (By i))
section
variable {X:Cx} {pos:Pos} {st:Stmt} {te:eT} {i:Nat}
theorem QX.step{HZ:Hp}{F:Addr->Prop}{σ:St}{H:Hp}{ρ:List Sl}{Q:R->Prop}{Q':VK}(h:QX X st i te)(fr:Fr X.K HZ F σ H ρ)(q:te ρ Q)
  (k:∀r x H',Q r->aW H H'->eU X.K (MM F ρ) (Am ρ) H x r H'->Q' x H'):lift X.K HZ F te σ H Q':=⟨ρ,fr,h.mono _ _ _ (fun r qr x H' S rx=>k r x H' qr S rx) q⟩
theorem tJ(he:QX X st i te):QS X st (bK i te):=by
 refine⟨fun E E' ρ w h=>he.mono _ _ _ (fun r q=>?_) h,fun HZ F=>gR (he.run HZ F) fun D σ H ⟨ρ,E,fr,h,en⟩=>?_⟩
 ·cases r with
  |v d=>exact w.nx _ q
  |nw d=>exact w.nx _ q
  |ow a d=>exact q
 ·refine he.step fr h fun r x H1 q S1 r1=>?_
  cases r with
  |v d=>exact en.nx _ _ _ ((fr.mono S1).setv r1) q
  |nw d=>exact en.nx _ _ _ ((fr.mono S1).setv (r1.rep (fun a m=>fr.dom m) rfl)) q
  |ow a d=>exact q.elim
end
section
variable {X:Cx} {pos:Pos}
theorem Jt{y:Str}{py spos:Pos}{iy:Nat}{elt iter tgt:Expr}{ifs:List Expr}{scope:Scope}{cl:List (Str×Addr)}{tgs ns:List Str}{js:List Nat}{k:Nat}{ti:CY}{g:Ak}{tt:oA}{te:eT}(hN:X.N.Nodup)(hi2:X.N[iy]?=some y)(hx2:JY X.env.scope y)(hc:X.N=X.N)(hk:tgs.length=k)
  (hi:QI X tgt iter ti) (hg:∀(fp:List Addr) (s:Shared) (H:Hp),QG (rP X scope cl fp (tgs++ns) s H) tgt k g) (ht:∀(fp:List Addr) (s:Shared) (H:Hp),QTs (rP X scope cl fp (tgs++ns) s H) ifs tt)
  (he:∀(fp:List Addr) (s:Shared) (H:Hp),QE (rP X scope cl fp (tgs++ns) s H) elt te)
  (hclos:closureFor scope X.env=pure cl) (hsub:∀x c,cl.lookup x=some c->X.env.cells.lookup x=some c)
  (hhas:∀x,((relabel scope X.env).names.lookup x=some .cell \/ (relabel scope X.env).names.lookup x=some .free) -> ∃c,cl.lookup x=some c)
  (hjs:js.map (fun j=>X.N[j]?)=ns.map some) (hin:∀y∈ns,(relabel scope X.env).names.lookup y=some .cell \/ (relabel scope X.env).names.lookup y=some .free)
  (hout:∀y∈ns,X.env.kindOf y=some .cell \/ X.env.kindOf y=some .free) (nd:js.Nodup)
  (hcell:∀y∈scope.names,y.2 ≠ .cell:=by decide +kernel) (hkind:scope.kind=.function:=by rfl)
  (hnames:∀y∈scope.names,y.2=.local->scope.names.lookup y.1=some .local:=by decide +kernel)
  (hs:∀z,foldedSetIterable iter X.env z=pure z:=by intro _;rfl)
  (hsw:swapsWith (.ListComp elt [⟨tgt,iter,ifs,0⟩] scope pos) (some (.Name y py)) spos.line X.env=pure true:=by rfl) (hf:X.fn y=true \/ X.env.scope.names.lookup y=some .local:=by first | exact .inl rfl | exact .inr rfl | assumption):
  QX X (.Assign [.Name y py] (.ListComp elt [⟨tgt,iter,ifs,0⟩] scope pos) spos) iy (fP k js ti g tt te):=by
 have mg:=(hg [] X.s₀ fun _=>none).mono
 have ag:=(hg [] X.s₀ fun _=>none).agree
 have mt:=(ht [] X.s₀ fun _=>none).mono
 have me:=(he [] X.s₀ fun _=>none).mono
 refine⟨fun ρ Q Q' w h=>hi.mono _ _ _ (fun ds ogs h=>lQ mg mt me ds [] Q Q' w h) h,fun HZ F=>?_⟩
 obtain⟨wi,hwi,wiq⟩:=hi.run HZ F
 suffices key:∀σ H Q,lift X.K HZ F (fP k js ti g tt te) σ H Q->zI wi tgs.length js (liftG X.K k g) (fun σ H Q=>∃HZ F,liftT X.K HZ F tt σ H Q) (fun σ H Q=>∃HZ F,lift X.K HZ F te σ H Q) σ H Q from
  gR (H9 (tgs:=tgs) (ns:=ns) (js:=js) (g:=liftG X.K k g) (tt:=fun σ H Q=>∃HZ F,liftT X.K HZ F tt σ H Q) (te:=fun σ H Q=>∃HZ F,lift X.K HZ F te σ H Q) hN hi2 hx2 hc hwi (fun fp s H=>(hg fp s H).pg) (fun fp s H=>(ht fp s H).pt) (fun fp s H=>(he fp s H).pe) hclos hsub hhas hjs hin hout hcell hkind hnames hs hsw hf) fun D σ H h=>key σ H _ h
 intro σ H Q ⟨ρ,fr,h⟩
 subst hk
 refine wiq σ H ρ _ fr (hi.mono _ _ _ (fun ds ogs q J H1 S1 gd ok=>?_) h)
 intro D hD
 have fr1:=fr.mono S1
 refine⟨fun i m acc H2=>m=ds.length-i/\i<=ds.length/\aW H1 H2 /\ ∃accD,Reps X.K (fun a=>MM F ρ a \/ a=D) H2 acc accD /\
  d8 (List.replicate tgs.length .un++fN js ρ) g tt te (ds.drop i) accD (fun r=>∀x H',aW H H'->eU X.K (MM F ρ) (Am ρ) H x r H'->Q x H'),
  ⟨ds.length,by simp,zero_le _,aW.new' hD,[],.nil,by simpa using q⟩,?_⟩
 rintro i m acc H2 ⟨rfl,hil,S2,accD,ra,q⟩ hDl
 have G2:Gen X.K (MM F ρ) (fun a=>MM F ρ a \/ a=D) H1 H2:=(Gen.fresh hD).trans (.mono S2)
 have oks:=ok i H2 (fun a=>MM F ρ a \/ a=D) (fun b o e=>S2 _ _ (pM e)) G2 fun p hp=>by
  obtain⟨_,_,_,ow⟩:=fr1.at_own (gd p hp)
  exact ow.gen G2 fun o e=>S2 _ _ e
 by_cases hlt:i<ds.length
 ·have hd:ds[i]?=some ds[i]:=by simp[hlt]
  rw[drop_eq_getElem_cons hlt] at q
  obtain⟨go,yld⟩:=oks.1 _ hd
  refine .inr ⟨go,fun y H3 hy old lo=>?_⟩
  obtain⟨S3,ry⟩:=yld y H3 hy
  have hD3:=S3 _ _ hDl
  obtain⟨P,F',fr',iff,iffF⟩:=fr1.block (js:=js) (old:=old) (S2.trans S3) hD (by rw[hD3];simp) nd lo
  refine⟨_,P,F',_,fr',ry.weak fun a z=>(iff a).mp z,mg _ _ _ _ (fun ρ1 q1 σ1 f1 a1=>?_) (ag _ _ _ q)⟩
  obtain⟨q1,l1,b1⟩:=q1
  have up:∀a,MM F ρ a \/ a=D->MM F' ρ1 a:=fun a z=>by
   rcases(iff a).mpr z with z | ⟨d,z⟩
   ·exact .inl z
   ·refine .inr ⟨d,?_⟩
    obtain⟨j,e⟩:=mem_iff_getElem?.mp z
    have hj:tgs.length<=j:=by
     by_cases hj:j<tgs.length
     ·rw[List.getElem?_append_left (by simpa using hj),List.getElem?_replicate,if_pos hj] at e
      cases e
     ·ac_rfl
    rw[<- b1 j hj] at e
    exact mem_of_getElem? e
  have hlen:σ1.length=tgs.length+(pick js σ).length:=by
   have:=f1.len
   rw[l1] at this
   simp[pick,fN] at this ⊢
   ac_rfl
  refine⟨⟨σ1.take tgs.length,by rw[length_take];ac_rfl,B0 lo hlen a1⟩,P,F',ρ1,f1,mt _ _ _ (fun b q5 H5 S5=>?_) q1⟩
  have S25:=(S2.trans S3).trans S5
  cases b with
  |true=>
   simp only[if_true] at q5
   refine tR ⟨P,F',ρ1,f1.mono S5,me _ _ _ (fun r q6 x H6 S6 rx=>?_) q5⟩
   have hD6:=S6 _ _ (S5 _ _ hD3)
   obtain⟨⟨rf,rl⟩,q6⟩:=q6
   have rep:=(rx.rep (fun a z=>(f1.mono S5).dom z) rf).weak up
   refine⟨hD6,by rw[ra.length];exact A6 rl,ds.length-(i+1),⋯,rfl,hlt,fun b o e=>?_,_,?_,q6⟩
   ·rw[bY (bT e hD)]
    exact S6 _ _ (S25 _ _ e)
   ·have G6:Gen X.K (fun a=>MM F ρ a \/ a=D) (fun a=>MM F ρ a \/ a=D) H6 (upd H6 D (.lst (acc++[x]))):=Gen.write (.inr rfl) (by rw[hD6];trivial)
    exact((ra.mono ((S3.trans S5).trans S6)).append (.cons rep .nil)).gen G6
  |false=>
   simp only[Bool.false_eq_true,if_false] at q5
   exact nX ⟨S5 _ _ hD3,ds.length-(i+1),⋯,rfl,hlt,S25,accD,ra.mono (S3.trans S5),q5⟩
 ·have e:i=ds.length:=⋯
  subst e
  rw[drop_length] at q
  exact .inl ⟨oks.2 (le_refl _),q (.ref D) H2 (S1.trans S2) ⟨D,rfl,S1.free hD,acc,hDl,ra⟩⟩
theorem yI{y:Str}{py spos:Pos}{iy:Nat}{elt iter tgt:Expr}{ifs:List Expr}{scope:Scope}(tgs ns:List Str)(js:List Nat){k:Nat}{ti:CY}{g:Ak}{tt:oA}{te:eT}(hN:X.N.Nodup)(hi2:X.N[iy]?=some y)(hx2:JY X.env.scope y)(hc:X.N=X.N)(hi:QI X tgt iter ti)
  (hg:∀(fp:List Addr) (s:Shared) (H:Hp),QG (rP X scope (fV X.env scope.names []) fp (tgs++ns) s H) tgt k g) (ht:∀(fp:List Addr) (s:Shared) (H:Hp),QTs (rP X scope (fV X.env scope.names []) fp (tgs++ns) s H) ifs tt)
  (he:∀(fp:List Addr) (s:Shared) (H:Hp),QE (rP X scope (fV X.env scope.names []) fp (tgs++ns) s H) elt te) (hk:tgs.length=k:=by rfl)
  (hall:(scope.names.all fun y=>!(y.2 == .free) || (X.env.cells.lookup y.1).isSome)=true:=by rfl) (hjs:js.map (fun j=>X.N[j]?)=ns.map some:=by rfl)
  (hin:(ns.all fun y=>(relabel scope X.env).names.lookup y==some .cell || (relabel scope X.env).names.lookup y==some .free)=true:=by rfl) (hout:(ns.all fun y=>X.env.kindOf y==some .cell || X.env.kindOf y==some .free)=true:=by rfl)
  (nd:js.Nodup:=by decide) (hcell:∀y∈scope.names,y.2 ≠ .cell:=by decide +kernel) (hkind:scope.kind=.function:=by rfl)
  (hnames:∀y∈scope.names,y.2=.local->scope.names.lookup y.1=some .local:=by decide +kernel) (hs:∀z,foldedSetIterable iter X.env z=pure z:=by intro _;rfl)
  (hsw:swapsWith (.ListComp elt [⟨tgt,iter,ifs,0⟩] scope pos) (some (.Name y py)) spos.line X.env=pure true:=by rfl) (hf:X.fn y=true \/ X.env.scope.names.lookup y=some .local:=by first | exact .inl rfl | exact .inr rfl | assumption):
  QX X (.Assign [.Name y py] (.ListComp elt [⟨tgt,iter,ifs,0⟩] scope pos) spos) iy (fP k js ti g tt te):=by
 refine Jt hN hi2 hx2 hc hk hi hg ht he (qI hall) (fun x c e=>mU scope.names [] (by simp) (x,c) (PySem.mem_of_lookup e)) (fun x h=>?_) hjs (fun y hy=>?_) (fun y hy=>?_) nd hcell hkind hnames hs hsw hf
 ·obtain⟨c,hc⟩:=lF scope.names [] hall (sJ hcell h)
  exact mD hc
 ·have:=all_eq_true.mp hin y hy
  simpa using this
 ·have:=all_eq_true.mp hout y hy
  simpa using this
end
def PL:Dv->Dv->(R->Prop)->Prop
 | .int i,.int j,Q=>Q (.v (.int (i+j)))
 | .str x,.str y,Q=>x.length+y.length<=zB/\Q (.v (.str (x++y)))
 |_,_,_=>False
def PJ:Dv->Dv->(R->Prop)->Prop
 | .int i,.int j,Q=>Q (.v (.int (i-j)))
 |_,_,_=>False
def PK:Dv->Dv->(R->Prop)->Prop
 | .int i,.int j,Q=>uK i j/\Q (.v (.int (i*j)))
 |_,_,_=>False
section
variable {X:Cx}
def OV(te:eT)(g:Ak):cO:=fun E ρ=>te ρ fun r=>r.free=true/\g r.d ρ E.nx
theorem B9{a b c:Expr}{ta tb tc:eT}{pos:Pos}{op op':CmpOp}{f f':Int->Int->Bool}(ho:n0 X (compareOp op) (Df fun i j=>.bl (f i j)))(ho':n0 X (compareOp op') (Df fun i j=>.bl (f' i j)))(ha:QE X a ta)(hb:QE X b tb)(hc:QE X c tc)
  (hm:lastMarks [op,op'] [b,c]=false:=by with_unfolding_all rfl):QT X (.Compare a [op,op'] [b,c] pos) (bB (nZ (zS f) (zS f') ta tb tc)):=by
 have Q0:=Dj (pos:=pos) ho ho' ha hb hc hm
 have low:∀(HZ:Hp) (F:Addr->Prop) (σ:St) (H:Hp) (Q:VK),lift X.K HZ F (nZ (zS f) (zS f') ta tb tc) σ H Q->Cg (Df fun i j=>.bl (f i j)) (Df fun i j=>.bl (f' i j)) (lift X.K HZ F ta) (lift X.K HZ F tb) (lift X.K HZ F tc) σ H Q:=by
  rintro HZ F σ H Q ⟨ρ,fr,q⟩
  refine ha.step fr q fun rx x H1 q1 S1 r1=>?_
  refine hb.step (fr.mono S1) q1 fun ry y H2 q2 S2 r2=>?_
  have cx:=(r1.mono S2).c
  have cy:=r2.c
  generalize rx.d=dx at q2 cx
  generalize ry.d=dy at q2 cy
  unfold zS at q2
  split at q2
  ·rename_i Q2 i j
   obtain rfl:=cx.int
   obtain rfl:=cy.int
   refine⟨_,_,rfl,rfl,f i j,rfl,?_⟩
   have S12:=S1.trans S2
   replace q2:=(show (if f i j=true then tc ρ (fun w=>zS f' (.int j) w.d (fun r=>∀x H',aW H H'->eU X.K (MM F ρ) (Z.Am ρ) H x r H'->Q x H')) else (∀x H',aW H H'->eU X.K (MM F ρ) (Z.Am ρ) H x (.v (.bl false)) H'->Q x H')) from q2)
   cases h:f i j with
   |true=>
    rw[h] at q2
    simp only[if_true] at q2
    refine tR (hc.step ((fr.mono S1).mono S2) q2 fun rw' z H3 q3 S3 r3=>?_)
    have cz:=r3.c
    generalize rw'.d=dz at q3 cz
    cases dz with
    |int l=>
     obtain rfl:=cz.int
     exact⟨_,_,rfl,rfl,q3 _ H3 (S12.trans S3) (Rep.bl _)⟩
    |_=>exact(show False from q3).elim
   |false=>
    rw[h] at q2
    simp only[Bool.false_eq_true,if_false] at q2
    exact nX (q2 _ H2 S12 (Rep.bl _))
  ·exact q2.elim
 refine⟨fun ρ Q Q' w q=>wT Q0.mono ρ Q Q' w q,fun HZ F=>Af (Gw ho ho' (ha.run HZ F) (hb.run HZ F) (hc.run HZ F) hm) fun σ H Q ⟨ρ,fr,q⟩=>?_⟩
 refine low HZ F σ H _ (Q0.step fr q fun r x H1 q S1 r1=>?_)
 have cx:=r1.c
 generalize r.d=d at q cx
 split at q
 ·obtain rfl:=cx.bl
  exact⟨_,rfl,q H1 S1⟩
 ·exact q.elim
end
section
variable {X:Cx} {e:Expr} {te:eT} {pos:Pos}
def Ex(i:Nat)(te:eT):cO:=fun E ρ=>match ρ[i]? with
 |some (.own a (.lst xs))=>te ρ fun r=>match r.d with
  | .lst ys=>xs.length+ys.length<=zB/\E.nx (ρ.set i (.own a (.lst (xs++ys))))
  |_=>False
 |_=>False
theorem Oq{i:Nat}{x:Str}{p1 p2 p3:Pos}(hv:PE X (.Name x p1) (zH i))(he:QE X e te)(hs:swapsWith (.Call (.Attribute (.Name x p1) "extend" p2) [e] [] p3) none pos.line X.env=pure false:=by rfl)
  (hbase:attributeBase (.Name x p1) "extend" X.env (eval (.Name x p1) X.env)=eval (.Name x p1) X.env:=by rfl)
  (hfew:((backTo p3 (starEach [e] X.env)).all (fun x=>!x.1)&&(backToKw p3 (keywordEach [] X.env)).all (fun x=>x.1.isSome)
   && decide ([e].length+([]:List Keyword).length+(if ([]:List Keyword).isEmpty then 0 else 1)<30))=true:=by rfl)
  (hline:(p2.endLine==p3.line)=true:=by rfl) (hst:starEach [e] X.env=(false,eval e X.env)::starEach [] X.env:=by rfl) (hplain:(backTo p3 (starEach [] X.env)).any (·.1)=false:=by rfl):
  QS X (.Expr (.Call (.Attribute (.Name x p1) "extend" p2) [e] [] p3) pos) (Ex i te):=by
 refine⟨fun E E' ρ w h=>?_,fun HZ F=>gR (sN (HJ PySem.F.plainAttrs_list PySem.F.slot_list_extend PySem.F.type_list_extend FV hv (pN (he.run HZ F) w4 hst) hbase hfew hline hst hplain) hs) fun D σ H ⟨ρ,E,fr,h,en⟩=>?_⟩
 ·unfold Ex at *
  split at h
  ·refine he.mono _ _ _ (fun r q=>?_) h
   split at q
   ·exact⟨q.1,w.nx _ q.2⟩
   ·exact q
  ·exact h
 ·unfold Ex at h
  split at h
  ·rename_i a xs hx
   obtain⟨hs1,vs,hv1,rv1⟩:=fr.sl i _ hx
   refine⟨_,hs1,.inl ⟨rfl,_,gM.of hv1⟩,he.step fr h fun r y H1 q S1 r1=>?_⟩
   have cy:=r1.c
   generalize r.d=d at q cy
   split at q
   ·rename_i ys
    obtain⟨b,zs,rfl,eb,rb⟩:=cy.lst
    obtain⟨ql,q2⟩:=q
    have hv2:=S1 _ _ hv1
    refine⟨a,b,vs,zs,rfl,rfl,hv2,eb,jN (by rw[rv1.length,rb.length];exact ql),?_⟩
    refine en.nx _ _ _ ((fr.mono S1).write (d':=.lst (xs++ys)) hx ⟨_,cT,?_⟩) q2
    have G:Gen X.K (MM F ρ) (MM F ρ) H1 (upd H1 a (.lst (vs++zs))):=Gen.write (.inr ⟨_,mem_of_getElem? hx⟩) (by rw[hv2];trivial)
    exact((rv1.mono S1).append rb).gen G
   ·exact q.elim
  ·exact h.elim
def Gu(f:Str)(d:Dv):List (Str×Dv)->List (Str×Dv)
 | []=>[(f,d)]
 | (g,x)::r=>if g=f then (g,d)::r else (g,x)::Gu f d r
theorem RepF.put{K:W.Frag}{M:Addr->Prop}{H:Hp}{f:Str}{x:V}{d:Dv}(a:Rep K M H x d){xs:List (Str×V)}{ds:List (Str×Dv)}(r:RepF K M H xs ds):RepF K M H (nO f x xs) (Gu f d ds):=
 r.ind (P:=fun xs ds=>RepF K M H (nO f x xs) (Gu f d ds)) (.cons a .nil) fun k _ _ _ _ b r ih=>by
  show RepF K M H (if k=f then _ else _) (if k=f then _ else _)
  split
  ·exact .cons a r
  ·exact .cons b ih
theorem RepF.length{K:W.Frag}{M:Addr->Prop}{H:Hp}{xs:List (Str×V)}{ds:List (Str×Dv)}(r:RepF K M H xs ds):xs.length=ds.length:=r.ind (P:=fun xs ds=>xs.length=ds.length) rfl fun _ _ _ _ _ _ _ ih=>congrArg (· + 1) ih
def vT(C:Addr)(i:Nat)(f:Str)(te:eT):cO:=fun E ρ=>match ρ[i]? with
 |some (.own a (.obj C' fs))=>te ρ fun r=>(C'=C/\r.free=true/\fs.length<1000)/\E.nx (ρ.set i (.own a (.obj C' (Gu f r.d fs))))
 |_=>False
theorem Gs{C:Addr}{i:Nat}{x f:Str}{p1 p2:Pos}(c:Cls X.K C)(n:kB X.K C f)(hv:PE X (.Name x p1) (zH i))(he:QE X e te)
  (hs:swapsWith e (some (.Attribute (.Name x p1) f p2)) pos.line X.env=pure false:=by rfl):QS X (.Assign [.Attribute (.Name x p1) f p2] e pos) (vT C i f te):=by
 refine⟨fun E E' ρ w h=>?_,fun HZ F=>gR (Mi hv he.pe hs) fun D σ H ⟨ρ,E,fr,h,en⟩=>?_⟩
 ·unfold vT at *
  split at h
  ·exact he.mono _ _ _ (fun r q=>⟨q.1,w.nx _ q.2⟩) h
  ·exact h
 ·unfold vT at h
  split at h
  ·rename_i a C' fs hx
   refine⟨HZ,F,he.step fr h fun r y H1 q S1 r1=>?_⟩
   obtain⟨⟨rfl,qf,ql⟩,q2⟩:=q
   have fr1:=fr.mono S1
   obtain⟨hs1,dx,fs1,hv1,rv1⟩:=fr1.sl i _ hx
   have rep:=r1.rep (fun a m=>fr.dom m) qf
   refine⟨_,hs1,a,C',dx,fs1,rfl,hv1,c,n,by rw[rv1.length];exact ql,?_⟩
   refine en.nx _ _ _ (fr1.write (d':=.obj C' (Gu f r.d fs)) hx ⟨dx,_,cT,?_⟩) q2
   have G:Gen X.K (MM F ρ) (MM F ρ) H1 (upd H1 a (.ins C' dx (nO f y fs1))):=Gen.write (.inr ⟨_,mem_of_getElem? hx⟩) (by rw[hv1];trivial)
   exact(RepF.put rep rv1).gen G
  ·exact h.elim
end
def Rf(K:W.Frag)(C:Addr)(sp:Fn):Sp:=fun vs H Q _=>∃(x dx:Addr) (vs':List V) (H0:Hp) (F:Addr->Prop) (ds:List Dv),vs=.ref x::vs'/\H=upd (upd H0 dx (.own x)) x (.ins C dx [])/\H0 x=none/\H0 dx=none/\dx≠x/\OldF K F H0/\Reps K F H0 vs' ds /\
 sp ds (fun r=>∀H',aW H0 H'->eU K F CU H0 (.ref x) r H'->Q .non H')
structure IDef(P:Program)(w:World)(K:W.Frag)(mg:Str->Option Value)(base:Heap)(k:Nat)(x:Str)(C:Addr)(ps:List Str)(sp:Fn):Prop where
 ex:∃f fd,Mk K C f/\mg x=some (.ref C)/\lH K fd ps []/\FnOk P w K mg base DX k f fd ps (Rf K C sp)
structure IAt(K:W.Frag)(mg:Str->Option Value)(x:Str)(C:Addr)(qual:Str)(st:Stmt)(ps:List Str):Prop where
 ex:∃f fd,Mk K C f/\mg x=some (.ref C)/\Fun K "__init__" qual st f fd/\lH K fd ps []
def jW(C a:Addr)(N:List Str)(ds:List Dv):List Sl:=.own a (.obj C [])::(ds.map .v++List.replicate (N.length-(ds.length+1)) .un)
theorem Gm{H0:Hp}{x dx:Addr}{o o':HO}(hx:H0 x=none)(hd:H0 dx=none):aW H0 (upd (upd H0 dx o) x o'):=fun b q e=>by
 rw[bY (bT e hx),bY (bT e hd)]
 exact e
theorem Es{K:W.Frag}{C x dx:Addr}{F:Addr->Prop}{H0:Hp}{N:List Str}{vs:List V}{ds:List Dv}(hx:H0 x=none)(hd:H0 dx=none)(hF:OldF K F H0)(r:Reps K F H0 vs ds):
  Fr K H0 F (start N (.ref x::vs)) (upd (upd H0 dx (.own x)) x (.ins C dx [])) (jW C x N ds):=by
 have S:aW H0 (upd (upd H0 dx (.own x)) x (.ins C dx [])):=Gm hx hd
 have only:∀{a:Addr} {d:Dv},Sl.own a d∈jW C x N ds->a=x:=fun {a d} h=>by
  rcases mem_cons.mp h with h | h
  ·cases h;rfl
  ·rcases mem_append.mp h with h | h
   ·obtain⟨z,_,e⟩:=mem_map.mp h
    cases e
   ·cases eq_of_mem_replicate h
 have wk:∀a,MM F (jW C x N ds) a->F a \/ a=x:=fun a h=>by
  rcases h with h | ⟨d,h⟩
  ·exact .inl h
  ·exact .inr (only h)
 have G:Gen K F (MM F (jW C x N ds)) H0 (upd (upd H0 dx (.own x)) x (.ins C dx [])):=((Gen.fresh hx).trans (.mono S)).trans (.weak wk)
 have hl:=r.length
 have r':=r.gen G
 have zero:∀(i:Nat) (a:Addr) (d:Dv),(jW C x N ds)[i]?=some (.own a d)->i=0:=fun i a d e=>by
  cases i with
  |zero=>rfl
  |succ i=>
   have e':(ds.map Sl.v++List.replicate (N.length-(ds.length+1)) Sl.un)[i]?=some (.own a d):=e
   have:=mem_of_getElem? e'
   rcases mem_append.mp this with h | h
   ·obtain⟨z,_,e⟩:=mem_map.mp h
    cases e
   ·cases eq_of_mem_replicate h
 refine⟨by simp[L2.start,jW,hl],fun i s e=>?_,fun i j a d d' e1 e2=>?_,fun a d h=>by rw[only h];exact hx,S,hF⟩
 ·cases i with
  |zero=>
   cases e
   exact⟨rfl,dx,[],cT,.nil⟩
  |succ i=>
   have e':(ds.map Sl.v++List.replicate (N.length-(ds.length+1)) Sl.un)[i]?=some s:=e
   have es:(start N (.ref x::vs))[i+1]?=(vs.map some++List.replicate (N.length-(vs.length+1)) none)[i]?:=by simp[L2.start]
   rw[es]
   by_cases hi:i<ds.length
   ·rw[List.getElem?_append_left (by simpa using hi),List.getElem?_map] at e'
    cases q:ds[i]? with
    |none=>rw[q] at e';cases e'
    |some d=>
     rw[q] at e'
     cases e'
     obtain⟨y,hy,ry⟩:=r'.get q
     refine⟨y,?_,ry⟩
     rw[List.getElem?_append_left (by simpa using(List.getElem?_eq_some_iff.mp hy).1),List.getElem?_map,hy]
     rfl
   ·rw[List.getElem?_append_right (by simpa using le_of_not_lt hi)] at e'
    have:=mem_of_getElem? e'
    cases eq_of_mem_replicate this
    trivial
 ·rw[zero i a d e1,zero j a d' e2]
theorem IAt.okP{P:Program}{w:World}{K:W.Frag}{mg:Str->Option Value}{base:Heap}{k:Nat}{x qual:Str}{C:Addr}{st:Stmt}{ps N:List Str}{sp:Fn}{t:cO}(m:IAt K mg x C qual st ps)(S:FnScope N ps (aH st))
  (hq:∀(f:Addr) (cdv:Value) (A:Around) (outer:List Env) (s:Shared) (H:Hp) (E:XK),Room k (A.deeper (envOfC qual (aH st) s.heap.objs.size f cdv))->QSs (wY DX P w K mg base N qual (aH st) f cdv A outer s H E).nox (aX st) t)
  (len:∀ds Q,sp ds Q->ds.length+1=ps.length) (hsp:∀ds Q,sp ds Q -> ∀a,t { nx:=fun ρ=>∃d,ρ[0]?=some (.own a d)/\Q (.nw d),rt:=fun _=>False } (jW C a N ds)):IDef P w K mg base (k+1) x C ps sp:=by
 obtain⟨f,fd,M,hm,FF,hb⟩:=m.ex
 refine⟨f,fd,M,hm,hb,FF.ok S (fun vs H Q E ⟨a,dx,vs',H0,F,ds,e,_,_,_,_,_,r,q⟩=>?_) fun cdv A outer s H vs Q E hr q=>?_⟩
 ·rw[e,length_cons,r.length]
  exact len _ _ q
 ·obtain⟨a,dx,vs',H0,F,ds,rfl,rfl,hx,hd,hn,hF,r,q⟩:=q
  refine⟨_,(hq f cdv A outer s _ E hr).run H0 F,jW C a N ds,_,Es hx hd hF r,hsp ds _ q a,?_,fun _ _ _ _ z=>z.elim,fun _ _ _ _ z=>z.elim,fun _ _ _ _ _ z=>z.elim⟩
  rintro ρ σ H' fr ⟨d,hd',q⟩
  have mem:Sl.own a d∈ρ:=mem_of_getElem? hd'
  exact q H' fr.same ⟨a,rfl,hx,(fr.sl 0 _ hd').2.weak fun b z=>z.elim .inl fun z=>.inr ⟨d,by rw[z];exact mem⟩⟩
def EU(sp:Fn)(ts:qJ):eT:=fun ρ Q=>ts ρ fun rs=>sp (rs.map R.d) (back rs Q)
section
variable {X:Cx} {k:Nat} {x:Str} {ps:List Str} {sp:Fn} {e:Expr} {es:List Expr} {ts:qJ} {p pos:Pos} {C:Addr}
theorem Ma(d:IDef X.prog X.w X.K X.mg X.base k x C ps sp)(mo:MonoF sp)(hr:Room (k+1) X.A)(ha:QA X (e::es) ts)(hg:Gl X x:=by rfl)
  (hdb:(x==("__debug__" : Str))=false:=by decide) (he:starEach (e::es) X.env=(false,eval e X.env)::starEach es X.env:=by rfl) (hpl:(backTo pos (starEach es X.env)).any (·.1)=false:=by rfl):
  QE X (.Call (.Name x p) (e::es) [] pos) (EU sp ts):=by
 obtain⟨f,fd,M,hm,hb,FO⟩:=d.ex
 refine⟨fun ρ Q Q' w q=>ha.mono _ _ _ (fun rs q=>mo.mo _ _ _ (pU w) q) q,fun HZ F=>dU (KH M FO hr hg hm hb .nil Dm (ha.run HZ F) hdb he hpl) fun σ H Q ⟨ρ,fr,h⟩=>?_⟩
 refine ha.step fr h fun rs xs H1 q S1 r1=>?_
 intro a dx hx hd hn
 rw[append_nil]
 refine⟨a,dx,xs,H1,lent (MM F ρ) rs,rs.map R.d,rfl,rfl,hx,hd,hn,⟨fun b z=>(fr.mono S1).dom z.1,(fr.mono S1).tab⟩,tP fr (fun _ h=>h) r1,mo.mo _ _ _ (fun r q H' S rx=>?_) q⟩
 exact⟨rfl,q.2 _ H' (S1.trans S) (yP fr S1 rx q.1)⟩
end
section
variable {K:W.Frag} {HZ H1 H':Hp} {F:Addr->Prop} {σ:St} {ρ:List Sl} {a b:Addr}
end
def MV(a:Addr)(N:List Str):List Dv->List Sl
 | []=>[]
 |d::ds=>.own a d::(ds.map .v++List.replicate (N.length-(ds.length+1)) .un)
def OS(i:Nat)(sp:Fn)(ts:qJ):cO:=fun E ρ=>ts ρ fun rs=>match rs with
 | .ow a d::rest=>ρ[i]?=some (.own a d)/\rest.all R.free=true/\sp (d::rest.map R.d) (fun r=>match r with | .nw d'=>∀b,E.nx (ρ.set i (.own b d')) | _=>False)
 |_=>False
section
variable {X:Cx} {k i:Nat} {x y:Str} {ps:List Str} {sp:Fn} {e:Expr} {es:List Expr} {ts:qJ} {p pos pos2 py:Pos}
end
def RU:Dv->Dv->(R->Prop)->Prop
 | .int i,.int j,Q=>LX i j/\Q (.v (.int (i*2 ^ j.toNat)))
 |_,_,_=>False
section
variable {X:Cx}
end
end Z
namespace L2
open AutoSeq1
section
variable {prog:Program} {w:World} {A:Around} {E:Value->Shared->Prop} {s:Shared} {r:Addr} {a b c:Int} {t u v:Tok} {n:Nat}
end
end L2
namespace L2
section
variable {X:Cx}
end
end L2
namespace Z
open L2
section
variable {X:Cx} {a:Expr} {ts:qJ} {p p2 pos:Pos}
def Pz(ts:qJ):eT:=fun ρ Q=>ts ρ fun rs=>match rs.map R.d with
 | [.int j]=>(-(2 ^ 62)<=j/\j<2 ^ 62/\j.toNat<=1000000)/\Q (.v (.tup (bF 0 j.toNat)))
 |_=>False
end
end Z
namespace Tim
open PySem PySem.W PyProof.Rows
def ask(lt:Nat->Nat->Bool)(N:Nat){α:Type}:KasT α->(α->Prop)->Prop
 | .ret a,Q=>Q a
 | .ask i j k,Q=>(i<N/\j<N/\i≠j)/\ask lt N (k (lt i j)) Q
theorem mX{lt:Nat->Nat->Bool}{N:Nat}{α β:Type}{f:α->KasT β}{Q:β->Prop}:∀(t:KasT α),ask lt N t (fun a=>ask lt N (f a) Q)->ask lt N (t.bind f) Q
 | .ret _,h=>h
 | .ask i j k,h=>⟨h.1,mX (k (lt i j)) h.2⟩
theorem JQ{lt:Nat->Nat->Bool}{N:Nat}{α:Type}{cmp:Nat->Nat->(Bool->Shared->Prop)->Shared->Prop}{s:Shared}(hc:∀i j C,i<N->j<N->i≠j->C (lt i j) s->cmp i j C s){Q:α->Shared->Prop}:
  ∀(t:KasT α),ask lt N t (fun a=>Q a s)->t.kasWp cmp Q s
 | .ret _,h=>h
 | .ask i j k,h=>hc i j _ h.1.1 h.1.2.1 h.1.2.2 (JQ hc (k (lt i j)) h.2)
structure Weak(lt:Nat->Nat->Bool):Prop where
 irr:∀a,lt a a=false
 tr:∀a b c,lt a b=true->lt b c=true->lt a c=true
 nt:∀a b c,lt a c=true->lt a b=true \/ lt b c=true
def dO(p:Array Nat)(k:Nat):Nat:=p.getD k 0
theorem CP{p q:Array Nat}{i j:Nat}(h:p[i]?=q[j]?):dO p i=dO q j:=by
 unfold dO
 rw[Array.getD_eq_getD_getElem?,Array.getD_eq_getD_getElem?,h]
theorem mF{p:Array Nat}{i j:Nat}(hj:j<=p.size)(k:Nat):dO (kas_rev p i j) k=if i<=k/\k<j then dO p (i+j-1-k) else dO p k:=by
 have e:=getElem?_mirror_all (i:=i) hj k
 split
 ·rename_i h
  rw[if_pos h] at e
  exact CP e
 ·rename_i h
  rw[if_neg h] at e
  exact CP e
theorem Nz{p:Array Nat}{k d:Nat}(hs:k<p.size)(hd:d<=k)(u:Nat):dO (bubble p k d) u=if u=k-d then dO p k else if k-d<u/\u<=k then dO p (u-1) else dO p u:=by
 have e:=getElem?_bubble hs d hd u
 by_cases h1:u=k-d
 ·rw[if_pos h1] at e ⊢
  exact CP e
 ·rw[if_neg h1] at e ⊢
  by_cases h2:k-d<u/\u<=k
  ·rw[if_pos h2] at e ⊢
   exact CP e
  ·rw[if_neg h2] at e ⊢
   exact CP e
def Pm(N:Nat)(p:Array Nat):Prop:=p.Perm (List.toArray (List.range N))
section
variable {lt:Nat->Nat->Bool} {N:Nat} {p:Array Nat}
theorem Pm.size(h:Pm N p):p.size=N:=by
 have:=Array.Perm.size_eq h
 simpa using this
theorem Pm.list(h:Pm N p):p.toList.Perm (List.range N):=by
 have:=Array.perm_iff_toList_perm.mp h
 simpa using this
theorem rV{k:Nat}(hk:k<p.size):dO p k=p.toList[k]'(by simpa using hk):=by
 unfold dO
 simp[Array.getD,hk]
theorem Pm.ltN(h:Pm N p){k:Nat}(hk:k<N):dO p k<N:=by
 have hs:k<p.size:=by rw[h.size];exact hk
 rw[rV hs]
 exact mem_range.mp (h.list.mem_iff.mp (List.getElem_mem _))
theorem Pm.ne(h:Pm N p){i j:Nat}(hi:i<N)(hj:j<N)(n:i≠j):dO p i≠dO p j:=by
 have nd:p.toList.Nodup:=h.list.nodup_iff.mpr List.nodup_range
 rw[rV (by rw[h.size];exact hi),rV (by rw[h.size];exact hj)]
 intro e
 rcases Nat.lt_or_gt_of_ne n with z | z
 ·exact pairwise_iff_getElem.mp nd i j _ _ z e
 ·exact pairwise_iff_getElem.mp nd j i _ _ z e.symm
theorem Pm.rev(h:Pm N p)(i j:Nat):Pm N (kas_rev p i j):=Array.Perm.trans (mirror_perm _ _ _ _) h
theorem Pm.bub(h:Pm N p)(i j:Nat):Pm N (bubble p i j):=Array.Perm.trans (bubble_perm _ _ _) h
def Tl(N:Nat)(p:Array Nat)(k:Nat):Prop:=∀i,k<=i->i<N->dO p i=i
theorem Tl.up{k m:Nat}(h:Tl N p k)(hm:k<=m):Tl N p m:=fun i hi hn=>h i (le_trans hm hi) hn
theorem Tl.below{k i:Nat}(h:Tl N p k)(P:Pm N p)(hk:i<k)(hn:i<N):dO p i<k:=by
 have:=P.ltN hn
 apply Nat.lt_of_not_le
 intro z
 have e:=h _ z this
 exact P.ne hn this ⋯ e.symm
theorem Tl.rev{k i j:Nat}(h:Tl N p k)(P:Pm N p)(hj:j<=k)(hN:j<=N):Tl N (kas_rev p i j) k:=fun u hu hn=>by
 rw[mF (by rw[P.size];exact hN),if_neg ⋯]
 exact h u hu hn
def GF(lt:Nat->Nat->Bool)(a b:Nat):Prop:=lt b a=false/\(lt a b=true \/ a<b)
theorem GF.trans(W:Weak lt){a b c:Nat}(h:GF lt a b)(k:GF lt b c):GF lt a c:=by
 have n1:lt c a=false:=by
  cases e:lt c a with
  |false=>rfl
  |true=>
   rcases W.nt c b a e with z | z
   ·rw[k.1] at z;cases z
   ·rw[h.1] at z;cases z
 refine⟨n1,?_⟩
 rcases h.2 with x | x
 ·rcases W.nt a c b x with z | z
  ·exact .inl z
  ·rw[k.1] at z;cases z
 ·rcases k.2 with y | y
  ·rcases W.nt b a c y with z | z
   ·rw[h.1] at z;cases z
   ·exact .inl z
  ·exact .inr (lt_trans x y)
theorem Weak.asym(W:Weak lt){a b:Nat}(h:lt a b=true):lt b a=false:=by
 cases e:lt b a with
 |false=>rfl
 |true=>have:=W.tr _ _ _ h e;rw[W.irr] at this;cases this
theorem GF.of(W:Weak lt){a b:Nat}(h:lt a b=true):GF lt a b:=⟨W.asym h,.inl h⟩
def Up(lt:Nat->Nat->Bool)(p:Array Nat)(k:Nat):Prop:=∀u v,u<v->v<k->GF lt (dO p u) (dO p v)
def Dn(lt:Nat->Nat->Bool)(p:Array Nat)(k:Nat):Prop:=∀u v,u<v->v<k->GF lt (dO p v) (dO p u)
theorem Up.rev{k:Nat}(h:Up lt p k)(hk:k<=p.size):Dn lt (kas_rev p 0 k) k:=fun u v huv hv=>by
 rw[mF hk,mF hk,if_pos ⋯,if_pos ⋯]
 exact h _ _ ⋯ ⋯
theorem Dn.rev{k:Nat}(h:Dn lt p k)(hk:k<=p.size):Up lt (kas_rev p 0 k) k:=fun u v huv hv=>by
 rw[mF hk,mF hk,if_pos ⋯,if_pos ⋯]
 exact h _ _ ⋯ ⋯
theorem Up.snoc(W:Weak lt){k:Nat}(h:Up lt p k)(t:Tl N p k)(P:Pm N p)(h1:1<=k)(hk:k<N)(n:lt (dO p k) (dO p (k-1))=false):Up lt p (k+1):=fun u v huv hv=>by
 by_cases e:v=k
 ·subst e
  have one:GF lt (dO p (v-1)) (dO p v):=⟨n,.inr (by rw[t v (le_refl _) hk];exact t.below P ⋯ ⋯)⟩
  by_cases e2:u=v-1
  ·rw[e2];exact one
  ·exact(h u (v-1) ⋯ ⋯).trans W one
 ·exact h u v huv ⋯
theorem Ae(W:Weak lt)(P:Pm N p){Q:Nat->Prop}:∀(f n:Nat),1<=n->n+f<=N->Up lt p n->Tl N p n ->
  (∀m,n<=m->m<=n+f->Up lt p m->(m=n+f \/ m<N/\lt (dO p m) (dO p (m-1))=true)->Q m)->ask lt N (kas_asc p f n) Q
 |0,n,_,hn,u,t,k=>k n (le_refl _) (le_refl _) u (.inl rfl)
 |f+1,n,h1,hn,u,t,k=>by
  refine⟨⟨P.ltN ⋯,P.ltN ⋯,P.ne ⋯ ⋯ ⋯⟩,?_⟩
  show ask lt N (if lt (dO p n) (dO p (n-1))=true then KasT.ret n else kas_asc p f (n+1)) Q
  cases e:lt (dO p n) (dO p (n-1)) with
  |true=>
   rw[if_pos rfl]
   exact k n (le_refl _) ⋯ u (.inr ⟨⋯,e⟩)
  |false=>
   rw[if_neg (by simp)]
   exact Ae W P f (n+1) ⋯ ⋯ (u.snoc W t P h1 ⋯ e) (t.up ⋯) fun m a b c d=>k m ⋯ ⋯ c (d.elim (fun z=>.inl ⋯) .inr)
structure Run(lt:Nat->Nat->Bool)(N:Nat)(p:Array Nat)(n q:Nat):Prop where
 pm:Pm N p
 tl:Tl N p n
 le:q+1<=n
 hi:n<=N
 dn:Dn lt p (n-(q+1))
 same:∀u v,n-(q+1)<=u->u<v->v<n->lt (dO p u) (dO p v)=false/\lt (dO p v) (dO p u)=false/\dO p u<dO p v
 less:∀u v,u<n-(q+1)->n-(q+1)<=v->v<n->lt (dO p v) (dO p u)=true
theorem Run.turn(W:Weak lt){n q:Nat}(h:Run lt N p n q):Dn lt (kas_rev p (n-(q+1)) n) n:=fun u v huv hv=>by
 have hs:n<=p.size:=by rw[h.pm.size];exact h.hi
 have hl:=h.le
 rw[mF hs,mF hs]
 by_cases c:n-(q+1)<=v
 ·rw[if_pos ⟨c,hv⟩]
  by_cases d:n-(q+1)<=u
  ·rw[if_pos ⟨d,⋯⟩]
   obtain⟨a,b,e⟩:=h.same (n-(q+1)+n-1-v) (n-(q+1)+n-1-u) ⋯ ⋯ ⋯
   exact⟨b,.inr e⟩
  ·rw[if_neg ⋯]
   exact GF.of W (h.less u _ ⋯ ⋯ ⋯)
 ·rw[if_neg ⋯,if_neg ⋯]
  exact h.dn u v huv ⋯
theorem Run.flat(W:Weak lt){n:Nat}(h:Run lt N p n 0):Dn lt p n:=fun u v huv hv=>by
 by_cases c:n-1<=v
 ·exact GF.of W (h.less u v ⋯ ⋯ hv)
 ·exact h.dn u v huv ⋯
theorem Run.done(W:Weak lt){n q:Nat}(h:Run lt N p n q):∃p',(if q > 0 then kas_rev p (n-(q+1)) n else p)=p'/\Pm N p'/\Tl N p' n/\Dn lt p' n /\ ∀u,u<n -> ∃w,w<n/\dO p' u=dO p w:=by
 by_cases c:q > 0
 ·refine⟨_,if_pos c,h.pm.rev _ _,h.tl.rev h.pm (le_refl _) h.hi,h.turn W,fun u hu=>?_⟩
  have hl:=h.le
  rw[mF (by rw[h.pm.size];exact h.hi)]
  split
  ·exact⟨_,⋯,rfl⟩
  ·exact⟨u,hu,rfl⟩
 ·have:q=0:=⋯
  subst this
  exact⟨_,if_neg c,h.pm,h.tl,h.flat W,fun u hu=>⟨u,hu,rfl⟩⟩
theorem Run.next(W:Weak lt){n q:Nat}(h:Run lt N p n q)(hn:n<N)(e:lt (dO p n) (dO p (n-1))=true):Run lt N (if q > 0 then kas_rev p (n-(q+1)) n else p) (n+1) 0:=by
 have hl:=h.le
 have all:∀w,w<n->lt (dO p n) (dO p w)=true:=fun w hw=>by
  by_cases c:w=n-1
  ·rw[c];exact e
  ·by_cases d:w<n-(q+1)
   ·exact W.tr _ _ _ e (h.less w (n-1) d ⋯ ⋯)
   ·rcases W.nt _ (dO p w) _ e with z | z
    ·exact z
    ·rw[(h.same w (n-1) ⋯ ⋯ ⋯).1] at z;cases z
 obtain⟨p',ep,P,T,D,A⟩:=h.done W
 rw[ep]
 have en:dO p' n=dO p n:=by rw[T n (le_refl _) hn,h.tl n (le_refl _) hn]
 refine⟨P,T.up ⋯,⋯,hn,by simpa using D,fun u v a b c=>by ac_rfl,fun u v a b c=>?_⟩
 have:v=n:=⋯
 subst this
 obtain⟨w,hw,ew⟩:=A u ⋯
 rw[en,ew]
 exact all w hw
theorem Run.more(W:Weak lt){n q:Nat}(h:Run lt N p n q)(hn:n<N)(e:lt (dO p n) (dO p (n-1))=false)(d:lt (dO p (n-1)) (dO p n)=false):Run lt N p (n+1) (q+1):=by
 have hl:=h.le
 have en:=h.tl n (le_refl _) hn
 have sz:n+1-(q+1+1)=n-(q+1):=⋯
 refine⟨h.pm,h.tl.up ⋯,⋯,hn,by rw[sz];exact h.dn,fun u v a b c=>?_,fun u v a b c=>?_⟩
 ·rw[sz] at a
  by_cases z:v=n
  ·subst z
   have lw:dO p u<dO p v:=by rw[en];exact h.tl.below h.pm b ⋯
   by_cases y:u=v-1
   ·subst y;exact⟨d,e,lw⟩
   ·obtain⟨s1,s2,_⟩:=h.same u (v-1) a ⋯ ⋯
    refine⟨?_,?_,lw⟩
    ·cases q1:lt (dO p u) (dO p v) with
     |false=>rfl
     |true=>
      rcases W.nt _ (dO p (v-1)) _ q1 with x | x
      ·rw[s1] at x;cases x
      ·rw[d] at x;cases x
    ·cases q1:lt (dO p v) (dO p u) with
     |false=>rfl
     |true=>
      rcases W.nt _ (dO p (v-1)) _ q1 with x | x
      ·rw[e] at x;cases x
      ·rw[s2] at x;cases x
  ·exact h.same u v a b ⋯
 ·rw[sz] at a b
  by_cases z:v=n
  ·subst z
   rcases W.nt _ (dO p v) _ (h.less u (v-1) a ⋯ ⋯) with x | x
   ·rw[d] at x;cases x
   ·exact x
  ·exact h.less u v a b ⋯
theorem sY(W:Weak lt){Q:Array Nat×Nat×Nat->Prop}:∀(f:Nat) (p:Array Nat) (n q:Nat),n+f<=N->Run lt N p n q->(∀p' n' q',n<=n'->n'<=n+f->Run lt N p' n' q'->Q (p',n',q'))->ask lt N (kas_desc f p n q) Q
 |0,p,n,q,hn,r,k=>k p n q (le_refl _) (le_refl _) r
 |f+1,p,n,q,hn,r,k=>by
  have hl:=r.le
  refine⟨⟨r.pm.ltN ⋯,r.pm.ltN ⋯,r.pm.ne ⋯ ⋯ ⋯⟩,?_⟩
  show ask lt N (if lt (dO p n) (dO p (n-1))=true then (if q > 0 then kas_desc f (kas_rev p (n-(q+1)) n) (n+1) 0 else kas_desc f p (n+1) 0)
   else .ask (p.getD (n-1) 0) (p.getD n 0) fun d=>if d=true then .ret (p,n,q) else kas_desc f p (n+1) (q+1)) Q
  cases e:lt (dO p n) (dO p (n-1)) with
  |true=>
   rw[if_pos rfl]
   have r':=r.next W ⋯ e
   by_cases c:q > 0
   ·rw[if_pos c] at r' ⊢
    exact sY W f _ (n+1) 0 ⋯ r' fun p' n' q' a b c=>k p' n' q' ⋯ ⋯ c
   ·rw[if_neg c] at r' ⊢
    exact sY W f _ (n+1) 0 ⋯ r' fun p' n' q' a b c=>k p' n' q' ⋯ ⋯ c
  |false=>
   rw[if_neg (by simp)]
   refine⟨⟨r.pm.ltN ⋯,r.pm.ltN ⋯,r.pm.ne ⋯ ⋯ ⋯⟩,?_⟩
   show ask lt N (if lt (dO p (n-1)) (dO p n)=true then .ret (p,n,q) else kas_desc f p (n+1) (q+1)) Q
   cases d:lt (dO p (n-1)) (dO p n) with
   |true=>
    rw[if_pos rfl]
    exact k p n q (le_refl _) ⋯ r
   |false=>
    rw[if_neg (by simp)]
    exact sY W f _ (n+1) (q+1) ⋯ (r.more W ⋯ e d) fun p' n' q' a b c=>k p' n' q' ⋯ ⋯ c
def SB(lt:Nat->Nat->Bool)(N:Nat)(r:Nat×Array Nat):Prop:=1<=r.1/\r.1<=N/\Pm N r.2/\Up lt r.2 r.1/\Tl N r.2 r.1
theorem Aw(W:Weak lt){n:Nat}{Q:Nat×Array Nat->Prop}(P:Pm N p)(h1:1<=n)(hn:n<=N)(D:Dn lt p n)(T:Tl N p n)(k:∀r,SB lt N r->Q r):ask lt N (kas_tail3 n N p) Q:=by
 unfold kas_tail3
 have P':=P.rev 0 n
 have T':Tl N (kas_rev p 0 n) n:=T.rev P (le_refl _) hn
 refine mX _ (Ae W P' (N-n) n h1 ⋯ (D.rev (by rw[P.size];exact hn)) T' fun m a b c d=>?_)
 exact k _ ⟨by show 1<=m;ac_rfl,by show m<=N;ac_rfl,P',c,T'.up a⟩
theorem BG(W:Weak lt){n:Nat}{Q:Nat×Array Nat->Prop}(P:Pm N p)(h1:1<=n)(hn:n<N)(D:Dn lt p n)(T:Tl N p n)(e:∀w,w<n->lt (dO p n) (dO p w)=true)(k:∀r,SB lt N r->Q r):ask lt N (kas_descPart n N p) Q:=by
 unfold kas_descPart
 have r0:Run lt N p (n+1) 0:=⟨P,T.up ⋯,⋯,hn,by simpa using D,fun u v a b c=>by ac_rfl,fun u v a b c=>by
  have:v=n:=⋯
  subst this
  exact e u ⋯⟩
 refine mX _ (sY W _ p (n+1) 0 ⋯ r0 fun p' n' q' a b r=>?_)
 obtain⟨p2,ep,P2,T2,D2,_⟩:=r.done W
 show ask lt N (if q' > 0 then kas_tail3 n' N (kas_rev p' (n'-(q'+1)) n') else kas_tail3 n' N p') Q
 by_cases c:q' > 0
 ·rw[if_pos c] at ep ⊢
  rw[ep]
  exact Aw W P2 ⋯ ⋯ D2 T2 k
 ·rw[if_neg c] at ep ⊢
  rw[ep]
  exact Aw W P2 ⋯ ⋯ D2 T2 k
theorem G8(W:Weak lt){Q:Nat×Array Nat->Prop}(P:Pm N p)(h1:1<=N)(T:Tl N p 0)(k:∀r,SB lt N r->Q r):ask lt N (kas_count N p) Q:=by
 unfold kas_count
 refine mX _ (Ae W P (N-1) 1 (le_refl _) ⋯ (fun u v a b=>by ac_rfl) (T.up ⋯) fun m a b c d=>?_)
 by_cases z:m=N
 ·rw[if_pos (by simpa using z)]
  exact k _ ⟨a,by show m<=N;ac_rfl,P,c,T.up ⋯⟩
 ·rw[if_neg (by simpa using z)]
  have hm:m<N/\lt (dO p m) (dO p (m-1))=true:=d.resolve_left ⋯
  by_cases y:m > 1
  ·rw[if_pos y]
   refine⟨⟨P.ltN ⋯,P.ltN ⋯,P.ne ⋯ ⋯ ⋯⟩,?_⟩
   show ask lt N (if lt (dO p 0) (dO p (m-1))=true then .ret (m,p) else kas_descPart m N (kas_rev p 0 m)) Q
   cases e:lt (dO p 0) (dO p (m-1)) with
   |true=>
    rw[if_pos rfl]
    exact k _ ⟨a,by show m<=N;ac_rfl,P,c,T.up ⋯⟩
   |false=>
    rw[if_neg (by simp)]
    have hs:m<=p.size:=by rw[P.size];ac_rfl
    refine BG W (P.rev _ _) a hm.1 (c.rev hs) ((T.up (zero_le m)).rev P (le_refl _) ⋯) (fun w hw=>?_) k
    rw[mF hs,mF hs,if_neg ⋯,if_pos ⋯]
    have m0:lt (dO p m) (dO p 0)=true:=by
     rcases W.nt _ (dO p 0) _ hm.2 with x | x
     ·exact x
     ·rw[e] at x;cases x
    by_cases w0:0+m-1-w=0
    ·rw[w0];exact m0
    ·rcases W.nt _ (dO p (0+m-1-w)) _ m0 with x | x
     ·exact x
     ·rw[(c 0 (0+m-1-w) ⋯ ⋯).1] at x;cases x
  ·rw[if_neg y]
   have:m=1:=⋯
   subst this
   refine BG W P a hm.1 (fun u v a b=>by ac_rfl) (T.up ⋯) (fun w hw=>?_) k
   have:w=0:=⋯
   subst this
   exact hm.2
theorem tK(W:Weak lt)(P:Pm N p){k:Nat}(hk:k<N)(U:Up lt p k){Q:Nat->Prop}:∀(f l r:Nat),l<=r->r<=k->r-l<=f->(∀u,u<l->lt (dO p k) (dO p u)=false)->(∀u,r<=u->u<k->lt (dO p k) (dO p u)=true) ->
  (∀l',l'<=k->(∀u,u<l'->lt (dO p k) (dO p u)=false)->(∀u,l'<=u->u<k->lt (dO p k) (dO p u)=true)->Q l')->ask lt N (kas_place p k f l r) Q
 |0,l,r,hl,hr,hf,a,b,g=>by
  have:r=l:=⋯
  subst this
  exact g r hr a b
 |f+1,l,r,hl,hr,hf,a,b,g=>by
  unfold kas_place
  by_cases c:l >= r
  ·rw[if_pos c]
   have:r=l:=⋯
   subst this
   exact g r hr a b
  ·rw[if_neg c]
   have hm:(l+r) / 2<r:=⋯
   have hm2:l<=(l+r) / 2:=⋯
   generalize (l+r) / 2=mid at *
   refine⟨⟨P.ltN hk,P.ltN ⋯,P.ne hk ⋯ ⋯⟩,?_⟩
   show ask lt N (if lt (dO p k) (dO p mid)=true then kas_place p k f l mid else kas_place p k f (mid+1) r) Q
   cases e:lt (dO p k) (dO p mid) with
   |true=>
    rw[if_pos rfl]
    refine tK W P hk U f l mid hm2 ⋯ ⋯ a (fun u h1 h2=>?_) g
    by_cases z:u=mid
    ·rw[z];exact e
    ·rcases W.nt _ (dO p u) _ e with x | x
     ·exact x
     ·rw[(U mid u ⋯ h2).1] at x;cases x
   |false=>
    rw[if_neg (by simp)]
    refine tK W P hk U f (mid+1) r ⋯ hr ⋯ (fun u hu=>?_) b g
    by_cases z:u=mid
    ·rw[z];exact e
    ·cases q:lt (dO p k) (dO p u) with
     |false=>rfl
     |true=>
      rcases W.nt _ (dO p mid) _ q with x | x
      ·rw[e] at x;cases x
      ·rw[(U u mid ⋯ ⋯).1] at x;cases x
theorem Ed(W:Weak lt){Q:Array Nat->Prop}:∀(f:Nat) (p:Array Nat) (k:Nat),k+f=N->Pm N p->Up lt p k->Tl N p k->(∀p',Pm N p'->Up lt p' N->Q p')->ask lt N (kas_bin f p k) Q
 |0,p,k,hk,P,U,T,g=>by
  have:k=N:=⋯
  subst this
  exact g p P U
 |f+1,p,k,hk,P,U,T,g=>by
  refine mX _ (tK W P ⋯ U k 0 k (zero_le _) (le_refl _) ⋯ (fun u h=>by ac_rfl) (fun u h1 h2=>by ac_rfl) fun l hl a b=>?_)
  have hs:k<p.size:=by rw[P.size];ac_rfl
  have e:∀u,dO (bubble p k (k-l)) u=if u=l then dO p k else if l<u/\u<=k then dO p (u-1) else dO p u:=fun u=>by
   rw[Nz hs ⋯ u,show k-(k-l)=l by ac_rfl]
  refine Ed W f _ (k+1) ⋯ (P.bub _ _) (fun u v huv hv=>?_) (fun i hi hn=>?_) g
  ·have tk:=T k (le_refl _) ⋯
   rw[e u,e v]
   by_cases u1:u=l
   ·rw[if_pos u1,if_neg ⋯,if_pos ⋯]
    exact GF.of W (b (v-1) ⋯ ⋯)
   ·rw[if_neg u1]
    by_cases v1:v=l
    ·rw[if_pos v1,if_neg ⋯]
     exact⟨a u ⋯,.inr (by rw[tk];exact T.below P ⋯ ⋯)⟩
    ·rw[if_neg v1]
     by_cases u2:l<u
     ·rw[if_pos ⋯,if_pos ⋯]
      exact U _ _ ⋯ ⋯
     ·rw[if_neg ⋯]
      by_cases v2:l<v
      ·rw[if_pos ⋯]
       exact U _ _ ⋯ ⋯
      ·rw[if_neg ⋯]
       exact U _ _ ⋯ ⋯
  ·rw[e i,if_neg ⋯,if_neg ⋯]
   exact T i ⋯ hn
theorem Gi(W:Weak lt)(h1:1<=N){Q:Array Nat->Prop}(k:∀p',Pm N p'->Up lt p' N->Q p'):ask lt N (kas_sort N) Q:=by
 unfold kas_sort
 refine mX _ (G8 W (Array.Perm.refl _) h1 (fun i _ hi=>by simp[dO,Array.getD,hi]) fun r g=>?_)
 obtain⟨a,b,c,d,e⟩:=g
 by_cases z:r.1<N
 ·rw[if_pos z]
  have:max r.1 1=r.1:=⋯
  rw[this]
  exact Ed W _ r.2 r.1 ⋯ c d e k
 ·rw[if_neg z]
  have:r.1=N:=⋯
  rw[this] at d
  exact k _ c d
end
end Tim
namespace L2
open PySem PySem.Spec PySem.W PyProof.Rows Tim
abbrev picked(vs:List Value)(p:Array Nat):List Value:=p.toList.map fun i=>vs.getD i Value.none
structure Cmp(prog:Program)(w:World)(s:Shared)(a:Addr)(vs:List Value)(lt:Nat->Nat->Bool)(κ:SortKind):Prop where
 wk:Weak lt
 kind:∀(A:Around) (h:Heap) (Q:SortKind->Shared->Prop),(∀b o,b≠a->s.heap.get? b=some o->h.get? b=some o)->Q κ { s with heap:=h }->wpAny (model prog w) A (keyKind' vs.toArray) Q (fun _ _=>False) { s with heap:=h }
 less:∀(A:Around) (h:Heap) (i j:Nat) (C:Bool->Shared->Prop),(∀b o,b≠a->s.heap.get? b=some o->h.get? b=some o)->i<vs.length->j<vs.length->i≠j->C (lt i j) { s with heap:=h } ->
  wpAny (model prog w) A (keyLt' κ (vs.getD i Value.none) (vs.getD j Value.none)) C (fun _ _=>False) { s with heap:=h }
section
variable {prog:Program} {w:World} {A:Around} {E:Value->Shared->Prop} {s:Shared}
theorem FD(vs:List Value):picked vs (List.toArray (List.range vs.length))=vs:=by
 apply ext_getElem?
 intro i
 by_cases h:i<vs.length
 ·simp[picked,h]
 ·simp[picked,h]
theorem Eu{a:Addr}{vs:List Value}{n:Nat}{lt:Nat->Nat->Bool}{κ:SortKind}{P:Fin->Shared->Prop}(ho:s.heap.get? a=some (seqObj "list" vs.toArray n))(h64:vs.length<64)(c:2<=vs.length->Cmp prog w s a vs lt κ)
  (k:∀p,Pm vs.length p->Up lt p vs.length->P (.done (.ret .none)) { s with heap:=sortedHeap s.heap a vs (picked vs p).toArray }):wpAny (model prog w) A (Builtin.«list.sort» ⟨[.ref a],[]⟩) P E s:=by
 have la:a<s.heap.objs.size:=Heap.lt_size ho
 let h1:=s.heap.update a (Obj.mapSeq fun _=>#[])
 let h2:=h1.push (seqObj "tuple" vs.toArray 0)
 let h3:=h2.push (seqObj "list" #[] 0)
 obtain⟨m,g1⟩:∃m,h1.get? a=some (seqObj "list" #[] m):=⟨_,get?_update_seq ho fun _=>#[]⟩
 have sz1:h1.objs.size=s.heap.objs.size:=Heap.size_update ..
 have keep:∀b o,b≠a->s.heap.get? b=some o->h3.get? b=some o:=fun b o hb e=>
  Heap.get?_push_of_some _ (Heap.get?_push_of_some _ ((Heap.get?_update_ne _ _ _ _ hb).trans e))
 have g3:h3.get? a=some (seqObj "list" #[] m):=Heap.get?_push_of_some _ (Heap.get?_push_of_some _ g1)
 have line:vs.length<=sizeLine:=by rw[sizeLine_eq];ac_rfl
 have fin:∀p,Pm vs.length p->Up lt p vs.length->wpAny (model prog w) A (do
   let touched:=(<- seqEpoch a) != m
   Builtin.List.listUpdate (.ref a) fun _=>(picked vs p).toArray
   if touched then rule "list.sort.modified";raiseError "ValueError" "list modified during sort"
   ret .none) P E { s with heap:=h3 }:=fun p pm up=>by
  have sz:(picked vs p).toArray.size=vs.length:=by simp[picked,pm.size]
  refine wpAny_bind (seqEpoch_at g3 rfl (wpAny_bind (listUpdate_at g3 rfl ?_ (zero_le _) (by rw[sz];ac_rfl))))
  rw[show (m != m)=false by simp]
  exact wpAny_pure (k p pm up)
 rw[list_sort_plain]
 refine wpAny_bind (listItems_at ho rfl (wpAny_bind (listUpdate_at ho rfl ?_ (by simpa using line) (zero_le _))))
 refine wpAny_bind (seqEpoch_at g1 rfl (wpAny_bind (wpAny_newTuple (wpAny_bind (wpAny_newList (wpAny_holding ?_) (zero_le _))) (by simpa using line))))
 show wpAny (model prog w) A _ P E { s with heap:=h3 }
 dsimp only
 by_cases two:2<=vs.length
 ·have big:¬vs.toArray.size<2:=by simpa using two
  rw[if_neg big,if_neg big]
  have cc:=c two
  refine wpAny_bind (wpAny_mono (cc.kind A h3 (fun x s'=>x=κ/\s'={ s with heap:=h3 }) keep ⟨rfl,rfl⟩) (fun x s' e=>?_) fun _ _ z=>z.elim)
  obtain⟨rfl,rfl⟩:=e
  have tree:(kas_sort vs.length).kasWp (kas_ask prog w A x vs) (fun p s'=>(Pm vs.length p/\Up lt p vs.length)/\s'={ s with heap:=h3 }) { s with heap:=h3 }:=
   JQ (lt:=lt) (N:=vs.length) (fun i j C hi hj hn q=>cc.less A h3 i j C keep hi hj hn q) _ (Gi cc.wk ⋯ fun p a b=>⟨⟨a,b⟩,rfl⟩)
  refine wpAny_bind (wpAny_mono (kat_run (E:=E) (Q:=fun st' s'=>∃p,(Pm vs.length p/\Up lt p vs.length)/\arrOf st'=p.map (kas_item (vs.toArray.zip vs.toArray))/\failedOf st'=none/\s'={ s with heap:=h3 })
   rfl two h64 (fun p st' s' _ a b q=>⟨p,q.1,a,b,q.2⟩) tree) (fun r s' q=>?_) fun _ _ z=>z)
  obtain⟨⟨⟩,st'⟩:=r
  obtain⟨p,⟨pm,up⟩,e1,e2,rfl⟩:=q
  dsimp only at e1 e2 ⊢
  rw[kat_snds rfl e1,e2]
  exact fin p pm up
 ·have few:vs.toArray.size<2:=by simp;ac_rfl
  rw[if_pos few,if_pos few]
  refine wpAny_bind (wpAny_pure ?_)
  rw[StateT.run_pure]
  refine wpAny_bind (wpAny_pure ?_)
  dsimp only
  have e:((arrOf (SortSt.mk' general' (vs.toArray.zip vs.toArray) #[] 7 none)).map fun x=>x.2)=(picked vs (List.toArray (List.range vs.length))).toArray:=by
   rw[FD]
   apply Array.toList_inj.mp
   show ((vs.toArray.zip vs.toArray).map fun x=>x.2).toList=_
   simp
   apply ext_getElem?
   intro i
   by_cases hi:i<vs.length
   ·simp[hi]
   ·simp[hi]
  rw[e]
  exact fin _ (Array.Perm.refl _) fun u v h1 h2=>by ac_rfl
theorem Et{l:Addr}{vs:List Value}{lt:Nat->Nat->Bool}{κ:SortKind}{Q:Value->Shared->Prop}(hl:s.heap.IsList l vs.toArray)(h64:vs.length<64)(c:2<=vs.length->Cmp prog w s s.heap.objs.size vs lt κ)
  (k:∀p,Pm vs.length p->Up lt p vs.length->Q (.ref (s.heap.objs.size+1)) { s with heap:=sortedAll s.heap vs (picked vs p).toArray }):wpAny (model prog w) A (call (.builtin "sorted") [.ref l]) Q E s:=by
 have line:vs.length<=sizeLine:=by rw[sizeLine_eq];ac_rfl
 let h1:=(s.heap.push (seqObj "list" #[] 0)).update s.heap.objs.size (Obj.mapSeq (· ++ vs.toArray))
 let h2:=h1.push (seqObj "list" vs.toArray 0)
 have sz:h1.objs.size=s.heap.objs.size+1:=(Heap.size_update ..).trans (size_push' _ _)
 have old:∀b o,s.heap.get? b=some o->h2.get? b=some o:=fun b o e=>
  Heap.get?_push_of_some _ ((Heap.get?_update_ne _ _ _ _ (ne_of_lt (Heap.lt_size e))).trans (Heap.get?_push_of_some _ e))
 have mine:h2.get? (s.heap.objs.size+1)=some (seqObj "list" vs.toArray 0):=sz ▸ Heap.get?_push_size h1 rfl
 refine Calls.call_function_entry kind_sorted plain_sorted entry_sorted (args_sorted1 _) ?_
 unfold Builtin.«sorted»
 refine wpAny_bind (m:=checkCount "sorted" 1 1 _) (wpAny_pure (wpAny_bind (collect_list hl (wpAny_bind (wpAny_newList ?_ line)) line)))
 show wpAny _ _ _ _ _ { s with heap:=h2 }
 rw[show ((s.heap.push (seqObj "list" #[] 0)).update s.heap.objs.size (Obj.mapSeq (· ++ vs.toArray))).objs.size=s.heap.objs.size+1 from sz]
 refine wpAny_bind (wpAny_holding (wpAny_call_entry slot_list_sort ⟨_,mine,rfl⟩ entry_list_sort ?_ (args_list_sort _)))
 refine Eu (s:={ s with heap:=h2 }) (lt:=lt) (κ:=κ) mine h64 (fun two=>?_) fun p a b=>⟨_,rfl,wpAny_pure ⟨_,rfl,k p a b⟩⟩
 ·have cc:=c two
  exact⟨cc.wk,fun A h Q hk q=>cc.kind A h Q (fun b o hb e=>hk b o (fun z=>by have y:=Heap.lt_size e;rw[z] at y;exact Nat.not_succ_lt_self y) (old b o e)) q,
   fun A h i j C hk hi hj hn q=>cc.less A h i j C (fun b o hb e=>hk b o (fun z=>by have y:=Heap.lt_size e;rw[z] at y;exact Nat.not_succ_lt_self y) (old b o e)) hi hj hn q⟩
end
def lexB:List Int->List Int->Bool
 | [],[]=>false
 | [],_::_=>true
 |_::_,[]=>false
 |a::r,b::t=>if a=b then lexB r t else decide (a<b)
theorem jO:∀a,lexB a a=false
 | []=>rfl
 |a::r=>by rw[lexB,if_pos rfl];exact jO r
theorem pP:∀a b c,lexB a b=true->lexB b c=true->lexB a c=true
 | [],[],_,h,_=>by cases h
 | [],_::_,[],_,k=>by cases k
 | [],_::_,_::_,_,_=>rfl
 |_::_,[],_,h,_=>by cases h
 |_::_,_::_,[],_,k=>by cases k
 |a::r,b::t,c::u,h,k=>by
  unfold lexB at h k ⊢
  by_cases e:a=b
  ·rw[if_pos e] at h
   subst e
   by_cases e2:a=c
   ·rw[if_pos e2] at k ⊢
    exact pP r t u h k
   ·rw[if_neg e2] at k ⊢
    exact k
  ·rw[if_neg e] at h
   have h1:=of_decide_eq_true h
   by_cases e2:b=c
   ·subst e2
    rw[if_neg e]
    exact h
   ·rw[if_neg e2] at k
    have h2:=of_decide_eq_true k
    rw[if_neg ⋯]
    exact decide_eq_true ⋯
theorem p5:∀a b,a≠b->lexB a b=true \/ lexB b a=true
 | [],[],h=>absurd rfl h
 | [],_::_,_=>.inl rfl
 |_::_,[],_=>.inr rfl
 |a::r,b::t,h=>by
  unfold lexB
  by_cases e:a=b
  ·subst e
   rw[if_pos rfl,if_pos rfl]
   exact p5 r t fun z=>h (by rw[z])
  ·rw[if_neg e,if_neg (Ne.symm e)]
   rcases lt_or_gt_of_ne e with z | z
   ·exact .inl (decide_eq_true z)
   ·exact .inr (decide_eq_true z)
theorem Fb(f:Nat->List Int):Weak fun i j=>lexB (f i) (f j):=by
 refine⟨fun a=>jO _,fun a b c=>pP _ _ _,fun a b c h=>?_⟩
 by_cases e:f a=f b
 ·exact .inr (by rw[<- e];exact h)
 ·rcases p5 _ _ e with z | z
  ·exact .inl z
  ·exact .inr (pP _ _ _ z h)
section
variable {prog:Program} {w:World} {A:Around} {s:Shared} {C:Bool->Shared->Prop} {fin:Bool}
theorem Bs:∀(ns ms:List Int) (us vs ru rv:List Value) (i:Nat),IntsAre us ns->IntsAre vs ms->ns.length=ms.length->ns≠ms->C (lexB ns ms) s->KatLex prog w A true fin C ((us++ru).zip (vs++rv)) i s
 | [],[],_,_,_,_,_,_,_,_,n,_=>absurd rfl n
 | [],_::_,_,_,_,_,_,_,_,l,_,_=>by cases l
 |_::_,[],_,_,_,_,_,_,_,l,_,_=>by cases l
 |a::r,b::t,_,_,ru,rv,i,.cons _ x hu,.cons _ y hv,l,n,q=>by
  unfold lexB at q
  refine kat_cons (wpAny_eqBool_int (kat_go (fun e=>kat_yes ?_) fun e=>kat_no ?_))
  ·have e':a=b:=by simpa using e
   rw[if_pos e'] at q
   exact Bs r t _ _ ru rv (i+1) hu hv (by simpa using l) (fun z=>n (by rw[e',z])) q
  ·have e':¬a=b:=by simpa using e
   rw[if_neg e'] at q
   by_cases z:i=0
   ·rw[show (true&&i==0)=true by simp[z]]
    exact oneLt_int q
   ·rw[show (true&&i==0)=false by simp[z]]
    exact kat_one _ _ (lt_int q)
end
section
variable {X:Cx}
abbrev OA:=Addr×List Int×List V
theorem KF{α:Type}{N:Nat}{p:Array Nat}(P:Pm N p)(xs:List α)(hl:xs.length=N)(d:α):(p.toList.map fun i=>xs.getD i d).Perm xs:=by
 have e:(List.range N).map (fun i=>xs.getD i d)=xs:=by
  apply ext_getElem?
  intro i
  by_cases h:i<N
  ·simp[h,hl]
  ·simp[h,hl]
 have:=P.list.map fun i=>xs.getD i d
 rwa[e] at this
theorem Ap{α:Type}{N:Nat}{p:Array Nat}{lt:Nat->Nat->Bool}(P:Pm N p)(U:Up lt p N)(xs:List α)(d:α)(Rel:α->α->Prop)(hR:∀i j,i<N->j<N->GF lt i j->Rel (xs.getD i d) (xs.getD j d)):
  (p.toList.map fun i=>xs.getD i d).Pairwise Rel:=by
 rw[pairwise_map]
 rw[pairwise_iff_getElem]
 intro i j hi hj hij
 have si:i<p.size:=by simpa using hi
 have sj:j<p.size:=by simpa using hj
 have b:=U i j hij (by rw[<- P.size];exact sj)
 rw[rV si,rV sj] at b
 have:=P.ltN (k:=i) (by rw[<- P.size];exact si)
 have:=P.ltN (k:=j) (by rw[<- P.size];exact sj)
 rw[rV si] at *
 rw[rV sj] at *
 exact hR _ _ (by assumption) (by assumption) b
theorem AW:gO X (.builtin "sorted") (fun xs H Q=>∃(p:Addr) (its:List OA) (k:Nat),xs=[.ref p]/\gM X.K H p (its.map fun t=>V.ref t.1)/\its.length<64/\(∀t∈its,mY X.K H t.1 (t.2.1.map V.int++t.2.2)/\t.2.1.length=k+1) /\
  its.Pairwise (fun t u=>t.2.1≠u.2.1) /\ ∀its':List OA,its'.Perm its->its'.Pairwise (fun t u=>lexB t.2.1 u.2.1=true) -> ∀l,H l=none->Q (.ref l) (upd H l (.lst (its'.map fun t=>V.ref t.1)))):=by
 intro pj s σ H xs us Q I r h
 obtain⟨p,its,k,rfl,hl,h64,hits,hd,q⟩:=h
 obtain⟨u,rfl,ru⟩:=lJ r
 cases ru
 obtain⟨vs,rv,pl,hz⟩:=I.list hl
 have ev:vs=its.map fun t=>Value.ref t.1:=by
  clear hl hz h64 hits hd q pl
  induction its generalizing vs with
  |nil=>cases rv;rfl
  |cons t r ih=>
   cases rv with
   |cons a b=>rw[map_cons,<- ih _ b];cases a;rfl
 subst ev
 have len:(its.map fun t=>Value.ref t.1).length=its.length:=by simp
 let num:Nat->List Int:=fun i=>(its.getD i (0,[],[])).2.1
 have get:∀i,i<its.length->(its.map fun t=>Value.ref t.1).getD i Value.none=Value.ref (its.getD i (0,[],[])).1:=fun i hi=>by simp[hi]
 have mem:∀i,i<its.length->its.getD i (0,[],[])∈its:=fun i hi=>by
  rw[List.getD_eq_getElem?_getD,List.getElem?_eq_getElem hi]
  exact List.getElem_mem hi
 have ne:∀i j,i<its.length->j<its.length->i≠j->num i≠num j:=fun i j hi hj n=>by
  have e:∀i,i<its.length->num i=(its[i]!).2.1:=fun i hi=>by simp[num,hi]
  have pw:=pairwise_iff_getElem.mp hd
  have ei:its.getD i (0,[],[])=its[i]:=by simp[hi]
  have ej:its.getD j (0,[],[])=its[j]:=by simp[hj]
  show (its.getD i (0,[],[])).2.1≠(its.getD j (0,[],[])).2.1
  rw[ei,ej]
  rcases Nat.lt_or_gt_of_ne n with z | z
  ·exact pw i j hi hj z
  ·exact(pw j i hj hi z).symm
 have tup:∀t∈its,∃(o:Obj) (a b:List Value) (n:Nat),s.heap.get? t.1=some o/\o.cls=.type "tuple" /\ o.data=.seq (a++b).toArray n/\IntsAre a t.2.1:=fun t ht=>by
  obtain⟨z,r',⟨o,ho,hc,n,hd'⟩,_⟩:=I.tuple (hits t ht).1
  obtain⟨a,b,rfl,ra,rb⟩:∃a b,z=a++b/\bV (t.2.1.map V.int) a/\bV t.2.2 b:=by
   clear hd' ho hc
   generalize t.2.1.map V.int=m at r'
   induction m generalizing z with
   |nil=>exact⟨[],z,rfl,.nil,r'⟩
   |cons x y ih=>
    cases r' with
    |cons x1 x2=>
     obtain⟨a,b,rfl,ra,rb⟩:=ih _ x2
     exact⟨_::a,b,rfl,.cons x1 ra,rb⟩
  exact⟨o,a,b,n,ho,hc,hd',rC ra⟩
 have cmp:2<=(its.map fun t=>Value.ref t.1).length->Cmp X.prog X.w s s.heap.objs.size (its.map fun t=>Value.ref t.1) (fun i j=>lexB (num i) (num j)) (tuples' true):=fun two=>by
  have far:∀{b o},s.heap.get? b=some o->b≠s.heap.objs.size:=fun e=>ne_of_lt (Heap.lt_size e)
  refine⟨Fb num,fun A h Q' hk q'=>?_,fun A h i j C hk hi hj hn q'=>?_⟩
  ·have go:∀l:List OA,(∀t∈l,t∈its) -> ∃fs:List Value,KatTups h (l.map fun t=>Value.ref t.1) fs/\fs.length=l.length /\ ∀v∈fs,∃x y,v=Value.int x y:=by
    intro l
    induction l with
    |nil=>intro _;exact⟨[],.nil,rfl,fun v hv=>by cases hv⟩
    |cons t r ih=>
     intro hm
     obtain⟨fs,kt,e,al⟩:=ih fun u hu=>hm u (mem_cons_of_mem _ hu)
     have ht:=hm t (mem_cons_self ..)
     obtain⟨o,a,b,n,ho,hc,hd',ia⟩:=tup t ht
     obtain⟨x,rest,ex⟩:∃x rest,t.2.1=x::rest:=by
      have:=(hits t ht).2
      cases e':t.2.1 with
      |nil=>rw[e'] at this;cases this
      |cons x rest=>exact⟨x,rest,rfl⟩
     rw[ex] at ia
     cases ia with
     |cons _ y ia'=>
      refine⟨Value.int x y::fs,KatTups.cons (hk _ _ (far ho) ho) hc hd' (by simp) kt,by simp[e],fun v hv=>?_⟩
      rcases mem_cons.mp hv with rfl | hv
      ·exact⟨x,y,rfl⟩
      ·exact al v hv
   obtain⟨fs,kt,e,al⟩:=go its fun _ h=>h
   refine kat_kind (s:={ s with heap:=h }) (T:=.type "int") kt (by rw[e];simp at two;ac_rfl) (fun v hv=>?_) ∅ q'
   obtain⟨x,y,rfl⟩:=al v hv
   exact Looks.of_pure rfl
  ·rw[len] at hi hj
   rw[get i hi,get j hj]
   obtain⟨o,a,b,n,ho,hc,hd',ia⟩:=tup _ (mem i hi)
   obtain⟨o2,a2,b2,n2,ho2,hc2,hd2,ia2⟩:=tup _ (mem j hj)
   refine kat_lt (s:={ s with heap:=h }) (hk _ _ (far ho) ho) hd' (hk _ _ (far ho2) ho2) hd2 ?_
   exact Bs _ _ a a2 b b2 0 ia ia2 (by rw[(hits _ (mem i hi)).2,(hits _ (mem j hj)).2]) (ne i j hi hj hn) q'
 refine Et (lt:=fun i j=>lexB (num i) (num j)) (κ:=tuples' true) pl.isList (by rw[len];exact h64) cmp fun p' pm up=>?_
 rw[len] at pm up
 let its':=p'.toList.map fun i=>its.getD i (0,[],[])
 have perm:its'.Perm its:=KF pm its rfl _
 have pw:its'.Pairwise (fun t u=>lexB t.2.1 u.2.1=true):=Ap pm up its _ _ fun i j hi hj b=>by
  rcases b.2 with z | z
  ·exact z
  ·rcases p5 _ _ (ne i j hi hj (ne_of_lt z)) with y | y
   ·exact y
   ·have b1:lexB (num j) (num i)=false:=b.1
    rw[b1] at y;cases y
 have ep:picked (its.map fun t=>Value.ref t.1) p'=its'.map fun t=>Value.ref t.1:=by
  unfold picked
  rw[map_map]
  apply map_congr_left
  intro i hi
  exact get i (mem_range.mp (pm.list.mem_iff.mp hi))
 rw[ep]
 obtain⟨c,at1⟩:=sortedAll_at s.heap (its.map fun t=>Value.ref t.1) (its'.map fun t=>Value.ref t.1).toArray
 have rel:∀l:List OA,bV (l.map fun t=>V.ref t.1) (l.map fun t=>Value.ref t.1):=fun l=>by
  induction l with
  |nil=>exact .nil
  |cons t r ih=>exact .cons rfl ih
 have hle:(its'.map fun t=>V.ref t.1).length<=sizeLine:=by rw[sizeLine_eq,length_map,perm.length_eq];ac_rfl
 exact⟨.ref (s.heap.objs.size+1),_,I.laid (t':=s.toks) (fun b o e=>sortedAll_old e) (le_succ _) (show dR X.prog X.w _ _ _ (.lst _) from⟨hle,_,c,rel its',at1⟩),rfl,q its' perm pw _ (I.hok.fresh (le_succ _))⟩
theorem AX:gO X (.builtin "sorted") (fun xs H Q=>∃(p:Addr) (ns:List Int),xs=[.ref p]/\gM X.K H p (ns.map V.int)/\ns.length<64 /\ ∀ms:List Int,ms.Perm ns->ms.Pairwise (· <= ·) -> ∀l,H l=none->Q (.ref l) (upd H l (.lst (ms.map V.int)))):=by
 intro pj s σ H xs us Q I r h
 obtain⟨p,ns,rfl,hl,h64,q⟩:=h
 obtain⟨u,rfl,ru⟩:=lJ r
 cases ru
 obtain⟨vs,rv,pl,hz⟩:=I.list hl
 have ia:=rC rv
 refine sorted_ints pl.isList ia (by rw[ia.length];exact h64) fun out ms hi hp hs=>?_
 obtain⟨c,at1⟩:=sortedAll_at s.heap vs out
 have back:∀{us:List Value} {ns:List Int},IntsAre us ns->bV (ns.map V.int) us:=fun h=>by
  induction h with
  |nil=>exact .nil
  |cons a t _ ih=>exact .cons ⟨t,rfl⟩ ih
 have ea:out.toList.toArray=out:=by cases out;rfl
 have hle:(ms.map V.int).length<=sizeLine:=by rw[sizeLine_eq,length_map,hp.length_eq];ac_rfl
 exact⟨.ref (s.heap.objs.size+1),_,I.laid (t':=s.toks) (fun b o e=>sortedAll_old e) (le_succ _) (show dR X.prog X.w _ _ _ (.lst _) from⟨hle,out.toList,c,back hi,by rw[ea];exact at1⟩),rfl,q ms hp hs _ (I.hok.fresh (le_succ _))⟩
end
end L2
namespace Z
open L2
section
variable {X:Cx} {e:Expr} {te:eT} {pos:Pos}
def O9:eT:=fun _ Q=>Q (.nw (.dit []))
theorem zO:QE X (.Dict [] [] pos) O9:=
 ⟨fun ρ Q Q' w q=>w _ q,fun HZ F=>dU HG fun σ H Q ⟨ρ,fr,q⟩ p hp=>q _ _ (aW.new' hp) ⟨p,rfl,hp,0,[],cT,.nil⟩⟩
def BD(kvs:List (List cL×Dv))(k:List cL)(d:Dv):List (List cL×Dv):=
 if kvs.any (fun kv=>decide (kv.1=k)) then kvs.map (fun kv=>if kv.1=k then (kv.1,d) else kv) else kvs++[(k,d)]
theorem RepT.any{K:W.Frag}{M:Addr->Prop}{H:Hp}{k:List cL}{xs:List (List cL×V)}{ds:List (List cL×Dv)}(r:RepT K M H xs ds):xs.any (fun kv=>decide (kv.1=k))=ds.any (fun kv=>decide (kv.1=k)):=
 r.ind (P:=fun xs ds=>xs.any (fun kv=>decide (kv.1=k))=ds.any (fun kv=>decide (kv.1=k))) rfl fun _ _ _ _ _ _ _ ih=>by rw[any_cons,any_cons,ih]
theorem RepT.len{K:W.Frag}{M:Addr->Prop}{H:Hp}{xs:List (List cL×V)}{ds:List (List cL×Dv)}(r:RepT K M H xs ds):xs.length=ds.length:=r.ind (P:=fun xs ds=>xs.length=ds.length) rfl fun _ _ _ _ _ _ _ ih=>congrArg (· + 1) ih
theorem RepT.snoc{K:W.Frag}{M:Addr->Prop}{H:Hp}{k:List cL}{x:V}{d:Dv}(a:Rep K M H x d){xs:List (List cL×V)}{ds:List (List cL×Dv)}(r:RepT K M H xs ds):RepT K M H (xs++[(k,x)]) (ds++[(k,d)]):=
 r.ind (P:=fun xs ds=>RepT K M H (xs++[(k,x)]) (ds++[(k,d)])) (.cons a .nil) fun _ _ _ _ _ b _ ih=>.cons b ih
theorem RepT.repl{K:W.Frag}{M:Addr->Prop}{H:Hp}{k:List cL}{x:V}{d:Dv}(a:Rep K M H x d){xs:List (List cL×V)}{ds:List (List cL×Dv)}(r:RepT K M H xs ds):
  RepT K M H (xs.map fun kv=>if kv.1=k then (kv.1,x) else kv) (ds.map fun kv=>if kv.1=k then (kv.1,d) else kv):=
 r.ind (P:=fun xs ds=>RepT K M H (xs.map fun kv=>if kv.1=k then (kv.1,x) else kv) (ds.map fun kv=>if kv.1=k then (kv.1,d) else kv)) .nil fun k' _ _ _ _ b _ ih=>by
  rw[map_cons,map_cons]
  by_cases e:k'=k
  ·rw[if_pos e,if_pos e];exact .cons a ih
  ·rw[if_neg e,if_neg e];exact .cons b ih
theorem RepT.put{K:W.Frag}{M:Addr->Prop}{H:Hp}{k:List cL}{x:V}{d:Dv}{xs:List (List cL×V)}{ds:List (List cL×Dv)}(r:RepT K M H xs ds)(a:Rep K M H x d):RepT K M H (sM xs k x) (BD ds k d):=by
 unfold sM BD
 rw[r.any (k:=k)]
 split
 ·exact r.repl a
 ·exact r.snoc a
def B4(i:Nat)(tk tv:eT):cO:=fun E ρ=>match ρ[i]? with
 |some (.own a (.dit kvs))=>tv ρ fun r=>tk ρ fun kk=>∃k:List cL,kk.d=.tup (k.map kD)/\(r.free=true/\kvs.length<zB)/\E.nx (ρ.set i (.own a (.dit (BD kvs k r.d))))
 |_=>False
theorem Gq{i:Nat}{x:Str}{p1 p2:Pos}{k:Expr}{tk:eT}(hu:X.A.units+1<cLine)(hv:PE X (.Name x p1) (zH i))(hk:QE X k tk)(he:QE X e te)
  (hs:swapsWith e (some (.Subscript (.Name x p1) k p2)) pos.line X.env=pure false:=by rfl):QS X (.Assign [.Subscript (.Name x p1) k p2] e pos) (B4 i tk te):=by
 refine⟨fun E E' ρ w h=>?_,fun HZ F=>gR (K4 hu hv (hk.run HZ F) (he.run HZ F) hs) fun D σ H ⟨ρ,E,fr,h,en⟩=>?_⟩
 ·unfold B4 at *
  split at h
  ·exact he.mono _ _ _ (fun r q=>hk.mono _ _ _ (fun kk ⟨k,a,b,c⟩=>⟨k,a,b,w.nx _ c⟩) q) h
  ·exact h
 ·unfold B4 at h
  split at h
  ·rename_i a kvs hx
   refine he.step fr h fun r y H1 q S1 r1=>?_
   have fr1:=fr.mono S1
   obtain⟨hs1,ep,vs,hv1,rv1⟩:=fr1.sl i _ hx
   refine⟨_,hs1,hk.step fr1 q fun kk z H2 q S2 rk=>?_⟩
   obtain⟨ks,ek,⟨qf,ql⟩,q2⟩:=q
   have ck:=rk.c
   rw[ek] at ck
   obtain⟨b,zs,rfl,eb,rb⟩:=ck.tup
   have ez:zs=ks.map kV:=rb.keys
   have rep:=(r1.rep (fun a m=>fr.dom m) qf).mono S2
   have hv2:=S2 _ _ hv1
   refine⟨a,rfl,JW.t hv2 (ez ▸ eb) (by rw[rv1.len];exact A6 ql) fun ep2=>?_⟩
   refine en.nx _ _ _ ((fr1.mono S2).write (d':=.dit (BD kvs ks r.d)) hx ⟨_,_,cT,?_⟩) q2
   have G:Gen X.K (MM F ρ) (MM F ρ) H2 (upd H2 a (.dT ep2 (sM vs ks y))):=Gen.write (.inr ⟨_,mem_of_getElem? hx⟩) (by rw[hv2];trivial)
   exact((rv1.gen (.mono S2)).put rep).gen G
  ·exact h.elim
def qT(i:Nat):cO:=fun E ρ=>match ρ[i]? with
 |some (.own a (.lst _))=>E.nx (ρ.set i (.own a (.lst [])))
 |_=>False
theorem Ju{i:Nat}{x:Str}{p1 p2 p3:Pos}(hv:PE X (.Name x p1) (zH i))(hs:swapsWith (.Call (.Attribute (.Name x p1) "clear" p2) [] [] p3) none pos.line X.env=pure false:=by rfl)
  (hbase:attributeBase (.Name x p1) "clear" X.env (eval (.Name x p1) X.env)=eval (.Name x p1) X.env:=by rfl) (hline:(p2.endLine==p3.line)=true:=by rfl):
  QS X (.Expr (.Call (.Attribute (.Name x p1) "clear" p2) [] [] p3) pos) (qT i):=by
 refine⟨fun E E' ρ w h=>?_,fun HZ F=>gR (sN (Mv PySem.F.plainAttrs_list PySem.F.slot_list_clear PySem.F.type_list_clear Hz hv hbase hline) hs) fun D σ H ⟨ρ,E,fr,h,en⟩=>?_⟩
 ·unfold qT at *
  split at h
  ·exact w.nx _ h
  ·exact h
 ·unfold qT at h
  split at h
  ·rename_i a xs hx
   obtain⟨hs1,vs,hv1,rv1⟩:=fr.sl i _ hx
   refine⟨_,hs1,.inl ⟨rfl,_,gM.of hv1⟩,a,vs,rfl,rfl,hv1,?_⟩
   exact en.nx _ _ _ (fr.write (d':=.lst []) hx ⟨_,cT,.nil⟩) h
  ·exact h.elim
def B3(i:Nat):cO:=fun E ρ=>match ρ[i]? with
 |some (.own a (.lst xs))=>E.nx (ρ.set i (.own a (.lst xs.reverse)))
 |_=>False
abbrev tI(t:List Int×List Dv):Dv:=.tup (t.1.map .int++t.2)
def iM:List Dv->(R->Prop)->Prop
 | [.lst xs],Q=>(∃ns:List Int,xs=ns.map .int/\ns.length<64 /\ ∀ms:List Int,ms.Perm ns->ms.Pairwise (· <= ·)->Q (.nw (.lst (ms.map .int)))) \/
  ∃(ts:List (List Int×List Dv)) (k:Nat),xs=ts.map tI/\ts.length<64/\(∀t∈ts,t.1.length=k+1)/\ts.Pairwise (fun t u=>t.1≠u.1) /\ ∀ts':List (List Int×List Dv),ts'.Perm ts->ts'.Pairwise (fun t u=>lexB t.1 u.1=true)->Q (.nw (.lst (ts'.map tI)))
 |_,_=>False
theorem Reps.fore{K:W.Frag}{M:Addr->Prop}{H:Hp}:∀{ns:List Int} {xs:List V} {ds:List Dv},Reps K M H xs (ns.map .int++ds) -> ∃ys,xs=ns.map V.int++ys/\Reps K M H ys ds
 | [],xs,ds,r=>⟨xs,rfl,r⟩
 |n::ns,_,ds,.cons a r=>by
  obtain⟨ys,e,r'⟩:=Reps.fore (ns:=ns) r
  cases a
  exact⟨ys,by rw[e];rfl,r'⟩
theorem tL{α β:Type}{f:α->β}{zs ws:List β}(hp:zs.Perm ws):∀{its:List α},its.map f=ws -> ∃jts:List α,jts.Perm its/\zs=jts.map f:=by
 induction hp with
 |nil=>intro its hz;exact⟨its,.refl _,hz.symm⟩
 |cons x p ih=>
  intro its hz
  cases its with
  |nil=>cases hz
  |cons t r=>
   rw[map_cons] at hz
   injection hz with h1 h2
   obtain⟨j,hj,e⟩:=ih h2
   exact⟨t::j,hj.cons t,by rw[map_cons,h1,e]⟩
 |swap x y l=>
  intro its hz
  match its,hz with
  |t::u::r,hz=>
   simp only[map_cons,List.cons.injEq] at hz
   obtain⟨h1,h2,h3⟩:=hz
   exact⟨u::t::r,.swap _ _ _,by simp only[map_cons,h1,h2,h3]⟩
 |trans p1 p2 ih1 ih2=>
  intro its hz
  obtain⟨j,hj,e⟩:=ih2 hz
  obtain⟨j2,hj2,e2⟩:=ih1 e.symm
  exact⟨j2,hj2.trans hj,e2⟩
theorem pR:pK X (.builtin "sorted") iM:=by
 refine⟨fun ds Q Q' w h=>?_,_,AX.or AW,fun M O H xs ds Q c h=>?_⟩
 ·unfold iM at *
  split at h
  ·rcases h with⟨ns,a,b,q⟩ | ⟨ts,k,a,b,c,d,q⟩
   ·exact .inl ⟨ns,a,b,fun ms x y=>w _ (q ms x y)⟩
   ·exact .inr ⟨ts,k,a,b,c,d,fun ts' x y=>w _ (q ts' x y)⟩
  ·exact h
 ·unfold iM at h
  split at h
  ·obtain⟨x,rfl,cx⟩:=fJ c
   obtain⟨a,ys,rfl,ea,ra⟩:=cx.lst
   rcases h with⟨ns,rfl,hl,q⟩ | ⟨ts,k,rfl,hl,hk,hd,q⟩
   ·have ey:ys=ns.map V.int:=by
     have ra':Reps X.K M H ys (ns.map .int++[]):=by simpa using ra
     obtain⟨zs,e,r'⟩:=ra'.fore
     cases r'
     simpa using e
    subst ey
    exact .inl ⟨a,ns,rfl,gM.of ea,hl,fun ms hp hs l hl=>q ms hp hs _ _ (aW.new' hl) (lC hl (Reps.ints _))⟩
   ·-- what each item is,by its place
    have go:∀{ys:List V} {ts:List (List Int×List Dv)},Reps X.K M H ys (ts.map tI) -> ∃its:List (OA×List Dv),ys=its.map (fun t=>V.ref t.1.1)/\ts=its.map (fun t=>(t.1.2.1,t.2)) /\
      ∀t∈its,H t.1.1=some (.tup (t.1.2.1.map V.int++t.1.2.2))/\Reps X.K M H t.1.2.2 t.2:=by
     intro ys ts r
     induction ts generalizing ys with
     |nil=>cases r;exact⟨[],rfl,rfl,fun t ht=>by cases ht⟩
     |cons t ts ih=>
      cases r with
      |cons u r=>
       obtain⟨its,e1,e2,e3⟩:=ih r
       cases u with
       |tup hb rb=>
        obtain⟨zs,e,rz⟩:=rb.fore
        subst e
        refine⟨((_,t.1,zs),t.2)::its,by rw[e1];rfl,by rw[e2];rfl,fun y hy=>?_⟩
        rcases mem_cons.mp hy with rfl | hy
        ·exact⟨hb,rz⟩
        ·exact e3 y hy
    obtain⟨its,rfl,rfl,al⟩:=go ra
    refine .inr ⟨a,its.map (·.1),k,rfl,by rw[map_map];exact gM.of ea,by simpa using hl,fun t ht=>?_,?_,fun its' hp hs l hl=>?_⟩
    ·obtain⟨u,hu,rfl⟩:=mem_map.mp ht
     exact⟨mY.of (al u hu).1,hk _ (mem_map.mpr ⟨u,hu,rfl⟩)⟩
    ·rw[pairwise_map] at hd ⊢
     exact hd
    ·-- bring the plain parts along
     obtain⟨jts,hj,rfl⟩:=tL hp rfl
     have rr:∀jts:List (OA×List Dv),(∀t∈jts,t∈its)->Reps X.K M H (jts.map fun t=>V.ref t.1.1) ((jts.map fun t=>(t.1.2.1,t.2)).map tI):=by
      intro jts
      induction jts with
      |nil=>intro _;exact .nil
      |cons t r ih=>
       intro hm
       have ht:=al t (hm t (mem_cons_self ..))
       have one:Reps X.K M H (t.1.2.1.map V.int++t.1.2.2) (t.1.2.1.map .int++t.2):=(Reps.ints _).append ht.2
       exact .cons (.tup ht.1 one) (ih fun u hu=>hm u (mem_cons_of_mem _ hu))
     rw[map_map]
     show Q _ (upd H l (.lst (jts.map fun t=>V.ref t.1.1)))
     refine q (jts.map fun t=>(t.1.2.1,t.2)) (hj.map _) ?_ _ _ (aW.new' hl) (lC hl (rr jts fun t ht=>hj.mem_iff.mp ht))
     rw[pairwise_map] at hs ⊢
     exact hs
  ·exact h.elim
end
theorem EC{i j:Int}{Q:R->Prop}:(dZ (.int i) (.int j) Q)=(Q (.v (.int (i+j)))):=rfl
theorem Dp{i j:Int}{Q:R->Prop}:(lI (.int i) (.int j) Q)=(Q (.v (.int (i-j)))):=rfl
theorem E1{i j:Int}{Q:R->Prop}:(gY (.int i) (.int j) Q)=(uK i j/\Q (.v (.int (i*j)))):=rfl
theorem E9{i j:Int}{Q:R->Prop}:(nP (.int i) (.int j) Q)=((0<j/\j<2 ^ 200)/\Q (.v (.int (i / j)))):=rfl
theorem Bb{i j:Int}{Q:R->Prop}:(PM (.int i) (.int j) Q)=((j≠0/\j.natAbs<2 ^ 4000)/\Q (.v (.int (i.fdiv j)))):=rfl
theorem E2{i j:Int}{Q:R->Prop}:(iT (.int i) (.int j) Q)=(0<j/\Q (.v (.int (i % j)))):=rfl
theorem BW{i j:Int}{Q:R->Prop}:(PD (.int i) (.int j) Q)=(j≠0/\Q (.v (.int (i.fmod j)))):=rfl
theorem Dr{i j:Int}{Q:R->Prop}:(RV (.int i) (.int j) Q)=(LX i j/\Q (.v (.int (i ^ j.toNat)))):=rfl
theorem EB{xs ys:List Dv}{Q:R->Prop}:(dZ (.lst xs) (.lst ys) Q)=((xs.length+ys.length<=zB/\Q (.nw (.lst (xs++ys))))):=rfl
theorem EA{x y:Str}{Q:R->Prop}:(dZ (.str x) (.str y) Q)=((x.length+y.length<=zB/\Q (.v (.str (x++y))))):=rfl
theorem Dz{xs:List Dv}{k:Int}{Q:R->Prop}:(gY (.lst xs) (.int k) Q)=(((-(2 ^ 63)<=k/\k<2 ^ 63/\xs.length*k.toNat<=zB)/\Q (.nw (.lst (List.replicate k.toNat xs).flatten)))):=rfl
theorem Hh{f:Int->Int->Bool}{i j:Int}{Q:R->Prop}:(zS f (.int i) (.int j) Q)=(Q (.v (.bl (f i j)))):=rfl
theorem Hc{d:Dv}{Q:R->Prop}:(He d .non Q)=(Q (.v (.bl (isN d)))):=rfl
theorem Ds{d:Dv}{Q:R->Prop}:(yM d .non Q)=(Q (.v (.bl (!isN d)))):=rfl
theorem Hf{d:Dv}{b:Bool}{Q:R->Prop}:(RW d (.bl b) Q)=(Q (.v (.bl (isB b d)))):=rfl
theorem Dt{d:Dv}{b:Bool}{Q:R->Prop}:(PC d (.bl b) Q)=(Q (.v (.bl (!isB b d)))):=rfl
theorem Hj{i j:Int}{Q:R->Prop}:(t6 (.int i) (.int j) Q)=(Q (.v (.bl (decide (i=j))))):=rfl
theorem HS{i j:Int}{Q:R->Prop}:(wB (.int i) (.int j) Q)=(Q (.v (.bl (!decide (i=j))))):=rfl
theorem Hk{x:Bool}{d:Dv}{Q:R->Prop}:(t6 (.bl x) d Q)=(((dQ 8 (.bl x)=true/\dQ 8 d=true)/\Q (.v (.bl (eqD (.bl x) d))))):=rfl
theorem HU{x:Bool}{d:Dv}{Q:R->Prop}:(wB (.bl x) d Q)=(((dQ 8 (.bl x)=true/\dQ 8 d=true)/\Q (.v (.bl (!eqD (.bl x) d))))):=rfl
theorem E5{x:List Dv}{d:Dv}{Q:R->Prop}:(t6 (.tup x) d Q)=(((dQ 8 (.tup x)=true/\dQ 8 d=true)/\Q (.v (.bl (eqD (.tup x) d))))):=rfl
theorem Du{x:List Dv}{d:Dv}{Q:R->Prop}:(wB (.tup x) d Q)=(((dQ 8 (.tup x)=true/\dQ 8 d=true)/\Q (.v (.bl (!eqD (.tup x) d))))):=rfl
theorem E8{x:List Dv}{d:Dv}{Q:R->Prop}:(t6 (.lst x) d Q)=(((dQ 8 (.lst x)=true/\dQ 8 d=true)/\Q (.v (.bl (eqD (.lst x) d))))):=rfl
theorem Dy{x:List Dv}{d:Dv}{Q:R->Prop}:(wB (.lst x) d Q)=(((dQ 8 (.lst x)=true/\dQ 8 d=true)/\Q (.v (.bl (!eqD (.lst x) d))))):=rfl
theorem E6{x:Str}{d:Dv}{Q:R->Prop}:(t6 (.str x) d Q)=(((dQ 8 (.str x)=true/\dQ 8 d=true)/\Q (.v (.bl (eqD (.str x) d))))):=rfl
theorem Dw{x:Str}{d:Dv}{Q:R->Prop}:(wB (.str x) d Q)=(((dQ 8 (.str x)=true/\dQ 8 d=true)/\Q (.v (.bl (!eqD (.str x) d))))):=rfl
theorem E7{x:List Int}{d:Dv}{Q:R->Prop}:(t6 (.scr x) d Q)=(((dQ 8 (.scr x)=true/\dQ 8 d=true)/\Q (.v (.bl (eqD (.scr x) d))))):=rfl
theorem Dx{x:List Int}{d:Dv}{Q:R->Prop}:(wB (.scr x) d Q)=(((dQ 8 (.scr x)=true/\dQ 8 d=true)/\Q (.v (.bl (!eqD (.scr x) d))))):=rfl
theorem Lq{xs:List Dv}{i:Int}{Q:R->Prop}:(cX (.lst xs) (.int i) Q)=((match t5 xs i with | some d=>Q (.v d) | none=>False)):=rfl
theorem Ln{xs:List Dv}{i:Int}{Q:R->Prop}:(cX (.tup xs) (.int i) Q)=((match t5 xs i with | some d=>Q (.v d) | none=>False)):=rfl
theorem Lo{ns:List Int}{i:Int}{Q:R->Prop}:(cX (.scr ns) (.int i) Q)=((match t5 ns i with | some n=>Q (.v (.int n)) | none=>False)):=rfl
theorem Ll{xs:List Dv}{lo hi:Option Int}{Q:R->Prop}:(Lm (.lst xs) lo hi Q)=(Q (.nw (.lst (cut xs lo hi)))):=rfl
theorem Lk{ns:List Int}{lo hi:Option Int}{Q:R->Prop}:(Lm (.scr ns) lo hi Q)=(Q (.nw (.lst ((cut ns lo hi).map .int)))):=rfl
theorem Lj{xs:List Dv}{lo hi:Option Int}{Q:R->Prop}:(Lm (.tup xs) lo hi Q)=((¬(HT.iE xs.length 0 lo=0/\HT.iE xs.length xs.length hi=xs.length)/\Q (.v (.tup (cut xs lo hi))))):=rfl
theorem Ha{xs:List Dv}{Q:R->Prop}:(dE [(.lst xs)] Q)=(Q (.v (.int xs.length))):=rfl
theorem HX{xs:List Dv}{Q:R->Prop}:(dE [(.tup xs)] Q)=(Q (.v (.int xs.length))):=rfl
theorem HY{ns:List Int}{Q:R->Prop}:(dE [.scr ns] Q)=(Q (.v (.int ns.length))):=rfl
theorem Ho{i:Int}{Q:R->Prop}:(FR [.int i] Q)=(Q (.v (.int (if i<0 then -i else i)))):=rfl
theorem HV{i j:Int}{Q:R->Prop}:(wC [.int i,.int j] Q)=(Q (.v (.int (if j<i then j else i)))):=rfl
theorem HW{i j:Int}{Q:R->Prop}:(PF [.int i,.int j] Q)=(Q (.v (.int (if j > i then j else i)))):=rfl
theorem BV{xs:List Dv}{Q:R->Prop}:(jY [.lst xs] Q)=(Q (.v (.tup xs))):=rfl
theorem BU{xs:List Dv}{Q:R->Prop}:(jY [.tup xs] Q)=(Q (.v (.tup xs))):=rfl
theorem E4{xs:List Dv}{Q:R->Prop}:(wD [.lst xs] Q)=(Q (.nw (.lst xs))):=rfl
theorem E3{xs:List Dv}{Q:R->Prop}:(wD [.tup xs] Q)=(Q (.nw (.lst xs))):=rfl
theorem Hm{ds:List Dv}{Q:R->Prop}:(Hn [.lst ds] Q)=((∃bs:List Bool,ds=bs.map .bl/\Q (.v (.bl (bs.all _root_.id))))):=rfl
theorem HP{ds:List Dv}{Q:R->Prop}:(HQ [.lst ds] Q)=((∃ns:List Int,ds=ns.map .int/\Q (.v (.int ns.sum)))):=rfl
theorem Qe{d:Dv}:(R.d (.v d))=(d):=rfl
theorem Qg{d:Dv}:(R.d (.nw d))=(d):=rfl
theorem Qf{a:Addr}{d:Dv}:(R.d (.ow a d))=(d):=rfl
theorem QQ{d:Dv}:(R.out (.v d))=(.v d):=rfl
theorem QU{d:Dv}:(R.out (.nw d))=(.nw d):=rfl
theorem QR{a:Addr}{d:Dv}:(R.out (.ow a d))=(.nw d):=rfl
theorem Qb{d:Dv}:(R.free (.v d))=(true):=rfl
theorem Qd{d:Dv}:(R.free (.nw d))=(true):=rfl
theorem Qc{a:Addr}{d:Dv}:(R.free (.ow a d))=(false):=rfl
theorem QY{d:Dv}:(R.flat (.v d))=(kF d):=rfl
theorem Qa{d:Dv}:(R.flat (.nw d))=(C0 d):=rfl
theorem QZ{a:Addr}{d:Dv}:(R.flat (.ow a d))=(false):=rfl
theorem JA{a b:Bool}:(eqD (.bl a) (.bl b))=((a==b)):=by cases a<;>cases b<;>simp[eqD,gL,PyData.eqv]
theorem dL{ρ0:List Sl}{g:Ak}{tt:oA}{te:eT}{acc:List Dv}{Q:R->Prop}:(d8 ρ0 g tt te [] acc Q)=(Q (.nw (.lst acc))):=rfl
theorem lR{ρ0:List Sl}{g:Ak}{tt:oA}{te:eT}{d:Dv}{r acc:List Dv}{Q:R->Prop}:(d8 ρ0 g tt te (d::r) acc Q)=((g d ρ0 fun ρ1=>tt ρ1 fun b=>if b=true then te ρ1 fun v=>(v.free=true/\acc.length<zB)/\d8 ρ0 g tt te r (acc++[v.d]) Q else d8 ρ0 g tt te r acc Q)):=rfl
theorem lT{α:Type}{xs:List α}{i:Int}(h0:0<=i)(h1:i<xs.length):t5 xs i=xs[i.toNat]?:=by
 unfold t5 v6
 rw[if_pos h0,if_pos h1]
 rfl
theorem ME{α:Type}{x:α}{r:List α}:t5 (x::r) 0=some x:=by rw[lT ∅ (by simp<;>ac_rfl)];rfl
theorem MD{α:Type}{x y:α}{r:List α}:t5 (x::y::r) 1=some y:=by rw[lT ∅ (by simp<;>ac_rfl)];rfl
theorem MC{α:Type}{x y z:α}{r:List α}:t5 (x::y::z::r) 2=some z:=by rw[lT ∅ (by simp<;>ac_rfl)];rfl
theorem MB{α:Type}{x y z w:α}{r:List α}:t5 (x::y::z::w::r) 3=some w:=by rw[lT ∅ (by simp<;>ac_rfl)];rfl
theorem MA{α:Type}{x y z w v:α}{r:List α}:t5 (x::y::z::w::v::r) 4=some v:=by rw[lT ∅ (by simp<;>ac_rfl)];rfl
theorem Iw{b c:Bool}:isB b (.bl c)=(c==b):=rfl
theorem EK{b:Bool}{i:Int}:isB b (.int i)=false:=rfl
theorem M0:isN .non=true:=rfl
theorem M3{b:Bool}:isN (.bl b)=false:=rfl
theorem M2{i:Int}:isN (.int i)=false:=rfl
theorem Ly{i:Str}:isN (.str i)=false:=rfl
theorem Lx{i:List Dv}:isN (.tup i)=false:=rfl
theorem M1{i:List Dv}:isN (.lst i)=false:=rfl
theorem Lz{C:Addr}{i:List (Str×Dv)}:isN (.obj C i)=false:=rfl
theorem GW{b:Bool}:pY (.bl b)=some b:=rfl
theorem GS:pY .non=some false:=rfl
theorem GV{i:Int}:pY (.int i)=some (i != 0):=rfl
theorem GT{xs:List Dv}:pY (.lst xs)=some (!xs.isEmpty):=rfl
theorem GQ{xs:List Dv}:pY (.tup xs)=some (!xs.isEmpty):=rfl
theorem GU{xs:List (cL×Dv)}:pY (.dik xs)=some (!xs.isEmpty):=rfl
theorem GR{xs:List Int}:pY (.scr xs)=some (!xs.isEmpty):=rfl
theorem Io:v6 1 0=some 0:=rfl
theorem Im:v6 2 0=some 0:=rfl
theorem Il:v6 2 1=some 1:=rfl
theorem Ik:v6 3 0=some 0:=rfl
theorem Ij:v6 3 1=some 1:=rfl
theorem Ii:v6 3 2=some 2:=rfl
theorem Ih:v6 4 0=some 0:=rfl
theorem Ig:v6 4 1=some 1:=rfl
theorem Ie:v6 4 2=some 2:=rfl
theorem Id:v6 4 3=some 3:=rfl
theorem Ic:v6 5 0=some 0:=rfl
theorem Ib:v6 5 1=some 1:=rfl
theorem Ia:v6 5 2=some 2:=rfl
theorem IZ:v6 5 3=some 3:=rfl
theorem IY:v6 5 4=some 4:=rfl
theorem cP{lo:Int}:bF lo 0=[]:=rfl
theorem bW{lo:Int}{n:Nat}:bF lo (n+1)=.int lo::bF (lo+1) n:=by
 unfold bF
 rw[List.range_succ_eq_map,map_cons,map_map]
 congr 1
 ·simp
 ·apply map_congr_left
  intro k _
  show Dv.int _=Dv.int _
  congr 1
  show lo+((k+1:Nat):Int)=lo+1+k
  ac_rfl
theorem Ba{i j:Int}{Q:R->Prop}:(PL (.int i) (.int j) Q)=(Q (.v (.int (i+j)))):=rfl
theorem BY{i j:Int}{Q:R->Prop}:(PJ (.int i) (.int j) Q)=(Q (.v (.int (i-j)))):=rfl
theorem BZ{i j:Int}{Q:R->Prop}:(PK (.int i) (.int j) Q)=(uK i j/\Q (.v (.int (i*j)))):=rfl
theorem CH{α:Type}{xs:List α}{k:Int}(h0:0<=k):cut xs (some k) none=xs.drop k.toNat:=by
 unfold cut
 have e:HT.iE xs.length 0 (some k)=min k.toNat xs.length:=by show (if k<0 then _ else _)=_;rw[if_neg ⋯]
 rw[e,HT.B5]
 rcases Nat.le_total k.toNat xs.length with h | h
 ·rw[min_eq_left h]
  exact take_of_length_le (by rw[length_drop];exact le_refl _)
 ·rw[Nat.min_eq_right h,List.drop_of_length_le (le_refl _),List.drop_of_length_le h,List.take_nil]
theorem DR{α:Type}{xs:List α}{k:Int}(h0:0<=k):cut xs none (some k)=xs.take k.toNat:=by
 unfold cut
 have e:HT.iE xs.length xs.length (some k)=min k.toNat xs.length:=by show (if k<0 then _ else _)=_;rw[if_neg ⋯]
 rw[e,HT.B5,List.drop_zero,Nat.sub_zero]
 rcases Nat.le_total k.toNat xs.length with h | h
 ·rw[min_eq_left h]
 ·rw[Nat.min_eq_right h,take_of_length_le (le_refl _),take_of_length_le h]
theorem Az{a:Addr}{N:List Str}{d:Dv}{ds:List Dv}:MV a N (d::ds)=.own a d::(ds.map .v++List.replicate (N.length-(ds.length+1)) .un):=rfl
theorem Dq{i j:Int}{Q:R->Prop}:(RU (.int i) (.int j) Q)=(LX i j/\Q (.v (.int (i*2 ^ j.toNat)))):=rfl
theorem yL{ns:List Int}{Q:R->Prop}(h:ns.length<64)(q:∀ms:List Int,ms.Perm ns->ms.Pairwise (· <= ·)->Q (.nw (.lst (ms.map .int)))):iM [.lst (ns.map .int)] Q:=.inl ⟨ns,rfl,h,q⟩
theorem yK{ts:List (List Int×List Dv)}{k:Nat}{Q:R->Prop}(h:ts.length<64)(hk:∀t∈ts,t.1.length=k+1)(hd:ts.Pairwise (fun t u=>t.1≠u.1))
  (q:∀ts':List (List Int×List Dv),ts'.Perm ts->ts'.Pairwise (fun t u=>lexB t.1 u.1=true)->Q (.nw (.lst (ts'.map tI)))):iM [.lst (ts.map tI)] Q:=.inr ⟨ts,k,rfl,h,hk,hd,q⟩
theorem IX:∀{a b:List cL},a.map kD=b.map kD->a=b
 | [],[],_=>rfl
 | [],_::_,h=>by cases h
 |_::_,[],h=>by cases h
 |a::r,b::t,h=>by
  rw[map_cons,map_cons] at h
  injection h with h1 h2
  have e:a=b:=by cases a<;>cases b<;>first | (injection h1 with h1;rw[h1]) | cases h1
  rw[e,IX h2]
theorem Hb{kvs:List (List cL×Dv)}{a b:Int}{Q:R->Prop}:(cX (.dit kvs) (.tup [.int a,.int b]) Q)=(match kvs.find? (fun kv=>decide (kv.1=[Sum.inl a,Sum.inl b])) with | some kv=>Q (.v kv.2) | none=>False):=by
 apply propext
 constructor
 ·rintro⟨k,e,h⟩
  have:k=[Sum.inl a,Sum.inl b]:=IX (e.symm.trans rfl)
  subst this
  exact h
 ·exact fun h=>⟨[Sum.inl a,Sum.inl b],rfl,h⟩
theorem zc:(type_of% @beq_self_eq_true.{0})/\(type_of% @List.getElem?_cons_zero.{0})/\(type_of% @List.getElem?_cons_succ.{0})/\(type_of% @List.set_cons_zero.{0})/\(type_of% @List.set_cons_succ.{0})/\(type_of% @map_cons.{0,0})/\(type_of% @map_nil.{0,0})/\(type_of% @cons_append.{0})/\(type_of% @nil_append.{0})/\(type_of% @append_nil.{0})/\(type_of% @length_cons.{0})/\(type_of% @length_nil.{0})/\(type_of% @replicate_succ.{0})/\(type_of% @List.replicate_zero.{0})/\(type_of% @all_cons.{0})/\(type_of% @List.all_nil.{0})/\(type_of% @getD_some.{0})/\(type_of% @Bool.and_true)/\(type_of% @Bool.true_and)/\(type_of% @if_true.{1})/\(type_of% @Bool.false_eq_true)/\(type_of% @if_false.{1})/\(type_of% @true_and)/\(type_of% @and_true)/\(type_of% @true_or)/\(type_of% @decide_eq_true_eq)/\(type_of% @decide_true)/\(type_of% @decide_false)/\(type_of% @Bool.not_true)/\(type_of% @Bool.not_false)/\(type_of% @not_mem_nil.{0})/\(type_of% @false_imp_iff)/\(type_of% @implies_true.{1}):=
 ⟨@beq_self_eq_true.{0},@List.getElem?_cons_zero.{0},@List.getElem?_cons_succ.{0},@List.set_cons_zero.{0},@List.set_cons_succ.{0},@map_cons.{0,0},@map_nil.{0,0},@cons_append.{0},@nil_append.{0},@append_nil.{0},@length_cons.{0},@length_nil.{0},@replicate_succ.{0},@List.replicate_zero.{0},@all_cons.{0},@List.all_nil.{0},@getD_some.{0},@Bool.and_true,@Bool.true_and,@if_true.{1},@Bool.false_eq_true,@if_false.{1},@true_and,@and_true,@true_or,@decide_eq_true_eq,@decide_true,@decide_false,@Bool.not_true,@Bool.not_false,@not_mem_nil.{0},@false_imp_iff,@implies_true.{1}⟩
theorem zt:(type_of% @O9.eq_1)/\(type_of% @B4.eq_1)/\(type_of% @qT.eq_1)/\(type_of% @B3.eq_1)/\(type_of% @Hb)/\(type_of% @Pz.eq_1)/\(type_of% @Dq)/\(type_of% @Ex.eq_1)/\(type_of% @vT.eq_1)/\(type_of% @EU.eq_1)/\(type_of% @OS.eq_1)/\(type_of% @g7.eq_1)/\(type_of% @JE.eq_1)/\(type_of% @jW.eq_1)/\(type_of% @Az)/\(type_of% @OV.eq_1)/\(type_of% @Ba)/\(type_of% @BY)/\(type_of% @BZ)/\(type_of% @vC.eq_1)/\(type_of% @AA.eq_1)/\(type_of% @yW.eq_1)/\(type_of% @G0.eq_1)/\(type_of% @Q1.eq_1)/\(type_of% @aR.eq_1)/\(type_of% @bL.eq_1)/\(type_of% @zM.eq_1)/\(type_of% @Lf.eq_1)/\(type_of% @hX.eq_1)/\(type_of% @yF.eq_1)/\(type_of% @cD.eq_1)/\(type_of% @Le.eq_1)/\(type_of% @hZ.eq_1)/\(type_of% @bK.eq_1)/\(type_of% @iV.eq_1)/\(type_of% @Jm.eq_1)/\(type_of% @freeze.eq_1)/\(type_of% @OU.eq_1)/\(type_of% @pZ.eq_1)/\(type_of% @Ld.eq_1)/\(type_of% @gQ.eq_1)/\(type_of% @aE.eq_1)/\(type_of% @eC.eq_1)/\(type_of% @aD.eq_1)/\(type_of% @aJ.eq_1)/\(type_of% @aT.eq_1)/\(type_of% @bB.eq_1)/\(type_of% @C7.eq_1)/\(type_of% @DM.eq_1)/\(type_of% @j5.eq_1)/\(type_of% @uI.eq_1)/\(type_of% @JD.eq_1)/\(type_of% @wU.eq_1)/\(type_of% @SE.eq_1)/\(type_of% @cZ.eq_1)/\(type_of% @i5.eq_1)/\(type_of% @LN.eq_1)/\(type_of% @iO.eq_1)/\(type_of% @aS.eq_1)/\(type_of% @back.eq_1)/\(type_of% @fX.eq_1)/\(type_of% @uS.eq_1)/\(type_of% @fP.eq_1)/\(type_of% @jK.eq_1)/\(type_of% @Fz.eq_1)/\(type_of% @mS.eq_1)/\(type_of% @gG.eq_1)/\(type_of% @jP.eq_1)/\(type_of% @eM.eq_1)/\(type_of% @kL.eq_1)/\(type_of% @gN.eq_1)/\(type_of% @gT.eq_1)/\(type_of% @aN.eq_1)/\(type_of% @nZ.eq_1)/\(type_of% @EC)/\(type_of% @Dp)/\(type_of% @E1)/\(type_of% @E9)/\(type_of% @Bb)/\(type_of% @E2)/\(type_of% @BW)/\(type_of% @Dr)/\(type_of% @EB)/\(type_of% @EA)/\(type_of% @Dz)/\(type_of% @Hh)/\(type_of% @Hc)/\(type_of% @Ds)/\(type_of% @Hf)/\(type_of% @Dt)/\(type_of% @Hj)/\(type_of% @HS)/\(type_of% @Hk)/\(type_of% @HU)/\(type_of% @E5)/\(type_of% @Du)/\(type_of% @E8)/\(type_of% @Dy)/\(type_of% @E6)/\(type_of% @Dw)/\(type_of% @E7)/\(type_of% @Dx)/\(type_of% @Lq)/\(type_of% @Ln)/\(type_of% @Lo)/\(type_of% @Ll)/\(type_of% @Lk)/\(type_of% @Lj)/\(type_of% @Ha)/\(type_of% @HX)/\(type_of% @HY)/\(type_of% @Ho)/\(type_of% @HV)/\(type_of% @HW)/\(type_of% @BV)/\(type_of% @BU)/\(type_of% @E4)/\(type_of% @E3)/\(type_of% @Hm)/\(type_of% @HP)/\(type_of% @dL)/\(type_of% @lR)/\(type_of% @fN.eq_1):=
 ⟨@O9.eq_1,@B4.eq_1,@qT.eq_1,@B3.eq_1,@Hb,@Pz.eq_1,@Dq,@Ex.eq_1,@vT.eq_1,@EU.eq_1,@OS.eq_1,@g7.eq_1,@JE.eq_1,@jW.eq_1,@Az,@OV.eq_1,@Ba,@BY,@BZ,@vC.eq_1,@AA.eq_1,@yW.eq_1,@G0.eq_1,@Q1.eq_1,@aR.eq_1,@bL.eq_1,@zM.eq_1,@Lf.eq_1,@hX.eq_1,@yF.eq_1,@cD.eq_1,@Le.eq_1,@hZ.eq_1,@bK.eq_1,@iV.eq_1,@Jm.eq_1,@freeze.eq_1,@OU.eq_1,@pZ.eq_1,@Ld.eq_1,@gQ.eq_1,@aE.eq_1,@eC.eq_1,@aD.eq_1,@aJ.eq_1,@aT.eq_1,@bB.eq_1,@C7.eq_1,@DM.eq_1,@j5.eq_1,@uI.eq_1,@JD.eq_1,@wU.eq_1,@SE.eq_1,@cZ.eq_1,@i5.eq_1,@LN.eq_1,@iO.eq_1,@aS.eq_1,@back.eq_1,@fX.eq_1,@uS.eq_1,@fP.eq_1,@jK.eq_1,@Fz.eq_1,@mS.eq_1,@gG.eq_1,@jP.eq_1,@eM.eq_1,@kL.eq_1,@gN.eq_1,@gT.eq_1,@aN.eq_1,@nZ.eq_1,@EC,@Dp,@E1,@E9,@Bb,@E2,@BW,@Dr,@EB,@EA,@Dz,@Hh,@Hc,@Ds,@Hf,@Dt,@Hj,@HS,@Hk,@HU,@E5,@Du,@E8,@Dy,@E6,@Dw,@E7,@Dx,@Lq,@Ln,@Lo,@Ll,@Lk,@Lj,@Ha,@HX,@HY,@Ho,@HV,@HW,@BV,@BU,@E4,@E3,@Hm,@HP,@dL,@lR,@fN.eq_1⟩
theorem zo:(type_of% @Qe)/\(type_of% @Qg)/\(type_of% @Qf)/\(type_of% @QQ)/\(type_of% @QU)/\(type_of% @QR)/\(type_of% @Qb)/\(type_of% @Qd)/\(type_of% @Qc)/\(type_of% @QY)/\(type_of% @Qa)/\(type_of% @QZ)/\(type_of% @JA)/\(type_of% @bI)/\(type_of% @bM)/\(type_of% @Iw)/\(type_of% @EK)/\(type_of% @M0)/\(type_of% @M3)/\(type_of% @M2)/\(type_of% @Ly)/\(type_of% @Lx)/\(type_of% @M1)/\(type_of% @Lz)/\(type_of% @GW)/\(type_of% @GS)/\(type_of% @GV)/\(type_of% @GT)/\(type_of% @GQ)/\(type_of% @GU)/\(type_of% @GR)/\(type_of% @ME)/\(type_of% @MD)/\(type_of% @MC)/\(type_of% @MB)/\(type_of% @MA)/\(type_of% @Io)/\(type_of% @Im)/\(type_of% @Il)/\(type_of% @Ik)/\(type_of% @Ij)/\(type_of% @Ii)/\(type_of% @Ih)/\(type_of% @Ig)/\(type_of% @Ie)/\(type_of% @Id)/\(type_of% @Ic)/\(type_of% @Ib)/\(type_of% @Ia)/\(type_of% @IZ)/\(type_of% @IY):=
 ⟨@Qe,@Qg,@Qf,@QQ,@QU,@QR,@Qb,@Qd,@Qc,@QY,@Qa,@QZ,@JA,@bI,@bM,@Iw,@EK,@M0,@M3,@M2,@Ly,@Lx,@M1,@Lz,@GW,@GS,@GV,@GT,@GQ,@GU,@GR,@ME,@MD,@MC,@MB,@MA,@Io,@Im,@Il,@Ik,@Ij,@Ii,@Ih,@Ig,@Ie,@Id,@Ic,@Ib,@Ia,@IZ,@IY⟩
end Z
namespace Sf
structure Rw where
 x:Int
 y:Int
 m:Int
def Rw.up(r:Rw):Prop:=0<r.y \/ (r.y=0/\0<r.x)
def crs(a b:Rw):Int:=a.x*b.y-b.x*a.y
def place(v:Rw)(rows:List Rw):Nat:=rows.countP fun r=>decide (0<crs r v)
def uW(rows:List Rw):Prop:=rows.Pairwise fun a b=>0<crs a b
structure Pre(s:Int)(rows:List Rw):Prop where
 srt:uW rows
 ok:∀r∈rows,r.up /\ -s<=r.x/\r.x<=s/\r.y<=s/\1<=r.m
def many(rows:List Rw):Int:=(rows.map (·.m)).sum
structure Good(rows:List Rw):Prop where
 lo:2<=rows.length
 hi:rows.length<=6
 srt:uW rows
 ok:∀r∈rows,r.up /\ -999999999999<=r.x/\r.x<=999999999999/\r.y<=999999999999/\1<=r.m
 tot:many rows<=12
def bH:Nat->List Rw->List Int
 |_,[]=>[]
 |k,r::rs=>List.replicate r.m.toNat (k:Int)++bH (k+1) rs
abbrev aK(rows:List Rw):List Int:=bH 0 rows
end Sf
namespace L2
section
variable {D:Ends} {σ:St} {H:Hp} {Q:VK} {t u:TS} {te ta tb tc:TE} {g:TG} {K:W.Frag}
end
end L2
namespace Z
open L2
theorem Er{K:W.Frag}{H:Hp}{a:Addr}{ns:List Int}{sp:Fn}(h:∀Q:R->Prop,Q (.v (.bl true))->sp [.scr ns] Q)(hO:JV H)(hT:z9 K H)(hS:gM K H a (ns.map V.int)):low K sp [.ref a] H (fun v _=>v=.bl true) (fun _ _ _=>False):=by
 refine⟨fun _=>False,[.scr ns],⟨fun _ z=>z.elim,hT⟩,.cons (.scr ?_) .nil,h _ fun x H' S r=>?_⟩
 ·rcases hS with(h | h) | h
  ·rcases hO a with z | ⟨o,xs,z⟩
   ·rw[z] at h;cases h
   ·rw[z] at h;cases h
  ·exact .inl h
  ·exact .inr h
 ·have r':Rep K (fun _=>False) H' x (.bl true):=r
  cases r'
  rfl
end Z
namespace L2
section
variable {prog:Program} {w:World} {A:Around} {E:Value->Shared->Prop} {s:Shared}
abbrev grown(h:Heap)(xs:List Value):Heap:=(h.push (seqObj "list" #[] 0)).update h.objs.size (Obj.mapSeq (· ++ xs.toArray))
theorem CL{t:Addr}{xs:List Value}{P:List Value->Shared->Prop}(ht:IsTup s.heap t xs.toArray)(line:xs.length<=sizeLine)(k:P xs { s with heap:=grown s.heap xs }):wpAny (model prog w) A (collect (.ref t)) P E s:=by
 obtain⟨ob,get,cl,m,dat⟩:=ht
 have new:(s.heap.push (seqObj "list" #[] 0)).get? s.heap.objs.size=some (seqObj "list" #[] 0):=Heap.get?_push_size s.heap rfl
 have old:=Heap.get?_push_of_some (seqObj "list" #[] 0) get
 have room:((#[]:Array Value)++xs.toArray).size<=sizeLine+1:=by
  rw[Array.size_append,size_toArray]
  exact le_trans (le_of_eq (zero_add _)) (Nat.le_succ_of_le line)
 have whole:((#[]:Array Value)++xs.toArray).toList=xs:=by simp
 have tuple:(Value.type "tuple" == Value.type "tuple")=true:=rfl
 unfold collect
 apply wpAny_bind
 apply wpAny_runValue
 apply codeAny_builtin entry_proto_collect'
 show wpAny _ _ (newList [] >>= fun acc=>again (.builtin "list.__iadd__" ⟨[acc,.ref t],[]⟩)) _ _ s
 apply wpAny_bind
 refine wpAny_newList ?_ (zero_le _)
 apply wpAny_pure
 refine⟨Code.quiet_builtin _ (by decide +kernel),?_⟩
 apply codeAny_builtin entry_list_iadd'
 show wpAny _ _ (Builtin.List.listExtendWith (Value.ref s.heap.objs.size) (Value.ref t) (Value.ref s.heap.objs.size)) _ _ ({ s with heap:=s.heap.push (seqObj "list" #[] 0) }:Shared)
 delta Builtin.List.listExtendWith
 apply wpAny_bind
 refine wpAny_typeOf (T:="tuple") ⟨ob,old,cl⟩ ?_
 rw[if_pos (by simp[tuple])]
 apply wpAny_bind
 refine listItems_at old dat ?_
 apply wpAny_bind
 refine listItems_at new rfl ?_
 rw[if_neg (fun z=>by simp at z)]
 apply wpAny_bind
 refine listUpdate_at new rfl ?_ (zero_le _) room
 apply wpAny_pure
 show wpAny (model prog w) A (load s.heap.objs.size >>= fun o=>match o.data with
  | .seq ys _=>pure ys.toList
  |_=>unsupported "internal:collect") P E ({ s with heap:=grown s.heap xs }:Shared)
 apply wpAny_bind
 refine wpAny_load (get?_update_seq new (· ++ xs.toArray)) ?_
 apply wpAny_pure
 rw[whole]
 exact k
theorem B2{t:Addr}{xs:List Value}{ks:List Int}{P:Value->Shared->Prop}(ht:IsTup s.heap t xs.toArray)(num:IntsAre xs ks)(few:xs.length<64)
  (k:∀(ys:Array Value) (ms:List Int),IntsAre ys.toList ms->ms.Perm ks->ms.Pairwise (· <= ·)->P (.ref (s.heap.objs.size+1)) { s with heap:=sortedAll s.heap xs ys }):
  wpAny (model prog w) A (call (Value.builtin "sorted") [Value.ref t]) P E s:=by
 have line:xs.length<=sizeLine:=le_trans (le_of_lt few) (by rw[sizeLine_eq];decide)
 have sz:(grown s.heap xs).objs.size=s.heap.objs.size+1:=(Heap.size_update ..).trans (size_push' _ _)
 have mine:((grown s.heap xs).push (seqObj "list" xs.toArray 0)).get? (s.heap.objs.size+1)=some (seqObj "list" xs.toArray 0):=sz ▸ Heap.get?_push_size (grown s.heap xs) rfl
 apply Calls.call_function_entry kind_sorted plain_sorted entry_sorted (args_sorted1 _)
 delta Builtin.«sorted»
 refine wpAny_bind (m:=checkCount "sorted" 1 1 _) (wpAny_pure (wpAny_bind (CL ht line (wpAny_bind (wpAny_newList ?_ line)))))
 show wpAny _ _ _ _ _ ({ s with heap:=(grown s.heap xs).push (seqObj "list" xs.toArray 0) }:Shared)
 rw[sz]
 refine wpAny_bind (wpAny_holding (wpAny_call_entry slot_list_sort ⟨_,mine,rfl⟩ entry_list_sort (list_sort_tree mine num few fun ys ms b1 b2 b3=>?_) (args_list_sort _)))
 exact⟨_,rfl,wpAny_pure ⟨_,rfl,k ys ms b1 b2 b3⟩⟩
end
section
variable {X:Cx}
theorem AV:gO X (.builtin "sorted") (fun xs H Q=>∃(p:Addr) (ns:List Int),xs=[.ref p]/\mY X.K H p (ns.map V.int)/\ns.length<64 /\ ∀ms:List Int,ms.Perm ns->ms.Pairwise (· <= ·) -> ∀l,H l=none->Q (.ref l) (upd H l (.lst (ms.map V.int)))):=by
 intro pj s σ H xs us Q I r h
 obtain⟨p,ns,rfl,hl,h64,q⟩:=h
 obtain⟨u,rfl,ru⟩:=lJ r
 cases ru
 obtain⟨vs,rv,pl,hz⟩:=I.tuple hl
 have ia:=rC rv
 refine B2 pl ia (by rw[ia.length];exact h64) fun out ms hi hp hs=>?_
 obtain⟨c,at1⟩:=sortedAll_at s.heap vs out
 have back:∀{us:List Value} {ns:List Int},IntsAre us ns->bV (ns.map V.int) us:=fun h=>by
  induction h with
  |nil=>exact .nil
  |cons a t _ ih=>exact .cons ⟨t,rfl⟩ ih
 have ea:out.toList.toArray=out:=by cases out;rfl
 have hle:(ms.map V.int).length<=sizeLine:=by rw[sizeLine_eq,length_map,hp.length_eq];ac_rfl
 exact⟨.ref (s.heap.objs.size+1),_,I.laid (t':=s.toks) (fun b o e=>sortedAll_old e) (le_succ _) (show dR X.prog X.w _ _ _ (.lst _) from⟨hle,out.toList,c,back hi,by rw[ea];exact at1⟩),rfl,q ms hp hs _ (I.hok.fresh (le_succ _))⟩
def Oj(K:W.Frag):R2:=fun x y H Q=>∃a b xs ys,x=.ref a/\y=.ref b/\mY K H a xs/\mY K H b ys/\xs.length+ys.length<=sizeLine /\
 (xs=[]->Q (.ref b) H)/\(xs≠[]->ys=[]->Q (.ref a) H)/\(xs≠[]->ys≠[] -> ∀p,H p=none->Q (.ref p) (upd H p (.tup (xs++ys))))
theorem KW:n0 X (binaryOp .Add) (Oj X.K):=by
 intro pj s σ H x y v u Q I rx ry h
 obtain⟨a,b,xs,ys,rfl,rfl,ha,hb,hz,q0,q1,q2⟩:=h
 by_cases hx:xs=[]
 ·cases rx
  cases ry
  obtain⟨its,r1,p1,_⟩:=I.tuple ha
  obtain⟨its2,r2,p2,_⟩:=I.tuple hb
  have hv:=r1.nil_iff.mpr hx
  obtain⟨⟨cls,dd,data,sl⟩,ho,hc,n,hd⟩:=id p1
  obtain⟨⟨cls2,dd2,data2,sl2⟩,ho2,hc2,n2,hd2⟩:=id p2
  simp only at hc hd hc2 hd2
  subst hc hd hc2 hd2
  exact concat_meets ⟨_,ho,rfl⟩ ⟨_,ho2,rfl⟩ noFill_tuple_add seq_tuple_add PySem.F.slot_tuple_add PySem.F.entry_tuple_add (PySem.F.args_tuple_add_2 _ _)
   (tuple_addW0 a b its.toArray its2.toArray n n2 dd dd2 sl sl2 (by simp[hv])) ⟨ho,ho2,.ref b,H,I,rfl,q0 hx⟩
 ·exact KY pj s σ H _ _ v u Q I rx ry ⟨a,b,xs,ys,rfl,rfl,ha,hb,hx,hz,q1 hx,q2 hx⟩
end
end L2
namespace Z
open L2
section
variable {X:Cx}
def oU:List Dv->(R->Prop)->Prop
 | [.tup xs],Q=>∃ns:List Int,xs=ns.map .int/\ns.length<64 /\ ∀ms:List Int,ms.Perm ns->ms.Pairwise (· <= ·)->Q (.nw (.lst (ms.map .int)))
 |_,_=>False
theorem DT:pK X (.builtin "sorted") oU:=by
 refine⟨fun ds Q Q' w h=>?_,_,AV,fun M O H xs ds Q c h=>?_⟩
 ·unfold oU at *
  split at h
  ·obtain⟨ns,a,b,q⟩:=h
   exact⟨ns,a,b,fun ms x y=>w _ (q ms x y)⟩
  ·exact h
 ·unfold oU at h
  split at h
  ·obtain⟨x,rfl,cx⟩:=fJ c
   obtain⟨a,ys,rfl,ea,ra⟩:=cx.tup
   obtain⟨ns,rfl,hl,q⟩:=h
   have ey:ys=ns.map V.int:=by
    have ra':Reps X.K M H ys (ns.map .int++[]):=by simpa using ra
    obtain⟨zs,e,r'⟩:=ra'.fore
    cases r'
    simpa using e
   subst ey
   exact⟨a,ns,rfl,mY.of ea,hl,fun ms hp hs l hl=>q ms hp hs _ _ (aW.new' hl) (lC hl (Reps.ints _))⟩
  ·exact h.elim
theorem Cy{ns:List Int}{Q:R->Prop}(h:ns.length<64)(q:∀ms:List Int,ms.Perm ns->ms.Pairwise (· <= ·)->Q (.nw (.lst (ms.map .int)))):oU [.tup (ns.map .int)] Q:=⟨ns,rfl,h,q⟩
def Bc:Dv->Dv->(R->Prop)->Prop
 | .tup xs,.tup ys,Q=>xs.length+ys.length<=zB/\Q (.v (.tup (xs++ys)))
 |_,_,_=>False
theorem Hl{xs ys:List Dv}{Q:R->Prop}:Bc (.tup xs) (.tup ys) Q=(xs.length+ys.length<=zB/\Q (.v (.tup (xs++ys)))):=rfl
theorem Hs:zA X (binaryOp .Add) Bc:=by
 refine⟨fun dx dy Q Q' w h=>?_,_,KW,fun M O H x y dx dy Q cx cy h=>?_⟩
 ·unfold Bc at *
  split at h
  ·exact⟨h.1,w _ h.2⟩
  ·exact h
 ·unfold Bc at h
  split at h
  ·obtain⟨a,xs,rfl,ea,ra⟩:=cx.tup
   obtain⟨b,ys,rfl,eb,rb⟩:=cy.tup
   have l1:=ra.length
   have l2:=rb.length
   refine⟨a,b,xs,ys,rfl,rfl,mY.of ea,mY.of eb,jN ⋯,fun e=>?_,fun _ e=>?_,fun _ _ p hp=>h.2 _ _ (aW.new' hp) (GM hp (ra.append rb))⟩
   ·subst e
    cases ra
    exact h.2 _ H (aW.refl _) (Rep.tup eb rb)
   ·subst e
    cases rb
    refine h.2 _ H (aW.refl _) ?_
    rw[append_nil]
    exact Rep.tup ea ra
  ·exact h.elim
end
end Z
namespace L2
section
variable {prog:Program} {w:World} {A:Around} {E:Value->Shared->Prop} {s:Shared}
structure Ent(h:Heap)(d:Addr)(es:Array DictEntry)(ep:Nat):Prop where
 at_:∃o,h.get? d=some o/\o.ExactDict/\o.data=.dict es ep
theorem L4{it d:Addr}{i n ep:Nat}{es:Array DictEntry}{en:DictEntry}{Q:Option Value->Shared->Prop}(k:s.heap.IsKeyIter it d i n ep)(g:Ent s.heap d es ep)(hn:es.size=n)(he:es[i]?=some en)
  (q:∀h',h'.IsKeyIter it d (i+1) n ep->Heap.SameBut it s.heap h'->Q (some en.key) { s with heap:=h' }):wpAny (model prog w) A (pyNext (.ref it)) Q E s:=by
 obtain⟨⟨od,gd,_,dd⟩⟩:=g
 obtain⟨oi,gi,ci,fi⟩:=id k
 have up:(s.heap.update it (Obj.mapFields (·.setIfInBounds 1 (rawInt ((i:Int)+1))))).IsKeyIter it d (i+1) n ep:=
  ⟨_,Heap.get?_update_self _ gi (Obj.isFreed_of_fields (Obj.data_mapFields fi _)),(Obj.cls_mapFields ..).trans ci,by rw[Obj.data_mapFields fi];simp[rawInt]⟩
 have fin:=q _ up (Heap.SameBut.update ..)
 unfold pyNext
 refine wpAny_bind (wpAny_attempt (wpAny_callSpecial?_slot (name:=Str.ofString "__next__") k.typeIs F.slot_dict_keyiterator_next (wpAny_call_entry F.slot_dict_keyiterator_next k.typeIs F.entry_dict_keyiterator_next (wpAny_bind (wpAny_pure (wpAny_bind (wpAny_bind ?a)))) (F.args_dict_keyiterator_next_1 _))))
 refine wpAny_bind (wpAny_typeNameOfWhole_keyiter k.typeIs (wpAny_pure (wpAny_bind (wpAny_fieldsOf gi fi ?b))))
 rw[show (if Builtin.Dict_items.ownsTuple "dict_keyiterator" = true then 2 else 0)=0 by decide]
 show wpAny _ _ (ite ((Value.ref d==Value.none)=true) _ _) _ _ s
 rw[if_neg (by exact fun z=>nomatch z)]
 refine wpAny_bind (wpAny_pure (wpAny_bind (wpAny_dictEntries gd dd ?c)))
 rw[if_neg (by rw[hn];simp)]
 refine wpAny_bind (wpAny_pure (wpAny_bind (wpAny_dictEpoch gd dd ?d)))
 rw[if_neg (by simp)]
 refine wpAny_pure ?e
 simp only[show ¬((i:Int)<0) by ac_rfl,ite_false,toNat_natCast,he]
 refine wpAny_bind (wpAny_bind (wpAny_typeNameOfWhole_keyiter k.typeIs (wpAny_pure (wpAny_bind (wpAny_isOneOf_keyiter k.typeIs ?f)))))
 show wpAny _ _ (setField (.ref it) 1 (rawInt ((i:Int)+1)) >>= _) _ _ s
 refine wpAny_bind (wpAny_setField gi fi (by simp) (wpAny_bind (wpAny_holding (wpAny_bind (wpAny_isOneOf_keyiter (s:={ s with heap:=s.heap.update it (Obj.mapFields (·.setIfInBounds 1 (rawInt ((i:Int)+1)))) }) up.typeIs ?g)))))
 show wpAny _ _ (pure en.key) _ _ _
 exact wpAny_pure (wpAny_pure ⟨_,rfl,wpAny_pure fin⟩)
theorem Na{it d:Addr}{i n ep:Nat}{es:Array DictEntry}{Q:Option Value->Shared->Prop}(qu:Qu A s.heap)(k:s.heap.IsKeyIter it d i n ep)(g:Ent s.heap d es ep)(hn:es.size=n)(hi:n<=i)
  (q:∀h',Heap.ExtBut it s.heap h'->Q none { s with heap:=h' }):wpAny (model prog w) A (pyNext (.ref it)) Q E s:=by
 obtain⟨⟨od,gd,_,dd⟩⟩:=g
 obtain⟨oi,gi,ci,fi⟩:=id k
 have he:es[i]?=none:=Array.getElem?_eq_none ⋯
 unfold pyNext
 refine wpAny_bind (wpAny_attempt (wpAny_callSpecial?_slot (name:=Str.ofString "__next__") k.typeIs F.slot_dict_keyiterator_next (wpAny_call_entry F.slot_dict_keyiterator_next k.typeIs F.entry_dict_keyiterator_next (wpAny_bind (wpAny_pure (wpAny_bind (wpAny_bind ?a)))) (F.args_dict_keyiterator_next_1 _))))
 refine wpAny_bind (wpAny_typeNameOfWhole_keyiter k.typeIs (wpAny_pure (wpAny_bind (wpAny_fieldsOf gi fi ?b))))
 rw[show (if Builtin.Dict_items.ownsTuple "dict_keyiterator" = true then 2 else 0)=0 by decide]
 show wpAny _ _ (ite ((Value.ref d==Value.none)=true) _ _) _ _ s
 rw[if_neg (by exact fun z=>nomatch z)]
 refine wpAny_bind (wpAny_pure (wpAny_bind (wpAny_dictEntries gd dd ?c)))
 rw[if_neg (by rw[hn];simp)]
 refine wpAny_bind (wpAny_pure (wpAny_bind (wpAny_dictEpoch gd dd ?d)))
 rw[if_neg (by simp)]
 refine wpAny_pure ?e
 simp only[show ¬((i:Int)<0) by ac_rfl,ite_false,toNat_natCast,he]
 refine wpAny_bind (wpAny_bind (wpAny_typeNameOfWhole_keyiter k.typeIs (wpAny_pure ?f)))
 show wpAny _ _ (setField (.ref it) 0 .none >>= _) _ _ s
 have ne:∀b u,u5 u->s.heap.get? b=some u->b≠it:=fun b u m gb z=>by
  subst z
  rw[gi] at gb
  cases gb
  obtain⟨us,du,z2⟩:=m
  rw[fi] at du
  cases du
  simp at z2
 refine wpAny_bind (wpAny_setField gi fi (by simp) (lB (qu.keeps fun b u m z=>(Heap.get?_update_other _ _ (Ne.symm (ne b u m z))).trans z) fun h' e kk ⟨oe,ge,ce⟩=>?_))
 exact wpAny_bind (wpAny_isInstance (T:="StopIteration") (b:=true) ⟨oe,ge,ce⟩ isSubtype_stop (wpAny_pure (q _ fun b u hb z=>kk b u ((Heap.get?_update_other _ _ (Ne.symm hb)).trans z))))
theorem L5{d:Addr}{ep:Nat}{es:Array DictEntry}{Q:Value->Shared->Prop}(hd:(d==sysModules)=false)(g:Ent s.heap d es ep)
  (q:Q (.ref s.heap.objs.size) { s with heap:=s.heap.push { cls:=.type "dict_keyiterator",data:=.fields #[.ref d,.int 0 0,.int es.size 0,.int ep 0] } }):wpAny (model prog w) A (pyIter (.ref d)) Q E s:=by
 obtain⟨⟨od,gd,ex,dd⟩⟩:=g
 have ty:s.TypeIs (.ref d) "dict" := ⟨od,gd,ex.1⟩
 refine wpAny_pyIter_slot ty F.slot_dict_iter (wpAny_call_entry F.slot_dict_iter ty F.entry_dict_iter (wpAny_bind (show wpAny _ _ (Builtin.Dict.dictSlotNone _ _) _ _ s from ?a)) (F.args_dict_iter_1 _))
 unfold Builtin.Dict.dictSlotNone
 refine wpAny_bind (wpAny_notOrdered_dict ty (show wpAny _ _ (pure (Value.ref d)) _ _ s from wpAny_pure (show wpAny _ _ (Builtin.Dict.showsAll d >>= _) _ _ s from wpAny_bind ?b)))
 unfold Builtin.Dict.showsAll
 rw[if_neg (by rw[hd];exact Bool.false_ne_true)]
 refine wpAny_pure (wpAny_bind (wpAny_dictEntries gd dd (wpAny_bind (wpAny_dictEpoch gd dd (wpAny_bind (wpAny_newObj_type (wpAny_pure ⟨_,rfl, "dict_keyiterator",_,⟨_,Heap.get?_push_size _ rfl,rfl⟩,F.slot_dict_keyiterator_next.lookup,?c⟩)))))))
 simpa [rawInt] using q
end
def S9(a:Addr)(ep n:Nat):It:=
 ⟨fun i H=>∃kvs,H a=some (.dT ep kvs)/\kvs.length=n/\i<n,fun i H x H'=>H'=H /\ ∀kvs,H a=some (.dT ep kvs) -> ∃p b,kvs[i]?=some p/\x=.ref b/\H b=some (.tup (p.1.map kV)),fun i H=>∃kvs,H a=some (.dT ep kvs)/\kvs.length=n/\n<=i⟩
theorem Do{α β:Type}{F:α->β->Prop}:∀{l:List α} {m:List β},Paired F l m -> ∀{i:Nat} {p:α},l[i]?=some p -> ∃q,m[i]?=some q/\F p q
 |_,_,.nil,i,p,h=>by simp at h
 |_,_,.cons r t,0,p,h=>by
  simp only[List.getElem?_cons_zero,Option.some.injEq] at h
  subst h
  exact⟨_,rfl,r⟩
 |_,_,.cons r t,i+1,p,h=>Do t (i:=i) (by simpa using h)
theorem BH{α β:Type}{F:α->β->Prop}:∀{l:List α} {m:List β},Paired F l m->l.length=m.length
 |_,_,.nil=>rfl
 |_,_,.cons _ t=>congrArg (· + 1) (BH t)
theorem DL{P:Program}{w:World}{H:Hp}{h:Heap}{a:Addr}{ep:Nat}{kvs:List (List cL×V)}(ok:dR P w H h a (.dT ep kvs)):
  ∃es:Array DictEntry,Ent h a es ep/\es.size=kvs.length/\(a==sysModules)=false /\ ∀(i:Nat) (p:List cL×V),kvs[i]?=some p -> ∃(en:DictEntry) (b:Addr),es[i]?=some en/\en.key=.ref b/\H b=some (.tup (p.1.map kV)):=by
 obtain⟨_,hd,xs,r,o,es,g,ex,dd,he,_⟩:=ok
 refine⟨es,⟨⟨o,g,ex,dd⟩⟩,?_,hd,fun i p hp=>?_⟩
 ·rw[size_of_entries he]
  exact(BH r).symm
 ·obtain⟨q,hq,h1,h2,_⟩:=Do r hp
  exact⟨_,q.2.1,by rw[entry_at he,hq];rfl,rfl,h2⟩
theorem Ek{P:Program}{w:World}{K:W.Frag}{tg:Expr}(a it:Addr)(ep n:Nat):Turn P w K tg (S9 a ep n) [it] it (fun i h=>h.IsKeyIter it a i n ep) where
 mem:=mem_singleton_self _
 obj:=fun i h st b hb=>by
  obtain rfl:=mem_singleton.mp hb
  obtain⟨o,e,c,d⟩:=st
  exact⟨o,e,fun v z=>by rw[d] at z;cases z⟩
 keep:=fun i h h' st k=>st.at fun o e=>k it (mem_singleton_self _) o e
 item:=by
  rintro X rfl rfl rfl hc i pj s σ H E I hf st ⟨kvs,e,hl,hi⟩
  obtain⟨es,g,hz,hd,at_⟩:=DL (I.hok a _ e)
  obtain⟨p,hp⟩:∃p,kvs[i]?=some p:=⟨kvs[i]'⋯,List.getElem?_eq_getElem _⟩
  obtain⟨en,b,h1,h2,h3⟩:=at_ i p hp
  obtain⟨f0,f1,f2,f3,f4,f5⟩:=hf it (mem_singleton_self _)
  refine L4 st g (hz.trans hl) h1 fun h' st' sb=>?_
  have I1:Inv X pj σ H { s with heap:=h' }:=I.turned (t':=s.toks) (fun c o hb e=>(sb.2 c hb).trans e) f0 f1 f3 f4 f5
  obtain⟨o,e1,c,d⟩:=id st'
  exact⟨_,rfl,Bw (s:={ s with heap:=h' }) e1 c d ∅ ⟨.ref b,H,I1,h2,⟨rfl,fun kvs' e'=>⟨p,b,by rw[e] at e';cases e';exact hp,rfl,h3⟩⟩,st',fun b hb=>(hf b hb).1⟩⟩
 done:=by
  rintro X rfl rfl rfl hc i pj s σ H E I hf st ⟨kvs,e,hl,hi⟩
  obtain⟨es,g,hz,hd,at_⟩:=DL (I.hok a _ e)
  obtain⟨f0,f1,f2,f3,f4,f5⟩:=hf it (mem_singleton_self _)
  exact Na I.qu st g (hz.trans hl) hi fun h' eb=>⟨rfl,I.turned (t':=s.toks) (fun b o hb e=>eb b o hb e) f0 f1 f3 f4 f5⟩
 self:=fun _ _ _ _ _ st h=>wpAny_pyIter_keyiter st h
def Nj(tl:TE):TI:=fun σ H R=>tl σ H fun x H1=>∃a ep kvs,x=.ref a/\H1 a=some (.dT ep kvs)/\R (S9 a ep kvs.length) H1
theorem KC{X:Cx}{tg l:Expr}{tl:TE}(hl:PE X l tl):PI X tg l (Nj tl):=by
 intro pj s σ H R I h
 refine thn (hl pj s σ H _ I h) fun v s1 ⟨x,H1,I1,r1,a,ep,kvs,e,ea,q⟩=>?_
 subst e
 cases r1
 obtain⟨es,g,hz,hd,_⟩:=DL (I1.hok a _ ea)
 refine L5 hd g ?_
 refine⟨s1.heap.objs.size,[s1.heap.objs.size],_,_,H1,rfl,I1.kept (t':=s1.toks) fun b o e=>Heap.get?_push_of_some _ e,Ek a _ ep kvs.length,⟨_,Heap.get?_push_size _ rfl,rfl,by rw[hz];rfl⟩,fun b hb=>?_,q⟩
 obtain rfl:=mem_singleton.mp hb
 exact I1.fpOk (le_refl _) (I1.hok.fresh (le_refl _))
end L2
namespace Z
open L2
theorem Reps.ofKeys{K:W.Frag}{M:Addr->Prop}{H:Hp}:∀k:List cL,Reps K M H (k.map kV) (k.map kD)
 | []=>.nil
 | .inl i::r=>.cons (.int i) (Reps.ofKeys r)
 | .inr x::r=>.cons (.str x) (Reps.ofKeys r)
abbrev IW(kv:List cL×Dv):Dv:=.tup (kv.1.map kD)
theorem RepT.key{K:W.Frag}{M:Addr->Prop}{H:Hp}{xs:List (List cL×V)}{ds:List (List cL×Dv)}(r:RepT K M H xs ds):xs.map (·.1)=ds.map (·.1):=
 r.ind (P:=fun xs ds=>xs.map (·.1)=ds.map (·.1)) rfl fun _ _ _ _ _ _ _ ih=>by rw[map_cons,map_cons,ih]
theorem yT{K:W.Frag}{P:Hp}{M:Addr->Prop}{H1:Hp}{a:Addr}{ep:Nat}{xs:List (List cL×V)}{ds:List (List cL×Dv)}(hP:P a=some (.dT ep xs))(r:RepT K M H1 xs ds):
  xE K P M H1 (S9 a ep xs.length) (ds.map IW) []:=by
 intro i H' M' S G _
 have h':=S _ _ hP
 have hl:=r.len
 refine⟨fun d e=>?_,fun h=>⟨xs,h',rfl,by rw[length_map] at h;ac_rfl⟩⟩
 rw[List.getElem?_map] at e
 cases ed:ds[i]? with
 |none=>rw[ed] at e;cases e
 |some q=>
  rw[ed] at e
  cases e
  have hi:=(List.getElem?_eq_some_iff.mp ed).1
  refine⟨⟨xs,h',rfl,⋯⟩,fun y H'' ⟨e1,e2⟩=>?_⟩
  subst e1
  obtain⟨p,b,hp,rfl,hb⟩:=e2 xs h'
  have k1:(xs.map (·.1))[i]?=some p.1:=by rw[List.getElem?_map,hp];rfl
  rw[r.key,List.getElem?_map,ed] at k1
  have k2:q.1=p.1:=Option.some.inj k1
  rw[IW,k2]
  exact⟨aW.refl _,.tup hb (Reps.ofKeys _)⟩
def EN(tl:eT):CY:=fun ρ Q=>tl ρ fun r=>match r with
 | .v (.dit kvs)=>Q (kvs.map IW) []
 | .nw (.dit kvs)=>Q (kvs.map IW) []
 |_=>False
section
variable {X:Cx} {tg l:Expr} {tl:eT}
theorem Jr(h:QE X l tl):QI X tg l (EN tl):=by
 refine⟨fun ρ Q Q' w q=>h.mono _ _ _ (fun r q=>?_) q,fun HZ F=>⟨_,KC (h.run HZ F),fun σ H ρ R fr q=>?_⟩⟩
 ·unfold EN at *
  split at q<;>first | exact w _ _ q | exact q
 ·refine h.step fr q fun r x H1 q S1 r1=>?_
  have fr1:=fr.mono S1
  split at q
  ·rename_i ds
   cases r1 with
   |dit e m rs=>exact⟨_,_,_,rfl,e,q _ H1 S1 (by intro p hp;simp at hp) (yT (by rw[cY fun c=>m (.inr c)];exact e) rs)⟩
  ·rename_i ds
   obtain⟨a,rfl,n,ep,xs,e,rs⟩:=r1
   exact⟨_,_,_,rfl,e,q _ H1 S1 (by intro p hp;simp at hp) (yT (by rw[cY fun c=>fr.fresh n (.inr c)];exact e) (rs.gen (.weak fun b z=>.inl z)))⟩
  ·exact q.elim
def J3(kvs:List (List cL×Dv))(k:List cL):Bool:=kvs.any fun kv=>decide (kv.1=k)
def RQ(neg:Bool):R2:=fun x y H Q=>∃a o,y=.ref a/\u7 H a x o/\Q (.bl (if neg then !o.isSome else o.isSome)) H
theorem N6(hu:X.A.units+1<cLine):n0 X (compareOp .In) (RQ false):=by
 intro pj s σ H x y v u Q I rx ry h
 obtain⟨a,o,rfl,g,q⟩:=h
 cases ry
 exact Rx hu I g rx fun s' I'=>⟨.bl o.isSome,H,I',rfl,q⟩
def KP:Dv->Dv->(R->Prop)->Prop
 | .tup ds,.dit kvs,Q=>∃k:List cL,ds=k.map kD/\Q (.v (.bl (J3 kvs k)))
 |_,_,_=>False
theorem RepT.has{K:W.Frag}{M:Addr->Prop}{H:Hp}{k:List cL}{xs:List (List cL×V)}{ds:List (List cL×Dv)}(r:RepT K M H xs ds):(lU xs k).isSome=J3 ds k:=by
 have h:=r.val (k:=k)
 unfold J3
 cases e:ds.find? (fun kv=>decide (kv.1=k)) with
 |none=>
  rw[h.2 e]
  have:=List.find?_eq_none.mp e
  symm
  rw[Option.isSome_none,List.any_eq_false]
  exact this
 |some kv=>
  obtain⟨x,hx,_⟩:=h.1 kv e
  rw[hx]
  symm
  rw[Option.isSome_some,List.any_eq_true]
  exact⟨kv,List.mem_of_find?_eq_some e,by have:=find?_some (p:=fun kv:List cL×Dv=>decide (kv.1=k)) e;exact this⟩
theorem KR(hu:X.A.units+1<cLine):zA X (compareOp .In) KP:=by
 refine⟨fun dx dy Q Q' w h=>?_,_,N6 hu,fun M O H x y dx dy Q cx cy h=>?_⟩
 ·unfold KP at *
  split at h
  ·exact⟨h.choose,h.choose_spec.1,w _ h.choose_spec.2⟩
  ·exact h
 ·unfold KP at h
  split at h
  ·obtain⟨k,rfl,q⟩:=h
   obtain⟨b,ys,rfl,eb,rb⟩:=cx.tup
   obtain rfl:=rb.keys
   obtain⟨a,ep,kvs,rfl,ea,ra⟩:=cy.dit
   refine⟨a,_,rfl,u7.t ea eb,?_⟩
   rw[if_neg ∅,ra.has]
   exact q _ H (aW.refl _) (Rep.bl _)
  ·exact h.elim
end
end Z
namespace HT
open PySem PyProof.Rows
section
open PySem.SeqAt
open PySem.AutoSeq1 (wpAny_loadPart')
open PySem.MeetsSeq PySem.MeetsSeq2 PySem.MeetsSeq3
end
section
variable {prog:Program} {w:World} {A:Around} {E:Value->Shared->Prop} {s:Shared}
end
end HT
namespace L2
section
variable {X:Cx}
end
end L2
namespace Z
open L2
section
variable {X:Cx} {o e:Expr} {to te:eT} {apos cpos:Pos}
end
end Z
namespace L2
section
variable {X:Cx}
end
end L2
namespace Z
open L2
section
variable {X:Cx} {M:Addr->Prop}
theorem ER{pj:List (Addr×Obj)}{σ:St}{H:Hp}{s:Shared}(I:Inv X pj σ H s){dx:Dv}{xs:List V}{ds:List Dv}{us:List Value}(r:Reps X.K M H xs ds)(ok:okDs 8 ds=true)(rv:bV xs us){j:Nat}{u:Value}{d:Dv}(hu:us[j]?=some u)(hd:ds[j]?=some d):mR s.heap (gL dx) u=eqD d dx:=by
 obtain⟨x,hx,rx⟩:=r.get hd
 obtain⟨u',hu',ru⟩:=rv.get hx
 rw[hu] at hu'
 cases hu'
 have okd:dQ 8 d=true:=by
  have key:∀(l:List Dv) (j:Nat),okDs 8 l=true->l[j]?=some d->dQ 8 d=true:=fun l=>by
   induction l with
   |nil=>intro j _ h;simp at h
   |cons a l ih=>
    intro j ok h
    have ok':(dQ 8 a&&okDs 8 l)=true:=ok
    rw[Bool.and_eq_true] at ok'
    cases j with
    |zero=>simp at h;subst h;exact ok'.1
    |succ j=>exact ih j ok'.2 (by simpa using h)
  exact key ds j ok hd
 obtain⟨as,ra⟩:=Rep.reads I rx okd ru
 rw[AE (nV 8 _ okd).1 ra]
 rfl
variable {o e:Expr} {to te tg tp:eT} {apos cpos:Pos}
end
end Z
namespace L2
section
variable {P:Program} {w:World} {K:W.Frag} {H H':Hp} {h h':Heap} {a C:Addr}
end
section
variable {P:Program} {w:World} {fs:List Addr} {H H':Hp} {h0 h1 h2 B:Heap}
end
section
variable {P:Program} {w:World} {K:W.Frag} {mg:Str->Option Value} {base:Heap} {N:List Str} {qual:Str} {scope:Scope} {f:Addr} {cd:Value} {A:Around} {outer:List Env} {s0:Shared} {H0:Hp} {E:XK}
end
section
variable {X:Cx} {x:Str} {C:Addr} {e:Expr} {es:List Expr} {t:TA} {np cpos pos:Pos}
end
section
variable {X:Cx} {pj:List (Addr×Obj)} {σ:St} {H:Hp} {s:Shared} {a:Addr}
end
section
variable {X:Cx} {pj:List (Addr×Obj)} {σ:St} {H1:Hp} {s1 s2:Shared} {E:XK} {e:Value} {D:Ends}
end
section
variable {X:Cx} {k:Nat} {f:Addr} {fd:FuncData} {ps:List Str} {sp:Sp} {x:Str} {p cpos epos pos:Pos} {e:Expr} {es:List Expr} {t:TA}
end
section
open PySem.Calls PySem.Builtin PySem.Builtin.ObjectAttr PySem.Builtin.Getset_descriptor
variable {K:W.Frag} {M:Model} {h:Heap} {x C:Addr}
variable {prog:Program} {w:World} {A:Around} {E:Value->Shared->Prop} {s:Shared}
end
section
variable {X:Cx}
end
section
variable {X:Cx} {k:Nat} {f:Addr} {fd:FuncData} {ps:List Str} {sp:Sp} {E:XK} {x:Str} {p pos:Pos} {e:Expr} {es:List Expr} {t:TA}
end
end L2
namespace Z
open L2
section
variable {X:Cx} {HZ:Hp} {F:Addr->Prop} {st:Stmt} {sts a b:List Stmt} {t u:cO} {c:Expr} {tc:oA} {pos:Pos}
end
section
variable {P:Program} {w:World} {K:W.Frag} {mg:Str->Option Value} {base:Heap} {N:List Str} {qual:Str} {scope:Scope} {f:Addr} {cd:Value} {A:Around} {outer:List Env} {s0:Shared} {H0:Hp} {E:XK}
end
section
variable {X:Cx} {k:Nat} {ps:List Str} {sp:FnX} {x:Str} {p cpos epos pos:Pos} {e:Expr} {es:List Expr} {ts:qJ}
end
section
variable {X:Cx} {k:Nat} {x:Str} {ps:List Str} {sp:Fn} {e:Expr} {es:List Expr} {ts:qJ} {p pos:Pos}
end
section
variable {X:Cx}
end
end Z
namespace L2
section
variable {X:Cx}
end
end L2
namespace Z
open L2
section
variable {X:Cx} {tg l e o:Expr} {tl te to:eT} {pos apos cpos:Pos}
end
end Z
namespace L2
open PySem PySem.Spec PySem.W PyProof.Rows Tim
section
variable {prog:Program} {w:World} {A:Around} {E:Value->Shared->Prop} {s:Shared}
end
section
variable {X:Cx}
end
end L2
namespace L2
section
variable {X:Cx}
end
end L2
namespace Z
open L2
section
variable {X:Cx} {a b c d e:Expr} {ta tb tc td te:eT} {pos:Pos}
end
end Z
namespace L2
section
variable {X:Cx}
end
end L2
namespace Z
open L2
section
variable {X:Cx} {a b c d e:Expr} {ta tb tc td te:eT} {pos:Pos}
end
section
variable {X:Cx} {pos:Pos}
end
end Z
namespace L2
section
variable {X:Cx} {pj:List (Addr×Obj)} {σ:St} {H:Hp} {s:Shared} {a:Addr} {r:Value} {E:Value->Shared->Prop}
end
end L2
namespace L2
open PySem.MeetsSeq PySem.SeqAt
theorem Jn{l:Addr}{its:Array Value}{c:Nat}{u:Value}{q:Value->Bool}{j:Nat}(lt:j<its.size)(yes:q its[j]=true)(few:its.size<=sizeLine):∀(d i:Nat),i+d=j->(∀(m:Nat) (z:m<its.size),i<=m->m<j->q its[m]=false) ->
  Meets (Builtin.«list.remove.loop» ⟨[.ref l,u,rawInt i],[]⟩) (fun A R s=>s.heap.get? l=some (seqObj "list" its c)/\(∀y,y∈its->EqAt A.in1 s y u (q y))/\R (.ok (.ret .none)) { s with heap:=s.heap.update l (Obj.mapSeq fun b=>b.eraseIdxIfInBounds j) }):=by
 intro d
 induction d with
 |zero=>
  rintro i e0 _ prog w A R ⟨hp,g,dr,tk,os⟩ ⟨g1,g2,g3⟩
  obtain rfl:i=j:=e0
  wp_walk using wpAny_loadPart' g1
  rw[show its[((i:Nat):Int).toNat]?=some its[i] by simp[lt]]
  refine wpAny_bind (g2 _ (Array.getElem_mem lt) prog w _ _ ?_)
  rw[yes]
  have room:(its.eraseIdxIfInBounds i).size<=sizeLine+1:=by
   have:=size_erased its i
   ac_rfl
  wp_walk using(wpAny_updateSeq g1 rfl (hz:=few) (_hz':=room)),wpAny_loadPart' g1
  rw[toNat_natCast]
  exact g3
 |succ d ih=>
  rintro i e0 no prog w A R ⟨hp,g,dr,tk,os⟩ ⟨g1,g2,g3⟩
  have li:i<its.size:=⋯
  wp_walk using wpAny_loadPart' g1
  rw[show its[((i:Nat):Int).toNat]?=some its[i] by simp[li]]
  refine wpAny_bind (g2 _ (Array.getElem_mem li) prog w _ _ ?_)
  rw[no i li (le_refl i) ⋯]
  wp_walk
  rw[show (i:Int)+1=((i+1:Nat):Int) by ac_rfl]
  refine⟨plainId_quiet plain_remove_loop _,codeAny_builtin entry_remove_loop ?_⟩;rw[Around.under_plainId plain_remove_loop _]
  exact ih (i+1) ⋯ (fun m z a b=>no m z ⋯ b) prog w A R _ ⟨g1,g2,g3⟩
theorem Jo{l:Addr}{its:Array Value}{c:Nat}{u:Value}{q:Value->Bool}{j:Nat}(lt:j<its.size)(yes:q its[j]=true)(few:its.size<=sizeLine)(no:∀(m:Nat) (z:m<its.size),m<j->q its[m]=false):
  Meets (Builtin.«list.remove» ⟨[.ref l,u],[]⟩) (fun A R s=>s.heap.get? l=some (seqObj "list" its c)/\(∀y,y∈its->EqAt A.in1 s y u (q y))/\R (.ok (.ret .none)) { s with heap:=s.heap.update l (Obj.mapSeq fun b=>b.eraseIdxIfInBounds j) }):=by
 rintro prog w A R ⟨hp,g,dr,tk,os⟩ ⟨g1,g2,g3⟩
 wp_walk using wpAny_loadPart' g1
 refine⟨plainId_quiet plain_remove_loop _,codeAny_builtin entry_remove_loop ?_⟩;rw[Around.under_plainId plain_remove_loop _]
 exact Jn lt yes few j 0 ⋯ (fun m z _ b=>no m z b) prog w A R _ ⟨g1,g2,g3⟩
end L2
namespace Z
open L2
section
variable {X:Cx} {M:Addr->Prop}
theorem D5(hu:X.A.units+65<cLine):Qv X "list.remove" (fun x vs H Q=>∃(M:Addr->Prop) (dx:Dv) (ds:List Dv) (l:Addr) (xs:List V) (y:V) (j:Nat) (d:Dv),x=.ref l/\vs=[y]/\eP X.K M H y dx/\H l=some (.lst xs)/\Reps X.K M H xs ds/\dQ 8 dx=true/\okDs 8 ds=true /\
  ds[j]?=some d/\eqD d dx=true/\(∀m e,m<j->ds[m]?=some e->eqD e dx=false)/\Q .non (upd H l (.lst (xs.eraseIdx j)))):=by
 intro pj s σ H x vs v us Q I rx rv h
 obtain⟨M,dx,ds,l,xs,y,j,d,rfl,rfl,cy,hH,rs,o1,o2,hj,hit,hno,q⟩:=h
 cases rx
 obtain⟨u,rfl,ru⟩:=rv.one
 obtain⟨bs,rb⟩:=cy.reads I o1 ru
 obtain⟨z,its,n,r,hl,e⟩:=I.lstM hH
 have li:its.length=ds.length:=by rw[<- hl,rs.length]
 have hj':j<its.length:=by rw[li];exact(List.getElem?_eq_some_iff.mp hj).1
 have hz:its.length<=sizeLine:=by rw[<- hl];exact z
 refine call_meets F.slot_list_remove ⟨_,e,rfl⟩ F.entry_list_remove (F.args_list_remove_2 _ _)
  (Jo (q:=mR s.heap (gL dx)) (by simpa using hj') ?_ (by rw[size_toArray];exact hz) fun m hm hlt=>?_) ⟨e,fun w hw=>mO I rb o1 (mP hu) rs o2 r w (by simpa using hw),?_⟩
 ·show mR s.heap (gL dx) its[j]=true
  rw[ER I rs o2 r (List.getElem?_eq_getElem hj') hj]
  exact hit
 ·have hm':m<its.length:=by simpa using hm
  have hm2:m<ds.length:=⋯
  show mR s.heap (gL dx) its[m]=false
  rw[ER I rs o2 r (List.getElem?_eq_getElem hm') (List.getElem?_eq_getElem hm2)]
  exact hno m _ hlt (List.getElem?_eq_getElem hm2)
 ·refine⟨.non,_,I.lset (its':=its.eraseIdx j) hH e ?_ (r.eraseIdx j) ?_,rfl,q⟩
  ·show its.toArray.eraseIdxIfInBounds j=(its.eraseIdx j).toArray
   rw[List.eraseIdxIfInBounds_toArray]
  ·have:=yQ xs j
   ac_rfl
variable {e:Expr} {te:eT}
def Ci(i:Nat)(te:eT):cO:=fun E ρ=>match ρ[i]? with
 |some (.own a (.lst ds))=>te ρ fun v=>∃(j:Nat) (d:Dv),(dQ 8 v.d=true/\okDs 8 ds=true)/\ds[j]?=some d/\eqD d v.d=true/\(∀m e,m<j->ds[m]?=some e->eqD e v.d=false)/\E.nx (ρ.set i (.own a (.lst (ds.eraseIdx j))))
 |_=>False
theorem Om{i:Nat}{x:Str}{p1 p2 p3 pos:Pos}(hu:X.A.units+65<cLine)(hv:PE X (.Name x p1) (zH i))(he:QE X e te)
  (hs:swapsWith (.Call (.Attribute (.Name x p1) "remove" p2) [e] [] p3) none pos.line X.env=pure false:=by rfl)
  (hbase:attributeBase (.Name x p1) "remove" X.env (eval (.Name x p1) X.env)=eval (.Name x p1) X.env:=by rfl)
  (hfew:((backTo p3 (starEach (e::[]) X.env)).all (fun x=>!x.1)&&(backToKw p3 (keywordEach [] X.env)).all (fun x=>x.1.isSome)
   && decide ((e::[]).length+([]:List Keyword).length+(if ([]:List Keyword).isEmpty then 0 else 1)<30))=true:=by rfl)
  (hline:(p2.endLine==p3.line)=true:=by rfl) (hst:starEach (e::[]) X.env=(false,eval e X.env)::starEach [] X.env:=by rfl) (hplain:(backTo p3 (starEach [] X.env)).any (·.1)=false:=by rfl):
  QS X (.Expr (.Call (.Attribute (.Name x p1) "remove" p2) [e] [] p3) pos) (Ci i te):=by
 have hA:QA X [e] (aD te aJ):=aG he aI hst
 refine⟨fun E E' ρ w h=>?_,fun HZ F=>gR (sN (HJ PySem.F.plainAttrs_list PySem.F.slot_list_remove PySem.F.type_list_remove (D5 hu) hv (hA.run HZ F) hbase hfew hline hst hplain) hs) fun D σ H ⟨ρ,E,fr,h,en⟩=>?_⟩
 ·unfold Ci at *
  split at h
  ·exact he.mono _ _ _ (fun v ⟨j,d,a,b,c,f,q⟩=>⟨j,d,a,b,c,f,w.nx _ q⟩) h
  ·exact h
 ·unfold Ci at h
  split at h
  ·rename_i a ds hx
   obtain⟨hs1,vs,hv1,rv1⟩:=fr.sl i _ hx
   refine⟨_,hs1,.inl ⟨rfl,_,gM.of hv1⟩,?_⟩
   have h':aD te aJ ρ fun rs=>∃v,rs=[v] /\ ∃(j:Nat) (d:Dv),(dQ 8 v.d=true/\okDs 8 ds=true)/\ds[j]?=some d/\eqD d v.d=true/\(∀m e,m<j->ds[m]?=some e->eqD e v.d=false)/\E.nx (ρ.set i (.own a (.lst (ds.eraseIdx j)))):=
    he.mono _ _ _ (fun v z=>⟨v,rfl,z⟩) h
   refine hA.step fr h' fun rs xs' H2 ⟨v,erv,j,d,⟨o1,o2⟩,hj,hit,hno,q⟩ S2 r2=>?_
   subst erv
   have cc:=r2.c
   obtain⟨y,rfl,cy⟩:=fJ cc
   have hv2:=S2 _ _ hv1
   have rv2:=rv1.mono S2
   have G:Gen X.K (MM F ρ) (MM F ρ) H2 (upd H2 a (.lst (vs.eraseIdx j))):=Gen.write (.inr ⟨_,mem_of_getElem? hx⟩) (by rw[hv2];trivial)
   refine⟨_,_,ds,a,vs,y,j,d,rfl,rfl,cy,hv2,rv2,o1,o2,hj,hit,hno,?_⟩
   exact en.nx _ _ _ ((fr.mono S2).write (d':=.lst (ds.eraseIdx j)) hx ⟨_,cT,(rv2.erase j).gen G⟩) q
  ·exact h.elim
end
end Z
local macro_rules | `(tactic| ac_nf)=>`(tactic| simp only[↓Z.zt,Z.zo,Z.zc,Z.nH,Nat.reduceSub,Nat.reduceAdd,↓reduceIte,Int.reduceEq,Int.reduceMul,Int.reduceAdd,Int.reduceSub,Int.reduceNeg,Z.guard,Int.reduceLT,Int.reduceLE,Int.reduceToNat,Int.reducePow,Nat.reduceLT,Nat.reduceLeDiff,Nat.reducePow,Z.zB])
local macro_rules | `(tactic| push_cast [$xs,*])=>`(tactic| simp only[↓Z.zt,Z.zo,Z.zc,Z.nH,Nat.reduceSub,Nat.reduceAdd,↓reduceIte,Int.reduceEq,Int.reduceMul,Int.reduceAdd,Int.reduceSub,Int.reduceNeg,Z.guard,Int.reduceLT,Int.reduceLE,Int.reduceToNat,Int.reducePow,Nat.reduceLT,Nat.reduceLeDiff,Nat.reducePow,Z.zB,$xs,*])
namespace Lw
open L2 Z
def top(i:Nat):Stmt:=PySem.Challenge.pw_slantfloor_k47_down_to_the_low_floor.main.body.getD i (.Pass ⟨0,0,0,0⟩)
abbrev oF:cO:=
 (cD (fX jY (aD (fX oU (aD (aT Bc (aE 0) (cZ (aD (aE 1) aJ))) aJ)) aJ)))
section
variable {P:Program} {w:World} {K:W.Frag} {mg:Str->Option Value} {base:Heap}
local macro_rules | `(tactic| norm_cast)=>`(tactic| exact⟨rfl,rfl,rfl,by decide +kernel,rfl,by decide +kernel,by decide +kernel⟩)
theorem AI{sp:Fn}(m:At K mg "with_band" "with_band" (top 7) ["below", "band"])(eV:mg "sorted" = none)(cV:mg "tuple" = none)(len:∀ds Q,sp ds Q->ds.length=2)(hsp:∀ds Q,sp ds Q->oF  ↥Q (aN ["below", "band"] ds)):Def P w K mg base 1 "with_band" ["below", "band"] (low K sp):=by
 have sc:FnScope ["below", "band"] ["below", "band"] (aH (top 7)):=by norm_cast
 refine m.okP (k:=0) (t:=oF ) sc (fun f cdv A outer s H E hr=>?_) len hsp
 ·
  exact(aM (bO (jM mV rfl cV boot_tuple (aG (bC DT rfl eV boot_sorted (aG (cF Hs (aF 0 (pv 0)) (d6 (aG (aF 1 (pv 1)) aI))) aI)) aI))))
abbrev rT:cO:=
 (B4 1 (cZ (aD (aE 2) (aD (aE 3) aJ))) (aE 4))
abbrev vL:cO:=
 (aR (iV 1 O9)
 (aR (gQ (jP (aE 0)) (gT [2,3,4]) rT)
 (cD (aE 1))))
theorem G4{sp:Fn}(m:At K mg "belows" "belows" (top 8) ["floor"])(len:∀ds Q,sp ds Q->ds.length=1)(hsp:∀ds Q,sp ds Q->vL  ↥Q (aN ["floor", "told", "a", "b", "below"] ds)):Def P w K mg base 1 "belows" ["floor"] (low K sp):=by
 have sc:FnScope ["floor", "told", "a", "b", "below"] ["floor"] (aH (top 8)):=by norm_cast
 refine m.okP (k:=0) (t:=vL ) sc (fun f cdv A outer s H E hr=>?_) len hsp
 ·
  have hu1:=eZ hr
  exact(aL (iL (i:=1) sc.nd rfl (.inl rfl) zO)
 (aL (eJ PassesOwn.never rfl (eX (aF 0 (pv 0))) (BB (k:=5) (is:=[2,3,4]) rfl (d5 (dH (i:=2) sc.nd rfl (.inl rfl)) (d5 (dH (i:=3) sc.nd rfl (.inl rfl)) (d5 (dH (i:=4) sc.nd rfl (.inl rfl)) lN)))) (aM (Gq hu1 (i:=1) (pv 1) (d6 (aG (aF 2 (pv 2)) (aG (aF 3 (pv 3)) aI))) (aF 4 (pv 4)))))
 (aM (bO (aF 1 (pv 1))))))
abbrev tZ:cO:=
 (pZ 1 (cZ (aD (aE 2) (aD (aE 3) (aD (aE 4) (aD (aE 5) aJ))))))
abbrev pX:cO:=
 (gQ (kL (aD (aT dZ (aE 4) (eC (.int 1))) (aD (aE 0) aJ))) (gN 5) tZ)
abbrev pW:cO:=
 (gQ (kL (aD (aT dZ (aE 3) (eC (.int 1))) (aD (aE 0) aJ))) (gN 4) pX)
abbrev pV:cO:=
 (gQ (kL (aD (aT dZ (aE 2) (eC (.int 1))) (aD (aE 0) aJ))) (gN 3) pW)
abbrev zG:cO:=
 (aR (iV 1 (i5 aJ))
 (aR (gQ (eM (aD (aE 0) aJ)) (gN 2) pV)
 (cD (aE 1))))
theorem JH{sp:Fn}(m:At K mg "fours" "fours" (top 12) ["many"])(bA:mg "range" = none)(len:∀ds Q,sp ds Q->ds.length=1)(hsp:∀ds Q,sp ds Q->zG  ↥Q (aN ["many", "told", "i", "j", "k", "l"] ds)):Def P w K mg base 1 "fours" ["many"] (low K sp):=by
 have sc:FnScope ["many", "told", "i", "j", "k", "l"] ["many"] (aH (top 12)):=by norm_cast
 refine m.okP (k:=0) (t:=zG ) sc (fun f cdv A outer s H E hr=>?_) len hsp
 ·
  exact(aL (iL (i:=1) sc.nd rfl (.inl rfl) (gK aI))
 (aL (eJ PassesOwn.never rfl (eD rfl bA (aG (aF 0 (pv 0)) aI)) (g6 (i:=2) (k:=6) sc.nd rfl (.inl rfl)) (aM (eJ PassesOwn.never rfl (kQ rfl bA (aG (cF cR (aF 2 (pv 2)) aU) (aG (aF 0 (pv 0)) aI))) (g6 (i:=3) (k:=6) sc.nd rfl (.inl rfl)) (aM (eJ PassesOwn.never rfl (kQ rfl bA (aG (cF cR (aF 3 (pv 3)) aU) (aG (aF 0 (pv 0)) aI))) (g6 (i:=4) (k:=6) sc.nd rfl (.inl rfl)) (aM (eJ PassesOwn.never rfl (kQ rfl bA (aG (cF cR (aF 4 (pv 4)) aU) (aG (aF 0 (pv 0)) aI))) (g6 (i:=5) (k:=6) sc.nd rfl (.inl rfl)) (aM (uC (i:=1) (pv 1) (d6 (aG (aF 2 (pv 2)) (aG (aF 3 (pv 3)) (aG (aF 4 (pv 4)) (aG (aF 5 (pv 5)) aI))))))))))))))
 (aM (bO (aF 1 (pv 1))))))
abbrev lX(cS:Fn):cO:=
 (cD (i5 (aD (cZ (aD (aE 0) (aD (aE 1) (aD (aE 3) aJ)))) (aD (cZ (aD (aE 0) (aD (aE 2) (aD (aS cS (aD (aE 3) (aD (aE 1) aJ))) aJ)))) (aD (cZ (aD (aE 1) (aD (aE 2) (aD (aE 3) aJ)))) aJ)))))
theorem wV{cS:Fn}{sp:Fn}(m:At K mg "standing_up" "standing_up" (top 19) ["a", "b", "c", "some"])(g8:Def P w K mg base 1 "with_band" ["below", "band"] (low K cS))(kI:MonoF cS)(len:∀ds Q,sp ds Q->ds.length=4)(hsp:∀ds Q,sp ds Q->lX cS ↥Q (aN ["a", "b", "c", "some"] ds)):Def P w K mg base 2 "standing_up" ["a", "b", "c", "some"] (low K sp):=by
 have sc:FnScope ["a", "b", "c", "some"] ["a", "b", "c", "some"] (aH (top 19)):=by norm_cast
 refine m.okP (k:=1) (t:=lX cS) sc (fun f cdv A outer s H E hr=>?_) len hsp
 ·
  exact(aM (bO (gK (aG (d6 (aG (aF 0 (pv 0)) (aG (aF 1 (pv 1)) (aG (aF 3 (pv 3)) aI)))) (aG (d6 (aG (aF 0 (pv 0)) (aG (aF 2 (pv 2)) (aG (aZ g8 kI (hr.mono ∅) (aG (aF 3 (pv 3)) (aG (aF 1 (pv 1)) aI))) aI)))) (aG (d6 (aG (aF 1 (pv 1)) (aG (aF 2 (pv 2)) (aG (aF 3 (pv 3)) aI)))) aI))))))
abbrev jU(cS:Fn):cO:=
 (cD (i5 (aD (cZ (aD (aE 0) (aD (aE 1) (aD (aS cS (aD (aE 3) (aD (aE 2) aJ))) aJ)))) (aD (cZ (aD (aE 0) (aD (aE 2) (aD (aE 3) aJ)))) (aD (cZ (aD (aE 1) (aD (aE 2) (aD (aS cS (aD (aE 3) (aD (aE 0) aJ))) aJ)))) aJ)))))
theorem tU{cS:Fn}{sp:Fn}(m:At K mg "standing_down" "standing_down" (top 20) ["a", "b", "c", "some"])(g8:Def P w K mg base 1 "with_band" ["below", "band"] (low K cS))(kI:MonoF cS)(len:∀ds Q,sp ds Q->ds.length=4)(hsp:∀ds Q,sp ds Q->jU cS ↥Q (aN ["a", "b", "c", "some"] ds)):Def P w K mg base 2 "standing_down" ["a", "b", "c", "some"] (low K sp):=by
 have sc:FnScope ["a", "b", "c", "some"] ["a", "b", "c", "some"] (aH (top 20)):=by norm_cast
 refine m.okP (k:=1) (t:=jU cS) sc (fun f cdv A outer s H E hr=>?_) len hsp
 ·
  exact(aM (bO (gK (aG (d6 (aG (aF 0 (pv 0)) (aG (aF 1 (pv 1)) (aG (aZ g8 kI (hr.mono ∅) (aG (aF 3 (pv 3)) (aG (aF 2 (pv 2)) aI))) aI)))) (aG (d6 (aG (aF 0 (pv 0)) (aG (aF 2 (pv 2)) (aG (aF 3 (pv 3)) aI)))) (aG (d6 (aG (aF 1 (pv 1)) (aG (aF 2 (pv 2)) (aG (aZ g8 kI (hr.mono ∅) (aG (aF 3 (pv 3)) (aG (aF 0 (pv 0)) aI))) aI)))) aI))))))
abbrev jT(eR dM:Fn):cO:=
 (aR (bK 2 (aT cX (aE 1) (eC (.int 0))))
 (aR (bK 3 (aT cX (aE 1) (eC (.int 1))))
 (aR (bK 4 (aT cX (aE 1) (eC (.int 2))))
 (aR (bK 5 (i5 (aD (cZ (aD (aE 2) (aD (aE 3) (aD (aT cX (aE 0) (cZ (aD (aE 2) (aD (aE 3) aJ)))) aJ)))) (aD (cZ (aD (aE 2) (aD (aE 4) (aD (aT cX (aE 0) (cZ (aD (aE 2) (aD (aE 4) aJ)))) aJ)))) (aD (cZ (aD (aE 3) (aD (aE 4) (aD (aT cX (aE 0) (cZ (aD (aE 3) (aD (aE 4) aJ)))) aJ)))) aJ)))))
 (aR (hZ (bB (aT t6 (aE 5) (aS eR (aD (aE 2) (aD (aE 3) (aD (aE 4) (aD (aT cX (aE 0) (cZ (aD (aE 2) (aD (aE 3) aJ)))) aJ))))))) (cD (aS dM (aD (aE 2) (aD (aE 3) (aD (aE 4) (aD (aT cX (aE 0) (cZ (aD (aE 2) (aD (aE 3) aJ)))) aJ)))))) bL)
 (aR (hZ (bB (aT t6 (aE 5) (aS dM (aD (aE 2) (aD (aE 3) (aD (aE 4) (aD (aT cX (aE 0) (cZ (aD (aE 2) (aD (aE 4) aJ)))) aJ))))))) (cD (aS eR (aD (aE 2) (aD (aE 3) (aD (aE 4) (aD (aT cX (aE 0) (cZ (aD (aE 2) (aD (aE 4) aJ)))) aJ)))))) bL)
 (cD (eC .non))))))))
theorem tT{eR dM:Fn}{sp:Fn}(m:At K mg "tiles_by_flip" "tiles_by_flip" (top 21) ["below", "three"])(jD:Def P w K mg base 2 "standing_up" ["a", "b", "c", "some"] (low K eR))(oY:MonoF eR)(hG:Def P w K mg base 2 "standing_down" ["a", "b", "c", "some"] (low K dM))(mL:MonoF dM)(len:∀ds Q,sp ds Q->ds.length=2)(hsp:∀ds Q,sp ds Q->jT eR dM ↥Q (aN ["below", "three", "a", "b", "c", "tiles"] ds)):Def P w K mg base 3 "tiles_by_flip" ["below", "three"] (low K sp):=by
 have sc:FnScope ["below", "three", "a", "b", "c", "tiles"] ["below", "three"] (aH (top 21)):=by norm_cast
 refine m.okP (k:=2) (t:=jT eR dM) sc (fun f cdv A outer s H E hr=>?_) len hsp
 ·
  have hu:=hr.units
  have hu1:=eZ hr
  exact(aL (cN (i:=2) sc.nd rfl (.inl rfl) (cJ hu1 (aF 1 (pv 1)) aU))
 (aL (cN (i:=3) sc.nd rfl (.inl rfl) (cJ hu1 (aF 1 (pv 1)) aU))
 (aL (cN (i:=4) sc.nd rfl (.inl rfl) (cJ hu1 (aF 1 (pv 1)) aU))
 (aL (cN (i:=5) sc.nd rfl (.inl rfl) (gK (aG (d6 (aG (aF 2 (pv 2)) (aG (aF 3 (pv 3)) (aG (cJ hu1 (aF 0 (pv 0)) (d6 (aG (aF 2 (pv 2)) (aG (aF 3 (pv 3)) aI)))) aI)))) (aG (d6 (aG (aF 2 (pv 2)) (aG (aF 4 (pv 4)) (aG (cJ hu1 (aF 0 (pv 0)) (d6 (aG (aF 2 (pv 2)) (aG (aF 4 (pv 4)) aI)))) aI)))) (aG (d6 (aG (aF 3 (pv 3)) (aG (aF 4 (pv 4)) (aG (cJ hu1 (aF 0 (pv 0)) (d6 (aG (aF 3 (pv 3)) (aG (aF 4 (pv 4)) aI)))) aI)))) aI)))))
 (aL (eW (cC (jZ hu) (aF 5 (pv 5)) (aZ jD oY (hr.mono ∅) (aG (aF 2 (pv 2)) (aG (aF 3 (pv 3)) (aG (aF 4 (pv 4)) (aG (cJ hu1 (aF 0 (pv 0)) (d6 (aG (aF 2 (pv 2)) (aG (aF 3 (pv 3)) aI)))) aI)))))) (aM (bO (aZ hG mL (hr.mono ∅) (aG (aF 2 (pv 2)) (aG (aF 3 (pv 3)) (aG (aF 4 (pv 4)) (aG (cJ hu1 (aF 0 (pv 0)) (d6 (aG (aF 2 (pv 2)) (aG (aF 3 (pv 3)) aI)))) aI))))))) bZ)
 (aL (eW (cC (jZ hu) (aF 5 (pv 5)) (aZ hG mL (hr.mono ∅) (aG (aF 2 (pv 2)) (aG (aF 3 (pv 3)) (aG (aF 4 (pv 4)) (aG (cJ hu1 (aF 0 (pv 0)) (d6 (aG (aF 2 (pv 2)) (aG (aF 4 (pv 4)) aI)))) aI)))))) (aM (bO (aZ jD oY (hr.mono ∅) (aG (aF 2 (pv 2)) (aG (aF 3 (pv 3)) (aG (aF 4 (pv 4)) (aG (cJ hu1 (aF 0 (pv 0)) (d6 (aG (aF 2 (pv 2)) (aG (aF 4 (pv 4)) aI)))) aI))))))) bZ)
 (aM (bO Di))))))))
abbrev qO:cO:=
 (cD (uI (uS "int" (aE 0)) (wU (uS "bool" (aE 0)))))
theorem CB{sp:Fn}(m:At K mg "is_whole" "is_whole" (top 26) ["thing"])(bD:mg "isinstance" = none)(y7:mg "int" = none)(t7:mg "bool" = none)(len:∀ds Q,sp ds Q->ds.length=1)(hsp:∀ds Q,sp ds Q->qO  ↥Q (aN ["thing"] ds)):Def P w K mg base 1 "is_whole" ["thing"] (low K sp):=by
 have sc:FnScope ["thing"] ["thing"] (aH (top 26)):=by norm_cast
 refine m.okP (k:=0) (t:=qO ) sc (fun f cdv A outer s H E hr=>?_) len hsp
 ·
  exact(aM (bO (BC (sK (.inl rfl) rfl bD (aF 0 (pv 0)) (kG (v:=.ty "int") rfl y7 boot_int rfl)) (vX (Dh (sK (.inr (.inl rfl)) rfl bD (aF 0 (pv 0)) (kG (v:=.ty "bool") rfl t7 boot_bool rfl)))))))
abbrev hV(j9:Fn):cO:=
 (aR (hZ (DM (j5 (iO (uS "tuple" (aE 0)))) (bB (aT wB (fX dE (aD (aE 0) aJ)) (eC (.int 3))))) (cD (eC (.bl false))) bL)
 (cD (fX Hn (aD (fP 1 [] (jP (aE 0)) (gN 0) jK (aS j9 (aD (aE 0) aJ))) aJ))))
theorem qD{j9:Fn}{sp:Fn}(m:At K mg "has_three_wholes" "has_three_wholes" (top 32) ["direction"])(bD:mg "isinstance" = none)(cV:mg "tuple" = none)(bJ:mg "len" = none)(GK:mg "all" = none)(rM:Def P w K mg base 1 "is_whole" ["thing"] (low K j9))(Bm:MonoF j9)(len:∀ds Q,sp ds Q->ds.length=1)(hsp:∀ds Q,sp ds Q->hV j9 ↥Q (aN ["direction"] ds)):Def P w K mg base 2 "has_three_wholes" ["direction"] (low K sp):=by
 have sc:FnScope ["direction"] ["direction"] (aH (top 32)):=by norm_cast
 refine m.okP (k:=1) (t:=hV j9) sc (fun f cdv A outer s H E hr=>?_) len hsp
 ·
  have hu:=hr.units
  exact(aL (eW (QW.qt (uB (fU (fG (sK (.inr (.inr (.inl rfl))) rfl bD (aF 0 (pv 0)) (kG (v:=.ty "tuple") rfl cV boot_tuple rfl)))) (tH (cC (nQ hu) (bC cM rfl bJ boot_len (aG (aF 0 (pv 0)) aI)) aU)))) (aM (bO o9)) bZ)
 (aM (bO (bC (Nx rfl) rfl GK boot_all (aG (BA ["part"] [] [] rfl (eX (aF 0 (pv 0))) (fun fp s H=>(g6 (i:=0) (k:=1) (show List.Nodup (["part"]:List Str) by decide +kernel) rfl (.inl rfl))) (fun fp s H=>pL) (fun fp s H=>(aZ rM Bm (hr.mono ∅) (aG (aF 0 (pv 0)) aI)))) aI)))))
abbrev iJ:cO:=
 (cD (uI (aT PH (fX FR (aD (aT cX (aE 0) (eC (.int 0))) aJ)) (eC (.int 999999999999))) (aT PH (fX FR (aD (aT cX (aE 0) (eC (.int 1))) aJ)) (eC (.int 999999999999)))))
theorem rG{sp:Fn}(m:At K mg "has_few_figures" "has_few_figures" (top 33) ["direction"])(DY:mg "abs" = none)(iG:∃t,mg "LARGEST_PART" = some (.int 999999999999 t))(len:∀ds Q,sp ds Q->ds.length=1)(hsp:∀ds Q,sp ds Q->iJ  ↥Q (aN ["direction"] ds)):Def P w K mg base 1 "has_few_figures" ["direction"] (low K sp):=by
 have sc:FnScope ["direction"] ["direction"] (aH (top 33)):=by norm_cast
 refine m.okP (k:=0) (t:=iJ ) sc (fun f cdv A outer s H E hr=>?_) len hsp
 ·
  have hu1:=eZ hr
  exact(aM (bO (BC (oT Hr (bC JK rfl DY boot_abs (aG (cJ hu1 (aF 0 (pv 0)) aU) aI)) (sL iG)) (vX (oT Hr (bC JK rfl DY boot_abs (aG (cJ hu1 (aF 0 (pv 0)) aU) aI)) (sL iG))))))
abbrev oG:cO:=
 (cD (JD (aT Hi (aT cX (aE 0) (eC (.int 1))) (eC (.int 0))) (uI (aT t6 (aT cX (aE 0) (eC (.int 1))) (eC (.int 0))) (aT Hi (aT cX (aE 0) (eC (.int 0))) (eC (.int 0))))))
theorem AJ{sp:Fn}(m:At K mg "points_up" "points_up" (top 34) ["direction"])(len:∀ds Q,sp ds Q->ds.length=1)(hsp:∀ds Q,sp ds Q->oG  ↥Q (aN ["direction"] ds)):Def P w K mg base 1 "points_up" ["direction"] (low K sp):=by
 have sc:FnScope ["direction"] ["direction"] (aH (top 34)):=by norm_cast
 refine m.okP (k:=0) (t:=oG ) sc (fun f cdv A outer s H E hr=>?_) len hsp
 ·
  have hu:=hr.units
  have hu1:=eZ hr
  exact(aM (bO (On (oT oW (cJ hu1 (aF 0 (pv 0)) aU) aU) (vX (BC (oT (jZ hu) (cJ hu1 (aF 0 (pv 0)) aU) aU) (vX (oT oW (cJ hu1 (aF 0 (pv 0)) aU) aU)))))))
abbrev oH:cO:=
 (cD (aT Hi (aT lI (aT gY (aT cX (aE 1) (eC (.int 0))) (aT cX (aE 0) (eC (.int 1)))) (aT gY (aT cX (aE 0) (eC (.int 0))) (aT cX (aE 1) (eC (.int 1))))) (eC (.int 0))))
theorem AK{sp:Fn}(m:At K mg "lies_left" "lies_left" (top 35) ["direction", "ahead"])(len:∀ds Q,sp ds Q->ds.length=2)(hsp:∀ds Q,sp ds Q->oH  ↥Q (aN ["direction", "ahead"] ds)):Def P w K mg base 1 "lies_left" ["direction", "ahead"] (low K sp):=by
 have sc:FnScope ["direction", "ahead"] ["direction", "ahead"] (aH (top 35)):=by norm_cast
 refine m.okP (k:=0) (t:=oH ) sc (fun f cdv A outer s H E hr=>?_) len hsp
 ·
  have hu1:=eZ hr
  exact(aM (bO (oT oW (cF kH (cF dY (cJ hu1 (aF 1 (pv 1)) aU) (cJ hu1 (aF 0 (pv 0)) aU)) (cF dY (cJ hu1 (aF 0 (pv 0)) aU) (cJ hu1 (aF 1 (pv 1)) aU))) aU)))
abbrev iK(d9 dJ i8:Fn):cO:=
 (aR (hZ (j5 (iO (aS d9 (aD (aE 0) aJ)))) hX bL)
 (aR (hZ (j5 (iO (aS dJ (aD (aE 0) aJ)))) hX bL)
 (aR (hZ (j5 (iO (aS i8 (aD (aE 0) aJ)))) hX bL)
 (hZ (bB (aT xN (aT cX (aE 0) (eC (.int 2))) (eC (.int 1)))) hX bL))))
theorem rH{d9 dJ i8:Fn}{sp:Fn}(m:At K mg "check_direction" "check_direction" (top 36) ["direction"])(i6:Def P w K mg base 2 "has_three_wholes" ["direction"] (low K d9))(qB:MonoF d9)(iR:Def P w K mg base 1 "has_few_figures" ["direction"] (low K dJ))(qZ:MonoF dJ)(p8:Def P w K mg base 1 "points_up" ["direction"] (low K i8))(zV:MonoF i8)(len:∀ds Q,sp ds Q->ds.length=1)(hsp:∀ds Q,sp ds Q->iK d9 dJ i8 ↥Q (aN ["direction"] ds)):Def P w K mg base 3 "check_direction" ["direction"] (low K sp):=by
 have sc:FnScope ["direction"] ["direction"] (aH (top 36)):=by norm_cast
 refine m.okP (k:=2) (t:=iK d9 dJ i8) sc (fun f cdv A outer s H E hr=>?_) len hsp
 ·
  have hu1:=eZ hr
  exact(aL (eW (fU (fG (aZ i6 qB (hr.mono ∅) (aG (aF 0 (pv 0)) aI)))) (aM hC) bZ)
 (aL (eW (fU (fG (aZ iR qZ (hr.mono ∅) (aG (aF 0 (pv 0)) aI)))) (aM hC) bZ)
 (aL (eW (fU (fG (aZ p8 zV (hr.mono ∅) (aG (aF 0 (pv 0)) aI)))) (aM hC) bZ)
 (aM (eW (cC oV (cJ hu1 (aF 0 (pv 0)) aU) aU) (aM hC) bZ)))))
abbrev jR(cB dW:Fn):cO:=
 (yF (aS cB (aD (aE 1) aJ)))
abbrev gB(cB dW:Fn):cO:=
 (hZ (j5 (iO (aS dW (aD (aE 1) (aD (aE 2) aJ))))) hX bL)
abbrev hW(cB dW:Fn):cO:=
 (aR (hZ (j5 (iO (uS "list" (aE 0)))) hX bL)
 (aR (hZ (j5 (bB (nZ PH PH (eC (.int 2)) (fX dE (aD (aE 0) aJ)) (eC (.int 6))))) hX bL)
 (aR (gQ (jP (aE 0)) (gN 1) (jR cB dW))
 (aR (hZ (bB (aT Hi (fX HQ (aD (fP 1 [] (jP (aE 0)) (gN 0) jK (aT cX (aE 0) (eC (.int 2)))) aJ)) (eC (.int 12)))) hX bL)
 (gQ (yW (aD (aE 0) (aD (Fz (aE 0) (mS (eC (.int 1))) gG) aJ))) (gT [2,1]) (gB cB dW))))))
theorem qE{cB dW:Fn}{sp:Fn}(m:At K mg "check_directions" "check_directions" (top 37) ["directions"])(bD:mg "isinstance" = none)(fF:mg "list" = none)(bJ:mg "len" = none)(GJ:mg "sum" = none)(y4:mg "zip" = none)(gP:∃t,mg "FEWEST_DIRECTIONS" = some (.int 2 t))(iF:∃t,mg "MOST_DIRECTIONS" = some (.int 6 t))(n4:∃t,mg "MOST_BANDS" = some (.int 12 t))(iS:Def P w K mg base 3 "check_direction" ["direction"] (low K cB))(r9:MonoF cB)(p9:Def P w K mg base 1 "lies_left" ["direction", "ahead"] (low K dW))(zX:MonoF dW)(len:∀ds Q,sp ds Q->ds.length=1)(hsp:∀ds Q,sp ds Q->hW cB dW ↥Q (aN ["directions", "direction", "ahead"] ds)):Def P w K mg base 4 "check_directions" ["directions"] (low K sp):=by
 have sc:FnScope ["directions", "direction", "ahead"] ["directions"] (aH (top 37)):=by norm_cast
 refine m.okP (k:=3) (t:=hW cB dW) sc (fun f cdv A outer s H E hr=>?_) len hsp
 ·
  have hu1:=eZ hr
  exact(aL (eW (fU (fG (sK (.inr (.inr (.inr (.inl rfl)))) rfl bD (aF 0 (pv 0)) (kG (v:=.ty "list") rfl fF boot_list rfl)))) (aM hC) bZ)
 (aL (eW (fU (B9 Ht Ht (sL gP) (bC cM rfl bJ boot_len (aG (aF 0 (pv 0)) aI)) (sL iF))) (aM hC) bZ)
 (aL (eJ PassesOwn.never rfl (eX (aF 0 (pv 0))) (g6 (i:=1) (k:=3) sc.nd rfl (.inl rfl)) (aM (Cp (aZ iS r9 (hr.mono ∅) (aG (aF 1 (pv 1)) aI)))))
 (aL (eW (cC oW (bC (Nv rfl) rfl GJ boot_sum (aG (BA ["direction"] [] [] rfl (eX (aF 0 (pv 0))) (fun fp s H=>(g6 (i:=0) (k:=1) (show List.Nodup (["direction"]:List Str) by decide +kernel) rfl (.inl rfl))) (fun fp s H=>pL) (fun fp s H=>(cJ hu1 (aF 0 (pv 0)) aU))) aI)) (sL n4)) (aM hC) bZ)
 (aM (eJ PassesOwn.never rfl (Gr rfl y4 (aG (aF 0 (pv 0)) (aG (nK (aF 0 (pv 0)) (nI aU) nJ) aI))) (BB (k:=3) (is:=[2,1]) rfl (d5 (dH (i:=2) sc.nd rfl (.inl rfl)) (d5 (dH (i:=1) sc.nd rfl (.inl rfl)) lN))) (aM (eW (fU (fG (aZ p9 zX (hr.mono ∅) (aG (aF 1 (pv 1)) (aG (aF 2 (pv 2)) aI))))) (aM hC) bZ))))))))
abbrev t4(C:Addr)(cK:Fn):cO:=
 (Ex 2 (aT gY (i5 (aD (aE 3) aJ)) (aT cX (aE 4) (eC (.int 2)))))
abbrev Cf(C:Addr)(cK:Fn):cO:=
 (aR (yF (aS cK (aD (aE 1) aJ)))
 (aR (iV 2 (i5 aJ))
 (aR (gQ (AA (aD (aE 1) aJ)) (gT [3,4]) (t4 C cK))
 (aR (vT C 0 "kinds" (fX jY (aD (aE 2) aJ)))
 (vT C 0 "vectors" (fX jY (aD (fP 1 [] (jP (aE 1)) (gN 0) jK (cZ (aD (aT cX (aE 0) (eC (.int 0))) (aD (aT cX (aE 0) (eC (.int 1))) aJ)))) aJ)))))))
theorem LQ{C:Addr}{cK:Fn}{sp:Fn}(m:IAt K mg "Sides" C "Sides.__init__" (cG (top 38) 0) ["self", "directions"])(oB:mg "enumerate" = none)(cV:mg "tuple" = none)(cl:Cls K C)(n_kinds:kB K C "kinds")(n_vectors:kB K C "vectors")(i7:Def P w K mg base 4 "check_directions" ["directions"] (low K cK))(qC:MonoF cK)(len:∀ds Q,sp ds Q->ds.length+1=2)(hsp:∀ds Q,sp ds Q -> ∀a,Cf C cK { nx:=fun ρ=>∃d,ρ[0]?=some (.own a d)/\Q (.nw d),rt:=fun _=>False } (jW C a ["self", "directions", "kinds", "number", "direction"] ds)):IDef P w K mg base 5 "Sides" C ["self", "directions"] sp:=by
 have sc:FnScope ["self", "directions", "kinds", "number", "direction"] ["self", "directions"] (aH (cG (top 38) 0)):=by norm_cast
 refine m.okP (k:=4) (t:=Cf C cK) sc (fun f cdv A outer s H E hr=>?_) len hsp
 ·
  have hu1:=eZ hr
  exact(aL (Cp (aZ i7 qC (hr.mono ∅) (aG (aF 1 (pv 1)) aI)))
 (aL (iL (i:=2) sc.nd rfl (.inl rfl) (gK aI))
 (aL (eJ PassesOwn.never rfl (Js rfl oB (aG (aF 1 (pv 1)) aI)) (BB (k:=5) (is:=[3,4]) rfl (d5 (dH (i:=3) sc.nd rfl (.inl rfl)) (d5 (dH (i:=4) sc.nd rfl (.inl rfl)) lN))) (aM (Oq (i:=2) (pv 2) (cF dY (gK (aG (aF 3 (pv 3)) aI)) (cJ hu1 (aF 4 (pv 4)) aU)))))
 (aL (Gs (i:=0) cl n_kinds (pv 0) (jM mV rfl cV boot_tuple (aG (aF 2 (pv 2)) aI)))
 (aM (Gs (i:=0) cl n_vectors (pv 0) (jM mV rfl cV boot_tuple (aG (BA ["direction"] [] [] rfl (eX (aF 1 (pv 1))) (fun fp s H=>(g6 (i:=0) (k:=1) (show List.Nodup (["direction"]:List Str) by decide +kernel) rfl (.inl rfl))) (fun fp s H=>pL) (fun fp s H=>(d6 (aG (cJ hu1 (aF 0 (pv 0)) aU) (aG (cJ hu1 (aF 0 (pv 0)) aU) aI))))) aI))))))))
abbrev Cd(C:Addr):cO:=
 (cD (fX dE (aD (JE C "kinds" (aE 0)) aJ)))
theorem LO{C:Addr}{sp:Fn}(m:MAt K C "many" "Sides.many" (cG (top 38) 1) ["self"])(bJ:mg "len" = none)(cl:Cls K C)(n_kinds:kB K C "kinds")(len:∀ds Q,sp ds Q->ds.length=1)(hsp:∀ds Q,sp ds Q->Cd C  ↥Q (aN ["self"] ds)):MDef P w K mg base 1 C "many" ["self"] (low K sp):=by
 have sc:FnScope ["self"] ["self"] (aH (cG (top 38) 1)):=by norm_cast
 refine m.okP (k:=0) (t:=Cd C ) sc (fun f cdv A outer s H E hr=>?_) len hsp
 ·
  exact(aM (bO (bC cM rfl bJ boot_len (aG (Lh cl n_kinds (aF 0 (pv 0))) aI))))
abbrev Ce(C:Addr):cO:=
 (cD (aT cX (JE C "kinds" (aE 0)) (aE 1)))
theorem LP{C:Addr}{sp:Fn}(m:MAt K C "kind" "Sides.kind" (cG (top 38) 2) ["self", "band"])(cl:Cls K C)(n_kinds:kB K C "kinds")(len:∀ds Q,sp ds Q->ds.length=2)(hsp:∀ds Q,sp ds Q->Ce C  ↥Q (aN ["self", "band"] ds)):MDef P w K mg base 1 C "kind" ["self", "band"] (low K sp):=by
 have sc:FnScope ["self", "band"] ["self", "band"] (aH (cG (top 38) 2)):=by norm_cast
 refine m.okP (k:=0) (t:=Ce C ) sc (fun f cdv A outer s H E hr=>?_) len hsp
 ·
  have hu1:=eZ hr
  exact(aM (bO (cJ hu1 (Lh cl n_kinds (aF 0 (pv 0))) (aF 1 (pv 1)))))
abbrev kX(C:Addr)(bU:Fn):cO:=
 (aR (hZ (bB (aT t6 (g7 C "kind" bU (aE 0) (aD (aT cX (aE 2) (eC (.int 0))) aJ)) (g7 C "kind" bU (aE 0) (aD (aT cX (aE 2) (eC (.int 1))) aJ)))) (cD (eC (.bl false))) bL)
 (aR (hZ (bB (aT t6 (g7 C "kind" bU (aE 0) (aD (aT cX (aE 2) (eC (.int 1))) aJ)) (g7 C "kind" bU (aE 0) (aD (aT cX (aE 2) (eC (.int 2))) aJ)))) (cD (eC (.bl true))) bL)
 (cD (aT KP (aE 2) (aE 1)))))
theorem uU{C:Addr}{bU:Fn}{sp:Fn}(m:At K mg "counts_as_up" "counts_as_up" (top 11) ["sides", "ups", "three"])(cl:Cls K C)(fA:MDef P w K mg base 1 C "kind" ["self", "band"] (low K bU))(dI:MonoF bU)(len:∀ds Q,sp ds Q->ds.length=3)(hsp:∀ds Q,sp ds Q->kX C bU ↥Q (aN ["sides", "ups", "three"] ds)):Def P w K mg base 2 "counts_as_up" ["sides", "ups", "three"] (low K sp):=by
 have sc:FnScope ["sides", "ups", "three"] ["sides", "ups", "three"] (aH (top 11)):=by norm_cast
 refine m.okP (k:=1) (t:=kX C bU) sc (fun f cdv A outer s H E hr=>?_) len hsp
 ·
  have hu:=hr.units
  have hu1:=eZ hr
  exact(aL (eW (cC (jZ hu) (jX cl fA dI (hr.mono ∅) (aF 0 (pv 0)) (aG (cJ hu1 (aF 2 (pv 2)) aU) aI)) (jX cl fA dI (hr.mono ∅) (aF 0 (pv 0)) (aG (cJ hu1 (aF 2 (pv 2)) aU) aI))) (aM (bO o9)) bZ)
 (aL (eW (cC (jZ hu) (jX cl fA dI (hr.mono ∅) (aF 0 (pv 0)) (aG (cJ hu1 (aF 2 (pv 2)) aU) aI)) (jX cl fA dI (hr.mono ∅) (aF 0 (pv 0)) (aG (cJ hu1 (aF 2 (pv 2)) aU) aI))) (aM (bO o9)) bZ)
 (aM (bO (oT (KR hu1) (aF 2 (pv 2)) (aF 1 (pv 1)))))))
abbrev iI(C:Addr)(bU:Fn):cO:=
 (cD (JD (aT t6 (g7 C "kind" bU (aE 0) (aD (aT cX (aE 1) (eC (.int 0))) aJ)) (g7 C "kind" bU (aE 0) (aD (aT cX (aE 1) (eC (.int 2))) aJ))) (aT t6 (g7 C "kind" bU (aE 0) (aD (aT cX (aE 1) (eC (.int 1))) aJ)) (g7 C "kind" bU (aE 0) (aD (aT cX (aE 1) (eC (.int 3))) aJ)))))
theorem rF{C:Addr}{bU:Fn}{sp:Fn}(m:At K mg "has_three_alike" "has_three_alike" (top 13) ["sides", "four"])(cl:Cls K C)(fA:MDef P w K mg base 1 C "kind" ["self", "band"] (low K bU))(dI:MonoF bU)(len:∀ds Q,sp ds Q->ds.length=2)(hsp:∀ds Q,sp ds Q->iI C bU ↥Q (aN ["sides", "four"] ds)):Def P w K mg base 2 "has_three_alike" ["sides", "four"] (low K sp):=by
 have sc:FnScope ["sides", "four"] ["sides", "four"] (aH (top 13)):=by norm_cast
 refine m.okP (k:=1) (t:=iI C bU) sc (fun f cdv A outer s H E hr=>?_) len hsp
 ·
  have hu:=hr.units
  have hu1:=eZ hr
  exact(aM (bO (On (oT (jZ hu) (jX cl fA dI (hr.mono ∅) (aF 0 (pv 0)) (aG (cJ hu1 (aF 1 (pv 1)) aU) aI)) (jX cl fA dI (hr.mono ∅) (aF 0 (pv 0)) (aG (cJ hu1 (aF 1 (pv 1)) aU) aI))) (vX (oT (jZ hu) (jX cl fA dI (hr.mono ∅) (aF 0 (pv 0)) (aG (cJ hu1 (aF 1 (pv 1)) aU) aI)) (jX cl fA dI (hr.mono ∅) (aF 0 (pv 0)) (aG (cJ hu1 (aF 1 (pv 1)) aU) aI)))))))
abbrev oO(bN:Fn):cO:=
 (aR (bK 3 (i5 (aD (cZ (aD (aT cX (aE 2) (eC (.int 0))) (aD (aT cX (aE 2) (eC (.int 1))) (aD (aT cX (aE 2) (eC (.int 2))) aJ)))) (aD (cZ (aD (aT cX (aE 2) (eC (.int 0))) (aD (aT cX (aE 2) (eC (.int 1))) (aD (aT cX (aE 2) (eC (.int 3))) aJ)))) (aD (cZ (aD (aT cX (aE 2) (eC (.int 0))) (aD (aT cX (aE 2) (eC (.int 2))) (aD (aT cX (aE 2) (eC (.int 3))) aJ)))) (aD (Fz (aE 2) (mS (eC (.int 1))) gG) aJ))))))
 (aR (bK 4 (fP 1 [0,1] (jP (aE 3)) (gN 0) jK (aS bN (aD (aE 1) (aD (aE 2) (aD (aE 0) aJ))))))
 (aR (bK 5 (fP 2 [] (yW (aD (aE 4) (aD (Fz (aE 4) (mS (eC (.int 1))) gG) aJ))) (gT [0,1]) (bB (aT wB (aE 0) (aE 1))) (eC (.int 1))))
 (cD (aT Hi (fX dE (aD (aE 5) aJ)) (eC (.int 1)))))))
theorem AR{bN:Fn}{sp:Fn}(m:At K mg "is_barred" "is_barred" (top 14) ["sides", "ups", "four"])(y4:mg "zip" = none)(bJ:mg "len" = none)(dF:Def P w K mg base 2 "counts_as_up" ["sides", "ups", "three"] (low K bN))(fO:MonoF bN)(len:∀ds Q,sp ds Q->ds.length=3)(hsp:∀ds Q,sp ds Q->oO bN ↥Q (aN ["sides", "ups", "four", "within", "stand", "changes"] ds)):Def P w K mg base 3 "is_barred" ["sides", "ups", "four"] (low K sp):=by
 have sc:FnScope ["sides", "ups", "four", "within", "stand", "changes"] ["sides", "ups", "four"] (aH (top 14)):=by norm_cast
 refine m.okP (k:=2) (t:=oO bN) sc (fun f cdv A outer s H E hr=>?_) len hsp
 ·
  have hu:=hr.units
  have hu1:=eZ hr
  exact(aL (cN (i:=3) sc.nd rfl (.inl rfl) (gK (aG (d6 (aG (cJ hu1 (aF 2 (pv 2)) aU) (aG (cJ hu1 (aF 2 (pv 2)) aU) (aG (cJ hu1 (aF 2 (pv 2)) aU) aI)))) (aG (d6 (aG (cJ hu1 (aF 2 (pv 2)) aU) (aG (cJ hu1 (aF 2 (pv 2)) aU) (aG (cJ hu1 (aF 2 (pv 2)) aU) aI)))) (aG (d6 (aG (cJ hu1 (aF 2 (pv 2)) aU) (aG (cJ hu1 (aF 2 (pv 2)) aU) (aG (cJ hu1 (aF 2 (pv 2)) aU) aI)))) (aG (nK (aF 2 (pv 2)) (nI aU) nJ) aI))))))
 (aL (tJ (yI (iy:=4) ["three"] ["sides", "ups"] [0,1] sc.nd rfl (.inl rfl) rfl (eX (aF 3 (pv 3))) (fun fp s H=>(g6 (i:=0) (k:=1) (show List.Nodup (["three", "sides", "ups"]:List Str) by decide +kernel) rfl (.inl rfl))) (fun fp s H=>pL) (fun fp s H=>(aZ dF fO (hr.mono ∅) (aG (aF 1 (pv 1)) (aG (aF 2 (pv 2)) (aG (aF 0 (pv 0)) aI)))))))
 (aL (tJ (yI (iy:=5) ["one", "other"] [] [] sc.nd rfl (.inl rfl) rfl (Gr rfl y4 (aG (aF 4 (pv 4)) (aG (nK (aF 4 (pv 4)) (nI aU) nJ) aI))) (fun fp s H=>(BB (k:=2) (is:=[0,1]) rfl (d5 (dH (i:=0) (show List.Nodup (["one", "other"]:List Str) by decide +kernel) rfl (.inl rfl)) (d5 (dH (i:=1) (show List.Nodup (["one", "other"]:List Str) by decide +kernel) rfl (.inl rfl)) lN)))) (fun fp s H=>(lM (cC (nQ hu) (aF 0 (pv 0)) (aF 1 (pv 1))))) (fun fp s H=>aU)))
 (aM (bO (oT oW (bC cM rfl bJ boot_len (aG (aF 5 (pv 5)) aI)) aU))))))
abbrev qP(bN:Fn):cO:=
 (aR (hZ (bB (aT xN (aE 2) (aE 3))) (cD (wU (aS bN (aD (aE 0) (aD (aE 1) (aD (cZ (aD (aE 2) (aD (aE 3) (aD (aE 4) aJ)))) aJ)))))) bL)
 (aR (hZ (bB (aT Hi (aE 2) (aE 4))) (cD (wU (aS bN (aD (aE 0) (aD (aE 1) (aD (cZ (aD (aE 3) (aD (aE 4) (aD (aE 2) aJ)))) aJ)))))) bL)
 (cD (uI (nZ xN xN (aE 3) (aE 2) (aE 4)) (aS bN (aD (aE 0) (aD (aE 1) (aD (cZ (aD (aE 3) (aD (aE 2) (aD (aE 4) aJ)))) aJ))))))))
theorem CC{bN:Fn}{sp:Fn}(m:At K mg "is_below" "is_below" (top 16) ["sides", "ups", "z", "x", "y"])(dF:Def P w K mg base 2 "counts_as_up" ["sides", "ups", "three"] (low K bN))(fO:MonoF bN)(len:∀ds Q,sp ds Q->ds.length=5)(hsp:∀ds Q,sp ds Q->qP bN ↥Q (aN ["sides", "ups", "z", "x", "y"] ds)):Def P w K mg base 3 "is_below" ["sides", "ups", "z", "x", "y"] (low K sp):=by
 have sc:FnScope ["sides", "ups", "z", "x", "y"] ["sides", "ups", "z", "x", "y"] (aH (top 16)):=by norm_cast
 refine m.okP (k:=2) (t:=qP bN) sc (fun f cdv A outer s H E hr=>?_) len hsp
 ·
  exact(aL (eW (cC oV (aF 2 (pv 2)) (aF 3 (pv 3))) (aM (bO (Dh (aZ dF fO (hr.mono ∅) (aG (aF 0 (pv 0)) (aG (aF 1 (pv 1)) (aG (d6 (aG (aF 2 (pv 2)) (aG (aF 3 (pv 3)) (aG (aF 4 (pv 4)) aI)))) aI))))))) bZ)
 (aL (eW (cC oW (aF 2 (pv 2)) (aF 4 (pv 4))) (aM (bO (Dh (aZ dF fO (hr.mono ∅) (aG (aF 0 (pv 0)) (aG (aF 1 (pv 1)) (aG (d6 (aG (aF 3 (pv 3)) (aG (aF 4 (pv 4)) (aG (aF 2 (pv 2)) aI)))) aI))))))) bZ)
 (aM (bO (BC (Dj Be Be (aF 3 (pv 3)) (aF 2 (pv 2)) (aF 4 (pv 4))) (vX (aZ dF fO (hr.mono ∅) (aG (aF 0 (pv 0)) (aG (aF 1 (pv 1)) (aG (d6 (aG (aF 3 (pv 3)) (aG (aF 2 (pv 2)) (aG (aF 4 (pv 4)) aI)))) aI))))))))))
abbrev z8(C:Addr)(bR bU:Fn):cO:=
 (hZ (bB (aT wB (g7 C "kind" bU (aE 0) (aD (aE 2) aJ)) (g7 C "kind" bU (aE 0) (aD (aE 3) aJ)))) (pZ 1 (cZ (aD (aE 2) (aD (aE 3) aJ)))) bL)
abbrev mW(C:Addr)(bR bU:Fn):cO:=
 (gQ (kL (aD (aT dZ (aE 2) (eC (.int 1))) (aD (g7 C "many" bR (aE 0) aJ) aJ))) (gN 3) (z8 C bR bU))
abbrev zF(C:Addr)(bR bU:Fn):cO:=
 (aR (iV 1 (i5 aJ))
 (aR (gQ (eM (aD (g7 C "many" bR (aE 0) aJ) aJ)) (gN 2) (mW C bR bU))
 (cD (aE 1))))
theorem JG{C:Addr}{bR bU:Fn}{sp:Fn}(m:MAt K C "pairs" "Sides.pairs" (cG (top 38) 4) ["self"])(bA:mg "range" = none)(cl:Cls K C)(j6:MDef P w K mg base 1 C "many" ["self"] (low K bR))(gF:MonoF bR)(fA:MDef P w K mg base 1 C "kind" ["self", "band"] (low K bU))(dI:MonoF bU)(len:∀ds Q,sp ds Q->ds.length=1)(hsp:∀ds Q,sp ds Q->zF C bR bU ↥Q (aN ["self", "found", "a", "b"] ds)):MDef P w K mg base 2 C "pairs" ["self"] (low K sp):=by
 have sc:FnScope ["self", "found", "a", "b"] ["self"] (aH (cG (top 38) 4)):=by norm_cast
 refine m.okP (k:=1) (t:=zF C bR bU) sc (fun f cdv A outer s H E hr=>?_) len hsp
 ·
  have hu:=hr.units
  exact(aL (iL (i:=1) sc.nd rfl (.inl rfl) (gK aI))
 (aL (eJ PassesOwn.never rfl (eD rfl bA (aG (nL cl j6 gF (hr.mono ∅) (aF 0 (pv 0))) aI)) (g6 (i:=2) (k:=4) sc.nd rfl (.inl rfl)) (aM (eJ PassesOwn.never rfl (kQ rfl bA (aG (cF cR (aF 2 (pv 2)) aU) (aG (nL cl j6 gF (hr.mono ∅) (aF 0 (pv 0))) aI))) (g6 (i:=3) (k:=4) sc.nd rfl (.inl rfl)) (aM (eW (cC (nQ hu) (jX cl fA dI (hr.mono ∅) (aF 0 (pv 0)) (aG (aF 2 (pv 2)) aI)) (jX cl fA dI (hr.mono ∅) (aF 0 (pv 0)) (aG (aF 3 (pv 3)) aI))) (aM (uC (i:=1) (pv 1) (d6 (aG (aF 2 (pv 2)) (aG (aF 3 (pv 3)) aI))))) bZ)))))
 (aM (bO (aF 1 (pv 1))))))
abbrev xB(C:Addr)(dC bR bU:Fn):cO:=
 (hZ (bB (aT wB (g7 C "kind" bU (aE 0) (aD (aE 4) aJ)) (g7 C "kind" bU (aE 0) (aD (aE 3) aJ)))) (pZ 1 (cZ (aD (aE 2) (aD (aE 3) (aD (aE 4) aJ))))) bL)
abbrev lG(C:Addr)(dC bR bU:Fn):cO:=
 (gQ (kL (aD (aT dZ (aE 3) (eC (.int 1))) (aD (g7 C "many" bR (aE 0) aJ) aJ))) (gN 4) (xB C dC bR bU))
abbrev vJ(C:Addr)(dC bR bU:Fn):cO:=
 (aR (iV 1 (i5 aJ))
 (aR (gQ (jP (g7 C "pairs" dC (aE 0) aJ)) (gT [2,3]) (lG C dC bR bU))
 (cD (aE 1))))
theorem G1{C:Addr}{dC bR bU:Fn}{sp:Fn}(m:At K mg "threes" "threes" (top 10) ["sides"])(bA:mg "range" = none)(cl:Cls K C)(pQ:MDef P w K mg base 2 C "pairs" ["self"] (low K dC))(mM:MonoF dC)(j6:MDef P w K mg base 1 C "many" ["self"] (low K bR))(gF:MonoF bR)(fA:MDef P w K mg base 1 C "kind" ["self", "band"] (low K bU))(dI:MonoF bU)(len:∀ds Q,sp ds Q->ds.length=1)(hsp:∀ds Q,sp ds Q->vJ C dC bR bU ↥Q (aN ["sides", "told", "a", "b", "c"] ds)):Def P w K mg base 3 "threes" ["sides"] (low K sp):=by
 have sc:FnScope ["sides", "told", "a", "b", "c"] ["sides"] (aH (top 10)):=by norm_cast
 refine m.okP (k:=2) (t:=vJ C dC bR bU) sc (fun f cdv A outer s H E hr=>?_) len hsp
 ·
  have hu:=hr.units
  exact(aL (iL (i:=1) sc.nd rfl (.inl rfl) (gK aI))
 (aL (eJ PassesOwn.never rfl (eX (nL cl pQ mM (hr.mono ∅) (aF 0 (pv 0)))) (BB (k:=5) (is:=[2,3]) rfl (d5 (dH (i:=2) sc.nd rfl (.inl rfl)) (d5 (dH (i:=3) sc.nd rfl (.inl rfl)) lN))) (aM (eJ PassesOwn.never rfl (kQ rfl bA (aG (cF cR (aF 3 (pv 3)) aU) (aG (nL cl j6 gF (hr.mono ∅) (aF 0 (pv 0))) aI))) (g6 (i:=4) (k:=5) sc.nd rfl (.inl rfl)) (aM (eW (cC (nQ hu) (jX cl fA dI (hr.mono ∅) (aF 0 (pv 0)) (aG (aF 4 (pv 4)) aI)) (jX cl fA dI (hr.mono ∅) (aF 0 (pv 0)) (aG (aF 3 (pv 3)) aI))) (aM (uC (i:=1) (pv 1) (d6 (aG (aF 2 (pv 2)) (aG (aF 3 (pv 3)) (aG (aF 4 (pv 4)) aI)))))) bZ)))))
 (aM (bO (aF 1 (pv 1))))))
abbrev jB(C:Addr)(cH jF cA dX bR:Fn):cO:=
 (hZ (bB (aT eQ (aE 3) (aE 2))) hX bL)
abbrev gJ(C:Addr)(cH jF cA dX bR:Fn):cO:=
 (hZ (C7 (j5 (iO (aS cA (aD (aE 0) (aD (aE 4) aJ))))) (iO (aS dX (aD (aE 0) (aD (aE 1) (aD (aE 4) aJ)))))) hX bL)
abbrev kY(C:Addr)(cH jF cA dX bR:Fn):cO:=
 (aR (bK 2 (aS cH (aD (aE 0) aJ)))
 (aR (gQ (EN (aE 1)) (gN 3) (jB C cH jF cA dX bR))
 (gQ (jP (aS jF (aD (g7 C "many" bR (aE 0) aJ) aJ))) (gN 4) (gJ C cH jF cA dX bR))))
theorem uV{C:Addr}{cH jF cA dX bR:Fn}{sp:Fn}(m:At K mg "check_threes" "check_threes" (top 15) ["sides", "ups"])(cl:Cls K C)(iP:Def P w K mg base 3 "threes" ["sides"] (low K cH))(gE:MonoF cH)(AT:Def P w K mg base 1 "fours" ["many"] (low K jF))(wI:MonoF jF)(iQ:Def P w K mg base 2 "has_three_alike" ["sides", "four"] (low K cA))(qY:MonoF cA)(pD:Def P w K mg base 3 "is_barred" ["sides", "ups", "four"] (low K dX))(A1:MonoF dX)(j6:MDef P w K mg base 1 C "many" ["self"] (low K bR))(gF:MonoF bR)(len:∀ds Q,sp ds Q->ds.length=2)(hsp:∀ds Q,sp ds Q->kY C cH jF cA dX bR ↥Q (aN ["sides", "ups", "known", "three", "four"] ds)):Def P w K mg base 4 "check_threes" ["sides", "ups"] (low K sp):=by
 have sc:FnScope ["sides", "ups", "known", "three", "four"] ["sides", "ups"] (aH (top 15)):=by norm_cast
 refine m.okP (k:=3) (t:=kY C cH jF cA dX bR) sc (fun f cdv A outer s H E hr=>?_) len hsp
 ·
  have hu1:=eZ hr
  have hu65:=rZ hr
  exact(aL (cN (i:=2) sc.nd rfl (.inl rfl) (aZ iP gE (hr.mono ∅) (aG (aF 0 (pv 0)) aI)))
 (aL (eJ PassesOwn.never rfl (Jr (aF 1 (pv 1))) (g6 (i:=3) (k:=5) sc.nd rfl (.inl rfl)) (aM (eW (cC (mK hu65 hu1) (aF 3 (pv 3)) (aF 2 (pv 2))) (aM hC) bZ)))
 (aM (eJ PassesOwn.never rfl (eX (aZ AT wI (hr.mono ∅) (aG (nL cl j6 gF (hr.mono ∅) (aF 0 (pv 0))) aI))) (g6 (i:=4) (k:=5) sc.nd rfl (.inl rfl)) (aM (eW (QW.qt (Co (fU (fG (aZ iQ qY (hr.mono ∅) (aG (aF 0 (pv 0)) (aG (aF 4 (pv 4)) aI))))) (Dg (fG (aZ pD A1 (hr.mono ∅) (aG (aF 0 (pv 0)) (aG (aF 1 (pv 1)) (aG (aF 4 (pv 4)) aI)))))))) (aM hC) bZ))))))
abbrev o7(C:Addr)(cU eS dC bR:Fn):cO:=
 (B4 2 (aE 3) (eC (.bl true)))
abbrev kO(C:Addr)(cU eS dC bR:Fn):cO:=
 (aR (bK 7 (fP 1 [0,2,5,6] (eM (aD (g7 C "many" bR (aE 0) aJ) aJ)) (gN 0) (iO (aS eS (aD (aE 1) (aD (aE 2) (aD (aE 0) (aD (aE 3) (aD (aE 4) aJ))))))) (aE 0)))
 (pZ 4 (cZ (aD (aE 5) (aD (aE 6) (aD (fX jY (aD (aE 7) aJ)) aJ))))))
abbrev qQ(C:Addr)(cU eS dC bR:Fn):cO:=
 (aR (iV 2 O9)
 (aR (gQ (jP (aE 1)) (gN 3) (o7 C cU eS dC bR))
 (aR (yF (aS cU (aD (aE 0) (aD (aE 2) aJ))))
 (Jm 2 (aR (iV 4 (i5 aJ))
 (aR (gQ (jP (g7 C "pairs" dC (aE 0) aJ)) (gT [5,6]) (kO C cU eS dC bR))
 (cD (aE 4))))))))
theorem CD{C:Addr}{cU eS dC bR:Fn}{sp:Fn}(m:At K mg "floor_by" "floor_by" (top 17) ["sides", "some"])(bA:mg "range" = none)(cV:mg "tuple" = none)(cl:Cls K C)(lE:Def P w K mg base 4 "check_threes" ["sides", "ups"] (low K cU))(uQ:MonoF cU)(rN:Def P w K mg base 3 "is_below" ["sides", "ups", "z", "x", "y"] (low K eS))(Bn:MonoF eS)(pQ:MDef P w K mg base 2 C "pairs" ["self"] (low K dC))(mM:MonoF dC)(j6:MDef P w K mg base 1 C "many" ["self"] (low K bR))(gF:MonoF bR)(len:∀ds Q,sp ds Q->ds.length=2)(hsp:∀ds Q,sp ds Q->qQ C cU eS dC bR ↥Q (aN ["sides", "some", "ups", "three", "told", "x", "y", "below"] ds)):Def P w K mg base 5 "floor_by" ["sides", "some"] (low K sp):=by
 have sc:FnScope ["sides", "some", "ups", "three", "told", "x", "y", "below"] ["sides", "some"] (aH (top 17)):=by norm_cast
 refine m.okP (k:=4) (t:=qQ C cU eS dC bR) sc (fun f cdv A outer s H E hr=>?_) len hsp
 ·
  have hu1:=eZ hr
  exact(aL (iL (i:=2) sc.nd rfl (.inr rfl) zO)
 (aL (eJ PassesOwn.never rfl (eX (aF 1 (pv 1))) (g6 (i:=3) (k:=8) sc.nd rfl (.inl rfl)) (aM (Gq hu1 (i:=2) (pv 2) (aF 3 (pv 3)) o9)))
 (aL (Cp (aZ lE uQ (hr.mono ∅) (aG (aF 0 (pv 0)) (aG (aF 2 (pv 2)) aI))))
 (Op 2 (aL (iL (i:=4) sc.nd rfl (.inl rfl) (gK aI))
 (aL (eJ PassesOwn.never rfl (eX (nL cl pQ mM (hr.mono ∅) (aF 0 (pv 0)))) (BB (k:=8) (is:=[5,6]) rfl (d5 (dH (i:=5) sc.nd rfl (.inr rfl)) (d5 (dH (i:=6) sc.nd rfl (.inr rfl)) lN))) (aL (tJ (yI (iy:=7) ["z"] ["sides", "ups", "x", "y"] [0,2,5,6] sc.nd rfl (.inl rfl) rfl (eD rfl bA (aG (nL cl j6 gF (hr.mono ∅) (aF 0 (pv 0))) aI)) (fun fp s H=>(g6 (i:=0) (k:=1) (show List.Nodup (["z", "sides", "ups", "x", "y"]:List Str) by decide +kernel) rfl (.inl rfl))) (fun fp s H=>(lM (fG (aZ rN Bn (hr.mono ∅) (aG (aF 1 (pv 1)) (aG (aF 2 (pv 2)) (aG (aF 0 (pv 0)) (aG (aF 3 (pv 3)) (aG (aF 4 (pv 4)) aI))))))))) (fun fp s H=>(aF 0 (pv 0)))))
 (aM (uC (i:=4) (pv 4) (d6 (aG (aF 5 (pv 5)) (aG (aF 6 (pv 6)) (aG (jM mV rfl cV boot_tuple (aG (aF 7 (pv 7)) aI)) aI))))))))
 (aM (bO (aF 4 (pv 4))))))))))
abbrev oP(fD cH bQ:Fn):cO:=
 (aR (bK 2 (aS fD (aD (aE 1) aJ)))
 (cD (fP 1 [2] (jP (aS cH (aD (aE 0) aJ))) (gN 0) (bB (aT yM (aS bQ (aD (aE 1) (aD (aE 0) aJ))) (eC .non))) (aE 0))))
theorem AS{fD cH bQ:Fn}{sp:Fn}(m:At K mg "flippable" "flippable" (top 22) ["sides", "floor"])(mT:Def P w K mg base 1 "belows" ["floor"] (low K fD))(j4:MonoF fD)(iP:Def P w K mg base 3 "threes" ["sides"] (low K cH))(gE:MonoF cH)(eE:Def P w K mg base 3 "tiles_by_flip" ["below", "three"] (low K bQ))(j0:MonoF bQ)(len:∀ds Q,sp ds Q->ds.length=2)(hsp:∀ds Q,sp ds Q->oP fD cH bQ ↥Q (aN ["sides", "floor", "below"] ds)):Def P w K mg base 4 "flippable" ["sides", "floor"] (low K sp):=by
 have sc:FnScope ["sides", "floor", "below"] ["sides", "floor"] (aH (top 22)):=by norm_cast
 refine m.okP (k:=3) (t:=oP fD cH bQ) sc (fun f cdv A outer s H E hr=>?_) len hsp
 ·
  exact(aL (cN (i:=2) sc.nd rfl (.inr rfl) (aZ mT j4 (hr.mono ∅) (aG (aF 1 (pv 1)) aI)))
 (aM (bO (BA ["three"] ["below"] [2] rfl (eX (aZ iP gE (hr.mono ∅) (aG (aF 0 (pv 0)) aI))) (fun fp s H=>(g6 (i:=0) (k:=1) (show List.Nodup (["three", "below"]:List Str) by decide +kernel) rfl (.inl rfl))) (fun fp s H=>(lM (cC Hq (aZ eE j0 (hr.mono ∅) (aG (aF 1 (pv 1)) (aG (aF 0 (pv 0)) aI))) Di))) (fun fp s H=>(aF 0 (pv 0)))))))
abbrev tB(cH fD bQ:Fn):cO:=
 (aR (hZ (bB (aT eQ (aE 2) (aS cH (aD (aE 0) aJ)))) hX bL)
 (aR (bK 3 (aS bQ (aD (aS fD (aD (aE 1) aJ)) (aD (aE 2) aJ))))
 (aR (hZ (bB (aT He (aE 3) (eC .non))) hX bL)
 (aR (bK 4 (fP 1 [2] (jP (aE 1)) (gN 0) (DM (bB (aT eQ (aT cX (aE 0) (eC (.int 0))) (aE 1))) (bB (aT eQ (aT cX (aE 0) (eC (.int 1))) (aE 1)))) (aE 0)))
 (cD (fX iM (aD (aT dZ (aE 4) (aE 3)) aJ)))))))
theorem DP{cH fD bQ:Fn}{sp:Fn}(m:At K mg "flipped" "flipped" (top 23) ["sides", "floor", "three"])(eV:mg "sorted" = none)(iP:Def P w K mg base 3 "threes" ["sides"] (low K cH))(gE:MonoF cH)(mT:Def P w K mg base 1 "belows" ["floor"] (low K fD))(j4:MonoF fD)(eE:Def P w K mg base 3 "tiles_by_flip" ["below", "three"] (low K bQ))(j0:MonoF bQ)(len:∀ds Q,sp ds Q->ds.length=3)(hsp:∀ds Q,sp ds Q->tB cH fD bQ ↥Q (aN ["sides", "floor", "three", "tiles", "others"] ds)):Def P w K mg base 4 "flipped" ["sides", "floor", "three"] (low K sp):=by
 have sc:FnScope ["sides", "floor", "three", "tiles", "others"] ["sides", "floor", "three"] (aH (top 23)):=by norm_cast
 refine m.okP (k:=3) (t:=tB cH fD bQ) sc (fun f cdv A outer s H E hr=>?_) len hsp
 ·
  have hu1:=eZ hr
  have hu65:=rZ hr
  exact(aL (eW (cC (mK hu65 hu1) (aF 2 (pv 2)) (aZ iP gE (hr.mono ∅) (aG (aF 0 (pv 0)) aI))) (aM hC) bZ)
 (aL (cN (i:=3) sc.nd rfl (.inl rfl) (aZ eE j0 (hr.mono ∅) (aG (aZ mT j4 (hr.mono ∅) (aG (aF 1 (pv 1)) aI)) (aG (aF 2 (pv 2)) aI))))
 (aL (eW (cC KQ (aF 3 (pv 3)) Di) (aM hC) bZ)
 (aL (tJ (yI (iy:=4) ["tile"] ["three"] [2] sc.nd rfl (.inl rfl) rfl (eX (aF 1 (pv 1))) (fun fp s H=>(g6 (i:=0) (k:=1) (show List.Nodup (["tile", "three"]:List Str) by decide +kernel) rfl (.inl rfl))) (fun fp s H=>(lM (QW.qt (uB (cC (mK hu65 hu1) (cJ hu1 (aF 0 (pv 0)) aU) (aF 1 (pv 1))) (tH (cC (mK hu65 hu1) (cJ hu1 (aF 0 (pv 0)) aU) (aF 1 (pv 1)))))))) (fun fp s H=>(aF 0 (pv 0)))))
 (aM (bO (bC pR rfl eV boot_sorted (aG (cF cR (aF 4 (pv 4)) (aF 3 (pv 3))) aI))))))))
abbrev Gd(jA:Fn):cO:=
 (cD (aS jA (aD (aE 0) (aD (i5 aJ) aJ))))
theorem No{jA:Fn}{sp:Fn}(m:At K mg "low" "low" (top 24) ["sides"])(rO:Def P w K mg base 5 "floor_by" ["sides", "some"] (low K jA))(Bo:MonoF jA)(len:∀ds Q,sp ds Q->ds.length=1)(hsp:∀ds Q,sp ds Q->Gd jA ↥Q (aN ["sides"] ds)):Def P w K mg base 6 "low" ["sides"] (low K sp):=by
 have sc:FnScope ["sides"] ["sides"] (aH (top 24)):=by norm_cast
 refine m.okP (k:=5) (t:=Gd jA) sc (fun f cdv A outer s H E hr=>?_) len hsp
 ·
  exact(aM (bO (aZ rO Bo (hr.mono ∅) (aG (aF 0 (pv 0)) (aG (gK aI) aI)))))
abbrev lZ:cO:=
 (aR (hZ (bB (aT xN (aE 1) (fX dE (aD (aE 0) aJ)))) (cD (aT cX (aE 0) (aE 1))) bL)
 (cD (eC (.int 5))))
theorem wX{sp:Fn}(m:At K mg "_law_cell_at" "_law_cell_at" (top 40) ["_law_script", "_law_k"])(bJ:mg "len" = none)(len:∀ds Q,sp ds Q->ds.length=2)(hsp:∀ds Q,sp ds Q->lZ  ↥Q (aN ["_law_script", "_law_k"] ds)):Def P w K mg base 1 "_law_cell_at" ["_law_script", "_law_k"] (low K sp):=by
 have sc:FnScope ["_law_script", "_law_k"] ["_law_script", "_law_k"] (aH (top 40)):=by norm_cast
 refine m.okP (k:=0) (t:=lZ ) sc (fun f cdv A outer s H E hr=>?_) len hsp
 ·
  have hu1:=eZ hr
  exact(aL (eW (cC oV (aF 1 (pv 1)) (bC cM rfl bJ boot_len (aG (aF 0 (pv 0)) aI))) (aM (bO (cJ hu1 (aF 0 (pv 0)) (aF 1 (pv 1))))) bZ)
 (aM (bO aU)))
abbrev oI:cO:=
 (cD (uI (uS "int" (aE 0)) (wU (uS "bool" (aE 0)))))
theorem AL{sp:Fn}(m:At K mg "_law_whole" "_law_whole" (top 41) ["_law_found"])(bD:mg "isinstance" = none)(y7:mg "int" = none)(t7:mg "bool" = none)(len:∀ds Q,sp ds Q->ds.length=1)(hsp:∀ds Q,sp ds Q->oI  ↥Q (aN ["_law_found"] ds)):Def P w K mg base 1 "_law_whole" ["_law_found"] (low K sp):=by
 have sc:FnScope ["_law_found"] ["_law_found"] (aH (top 41)):=by norm_cast
 refine m.okP (k:=0) (t:=oI ) sc (fun f cdv A outer s H E hr=>?_) len hsp
 ·
  exact(aM (bO (BC (sK (.inl rfl) rfl bD (aF 0 (pv 0)) (kG (v:=.ty "int") rfl y7 boot_int rfl)) (vX (Dh (sK (.inr (.inl rfl)) rfl bD (aF 0 (pv 0)) (kG (v:=.ty "bool") rfl t7 boot_bool rfl)))))))
abbrev pG(bX:Fn):cO:=
 (hZ (j5 (iO (aS bX (aD (aE 1) aJ)))) (cD (eC (.bl false))) bL)
abbrev n5(bX:Fn):cO:=
 (aR (hZ (j5 (iO (uS "tuple" (aE 0)))) (cD (eC (.bl false))) bL)
 (aR (gQ (jP (aE 0)) (gN 1) (pG bX))
 (cD (eC (.bl true)))))
theorem xT{bX:Fn}{sp:Fn}(m:At K mg "_law_wholes" "_law_wholes" (top 42) ["_law_found"])(bD:mg "isinstance" = none)(cV:mg "tuple" = none)(g9:Def P w K mg base 1 "_law_whole" ["_law_found"] (low K bX))(kJ:MonoF bX)(len:∀ds Q,sp ds Q->ds.length=1)(hsp:∀ds Q,sp ds Q->n5 bX ↥Q (aN ["_law_found", "_law_number"] ds)):Def P w K mg base 2 "_law_wholes" ["_law_found"] (low K sp):=by
 have sc:FnScope ["_law_found", "_law_number"] ["_law_found"] (aH (top 42)):=by norm_cast
 refine m.okP (k:=1) (t:=n5 bX) sc (fun f cdv A outer s H E hr=>?_) len hsp
 ·
  exact(aL (eW (fU (fG (sK (.inr (.inr (.inl rfl))) rfl bD (aF 0 (pv 0)) (kG (v:=.ty "tuple") rfl cV boot_tuple rfl)))) (aM (bO o9)) bZ)
 (aL (eJ PassesOwn.never rfl (eX (aF 0 (pv 0))) (g6 (i:=1) (k:=2) sc.nd rfl (.inl rfl)) (aM (eW (fU (fG (aZ g9 kJ (hr.mono ∅) (aG (aF 1 (pv 1)) aI)))) (aM (bO o9)) bZ)))
 (aM (bO o9))))
abbrev jJ:cO:=
 (aR (bK 6 (aT lI (aT lI (aE 1) (fX dE (aD (aE 4) aJ))) (aT lI (aT lI (aE 2) (aE 5)) (eC (.int 1)))))
 (aR (bK 7 (aT dZ (eC (.int 1)) (aT iT (aT iT (aT gY (aT iT (aT gY (aT dZ (aE 0) (aT gY (eC (.int 31)) (aE 5))) (eC (.int 48271))) (eC (.int 2147483647))) (aT dZ (aT gY (aE 5) (aE 5)) (eC (.int 17)))) (eC (.int 99991))) (fX wC (aD (aE 6) (aD (eC (.int 3)) aJ))))))
 (aR (hZ (bB (aT Hi (aE 3) (eC (.int 1)))) (aR (bK 7 (aT dZ (eC (.int 1)) (aT iT (aE 3) (aE 6))))
 (bK 3 (aT nP (aE 3) (aE 6)))) bL)
 (bK 4 (aT dZ (aE 4) (aT gY (i5 (aD (aE 5) aJ)) (aE 7)))))))
abbrev oN:cO:=
 (aR (bK 2 (aT dZ (eC (.int 2)) (aT iT (aE 0) (eC (.int 5)))))
 (aR (bK 3 (aT nP (aE 0) (eC (.int 5))))
 (aR (bK 4 (i5 aJ))
 (aR (gQ (eM (aD (aE 2) aJ)) (gN 5) jJ)
 (cD (aE 4))))))
theorem AQ{sp:Fn}(m:At K mg "_law_bands" "_law_bands" (top 43) ["_law_cell", "_law_most"])(bA:mg "range" = none)(bJ:mg "len" = none)(y6:mg "min" = none)(len:∀ds Q,sp ds Q->ds.length=2)(hsp:∀ds Q,sp ds Q->oN  ↥Q (aN ["_law_cell", "_law_most", "_law_kinds", "_law_rest", "_law_bands_here", "_law_k", "_law_spare", "_law_count"] ds)):Def P w K mg base 1 "_law_bands" ["_law_cell", "_law_most"] (low K sp):=by
 have sc:FnScope ["_law_cell", "_law_most", "_law_kinds", "_law_rest", "_law_bands_here", "_law_k", "_law_spare", "_law_count"] ["_law_cell", "_law_most"] (aH (top 43)):=by norm_cast
 refine m.okP (k:=0) (t:=oN ) sc (fun f cdv A outer s H E hr=>?_) len hsp
 ·
  exact(aL (cN (i:=2) sc.nd rfl (.inl rfl) (cF cR aU (cF gD (aF 0 (pv 0)) aU)))
 (aL (cN (i:=3) sc.nd rfl (.inl rfl) (cF nR (aF 0 (pv 0)) aU))
 (aL (cN (i:=4) sc.nd rfl (.inl rfl) (gK aI))
 (aL (eJ PassesOwn.never rfl (eD rfl bA (aG (aF 2 (pv 2)) aI)) (g6 (i:=5) (k:=8) sc.nd rfl (.inl rfl)) (aL (cN (i:=6) sc.nd rfl (.inl rfl) (cF kH (cF kH (aF 1 (pv 1)) (bC cM rfl bJ boot_len (aG (aF 4 (pv 4)) aI))) (cF kH (cF kH (aF 2 (pv 2)) (aF 5 (pv 5))) aU)))
 (aL (cN (i:=7) sc.nd rfl (.inl rfl) (cF cR aU (cF gD (cF gD (cF dY (cF gD (cF dY (cF cR (aF 0 (pv 0)) (cF dY aU (aF 5 (pv 5)))) aU) aU) (cF cR (cF dY (aF 5 (pv 5)) (aF 5 (pv 5))) aU)) aU) (bC (Eb rfl) rfl y6 boot_min (aG (aF 6 (pv 6)) (aG aU aI))))))
 (aL (eW (cC oW (aF 3 (pv 3)) aU) (aL (cN (i:=7) sc.nd rfl (.inl rfl) (cF cR aU (cF gD (aF 3 (pv 3)) (aF 6 (pv 6)))))
 (aM (cN (i:=3) sc.nd rfl (.inl rfl) (cF nR (aF 3 (pv 3)) (aF 6 (pv 6)))))) bZ)
 (aM (cN (i:=4) sc.nd rfl (.inl rfl) (cF cR (aF 4 (pv 4)) (cF dY (gK (aG (aF 5 (pv 5)) aI)) (aF 7 (pv 7))))))))))
 (aM (bO (aF 4 (pv 4))))))))
abbrev qL:cO:=
 (cD (aT iT (aT iT (aT gY (aT iT (aT gY (aT dZ (aE 0) (aT gY (eC (.int 31)) (aE 1))) (eC (.int 48271))) (eC (.int 2147483647))) (aT dZ (aT gY (aE 1) (aE 1)) (eC (.int 17)))) (eC (.int 99991))) (aE 2)))
theorem C8{sp:Fn}(m:At K mg "_law_pick" "_law_pick" (top 44) ["_law_cell", "_law_step", "_law_many_here"])(len:∀ds Q,sp ds Q->ds.length=3)(hsp:∀ds Q,sp ds Q->qL  ↥Q (aN ["_law_cell", "_law_step", "_law_many_here"] ds)):Def P w K mg base 1 "_law_pick" ["_law_cell", "_law_step", "_law_many_here"] (low K sp):=by
 have sc:FnScope ["_law_cell", "_law_step", "_law_many_here"] ["_law_cell", "_law_step", "_law_many_here"] (aH (top 44)):=by norm_cast
 refine m.okP (k:=0) (t:=qL ) sc (fun f cdv A outer s H E hr=>?_) len hsp
 ·
  exact(aM (bO (cF gD (cF gD (cF dY (cF gD (cF dY (cF cR (aF 0 (pv 0)) (cF dY aU (aF 1 (pv 1)))) aU) aU) (cF cR (cF dY (aF 1 (pv 1)) (aF 1 (pv 1))) aU)) aU) (aF 2 (pv 2)))))
abbrev jV:cO:=
 (cD (aT dZ (aT dZ (Fz (aE 0) gG (mS (aE 1))) (i5 (aD (aT cX (aE 0) (aT dZ (aE 1) (eC (.int 1)))) (aD (aT cX (aE 0) (aE 1)) aJ)))) (Fz (aE 0) (mS (aT dZ (aE 1) (eC (.int 2)))) gG)))
theorem tV{sp:Fn}(m:At K mg "_law_exchanged" "_law_exchanged" (top 45) ["_law_path", "_law_p"])(len:∀ds Q,sp ds Q->ds.length=2)(hsp:∀ds Q,sp ds Q->jV  ↥Q (aN ["_law_path", "_law_p"] ds)):Def P w K mg base 1 "_law_exchanged" ["_law_path", "_law_p"] (low K sp):=by
 have sc:FnScope ["_law_path", "_law_p"] ["_law_path", "_law_p"] (aH (top 45)):=by norm_cast
 refine m.okP (k:=0) (t:=jV ) sc (fun f cdv A outer s H E hr=>?_) len hsp
 ·
  have hu1:=eZ hr
  exact(aM (bO (cF cR (cF cR (nK (aF 0 (pv 0)) nJ (nI (aF 1 (pv 1)))) (gK (aG (cJ hu1 (aF 0 (pv 0)) (cF cR (aF 1 (pv 1)) aU)) (aG (cJ hu1 (aF 0 (pv 0)) (aF 1 (pv 1))) aI)))) (nK (aF 0 (pv 0)) (nI (cF cR (aF 1 (pv 1)) aU)) nJ))))
abbrev lS(gA aO:Fn):cO:=
 (aR (bK 6 (aT lI (fX dE (aD (aE 2) aJ)) (eC (.int 1))))
 (aR (bK 7 (fP 1 [0,2] (eM (aD (aE 6) aJ)) (gN 0) (bB (aT xN (aT cX (aE 1) (aT cX (aE 2) (aE 0))) (aT cX (aE 1) (aT cX (aE 2) (aT dZ (aE 0) (eC (.int 1))))))) (aE 0)))
 (aR (hZ (bB (aT t6 (aE 7) (i5 aJ))) (cD (aE 3)) bL)
 (aR (bK 8 (aS gA (aD (aE 1) (aD (aE 5) (aD (fX dE (aD (aE 7) aJ)) aJ)))))
 (aR (hZ (bB (aT Hi (aE 4) (eC (.int 1)))) (aR (bK 8 (aT iT (aE 4) (fX dE (aD (aE 7) aJ))))
 (bK 4 (aT nP (aE 4) (fX dE (aD (aE 7) aJ))))) bL)
 (aR (pZ 3 (aT cX (aE 7) (aE 8)))
 (bK 2 (aS aO (aD (aE 2) (aD (aT cX (aE 7) (aE 8)) aJ))))))))))
abbrev t8(gA aO:Fn):cO:=
 (aR (bK 2 (G0 (aD (fX dE (aD (aE 0) aJ)) aJ)))
 (aR (iV 3 (i5 aJ))
 (aR (bK 4 (aE 1))
 (aR (gQ (eM (aD (aT gY (fX dE (aD (aE 0) aJ)) (fX dE (aD (aE 0) aJ))) aJ)) (gN 5) (lS gA aO))
 (cD (aE 3))))))
theorem DN{gA aO:Fn}{sp:Fn}(m:At K mg "_law_row" "_law_row" (top 46) ["_law_bands_here", "_law_cell"])(bJ:mg "len" = none)(fF:mg "list" = none)(bA:mg "range" = none)(rJ:Def P w K mg base 1 "_law_pick" ["_law_cell", "_law_step", "_law_many_here"] (low K gA))(Bj:MonoF gA)(cW:Def P w K mg base 1 "_law_exchanged" ["_law_path", "_law_p"] (low K aO))(eY:MonoF aO)(len:∀ds Q,sp ds Q->ds.length=2)(hsp:∀ds Q,sp ds Q->t8 gA aO ↥Q (aN ["_law_bands_here", "_law_cell", "_law_path", "_law_row_here", "_law_rest", "_law_step", "_law_last", "_law_spots", "_law_pick_here"] ds)):Def P w K mg base 2 "_law_row" ["_law_bands_here", "_law_cell"] (low K sp):=by
 have sc:FnScope ["_law_bands_here", "_law_cell", "_law_path", "_law_row_here", "_law_rest", "_law_step", "_law_last", "_law_spots", "_law_pick_here"] ["_law_bands_here", "_law_cell"] (aH (top 46)):=by norm_cast
 refine m.okP (k:=1) (t:=t8 gA aO) sc (fun f cdv A outer s H E hr=>?_) len hsp
 ·
  have hu:=hr.units
  have hu1:=eZ hr
  exact(aL (cN (i:=2) sc.nd rfl (.inr rfl) (nN rfl rfl fF rfl bA (aG (bC cM rfl bJ boot_len (aG (aF 0 (pv 0)) aI)) aI)))
 (aL (iL (i:=3) sc.nd rfl (.inl rfl) (gK aI))
 (aL (cN (i:=4) sc.nd rfl (.inl rfl) (aF 1 (pv 1)))
 (aL (eJ PassesOwn.never rfl (eD rfl bA (aG (cF dY (bC cM rfl bJ boot_len (aG (aF 0 (pv 0)) aI)) (bC cM rfl bJ boot_len (aG (aF 0 (pv 0)) aI))) aI)) (g6 (i:=5) (k:=9) sc.nd rfl (.inl rfl)) (aL (cN (i:=6) sc.nd rfl (.inl rfl) (cF kH (bC cM rfl bJ boot_len (aG (aF 2 (pv 2)) aI)) aU))
 (aL (tJ (yI (iy:=7) ["_law_p"] ["_law_bands_here", "_law_path"] [0,2] sc.nd rfl (.inl rfl) rfl (eD rfl bA (aG (aF 6 (pv 6)) aI)) (fun fp s H=>(g6 (i:=0) (k:=1) (show List.Nodup (["_law_p", "_law_bands_here", "_law_path"]:List Str) by decide +kernel) rfl (.inl rfl))) (fun fp s H=>(lM (cC oV (cJ hu1 (aF 1 (pv 1)) (cJ hu1 (aF 2 (pv 2)) (aF 0 (pv 0)))) (cJ hu1 (aF 1 (pv 1)) (cJ hu1 (aF 2 (pv 2)) (cF cR (aF 0 (pv 0)) aU)))))) (fun fp s H=>(aF 0 (pv 0)))))
 (aL (eW (cC (jZ hu) (aF 7 (pv 7)) (gK aI)) (aM (bO (aF 3 (pv 3)))) bZ)
 (aL (cN (i:=8) sc.nd rfl (.inl rfl) (aZ rJ Bj (hr.mono ∅) (aG (aF 1 (pv 1)) (aG (aF 5 (pv 5)) (aG (bC cM rfl bJ boot_len (aG (aF 7 (pv 7)) aI)) aI)))))
 (aL (eW (cC oW (aF 4 (pv 4)) aU) (aL (cN (i:=8) sc.nd rfl (.inl rfl) (cF gD (aF 4 (pv 4)) (bC cM rfl bJ boot_len (aG (aF 7 (pv 7)) aI))))
 (aM (cN (i:=4) sc.nd rfl (.inl rfl) (cF nR (aF 4 (pv 4)) (bC cM rfl bJ boot_len (aG (aF 7 (pv 7)) aI)))))) bZ)
 (aL (uC (i:=3) (pv 3) (cJ hu1 (aF 7 (pv 7)) (aF 8 (pv 8))))
 (aM (cN (i:=2) sc.nd rfl (.inr rfl) (aZ cW eY (hr.mono ∅) (aG (aF 2 (pv 2)) (aG (cJ hu1 (aF 7 (pv 7)) (aF 8 (pv 8))) aI))))))))))))
 (aM (bO (aF 3 (pv 3))))))))
abbrev jI(aO:Fn):cO:=
 (aR (pZ 3 (cZ (aD (aT cX (aE 2) (aE 4)) (aD (aT cX (aE 2) (aT dZ (aE 4) (eC (.int 1)))) (aD (fX jY (aD (fX iM (aD (Fz (aE 2) gG (mS (aE 4))) aJ)) aJ)) aJ)))))
 (bK 2 (aS aO (aD (aE 2) (aD (aE 4) aJ)))))
abbrev oM(aO:Fn):cO:=
 (aR (bK 2 (G0 (aD (fX dE (aD (aE 0) aJ)) aJ)))
 (aR (iV 3 (i5 aJ))
 (aR (gQ (jP (aE 1)) (gN 4) (jI aO))
 (cD (fX iM (aD (aE 3) aJ))))))
theorem AO{aO:Fn}{sp:Fn}(m:At K mg "_law_floor" "_law_floor" (top 47) ["_law_bands_here", "_law_row_here"])(bJ:mg "len" = none)(fF:mg "list" = none)(bA:mg "range" = none)(eV:mg "sorted" = none)(cV:mg "tuple" = none)(cW:Def P w K mg base 1 "_law_exchanged" ["_law_path", "_law_p"] (low K aO))(eY:MonoF aO)(len:∀ds Q,sp ds Q->ds.length=2)(hsp:∀ds Q,sp ds Q->oM aO ↥Q (aN ["_law_bands_here", "_law_row_here", "_law_path", "_law_tiles", "_law_p"] ds)):Def P w K mg base 2 "_law_floor" ["_law_bands_here", "_law_row_here"] (low K sp):=by
 have sc:FnScope ["_law_bands_here", "_law_row_here", "_law_path", "_law_tiles", "_law_p"] ["_law_bands_here", "_law_row_here"] (aH (top 47)):=by norm_cast
 refine m.okP (k:=1) (t:=oM aO) sc (fun f cdv A outer s H E hr=>?_) len hsp
 ·
  have hu1:=eZ hr
  exact(aL (cN (i:=2) sc.nd rfl (.inl rfl) (nN rfl rfl fF rfl bA (aG (bC cM rfl bJ boot_len (aG (aF 0 (pv 0)) aI)) aI)))
 (aL (iL (i:=3) sc.nd rfl (.inl rfl) (gK aI))
 (aL (eJ PassesOwn.never rfl (eX (aF 1 (pv 1))) (g6 (i:=4) (k:=5) sc.nd rfl (.inl rfl)) (aL (uC (i:=3) (pv 3) (d6 (aG (cJ hu1 (aF 2 (pv 2)) (aF 4 (pv 4))) (aG (cJ hu1 (aF 2 (pv 2)) (cF cR (aF 4 (pv 4)) aU)) (aG (jM mV rfl cV boot_tuple (aG (bC pR rfl eV boot_sorted (aG (nK (aF 2 (pv 2)) nJ (nI (aF 4 (pv 4)))) aI)) aI)) aI)))))
 (aM (cN (i:=2) sc.nd rfl (.inl rfl) (aZ cW eY (hr.mono ∅) (aG (aF 2 (pv 2)) (aG (aF 4 (pv 4)) aI)))))))
 (aM (bO (bC pR rfl eV boot_sorted (aG (aF 3 (pv 3)) aI)))))))
abbrev qM:cO:=
 (cD (fX dE (aD (fP 1 [1] (jP (aE 0)) (gN 0) (bB (aT t6 (aE 0) (aE 1))) (aE 0)) aJ)))
theorem C9{sp:Fn}(m:At K mg "_law_many" "_law_many" (top 48) ["_law_bands_here", "_law_kind"])(bJ:mg "len" = none)(len:∀ds Q,sp ds Q->ds.length=2)(hsp:∀ds Q,sp ds Q->qM  ↥Q (aN ["_law_bands_here", "_law_kind"] ds)):Def P w K mg base 1 "_law_many" ["_law_bands_here", "_law_kind"] (low K sp):=by
 have sc:FnScope ["_law_bands_here", "_law_kind"] ["_law_bands_here", "_law_kind"] (aH (top 48)):=by norm_cast
 refine m.okP (k:=0) (t:=qM ) sc (fun f cdv A outer s H E hr=>?_) len hsp
 ·
  have hu:=hr.units
  exact(aM (bO (bC cM rfl bJ boot_len (aG (BA ["_law_band"] ["_law_kind"] [1] rfl (eX (aF 0 (pv 0))) (fun fp s H=>(g6 (i:=0) (k:=1) (show List.Nodup (["_law_band", "_law_kind"]:List Str) by decide +kernel) rfl (.inl rfl))) (fun fp s H=>(lM (cC (jZ hu) (aF 0 (pv 0)) (aF 1 (pv 1))))) (fun fp s H=>(aF 0 (pv 0)))) aI))))
abbrev oJ(j7 pS:Fn):cO:=
 (cD (EU pS (aD (fP 1 [0] (eM (aD (aT dZ (aT cX (aE 0) (LN (eC (.int 1)))) (eC (.int 1))) aJ)) (gN 0) jK (cZ (aD (aT lI (eC (.int 6)) (aT gY (eC (.int 2)) (aE 0))) (aD (eC (.int 1)) (aD (aS j7 (aD (aE 1) (aD (aE 0) aJ))) aJ))))) aJ)))
theorem AM{C:Addr}{j7 pS:Fn}{sp:Fn}(m:At K mg "_law_sides" "_law_sides" (top 49) ["_law_bands_here"])(bA:mg "range" = none)(rK:Def P w K mg base 1 "_law_many" ["_law_bands_here", "_law_kind"] (low K j7))(Bk:MonoF j7)(AU:IDef P w K mg base 5 "Sides" C ["self", "directions"] pS)(IG:MonoF pS)(len:∀ds Q,sp ds Q->ds.length=1)(hsp:∀ds Q,sp ds Q->oJ j7 pS ↥Q (aN ["_law_bands_here"] ds)):Def P w K mg base 7 "_law_sides" ["_law_bands_here"] (low K sp):=by
 have sc:FnScope ["_law_bands_here"] ["_law_bands_here"] (aH (top 49)):=by norm_cast
 refine m.okP (k:=6) (t:=oJ j7 pS) sc (fun f cdv A outer s H E hr=>?_) len hsp
 ·
  have hu1:=eZ hr
  exact(aM (bO (Ma AU IG (hr.mono ∅) (aG (BA ["_law_k"] ["_law_bands_here"] [0] rfl (eD rfl bA (aG (cF cR (cJ hu1 (aF 0 (pv 0)) (Oo aU)) aU) aI)) (fun fp s H=>(g6 (i:=0) (k:=1) (show List.Nodup (["_law_k", "_law_bands_here"]:List Str) by decide +kernel) rfl (.inl rfl))) (fun fp s H=>pL) (fun fp s H=>(d6 (aG (cF kH aU (cF dY aU (aF 0 (pv 0)))) (aG aU (aG (aZ rK Bk (hr.mono ∅) (aG (aF 1 (pv 1)) (aG (aF 0 (pv 0)) aI))) aI)))))) aI))))
abbrev pH:cO:=
 (aR (bK 3 (aT nP (aE 2) (aT gY (fX dE (aD (aE 0) aJ)) (fX dE (aD (aE 0) aJ)))))
 (aR (bK 4 (aT iT (aT nP (aE 2) (fX dE (aD (aE 0) aJ))) (fX dE (aD (aE 0) aJ))))
 (aR (bK 5 (aT iT (aE 2) (fX dE (aD (aE 0) aJ))))
 (hZ (C7 (bB (nZ xN xN (aE 3) (aE 4) (aE 5))) (C7 (bB (aT xN (aT cX (aE 0) (aE 3)) (aT cX (aE 0) (aE 4)))) (bB (aT xN (aT cX (aE 0) (aE 4)) (aT cX (aE 0) (aE 5)))))) (pZ 1 (cZ (aD (aE 3) (aD (aE 4) (aD (aE 5) aJ))))) bL))))
abbrev n6:cO:=
 (aR (iV 1 (i5 aJ))
 (aR (gQ (eM (aD (aT gY (aT gY (fX dE (aD (aE 0) aJ)) (fX dE (aD (aE 0) aJ))) (fX dE (aD (aE 0) aJ))) aJ)) (gN 2) pH)
 (cD (aE 1))))
theorem xU{sp:Fn}(m:At K mg "_law_threes" "_law_threes" (top 50) ["_law_bands_here"])(bJ:mg "len" = none)(bA:mg "range" = none)(len:∀ds Q,sp ds Q->ds.length=1)(hsp:∀ds Q,sp ds Q->n6  ↥Q (aN ["_law_bands_here", "_law_found", "_law_k", "_law_a", "_law_b", "_law_c"] ds)):Def P w K mg base 1 "_law_threes" ["_law_bands_here"] (low K sp):=by
 have sc:FnScope ["_law_bands_here", "_law_found", "_law_k", "_law_a", "_law_b", "_law_c"] ["_law_bands_here"] (aH (top 50)):=by norm_cast
 refine m.okP (k:=0) (t:=n6 ) sc (fun f cdv A outer s H E hr=>?_) len hsp
 ·
  have hu1:=eZ hr
  exact(aL (iL (i:=1) sc.nd rfl (.inl rfl) (gK aI))
 (aL (eJ PassesOwn.never rfl (eD rfl bA (aG (cF dY (cF dY (bC cM rfl bJ boot_len (aG (aF 0 (pv 0)) aI)) (bC cM rfl bJ boot_len (aG (aF 0 (pv 0)) aI))) (bC cM rfl bJ boot_len (aG (aF 0 (pv 0)) aI))) aI)) (g6 (i:=2) (k:=6) sc.nd rfl (.inl rfl)) (aL (cN (i:=3) sc.nd rfl (.inl rfl) (cF nR (aF 2 (pv 2)) (cF dY (bC cM rfl bJ boot_len (aG (aF 0 (pv 0)) aI)) (bC cM rfl bJ boot_len (aG (aF 0 (pv 0)) aI)))))
 (aL (cN (i:=4) sc.nd rfl (.inl rfl) (cF gD (cF nR (aF 2 (pv 2)) (bC cM rfl bJ boot_len (aG (aF 0 (pv 0)) aI))) (bC cM rfl bJ boot_len (aG (aF 0 (pv 0)) aI))))
 (aL (cN (i:=5) sc.nd rfl (.inl rfl) (cF gD (aF 2 (pv 2)) (bC cM rfl bJ boot_len (aG (aF 0 (pv 0)) aI))))
 (aM (eW (QW.qt (Co (B9 Be Be (aF 3 (pv 3)) (aF 4 (pv 4)) (aF 5 (pv 5))) (Co (cC oV (cJ hu1 (aF 0 (pv 0)) (aF 3 (pv 3))) (cJ hu1 (aF 0 (pv 0)) (aF 4 (pv 4)))) (Dg (cC oV (cJ hu1 (aF 0 (pv 0)) (aF 4 (pv 4))) (cJ hu1 (aF 0 (pv 0)) (aF 5 (pv 5)))))))) (aM (uC (i:=1) (pv 1) (d6 (aG (aF 3 (pv 3)) (aG (aF 4 (pv 4)) (aG (aF 5 (pv 5)) aI)))))) bZ))))))
 (aM (bO (aF 1 (pv 1))))))
abbrev xC:cO:=
 (B4 1 (cZ (aD (aE 2) (aD (aE 3) aJ))) (aE 4))
abbrev n8:cO:=
 (aR (iV 1 O9)
 (aR (gQ (jP (aE 0)) (gT [2,3,4]) xC)
 (cD (aE 1))))
theorem xV{sp:Fn}(m:At K mg "_law_belows" "_law_belows" (top 51) ["_law_tiles"])(len:∀ds Q,sp ds Q->ds.length=1)(hsp:∀ds Q,sp ds Q->n8  ↥Q (aN ["_law_tiles", "_law_belows_here", "_law_a", "_law_b", "_law_below"] ds)):Def P w K mg base 1 "_law_belows" ["_law_tiles"] (low K sp):=by
 have sc:FnScope ["_law_tiles", "_law_belows_here", "_law_a", "_law_b", "_law_below"] ["_law_tiles"] (aH (top 51)):=by norm_cast
 refine m.okP (k:=0) (t:=n8 ) sc (fun f cdv A outer s H E hr=>?_) len hsp
 ·
  have hu1:=eZ hr
  exact(aL (iL (i:=1) sc.nd rfl (.inl rfl) zO)
 (aL (eJ PassesOwn.never rfl (eX (aF 0 (pv 0))) (BB (k:=5) (is:=[2,3,4]) rfl (d5 (dH (i:=2) sc.nd rfl (.inl rfl)) (d5 (dH (i:=3) sc.nd rfl (.inl rfl)) (d5 (dH (i:=4) sc.nd rfl (.inl rfl)) lN)))) (aM (Gq hu1 (i:=1) (pv 1) (d6 (aG (aF 2 (pv 2)) (aG (aF 3 (pv 3)) aI))) (aF 4 (pv 4)))))
 (aM (bO (aF 1 (pv 1))))))
abbrev vK(gH:Fn):cO:=
 (aR (bK 2 (aS gH (aD (aE 1) aJ)))
 (cD (fP 1 [2] (jP (aE 0)) (gN 0) (bB (aT Hg (aT cX (aE 0) (eC (.int 1))) (aT cX (aE 1) (cZ (aD (aT cX (aE 0) (eC (.int 0))) (aD (aT cX (aE 0) (eC (.int 2))) aJ)))))) (aE 0))))
theorem G3{gH:Fn}{sp:Fn}(m:At K mg "_law_up" "_law_up" (top 52) ["_law_every", "_law_tiles"])(o4:Def P w K mg base 1 "_law_belows" ["_law_tiles"] (low K gH))(xP:MonoF gH)(len:∀ds Q,sp ds Q->ds.length=2)(hsp:∀ds Q,sp ds Q->vK gH ↥Q (aN ["_law_every", "_law_tiles", "_law_belows_here"] ds)):Def P w K mg base 2 "_law_up" ["_law_every", "_law_tiles"] (low K sp):=by
 have sc:FnScope ["_law_every", "_law_tiles", "_law_belows_here"] ["_law_every", "_law_tiles"] (aH (top 52)):=by norm_cast
 refine m.okP (k:=1) (t:=vK gH) sc (fun f cdv A outer s H E hr=>?_) len hsp
 ·
  have hu1:=eZ hr
  have hu65:=rZ hr
  exact(aL (cN (i:=2) sc.nd rfl (.inr rfl) (aZ o4 xP (hr.mono ∅) (aG (aF 1 (pv 1)) aI)))
 (aM (bO (BA ["_law_three"] ["_law_belows_here"] [2] rfl (eX (aF 0 (pv 0))) (fun fp s H=>(g6 (i:=0) (k:=1) (show List.Nodup (["_law_three", "_law_belows_here"]:List Str) by decide +kernel) rfl (.inl rfl))) (fun fp s H=>(lM (cC (Cz hu65 hu1) (cJ hu1 (aF 0 (pv 0)) aU) (cJ hu1 (aF 1 (pv 1)) (d6 (aG (cJ hu1 (aF 0 (pv 0)) aU) (aG (cJ hu1 (aF 0 (pv 0)) aU) aI))))))) (fun fp s H=>(aF 0 (pv 0)))))))
abbrev gI(bX eN:Fn):cO:=
 (aR (hZ (DM (j5 (iO (uS "tuple" (aE 1)))) (DM (bB (aT wB (fX dE (aD (aE 1) aJ)) (eC (.int 3)))) (DM (j5 (iO (aS bX (aD (aT cX (aE 1) (eC (.int 0))) aJ)))) (j5 (iO (aS bX (aD (aT cX (aE 1) (eC (.int 1))) aJ))))))) (cD (eC (.bl false))) bL)
 (hZ (j5 (iO (aS eN (aD (aT cX (aE 1) (eC (.int 2))) aJ)))) (cD (eC (.bl false))) bL))
abbrev kW(bX eN:Fn):cO:=
 (aR (hZ (j5 (iO (uS "list" (aE 0)))) (cD (eC (.bl false))) bL)
 (aR (gQ (jP (aE 0)) (gN 1) (gI bX eN))
 (cD (eC (.bl true)))))
theorem uT{bX eN:Fn}{sp:Fn}(m:At K mg "_law_kinds_of" "_law_kinds_of" (top 53) ["_law_tiles"])(bD:mg "isinstance" = none)(fF:mg "list" = none)(cV:mg "tuple" = none)(bJ:mg "len" = none)(g9:Def P w K mg base 1 "_law_whole" ["_law_found"] (low K bX))(kJ:MonoF bX)(o0:Def P w K mg base 2 "_law_wholes" ["_law_found"] (low K eN))(xO:MonoF eN)(len:∀ds Q,sp ds Q->ds.length=1)(hsp:∀ds Q,sp ds Q->kW bX eN ↥Q (aN ["_law_tiles", "_law_tile"] ds)):Def P w K mg base 3 "_law_kinds_of" ["_law_tiles"] (low K sp):=by
 have sc:FnScope ["_law_tiles", "_law_tile"] ["_law_tiles"] (aH (top 53)):=by norm_cast
 refine m.okP (k:=2) (t:=kW bX eN) sc (fun f cdv A outer s H E hr=>?_) len hsp
 ·
  have hu:=hr.units
  have hu1:=eZ hr
  exact(aL (eW (fU (fG (sK (.inr (.inr (.inr (.inl rfl)))) rfl bD (aF 0 (pv 0)) (kG (v:=.ty "list") rfl fF boot_list rfl)))) (aM (bO o9)) bZ)
 (aL (eJ PassesOwn.never rfl (eX (aF 0 (pv 0))) (g6 (i:=1) (k:=2) sc.nd rfl (.inl rfl)) (aL (eW (QW.qt (uB (fU (fG (sK (.inr (.inr (.inl rfl))) rfl bD (aF 1 (pv 1)) (kG (v:=.ty "tuple") rfl cV boot_tuple rfl)))) (uB (cC (nQ hu) (bC cM rfl bJ boot_len (aG (aF 1 (pv 1)) aI)) aU) (uB (fU (fG (aZ g9 kJ (hr.mono ∅) (aG (cJ hu1 (aF 1 (pv 1)) aU) aI)))) (tH (fU (fG (aZ g9 kJ (hr.mono ∅) (aG (cJ hu1 (aF 1 (pv 1)) aU) aI))))))))) (aM (bO o9)) bZ)
 (aM (eW (fU (fG (aZ o0 xO (hr.mono ∅) (aG (cJ hu1 (aF 1 (pv 1)) aU) aI)))) (aM (bO o9)) bZ))))
 (aM (bO o9))))
abbrev fQ(aO:Fn):cO:=
 (aR (bK 6 (cZ (aD (aT cX (aE 2) (aE 5)) (aD (aT cX (aE 2) (aT dZ (aE 5) (eC (.int 1)))) (aD (fX jY (aD (fX iM (aD (Fz (aE 2) gG (mS (aE 5))) aJ)) aJ)) aJ)))))
 (hZ (bB (aT Hg (aE 6) (aE 3))) zM bL))
abbrev kA(aO:Fn):cO:=
 (aR (gQ (eM (aD (aT lI (fX dE (aD (aE 2) aJ)) (eC (.int 1))) aJ)) (gN 5) (fQ aO))
 (aR (hZ (bB (aT eQ (aE 6) (aE 3))) (cD (eC (.bl false))) bL)
 (aR (Ci 3 (aE 6))
 (bK 2 (aS aO (aD (aE 2) (aD (aE 5) aJ)))))))
abbrev lY(aO:Fn):cO:=
 (aR (bK 2 (G0 (aD (fX dE (aD (aE 0) aJ)) aJ)))
 (aR (iV 3 (fX wD (aD (aE 1) aJ)))
 (aR (gQ (eM (aD (fX dE (aD (aE 1) aJ)) aJ)) (gN 4) (kA aO))
 (cD (eC (.bl true))))))
theorem wW{aO:Fn}{sp:Fn}(m:At K mg "_law_is_laid" "_law_is_laid" (top 54) ["_law_bands_here", "_law_tiles"])(bJ:mg "len" = none)(fF:mg "list" = none)(bA:mg "range" = none)(eV:mg "sorted" = none)(cV:mg "tuple" = none)(cW:Def P w K mg base 1 "_law_exchanged" ["_law_path", "_law_p"] (low K aO))(eY:MonoF aO)(len:∀ds Q,sp ds Q->ds.length=2)(hsp:∀ds Q,sp ds Q->lY aO ↥Q (aN ["_law_bands_here", "_law_tiles", "_law_path", "_law_left", "_law_k", "_law_p", "_law_tile"] ds)):Def P w K mg base 2 "_law_is_laid" ["_law_bands_here", "_law_tiles"] (low K sp):=by
 have sc:FnScope ["_law_bands_here", "_law_tiles", "_law_path", "_law_left", "_law_k", "_law_p", "_law_tile"] ["_law_bands_here", "_law_tiles"] (aH (top 54)):=by norm_cast
 refine m.okP (k:=1) (t:=lY aO) sc (fun f cdv A outer s H E hr=>?_) len hsp
 ·
  have hu1:=eZ hr
  have hu65:=rZ hr
  exact(aL (cN (i:=2) sc.nd rfl (.inl rfl) (nN rfl rfl fF rfl bA (aG (bC cM rfl bJ boot_len (aG (aF 0 (pv 0)) aI)) aI)))
 (aL (iL (i:=3) sc.nd rfl (.inl rfl) (jM Ec rfl fF boot_list (aG (aF 1 (pv 1)) aI)))
 (aL (eJ PassesOwn.never rfl (eD rfl bA (aG (bC cM rfl bJ boot_len (aG (aF 1 (pv 1)) aI)) aI)) (g6 (i:=4) (k:=7) sc.nd rfl (.inl rfl)) (aL (eJ PassesOwn.never rfl (eD rfl bA (aG (cF kH (bC cM rfl bJ boot_len (aG (aF 2 (pv 2)) aI)) aU) aI)) (g6 (i:=5) (k:=7) sc.nd rfl (.inl rfl)) (aL (cN (i:=6) sc.nd rfl (.inl rfl) (d6 (aG (cJ hu1 (aF 2 (pv 2)) (aF 5 (pv 5))) (aG (cJ hu1 (aF 2 (pv 2)) (cF cR (aF 5 (pv 5)) aU)) (aG (jM mV rfl cV boot_tuple (aG (bC pR rfl eV boot_sorted (aG (nK (aF 2 (pv 2)) nJ (nI (aF 5 (pv 5)))) aI)) aI)) aI)))))
 (aM (eW (cC (Cz hu65 hu1) (aF 6 (pv 6)) (aF 3 (pv 3))) (aM Jv) bZ))))
 (aL (eW (cC (mK hu65 hu1) (aF 6 (pv 6)) (aF 3 (pv 3))) (aM (bO o9)) bZ)
 (aL (Om (i:=3) hu65 (pv 3) (aF 6 (pv 6)))
 (aM (cN (i:=2) sc.nd rfl (.inl rfl) (aZ cW eY (hr.mono ∅) (aG (aF 2 (pv 2)) (aG (aF 5 (pv 5)) aI)))))))))
 (aM (bO o9)))))
abbrev jH:cO:=
 (hZ (bB (aT xN (aT cX (aE 0) (aE 2)) (aT cX (aE 0) (aE 3)))) (pZ 1 (cZ (aD (aE 2) (aD (aE 3) aJ)))) bL)
abbrev jG:cO:=
 (gQ (kL (aD (aT dZ (aE 2) (eC (.int 1))) (aD (fX dE (aD (aE 0) aJ)) aJ))) (gN 3) jH)
abbrev oK:cO:=
 (aR (iV 1 (i5 aJ))
 (aR (gQ (eM (aD (fX dE (aD (aE 0) aJ)) aJ)) (gN 2) jG)
 (cD (aE 1))))
theorem AN{sp:Fn}(m:At K mg "_law_pairs" "_law_pairs" (top 55) ["_law_bands_here"])(bJ:mg "len" = none)(bA:mg "range" = none)(len:∀ds Q,sp ds Q->ds.length=1)(hsp:∀ds Q,sp ds Q->oK  ↥Q (aN ["_law_bands_here", "_law_row_here", "_law_a", "_law_b"] ds)):Def P w K mg base 1 "_law_pairs" ["_law_bands_here"] (low K sp):=by
 have sc:FnScope ["_law_bands_here", "_law_row_here", "_law_a", "_law_b"] ["_law_bands_here"] (aH (top 55)):=by norm_cast
 refine m.okP (k:=0) (t:=oK ) sc (fun f cdv A outer s H E hr=>?_) len hsp
 ·
  have hu1:=eZ hr
  exact(aL (iL (i:=1) sc.nd rfl (.inl rfl) (gK aI))
 (aL (eJ PassesOwn.never rfl (eD rfl bA (aG (bC cM rfl bJ boot_len (aG (aF 0 (pv 0)) aI)) aI)) (g6 (i:=2) (k:=4) sc.nd rfl (.inl rfl)) (aM (eJ PassesOwn.never rfl (kQ rfl bA (aG (cF cR (aF 2 (pv 2)) aU) (aG (bC cM rfl bJ boot_len (aG (aF 0 (pv 0)) aI)) aI))) (g6 (i:=3) (k:=4) sc.nd rfl (.inl rfl)) (aM (eW (cC oV (cJ hu1 (aF 0 (pv 0)) (aF 2 (pv 2))) (cJ hu1 (aF 0 (pv 0)) (aF 3 (pv 3)))) (aM (uC (i:=1) (pv 1) (d6 (aG (aF 2 (pv 2)) (aG (aF 3 (pv 3)) aI))))) bZ)))))
 (aM (bO (aF 1 (pv 1))))))
abbrev kN(dG fE iD:Fn):cO:=
 (aR (bK 7 (aS dG (aD (aE 1) (aD (aE 4) aJ))))
 (aR (bK 8 (fP 1 [7] (jP (aS fE (aD (aE 0) (aD (aE 4) aJ)))) (gN 0) (bB (aT Hg (aE 0) (aE 1))) (aE 0)))
 (aR (hZ (DM (bB (aT wB (fX dE (aD (aE 7) aJ)) (aT lI (aE 5) (aE 6)))) (bB (aT t6 (aE 8) (i5 aJ)))) (cD (eC .non)) bL)
 (bK 4 (aS iD (aD (aE 0) (aD (aE 4) (aD (aT cX (aE 8) (aT iT (aT dZ (aT nP (aE 3) (eC (.int 3))) (aT gY (eC (.int 5)) (aE 6))) (fX dE (aD (aE 8) aJ)))) aJ))))))))
abbrev qN(dG fE iD:Fn):cO:=
 (aR (bK 4 (fX wD (aD (aE 2) aJ)))
 (aR (bK 5 (fX dE (aD (aS dG (aD (aE 1) (aD (aE 4) aJ))) aJ)))
 (aR (gQ (eM (aD (aE 5) aJ)) (gN 6) (kN dG fE iD))
 (cD (aE 4)))))
theorem CA{dG fE iD:Fn}{sp:Fn}(m:At K mg "_law_down" "_law_down" (top 56) ["_law_sides_here", "_law_every", "_law_tiles", "_law_cell"])(fF:mg "list" = none)(bJ:mg "len" = none)(bA:mg "range" = none)(jQ:Def P w K mg base 2 "_law_up" ["_law_every", "_law_tiles"] (low K dG))(mN:MonoF dG)(pE:Def P w K mg base 4 "flippable" ["sides", "floor"] (low K fE))(A2:MonoF fE)(tY:Def P w K mg base 4 "flipped" ["sides", "floor", "three"] (low K iD))(D8:MonoF iD)(len:∀ds Q,sp ds Q->ds.length=4)(hsp:∀ds Q,sp ds Q->qN dG fE iD ↥Q (aN ["_law_sides_here", "_law_every", "_law_tiles", "_law_cell", "_law_floor_here", "_law_many_here", "_law_k", "_law_standing", "_law_some"] ds)):Def P w K mg base 5 "_law_down" ["_law_sides_here", "_law_every", "_law_tiles", "_law_cell"] (low K sp):=by
 have sc:FnScope ["_law_sides_here", "_law_every", "_law_tiles", "_law_cell", "_law_floor_here", "_law_many_here", "_law_k", "_law_standing", "_law_some"] ["_law_sides_here", "_law_every", "_law_tiles", "_law_cell"] (aH (top 56)):=by norm_cast
 refine m.okP (k:=4) (t:=qN dG fE iD) sc (fun f cdv A outer s H E hr=>?_) len hsp
 ·
  have hu:=hr.units
  have hu1:=eZ hr
  have hu65:=rZ hr
  exact(aL (cN (i:=4) sc.nd rfl (.inl rfl) (jM Ec rfl fF boot_list (aG (aF 2 (pv 2)) aI)))
 (aL (cN (i:=5) sc.nd rfl (.inl rfl) (bC cM rfl bJ boot_len (aG (aZ jQ mN (hr.mono ∅) (aG (aF 1 (pv 1)) (aG (aF 4 (pv 4)) aI))) aI)))
 (aL (eJ PassesOwn.never rfl (eD rfl bA (aG (aF 5 (pv 5)) aI)) (g6 (i:=6) (k:=9) sc.nd rfl (.inl rfl)) (aL (cN (i:=7) sc.nd rfl (.inr rfl) (aZ jQ mN (hr.mono ∅) (aG (aF 1 (pv 1)) (aG (aF 4 (pv 4)) aI))))
 (aL (tJ (yI (iy:=8) ["_law_three"] ["_law_standing"] [7] sc.nd rfl (.inl rfl) rfl (eX (aZ pE A2 (hr.mono ∅) (aG (aF 0 (pv 0)) (aG (aF 4 (pv 4)) aI)))) (fun fp s H=>(g6 (i:=0) (k:=1) (show List.Nodup (["_law_three", "_law_standing"]:List Str) by decide +kernel) rfl (.inl rfl))) (fun fp s H=>(lM (cC (Cz hu65 hu1) (aF 0 (pv 0)) (aF 1 (pv 1))))) (fun fp s H=>(aF 0 (pv 0)))))
 (aL (eW (QW.qt (uB (cC (nQ hu) (bC cM rfl bJ boot_len (aG (aF 7 (pv 7)) aI)) (cF kH (aF 5 (pv 5)) (aF 6 (pv 6)))) (tH (cC (jZ hu) (aF 8 (pv 8)) (gK aI))))) (aM (bO Di)) bZ)
 (aM (cN (i:=4) sc.nd rfl (.inl rfl) (aZ tY D8 (hr.mono ∅) (aG (aF 0 (pv 0)) (aG (aF 4 (pv 4)) (aG (cJ hu1 (aF 8 (pv 8)) (cF gD (cF cR (cF nR (aF 3 (pv 3)) aU) (cF dY aU (aF 6 (pv 6)))) (bC cM rfl bJ boot_len (aG (aF 8 (pv 8)) aI)))) aI))))))))))
 (aM (bO (aF 4 (pv 4)))))))
abbrev t9(i9 xA fB iA dG fT kT iC j8:Fn):cO:=
 (aR (bK 3 (aS i9 (aD (aE 0) aJ)))
 (aR (iV 4 (aS xA (aD (aE 3) aJ)))
 (aR (hZ (DM (j5 (iO (aS fB (aD (aE 4) aJ)))) (bB (aT wB (fP 3 [] (jP (aE 4)) (gT [0,1,2]) jK (cZ (aD (aE 0) (aD (aE 1) aJ)))) (aS iA (aD (aE 0) aJ))))) (cD (eC (.bl false))) bL)
 (aR (hZ (DM (bB (aT wB (aS dG (aD (aE 1) (aD (aE 4) aJ))) (i5 aJ))) (j5 (iO (aS fT (aD (aE 0) (aD (aE 4) aJ)))))) (cD (eC (.bl false))) bL)
 (aR (bK 5 (aS iC (aD (aE 0) (aD (aS kT (aD (aE 0) (aD (aE 2) aJ))) aJ))))
 (aR (hZ (bB (aT wB (aS j8 (aD (aE 3) (aD (aE 1) (aD (aE 5) (aD (aE 2) aJ))))) (aE 4))) (cD (eC (.bl false))) bL)
 (aR (qT 4)
 (cD (aT t6 (aS dG (aD (aE 1) (aD (aS xA (aD (aE 3) aJ)) aJ))) (i5 aJ))))))))))
theorem DO{i9 xA fB iA dG fT kT iC j8:Fn}{sp:Fn}(m:At K mg "_law_one" "_law_one" (top 57) ["_law_bands_here", "_law_every", "_law_cell"])(pA:Def P w K mg base 7 "_law_sides" ["_law_bands_here"] (low K i9))(zY:MonoF i9)(EY:Def P w K mg base 6 "low" ["sides"] (low K xA))(zW:MonoF xA)(lD:Def P w K mg base 3 "_law_kinds_of" ["_law_tiles"] (low K fB))(uP:MonoF fB)(pB:Def P w K mg base 1 "_law_pairs" ["_law_bands_here"] (low K iA))(zZ:MonoF iA)(jQ:Def P w K mg base 2 "_law_up" ["_law_every", "_law_tiles"] (low K dG))(mN:MonoF dG)(mE:Def P w K mg base 2 "_law_is_laid" ["_law_bands_here", "_law_tiles"] (low K fT))(wH:MonoF fT)(tW:Def P w K mg base 2 "_law_row" ["_law_bands_here", "_law_cell"] (low K kT))(D6:MonoF kT)(pC:Def P w K mg base 2 "_law_floor" ["_law_bands_here", "_law_row_here"] (low K iC))(A0:MonoF iC)(rL:Def P w K mg base 5 "_law_down" ["_law_sides_here", "_law_every", "_law_tiles", "_law_cell"] (low K j8))(Bl:MonoF j8)(len:∀ds Q,sp ds Q->ds.length=3)(hsp:∀ds Q,sp ds Q->t9 i9 xA fB iA dG fT kT iC j8 ↥Q (aN ["_law_bands_here", "_law_every", "_law_cell", "_law_sides_here", "_law_lowest", "_law_tiles"] ds)):Def P w K mg base 8 "_law_one" ["_law_bands_here", "_law_every", "_law_cell"] (low K sp):=by
 have sc:FnScope ["_law_bands_here", "_law_every", "_law_cell", "_law_sides_here", "_law_lowest", "_law_tiles"] ["_law_bands_here", "_law_every", "_law_cell"] (aH (top 57)):=by norm_cast
 refine m.okP (k:=7) (t:=t9 i9 xA fB iA dG fT kT iC j8) sc (fun f cdv A outer s H E hr=>?_) len hsp
 ·
  have hu:=hr.units
  exact(aL (cN (i:=3) sc.nd rfl (.inl rfl) (aZ pA zY (hr.mono ∅) (aG (aF 0 (pv 0)) aI)))
 (aL (iL (i:=4) sc.nd rfl (.inl rfl) (aZ EY zW (hr.mono ∅) (aG (aF 3 (pv 3)) aI)))
 (aL (eW (QW.qt (uB (fU (fG (aZ lD uP (hr.mono ∅) (aG (aF 4 (pv 4)) aI)))) (tH (cC (nQ hu) (BA ["_law_a", "_law_b", "_law_below"] [] [] rfl (eX (aF 4 (pv 4))) (fun fp s H=>(BB (k:=3) (is:=[0,1,2]) rfl (d5 (dH (i:=0) (show List.Nodup (["_law_a", "_law_b", "_law_below"]:List Str) by decide +kernel) rfl (.inl rfl)) (d5 (dH (i:=1) (show List.Nodup (["_law_a", "_law_b", "_law_below"]:List Str) by decide +kernel) rfl (.inl rfl)) (d5 (dH (i:=2) (show List.Nodup (["_law_a", "_law_b", "_law_below"]:List Str) by decide +kernel) rfl (.inl rfl)) lN))))) (fun fp s H=>pL) (fun fp s H=>(d6 (aG (aF 0 (pv 0)) (aG (aF 1 (pv 1)) aI))))) (aZ pB zZ (hr.mono ∅) (aG (aF 0 (pv 0)) aI)))))) (aM (bO o9)) bZ)
 (aL (eW (QW.qt (uB (cC (nQ hu) (aZ jQ mN (hr.mono ∅) (aG (aF 1 (pv 1)) (aG (aF 4 (pv 4)) aI))) (gK aI)) (tH (fU (fG (aZ mE wH (hr.mono ∅) (aG (aF 0 (pv 0)) (aG (aF 4 (pv 4)) aI)))))))) (aM (bO o9)) bZ)
 (aL (cN (i:=5) sc.nd rfl (.inl rfl) (aZ pC A0 (hr.mono ∅) (aG (aF 0 (pv 0)) (aG (aZ tW D6 (hr.mono ∅) (aG (aF 0 (pv 0)) (aG (aF 2 (pv 2)) aI))) aI))))
 (aL (eW (cC (nQ hu) (aZ rL Bl (hr.mono ∅) (aG (aF 3 (pv 3)) (aG (aF 1 (pv 1)) (aG (aF 5 (pv 5)) (aG (aF 2 (pv 2)) aI))))) (aF 4 (pv 4))) (aM (bO o9)) bZ)
 (aL (Ju (i:=4) (pv 4))
 (aM (bO (oT (jZ hu) (aZ jQ mN (hr.mono ∅) (aG (aF 1 (pv 1)) (aG (aZ EY zW (hr.mono ∅) (aG (aF 3 (pv 3)) aI)) aI))) (gK aI)))))))))))
abbrev Ac(dD eO dS iB:Fn):cO:=
 (aR (bK 2 (aS dD (aD (aE 0) (aD (aE 1) aJ))))
 (aR (bK 3 (aS eO (aD (aE 2) (aD (eC (.int 6)) aJ))))
 (aR (bK 4 (aS dS (aD (aE 3) aJ)))
 (aR (hZ (bB (aT t6 (aT iT (aT nP (aE 2) (eC (.int 7))) (eC (.int 4))) (eC (.int 1)))) (aR (bK 5 (aS eO (aD (aE 2) (aD (eC (.int 12)) aJ))))
 (aR (bK 6 (aS dS (aD (aE 5) aJ)))
 (hZ (bB (aT xN (fX dE (aD (aE 6) aJ)) (eC (.int 25)))) (aR (bK 3 (aE 5))
 (bK 4 (aE 6))) bL))) bL)
 (hZ (j5 (iO (aS iB (aD (aE 3) (aD (aE 4) (aD (aS dD (aD (aE 0) (aD (aT dZ (aE 1) (eC (.int 1))) aJ))) aJ)))))) (cD (eC (.bl false))) bL)))))
abbrev Ge(dD eO dS iB:Fn):cO:=
 (aR (gQ (vC (aD (eC (.int 0)) (aD (aT dZ (fX wC (aD (eC (.int 6)) (aD (fX dE (aD (aE 0) aJ)) aJ))) (eC (.int 1))) (aD (eC (.int 2)) aJ)))) (gN 1) (Ac dD eO dS iB))
 (cD (eC (.bl true))))
theorem Np{dD eO dS iB:Fn}{sp:Fn}{fL:Addr}{fdL:FuncData}(F:Fun K "law" "law" (top 58) fL fdL)(bJ:mg "len" = none)(y6:mg "min" = none)(bA:mg "range" = none)(jE:Def P w K mg base 1 "_law_cell_at" ["_law_script", "_law_k"] (low K dD))(oZ:MonoF dD)(lP:Def P w K mg base 1 "_law_bands" ["_law_cell", "_law_most"] (low K eO))(sS:MonoF eO)(kM:Def P w K mg base 1 "_law_threes" ["_law_bands_here"] (low K dS))(qH:MonoF dS)(tX:Def P w K mg base 8 "_law_one" ["_law_bands_here", "_law_every", "_law_cell"] (low K iB))(D7:MonoF iB)(len:∀ds Q,sp ds Q->ds.length=1)(hsp:∀ds Q,sp ds Q->Ge dD eO dS iB ↥Q (aN ["_law_script", "_law_k", "_law_cell", "_law_bands_here", "_law_every", "_law_wide", "_law_more_threes"] ds)):FnOk P w K mg base DX 9 fL fdL ["_law_script"] (low K sp):=by
 have sc:FnScope ["_law_script", "_law_k", "_law_cell", "_law_bands_here", "_law_every", "_law_wide", "_law_more_threes"] ["_law_script"] (aH (top 58)):=by norm_cast
 refine F.ok (k:=8) sc (A4 len) fun cdv A outer s H vs Q E hr qq=>Ab (N:=["_law_script", "_law_k", "_law_cell", "_law_bands_here", "_law_every", "_law_wide", "_law_more_threes"]) (t:=Ge dD eO dS iB) ?_ hsp qq
 ·
  have hu:=hr.units
  exact(aL (eJ PassesOwn.never rfl (FA rfl bA (aG aU (aG (cF cR (bC (Eb rfl) rfl y6 boot_min (aG aU (aG (bC cM rfl bJ boot_len (aG (aF 0 (pv 0)) aI)) aI))) aU) (aG aU aI)))) (g6 (i:=1) (k:=7) sc.nd rfl (.inl rfl)) (aL (cN (i:=2) sc.nd rfl (.inl rfl) (aZ jE oZ (hr.mono ∅) (aG (aF 0 (pv 0)) (aG (aF 1 (pv 1)) aI))))
 (aL (cN (i:=3) sc.nd rfl (.inl rfl) (aZ lP sS (hr.mono ∅) (aG (aF 2 (pv 2)) (aG aU aI))))
 (aL (cN (i:=4) sc.nd rfl (.inl rfl) (aZ kM qH (hr.mono ∅) (aG (aF 3 (pv 3)) aI)))
 (aL (eW (cC (jZ hu) (cF gD (cF nR (aF 2 (pv 2)) aU) aU) aU) (aL (cN (i:=5) sc.nd rfl (.inl rfl) (aZ lP sS (hr.mono ∅) (aG (aF 2 (pv 2)) (aG aU aI))))
 (aL (cN (i:=6) sc.nd rfl (.inl rfl) (aZ kM qH (hr.mono ∅) (aG (aF 5 (pv 5)) aI)))
 (aM (eW (cC oV (bC cM rfl bJ boot_len (aG (aF 6 (pv 6)) aI)) aU) (aL (cN (i:=3) sc.nd rfl (.inl rfl) (aF 5 (pv 5)))
 (aM (cN (i:=4) sc.nd rfl (.inl rfl) (aF 6 (pv 6))))) bZ)))) bZ)
 (aM (eW (fU (fG (aZ tX D7 (hr.mono ∅) (aG (aF 3 (pv 3)) (aG (aF 4 (pv 4)) (aG (aZ jE oZ (hr.mono ∅) (aG (aF 0 (pv 0)) (aG (cF cR (aF 1 (pv 1)) aU) aI))) aI)))))) (aM (bO o9)) bZ)))))))
 (aM (bO o9)))
end
end Lw
namespace Fl
def aP(l:List Int)(p:Nat):List Int:=l.take p++[l.getD (p+1) 0,l.getD p 0]++l.drop (p+2)
theorem g5{l:List Int}{p:Nat}(hp:p+1<l.length):(aP l p).length=l.length:=by unfold aP;simp;ac_rfl
theorem cE{l:List Int}{p k:Nat}(hp:p+1<l.length)(hk:k<l.length):(aP l p).getD k 0=if k=p+1 then l.getD p 0 else if k=p then l.getD (p+1) 0 else l.getD k 0:=by
 unfold aP
 simp only[List.getD,append_assoc]
 by_cases h1:k<p
 ·rw[List.getElem?_append_left (by simp;ac_rfl),List.getElem?_take_of_lt h1,if_neg ⋯,if_neg ⋯]
 ·rw[List.getElem?_append_right (by simp;ac_rfl),length_take,min_eq_left ⋯]
  by_cases h2:k=p
  ·subst h2
   rw[if_neg ⋯,if_pos rfl]
   simp
  ·by_cases h3:k=p+1
   ·subst h3
    rw[if_pos rfl,show p+1-p=1 by ac_rfl]
    simp
   ·rw[if_neg h3,if_neg h2,List.getElem?_append_right (by simp;ac_rfl)]
    simp only[length_cons,length_nil,List.getElem?_drop]
    rw[show p+2+(k-p-(0+1+1))=k by ac_rfl]
def sg(p i:Nat):Nat:=if i=p then p+1 else if i=p+1 then p else i
theorem De(p i:Nat):sg p (sg p i)=i:=by unfold sg;split<;>split<;>first | ac_rfl | (split<;>ac_rfl)
theorem sH{n p i:Nat}(hp:p+1<n)(hi:i<n):sg p i<n:=by unfold sg;split<;>first | ac_rfl | (split<;>ac_rfl)
theorem sC{l:List Int}{p i:Nat}(hp:p+1<l.length)(hi:i<l.length):(aP l p).getD (sg p i) 0=l.getD i 0:=by
 rw[cE hp (sH hp hi)]
 unfold sg
 by_cases h:i=p
 ·rw[if_pos h,if_pos rfl,h]
 ·rw[if_neg h]
  by_cases h2:i=p+1
  ·rw[if_pos h2,if_neg ⋯,if_pos rfl,h2]
  ·rw[if_neg h2,if_neg h2,if_neg h]
structure Pt(n:Nat)(l:List Int):Prop where
 len:l.length=n
 bd:∀i,i<n->0<=l.getD i 0/\l.getD i 0<n
 inj:∀i j,i<n->j<n->l.getD i 0=l.getD j 0->i=j
 sur:∀x:Int,0<=x->x<n -> ∃i,i<n/\l.getD i 0=x
abbrev ids(n:Nat):List Int:=(List.range n).map fun(k:Nat)=>(k:Int)
theorem kK{n i:Nat}(h:i<n):(ids n).getD i 0=i:=by simp[ids,List.getD,h]
theorem Pt.ids(n:Nat):Pt n (ids n):=by
 refine⟨by simp[Fl.ids],fun i hi=>by rw[kK hi];ac_rfl,fun i j hi hj e=>by rw[kK hi,kK hj] at e;ac_rfl,fun x h0 h1=>⟨x.toNat,⋯,by rw[kK ⋯];ac_rfl⟩⟩
theorem Pt.swap{n p:Nat}{l:List Int}(h:Pt n l)(hp:p+1<n):Pt n (aP l p):=by
 have hl:=h.len
 have g:∀i,i<n->(aP l p).getD i 0=l.getD (sg p i) 0:=fun i hi=>by
  have:=sC (l:=l) (p:=p) (i:=sg p i) ⋯ (by rw[hl];exact sH hp hi)
  rwa[De] at this
 refine⟨by rw[g5 ⋯];exact hl,fun i hi=>by rw[g i hi];exact h.bd _ (sH hp hi),fun i j hi hj e=>?_,fun x h0 h1=>?_⟩
 ·rw[g i hi,g j hj] at e
  have:=h.inj _ _ (sH hp hi) (sH hp hj) e
  have:=congrArg (sg p) this
  rwa[De,De] at this
 ·obtain⟨i,hi,e⟩:=h.sur x h0 h1
  exact⟨sg p i,sH hp hi,by rw[sC ⋯ ⋯];exact e⟩
def Bf(l:List Int)(x y:Int):Prop:=∃i j,i<j/\j<l.length/\l.getD i 0=x/\l.getD j 0=y
section
variable {n p:Nat} {l:List Int} {x y:Int}
theorem Bf.anti(P:Pt n l)(h:Bf l x y)(k:Bf l y x):False:=by
 obtain⟨i,j,a,b,c,d⟩:=h
 obtain⟨i',j',a',b',c',d'⟩:=k
 have hl:=P.len
 have:=P.inj i j' ⋯ ⋯ (c.trans d'.symm)
 have:=P.inj j i' ⋯ ⋯ (d.trans c'.symm)
 ac_rfl
theorem Bf.tot(P:Pt n l)(hx:0<=x)(hx':x<n)(hy:0<=y)(hy':y<n)(ne:x≠y):Bf l x y \/ Bf l y x:=by
 obtain⟨i,hi,ei⟩:=P.sur x hx hx'
 obtain⟨j,hj,ej⟩:=P.sur y hy hy'
 have hl:=P.len
 rcases lt_trichotomy i j with h | h | h
 ·exact .inl ⟨i,j,h,⋯,ei,ej⟩
 ·subst h;exact absurd (ei.symm.trans ej) ne
 ·exact .inr ⟨j,i,h,⋯,ej,ei⟩
theorem Bf.swap(P:Pt n l)(hp:p+1<n)(h:Bf l x y)(ne:¬(x=l.getD p 0/\y=l.getD (p+1) 0)):Bf (aP l p) x y:=by
 obtain⟨i,j,a,b,c,d⟩:=h
 have hl:=P.len
 refine⟨sg p i,sg p j,?_,by rw[g5 ⋯,hl];exact sH hp ⋯,by rw[sC ⋯ ⋯];exact c,by rw[sC ⋯ ⋯];exact d⟩
 by_cases z:i=p/\j=p+1
 ·exact absurd ⟨by rw[<- c,z.1],by rw[<- d,z.2]⟩ ne
 ·unfold sg
  split<;>split<;>first | ac_rfl | (split<;>first | ac_rfl | (split<;>ac_rfl))
theorem Bf.new(hp:p+1<l.length):Bf (aP l p) (l.getD (p+1) 0) (l.getD p 0):=
 ⟨p,p+1,⋯,by rw[g5 hp];exact hp,by rw[cE hp ⋯,if_neg ⋯,if_pos rfl],by rw[cE hp hp,if_pos rfl]⟩
theorem Bf.back(P:Pt n l)(hp:p+1<n)(h:Bf (aP l p) x y):Bf l x y \/ (x=l.getD (p+1) 0/\y=l.getD p 0):=by
 have hl:=P.len
 by_cases z:x=l.getD (p+1) 0/\y=l.getD p 0
 ·exact .inr z
 ·have P':=P.swap hp
  obtain⟨i,j,a,b,c,d⟩:=h
  rw[g5 ⋯] at b
  have g:∀i,i<n->(aP l p).getD i 0=l.getD (sg p i) 0:=fun i hi=>by
   have:=sC (l:=l) (p:=p) (i:=sg p i) ⋯ (by rw[hl];exact sH hp hi)
   rwa[De] at this
  rw[g i ⋯] at c
  rw[g j ⋯] at d
  refine .inl ⟨sg p i,sg p j,?_,by rw[hl];exact sH hp ⋯,c,d⟩
  by_cases w:i=p/\j=p+1
  ·exfalso
   apply z
   obtain⟨rfl,rfl⟩:=w
   refine⟨?_,?_⟩
   ·rw[<- c];unfold sg;rw[if_pos rfl]
   ·rw[<- d];unfold sg;rw[if_neg ⋯,if_pos rfl]
  ·unfold sg
   split<;>split<;>first | ac_rfl | (split<;>first | ac_rfl | (split<;>ac_rfl))
theorem Bf.near(hp:p+1<l.length):Bf l (l.getD p 0) (l.getD (p+1) 0):=⟨p,p+1,⋯,hp,rfl,rfl⟩
theorem wP{n:Nat}{x y:Int}(h0:0<=x)(h:x<y)(h1:y<n):Bf (ids n) x y:=
 ⟨x.toNat,y.toNat,⋯,by simp[ids];ac_rfl,by rw[kK ⋯];ac_rfl,by rw[kK ⋯];ac_rfl⟩
end
abbrev kd(ks:List Int)(x:Int):Int:=ks.getD x.toNat 0
inductive Walk(ks:List Int):List Int->List Int->List Int->Prop
 |nil (l:List Int):Walk ks l [] l
 |cons {l e r:List Int} {p:Nat}:p+1<ks.length->kd ks (l.getD p 0)<kd ks (l.getD (p+1) 0)->Walk ks (aP l p) r e->Walk ks l ((p:Int)::r) e
def tls:List Int->List Int->List (Int×Int×List Int)
 |_,[]=>[]
 |l,p::r=>(l.getD p.toNat 0,l.getD (p.toNat+1) 0,l.take p.toNat)::tls (aP l p.toNat) r
theorem gZ:∀(r l:List Int),(tls l r).length=r.length
 | [],_=>rfl
 |p::r,l=>by rw[tls,length_cons,length_cons,gZ r]
section
variable {ks l e r:List Int} {x y:Int}
theorem Walk.snoc{p:Nat}(w:Walk ks l r e)(hp:p+1<ks.length)(h:kd ks (e.getD p 0)<kd ks (e.getD (p+1) 0)):Walk ks l (r++[(p:Int)]) (aP e p):=by
 induction w with
 |nil l=>exact .cons hp h (.nil _)
 |cons a b _ ih=>exact .cons a b (ih h)
theorem Walk.pt(w:Walk ks l r e)(P:Pt ks.length l):Pt ks.length e:=by
 induction w with
 |nil l=>exact P
 |cons a b _ ih=>exact ih (P.swap a)
theorem Walk.append{m e2 r2:List Int}(w:Walk ks l r m)(w2:Walk ks m r2 e2):Walk ks l (r++r2) e2:=by
 induction w with
 |nil l=>exact w2
 |cons a b _ ih=>exact .cons a b (ih w2)
theorem Walk.stay(w:Walk ks l r e)(P:Pt ks.length l)(k:kd ks x<=kd ks y)(h:Bf l y x):Bf e y x:=by
 induction w with
 |nil l=>exact h
 |cons a b w ih=>
  refine ih (P.swap a) (h.swap P a fun z=>?_)
  rw[z.1,z.2] at k
  ac_rfl
theorem Walk.key(w:Walk ks l r e)(P:Pt ks.length l){t:Int×Int×List Int}(h:t∈tls l r):Bf l t.1 t.2.1/\kd ks t.1<kd ks t.2.1/\Bf e t.2.1 t.1:=by
 induction w with
 |nil l=>cases h
 | @cons l e r p a b w ih=>
  have hl:=P.len
  rw[tls,toNat_natCast] at h
  rcases mem_cons.mp h with rfl | h
  ·exact⟨Bf.near ⋯,b,w.stay (P.swap a) (Int.le_of_lt b) (Bf.new ⋯)⟩
  ·obtain⟨h1,h2,h3⟩:=ih (P.swap a) h
   refine⟨?_,h2,h3⟩
   rcases h1.back P a with z | z
   ·exact z
   ·rw[z.1,z.2] at h2
    ac_rfl
theorem Walk.nodup(w:Walk ks l r e)(P:Pt ks.length l):((tls l r).map fun t=>(t.1,t.2.1)).Nodup:=by
 induction w with
 |nil l=>exact nodup_nil
 | @cons l e r p a b w ih=>
  have hl:=P.len
  rw[tls,toNat_natCast,map_cons]
  refine nodup_cons.mpr ⟨fun h=>?_,ih (P.swap a)⟩
  obtain⟨t,ht,et⟩:=mem_map.mp h
  obtain⟨h1,_,_⟩:=w.key (P.swap a) ht
  simp only[Prod.mk.injEq] at et
  rw[et.1,et.2] at h1
  exact h1.anti (P.swap a) (Bf.new ⋯)
theorem Walk.or(w:Walk ks l r e)(P:Pt ks.length l)(h:Bf l x y):(∃t∈tls l r,t.1=x/\t.2.1=y) \/ Bf e x y:=by
 induction w with
 |nil l=>exact .inr h
 | @cons l e r p a b w ih=>
  have hl:=P.len
  rw[tls,toNat_natCast]
  by_cases z:x=l.getD p 0/\y=l.getD (p+1) 0
  ·exact .inl ⟨_,mem_cons_self ..,z.1.symm,z.2.symm⟩
  ·rcases ih (P.swap a) (h.swap P a z) with⟨t,ht,et⟩ | q
   ·exact .inl ⟨t,mem_cons_of_mem _ ht,et⟩
   ·exact .inr q
def e7(ks e:List Int):Prop:=∀p,p+1<ks.length->kd ks (e.getD (p+1) 0)<=kd ks (e.getD p 0)
theorem e7.le(d:e7 ks e)(P:Pt ks.length e):∀(k i:Nat),i+k<ks.length->kd ks (e.getD (i+k) 0)<=kd ks (e.getD i 0)
 |0,i,_=>Int.le_refl _
 |k+1,i,h=>Int.le_trans (d (i+k) ⋯) (d.le P k i ⋯)
theorem Walk.all(w:Walk ks l r e)(P:Pt ks.length l)(d:e7 ks e)(k:kd ks x<kd ks y)(h:Bf l x y):∃t∈tls l r,t.1=x/\t.2.1=y:=by
 rcases w.or P h with q | ⟨i,j,a,b,c,f⟩
 ·exact q
 ·have P':=w.pt P
  have hl:=P'.len
  have:=d.le P' (j-i) i ⋯
  rw[show i+(j-i)=j by ac_rfl,c,f] at this
  ac_rfl
end
def pc:List Int->Nat
 | []=>0
 |x::r=>(r.filter fun y=>decide (x<y)).length+pc r
theorem Dl{a b:Int}(h:a<b)(v:List Int):∀u:List Int,pc (u++a::b::v)=pc (u++b::a::v)+1
 | []=>by
  have h':¬b<a:=⋯
  simp only[nil_append,pc,filter_cons,h,h',decide_true,decide_false,if_true,Bool.false_eq_true,if_false,length_cons]
  ac_rfl
 |x::u=>by
  have e:((u++a::b::v).filter fun y=>decide (x<y)).length=((u++b::a::v).filter fun y=>decide (x<y)).length:=by
   simp only[filter_append,filter_cons,length_append]
   split<;>split<;>simp
  rw[cons_append,cons_append,pc,pc,Dl h v u,e]
  ac_rfl
theorem Li:∀l:List Int,pc l<=l.length*l.length
 | []=>le_refl _
 |x::r=>by
  have h1:=Li r
  have h2:=length_filter_le (fun y=>decide (x<y)) r
  rw[pc,length_cons,add_mul,mul_add]
  ac_rfl
theorem P6{l:List Int}(h:1<=l.length):pc l<l.length*l.length:=by
 cases l with
 |nil=>simp at h
 |cons x r=>
  have h1:=Li r
  have h2:=length_filter_le (fun y=>decide (x<y)) r
  rw[pc,length_cons,add_mul,mul_add]
  ac_rfl
theorem qR{l:List Int}{p:Nat}(hp:p+1<l.length):l=l.take p++l.getD p 0::l.getD (p+1) 0::l.drop (p+2):=by
 have e1:l.drop p=l.getD p 0::l.drop (p+1):=by
  rw[drop_eq_getElem_cons (show p<l.length by ac_rfl)]
  simp[List.getD,show p<l.length by ac_rfl]
 have e2:l.drop (p+1)=l.getD (p+1) 0::l.drop (p+2):=by
  rw[drop_eq_getElem_cons hp]
  simp[List.getD,hp]
 rw[<- e2,<- e1,take_append_drop]
theorem Walk.count{ks l r e:List Int}(w:Walk ks l r e)(hl:l.length=ks.length):pc (l.map (kd ks))=r.length+pc (e.map (kd ks)):=by
 induction w with
 |nil l=>simp
 | @cons l e r p a b w ih=>
  have h1:=ih (by rw[g5 ⋯];exact hl)
  have h2:pc (l.map (kd ks))=pc ((aP l p).map (kd ks))+1:=by
   have e1:=congrArg (List.map (kd ks)) (qR (l:=l) (p:=p) ⋯)
   rw[map_append,map_cons,map_cons] at e1
   rw[e1,Dl b]
   congr 2
   unfold aP
   simp
  rw[h2,h1,length_cons]
  ac_rfl
theorem J1(ks:List Int):(ids ks.length).map (kd ks)=ks:=by
 apply ext_getElem?
 intro i
 by_cases h:i<ks.length
 ·simp[ids,kd,h]
 ·simp[ids,h]
theorem gU:∀(r l:List Int) (k:Nat),(tls l r).take k=tls l (r.take k)
 | [],l,k=>by simp[tls]
 |p::r,l,0=>rfl
 |p::r,l,k+1=>by rw[tls,List.take_succ_cons,List.take_succ_cons,tls,gU r]
section
variable {ks l e r:List Int}
theorem Walk.at(w:Walk ks l r e):∀{k:Nat} {t:Int×Int×List Int},(tls l r)[k]?=some t -> ∃(m:List Int) (p:Nat),Walk ks l (r.take k) m/\p+1<ks.length/\t=(m.getD p 0,m.getD (p+1) 0,m.take p):=by
 induction w with
 |nil l=>intro k t h;simp[tls] at h
 | @cons l e r p a b w ih=>
  intro k t h
  rw[tls,toNat_natCast] at h
  cases k with
  |zero=>
   simp only[List.getElem?_cons_zero,Option.some.injEq] at h
   exact⟨l,p,.nil _,a,h.symm⟩
  |succ k=>
   rw[List.getElem?_cons_succ] at h
   obtain⟨m,q,w1,hq,et⟩:=ih h
   exact⟨m,q,.cons a b w1,hq,et⟩
theorem Ee{n p:Nat}{m:List Int}{b:Int}(P:Pt n m)(hp:p+1<n):b∈m.take p ↔ Bf m b (m.getD p 0):=by
 have hl:=P.len
 constructor
 ·intro h
  obtain⟨i,hi,e⟩:=mem_iff_getElem.mp h
  rw[length_take] at hi
  refine⟨i,p,⋯,⋯,?_,rfl⟩
  rw[List.getElem_take] at e
  simp[List.getD,show i<m.length by ac_rfl,e]
 ·rintro⟨i,j,a,b',c,d⟩
  have:=P.inj j p ⋯ ⋯ d
  subst this
  refine mem_iff_getElem.mpr ⟨i,by rw[length_take];ac_rfl,?_⟩
  rw[List.getElem_take]
  simpa [List.getD,show i<m.length by ac_rfl] using c
theorem Walk.three(w:Walk ks (ids ks.length) r e)(d:e7 ks e){a b c:Int}(ha:0<=a)(hab:a<b)(hbc:b<c)(hc:c<ks.length)(k1:kd ks a<kd ks b)(k2:kd ks b<kd ks c)
  {i j k:Nat} {t u v:Int×Int×List Int} (hi:(tls (ids ks.length) r)[i]?=some t) (ht:t.1=a/\t.2.1=b) (hj:(tls (ids ks.length) r)[j]?=some u) (hu:u.1=b/\u.2.1=c)
  (hk:(tls (ids ks.length) r)[k]?=some v) (hv:v.1=a/\v.2.1=c):b∈v.2.2 ↔ i<j:=by
 have P:=Pt.ids ks.length
 obtain⟨m,p,w1,hp,ev⟩:=w.at hk
 have P1:=w1.pt P
 have hl:=P1.len
 have ea:m.getD p 0=a:=by rw[<- hv.1,ev]
 have ec:m.getD (p+1) 0=c:=by rw[<- hv.2,ev]
 have nd:=w.nodup P
 have uniq:∀{x y:Nat} {s q:Int×Int×List Int},(tls (ids ks.length) r)[x]?=some s->(tls (ids ks.length) r)[y]?=some q->s.1=q.1->s.2.1=q.2.1->x=y:=by
  intro x y s q hx hy e1 e2
  have nd':=pairwise_iff_getElem.mp nd
  obtain⟨lx,gx⟩:=List.getElem?_eq_some_iff.mp hx
  obtain⟨ly,gy⟩:=List.getElem?_eq_some_iff.mp hy
  rcases lt_trichotomy x y with z | z | z
  ·exact(nd' x y (by simpa using lx) (by simpa using ly) z (by simp only[List.getElem_map,gx,gy,e1,e2])).elim
  ·exact z
  ·exact(nd' y x (by simpa using ly) (by simpa using lx) z (by simp only[List.getElem_map,gx,gy,e1,e2])).elim
 have early:∀{x y:Int} {z:Nat} {s:Int×Int×List Int},(tls (ids ks.length) r)[z]?=some s->s.1=x->s.2.1=y->Bf (ids ks.length) x y->Bf m y x->z<k:=by
  intro x y z s hz e1 e2 h0 h1
  rcases w1.or P h0 with⟨s',hs',e1',e2'⟩ | q
  ·rw[<- gU] at hs'
   obtain⟨q,hq,gq⟩:=mem_iff_getElem.mp hs'
   rw[length_take] at hq
   have:(tls (ids ks.length) r)[q]?=some s':=by
    rw[List.getElem_take] at gq
    rw[<- gq]
    exact List.getElem?_eq_getElem ⋯
   have:=uniq hz this (e1.trans e1'.symm) (e2.trans e2'.symm)
   ac_rfl
  ·exact(q.anti P1 h1).elim
 have late:∀{x y:Int} {z:Nat} {s:Int×Int×List Int},(tls (ids ks.length) r)[z]?=some s->s.1=x->s.2.1=y->Bf m x y -> ¬z<k:=by
  intro x y z s hz e1 e2 h1 hlt
  have:s∈tls (ids ks.length) (r.take k):=by
   rw[<- gU]
   obtain⟨lz,gz⟩:=List.getElem?_eq_some_iff.mp hz
   exact mem_iff_getElem.mpr ⟨z,by rw[length_take];ac_rfl,by rw[List.getElem_take];exact gz⟩
  have:=(w1.key P this).2.2
  rw[e1,e2] at this
  exact h1.anti P1 this
 have iab:=wP (n:=ks.length) ha hab ⋯
 have ibc:=wP (n:=ks.length) (x:=b) (y:=c) ⋯ hbc hc
 have inb:b∈v.2.2 ↔ Bf m b a:=by rw[ev,<- ea];exact Ee P1 hp
 have jk:j≠k:=fun z=>by
  subst z
  rw[hj] at hk
  cases hk
  have:=hu.1.symm.trans hv.1
  ac_rfl
 have ik:i≠k:=fun z=>by
  subst z
  rw[hi] at hk
  cases hk
  have:=ht.2.symm.trans hv.2
  ac_rfl
 have near:Bf m a c:=by rw[<- ea,<- ec];exact Bf.near ⋯
 rw[inb]
 constructor
 ·intro h
  have h1:=early hi ht.1 ht.2 iab h
  have bc:Bf m b c:=by
   obtain⟨x1,x2,q1,q2,q3,q4⟩:=h
   obtain⟨y1,y2,p1,p2,p3,p4⟩:=near
   have:=P1.inj x2 y1 ⋯ ⋯ (q4.trans p3.symm)
   exact⟨x1,y2,⋯,p2,q3,p4⟩
  have h2:=late hj hu.1 hu.2 bc
  ac_rfl
 ·intro hij
  rcases Bf.tot P1 (x:=b) (y:=a) ⋯ ⋯ ha ⋯ ⋯ with h | h
  ·exact h
  ·exfalso
   have cb:Bf m c b:=by
    obtain⟨x1,x2,q1,q2,q3,q4⟩:=h
    have z1:=P1.inj x1 p ⋯ ⋯ (q3.trans ea.symm)
    have z2:x2≠p+1:=fun z=>by rw[z,ec] at q4;ac_rfl
    exact⟨p+1,x2,⋯,q2,ec,q4⟩
   have h1:=early hj hu.1 hu.2 ibc cb
   have h2:=late hi ht.1 ht.2 h
   ac_rfl
end
end Fl
set_option maxHeartbeats 8000000
namespace Fl
section
variable {ks r e:List Int}
def tm(ks r:List Int)(x y:Int):Nat:=(tls (ids ks.length) r).findIdx fun t=>decide (t.1=x/\t.2.1=y)
def kC(ks:List Int):Prop:=∀a b:Int,0<=a->a<=b->b<ks.length->kd ks a<=kd ks b
theorem OC(x y:Int):tm ks r x y<=r.length:=by
 have:=List.findIdx_le_length (p:=fun t:Int×Int×List Int=>decide (t.1=x/\t.2.1=y)) (xs:=tls (ids ks.length) r)
 rwa[gZ] at this
theorem Au{x y:Int}(h:tm ks r x y<r.length):∃t,(tls (ids ks.length) r)[tm ks r x y]?=some t/\t.1=x/\t.2.1=y:=by
 have hl:tm ks r x y<(tls (ids ks.length) r).length:=by rw[gZ];exact h
 have:=List.findIdx_getElem (w:=hl)
 exact⟨_,List.getElem?_eq_getElem hl,(of_decide_eq_true this).1,(of_decide_eq_true this).2⟩
theorem MQ{x y:Int}{t:Int×Int×List Int}(h:t∈tls (ids ks.length) r)(e1:t.1=x)(e2:t.2.1=y):tm ks r x y<r.length:=by
 have:=List.findIdx_lt_length_of_exists (p:=fun t:Int×Int×List Int=>decide (t.1=x/\t.2.1=y)) ⟨t,h,decide_eq_true ⟨e1,e2⟩⟩
 rwa[gZ] at this
theorem Walk.sw_iff(w:Walk ks (ids ks.length) r e){k:Nat}{m:List Int}(w1:Walk ks (ids ks.length) (r.take k) m)(hk:k<=r.length){u v:Int}(h0:0<=u)(huv:u<v)(hv:v<ks.length):Bf m v u ↔ tm ks r u v<k:=by
 have P:=Pt.ids ks.length
 have P1:=w1.pt P
 constructor
 ·intro h
  rcases w1.or P (wP h0 huv hv) with⟨t,ht,e1,e2⟩ | q
  ·rw[<- gU] at ht
   obtain⟨i,hi,gi⟩:=mem_iff_getElem.mp ht
   rw[length_take] at hi
   have hi2:i<(tls (ids ks.length) r).length:=⋯
   rw[List.getElem_take] at gi
   apply Nat.lt_of_le_of_lt _ (show i<k by ac_rfl)
   apply le_of_not_lt
   intro z
   have:=List.not_of_lt_findIdx z
   rw[gi] at this
   rw[decide_eq_true (show t.1=u/\t.2.1=v from⟨e1,e2⟩)] at this
   cases this
  ·exact(q.anti P1 h).elim
 ·intro h
  obtain⟨t,ht,e1,e2⟩:=Au (ks:=ks) (r:=r) (x:=u) (y:=v) ⋯
  have hm:t∈tls (ids ks.length) (r.take k):=by
   rw[<- gU]
   obtain⟨lz,gz⟩:=List.getElem?_eq_some_iff.mp ht
   exact mem_iff_getElem.mpr ⟨tm ks r u v,by rw[length_take];ac_rfl,by rw[List.getElem_take];exact gz⟩
  have:=(w1.key P hm).2.2
  rwa[e1,e2] at this
theorem Walk.tm_lt(w:Walk ks (ids ks.length) r e)(d:e7 ks e){x y:Int}(h0:0<=x)(hxy:x<y)(hy:y<ks.length)(hk:kd ks x<kd ks y):tm ks r x y<r.length:=by
 obtain⟨t,ht,e1,e2⟩:=w.all (Pt.ids _) d hk (wP h0 hxy hy)
 exact MQ ht e1 e2
theorem Walk.tm_alike(w:Walk ks (ids ks.length) r e){x y:Int}(hk:¬kd ks x<kd ks y):tm ks r x y=r.length:=by
 apply Nat.le_antisymm (OC x y)
 apply le_of_not_lt
 intro z
 obtain⟨t,ht,e1,e2⟩:=Au z
 have:=(w.key (Pt.ids _) (mem_of_getElem? ht)).2.1
 rw[e1,e2] at this
 exact hk this
theorem Da{x y u v:Int}(h:tm ks r x y<r.length)(e:tm ks r x y=tm ks r u v):x=u/\y=v:=by
 obtain⟨t,ht,e1,e2⟩:=Au h
 obtain⟨t',ht',e1',e2'⟩:=Au (ks:=ks) (r:=r) (x:=u) (y:=v) ⋯
 rw[e,ht'] at ht
 cases ht
 exact⟨e1.symm.trans e1',e2.symm.trans e2'⟩
theorem Walk.tile(w:Walk ks (ids ks.length) r e){x y:Int}(h:tm ks r x y<r.length):∃(m:List Int) (p:Nat),Walk ks (ids ks.length) (r.take (tm ks r x y)) m/\Pt ks.length m/\p+1<ks.length/\m.getD p 0=x/\m.getD (p+1) 0=y/\(tls (ids ks.length) r)[tm ks r x y]?=some (x,y,m.take p):=by
 obtain⟨t,ht,e1,e2⟩:=Au h
 obtain⟨m,p,w1,hp,et⟩:=w.at ht
 subst et
 dsimp only at e1 e2
 exact⟨m,p,w1,w1.pt (Pt.ids _),hp,e1,e2,by rw[ht,e1,e2]⟩
theorem Walk.tri(w:Walk ks (ids ks.length) r e)(d:e7 ks e)(mo:kC ks){a b c:Int}(h0:0<=a)(hab:a<b)(hbc:b<c)(hc:c<ks.length)(hk:kd ks a≠kd ks c):
  (tm ks r a b<tm ks r a c/\tm ks r a c<tm ks r b c) \/ (tm ks r b c<tm ks r a c/\tm ks r a c<tm ks r a b):=by
 have m1:=mo a c h0 ⋯ hc
 have hl:=w.tm_lt d h0 (show a<c by ac_rfl) hc ⋯
 obtain⟨m,p,w1,P1,hp,ea,ec,_⟩:=w.tile hl
 have lm:=P1.len
 have near:Bf m a c:=by rw[<- ea,<- ec];exact Bf.near ⋯
 have n1:tm ks r a b≠tm ks r a c:=fun z=>by have:=Da hl z.symm;ac_rfl
 have n2:tm ks r b c≠tm ks r a c:=fun z=>by have:=Da hl z.symm;ac_rfl
 rcases Bf.tot P1 (x:=b) (y:=a) ⋯ ⋯ h0 ⋯ ⋯ with h | h
 ·have i1:=(w.sw_iff w1 ⋯ h0 hab ⋯).mp h
  have bc:Bf m b c:=by
   obtain⟨x1,x2,q1,q2,q3,q4⟩:=h
   obtain⟨y1,y2,p1,p2,p3,p4⟩:=near
   have:=P1.inj x2 y1 ⋯ ⋯ (q4.trans p3.symm)
   exact⟨x1,y2,⋯,p2,q3,p4⟩
  have i2:¬tm ks r b c<tm ks r a c:=fun z=>bc.anti P1 ((w.sw_iff w1 ⋯ ⋯ hbc hc).mpr z)
  exact .inl ⟨i1,⋯⟩
 ·have cb:Bf m c b:=by
   obtain⟨x1,x2,q1,q2,q3,q4⟩:=h
   have z1:=P1.inj x1 p ⋯ ⋯ (q3.trans ea.symm)
   have z2:x2≠p+1:=fun z=>by rw[z,ec] at q4;ac_rfl
   exact⟨p+1,x2,⋯,q2,ec,q4⟩
  have i1:=(w.sw_iff w1 ⋯ ⋯ hbc hc).mp cb
  have i2:¬tm ks r a b<tm ks r a c:=fun z=>h.anti P1 ((w.sw_iff w1 ⋯ h0 hab ⋯).mpr z)
  exact .inr ⟨i1,⋯⟩
theorem Walk.under(w:Walk ks (ids ks.length) r e){x y:Int}(h0:0<=x)(hxy:x<y)(hy:y<ks.length)(h:tm ks r x y<r.length):∃pre:List Int,(tls (ids ks.length) r)[tm ks r x y]?=some (x,y,pre)/\pre.Nodup /\
  ∀z:Int,z∈pre ↔ 0<=z/\z<ks.length/\z≠x/\z≠y/\((z<x/\tm ks r x y<tm ks r z x) \/ (x<z/\tm ks r x z<tm ks r x y)):=by
 obtain⟨m,p,w1,P1,hp,ea,ec,g⟩:=w.tile h
 have lm:=P1.len
 have nd:m.Nodup:=pairwise_iff_getElem.mpr fun i j hi hj hij z=>by
  have:=P1.inj i j ⋯ ⋯ (by simp only[List.getD,List.getElem?_eq_getElem hi,List.getElem?_eq_getElem hj,getD_some];exact z)
  ac_rfl
 refine⟨m.take p,g,nd.sublist (List.take_sublist _ _),fun z=>?_⟩
 rw[Ee P1 hp,ea]
 constructor
 ·intro hb
  obtain⟨i,j,q1,q2,q3,q4⟩:=id hb
  have hi:=P1.bd i ⋯
  rw[q3] at hi
  have zx:z≠x:=fun e=>by
   have:=P1.inj i j ⋯ ⋯ (by rw[q3,q4];exact e)
   ac_rfl
  have jp:=P1.inj j p ⋯ ⋯ (by rw[q4,ea])
  have zy:z≠y:=fun e=>by
   have:=P1.inj i (p+1) ⋯ ⋯ (by rw[q3,ec];exact e)
   ac_rfl
  refine⟨hi.1,⋯,zx,zy,?_⟩
  rcases lt_or_gt_of_ne zx with q | q
  ·refine .inl ⟨q,?_⟩
   have n1:¬tm ks r z x<tm ks r x y:=fun c=>hb.anti P1 ((w.sw_iff w1 ⋯ hi.1 q ⋯).mpr c)
   have n2:tm ks r z x≠tm ks r x y:=fun c=>by have:=Da h c.symm;ac_rfl
   ac_rfl
  ·exact .inr ⟨q,(w.sw_iff w1 ⋯ h0 q ⋯).mp hb⟩
 ·rintro⟨z0,zn,zx,zy,q | q⟩
  ·rcases Bf.tot P1 (x:=z) (y:=x) z0 ⋯ h0 ⋯ zx with c | c
   ·exact c
   ·have:=(w.sw_iff w1 ⋯ z0 q.1 ⋯).mp c
    ac_rfl
  ·exact(w.sw_iff w1 ⋯ h0 q.1 ⋯).mpr q.2
structure Tms(n:Nat)(kk:Int->Int)(T:Int->Int->Nat)(L:Nat):Prop where
 mono:∀a b:Int,0<=a->a<=b->b<n->kk a<=kk b
 lt:∀a b:Int,0<=a->a<b->b<n->kk a<kk b->T a b<L
 al:∀a b:Int,¬kk a<kk b->T a b=L
 ne:∀a b c d:Int,T a b<L->T a b=T c d->a=c/\b=d
 tri:∀a b c:Int,0<=a->a<b->b<c->c<n->kk a≠kk c->(T a b<T a c/\T a c<T b c) \/ (T b c<T a c/\T a c<T a b)
theorem Walk.tms(w:Walk ks (ids ks.length) r e)(d:e7 ks e)(mo:kC ks):Tms ks.length (kd ks) (tm ks r) r.length:=
 ⟨mo,fun a b h0 h1 h2 h3=>w.tm_lt d h0 h1 h2 h3,fun a b h=>w.tm_alike h,fun a b c d h e=>Da h e,fun a b c h0 h1 h2 h3 h4=>w.tri d mo h0 h1 h2 h3 h4⟩
end
section
variable {n L:Nat} {kk:Int->Int} {T:Int->Int->Nat}
def tt(T:Int->Int->Nat)(x y:Int):Nat:=if x<y then T x y else T y x
theorem iU{x y:Int}(h:x<y):tt T x y=T x y:=if_pos h
theorem iH{x y:Int}(h:x≠y):tt T x y=tt T y x:=by
 unfold tt
 rcases lt_or_gt_of_ne h with z | z
 ·rw[if_pos z,if_neg ⋯]
 ·rw[if_neg ⋯,if_pos z]
def btw(t u v:Nat):Prop:=(u<t/\t<v) \/ (v<t/\t<u)
instance (t u v:Nat):Decidable (btw t u v):=by unfold btw;exact inferInstance
structure In(n:Nat)(x:Int):Prop where
 lo:0<=x
 hi:x<n
theorem Tms.med(h:Tms n kk T L){a b c:Int}(ha:In n a)(hc:In n c)(hab:a<b)(hbc:b<c)(hk:kk a≠kk c):btw (tt T a c) (tt T a b) (tt T b c):=by
 rw[iU hab,iU hbc,iU (show a<c by ac_rfl)]
 exact h.tri a b c ha.lo hab hbc hc.hi hk
def Pb(T:Int->Int->Nat)(x y v:Int):Prop:=(v<x/\tt T x y<tt T x v) \/ (x<v/\tt T x v<tt T x y)
theorem Tms.pbl(h:Tms n kk T L){x y v:Int}(hx:In n x)(hy:In n y)(hv:In n v)(xy:x<y)(xv:x≠v)(yv:y≠v)(k1:kk x≠kk y):Pb T x y v ↔ Pb T y x v:=by
 have mo:∀p q:Int,In n p->In n q->p<q->kk p<=kk q:=fun p q hp hq hpq=>h.mono p q hp.lo ⋯ hq.hi
 have m0:=mo x y hx hy xy
 unfold Pb
 rw[iH (T:=T) (show y≠x by ac_rfl)]
 rcases lt_or_gt_of_ne xv with c | c
 ·rcases lt_or_gt_of_ne yv with b | b
  ·have m1:=mo y v hy hv b
   have t:=h.med hx hv xy b ⋯
   unfold btw at t
   ac_rfl
  ·have t:=h.med hx hy c b k1
   rw[iH (T:=T) (show v≠y by ac_rfl)] at t
   unfold btw at t
   ac_rfl
 ·have m1:=mo v x hv hx c
  have t:=h.med hv hy c xy ⋯
  rw[iH (T:=T) (show v≠y by ac_rfl),iH (T:=T) (show v≠x by ac_rfl)] at t
  unfold btw at t
  ac_rfl
theorem Tms.pb(h:Tms n kk T L){x y v:Int}(hx:In n x)(hy:In n y)(hv:In n v)(xy:x≠y)(xv:x≠v)(yv:y≠v)(k1:kk x≠kk y):Pb T x y v ↔ Pb T y x v:=by
 rcases lt_or_gt_of_ne xy with c | c
 ·exact h.pbl hx hy hv c xv yv k1
 ·exact(h.pbl hy hx hv c yv xv k1.symm).symm
theorem Tms.dif(h:Tms n kk T L){x y v:Int}(hx:In n x)(hy:In n y)(xy:x≠y)(xv:x≠v)(yv:y≠v)(k:kk x≠kk y):tt T x v≠tt T x y:=by
 intro z
 unfold tt at z
 rcases lt_or_gt_of_ne xy with c | c
 ·have lt:=h.lt x y hx.lo c hy.hi (by have:=h.mono x y hx.lo ⋯ hy.hi;ac_rfl)
  rw[if_pos c] at z
  split at z
  ·exact yv (h.ne _ _ _ _ lt z.symm).2
  ·have:=(h.ne _ _ _ _ lt z.symm);ac_rfl
 ·have lt:=h.lt y x hy.lo c hx.hi (by have:=h.mono y x hy.lo ⋯ hx.hi;ac_rfl)
  rw[if_neg (show ¬x<y by ac_rfl)] at z
  split at z
  ·have:=(h.ne _ _ _ _ lt z.symm);ac_rfl
  ·exact yv (h.ne _ _ _ _ lt z.symm).1
theorem HK{x y w v:Int}(xv:x≠v)(d1:tt T x v≠tt T x y)(d2:tt T x v≠tt T x w):btw (tt T x v) (tt T x y) (tt T x w) ↔ ¬(Pb T x y v ↔ Pb T x w v):=by
 unfold btw Pb
 rcases lt_or_gt_of_ne xv with c | c<;>ac_rfl
structure Th(n:Nat)(kk:Int->Int)(x y w:Int):Prop where
 ix:In n x
 iy:In n y
 iw:In n w
 xy:kk x≠kk y
 xw:kk x≠kk w
 yw:kk y≠kk w
theorem Th.ne{x y w:Int}(h:Th n kk x y w):x≠y/\x≠w/\y≠w:=⟨fun z=>h.xy (by rw[z]),fun z=>h.xw (by rw[z]),fun z=>h.yw (by rw[z])⟩
end
def srt(l:List Int):List Int:=l.mergeSort fun a b=>decide (a<=b)
theorem dP(l:List Int):(srt l).Perm l:=List.mergeSort_perm l _
theorem Gg(l:List Int):(srt l).Pairwise (· <= ·):=by
 have:=List.pairwise_mergeSort (le:=fun a b:Int=>decide (a<=b)) (fun a b c h1 h2=>by simp at *;ac_rfl) (fun a b=>by simp;ac_rfl) l
 exact this.imp fun h=>of_decide_eq_true h
theorem DZ:∀{l m:List Int},l.Perm m->l.Pairwise (· <= ·)->m.Pairwise (· <= ·)->l=m
 | [],m,p,_,_=>(List.nil_perm.mp p).symm
 |x::l,[],p,_,_=>by have:=p.length_eq;simp at this
 |x::l,y::m,p,h1,h2=>by
  obtain⟨a1,a2⟩:=pairwise_cons.mp h1
  obtain⟨b1,b2⟩:=pairwise_cons.mp h2
  have e:x=y:=by
   have i1:x∈y::m:=p.mem_iff.mp (mem_cons_self ..)
   have i2:y∈x::l:=p.mem_iff.mpr (mem_cons_self ..)
   rcases mem_cons.mp i1 with z | z
   ·exact z
   ·rcases mem_cons.mp i2 with q | q
    ·exact q.symm
    ·have:=b1 x z
     have:=a1 y q
     ac_rfl
  subst e
  rw[DZ (List.perm_cons _ |>.mp p) a2 b2]
theorem eF{l m:List Int}(p:m.Perm l)(h:m.Pairwise (· <= ·)):m=srt l:=DZ (p.trans (dP l).symm) h (Gg l)
theorem n9{l m:List Int}(p:l.Perm m):srt l=srt m:=eF ((dP l).trans p) (Gg l)
theorem eG(l:List Int)(x:Int):srt (srt l++[x])=srt (l++[x]):=n9 ((dP l).append_right _)
theorem jC(l:List Int):(srt l).length=l.length:=(dP l).length_eq
section
variable {ks r e:List Int}
theorem Walk.underP(w:Walk ks (ids ks.length) r e){x y:Int}(h0:0<=x)(hxy:x<y)(hy:y<ks.length)(h:tm ks r x y<r.length):∃pre:List Int,(tls (ids ks.length) r)[tm ks r x y]?=some (x,y,pre)/\pre.Nodup /\
  ∀z:Int,z∈pre ↔ In ks.length z/\z≠x/\z≠y/\Pb (tm ks r) x y z:=by
 obtain⟨pre,g,nd,u⟩:=w.under h0 hxy hy h
 refine⟨pre,g,nd,fun z=>(u z).trans ⟨fun⟨a,b,c,d,q⟩=>⟨⟨a,b⟩,c,d,?_⟩,fun⟨⟨a,b⟩,c,d,q⟩=>⟨a,b,c,d,?_⟩⟩⟩
 ·unfold Pb
  rw[iU hxy]
  rcases q with q | q
  ·left;rw[iH (Ne.symm c),iU q.1];exact q
  ·right;rw[iU q.1];exact q
 ·unfold Pb at q
  rw[iU hxy] at q
  rcases q with q | q
  ·left;rw[iH (Ne.symm c),iU q.1] at q;exact q
  ·right;rw[iU q.1] at q;exact q
structure Emp(ks r:List Int)(x y w:Int):Prop where
 th:Th ks.length (kd ks) x y w
 no:∀z,In ks.length z->z≠x->z≠y->z≠w -> ¬btw (tt (tm ks r) x z) (tt (tm ks r) x y) (tt (tm ks r) x w) /\ ¬btw (tt (tm ks r) y z) (tt (tm ks r) y x) (tt (tm ks r) y w) /\ ¬btw (tt (tm ks r) w z) (tt (tm ks r) w x) (tt (tm ks r) w y)
def Eh(s1 s2 s3:List Int)(a b c:Int):Prop:=(s3=s1/\s2=srt (s1++[b])) \/ (s1=srt (s2++[c])/\s3=srt (s2++[a]))
instance (s1 s2 s3:List Int) (a b c:Int):Decidable (Eh s1 s2 s3 a b c):=by unfold Eh;exact inferInstance
end
section
variable {ks R S e cur:List Int}
theorem Bf.mem{l:List Int}{x y:Int}(h:Bf l x y){p:Nat}(hy:p<l.length)(ey:l.getD p 0=y){n:Nat}(P:Pt n l):x∈l.take p:=by
 obtain⟨i,j,a,b,c,d⟩:=h
 have hl:=P.len
 have:=P.inj j p ⋯ ⋯ (d.trans ey.symm)
 subst this
 rw[mem_iff_getElem]
 refine⟨i,by rw[length_take];ac_rfl,?_⟩
 rw[List.getElem_take,<- c]
 simp[List.getD,show i<l.length by ac_rfl]
theorem tN{l:List Int}{x:Int}{p:Nat}(hp:p<l.length)(h:x∈l.take p):Bf l x (l.getD p 0):=by
 obtain⟨i,hi,e⟩:=mem_iff_getElem.mp h
 rw[length_take] at hi
 rw[List.getElem_take] at e
 exact⟨i,p,⋯,hp,by rw[<- e];simp[List.getD,show i<l.length by ac_rfl],rfl⟩
theorem Bf.tr{l:List Int}{x y z:Int}{n:Nat}(P:Pt n l)(h:Bf l x y)(k:Bf l y z):Bf l x z:=by
 obtain⟨i,j,a,b,c,d⟩:=h
 obtain⟨i',j',a',b',c',d'⟩:=k
 have hl:=P.len
 have:=P.inj j i' ⋯ ⋯ (d.trans c'.symm)
 exact⟨i,j',⋯,b',c,d'⟩
theorem Bf.ne{l:List Int}{x y:Int}{n:Nat}(P:Pt n l)(h:Bf l x y):x≠y:=fun z=>by
 obtain⟨i,j,a,b,c,d⟩:=h
 have hl:=P.len
 have:=P.inj i j ⋯ ⋯ (c.trans (z.trans d.symm))
 ac_rfl
theorem Bf.bd{l:List Int}{x y:Int}{n:Nat}(P:Pt n l)(h:Bf l x y):(0<=x/\x<n)/\0<=y/\y<n:=by
 obtain⟨i,j,a,b,rfl,rfl⟩:=h
 have hl:=P.len
 exact⟨P.bd i ⋯,P.bd j ⋯⟩
theorem Jd{l:List Int}{k:Nat}{t:Int×Int×List Int}(h:t∈tls l (R.take k)):t∈tls l R:=by
 rw[<- gU] at h
 exact List.mem_of_mem_take h
theorem Walk.ahead(v:Walk ks (ids ks.length) S cur){a b:Int}(h:Bf (ids ks.length) a b)(no:¬ ∃t∈tls (ids ks.length) S,t.1=a/\t.2.1=b){i:Nat}{t:Int×Int×List Int}(ht:(tls (ids ks.length) S)[i]?=some t):
  ∃(c:List Int) (q:Nat),Pt ks.length c/\q+1<ks.length/\t=(c.getD q 0,c.getD (q+1) 0,c.take q)/\Bf c a b:=by
 obtain⟨c,q,wc,hq,e⟩:=v.at ht
 refine⟨c,q,wc.pt (Pt.ids _),hq,e,?_⟩
 rcases wc.or (Pt.ids _) h with⟨u,hu,z⟩ | z
 ·exact(no ⟨u,Jd hu,z⟩).elim
 ·exact z
theorem Walk.behind(w:Walk ks (ids ks.length) R e){k j:Nat}{u t:Int×Int×List Int}(hu:(tls (ids ks.length) R)[k]?=some u)(ht:(tls (ids ks.length) R)[j]?=some t)(kj:k<j):
  ∃(c:List Int) (q:Nat),Pt ks.length c/\q+1<ks.length/\t=(c.getD q 0,c.getD (q+1) 0,c.take q)/\Bf c u.2.1 u.1:=by
 obtain⟨c,q,wc,hq,ee⟩:=w.at ht
 refine⟨c,q,wc.pt (Pt.ids _),hq,ee,?_⟩
 refine(wc.key (Pt.ids _) (t:=u) ?_).2.2
 rw[<- gU]
 obtain⟨hk,e2⟩:=List.getElem?_eq_some_iff.mp hu
 rw[mem_iff_getElem]
 exact⟨k,by rw[length_take];ac_rfl,by rw[List.getElem_take];exact e2⟩
theorem greedy(w:Walk ks (ids ks.length) R e)(d:e7 ks e)(v:Walk ks (ids ks.length) S cur)(sub:∀t∈tls (ids ks.length) S,∃u∈tls (ids ks.length) R,u.1=t.1/\u.2.1=t.2.1/\u.2.2.Perm t.2.2)(nd:¬e7 ks cur):
  ∃i,i+1<ks.length /\ ∃u∈tls (ids ks.length) R,u.1=cur.getD i 0/\u.2.1=cur.getD (i+1) 0/\u.2.2.Perm (cur.take i):=by
 have Pc:=v.pt (Pt.ids _)
 have lc:=Pc.len
 have ex:∃k:Nat,∃u:Int×Int×List Int,(tls (ids ks.length) R)[k]?=some u /\ ¬ ∃t∈tls (ids ks.length) S,t.1=u.1/\t.2.1=u.2.1:=by
  have:∃p,p+1<ks.length/\kd ks (cur.getD p 0)<kd ks (cur.getD (p+1) 0):=by
   apply Classical.byContradiction
   intro z
   exact nd fun p hp=>not_lt.mp fun q=>z ⟨p,hp,q⟩
  obtain⟨p,hp,hk⟩:=this
  have near:Bf cur (cur.getD p 0) (cur.getD (p+1) 0):=Bf.near ⋯
  have b1:=Pc.bd p ⋯
  have b2:=Pc.bd (p+1) ⋯
  have bi:Bf (ids ks.length) (cur.getD p 0) (cur.getD (p+1) 0):=by
   rcases Bf.tot (Pt.ids ks.length) b1.1 b1.2 b2.1 b2.2 (near.ne Pc) with z | z
   ·exact z
   ·exact(near.anti Pc (v.stay (Pt.ids _) (Int.le_of_lt hk) z)).elim
  obtain⟨u,hu,e1,e2⟩:=w.all (Pt.ids _) d hk bi
  obtain⟨k,hk',ek⟩:=mem_iff_getElem.mp hu
  refine⟨k,u,by rw[List.getElem?_eq_getElem hk',ek],fun⟨t,ht,f1,f2⟩=>?_⟩
  have:=(v.key (Pt.ids _) ht).2.2
  rw[f1,f2,e1,e2] at this
  exact near.anti Pc this
 obtain⟨k,⟨u,hu,no⟩,least⟩:∃k:Nat,(∃u:Int×Int×List Int,(tls (ids ks.length) R)[k]?=some u /\ ¬ ∃t∈tls (ids ks.length) S,t.1=u.1/\t.2.1=u.2.1) /\ ∀j:Nat,j<k -> ¬ ∃u:Int×Int×List Int,(tls (ids ks.length) R)[j]?=some u /\ ¬ ∃t∈tls (ids ks.length) S,t.1=u.1/\t.2.1=u.2.1:=by
  obtain⟨k,hk⟩:=ex
  induction k using Nat.strongRecOn with
  |ind k ih=>
   by_cases z:∃j:Nat,j<k /\ ∃u:Int×Int×List Int,(tls (ids ks.length) R)[j]?=some u /\ ¬ ∃t∈tls (ids ks.length) S,t.1=u.1/\t.2.1=u.2.1
   ·obtain⟨j,hj,hh⟩:=z
    exact ih j hj hh
   ·exact⟨k,hk,fun j hj hh=>z ⟨j,hj,hh⟩⟩
 obtain⟨m,p,wm,hp,eu⟩:=w.at hu
 have Pm:=wm.pt (Pt.ids _)
 have lm:=Pm.len
 have um:u∈tls (ids ks.length) R:=mem_of_getElem? hu
 obtain⟨bab,kab,_⟩:=w.key (Pt.ids _) um
 have early:∀t∈tls (ids ks.length) (R.take k),∃s∈tls (ids ks.length) S,s.1=t.1/\s.2.1=t.2.1:=by
  intro t ht
  rw[<- gU] at ht
  obtain⟨j,hj,ej⟩:=mem_iff_getElem.mp ht
  rw[length_take] at hj
  rw[List.getElem_take] at ej
  apply Classical.byContradiction
  intro z
  exact least j ⋯ ⟨t,by rw[List.getElem?_eq_getElem ⋯,ej],z⟩
 have ea:u.1=m.getD p 0:=by rw[eu]
 have eb:u.2.1=m.getD (p+1) 0:=by rw[eu]
 have eB:u.2.2=m.take p:=by rw[eu]
 have mab:Bf m u.1 u.2.1:=by rw[ea,eb];exact Bf.near ⋯
 have cab:Bf cur u.1 u.2.1:=by
  rcases v.or (Pt.ids _) bab with z | z
  ·exact(no z).elim
  ·exact z
 have low:∀z,Bf m z u.1->Bf cur z u.1:=by
  intro z hz
  obtain⟨z0,a0⟩:=hz.bd Pm
  rcases Bf.tot (Pt.ids ks.length) z0.1 z0.2 a0.1 a0.2 (hz.ne Pm) with q | q
  ·rcases v.or (Pt.ids _) q with⟨t,ht,t1,t2⟩ | q'
   ·exfalso
    obtain⟨r,hr,r1,r2,rp⟩:=sub t ht
    obtain⟨j,hj,ej⟩:=mem_iff_getElem.mp hr
    have hrj:(tls (ids ks.length) R)[j]?=some r:=by rw[List.getElem?_eq_getElem hj,ej]
    obtain⟨i,hi,ei⟩:=mem_iff_getElem.mp ht
    have hti:(tls (ids ks.length) S)[i]?=some t:=by rw[List.getElem?_eq_getElem hi,ei]
    have kj:k<j:=by
     rcases lt_trichotomy j k with h | h | h
     ·exfalso
      have:r∈tls (ids ks.length) (R.take k):=by
       rw[<- gU,mem_iff_getElem]
       exact⟨j,by rw[length_take];ac_rfl,by rw[List.getElem_take];exact ej⟩
      have:=(wm.key (Pt.ids _) this).2.2
      rw[r1,r2,t1,t2] at this
      exact this.anti Pm hz
     ·exfalso
      subst h
      rw[hrj] at hu
      cases hu
      exact hz.ne Pm (t1.symm.trans r1.symm)
     ·exact h
    obtain⟨c,q,P1,hq,e1,b1⟩:=w.behind hu hrj kj
    obtain⟨c',q',P2,hq',e2,b2⟩:=v.ahead bab no hti
    have l1:=P1.len
    have l2:=P2.len
    have ra:c.getD (q+1) 0=u.1:=by have:=r2.trans t2;rw[e1] at this;exact this
    have ta:c'.getD (q'+1) 0=u.1:=by have:=t2;rw[e2] at this;exact this
    have rz:c.getD q 0=z:=by have:=r1.trans t1;rw[e1] at this;exact this
    have tz:c'.getD q' 0=z:=by have:=t1;rw[e2] at this;exact this
    have m1:u.2.1∈c.take (q+1):=b1.mem ⋯ ra P1
    have nz:u.2.1≠z:=fun y=>by
     have:Bf m u.2.1 u.1:=by rw[y];exact hz
     exact this.anti Pm mab
    have m2:u.2.1∈c.take q:=by
     obtain⟨x,hx,ex⟩:=mem_iff_getElem.mp m1
     rw[length_take] at hx
     rw[List.getElem_take] at ex
     have:x≠q:=fun y=>by
      subst y
      refine nz ?_
      rw[<- ex,<- rz]
      simp[List.getD,show x<c.length by ac_rfl]
     rw[mem_iff_getElem]
     exact⟨x,by rw[length_take];ac_rfl,by rw[List.getElem_take];exact ex⟩
    have m3:u.2.1∈c'.take q':=by
     have:r.2.2=c.take q:=by rw[e1]
     rw[<- this] at m2
     have:=rp.mem_iff.mp m2
     rw[e2] at this
     exact this
    have b3:Bf c' u.2.1 u.1:=by
     have:=tN (l:=c') ⋯ m3
     rw[tz] at this
     refine this.tr P2 ?_
     rw[<- tz,<- ta]
     exact Bf.near ⋯
    exact b3.anti P2 b2
   ·exact q'
  ·rcases wm.or (Pt.ids _) q with⟨t,ht,t1,t2⟩ | q'
   ·obtain⟨s,hs,s1,s2⟩:=early t ht
    have:=(v.key (Pt.ids _) hs).2.2
    rw[s1,s2,t1,t2] at this
    exact this
   ·exact(q'.anti Pm hz).elim
 have high:∀z,Bf m u.2.1 z->Bf cur u.2.1 z:=by
  intro z hz
  obtain⟨a0,z0⟩:=hz.bd Pm
  rcases Bf.tot (Pt.ids ks.length) a0.1 a0.2 z0.1 z0.2 (hz.ne Pm) with q | q
  ·rcases v.or (Pt.ids _) q with⟨t,ht,t1,t2⟩ | q'
   ·exfalso
    obtain⟨r,hr,r1,r2,rp⟩:=sub t ht
    obtain⟨j,hj,ej⟩:=mem_iff_getElem.mp hr
    have hrj:(tls (ids ks.length) R)[j]?=some r:=by rw[List.getElem?_eq_getElem hj,ej]
    obtain⟨i,hi,ei⟩:=mem_iff_getElem.mp ht
    have hti:(tls (ids ks.length) S)[i]?=some t:=by rw[List.getElem?_eq_getElem hi,ei]
    have kj:k<j:=by
     rcases lt_trichotomy j k with h | h | h
     ·exfalso
      have:r∈tls (ids ks.length) (R.take k):=by
       rw[<- gU,mem_iff_getElem]
       exact⟨j,by rw[length_take];ac_rfl,by rw[List.getElem_take];exact ej⟩
      have:=(wm.key (Pt.ids _) this).2.2
      rw[r1,r2,t1,t2] at this
      exact this.anti Pm hz
     ·exfalso
      subst h
      rw[hrj] at hu
      cases hu
      exact mab.ne Pm (r1.trans t1)
     ·exact h
    obtain⟨c,q,P1,hq,e1,b1⟩:=w.behind hu hrj kj
    obtain⟨c',q',P2,hq',e2,b2⟩:=v.ahead bab no hti
    have l1:=P1.len
    have l2:=P2.len
    have rb:c.getD q 0=u.2.1:=by have:=r1.trans t1;rw[e1] at this;exact this
    have tb:c'.getD q' 0=u.2.1:=by have:=t1;rw[e2] at this;exact this
    have m3:u.1∈c'.take q':=b2.mem ⋯ tb P2
    have m2:u.1∈c.take q:=by
     have e3:r.2.2=c.take q:=by rw[e1]
     rw[<- e3]
     refine rp.mem_iff.mpr ?_
     rw[e2]
     exact m3
    have b3:=tN (l:=c) ⋯ m2
    rw[rb] at b3
    exact b3.anti P1 b1
   ·exact q'
  ·rcases wm.or (Pt.ids _) q with⟨t,ht,t1,t2⟩ | q'
   ·obtain⟨s,hs,s1,s2⟩:=early t ht
    have:=(v.key (Pt.ids _) hs).2.2
    rw[s1,s2,t1,t2] at this
    exact this
   ·exact(q'.anti Pm hz).elim
 obtain⟨i,j,ij,hj,ei,ejb⟩:=cab
 have cab:Bf cur u.1 u.2.1:=⟨i,j,ij,hj,ei,ejb⟩
 have side:∀z:Int,0<=z->z<ks.length->z≠u.1->z≠u.2.1->Bf m z u.1 \/ Bf m u.2.1 z:=by
  intro z h0 h1 n1 n2
  obtain⟨x,hx,ex⟩:=Pm.sur z h0 h1
  rcases lt_or_ge x p with q | q
  ·exact .inl ⟨x,p,q,⋯,ex,ea.symm⟩
  ·have x1:x≠p:=fun y=>n1 (by rw[<- ex,y,ea])
   have x2:x≠p+1:=fun y=>n2 (by rw[<- ex,y,eb])
   exact .inr ⟨p+1,x,⋯,⋯,eb.symm,ex⟩
 have jn:j=i+1:=by
  apply Classical.byContradiction
  intro ne
  have bd:=Pc.bd (i+1) ⋯
  have n1:cur.getD (i+1) 0≠u.1:=fun y=>by have:=Pc.inj (i+1) i ⋯ ⋯ (y.trans ei.symm);ac_rfl
  have n2:cur.getD (i+1) 0≠u.2.1:=fun y=>by have:=Pc.inj (i+1) j ⋯ ⋯ (y.trans ejb.symm);ac_rfl
  rcases side _ bd.1 bd.2 n1 n2 with q | q
  ·exact(low _ q).anti Pc ⟨i,i+1,⋯,⋯,ei,rfl⟩
  ·exact(high _ q).anti Pc ⟨i+1,j,⋯,⋯,rfl,ejb⟩
 subst jn
 refine⟨i,⋯,u,um,ei.symm,ejb.symm,?_⟩
 have nd1:∀{l:List Int},Pt ks.length l -> ∀p,(l.take p).Nodup:=fun {l} P p=>by
  have hl:=P.len
  rw[List.nodup_iff_pairwise_ne,pairwise_iff_getElem]
  intro x y hx hy xy z
  rw[length_take] at hx hy
  rw[List.getElem_take,List.getElem_take] at z
  have:=P.inj x y ⋯ ⋯ (by simp only[List.getD];rw[List.getElem?_eq_getElem ⋯,List.getElem?_eq_getElem ⋯,z])
  ac_rfl
 rw[eB]
 refine(perm_ext_iff_of_nodup (nd1 Pm p) (nd1 Pc i)).mpr fun z=>⟨fun h=>?_,fun h=>?_⟩
 ·have:=tN (l:=m) ⋯ h
  rw[<- ea] at this
  exact(low z this).mem ⋯ ei Pc
 ·have hz:=tN (l:=cur) ⋯ h
  rw[ei] at hz
  obtain⟨z0,_⟩:=hz.bd Pc
  have n2:z≠u.2.1:=fun y=>by rw[y] at hz;exact hz.anti Pc cab
  rcases side z z0.1 z0.2 (hz.ne Pc) n2 with q | q
  ·exact q.mem ⋯ ea.symm Pm
  ·exact((cab.tr Pc (high z q)).anti Pc hz).elim
end
abbrev Ti:=Int×Int×List Int
def tS(t:Ti):Ti:=(t.1,t.2.1,srt t.2.2)
def fY(l row:List Int):List Ti:=(tls l row).map tS
abbrev pos(t:Ti):Int:=t.2.2.length
theorem K9{ks l r e:List Int}(w:Walk ks l r e)(P:Pt ks.length l):(fY l r).map pos=r:=by
 induction w with
 |nil l=>rfl
 | @cons l e r p a b w ih=>
  have hl:=P.len
  unfold fY at ih ⊢
  rw[tls,map_cons,map_cons,toNat_natCast,ih (P.swap a)]
  show ((srt (l.take p)).length:Int)::r=_
  rw[jC,length_take,min_eq_left ⋯]
theorem Br{l m:List Int}(h:l.length=m.length)(k:∀i,i<l.length->l.getD i 0=m.getD i 0):l=m:=by
 apply List.ext_getElem h
 intro i h1 h2
 have:=k i h1
 simpa [List.getD,h1,h2] using this
theorem sW{l:List Int}{p i:Nat}(hp:p+1<l.length)(hi:i<l.length)(h1:i≠p)(h2:i≠p+1):(aP l p).getD i 0=l.getD i 0:=by
 rw[Fl.cE hp hi,if_neg h2,if_neg h1]
theorem C3{l:List Int}{p q:Nat}(hp:p+1<l.length)(hq:q+1<l.length)(h:p+2<=q \/ q+2<=p):aP (aP l p) q=aP (aP l q) p:=by
 have e1:=Fl.g5 hp
 have e2:=Fl.g5 hq
 have e3:=Fl.g5 (l:=aP l p) (p:=q) ⋯
 have e4:=Fl.g5 (l:=aP l q) (p:=p) ⋯
 refine Br ⋯ fun i hi=>?_
 rw[Fl.cE ⋯ ⋯,Fl.cE (l:=aP l q) ⋯ ⋯,Fl.cE hp ⋯,Fl.cE hp ⋯,Fl.cE hp ⋯,Fl.cE hq ⋯,Fl.cE hq ⋯,Fl.cE hq ⋯]
 (repeat' split)<;>first | rfl | ac_rfl
theorem Ep{l:List Int}{p:Nat}(hp:p+1<l.length):(aP l p).Perm l:=by
 have e:=Fl.qR hp
 have q:(l.take p++(l.getD (p+1) 0::l.getD p 0::l.drop (p+2))).Perm (l.take p++(l.getD p 0::l.getD (p+1) 0::l.drop (p+2))):=(List.Perm.swap _ _ _).append_left _
 rw[<- e] at q
 unfold aP
 simpa using q
theorem C2{l:List Int}{p q:Nat}(hp:p+1<l.length)(hq:q+1<l.length)(h:p+2<=q \/ q+2<=p):srt ((aP l p).take q)=srt (l.take q):=by
 rcases h with h | h
 ·have:(aP l p).take q=aP (l.take q) p:=by
   have e1:=Fl.g5 hp
   have e2:(l.take q).length=q:=by simp;ac_rfl
   have e3:=Fl.g5 (l:=l.take q) (p:=p) ⋯
   have gt:∀(m:List Int) i,i<q->(m.take q).getD i 0=m.getD i 0:=fun m i hi=>by simp[List.getD,List.getElem?_take_of_lt hi]
   refine Br (by simp;ac_rfl) fun i hi=>?_
   have hi':i<q:=by simp at hi;ac_rfl
   rw[gt _ _ hi',Fl.cE hp ⋯,Fl.cE ⋯ ⋯,gt _ _ ⋯,gt _ _ ⋯,gt _ _ hi']
  rw[this]
  exact n9 (Ep (by simp;ac_rfl))
 ·have:(aP l p).take q=l.take q:=by
   unfold aP
   rw[append_assoc,List.take_append_of_le_length (by simp;ac_rfl),take_take,min_eq_left ⋯]
  rw[this]
theorem Q8{ks l r e:List Int}{p q:Int}(w:Walk ks l (p::q::r) e)(P:Pt ks.length l)(h:p+2<=q \/ q+2<=p):
  Walk ks l (q::p::r) e /\ ∃t u B,fY l (p::q::r)=t::u::B/\fY l (q::p::r)=u::t::B:=by
 have hl:=P.len
 cases w with
 | @cons _ _ _ p a b w=>
  cases w with
  | @cons _ _ _ q a' b' w=>
   have f:p+2<=q \/ q+2<=p:=⋯
   have f':q+2<=p \/ p+2<=q:=⋯
   have g1:=sW (l:=l) (p:=p) (i:=q) ⋯ ⋯ ⋯ ⋯
   have g2:=sW (l:=l) (p:=p) (i:=q+1) ⋯ ⋯ ⋯ ⋯
   have g3:=sW (l:=l) (p:=q) (i:=p) ⋯ ⋯ ⋯ ⋯
   have g4:=sW (l:=l) (p:=q) (i:=p+1) ⋯ ⋯ ⋯ ⋯
   rw[C3 ⋯ ⋯ f] at w
   rw[g1,g2] at b'
   refine⟨.cons a' b' (.cons a (by rw[g3,g4];exact b) w),tS (l.getD p 0,l.getD (p+1) 0,l.take p),tS (l.getD q 0,l.getD (q+1) 0,l.take q),fY (aP (aP l q) p) r,?_,?_⟩
   ·unfold fY
    simp only[tls,toNat_natCast,map_cons,g1,g2,tS,C2 (l:=l) (p:=p) (q:=q) ⋯ ⋯ f,C3 (l:=l) (p:=p) (q:=q) ⋯ ⋯ f]
   ·unfold fY
    simp only[tls,toNat_natCast,map_cons,g3,g4,tS,C2 (l:=l) (p:=q) (q:=p) ⋯ ⋯ f']
theorem M9{ks:List Int}:∀(A:List Ti) {u t:Ti} {B:List Ti} {l r e:List Int},Walk ks l r e->Pt ks.length l->fY l r=A++u::t::B->(pos u+2<=pos t \/ pos t+2<=pos u) -> ∃r',Walk ks l r' e/\fY l r'=A++t::u::B:=by
 intro A
 induction A with
 |nil=>
  intro u t B l r e w P h f
  have pr:=K9 w P
  rw[h] at pr
  simp only[nil_append,map_cons] at pr h
  rw[<- pr] at w h
  obtain⟨w',x,y,B',e1,e2⟩:=Q8 w P f
  rw[h] at e1
  injection e1 with e3 e4
  injection e4 with e4 e5
  subst e3 e4 e5
  exact⟨_,w',e2⟩
 |cons a A ih=>
  intro u t B l r e w P h f
  cases w with
  |nil l=>simp[fY,tls] at h
  | @cons l e r p a1 b1 w=>
   unfold fY at h
   rw[tls,map_cons,cons_append] at h
   injection h with h1 h2
   rw[toNat_natCast] at h2
   obtain⟨r',w',e'⟩:=ih w (P.swap a1) h2 f
   refine⟨(p:Int)::r',.cons a1 b1 w',?_⟩
   unfold fY at e' ⊢
   rw[tls,map_cons,toNat_natCast,e',<- h1,toNat_natCast]
   rfl
theorem EG{x:Int}{l:List Int}:x∈srt l ↔ x∈l:=(dP l).mem_iff
theorem jL(X:List Int)(a b:Int)(Y:List Int):aP (X++a::b::Y) X.length=X++b::a::Y:=by
 unfold aP
 simp[List.getD]
theorem LB(X:List Int)(a:Int)(Y:List Int):(X++a::Y).getD X.length 0=a:=by simp[List.getD]
theorem Bx(X:List Int)(a b:Int)(Y:List Int):(X++a::b::Y).getD (X.length+1) 0=b:=by simp[List.getD]
theorem CJ{ks:List Int}:∀(A:List Ti) {B:List Ti} {l r e:List Int},Walk ks l r e->Pt ks.length l->fY l r=A++B -> ∃m r1 r2,Walk ks l r1 m/\Walk ks m r2 e/\Pt ks.length m/\fY l r1=A/\fY m r2=B:=by
 intro A
 induction A with
 |nil=>exact fun {B l r e} w P h=>⟨l,[],r,.nil _,w,P,rfl,h⟩
 |cons a A ih=>
  intro B l r e w P h
  cases w with
  |nil l=>simp[fY,tls] at h
  | @cons l e r p a1 b1 w=>
   unfold fY at h
   rw[tls,map_cons,cons_append] at h
   injection h with h1 h2
   rw[toNat_natCast] at h2
   obtain⟨m,r1,r2,w1,w2,Pm,e1,e2⟩:=ih w (P.swap a1) h2
   refine⟨m,(p:Int)::r1,r2,.cons a1 b1 w1,w2,Pm,?_,e2⟩
   unfold fY at e1 ⊢
   rw[tls,map_cons,h1,toNat_natCast,e1]
theorem vH{ks:List Int}{l r1 m:List Int}(w:Walk ks l r1 m)(r2:List Int):fY l (r1++r2)=fY l r1++fY m r2:=by
 induction w with
 |nil l=>rfl
 | @cons l e r p a b w ih=>
  unfold fY at ih ⊢
  rw[cons_append,tls,tls,map_cons,map_cons,toNat_natCast,ih,cons_append]
theorem Gj{ks:List Int}{l e:List Int}(P:Pt ks.length l){u:Ti}:∀(B A:List Ti) {X:List Ti} {r:List Int},Walk ks l r e->fY l r=A++u::(B++X)->(∀t∈B,pos u+2<=pos t \/ pos t+2<=pos u) -> ∃r',Walk ks l r' e/\fY l r'=A++(B++u::X):=by
 intro B
 induction B with
 |nil=>exact fun A {X r} w h _=>⟨r,w,h⟩
 |cons t B ih=>
  intro A X r w h f
  obtain⟨r1,w1,h1⟩:=M9 A w P (B:=B++X) (by rw[h];rfl) (f t (mem_cons_self ..))
  obtain⟨r2,w2,h2⟩:=ih (A++[t]) (X:=X) w1 (by rw[h1];simp) fun x hx=>f x (mem_cons_of_mem _ hx)
  exact⟨r2,w2,by rw[h2];simp⟩
theorem Gk{ks:List Int}{l e:List Int}(P:Pt ks.length l){u:Ti}:∀(C:List Ti) {A X:List Ti} {r:List Int},Walk ks l r e->fY l r=A++(C++u::X)->(∀t∈C,pos u+2<=pos t \/ pos t+2<=pos u) -> ∃r',Walk ks l r' e/\fY l r'=A++u::(C++X):=by
 intro C
 induction C with
 |nil=>exact fun {A X r} w h _=>⟨r,w,h⟩
 |cons t C ih=>
  intro A X r w h f
  obtain⟨r1,w1,h1⟩:=ih (A:=A++[t]) (X:=X) w (by rw[h];simp) fun x hx=>f x (mem_cons_of_mem _ hx)
  obtain⟨r2,w2,h2⟩:=M9 A w1 P (u:=t) (t:=u) (B:=C++X) (by rw[h1];simp) ((f t (mem_cons_self ..)).symm)
  exact⟨r2,w2,h2⟩
theorem still{ks:List Int}{l r e:List Int}{x:Int}{i:Nat}(w:Walk ks l r e)(P:Pt ks.length l)(hi:i<ks.length)(hx:l.getD i 0=x)(no:∀t∈fY l r,t.1≠x/\t.2.1≠x):e.getD i 0=x /\ ∀t∈fY l r,pos t≠i/\pos t+1≠i:=by
 induction w with
 |nil l=>exact⟨hx,fun t ht=>nomatch ht⟩
 | @cons l e r p a b w ih=>
  have hl:=P.len
  unfold fY at ih no ⊢
  rw[tls,map_cons,toNat_natCast] at no ⊢
  have h0:=no _ (mem_cons_self ..)
  have n1:i≠p:=fun z=>h0.1 (by rw[<- z];exact hx)
  have n2:i≠p+1:=fun z=>h0.2 (by show l.getD (p+1) 0=x;rw[<- z];exact hx)
  obtain⟨h1,h2⟩:=ih (P.swap a) (by rw[sW ⋯ ⋯ n1 n2];exact hx) fun t ht=>no t (mem_cons_of_mem _ ht)
  refine⟨h1,fun t ht=>?_⟩
  rcases mem_cons.mp ht with rfl | ht
  ·have:pos (tS (l.getD p 0,l.getD (p+1) 0,l.take p))=p:=by
    show ((srt (l.take p)).length:Int)=p
    rw[jC,length_take]
    ac_rfl
   rw[this]
   ac_rfl
  ·exact h2 t ht
theorem pin{ks:List Int}{l r e:List Int}{x:Int}{i j:Nat}(w:Walk ks l r e)(P:Pt ks.length l)(hi:i<ks.length)(hj:j<ks.length)(hx:l.getD i 0=x)(hx':e.getD j 0=x)(hs:srt (l.take i)=srt (e.take j)):∀t∈fY l r,t.1≠x/\t.2.1≠x:=by
 have Pe:=w.pt P
 have le:=Pe.len
 have ll:=P.len
 intro t ht
 obtain⟨u,hu,rfl⟩:=mem_map.mp ht
 obtain⟨k1,_,k3⟩:=w.key P hu
 have mem:∀z,z∈l.take i ↔ z∈e.take j:=fun z=>by rw[<- EG,hs,EG]
 refine⟨fun z=>?_,fun z=>?_⟩
 ·have z1:u.1=x:=z
  rw[z1] at k1 k3
  have h1:=(mem _).mpr (k3.mem ⋯ hx' Pe)
  have h2:=tN ⋯ h1
  rw[hx] at h2
  exact h2.anti P k1
 ·have z1:u.2.1=x:=z
  rw[z1] at k1 k3
  have h1:=(mem _).mp (k1.mem ⋯ hx P)
  have h2:=tN ⋯ h1
  rw[hx'] at h2
  exact h2.anti Pe k3
theorem GG{ks l r e:List Int}{u:Ti}{Y:List Ti}(w:Walk ks l r e)(P:Pt ks.length l)(h:fY l r=u::Y):∃(p:Nat) (r':List Int),r=(p:Int)::r'/\p+1<ks.length/\kd ks u.1<kd ks u.2.1/\l.getD p 0=u.1/\l.getD (p+1) 0=u.2.1/\srt (l.take p)=u.2.2/\p=u.2.2.length/\Walk ks (aP l p) r' e/\Pt ks.length (aP l p)/\fY (aP l p) r'=Y:=by
 have hl:=P.len
 cases w with
 |nil l=>simp[fY,tls] at h
 | @cons l e r p a b w=>
  unfold fY at h
  rw[tls,map_cons,toNat_natCast] at h
  injection h with h1 h2
  subst h1
  refine⟨p,r,rfl,a,b,rfl,rfl,rfl,?_,w,P.swap a,h2⟩
  show p=(srt (l.take p)).length
  rw[jC,length_take]
  ac_rfl
theorem iX{l:List Int}{p:Nat}(hp:p+1<l.length):(aP l p).take p=l.take p:=by
 unfold aP
 rw[append_assoc,List.take_append_of_le_length (by simp;ac_rfl),take_take,Nat.min_self]
theorem iW{l:List Int}{p:Nat}(hp:p<l.length):l.take (p+1)=l.take p++[l.getD p 0]:=by
 rw[List.take_succ_eq_append_getElem hp]
 simp[List.getD,hp]
theorem Gh{l:List Int}{p:Nat}(hp:p+2<l.length):∃X Y,l=X++l.getD p 0::l.getD (p+1) 0::l.getD (p+2) 0::Y/\X.length=p/\X=l.take p:=by
 refine⟨l.take p,l.drop (p+3),?_,by simp;ac_rfl,rfl⟩
 have e:=qR (l:=l) (p:=p) ⋯
 have e2:l.drop (p+2)=l.getD (p+2) 0::l.drop (p+3):=by
  rw[drop_eq_getElem_cons hp]
  simp[List.getD,hp]
 rw[e2] at e
 exact e
theorem gX(X:List Int)(x:Int)(L:List Int):X++x::L=(X++[x])++L:=by simp
theorem braid{ks X Y r e:List Int}{a b c:Int}(P:Pt ks.length (X++a::b::c::Y))(w:Walk ks (X++c::b::a::Y) r e)(k1:kd ks a<kd ks b)(k2:kd ks b<kd ks c):
  (∃r',Walk ks (X++a::b::c::Y) r' e/\fY (X++a::b::c::Y) r'=(b,c,srt (X++[a]))::(a,c,srt X)::(a,b,srt (X++[c]))::fY (X++c::b::a::Y) r) /\
  (∃r',Walk ks (X++a::b::c::Y) r' e/\fY (X++a::b::c::Y) r'=(a,b,srt X)::(a,c,srt (X++[b]))::(b,c,srt X)::fY (X++c::b::a::Y) r):=by
 have hl:=P.len
 simp only[length_append,length_cons] at hl
 have s1:∀(x y:Int) (L:List Int),aP (X++x::y::L) X.length=X++y::x::L:=fun x y L=>jL X x y L
 have s2:∀(x y z:Int) (L:List Int),aP (X++x::y::z::L) (X.length+1)=X++x::z::y::L:=fun x y z L=>by
  rw[gX X x (y::z::L),gX X x (z::y::L)]
  have:=jL (X++[x]) y z L
  rw[length_append,length_singleton] at this
  exact this
 have g0:∀(x:Int) (L:List Int),(X++x::L).getD X.length 0=x:=fun x L=>LB X x L
 have g1:∀(x y:Int) (L:List Int),(X++x::y::L).getD (X.length+1) 0=y:=fun x y L=>Bx X x y L
 have g2:∀(x y z:Int) (L:List Int),(X++x::y::z::L).getD (X.length+1+1) 0=z:=fun x y z L=>by
  rw[gX X x]
  have:=Bx (X++[x]) y z L
  rw[length_append,length_singleton] at this
  exact this
 have t0:∀L:List Int,(X++L).take X.length=X:=fun L=>by simp
 have t1:∀(x:Int) (L:List Int),(X++x::L).take (X.length+1)=X++[x]:=fun x L=>by
  rw[gX X x L,show X.length+1=(X++[x]).length by simp,List.take_left]
 refine⟨⟨((X.length+1:Nat):Int)::(X.length:Int)::((X.length+1:Nat):Int)::r,?_,?_⟩,⟨(X.length:Int)::((X.length+1:Nat):Int)::(X.length:Int)::r,?_,?_⟩⟩
 ·refine .cons ⋯ (by rw[g1,g2];exact k2) ?_
  rw[s2]
  refine .cons ⋯ (by rw[g0,g1];ac_rfl) ?_
  rw[s1]
  refine .cons ⋯ (by rw[g1,g2];exact k1) ?_
  rw[s2]
  exact w
 ·simp only[fY,tls,toNat_natCast,map_cons,tS,g0,g1,g2,s1,s2,t0,t1]
 ·refine .cons ⋯ (by rw[g0,g1];exact k1) ?_
  rw[s1]
  refine .cons ⋯ (by rw[g1,g2];ac_rfl) ?_
  rw[s2]
  refine .cons ⋯ (by rw[g0,g1];exact k2) ?_
  rw[s1]
  exact w
 ·simp only[fY,tls,toNat_natCast,map_cons,tS,g0,g1,g2,s1,s2,t0,t1]
theorem AC{s:Nat}{q:Int}(h1:q≠s/\q+1≠s)(h2:q≠((s+1:Nat):Int)/\q+1≠((s+1:Nat):Int)):(s:Int)+2<=q \/ q+2<=s:=⋯
theorem LI{ks l row e:List Int}{A B C D:List Ti}{a b c:Int}{S:List Int}(w:Walk ks l row e)(P:Pt ks.length l)(h:fY l row=A++(a,b,S)::(B++(a,c,srt (S++[b]))::(C++(b,c,S)::D))):
  ∃row',Walk ks l row' e/\fY l row'=(A++B)++(b,c,srt (S++[a]))::(a,c,S)::(a,b,srt (S++[c]))::(C++D):=by
 obtain⟨m0,r0,q0,w0,v0,P0,e0,f0⟩:=CJ A w P h
 obtain⟨s,q1,rfl,hs,k1,ga,gb,gS,sl,v1,P1,f1⟩:=GG v0 P0 f0
 obtain⟨m2,r1,q2,w1,v2,P2,e1,f2⟩:=CJ B v1 P1 f1
 obtain⟨s',q3,rfl,hs',k2,ga2,gc2,gS2,sl2,v3,P3,f3⟩:=GG v2 P2 f2
 obtain⟨m4,r3,q4,w3,v4,P4,e3,f4⟩:=CJ C v3 P3 f3
 obtain⟨s'',q5,rfl,hs'',k3,gb4,gc4,gS4,sl4,v5,P5,f5⟩:=GG v4 P4 f4
 simp only at k1 k2 k3 ga gb gS sl ga2 gc2 gS2 sl2 gb4 gc4 gS4 sl4
 rw[jC,length_append,length_singleton,<- sl] at sl2
 rw[<- sl] at sl4
 subst sl2 sl4
 have l0:=P0.len
 have l1:=P1.len
 have l2:=P2.len
 have l3:=P3.len
 have l4:=P4.len
 have b1:(aP m0 s'').getD s'' 0=b:=by rw[cE ⋯ ⋯,if_neg ⋯,if_pos rfl];exact gb
 have a1:(aP m0 s'').getD (s''+1) 0=a:=by rw[cE ⋯ ⋯,if_pos rfl];exact ga
 have wb:=pin (w1.append (.cons hs' (by rw[ga2,gc2];exact k2) w3)) P1 (i:=s'') (j:=s'') ⋯ ⋯ b1 gb4 (by rw[iX ⋯,gS,gS4])
 rw[vH w1] at wb
 have nb:=fun t ht=>wb t (mem_append_left _ ht)
 have sb:=still w1 P1 (i:=s'') ⋯ b1 nb
 have sa:=still w1 P1 (i:=s''+1) ⋯ a1 (pin w1 P1 ⋯ ⋯ a1 ga2 (by
  rw[iW ⋯,iX ⋯,b1,gS2,<- eG,gS]))
 have c3:(aP m2 (s''+1)).getD (s''+1) 0=c:=by rw[cE ⋯ ⋯,if_neg ⋯,if_pos rfl];exact gc2
 have b3:(aP m2 (s''+1)).getD s'' 0=b:=by rw[cE ⋯ ⋯,if_neg ⋯,if_neg ⋯];exact sb.1
 have sc:=still w3 P3 (i:=s''+1) ⋯ c3 (pin w3 P3 ⋯ ⋯ c3 gc4 (by
  rw[iX ⋯,gS2,iW ⋯,gb4,<- eG (m4.take s''),gS4]))
 have sb3:=still w3 P3 (i:=s'') ⋯ b3 fun t ht=>wb t (by
  refine mem_append_right _ ?_
  unfold fY at ht ⊢
  rw[tls,map_cons,toNat_natCast]
  exact mem_cons_of_mem _ ht)
 have pu:pos ((a,b,S):Ti)=(s'':Int):=by show ((S.length:Nat):Int)=_;rw[<- sl]
 have pw:pos ((b,c,S):Ti)=(s'':Int):=by show ((S.length:Nat):Int)=_;rw[<- sl]
 obtain⟨r6,w6,h6⟩:=Gj P B A w h fun t ht=>by
  rw[pu]
  rw[e1] at sb sa
  exact AC (sb.2 t ht) (sa.2 t ht)
 obtain⟨r7,w7,h7⟩:=Gk P (u:=(b,c,S)) C (A:=A++(B++[(a,b,S),(a,c,srt (S++[b]))])) (X:=D) w6 (by rw[h6];simp) fun t ht=>by
  rw[pw]
  rw[e3] at sb3 sc
  exact AC (sb3.2 t ht) (sc.2 t ht)
 obtain⟨m,r8,q8,w8,v8,P8,e8,f8⟩:=CJ (A++B) (B:=(a,b,S)::(a,c,srt (S++[b]))::(b,c,S)::(C++D)) w7 P (by rw[h7];simp)
 obtain⟨t1,q9,rfl,ht1,_,ja,jb,jS,tl1,v9,P9,f9⟩:=GG v8 P8 f8
 obtain⟨t2,q10,rfl,ht2,_,ja2,jc2,jS2,tl2,v10,P10,f10⟩:=GG v9 P9 f9
 obtain⟨t3,q11,rfl,ht3,_,jb3,jc3,jS3,tl3,v11,P11,f11⟩:=GG v10 P10 f10
 simp only at ja jb jS tl1 ja2 jc2 jS2 tl2 jb3 jc3 jS3 tl3
 rw[jC,length_append,length_singleton,<- tl1] at tl2
 rw[<- tl1] at tl3
 subst tl2 tl3
 have l8:=P8.len
 have jc:m.getD (t3+2) 0=c:=by
  rw[cE ⋯ ⋯,if_neg ⋯,if_neg ⋯] at jc2
  exact jc2
 obtain⟨X,Y,em,xl,xe⟩:=Gh (l:=m) (p:=t3) ⋯
 rw[ja,jb,jc] at em
 rw[<- xe] at jS
 subst xl
 have fin:aP (aP (aP m X.length) (X.length+1)) X.length=X++c::b::a::Y:=by
  rw[em,jL,gX X b,show X.length+1=(X++[b]).length by simp,jL,<- gX,jL]
 rw[fin] at v11 f11
 rw[em] at P8 w8
 obtain⟨⟨r',w',h'⟩,_⟩:=braid P8 v11 k1 k3
 refine⟨r8++r',w8.append w',?_⟩
 rw[vH w8,e8,h',f11,<- eG X a,<- eG X c,jS]
theorem LJ{ks l row e:List Int}{A B C D:List Ti}{a b c:Int}{S:List Int}(w:Walk ks l row e)(P:Pt ks.length l)(h:fY l row=A++(b,c,srt (S++[a]))::(B++(a,c,S)::(C++(a,b,srt (S++[c]))::D))):
  ∃row',Walk ks l row' e/\fY l row'=(A++B)++(a,b,S)::(a,c,srt (S++[b]))::(b,c,S)::(C++D):=by
 obtain⟨m0,r0,q0,w0,v0,P0,e0,f0⟩:=CJ A w P h
 obtain⟨s,q1,rfl,hs,k1,gb,gc,gS,sl,v1,P1,f1⟩:=GG v0 P0 f0
 obtain⟨m2,r1,q2,w1,v2,P2,e1,f2⟩:=CJ B v1 P1 f1
 obtain⟨s',q3,rfl,hs',k2,ga2,gc2,gS2,sl2,v3,P3,f3⟩:=GG v2 P2 f2
 obtain⟨m4,r3,q4,w3,v4,P4,e3,f4⟩:=CJ C v3 P3 f3
 obtain⟨s'',q5,rfl,hs'',k3,ga4,gb4,gS4,sl4,v5,P5,f5⟩:=GG v4 P4 f4
 simp only at k1 k2 k3 gb gc gS sl ga2 gc2 gS2 sl2 ga4 gb4 gS4 sl4
 rw[jC,length_append,length_singleton,<- sl2] at sl sl4
 subst sl sl4
 have l0:=P0.len
 have l1:=P1.len
 have l2:=P2.len
 have l3:=P3.len
 have l4:=P4.len
 have c1:(aP m0 (s'+1)).getD (s'+1) 0=c:=by rw[cE ⋯ ⋯,if_neg ⋯,if_pos rfl];exact gc
 have b1:(aP m0 (s'+1)).getD (s'+2) 0=b:=by rw[cE ⋯ ⋯,if_pos rfl];exact gb
 have wb:=pin (w1.append (.cons hs' (by rw[ga2,gc2];exact k2) w3)) P1 (i:=s'+2) (j:=s'+2) ⋯ ⋯ b1 gb4 (by
  rw[iW ⋯,iX ⋯,c1,iW (l:=m4) ⋯,ga4,<- eG (m0.take (s'+1)),<- eG (m4.take (s'+1)),gS,gS4,eG,eG]
  refine n9 ?_
  rw[append_assoc,append_assoc]
  exact(List.Perm.swap _ _ _).append_left _)
 rw[vH w1] at wb
 have nb:=fun t ht=>wb t (mem_append_left _ ht)
 have sb:=still w1 P1 (i:=s'+2) ⋯ b1 nb
 have sc:=still w1 P1 (i:=s'+1) ⋯ c1 (pin w1 P1 ⋯ ⋯ c1 gc2 (by
  rw[iX ⋯,gS,iW ⋯,ga2,<- eG (m2.take s'),gS2]))
 have a3:(aP m2 s').getD (s'+1) 0=a:=by rw[cE ⋯ ⋯,if_pos rfl];exact ga2
 have c3:(aP m2 s').getD s' 0=c:=by rw[cE ⋯ ⋯,if_neg ⋯,if_pos rfl];exact gc2
 have b3:(aP m2 s').getD (s'+2) 0=b:=by rw[cE ⋯ ⋯,if_neg ⋯,if_neg ⋯];exact sb.1
 have sa:=still w3 P3 (i:=s'+1) ⋯ a3 (pin w3 P3 ⋯ ⋯ a3 ga4 (by
  rw[iW ⋯,iX ⋯,c3,gS4,<- eG (m2.take s'),gS2]))
 have sb3:=still w3 P3 (i:=s'+2) ⋯ b3 fun t ht=>wb t (by
  refine mem_append_right _ ?_
  unfold fY at ht ⊢
  rw[tls,map_cons,toNat_natCast]
  exact mem_cons_of_mem _ ht)
 have pu:pos ((b,c,srt (S++[a])):Ti)=((s'+1:Nat):Int):=by show (((srt (S++[a])).length:Nat):Int)=_;rw[jC,length_append,length_singleton,<- sl2]
 have pw:pos ((a,b,srt (S++[c])):Ti)=((s'+1:Nat):Int):=by show (((srt (S++[c])).length:Nat):Int)=_;rw[jC,length_append,length_singleton,<- sl2]
 obtain⟨r6,w6,h6⟩:=Gj P B A w h fun t ht=>by
  rw[pu]
  rw[e1] at sb sc
  exact AC (sc.2 t ht) (sb.2 t ht)
 obtain⟨r7,w7,h7⟩:=Gk P (u:=(a,b,srt (S++[c]))) C (A:=A++(B++[(b,c,srt (S++[a])),(a,c,S)])) (X:=D) w6 (by rw[h6];simp) fun t ht=>by
  rw[pw]
  rw[e3] at sb3 sa
  exact AC (sa.2 t ht) (sb3.2 t ht)
 obtain⟨m,r8,q8,w8,v8,P8,e8,f8⟩:=CJ (A++B) (B:=(b,c,srt (S++[a]))::(a,c,S)::(a,b,srt (S++[c]))::(C++D)) w7 P (by rw[h7];simp)
 obtain⟨t1,q9,rfl,ht1,_,jb,jc,jS,tl1,v9,P9,f9⟩:=GG v8 P8 f8
 obtain⟨t2,q10,rfl,ht2,_,ja2,jc2,jS2,tl2,v10,P10,f10⟩:=GG v9 P9 f9
 obtain⟨t3,q11,rfl,ht3,_,ja3,jb3,jS3,tl3,v11,P11,f11⟩:=GG v10 P10 f10
 simp only at jb jc jS tl1 ja2 jc2 jS2 tl2 ja3 jb3 jS3 tl3
 rw[jC,length_append,length_singleton,<- tl2] at tl1 tl3
 subst tl1 tl3
 have l8:=P8.len
 have ja:m.getD t2 0=a:=by
  rw[cE ⋯ ⋯,if_neg ⋯,if_neg ⋯] at ja2
  exact ja2
 have tk:(aP m (t2+1)).take t2=m.take t2:=by
  have:=iX (l:=m) (p:=t2+1) ⋯
  have:=congrArg (List.take t2) this
  rw[take_take,take_take,min_eq_left ⋯] at this
  exact this
 rw[tk] at jS2
 obtain⟨X,Y,em,xl,xe⟩:=Gh (l:=m) (p:=t2) ⋯
 rw[ja,jb,jc] at em
 rw[<- xe] at jS2
 subst xl
 have fin:aP (aP (aP m (X.length+1)) X.length) (X.length+1)=X++c::b::a::Y:=by
  rw[em,gX X a,show X.length+1=(X++[a]).length by simp,jL,<- gX,jL,gX X c,show (X++[a]).length=(X++[c]).length by simp,jL,<- gX]
 rw[fin] at v11 f11
 rw[em] at P8 w8
 obtain⟨_,⟨r',w',h'⟩⟩:=braid P8 v11 k3 k1
 refine⟨r8++r',w8.append w',?_⟩
 rw[vH w8,e8,h',f11,<- eG X b,jS2]
section
variable {ks r e:List Int}
theorem Emp.hex(w:Walk ks (ids ks.length) r e)(d:e7 ks e)(mo:kC ks){a b c:Int}(em:Emp ks r a b c)(hab:a<b)(hbc:b<c):
  ∃s1 s2 s3:List Int,(tls (ids ks.length) r)[tm ks r a b]?=some (a,b,s1)/\(tls (ids ks.length) r)[tm ks r a c]?=some (a,c,s2)/\(tls (ids ks.length) r)[tm ks r b c]?=some (b,c,s3)/\Eh (srt s1) (srt s2) (srt s3) a b c:=by
 have T:=w.tms d mo
 have ia:=em.th.ix
 have ib:=em.th.iy
 have ic:=em.th.iw
 have h0:=ia.lo
 have hc:=ic.hi
 have k1:=mo a b h0 ⋯ ⋯
 have k2:=mo b c ⋯ ⋯ hc
 have e1:=em.th.xy
 have e2:=em.th.xw
 have e3:=em.th.yw
 have l1:=w.tm_lt d h0 hab ⋯ ⋯
 have l2:=w.tm_lt d h0 (show a<c by ac_rfl) hc ⋯
 have l3:=w.tm_lt d (show 0<=b by ac_rfl) hbc hc ⋯
 obtain⟨s1,g1,d1,u1⟩:=w.underP h0 hab ⋯ l1
 obtain⟨s2,g2,d2,u2⟩:=w.underP h0 (show a<c by ac_rfl) hc l2
 obtain⟨s3,g3,d3,u3⟩:=w.underP (show 0<=b by ac_rfl) hbc hc l3
 refine⟨s1,s2,s3,g1,g2,g3,?_⟩
 have tr:=w.tri d mo h0 hab hbc hc e2
 have y1:=iU (T:=tm ks r) hab
 have y2:=iU (T:=tm ks r) (Int.lt_trans hab hbc)
 have y3:=iU (T:=tm ks r) hbc
 obtain⟨nab,nac,nbc⟩:=em.th.ne
 have p12:∀z,In ks.length z->z≠a->z≠b->z≠c->(Pb (tm ks r) a b z ↔ Pb (tm ks r) a c z):=fun z iz za zb zc=>by
  have no:=(em.no z iz za zb zc).1
  rw[HK (Ne.symm za) (T.dif ia ib nab (Ne.symm za) (Ne.symm zb) e1) (T.dif ia ic nac (Ne.symm za) (Ne.symm zc) e2)] at no
  exact Classical.not_not.mp no
 have p13:∀z,In ks.length z->z≠a->z≠b->z≠c->(Pb (tm ks r) a b z ↔ Pb (tm ks r) b c z):=fun z iz za zb zc=>by
  have no:=(em.no z iz za zb zc).2.1
  rw[HK (Ne.symm zb) (T.dif ib ia nab.symm (Ne.symm zb) (Ne.symm za) e1.symm) (T.dif ib ic nbc (Ne.symm zb) (Ne.symm zc) e3)] at no
  exact(T.pb ia ib iz nab (Ne.symm za) (Ne.symm zb) e1).trans (Classical.not_not.mp no)
 have z12:∀z,z≠a->z≠b->z≠c->(z∈s1 ↔ z∈s2):=fun z za zb zc=>by
  rw[u1,u2]
  exact⟨fun q=>⟨q.1,za,zc,(p12 z q.1 za zb zc).mp q.2.2.2⟩,fun q=>⟨q.1,za,zb,(p12 z q.1 za zb zc).mpr q.2.2.2⟩⟩
 have z13:∀z,z≠a->z≠b->z≠c->(z∈s1 ↔ z∈s3):=fun z za zb zc=>by
  rw[u1,u3]
  exact⟨fun q=>⟨q.1,zb,zc,(p13 z q.1 za zb zc).mp q.2.2.2⟩,fun q=>⟨q.1,za,zb,(p13 z q.1 za zb zc).mpr q.2.2.2⟩⟩
 have a1:a ∉ s1:=fun q=>((u1 a).mp q).2.1 rfl
 have b1:b ∉ s1:=fun q=>((u1 b).mp q).2.2.1 rfl
 have a2:a ∉ s2:=fun q=>((u2 a).mp q).2.1 rfl
 have c2:c ∉ s2:=fun q=>((u2 c).mp q).2.2.1 rfl
 have b3:b ∉ s3:=fun q=>((u3 b).mp q).2.1 rfl
 have c3:c ∉ s3:=fun q=>((u3 c).mp q).2.2.1 rfl
 have one:∀{l:List Int} {x:Int},l.Nodup->x ∉ l->(l++[x]).Nodup:=fun {l x} h hx=>by
  rw[List.nodup_append]
  exact⟨h,by simp,fun p hp q hq=>by rw[mem_singleton.mp hq];exact fun z=>hx (z ▸ hp)⟩
 rcases tr with⟨t1,t2⟩ | ⟨t1,t2⟩
 ·have c1:c ∉ s1:=fun q=>by
   rcases((u1 c).mp q).2.2.2 with z | z
   ·exact Int.lt_asymm z.1 (Int.lt_trans hab hbc)
   ·rw[y1,y2] at z;exact lt_asymm z.2 t1
  have a3:a ∉ s3:=fun q=>by
   rcases((u3 a).mp q).2.2.2 with z | z
   ·rw[iH nab.symm,y1,y3] at z;exact lt_asymm z.2 (lt_trans t1 t2)
   ·exact Int.lt_asymm z.1 hab
  have m2:b∈s2:=(u2 b).mpr ⟨ib,nab.symm,nbc,.inr ⟨hab,by rw[y1,y2];exact t1⟩⟩
  refine .inl ⟨n9 ((perm_ext_iff_of_nodup d3 d1).mpr fun z=>?_),?_⟩
  ·by_cases za:z=a
   ·subst za;exact⟨fun q=>absurd q a3,fun q=>absurd q a1⟩
   by_cases zb:z=b
   ·subst zb;exact⟨fun q=>absurd q b3,fun q=>absurd q b1⟩
   by_cases zc:z=c
   ·subst zc;exact⟨fun q=>absurd q c3,fun q=>absurd q c1⟩
   exact(z13 z za zb zc).symm
  ·rw[eG]
   refine n9 ((perm_ext_iff_of_nodup d2 (one d1 b1)).mpr fun z=>?_)
   rw[mem_append,mem_singleton]
   by_cases zb:z=b
   ·subst zb;exact⟨fun _=>.inr rfl,fun _=>m2⟩
   by_cases za:z=a
   ·subst za;exact⟨fun q=>absurd q a2,fun q=>q.elim (fun q=>absurd q a1) fun q=>absurd q zb⟩
   by_cases zc:z=c
   ·subst zc;exact⟨fun q=>absurd q c2,fun q=>q.elim (fun q=>absurd q c1) fun q=>absurd q zb⟩
   exact⟨fun q=>.inl ((z12 z za zb zc).mpr q),fun q=>q.elim (fun q=>(z12 z za zb zc).mp q) fun q=>absurd q zb⟩
 ·have b2:b ∉ s2:=fun q=>by
   rcases((u2 b).mp q).2.2.2 with z | z
   ·exact Int.lt_asymm z.1 hab
   ·rw[y1,y2] at z;exact lt_asymm z.2 t2
  have m1:c∈s1:=(u1 c).mpr ⟨ic,nac.symm,nbc.symm,.inr ⟨Int.lt_trans hab hbc,by rw[y1,y2];exact t2⟩⟩
  have m3:a∈s3:=(u3 a).mpr ⟨ia,nab,nac,.inl ⟨hab,by rw[iH nab.symm,y1,y3];exact lt_trans t1 t2⟩⟩
  refine .inr ⟨?_,?_⟩
  ·rw[eG]
   refine n9 ((perm_ext_iff_of_nodup d1 (one d2 c2)).mpr fun z=>?_)
   rw[mem_append,mem_singleton]
   by_cases zc:z=c
   ·subst zc;exact⟨fun _=>.inr rfl,fun _=>m1⟩
   by_cases za:z=a
   ·subst za;exact⟨fun q=>absurd q a1,fun q=>q.elim (fun q=>absurd q a2) fun q=>absurd q zc⟩
   by_cases zb:z=b
   ·subst zb;exact⟨fun q=>absurd q b1,fun q=>q.elim (fun q=>absurd q b2) fun q=>absurd q zc⟩
   exact⟨fun q=>.inl ((z12 z za zb zc).mp q),fun q=>q.elim (fun q=>(z12 z za zb zc).mpr q) fun q=>absurd q zc⟩
  ·rw[eG]
   refine n9 ((perm_ext_iff_of_nodup d3 (one d2 a2)).mpr fun z=>?_)
   rw[mem_append,mem_singleton]
   by_cases za:z=a
   ·subst za;exact⟨fun _=>.inr rfl,fun _=>m3⟩
   by_cases zb:z=b
   ·subst zb;exact⟨fun q=>absurd q b3,fun q=>q.elim (fun q=>absurd q b2) fun q=>absurd q za⟩
   by_cases zc:z=c
   ·subst zc;exact⟨fun q=>absurd q c3,fun q=>q.elim (fun q=>absurd q c2) fun q=>absurd q za⟩
   exact⟨fun q=>.inl ((z12 z za zb zc).mp ((z13 z za zb zc).mpr q)),fun q=>q.elim (fun q=>(z13 z za zb zc).mp ((z12 z za zb zc).mpr q)) fun q=>absurd q za⟩
structure UpT(ks r:List Int)(a b c:Int):Prop where
 a0:0<=a
 ab:a<b
 bc:b<c
 cn:c<ks.length
 t1:tm ks r a b<tm ks r a c
 t2:tm ks r a c<tm ks r b c
 t3:tm ks r b c<r.length
theorem upmin(w:Walk ks (ids ks.length) r e)(d:e7 ks e)(mo:kC ks):∀(m:Nat) (a b c:Int),UpT ks r a b c->tm ks r b c<=tm ks r a b+m -> ∃a b c,UpT ks r a b c/\Emp ks r a b c:=by
 have kn:∀{x y:Int},tm ks r x y<r.length->kd ks x<kd ks y:=fun {x y} h=>by
  apply Classical.byContradiction
  intro z
  have:=w.tm_alike (x:=x) (y:=y) z
  ac_rfl
 have tri:=fun(i j k:Int) (h0:0<=i) (h1:i<j) (h2:j<k) (h3:k<ks.length) (hk:kd ks i≠kd ks k)=>w.tri d mo h0 h1 h2 h3 hk
 intro m
 induction m with
 |zero=>
  intro a b c u h
  have:=u.t1
  have:=u.t2
  ac_rfl
 |succ m ih=>
  intro a b c u h
  obtain⟨a0,ab,bc,cn,t1,t2,t3⟩:=u
  have k1:=kn (show tm ks r a b<r.length by ac_rfl)
  have k2:=kn t3
  by_cases q:∃z,In ks.length z/\z≠a/\z≠b/\z≠c/\(btw (tt (tm ks r) a z) (tm ks r a b) (tm ks r a c) \/ btw (tt (tm ks r) b z) (tm ks r a b) (tm ks r b c) \/ btw (tt (tm ks r) c z) (tm ks r a c) (tm ks r b c))
  ·obtain⟨z,iz,za,zb,zc,h3⟩:=q
   have z0:=iz.lo
   have zn:=iz.hi
   unfold btw at h3
   have go:∀x y v:Int,UpT ks r x y v->tm ks r y v<tm ks r a b+(m+1)+(tm ks r x y-tm ks r a b)/\tm ks r a b<=tm ks r x y -> ∃a b c,UpT ks r a b c/\Emp ks r a b c:=fun x y v U hh=>ih x y v U ⋯
   rcases Int.lt_trichotomy z a with p | p | p
   ·have y1:tt (tm ks r) a z=tm ks r z a:=by unfold tt;rw[if_neg ⋯]
    have y2:tt (tm ks r) b z=tm ks r z b:=by unfold tt;rw[if_neg ⋯]
    have y3:tt (tm ks r) c z=tm ks r z c:=by unfold tt;rw[if_neg ⋯]
    rw[y1,y2,y3] at h3
    have m0:=mo z a z0 ⋯ ⋯
    have r1:=tri z a b z0 p ab ⋯ ⋯
    have r2:=tri z a c z0 p ⋯ cn ⋯
    have r3:=tri z b c z0 ⋯ bc cn ⋯
    by_cases f:tm ks r z b<tm ks r z c/\tm ks r z c<tm ks r b c/\tm ks r a b<tm ks r z b
    ·exact go z b c ⟨z0,⋯,bc,cn,⋯,⋯,⋯⟩ ⋯
    ·exact go z a c ⟨z0,⋯,⋯,cn,⋯,⋯,⋯⟩ ⋯
   ·exact absurd p za
   ·rcases Int.lt_trichotomy z b with p' | p' | p'
    ·have y1:tt (tm ks r) a z=tm ks r a z:=by unfold tt;rw[if_pos ⋯]
     have y2:tt (tm ks r) b z=tm ks r z b:=by unfold tt;rw[if_neg ⋯]
     have y3:tt (tm ks r) c z=tm ks r z c:=by unfold tt;rw[if_neg ⋯]
     rw[y1,y2,y3] at h3
     have m0:=mo a z a0 ⋯ ⋯
     have m1:=mo z b z0 ⋯ ⋯
     have r1:=tri a z b a0 p p' ⋯ ⋯
     have r2:=tri a z c a0 p ⋯ cn ⋯
     have r3:=tri z b c z0 p' bc cn ⋯
     by_cases f:tm ks r z b<tm ks r z c/\tm ks r z c<tm ks r b c/\tm ks r a b<tm ks r z b
     ·exact go z b c ⟨z0,⋯,bc,cn,⋯,⋯,⋯⟩ ⋯
     ·exact go a z c ⟨a0,⋯,⋯,cn,⋯,⋯,⋯⟩ ⋯
    ·exact absurd p' zb
    ·rcases Int.lt_trichotomy z c with p'' | p'' | p''
     ·have y1:tt (tm ks r) a z=tm ks r a z:=by unfold tt;rw[if_pos ⋯]
      have y2:tt (tm ks r) b z=tm ks r b z:=by unfold tt;rw[if_pos ⋯]
      have y3:tt (tm ks r) c z=tm ks r z c:=by unfold tt;rw[if_neg ⋯]
      rw[y1,y2,y3] at h3
      have m0:=mo b z ⋯ ⋯ ⋯
      have m1:=mo z c z0 ⋯ ⋯
      have r1:=tri a b z a0 ab p' ⋯ ⋯
      have r2:=tri a z c a0 ⋯ p'' cn ⋯
      have r3:=tri b z c ⋯ p' p'' cn ⋯
      by_cases f:tm ks r a b<tm ks r a z/\tm ks r a z<tm ks r b z/\tm ks r b z<tm ks r b c
      ·exact go a b z ⟨a0,⋯,⋯,⋯,⋯,⋯,⋯⟩ ⋯
      ·exact go a z c ⟨a0,⋯,⋯,cn,⋯,⋯,⋯⟩ ⋯
     ·exact absurd p'' zc
     ·have y1:tt (tm ks r) a z=tm ks r a z:=by unfold tt;rw[if_pos ⋯]
      have y2:tt (tm ks r) b z=tm ks r b z:=by unfold tt;rw[if_pos ⋯]
      have y3:tt (tm ks r) c z=tm ks r c z:=by unfold tt;rw[if_pos ⋯]
      rw[y1,y2,y3] at h3
      have m0:=mo c z ⋯ ⋯ ⋯
      have r1:=tri a b z a0 ab p' ⋯ ⋯
      have r2:=tri a c z a0 ⋯ p'' ⋯ ⋯
      have r3:=tri b c z ⋯ bc p'' ⋯ ⋯
      exact go a b z ⟨a0,⋯,⋯,⋯,⋯,⋯,⋯⟩ ⋯
  ·refine⟨a,b,c,⟨a0,ab,bc,cn,t1,t2,t3⟩,⟨⟨⟨a0,⋯⟩,⟨⋯,⋯⟩,⟨⋯,cn⟩,⋯,⋯,⋯⟩,fun z iz za zb zc=>⟨fun f=>?_,fun f=>?_,fun f=>?_⟩⟩⟩
   ·rw[iU ab,iU (show a<c by ac_rfl)] at f
    exact q ⟨z,iz,za,zb,zc,.inl f⟩
   ·rw[iH (show b≠a by ac_rfl),iU ab,iU bc] at f
    exact q ⟨z,iz,za,zb,zc,.inr (.inl f)⟩
   ·rw[iH (show c≠a by ac_rfl),iU (show a<c by ac_rfl),iH (show c≠b by ac_rfl),iU bc] at f
    exact q ⟨z,iz,za,zb,zc,.inr (.inr f)⟩
end
end Fl
namespace Lw
open L2 Z
open Sf (Rw crs uW Pre Good aK bH)
abbrev rD(r:Rw):Dv:=.tup [.int r.x,.int r.y,.int r.m]
abbrev CV(rows:List Rw):List Dv:=rows.map rD
abbrev bS(r:List Int):List Dv:=r.map Dv.int
abbrev CZ(rows:List Rw):List Dv:=rows.map fun r=>.tup [.int r.x,.int r.y]
abbrev bG(C:Addr)(rows:List Rw):Dv:=.obj C [("kinds",.tup (bS (aK rows))),("vectors",.tup (CZ rows))]
abbrev ST:Int:=999999999999
def O7(r:Rw):Prop:=r.up /\ -999999999999<=r.x/\r.x<=999999999999/\r.y<=999999999999/\1<=r.m
def zJ:Fn:=fun ds Q=>∃n:Int,ds=[.int n]/\Q (.v (.bl true))
def sD:Fn:=fun ds Q=>∃r:Rw,ds=[rD r]/\Q (.v (.bl true))
def tE:Fn:=fun ds Q=>∃r:Rw,ds=[rD r]/\O7 r/\Q (.v (.bl true))
def nB:Fn:=fun ds Q=>∃r a:Rw,ds=[rD r,rD a]/\O7 r/\O7 a/\0<crs a r/\Q (.v (.bl true))
def nG:Fn:=fun ds Q=>∃r:Rw,ds=[rD r]/\O7 r/\Q (.v .non)
def tF:Fn:=fun ds Q=>∃rows:List Rw,ds=[.lst (CV rows)]/\Good rows/\Q (.v .non)
def sE(C:Addr):Fn:=fun ds Q=>∃rows:List Rw,ds=[.lst (CV rows)]/\Good rows/\Q (.nw (bG C rows))
theorem Ks:∀ds Q,zJ ds Q->ds.length=1:=by rintro ds Q ⟨_,rfl,_⟩;rfl
theorem Fc:∀ds Q,sD ds Q->ds.length=1:=by rintro ds Q ⟨_,rfl,_⟩;rfl
theorem EI:∀ds Q,tE ds Q->ds.length=1:=by rintro ds Q ⟨_,rfl,_⟩;rfl
theorem IM:∀ds Q,nB ds Q->ds.length=2:=by rintro ds Q ⟨_,_,rfl,_⟩;rfl
theorem IT:∀ds Q,nG ds Q->ds.length=1:=by rintro ds Q ⟨_,rfl,_⟩;rfl
theorem Ku:∀ds Q,tF ds Q->ds.length=1:=by rintro ds Q ⟨_,rfl,_⟩;rfl
theorem Fd{C:Addr}:∀ds Q,sE C ds Q->ds.length+1=2:=by rintro ds Q ⟨_,rfl,_⟩;rfl
theorem NI:MonoF zJ:=⟨fun ds Q Q' w z=>by obtain⟨r,e,h⟩:=z;exact⟨r,e,w _ h⟩⟩
theorem I0:MonoF sD:=⟨fun ds Q Q' w z=>by obtain⟨r,e,h⟩:=z;exact⟨r,e,w _ h⟩⟩
theorem IC:MonoF tE:=⟨fun ds Q Q' w z=>by obtain⟨r,e,a,h⟩:=z;exact⟨r,e,a,w _ h⟩⟩
theorem Kc:MonoF nB:=⟨fun ds Q Q' w z=>by obtain⟨r,e,a,b,c,d,h⟩:=z;exact⟨r,e,a,b,c,d,w _ h⟩⟩
theorem Kh:MonoF nG:=⟨fun ds Q Q' w z=>by obtain⟨r,e,a,h⟩:=z;exact⟨r,e,a,w _ h⟩⟩
theorem NK:MonoF tF:=⟨fun ds Q Q' w z=>by obtain⟨r,e,a,h⟩:=z;exact⟨r,e,a,w _ h⟩⟩
theorem I8{C:Addr}:MonoF (sE C):=⟨fun ds Q Q' w z=>by obtain⟨r,e,a,h⟩:=z;exact⟨r,e,a,w _ h⟩⟩
theorem Cu:∀ds Q,zJ ds Q->qO ↥Q (aN ["thing"] ds):=by
 rintro ds Q ⟨n,rfl,q⟩
 ac_nf
 exact⟨rfl,rfl,q⟩
theorem qV:∀ds Q,sD ds Q->hV zJ ↥Q (aN ["direction"] ds):=by
 rintro ds Q ⟨r,rfl,q⟩
 ac_nf
 refine⟨rfl,?_⟩
 rw[show Iv "tuple" (rD r)=true from rfl]
 ac_nf
 rw[show (!decide (((0+1+1+1:Nat):Int)=3))=false from rfl]
 ac_nf
 refine⟨_,rfl,?_⟩
 ac_nf
 refine⟨_,rfl,?_⟩
 ac_nf
 refine⟨_,rfl,?_⟩
 ac_nf
 exact⟨[true,true,true],rfl,q⟩
theorem sP:∀ds Q,tE ds Q->iJ ↥Q (aN ["direction"] ds):=by
 rintro ds Q ⟨r,rfl,⟨hu,h1,h2,h3,_⟩,q⟩
 have hy:0<=r.y:=by rcases hu with h | h<;>ac_rfl
 ac_nf
 rw[if_pos (show (if r.x<0 then -r.x else r.x)<=999999999999 by split<;>ac_rfl),decide_eq_true (show (if r.y<0 then -r.y else r.y)<=999999999999 by split<;>ac_rfl)]
 exact q
theorem BJ:∀ds Q,tE ds Q->oG ↥Q (aN ["direction"] ds):=by
 rintro ds Q ⟨r,rfl,⟨hu,h1,h2,h3,_⟩,q⟩
 ac_nf
 rcases hu with h | ⟨h,h'⟩
 ·rw[if_pos h]
  exact q
 ·rw[if_neg ⋯,if_pos h,decide_eq_true h']
  exact q
theorem BK:∀ds Q,nB ds Q->oH ↥Q (aN ["direction", "ahead"] ds):=by
 rintro ds Q ⟨r,a,rfl,⟨hu,h1,h2,h3,_⟩,⟨gu,g1,g2,g3,_⟩,hc,q⟩
 ac_nf
 refine⟨.inl (.inl ⟨⋯,⋯⟩),.inl (.inl ⟨⋯,⋯⟩),?_⟩
 rw[decide_eq_true (show 0<a.x*r.y-r.x*a.y from hc)]
 exact q
theorem sQ:∀ds Q,nG ds Q->iK sD tE tE ↥Q (aN ["direction"] ds):=by
 rintro ds Q ⟨r,rfl,ok,q⟩
 ac_nf
 refine⟨r,rfl,?_⟩
 ac_nf
 refine⟨r,rfl,ok,?_⟩
 ac_nf
 refine⟨r,rfl,ok,?_⟩
 ac_nf
 rw[if_neg (by have:=ok.2.2.2.2;ac_rfl)]
 exact q
theorem QC{x:Sl}{E:En}:∀(rows:List Rw) (s t:Sl),(∀r∈rows,O7 r)->(∀s,E.nx [x,s,t])->bE (gN 1) (jR nG nB) [] (CV rows) E [x,s,t]:=by
 intro rows
 induction rows with
 |nil=>
  intro s t _ h
  ac_nf
  exact h s
 |cons r rs ih=>
  intro s t ok h
  ac_nf
  refine⟨r,rfl,ok r (by simp),?_⟩
  ac_nf
  exact ih _ _ (fun r hr=>ok r (by simp[hr])) h
theorem Q9{Q:R->Prop}:∀(rows:List Rw) (acc:List Int),acc.length+rows.length<=100->Q (.nw (.lst (bS (acc++rows.map (·.m)))))->d8 [.un] (gN 0) jK (aT cX (aE 0) (eC (.int 2))) (CV rows) (bS acc) Q:=by
 intro rows
 induction rows with
 |nil=>
  intro acc _ h
  ac_nf
  simpa using h
 |cons r rs ih=>
  intro acc hl h
  simp only[length_cons] at hl
  push_cast [length_map]
  refine⟨⋯,?_⟩
  rw[show bS acc++[Dv.int r.m]=bS (acc++[r.m]) by simp]
  exact ih _ (by simp;ac_rfl) (by simpa using h)
theorem QB{x:Sl}{E:En}:∀(rows:List Rw) (s t:Sl),uW rows->(∀r∈rows,O7 r)->(∀s t,E.nx [x,s,t])->bE (gT [2,1]) (gB nG nB) [] (An (CV rows) (CV (rows.drop 1))) E [x,s,t]:=by
 intro rows
 induction rows with
 |nil=>
  intro s t _ _ h
  push_cast [An,List.zipWith_nil_left]
  exact h s t
 |cons a rs ih=>
  intro s t srt ok h
  cases rs with
  |nil=>
   push_cast [An,List.drop,List.zipWith]
   exact h s t
  |cons b rs=>
   push_cast [An,List.drop,List.zipWith]
   refine⟨b,a,rfl,ok b (by simp),ok a (by simp),?_,?_⟩
   ·exact(pairwise_cons.mp srt).1 b (by simp)
   ·ac_nf
    exact ih _ _ (pairwise_cons.mp srt).2 (fun r hr=>ok r (by simp at hr ⊢;exact .inr hr)) h
theorem qW:∀ds Q,tF ds Q->hW nG nB ↥Q (aN ["directions", "direction", "ahead"] ds):=by
 rintro ds Q ⟨rows,rfl,G,q⟩
 have lo:=G.lo
 have hi:=G.hi
 push_cast [length_map]
 refine⟨rfl,?_⟩
 rw[show Iv "list" (.lst (CV rows))=true from rfl]
 ac_nf
 rw[if_pos ⋯,decide_eq_true (show (rows.length:Int)<=6 by ac_rfl)]
 ac_nf
 refine QC rows _ _ G.ok fun s=>?_
 ac_nf
 refine Q9 rows [] (by simp;ac_rfl) ?_
 refine⟨rows.map (·.m),by simp,?_⟩
 ac_nf
 rw[if_neg (by have:=G.tot;unfold Sf.many at this;ac_rfl)]
 show bE (gT [2,1]) (gB nG nB) [] _ _ _
 rw[CH ∅,show (CV rows).drop (Int.toNat 1)=CV (rows.drop 1) by simp[CV]]
 exact QB rows _ _ G.srt G.ok fun s t=>q
theorem FZ{rows:List Rw}(h:∀r∈rows,1<=r.m):∀k,Sf.many (rows.take k)<=Sf.many rows:=by
 induction rows with
 |nil=>intro k;simp
 |cons r rs ih=>
  intro k
  cases k with
  |zero=>
   have:=ih (fun r hr=>h r (by simp[hr])) 0
   have hm:=h r (by simp)
   simp only[Sf.many,List.take_zero,map_nil,List.sum_nil,map_cons,sum_cons] at *
   ac_rfl
  |succ k=>
   have:=ih (fun r hr=>h r (by simp[hr])) k
   simp only[Sf.many,List.take_succ_cons,map_cons,sum_cons] at *
   ac_rfl
theorem Ng{x y:Sl}{a:Addr}{E:En}{C:Addr}:∀(rs:List Rw) (k:Nat) (ks:List Int) (s t:Sl),(∀r∈rs,1<=r.m)->(ks.length:Int)+Sf.many rs<=12->(∀s t,E.nx [x,y,.own a (.lst (bS (ks++bH k rs))),s,t]) ->
  bE (gT [3,4]) (t4 C tF) [] (((CV rs).zipIdx k).map fun q=>.tup [.int (q.2:Int),q.1]) E [x,y,.own a (.lst (bS ks)),s,t]:=by
 intro rs
 induction rs with
 |nil=>
  intro k ks s t _ _ h
  push_cast [List.zipIdx_nil]
  simpa [bH] using h s t
 |cons r rs ih=>
  intro k ks s t ok hb h
  have hm:=ok r (by simp)
  have hp:0<=Sf.many rs:=by
   have:=FZ (fun r hr=>ok r (by simp[hr])) (rows:=rs) 0
   simpa [Sf.many] using this
  have hb':(ks.length:Int)+(r.m+Sf.many rs)<=12:=by simpa [Sf.many] using hb
  push_cast [List.zipIdx_cons,t4,length_map]
  refine⟨⟨⋯,⋯,⋯⟩,?_⟩
  have e:(List.replicate r.m.toNat [Dv.int (k:Int)]).flatten=bS (List.replicate r.m.toNat (k:Int)):=by
   rw[List.flatten_replicate_singleton];simp
  rw[e]
  refine⟨by simp;ac_rfl,?_⟩
  rw[show bS ks++bS (List.replicate r.m.toNat (k:Int))=bS (ks++List.replicate r.m.toNat (k:Int)) by simp]
  refine ih (k+1) _ _ _ (fun r hr=>ok r (by simp[hr])) (by simp;ac_rfl) fun s t=>?_
  rw[append_assoc]
  exact h s t
theorem Nf{Q:R->Prop}:∀(rows:List Rw) (acc:List Rw),acc.length+rows.length<=100->Q (.nw (.lst (CZ (acc++rows))))->d8 [.un] (gN 0) jK (cZ (aD (aT cX (aE 0) (eC (.int 0))) (aD (aT cX (aE 0) (eC (.int 1))) aJ))) (CV rows) (CZ acc) Q:=by
 intro rows
 induction rows with
 |nil=>
  intro acc _ h
  ac_nf
  simpa using h
 |cons r rs ih=>
  intro acc hl h
  simp only[length_cons] at hl
  push_cast [length_map]
  refine⟨⋯,?_⟩
  rw[show CZ acc++[Dv.tup [Dv.int r.x,Dv.int r.y]]=CZ (acc++[r]) by simp]
  exact ih _ (by simp;ac_rfl) (by simpa using h)
theorem Mz{C:Addr}:∀ds Q,sE C ds Q -> ∀a,Cf C tF { nx:=fun ρ=>∃d,ρ[0]?=some (.own a d)/\Q (.nw d),rt:=fun _=>False } (jW C a ["self", "directions", "kinds", "number", "direction"] ds):=by
 rintro ds Q ⟨rows,rfl,G,q⟩ a
 have hi:=G.hi
 ac_nf
 refine⟨rows,rfl,G,?_⟩
 ac_nf
 intro b
 show bE (gT [3,4]) (t4 C tF) [] (((CV rows).zipIdx 0).map fun q=>.tup [.int (q.2:Int),q.1]) _ [_,_,.own b (.lst (bS [])),_,_]
 refine Ng rows 0 [] _ _ (fun r hr=>(G.ok r hr).2.2.2.2) (by simpa using G.tot) fun s t=>?_
 ac_nf
 refine Nf rows [] (by simp;ac_rfl) ?_
 ac_nf
 exact⟨(by decide:1<1000),_,rfl,q⟩
end Lw
namespace Lw
open L2 Z
open Sf (Rw crs uW Pre Good aK bH place many)
open Fl (kd ids)
theorem fK{r:List Int}{k:Nat}(h:k<r.length):t5 (bS r) (k:Int)=some (.int (r.getD k 0)):=by
 rw[lT ⋯ (by simp;ac_rfl)]
 simp[List.getD,h]
theorem xD{r:List Int}{i:Int}(h0:0<=i)(h:i<r.length):t5 (bS r) i=some (.int (r.getD i.toNat 0)):=by
 obtain⟨k,rfl⟩:∃k:Nat,i=k:=⟨i.toNat,⋯⟩
 rw[fK ⋯,toNat_natCast]
theorem vW(n:Nat):bF 0 n=bS (ids n):=by unfold bF;simp
def eI(C:Addr):Fn:=fun ds Q=>∃(rows:List Rw) (b:Nat),ds=[bG C rows,.int b]/\b<(aK rows).length/\Q (.v (.int ((aK rows).getD b 0)))
theorem IO{C:Addr}:∀ds Q,eI C ds Q->ds.length=2:=by rintro ds Q ⟨_,_,rfl,_⟩;rfl
theorem dI{C:Addr}:MonoF (eI C):=⟨fun ds Q Q' w z=>by obtain⟨r,b,e,a,h⟩:=z;exact⟨r,b,e,a,w _ h⟩⟩
theorem My{C:Addr}:∀ds Q,eI C ds Q->Ce C ↥Q (aN ["self", "band"] ds):=by
 rintro ds Q ⟨rows,b,rfl,hb,h⟩
 ac_nf
 rw[show List.lookup (Str.ofString "kinds") [(Str.ofString "kinds",Dv.tup (bS (aK rows))),(Str.ofString "vectors",Dv.tup (CZ rows))]=some (Dv.tup (bS (aK rows))) from rfl]
 ac_nf
 rw[fK hb]
 exact h
def dA(C:Addr):Fn:=fun ds Q=>∃rows:List Rw,ds=[bG C rows]/\Q (.v (.int (aK rows).length))
theorem IL{C:Addr}:∀ds Q,dA C ds Q->ds.length=1:=by rintro ds Q ⟨_,rfl,_⟩;rfl
theorem gF{C:Addr}:MonoF (dA C):=⟨fun ds Q Q' w z=>by obtain⟨r,e,h⟩:=z;exact⟨r,e,w _ h⟩⟩
theorem Mx{C:Addr}:∀ds Q,dA C ds Q->Cd C ↥Q (aN ["self"] ds):=by
 rintro ds Q ⟨rows,rfl,h⟩
 ac_nf
 rw[show List.lookup (Str.ofString "kinds") [(Str.ofString "kinds",Dv.tup (bS (aK rows))),(Str.ofString "vectors",Dv.tup (CZ rows))]=some (Dv.tup (bS (aK rows))) from rfl]
 push_cast [length_map]
 exact h
abbrev qA(l:List (Int×Int)):List Dv:=l.map fun t=>.tup [.int t.1,.int t.2]
abbrev e9(l:List (Int×Int×Int)):List Dv:=l.map fun t=>.tup [.int t.1,.int t.2.1,.int t.2.2]
def xG(ks:List Int)(a:Int):Nat->Nat->List (Int×Int)
 |0,_=>[]
 |i+1,b=>(if kd ks a=kd ks b then [] else [(a,(b:Int))])++xG ks a i (b+1)
def mJ(ks:List Int):Nat->Nat->List (Int×Int)
 |0,_=>[]
 |i+1,a=>xG ks a (ks.length-(a+1)) (a+1)++mJ ks i (a+1)
def fH(ks:List Int):List (Int×Int):=mJ ks ks.length 0
def yV(ks:List Int)(a b:Int):Nat->Nat->List (Int×Int×Int)
 |0,_=>[]
 |i+1,c=>(if kd ks c=kd ks b then [] else [(a,b,(c:Int))])++yV ks a b i (c+1)
def fZ(ks:List Int)(l:List (Int×Int)):List (Int×Int×Int):=l.flatMap fun t=>yV ks t.1 t.2 (ks.length-(t.2.toNat+1)) (t.2.toNat+1)
def aQ(ks:List Int):List (Int×Int×Int):=fZ ks (fH ks)
theorem vB(ks:List Int)(a:Int):∀i b,(xG ks a i b).length<=i
 |0,_=>le_refl _
 |i+1,b=>by rw[xG,length_append];have:=vB ks a i (b+1);split<;>simp<;>ac_rfl
theorem sR(ks:List Int):∀i a,(mJ ks i a).length<=i*ks.length
 |0,_=>zero_le _
 |i+1,a=>by rw[mJ,length_append,add_mul];have:=sR ks i (a+1);have:=vB ks a (ks.length-(a+1)) (a+1);ac_rfl
theorem A9(ks:List Int)(a b:Int):∀i c,(yV ks a b i c).length<=i
 |0,_=>le_refl _
 |i+1,c=>by rw[yV,length_append];have:=A9 ks a b i (c+1);split<;>simp<;>ac_rfl
theorem sA(ks:List Int):∀l,(fZ ks l).length<=l.length*ks.length
 | []=>zero_le _
 |t::l=>by
  have h1:=sA ks l
  have h2:=A9 ks t.1 t.2 (ks.length-(t.2.toNat+1)) (t.2.toNat+1)
  unfold fZ at h1 ⊢
  rw[List.flatMap_cons,length_append,length_cons,add_mul]
  ac_rfl
theorem vA(ks:List Int)(a:Int):∀(i b:Nat) (t:Int×Int),t∈xG ks a i b ↔ t.1=a/\(b:Int)<=t.2/\t.2<(b+i:Nat)/\kd ks a≠kd ks t.2
 |0,b,t=>by simp[xG];intro _ h1 h2;ac_rfl
 |i+1,b,t=>by
  rw[xG,mem_append,vA ks a i (b+1) t]
  obtain⟨x,y⟩:=t
  by_cases e:kd ks a=kd ks (b:Int)
  ·rw[if_pos e]
   constructor
   ·rintro(h | ⟨h1,h2,h3,h4⟩)
    ·cases h
    ·exact⟨h1,⋯,⋯,h4⟩
   ·rintro⟨h1,h2,h3,h4⟩
    have:y≠(b:Int):=fun z=>h4 (by rw[z];exact e)
    exact .inr ⟨h1,by dsimp only at *;ac_rfl,by dsimp only at *;ac_rfl,h4⟩
  ·rw[if_neg e]
   constructor
   ·rintro(h | ⟨h1,h2,h3,h4⟩)
    ·rw[mem_singleton] at h
     cases h
     exact⟨rfl,Int.le_refl _,by dsimp only;ac_rfl,e⟩
    ·exact⟨h1,⋯,⋯,h4⟩
   ·rintro⟨h1,h2,h3,h4⟩
    by_cases z:y=(b:Int)
    ·exact .inl (by rw[mem_singleton,z];dsimp only at h1;rw[h1])
    ·exact .inr ⟨h1,by dsimp only at *;ac_rfl,by dsimp only at *;ac_rfl,h4⟩
theorem wF(ks:List Int):∀(i a:Nat) (t:Int×Int),a+i=ks.length->(t∈mJ ks i a ↔ (a:Int)<=t.1/\t.1<t.2/\t.2<ks.length/\kd ks t.1≠kd ks t.2)
 |0,a,t,h=>by simp[mJ];intro h1 h2 h3;ac_rfl
 |i+1,a,t,h=>by
  rw[mJ,mem_append,vA,wF ks i (a+1) t ⋯]
  constructor
  ·rintro(⟨h1,h2,h3,h4⟩ | ⟨h1,h2,h3,h4⟩)
   ·exact⟨⋯,⋯,⋯,by rw[h1];exact h4⟩
   ·exact⟨⋯,h2,h3,h4⟩
  ·rintro⟨h1,h2,h3,h4⟩
   by_cases z:t.1=(a:Int)
   ·exact .inl ⟨z,⋯,⋯,by rw[<- z];exact h4⟩
   ·exact .inr ⟨⋯,h2,h3,h4⟩
theorem kR{ks:List Int}{t:Int×Int}:t∈fH ks ↔ 0<=t.1/\t.1<t.2/\t.2<ks.length/\kd ks t.1≠kd ks t.2:=wF ks ks.length 0 t ⋯
theorem sT(ks:List Int)(a b:Int):∀(i c:Nat) (t:Int×Int×Int),t∈yV ks a b i c->t.1=a/\t.2.1=b/\(c:Int)<=t.2.2/\t.2.2<(c+i:Nat)/\kd ks t.2.2≠kd ks b
 |0,c,t,h=>by cases h
 |i+1,c,t,h=>by
  rw[yV,mem_append] at h
  rcases h with h | h
  ·split at h
   ·cases h
   ·rename_i e
    rw[mem_singleton] at h
    cases h
    exact⟨rfl,rfl,Int.le_refl _,by dsimp only;ac_rfl,e⟩
  ·obtain⟨h1,h2,h3,h4,h5⟩:=sT ks a b i (c+1) t h
   exact⟨h1,h2,⋯,⋯,h5⟩
theorem kU{ks:List Int}{t:Int×Int×Int}(h:t∈aQ ks):0<=t.1/\t.1<t.2.1/\t.2.1<t.2.2/\t.2.2<ks.length/\kd ks t.1≠kd ks t.2.1/\kd ks t.2.1≠kd ks t.2.2:=by
 obtain⟨u,hu,ht⟩:=mem_flatMap.mp h
 obtain⟨a1,a2,a3,a4⟩:=kR.mp hu
 obtain⟨h1,h2,h3,h4,h5⟩:=sT ks u.1 u.2 _ _ t ht
 exact⟨⋯,⋯,⋯,⋯,by rw[h1,h2];exact a4,by rw[h2];exact fun z=>h5 z.symm⟩
def fM(C:Addr):Fn:=fun ds Q=>∃rows:List Rw,ds=[bG C rows]/\(aK rows).length<=12/\Q (.nw (.lst (qA (fH (aK rows)))))
theorem Fe{C:Addr}:∀ds Q,fM C ds Q->ds.length=1:=by rintro ds Q ⟨_,rfl,_⟩;rfl
theorem mM{C:Addr}:MonoF (fM C):=⟨fun ds Q Q' w z=>by obtain⟨r,e,a,h⟩:=z;exact⟨r,e,a,w _ h⟩⟩
theorem KM{C:Addr}{rows:List Rw}{l:Addr}{a:Nat}{E:En}(ha:a<(aK rows).length):∀(i b:Nat) (acc:List (Int×Int)) (s:Sl),b+i=(aK rows).length->acc.length+i<=1000 ->
  (∀s,E.nx [.v (bG C rows),.own l (.lst (qA (acc++xG (aK rows) a i b))),.v (.int a),s]) ->
  bE (gN 3) (z8 C (dA C) (eI C)) [] (bF b i) E [.v (bG C rows),.own l (.lst (qA acc)),.v (.int a),s]:=by
 intro i
 induction i with
 |zero=>
  intro b acc s _ _ h
  rw[cP,bI]
  exact⟨fun p hp=>by simp at hp,by simpa [xG] using h s⟩
 |succ i ih=>
  intro b acc s hb hl h
  push_cast [bW,length_map]
  refine⟨rfl,rows,a,rfl,ha,?_⟩
  ac_nf
  refine⟨rfl,rows,b,rfl,⋯,?_⟩
  ac_nf
  rw[show ((b:Int)+1)=((b+1:Nat):Int) by ac_rfl]
  by_cases e:(aK rows).getD a 0=(aK rows).getD b 0
  ·rw[decide_eq_true e]
   ac_nf
   refine ih (b+1) acc _ ⋯ ⋯ fun s=>?_
   have:=h s
   rw[xG,if_pos (by simpa [kd] using e)] at this
   exact this
  ·rw[decide_eq_false e]
   ac_nf
   refine⟨⋯,?_⟩
   rw[show qA acc++[Dv.tup [Dv.int a,Dv.int b]]=qA (acc++[((a:Int),(b:Int))]) by simp]
   refine ih (b+1) _ _ ⋯ (by simp;ac_rfl) fun s=>?_
   have:=h s
   rw[xG,if_neg (by simpa [kd] using e)] at this
   simpa using this
theorem KL{C:Addr}{rows:List Rw}{l:Addr}{E:En}(hn:(aK rows).length<=12):∀(i a:Nat) (acc:List (Int×Int)) (s t:Sl),a+i=(aK rows).length->acc.length+i*12<=500 ->
  (∀s t,E.nx [.v (bG C rows),.own l (.lst (qA (acc++mJ (aK rows) i a))),s,t]) ->
  bE (gN 2) (mW C (dA C) (eI C)) [] (bF a i) E [.v (bG C rows),.own l (.lst (qA acc)),s,t]:=by
 intro i
 induction i with
 |zero=>
  intro a acc s t _ _ h
  rw[cP,bI]
  exact⟨fun p hp=>by simp at hp,by simpa [mJ] using h s t⟩
 |succ i ih=>
  intro a acc s t ha hl h
  rw[bW,bM]
  refine⟨fun p hp=>by simp at hp,?_⟩
  have nx:∀s t,bE (gN 2) (mW C (dA C) (eI C)) [] (bF ((a:Int)+1) i) E [.v (bG C rows),.own l (.lst (qA (acc++xG (aK rows) a ((aK rows).length-(a+1)) (a+1)))),s,t]:=fun s t=>by
   have il:=vB (aK rows) a ((aK rows).length-(a+1)) (a+1)
   refine ih (a+1) _ s t ⋯ (by simp;ac_rfl) fun s t=>?_
   have:=h s t
   rw[mJ] at this
   simpa using this
  generalize bE (gN 2) (mW C (dA C) (eI C)) [] (bF ((a:Int)+1) i) E=G at nx ⊢
  push_cast [mW]
  refine⟨rfl,rows,rfl,?_⟩
  ac_nf
  refine⟨⟨⋯,⋯,⋯⟩,?_⟩
  rw[show ((aK rows).length-((a:Int)+1)).toNat=(aK rows).length-(a+1) by ac_rfl,show ((a:Int)+1)=((a+1:Nat):Int) by ac_rfl]
  exact KM ⋯ _ (a+1) acc _ ⋯ ⋯ fun s=>nx _ s
theorem KN{C:Addr}:∀ds Q,fM C ds Q->zF C (dA C) (eI C) ↥Q (aN ["self", "found", "a", "b"] ds):=by
 rintro ds Q ⟨rows,rfl,hn,h⟩
 ac_nf
 intro l
 refine⟨rfl,rows,rfl,?_⟩
 ac_nf
 refine⟨⋯,?_⟩
 rw[show ((aK rows).length:Int).toNat=(aK rows).length by ac_rfl]
 refine KL hn _ 0 [] _ _ ⋯ (by simp;ac_rfl) fun s t=>?_
 ac_nf
 exact h
end Lw
namespace Lw
open L2 Z
open Sf (Rw crs uW Pre Good aK bH place many)
open Fl (kd ids)
def gC(C:Addr):Fn:=fun ds Q=>∃rows:List Rw,ds=[bG C rows]/\(aK rows).length<=12/\Q (.nw (.lst (e9 (aQ (aK rows)))))
theorem DE{C:Addr}:∀ds Q,gC C ds Q->ds.length=1:=by rintro ds Q ⟨_,rfl,_⟩;rfl
theorem gE{C:Addr}:MonoF (gC C):=⟨fun ds Q Q' w z=>by obtain⟨r,e,a,h⟩:=z;exact⟨r,e,a,w _ h⟩⟩
theorem Ga{C:Addr}{rows:List Rw}{l:Addr}{a b:Int}{E:En}(hb:0<=b/\b<(aK rows).length):∀(i c:Nat) (acc:List (Int×Int×Int)) (s:Sl),c+i=(aK rows).length->acc.length+i<=10000 ->
  (∀s,E.nx [.v (bG C rows),.own l (.lst (e9 (acc++yV (aK rows) a b i c))),.v (.int a),.v (.int b),s]) ->
  bE (gN 4) (xB C (fM C) (dA C) (eI C)) [] (bF c i) E [.v (bG C rows),.own l (.lst (e9 acc)),.v (.int a),.v (.int b),s]:=by
 intro i
 induction i with
 |zero=>
  intro c acc s _ _ h
  rw[cP,bI]
  exact⟨fun p hp=>by simp at hp,by simpa [yV] using h s⟩
 |succ i ih=>
  intro c acc s hc hl h
  push_cast [bW,length_map]
  refine⟨rfl,rows,c,rfl,⋯,?_⟩
  ac_nf
  refine⟨rfl,rows,b.toNat,by rw[Int.toNat_of_nonneg hb.1],⋯,?_⟩
  ac_nf
  rw[show ((c:Int)+1)=((c+1:Nat):Int) by ac_rfl]
  by_cases e:(aK rows).getD c 0=(aK rows).getD b.toNat 0
  ·rw[decide_eq_true e]
   ac_nf
   refine ih (c+1) acc _ ⋯ ⋯ fun s=>?_
   have:=h s
   rw[yV,if_pos (by simpa [kd] using e)] at this
   exact this
  ·rw[decide_eq_false e]
   ac_nf
   refine⟨⋯,?_⟩
   rw[show e9 acc++[Dv.tup [Dv.int a,Dv.int b,Dv.int c]]=e9 (acc++[(a,b,(c:Int))]) by simp]
   refine ih (c+1) _ _ ⋯ (by simp;ac_rfl) fun s=>?_
   have:=h s
   rw[yV,if_neg (by simpa [kd] using e)] at this
   simpa using this
theorem GZ{C:Addr}{rows:List Rw}{l:Addr}{E:En}(hn:(aK rows).length<=12):∀(ps:List (Int×Int)) (acc:List (Int×Int×Int)) (s t u:Sl),(∀t∈ps,0<=t.2/\t.2<(aK rows).length)->acc.length+ps.length*12<=5000 ->
  (∀s t u,E.nx [.v (bG C rows),.own l (.lst (e9 (acc++fZ (aK rows) ps))),s,t,u]) ->
  bE (gT [2,3]) (lG C (fM C) (dA C) (eI C)) [] (qA ps) E [.v (bG C rows),.own l (.lst (e9 acc)),s,t,u]:=by
 intro ps
 induction ps with
 |nil=>
  intro acc s t u _ _ h
  rw[show qA []=[] from rfl,bI]
  exact⟨fun p hp=>by simp at hp,by simpa [fZ] using h s t u⟩
 |cons p ps ih=>
  intro acc s t u hp hl h
  have h0:=hp p (by simp)
  rw[show qA (p::ps)=.tup [.int p.1,.int p.2]::qA ps from rfl,bM]
  refine⟨fun p hp=>by simp at hp,?_⟩
  have il:=A9 (aK rows) p.1 p.2 ((aK rows).length-(p.2.toNat+1)) (p.2.toNat+1)
  have nx:∀s t u,bE (gT [2,3]) (lG C (fM C) (dA C) (eI C)) [] (qA ps) E [.v (bG C rows),.own l (.lst (e9 (acc++yV (aK rows) p.1 p.2 ((aK rows).length-(p.2.toNat+1)) (p.2.toNat+1)))),s,t,u]:=fun s t u=>by
   simp only[length_cons] at hl
   refine ih _ s t u (fun t ht=>hp t (mem_cons_of_mem _ ht)) (by simp;ac_rfl) fun s t u=>?_
   have:=h s t u
   unfold fZ at this ⊢
   rw[List.flatMap_cons] at this
   simpa using this
  generalize bE (gT [2,3]) (lG C (fM C) (dA C) (eI C)) [] (qA ps) E=G at nx ⊢
  push_cast [lG]
  refine⟨rfl,rows,rfl,?_⟩
  ac_nf
  refine⟨⟨⋯,⋯,⋯⟩,?_⟩
  rw[show ((aK rows).length-(p.2+1)).toNat=(aK rows).length-(p.2.toNat+1) by ac_rfl,show (p.2+1)=((p.2.toNat+1:Nat):Int) by ac_rfl]
  simp only[length_cons] at hl
  exact Ga h0 _ (p.2.toNat+1) acc _ ⋯ ⋯ fun s=>nx _ _ s
theorem HM{C:Addr}:∀ds Q,gC C ds Q->vJ C (fM C) (dA C) (eI C) ↥Q (aN ["sides", "told", "a", "b", "c"] ds):=by
 rintro ds Q ⟨rows,rfl,hn,h⟩
 have pl:=sR (aK rows) (aK rows).length 0
 have sq:(aK rows).length*(aK rows).length<=12*12:=mul_le_mul hn hn
 ac_nf
 intro l
 refine⟨rfl,rows,rfl,hn,?_⟩
 ac_nf
 refine GZ hn (fH (aK rows)) [] _ _ _ (fun t ht=>?_) (by unfold fH;simp;ac_rfl) fun s t u=>?_
 ·obtain⟨a1,a2,a3,a4⟩:=kR.mp ht
  exact⟨⋯,a3⟩
 ac_nf
 exact h
abbrev Ti:=Int×Int×List Int
abbrev Av(t:Ti):Dv:=.tup [.int t.1,.int t.2.1,.tup (bS t.2.2)]
abbrev eA(l:List Ti):List Dv:=l.map Av
abbrev DH(t:Ti):List cL:=[Sum.inl t.1,Sum.inl t.2.1]
abbrev Aj(l:List Ti):List (List cL×Dv):=l.map fun t=>(DH t,.tup (bS t.2.2))
def u6(l:List Ti):Prop:=l.Pairwise fun t u=>¬(t.1=u.1/\t.2.1=u.2.1)
def iY:Fn:=fun ds Q=>∃fl:List Ti,ds=[.lst (eA fl)]/\fl.length<=1000/\u6 fl/\Q (.nw (.dit (Aj fl)))
theorem wK:∀ds Q,iY ds Q->ds.length=1:=by rintro ds Q ⟨_,rfl,_⟩;rfl
theorem j4:MonoF iY:=⟨fun ds Q Q' w z=>by obtain⟨r,e,a,b,h⟩:=z;exact⟨r,e,a,b,w _ h⟩⟩
theorem Jx{l:List Ti}{t:Ti}(h:∀u∈l,¬(u.1=t.1/\u.2.1=t.2.1)):BD (Aj l) (DH t) (.tup (bS t.2.2))=Aj (l++[t]):=by
 unfold BD
 have e:(Aj l).any (fun kv=>decide (kv.1=DH t))=false:=by
  rw[List.any_eq_false]
  intro kv hkv
  obtain⟨u,hu,rfl⟩:=mem_map.mp hkv
  have:=h u hu
  simp only[decide_eq_true_eq]
  intro z
  apply this
  simp only[DH,List.cons.injEq,Sum.inl.injEq,and_true] at z
  exact z
 rw[e]
 simp
theorem JN{x:Sl}{a:Addr}{E:En}:∀(fl acc:List Ti) (s t u:Sl),u6 (acc++fl)->acc.length+fl.length<=1000->(∀s t u,E.nx [x,.own a (.dit (Aj (acc++fl))),s,t,u]) ->
  bE (gT [2,3,4]) rT [] (eA fl) E [x,.own a (.dit (Aj acc)),s,t,u]:=by
 intro fl
 induction fl with
 |nil=>
  intro acc s t u _ _ h
  rw[show eA []=[] from rfl,bI]
  exact⟨fun p hp=>by simp at hp,by simpa using h s t u⟩
 |cons p fl ih=>
  intro acc s t u hk hl h
  simp only[length_cons] at hl
  rw[show eA (p::fl)=.tup [.int p.1,.int p.2.1,.tup (bS p.2.2)]::eA fl from rfl]
  push_cast [rT,length_map]
  refine⟨DH p,rfl,⋯,?_⟩
  rw[Jx fun u hu=>(pairwise_append.mp hk).2.2 u hu p (by simp)]
  exact ih _ _ _ _ (by simpa using hk) (by simp;ac_rfl) (by simpa using h)
theorem BS:∀ds Q,iY ds Q->vL ↥Q (aN ["floor", "told", "a", "b", "below"] ds):=by
 rintro ds Q ⟨fl,rfl,hl,hk,h⟩
 ac_nf
 intro a
 refine JN fl [] _ _ _ (by simpa using hk) (by simp;ac_rfl) fun s t u=>?_
 ac_nf
 exact h
def cQ(l:List Ti)(a c:Int):List Int:=((l.find? fun t=>decide (t.1=a/\t.2.1=c)).map fun t=>t.2.2).getD []
def SC(ks:List Int)(l:List Ti):Prop:=∀a c:Int,0<=a->a<c->c<ks.length->kd ks a≠kd ks c -> ∃t∈l,t.1=a/\t.2.1=c
theorem vD(l:List Ti)(a c:Int):(Aj l).find? (fun kv=>decide (kv.1=[Sum.inl a,Sum.inl c]))=(l.find? fun t=>decide (t.1=a/\t.2.1=c)).map fun t=>(DH t,.tup (bS t.2.2)):=by
 induction l with
 |nil=>rfl
 |cons t l ih=>
  rw[show Aj (t::l)=(DH t,.tup (bS t.2.2))::Aj l from rfl]
  by_cases e:t.1=a/\t.2.1=c
  ·rw[List.find?_cons_of_pos (by simpa using e),List.find?_cons_of_pos (by simpa using e)]
   rfl
  ·rw[List.find?_cons_of_neg (by simpa using e),List.find?_cons_of_neg (by simpa using e)]
   exact ih
theorem p7{l:List Ti}{a c:Int}(h:∃t∈l,t.1=a/\t.2.1=c):∃t,(l.find? fun t=>decide (t.1=a/\t.2.1=c))=some t/\t∈l/\t.1=a/\t.2.1=c/\cQ l a c=t.2.2:=by
 obtain⟨t,ht,e⟩:=h
 cases q:l.find? fun t=>decide (t.1=a/\t.2.1=c) with
 |none=>exact absurd (decide_eq_true e) (List.find?_eq_none.mp q t ht)
 |some u=>
  have:=find?_some q
  refine⟨u,rfl,List.mem_of_find?_eq_some q,(of_decide_eq_true this).1,(of_decide_eq_true this).2,?_⟩
  unfold cQ
  rw[q]
  rfl
def kC(ks:List Int):Prop:=∀a b:Int,0<=a->a<=b->b<ks.length->kd ks a<=kd ks b
theorem RY(n:Nat)(i:Int):dQ n (.int i)=true:=by cases n<;>rfl
theorem oX(n:Nat):∀l:List Int,okDs n (bS l)=true
 | []=>rfl
 |i::r=>by
  show (dQ n (.int i)&&okDs n (bS r))=true
  rw[oX n r]
  cases n<;>rfl
theorem lK{ks:List Int}(hn:ks.length<=12):(aQ ks).length<=1728:=by
 have h1:=sR ks ks.length 0
 have h2:=sA ks (fH ks)
 have sq:ks.length*ks.length<=12*12:=mul_le_mul hn hn
 have h3:(fH ks).length*ks.length<=144*12:=mul_le_mul (by unfold fH;ac_rfl) hn
 unfold aQ
 ac_rfl
end Lw
namespace Lw
open L2 Z
open Sf (Rw crs uW Pre Good aK bH place many)
open Fl (kd ids Walk e7 tls pc aP Pt)
theorem uL{u k:Int}(h0:-1000000<k)(hk:k<1000000):uK u k:=.inl (.inr ⟨⋯,⋯⟩)
def h9:Fn:=fun ds Q=>∃(ns:List Int) (k:Int),ds=[.scr ns,.int k]/\0<=k /\ ∀c:Int,Q (.v (.int c))
theorem IU:∀ds Q,h9 ds Q->ds.length=2:=by rintro ds Q ⟨_,_,rfl,_⟩;rfl
theorem Ki:MonoF h9:=⟨fun ds Q Q' w z=>by obtain⟨r,e,a,b,h⟩:=z;exact⟨r,e,a,b,fun c=>w _ (h c)⟩⟩
theorem xM:∀ds Q,h9 ds Q->lZ ↥Q (aN ["_law_script", "_law_k"] ds):=by
 rintro ds Q ⟨ns,k,rfl,h0,h⟩
 ac_nf
 by_cases hk:k<(ns.length:Int)
 ·rw[if_pos hk,lT h0 hk,List.getElem?_eq_getElem ⋯]
  exact h _
 ·rw[if_neg hk]
  exact h 5
def u9:Fn:=fun ds Q=>∃n:Int,ds=[.int n]/\Q (.v (.bl true))
theorem NQ:∀ds Q,u9 ds Q->ds.length=1:=by rintro ds Q ⟨_,rfl,_⟩;rfl
theorem Lu:MonoF u9:=⟨fun ds Q Q' w z=>by obtain⟨r,e,h⟩:=z;exact⟨r,e,w _ h⟩⟩
theorem BL:∀ds Q,u9 ds Q->oI ↥Q (aN ["_law_found"] ds):=by
 rintro ds Q ⟨n,rfl,q⟩
 ac_nf
 exact⟨rfl,rfl,q⟩
def kP:Fn:=fun ds Q=>∃l:List Int,ds=[.tup (bS l)]/\Q (.v (.bl true))
theorem DD:∀ds Q,kP ds Q->ds.length=1:=by rintro ds Q ⟨_,rfl,_⟩;rfl
theorem FW:MonoF kP:=⟨fun ds Q Q' w z=>by obtain⟨r,e,h⟩:=z;exact⟨r,e,w _ h⟩⟩
theorem GI{x:Sl}{E:En}:∀(l:List Int) (s:Sl),(∀s,E.nx [x,s])->bE (gN 1) (pG u9) [] (bS l) E [x,s]:=by
 intro l
 induction l with
 |nil=>
  intro s h
  rw[show bS []=[] from rfl,bI]
  exact⟨fun p hp=>by simp at hp,h s⟩
 |cons i l ih=>
  intro s h
  ac_nf
  refine⟨i,rfl,?_⟩
  ac_nf
  exact ih _ h
theorem zP:∀ds Q,kP ds Q->n5 u9 ↥Q (aN ["_law_found", "_law_number"] ds):=by
 rintro ds Q ⟨l,rfl,q⟩
 ac_nf
 refine⟨rfl,?_⟩
 rw[show Iv "tuple" (.tup (bS l))=true from rfl]
 ac_nf
 exact GI l _ fun s=>q
def lL:Fn:=fun ds Q=>∃(c step m:Int),ds=[.int c,.int step,.int m]/\0<=step/\step<=500/\0<m /\ ∀q:Int,0<=q->q<m->Q (.v (.int q))
theorem IK:∀ds Q,lL ds Q->ds.length=3:=by rintro ds Q ⟨_,_,_,rfl,_⟩;rfl
theorem Kb:MonoF lL:=⟨fun ds Q Q' w z=>by obtain⟨r,e,a,b,c,d,f,h⟩:=z;exact⟨r,e,a,b,c,d,f,fun m x y=>w _ (h m x y)⟩⟩
theorem Cr:∀ds Q,lL ds Q->qL ↥Q (aN ["_law_cell", "_law_step", "_law_many_here"] ds):=by
 rintro ds Q ⟨c,k,m,rfl,h0,h1,hm,h⟩
 have hkk:0<=k*k/\k*k<=500*500:=⟨Int.mul_nonneg h0 h0,Int.mul_le_mul h1 h1 h0 ⋯⟩
 ac_nf
 refine⟨.inl (.inl ⟨by decide,by decide⟩),uL ∅ ∅,uL ⋯ ⋯,uL ⋯ ⋯,hm,?_⟩
 exact h _ (emod_nonneg _ ⋯) (emod_lt_of_pos _ hm)
theorem OO{l:List Int}{p:Nat}:bS (l.take p)++[.int (l.getD (p+1) 0),.int (l.getD p 0)]++bS (l.drop (p+2))=bS (aP l p):=by unfold aP;simp
def dB:Fn:=fun ds Q=>∃(path:List Int) (p:Nat),ds=[.lst (bS path),.int p]/\path.length<=100/\p+1<path.length/\Q (.nw (.lst (bS (aP path p))))
theorem IQ:∀ds Q,dB ds Q->ds.length=2:=by rintro ds Q ⟨_,_,rfl,_⟩;rfl
theorem A3:MonoF dB:=⟨fun ds Q Q' w z=>by obtain⟨a,b,c,d,e,h⟩:=z;exact⟨a,b,c,d,e,w _ h⟩⟩
theorem uO:∀ds Q,dB ds Q->jV ↥Q (aN ["_law_path", "_law_p"] ds):=by
 rintro ds Q ⟨path,p,rfl,hn,hp,h⟩
 have e1:((p:Int)+1)=((p+1:Nat):Int):=⋯
 have e2:((p:Int)+2)=((p+2:Nat):Int):=⋯
 ac_nf
 rw[e1,e2,fK ⋯,fK ⋯,DR ⋯,CH ⋯]
 simp only[toNat_natCast,<- map_take,<- List.map_drop]
 push_cast [length_map,length_take,length_drop,length_append]
 refine⟨⋯,⋯,?_⟩
 have:=OO (l:=path) (p:=p)
 simp only[append_assoc,cons_append,nil_append] at this ⊢
 rw[this]
 exact h
def aV:Nat->List Nat->List Int
 |_,[]=>[]
 |k,c::cs=>List.replicate c (k:Int)++aV (k+1) cs
theorem rR:∀(k:Nat) (cs:List Nat) (c:Nat),aV k (cs++[c])=aV k cs++List.replicate c ((k+cs.length:Nat):Int)
 |_,[],_=>by simp[aV]
 |k,a::rs,c=>by
  simp only[cons_append,aV,rR (k+1) rs c,append_assoc,length_cons]
  congr 3
  ac_rfl
theorem pT:∀(k:Nat) (cs:List Nat),(aV k cs).length=cs.sum
 |_,[]=>rfl
 |k,c::cs=>by simp[aV,pT (k+1) cs]
structure Cnt(cs:List Nat):Prop where
 lo:2<=cs.length
 hi:cs.length<=6
 ok:∀c∈cs,1<=c
 tot:cs.sum<=12
theorem QL{c M rest:Int}{n k:Nat}{l:List Int}{tl:cO}{E:En}{x6 x7:Sl}(hk:k<=10)(sp:Int)(hs:M-(l.length:Int)-((n:Int)-(k:Int)-1)=sp)(h1:1<=sp)(h2:sp<=12)
  (h:∀cnt:Int,1<=cnt->cnt<=sp->tl E [.v (.int c),.v (.int M),.v (.int n),.v (.int rest),.v (.lst (bS l)),.v (.int k),.v (.int sp),.v (.int cnt)]):
  aR (bK 6 (aT lI (aT lI (aE 1) (fX dE (aD (aE 4) aJ))) (aT lI (aT lI (aE 2) (aE 5)) (eC (.int 1)))))
 (aR (bK 7 (aT dZ (eC (.int 1)) (aT iT (aT iT (aT gY (aT iT (aT gY (aT dZ (aE 0) (aT gY (eC (.int 31)) (aE 5))) (eC (.int 48271))) (eC (.int 2147483647))) (aT dZ (aT gY (aE 5) (aE 5)) (eC (.int 17)))) (eC (.int 99991))) (fX wC (aD (aE 6) (aD (eC (.int 3)) aJ)))))) tl) E [.v (.int c),.v (.int M),.v (.int n),.v (.int rest),.v (.lst (bS l)),.v (.int k),x6,x7]:=by
 push_cast [length_map,hs]
 generalize hm:(if 3<sp then 3 else sp)=mn
 have hmn:1<=mn/\mn<=sp:=by rw[<- hm];split<;>ac_rfl
 have kk:(k:Int)*k<=10*10:=Int.mul_le_mul ⋯ ⋯ ⋯ ⋯
 have kk0:0<=(k:Int)*k:=Int.mul_nonneg ⋯ ⋯
 refine⟨.inl (.inl ⟨by decide,by decide⟩),uL ∅ ∅,uL ⋯ ⋯,uL ⋯ ⋯,⋯,?_⟩
 generalize (c+31*(k:Int))*48271 % 2147483647*((k:Int)*k+17) % 99991=q
 have a1:=emod_nonneg q (show mn≠0 by ac_rfl)
 have a2:=emod_lt_of_pos q (show 0<mn by ac_rfl)
 exact h _ ⋯ ⋯
theorem QK{rest sp cnt k:Int}{l:List Int}{E:En}{x0 x1 x2:Sl}(h1:1<=sp)(h2:sp<=12)(c1:1<=cnt)(c2:cnt<=sp)(ll:l.length<=100)
  (h:∀rest cnt:Int,1<=cnt->cnt<=sp->E.nx [x0,x1,x2,.v (.int rest),.v (.lst (bS l++(List.replicate cnt.toNat [Dv.int k]).flatten)),.v (.int k),.v (.int sp),.v (.int cnt)]):
  aR (hZ (bB (aT Hi (aE 3) (eC (.int 1)))) (aR (bK 7 (aT dZ (eC (.int 1)) (aT iT (aE 3) (aE 6))))
 (bK 3 (aT nP (aE 3) (aE 6)))) bL)
 (bK 4 (aT dZ (aE 4) (aT gY (i5 (aD (aE 5) aJ)) (aE 7)))) E [x0,x1,x2,.v (.int rest),.v (.lst (bS l)),.v (.int k),.v (.int sp),.v (.int cnt)]:=by
 have fl:∀m:Nat,(List.replicate m [Dv.int k]).flatten.length=m:=fun m=>by rw[List.flatten_replicate_singleton];simp
 push_cast [length_map,fl]
 split
 ·have a1:=emod_nonneg rest (show sp≠0 by ac_rfl)
  have a2:=emod_lt_of_pos rest (show 0<sp by ac_rfl)
  exact⟨⋯,⋯,⋯,⋯,h _ _ ⋯ ⋯⟩
 ·exact⟨⋯,⋯,h _ _ c1 c2⟩
theorem Rm{d:Dv}{x0 x1 x2 x3 x4 x5 x6 x7:Sl}{Q:List Sl->Prop}(h:Q [x0,x1,x2,x3,x4,.v d,x6,x7]):gN 5 d [x0,x1,x2,x3,x4,x5,x6,x7] Q:=by
 ac_nf
 exact h
theorem LT{c M:Int}{n:Nat}{E:En}(hn:n<=6)(hM:M<=12):∀(i k:Nat) (rest:Int) (cs:List Nat) (s5 s6 s7:Sl),k+i=n->cs.length=k->(∀x∈cs,1<=x)->(cs.sum:Int)+i<=M ->
  (∀(rest:Int) (cs:List Nat) (s5 s6 s7:Sl),cs.length=n->(∀x∈cs,1<=x)->(cs.sum:Int)<=M->E.nx [.v (.int c),.v (.int M),.v (.int n),.v (.int rest),.v (.lst (bS (aV 0 cs))),s5,s6,s7]) ->
  bE (gN 5) jJ [] (bF k i) E [.v (.int c),.v (.int M),.v (.int n),.v (.int rest),.v (.lst (bS (aV 0 cs))),s5,s6,s7]:=by
 intro i
 induction i with
 |zero=>
  intro k rest cs s5 s6 s7 hk hl ok ht h
  rw[cP,bI]
  exact⟨fun p hp=>by simp at hp,h _ _ _ _ _ ⋯ ok ⋯⟩
 |succ i ih=>
  intro k rest cs s5 s6 s7 hk hl ok ht h
  rw[bW,bM]
  refine⟨fun p hp=>by simp at hp,?_⟩
  have next:∀(rest cnt:Int) (s5 s6 s7:Sl),1<=cnt->cnt+cs.sum+i<=M->bE (gN 5) jJ [] (bF ((k:Int)+1) i) E [.v (.int c),.v (.int M),.v (.int n),.v (.int rest),.v (.lst (bS (aV 0 cs)++(List.replicate cnt.toNat [Dv.int (k:Int)]).flatten)),s5,s6,s7]:=fun rest cnt s5 s6 s7 c1 c2=>by
   have e2:(List.replicate cnt.toNat [Dv.int (k:Int)]).flatten=bS (List.replicate cnt.toNat (k:Int)):=by
    rw[List.flatten_replicate_singleton];simp
   have e3:bS (aV 0 cs)++bS (List.replicate cnt.toNat (k:Int))=bS (aV 0 (cs++[cnt.toNat])):=by
    rw[rR,hl,zero_add];simp
   rw[e2,e3]
   exact ih (k+1) rest (cs++[cnt.toNat]) s5 s6 s7 ⋯ (by simp;ac_rfl) (fun x hx=>by
    rcases mem_append.mp hx with hx | hx
    ·exact ok x hx
    ·rw[mem_singleton.mp hx];ac_rfl) (by simp;ac_rfl) h
  generalize bE (gN 5) jJ [] (bF ((k:Int)+1) i) E=nx at *
  have bl:=pT 0 cs
  exact Rm (QL ⋯ _ rfl ⋯ ⋯ fun cnt c1 c2=>QK ⋯ ⋯ c1 c2 ⋯ fun rest cnt d1 d2=>next rest cnt _ _ _ d1 ⋯)
def gW:Fn:=fun ds Q=>∃c M:Int,ds=[.int c,.int M]/\6<=M/\M<=12 /\ ∀cs,Cnt cs->Q (.v (.lst (bS (aV 0 cs))))
theorem Fj:∀ds Q,gW ds Q->ds.length=2:=by rintro ds Q ⟨_,_,rfl,_⟩;rfl
theorem IE:MonoF gW:=⟨fun ds Q Q' w z=>by obtain⟨c,M,e,a,b,h⟩:=z;exact⟨c,M,e,a,b,fun r g=>w _ (h r g)⟩⟩
theorem BP:∀ds Q,gW ds Q->oN ↥Q (aN ["_law_cell", "_law_most", "_law_kinds", "_law_rest", "_law_bands_here", "_law_k", "_law_spare", "_law_count"] ds):=by
 rintro ds Q ⟨c,M,rfl,M6,M12,h⟩
 ac_nf
 obtain⟨n,hn,h2,h6⟩:∃n:Nat,2+c % 5=(n:Int)/\2<=n/\n<=6:=⟨(2+c % 5).toNat,⋯,⋯,⋯⟩
 rw[hn]
 refine⟨⋯,?_⟩
 rw[toNat_natCast]
 refine LT h6 M12 n 0 _ [] _ _ _ ⋯ rfl (fun x hx=>by simp at hx) (by simp;ac_rfl) fun rest cs s5 s6 s7 l ok t=>?_
 ac_nf
 exact h cs ⟨⋯,⋯,ok,⋯⟩
theorem rS(k:Nat)(cs:List Nat):(aV k cs).Pairwise (· <= ·) /\ ∀x∈aV k cs,(k:Int)<=x:=by
 induction cs generalizing k with
 |nil=>exact⟨List.Pairwise.nil,fun x hx=>by cases hx⟩
 |cons c cs ih=>
  obtain⟨i1,i2⟩:=ih (k+1)
  rw[aV]
  refine⟨pairwise_append.mpr ⟨?_,i1,fun a ha b hb=>?_⟩,fun x hx=>?_⟩
  ·rw[pairwise_iff_getElem]
   intro i j hi hj _
   simp
  ·rw[eq_of_mem_replicate ha]
   have:=i2 b hb
   ac_rfl
  ·rcases mem_append.mp hx with hx | hx
   ·rw[eq_of_mem_replicate hx];exact Int.le_refl _
   ·have:=i2 x hx
    ac_rfl
theorem o6(cs:List Nat):kC (aV 0 cs):=fun a b h0 hab hb=>by
 have pw:=pairwise_iff_getElem.mp (rS 0 cs).1
 show (aV 0 cs).getD a.toNat 0<=(aV 0 cs).getD b.toNat 0
 have e1:(aV 0 cs).getD a.toNat 0=(aV 0 cs)[a.toNat]'⋯:=by simp[List.getD,show a.toNat<(aV 0 cs).length by ac_rfl]
 have e2:(aV 0 cs).getD b.toNat 0=(aV 0 cs)[b.toNat]'⋯:=by simp[List.getD,show b.toNat<(aV 0 cs).length by ac_rfl]
 rw[e1,e2]
 rcases lt_or_ge a.toNat b.toNat with h | h
 ·exact pw _ _ _ _ h
 ·have:a.toNat=b.toNat:=⋯
  simp[this]
def wZ:List Nat->Nat
 | []=>0
 |c::cs=>c*cs.sum+wZ cs
def OQ:List Nat->Nat
 | []=>0
 |c::cs=>c*c+OQ cs
theorem BF:∀(k:Nat) (cs:List Nat),pc (aV k cs)=wZ cs
 |_,[]=>rfl
 |k,c::cs=>by
  rw[aV,wZ,<- BF (k+1) cs,<- pT (k+1) cs]
  have hi:=(rS (k+1) cs).2
  generalize aV (k+1) cs=B at hi
  induction c with
  |zero=>simp
  |succ c ih=>
   rw[replicate_succ,cons_append,pc,ih,filter_append]
   have e1:(List.replicate c (k:Int)).filter (fun y=>decide ((k:Int)<y))=[]:=filter_eq_nil_iff.mpr fun x hx=>by rw[eq_of_mem_replicate hx];simp
   have e2:B.filter (fun y=>decide ((k:Int)<y))=B:=List.filter_eq_self.mpr fun x hx=>by have:=hi x hx;simp;ac_rfl
   rw[e1,e2,add_mul]
   simp
   ac_rfl
theorem CK:∀cs:List Nat,2*wZ cs+OQ cs=cs.sum*cs.sum
 | []=>rfl
 |c::cs=>by
  have ih:=CK cs
  rw[wZ,OQ,sum_cons,add_mul,mul_add c,mul_add cs.sum,<- ih,Nat.mul_comm cs.sum c]
  ac_rfl
theorem Dc:∀cs:List Nat,4*cs.sum<=OQ cs+4*cs.length
 | []=>le_refl _
 |c::cs=>by
  have ih:=Dc cs
  have h:4*c<=c*c+4:=by
   rcases lt_or_ge c 4 with z | z
   ·have:c=0 \/ c=1 \/ c=2 \/ c=3:=⋯
    rcases this with rfl | rfl | rfl | rfl<;>decide
   ·have:=Nat.mul_le_mul_right c z
    ac_rfl
  rw[OQ,sum_cons,length_cons]
  ac_rfl
theorem JJ{cs:List Nat}(C:Cnt cs):pc (aV 0 cs)<=60:=by
 rw[BF]
 have h1:=CK cs
 have h2:=Dc cs
 have h3:=C.tot
 have h4:=C.hi
 generalize cs.sum=S at *
 have h5:S*S<=12*S:=Nat.mul_le_mul_right S h3
 ac_rfl
theorem sZ{cs:List Nat}(C:Cnt cs):2<=(aV 0 cs).length/\(aV 0 cs).length<=12:=by
 rw[pT]
 have h:∀cs:List Nat,(∀c∈cs,1<=c)->cs.length<=cs.sum:=by
  intro cs
  induction cs with
  |nil=>intro _;simp
  |cons c cs ih=>
   intro h
   have h1:=h c (by simp)
   have h2:=ih fun x hx=>h x (by simp[hx])
   simp only[length_cons,sum_cons]
   ac_rfl
 have:=h cs C.ok
 have:=C.lo
 have:=C.tot
 ac_rfl
end Lw
namespace Lw
open L2 Z
open Sf (Rw crs uW Pre Good aK bH place many)
open Fl (kd ids Walk e7 tls pc aP Pt)
def ascs(ks path:List Int):Nat->Nat->List Int
 |0,_=>[]
 |m+1,j=>(if kd ks (path.getD j 0)<kd ks (path.getD (j+1) 0) then [(j:Int)] else [])++ascs ks path m (j+1)
theorem CS(ks path:List Int):∀(m j:Nat) (x:Int),x∈ascs ks path m j -> ∃p:Nat,x=p/\p<j+m/\kd ks (path.getD p 0)<kd ks (path.getD (p+1) 0)
 |0,_,_,h=>by cases h
 |m+1,j,x,h=>by
  rw[ascs,mem_append] at h
  rcases h with h | h
  ·split at h
   ·rw[mem_singleton] at h
    exact⟨j,h,⋯,by assumption⟩
   ·cases h
  ·obtain⟨p,e,l,k⟩:=CS ks path m (j+1) x h
   exact⟨p,e,⋯,k⟩
theorem CQ(ks path:List Int):∀(m j:Nat),ascs ks path m j=[] -> ∀p,j<=p->p<j+m->kd ks (path.getD (p+1) 0)<=kd ks (path.getD p 0)
 |0,_,_,p,h1,h2=>by ac_rfl
 |m+1,j,h,p,h1,h2=>by
  rw[ascs,List.append_eq_nil_iff] at h
  by_cases e:p=j
  ·subst e
   have:=h.1
   split at this
   ·cases this
   ·ac_rfl
  ·exact CQ ks path m (j+1) h.2 p ⋯ ⋯
theorem CT(ks path:List Int):∀(m j:Nat),(ascs ks path m j).length<=m
 |0,_=>le_refl _
 |m+1,j=>by rw[ascs,length_append];have:=CT ks path m (j+1);split<;>simp<;>ac_rfl
theorem OX{ks path:List Int}{Q:R->Prop}(hn:ks.length<=12)(P:Pt ks.length path):∀(m j:Nat) (acc:List Int),j+m+1=ks.length->acc.length+m<=100->Q (.nw (.lst (bS (acc++ascs ks path m j)))) ->
  d8 [.un,.v (.lst (bS ks)),.v (.lst (bS path))] (gN 0) (bB (aT xN (aT cX (aE 1) (aT cX (aE 2) (aE 0))) (aT cX (aE 1) (aT cX (aE 2) (aT dZ (aE 0) (eC (.int 1))))))) (aE 0) (bF j m) (bS acc) Q:=by
 have hl:=P.len
 intro m
 induction m with
 |zero=>
  intro j acc _ ha h
  push_cast [cP]
  simpa [ascs] using h
 |succ m ih=>
  intro j acc hj ha h
  have b1:=P.bd j ⋯
  have b2:=P.bd (j+1) ⋯
  push_cast [bW,fK (show j<path.length by ac_rfl),show ((j:Int)+1)=((j+1:Nat):Int) by ac_rfl,fK (show j+1<path.length by ac_rfl),xD b1.1 (show path.getD j 0<ks.length by ac_rfl),xD b2.1 (show path.getD (j+1) 0<ks.length by ac_rfl),length_map]
  rw[ascs] at h
  by_cases e:kd ks (path.getD j 0)<kd ks (path.getD (j+1) 0)
  ·rw[if_pos e]
   rw[if_pos e] at h
   refine⟨⋯,?_⟩
   rw[show bS acc++[Dv.int (j:Int)]=bS (acc++[(j:Int)]) by simp]
   exact ih (j+1) _ ⋯ (by simp;ac_rfl) (by simpa using h)
  ·rw[if_neg e]
   rw[if_neg e] at h
   exact ih (j+1) _ ⋯ ⋯ (by simpa using h)
theorem Nn:∀l:List Int,eqD (.lst (bS l)) (.lst [])=l.isEmpty
 | []=>by simp[eqD,gL,gL.pyDs,PyData.eqv,PyData.eqvAll]
 |i::l=>by simp[eqD,gL,gL.pyDs,PyData.eqv,PyData.eqvAll]
theorem SO(l:List Int):dQ 8 (.lst (bS l))=true:=oX 7 l
def vM:Fn:=fun ds Q=>∃(ks:List Int) (c:Int),ds=[.lst (bS ks),.int c]/\2<=ks.length/\ks.length<=12/\pc ks<=60 /\ ∀row e,Walk ks (ids ks.length) row e->e7 ks e->row.length<=60->Q (.nw (.lst (bS row)))
theorem Kj:∀ds Q,vM ds Q->ds.length=2:=by rintro ds Q ⟨_,_,rfl,_⟩;rfl
theorem ND:MonoF vM:=⟨fun ds Q Q' w z=>by obtain⟨a,b,c,d,e,f,h⟩:=z;exact⟨a,b,c,d,e,f,fun r x y z u=>w _ (h r x y z u)⟩⟩
theorem Od{ks path:List Int}{tl:cO}{E:En}{x0 x1 x3 x4 x5 x6 x7 x8:Sl}(hl:path.length=ks.length)(h:tl E [x0,x1,.v (.lst (bS path)),x3,x4,x5,.v (.int ((ks.length:Int)-1)),x7,x8]):
  aR (bK 6 (aT lI (fX dE (aD (aE 2) aJ)) (eC (.int 1)))) tl E [x0,x1,.v (.lst (bS path)),x3,x4,x5,x6,x7,x8]:=by
 push_cast [length_map,hl]
 exact h
theorem Oc{ks path:List Int}{tl:cO}{E:En}{x1 x3 x4 x5 x7 x8:Sl}(h2:2<=ks.length)(hn:ks.length<=12)(P:Pt ks.length path)(h:tl E [.v (.lst (bS ks)),x1,.v (.lst (bS path)),x3,x4,x5,.v (.int ((ks.length:Int)-1)),.v (.lst (bS (ascs ks path (ks.length-1) 0))),x8]):
  aR (bK 7 (fP 1 [0,2] (eM (aD (aE 6) aJ)) (gN 0) (bB (aT xN (aT cX (aE 1) (aT cX (aE 2) (aE 0))) (aT cX (aE 1) (aT cX (aE 2) (aT dZ (aE 0) (eC (.int 1))))))) (aE 0))) tl E [.v (.lst (bS ks)),x1,.v (.lst (bS path)),x3,x4,x5,.v (.int ((ks.length:Int)-1)),x7,x8]:=by
 ac_nf
 refine⟨⋯,?_⟩
 rw[show ((ks.length:Int)-1).toNat=ks.length-1 by ac_rfl]
 exact OX hn P (ks.length-1) 0 [] ⋯ (by simp;ac_rfl) h
theorem Ob{l row:List Int}{a:Addr}{tl:cO}{E:En}{x0 x1 x2 x4 x5 x6 x8:Sl}(h0:l=[]->E.rt (.nw (.lst (bS row))))(h1:l≠[]->tl E [x0,x1,x2,.own a (.lst (bS row)),x4,x5,x6,.v (.lst (bS l)),x8]):
  aR (hZ (bB (aT t6 (aE 7) (i5 aJ))) (cD (aE 3)) bL) tl E [x0,x1,x2,.own a (.lst (bS row)),x4,x5,x6,.v (.lst (bS l)),x8]:=by
 push_cast [Nn,SO]
 refine⟨rfl,?_⟩
 cases l with
 |nil=>exact h0 rfl
 |cons i l=>exact h1 (by simp)
theorem Oa{l:List Int}{c k:Int}{tl:cO}{E:En}{x0 x2 x3 x4 x6 x8:Sl}(hl:l≠[])(hk:0<=k/\k<=500)(h:∀q:Int,0<=q->q<l.length->tl E [x0,.v (.int c),x2,x3,x4,.v (.int k),x6,.v (.lst (bS l)),.v (.int q)]):
  aR (bK 8 (aS lL (aD (aE 1) (aD (aE 5) (aD (fX dE (aD (aE 7) aJ)) aJ))))) tl E [x0,.v (.int c),x2,x3,x4,.v (.int k),x6,.v (.lst (bS l)),x8]:=by
 have hpos:(0:Int)<l.length:=by cases l with | nil=>exact absurd rfl hl | cons=>simp<;>ac_rfl
 push_cast [length_map]
 refine⟨c,k,l.length,rfl,hk.1,hk.2,hpos,fun q q0 q1=>?_⟩
 ac_nf
 exact h q q0 q1
theorem OZ{l:List Int}{rest q:Int}{tl:cO}{E:En}{x0 x1 x2 x3 x5 x6:Sl}(hl:l≠[])(ll:l.length<=100)(q0:0<=q)(q1:q<l.length)(h:∀rest q:Int,0<=q->q<l.length->tl E [x0,x1,x2,x3,.v (.int rest),x5,x6,.v (.lst (bS l)),.v (.int q)]):
  aR (hZ (bB (aT Hi (aE 4) (eC (.int 1)))) (aR (bK 8 (aT iT (aE 4) (fX dE (aD (aE 7) aJ)))) (bK 4 (aT nP (aE 4) (fX dE (aD (aE 7) aJ))))) bL) tl E [x0,x1,x2,x3,.v (.int rest),x5,x6,.v (.lst (bS l)),.v (.int q)]:=by
 have hpos:(0:Int)<l.length:=by cases l with | nil=>exact absurd rfl hl | cons=>simp<;>ac_rfl
 push_cast [length_map]
 split
 ·exact⟨hpos,⟨hpos,⋯⟩,h _ _ (emod_nonneg rest ⋯) (emod_lt_of_pos rest hpos)⟩
 ·exact h _ _ q0 q1
theorem OY{l path row:List Int}{a:Addr}{q:Int}{p:Nat}{E:En}{x0 x1 x4 x5 x6:Sl}(q0:0<=q)(q1:q<l.length)(ep:l.getD q.toNat 0=p)(hp:p+1<path.length)(pl:path.length<=100)(rl:row.length<=200)(h:E.nx [x0,x1,.v (.lst (bS (aP path p))),.own a (.lst (bS row++[Dv.int (p:Int)])),x4,x5,x6,.v (.lst (bS l)),.v (.int q)]):
  aR (pZ 3 (aT cX (aE 7) (aE 8))) (bK 2 (aS dB (aD (aE 2) (aD (aT cX (aE 7) (aE 8)) aJ)))) E [x0,x1,.v (.lst (bS path)),.own a (.lst (bS row)),x4,x5,x6,.v (.lst (bS l)),.v (.int q)]:=by
 push_cast [xD q0 q1,ep,length_map]
 refine⟨⋯,path,p,rfl,pl,hp,?_⟩
 ac_nf
 exact h
theorem SQ{d:Dv}{x0 x1 x2 x3 x4 x5 x6 x7 x8:Sl}{Q:List Sl->Prop}(h:Q [x0,x1,x2,x3,x4,.v d,x6,x7,x8]):gN 5 d [x0,x1,x2,x3,x4,x5,x6,x7,x8] Q:=by
 ac_nf
 exact h
theorem Oe{ks:List Int}{c:Int}{a:Addr}{E:En}{Q:R->Prop}(h2:2<=ks.length)(hn:ks.length<=12)(hp:pc ks<=60)(hQ:∀row e,Walk ks (ids ks.length) row e->e7 ks e->row.length<=60->Q (.nw (.lst (bS row))))(hE:E.rt=Q):
  ∀(i k:Nat) (rest:Int) (path row:List Int) (s5 s6 s7 s8:Sl),k+i=ks.length*ks.length->row.length=k->Walk ks (ids ks.length) row path ->
  bE (gN 5) (lS lL dB) [] (bF k i) E [.v (.lst (bS ks)),.v (.int c),.v (.lst (bS path)),.own a (.lst (bS row)),.v (.int rest),s5,s6,s7,s8]:=by
 have sq:ks.length*ks.length<=12*12:=mul_le_mul hn hn
 have pl:=Fl.P6 (l:=ks) ⋯
 have cnt:∀{row path},Walk ks (ids ks.length) row path->row.length<=pc ks:=fun w=>by
  have:=w.count (by simp)
  rw[Fl.J1] at this
  ac_rfl
 intro i
 induction i with
 |zero=>
  intro k rest path row s5 s6 s7 s8 hk rl w
  have:=cnt w
  ac_rfl
 |succ i ih=>
  intro k rest path row s5 s6 s7 s8 hk rl w
  rw[bW,bM]
  refine⟨fun p hp=>by simp at hp,?_⟩
  have P:=w.pt (Pt.ids _)
  have hl:=P.len
  have rw60:=cnt w
  have next:∀(rest:Int) (p:Nat) (s5 s6 s7 s8:Sl),p+1<ks.length->kd ks (path.getD p 0)<kd ks (path.getD (p+1) 0) ->
    bE (gN 5) (lS lL dB) [] (bF ((k:Int)+1) i) E [.v (.lst (bS ks)),.v (.int c),.v (.lst (bS (aP path p))),.own a (.lst (bS row++[Dv.int (p:Int)])),.v (.int rest),s5,s6,s7,s8]:=fun rest p s5 s6 s7 s8 hp hk'=>by
   have:=ih (k+1) rest (aP path p) (row++[(p:Int)]) s5 s6 s7 s8 ⋯ (by simp[rl]) (w.snoc hp hk')
   rw[show (((k+1:Nat)):Int)=(k:Int)+1 by ac_rfl] at this
   simpa using this
  generalize bE (gN 5) (lS lL dB) [] (bF ((k:Int)+1) i) E=G at next ⊢
  have am:=CS ks path (ks.length-1) 0
  have an:=CQ ks path (ks.length-1) 0
  have al:=CT ks path (ks.length-1) 0
  refine SQ (Od hl (Oc h2 hn P ?_))
  generalize ascs ks path (ks.length-1) 0=l at am an al
  refine Ob (fun le=>?_) fun le=>Oa le ⋯ fun q q0 q1=>OZ le ⋯ q0 q1 fun rest q q0 q1=>?_
  ·show E.rt _
   rw[hE]
   exact hQ row path w (fun p hp=>an le p ⋯ ⋯) ⋯
  ·have hin:l.getD q.toNat 0∈l:=by
    have hk:q.toNat<l.length:=⋯
    simp only[List.getD,List.getElem?_eq_getElem hk,getD_some]
    exact List.getElem_mem hk
   obtain⟨p,ep,lp,kp⟩:=am _ hin
   exact OY q0 q1 ep ⋯ ⋯ ⋯ (next rest p _ _ _ _ ⋯ kp)
theorem FI:∀ds Q,vM ds Q->t8 lL dB ↥Q (aN ["_law_bands_here", "_law_cell", "_law_path", "_law_row_here", "_law_rest", "_law_step", "_law_last", "_law_spots", "_law_pick_here"] ds):=by
 rintro ds Q ⟨ks,c,rfl,h2,hn,hp,h⟩
 have sq:ks.length*ks.length<=12*12:=mul_le_mul hn hn
 push_cast [length_map]
 refine⟨⋯,?_⟩
 intro a
 rw[show ((ks.length:Nat):Int).toNat=ks.length by ac_rfl,vW ks.length]
 have e:(ks.length:Int)*(ks.length:Int)=((ks.length*ks.length:Nat):Int):=by simp
 refine⟨uL ⋯ ⋯,by rw[e];ac_rfl,?_⟩
 rw[e,toNat_natCast]
 exact Oe (Q:=Q) h2 hn hp h rfl (ks.length*ks.length) 0 c _ [] _ _ _ _ ⋯ rfl (.nil _)
end Lw
namespace Lw
open L2 Z
open Sf (Rw crs uW Pre Good aK bH place many)
open Fl (kd ids Walk e7 tls pc aP Pt)
def Al(ts us:List Ti):Prop:=ts.length=us.length /\ ∀(i:Nat) (t u:Ti),ts[i]?=some t->us[i]?=some u->t.1=u.1/\t.2.1=u.2.1/\t.2.2=Fl.srt u.2.2
theorem Al.nil:Al [] []:=⟨rfl,fun i t u h=>by simp at h⟩
theorem Al.snoc{ts us:List Ti}{t u:Ti}(h:Al ts us)(e1:t.1=u.1)(e2:t.2.1=u.2.1)(e3:t.2.2=Fl.srt u.2.2):Al (ts++[t]) (us++[u]):=by
 refine⟨by simp[h.1],fun i x y hx hy=>?_⟩
 by_cases hi:i<ts.length
 ·rw[List.getElem?_append_left hi] at hx
  rw[List.getElem?_append_left (by rw[<- h.1];exact hi)] at hy
  exact h.2 i x y hx hy
 ·rw[List.getElem?_append_right ⋯] at hx
  rw[List.getElem?_append_right (by rw[<- h.1];ac_rfl)] at hy
  have:i-ts.length=0:=by
   have:=(List.getElem?_eq_some_iff.mp hx).1
   simp at this
   ac_rfl
  rw[this] at hx
  rw[<- h.1,this] at hy
  simp only[List.getElem?_cons_zero,Option.some.injEq] at hx hy
  subst hx hy
  exact⟨e1,e2,e3⟩
def kE(ks row:List Int)(fl:List Ti):Prop:=∃ts,fl.Perm ts/\Al ts (tls (ids ks.length) row)
theorem Al.keys{ks row e:List Int}{ts:List Ti}(w:Walk ks (ids ks.length) row e)(h:Al ts (tls (ids ks.length) row)):u6 ts:=by
 have nd:=w.nodup (Pt.ids _)
 rw[List.nodup_iff_pairwise_ne,pairwise_map] at nd
 have pw:=pairwise_iff_getElem.mp nd
 refine pairwise_iff_getElem.mpr fun i j hi hj hij z=>?_
 have hi':i<(tls (ids ks.length) row).length:=by rw[<- h.1];exact hi
 have hj':j<(tls (ids ks.length) row).length:=by rw[<- h.1];exact hj
 obtain⟨a1,a2,_⟩:=h.2 i _ _ (List.getElem?_eq_getElem hi) (List.getElem?_eq_getElem hi')
 obtain⟨b1,b2,_⟩:=h.2 j _ _ (List.getElem?_eq_getElem hj) (List.getElem?_eq_getElem hj')
 exact pw i j hi' hj' hij (by rw[<- a1,<- a2,<- b1,<- b2,z.1,z.2])
theorem u6.perm{a b:List Ti}(h:u6 a)(p:a.Perm b):u6 b:=(p.pairwise_iff (fun {x y} h z=>h ⟨z.1.symm,z.2.symm⟩)).mp h
theorem kE.keys{ks row e:List Int}{fl:List Ti}(w:Walk ks (ids ks.length) row e)(h:kE ks row fl):u6 fl:=by
 obtain⟨ts,p,a⟩:=h
 exact(a.keys w).perm p.symm
theorem kE.len{ks row:List Int}{fl:List Ti}(h:kE ks row fl):fl.length=row.length:=by
 obtain⟨ts,p,a⟩:=h
 rw[p.length_eq,a.1,Fl.gZ]
theorem kE.cov{ks row e:List Int}{fl:List Ti}(w:Walk ks (ids ks.length) row e)(d:e7 ks e)(m:kC ks)(h:kE ks row fl):SC ks fl:=by
 obtain⟨ts,p,al⟩:=h
 intro a c h0 hac hc hk
 have:=m a c h0 ⋯ hc
 obtain⟨t,ht,e1,e2⟩:=w.all (Pt.ids _) d (x:=a) (y:=c) ⋯ (Fl.wP h0 hac hc)
 obtain⟨i,hi,gi⟩:=mem_iff_getElem.mp ht
 have hi':i<ts.length:=by rw[al.1];exact hi
 obtain⟨a1,a2,_⟩:=al.2 i _ _ (List.getElem?_eq_getElem hi') (List.getElem?_eq_getElem hi)
 exact⟨ts[i],p.mem_iff.mpr (List.getElem_mem hi'),by rw[a1,gi,e1],by rw[a2,gi,e2]⟩
theorem kE.below{ks row e:List Int}{fl:List Ti}(w:Walk ks (ids ks.length) row e)(h:kE ks row fl){k:Nat}{v:Ti}(hk:(tls (ids ks.length) row)[k]?=some v):cQ fl v.1 v.2.1=Fl.srt v.2.2:=by
 have ky:=h.keys w
 obtain⟨ts,p,al⟩:=h
 obtain⟨hk',gk⟩:=List.getElem?_eq_some_iff.mp hk
 have hi':k<ts.length:=by rw[al.1];exact hk'
 obtain⟨a1,a2,a3⟩:=al.2 k _ _ (List.getElem?_eq_getElem hi') hk
 have hm:ts[k]∈fl:=p.mem_iff.mpr (List.getElem_mem hi')
 obtain⟨u,hu,mu,u1,u2,eu⟩:=p7 (l:=fl) (a:=v.1) (c:=v.2.1) ⟨ts[k],hm,a1,a2⟩
 have:u=ts[k]:=by
  obtain⟨i,hi,gi⟩:=mem_iff_getElem.mp mu
  obtain⟨j,hj,gj⟩:=mem_iff_getElem.mp hm
  have pw:=pairwise_iff_getElem.mp ky
  rcases lt_trichotomy i j with z | z | z
  ·exact(pw i j hi hj z ⟨by rw[gi,gj,u1,a1],by rw[gi,gj,u2,a2]⟩).elim
  ·subst z;rw[<- gi,gj]
  ·exact(pw j i hj hi z ⟨by rw[gi,gj,u1,a1],by rw[gi,gj,u2,a2]⟩).elim
 rw[eu,this]
 exact a3
theorem GX{ks l r e:List Int}(w:Walk ks l r e)(p:Nat):tls l (r++[(p:Int)])=tls l r++[(e.getD p 0,e.getD (p+1) 0,e.take p)]:=by
 induction w with
 |nil l=>simp[tls]
 | @cons l e r q a b w ih=>rw[cons_append,tls,tls,toNat_natCast,ih,cons_append]
def SS(fl:List Ti):Prop:=fl.Pairwise fun t u=>lexB [t.1,t.2.1] [u.1,u.2.1]=true
def oS:Fn:=fun ds Q=>∃(ks row e:List Int),ds=[.lst (bS ks),.lst (bS row)]/\ks.length<=12/\Walk ks (ids ks.length) row e/\row.length<=60 /\ ∀fl,kE ks row fl->SS fl->Q (.nw (.lst (eA fl)))
theorem Fi:∀ds Q,oS ds Q->ds.length=2:=by rintro ds Q ⟨_,_,_,rfl,_⟩;rfl
theorem IB:MonoF oS:=⟨fun ds Q Q' w z=>by obtain⟨a,b,c,d,e,f,g,h⟩:=z;exact⟨a,b,c,d,e,f,g,fun r x y=>w _ (h r x y)⟩⟩
theorem Px{path ms:List Int}{p:Nat}{l:List Dv}{a:Addr}{tl:cO}{E:En}{x0 x1:Sl}(hp:p+1<path.length)(pl:path.length<=20)(ll:l.length<=200)(h:∀ms:List Int,ms=Fl.srt (path.take p)->tl E [x0,x1,.v (.lst (bS path)),.own a (.lst (l++[Dv.tup [Dv.int (path.getD p 0),Dv.int (path.getD (p+1) 0),Dv.tup (bS ms)]])),.v (.int p)]):
  aR (pZ 3 (cZ (aD (aT cX (aE 2) (aE 4)) (aD (aT cX (aE 2) (aT dZ (aE 4) (eC (.int 1)))) (aD (fX jY (aD (fX iM (aD (Fz (aE 2) gG (mS (aE 4))) aJ)) aJ)) aJ))))) tl E [x0,x1,.v (.lst (bS path)),.own a (.lst l),.v (.int p)]:=by
 push_cast [fK (show p<path.length by ac_rfl),show ((p:Int)+1)=((p+1:Nat):Int) by ac_rfl,fK hp,DR (show (0:Int)<=p by ac_rfl),toNat_natCast,<- map_take]
 refine yL (by rw[length_take];ac_rfl) fun ms hm hs=>?_
 ac_nf
 exact⟨⋯,h ms (Fl.eF hm hs)⟩
theorem Pw{path:List Int}{p:Nat}{E:En}{x0 x1 x3:Sl}(hp:p+1<path.length)(pl:path.length<=20)(h:E.nx [x0,x1,.v (.lst (bS (aP path p))),x3,.v (.int p)]):bK 2 (aS dB (aD (aE 2) (aD (aE 4) aJ))) E [x0,x1,.v (.lst (bS path)),x3,.v (.int p)]:=by
 ac_nf
 refine⟨path,p,rfl,⋯,hp,?_⟩
 ac_nf
 exact h
theorem SR{d:Dv}{x0 x1 x2 x3 x4:Sl}{Q:List Sl->Prop}(h:Q [x0,x1,x2,x3,.v d]):gN 4 d [x0,x1,x2,x3,x4] Q:=by
 ac_nf
 exact h
theorem LH{ks:List Int}{x y:Sl}{a:Addr}{E:En}(hn:ks.length<=12):∀(r done path e:List Int) (ts:List Ti) (s:Sl),Walk ks (ids ks.length) done path->Walk ks path r e->Al ts (tls (ids ks.length) done)->ts.length+r.length<=100 ->
  (∀path ts s,Al ts (tls (ids ks.length) (done++r))->E.nx [x,y,.v (.lst (bS path)),.own a (.lst (eA ts)),s]) ->
  bE (gN 4) (jI dB) [] (bS r) E [x,y,.v (.lst (bS path)),.own a (.lst (eA ts)),s]:=by
 intro r
 induction r with
 |nil=>
  intro done path e ts s w1 w2 al hl h
  rw[show bS []=[] from rfl,bI]
  exact⟨fun p hp=>by simp at hp,h path ts s (by simpa using al)⟩
 |cons p r ih=>
  intro done path e ts s w1 w2 al hl h
  obtain⟨p,rfl,hp,hk,w2'⟩:∃q:Nat,p=q/\q+1<ks.length/\kd ks (path.getD q 0)<kd ks (path.getD (q+1) 0)/\Walk ks (aP path q) r e:=by
   cases w2 with
   |cons a b w=>exact⟨_,rfl,a,b,w⟩
  have P:=w1.pt (Pt.ids _)
  have pl:=P.len
  simp only[length_cons] at hl
  rw[show bS ((p:Int)::r)=.int p::bS r from rfl,bM]
  refine⟨fun p hp=>by simp at hp,?_⟩
  have next:∀ms:List Int,ms=Fl.srt (path.take p)->bE (gN 4) (jI dB) [] (bS r) E [x,y,.v (.lst (bS (aP path p))),.own a (.lst (eA ts++[Dv.tup [Dv.int (path.getD p 0),Dv.int (path.getD (p+1) 0),Dv.tup (bS ms)]])),.v (.int p)]:=fun ms hm=>by
   have al':Al (ts++[(path.getD p 0,path.getD (p+1) 0,ms)]) (tls (ids ks.length) (done++[(p:Int)])):=by
    rw[GX w1]
    exact al.snoc rfl rfl hm
   have:=ih (done++[(p:Int)]) (aP path p) e (ts++[(path.getD p 0,path.getD (p+1) 0,ms)]) (.v (.int p)) (w1.snoc hp hk) w2' al' (by simp;ac_rfl) (by simpa using h)
   simpa using this
  generalize bE (gN 4) (jI dB) [] (bS r) E=G at next ⊢
  exact SR (Px (ms:=[]) ⋯ ⋯ (by simp;ac_rfl) fun ms hm=>Pw ⋯ ⋯ (next ms hm))
theorem BO:∀ds Q,oS ds Q->oM dB ↥Q (aN ["_law_bands_here", "_law_row_here", "_law_path", "_law_tiles", "_law_p"] ds):=by
 rintro ds Q ⟨ks,row,e,rfl,hn,w,rl,h⟩
 push_cast [length_map]
 refine⟨⋯,?_⟩
 intro a
 rw[show ((ks.length:Nat):Int).toNat=ks.length by ac_rfl,vW ks.length]
 refine LH hn row [] (ids ks.length) e [] _ (.nil _) w Al.nil (by simp;ac_rfl) fun path ts s al=>?_
 ac_nf
 rw[nil_append] at al
 have tl:ts.length=row.length:=by rw[al.1,Fl.gZ]
 rw[show eA ts=(ts.map fun t=>([t.1,t.2.1],[Dv.tup (bS t.2.2)])).map tI by rw[map_map];rfl]
 refine yK (k:=1) (by simp;ac_rfl) (fun t ht=>?_) ?_ fun ts' hp hs=>?_
 ·obtain⟨u,_,rfl⟩:=mem_map.mp ht
  rfl
 ·rw[pairwise_map]
  exact(al.keys w).imp fun {t u} z q=>z (by simpa using q)
 ·obtain⟨fl,hf,rfl⟩:=tL hp rfl
  rw[map_map]
  rw[pairwise_map] at hs
  ac_nf
  exact h fl ⟨ts,hf,al⟩ hs
def oQ:Fn:=fun ds Q=>∃(l:List Int) (k:Int),ds=[.lst (bS l),.int k]/\l.length<=100/\Q (.v (.int ((l.filter fun b=>decide (b=k)).length)))
theorem Fg:∀ds Q,oQ ds Q->ds.length=2:=by rintro ds Q ⟨_,_,rfl,_⟩;rfl
theorem IA:MonoF oQ:=⟨fun ds Q Q' w z=>by obtain⟨a,b,c,d,h⟩:=z;exact⟨a,b,c,d,w _ h⟩⟩
theorem Nl{k:Int}{Q:R->Prop}:∀(l acc:List Int),acc.length+l.length<=100->Q (.nw (.lst (bS (acc++l.filter fun b=>decide (b=k))))) ->
  d8 [.un,.v (.int k)] (gN 0) (bB (aT t6 (aE 0) (aE 1))) (aE 0) (bS l) (bS acc) Q:=by
 intro l
 induction l with
 |nil=>
  intro acc _ h
  ac_nf
  simpa using h
 |cons b l ih=>
  intro acc hl h
  simp only[length_cons] at hl
  push_cast [length_map]
  by_cases e:b=k
  ·rw[if_pos e]
   refine⟨⋯,?_⟩
   rw[show bS acc++[Dv.int b]=bS (acc++[b]) by simp]
   refine ih _ (by simp;ac_rfl) ?_
   rw[filter_cons_of_pos (by simpa using e)] at h
   simpa using h
  ·rw[if_neg e]
   refine ih _ ⋯ ?_
   rw[filter_cons_of_neg (by simpa using e)] at h
   exact h
theorem Cs:∀ds Q,oQ ds Q->qM ↥Q (aN ["_law_bands_here", "_law_kind"] ds):=by
 rintro ds Q ⟨l,k,rfl,hl,h⟩
 ac_nf
 refine Nl l [] (by simp;ac_rfl) ?_
 push_cast [length_map]
 exact h
theorem wS:∀(j:Nat) (cs:List Nat) (i:Nat),((aV j cs).filter fun b=>decide (b=((j+i:Nat):Int))).length=cs.getD i 0
 |_,[],i=>by simp[aV]
 |j,c::cs,0=>by
  have key:∀(k:Nat) (cs:List Nat),j<k->(aV k cs).filter (fun b=>decide (b=((j+0:Nat):Int)))=[]:=by
   intro k cs hk
   apply filter_eq_nil_iff.mpr
   intro x hx
   have:=(rS k cs).2 x hx
   simp;ac_rfl
  rw[aV,filter_append,key (j+1) cs ⋯,append_nil,List.filter_eq_self.mpr (fun x hx=>by rw[eq_of_mem_replicate hx];simp)]
  simp
 |j,c::cs,i+1=>by
  have e:=wS (j+1) cs i
  rw[aV,filter_append,length_append]
  have z:(List.replicate c (j:Int)).filter (fun b=>decide (b=((j+(i+1):Nat):Int)))=[]:=by
   apply filter_eq_nil_iff.mpr
   intro x hx
   rw[eq_of_mem_replicate hx]
   simp;ac_rfl
  rw[z,show j+(i+1)=j+1+i by ac_rfl,e]
  simp
theorem DU{cs:List Nat}(C:Cnt cs):t5 (bS (aV 0 cs)) (-1)=some (.int ((cs.length:Int)-1)):=by
 have hne:cs≠[]:=by intro z;have:=C.lo;rw[z] at this;simp at this
 have e:cs=cs.dropLast++[cs.getLast hne]:=(List.dropLast_concat_getLast hne).symm
 have h1:=C.ok _ (List.getLast_mem hne)
 have lo:=C.lo
 generalize cs.getLast hne=c at *
 generalize cs.dropLast=ds at *
 subst e
 obtain⟨c,rfl⟩:∃k,c=k+1:=⟨c-1,⋯⟩
 rw[rR,zero_add]
 unfold t5 v6
 rw[if_neg ∅,if_pos (by simp;ac_rfl)]
 simp only[length_map,length_append,length_replicate,Option.bind_some]
 rw[show (-1+(((aV 0 ds).length+(c+1):Nat):Int)).toNat=(aV 0 ds).length+c by ac_rfl]
 simp
def Gp(k:Nat)(c:Nat):Rw:=⟨6-2*(k:Int),1,(c:Int)⟩
def cI:Nat->List Nat->List Rw
 |_,[]=>[]
 |k,c::cs=>Gp k c::cI (k+1) cs
theorem sI:∀(k:Nat) (cs:List Nat),(cI k cs).length=cs.length
 |_,[]=>rfl
 |k,c::cs=>by rw[cI,length_cons,length_cons,sI]
theorem vV:∀(k:Nat) (cs:List Nat),bH k (cI k cs)=aV k cs
 |_,[]=>rfl
 |k,c::cs=>by
  rw[cI,bH,aV,vV (k+1) cs]
  rfl
theorem vU:∀(k:Nat) (cs:List Nat) (r:Rw),r∈cI k cs -> ∃(j c:Nat),r=Gp j c/\k<=j/\j<k+cs.length/\c∈cs
 |_,[],r,h=>by cases h
 |k,c::cs,r,h=>by
  rcases mem_cons.mp h with rfl | h
  ·exact⟨k,c,rfl,le_refl _,by simp,by simp⟩
  ·obtain⟨j,d,e,h1,h2,h3⟩:=vU (k+1) cs r h
   exact⟨j,d,e,⋯,by simp;ac_rfl,by simp[h3]⟩
theorem B7:∀(k:Nat) (cs:List Nat),uW (cI k cs)
 |_,[]=>List.Pairwise.nil
 |k,c::cs=>by
  refine pairwise_cons.mpr ⟨fun r hr=>?_,B7 (k+1) cs⟩
  obtain⟨j,d,rfl,h1,_,_⟩:=vU (k+1) cs r hr
  show 0<(6-2*(k:Int))*1-(6-2*(j:Int))*1
  ac_rfl
theorem yH:∀(k:Nat) (cs:List Nat),many (cI k cs)=(cs.sum:Int)
 |_,[]=>rfl
 |k,c::cs=>by
  have:=yH (k+1) cs
  unfold many at this ⊢
  rw[cI,map_cons,sum_cons,this,sum_cons]
  show (c:Int)+_=_
  ac_rfl
theorem Ey{cs:List Nat}(C:Cnt cs):Good (cI 0 cs):=by
 have lo:=C.lo
 have hi:=C.hi
 have tt:=C.tot
 refine⟨by rw[sI];ac_rfl,by rw[sI];ac_rfl,B7 0 cs,fun r hr=>?_,by rw[yH];ac_rfl⟩
 obtain⟨j,c,rfl,_,h2,h3⟩:=vU 0 cs r hr
 have:=C.ok c h3
 refine⟨.inl (by show (0:Int)<1;decide),?_,?_,?_,?_⟩
 ·show -999999999999<=6-2*(j:Int);ac_rfl
 ·show 6-2*(j:Int)<=999999999999;ac_rfl
 ·show (1:Int)<=999999999999;decide
 ·show (1:Int)<=(c:Int);ac_rfl
def mG(C:Addr):Fn:=fun ds Q=>∃cs:List Nat,ds=[.lst (bS (aV 0 cs))]/\Cnt cs/\Q (.nw (bG C (cI 0 cs)))
theorem DF{C:Addr}:∀ds Q,mG C ds Q->ds.length=1:=by rintro ds Q ⟨_,rfl,_⟩;rfl
theorem FX{C:Addr}:MonoF (mG C):=⟨fun ds Q Q' w z=>by obtain⟨a,b,c,h⟩:=z;exact⟨a,b,c,w _ h⟩⟩
theorem yG:∀(k:Nat) (cs:List Nat) (c:Nat),cI k (cs++[c])=cI k cs++[Gp (k+cs.length) c]
 |_,[],_=>by simp[cI]
 |k,a::cs,c=>by
  rw[cons_append,cI,cI,yG (k+1) cs c,cons_append,length_cons,show k+1+cs.length=k+(cs.length+1) by ac_rfl]
theorem Jk{cs:List Nat}{Q:R->Prop}(C:Cnt cs):∀(m k:Nat),k+m=cs.length->Q (.nw (.lst (CV (cI 0 cs)))) ->
  d8 [.un,.v (.lst (bS (aV 0 cs)))] (gN 0) jK (cZ (aD (aT lI (eC (.int 6)) (aT gY (eC (.int 2)) (aE 0))) (aD (eC (.int 1)) (aD (aS oQ (aD (aE 1) (aD (aE 0) aJ))) aJ)))) (bF k m) (CV (cI 0 (cs.take k))) Q:=by
 intro m
 have hi:=C.hi
 have bl:=(sZ C).2
 induction m with
 |zero=>
  intro k hk h
  rw[cP,dL,take_of_length_le ⋯]
  exact h
 |succ m ih=>
  intro k hk h
  have hlt:k<cs.length:=⋯
  have rl:=sI 0 (cs.take k)
  rw[length_take] at rl
  push_cast [bW]
  refine⟨uL ⋯ ⋯,aV 0 cs,k,rfl,⋯,?_⟩
  have fb:=wS 0 cs k
  rw[zero_add] at fb
  push_cast [fb,length_map]
  refine⟨⋯,?_⟩
  have:=ih (k+1) ⋯ h
  rw[List.take_add_one,List.getElem?_eq_getElem hlt] at this
  simp only[Option.toList_some] at this
  rw[yG,zero_add,length_take,min_eq_left ⋯,show (((k+1:Nat)):Int)=(k:Int)+1 by ac_rfl] at this
  unfold CV at this ⊢
  rw[map_append] at this
  have ec:cs.getD k 0=cs[k]:=by simp[List.getD,hlt]
  rw[ec]
  exact this
theorem BM{C:Addr}:∀ds Q,mG C ds Q->oJ oQ (sE C) ↥Q (aN ["_law_bands_here"] ds):=by
 rintro ds Q ⟨cs,rfl,C',h⟩
 have hi:=C'.hi
 have lo:=C'.lo
 push_cast [DU C']
 refine⟨⋯,?_⟩
 rw[show ((cs.length:Int)-1+1).toNat=cs.length by ac_rfl]
 refine Jk C' cs.length 0 ⋯ ?_
 refine⟨cI 0 cs,rfl,Ey C',?_⟩
 ac_nf
 exact h
theorem rB(cs:List Nat):aK (cI 0 cs)=aV 0 cs:=vV 0 cs
end Lw
namespace Lw
open L2 Z
open Sf (Rw crs uW Pre Good aK bH place many)
open Fl (kd ids Walk e7 tls pc aP Pt srt eF Eh)
theorem AD{α:Type}(f:α->Dv)(hf:∀a b,eqD (f a) (f b)=true ↔ a=b):∀l m:List α,PyData.eqvAll (pyDs (l.map f)) (pyDs (m.map f))=true ↔ l=m
 | [],[]=>by simp[gL.pyDs,PyData.eqvAll]
 | [],_::_=>by simp[gL.pyDs,PyData.eqvAll]
 |_::_,[]=>by simp[gL.pyDs,PyData.eqvAll]
 |a::l,b::m=>by
  show PyData.eqvAll (gL (f a)::pyDs (l.map f)) (gL (f b)::pyDs (m.map f))=true ↔ _
  have h:=hf a b
  unfold eqD at h
  rw[PyData.eqvAll,Bool.and_eq_true,AD f hf l m,h,List.cons.injEq]
theorem C5{α:Type}(f:α->Dv)(hf:∀a b,eqD (f a) (f b)=true ↔ a=b)(l m:List α):eqD (.lst (l.map f)) (.lst (m.map f))=true ↔ l=m:=by
 unfold eqD
 show PyData.eqv (.list (pyDs _)) (.list (pyDs _))=true ↔ _
 rw[PyData.eqv]
 exact AD f hf l m
theorem C4{α:Type}(f:α->Dv)(hf:∀a b,eqD (f a) (f b)=true ↔ a=b)(l m:List α):eqD (.tup (l.map f)) (.tup (m.map f))=true ↔ l=m:=by
 unfold eqD
 show PyData.eqv (.tuple (pyDs _)) (.tuple (pyDs _))=true ↔ _
 rw[PyData.eqv]
 exact AD f hf l m
theorem ET(a b:Int):eqD (.int a) (.int b)=true ↔ a=b:=by rw[Z.AG,decide_eq_true_eq]
theorem ES(l m:List Int):eqD (.tup (bS l)) (.tup (bS m))=decide (l=m):=by
 rw[Bool.eq_iff_iff,decide_eq_true_eq]
 exact C4 _ ET l m
theorem AF(t u:Ti):eqD (Av t) (Av u)=true ↔ t=u:=by
 have h1:=ET t.1 u.1
 have h2:=ET t.2.1 u.2.1
 have h3:=C4 Dv.int ET t.2.2 u.2.2
 unfold eqD at h1 h2 h3 ⊢
 show PyData.eqv (.tuple [gL (.int t.1),gL (.int t.2.1),gL (.tup (bS t.2.2))]) (.tuple [gL (.int u.1),gL (.int u.2.1),gL (.tup (bS u.2.2))])=true ↔ _
 rw[PyData.eqv,PyData.eqvAll,PyData.eqvAll,PyData.eqvAll,PyData.eqvAll,Bool.and_eq_true,Bool.and_eq_true,Bool.and_eq_true,h1,h2,h3]
 obtain⟨a,b,c⟩:=t
 obtain⟨x,y,z⟩:=u
 simp
theorem AH(l m:List Ti):eqD (.lst (eA l)) (.lst (eA m))=decide (l=m):=by
 rw[Bool.eq_iff_iff,decide_eq_true_eq]
 exact C5 _ AF l m
theorem LL(l m:List (Int×Int×Int)):eqD (.lst (e9 l)) (.lst (e9 m))=decide (l=m):=by
 rw[Bool.eq_iff_iff,decide_eq_true_eq]
 refine C5 _ (fun t u=>?_) l m
 rw[show Dv.tup [Dv.int t.1,Dv.int t.2.1,Dv.int t.2.2]=.tup (bS [t.1,t.2.1,t.2.2]) from rfl,show Dv.tup [Dv.int u.1,Dv.int u.2.1,Dv.int u.2.2]=.tup (bS [u.1,u.2.1,u.2.2]) from rfl,ES,decide_eq_true_eq]
 obtain⟨a,b,c⟩:=t
 obtain⟨x,y,z⟩:=u
 simp
theorem nS(n:Nat):∀l:List Dv,(∀d∈l,dQ n d=true)->okDs n l=true
 | [],_=>rfl
 |d::r,h=>by
  show (dQ n d&&okDs n r)=true
  rw[h d (by simp),nS n r fun x hx=>h x (by simp[hx])]
  rfl
theorem PZ(l:List (Int×Int×Int)):dQ 8 (.lst (e9 l))=true:=nS 7 _ fun d hd=>by
 obtain⟨t,_,rfl⟩:=mem_map.mp hd
 exact oX 6 [t.1,t.2.1,t.2.2]
theorem Hv(l:List Ti):dQ 8 (.lst (eA l))=true:=nS 7 _ fun d hd=>by
 obtain⟨t,_,rfl⟩:=mem_map.mp hd
 refine nS 6 _ fun d hd=>?_
 simp only[mem_cons,not_mem_nil,or_false] at hd
 rcases hd with rfl | rfl | rfl
 ·rfl
 ·rfl
 ·exact oX 5 _
theorem NB(l:List Int):dQ 8 (.tup (bS l))=true:=oX 7 l
theorem OR(l:List Int)(b:Int):bS l++[Dv.int b]=bS (l++[b]):=by simp
def B1:Fn:=fun ds Q=>∃(l:List Int) (b:Int),ds=[.tup (bS l),.int b]/\l.length<=30/\Q (.v (.tup (bS (srt (l++[b])))))
theorem NL:∀ds Q,B1 ds Q->ds.length=2:=by rintro ds Q ⟨_,_,rfl,_⟩;rfl
theorem Lr:MonoF B1:=⟨fun ds Q Q' w z=>by obtain⟨a,b,c,d,h⟩:=z;exact⟨a,b,c,d,w _ h⟩⟩
theorem BI:∀ds Q,B1 ds Q->oF ↥Q (aN ["below", "band"] ds):=by
 rintro ds Q ⟨l,b,rfl,hl,h⟩
 push_cast [Hl,length_map]
 refine⟨⋯,?_⟩
 rw[OR]
 refine Cy (by simp;ac_rfl) fun ms hm hs=>?_
 obtain rfl:=eF hm hs
 ac_nf
 exact h
def GN(a b c:Int)(l:List Int):List Ti:=[(a,b,l),(a,c,srt (l++[b])),(b,c,l)]
def JI(a b c:Int)(l:List Int):List Ti:=[(a,b,srt (l++[c])),(a,c,l),(b,c,srt (l++[a]))]
def yD:Fn:=fun ds Q=>∃(a b c:Int) (l:List Int),ds=[.int a,.int b,.int c,.tup (bS l)]/\l.length<=30/\Q (.nw (.lst (eA (GN a b c l))))
theorem NN:∀ds Q,yD ds Q->ds.length=4:=by rintro ds Q ⟨_,_,_,_,rfl,_⟩;rfl
theorem Pd:MonoF yD:=⟨fun ds Q Q' w z=>by obtain⟨a,b,c,d,e,f,h⟩:=z;exact⟨a,b,c,d,e,f,w _ h⟩⟩
theorem xK:∀ds Q,yD ds Q->lX B1 ↥Q (aN ["a", "b", "c", "some"] ds):=by
 rintro ds Q ⟨a,b,c,l,rfl,hl,h⟩
 ac_nf
 refine⟨l,b,rfl,hl,?_⟩
 ac_nf
 exact h
def yE:Fn:=fun ds Q=>∃(a b c:Int) (l:List Int),ds=[.int a,.int b,.int c,.tup (bS l)]/\l.length<=30/\Q (.nw (.lst (eA (JI a b c l))))
theorem NO:∀ds Q,yE ds Q->ds.length=4:=by rintro ds Q ⟨_,_,_,_,rfl,_⟩;rfl
theorem Pf:MonoF yE:=⟨fun ds Q Q' w z=>by obtain⟨a,b,c,d,e,f,h⟩:=z;exact⟨a,b,c,d,e,f,w _ h⟩⟩
theorem uN:∀ds Q,yE ds Q->jU B1 ↥Q (aN ["a", "b", "c", "some"] ds):=by
 rintro ds Q ⟨a,b,c,l,rfl,hl,h⟩
 ac_nf
 refine⟨l,c,rfl,hl,?_⟩
 ac_nf
 refine⟨l,a,rfl,hl,?_⟩
 ac_nf
 exact h
def DW(fl:List Ti)(a c:Int):Prop:=∃u,(fl.find? fun t=>decide (t.1=a/\t.2.1=c))=some u/\u.2.2=cQ fl a c/\u.2.2.length<=30
def mZ(fl:List Ti)(t:Int×Int×Int):Prop:=Eh (cQ fl t.1 t.2.1) (cQ fl t.1 t.2.2) (cQ fl t.2.1 t.2.2) t.1 t.2.1 t.2.2
instance (fl:List Ti) (t:Int×Int×Int):Decidable (mZ fl t):=by unfold mZ;exact inferInstance
def GH(fl:List Ti)(t:Int×Int×Int):Prop:=cQ fl t.2.1 t.2.2=cQ fl t.1 t.2.1/\cQ fl t.1 t.2.2=srt (cQ fl t.1 t.2.1++[t.2.1])
def OB(fl:List Ti)(t:Int×Int×Int):Prop:=cQ fl t.1 t.2.1=srt (cQ fl t.1 t.2.2++[t.2.2])/\cQ fl t.2.1 t.2.2=srt (cQ fl t.1 t.2.2++[t.1])
instance (fl:List Ti) (t:Int×Int×Int):Decidable (GH fl t):=by unfold GH;exact inferInstance
def rX(fl:List Ti)(t:Int×Int×Int):List Ti:=if GH fl t then JI t.1 t.2.1 t.2.2 (cQ fl t.1 t.2.1) else GN t.1 t.2.1 t.2.2 (cQ fl t.1 t.2.2)
def yC:Fn:=fun ds Q=>∃(fl:List Ti) (a b c:Int),ds=[.dit (Aj fl),.tup [.int a,.int b,.int c]]/\DW fl a b/\DW fl a c/\DW fl b c/\(mZ fl (a,b,c)->Q (.nw (.lst (eA (rX fl (a,b,c))))))/\(¬mZ fl (a,b,c)->Q (.v .non))
theorem NM:∀ds Q,yC ds Q->ds.length=2:=by rintro ds Q ⟨_,_,_,_,rfl,_⟩;rfl
theorem Ls:MonoF yC:=⟨fun ds Q Q' w z=>by obtain⟨a,b,c,d,e,f,g,h,i,j⟩:=z;exact⟨a,b,c,d,e,f,g,h,fun x=>w _ (i x),fun x=>w _ (j x)⟩⟩
theorem R4{a b c:Int}{tl:cO}{E:En}{x0 x2 x3 x4 x5:Sl}(h:tl E [x0,.v (.tup [.int a,.int b,.int c]),.v (.int a),.v (.int b),.v (.int c),x5]):
  aR (bK 2 (aT cX (aE 1) (eC (.int 0)))) (aR (bK 3 (aT cX (aE 1) (eC (.int 1)))) (aR (bK 4 (aT cX (aE 1) (eC (.int 2)))) tl)) E [x0,.v (.tup [.int a,.int b,.int c]),x2,x3,x4,x5]:=by
 ac_nf
 exact h
theorem R3{fl:List Ti}{a b c:Int}{u1 u2 u3:Ti}(h1:(fl.find? fun t=>decide (t.1=a/\t.2.1=b))=some u1)(h2:(fl.find? fun t=>decide (t.1=a/\t.2.1=c))=some u2)(h3:(fl.find? fun t=>decide (t.1=b/\t.2.1=c))=some u3)
  {tl:cO} {E:En} {x1 x5:Sl} (h:tl E [.v (.dit (Aj fl)),x1,.v (.int a),.v (.int b),.v (.int c),.v (.lst (eA [(a,b,u1.2.2),(a,c,u2.2.2),(b,c,u3.2.2)]))]):
  aR (bK 5 (i5 (aD (cZ (aD (aE 2) (aD (aE 3) (aD (aT cX (aE 0) (cZ (aD (aE 2) (aD (aE 3) aJ)))) aJ)))) (aD (cZ (aD (aE 2) (aD (aE 4) (aD (aT cX (aE 0) (cZ (aD (aE 2) (aD (aE 4) aJ)))) aJ)))) (aD (cZ (aD (aE 3) (aD (aE 4) (aD (aT cX (aE 0) (cZ (aD (aE 3) (aD (aE 4) aJ)))) aJ)))) aJ))))) tl E [.v (.dit (Aj fl)),x1,.v (.int a),.v (.int b),.v (.int c),x5]:=by
 push_cast [vD,h1,h2,h3,map_some]
 exact h
theorem R1{fl:List Ti}{a b c:Int}{u1:Ti}{ts:List Ti}(h1:(fl.find? fun t=>decide (t.1=a/\t.2.1=b))=some u1)(l1:u1.2.2.length<=30){tl:cO}{E:En}{x1:Sl}
  (y:ts=GN a b c u1.2.2->E.rt (.nw (.lst (eA (JI a b c u1.2.2))))) (n:ts≠GN a b c u1.2.2->tl E [.v (.dit (Aj fl)),x1,.v (.int a),.v (.int b),.v (.int c),.v (.lst (eA ts))]):
  aR (hZ (bB (aT t6 (aE 5) (aS yD (aD (aE 2) (aD (aE 3) (aD (aE 4) (aD (aT cX (aE 0) (cZ (aD (aE 2) (aD (aE 3) aJ)))) aJ))))))) (cD (aS yE (aD (aE 2) (aD (aE 3) (aD (aE 4) (aD (aT cX (aE 0) (cZ (aD (aE 2) (aD (aE 3) aJ)))) aJ)))))) bL) tl E [.v (.dit (Aj fl)),x1,.v (.int a),.v (.int b),.v (.int c),.v (.lst (eA ts))]:=by
 push_cast [vD,h1,map_some]
 refine⟨a,b,c,u1.2.2,rfl,l1,?_⟩
 push_cast [AH,Hv,and_self,true_and,decide_eq_true_eq]
 by_cases q1:ts=GN a b c u1.2.2
 ·rw[if_pos q1]
  refine⟨a,b,c,u1.2.2,rfl,l1,?_⟩
  ac_nf
  exact y q1
 ·rw[if_neg q1]
  exact n q1
theorem R0{fl:List Ti}{a b c:Int}{u2:Ti}{ts:List Ti}(h2:(fl.find? fun t=>decide (t.1=a/\t.2.1=c))=some u2)(l2:u2.2.2.length<=30){tl:cO}{E:En}{x1:Sl}
  (y:ts=JI a b c u2.2.2->E.rt (.nw (.lst (eA (GN a b c u2.2.2))))) (n:ts≠JI a b c u2.2.2->tl E [.v (.dit (Aj fl)),x1,.v (.int a),.v (.int b),.v (.int c),.v (.lst (eA ts))]):
  aR (hZ (bB (aT t6 (aE 5) (aS yE (aD (aE 2) (aD (aE 3) (aD (aE 4) (aD (aT cX (aE 0) (cZ (aD (aE 2) (aD (aE 4) aJ)))) aJ))))))) (cD (aS yD (aD (aE 2) (aD (aE 3) (aD (aE 4) (aD (aT cX (aE 0) (cZ (aD (aE 2) (aD (aE 4) aJ)))) aJ)))))) bL) tl E [.v (.dit (Aj fl)),x1,.v (.int a),.v (.int b),.v (.int c),.v (.lst (eA ts))]:=by
 push_cast [vD,h2,map_some]
 refine⟨a,b,c,u2.2.2,rfl,l2,?_⟩
 push_cast [AH,Hv,and_self,true_and,decide_eq_true_eq]
 by_cases q1:ts=JI a b c u2.2.2
 ·rw[if_pos q1]
  refine⟨a,b,c,u2.2.2,rfl,l2,?_⟩
  ac_nf
  exact y q1
 ·rw[if_neg q1]
  exact n q1
theorem uM:∀ds Q,yC ds Q->jT yD yE ↥Q (aN ["below", "three", "a", "b", "c", "tiles"] ds):=by
 rintro ds Q ⟨fl,a,b,c,rfl,⟨u1,h1,e1,l1⟩,⟨u2,h2,e2,l2⟩,⟨u3,h3,e3,l3⟩,y,no⟩
 unfold rX at y
 refine R4 (R3 h1 h2 h3 (R1 h1 l1 (fun q=>?_) fun q1=>R0 h2 l2 (fun q=>?_) fun q2=>?_))
 ·simp only[GN,List.cons.injEq,Prod.mk.injEq,true_and,and_true] at q
  rw[e1,e2,e3] at q
  have z:GH fl (a,b,c):=⟨q.2,q.1⟩
  rw[if_pos z] at y
  rw[e1]
  exact y (.inl z)
 ·simp only[JI,List.cons.injEq,Prod.mk.injEq,true_and,and_true] at q
  rw[e1,e2,e3] at q
  have z:OB fl (a,b,c):=q
  rw[if_neg (show ¬GH fl (a,b,c) from fun z=>q1 (by rw[e1,e2,e3];have z1:=z.1;have z2:=z.2;simp only at z1 z2;rw[z1,z2];rfl))] at y
  rw[e2]
  exact y (.inr z)
 ·refine no fun z=>?_
  rcases(show GH fl (a,b,c) \/ OB fl (a,b,c) from z) with z | z
  ·exact q1 (by rw[e1,e2,e3];have z1:=z.1;have z2:=z.2;simp only at z1 z2;rw[z1,z2];rfl)
  ·exact q2 (by rw[e1,e2,e3];have z1:=z.1;have z2:=z.2;simp only at z1 z2;rw[z1,z2];rfl)
def vP(C:Addr):Fn:=fun ds Q=>∃(rows:List Rw) (fl:List Ti),ds=[bG C rows,.lst (eA fl)]/\(aK rows).length<=12/\fl.length<=1000/\u6 fl/\(∀t∈aQ (aK rows),DW fl t.1 t.2.1/\DW fl t.1 t.2.2/\DW fl t.2.1 t.2.2)/\Q (.nw (.lst (e9 ((aQ (aK rows)).filter fun t=>decide (mZ fl t)))))
theorem NR{C:Addr}:∀ds Q,vP C ds Q->ds.length=2:=by rintro ds Q ⟨_,_,rfl,_⟩;rfl
theorem Pg{C:Addr}:MonoF (vP C):=⟨fun ds Q Q' w z=>by obtain⟨a,b,c,d,e,f,g,h⟩:=z;exact⟨a,b,c,d,e,f,g,w _ h⟩⟩
theorem Ps{fl:List Ti}{Q:R->Prop}:∀(l acc:List (Int×Int×Int)),(∀t∈l,DW fl t.1 t.2.1/\DW fl t.1 t.2.2/\DW fl t.2.1 t.2.2)->acc.length+l.length<=10000->Q (.nw (.lst (e9 (acc++l.filter fun t=>decide (mZ fl t))))) ->
  d8 [.un,.v (.dit (Aj fl))] (gN 0) (bB (aT yM (aS yC (aD (aE 1) (aD (aE 0) aJ))) (eC .non))) (aE 0) (e9 l) (e9 acc) Q:=by
 intro l
 induction l with
 |nil=>
  intro acc _ _ h
  rw[show e9 []=[] from rfl,dL]
  simpa using h
 |cons t l ih=>
  intro acc hm hl h
  simp only[length_cons] at hl
  obtain⟨c1,c2,c3⟩:=hm t (by simp)
  rw[show e9 (t::l)=.tup [.int t.1,.int t.2.1,.int t.2.2]::e9 l from rfl]
  ac_nf
  refine⟨fl,t.1,t.2.1,t.2.2,rfl,c1,c2,c3,fun q=>?_,fun q=>?_⟩
  ·push_cast [length_map]
   refine⟨⋯,?_⟩
   rw[show e9 acc++[Dv.tup [Dv.int t.1,Dv.int t.2.1,Dv.int t.2.2]]=e9 (acc++[t]) by simp]
   rw[filter_cons_of_pos (by simpa using q)] at h
   exact ih _ (fun t ht=>hm t (mem_cons_of_mem _ ht)) (by simp;ac_rfl) (by simpa using h)
  ·ac_nf
   rw[filter_cons_of_neg (by simpa using q)] at h
   exact ih _ (fun t ht=>hm t (mem_cons_of_mem _ ht)) ⋯ h
theorem BR{C:Addr}:∀ds Q,vP C ds Q->oP iY (gC C) yC ↥Q (aN ["sides", "floor", "below"] ds):=by
 rintro ds Q ⟨rows,fl,rfl,hn,hl,hk,cov,h⟩
 have tl:=lK hn
 ac_nf
 refine⟨fl,rfl,hl,hk,?_⟩
 ac_nf
 refine⟨rows,rfl,hn,?_⟩
 ac_nf
 exact Ps (aQ (aK rows)) [] cov (by simp;ac_rfl) h
end Lw
namespace Lw
open L2 Z
open Sf (Rw crs uW Pre Good aK bH place many)
open Fl (kd ids Walk e7 tls pc aP Pt srt eF Eh)
def aC(ks:List Int)(a b:Int):Nat->Nat->List (Int×Int×Int)
 |0,_=>[]
 |i+1,c=>(if kd ks a<kd ks b/\kd ks b<kd ks c then [(a,b,(c:Int))] else [])++aC ks a b i (c+1)
def aB(ks:List Int)(a:Int):Nat->Nat->List (Int×Int×Int)
 |0,_=>[]
 |i+1,b=>aC ks a b (ks.length-(b+1)) (b+1)++aB ks a i (b+1)
def aA(ks:List Int):Nat->Nat->List (Int×Int×Int)
 |0,_=>[]
 |i+1,a=>aB ks a (ks.length-(a+1)) (a+1)++aA ks i (a+1)
theorem MF{ks:List Int}(m:kC ks){a b:Int}(h0:0<=a)(hab:a<b)(hb:b<ks.length):∀(i c:Nat),b<c->c+i<=ks.length->aC ks a b i c=if kd ks a=kd ks b then [] else yV ks a b i c
 |0,c,_,_=>by simp[aC,yV]
 |i+1,c,h1,h2=>by
  have m1:=m a b h0 ⋯ ⋯
  have m2:=m b c ⋯ ⋯ ⋯
  rw[aC,MF m h0 hab hb i (c+1) ⋯ ⋯]
  by_cases e:kd ks a=kd ks b
  ·rw[if_pos e,if_pos e,if_neg ⋯]
   rfl
  ·rw[if_neg e,if_neg e,yV]
   by_cases e2:kd ks (c:Int)=kd ks b
   ·rw[if_pos e2,if_neg ⋯]
   ·rw[if_neg e2,if_pos ⋯]
theorem MG{ks:List Int}(m:kC ks){a:Nat}:∀(i b:Nat),a<b->b+i=ks.length->aB ks a i b=fZ ks (xG ks a i b)
 |0,b,_,_=>rfl
 |i+1,b,h1,h2=>by
  rw[aB,MF m ⋯ ⋯ ⋯ _ _ ⋯ ⋯,MG m i (b+1) ⋯ ⋯,xG]
  unfold fZ
  rw[List.flatMap_append]
  by_cases e:kd ks (a:Int)=kd ks (b:Int)
  ·rw[if_pos e,if_pos e]
   rfl
  ·rw[if_neg e,if_neg e]
   simp
theorem MH{ks:List Int}(m:kC ks):∀(i a:Nat),a+i=ks.length->aA ks i a=fZ ks (mJ ks i a)
 |0,a,_=>rfl
 |i+1,a,h=>by
  rw[aA,MG m _ _ ⋯ ⋯,MH m i (a+1) ⋯,mJ]
  unfold fZ
  rw[List.flatMap_append]
def xI(ks:List Int):Nat->Nat->List (Int×Int×Int)
 |0,_=>[]
 |i+1,k=>(if k / (ks.length*ks.length)<k / ks.length % ks.length/\k / ks.length % ks.length<k % ks.length/\kd ks (k / (ks.length*ks.length):Nat)<kd ks (k / ks.length % ks.length:Nat)/\kd ks (k / ks.length % ks.length:Nat)<kd ks (k % ks.length:Nat) then [(((k / (ks.length*ks.length):Nat):Int),((k / ks.length % ks.length:Nat):Int),((k % ks.length:Nat):Int))] else [])++xI ks i (k+1)
theorem Jf(ks:List Int):∀i k,(xI ks i k).length<=i
 |0,_=>le_refl _
 |i+1,k=>by rw[xI,length_append];have:=Jf ks i (k+1);split<;>simp<;>ac_rfl
theorem sB(ks:List Int):∀i j k,xI ks (i+j) k=xI ks i k++xI ks j (k+i)
 |0,j,k=>by rw[zero_add,add_zero];rfl
 |i+1,j,k=>by
  rw[show i+1+j=(i+j)+1 by ac_rfl,xI,sB ks i j (k+1),xI,append_assoc,show k+1+i=k+(i+1) by ac_rfl]
def fC(ks:List Int)(a b:Nat):Nat->Nat->List (Int×Int×Int)
 |0,_=>[]
 |i+1,c=>(if a<b/\b<c/\kd ks (a:Nat)<kd ks (b:Nat)/\kd ks (b:Nat)<kd ks (c:Nat) then [((a:Int),(b:Int),(c:Int))] else [])++fC ks a b i (c+1)
theorem digits{n a b c:Nat}(hb:b<n)(hc:c<n):((a*n+b)*n+c) / (n*n)=a/\((a*n+b)*n+c) / n % n=b/\((a*n+b)*n+c) % n=c:=by
 have hn:0<n:=⋯
 have e1:((a*n+b)*n+c) / n=a*n+b:=by
  rw[add_comm,Nat.add_mul_div_right _ _ hn,Nat.div_eq_of_lt hc,zero_add]
 refine⟨?_,?_,?_⟩
 ·rw[<- Nat.div_div_eq_div_mul,e1,add_comm,Nat.add_mul_div_right _ _ hn,Nat.div_eq_of_lt hb,zero_add]
 ·rw[e1,add_comm,Nat.add_mul_mod_self_right,Nat.mod_eq_of_lt hb]
 ·rw[add_comm,Nat.add_mul_mod_self_right,Nat.mod_eq_of_lt hc]
theorem LZ{ks:List Int}{a b:Nat}(hb:b<ks.length):∀(i c:Nat),c+i<=ks.length->xI ks i ((a*ks.length+b)*ks.length+c)=fC ks a b i c
 |0,_,_=>rfl
 |i+1,c,h=>by
  obtain⟨d1,d2,d3⟩:=digits (a:=a) hb (show c<ks.length by ac_rfl)
  rw[xI,fC,d1,d2,d3,Nat.add_assoc,LZ hb i (c+1) ⋯]
theorem M7{ks:List Int}{a b:Nat}:∀(i c:Nat),c+i<=b+1->fC ks a b i c=[]
 |0,_,_=>rfl
 |i+1,c,h=>by
  rw[fC,if_neg ⋯,M7 i (c+1) ⋯]
  rfl
theorem J7(ks:List Int)(a b:Nat):∀i j c,fC ks a b (i+j) c=fC ks a b i c++fC ks a b j (c+i)
 |0,j,c=>by rw[zero_add,add_zero];rfl
 |i+1,j,c=>by
  rw[show i+1+j=(i+j)+1 by ac_rfl,fC,J7 ks a b i j (c+1),fC,append_assoc,show c+1+i=c+(i+1) by ac_rfl]
theorem M8{ks:List Int}{a b:Nat}(hab:a<b):∀(i c:Nat),b<c->fC ks a b i c=aC ks a b i c
 |0,_,_=>rfl
 |i+1,c,h=>by
  rw[fC,aC,M8 hab i (c+1) ⋯]
  congr 1
  by_cases e:kd ks (a:Nat)<kd ks (b:Nat)/\kd ks (b:Nat)<kd ks (c:Nat)
  ·rw[if_pos e,if_pos ⟨hab,h,e⟩]
  ·rw[if_neg e,if_neg fun z=>e z.2.2]
theorem M5{ks:List Int}{a b:Nat}(hab:¬a<b):∀(i c:Nat),fC ks a b i c=[]
 |0,_=>rfl
 |i+1,c=>by
  rw[fC,if_neg fun z=>hab z.1,M5 hab i (c+1)]
  rfl
theorem Db{ks:List Int}{a b:Nat}(hb:b<ks.length):xI ks ks.length ((a*ks.length+b)*ks.length)=if a<b then aC ks a b (ks.length-(b+1)) (b+1) else []:=by
 have h:=LZ (ks:=ks) (a:=a) hb ks.length 0 ⋯
 rw[add_zero] at h
 rw[h]
 by_cases hab:a<b
 ·rw[if_pos hab,show ks.length=(b+1)+(ks.length-(b+1)) by ac_rfl,J7,M7 _ _ ⋯,nil_append,zero_add,show b+1+(ks.length-(b+1))-(b+1)=ks.length-(b+1) by ac_rfl,M8 hab _ _ ⋯]
 ·rw[if_neg hab,M5 hab]
theorem Gb{ks:List Int}{a:Nat}:∀(j b:Nat),b+j<=a+1->b+j<=ks.length->xI ks (j*ks.length) ((a*ks.length+b)*ks.length)=[]
 |0,b,_,_=>by rw[zero_mul];rfl
 |j+1,b,h,h2=>by
  rw[succ_mul,add_comm,sB,Db ⋯,if_neg ⋯,nil_append,show (a*ks.length+b)*ks.length+ks.length=(a*ks.length+(b+1))*ks.length by rw[<- succ_mul];rfl]
  exact Gb j (b+1) ⋯ ⋯
theorem Gc{ks:List Int}{a:Nat}:∀(j b:Nat),a<b->b+j<=ks.length->xI ks (j*ks.length) ((a*ks.length+b)*ks.length)=aB ks a j b
 |0,b,_,_=>by rw[zero_mul];rfl
 |j+1,b,h,h2=>by
  rw[succ_mul,add_comm,sB,Db ⋯,if_pos h,show (a*ks.length+b)*ks.length+ks.length=(a*ks.length+(b+1))*ks.length by rw[<- succ_mul];rfl,Gc j (b+1) ⋯ ⋯]
  rfl
theorem Je{ks:List Int}{a:Nat}(ha:a<ks.length):xI ks (ks.length*ks.length) (a*(ks.length*ks.length))=aB ks a (ks.length-(a+1)) (a+1):=by
 have l:=Gb (ks:=ks) (a:=a) (a+1) 0 ⋯ ⋯
 have h:=Gc (ks:=ks) (a:=a) (ks.length-(a+1)) (a+1) ⋯ ⋯
 rw[show (a*ks.length+0)*ks.length=a*(ks.length*ks.length) by rw[add_zero,mul_assoc]] at l
 have e:ks.length*ks.length=(a+1)*ks.length+(ks.length-(a+1))*ks.length:=by
  rw[<- add_mul,show a+1+(ks.length-(a+1))=ks.length by ac_rfl]
 rw[show xI ks (ks.length*ks.length) (a*(ks.length*ks.length))=xI ks ((a+1)*ks.length+(ks.length-(a+1))*ks.length) (a*(ks.length*ks.length)) by rw[<- e],sB,l,nil_append,<- h]
 congr 1
 rw[add_mul (a*ks.length),mul_assoc]
theorem La{ks:List Int}:∀(j a:Nat),a+j=ks.length->xI ks (j*(ks.length*ks.length)) (a*(ks.length*ks.length))=aA ks j a
 |0,a,_=>by rw[zero_mul];rfl
 |j+1,a,h=>by
  rw[succ_mul,add_comm,sB,Je ⋯,<- succ_mul,La j (a+1) ⋯]
  rfl
theorem Jg{ks:List Int}(m:kC ks):xI ks (ks.length*ks.length*ks.length) 0=aQ ks:=by
 have h:=La (ks:=ks) ks.length 0 ⋯
 rw[zero_mul,<- mul_assoc] at h
 rw[h,MH m _ _ ⋯]
 rfl
def mC:Fn:=fun ds Q=>∃ks:List Int,ds=[.lst (bS ks)]/\1<=ks.length/\ks.length<=12/\kC ks/\Q (.nw (.lst (e9 (aQ ks))))
theorem Kn:∀ds Q,mC ds Q->ds.length=1:=by rintro ds Q ⟨_,rfl,_⟩;rfl
theorem NF:MonoF mC:=⟨fun ds Q Q' w z=>by obtain⟨a,b,c,d,e,h⟩:=z;exact⟨a,b,c,d,e,w _ h⟩⟩
theorem Rb{ks:List Int}{k:Nat}(h1:1<=ks.length)(hn:ks.length<=12){tl:cO}{E:En}{x1 x3 x4 x5:Sl}
  (h:tl E [.v (.lst (bS ks)),x1,.v (.int k),.v (.int (k / (ks.length*ks.length):Nat)),.v (.int (k / ks.length % ks.length:Nat)),.v (.int (k % ks.length:Nat))]):
  aR (bK 3 (aT nP (aE 2) (aT gY (fX dE (aD (aE 0) aJ)) (fX dE (aD (aE 0) aJ))))) (aR (bK 4 (aT iT (aT nP (aE 2) (fX dE (aD (aE 0) aJ))) (fX dE (aD (aE 0) aJ)))) (aR (bK 5 (aT iT (aE 2) (fX dE (aD (aE 0) aJ)))) tl)) E [.v (.lst (bS ks)),x1,.v (.int k),x3,x4,x5]:=by
 have sq:ks.length*ks.length<=12*12:=mul_le_mul hn hn
 have sq1:1*1<=ks.length*ks.length:=mul_le_mul h1 h1
 have nn:(ks.length:Int)*(ks.length:Int)=((ks.length*ks.length:Nat):Int):=by norm_cast
 have ea:(k:Int) / ((ks.length*ks.length:Nat):Int)=((k / (ks.length*ks.length):Nat):Int):=by norm_cast
 have eb:(k:Int) / (ks.length:Int) % (ks.length:Int)=((k / ks.length % ks.length:Nat):Int):=by norm_cast
 have ec:(k:Int) % (ks.length:Int)=((k % ks.length:Nat):Int):=by norm_cast
 push_cast [length_map,nn,ea,eb,ec]
 exact⟨uL ⋯ ⋯,⟨⋯,⋯⟩,⟨⋯,⋯⟩,⋯,⋯,h⟩
theorem Ra{ks:List Int}{a b c:Nat}(ha:a<ks.length)(hb:b<ks.length)(hc:c<ks.length){l:Addr}{acc:List (Int×Int×Int)}(hl:acc.length<=10000){E:En}{x2:Sl}
  (h:E.nx [.v (.lst (bS ks)),.own l (.lst (e9 (acc++(if a<b/\b<c/\kd ks (a:Nat)<kd ks (b:Nat)/\kd ks (b:Nat)<kd ks (c:Nat) then [((a:Int),(b:Int),(c:Int))] else [])))),x2,.v (.int a),.v (.int b),.v (.int c)]):
  hZ (C7 (bB (nZ xN xN (aE 3) (aE 4) (aE 5))) (C7 (bB (aT xN (aT cX (aE 0) (aE 3)) (aT cX (aE 0) (aE 4)))) (bB (aT xN (aT cX (aE 0) (aE 4)) (aT cX (aE 0) (aE 5)))))) (pZ 1 (cZ (aD (aE 3) (aD (aE 4) (aD (aE 5) aJ))))) bL E [.v (.lst (bS ks)),.own l (.lst (e9 acc)),x2,.v (.int a),.v (.int b),.v (.int c)]:=by
 have no:¬(a<b/\b<c/\kd ks (a:Nat)<kd ks (b:Nat)/\kd ks (b:Nat)<kd ks (c:Nat))->E.nx [.v (.lst (bS ks)),.own l (.lst (e9 acc)),x2,.v (.int a),.v (.int b),.v (.int c)]:=fun z=>by
  rw[if_neg z,append_nil] at h
  exact h
 have ka:kd ks (a:Nat)=ks.getD a 0:=by unfold kd;rw[toNat_natCast]
 have kb:kd ks (b:Nat)=ks.getD b 0:=by unfold kd;rw[toNat_natCast]
 have kc:kd ks (c:Nat)=ks.getD c 0:=by unfold kd;rw[toNat_natCast]
 rw[ka,kb,kc] at no h
 push_cast [length_map,fK ha,fK hb,fK hc]
 by_cases e1:a<b
 ·rw[if_pos (ofNat_lt.mpr e1)]
  by_cases e2:b<c
  ·rw[if_pos (ofNat_lt.mpr e2)]
   by_cases e3:ks.getD a 0<ks.getD b 0
   ·rw[if_pos e3]
    by_cases e4:ks.getD b 0<ks.getD c 0
    ·rw[if_pos e4]
     refine⟨⋯,?_⟩
     rw[if_pos ⟨e1,e2,e3,e4⟩,show e9 (acc++[((a:Int),(b:Int),(c:Int))])=e9 acc++[Dv.tup [Dv.int a,Dv.int b,Dv.int c]] from map_append] at h
     exact h
    ·rw[if_neg e4]
     exact no fun z=>e4 z.2.2.2
   ·rw[if_neg e3]
    exact no fun z=>e3 z.2.2.1
  ·rw[if_neg fun z=>e2 (ofNat_lt.mp z)]
   exact no fun z=>e2 z.2.1
 ·rw[if_neg fun z=>e1 (ofNat_lt.mp z)]
  exact no fun z=>e1 z.1
theorem Rn{d:Dv}{x0 x1 x2 x3 x4 x5:Sl}{Q:List Sl->Prop}(h:Q [x0,x1,.v d,x3,x4,x5]):gN 2 d [x0,x1,x2,x3,x4,x5] Q:=by
 ac_nf
 exact h
theorem Pi{ks:List Int}{l:Addr}{E:En}(h1:1<=ks.length)(hn:ks.length<=12):∀(i k:Nat) (acc:List (Int×Int×Int)) (s t u v:Sl),k+i=ks.length*ks.length*ks.length->acc.length+i<=10000 ->
  (∀s t u v,E.nx [.v (.lst (bS ks)),.own l (.lst (e9 (acc++xI ks i k))),s,t,u,v]) ->
  bE (gN 2) pH [] (bF k i) E [.v (.lst (bS ks)),.own l (.lst (e9 acc)),s,t,u,v]:=by
 intro i
 induction i with
 |zero=>
  intro k acc s t u v _ _ h
  rw[cP,bI]
  exact⟨fun p hp=>by simp at hp,by simpa [xI] using h s t u v⟩
 |succ i ih=>
  intro k acc s t u v hk hl h
  have sq1:1*1<=ks.length*ks.length:=mul_le_mul h1 h1
  have ha:k / (ks.length*ks.length)<ks.length:=by rw[Nat.div_lt_iff_lt_mul ⋯,<- mul_assoc];ac_rfl
  rw[bW,bM]
  refine⟨fun p hp=>by simp at hp,?_⟩
  rw[show ((k:Int)+1)=((k+1:Nat):Int) by ac_rfl]
  refine Rn (Rb h1 hn (Ra ha (Nat.mod_lt _ ⋯) (Nat.mod_lt _ ⋯) ⋯ ?_))
  refine ih (k+1) _ _ _ _ _ ⋯ (by rw[length_append];split<;>simp<;>ac_rfl) fun s t u v=>?_
  have:=h s t u v
  rw[xI,<- append_assoc] at this
  exact this
theorem zQ:∀ds Q,mC ds Q->n6 ↥Q (aN ["_law_bands_here", "_law_found", "_law_k", "_law_a", "_law_b", "_law_c"] ds):=by
 rintro ds Q ⟨ks,rfl,h1,hn,m,h⟩
 have sq:ks.length*ks.length<=12*12:=mul_le_mul hn hn
 have cb:ks.length*ks.length*ks.length<=144*12:=mul_le_mul sq hn
 have nn:(ks.length:Int)*(ks.length:Int)=((ks.length*ks.length:Nat):Int):=by norm_cast
 have nnn:((ks.length*ks.length:Nat):Int)*(ks.length:Int)=((ks.length*ks.length*ks.length:Nat):Int):=by norm_cast
 push_cast [length_map,nn,nnn]
 intro l
 refine⟨uL ⋯ ⋯,uL ⋯ ⋯,⋯,?_⟩
 rw[toNat_natCast]
 refine Pi h1 hn _ 0 [] _ _ _ _ ⋯ (by simp;ac_rfl) fun s t u v=>?_
 ac_nf
 rw[Jg m]
 exact h
theorem zR:∀ds Q,iY ds Q->n8 ↥Q (aN ["_law_tiles", "_law_belows_here", "_law_a", "_law_b", "_law_below"] ds):=BS
end Lw
namespace Lw
open L2 Z
open Sf (Rw crs uW Pre Good aK bH place many)
open Fl (kd ids Walk e7 tls pc aP Pt srt eF Eh tS)
theorem EL(i:Int):∀l:List Int,inD (.int i) (bS l)=decide (i∈l)
 | []=>rfl
 |j::l=>by
  have ih:=EL i l
  unfold inD at ih ⊢
  rw[show bS (j::l)=.int j::bS l from rfl,any_cons,ih]
  by_cases e:i=j
  ·subst e
   simp[eqD,gL,PyData.eqv]
  ·have:eqD (.int i) (.int j)=false:=by simp[eqD,gL,PyData.eqv,e]
   have:eqD (.int j) (.int i)=false:=by simp[eqD,gL,PyData.eqv,Ne.symm e]
   simp[*]
theorem Bv(t:Int×Int×Int):∀l:List (Int×Int×Int),inD (.tup [.int t.1,.int t.2.1,.int t.2.2]) (e9 l)=decide (t∈l)
 | []=>rfl
 |u::l=>by
  have ih:=Bv t l
  unfold inD at ih ⊢
  have e:=ES [u.1,u.2.1,u.2.2] [t.1,t.2.1,t.2.2]
  rw[show e9 (u::l)=.tup (bS [u.1,u.2.1,u.2.2])::e9 l from rfl,any_cons,ih,show Dv.tup [Dv.int t.1,Dv.int t.2.1,Dv.int t.2.2]=.tup (bS [t.1,t.2.1,t.2.2]) from rfl,e,<- Bool.decide_or]
  refine decide_eq_decide.mpr ?_
  obtain⟨a,b,c⟩:=t
  obtain⟨x,y,z⟩:=u
  simp only[List.cons.injEq,and_true,mem_cons,Prod.mk.injEq]
  constructor
  ·rintro(⟨p,q,r⟩ | h)
   ·exact .inl ⟨p.symm,q.symm,r.symm⟩
   ·exact .inr h
  ·rintro(⟨p,q,r⟩ | h)
   ·exact .inl ⟨p.symm,q.symm,r.symm⟩
   ·exact .inr h
theorem uZ(l:List (Int×Int×Int)):okDs 8 (e9 l)=true:=nS 8 _ fun d hd=>by
 obtain⟨t,_,rfl⟩:=mem_map.mp hd
 exact oX 7 [t.1,t.2.1,t.2.2]
abbrev Qs(x t:Ti):Bool:=decide (t.1=x.1/\t.2.1=x.2.1)
def rp(ts:List Ti)(x:Ti):Ti:=(ts.find? (Qs x)).getD x
def kS(fl:List Ti)(t:Int×Int×Int):List Ti:=fl.map (rp (rX fl t))
end Lw
namespace Lw
open L2 Z
open Sf (Rw crs uW Pre Good aK bH place many)
open Fl (kd ids Walk e7 tls pc aP Pt srt eF Eh tS)
def yO(t u:Ti):Prop:=lexB [t.1,t.2.1] [u.1,u.2.1]=true
theorem zD:∀{l m:List Ti},l.Perm m->l.Pairwise yO->m.Pairwise yO->l=m
 | [],m,p,_,_=>(List.nil_perm.mp p).symm
 |t::l,[],p,_,_=>nomatch p.length_eq
 |t::l,u::m,p,h1,h2=>by
  have e:t=u:=by
   rcases mem_cons.mp (p.mem_iff.mp (mem_cons_self ..)) with h | h
   ·exact h
   ·rcases mem_cons.mp (p.mem_iff.mpr (mem_cons_self (a:=u))) with h' | h'
    ·exact h'.symm
    ·have a:=(pairwise_cons.mp h1).1 u h'
     have b:=(pairwise_cons.mp h2).1 t h
     have c:=pP _ _ _ a b
     rw[jO] at c
     cases c
  subst e
  rw[zD (List.perm_cons t |>.mp p) (pairwise_cons.mp h1).2 (pairwise_cons.mp h2).2]
theorem II{t u:Ti}(h:yO t u):t≠u:=fun z=>by
 subst z
 unfold yO at h
 rw[jO] at h
 cases h
theorem Py{l m:List Ti}(h1:l.Pairwise yO)(h2:m.Pairwise yO)(h:∀x,x∈l ↔ x∈m):l=m:=
 zD ((perm_ext_iff_of_nodup (h1.imp II) (h2.imp II)).mpr h) h1 h2
theorem DC{a b c d:Int}{x y:List Int}(h:a<c \/ a=c/\b<d):yO (a,b,x) (c,d,y):=by
 unfold yO
 simp only[lexB]
 rcases h with h | ⟨h,h2⟩
 ·rw[if_neg ⋯]
  exact decide_eq_true h
 ·rw[if_pos h,if_neg ⋯]
  exact decide_eq_true h2
structure Fl5(ks:List Int)(fl:List Ti):Prop where
 n12:ks.length<=12
 len:fl.length<=60
 key:u6 fl
 up:fl.Pairwise yO
 ord:∀x∈fl,x.1<x.2.1
 has:∀t∈aQ ks,DW fl t.1 t.2.1/\DW fl t.1 t.2.2/\DW fl t.2.1 t.2.2
 so:∀x∈fl,srt x.2.2=x.2.2
theorem DW.mem{fl:List Ti}{a c:Int}(h:DW fl a c):(a,c,cQ fl a c)∈fl/\(cQ fl a c).length<=30:=by
 obtain⟨u,f,e,l⟩:=h
 have m:=List.mem_of_find?_eq_some f
 have k:u.1=a/\u.2.1=c:=by
  have:=find?_some f
  exact of_decide_eq_true this
 rw[<- e]
 refine⟨?_,l⟩
 rw[<- k.1,<- k.2]
 exact m
theorem u6.one{fl:List Ti}(h:u6 fl){x y:Ti}(hx:x∈fl)(hy:y∈fl)(e:x.1=y.1/\x.2.1=y.2.1):x=y:=by
 induction fl with
 |nil=>cases hx
 |cons z fl ih=>
  obtain⟨h1,h2⟩:=pairwise_cons.mp h
  rcases mem_cons.mp hx with ex | mx
  ·rcases mem_cons.mp hy with ey | my
   ·rw[ex,ey]
   ·rw[ex] at e
    exact absurd e (h1 y my)
  ·rcases mem_cons.mp hy with ey | my
   ·rw[ey] at e
    exact absurd ⟨e.1.symm,e.2.symm⟩ (h1 x mx)
   ·exact ih h2 mx my
def othB(t:Int×Int×Int)(x:Ti):Bool:=decide (x.1 ∉ [t.1,t.2.1,t.2.2]) || decide (x.2.1 ∉ [t.1,t.2.1,t.2.2])
theorem Hy(fl:List Ti)(t:Int×Int×Int):(rX fl t).length=3:=by unfold rX;split<;>rfl
theorem zU(fl:List Ti)(t:Int×Int×Int):(rX fl t).map (fun x=>(x.1,x.2.1))=[(t.1,t.2.1),(t.1,t.2.2),(t.2.1,t.2.2)]:=by unfold rX;split<;>rfl
theorem zN(ts:List Ti)(x:Ti):(rp ts x).1=x.1/\(rp ts x).2.1=x.2.1:=by
 unfold rp
 cases h:ts.find? (Qs x) with
 |none=>exact⟨rfl,rfl⟩
 |some u=>
  have:=find?_some h
  exact of_decide_eq_true this
theorem DK{fl:List Ti}{t:Int×Int×Int}(h:fl.Pairwise yO):(kS fl t).Pairwise yO:=by
 unfold kS
 rw[pairwise_map]
 refine h.imp fun {x y} z=>?_
 unfold yO at z ⊢
 rw[(zN _ x).1,(zN _ x).2,(zN _ y).1,(zN _ y).2]
 exact z
theorem MY{fl:List Ti}{t:Int×Int×Int}{x:Ti}(h:othB t x=true):rp (rX fl t) x=x:=by
 unfold rp
 rw[show (rX fl t).find? (Qs x)=none by
  rw[List.find?_eq_none]
  intro u hu z
  have k:=of_decide_eq_true z
  have m:(u.1,u.2.1)∈(rX fl t).map (fun x=>(x.1,x.2.1)):=List.mem_map_of_mem hu
  rw[zU,k.1,k.2] at m
  simp only[mem_cons,not_mem_nil,or_false,Prod.mk.injEq] at m
  unfold othB at h
  simp only[Bool.or_eq_true,decide_eq_true_eq,mem_cons,not_mem_nil,or_false,not_or] at h
  ac_rfl]
 rfl
theorem vI{ks:List Int}{fl:List Ti}(F:Fl5 ks fl){a b c:Int}(hab:a<b)(hbc:b<c)(h:(a,b,c)∈aQ ks):fl.filter (fun x=>!othB (a,b,c) x)=[(a,b,cQ fl a b),(a,c,cQ fl a c),(b,c,cQ fl b c)]:=by
 obtain⟨h1,h2,h3⟩:=F.has _ h
 have m1:=h1.mem.1
 have m2:=h2.mem.1
 have m3:=h3.mem.1
 simp only at m1 m2 m3
 refine Py (F.up.filter _) ?_ fun x=>?_
 ·refine pairwise_cons.mpr ⟨fun y hy=>?_,pairwise_cons.mpr ⟨fun y hy=>?_,List.pairwise_singleton _ _⟩⟩
  ·simp only[mem_cons,not_mem_nil,or_false] at hy
   rcases hy with rfl | rfl
   ·exact DC (.inr ⟨rfl,hbc⟩)
   ·exact DC (.inl hab)
  ·rw[mem_singleton.mp hy]
   exact DC (.inl hab)
 ·rw[mem_filter]
  constructor
  ·rintro⟨hx,z⟩
   have o:=F.ord x hx
   unfold othB at z
   simp only[Bool.not_eq_true',Bool.or_eq_false_iff,decide_eq_false_iff_not,mem_cons,not_mem_nil,or_false,Classical.not_not] at z
   have k:(x.1=a/\x.2.1=b) \/ (x.1=a/\x.2.1=c) \/ (x.1=b/\x.2.1=c):=⋯
   rcases k with k | k | k
   ·rw[F.key.one hx m1 k];simp
   ·rw[F.key.one hx m2 k];simp
   ·rw[F.key.one hx m3 k];simp
  ·intro hx
   simp only[mem_cons,not_mem_nil,or_false] at hx
   rcases hx with rfl | rfl | rfl
   ·exact⟨m1,by simp[othB]⟩
   ·exact⟨m2,by simp[othB]⟩
   ·exact⟨m3,by simp[othB]⟩
theorem nY{α:Type}(p:α->Bool):∀l:List α,(l.filter p++l.filter fun x=>!p x).Perm l
 | []=>.nil
 |x::l=>by
  have ih:=nY p l
  cases h:p x
  ·simp only[filter_cons,h,Bool.not_false,if_true,Bool.false_eq_true,if_false]
   exact perm_middle.trans (.cons _ ih)
  ·simp only[filter_cons,h,Bool.not_true,if_true,Bool.false_eq_true,if_false]
   exact .cons _ ih
theorem OW{fl:List Ti}{a b c:Int}(hab:a<b)(hbc:b<c)(x y z:List Int):[(a,b,x),(a,c,y),(b,c,z)].map (rp (rX fl (a,b,c)))=rX fl (a,b,c):=by
 have k:=zU fl (a,b,c)
 have l:=Hy fl (a,b,c)
 generalize rX fl (a,b,c)=ts at k l
 match ts,l with
 | [u,v,w],_=>
  simp only[map_cons,map_nil,List.cons.injEq,Prod.mk.injEq,and_true] at k
  obtain⟨⟨k1,k2⟩,⟨k3,k4⟩,k5,k6⟩:=k
  simp only[map_cons,map_nil,rp,Qs,find?_cons,k1,k2,k3,k4,k5,k6]
  have e1:decide (b=c)=false:=decide_eq_false ⋯
  have e2:decide (a=b)=false:=decide_eq_false ⋯
  simp[show ¬b=c by ac_rfl,show ¬a=b by ac_rfl]
theorem mQ{ks:List Int}{fl:List Ti}(F:Fl5 ks fl){a b c:Int}(hab:a<b)(hbc:b<c)(h:(a,b,c)∈aQ ks):(kS fl (a,b,c)).Perm (fl.filter (othB (a,b,c))++rX fl (a,b,c)):=by
 have p:=(nY (othB (a,b,c)) fl).map (rp (rX fl (a,b,c)))
 rw[map_append,vI F hab hbc h,OW hab hbc] at p
 rw[show (fl.filter (othB (a,b,c))).map (rp (rX fl (a,b,c)))=fl.filter (othB (a,b,c)) by
  conv=>rhs;rw[<- map_id (fl.filter (othB (a,b,c)))]
  refine map_congr_left fun x hx=>?_
  exact MY (mem_filter.mp hx).2] at p
 exact p.symm
theorem PN{a b c:Int}{Q:R->Prop}:∀(l acc:List Ti),acc.length+l.length<=1000->Q (.nw (.lst (eA (acc++l.filter (othB (a,b,c)))))) ->
  d8 [.un,.v (.tup [.int a,.int b,.int c])] (gN 0) (DM (bB (aT eQ (aT cX (aE 0) (eC (.int 0))) (aE 1))) (bB (aT eQ (aT cX (aE 0) (eC (.int 1))) (aE 1)))) (aE 0) (eA l) (eA acc) Q:=by
 intro l
 induction l with
 |nil=>
  intro acc _ h
  rw[show eA []=[] from rfl,dL]
  rw[List.filter_nil,append_nil] at h
  exact h
 |cons x l ih=>
  intro acc hl h
  rw[length_cons] at hl
  rw[show eA (x::l)=Av x::eA l from rfl,lR]
  have nx:=fun acc=>ih acc
  generalize d8 [.un,.v (.tup [.int a,.int b,.int c])] (gN 0) (DM (bB (aT eQ (aT cX (aE 0) (eC (.int 0))) (aE 1))) (bB (aT eQ (aT cX (aE 0) (eC (.int 1))) (aE 1)))) (aE 0) (eA l)=G at nx ⊢
  ac_nf
  have n1:inD (.int x.1) [.int a,.int b,.int c]=decide (x.1∈[a,b,c]):=EL x.1 [a,b,c]
  have n2:inD (.int x.2.1) [.int a,.int b,.int c]=decide (x.2.1∈[a,b,c]):=EL x.2.1 [a,b,c]
  have o3:okDs 8 [.int a,.int b,.int c]=true:=oX 8 [a,b,c]
  have yes:othB (a,b,c) x=true->(eA acc).length<1000000/\G (eA acc++[Av x]) Q:=fun z=>by
   refine⟨by rw[length_map];ac_rfl,?_⟩
   rw[show eA acc++[Av x]=eA (acc++[x]) by simp]
   refine nx _ (by simp;ac_rfl) ?_
   rw[filter_cons,if_pos z] at h
   rw[append_assoc]
   exact h
  refine(show eQ _ (.tup _) _ from⟨⟨rfl,o3⟩,?_⟩)
  rw[n1]
  by_cases m1:x.1∈[a,b,c]
  ·rw[decide_eq_true m1]
   refine nX (show eQ _ (.tup _) _ from⟨⟨rfl,o3⟩,?_⟩)
   rw[n2]
   by_cases m2:x.2.1∈[a,b,c]
   ·rw[decide_eq_true m2]
    refine nX (nx acc ⋯ ?_)
    rw[filter_cons,if_neg (by unfold othB;simp only[m1,m2,not_true,decide_false,Bool.or_self];decide)] at h
    exact h
   ·rw[decide_eq_false m2]
    exact tR (yes (by unfold othB;simp only[m2,not_false_iff,decide_true,Bool.or_true]))
  ·rw[decide_eq_false m1]
   exact tR (yes (by unfold othB;simp only[m1,not_false_iff,decide_true,Bool.true_or]))
def nD(C:Addr):Fn:=fun ds Q=>∃(rows:List Rw) (fl:List Ti) (a b c:Int),ds=[bG C rows,.lst (eA fl),.tup [.int a,.int b,.int c]]/\Fl5 (aK rows) fl/\a<b/\b<c/\(a,b,c)∈aQ (aK rows)/\mZ fl (a,b,c)/\Q (.nw (.lst (eA (kS fl (a,b,c)))))
theorem IP{C:Addr}:∀ds Q,nD C ds Q->ds.length=3:=by rintro ds Q ⟨_,_,_,_,_,rfl,_⟩;rfl
theorem Ke{C:Addr}:MonoF (nD C):=⟨fun ds Q Q' w z=>by obtain⟨a,b,c,d,e,f,g,h,i,j,k,l⟩:=z;exact⟨a,b,c,d,e,f,g,h,i,j,k,w _ l⟩⟩
theorem Nk{ks:List Int}{fl:List Ti}(F:Fl5 ks fl){a b c:Int}(hab:a<b)(hbc:b<c)(h:(a,b,c)∈aQ ks){Q:R->Prop}(q:Q (.nw (.lst (eA (kS fl (a,b,c)))))):iM [.lst (eA (fl.filter (othB (a,b,c))++rX fl (a,b,c)))] Q:=by
 have P:=mQ F hab hbc h
 have U:=DK (t:=(a,b,c)) F.up
 have L:(fl.filter (othB (a,b,c))++rX fl (a,b,c)).length<=60:=by rw[<- P.length_eq,kS,length_map];exact F.len
 generalize fl.filter (othB (a,b,c))++rX fl (a,b,c)=l at P L
 rw[show eA l=(l.map fun t:Ti=>(([t.1,t.2.1],[Dv.tup (bS t.2.2)]):List Int×List Dv)).map tI by rw[map_map];rfl]
 refine yK (k:=1) (by simp;ac_rfl) (fun t ht=>?_) ?_ fun ts' hp hs=>?_
 ·obtain⟨u,_,rfl⟩:=mem_map.mp ht
  rfl
 ·rw[pairwise_map]
  have nd:l.Pairwise fun t u=>yO t u \/ yO u t:=by
   have:(kS fl (a,b,c)).Pairwise fun t u=>yO t u \/ yO u t:=U.imp fun h=>.inl h
   exact(P.pairwise_iff fun {x y} h=>h.symm).mp this
  refine nd.imp fun {x y} z e=>?_
  simp only at e
  rcases z with z | z <;>
  ·unfold yO at z
   first | rw[e,jO] at z | rw[<- e,jO] at z
   cases z
 ·obtain⟨ps,pp,rfl⟩:=tL hp (its:=l) rfl
  rw[pairwise_map] at hs
  rw[zD (P.trans pp.symm) U hs] at q
  rw[map_map]
  exact q
theorem FK{C:Addr}:∀ds Q,nD C ds Q->tB (gC C) iY yC ↥Q (aN ["sides", "floor", "three", "tiles", "others"] ds):=by
 rintro ds Q ⟨rows,fl,a,b,c,rfl,F,hab,hbc,h3,hx,q⟩
 obtain⟨g1,g2,g3⟩:=F.has _ h3
 have fl60:=F.len
 ac_nf
 refine⟨rows,rfl,F.n12,?_⟩
 ac_nf
 refine(show eQ _ (.lst _) _ from⟨⟨oX 7 [a,b,c],uZ _⟩,?_⟩)
 rw[show inD (.tup [.int a,.int b,.int c]) (e9 (aQ (aK rows)))=decide ((a,b,c)∈aQ (aK rows)) from Bv (a,b,c) _,decide_eq_true h3]
 refine nX ?_
 refine⟨fl,rfl,⋯,F.key,?_⟩
 ac_nf
 refine⟨fl,a,b,c,rfl,g1,g2,g3,fun _=>?_,fun z=>absurd hx z⟩
 ac_nf
 refine PN fl [] (by simp;ac_rfl) ?_
 ac_nf
 have nl:=Hy fl (a,b,c)
 have fll:=length_filter_le (othB (a,b,c)) fl
 refine⟨by rw[length_map,length_map,nl];ac_rfl,?_⟩
 rw[<- map_append]
 exact Nk F hab hbc h3 q
end Lw
namespace Lw
open L2 Z
open Sf (Rw crs uW Pre Good aK bH place many)
open Fl (kd ids Walk e7 tls pc aP Pt Bf srt eF Eh tS fY)
theorem Ix(t:Ti):∀l:List Ti,inD (Av t) (eA l)=decide (t∈l)
 | []=>rfl
 |u::l=>by
  have ih:=Ix t l
  unfold inD at ih ⊢
  have e:eqD (Av u) (Av t)=decide (u=t):=by
   rw[Bool.eq_iff_iff,decide_eq_true_eq]
   exact AF u t
  rw[show eA (u::l)=Av u::eA l from rfl,any_cons,ih,e,<- Bool.decide_or]
  refine decide_eq_decide.mpr ?_
  rw[mem_cons]
  exact⟨fun z=>z.imp Eq.symm _root_.id,fun z=>z.imp Eq.symm _root_.id⟩
theorem EE(n:Nat)(t:Ti):dQ (n+2) (Av t)=true:=by
 show (dQ (n+1) (.int t.1)&&(dQ (n+1) (.int t.2.1)&&(dQ (n+1) (.tup (bS t.2.2))&&true)))=true
 rw[show dQ (n+1) (.tup (bS t.2.2))=true from oX n _]
 rfl
theorem zT(l:List Ti):okDs 8 (eA l)=true:=nS 8 _ fun d hd=>by
 obtain⟨t,_,rfl⟩:=mem_map.mp hd
 exact EE 6 t
def Ax(l:List Int)(p:Nat):Ti:=(l.getD p 0,l.getD (p+1) 0,srt (l.take p))
theorem NV{cur:List Int}{lf:List Ti}{a:Addr}{x0 x1 x4:Sl}{E:En}(hn:cur.length<=12)(h:∀q,q+1<cur.length->Ax cur q∈lf->E.nx [x0,x1,.v (.lst (bS cur)),.own a (.lst (eA lf)),x4,.v (.int (q:Nat)),.v (Av (Ax cur q))]):∀(i p:Nat) (s5 s6:Sl),p+i+1=cur.length->(∃q,p<=q/\q+1<cur.length/\Ax cur q∈lf) ->
  bE (gN 5) (fQ dB) [] (bF p i) E [x0,x1,.v (.lst (bS cur)),.own a (.lst (eA lf)),x4,s5,s6]:=by
 intro i
 induction i with
 |zero=>
  intro p s5 s6 hp ⟨q,h1,h2,_⟩
  ac_rfl
 |succ i ih=>
  intro p s5 s6 hp ⟨q,h1,h2,h3⟩
  rw[bW,bM]
  refine⟨fun p hp=>by simp at hp,?_⟩
  rw[show ((p:Int)+1)=((p+1:Nat):Int) by ac_rfl]
  have nx:=fun s5 s6=>ih (p+1) s5 s6 ⋯
  generalize bE (gN 5) (fQ dB) [] (bF ((p+1:Nat):Int) i) E=G at nx ⊢
  push_cast [fQ]
  rw[fK (show p<cur.length by ac_rfl),show ((p:Int)+1)=((p+1:Nat):Int) by ac_rfl,fK (show p+1<cur.length by ac_rfl),DR ⋯,toNat_natCast,<- map_take]
  ac_nf
  refine yL (by simp;ac_rfl) fun ms hm hs=>?_
  obtain rfl:=eF hm hs
  ac_nf
  refine(show Hg _ (.lst _) _ from⟨⟨EE 6 (Ax cur p),zT _⟩,?_⟩)
  rw[show inD (Dv.tup [Dv.int (cur.getD p 0),Dv.int (cur.getD (p+1) 0),Dv.tup (bS (srt (cur.take p)))]) (eA lf)=decide (Ax cur p∈lf) from Ix (Ax cur p) lf]
  by_cases m:Ax cur p∈lf
  ·rw[decide_eq_true m]
   exact tR (h p ⋯ m)
  ·rw[decide_eq_false m]
   refine nX (nx _ _ ⟨q,?_,h2,h3⟩)
   rcases lt_or_ge p q with z | z
   ·ac_rfl
   ·exact absurd ((show p=q by ac_rfl) ▸ h3) m
theorem C1{t:Ti}:∀lf:List Ti,t∈lf -> ∃j,lf[j]?=some t/\(∀m e,m<j->lf[m]?=some e->e≠t)/\(t::lf.eraseIdx j).Perm lf
 |u::lf,h=>by
  by_cases e:u=t
  ·subst e
   exact⟨0,rfl,fun m e h=>by ac_rfl,.refl _⟩
  ·have h':t∈lf:=(mem_cons.mp h).resolve_left fun z=>e z.symm
   obtain⟨j,h1,h2,h3⟩:=C1 lf h'
   refine⟨j+1,h1,fun m v hm hv=>?_,(List.Perm.swap _ _ _).trans (.cons _ h3)⟩
   cases m with
   |zero=>cases hv;exact e
   |succ m=>exact h2 m v ⋯ hv
theorem J9{α β:Type}(f:α->β):∀(l:List α) (j:Nat),(l.map f).eraseIdx j=(l.eraseIdx j).map f
 | [],_=>rfl
 |x::l,0=>rfl
 |x::l,j+1=>by
  show f x::(l.map f).eraseIdx j=f x::(l.eraseIdx j).map f
  rw[J9 f l j]
theorem wmore{ks R e S cur:List Int}(w:Walk ks (ids ks.length) R e)(v:Walk ks (ids ks.length) S cur)(h:S.length<R.length):¬e7 ks cur:=fun d=>by
 have P:=Pt.ids ks.length
 have nd:=w.nodup P
 have:=nd.length_le_of_subset (l₂:=(tls (ids ks.length) S).map fun t=>(t.1,t.2.1)) fun k hk=>by
  obtain⟨t,ht,rfl⟩:=mem_map.mp hk
  obtain⟨h1,h2,_⟩:=w.key P ht
  obtain⟨u,hu,e1,e2⟩:=v.all P d h2 h1
  exact mem_map.mpr ⟨u,hu,by rw[e1,e2]⟩
 rw[length_map,length_map,Fl.gZ,Fl.gZ] at this
 ac_rfl
theorem NU{ks row e:List Int}{fl:List Ti}{a:Addr}{E:En}(h2:2<=ks.length)(hn:ks.length<=12)(w:Walk ks (ids ks.length) row e)(d:e7 ks e)(h:∀s2 s3 s4 s5 s6,E.nx [.v (.lst (bS ks)),.v (.lst (eA fl)),s2,s3,s4,s5,s6]):∀(i k:Nat) (S cur:List Int) (lf:List Ti) (s4 s5 s6:Sl),k+i=row.length->S.length=k->Walk ks (ids ks.length) S cur->(lf++fY (ids ks.length) S).Perm (fY (ids ks.length) row) ->
  bE (gN 4) (kA dB) [] (bF k i) E [.v (.lst (bS ks)),.v (.lst (eA fl)),.v (.lst (bS cur)),.own a (.lst (eA lf)),s4,s5,s6]:=by
 have P:=Pt.ids ks.length
 intro i
 induction i with
 |zero=>
  intro k S cur lf s4 s5 s6 _ _ _ _
  rw[cP,bI]
  exact⟨fun p hp=>by simp at hp,h _ _ _ _ _⟩
 |succ i ih=>
  intro k S cur lf s4 s5 s6 hk hS v pm
  have Pc:=v.pt P
  have lc:=Pc.len
  rw[bW,bM]
  refine⟨fun p hp=>by simp at hp,?_⟩
  rw[show ((k:Int)+1)=((k+1:Nat):Int) by ac_rfl]
  have nx:=fun S cur lf s4 s5 s6=>ih (k+1) S cur lf s4 s5 s6 ⋯
  generalize bE (gN 4) (kA dB) [] (bF ((k+1:Nat):Int) i) E=G at nx ⊢
  have lfl:lf.length<=row.length:=by
   have:=pm.length_eq
   rw[length_append,fY,length_map,fY,length_map,Fl.gZ,Fl.gZ] at this
   ac_rfl
  obtain⟨q,hq,u,hu,e1,e2,e3⟩:=Fl.greedy w d v (fun t ht=>by
   have m:tS t∈fY (ids ks.length) row:=pm.mem_iff.mp (mem_append_right _ (List.mem_map_of_mem ht))
   obtain⟨u,hu,e⟩:=mem_map.mp m
   have e':(u.1,u.2.1,srt u.2.2)=(t.1,t.2.1,srt t.2.2):=e
   injection e' with a b
   injection b with b c
   exact⟨u,hu,a,b,(Fl.dP _).symm.trans (c ▸ Fl.dP _)⟩) (wmore w v ⋯)
  have old:∀p,p+1<ks.length->Ax cur p∈fY (ids ks.length) row->Ax cur p∈lf:=fun p hp m=>by
   rcases mem_append.mp (pm.mem_iff.mpr m) with z | z
   ·exact z
   ·obtain⟨t,ht,et⟩:=mem_map.mp z
    have b:=(v.key P ht).2.2
    have et':(t.1,t.2.1,srt t.2.2)=(cur.getD p 0,cur.getD (p+1) 0,srt (cur.take p)):=et
    injection et' with c1 c2
    injection c2 with c2 _
    rw[c1,c2] at b
    exact absurd (Bf.near (l:=cur) (p:=p) ⋯) fun z=>z.anti Pc b
  have mq:Ax cur q∈lf:=old q hq (by
   refine mem_map.mpr ⟨u,hu,?_⟩
   unfold tS Ax
   rw[e1,e2,Fl.n9 e3])
  show aR (gQ (eM (aD (aT lI (fX dE (aD (aE 2) aJ)) (eC (.int 1))) aJ)) (gN 5) (fQ dB)) (aR (hZ (bB (aT eQ (aE 6) (aE 3))) (cD (eC (.bl false))) bL) (aR (Ci 3 (aE 6)) (bK 2 (aS dB (aD (aE 2) (aD (aE 5) aJ)))))) _ _
  have en:∀p,p+1<cur.length->Ax cur p∈lf->(aR (hZ (bB (aT eQ (aE 6) (aE 3))) (cD (eC (.bl false))) bL) (aR (Ci 3 (aE 6)) (bK 2 (aS dB (aD (aE 2) (aD (aE 5) aJ)))))) { nx:=G,rt:=E.rt,bk:=E.nx,ct:=G } [.v (.lst (bS ks)),.v (.lst (eA fl)),.v (.lst (bS cur)),.own a (.lst (eA lf)),.v (.int k),.v (.int (p:Nat)),.v (Av (Ax cur p))]:=by
   intro p hp m
   obtain⟨j,j1,j2,j3⟩:=C1 lf m
   have mem:Ax cur p∈fY (ids ks.length) row:=pm.mem_iff.mp (mem_append_left _ m)
   obtain⟨t,ht,et⟩:=mem_map.mp mem
   have et':(t.1,t.2.1,srt t.2.2)=(cur.getD p 0,cur.getD (p+1) 0,srt (cur.take p)):=et
   injection et' with c1 c2
   injection c2 with c2 _
   have kk:=(w.key P ht).2.1
   rw[c1,c2] at kk
   push_cast [Ci.eq_1]
   refine(show eQ _ (.lst _) _ from⟨⟨EE 6 (Ax cur p),zT _⟩,?_⟩)
   rw[Ix,decide_eq_true m]
   refine nX ?_
   refine⟨j,Av (Ax cur p),⟨EE 6 _,zT _⟩,by rw[List.getElem?_map,j1];rfl,(AF _ _).mpr rfl,fun m' e' hm' he'=>?_,?_⟩
   ·rw[List.getElem?_map] at he'
    cases hx:lf[m']? with
    |none=>rw[hx] at he';cases he'
    |some y=>
     rw[hx] at he'
     cases he'
     rw[Bool.eq_false_iff]
     exact fun z=>j2 m' y hm' hx ((AF _ _).mp z)
   ·refine⟨cur,p,rfl,⋯,hp,?_⟩
    ac_nf
    rw[show (eA lf).eraseIdx j=eA (lf.eraseIdx j) from J9 Av lf j]
    refine nx (S++[(p:Int)]) (aP cur p) (lf.eraseIdx j) _ _ _ (by rw[length_append,hS];rfl) (v.snoc ⋯ kk) ?_
    rw[Fl.vH v]
    rw[show fY cur [(p:Int)]=[Ax cur p] by unfold fY;rw[tls,tls,toNat_natCast];rfl]
    refine List.Perm.trans ?_ pm
    rw[<- append_assoc]
    refine perm_append_comm.trans ?_
    rw[List.singleton_append]
    exact j3.append_right _
  push_cast [length_map]
  refine⟨⋯,?_⟩
  rw[show ((cur.length:Int)-1).toNat=cur.length-1 by ac_rfl]
  exact NV ⋯ en (cur.length-1) 0 _ _ ⋯ ⟨q,⋯,⋯,mq⟩
def sF:Fn:=fun ds Q=>∃(ks row e:List Int) (fl:List Ti),ds=[.lst (bS ks),.lst (eA fl)]/\2<=ks.length/\ks.length<=12/\Walk ks (ids ks.length) row e/\e7 ks e/\row.length<=60/\fl.Perm (fY (ids ks.length) row)/\Q (.v (.bl true))
theorem IN:∀ds Q,sF ds Q->ds.length=2:=by rintro ds Q ⟨_,_,_,_,rfl,_⟩;rfl
theorem Kd:MonoF sF:=⟨fun ds Q Q' w z=>by obtain⟨a,b,c,d,e,f,g,h,i,j,k,l⟩:=z;exact⟨a,b,c,d,e,f,g,h,i,j,k,w _ l⟩⟩
theorem xL:∀ds Q,sF ds Q->lY dB ↥Q (aN ["_law_bands_here", "_law_tiles", "_law_path", "_law_left", "_law_k", "_law_p", "_law_tile"] ds):=by
 rintro ds Q ⟨ks,row,e,fl,rfl,h2,hn,w,d,rl,pm,q⟩
 have L:fl.length=row.length:=by rw[pm.length_eq,fY,length_map,Fl.gZ]
 push_cast [length_map]
 refine⟨⋯,fun a=>⟨⋯,?_⟩⟩
 rw[show ((ks.length:Nat):Int).toNat=ks.length by ac_rfl,vW ks.length,toNat_natCast]
 refine NU h2 hn w d (fun s2 s3 s4 s5 s6=>?_) fl.length 0 [] (ids ks.length) fl _ _ _ ⋯ rfl (.nil _) (by rw[show fY (ids ks.length) []=[] from rfl,append_nil];exact pm)
 ac_nf
 exact q
end Lw
namespace Lw
open L2 Z
open Sf (Rw crs uW Pre Good aK bH place many)
open Fl (kd ids Walk e7 tls pc aP Pt Bf srt eF Eh tS fY tm)
theorem Iz(ks:List Int)(a b:Int):∀(i c:Nat) (z:Int),(c:Int)<=z->z<(c+i:Nat)->kd ks z≠kd ks b->(a,b,z)∈yV ks a b i c
 |0,c,z,h1,h2,_=>by ac_rfl
 |i+1,c,z,h1,h2,h3=>by
  rw[yV,mem_append]
  by_cases e:z=(c:Int)
  ·left
   rw[if_neg (by rw[<- e];exact h3),e]
   exact mem_singleton.mpr rfl
  ·exact .inr (Iz ks a b i (c+1) z ⋯ ⋯ h3)
theorem Eo{ks:List Int}{a b c:Int}(h0:0<=a)(hab:a<b)(hbc:b<c)(hc:c<ks.length)(k1:kd ks a≠kd ks b)(k2:kd ks b≠kd ks c):(a,b,c)∈aQ ks:=
 mem_flatMap.mpr ⟨(a,b),kR.mpr ⟨h0,hab,by show b<_;ac_rfl,k1⟩,Iz ks a b _ _ c (by dsimp only;ac_rfl) (by dsimp only;ac_rfl) (Ne.symm k2)⟩
theorem kE.has{ks row e:List Int}{fl:List Ti}(w:Walk ks (ids ks.length) row e)(d:e7 ks e)(m:kC ks)(hn:ks.length<=12)(F:kE ks row fl){a c:Int}(h0:0<=a)(hac:a<c)(hc:c<ks.length)(hk:kd ks a≠kd ks c):DW fl a c:=by
 obtain⟨u,hu,_,_,_,eu⟩:=p7 (F.cov w d m a c h0 hac hc hk)
 have k1:=m a c h0 ⋯ hc
 obtain⟨p,q,_,P1,_,_,_,g⟩:=w.tile (w.tm_lt d h0 hac hc ⋯)
 have b:=F.below w g
 refine⟨u,hu,eu.symm,?_⟩
 rw[<- eu,b,Fl.jC]
 have:=P1.len
 show (p.take q).length<=30
 rw[length_take]
 ac_rfl
structure IsF(ks:List Int)(fl:List Ti):Prop where
 n2:2<=ks.length
 n12:ks.length<=12
 mo:kC ks
 up:fl.Pairwise yO
 row:∃row e,Walk ks (ids ks.length) row e/\e7 ks e/\row.length<=60/\fl.Perm (fY (ids ks.length) row)
theorem QM(us:List Ti):Al (us.map tS) us:=⟨by rw[length_map],fun i t u h1 h2=>by
 rw[List.getElem?_map,h2] at h1
 cases h1
 exact⟨rfl,rfl,rfl⟩⟩
theorem OD{ts us:List Ti}(h:Al ts us):ts=us.map tS:=by
 apply ext_getElem?
 intro i
 rw[List.getElem?_map]
 by_cases hi:i<us.length
 ·have hi':i<ts.length:=by rw[h.1];exact hi
  obtain⟨a,b,c⟩:=h.2 i _ _ (List.getElem?_eq_getElem hi') (List.getElem?_eq_getElem hi)
  rw[List.getElem?_eq_getElem hi',List.getElem?_eq_getElem hi]
  show some ts[i]=some (us[i].1,us[i].2.1,srt us[i].2.2)
  rw[<- a,<- b,<- c]
 ·rw[List.getElem?_eq_none (by rw[h.1];ac_rfl),List.getElem?_eq_none ⋯]
  rfl
theorem lO{ks row:List Int}{fl:List Ti}(h:fl.Perm (fY (ids ks.length) row)):kE ks row fl:=⟨_,h,QM _⟩
theorem Ka{ks row:List Int}{fl:List Ti}(h:kE ks row fl):fl.Perm (fY (ids ks.length) row):=by
 obtain⟨ts,p,a⟩:=h
 rw[OD a] at p
 exact p
theorem Ji(l:List Int):srt (srt l)=srt l:=Fl.n9 (Fl.dP l)
theorem IsF.key{ks:List Int}{fl:List Ti}(F:IsF ks fl):u6 fl:=by
 obtain⟨row,e,w,d,rl,p⟩:=F.row
 exact(lO p).keys w
theorem IsF.len{ks:List Int}{fl:List Ti}(F:IsF ks fl):fl.length<=60:=by
 obtain⟨row,e,w,d,rl,p⟩:=F.row
 rw[(lO p).len]
 exact rl
theorem Ni{n:Nat}{x y:Int}(h:Bf (ids n) x y):x<y:=by
 obtain⟨i,j,h1,h2,h3,h4⟩:=h
 have ln:(ids n).length=n:=by simp
 rw[Fl.kK ⋯] at h3 h4
 ac_rfl
theorem IsF.fl5{ks:List Int}{fl:List Ti}(F:IsF ks fl):Fl5 ks fl:=by
 have m:=F.mo
 have n12:=F.n12
 have kf:=F.key
 have lf:=F.len
 obtain⟨row,e,w,d,rl,p⟩:=F.row
 have FO:=lO p
 refine⟨n12,lf,kf,F.up,fun x hx=>?_,fun t ht=>?_,fun x hx=>?_⟩
 ·obtain⟨u,hu,rfl⟩:=mem_map.mp (p.mem_iff.mp hx)
  exact Ni (w.key (Pt.ids _) hu).1
 ·obtain⟨m1,m2,m3,m4,m5,m6⟩:=kU ht
  have k1:=m t.1 t.2.1 m1 ⋯ ⋯
  have k2:=m t.2.1 t.2.2 ⋯ ⋯ m4
  exact⟨FO.has w d m n12 m1 m2 ⋯ m5,FO.has w d m n12 m1 ⋯ m4 ⋯,FO.has w d m n12 ⋯ m3 m4 m6⟩
 ·obtain⟨u,hu,rfl⟩:=mem_map.mp (p.mem_iff.mp hx)
  exact Ji u.2.2
theorem Q6{α:Type}{L:List α}{i j k:Nat}{u v w:α}(hi:L[i]?=some u)(hj:L[j]?=some v)(hk:L[k]?=some w)(ij:i<j)(jk:j<k):∃A B C D,L=A++u::(B++v::(C++w::D)):=by
 obtain⟨h1,e1⟩:=List.getElem?_eq_some_iff.mp hi
 obtain⟨h2,e2⟩:=List.getElem?_eq_some_iff.mp hj
 obtain⟨h3,e3⟩:=List.getElem?_eq_some_iff.mp hk
 refine⟨L.take i,(L.drop (i+1)).take (j-i-1),(L.drop (j+1)).take (k-j-1),L.drop (k+1),?_⟩
 have s1:L=L.take i++u::L.drop (i+1):=by rw[<- e1,<- drop_eq_getElem_cons h1,take_append_drop]
 have s2:L.drop (i+1)=(L.drop (i+1)).take (j-i-1)++v::L.drop (j+1):=by
  conv=>lhs;rw[<- take_append_drop (j-i-1) (L.drop (i+1))]
  rw[List.drop_drop,show i+1+(j-i-1)=j by ac_rfl,drop_eq_getElem_cons h2,e2]
 have s3:L.drop (j+1)=(L.drop (j+1)).take (k-j-1)++w::L.drop (k+1):=by
  conv=>lhs;rw[<- take_append_drop (k-j-1) (L.drop (j+1))]
  rw[List.drop_drop,show j+1+(k-j-1)=k by ac_rfl,drop_eq_getElem_cons h3,e3]
 rw[<- s3,<- s2,<- s1]
theorem yA{ks row e:List Int}{fl:List Ti}(w:Walk ks (ids ks.length) row e)(FO:kE ks row fl){x y:Int}(h:tm ks row x y<row.length):∃pre,(tls (ids ks.length) row)[tm ks row x y]?=some (x,y,pre)/\cQ fl x y=srt pre/\x ∉ cQ fl x y/\y ∉ cQ fl x y:=by
 obtain⟨m,p,w1,P1,hp,ea,ec,g⟩:=w.tile h
 have lm:=P1.len
 have b:=FO.below w g
 have no:∀(i:Nat) (z:Int),i<ks.length->p<=i->m.getD i 0=z->z ∉ m.take p:=fun i z hi hpi hz hm=>by
  obtain⟨q,hq,eq⟩:=mem_iff_getElem.mp hm
  rw[length_take] at hq
  rw[List.getElem_take] at eq
  have:=P1.inj q i ⋯ hi (by rw[hz,<- eq];simp[List.getD,show q<m.length by ac_rfl])
  ac_rfl
 have eb:cQ fl x y=srt (m.take p):=b
 refine⟨m.take p,g,eb,fun z=>?_,fun z=>?_⟩
 ·rw[eb] at z
  exact no p x ⋯ (le_refl _) ea ((Fl.dP _).mem_iff.mp z)
 ·rw[eb] at z
  exact no (p+1) y hp ⋯ ec ((Fl.dP _).mem_iff.mp z)
theorem Ou{α:Type}(A B C D:List α)(u v w:α):(A++u::(B++v::(C++w::D))).Perm ((A++B)++(C++D)++[u,v,w]):=by
 rw[append_assoc (A++B)]
 have e1:(A++u::(B++v::(C++w::D))).Perm (u::(A++(B++v::(C++w::D)))):=perm_middle
 have e2:(A++(B++v::(C++w::D))).Perm (v::(A++B++(C++w::D))):=by rw[<- append_assoc];exact perm_middle
 have e3:(A++B++(C++w::D)).Perm (w::(A++B++C++D)):=by rw[<- append_assoc];exact perm_middle
 have e4:(u::v::w::(A++B++C++D)).Perm ((A++B++C++D)++[u,v,w]):=(perm_append_comm (l₁:=[u,v,w]))
 refine e1.trans ((List.Perm.cons _ (e2.trans (.cons _ e3))).trans (e4.trans ?_))
 simp
structure Three(ks:List Int)(fl:List Ti)(a b c:Int):Prop where
 t:(a,b,c)∈aQ ks
 ab:a<b
 bc:b<c
 a1:a ∉ cQ fl a b
 b1:b ∉ cQ fl a b
 a2:a ∉ cQ fl a c
 c2:c ∉ cQ fl a c
 b3:b ∉ cQ fl b c
 c3:c ∉ cQ fl b c
theorem IsF.flip{ks:List Int}{fl:List Ti}(F:IsF ks fl){a b c:Int}(t3:(a,b,c)∈aQ ks)(hx:mZ fl (a,b,c)):IsF ks (kS fl (a,b,c))/\Three ks fl a b c:=by
 have m:=F.mo
 have n12:=F.n12
 have F5:=F.fl5
 obtain⟨row,e,w,d,rl,p⟩:=F.row
 have FO:=lO p
 obtain⟨m1,m2,m3,m4,m5,m6⟩:=kU t3
 simp only at m1 m2 m3 m4 m5 m6
 have k1:=m a b m1 ⋯ ⋯
 have k2:=m b c ⋯ ⋯ m4
 have i1:=w.tm_lt d m1 m2 ⋯ ⋯
 have i2:=w.tm_lt d m1 (show a<c by ac_rfl) m4 ⋯
 have i3:=w.tm_lt d (show 0<=b by ac_rfl) m3 m4 ⋯
 obtain⟨p1,g1,e1,n1,n1'⟩:=yA w FO i1
 obtain⟨p2,g2,e2,n2,n2'⟩:=yA w FO i2
 obtain⟨p3,g3,e3,n3,n3'⟩:=yA w FO i3
 have T:Three ks fl a b c:=⟨t3,m2,m3,n1,n1',n2,n2',n3,n3'⟩
 refine⟨?_,T⟩
 have tr:=w.tri d m m1 m2 m3 m4 ⋯
 have th:=w.three d m1 m2 m3 m4 ⋯ ⋯ g1 ⟨rfl,rfl⟩ g3 ⟨rfl,rfl⟩ g2 ⟨rfl,rfl⟩
 have G:∀{i:Nat} {x y:Int} {pre:List Int},(tls (ids ks.length) row)[i]?=some (x,y,pre)->cQ fl x y=srt pre->(fY (ids ks.length) row)[i]?=some (x,y,cQ fl x y):=fun h he=>by
  unfold fY
  rw[List.getElem?_map,h,he]
  rfl
 have L1:=G g1 e1
 have L2:=G g2 e2
 have L3:=G g3 e3
 have pf:=mQ F5 m2 m3 t3
 have po:∀{A B C D:List Ti} {u v x:Ti},fY (ids ks.length) row=A++u::(B++v::(C++x::D))->([u,v,x].Perm [(a,b,cQ fl a b),(a,c,cQ fl a c),(b,c,cQ fl b c)])->(fl.filter (othB (a,b,c))).Perm ((A++B)++(C++D)):=fun {A B C D u v x} h hp=>by
  have q1:=nY (othB (a,b,c)) fl
  rw[vI F5 m2 m3 t3] at q1
  have q2:=(q1.trans p)
  rw[h] at q2
  have q3:=q2.trans ((Ou A B C D u v x).trans (hp.append_left _))
  exact(List.perm_append_right_iff _).mp q3
 have fin:∀{row':List Int} {A B C D:List Ti},Walk ks (ids ks.length) row' e->(fl.filter (othB (a,b,c))).Perm ((A++B)++(C++D))->(fY (ids ks.length) row').Perm ((A++B)++(C++D)++rX fl (a,b,c))->IsF ks (kS fl (a,b,c)):=fun {row' A B C D} w' h1 h2=>by
  have P:=pf.trans ((h1.append_right _).trans h2.symm)
  refine⟨F.n2,n12,m,DK F.up,row',e,w',d,?_,P⟩
  have:=P.length_eq
  rw[kS,length_map,fY,length_map,Fl.gZ] at this
  have:=F.len
  ac_rfl
 by_cases u:GH fl (a,b,c)
 ·have u1:cQ fl b c=cQ fl a b:=u.1
  have u2:cQ fl a c=srt (cQ fl a b++[b]):=u.2
  have hb:b∈p2:=by
   have:b∈cQ fl a c:=by rw[u2];exact(Fl.dP _).mem_iff.mpr (by simp)
   rw[e2] at this
   exact(Fl.dP _).mem_iff.mp this
  have o13:=th.mp hb
  have o:tm ks row a b<tm ks row a c/\tm ks row a c<tm ks row b c:=⋯
  obtain⟨A,B,C,D,hd⟩:=Q6 L1 L2 L3 o.1 o.2
  have hd':=hd
  rw[u1,u2] at hd'
  obtain⟨row',w',h'⟩:=Fl.LI w (Pt.ids _) hd'
  refine fin (A:=A) (B:=B) (C:=C) (D:=D) w' (po hd (.refl _)) ?_
  rw[h',rX,if_pos u]
  show ((A++B)++([(b,c,srt (cQ fl a b++[a])),(a,c,cQ fl a b),(a,b,srt (cQ fl a b++[c]))]++(C++D))).Perm _
  rw[append_assoc (A++B) (C++D)]
  refine List.Perm.append_left _ (perm_append_comm.trans (List.Perm.append_left _ ?_))
  show ([(b,c,srt (cQ fl a b++[a])),(a,c,cQ fl a b),(a,b,srt (cQ fl a b++[c]))]:List Ti).Perm [(a,b,srt (cQ fl a b++[c])),(a,c,cQ fl a b),(b,c,srt (cQ fl a b++[a]))]
  exact List.reverse_perm [(a,b,srt (cQ fl a b++[c])),(a,c,cQ fl a b),(b,c,srt (cQ fl a b++[a]))]
 ·have dn:OB fl (a,b,c):=(show GH fl (a,b,c) \/ OB fl (a,b,c) from hx).resolve_left u
  have u1:cQ fl a b=srt (cQ fl a c++[c]):=dn.1
  have u3:cQ fl b c=srt (cQ fl a c++[a]):=dn.2
  have hb:b ∉ p2:=fun z=>n1' (by
   rw[u1]
   refine(Fl.dP _).mem_iff.mpr (mem_append_left _ ?_)
   rw[e2]
   exact(Fl.dP _).mem_iff.mpr z)
  have o13:¬tm ks row a b<tm ks row b c:=fun z=>hb (th.mpr z)
  have o:tm ks row b c<tm ks row a c/\tm ks row a c<tm ks row a b:=⋯
  obtain⟨A,B,C,D,hd⟩:=Q6 L3 L2 L1 o.1 o.2
  have hd':=hd
  rw[u1,u3] at hd'
  obtain⟨row',w',h'⟩:=Fl.LJ w (Pt.ids _) hd'
  refine fin (A:=A) (B:=B) (C:=C) (D:=D) w' (po hd (List.reverse_perm [(a,b,cQ fl a b),(a,c,cQ fl a c),(b,c,cQ fl b c)])) ?_
  rw[h',rX,if_neg u]
  show ((A++B)++([(a,b,cQ fl a c),(a,c,srt (cQ fl a c++[b])),(b,c,cQ fl a c)]++(C++D))).Perm _
  rw[append_assoc (A++B) (C++D)]
  exact List.Perm.append_left _ (perm_append_comm.trans (List.Perm.append_left _ (.refl _)))
end Lw
namespace Lw
open L2 Z
open Sf (Rw crs uW Pre Good aK bH place many)
open Fl (kd ids Walk e7 tls pc aP Pt Bf srt eF Eh tS fY tm)
def Qr(t u:Int×Int):Prop:=t.1<u.1 \/ (t.1=u.1/\t.2<u.2)
theorem J0(ks:List Int)(a:Int):∀i b,(xG ks a i b).Pairwise Qr
 |0,_=>.nil
 |i+1,b=>by
  rw[xG]
  refine pairwise_append.mpr ⟨?_,J0 ks a i (b+1),fun t ht u hu=>?_⟩
  ·split
   ·exact .nil
   ·exact List.pairwise_singleton _ _
  ·have h2:=(vA ks a i (b+1) u).mp hu
   split at ht
   ·cases ht
   ·rw[mem_singleton] at ht
    subst ht
    exact .inr ⟨h2.1.symm,by have:=h2.2.1;dsimp only;ac_rfl⟩
theorem ED(ks:List Int):∀i a,a+i=ks.length->(mJ ks i a).Pairwise Qr
 |0,_,_=>.nil
 |i+1,a,h=>by
  rw[mJ]
  refine pairwise_append.mpr ⟨J0 ..,ED ks i (a+1) ⋯,fun t ht u hu=>.inl ?_⟩
  have h1:=((vA ks a _ _ t).mp ht).1
  have h2:=((wF ks i (a+1) u ⋯).mp hu).1
  ac_rfl
theorem HL(ks:List Int):(fH ks).Pairwise Qr:=ED ks ks.length 0 ⋯
abbrev Th:=Int×Int×Int
abbrev k3(t:Th):List Int:=[t.1,t.2.1,t.2.2]
theorem Iy(ks:List Int)(a b:Int):∀(i c:Nat),(yV ks a b i c).Pairwise fun t u=>lexB (k3 t) (k3 u)=true
 |0,c=>.nil
 |i+1,c=>by
  rw[yV]
  refine pairwise_append.mpr ⟨by split<;>simp,Iy ks a b i (c+1),fun t ht u hu=>?_⟩
  obtain⟨e1,e2,e3,_⟩:=sT _ _ _ _ _ _ hu
  split at ht
  ·cases ht
  ·rw[mem_singleton.mp ht]
   simp[lexB,e1,e2]
   ac_rfl
theorem Em(ks:List Int):(aQ ks).Pairwise fun t u=>lexB (k3 t) (k3 u)=true:=by
 unfold aQ fZ
 rw[List.pairwise_flatMap]
 refine⟨fun t _=>Iy _ _ _ _ _,(HL ks).imp fun {a b} h x hx y hy=>?_⟩
 obtain⟨e1,e2,_⟩:=sT _ _ _ _ _ _ hx
 obtain⟨f1,f2,_⟩:=sT _ _ _ _ _ _ hy
 unfold Qr at h
 simp only[lexB,e1,e2,f1,f2]
 rcases h with h | ⟨h,h2⟩
 ·rw[if_neg ⋯]
  exact decide_eq_true h
 ·rw[if_pos h,if_neg ⋯]
  exact decide_eq_true h2
theorem SD{B:List Th}{Q:R->Prop}:∀(l acc:List Th),acc.length+l.length<=10000->Q (.nw (.lst (e9 (acc++l.filter fun t=>!decide (t∈B))))) ->
  d8 [.un,.v (.lst (e9 B))] (gN 0) (bB (aT eQ (aE 0) (aE 1))) (aE 0) (e9 l) (e9 acc) Q:=by
 intro l
 induction l with
 |nil=>
  intro acc _ h
  rw[show e9 []=[] from rfl,dL]
  simpa using h
 |cons t l ih=>
  intro acc hl h
  simp only[length_cons] at hl
  rw[show e9 (t::l)=.tup [.int t.1,.int t.2.1,.int t.2.2]::e9 l from rfl]
  push_cast [eQ,Bv,length_map]
  refine⟨⟨rfl,uZ B⟩,?_⟩
  by_cases z:t∈B
  ·rw[decide_eq_true z,if_neg ∅]
   rw[filter_cons_of_neg (by simpa using z)] at h
   exact ih _ ⋯ h
  ·rw[decide_eq_false z,if_pos ∅]
   refine⟨⋯,?_⟩
   rw[show e9 acc++[Dv.tup [Dv.int t.1,Dv.int t.2.1,Dv.int t.2.2]]=e9 (acc++[t]) by simp]
   rw[filter_cons_of_pos (by simpa using z)] at h
   exact ih _ (by simp;ac_rfl) (by simpa using h)
theorem Qz(l:List Th):e9 l=(l.map fun t=>(k3 t,([]:List Dv))).map tI:=by rw[map_map];rfl
def upB(l:List Ti)(t:Int×Int×Int):Bool:=decide (t.2.1∈cQ l t.1 t.2.2)
theorem Qx{ks:List Int}{fl:List Ti}{Q:R->Prop}(cov:SC ks fl)(mono:kC ks):∀(l acc:List (Int×Int×Int)),(∀t∈l,t∈aQ ks)->acc.length+l.length<=10000->Q (.nw (.lst (e9 (acc++l.filter (upB fl))))) ->
  d8 [.un,.v (.dit (Aj fl))] (gN 0) (bB (aT Hg (aT cX (aE 0) (eC (.int 1))) (aT cX (aE 1) (cZ (aD (aT cX (aE 0) (eC (.int 0))) (aD (aT cX (aE 0) (eC (.int 2))) aJ)))))) (aE 0) (e9 l) (e9 acc) Q:=by
 intro l
 induction l with
 |nil=>
  intro acc _ _ h
  rw[show e9 []=[] from rfl,dL]
  simpa using h
 |cons t l ih=>
  intro acc hm hl h
  simp only[length_cons] at hl
  obtain⟨m1,m2,m3,m4,m5,m6⟩:=kU (hm t (by simp))
  have k1:=mono t.1 t.2.1 m1 ⋯ ⋯
  have k2:=mono t.2.1 t.2.2 ⋯ ⋯ m4
  obtain⟨u,hu,_,_,_,eu⟩:=p7 (cov t.1 t.2.2 m1 ⋯ m4 ⋯)
  rw[show e9 (t::l)=.tup [.int t.1,.int t.2.1,.int t.2.2]::e9 l from rfl]
  push_cast [vD,hu,map_some,Hg,EL,length_map]
  refine⟨⟨RY _ _,oX _ _⟩,?_⟩
  rw[<- eu]
  have e:upB fl t=decide (t.2.1∈cQ fl t.1 t.2.2):=rfl
  by_cases z:t.2.1∈cQ fl t.1 t.2.2
  ·rw[if_pos z]
   refine⟨⋯,?_⟩
   rw[show e9 acc++[Dv.tup [Dv.int t.1,Dv.int t.2.1,Dv.int t.2.2]]=e9 (acc++[t]) by simp]
   rw[filter_cons_of_pos (by rw[e];simpa using z)] at h
   exact ih _ (fun t ht=>hm t (mem_cons_of_mem _ ht)) (by simp;ac_rfl) (by simpa using h)
  ·rw[if_neg z]
   rw[filter_cons_of_neg (by rw[e];simpa using z)] at h
   exact ih _ (fun t ht=>hm t (mem_cons_of_mem _ ht)) ⋯ h
theorem rA{l:List Ti}(k:u6 l){x y:Int}{z:List Int}(h:(x,y,z)∈l):cQ l x y=z:=by
 obtain⟨t,_,ht,e1,e2,e3⟩:=p7 (l:=l) (a:=x) (c:=y) ⟨_,h,rfl,rfl⟩
 have:=k.one ht h ⟨e1,e2⟩
 rw[e3,this]
theorem NC{fl:List Ti}{t:Int×Int×Int}:(rX fl t).filter (othB t)=[]:=by
 rw[filter_eq_nil_iff]
 intro u hu
 have m:(u.1,u.2.1)∈(rX fl t).map (fun x=>(x.1,x.2.1)):=List.mem_map_of_mem hu
 rw[zU] at m
 simp only[mem_cons,not_mem_nil,or_false,Prod.mk.injEq] at m
 unfold othB
 simp only[Bool.or_eq_true,decide_eq_true_eq,mem_cons,not_mem_nil,or_false,not_or]
 ac_rfl
theorem iN{x:Int}{l:List Int}:x∈srt l ↔ x∈l:=(Fl.dP l).mem_iff
structure Nw(fl:List Ti)(a b c:Int)(S:List Int)(u:Bool):Prop where
 o1:cQ fl a b=if u then S else srt (S++[c])
 o2:cQ fl a c=if u then srt (S++[b]) else S
 o3:cQ fl b c=if u then S else srt (S++[a])
 n1:cQ (kS fl (a,b,c)) a b=if u then srt (S++[c]) else S
 n2:cQ (kS fl (a,b,c)) a c=if u then S else srt (S++[b])
 n3:cQ (kS fl (a,b,c)) b c=if u then srt (S++[a]) else S
 na:a ∉ S
 nb:b ∉ S
 nc:c ∉ S
theorem Hx{ks:List Int}{fl:List Ti}(F:IsF ks fl){a b c:Int}(t3:(a,b,c)∈aQ ks)(hx:mZ fl (a,b,c)):∃S u,Nw fl a b c S u:=by
 obtain⟨F',T⟩:=F.flip t3 hx
 have K:=F'.key
 have P:=mQ F.fl5 T.ab T.bc t3
 have mem:∀x∈rX fl (a,b,c),x∈kS fl (a,b,c):=fun x hx=>P.mem_iff.mpr (mem_append_right _ hx)
 by_cases u:GH fl (a,b,c)
 ·have u1:cQ fl b c=cQ fl a b:=u.1
  have u2:cQ fl a c=srt (cQ fl a b++[b]):=u.2
  rw[rX,if_pos u] at mem
  refine⟨cQ fl a b,true,rfl,u2,u1,?_,?_,?_,T.a1,T.b1,u1 ▸ T.c3⟩
  ·exact rA K (mem (a,b,srt (cQ fl a b++[c])) (by simp[JI]))
  ·exact rA K (mem (a,c,cQ fl a b) (by simp[JI]))
  ·exact rA K (mem (b,c,srt (cQ fl a b++[a])) (by simp[JI]))
 ·have dn:OB fl (a,b,c):=(show GH fl (a,b,c) \/ OB fl (a,b,c) from hx).resolve_left u
  have u1:cQ fl a b=srt (cQ fl a c++[c]):=dn.1
  have u3:cQ fl b c=srt (cQ fl a c++[a]):=dn.2
  rw[rX,if_neg u] at mem
  refine⟨cQ fl a c,false,u1,rfl,u3,?_,?_,?_,T.a2,fun z=>T.b1 (by rw[u1,iN];exact mem_append_left _ z),T.c2⟩
  ·exact rA K (mem (a,b,cQ fl a c) (by simp[GN]))
  ·exact rA K (mem (a,c,srt (cQ fl a c++[b])) (by simp[GN]))
  ·exact rA K (mem (b,c,cQ fl a c) (by simp[GN]))
theorem IsF.back{ks:List Int}{fl:List Ti}(F:IsF ks fl){a b c:Int}(t3:(a,b,c)∈aQ ks)(hx:mZ fl (a,b,c)):mZ (kS fl (a,b,c)) (a,b,c)/\kS (kS fl (a,b,c)) (a,b,c)=fl:=by
 obtain⟨F',T⟩:=F.flip t3 hx
 obtain⟨S,u,N⟩:=Hx F t3 hx
 have fo:((kS fl (a,b,c)).filter (othB (a,b,c))).Perm (fl.filter (othB (a,b,c))):=by
  have:=(mQ F.fl5 T.ab T.bc t3).filter (othB (a,b,c))
  rw[filter_append,NC,append_nil,List.filter_filter] at this
  simpa using this
 have bk:rX (kS fl (a,b,c)) (a,b,c)=[(a,b,cQ fl a b),(a,c,cQ fl a c),(b,c,cQ fl b c)]->kS (kS fl (a,b,c)) (a,b,c)=fl:=fun h=>by
  have p1:=mQ F'.fl5 T.ab T.bc t3
  rw[h] at p1
  have p2:=nY (othB (a,b,c)) fl
  rw[vI F.fl5 T.ab T.bc t3] at p2
  exact zD (p1.trans ((fo.append_right _).trans p2)) (DK F'.up) F.up
 cases u with
 |true=>
  have o1:cQ fl a b=S:=N.o1
  have o2:cQ fl a c=srt (S++[b]):=N.o2
  have o3:cQ fl b c=S:=N.o3
  have n1:cQ (kS fl (a,b,c)) a b=srt (S++[c]):=N.n1
  have n2:cQ (kS fl (a,b,c)) a c=S:=N.n2
  have n3:cQ (kS fl (a,b,c)) b c=srt (S++[a]):=N.n3
  have no:¬GH (kS fl (a,b,c)) (a,b,c):=fun z=>by
   have z1:cQ (kS fl (a,b,c)) b c=cQ (kS fl (a,b,c)) a b:=z.1
   rw[n3,n1] at z1
   have:c∈srt (S++[a]):=by rw[z1,iN];simp
   rw[iN,mem_append,mem_singleton] at this
   have hab:=T.ab
   have hbc:=T.bc
   rcases this with h | h
   ·exact N.nc h
   ·ac_rfl
  refine⟨.inr ⟨?_,?_⟩,bk ?_⟩
  ·show cQ (kS fl (a,b,c)) a b=srt (cQ (kS fl (a,b,c)) a c++[c])
   rw[n1,n2]
  ·show cQ (kS fl (a,b,c)) b c=srt (cQ (kS fl (a,b,c)) a c++[a])
   rw[n3,n2]
  ·rw[rX,if_neg no,o1,o2,o3]
   show GN a b c (cQ (kS fl (a,b,c)) a c)=_
   rw[n2]
   rfl
 |false=>
  have o1:cQ fl a b=srt (S++[c]):=N.o1
  have o2:cQ fl a c=S:=N.o2
  have o3:cQ fl b c=srt (S++[a]):=N.o3
  have n1:cQ (kS fl (a,b,c)) a b=S:=N.n1
  have n2:cQ (kS fl (a,b,c)) a c=srt (S++[b]):=N.n2
  have n3:cQ (kS fl (a,b,c)) b c=S:=N.n3
  have yes:GH (kS fl (a,b,c)) (a,b,c):=by
   refine⟨?_,?_⟩
   ·show cQ (kS fl (a,b,c)) b c=cQ (kS fl (a,b,c)) a b
    rw[n3,n1]
   ·show cQ (kS fl (a,b,c)) a c=srt (cQ (kS fl (a,b,c)) a b++[b])
    rw[n2,n1]
  refine⟨.inl yes,bk ?_⟩
  rw[rX,if_pos yes,o1,o2,o3]
  show JI a b c (cQ (kS fl (a,b,c)) a b)=_
  rw[n1]
  rfl
theorem MN{ks:List Int}{fl:List Ti}(F:IsF ks fl){a b c:Int}(t3:(a,b,c)∈aQ ks)(hx:mZ fl (a,b,c)):upB (kS fl (a,b,c)) (a,b,c) = !upB fl (a,b,c):=by
 obtain⟨S,u,N⟩:=Hx F t3 hx
 have nb:=N.nb
 show decide (b∈cQ (kS fl (a,b,c)) a c) = !decide (b∈cQ fl a c)
 rw[N.n2,N.o2]
 cases u with
 |true=>simp[iN,nb]
 |false=>simp[iN,nb]
theorem MK{ks:List Int}{fl:List Ti}(F:IsF ks fl){a b c:Int}(t3:(a,b,c)∈aQ ks)(hx:mZ fl (a,b,c)){t:Int×Int×Int}(ht:t∈aQ ks)(ne:t≠(a,b,c)):upB (kS fl (a,b,c)) t=upB fl t:=by
 obtain⟨F',T⟩:=F.flip t3 hx
 obtain⟨S,u,N⟩:=Hx F t3 hx
 obtain⟨x,y,z⟩:=t
 obtain⟨m1,m2,m3,m4,m5,m6⟩:=kU ht
 simp only at m1 m2 m3 m4 m5 m6
 have hab:=T.ab
 have hbc:=T.bc
 have h2:=(F.fl5.has _ ht).2.1.mem.1
 simp only at h2
 show decide (y∈cQ (kS fl (a,b,c)) x z)=decide (y∈cQ fl x z)
 refine decide_eq_decide.mpr ?_
 cases o:othB (a,b,c) (x,z,cQ fl x z) with
 |true=>
  have:(x,z,cQ fl x z)∈kS fl (a,b,c):=(mQ F.fl5 T.ab T.bc t3).mem_iff.mpr (mem_append_left _ (mem_filter.mpr ⟨h2,o⟩))
  rw[rA F'.key this]
 |false=>
  unfold othB at o
  simp only[Bool.or_eq_false_iff,decide_eq_false_iff_not,mem_cons,not_mem_nil,or_false,Classical.not_not] at o
  have k:(x=a/\z=b) \/ (x=a/\z=c) \/ (x=b/\z=c):=⋯
  have yb:¬(x=a/\y=b/\z=c):=fun q=>ne (by rw[q.1,q.2.1,q.2.2])
  rcases k with⟨rfl,rfl⟩ | ⟨rfl,rfl⟩ | ⟨rfl,rfl⟩
  ·rw[N.n1,N.o1]
   cases u<;>simp[iN]<;>ac_rfl
  ·rw[N.n2,N.o2]
   cases u<;>simp[iN]<;>ac_rfl
  ·rw[N.n3,N.o3]
   cases u<;>simp[iN]<;>ac_rfl
theorem Cc(ks:List Int):(aQ ks).Nodup:=(Em ks).imp fun {t u} h z=>by
 rw[z,jO] at h
 cases h
theorem wR{α:Type}{f:α->Bool}{t:α}:∀{l:List α},l.Nodup->t∈l->(∀x∈l,x≠t->f x=false)->f t=true->l.filter f=[t]
 |x::l,nd,h,a,b=>by
  obtain⟨n1,n2⟩:=nodup_cons.mp nd
  by_cases e:x=t
  ·subst e
   rw[filter_cons,if_pos b,show l.filter f=[] by
    rw[filter_eq_nil_iff]
    intro y hy z
    rw[a y (mem_cons_of_mem _ hy) fun q=>n1 (q ▸ hy)] at z
    cases z]
  ·rw[filter_cons,if_neg (by rw[a x (mem_cons_self ..) e];decide)]
   exact wR n2 ((mem_cons.mp h).resolve_left fun z=>e z.symm) (fun y hy=>a y (mem_cons_of_mem _ hy)) b
theorem Q5{ks:List Int}{p q:Int×Int×Int->Bool}{t:Int×Int×Int}(ht:t∈aQ ks)(h1:q t = !p t)(h2:∀x∈aQ ks,x≠t->q x=p x):
  (((aQ ks).filter p).filter fun x=>!decide (x∈(aQ ks).filter q))++(((aQ ks).filter q).filter fun x=>!decide (x∈(aQ ks).filter p))=[t]:=by
 have f:∀(p q:Int×Int×Int->Bool),((aQ ks).filter p).filter (fun x=>!decide (x∈(aQ ks).filter q))=(aQ ks).filter fun x=>p x && !q x:=fun p q=>by
  rw[List.filter_filter]
  refine List.filter_congr fun x hx=>?_
  rw[show decide (x∈(aQ ks).filter q)=q x by rw[Bool.eq_iff_iff,decide_eq_true_eq,mem_filter];exact⟨fun z=>z.2,fun z=>⟨hx,z⟩⟩,Bool.and_comm]
 rw[f,f]
 have no:∀(p q:Int×Int×Int->Bool),(p t && !q t)=false->(∀x∈aQ ks,x≠t->q x=p x)->(aQ ks).filter (fun x=>p x && !q x)=[]:=fun p q a b=>by
  rw[filter_eq_nil_iff]
  intro x hx z
  by_cases e:x=t
  ·rw[e,a] at z
   cases z
  ·rw[b x hx e] at z
   cases h:p x<;>rw[h] at z<;>cases z
 cases hp:p t with
 |true=>
  rw[hp] at h1
  rw[wR (f:=fun x=>p x && !q x) (Cc ks) ht (fun x hx e=>by show (p x && !q x)=false;rw[h2 x hx e];cases p x<;>rfl) (by show (p t && !q t)=true;rw[hp,h1];rfl),no q p (by rw[h1];rfl) fun x hx e=>(h2 x hx e).symm]
  rfl
 |false=>
  rw[hp] at h1
  rw[no p q (by rw[hp];rfl) h2,wR (f:=fun x=>q x && !p x) (Cc ks) ht (fun x hx e=>by show (q x && !p x)=false;rw[h2 x hx e];cases p x<;>rfl) (by show (q t && !p t)=true;rw[hp,h1];rfl)]
  rfl
end Lw
namespace Fl
section
variable {n L:Nat} {kk:Int->Int} {T:Int->Int->Nat}
def qK(T:Int->Int->Nat)(a b c:Int):Prop:=T a b<T a c
instance (T:Int->Int->Nat) (a b c:Int):Decidable (qK T a b c):=by unfold qK;exact inferInstance
theorem Tms.four(h:Tms n kk T L){i j k l:Int}(h0:0<=i)(ij:i<j)(jk:j<k)(kl:k<l)(ln:l<n)(k1:kk i≠kk k)(k2:kk j≠kk l):
  (qK T i j k ↔ qK T i j l)/\(qK T i j l ↔ qK T i k l) \/ (qK T i j k ↔ qK T i j l)/\(qK T i k l ↔ qK T j k l) \/ (qK T i j l ↔ qK T i k l)/\(qK T i k l ↔ qK T j k l):=by
 have m1:=h.mono i j h0 ⋯ ⋯
 have m2:=h.mono j k ⋯ ⋯ ⋯
 have m3:=h.mono k l ⋯ ⋯ ⋯
 have a:=h.tri i j k h0 ij jk ⋯ k1
 have b:=h.tri i j l h0 ij ⋯ ln ⋯
 have c:=h.tri i k l h0 ⋯ kl ln ⋯
 have d:=h.tri j k l ⋯ jk kl ln k2
 unfold qK
 ac_rfl
theorem Tms.counts(h:Tms n kk T L){a b c:Int}{u:Prop}[Decidable u](h0:0<=a)(ab:a<b)(bc:b<c)(cn:c<n)(k:kk a≠kk c)(hu:kk a≠kk b->kk b≠kk c->(u ↔ qK T a b c)):
  (if kk a=kk b then false else if kk b=kk c then true else decide u)=decide (qK T a b c):=by
 have m1:=h.mono a b h0 ⋯ ⋯
 have m2:=h.mono b c ⋯ ⋯ cn
 have t:=h.tri a b c h0 ab bc cn k
 have l:=h.lt a c h0 ⋯ cn ⋯
 unfold qK at *
 by_cases e:kk a=kk b
 ·rw[if_pos e]
  have:=h.al a b ⋯
  exact(decide_eq_false ⋯).symm
 ·rw[if_neg e]
  by_cases e2:kk b=kk c
  ·rw[if_pos e2]
   have:=h.al b c ⋯
   exact(decide_eq_true ⋯).symm
  ·rw[if_neg e2]
   exact decide_eq_decide.mpr (hu e e2)
theorem Tms.isb(h:Tms n kk T L){x y z:Int}(h0:0<=x)(xy:x<y)(yn:y<n)(k:kk x≠kk y)(z0:0<=z)(zn:z<n):
  (if z<x then ¬qK T z x y else if y<z then ¬qK T x y z else x<z/\z<y/\qK T x z y) ↔ z≠x/\z≠y/\((z<x/\T x y<T z x) \/ (x<z/\T x z<T x y)):=by
 have m1:=h.mono x y h0 ⋯ yn
 unfold qK
 by_cases e:z<x
 ·rw[if_pos e]
  have m2:=h.mono z x z0 ⋯ ⋯
  have t:=h.tri z x y z0 e xy yn ⋯
  ac_rfl
 ·rw[if_neg e]
  by_cases e2:y<z
  ·rw[if_pos e2]
   have m2:=h.mono y z ⋯ ⋯ ⋯
   have t:=h.tri x y z h0 xy e2 zn ⋯
   ac_rfl
  ·rw[if_neg e2]
   ac_rfl
end
end Fl
namespace Lw
open L2 Z
open Sf (Rw crs uW Pre Good aK bH place many)
open Fl (kd ids Walk e7 tls pc aP Pt tm qK)
abbrev T3:=Int×Int×Int
abbrev Kz(t:T3):List cL:=[Sum.inl t.1,Sum.inl t.2.1,Sum.inl t.2.2]
abbrev lW(U:List T3):List (List cL×Dv):=U.map fun t=>(Kz t,.bl true)
theorem EO(U:List T3)(t:T3):J3 (lW U) (Kz t)=decide (t∈U):=by
 induction U with
 |nil=>rfl
 |cons u U ih=>
  unfold J3 at ih ⊢
  rw[show lW (u::U)=(Kz u,.bl true)::lW U from rfl,any_cons,ih]
  have e:(Kz u=Kz t) ↔ t=u:=by
   constructor
   ·intro z
    injection z with z1 z2
    injection z2 with z2 z3
    injection z3 with z3 _
    injection z1 with z1
    injection z2 with z2
    injection z3 with z3
    exact Prod.ext z1.symm (Prod.ext z2.symm z3.symm)
   ·rintro rfl
    rfl
  rw[decide_eq_decide.mpr e,<- Bool.decide_or]
  exact decide_eq_decide.mpr mem_cons.symm
def cau(ks:List Int)(U:List T3)(a b c:Int):Bool:=if kd ks a=kd ks b then false else if kd ks b=kd ks c then true else decide ((a,b,c)∈U)
def Qk(n:Nat)(a b c:Int):Prop:=(0<=a/\a<n)/\(0<=b/\b<n)/\(0<=c/\c<n)
def qS(C:Addr):Fn:=fun ds Q=>∃(rows:List Rw) (U:List T3) (a b c:Int),ds=[bG C rows,.dit (lW U),.tup [.int a,.int b,.int c]]/\(aK rows).length<=12/\Qk (aK rows).length a b c/\Q (.v (.bl (cau (aK rows) U a b c)))
theorem Kv{C:Addr}:∀ds Q,qS C ds Q->ds.length=3:=by rintro ds Q ⟨_,_,_,_,_,rfl,_⟩;rfl
theorem ID{C:Addr}:MonoF (qS C):=⟨fun ds Q Q' w z=>by obtain⟨a,b,c,d,e,f,g,i,h⟩:=z;exact⟨a,b,c,d,e,f,g,i,w _ h⟩⟩
theorem w9{C:Addr}:∀ds Q,qS C ds Q->kX C (eI C) ↥Q (aN ["sides", "ups", "three"] ds):=by
 rintro ds Q ⟨rows,U,a,b,c,rfl,hn,⟨ha,hb,hc⟩,q⟩
 have kn:∀{x:Int} {Q:R->Prop},0<=x/\x<(aK rows).length->Q (.v (.int (kd (aK rows) x)))->eI C [bG C rows,.int x] Q:=fun {x Q} hx q=>⟨rows,x.toNat,by rw[Int.toNat_of_nonneg hx.1],⋯,q⟩
 unfold cau at q
 ac_nf
 refine⟨rfl,kn ha ?_⟩
 ac_nf
 refine⟨rfl,kn hb ?_⟩
 ac_nf
 refine xQ (fun e=>by rw[if_pos e] at q;exact q) fun e=>?_
 rw[if_neg e] at q
 refine⟨rfl,kn hb ?_⟩
 ac_nf
 refine⟨rfl,kn hc ?_⟩
 ac_nf
 refine xQ (fun e2=>by rw[if_pos e2] at q;exact q) fun e2=>?_
 rw[if_neg e2] at q
 refine⟨Kz (a,b,c),rfl,?_⟩
 rw[EO]
 exact q
abbrev T4:=Int×Int×Int×Int
abbrev d4(t:T4):Dv:=.tup [.int t.1,.int t.2.1,.int t.2.2.1,.int t.2.2.2]
structure In4(n:Nat)(t:T4):Prop where
 lo:0<=t.1
 ij:t.1<t.2.1
 jk:t.2.1<t.2.2.1
 kl:t.2.2.1<t.2.2.2
 hi:t.2.2.2<n
def alike(ks:List Int)(t:T4):Bool:=decide (kd ks t.1=kd ks t.2.2.1) || decide (kd ks t.2.1=kd ks t.2.2.2)
def lA(C:Addr):Fn:=fun ds Q=>∃(rows:List Rw) (t:T4),ds=[bG C rows,d4 t]/\In4 (aK rows).length t/\Q (.v (.bl (alike (aK rows) t)))
theorem Fk{C:Addr}:∀ds Q,lA C ds Q->ds.length=2:=by rintro ds Q ⟨_,_,rfl,_⟩;rfl
theorem IF{C:Addr}:MonoF (lA C):=⟨fun ds Q Q' w z=>by obtain⟨a,b,c,d,h⟩:=z;exact⟨a,b,c,d,w _ h⟩⟩
theorem sO{C:Addr}:∀ds Q,lA C ds Q->iI C (eI C) ↥Q (aN ["sides", "four"] ds):=by
 rintro ds Q ⟨rows,t,rfl,i4,q⟩
 obtain⟨h0,ij,jk,kl,hi⟩:=i4
 have kn:∀{x:Int} {Q:R->Prop},0<=x/\x<(aK rows).length->Q (.v (.int (kd (aK rows) x)))->eI C [bG C rows,.int x] Q:=fun {x Q} hx q=>⟨rows,x.toNat,by rw[Int.toNat_of_nonneg hx.1],⋯,q⟩
 unfold alike at q
 ac_nf
 refine⟨rfl,kn ⟨⋯,⋯⟩ ?_⟩
 ac_nf
 refine⟨rfl,kn ⟨⋯,⋯⟩ ?_⟩
 ac_nf
 refine xQ (fun e=>by rw[decide_eq_true e] at q;exact q) fun e=>?_
 rw[decide_eq_false e,Bool.false_or] at q
 refine⟨rfl,kn ⟨⋯,⋯⟩ ?_⟩
 ac_nf
 refine⟨rfl,kn ⟨⋯,⋯⟩ ?_⟩
 ac_nf
 exact q
def xR(ks:List Int)(U:List T3)(z x y:Int):Bool:=if z<x then !cau ks U z x y else if y<z then !cau ks U x y z else (decide (x<z)&&decide (z<y))&&cau ks U x z y
def oR(C:Addr):Fn:=fun ds Q=>∃(rows:List Rw) (U:List T3) (z x y:Int),ds=[bG C rows,.dit (lW U),.int z,.int x,.int y]/\(aK rows).length<=12/\Qk (aK rows).length z x y/\Q (.v (.bl (xR (aK rows) U z x y)))
theorem Kt{C:Addr}:∀ds Q,oR C ds Q->ds.length=5:=by rintro ds Q ⟨_,_,_,_,_,rfl,_⟩;rfl
theorem NJ{C:Addr}:MonoF (oR C):=⟨fun ds Q Q' w z=>by obtain⟨a,b,c,d,e,f,g,i,h⟩:=z;exact⟨a,b,c,d,e,f,g,i,w _ h⟩⟩
theorem Cv{C:Addr}:∀ds Q,oR C ds Q->qP (qS C) ↥Q (aN ["sides", "ups", "z", "x", "y"] ds):=by
 rintro ds Q ⟨rows,U,z,x,y,rfl,hn,⟨hz,hx,hy⟩,q⟩
 unfold xR at q
 ac_nf
 refine xQ (fun e=>?_) fun e=>xQ (fun e2=>?_) fun e2=>xQ (fun e3=>xQ (fun e4=>?_) fun e4=>?_) fun e3=>?_
 ·rw[if_pos e] at q
  refine⟨rows,U,z,x,y,rfl,hn,⟨hz,hx,hy⟩,?_⟩
  ac_nf
  exact q
 ·rw[if_neg e,if_pos e2] at q
  refine⟨rows,U,x,y,z,rfl,hn,⟨hx,hy,hz⟩,?_⟩
  ac_nf
  exact q
 ·rw[if_neg e,if_neg e2,decide_eq_true e3,Bool.true_and,decide_eq_true e4,Bool.true_and] at q
  refine⟨rows,U,x,z,y,rfl,hn,⟨hx,hz,hy⟩,?_⟩
  ac_nf
  exact q
 ·rw[if_neg e,if_neg e2,decide_eq_false e4,Bool.and_false,Bool.false_and] at q
  exact q
 ·rw[if_neg e,if_neg e2,decide_eq_false e3,Bool.false_and,Bool.false_and] at q
  exact q
def chg(a b:Bool):Nat:=if a=b then 0 else 1
def barred(ks:List Int)(U:List T3)(t:T4):Bool:=
 decide (1<chg (cau ks U t.1 t.2.1 t.2.2.1) (cau ks U t.1 t.2.1 t.2.2.2)+chg (cau ks U t.1 t.2.1 t.2.2.2) (cau ks U t.1 t.2.2.1 t.2.2.2)+chg (cau ks U t.1 t.2.2.1 t.2.2.2) (cau ks U t.2.1 t.2.2.1 t.2.2.2))
def iZ(C:Addr):Fn:=fun ds Q=>∃(rows:List Rw) (U:List T3) (t:T4),ds=[bG C rows,.dit (lW U),d4 t]/\(aK rows).length<=12/\In4 (aK rows).length t/\Q (.v (.bl (barred (aK rows) U t)))
theorem DG{C:Addr}:∀ds Q,iZ C ds Q->ds.length=3:=by rintro ds Q ⟨_,_,_,rfl,_⟩;rfl
theorem FY{C:Addr}:MonoF (iZ C):=⟨fun ds Q Q' w z=>by obtain⟨a,b,c,d,e,f,h⟩:=z;exact⟨a,b,c,d,e,f,w _ h⟩⟩
def chgs:List (Bool×Bool)->Nat
 | []=>0
 |p::r=>chg p.1 p.2+chgs r
theorem LR:∀l:List (Bool×Bool),chgs l<=l.length
 | []=>le_refl _
 |p::r=>by have:=LR r;rw[chgs,chg,length_cons];split<;>ac_rfl
theorem JP{Q:R->Prop}:∀(l:List (Bool×Bool)) (k:Nat),k+l.length<=100->Q (.nw (.lst (List.replicate (k+chgs l) (.int 1)))) ->
  d8 [.un,.un] (gT [0,1]) (bB (aT wB (aE 0) (aE 1))) (eC (.int 1)) (l.map fun p=>.tup [.bl p.1,.bl p.2]) (List.replicate k (.int 1)) Q:=by
 intro l
 induction l with
 |nil=>
  intro k _ h
  rw[map_nil,dL]
  exact h
 |cons p l ih=>
  intro k hk h
  rw[length_cons] at hk
  rw[chgs,chg] at h
  push_cast [map_cons,length_replicate]
  refine⟨⟨rfl,rfl⟩,?_⟩
  by_cases e:p.1=p.2
  ·rw[if_pos e,zero_add] at h
   rw[if_neg (by simp[e])]
   exact ih k ⋯ h
  ·rw[if_neg e] at h
   rw[if_pos (by simp[e]),<- List.replicate_succ']
   exact⟨⋯,ih (k+1) ⋯ (by rw[show k+1+chgs l=k+(1+chgs l) by ac_rfl];exact h)⟩
abbrev Qp(t:T3):Dv:=.tup [.int t.1,.int t.2.1,.int t.2.2]
theorem QJ{y0 y1 x3 x4 x5:Sl}{t:T4}{tl:cO}{E:En}(h:tl E [y0,y1,.v (d4 t),.v (.lst ([(t.1,t.2.1,t.2.2.1),(t.1,t.2.1,t.2.2.2),(t.1,t.2.2.1,t.2.2.2),t.2].map Qp)),x4,x5]):
  aR (bK 3 (i5 (aD (cZ (aD (aT cX (aE 2) (eC (.int 0))) (aD (aT cX (aE 2) (eC (.int 1))) (aD (aT cX (aE 2) (eC (.int 2))) aJ)))) (aD (cZ (aD (aT cX (aE 2) (eC (.int 0))) (aD (aT cX (aE 2) (eC (.int 1))) (aD (aT cX (aE 2) (eC (.int 3))) aJ)))) (aD (cZ (aD (aT cX (aE 2) (eC (.int 0))) (aD (aT cX (aE 2) (eC (.int 2))) (aD (aT cX (aE 2) (eC (.int 3))) aJ)))) (aD (Fz (aE 2) (mS (eC (.int 1))) gG) aJ)))))) tl E
   [y0,y1,.v (d4 t),x3,x4,x5]:=by
 ac_nf
 exact⟨by decide,h⟩
theorem QD{C:Addr}{rows:List Rw}{U:List T3}{Q:R->Prop}(hn:(aK rows).length<=12):∀(l:List T3) (acc:List Dv),(∀t∈l,Qk (aK rows).length t.1 t.2.1 t.2.2)->acc.length+l.length<=100 ->
  Q (.nw (.lst (acc++l.map fun t=>.bl (cau (aK rows) U t.1 t.2.1 t.2.2))))->d8 [.un,.v (bG C rows),.v (.dit (lW U))] (gN 0) jK (aS (qS C) (aD (aE 1) (aD (aE 2) (aD (aE 0) aJ)))) (l.map Qp) acc Q:=by
 intro l
 induction l with
 |nil=>
  intro acc _ _ h
  rw[map_nil,append_nil] at h
  rw[map_nil,dL]
  exact h
 |cons t l ih=>
  intro acc hi hk h
  rw[length_cons] at hk
  push_cast [map_cons]
  refine⟨rows,U,_,_,_,rfl,hn,hi t mem_cons_self,?_⟩
  refine⟨.inl rfl,⟨rfl,⋯⟩,ih _ (fun u hu=>hi u (mem_cons_of_mem _ hu)) ?_ ?_⟩
  ·rw[length_append,length_cons,length_nil]
   ac_rfl
  ·rw[append_assoc]
   exact h
theorem QH{C:Addr}{rows:List Rw}{U l:List T3}{x2 x4 x5:Sl}{tl:cO}{E:En}(hn:(aK rows).length<=12)(hi:∀t∈l,Qk (aK rows).length t.1 t.2.1 t.2.2)(hl:l.length<=100)
  (h:tl E [.v (bG C rows),.v (.dit (lW U)),x2,.v (.lst (l.map Qp)),.v (.lst (l.map fun t=>.bl (cau (aK rows) U t.1 t.2.1 t.2.2))),x5]):
  aR (bK 4 (fP 1 [0,1] (jP (aE 3)) (gN 0) jK (aS (qS C) (aD (aE 1) (aD (aE 2) (aD (aE 0) aJ)))))) tl E
   [.v (bG C rows),.v (.dit (lW U)),x2,.v (.lst (l.map Qp)),x4,x5]:=by
 ac_nf
 exact QD hn l [] hi (by rw[length_nil,zero_add];exact hl) h
theorem QF{x0 x1 x2 x3 x5:Sl}{u1 u2 u3 u4:Bool}{tl:cO}{E:En}(h:tl E [x0,x1,x2,x3,.v (.lst [.bl u1,.bl u2,.bl u3,.bl u4]),.v (.lst (List.replicate (chgs [(u1,u2),(u2,u3),(u3,u4)]) (.int 1)))]):
  aR (bK 5 (fP 2 [] (yW (aD (aE 4) (aD (Fz (aE 4) (mS (eC (.int 1))) gG) aJ))) (gT [0,1]) (bB (aT wB (aE 0) (aE 1))) (eC (.int 1)))) tl E
   [x0,x1,x2,x3,.v (.lst [.bl u1,.bl u2,.bl u3,.bl u4]),x5]:=by
 ac_nf
 refine JP [(u1,u2),(u2,u3),(u3,u4)] 0 (Nat.le_of_ble_eq_true rfl) ?_
 rw[zero_add]
 exact h
theorem BQ{C:Addr}:∀ds Q,iZ C ds Q->oO (qS C) ↥Q (aN ["sides", "ups", "four", "within", "stand", "changes"] ds):=by
 rintro ds Q ⟨rows,U,t,rfl,hn,⟨h0,ij,jk,kl,hi⟩,q⟩
 have i2:∀{a b c:Int},0<=a->a<b->b<c->c<(aK rows).length->Qk (aK rows).length a b c:=fun {a b c} h1 h2 h3 h4=>⟨⟨h1,⋯⟩,⟨⋯,⋯⟩,⋯,h4⟩
 refine QJ (QH hn (fun u hu=>?_) (Nat.le_of_ble_eq_true rfl) (QF ?_))
 ·simp only[mem_cons,not_mem_nil,or_false] at hu
  rcases hu with rfl | rfl | rfl | rfl
  ·exact i2 h0 ij jk (Int.lt_trans kl hi)
  ·exact i2 h0 ij (Int.lt_trans jk kl) hi
  ·exact i2 h0 (Int.lt_trans ij jk) kl hi
  ·exact i2 (Int.le_trans h0 (Int.le_of_lt ij)) jk kl hi
 ·unfold barred at q
  rw[show ∀{a b c d:Bool},chg a b+chg b c+chg c d=chgs [(a,b),(b,c),(c,d)] from fun {a b c d}=>by simp only[chgs,Nat.add_assoc,add_zero]] at q
  generalize chgs _=m at q ⊢
  push_cast [length_replicate]
  rw[show decide ((1:Int)<(m:Int))=decide (1<m) from decide_eq_decide.mpr ⋯]
  exact q
end Lw
namespace Lw
open L2 Z
open Sf (Rw crs uW Pre Good aK bH place many)
open Fl (kd ids Walk e7 tls pc aP Pt tm qK)
def u8(n:Nat)(l:List T4):Prop:=∀t∈l,In4 n t
theorem u8.snoc{n:Nat}{l:List T4}{t:T4}(h:u8 n l)(k:In4 n t):u8 n (l++[t]):=fun u hu=>by
 rcases mem_append.mp hu with z | z
 ·exact h u z
 ·rw[mem_singleton.mp z]
  exact k
abbrev CW(l:List T4):List Dv:=l.map d4
theorem LG{n:Nat}{b:Addr}{E:En}{i j k:Nat}(ij:i<j)(jk:j<k):∀(m l:Nat) (acc:List T4) (s:Sl),k<l->l+m<=n->u8 n acc->acc.length+m<=100000 ->
  (∀acc' s,u8 n acc'->acc'.length<=acc.length+m->E.nx [.v (.int n),.own b (.lst (CW acc')),.v (.int i),.v (.int j),.v (.int k),s]) ->
  bE (gN 5) tZ [] (bF l m) E [.v (.int n),.own b (.lst (CW acc)),.v (.int i),.v (.int j),.v (.int k),s]:=by
 intro m
 induction m with
 |zero=>
  intro l acc s _ _ A _ h
  rw[cP,bI]
  exact⟨fun p hp=>by simp at hp,h acc s A (le_refl _)⟩
 |succ m ih=>
  intro l acc s kl hl A ha h
  rw[bW,bM]
  refine⟨fun p hp=>by simp at hp,?_⟩
  push_cast [tZ,length_map]
  refine⟨⋯,?_⟩
  rw[show CW acc++[Dv.tup [Dv.int i,.int j,.int k,.int l]]=CW (acc++[((i:Int),(j:Int),(k:Int),(l:Int))]) by simp,show ((l:Int)+1)=((l+1:Nat):Int) by ac_rfl]
  exact ih (l+1) _ _ ⋯ ⋯ (A.snoc ⟨show (0:Int)<=i by ac_rfl,show (i:Int)<j by ac_rfl,show (j:Int)<k by ac_rfl,show (k:Int)<l by ac_rfl,show (l:Int)<n by ac_rfl⟩) (by simp;ac_rfl) fun acc' s A' hl'=>h acc' s A' (by simp at hl';ac_rfl)
theorem LF{n:Nat}(hn:n<=12){b:Addr}{E:En}{i j:Nat}(ij:i<j):∀(m k:Nat) (acc:List T4) (s t:Sl),j<k->k+m=n->u8 n acc->acc.length+m*12<=90000 ->
  (∀acc' s t,u8 n acc'->acc'.length<=acc.length+m*12->E.nx [.v (.int n),.own b (.lst (CW acc')),.v (.int i),.v (.int j),s,t]) ->
  bE (gN 4) pX [] (bF k m) E [.v (.int n),.own b (.lst (CW acc)),.v (.int i),.v (.int j),s,t]:=by
 intro m
 induction m with
 |zero=>
  intro k acc s t _ _ A _ h
  rw[cP,bI]
  exact⟨fun p hp=>by simp at hp,h acc s t A (le_refl _)⟩
 |succ m ih=>
  intro k acc s t jk hl A ha h
  rw[bW,bM]
  refine⟨fun p hp=>by simp at hp,?_⟩
  have nx:=fun acc' s t A' (hl':acc'.length<=acc.length+12)=>ih (k+1) acc' s t ⋯ ⋯ A' ⋯ fun a s t A hl=>h a s t A ⋯
  rw[show ((k:Int)+1)=((k+1:Nat):Int) by ac_rfl]
  generalize bE (gN 4) pX [] (bF ((k+1:Nat):Int) m) E=G at nx ⊢
  push_cast [pX]
  refine⟨⋯,?_⟩
  rw[show ((n:Int)-((k:Int)+1)).toNat=n-(k+1) by ac_rfl,show ((k:Int)+1)=((k+1:Nat):Int) by ac_rfl]
  exact LG ij jk (n-(k+1)) (k+1) acc t ⋯ ⋯ A ⋯ fun acc' s A' hl'=>nx acc' _ s A' ⋯
theorem LE{n:Nat}(hn:n<=12){b:Addr}{E:En}{i:Nat}:∀(m j:Nat) (acc:List T4) (s t u:Sl),i<j->j+m=n->u8 n acc->acc.length+m*144<=80000 ->
  (∀acc' s t u,u8 n acc'->acc'.length<=acc.length+m*144->E.nx [.v (.int n),.own b (.lst (CW acc')),.v (.int i),s,t,u]) ->
  bE (gN 3) pW [] (bF j m) E [.v (.int n),.own b (.lst (CW acc)),.v (.int i),s,t,u]:=by
 intro m
 induction m with
 |zero=>
  intro j acc s t u _ _ A _ h
  rw[cP,bI]
  exact⟨fun p hp=>by simp at hp,h acc s t u A (le_refl _)⟩
 |succ m ih=>
  intro j acc s t u ij hl A ha h
  rw[bW,bM]
  refine⟨fun p hp=>by simp at hp,?_⟩
  have nx:=fun acc' s t u A' (hl':acc'.length<=acc.length+144)=>ih (j+1) acc' s t u ⋯ ⋯ A' ⋯ fun a s t u A hl=>h a s t u A ⋯
  rw[show ((j:Int)+1)=((j+1:Nat):Int) by ac_rfl]
  generalize bE (gN 3) pW [] (bF ((j+1:Nat):Int) m) E=G at nx ⊢
  push_cast [pW]
  refine⟨⋯,?_⟩
  rw[show ((n:Int)-((j:Int)+1)).toNat=n-(j+1) by ac_rfl,show ((j:Int)+1)=((j+1:Nat):Int) by ac_rfl]
  exact LF hn ij (n-(j+1)) (j+1) acc t u ⋯ ⋯ A ⋯ fun acc' s t A' hl'=>nx acc' _ s t A' ⋯
theorem LD{n:Nat}(hn:n<=12){b:Addr}{E:En}:∀(m i:Nat) (acc:List T4) (s t u v:Sl),i+m=n->u8 n acc->acc.length+m*1728<=50000 ->
  (∀acc' s t u v,u8 n acc'->acc'.length<=acc.length+m*1728->E.nx [.v (.int n),.own b (.lst (CW acc')),s,t,u,v]) ->
  bE (gN 2) pV [] (bF i m) E [.v (.int n),.own b (.lst (CW acc)),s,t,u,v]:=by
 intro m
 induction m with
 |zero=>
  intro i acc s t u v _ A _ h
  rw[cP,bI]
  exact⟨fun p hp=>by simp at hp,h acc s t u v A (le_refl _)⟩
 |succ m ih=>
  intro i acc s t u v hl A ha h
  rw[bW,bM]
  refine⟨fun p hp=>by simp at hp,?_⟩
  have nx:=fun acc' s t u v A' (hl':acc'.length<=acc.length+1728)=>ih (i+1) acc' s t u v ⋯ A' ⋯ fun a s t u v A hl=>h a s t u v A ⋯
  rw[show ((i:Int)+1)=((i+1:Nat):Int) by ac_rfl]
  generalize bE (gN 2) pV [] (bF ((i+1:Nat):Int) m) E=G at nx ⊢
  push_cast [pV]
  refine⟨⋯,?_⟩
  rw[show ((n:Int)-((i:Int)+1)).toNat=n-(i+1) by ac_rfl,show ((i:Int)+1)=((i+1:Nat):Int) by ac_rfl]
  exact LE hn (n-(i+1)) (i+1) acc t u v ⋯ ⋯ A ⋯ fun acc' s t u A' hl'=>nx acc' _ s t u A' ⋯
def kZ:Fn:=fun ds Q=>∃n:Nat,ds=[.int n]/\n<=12 /\ ∀l:List T4,u8 n l->Q (.nw (.lst (CW l)))
theorem Fh:∀ds Q,kZ ds Q->ds.length=1:=by rintro ds Q ⟨_,rfl,_⟩;rfl
theorem wI:MonoF kZ:=⟨fun ds Q Q' w z=>by obtain⟨a,b,c,h⟩:=z;exact⟨a,b,c,fun l z=>w _ (h l z)⟩⟩
theorem KO:∀ds Q,kZ ds Q->zG ↥Q (aN ["many", "told", "i", "j", "k", "l"] ds):=by
 rintro ds Q ⟨n,rfl,hn,q⟩
 ac_nf
 intro b
 refine⟨⋯,?_⟩
 rw[toNat_natCast]
 refine LD hn n 0 [] _ _ _ _ ⋯ (fun t ht=>by cases ht) (by simp;ac_rfl) fun acc' s t u v A' _=>?_
 ac_nf
 exact q acc' A'
end Lw
namespace Lw
open L2 Z
open Sf (Rw crs uW Pre Good aK bH place many)
open Fl (kd ids Walk e7 tls pc aP Pt tm qK)
structure UpsOk(ks:List Int)(U:List T3):Prop where
 known:∀t∈U,t∈aQ ks
 four:∀t,In4 ks.length t->alike ks t=false->barred ks U t=false
def nE(C:Addr):Fn:=fun ds Q=>∃(rows:List Rw) (U:List T3),ds=[bG C rows,.dit (lW U)]/\(aK rows).length<=12/\UpsOk (aK rows) U/\Q (.v .non)
theorem IS{C:Addr}:∀ds Q,nE C ds Q->ds.length=2:=by rintro ds Q ⟨_,_,rfl,_⟩;rfl
theorem Kg{C:Addr}:MonoF (nE C):=⟨fun ds Q Q' w z=>by obtain⟨a,b,c,d,e,h⟩:=z;exact⟨a,b,c,d,e,w _ h⟩⟩
theorem Nu{C:Addr}{K:List T3}{E:En}{x0 x1 x4:Sl}:∀(U:List T3) (s3:Sl),(∀t∈U,t∈K)->(∀s3,E.nx [x0,x1,.v (.lst (e9 K)),s3,x4]) ->
  bE (gN 3) (jB C (gC C) kZ (lA C) (iZ C) (dA C)) [] (e9 U) E [x0,x1,.v (.lst (e9 K)),s3,x4]:=by
 intro U
 induction U with
 |nil=>
  intro s3 _ h
  rw[show e9 []=[] from rfl,bI]
  exact⟨fun p hp=>by simp at hp,h _⟩
 |cons t U ih=>
  intro s3 hU h
  rw[show e9 (t::U)=.tup [.int t.1,.int t.2.1,.int t.2.2]::e9 U from rfl]
  push_cast [jB,eQ]
  refine⟨⟨NB [t.1,t.2.1,t.2.2],uZ K⟩,?_⟩
  rw[Bv,decide_eq_true (hU t (mem_cons_self ..))]
  ac_nf
  exact ih _ (fun u hu=>hU u (mem_cons_of_mem _ hu)) h
theorem Nt{C:Addr}{rows:List Rw}{U:List T3}{E:En}{x2 x3:Sl}(hn:(aK rows).length<=12)(hU:UpsOk (aK rows) U):∀(l:List T4) (s4:Sl),u8 (aK rows).length l->(∀s4,E.nx [.v (bG C rows),.v (.dit (lW U)),x2,x3,s4]) ->
  bE (gN 4) (gJ C (gC C) kZ (lA C) (iZ C) (dA C)) [] (CW l) E [.v (bG C rows),.v (.dit (lW U)),x2,x3,s4]:=by
 intro l
 induction l with
 |nil=>
  intro s4 _ h
  rw[show CW []=[] from rfl,bI]
  exact⟨fun p hp=>by simp at hp,h _⟩
 |cons t l ih=>
  intro s4 A h
  have i4:=A t (mem_cons_self ..)
  have nx:=fun s4=>ih s4 (fun u hu=>A u (mem_cons_of_mem _ hu)) h
  rw[show CW (t::l)=d4 t::CW l from rfl,bM]
  refine⟨fun p hp=>by simp at hp,?_⟩
  generalize bE (gN 4) (gJ C (gC C) kZ (lA C) (iZ C) (dA C)) [] (CW l) E=G at nx ⊢
  push_cast [gJ]
  refine⟨rows,t,rfl,i4,?_⟩
  cases e:alike (aK rows) t with
  |true=>
   ac_nf
   exact nx _
  |false=>
   ac_nf
   refine⟨rows,U,t,rfl,hn,i4,?_⟩
   rw[hU.four t i4 e]
   ac_nf
   exact nx _
theorem wA{C:Addr}:∀ds Q,nE C ds Q->kY C (gC C) kZ (lA C) (iZ C) (dA C) ↥Q (aN ["sides", "ups", "known", "three", "four"] ds):=by
 rintro ds Q ⟨rows,U,rfl,hn,hU,q⟩
 ac_nf
 refine⟨rows,rfl,hn,?_⟩
 push_cast [EN]
 rw[show (lW U).map IW=e9 U by rw[map_map];rfl]
 refine Nu U _ hU.known fun s3=>?_
 ac_nf
 refine⟨rfl,rows,rfl,?_⟩
 ac_nf
 refine⟨_,rfl,hn,fun l A=>?_⟩
 ac_nf
 exact Nt hn hU l _ A fun s4=>q
end Lw
namespace Lw
open L2 Z
open Sf (Rw crs uW Pre Good aK bH place many)
open Fl (kd ids Walk e7 tls pc aP Pt tm qK)
def pF(ks:List Int)(U:List T3)(x y:Int):List Int:=(ids ks.length).filter fun z=>xR ks U z x y
def As(ks:List Int)(U:List T3):List Ti:=(fH ks).map fun p=>(p.1,p.2,pF ks U p.1 p.2)
def Dd(C:Addr):Fn:=fun ds Q=>∃(rows:List Rw) (U:List T3),ds=[bG C rows,.lst (e9 U)]/\(aK rows).length<=12/\U.Nodup/\U.length<=2000/\UpsOk (aK rows) U/\Q (.nw (.lst (eA (As (aK rows) U))))
theorem NS{C:Addr}:∀ds Q,Dd C ds Q->ds.length=2:=by rintro ds Q ⟨_,_,rfl,_⟩;rfl
theorem Ph{C:Addr}:MonoF (Dd C):=⟨fun ds Q Q' w z=>by obtain⟨a,b,c,d,e,f,g,h⟩:=z;exact⟨a,b,c,d,e,f,g,w _ h⟩⟩
theorem Me{U:List T3}{t:T3}(h:t ∉ U):BD (lW U) (Kz t) (.bl true)=lW (U++[t]):=by
 have:=EO U t
 rw[decide_eq_false h] at this
 unfold BD
 rw[show (lW U).any (fun kv=>decide (kv.1=Kz t))=false from this,if_neg ∅]
 simp
theorem Rs{C:Addr}{E:En}{a:Addr}{x0 x1 x4 x5 x6 x7:Sl}:∀(U acc:List T3) (s3:Sl),(acc++U).Nodup->acc.length+U.length<=2000->(∀s3,E.nx [x0,x1,.own a (.dit (lW (acc++U))),s3,x4,x5,x6,x7]) ->
  bE (gN 3) (o7 C (nE C) (oR C) (fM C) (dA C)) [] (e9 U) E [x0,x1,.own a (.dit (lW acc)),s3,x4,x5,x6,x7]:=by
 intro U
 induction U with
 |nil=>
  intro acc s3 _ _ h
  rw[show e9 []=[] from rfl,bI]
  rw[append_nil] at h
  exact⟨fun p hp=>by simp at hp,h _⟩
 |cons t U ih=>
  intro acc s3 nd hl h
  rw[length_cons] at hl
  have nt:t ∉ acc:=fun z=>(List.nodup_append.mp nd).2.2 t z t (mem_cons_self ..) rfl
  rw[show e9 (t::U)=.tup [.int t.1,.int t.2.1,.int t.2.2]::e9 U from rfl]
  push_cast [o7,length_map]
  refine⟨Kz t,rfl,⋯,?_⟩
  rw[Me nt]
  refine ih (acc++[t]) _ (by rw[append_assoc];exact nd) (by simp;ac_rfl) fun s3=>?_
  rw[append_assoc]
  exact h s3
theorem Rq{C:Addr}{rows:List Rw}{U:List T3}{x y:Int}{Q:R->Prop}(hn:(aK rows).length<=12)(hx:0<=x/\x<(aK rows).length)(hy:0<=y/\y<(aK rows).length):∀(i k:Nat) (acc:List Int),k+i=(aK rows).length->acc.length<=k ->
  Q (.nw (.lst (bS (acc++((List.range' k i).map fun z:Nat=>(z:Int)).filter fun z=>xR (aK rows) U z x y)))) ->
  d8 [.un,.v (bG C rows),.v (.dit (lW U)),.v (.int x),.v (.int y)] (gN 0) (iO (aS (oR C) (aD (aE 1) (aD (aE 2) (aD (aE 0) (aD (aE 3) (aD (aE 4) aJ))))))) (aE 0) (bF k i) (bS acc) Q:=by
 intro i
 induction i with
 |zero=>
  intro k acc _ _ h
  rw[cP,dL]
  simpa using h
 |succ i ih=>
  intro k acc hk ha h
  rw[bW]
  push_cast [length_map]
  refine⟨rows,U,(k:Int),x,y,rfl,hn,⟨⟨⋯,⋯⟩,hx,hy⟩,?_⟩
  rw[List.range'_succ,map_cons] at h
  rw[show ((k:Int)+1)=((k+1:Nat):Int) by ac_rfl]
  cases e:xR (aK rows) U (k:Int) x y with
  |true=>
   rw[filter_cons_of_pos (p:=fun z=>xR (aK rows) U z x y) e] at h
   push_cast [length_map]
   refine⟨⋯,?_⟩
   rw[show bS acc++[Dv.int (k:Int)]=bS (acc++[(k:Int)]) by simp]
   exact ih (k+1) _ ⋯ (by simp;ac_rfl) (by rw[append_assoc];exact h)
  |false=>
   rw[filter_cons_of_neg (p:=fun z=>xR (aK rows) U z x y) (by rw[e];decide)] at h
   ac_nf
   exact ih (k+1) acc ⋯ ⋯ h
theorem Ft(n:Nat):(List.range' 0 n).map (fun z:Nat=>(z:Int))=ids n:=by rw[<- List.range_eq_range']
theorem Rr{C:Addr}{rows:List Rw}{U:List T3}{E:En}{b:Addr}{x1 x3:Sl}(hn:(aK rows).length<=12):∀(ps:List (Int×Int)) (acc:List Ti) (s5 s6 s7:Sl),(∀p∈ps,p∈fH (aK rows))->acc.length+ps.length<=1000 ->
  (∀s5 s6 s7,E.nx [.v (bG C rows),x1,.v (.dit (lW U)),x3,.own b (.lst (eA (acc++ps.map fun p=>(p.1,p.2,pF (aK rows) U p.1 p.2)))),s5,s6,s7]) ->
  bE (gT [5,6]) (kO C (nE C) (oR C) (fM C) (dA C)) [] (qA ps) E [.v (bG C rows),x1,.v (.dit (lW U)),x3,.own b (.lst (eA acc)),s5,s6,s7]:=by
 intro ps
 induction ps with
 |nil=>
  intro acc s5 s6 s7 _ _ h
  rw[show qA []=[] from rfl,bI]
  rw[map_nil,append_nil] at h
  exact⟨fun p hp=>by simp at hp,h _ _ _⟩
 |cons p ps ih=>
  intro acc s5 s6 s7 hp hl h
  rw[length_cons] at hl
  obtain⟨p0,p1,p2,_⟩:=kR.mp (hp p (mem_cons_self ..))
  have nx:=fun s5 s6 s7=>ih (acc++[(p.1,p.2,pF (aK rows) U p.1 p.2)]) s5 s6 s7 (fun q hq=>hp q (mem_cons_of_mem _ hq)) (by simp;ac_rfl) fun s5 s6 s7=>by rw[append_assoc];exact h s5 s6 s7
  rw[show qA (p::ps)=.tup [.int p.1,.int p.2]::qA ps from rfl,bM]
  refine⟨fun p hp=>by simp at hp,?_⟩
  generalize bE (gT [5,6]) (kO C (nE C) (oR C) (fM C) (dA C)) [] (qA ps) E=G at nx ⊢
  push_cast [kO]
  refine⟨rfl,rows,rfl,?_⟩
  ac_nf
  refine⟨⋯,?_⟩
  rw[toNat_natCast]
  refine Rq hn ⟨p0,⋯⟩ ⟨⋯,p2⟩ (aK rows).length 0 [] ⋯ (le_refl _) ?_
  rw[nil_append,Ft]
  push_cast [length_map]
  refine⟨⋯,?_⟩
  have e:eA acc++[Dv.tup [Dv.int p.1,Dv.int p.2,Dv.tup (bS (pF (aK rows) U p.1 p.2))]]=eA (acc++[(p.1,p.2,pF (aK rows) U p.1 p.2)]):=by simp
  have:=nx (.v (.int p.1)) (.v (.int p.2)) (.v (.lst (bS (pF (aK rows) U p.1 p.2))))
  rw[<- e] at this
  exact this
theorem Cw{C:Addr}:∀ds Q,Dd C ds Q->qQ C (nE C) (oR C) (fM C) (dA C) ↥Q (aN ["sides", "some", "ups", "three", "told", "x", "y", "below"] ds):=by
 rintro ds Q ⟨rows,U,rfl,hn,nd,ul,ok,q⟩
 have pl:(fH (aK rows)).length<=144:=by
  have h1:=sR (aK rows) (aK rows).length 0
  have sq:(aK rows).length*(aK rows).length<=12*12:=mul_le_mul hn hn
  unfold fH
  ac_rfl
 ac_nf
 intro a
 refine Rs U [] _ (by rw[nil_append];exact nd) (by simp;ac_rfl) fun s3=>?_
 rw[nil_append]
 ac_nf
 refine⟨rows,U,rfl,hn,ok,?_⟩
 ac_nf
 refine⟨.inr rfl,fun b=>?_⟩
 refine⟨rfl,rows,rfl,hn,?_⟩
 ac_nf
 refine Rr hn (fH (aK rows)) [] _ _ _ (fun p hp=>hp) (by simp;ac_rfl) fun s5 s6 s7=>?_
 rw[nil_append]
 ac_nf
 exact q
end Lw
namespace Lw
open L2 Z
open Sf (Rw crs uW Pre Good aK bH place many)
open Fl (kd ids Walk e7 tls pc aP Pt tm qK)
theorem EH(ks:List Int)(a b x:Int):∀(i c:Nat),(c:Int)<=x->x<(c+i:Nat)->kd ks x≠kd ks b->(a,b,x)∈yV ks a b i c
 |0,c,h1,h2,_=>by ac_rfl
 |i+1,c,h1,h2,h3=>by
  rw[yV,mem_append]
  by_cases e:x=c
  ·subst e
   rw[if_neg h3]
   exact .inl (mem_singleton_self _)
  ·exact .inr (EH ks a b x i (c+1) ⋯ ⋯ h3)
theorem D9{ks:List Int}{a b c:Int}(h0:0<=a)(ab:a<b)(bc:b<c)(cn:c<ks.length)(k1:kd ks a≠kd ks b)(k2:kd ks b≠kd ks c):(a,b,c)∈aQ ks:=by
 refine mem_flatMap.mpr ⟨(a,b),kR.mpr ⟨h0,ab,by show b<_;ac_rfl,k1⟩,?_⟩
 exact EH ks a b c _ _ (by show ((b.toNat+1:Nat):Int)<=c;ac_rfl) (by show c<((b.toNat+1+(ks.length-(b.toNat+1)):Nat):Int);ac_rfl) fun z=>k2 z.symm
theorem ML{ks row e:List Int}{fl:List Ti}(w:Walk ks (ids ks.length) row e)(d:e7 ks e)(m:kC ks)(f:kE ks row fl){a b c:Int}(h0:0<=a)(ab:a<b)(bc:b<c)(cn:c<ks.length)(k:kd ks a≠kd ks c):
  b∈cQ fl a c ↔ qK (tm ks row) a b c:=by
 have mm:=m a c h0 ⋯ cn
 have hl:=w.tm_lt d h0 (show a<c by ac_rfl) cn ⋯
 obtain⟨pre,hp,_,hm⟩:=w.under h0 (show a<c by ac_rfl) cn hl
 have hb:=kE.below w f hp
 rw[show cQ fl a c=Fl.srt pre from hb,(Fl.dP pre).mem_iff,hm b]
 unfold qK
 constructor
 ·rintro⟨_,_,_,_,q | q⟩
  ·ac_rfl
  ·exact q.2
 ·intro z
  exact⟨⋯,⋯,⋯,⋯,.inr ⟨ab,z⟩⟩
structure UpsOf(ks:List Int)(fl:List Ti)(U:List T3):Prop where
 mem:∀t,t∈U ↔ t∈aQ ks/\t.2.1∈cQ fl t.1 t.2.2
theorem rQ{ks row e:List Int}{fl:List Ti}{U:List T3}(w:Walk ks (ids ks.length) row e)(d:e7 ks e)(m:kC ks)(f:kE ks row fl)(u:UpsOf ks fl U){a b c:Int}(h0:0<=a)(ab:a<b)(bc:b<c)(cn:c<ks.length)(k:kd ks a≠kd ks c):
  cau ks U a b c=decide (qK (tm ks row) a b c):=by
 refine(w.tms d m).counts h0 ab bc cn k fun k1 k2=>?_
 rw[u.mem (a,b,c)]
 have:=ML w d m f h0 ab bc cn k
 constructor
 ·exact fun z=>this.mp z.2
 ·exact fun z=>⟨D9 h0 ab bc cn k1 k2,this.mpr z⟩
theorem MJ{ks row e:List Int}{fl:List Ti}{U:List T3}(w:Walk ks (ids ks.length) row e)(d:e7 ks e)(m:kC ks)(f:kE ks row fl)(u:UpsOf ks fl U):UpsOk ks U:=by
 refine⟨fun t ht=>((u.mem t).mp ht).1,fun t i4 ha=>?_⟩
 obtain⟨h0,ij,jk,kl,hi⟩:=i4
 unfold alike at ha
 rw[Bool.or_eq_false_iff,decide_eq_false_iff_not,decide_eq_false_iff_not] at ha
 obtain⟨k1,k2⟩:=ha
 have m1:=m t.1 t.2.1 h0 ⋯ ⋯
 have m2:=m t.2.1 t.2.2.1 ⋯ ⋯ ⋯
 have m3:=m t.2.2.1 t.2.2.2 ⋯ ⋯ ⋯
 have fo:=(w.tms d m).four h0 ij jk kl hi k1 k2
 unfold barred
 rw[rQ w d m f u h0 ij jk ⋯ k1,rQ w d m f u h0 ij ⋯ hi ⋯,rQ w d m f u h0 ⋯ kl hi ⋯,rQ w d m f u ⋯ jk kl hi k2]
 have ce:∀(p q:Prop) [Decidable p] [Decidable q],chg (decide p) (decide q)=if (p ↔ q) then 0 else 1:=fun p q _ _=>by
  unfold chg
  by_cases z:p ↔ q
  ·rw[if_pos z,if_pos (decide_eq_decide.mpr z)]
  ·rw[if_neg z,if_neg fun y=>z (decide_eq_decide.mp y)]
 rw[ce,ce,ce]
 rcases fo with⟨a,b⟩ | ⟨a,b⟩ | ⟨a,b⟩
 all_goals
  rw[if_pos a,if_pos b]
  split<;>rfl
end Lw
namespace Lw
open L2 Z
open Sf (Rw crs uW Pre Good aK bH place many)
open Fl (kd ids Walk e7 tls pc aP Pt tm qK)
theorem Bu{ks row e:List Int}{fl:List Ti}{U:List T3}(w:Walk ks (ids ks.length) row e)(d:e7 ks e)(m:kC ks)(f:kE ks row fl)(u:UpsOf ks fl U){x y z:Int}(h0:0<=x)(xy:x<y)(yn:y<ks.length)(k:kd ks x≠kd ks y)(z0:0<=z)(zn:z<ks.length):
  xR ks U z x y=true ↔ z≠x/\z≠y/\((z<x/\tm ks row x y<tm ks row z x) \/ (x<z/\tm ks row x z<tm ks row x y)):=by
 rw[<- (w.tms d m).isb h0 xy yn k z0 zn]
 have m1:=m x y h0 ⋯ yn
 unfold xR
 by_cases e:z<x
 ·have m2:=m z x z0 ⋯ ⋯
  rw[if_pos e,if_pos e,rQ w d m f u z0 e xy yn ⋯]
  simp
 ·rw[if_neg e,if_neg e]
  by_cases e2:y<z
  ·have m2:=m y z ⋯ ⋯ zn
   rw[if_pos e2,if_pos e2,rQ w d m f u h0 xy e2 zn ⋯]
   simp
  ·rw[if_neg e2,if_neg e2]
   by_cases e3:x<z
   ·by_cases e4:z<y
    ·rw[rQ w d m f u h0 e3 e4 yn k]
     simp[e3,e4]
    ·simp[e3,e4]
   ·simp[e3]
theorem Nh(n:Nat):(ids n).Pairwise (· < ·):=by
 rw[pairwise_map]
 exact List.pairwise_lt_range.imp fun h=>ofNat_lt.mpr h
theorem L9{n:Nat}{z:Int}:z∈ids n ↔ 0<=z/\z<n:=by
 rw[mem_map]
 constructor
 ·rintro⟨k,hk,rfl⟩
  have:=mem_range.mp hk
  ac_rfl
 ·intro h
  exact⟨z.toNat,mem_range.mpr ⋯,⋯⟩
theorem JO{ks row e:List Int}{fl:List Ti}{U:List T3}(w:Walk ks (ids ks.length) row e)(d:e7 ks e)(m:kC ks)(f:kE ks row fl)(u:UpsOf ks fl U){x y:Int}(h0:0<=x)(xy:x<y)(yn:y<ks.length)(k:kd ks x≠kd ks y):
  pF ks U x y=cQ fl x y:=by
 have m1:=m x y h0 ⋯ yn
 have hl:=w.tm_lt d h0 xy yn ⋯
 obtain⟨pre,hp,nd,hm⟩:=w.under h0 xy yn hl
 have hb:=kE.below w f hp
 rw[show cQ fl x y=Fl.srt pre from hb]
 have up:=(Nh ks.length).sublist (List.filter_sublist (p:=fun z=>xR ks U z x y))
 refine Fl.eF ((perm_ext_iff_of_nodup (up.imp fun h=>Int.ne_of_lt h) nd).mpr fun z=>?_) (up.imp fun h=>Int.le_of_lt h)
 show z∈(ids ks.length).filter _ ↔ _
 rw[mem_filter,L9,hm z]
 constructor
 ·rintro⟨hz,q⟩
  exact⟨hz.1,hz.2,(Bu w d m f u h0 xy yn k hz.1 hz.2).mp q⟩
 ·rintro⟨z0,zn,q⟩
  exact⟨⟨z0,zn⟩,(Bu w d m f u h0 xy yn k z0 zn).mpr q⟩
def Lv(p q:Int×Int):Prop:=p.1<q.1 \/ (p.1=q.1/\p.2<q.2)
theorem EM(ks:List Int)(a:Int):∀i b,(xG ks a i b).Pairwise Lv /\ ∀t∈xG ks a i b,t.1=a/\(b:Int)<=t.2
 |0,b=>⟨List.Pairwise.nil,fun t ht=>by cases ht⟩
 |i+1,b=>by
  obtain⟨h1,h2⟩:=EM ks a i (b+1)
  rw[xG]
  by_cases e:kd ks a=kd ks b
  ·rw[if_pos e,nil_append]
   exact⟨h1,fun t ht=>⟨(h2 t ht).1,by have:=(h2 t ht).2;ac_rfl⟩⟩
  ·rw[if_neg e,List.singleton_append]
   refine⟨pairwise_cons.mpr ⟨fun t ht=>?_,h1⟩,fun t ht=>?_⟩
   ·have:=h2 t ht
    exact .inr ⟨this.1.symm,by show (b:Int)<t.2;ac_rfl⟩
   ·rcases mem_cons.mp ht with rfl | ht
    ·exact⟨rfl,Int.le_refl _⟩
    ·have:=h2 t ht
     exact⟨this.1,⋯⟩
theorem Bd(ks:List Int):∀i a,(mJ ks i a).Pairwise Lv /\ ∀t∈mJ ks i a,(a:Int)<=t.1
 |0,a=>⟨List.Pairwise.nil,fun t ht=>by cases ht⟩
 |i+1,a=>by
  obtain⟨h1,h2⟩:=Bd ks i (a+1)
  obtain⟨g1,g2⟩:=EM ks a (ks.length-(a+1)) (a+1)
  rw[mJ]
  refine⟨pairwise_append.mpr ⟨g1,h1,fun t ht u hu=>.inl ?_⟩,fun t ht=>?_⟩
  ·have q1:=(g2 t ht).1
   have q2:=h2 u hu
   ac_rfl
  ·rcases mem_append.mp ht with ht | ht
   ·exact Int.le_of_eq (g2 t ht).1.symm
   ·have:=h2 t ht
    ac_rfl
theorem wJ{p q:Int×Int}(h:Lv p q)(k:Lv q p):False:=by
 unfold Lv at h k
 ac_rfl
theorem yJ:∀{l m:List (Int×Int)},l.Pairwise Lv->m.Pairwise Lv->(∀t,t∈l ↔ t∈m)->l=m
 | [],[],_,_,_=>rfl
 | [],t::m,_,_,h=>by cases (h t).mpr (mem_cons_self ..)
 |t::l,[],_,_,h=>by cases (h t).mp (mem_cons_self ..)
 |t::l,u::m,hl,hm,h=>by
  obtain⟨l1,l2⟩:=pairwise_cons.mp hl
  obtain⟨m1,m2⟩:=pairwise_cons.mp hm
  have e:t=u:=by
   rcases mem_cons.mp ((h t).mp (mem_cons_self ..)) with z | z
   ·exact z
   ·rcases mem_cons.mp ((h u).mpr (mem_cons_self ..)) with y | y
    ·exact y.symm
    ·exact(wJ (m1 t z) (l1 u y)).elim
  subst e
  rw[yJ l2 m2 fun v=>?_]
  constructor
  ·intro hv
   rcases mem_cons.mp ((h v).mp (mem_cons_of_mem _ hv)) with rfl | z
   ·exact(wJ (l1 v hv) (l1 v hv)).elim
   ·exact z
  ·intro hv
   rcases mem_cons.mp ((h v).mpr (mem_cons_of_mem _ hv)) with rfl | z
   ·exact(wJ (m1 v hv) (m1 v hv)).elim
   ·exact z
theorem Jc{ks row e:List Int}{fl:List Ti}{U:List T3}(w:Walk ks (ids ks.length) row e)(d:e7 ks e)(m:kC ks)(f:kE ks row fl)(s:fl.Pairwise fun t u=>Lv (t.1,t.2.1) (u.1,u.2.1))(u:UpsOf ks fl U):As ks U=fl:=by
 have cov:=kE.cov w d m f
 have key:=kE.keys w f
 have rng:∀t∈fl,0<=t.1/\t.1<t.2.1/\t.2.1<ks.length/\kd ks t.1≠kd ks t.2.1:=fun t ht=>by
  obtain⟨ts,pm,al⟩:=f
  obtain⟨i,hi⟩:=mem_iff_getElem?.mp (pm.subset ht)
  have li:=(List.getElem?_eq_some_iff.mp hi).1
  have lu:i<(tls (ids ks.length) row).length:=by rw[<- al.1];exact li
  obtain⟨e1,e2,_⟩:=al.2 i t _ hi (List.getElem?_eq_getElem lu)
  obtain⟨⟨a,b,ab,bn,ea,eb⟩,hk,_⟩:=w.key (Pt.ids _) (List.getElem_mem lu)
  have bn':b<ks.length:=by simpa using bn
  rw[Fl.kK ⋯] at ea
  rw[Fl.kK bn'] at eb
  rw[e1,e2]
  exact⟨⋯,⋯,⋯,⋯⟩
 have pe:fH ks=fl.map fun t=>(t.1,t.2.1):=by
  refine yJ (Bd ks _ _).1 (pairwise_map.mpr s) fun p=>?_
  rw[kR,mem_map]
  constructor
  ·rintro⟨a,b,c,k⟩
   obtain⟨t,ht,e1,e2⟩:=cov p.1 p.2 a b c k
   exact⟨t,ht,Prod.ext e1 e2⟩
  ·rintro⟨t,ht,rfl⟩
   exact rng t ht
 unfold As
 rw[pe,map_map]
 refine(map_congr_left fun t ht=>?_).trans (map_id fl)
 obtain⟨a,b,c,k⟩:=rng t ht
 show (t.1,t.2.1,pF ks U t.1 t.2.1)=t
 rw[JO w d m f u a b c k]
 obtain⟨v,_,hv,e1,e2,e3⟩:=p7 ⟨t,ht,rfl,rfl⟩
 rw[e3]
 have vt:v=t:=by
  obtain⟨i,hi,ei⟩:=mem_iff_getElem.mp hv
  obtain⟨j,hj,ej⟩:=mem_iff_getElem.mp ht
  have pw:=pairwise_iff_getElem.mp s
  rcases lt_trichotomy i j with q | q | q
  ·have:=pw i j hi hj q
   rw[ei,ej,e1,e2] at this
   exact(wJ this this).elim
  ·subst q
   rw[<- ei,<- ej]
  ·have:=pw j i hj hi q
   rw[ei,ej,e1,e2] at this
   exact(wJ this this).elim
 rw[vt]
end Lw
namespace Lw
open L2 Z
open Sf (Rw crs uW Pre Good aK bH place many)
open Fl (kd ids Walk e7 tls pc aP Pt Bf srt eF Eh tS fY tm UpT)
abbrev lV(ks:List Int)(fl:List Ti):List (Int×Int×Int):=(aQ ks).filter (upB fl)
theorem LY{ks row e:List Int}{fl:List Ti}(w:Walk ks (ids ks.length) row e)(d:e7 ks e)(m:kC ks)(FO:kE ks row fl){a b c:Int}(t3:(a,b,c)∈aQ ks):upB fl (a,b,c)=true ↔ UpT ks row a b c:=by
 obtain⟨m1,m2,m3,m4,m5,m6⟩:=kU t3
 simp only at m1 m2 m3 m4 m5 m6
 have k1:=m a b m1 ⋯ ⋯
 have k2:=m b c ⋯ ⋯ m4
 have i1:=w.tm_lt d m1 m2 ⋯ ⋯
 have i2:=w.tm_lt d m1 (show a<c by ac_rfl) m4 ⋯
 have i3:=w.tm_lt d (show 0<=b by ac_rfl) m3 m4 ⋯
 obtain⟨p1,g1,e1,_⟩:=yA w FO i1
 obtain⟨p2,g2,e2,_⟩:=yA w FO i2
 obtain⟨p3,g3,e3,_⟩:=yA w FO i3
 have tr:=w.tri d m m1 m2 m3 m4 ⋯
 have th:=w.three d m1 m2 m3 m4 ⋯ ⋯ g1 ⟨rfl,rfl⟩ g3 ⟨rfl,rfl⟩ g2 ⟨rfl,rfl⟩
 show decide (b∈cQ fl a c)=true ↔ _
 rw[decide_eq_true_eq,e2,iN]
 rw[show (b∈p2 ↔ tm ks row a b<tm ks row b c) from th]
 exact⟨fun h=>⟨m1,m2,m3,m4,⋯,⋯,i3⟩,fun u=>by have:=u.t1;have:=u.t2;ac_rfl⟩
theorem IsF.down{ks:List Int}{fl:List Ti}(F:IsF ks fl)(h:lV ks fl≠[]):∃t∈aQ ks,mZ fl t/\upB fl t=true:=by
 have m:=F.mo
 obtain⟨row,e,w,d,rl,p⟩:=F.row
 have FO:=lO p
 obtain⟨t,ht⟩:=List.exists_mem_of_ne_nil _ h
 obtain⟨t1,t2⟩:=mem_filter.mp ht
 obtain⟨a,b,c⟩:=t
 have U:=(LY w d m FO t1).mp t2
 obtain⟨a,b,c,U,E⟩:=Fl.upmin w d m _ a b c U (Nat.le_add_left _ _)
 obtain⟨s1,s2,s3,g1,g2,g3,hx⟩:=E.hex w d m U.ab U.bc
 have k:∀{x y:Int},tm ks row x y<row.length->kd ks x≠kd ks y:=fun {x y} q z=>by
  have:=w.tm_alike (x:=x) (y:=y) ⋯
  ac_rfl
 have u1:=U.t1
 have u2:=U.t2
 have u3:=U.t3
 have t3:(a,b,c)∈aQ ks:=Eo U.a0 U.ab U.bc U.cn (k ⋯) (k u3)
 refine⟨(a,b,c),t3,?_,(LY w d m FO t3).mpr U⟩
 show Eh (cQ fl a b) (cQ fl a c) (cQ fl b c) a b c
 have f1:cQ fl a b=srt s1:=FO.below w g1
 have f2:cQ fl a c=srt s2:=FO.below w g2
 have f3:cQ fl b c=srt s3:=FO.below w g3
 rw[f1,f2,f3]
 exact hx
theorem EZ{α:Type}{p q:α->Bool}{t:α}:∀{l:List α},l.Nodup->t∈l->p t=true->q t=false->(∀x∈l,x≠t->q x=p x)->(l.filter p).length=(l.filter q).length+1
 |x::l,nd,h,a,b,e=>by
  obtain⟨n1,n2⟩:=nodup_cons.mp nd
  by_cases z:x=t
  ·subst z
   rw[filter_cons,if_pos a,filter_cons,if_neg (by rw[b];decide),length_cons]
   rw[List.filter_congr fun y hy=>(e y (mem_cons_of_mem _ hy) fun w=>n1 (w ▸ hy)).symm]
  ·have ih:=EZ n2 ((mem_cons.mp h).resolve_left fun w=>z w.symm) a b fun y hy=>e y (mem_cons_of_mem _ hy)
   have ex:=e x (mem_cons_self ..) z
   cases hp:p x
   ·rw[filter_cons,if_neg (by rw[hp];decide),filter_cons,if_neg (by rw[ex,hp];decide)]
    exact ih
   ·rw[filter_cons,if_pos hp,filter_cons,if_pos (by rw[ex,hp]),length_cons,length_cons,ih]
theorem IsF.less{ks:List Int}{fl:List Ti}(F:IsF ks fl){a b c:Int}(t3:(a,b,c)∈aQ ks)(hx:mZ fl (a,b,c))(u:upB fl (a,b,c)=true):(lV ks fl).length=(lV ks (kS fl (a,b,c))).length+1:=
 EZ (Cc ks) t3 u (by rw[MN F t3 hx,u];rfl) fun x hx' e=>MK F t3 hx hx' e
theorem IJ{ks:List Int}:∀(m:Nat) (fl:List Ti),IsF ks fl->(lV ks fl).length<=m -> ∃fl0,IsF ks fl0/\lV ks fl0=[]
 |0,fl,F,h=>⟨fl,F,List.eq_nil_of_length_eq_zero ⋯⟩
 |m+1,fl,F,h=>by
  by_cases z:lV ks fl=[]
  ·exact⟨fl,F,z⟩
  ·obtain⟨⟨a,b,c⟩,t3,hx,u⟩:=F.down z
   have:=F.less t3 hx u
   exact IJ m _ (F.flip t3 hx).1 ⋯
theorem y9{ks:List Int}{fl:List Ti}(h:lV ks fl=[]):UpsOf ks fl []:=by
 refine⟨fun t=>⟨fun z=>(not_mem_nil z).elim,fun z=>?_⟩⟩
 rw[<- h]
 exact mem_filter.mpr ⟨z.1,decide_eq_true z.2⟩
theorem A5{ks:List Int}{fl:List Ti}(F:IsF ks fl)(h:lV ks fl=[]):As ks []=fl/\UpsOk ks []:=by
 obtain⟨row,e,w,d,rl,p⟩:=F.row
 have FO:=lO p
 refine⟨Jc w d F.mo FO (F.up.imp fun {t u} z=>?_) (y9 h),MJ w d F.mo FO (y9 h)⟩
 unfold yO at z
 simp only[lexB] at z
 split at z
 ·rename_i e1
  split at z
  ·cases z
  ·exact .inr ⟨e1,of_decide_eq_true z⟩
 ·exact .inl (of_decide_eq_true z)
theorem Nm{ks:List Int}:∀(m:Nat) (path:List Int),Pt ks.length path->pc (path.map (kd ks))<=m -> ∃row e,Walk ks path row e/\e7 ks e:=by
 intro m
 induction m with
 |zero=>
  intro path P h
  refine⟨[],path,.nil _,fun p hp=>not_lt.mp fun q=>?_⟩
  have w:Walk ks path [(p:Int)] (aP path p):=.cons hp q (.nil _)
  have:=w.count P.len
  rw[length_singleton] at this
  ac_rfl
 |succ m ih=>
  intro path P h
  by_cases d:e7 ks path
  ·exact⟨[],path,.nil _,d⟩
  ·obtain⟨p,hp,q⟩:∃p,p+1<ks.length/\kd ks (path.getD p 0)<kd ks (path.getD (p+1) 0):=by
    apply Classical.byContradiction
    intro z
    exact d fun p hp=>not_lt.mp fun q=>z ⟨p,hp,q⟩
   have w:Walk ks path [(p:Int)] (aP path p):=.cons hp q (.nil _)
   have ct:=w.count P.len
   rw[length_singleton] at ct
   obtain⟨row,e,w2,d2⟩:=ih (aP path p) (P.swap hp) ⋯
   exact⟨_,e,.cons hp q w2,d2⟩
def Ky(t u:Ti):Bool:=!lexB [u.1,u.2.1] [t.1,t.2.1]
theorem NT(a b c:Ti)(h1:Ky a b=true)(h2:Ky b c=true):Ky a c=true:=by
 unfold Ky at *
 rw[Bool.not_eq_true'] at *
 rw[Bool.eq_false_iff]
 intro z
 by_cases e:[a.1,a.2.1]=[b.1,b.2.1]
 ·rw[e,h2] at z
  cases z
 ·rcases p5 _ _ e with q | q
  ·rw[pP _ _ _ z q] at h2
   cases h2
  ·rw[q] at h1
   cases h1
theorem Kx(a b:Ti):(Ky a b || Ky b a)=true:=by
 unfold Ky
 cases h:lexB [b.1,b.2.1] [a.1,a.2.1]
 ·rfl
 ·cases h2:lexB [a.1,a.2.1] [b.1,b.2.1]
  ·rfl
  ·have:=pP _ _ _ h h2
   rw[jO] at this
   cases this
theorem J8{cs:List Nat}(C:Cnt cs):∃fl,IsF (aV 0 cs) fl:=by
 obtain⟨n2,n12⟩:=sZ C
 obtain⟨row,e,w,d⟩:=Nm (ks:=aV 0 cs) _ (ids (aV 0 cs).length) (Pt.ids _) (le_refl _)
 have ct:=w.count (by simp)
 rw[Fl.J1] at ct
 have p60:=JJ C
 have pm:=List.mergeSort_perm (fY (ids (aV 0 cs).length) row) Ky
 have ky:=(lO (ks:=aV 0 cs) (row:=row) pm).keys w
 have pw:=List.pairwise_mergeSort NT Kx (fY (ids (aV 0 cs).length) row)
 refine⟨_,n2,n12,o6 cs,(pw.and ky).imp fun {t u} z=>?_,row,e,w,d,⋯,pm⟩
 unfold yO
 have h1:=z.1
 unfold Ky at h1
 rw[Bool.not_eq_true'] at h1
 rcases p5 [t.1,t.2.1] [u.1,u.2.1] (fun q=>z.2 (by simp only[List.cons.injEq,and_true] at q;exact q)) with q | q
 ·exact q
 ·rw[q] at h1
  cases h1
end Lw
namespace Lw
open L2 Z
open Sf (Rw crs uW Pre Good aK bH place many)
open Fl (kd ids Walk e7 tls pc aP Pt Bf srt eF Eh tS fY tm)
def vO:Fn:=fun ds Q=>∃fl:List Ti,ds=[.lst (eA fl)]/\Q (.v (.bl true))
theorem Kr:∀ds Q,vO ds Q->ds.length=1:=by rintro ds Q ⟨_,rfl,_⟩;rfl
theorem NH:MonoF vO:=⟨fun ds Q Q' w z=>by obtain⟨a,b,c⟩:=z;exact⟨a,b,w _ c⟩⟩
theorem Pl{x0:Sl}{E:En}(h:∀s,E.nx [x0,s]):∀(fl:List Ti) (s:Sl),bE (gN 1) (gI u9 kP) [] (eA fl) E [x0,s]:=by
 intro fl
 induction fl with
 |nil=>
  intro s
  rw[show eA []=[] from rfl,bI]
  exact⟨fun p hp=>by simp at hp,h _⟩
 |cons t fl ih=>
  intro s
  rw[show eA (t::fl)=Av t::eA fl from rfl,bM]
  refine⟨fun p hp=>by simp at hp,?_⟩
  have nx:=fun s=>ih s
  generalize bE (gN 1) (gI u9 kP) [] (eA fl) E=G at nx ⊢
  push_cast [gI]
  refine⟨rfl,?_⟩
  refine⟨t.1,rfl,?_⟩
  ac_nf
  refine⟨t.2.1,rfl,?_⟩
  ac_nf
  refine⟨t.2.2,rfl,?_⟩
  ac_nf
  exact nx _
theorem w5:∀ds Q,vO ds Q->kW u9 kP ↥Q (aN ["_law_tiles", "_law_tile"] ds):=by
 rintro ds Q ⟨fl,rfl,q⟩
 ac_nf
 refine⟨rfl,Pl (fun s=>?_) fl _⟩
 ac_nf
 exact q
theorem IsF.cov{ks:List Int}{fl:List Ti}(F:IsF ks fl):SC ks fl:=by
 obtain⟨row,e,w,d,rl,p⟩:=F.row
 exact(lO p).cov w d F.mo
theorem flp{C:Addr}{rows:List Rw}{fl:List Ti}{a b c:Int}(F:IsF (aK rows) fl)(t3:(a,b,c)∈aQ (aK rows))(hx:mZ fl (a,b,c)){Q:R->Prop}(q:Q (.nw (.lst (eA (kS fl (a,b,c)))))):nD C [bG C rows,.lst (eA fl),.tup [.int a,.int b,.int c]] Q:=
 ⟨rows,fl,a,b,c,rfl,F.fl5,(F.flip t3 hx).2.ab,(F.flip t3 hx).2.bc,t3,hx,q⟩
theorem sV:∀l:List Dv,(∀d∈l,kF d=true)->flatDs l=true
 | [],_=>rfl
 |d::r,h=>by
  show (kF d&&flatDs r)=true
  rw[h d (mem_cons_self ..),sV r fun x hx=>h x (mem_cons_of_mem _ hx)]
  rfl
theorem LK(l:List Int):flatDs (bS l)=true:=sV _ fun d hd=>by
 obtain⟨x,_,rfl⟩:=mem_map.mp hd
 rfl
theorem Ro(l:List (Int×Int×Int)):C0 (.lst (e9 l))=true:=sV _ fun d hd=>by
 obtain⟨x,_,rfl⟩:=mem_map.mp hd
 rfl
theorem Rp(l:List Ti):C0 (.lst (eA l))=true:=sV _ fun d hd=>by
 obtain⟨x,_,rfl⟩:=mem_map.mp hd
 show (true&&(true&&(flatDs (bS x.2.2)&&true)))=true
 rw[LK]
 rfl
def tD(C:Addr):Fn:=fun ds Q=>∃(rows:List Rw) (fl:List Ti),ds=[bG C rows]/\IsF (aK rows) fl/\lV (aK rows) fl=[]/\Q (.nw (.lst (eA fl)))
theorem Kp{C:Addr}:∀ds Q,tD C ds Q->ds.length=1:=by rintro ds Q ⟨_,_,rfl,_⟩;rfl
theorem zW{C:Addr}:MonoF (tD C):=⟨fun ds Q Q' w z=>by obtain⟨a,b,c,d,e,f⟩:=z;exact⟨a,b,c,d,e,w _ f⟩⟩
theorem P7{C:Addr}:∀ds Q,tD C ds Q->Gd (Dd C) ↥Q (aN ["sides"] ds):=by
 rintro ds Q ⟨rows,fl,rfl,F,u,q⟩
 obtain⟨e,ok⟩:=A5 F u
 ac_nf
 refine⟨rows,[],rfl,F.n12,nodup_nil,by simp,ok,?_⟩
 rw[e]
 ac_nf
 exact q
def nA:Fn:=fun ds Q=>∃(ks:List Int) (fl:List Ti),ds=[.lst (e9 (aQ ks)),.lst (eA fl)]/\IsF ks fl/\Q (.nw (.lst (e9 (lV ks fl))))
theorem Km:∀ds Q,nA ds Q->ds.length=2:=by rintro ds Q ⟨_,_,rfl,_⟩;rfl
theorem I9:MonoF nA:=⟨fun ds Q Q' w z=>by obtain⟨a,b,c,d,e⟩:=z;exact⟨a,b,c,d,w _ e⟩⟩
theorem HN:∀ds Q,nA ds Q->vK iY ↥Q (aN ["_law_every", "_law_tiles", "_law_belows_here"] ds):=by
 rintro ds Q ⟨ks,fl,rfl,F,q⟩
 have tl:=lK F.n12
 have fl6:=F.len
 ac_nf
 refine⟨fl,rfl,⋯,F.key,?_⟩
 ac_nf
 exact Qx F.cov F.mo (aQ ks) [] (fun t ht=>ht) (by simp;ac_rfl) q
theorem Re{ks:List Int}(m:kC ks){x:Nat}{a:Addr}{E:En}:∀(i b:Nat) (acc:List (Int×Int)) (s3:Sl),x<b->b+i<=ks.length->acc.length+i<=1000->(∀s3,E.nx [.v (.lst (bS ks)),.own a (.lst (qA (acc++xG ks x i b))),.v (.int x),s3]) ->
  bE (gN 3) jH [] (bF b i) E [.v (.lst (bS ks)),.own a (.lst (qA acc)),.v (.int x),s3]:=by
 intro i
 induction i with
 |zero=>
  intro b acc s3 _ _ _ h
  rw[cP,bI]
  rw[show xG ks x 0 b=[] from rfl,append_nil] at h
  exact⟨fun p hp=>by simp at hp,h _⟩
 |succ i ih=>
  intro b acc s3 hb hi hl h
  rw[bW,bM]
  refine⟨fun p hp=>by simp at hp,?_⟩
  rw[show ((b:Int)+1)=((b+1:Nat):Int) by ac_rfl]
  have nx:=fun acc s3=>ih (b+1) acc s3 ⋯ ⋯
  generalize bE (gN 3) jH [] (bF ((b+1:Nat):Int) i) E=G at nx ⊢
  have mo:=m x b ⋯ ⋯ ⋯
  rw[xG] at h
  push_cast [jH]
  rw[fK (show x<ks.length by ac_rfl),fK (show b<ks.length by ac_rfl)]
  push_cast [length_map]
  have k1:kd ks (x:Int)=ks.getD x 0:=by unfold kd;rw[toNat_natCast]
  have k2:kd ks (b:Int)=ks.getD b 0:=by unfold kd;rw[toNat_natCast]
  rw[k1,k2] at mo
  rw[k1,k2] at h
  refine xQ (fun q=>?_) fun q=>?_
  ·refine⟨⋯,?_⟩
   rw[show qA acc++[Dv.tup [Dv.int (x:Int),Dv.int (b:Int)]]=qA (acc++[((x:Int),(b:Int))]) by simp]
   refine nx _ _ (by simp;ac_rfl) fun s3=>?_
   rw[if_neg ⋯] at h
   rw[append_assoc]
   exact h s3
  ·refine nx _ _ ⋯ fun s3=>?_
   rw[if_pos ⋯,nil_append] at h
   exact h s3
theorem Rc{ks:List Int}(m:kC ks)(hn:ks.length<=12){a:Addr}{E:En}:∀(i x:Nat) (acc:List (Int×Int)) (s2 s3:Sl),x+i=ks.length->acc.length+12*i<=900->(∀s2 s3,E.nx [.v (.lst (bS ks)),.own a (.lst (qA (acc++mJ ks i x))),s2,s3]) ->
  bE (gN 2) jG [] (bF x i) E [.v (.lst (bS ks)),.own a (.lst (qA acc)),s2,s3]:=by
 intro i
 induction i with
 |zero=>
  intro x acc s2 s3 _ _ h
  rw[cP,bI]
  rw[show mJ ks 0 x=[] from rfl,append_nil] at h
  exact⟨fun p hp=>by simp at hp,h _ _⟩
 |succ i ih=>
  intro x acc s2 s3 hi hl h
  rw[bW,bM]
  refine⟨fun p hp=>by simp at hp,?_⟩
  rw[show ((x:Int)+1)=((x+1:Nat):Int) by ac_rfl]
  have nx:=fun acc s2 s3=>ih (x+1) acc s2 s3 ⋯
  generalize bE (gN 2) jG [] (bF ((x+1:Nat):Int) i) E=G at nx ⊢
  rw[mJ] at h
  have il:=vB ks x (ks.length-(x+1)) (x+1)
  push_cast [jG,length_map]
  rw[show ((x:Int)+1)=((x+1:Nat):Int) by ac_rfl]
  refine⟨⋯,?_⟩
  rw[show ((ks.length:Int)-((x+1:Nat):Int)).toNat=ks.length-(x+1) by ac_rfl]
  refine Re m _ (x+1) acc _ ⋯ ⋯ ⋯ fun s3=>?_
  refine nx _ _ _ (by rw[length_append];ac_rfl) fun s2 s3=>?_
  rw[append_assoc]
  exact h s2 s3
def vN:Fn:=fun ds Q=>∃ks:List Int,ds=[.lst (bS ks)]/\ks.length<=12/\kC ks/\Q (.nw (.lst (qA (fH ks))))
theorem Ko:∀ds Q,vN ds Q->ds.length=1:=by rintro ds Q ⟨_,rfl,_⟩;rfl
theorem NG:MonoF vN:=⟨fun ds Q Q' w z=>by obtain⟨a,b,c,d,e⟩:=z;exact⟨a,b,c,d,w _ e⟩⟩
theorem BN:∀ds Q,vN ds Q->oK ↥Q (aN ["_law_bands_here", "_law_row_here", "_law_a", "_law_b"] ds):=by
 rintro ds Q ⟨ks,rfl,hn,m,q⟩
 push_cast [length_map]
 refine fun a=>⟨⋯,?_⟩
 rw[toNat_natCast]
 refine Rc m hn ks.length 0 [] _ _ ⋯ (by simp;ac_rfl) fun s2 s3=>?_
 rw[nil_append]
 ac_nf
 exact q
theorem Ri{B:List Th}{Q:R->Prop}:∀(l acc:List Th),acc.length+l.length<=10000->Q (.nw (.lst (e9 (acc++l.filter fun t=>decide (t∈B))))) ->
  d8 [.un,.v (.lst (e9 B))] (gN 0) (bB (aT Hg (aE 0) (aE 1))) (aE 0) (e9 l) (e9 acc) Q:=by
 intro l
 induction l with
 |nil=>
  intro acc _ h
  rw[show e9 []=[] from rfl,dL]
  simpa using h
 |cons t l ih=>
  intro acc hl h
  simp only[length_cons] at hl
  rw[show e9 (t::l)=.tup [.int t.1,.int t.2.1,.int t.2.2]::e9 l from rfl]
  push_cast [Hg,Bv,length_map]
  refine⟨⟨rfl,uZ B⟩,?_⟩
  by_cases z:t∈B
  ·rw[if_pos z]
   refine⟨⋯,?_⟩
   rw[show e9 acc++[Dv.tup [Dv.int t.1,Dv.int t.2.1,Dv.int t.2.2]]=e9 (acc++[t]) by simp]
   rw[filter_cons_of_pos (by simpa using z)] at h
   exact ih _ (by simp;ac_rfl) (by simpa using h)
  ·rw[if_neg z]
   rw[filter_cons_of_neg (by simpa using z)] at h
   exact ih _ ⋯ h
def sG(C:Addr):Fn:=fun ds Q=>∃(rows:List Rw) (fl fl0:List Ti) (c:Int),ds=[bG C rows,.lst (e9 (aQ (aK rows))),.lst (eA fl),.int c]/\IsF (aK rows) fl/\IsF (aK rows) fl0/\lV (aK rows) fl0=[]/\Q (.v (.lst (eA fl0)))
theorem IR{C:Addr}:∀ds Q,sG C ds Q->ds.length=4:=by rintro ds Q ⟨_,_,_,_,rfl,_⟩;rfl
theorem Kf{C:Addr}:MonoF (sG C):=⟨fun ds Q Q' w z=>by obtain⟨a,b,c,d,e,f,g,h,i⟩:=z;exact⟨a,b,c,d,e,f,g,h,w _ i⟩⟩
theorem fpp{C:Addr}{rows:List Rw}{fl:List Ti}(F:IsF (aK rows) fl){Q:R->Prop}(q:Q (.nw (.lst (e9 ((aQ (aK rows)).filter fun t=>decide (mZ fl t)))))):vP C [bG C rows,.lst (eA fl)] Q:=
 ⟨rows,fl,rfl,F.n12,by have:=F.len;ac_rfl,F.key,F.fl5.has,q⟩
theorem Ru{C:Addr}{rows:List Rw}{M:Nat}{c:Int}{x2:Sl}{E:En}(h:∀f x6 x7 x8,IsF (aK rows) f->lV (aK rows) f=[]->E.nx [.v (bG C rows),.v (.lst (e9 (aQ (aK rows)))),x2,.v (.int c),.v (.lst (eA f)),.v (.int (M:Nat)),x6,x7,x8]):∀(i k:Nat) (f:List Ti) (x6 x7 x8:Sl),k+i=M->M<=2000->IsF (aK rows) f->(lV (aK rows) f).length=i ->
  bE (gN 6) (kN nA (vP C) (nD C)) [] (bF k i) E [.v (bG C rows),.v (.lst (e9 (aQ (aK rows)))),x2,.v (.int c),.v (.lst (eA f)),.v (.int (M:Nat)),x6,x7,x8]:=by
 intro i
 induction i with
 |zero=>
  intro k f x6 x7 x8 _ _ F hu
  rw[cP,bI]
  exact⟨fun p hp=>by simp at hp,h _ _ _ _ F (List.eq_nil_of_length_eq_zero hu)⟩
 |succ i ih=>
  intro k f x6 x7 x8 hk hM F hu
  rw[bW,bM]
  refine⟨fun p hp=>by simp at hp,?_⟩
  rw[show ((k:Int)+1)=((k+1:Nat):Int) by ac_rfl]
  have nx:=fun f x6 x7 x8=>ih (k+1) f x6 x7 x8 ⋯ hM
  generalize bE (gN 6) (kN nA (vP C) (nD C)) [] (bF ((k+1:Nat):Int) i) E=G at nx ⊢
  obtain⟨t,t3,hx,u⟩:=F.down (fun z=>by rw[z] at hu;cases hu)
  have T:=lK F.n12
  have l1:=length_filter_le (fun t=>decide (mZ f t)) (aQ (aK rows))
  push_cast [kN]
  refine⟨aK rows,f,rfl,F,?_⟩
  ac_nf
  refine fpp F ?_
  ac_nf
  refine Ri _ [] (by simp;ac_rfl) ?_
  rw[nil_append]
  generalize eL:(((aQ (aK rows)).filter fun t=>decide (mZ f t)).filter fun t=>decide (t∈lV (aK rows) f))=L
  have mem:∀x,x∈L ↔ x∈aQ (aK rows)/\mZ f x/\upB f x=true:=fun x=>by
   rw[<- eL,mem_filter,mem_filter,decide_eq_true_eq,decide_eq_true_eq,mem_filter]
   exact⟨fun z=>⟨z.1.1,z.1.2,z.2.2⟩,fun z=>⟨⟨z.1,z.2.1⟩,z.1,z.2.2⟩⟩
  have Lp:0<L.length:=List.length_pos_iff.mpr (List.ne_nil_of_mem ((mem t).mpr ⟨t3,hx,u⟩))
  push_cast [length_map]
  rw[decide_eq_true (show ((lV (aK rows) f).length:Int)=(M:Int)-(k:Int) by ac_rfl)]
  refine nX ⟨⟨PZ L,rfl⟩,?_⟩
  rw[show eqD (Dv.lst (e9 L)) (Dv.lst [])=decide (L=[]) from LL L [],decide_eq_false (fun z=>by rw[z] at Lp;cases Lp)]
  obtain⟨q,eq,hq⟩:∃q:Nat,(c / 3+5*(k:Int)) % (L.length:Int)=q/\q<L.length:=⟨((c / 3+5*(k:Int)) % (L.length:Int)).toNat,by rw[Int.toNat_of_nonneg (emod_nonneg _ ⋯)],by have:=emod_lt_of_pos (c / 3+5*(k:Int)) (show (0:Int)<(L.length:Int) by ac_rfl);ac_rfl⟩
  have m':=(mem _).mp (List.getElem_mem hq)
  rw[eq,lT ⋯ (by rw[length_map];ac_rfl),toNat_natCast,List.getElem?_map,List.getElem?_eq_getElem hq]
  generalize L[q]=v at m'
  obtain⟨a,b,d⟩:=v
  refine nX ⟨uL ⋯ ⋯,⋯,?_⟩
  refine flp F m'.1 m'.2.1 ?_
  ac_nf
  have le:=F.less m'.1 m'.2.1 m'.2.2
  exact nx _ _ _ _ (F.flip m'.1 m'.2.1).1 ⋯
theorem Ct{C:Addr}:∀ds Q,sG C ds Q->qN nA (vP C) (nD C) ↥Q (aN ["_law_sides_here", "_law_every", "_law_tiles", "_law_cell", "_law_floor_here", "_law_many_here", "_law_k", "_law_standing", "_law_some"] ds):=by
 rintro ds Q ⟨rows,fl,fl0,c,rfl,F,F0,u0,q⟩
 have T:=lK F.n12
 have l1:(lV (aK rows) fl).length<=(aQ (aK rows)).length:=length_filter_le (upB fl) (aQ (aK rows))
 ac_nf
 refine⟨aK rows,fl,rfl,F,?_⟩
 push_cast [length_map]
 refine⟨⋯,?_⟩
 rw[toNat_natCast]
 refine Ru (fun f x6 x7 x8 Ff uf=>?_) (lV (aK rows) fl).length 0 fl _ _ _ ⋯ ⋯ F rfl
 ac_nf
 rw[<- (A5 Ff uf).1,(A5 F0 u0).1]
 exact q
theorem D3(l:List (Int×Int)):dQ 8 (.lst (qA l))=true:=nS 7 _ fun d hd=>by
 obtain⟨t,_,rfl⟩:=mem_map.mp hd
 exact oX 6 [t.1,t.2]
theorem Rg{Q:R->Prop}:∀(l:List Ti) (acc:List (Int×Int)),acc.length+l.length<=1000->Q (.nw (.lst (qA (acc++l.map fun t=>(t.1,t.2.1))))) ->
  d8 [.un,.un,.un] (gT [0,1,2]) jK (cZ (aD (aE 0) (aD (aE 1) aJ))) (eA l) (qA acc) Q:=by
 intro l
 induction l with
 |nil=>
  intro acc _ h
  rw[show eA []=[] from rfl,dL]
  rw[map_nil,append_nil] at h
  exact h
 |cons t l ih=>
  intro acc hl h
  rw[length_cons] at hl
  rw[show eA (t::l)=Av t::eA l from rfl,lR]
  have nx:=fun acc=>ih acc
  generalize d8 [.un,.un,.un] (gT [0,1,2]) jK (cZ (aD (aE 0) (aD (aE 1) aJ))) (eA l)=G at nx ⊢
  push_cast [length_map]
  refine⟨⋯,?_⟩
  rw[show qA acc++[Dv.tup [Dv.int t.1,Dv.int t.2.1]]=qA (acc++[(t.1,t.2.1)]) by simp]
  refine nx _ (by simp;ac_rfl) ?_
  rw[map_cons] at h
  rw[append_assoc]
  exact h
theorem PX{C:Addr}{rows:List Rw}{fl0:List Ti}{c:Int}(F0:IsF (aK rows) fl0)(u0:lV (aK rows) fl0=[]){tl:cO}{E:En}{ad:Addr}{x5:Sl}(h:tl E [.v (.lst (bS (aK rows))),.v (.lst (e9 (aQ (aK rows)))),.v (.int c),.v (bG C rows),.own ad (.lst (eA fl0)),x5]):
  (aR (hZ (DM (j5 (iO (aS vO (aD (aE 4) aJ)))) (bB (aT wB (fP 3 [] (jP (aE 4)) (gT [0,1,2]) jK (cZ (aD (aE 0) (aD (aE 1) aJ)))) (aS vN (aD (aE 0) aJ))))) (cD (eC (.bl false))) bL) tl) E [.v (.lst (bS (aK rows))),.v (.lst (e9 (aQ (aK rows)))),.v (.int c),.v (bG C rows),.own ad (.lst (eA fl0)),x5]:=by
 have e0:=(A5 F0 u0).1
 have fl6:=F0.len
 have ek:fl0.map (fun t=>(t.1,t.2.1))=fH (aK rows):=by
  rw[<- e0]
  unfold As
  rw[map_map]
  exact map_id _
 ac_nf
 refine⟨fl0,rfl,?_⟩
 ac_nf
 refine⟨.inr rfl,Rg fl0 [] (by simp;ac_rfl) ?_⟩
 rw[nil_append,ek]
 refine⟨aK rows,rfl,F0.n12,F0.mo,?_⟩
 ac_nf
 refine⟨⟨D3 _,D3 _⟩,?_⟩
 rw[show eqD (Dv.lst (qA (fH (aK rows)))) (Dv.lst (qA (fH (aK rows))))=true from PySem.SeqAt.eqv_refl _ (nV 8 _ (D3 _)).1]
 exact nX h
theorem PV{C:Addr}{rows:List Rw}{fl0:List Ti}{c:Int}(F0:IsF (aK rows) fl0)(u0:lV (aK rows) fl0=[]){tl:cO}{E:En}{ad:Addr}{x5:Sl}(h:tl E [.v (.lst (bS (aK rows))),.v (.lst (e9 (aQ (aK rows)))),.v (.int c),.v (bG C rows),.own ad (.lst (eA fl0)),x5]):
  (aR (hZ (DM (bB (aT wB (aS nA (aD (aE 1) (aD (aE 4) aJ))) (i5 aJ))) (j5 (iO (aS sF (aD (aE 0) (aD (aE 4) aJ)))))) (cD (eC (.bl false))) bL) tl) E [.v (.lst (bS (aK rows))),.v (.lst (e9 (aQ (aK rows)))),.v (.int c),.v (bG C rows),.own ad (.lst (eA fl0)),x5]:=by
 obtain⟨row,e,w,d,rl,p⟩:=F0.row
 ac_nf
 refine⟨aK rows,fl0,rfl,F0,?_⟩
 rw[u0]
 ac_nf
 refine⟨.inr rfl,⟨rfl,rfl⟩,?_⟩
 rw[show eqD (Dv.lst []) (Dv.lst [])=true from rfl]
 refine nX ⟨aK rows,row,e,fl0,rfl,F0.n2,F0.n12,w,d,rl,p,?_⟩
 ac_nf
 exact⟨.inr rfl,h⟩
theorem PU{C:Addr}{cs:List Nat}(hc:Cnt cs){fl0:List Ti}{c:Int}{tl:cO}{E:En}{ad:Addr}{x5:Sl}(h:∀fl,IsF (aK (cI 0 cs)) fl->tl E [.v (.lst (bS (aK (cI 0 cs)))),.v (.lst (e9 (aQ (aK (cI 0 cs))))),.v (.int c),.v (bG C (cI 0 cs)),.own ad (.lst (eA fl0)),.v (.lst (eA fl))]):
  (aR (bK 5 (aS oS (aD (aE 0) (aD (aS vM (aD (aE 0) (aD (aE 2) aJ))) aJ)))) tl) E [.v (.lst (bS (aK (cI 0 cs)))),.v (.lst (e9 (aQ (aK (cI 0 cs))))),.v (.int c),.v (bG C (cI 0 cs)),.own ad (.lst (eA fl0)),x5]:=by
 obtain⟨n2,n12⟩:=sZ hc
 have kr:=rB cs
 ac_nf
 refine⟨aV 0 cs,c,by rw[kr],n2,n12,JJ hc,fun row e w d rl=>?_⟩
 ac_nf
 refine⟨aV 0 cs,row,e,by rw[kr],n12,w,rl,fun fl F u=>?_⟩
 have I:IsF (aK (cI 0 cs)) fl:=by
  rw[kr]
  exact⟨n2,n12,o6 cs,u,row,e,w,d,rl,Ka F⟩
 ac_nf
 exact h fl I
theorem PR{C:Addr}{rows:List Rw}{fl0 fl:List Ti}{c:Int}(F0:IsF (aK rows) fl0)(u0:lV (aK rows) fl0=[])(F:IsF (aK rows) fl){E:En}{ad:Addr}(h:E.rt (.v (.bl true))):
  (aR (hZ (bB (aT wB (aS (sG C) (aD (aE 3) (aD (aE 1) (aD (aE 5) (aD (aE 2) aJ))))) (aE 4))) (cD (eC (.bl false))) bL) (aR (qT 4) (cD (aT t6 (aS nA (aD (aE 1) (aD (aS (tD C) (aD (aE 3) aJ)) aJ))) (i5 aJ))))) E [.v (.lst (bS (aK rows))),.v (.lst (e9 (aQ (aK rows)))),.v (.int c),.v (bG C rows),.own ad (.lst (eA fl0)),.v (.lst (eA fl))]:=by
 ac_nf
 refine⟨rows,fl,fl0,c,rfl,F,F0,u0,?_⟩
 push_cast [AH,Hv,and_self,true_and,decide_true]
 refine⟨rows,fl0,rfl,F0,u0,?_⟩
 ac_nf
 refine⟨aK rows,fl0,rfl,F0,?_⟩
 rw[u0]
 ac_nf
 refine⟨⟨rfl,rfl⟩,?_⟩
 rw[show eqD (Dv.lst []) (Dv.lst [])=true from rfl]
 exact h
def mB(C:Addr):Fn:=fun ds Q=>∃(cs:List Nat) (c:Int),ds=[.lst (bS (aV 0 cs)),.lst (e9 (aQ (aV 0 cs))),.int c]/\Cnt cs/\Q (.v (.bl true))
theorem Kl{C:Addr}:∀ds Q,mB C ds Q->ds.length=3:=by rintro ds Q ⟨_,_,rfl,_⟩;rfl
theorem NE{C:Addr}:MonoF (mB C):=⟨fun ds Q Q' w z=>by obtain⟨a,b,c,d,e⟩:=z;exact⟨a,b,c,d,w _ e⟩⟩
theorem PY{C:Addr}{cs:List Nat}(hc:Cnt cs){c:Int}{tl:cO}{E:En}{x5:Sl}(h:∀fl0 ad,IsF (aK (cI 0 cs)) fl0->lV (aK (cI 0 cs)) fl0=[]->tl E [.v (.lst (bS (aK (cI 0 cs)))),.v (.lst (e9 (aQ (aK (cI 0 cs))))),.v (.int c),.v (bG C (cI 0 cs)),.own ad (.lst (eA fl0)),x5]):
  (aR (bK 3 (aS (mG C) (aD (aE 0) aJ))) (aR (iV 4 (aS (tD C) (aD (aE 3) aJ))) tl)) E [.v (.lst (bS (aK (cI 0 cs)))),.v (.lst (e9 (aQ (aK (cI 0 cs))))),.v (.int c),.un,.un,x5]:=by
 have kr:=rB cs
 obtain⟨fl,F⟩:=J8 hc
 obtain⟨fl0,F0,u0⟩:=IJ _ fl F (le_refl _)
 rw[<- kr] at F0 u0
 ac_nf
 refine⟨cs,by rw[kr],hc,?_⟩
 ac_nf
 refine⟨cI 0 cs,fl0,rfl,F0,u0,?_⟩
 ac_nf
 exact fun ad=>h fl0 ad F0 u0
theorem FJ{C:Addr}:∀ds Q,mB C ds Q->t9 (mG C) (tD C) vO vN nA sF vM oS (sG C) ↥Q (aN ["_law_bands_here", "_law_every", "_law_cell", "_law_sides_here", "_law_lowest", "_law_tiles"] ds):=by
 rintro ds Q ⟨cs,c,rfl,hc,q⟩
 rw[<- rB cs]
 exact PY (C:=C) hc fun fl0 ad F0 u0=>PX F0 u0 (PV F0 u0 (PU hc fun fl F=>PR F0 u0 F q))
theorem RZ{C:Addr}{ns:List Int}{k:Nat}{E:En}{x2 x3 x4 x5 x6:Sl}(h:∀x2 x3 x4 x5 x6,E.nx [.v (.scr ns),.v (.int k),x2,x3,x4,x5,x6]):(aR (bK 2 (aS h9 (aD (aE 0) (aD (aE 1) aJ)))) (aR (bK 3 (aS gW (aD (aE 2) (aD (eC (.int 6)) aJ)))) (aR (bK 4 (aS mC (aD (aE 3) aJ))) (aR (hZ (bB (aT t6 (aT iT (aT nP (aE 2) (eC (.int 7))) (eC (.int 4))) (eC (.int 1)))) (aR (bK 5 (aS gW (aD (aE 2) (aD (eC (.int 12)) aJ)))) (aR (bK 6 (aS mC (aD (aE 5) aJ))) (hZ (bB (aT xN (fX dE (aD (aE 6) aJ)) (eC (.int 25)))) (aR (bK 3 (aE 5)) (bK 4 (aE 6))) bL))) bL) (hZ (j5 (iO (aS (mB C) (aD (aE 3) (aD (aE 4) (aD (aS h9 (aD (aE 0) (aD (aT dZ (aE 1) (eC (.int 1))) aJ))) aJ)))))) (cD (eC (.bl false))) bL))))) E [.v (.scr ns),.v (.int k),x2,x3,x4,x5,x6]:=by
 have fin:∀(cs:List Nat) (x2 x5 x6:Sl),Cnt cs->(hZ (j5 (iO (aS (mB C) (aD (aE 3) (aD (aE 4) (aD (aS h9 (aD (aE 0) (aD (aT dZ (aE 1) (eC (.int 1))) aJ))) aJ)))))) (cD (eC (.bl false))) bL) E [.v (.scr ns),.v (.int k),x2,.v (.lst (bS (aV 0 cs))),.v (.lst (e9 (aQ (aV 0 cs)))),x5,x6]:=fun cs x2 x5 x6 hc=>by
  ac_nf
  refine⟨ns,(k:Int)+1,rfl,⋯,fun c=>?_⟩
  ac_nf
  refine⟨cs,c,rfl,hc,?_⟩
  ac_nf
  exact h _ _ _ _ _
 generalize (hZ (j5 (iO (aS (mB C) (aD (aE 3) (aD (aE 4) (aD (aS h9 (aD (aE 0) (aD (aT dZ (aE 1) (eC (.int 1))) aJ))) aJ)))))) (cD (eC (.bl false))) bL)=G at fin ⊢
 ac_nf
 refine⟨ns,k,rfl,⋯,fun c=>?_⟩
 ac_nf
 refine⟨c,6,rfl,by decide,by decide,fun cs hc=>?_⟩
 obtain⟨n2,n12⟩:=sZ hc
 ac_nf
 refine⟨aV 0 cs,rfl,⋯,n12,o6 cs,?_⟩
 ac_nf
 refine xQ (fun _=>?_) fun _=>fin cs _ _ _ hc
 refine⟨c,12,rfl,by decide,by decide,fun ds hd=>?_⟩
 obtain⟨n2',n12'⟩:=sZ hd
 ac_nf
 refine⟨aV 0 ds,rfl,⋯,n12',o6 ds,?_⟩
 push_cast [length_map]
 exact xQ (fun _=>fin ds _ _ _ hd) fun _=>fin cs _ _ _ hc
theorem Pj{C:Addr}{ns:List Int}{E:En}:∀(ks:List Nat) (x1 x2 x3 x4 x5 x6:Sl),(∀x1 x2 x3 x4 x5 x6,E.nx [.v (.scr ns),x1,x2,x3,x4,x5,x6]) ->
  bE (gN 1) (Ac h9 gW mC (mB C)) [] (ks.map fun(m:Nat)=>Dv.int (m:Int)) E [.v (.scr ns),x1,x2,x3,x4,x5,x6]:=by
 intro ks
 induction ks with
 |nil=>
  intro x1 x2 x3 x4 x5 x6 h
  rw[map_nil,bI]
  exact⟨fun p hp=>by simp at hp,h _ _ _ _ _ _⟩
 |cons k ks ih=>
  intro x1 x2 x3 x4 x5 x6 h
  rw[map_cons,bM]
  refine⟨fun p hp=>by simp at hp,?_⟩
  have nx:=fun x1 x2 x3 x4 x5 x6=>ih x1 x2 x3 x4 x5 x6 h
  generalize bE (gN 1) (Ac h9 gW mC (mB C)) [] (ks.map fun(m:Nat)=>Dv.int (m:Int)) E=G at nx ⊢
  show (aR (bK 2 (aS h9 (aD (aE 0) (aD (aE 1) aJ)))) (aR (bK 3 (aS gW (aD (aE 2) (aD (eC (.int 6)) aJ)))) (aR (bK 4 (aS mC (aD (aE 3) aJ))) (aR (hZ (bB (aT t6 (aT iT (aT nP (aE 2) (eC (.int 7))) (eC (.int 4))) (eC (.int 1)))) (aR (bK 5 (aS gW (aD (aE 2) (aD (eC (.int 12)) aJ)))) (aR (bK 6 (aS mC (aD (aE 5) aJ))) (hZ (bB (aT xN (fX dE (aD (aE 6) aJ)) (eC (.int 25)))) (aR (bK 3 (aE 5)) (bK 4 (aE 6))) bL))) bL) (hZ (j5 (iO (aS (mB C) (aD (aE 3) (aD (aE 4) (aD (aS h9 (aD (aE 0) (aD (aT dZ (aE 1) (eC (.int 1))) aJ))) aJ)))))) (cD (eC (.bl false))) bL))))) _ [.v (.scr ns),.v (.int k),x2,x3,x4,x5,x6]
  exact RZ (C:=C) fun x2 x3 x4 x5 x6=>nx _ _ _ _ _ _
def spLaw:Fn:=fun ds Q=>∃ns:List Int,ds=[.scr ns]/\ns.length<=63/\Q (.v (.bl true))
theorem Kq:∀ds Q,spLaw ds Q->ds.length=1:=by rintro ds Q ⟨d,rfl,_⟩;rfl
theorem PB{C:Addr}:∀ds Q,spLaw ds Q->Ge h9 gW mC (mB C) ↥Q (aN ["_law_script", "_law_k", "_law_cell", "_law_bands_here", "_law_every", "_law_wide", "_law_more_threes"] ds):=by
 rintro ds Q ⟨ns,rfl,hl,h⟩
 ac_nf
 obtain⟨m,hm,m22⟩:∃m:Nat,(if (ns.length:Int)<6 then (ns.length:Int) else 6)+1=m/\m<22:=⟨((if (ns.length:Int)<6 then (ns.length:Int) else 6)+1).toNat,by split<;>ac_rfl,by split<;>ac_rfl⟩
 rw[hm]
 have sm:∀m:Nat,m<22->Builtin.Range.small 0 (m:Int) 2=true/\0<=Builtin.Range.rangeSize 0 (m:Int) 2/\(Builtin.Range.rangeSize 0 (m:Int) 2).toNat<=22:=by decide +kernel
 obtain⟨q1,q2,q3⟩:=sm m m22
 refine⟨⟨by decide,by decide,q1,q2⟩,?_⟩
 have e:qU 0 2 (Builtin.Range.rangeSize 0 (m:Int) 2).toNat=((List.range (Builtin.Range.rangeSize 0 (m:Int) 2).toNat).map fun(k:Nat)=>2*k).map fun(m:Nat)=>Dv.int (m:Int):=by
  unfold qU
  rw[map_map]
  apply map_congr_left
  intro k _
  show Dv.int (0+(k:Int)*2)=Dv.int ((2*k:Nat):Int)
  rw[show 0+(k:Int)*2=((2*k:Nat):Int) by ac_rfl]
 rw[e]
 refine Pj _ _ _ _ _ _ _ fun x1 x2 x3 x4 x5 x6=>?_
 ac_nf
 exact h
end Lw
namespace Hd
open PySem PySem.W
def O8:List Obj->Nat->BT->Option (BT×Nat)
 | [],n,t=>some (t,n)
 |o::r,n,t=>match ((t.ins n o).get n).isSome with
  |true=>O8 r (n+1) (t.ins n o)
  |false=>none
theorem Bg{life:Life}:∀(l:List Obj) (n:Nat) (t:BT) {t':BT} {n':Nat},O8 l n t=some (t',n')->absHeap t' n' life=⟨((absHeap t n life).objs.toList++l).toArray,life⟩
 | [],n,t,t',n',h=>by
  cases h
  rw[append_nil]
  rfl
 |o::r,n,t,t',n',h=>by
  rw[O8] at h
  cases g:((t.ins n o).get n).isSome with
  |false=>rw[g] at h;cases h
  |true=>
   rw[g] at h
   rw[Bg r (n+1) (t.ins n o) h,absHeap_ins g]
   show Heap.mk _ _=Heap.mk _ _
   congr 1
   show (((absHeap t n life).objs.push o).toList++r).toArray=_
   simp
theorem Hw{h:Heap}{t:BT}{n:Nat}(e:O8 h.objs.toList 0 .nil=some (t,n)):absHeap t n h.life=h:=by
 rw[Bg (life:=h.life) _ _ _ e]
 rfl
def uX(st:SharedT->Thread->Option (SharedT×Thread))(th:Thread->Bool)(ok:Thread->Bool):Nat->SharedT->Thread->Option SharedT
 |0,_,_=>none
 |n+1,s,t=>match th t with
  |true=>some s
  |false=>match ok t with
   |false=>none
   |true=>match Nat.ble s.toks 1000000 with
    |false=>none
    |true=>match st s t with
     |some (s',t')=>uX st th ok n s' t'
     |none=>none
theorem s9{tb:String->Option Builtin}{p:Program}{w:World}{n₀:Nat}{ann:Option Value}:∀(n:Nat) (s:SharedT) (t:Thread) {s':SharedT},uX (stepT (denote tb) p w) through (stepOk n₀ ann) n s t=some s'->topRun tb p w n₀ ann n s.abs t=some s'.abs
 |0,_,_,_,h=>by cases h
 |n+1,s,t,s',h=>by
  unfold uX at h
  unfold topRun
  cases ht:through t with
  |true=>rw[ht] at h;cases h;rfl
  |false=>
   rw[ht] at h
   cases hk:stepOk n₀ ann t with
   |false=>rw[hk] at h;cases h
   |true=>
    rw[hk] at h
    dsimp only at h ⊢
    cases hb:Nat.ble s.toks 1000000 with
    |false=>rw[hb] at h;cases h
    |true=>
     rw[hb] at h
     dsimp only at h
     cases hs:stepT (denote tb) p w s t with
     |none=>rw[hs] at h;cases h
     |some x=>
      obtain⟨s1,t1⟩:=x
      rw[hs] at h
      rw[stepT_spec hs]
      exact s9 n s1 t1 h
def Ck(st:SharedT->Thread->Option (SharedT×Thread))(th:Thread->Bool)(ok:Thread->Bool)(M:Nat)(h:Heap)(gs:Array GenState)(d:Drawn)(k:Nat)(os:OsState)(t:Thread):Option SharedT:=
 match O8 h.objs.toList 0 .nil with
 |some (b,n)=>uX st th ok M ⟨b,n,h.life,gs,d,k,os⟩ t
 |none=>none
theorem B6{tb:String->Option Builtin}{p:Program}{w:World}{n₀:Nat}{ann:Option Value}{M:Nat}{h:Heap}{gs:Array GenState}{d:Drawn}{k:Nat}{os:OsState}{t:Thread}{s':SharedT}
  (e:Ck (stepT (denote tb) p w) through (stepOk n₀ ann) M h gs d k os t=some s'):topRun tb p w n₀ ann M ⟨h,gs,d,k,os⟩ t=some s'.abs:=by
 unfold Ck at e
 cases q:O8 h.objs.toList 0 .nil with
 |none=>rw[q] at e;cases e
 |some x=>
  obtain⟨b,n⟩:=x
  rw[q] at e
  have:=s9 M _ _ e
  unfold SharedT.abs at this
  dsimp only at this
  rw[Hw q] at this
  exact this
theorem Kw{p q:Program}{loose:List Str}{Xt:Shared->Bool}{α:Type}{Yf:Shared->α}{Ya:World->α}{N:Nat}{g0:Bool}{HZ:Params->Heap}{gs₀:Array GenState}{d₀:Drawn}{k₀:Nat}{m₀:Nat}{ann:Option Value}{M:Nat}
  (open_:∀w:World,(fencedOpening treeTable p w N).map (fun s=>(s.heap,s.gens,s.drawn,s.toks))=some (HZ w.params,gs₀,d₀,k₀))
  (size:∀w:World,((HZ w.params).isNs mainGlobals&&gs₀.size==0,(HZ w.params).objs.size,(HZ w.params).nsMap mainGlobals "__annotations__")=(true,m₀,ann)) (le:Nat.ble M N=true)
  (run:∀(w:World) (os:OsState),(Ck (stepT (denote treeTable) p w) through (stepOk m₀ ann) M (HZ w.params) gs₀ d₀ k₀ os (topStub p)).map (fun s=>
    ((staticsOk (importedModules p.main.body) (HZ w.params) s.abs.heap&&namesBound p s.abs.heap&&gensDone s.abs&&laidKept (HZ w.params) s.abs.heap),openSeen q loose (importedModules p.main.body) Xt g0 s.abs,Yf s.abs))=some (true,openGood q loose,Ya w)):
  LeftO p q loose Xt Yf Ya N g0:=fun w=>by
 obtain⟨⟨h,gs,d,k,os⟩,e,e'⟩:=map_eq_some_iff.mp (open_ w)
 obtain⟨rfl,rfl,rfl,rfl⟩:h=HZ w.params/\gs=gs₀/\d=d₀/\k=k₀:=by simpa using e'
 obtain⟨z1,z2,z3⟩:_/\_/\_:=by simpa only[Prod.mk.injEq] using size w
 obtain⟨s',r,l⟩:=map_eq_some_iff.mp (run w os)
 obtain⟨l1,l2,l3⟩:_/\_/\_:=by simpa only[Prod.mk.injEq] using l
 have r:=topRun_mono (N-M) _ _ _ _ (B6 r)
 rw[show M+(N-M)=N by have:=Nat.le_of_ble_eq_true le;ac_rfl] at r
 have t:topFrom treeTable p w N ⟨HZ w.params,gs,d,k,os⟩=some s'.abs:=by
  unfold topFrom
  dsimp only
  rw[z1,z2,z3,r]
  show (match staticsOk (importedModules p.main.body) (HZ w.params) s'.abs.heap&&namesBound p s'.abs.heap&&gensDone s'.abs&&laidKept (HZ w.params) s'.abs.heap with | true=>_ | false=>_)=_
  rw[l1]
 unfold openEnds
 rw[e]
 show (topFrom treeTable p w N _).map _=_
 rw[t]
 exact congrArg some (Prod.ext l2 l3)
end Hd
namespace Lw
open L2 Z
theorem law_start{K:W.Frag}{H:Hp}{a:Addr}{ns:List Int}(hl:ns.length<=63)(hO:JV H)(hS:gM K H a (ns.map V.int)):low K spLaw [.ref a] H (fun v _=>v=.bl true) (fun _ _ _=>False):=
 Er (fun Q q=>⟨ns,rfl,hl,q⟩) hO (fun P q z=>nomatch z.1) hS
theorem xH{us:List Value}(h:us.length=1):∃a0,us=[a0]:=by
 cases us with
 |nil=>cases h
 |cons a r=>obtain⟨rfl⟩:=List.length_eq_zero_iff.mp (Nat.succ.inj h);exact⟨a,rfl⟩
theorem Ai{us:List Value}(h:us.length=2):∃a0 a1,us=[a0,a1]:=by
 cases us with
 |nil=>cases h
 |cons a r=>obtain⟨a1,rfl⟩:=xH (Nat.succ.inj h);exact⟨a,a1,rfl⟩
theorem O6{us:List Value}(h:us.length=3):∃a0 a1 a2,us=[a0,a1,a2]:=by
 cases us with
 |nil=>cases h
 |cons a r=>obtain⟨a1,a2,rfl⟩:=Ai (Nat.succ.inj h);exact⟨a,a1,a2,rfl⟩
theorem Qn{us:List Value}(h:us.length=4):∃a0 a1 a2 a3,us=[a0,a1,a2,a3]:=by
 cases us with
 |nil=>cases h
 |cons a r=>obtain⟨a1,a2,a3,rfl⟩:=O6 (Nat.succ.inj h);exact⟨a,a1,a2,a3,rfl⟩
theorem SH{us:List Value}(h:us.length=5):∃a0 a1 a2 a3 a4,us=[a0,a1,a2,a3,a4]:=by
 cases us with
 |nil=>cases h
 |cons a r=>obtain⟨a1,a2,a3,a4,rfl⟩:=Qn (Nat.succ.inj h);exact⟨a,a1,a2,a3,a4,rfl⟩
theorem O0{l:W.OpenLaw}{w:World}{K:W.Frag}{h:Heap}{mg:Str->Option Value}{fa:Addr}(X:K.In h)(G:h.Ns mainGlobals mg)(hfa:mg "law" = some (.ref fa))
  {C:Addr}
  {f0:Addr} {od0 an0:Option Addr} {sl0:Array (Option Value)} {oc0 kV0 dc0 pm0 cd0 ct0:Value}
  {f1:Addr} {od1 an1:Option Addr} {sl1:Array (Option Value)} {oc1 kV1 dc1 pm1 cd1 ct1:Value}
  {f2:Addr} {od2 an2:Option Addr} {sl2:Array (Option Value)} {oc2 kV2 dc2 pm2 cd2 ct2:Value}
  {f3:Addr} {od3 an3:Option Addr} {sl3:Array (Option Value)} {oc3 kV3 dc3 pm3 cd3 ct3:Value}
  {f4:Addr} {od4 an4:Option Addr} {sl4:Array (Option Value)} {oc4 kV4 dc4 pm4 cd4 ct4:Value}
  {f5:Addr} {od5 an5:Option Addr} {sl5:Array (Option Value)} {oc5 kV5 dc5 pm5 cd5 ct5:Value}
  {f6:Addr} {od6 an6:Option Addr} {sl6:Array (Option Value)} {oc6 kV6 dc6 pm6 cd6 ct6:Value}
  {f7:Addr} {od7 an7:Option Addr} {sl7:Array (Option Value)} {oc7 kV7 dc7 pm7 cd7 ct7:Value}
  {f8:Addr} {od8 an8:Option Addr} {sl8:Array (Option Value)} {oc8 kV8 dc8 pm8 cd8 ct8:Value}
  {f9:Addr} {od9 an9:Option Addr} {sl9:Array (Option Value)} {oc9 kV9 dc9 pm9 cd9 ct9:Value}
  {f10:Addr} {od10 an10:Option Addr} {sl10:Array (Option Value)} {oc10 kV10 dc10 pm10 cd10 ct10:Value}
  {f11:Addr} {od11 an11:Option Addr} {sl11:Array (Option Value)} {oc11 kV11 dc11 pm11 cd11 ct11:Value}
  {f12:Addr} {od12 an12:Option Addr} {sl12:Array (Option Value)} {oc12 kV12 dc12 pm12 cd12 ct12:Value}
  {f13:Addr} {od13 an13:Option Addr} {sl13:Array (Option Value)} {oc13 kV13 dc13 pm13 cd13 ct13:Value}
  {f14:Addr} {od14 an14:Option Addr} {sl14:Array (Option Value)} {oc14 kV14 dc14 pm14 cd14 ct14:Value}
  {f15:Addr} {od15 an15:Option Addr} {sl15:Array (Option Value)} {oc15 kV15 dc15 pm15 cd15 ct15:Value}
  {f16:Addr} {od16 an16:Option Addr} {sl16:Array (Option Value)} {oc16 kV16 dc16 pm16 cd16 ct16:Value}
  {f17:Addr} {od17 an17:Option Addr} {sl17:Array (Option Value)} {oc17 kV17 dc17 pm17 cd17 ct17:Value}
  {f18:Addr} {od18 an18:Option Addr} {sl18:Array (Option Value)} {oc18 kV18 dc18 pm18 cd18 ct18:Value}
  {f19:Addr} {od19 an19:Option Addr} {sl19:Array (Option Value)} {oc19 kV19 dc19 pm19 cd19 ct19:Value}
  {f20:Addr} {od20 an20:Option Addr} {sl20:Array (Option Value)} {oc20 kV20 dc20 pm20 cd20 ct20:Value}
  {f21:Addr} {od21 an21:Option Addr} {sl21:Array (Option Value)} {oc21 kV21 dc21 pm21 cd21 ct21:Value}
  {f22:Addr} {od22 an22:Option Addr} {sl22:Array (Option Value)} {oc22 kV22 dc22 pm22 cd22 ct22:Value}
  {f23:Addr} {od23 an23:Option Addr} {sl23:Array (Option Value)} {oc23 kV23 dc23 pm23 cd23 ct23:Value}
  {f24:Addr} {od24 an24:Option Addr} {sl24:Array (Option Value)} {oc24 kV24 dc24 pm24 cd24 ct24:Value}
  {f25:Addr} {od25 an25:Option Addr} {sl25:Array (Option Value)} {oc25 kV25 dc25 pm25 cd25 ct25:Value}
  {f26:Addr} {od26 an26:Option Addr} {sl26:Array (Option Value)} {oc26 kV26 dc26 pm26 cd26 ct26:Value}
  {f27:Addr} {od27 an27:Option Addr} {sl27:Array (Option Value)} {oc27 kV27 dc27 pm27 cd27 ct27:Value}
  {f28:Addr} {od28 an28:Option Addr} {sl28:Array (Option Value)} {oc28 kV28 dc28 pm28 cd28 ct28:Value}
  {f29:Addr} {od29 an29:Option Addr} {sl29:Array (Option Value)} {oc29 kV29 dc29 pm29 cd29 ct29:Value}
  {f30:Addr} {od30 an30:Option Addr} {sl30:Array (Option Value)} {oc30 kV30 dc30 pm30 cd30 ct30:Value}
  {f31:Addr} {od31 an31:Option Addr} {sl31:Array (Option Value)} {oc31 kV31 dc31 pm31 cd31 ct31:Value}
  {f32:Addr} {od32 an32:Option Addr} {sl32:Array (Option Value)} {oc32 kV32 dc32 pm32 cd32 ct32:Value}
  {f33:Addr} {od33 an33:Option Addr} {sl33:Array (Option Value)} {oc33 kV33 dc33 pm33 cd33 ct33:Value}
  {f34:Addr} {od34 an34:Option Addr} {sl34:Array (Option Value)} {oc34 kV34 dc34 pm34 cd34 ct34:Value}
  {f35:Addr} {od35 an35:Option Addr} {sl35:Array (Option Value)} {oc35 kV35 dc35 pm35 cd35 ct35:Value}
  {f36:Addr} {od36 an36:Option Addr} {sl36:Array (Option Value)} {oc36 kV36 dc36 pm36 cd36 ct36:Value}
  {f37:Addr} {od37 an37:Option Addr} {sl37:Array (Option Value)} {oc37 kV37 dc37 pm37 cd37 ct37:Value}
  {f38:Addr} {od38 an38:Option Addr} {sl38:Array (Option Value)} {oc38 kV38 dc38 pm38 cd38 ct38:Value}
  {f39:Addr} {od39 an39:Option Addr} {sl39:Array (Option Value)} {oc39 kV39 dc39 pm39 cd39 ct39:Value}
  {f40:Addr} {od40 an40:Option Addr} {sl40:Array (Option Value)} {oc40 kV40 dc40 pm40 cd40 ct40:Value}
  {f41:Addr} {od41 an41:Option Addr} {sl41:Array (Option Value)} {oc41 kV41 dc41 pm41 cd41 ct41:Value}
  {f42:Addr} {od42 an42:Option Addr} {sl42:Array (Option Value)} {oc42 kV42 dc42 pm42 cd42 ct42:Value}
  {f43:Addr} {od43 an43:Option Addr} {sl43:Array (Option Value)} {oc43 kV43 dc43 pm43 cd43 ct43:Value}
  {f44:Addr} {od44 an44:Option Addr} {sl44:Array (Option Value)} {oc44 kV44 dc44 pm44 cd44 ct44:Value}
  {f45:Addr} {od45 an45:Option Addr} {sl45:Array (Option Value)} {oc45 kV45 dc45 pm45 cd45 ct45:Value}
  {t_FEWEST_DIRECTIONS:Tok}
  {t_MOST_DIRECTIONS:Tok}
  {t_MOST_BANDS:Tok}
  {t_LARGEST_PART:Tok}
  (aC:W.nsIn K mainGlobals "Sides" = some (some (.ref C)))
  (a0:W.findIn K (.ref C) "__init__" = some (some (.ref f0))) (i0:W.isFn K (.ref f0)=true)
  (l0:K.lookup f0=some ⟨oc0,od0,.func (W.fnOf "__init__" "Sides.__init__" (aY (cG (top 38) 0)) (aX (cG (top 38) 0)) (aH (cG (top 38) 0)) .none kV0 dc0 pm0 an0 cd0 ct0),sl0⟩) (c0:W.codeIn K cd0 "Sides.__init__" = true) (k0:W.keepIn K (.ref f0)=true)
  (a1:W.findIn K (.ref C) "many" = some (some (.ref f1))) (i1:W.isFn K (.ref f1)=true)
  (l1:K.lookup f1=some ⟨oc1,od1,.func (W.fnOf "many" "Sides.many" (aY (cG (top 38) 1)) (aX (cG (top 38) 1)) (aH (cG (top 38) 1)) .none kV1 dc1 pm1 an1 cd1 ct1),sl1⟩) (c1:W.codeIn K cd1 "Sides.many" = true) (k1:W.keepIn K (.ref f1)=true)
  (a2:W.findIn K (.ref C) "kind" = some (some (.ref f2))) (i2:W.isFn K (.ref f2)=true)
  (l2:K.lookup f2=some ⟨oc2,od2,.func (W.fnOf "kind" "Sides.kind" (aY (cG (top 38) 2)) (aX (cG (top 38) 2)) (aH (cG (top 38) 2)) .none kV2 dc2 pm2 an2 cd2 ct2),sl2⟩) (c2:W.codeIn K cd2 "Sides.kind" = true) (k2:W.keepIn K (.ref f2)=true)
  (a3:W.findIn K (.ref C) "pairs" = some (some (.ref f3))) (i3:W.isFn K (.ref f3)=true)
  (l3:K.lookup f3=some ⟨oc3,od3,.func (W.fnOf "pairs" "Sides.pairs" (aY (cG (top 38) 4)) (aX (cG (top 38) 4)) (aH (cG (top 38) 4)) .none kV3 dc3 pm3 an3 cd3 ct3),sl3⟩) (c3:W.codeIn K cd3 "Sides.pairs" = true) (k3:W.keepIn K (.ref f3)=true)
  (pg:W.plainGet K C Str.empty=true) (hd:W.hasDictIn K C=true) (po:W.plainOver K C=true) (sa:W.findIn K (.ref C) "__setattr__" = some (some (.builtin "object.__setattr__"))) (mk:W.makesIn K C=true) (kc:W.keepIn K (.ref C)=true)
  (n_kinds:W.findIn K (.ref C) "kinds" = some none)
  (n_vectors:W.findIn K (.ref C) "vectors" = some none)
  (a4:W.nsIn K mainGlobals "with_band" = some (some (.ref f4)))
  (l4:K.lookup f4=some ⟨oc4,od4,.func (W.fnOf "with_band" "with_band" (aY (top 7)) (aX (top 7)) (aH (top 7)) .none kV4 dc4 pm4 an4 cd4 ct4),sl4⟩) (c4:W.codeIn K cd4 "with_band" = true) (k4:W.keepIn K (.ref f4)=true)
  (a5:W.nsIn K mainGlobals "belows" = some (some (.ref f5)))
  (l5:K.lookup f5=some ⟨oc5,od5,.func (W.fnOf "belows" "belows" (aY (top 8)) (aX (top 8)) (aH (top 8)) .none kV5 dc5 pm5 an5 cd5 ct5),sl5⟩) (c5:W.codeIn K cd5 "belows" = true) (k5:W.keepIn K (.ref f5)=true)
  (a6:W.nsIn K mainGlobals "threes" = some (some (.ref f6)))
  (l6:K.lookup f6=some ⟨oc6,od6,.func (W.fnOf "threes" "threes" (aY (top 10)) (aX (top 10)) (aH (top 10)) .none kV6 dc6 pm6 an6 cd6 ct6),sl6⟩) (c6:W.codeIn K cd6 "threes" = true) (k6:W.keepIn K (.ref f6)=true)
  (a7:W.nsIn K mainGlobals "counts_as_up" = some (some (.ref f7)))
  (l7:K.lookup f7=some ⟨oc7,od7,.func (W.fnOf "counts_as_up" "counts_as_up" (aY (top 11)) (aX (top 11)) (aH (top 11)) .none kV7 dc7 pm7 an7 cd7 ct7),sl7⟩) (c7:W.codeIn K cd7 "counts_as_up" = true) (k7:W.keepIn K (.ref f7)=true)
  (a8:W.nsIn K mainGlobals "fours" = some (some (.ref f8)))
  (l8:K.lookup f8=some ⟨oc8,od8,.func (W.fnOf "fours" "fours" (aY (top 12)) (aX (top 12)) (aH (top 12)) .none kV8 dc8 pm8 an8 cd8 ct8),sl8⟩) (c8:W.codeIn K cd8 "fours" = true) (k8:W.keepIn K (.ref f8)=true)
  (a9:W.nsIn K mainGlobals "has_three_alike" = some (some (.ref f9)))
  (l9:K.lookup f9=some ⟨oc9,od9,.func (W.fnOf "has_three_alike" "has_three_alike" (aY (top 13)) (aX (top 13)) (aH (top 13)) .none kV9 dc9 pm9 an9 cd9 ct9),sl9⟩) (c9:W.codeIn K cd9 "has_three_alike" = true) (k9:W.keepIn K (.ref f9)=true)
  (a10:W.nsIn K mainGlobals "is_barred" = some (some (.ref f10)))
  (l10:K.lookup f10=some ⟨oc10,od10,.func (W.fnOf "is_barred" "is_barred" (aY (top 14)) (aX (top 14)) (aH (top 14)) .none kV10 dc10 pm10 an10 cd10 ct10),sl10⟩) (c10:W.codeIn K cd10 "is_barred" = true) (k10:W.keepIn K (.ref f10)=true)
  (a11:W.nsIn K mainGlobals "check_threes" = some (some (.ref f11)))
  (l11:K.lookup f11=some ⟨oc11,od11,.func (W.fnOf "check_threes" "check_threes" (aY (top 15)) (aX (top 15)) (aH (top 15)) .none kV11 dc11 pm11 an11 cd11 ct11),sl11⟩) (c11:W.codeIn K cd11 "check_threes" = true) (k11:W.keepIn K (.ref f11)=true)
  (a12:W.nsIn K mainGlobals "is_below" = some (some (.ref f12)))
  (l12:K.lookup f12=some ⟨oc12,od12,.func (W.fnOf "is_below" "is_below" (aY (top 16)) (aX (top 16)) (aH (top 16)) .none kV12 dc12 pm12 an12 cd12 ct12),sl12⟩) (c12:W.codeIn K cd12 "is_below" = true) (k12:W.keepIn K (.ref f12)=true)
  (a13:W.nsIn K mainGlobals "floor_by" = some (some (.ref f13)))
  (l13:K.lookup f13=some ⟨oc13,od13,.func (W.fnOf "floor_by" "floor_by" (aY (top 17)) (aX (top 17)) (aH (top 17)) .none kV13 dc13 pm13 an13 cd13 ct13),sl13⟩) (c13:W.codeIn K cd13 "floor_by" = true) (k13:W.keepIn K (.ref f13)=true)
  (a14:W.nsIn K mainGlobals "standing_up" = some (some (.ref f14)))
  (l14:K.lookup f14=some ⟨oc14,od14,.func (W.fnOf "standing_up" "standing_up" (aY (top 19)) (aX (top 19)) (aH (top 19)) .none kV14 dc14 pm14 an14 cd14 ct14),sl14⟩) (c14:W.codeIn K cd14 "standing_up" = true) (k14:W.keepIn K (.ref f14)=true)
  (a15:W.nsIn K mainGlobals "standing_down" = some (some (.ref f15)))
  (l15:K.lookup f15=some ⟨oc15,od15,.func (W.fnOf "standing_down" "standing_down" (aY (top 20)) (aX (top 20)) (aH (top 20)) .none kV15 dc15 pm15 an15 cd15 ct15),sl15⟩) (c15:W.codeIn K cd15 "standing_down" = true) (k15:W.keepIn K (.ref f15)=true)
  (a16:W.nsIn K mainGlobals "tiles_by_flip" = some (some (.ref f16)))
  (l16:K.lookup f16=some ⟨oc16,od16,.func (W.fnOf "tiles_by_flip" "tiles_by_flip" (aY (top 21)) (aX (top 21)) (aH (top 21)) .none kV16 dc16 pm16 an16 cd16 ct16),sl16⟩) (c16:W.codeIn K cd16 "tiles_by_flip" = true) (k16:W.keepIn K (.ref f16)=true)
  (a17:W.nsIn K mainGlobals "flippable" = some (some (.ref f17)))
  (l17:K.lookup f17=some ⟨oc17,od17,.func (W.fnOf "flippable" "flippable" (aY (top 22)) (aX (top 22)) (aH (top 22)) .none kV17 dc17 pm17 an17 cd17 ct17),sl17⟩) (c17:W.codeIn K cd17 "flippable" = true) (k17:W.keepIn K (.ref f17)=true)
  (a18:W.nsIn K mainGlobals "flipped" = some (some (.ref f18)))
  (l18:K.lookup f18=some ⟨oc18,od18,.func (W.fnOf "flipped" "flipped" (aY (top 23)) (aX (top 23)) (aH (top 23)) .none kV18 dc18 pm18 an18 cd18 ct18),sl18⟩) (c18:W.codeIn K cd18 "flipped" = true) (k18:W.keepIn K (.ref f18)=true)
  (a19:W.nsIn K mainGlobals "low" = some (some (.ref f19)))
  (l19:K.lookup f19=some ⟨oc19,od19,.func (W.fnOf "low" "low" (aY (top 24)) (aX (top 24)) (aH (top 24)) .none kV19 dc19 pm19 an19 cd19 ct19),sl19⟩) (c19:W.codeIn K cd19 "low" = true) (k19:W.keepIn K (.ref f19)=true)
  (a20:W.nsIn K mainGlobals "is_whole" = some (some (.ref f20)))
  (l20:K.lookup f20=some ⟨oc20,od20,.func (W.fnOf "is_whole" "is_whole" (aY (top 26)) (aX (top 26)) (aH (top 26)) .none kV20 dc20 pm20 an20 cd20 ct20),sl20⟩) (c20:W.codeIn K cd20 "is_whole" = true) (k20:W.keepIn K (.ref f20)=true)
  (a21:W.nsIn K mainGlobals "has_three_wholes" = some (some (.ref f21)))
  (l21:K.lookup f21=some ⟨oc21,od21,.func (W.fnOf "has_three_wholes" "has_three_wholes" (aY (top 32)) (aX (top 32)) (aH (top 32)) .none kV21 dc21 pm21 an21 cd21 ct21),sl21⟩) (c21:W.codeIn K cd21 "has_three_wholes" = true) (k21:W.keepIn K (.ref f21)=true)
  (a22:W.nsIn K mainGlobals "has_few_figures" = some (some (.ref f22)))
  (l22:K.lookup f22=some ⟨oc22,od22,.func (W.fnOf "has_few_figures" "has_few_figures" (aY (top 33)) (aX (top 33)) (aH (top 33)) .none kV22 dc22 pm22 an22 cd22 ct22),sl22⟩) (c22:W.codeIn K cd22 "has_few_figures" = true) (k22:W.keepIn K (.ref f22)=true)
  (a23:W.nsIn K mainGlobals "points_up" = some (some (.ref f23)))
  (l23:K.lookup f23=some ⟨oc23,od23,.func (W.fnOf "points_up" "points_up" (aY (top 34)) (aX (top 34)) (aH (top 34)) .none kV23 dc23 pm23 an23 cd23 ct23),sl23⟩) (c23:W.codeIn K cd23 "points_up" = true) (k23:W.keepIn K (.ref f23)=true)
  (a24:W.nsIn K mainGlobals "lies_left" = some (some (.ref f24)))
  (l24:K.lookup f24=some ⟨oc24,od24,.func (W.fnOf "lies_left" "lies_left" (aY (top 35)) (aX (top 35)) (aH (top 35)) .none kV24 dc24 pm24 an24 cd24 ct24),sl24⟩) (c24:W.codeIn K cd24 "lies_left" = true) (k24:W.keepIn K (.ref f24)=true)
  (a25:W.nsIn K mainGlobals "check_direction" = some (some (.ref f25)))
  (l25:K.lookup f25=some ⟨oc25,od25,.func (W.fnOf "check_direction" "check_direction" (aY (top 36)) (aX (top 36)) (aH (top 36)) .none kV25 dc25 pm25 an25 cd25 ct25),sl25⟩) (c25:W.codeIn K cd25 "check_direction" = true) (k25:W.keepIn K (.ref f25)=true)
  (a26:W.nsIn K mainGlobals "check_directions" = some (some (.ref f26)))
  (l26:K.lookup f26=some ⟨oc26,od26,.func (W.fnOf "check_directions" "check_directions" (aY (top 37)) (aX (top 37)) (aH (top 37)) .none kV26 dc26 pm26 an26 cd26 ct26),sl26⟩) (c26:W.codeIn K cd26 "check_directions" = true) (k26:W.keepIn K (.ref f26)=true)
  (a27:W.nsIn K mainGlobals "_law_cell_at" = some (some (.ref f27)))
  (l27:K.lookup f27=some ⟨oc27,od27,.func (W.fnOf "_law_cell_at" "_law_cell_at" (aY (top 40)) (aX (top 40)) (aH (top 40)) .none kV27 dc27 pm27 an27 cd27 ct27),sl27⟩) (c27:W.codeIn K cd27 "_law_cell_at" = true) (k27:W.keepIn K (.ref f27)=true)
  (a28:W.nsIn K mainGlobals "_law_whole" = some (some (.ref f28)))
  (l28:K.lookup f28=some ⟨oc28,od28,.func (W.fnOf "_law_whole" "_law_whole" (aY (top 41)) (aX (top 41)) (aH (top 41)) .none kV28 dc28 pm28 an28 cd28 ct28),sl28⟩) (c28:W.codeIn K cd28 "_law_whole" = true) (k28:W.keepIn K (.ref f28)=true)
  (a29:W.nsIn K mainGlobals "_law_wholes" = some (some (.ref f29)))
  (l29:K.lookup f29=some ⟨oc29,od29,.func (W.fnOf "_law_wholes" "_law_wholes" (aY (top 42)) (aX (top 42)) (aH (top 42)) .none kV29 dc29 pm29 an29 cd29 ct29),sl29⟩) (c29:W.codeIn K cd29 "_law_wholes" = true) (k29:W.keepIn K (.ref f29)=true)
  (a30:W.nsIn K mainGlobals "_law_bands" = some (some (.ref f30)))
  (l30:K.lookup f30=some ⟨oc30,od30,.func (W.fnOf "_law_bands" "_law_bands" (aY (top 43)) (aX (top 43)) (aH (top 43)) .none kV30 dc30 pm30 an30 cd30 ct30),sl30⟩) (c30:W.codeIn K cd30 "_law_bands" = true) (k30:W.keepIn K (.ref f30)=true)
  (a31:W.nsIn K mainGlobals "_law_pick" = some (some (.ref f31)))
  (l31:K.lookup f31=some ⟨oc31,od31,.func (W.fnOf "_law_pick" "_law_pick" (aY (top 44)) (aX (top 44)) (aH (top 44)) .none kV31 dc31 pm31 an31 cd31 ct31),sl31⟩) (c31:W.codeIn K cd31 "_law_pick" = true) (k31:W.keepIn K (.ref f31)=true)
  (a32:W.nsIn K mainGlobals "_law_exchanged" = some (some (.ref f32)))
  (l32:K.lookup f32=some ⟨oc32,od32,.func (W.fnOf "_law_exchanged" "_law_exchanged" (aY (top 45)) (aX (top 45)) (aH (top 45)) .none kV32 dc32 pm32 an32 cd32 ct32),sl32⟩) (c32:W.codeIn K cd32 "_law_exchanged" = true) (k32:W.keepIn K (.ref f32)=true)
  (a33:W.nsIn K mainGlobals "_law_row" = some (some (.ref f33)))
  (l33:K.lookup f33=some ⟨oc33,od33,.func (W.fnOf "_law_row" "_law_row" (aY (top 46)) (aX (top 46)) (aH (top 46)) .none kV33 dc33 pm33 an33 cd33 ct33),sl33⟩) (c33:W.codeIn K cd33 "_law_row" = true) (k33:W.keepIn K (.ref f33)=true)
  (a34:W.nsIn K mainGlobals "_law_floor" = some (some (.ref f34)))
  (l34:K.lookup f34=some ⟨oc34,od34,.func (W.fnOf "_law_floor" "_law_floor" (aY (top 47)) (aX (top 47)) (aH (top 47)) .none kV34 dc34 pm34 an34 cd34 ct34),sl34⟩) (c34:W.codeIn K cd34 "_law_floor" = true) (k34:W.keepIn K (.ref f34)=true)
  (a35:W.nsIn K mainGlobals "_law_many" = some (some (.ref f35)))
  (l35:K.lookup f35=some ⟨oc35,od35,.func (W.fnOf "_law_many" "_law_many" (aY (top 48)) (aX (top 48)) (aH (top 48)) .none kV35 dc35 pm35 an35 cd35 ct35),sl35⟩) (c35:W.codeIn K cd35 "_law_many" = true) (k35:W.keepIn K (.ref f35)=true)
  (a36:W.nsIn K mainGlobals "_law_sides" = some (some (.ref f36)))
  (l36:K.lookup f36=some ⟨oc36,od36,.func (W.fnOf "_law_sides" "_law_sides" (aY (top 49)) (aX (top 49)) (aH (top 49)) .none kV36 dc36 pm36 an36 cd36 ct36),sl36⟩) (c36:W.codeIn K cd36 "_law_sides" = true) (k36:W.keepIn K (.ref f36)=true)
  (a37:W.nsIn K mainGlobals "_law_threes" = some (some (.ref f37)))
  (l37:K.lookup f37=some ⟨oc37,od37,.func (W.fnOf "_law_threes" "_law_threes" (aY (top 50)) (aX (top 50)) (aH (top 50)) .none kV37 dc37 pm37 an37 cd37 ct37),sl37⟩) (c37:W.codeIn K cd37 "_law_threes" = true) (k37:W.keepIn K (.ref f37)=true)
  (a38:W.nsIn K mainGlobals "_law_belows" = some (some (.ref f38)))
  (l38:K.lookup f38=some ⟨oc38,od38,.func (W.fnOf "_law_belows" "_law_belows" (aY (top 51)) (aX (top 51)) (aH (top 51)) .none kV38 dc38 pm38 an38 cd38 ct38),sl38⟩) (c38:W.codeIn K cd38 "_law_belows" = true) (k38:W.keepIn K (.ref f38)=true)
  (a39:W.nsIn K mainGlobals "_law_up" = some (some (.ref f39)))
  (l39:K.lookup f39=some ⟨oc39,od39,.func (W.fnOf "_law_up" "_law_up" (aY (top 52)) (aX (top 52)) (aH (top 52)) .none kV39 dc39 pm39 an39 cd39 ct39),sl39⟩) (c39:W.codeIn K cd39 "_law_up" = true) (k39:W.keepIn K (.ref f39)=true)
  (a40:W.nsIn K mainGlobals "_law_kinds_of" = some (some (.ref f40)))
  (l40:K.lookup f40=some ⟨oc40,od40,.func (W.fnOf "_law_kinds_of" "_law_kinds_of" (aY (top 53)) (aX (top 53)) (aH (top 53)) .none kV40 dc40 pm40 an40 cd40 ct40),sl40⟩) (c40:W.codeIn K cd40 "_law_kinds_of" = true) (k40:W.keepIn K (.ref f40)=true)
  (a41:W.nsIn K mainGlobals "_law_is_laid" = some (some (.ref f41)))
  (l41:K.lookup f41=some ⟨oc41,od41,.func (W.fnOf "_law_is_laid" "_law_is_laid" (aY (top 54)) (aX (top 54)) (aH (top 54)) .none kV41 dc41 pm41 an41 cd41 ct41),sl41⟩) (c41:W.codeIn K cd41 "_law_is_laid" = true) (k41:W.keepIn K (.ref f41)=true)
  (a42:W.nsIn K mainGlobals "_law_pairs" = some (some (.ref f42)))
  (l42:K.lookup f42=some ⟨oc42,od42,.func (W.fnOf "_law_pairs" "_law_pairs" (aY (top 55)) (aX (top 55)) (aH (top 55)) .none kV42 dc42 pm42 an42 cd42 ct42),sl42⟩) (c42:W.codeIn K cd42 "_law_pairs" = true) (k42:W.keepIn K (.ref f42)=true)
  (a43:W.nsIn K mainGlobals "_law_down" = some (some (.ref f43)))
  (l43:K.lookup f43=some ⟨oc43,od43,.func (W.fnOf "_law_down" "_law_down" (aY (top 56)) (aX (top 56)) (aH (top 56)) .none kV43 dc43 pm43 an43 cd43 ct43),sl43⟩) (c43:W.codeIn K cd43 "_law_down" = true) (k43:W.keepIn K (.ref f43)=true)
  (a44:W.nsIn K mainGlobals "_law_one" = some (some (.ref f44)))
  (l44:K.lookup f44=some ⟨oc44,od44,.func (W.fnOf "_law_one" "_law_one" (aY (top 57)) (aX (top 57)) (aH (top 57)) .none kV44 dc44 pm44 an44 cd44 ct44),sl44⟩) (c44:W.codeIn K cd44 "_law_one" = true) (k44:W.keepIn K (.ref f44)=true)
  (a45:W.nsIn K mainGlobals "law" = some (some (.ref f45)))
  (l45:K.lookup f45=some ⟨oc45,od45,.func (W.fnOf "law" "law" (aY (top 58)) (aX (top 58)) (aH (top 58)) .none kV45 dc45 pm45 an45 cd45 ct45),sl45⟩) (c45:W.codeIn K cd45 "law" = true) (k45:W.keepIn K (.ref f45)=true)
  (z_FEWEST_DIRECTIONS:W.nsIn K mainGlobals "FEWEST_DIRECTIONS" = some (some (.int 2 t_FEWEST_DIRECTIONS)))
  (z_MOST_DIRECTIONS:W.nsIn K mainGlobals "MOST_DIRECTIONS" = some (some (.int 6 t_MOST_DIRECTIONS)))
  (z_MOST_BANDS:W.nsIn K mainGlobals "MOST_BANDS" = some (some (.int 12 t_MOST_BANDS)))
  (z_LARGEST_PART:W.nsIn K mainGlobals "LARGEST_PART" = some (some (.int 999999999999 t_LARGEST_PART)))
  (o_ValueError:W.nsIn K mainGlobals "ValueError" = some none)
  (o_abs:W.nsIn K mainGlobals "abs" = some none)
  (o_all:W.nsIn K mainGlobals "all" = some none)
  (o_bool:W.nsIn K mainGlobals "bool" = some none)
  (o_enumerate:W.nsIn K mainGlobals "enumerate" = some none)
  (o_int:W.nsIn K mainGlobals "int" = some none)
  (o_isinstance:W.nsIn K mainGlobals "isinstance" = some none)
  (o_len:W.nsIn K mainGlobals "len" = some none)
  (o_list:W.nsIn K mainGlobals "list" = some none)
  (o_min:W.nsIn K mainGlobals "min" = some none)
  (o_range:W.nsIn K mainGlobals "range" = some none)
  (o_sorted:W.nsIn K mainGlobals "sorted" = some none)
  (o_sum:W.nsIn K mainGlobals "sum" = some none)
  (o_tuple:W.nsIn K mainGlobals "tuple" = some none)
  (o_zip:W.nsIn K mainGlobals "zip" = some none):
  ∃fd:FuncData,(∀(s:Shared) (v:Value),BindsTo s fd ⟨[v],[]⟩ [("_law_script",v)]) /\ ∀base:Heap,K.In base->base.Ns mainGlobals mg->FnOk l.prog w K mg base DX 9 fa fd ["_law_script"] ((low K spLaw)):=by
 have e:=hfa.symm.trans (W.mg_of X G a45)
 cases e
 have F0:=bP (st:=(cG (top 38) 0)) l0 c0 k0
 have b0:=F0.binds (ps:=["self", "directions"]) fun _ _ _ _ _ _ us hl=>by obtain⟨_,_,rfl⟩:=Ai hl;rfl
 have m0:MAt K C "__init__" "Sides.__init__" (cG (top 38) 0) ["self", "directions"]:=⟨_,_,⟨a0,i0,k0⟩,F0,b0⟩
 have F1:=bP (st:=(cG (top 38) 1)) l1 c1 k1
 have b1:=F1.binds (ps:=["self"]) fun _ _ _ _ _ _ us hl=>by obtain⟨_,rfl⟩:=xH hl;rfl
 have m1:MAt K C "many" "Sides.many" (cG (top 38) 1) ["self"]:=⟨_,_,⟨a1,i1,k1⟩,F1,b1⟩
 have F2:=bP (st:=(cG (top 38) 2)) l2 c2 k2
 have b2:=F2.binds (ps:=["self", "band"]) fun _ _ _ _ _ _ us hl=>by obtain⟨_,_,rfl⟩:=Ai hl;rfl
 have m2:MAt K C "kind" "Sides.kind" (cG (top 38) 2) ["self", "band"]:=⟨_,_,⟨a2,i2,k2⟩,F2,b2⟩
 have F3:=bP (st:=(cG (top 38) 4)) l3 c3 k3
 have b3:=F3.binds (ps:=["self"]) fun _ _ _ _ _ _ us hl=>by obtain⟨_,rfl⟩:=xH hl;rfl
 have m3:MAt K C "pairs" "Sides.pairs" (cG (top 38) 4) ["self"]:=⟨_,_,⟨a3,i3,k3⟩,F3,b3⟩
 have F4:=bP (st:=(top 7)) l4 c4 k4
 have b4:=F4.binds (ps:=["below", "band"]) fun _ _ _ _ _ _ us hl=>by obtain⟨_,_,rfl⟩:=Ai hl;rfl
 have m4:At K mg "with_band" "with_band" (top 7) ["below", "band"]:=⟨_,_,W.mg_of X G a4,F4,b4⟩
 have F5:=bP (st:=(top 8)) l5 c5 k5
 have b5:=F5.binds (ps:=["floor"]) fun _ _ _ _ _ _ us hl=>by obtain⟨_,rfl⟩:=xH hl;rfl
 have m5:At K mg "belows" "belows" (top 8) ["floor"]:=⟨_,_,W.mg_of X G a5,F5,b5⟩
 have F6:=bP (st:=(top 10)) l6 c6 k6
 have b6:=F6.binds (ps:=["sides"]) fun _ _ _ _ _ _ us hl=>by obtain⟨_,rfl⟩:=xH hl;rfl
 have m6:At K mg "threes" "threes" (top 10) ["sides"]:=⟨_,_,W.mg_of X G a6,F6,b6⟩
 have F7:=bP (st:=(top 11)) l7 c7 k7
 have b7:=F7.binds (ps:=["sides", "ups", "three"]) fun _ _ _ _ _ _ us hl=>by obtain⟨_,_,_,rfl⟩:=O6 hl;rfl
 have m7:At K mg "counts_as_up" "counts_as_up" (top 11) ["sides", "ups", "three"]:=⟨_,_,W.mg_of X G a7,F7,b7⟩
 have F8:=bP (st:=(top 12)) l8 c8 k8
 have b8:=F8.binds (ps:=["many"]) fun _ _ _ _ _ _ us hl=>by obtain⟨_,rfl⟩:=xH hl;rfl
 have m8:At K mg "fours" "fours" (top 12) ["many"]:=⟨_,_,W.mg_of X G a8,F8,b8⟩
 have F9:=bP (st:=(top 13)) l9 c9 k9
 have b9:=F9.binds (ps:=["sides", "four"]) fun _ _ _ _ _ _ us hl=>by obtain⟨_,_,rfl⟩:=Ai hl;rfl
 have m9:At K mg "has_three_alike" "has_three_alike" (top 13) ["sides", "four"]:=⟨_,_,W.mg_of X G a9,F9,b9⟩
 have F10:=bP (st:=(top 14)) l10 c10 k10
 have b10:=F10.binds (ps:=["sides", "ups", "four"]) fun _ _ _ _ _ _ us hl=>by obtain⟨_,_,_,rfl⟩:=O6 hl;rfl
 have m10:At K mg "is_barred" "is_barred" (top 14) ["sides", "ups", "four"]:=⟨_,_,W.mg_of X G a10,F10,b10⟩
 have F11:=bP (st:=(top 15)) l11 c11 k11
 have b11:=F11.binds (ps:=["sides", "ups"]) fun _ _ _ _ _ _ us hl=>by obtain⟨_,_,rfl⟩:=Ai hl;rfl
 have m11:At K mg "check_threes" "check_threes" (top 15) ["sides", "ups"]:=⟨_,_,W.mg_of X G a11,F11,b11⟩
 have F12:=bP (st:=(top 16)) l12 c12 k12
 have b12:=F12.binds (ps:=["sides", "ups", "z", "x", "y"]) fun _ _ _ _ _ _ us hl=>by obtain⟨_,_,_,_,_,rfl⟩:=SH hl;rfl
 have m12:At K mg "is_below" "is_below" (top 16) ["sides", "ups", "z", "x", "y"]:=⟨_,_,W.mg_of X G a12,F12,b12⟩
 have F13:=bP (st:=(top 17)) l13 c13 k13
 have b13:=F13.binds (ps:=["sides", "some"]) fun _ _ _ _ _ _ us hl=>by obtain⟨_,_,rfl⟩:=Ai hl;rfl
 have m13:At K mg "floor_by" "floor_by" (top 17) ["sides", "some"]:=⟨_,_,W.mg_of X G a13,F13,b13⟩
 have F14:=bP (st:=(top 19)) l14 c14 k14
 have b14:=F14.binds (ps:=["a", "b", "c", "some"]) fun _ _ _ _ _ _ us hl=>by obtain⟨_,_,_,_,rfl⟩:=Qn hl;rfl
 have m14:At K mg "standing_up" "standing_up" (top 19) ["a", "b", "c", "some"]:=⟨_,_,W.mg_of X G a14,F14,b14⟩
 have F15:=bP (st:=(top 20)) l15 c15 k15
 have b15:=F15.binds (ps:=["a", "b", "c", "some"]) fun _ _ _ _ _ _ us hl=>by obtain⟨_,_,_,_,rfl⟩:=Qn hl;rfl
 have m15:At K mg "standing_down" "standing_down" (top 20) ["a", "b", "c", "some"]:=⟨_,_,W.mg_of X G a15,F15,b15⟩
 have F16:=bP (st:=(top 21)) l16 c16 k16
 have b16:=F16.binds (ps:=["below", "three"]) fun _ _ _ _ _ _ us hl=>by obtain⟨_,_,rfl⟩:=Ai hl;rfl
 have m16:At K mg "tiles_by_flip" "tiles_by_flip" (top 21) ["below", "three"]:=⟨_,_,W.mg_of X G a16,F16,b16⟩
 have F17:=bP (st:=(top 22)) l17 c17 k17
 have b17:=F17.binds (ps:=["sides", "floor"]) fun _ _ _ _ _ _ us hl=>by obtain⟨_,_,rfl⟩:=Ai hl;rfl
 have m17:At K mg "flippable" "flippable" (top 22) ["sides", "floor"]:=⟨_,_,W.mg_of X G a17,F17,b17⟩
 have F18:=bP (st:=(top 23)) l18 c18 k18
 have b18:=F18.binds (ps:=["sides", "floor", "three"]) fun _ _ _ _ _ _ us hl=>by obtain⟨_,_,_,rfl⟩:=O6 hl;rfl
 have m18:At K mg "flipped" "flipped" (top 23) ["sides", "floor", "three"]:=⟨_,_,W.mg_of X G a18,F18,b18⟩
 have F19:=bP (st:=(top 24)) l19 c19 k19
 have b19:=F19.binds (ps:=["sides"]) fun _ _ _ _ _ _ us hl=>by obtain⟨_,rfl⟩:=xH hl;rfl
 have m19:At K mg "low" "low" (top 24) ["sides"]:=⟨_,_,W.mg_of X G a19,F19,b19⟩
 have F20:=bP (st:=(top 26)) l20 c20 k20
 have b20:=F20.binds (ps:=["thing"]) fun _ _ _ _ _ _ us hl=>by obtain⟨_,rfl⟩:=xH hl;rfl
 have m20:At K mg "is_whole" "is_whole" (top 26) ["thing"]:=⟨_,_,W.mg_of X G a20,F20,b20⟩
 have F21:=bP (st:=(top 32)) l21 c21 k21
 have b21:=F21.binds (ps:=["direction"]) fun _ _ _ _ _ _ us hl=>by obtain⟨_,rfl⟩:=xH hl;rfl
 have m21:At K mg "has_three_wholes" "has_three_wholes" (top 32) ["direction"]:=⟨_,_,W.mg_of X G a21,F21,b21⟩
 have F22:=bP (st:=(top 33)) l22 c22 k22
 have b22:=F22.binds (ps:=["direction"]) fun _ _ _ _ _ _ us hl=>by obtain⟨_,rfl⟩:=xH hl;rfl
 have m22:At K mg "has_few_figures" "has_few_figures" (top 33) ["direction"]:=⟨_,_,W.mg_of X G a22,F22,b22⟩
 have F23:=bP (st:=(top 34)) l23 c23 k23
 have b23:=F23.binds (ps:=["direction"]) fun _ _ _ _ _ _ us hl=>by obtain⟨_,rfl⟩:=xH hl;rfl
 have m23:At K mg "points_up" "points_up" (top 34) ["direction"]:=⟨_,_,W.mg_of X G a23,F23,b23⟩
 have F24:=bP (st:=(top 35)) l24 c24 k24
 have b24:=F24.binds (ps:=["direction", "ahead"]) fun _ _ _ _ _ _ us hl=>by obtain⟨_,_,rfl⟩:=Ai hl;rfl
 have m24:At K mg "lies_left" "lies_left" (top 35) ["direction", "ahead"]:=⟨_,_,W.mg_of X G a24,F24,b24⟩
 have F25:=bP (st:=(top 36)) l25 c25 k25
 have b25:=F25.binds (ps:=["direction"]) fun _ _ _ _ _ _ us hl=>by obtain⟨_,rfl⟩:=xH hl;rfl
 have m25:At K mg "check_direction" "check_direction" (top 36) ["direction"]:=⟨_,_,W.mg_of X G a25,F25,b25⟩
 have F26:=bP (st:=(top 37)) l26 c26 k26
 have b26:=F26.binds (ps:=["directions"]) fun _ _ _ _ _ _ us hl=>by obtain⟨_,rfl⟩:=xH hl;rfl
 have m26:At K mg "check_directions" "check_directions" (top 37) ["directions"]:=⟨_,_,W.mg_of X G a26,F26,b26⟩
 have F27:=bP (st:=(top 40)) l27 c27 k27
 have b27:=F27.binds (ps:=["_law_script", "_law_k"]) fun _ _ _ _ _ _ us hl=>by obtain⟨_,_,rfl⟩:=Ai hl;rfl
 have m27:At K mg "_law_cell_at" "_law_cell_at" (top 40) ["_law_script", "_law_k"]:=⟨_,_,W.mg_of X G a27,F27,b27⟩
 have F28:=bP (st:=(top 41)) l28 c28 k28
 have b28:=F28.binds (ps:=["_law_found"]) fun _ _ _ _ _ _ us hl=>by obtain⟨_,rfl⟩:=xH hl;rfl
 have m28:At K mg "_law_whole" "_law_whole" (top 41) ["_law_found"]:=⟨_,_,W.mg_of X G a28,F28,b28⟩
 have F29:=bP (st:=(top 42)) l29 c29 k29
 have b29:=F29.binds (ps:=["_law_found"]) fun _ _ _ _ _ _ us hl=>by obtain⟨_,rfl⟩:=xH hl;rfl
 have m29:At K mg "_law_wholes" "_law_wholes" (top 42) ["_law_found"]:=⟨_,_,W.mg_of X G a29,F29,b29⟩
 have F30:=bP (st:=(top 43)) l30 c30 k30
 have b30:=F30.binds (ps:=["_law_cell", "_law_most"]) fun _ _ _ _ _ _ us hl=>by obtain⟨_,_,rfl⟩:=Ai hl;rfl
 have m30:At K mg "_law_bands" "_law_bands" (top 43) ["_law_cell", "_law_most"]:=⟨_,_,W.mg_of X G a30,F30,b30⟩
 have F31:=bP (st:=(top 44)) l31 c31 k31
 have b31:=F31.binds (ps:=["_law_cell", "_law_step", "_law_many_here"]) fun _ _ _ _ _ _ us hl=>by obtain⟨_,_,_,rfl⟩:=O6 hl;rfl
 have m31:At K mg "_law_pick" "_law_pick" (top 44) ["_law_cell", "_law_step", "_law_many_here"]:=⟨_,_,W.mg_of X G a31,F31,b31⟩
 have F32:=bP (st:=(top 45)) l32 c32 k32
 have b32:=F32.binds (ps:=["_law_path", "_law_p"]) fun _ _ _ _ _ _ us hl=>by obtain⟨_,_,rfl⟩:=Ai hl;rfl
 have m32:At K mg "_law_exchanged" "_law_exchanged" (top 45) ["_law_path", "_law_p"]:=⟨_,_,W.mg_of X G a32,F32,b32⟩
 have F33:=bP (st:=(top 46)) l33 c33 k33
 have b33:=F33.binds (ps:=["_law_bands_here", "_law_cell"]) fun _ _ _ _ _ _ us hl=>by obtain⟨_,_,rfl⟩:=Ai hl;rfl
 have m33:At K mg "_law_row" "_law_row" (top 46) ["_law_bands_here", "_law_cell"]:=⟨_,_,W.mg_of X G a33,F33,b33⟩
 have F34:=bP (st:=(top 47)) l34 c34 k34
 have b34:=F34.binds (ps:=["_law_bands_here", "_law_row_here"]) fun _ _ _ _ _ _ us hl=>by obtain⟨_,_,rfl⟩:=Ai hl;rfl
 have m34:At K mg "_law_floor" "_law_floor" (top 47) ["_law_bands_here", "_law_row_here"]:=⟨_,_,W.mg_of X G a34,F34,b34⟩
 have F35:=bP (st:=(top 48)) l35 c35 k35
 have b35:=F35.binds (ps:=["_law_bands_here", "_law_kind"]) fun _ _ _ _ _ _ us hl=>by obtain⟨_,_,rfl⟩:=Ai hl;rfl
 have m35:At K mg "_law_many" "_law_many" (top 48) ["_law_bands_here", "_law_kind"]:=⟨_,_,W.mg_of X G a35,F35,b35⟩
 have F36:=bP (st:=(top 49)) l36 c36 k36
 have b36:=F36.binds (ps:=["_law_bands_here"]) fun _ _ _ _ _ _ us hl=>by obtain⟨_,rfl⟩:=xH hl;rfl
 have m36:At K mg "_law_sides" "_law_sides" (top 49) ["_law_bands_here"]:=⟨_,_,W.mg_of X G a36,F36,b36⟩
 have F37:=bP (st:=(top 50)) l37 c37 k37
 have b37:=F37.binds (ps:=["_law_bands_here"]) fun _ _ _ _ _ _ us hl=>by obtain⟨_,rfl⟩:=xH hl;rfl
 have m37:At K mg "_law_threes" "_law_threes" (top 50) ["_law_bands_here"]:=⟨_,_,W.mg_of X G a37,F37,b37⟩
 have F38:=bP (st:=(top 51)) l38 c38 k38
 have b38:=F38.binds (ps:=["_law_tiles"]) fun _ _ _ _ _ _ us hl=>by obtain⟨_,rfl⟩:=xH hl;rfl
 have m38:At K mg "_law_belows" "_law_belows" (top 51) ["_law_tiles"]:=⟨_,_,W.mg_of X G a38,F38,b38⟩
 have F39:=bP (st:=(top 52)) l39 c39 k39
 have b39:=F39.binds (ps:=["_law_every", "_law_tiles"]) fun _ _ _ _ _ _ us hl=>by obtain⟨_,_,rfl⟩:=Ai hl;rfl
 have m39:At K mg "_law_up" "_law_up" (top 52) ["_law_every", "_law_tiles"]:=⟨_,_,W.mg_of X G a39,F39,b39⟩
 have F40:=bP (st:=(top 53)) l40 c40 k40
 have b40:=F40.binds (ps:=["_law_tiles"]) fun _ _ _ _ _ _ us hl=>by obtain⟨_,rfl⟩:=xH hl;rfl
 have m40:At K mg "_law_kinds_of" "_law_kinds_of" (top 53) ["_law_tiles"]:=⟨_,_,W.mg_of X G a40,F40,b40⟩
 have F41:=bP (st:=(top 54)) l41 c41 k41
 have b41:=F41.binds (ps:=["_law_bands_here", "_law_tiles"]) fun _ _ _ _ _ _ us hl=>by obtain⟨_,_,rfl⟩:=Ai hl;rfl
 have m41:At K mg "_law_is_laid" "_law_is_laid" (top 54) ["_law_bands_here", "_law_tiles"]:=⟨_,_,W.mg_of X G a41,F41,b41⟩
 have F42:=bP (st:=(top 55)) l42 c42 k42
 have b42:=F42.binds (ps:=["_law_bands_here"]) fun _ _ _ _ _ _ us hl=>by obtain⟨_,rfl⟩:=xH hl;rfl
 have m42:At K mg "_law_pairs" "_law_pairs" (top 55) ["_law_bands_here"]:=⟨_,_,W.mg_of X G a42,F42,b42⟩
 have F43:=bP (st:=(top 56)) l43 c43 k43
 have b43:=F43.binds (ps:=["_law_sides_here", "_law_every", "_law_tiles", "_law_cell"]) fun _ _ _ _ _ _ us hl=>by obtain⟨_,_,_,_,rfl⟩:=Qn hl;rfl
 have m43:At K mg "_law_down" "_law_down" (top 56) ["_law_sides_here", "_law_every", "_law_tiles", "_law_cell"]:=⟨_,_,W.mg_of X G a43,F43,b43⟩
 have F44:=bP (st:=(top 57)) l44 c44 k44
 have b44:=F44.binds (ps:=["_law_bands_here", "_law_every", "_law_cell"]) fun _ _ _ _ _ _ us hl=>by obtain⟨_,_,_,rfl⟩:=O6 hl;rfl
 have m44:At K mg "_law_one" "_law_one" (top 57) ["_law_bands_here", "_law_every", "_law_cell"]:=⟨_,_,W.mg_of X G a44,F44,b44⟩
 have F45:=bP (st:=(top 58)) l45 c45 k45
 have b45:=F45.binds (ps:=["_law_script"]) fun _ _ _ _ _ _ us hl=>by obtain⟨_,rfl⟩:=xH hl;rfl
 have m45:At K mg "law" "law" (top 58) ["_law_script"]:=⟨_,_,W.mg_of X G a45,F45,b45⟩
 have gP:∃t,mg "FEWEST_DIRECTIONS" = some (.int 2 t):=⟨_,W.mg_of X G z_FEWEST_DIRECTIONS⟩
 have iF:∃t,mg "MOST_DIRECTIONS" = some (.int 6 t):=⟨_,W.mg_of X G z_MOST_DIRECTIONS⟩
 have n4:∃t,mg "MOST_BANDS" = some (.int 12 t):=⟨_,W.mg_of X G z_MOST_BANDS⟩
 have iG:∃t,mg "LARGEST_PART" = some (.int 999999999999 t):=⟨_,W.mg_of X G z_LARGEST_PART⟩
 have Jb:mg "ValueError" = none:=W.mg_none_of X G o_ValueError
 have DY:mg "abs" = none:=W.mg_none_of X G o_abs
 have GK:mg "all" = none:=W.mg_none_of X G o_all
 have t7:mg "bool" = none:=W.mg_none_of X G o_bool
 have oB:mg "enumerate" = none:=W.mg_none_of X G o_enumerate
 have y7:mg "int" = none:=W.mg_none_of X G o_int
 have bD:mg "isinstance" = none:=W.mg_none_of X G o_isinstance
 have bJ:mg "len" = none:=W.mg_none_of X G o_len
 have fF:mg "list" = none:=W.mg_none_of X G o_list
 have y6:mg "min" = none:=W.mg_none_of X G o_min
 have bA:mg "range" = none:=W.mg_none_of X G o_range
 have eV:mg "sorted" = none:=W.mg_none_of X G o_sorted
 have GJ:mg "sum" = none:=W.mg_none_of X G o_sum
 have cV:mg "tuple" = none:=W.mg_none_of X G o_tuple
 have y4:mg "zip" = none:=W.mg_none_of X G o_zip
 refine⟨W.fnOf "law" "law" (aY (top 58)) (aX (top 58)) (aH (top 58)) .none kV45 dc45 pm45 an45 cd45 ct45,fun s v=>.of_eq rfl,fun base _ _=>?_⟩
 have cl:Cls K C:=⟨pg,hd,po,sa⟩
 have mI:IAt K mg "Sides" C "Sides.__init__" (cG (top 38) 0) ["self", "directions"]:=⟨_,_,⟨mk,a0,i0,kc⟩,W.mg_of X G aC,F0,b0⟩
 have g8:=AI (P:=l.prog) (w:=w) (base:=base) m4 eV cV NL BI
 have mT:=G4 (P:=l.prog) (w:=w) (base:=base) m5  wK BS
 have AT:=JH (P:=l.prog) (w:=w) (base:=base) m8 bA Fh KO
 have jD:=wV (P:=l.prog) (w:=w) (base:=base) m14 g8 Lr NN xK
 have hG:=tU (P:=l.prog) (w:=w) (base:=base) m15 g8 Lr NO uN
 have eE:=tT (P:=l.prog) (w:=w) (base:=base) m16 jD Pd hG Pf NM uM
 have rM:=CB (P:=l.prog) (w:=w) (base:=base) m20 bD y7 t7 Ks Cu
 have i6:=qD (P:=l.prog) (w:=w) (base:=base) m21 bD cV bJ GK rM NI Fc qV
 have iR:=rG (P:=l.prog) (w:=w) (base:=base) m22 DY iG EI sP
 have p8:=AJ (P:=l.prog) (w:=w) (base:=base) m23  EI BJ
 have p9:=AK (P:=l.prog) (w:=w) (base:=base) m24  IM BK
 have iS:=rH (P:=l.prog) (w:=w) (base:=base) m25 i6 I0 iR IC p8 IC IT sQ
 have i7:=qE (P:=l.prog) (w:=w) (base:=base) m26 bD fF bJ GJ y4 gP iF n4 iS Kh p9 Kc Ku qW
 have AU:=LQ (P:=l.prog) (w:=w) (base:=base) mI oB cV cl n_kinds n_vectors i7 NK Fd Mz
 have j6:=LO (P:=l.prog) (w:=w) (mg:=mg) (base:=base) m1 bJ cl n_kinds IL Mx
 have fA:=LP (P:=l.prog) (w:=w) (mg:=mg) (base:=base) m2 cl n_kinds IO My
 have dF:=uU (P:=l.prog) (w:=w) (base:=base) m7 cl fA dI Kv w9
 have iQ:=rF (P:=l.prog) (w:=w) (base:=base) m9 cl fA dI Fk sO
 have pD:=AR (P:=l.prog) (w:=w) (base:=base) m10 y4 bJ dF ID DG BQ
 have rN:=CC (P:=l.prog) (w:=w) (base:=base) m12 dF ID Kt Cv
 have pQ:=JG (P:=l.prog) (w:=w) (mg:=mg) (base:=base) m3 bA cl j6 gF fA dI Fe KN
 have iP:=G1 (P:=l.prog) (w:=w) (base:=base) m6 bA cl pQ mM j6 gF fA dI DE HM
 have lE:=uV (P:=l.prog) (w:=w) (base:=base) m11 cl iP gE AT wI iQ IF pD FY j6 gF IS wA
 have rO:=CD (P:=l.prog) (w:=w) (base:=base) m13 bA cV cl lE Kg rN NJ pQ mM j6 gF NS Cw
 have pE:=AS (P:=l.prog) (w:=w) (base:=base) m17 mT j4 iP gE eE Ls NR BR
 have tY:=DP (P:=l.prog) (w:=w) (base:=base) m18 eV iP gE mT j4 eE Ls IP FK
 have EY:=No (P:=l.prog) (w:=w) (base:=base) m19 rO Ph Kp P7
 have jE:=wX (P:=l.prog) (w:=w) (base:=base) m27 bJ IU xM
 have g9:=AL (P:=l.prog) (w:=w) (base:=base) m28 bD y7 t7 NQ BL
 have o0:=xT (P:=l.prog) (w:=w) (base:=base) m29 bD cV g9 Lu DD zP
 have lP:=AQ (P:=l.prog) (w:=w) (base:=base) m30 bA bJ y6 Fj BP
 have rJ:=C8 (P:=l.prog) (w:=w) (base:=base) m31  IK Cr
 have cW:=tV (P:=l.prog) (w:=w) (base:=base) m32  IQ uO
 have tW:=DN (P:=l.prog) (w:=w) (base:=base) m33 bJ fF bA rJ Kb cW A3 Kj FI
 have pC:=AO (P:=l.prog) (w:=w) (base:=base) m34 bJ fF bA eV cV cW A3 Fi BO
 have rK:=C9 (P:=l.prog) (w:=w) (base:=base) m35 bJ Fg Cs
 have pA:=AM (P:=l.prog) (w:=w) (base:=base) m36 bA rK IA AU I8 DF BM
 have kM:=xU (P:=l.prog) (w:=w) (base:=base) m37 bJ bA Kn zQ
 have o4:=xV (P:=l.prog) (w:=w) (base:=base) m38  wK zR
 have jQ:=G3 (P:=l.prog) (w:=w) (base:=base) m39 o4 j4 Km HN
 have lD:=uT (P:=l.prog) (w:=w) (base:=base) m40 bD fF cV bJ g9 Lu o0 FW Kr w5
 have mE:=wW (P:=l.prog) (w:=w) (base:=base) m41 bJ fF bA eV cV cW A3 IN xL
 have pB:=AN (P:=l.prog) (w:=w) (base:=base) m42 bJ bA Ko BN
 have rL:=CA (P:=l.prog) (w:=w) (base:=base) m43 fF bJ bA jQ I9 pE Pg tY Ke IR Ct
 have tX:=DO (P:=l.prog) (w:=w) (base:=base) m44 pA FX EY zW lD NH pB NG jQ I9 mE Kd tW ND pC IB rL Kf Kl FJ
 exact Np F45 bJ y6 bA jE Ki lP IE kM NF tX NE Kq PB
theorem walk{l:W.OpenLaw}{q:Program}{loose:List Str}{XP:(Str->Option Value)->Heap->Prop}{YP:World->Heap->Prop}{d:DefRec}{K:Params->W.Frag}(hn:l.most=some 63)(hdf:d.params.defaults=[])
  (hY:∀(w:World) (h:Heap),YP w h->(K w.params).In h)
  (F:∀(w:World) (mg:Str->Option Value) (fa:Addr) (h:Heap),(K w.params).In h->h.Ns mainGlobals mg->mg d.name=some (.ref fa) ->
   ∃fd:FuncData,(∀(s:Shared) (u:Value),BindsTo s fd ⟨[u],[]⟩ [("_law_script",u)]) /\ ∀base:Heap,(K w.params).In base->base.Ns mainGlobals mg->FnOk l.prog w (K w.params) mg base DX 9 fa fd ["_law_script"] ((low (K w.params) spLaw))):
  W.WalkO q loose XP YP l.row.toRowW d [] (fun f vs=>PySem.call f vs):=
 L2.Ja (n:=63) (k:=9) (x:="_law_script") (CX:=fun _=>DX) (sp:=fun w=>(low (K w.params) spLaw)) hn ∅ hdf ⟨rfl,by decide,by decide⟩ hY F (fun _ H a ns hl hO hS=>law_start hl hO hS) fun _ _ _ _ _ z=>z
end Lw
def Hd.QV:PySem.Program:=PySem.W.view PySem.Challenge.pw_slantfloor_k47_down_to_the_low_floor [0,2,3,4,5,7,8,10,11,12,13,14,15,16,17,19,20,21,22,23,24,26,28,29,30,31,32,33,34,35,36,37,38,40,41,42,43,44,45,46,47,48,49,50,51,52,53,54,55,56,57,58]
open PySem PySem.W PyProof.Rows
local macro_rules | `(tactic| o_head $H)=>`(tactic| refine holds_open (q:=Hd.QV) (loose:=[]) (Xt:=fun s=>xlAt Hd.QV [] s&&recOk (RowW.records (OpenRow.toRowW (OpenLaw.row PySem.Challenge.rw_slantfloor_k47_down_to_the_low_floor))) s) (XP:=XL Hd.QV []) (Yf:=Hook.obs $H) (Ya:=Hook.val $H) (YP:=Hook.says $H) (N:=5372) ?hl (Hook.of $H) (Hook.keeps $H) (fun s e=>xl_of s (Bool.and_eq_true_iff.mp e).1) XL.keeps (by rfl) (by rfl) (by rfl) (fun s e=>recFacts_of (Bool.and_eq_true_iff.mp e).2) (by rfl) (by first | assumption | decide +kernel) (by decide +kernel) ⟨rfl,rfl,rfl,rfl,rfl,by decide +kernel⟩ ?hw ?hc)
set_option maxRecDepth 100000 in
set_option maxHeartbeats 0 in
theorem PySem.Challenge.cw_slantfloor_k47_down_to_the_low_floor_holds : PySem.Challenge.rw_slantfloor_k47_down_to_the_low_floor.Holds := by
 w_on;o_law;k_head
 (case hl=>exact Hd.Kw (HZ:=boot_heap) (gs₀:=Array.mk []) (d₀:=boot_drawn) (k₀:=boot_toks) (m₀:=11) (ann:=some (.ref 6)) (M:=5372) (boot_open (by kernel_rfl) rfl (fun s=>by kernel_rfl)) (fun w=>by kernel_rfl) rfl (fun w os=>by rw[PySem.W.Fast.te10156331382660048174,PySem.W.Fast.te11892475500146522536,PySem.W.Fast.te14364793385576792824,PySem.W.Fast.te6613529449190102663,PySem.W.Fast.te4187177175401517315];kernel_rfl))
 (case hw=>w_witness2)
 k_fill
 refine Lw.walk (l:=PySem.Challenge.rw_slantfloor_k47_down_to_the_low_floor) rfl rfl (fun w h Y=>by first | exact PySem.W.kIn_of Y | exact PySem.W.km_in_of Y) ?F
 case F=>
  intro w mg fa h KX G hmg
  refine' Lw.O0 KX G hmg ?aC ?a0 ?i0 ?l0 ?c0 ?k0 ?a1 ?i1 ?l1 ?c1 ?k1 ?a2 ?i2 ?l2 ?c2 ?k2 ?a3 ?i3 ?l3 ?c3 ?k3 ?pg ?hd ?po ?sa ?mk ?kc ?n_kinds ?n_vectors ?a4 ?l4 ?c4 ?k4 ?a5 ?l5 ?c5 ?k5 ?a6 ?l6 ?c6 ?k6 ?a7 ?l7 ?c7 ?k7 ?a8 ?l8 ?c8 ?k8 ?a9 ?l9 ?c9 ?k9 ?a10 ?l10 ?c10 ?k10 ?a11 ?l11 ?c11 ?k11 ?a12 ?l12 ?c12 ?k12 ?a13 ?l13 ?c13 ?k13 ?a14 ?l14 ?c14 ?k14 ?a15 ?l15 ?c15 ?k15 ?a16 ?l16 ?c16 ?k16 ?a17 ?l17 ?c17 ?k17 ?a18 ?l18 ?c18 ?k18 ?a19 ?l19 ?c19 ?k19 ?a20 ?l20 ?c20 ?k20 ?a21 ?l21 ?c21 ?k21 ?a22 ?l22 ?c22 ?k22 ?a23 ?l23 ?c23 ?k23 ?a24 ?l24 ?c24 ?k24 ?a25 ?l25 ?c25 ?k25 ?a26 ?l26 ?c26 ?k26 ?a27 ?l27 ?c27 ?k27 ?a28 ?l28 ?c28 ?k28 ?a29 ?l29 ?c29 ?k29 ?a30 ?l30 ?c30 ?k30 ?a31 ?l31 ?c31 ?k31 ?a32 ?l32 ?c32 ?k32 ?a33 ?l33 ?c33 ?k33 ?a34 ?l34 ?c34 ?k34 ?a35 ?l35 ?c35 ?k35 ?a36 ?l36 ?c36 ?k36 ?a37 ?l37 ?c37 ?k37 ?a38 ?l38 ?c38 ?k38 ?a39 ?l39 ?c39 ?k39 ?a40 ?l40 ?c40 ?k40 ?a41 ?l41 ?c41 ?k41 ?a42 ?l42 ?c42 ?k42 ?a43 ?l43 ?c43 ?k43 ?a44 ?l44 ?c44 ?k44 ?a45 ?l45 ?c45 ?k45 ?z_FEWEST_DIRECTIONS ?z_MOST_DIRECTIONS ?z_MOST_BANDS ?z_LARGEST_PART ?o_ValueError ?o_abs ?o_all ?o_bool ?o_enumerate ?o_int ?o_isinstance ?o_len ?o_list ?o_min ?o_range ?o_sorted ?o_sum ?o_tuple ?o_zip
  any_goals k_is

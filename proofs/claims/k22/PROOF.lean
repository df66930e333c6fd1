import PyProof.Rows.All
import Wide.All
import OpenK.AllK
import Wide.FinOn
import Lean
import PyProof.EqAt
import PyProof.EqKinds
import PyProof.TupleCall
import PyProof.NeKinds
import PyProof.NeData
import PyProof.EqLayable
import PyProof.ZipIter
import PyProof.EnumMake
import KE.LcSums
import PyProof.CompFree
import PyProof.ListRange
import PyProof.Rows.Range3
import PyProof.TupleOfSeq
import KE.KSortTup
import PyProof.Rows.TupAdd
import PyProof.DictWalks
import Open.Boot
import Open.Tree
import PySem.Challenge.RW_slantfloor_k22_whole_cover
local macro_rules | `(tactic| ac_rfl)=>`(tactic| first | lia | omega)
local macro_rules | `(term| ⋯)=>`(by  ac_rfl)
local macro_rules | `(term| ∅)=>`(by  decide)
local macro_rules | `(term| ↥$q)=>`({ nx:=fun _=>$q (.v .non),rt:=$q })
open List (zipIdx_cons zipIdx_nil forIn_cons forIn_nil mem_cons mem_range mem_cons_self mem_cons_of_mem mem_append mem_append_left mem_append_right size_toArray length_cons map_cons length_map append_nil nodup_cons of_mem_zip length_take mem_of_getElem? length_append length_replicate length_drop map_nil replicate_succ flatten_cons append_assoc nil_append mem_singleton not_mem_nil find?_cons map_map mem_map any_cons map_congr_left map_append mem_iff_getElem? all_cons mem_or_eq_of_mem_set drop_eq_getElem_cons drop_length pairwise_iff_getElem eq_of_mem_replicate ext_getElem? map_take map_drop all_eq_true lookup_cons length_range dropLast_concat_getLast pairwise_map getD_eq_getElem?_getD cons_append length_nil map_id mem_singleton_self filter_append pairwise_cons sum_cons nodup_iff_pairwise_ne mem_iff_getElem perm_middle nodup_append)
open Nat (lt_irrefl lt_of_lt_of_le le_succ ne_of_lt le_trans le_of_lt ne_of_gt le_refl zero_le mul_comm le_of_not_lt le_add_right min_eq_left zero_add add_mul mul_add mul_le_mul)
open Int (toNat_natCast mul_left_comm mul_nonneg mul_pos emod_nonneg emod_lt_of_pos)
open Option (isSome_iff_exists getD_none map_some map_eq_some_iff getD_some)
open Array (length_toList forIn_toList toList_inj)
open PySem PySem.Spec PyProof.Rows
noncomputable section
set_option Elab.async false
set_option linter.all false
set_option bootstrap.genMatcherCode false
set_option compiler.extract_closed false
set_option genSizeOf false
set_option genSizeOfSpec false
set_option maxRecDepth 100000
set_option maxHeartbeats 1000000
theorem Dm(_:True:=by first | exact .inl rfl | exact .inr rfl | assumption):True:=trivial
theorem nB(_:True:=by decide):True:=trivial
theorem cB(_:True:=by rfl):True:=trivial
theorem Ga(_:True:=by intro _;rfl):True:=trivial
theorem NA(_:True:=by with_unfolding_all rfl):True:=trivial
theorem BW(_:True:=by decide +kernel):True:=trivial
theorem OC(_:True:=by first | exact nomark _ | rfl):True:=trivial
theorem OK(_:True:=by intro _ _;rfl):True:=trivial
namespace L2
noncomputable def pU(o:Obj):Prop:=∃us:Array Value,o.data=.fields us/\us[2]?=some .none
theorem Ny{o:Obj}{vs:Array Value}{i:Nat}{v:Value}(d:o.data=.fields vs):(Obj.mapFields (·.setIfInBounds i v) o).data=.fields (vs.setIfInBounds i v):=Obj.data_mapFields d _
section
variable {M:Model} {A:Around} {E:Value->Shared->Prop} {s:Shared} {base:Heap} {env:Env} {outer:List Env} {L e:Addr} {o:Obj}
end
noncomputable def Qu(A:Around)(h:Heap):Prop:=A.handled=none \/ ∃(a:Addr) (o:Obj),A.handled=some (.ref a)/\h.get? a=some o/\pU o
theorem Qu.keeps{A:Around}{h h':Heap}(q:Qu A h)(k:∀b o,pU o->h.get? b=some o->h'.get? b=some o):Qu A h':=by
  rcases q with q | ⟨a,o,e,g,m⟩
  . exact .inl q
  . exact .inr ⟨a,o,e,k a o m g,m⟩
theorem tO:entryFor table "proto.unchain" = some Builtin.«proto.unchain» := entryFor_of_fast (by kernel_rfl)
section
variable {prog:Program} {w:World} {A:Around} {E:Value->Shared->Prop} {s:Shared}
theorem v0{e:Value}{a:Addr}{o:Obj}{Q:Value->Shared->Prop}(g:s.heap.get? a=some o)(m:pU o)(q:Q .none s):wpAny (model prog w) A (runValue (.builtin "proto.unchain" ⟨[e,.ref a,.ref a,.bool false],[]⟩)) Q E s:=by
  obtain⟨us,d,n2⟩:=m
  refine runValue_entry tO ?_
  unfold Builtin.«proto.unchain»
  dsimp only
  refine wpAny_bind (wpAny_field g d n2 ?_)
  rw[if_pos ∅]
  exact wpAny_pure ⟨_,rfl,q⟩
theorem Ch{α:Type}{a:Addr}{o:Obj}{us:Array Value}{Q:α->Shared->Prop}(q:Qu A s.heap)(g:s.heap.get? a=some o)(d:o.data=.fields us)(hz:2<us.size)(hm:∀v,A.handled=some v->v ≠ .ref a)
    (h:∀h' o',(∀b u,b≠a->s.heap.get? b=some u->h'.get? b=some u)->h'.get? a=some o'->o'.cls=o.cls->E (.ref a) { s with heap:=h' }):wpAny (model prog w) A (raiseNew (α:=α) (.ref a)) Q E s:=by
  simp only[raiseNew]
  refine wpAny_bind (wpAny_handled ?_)
  rcases q with q | ⟨b,ob,q,gb,mb⟩
  . rw[q]
    exact wpAny_bind (wpAny_pure (wpAny_throw (h s.heap o (fun _ _ _ z=>z) g rfl)))
  . rw[q]
    have ne:b≠a:=fun z=>hm _ q (by rw[z])
    dsimp only
    rw[if_pos (show (Value.ref b != Value.ref a)=true by simpa using ne)]
    refine wpAny_bind (wpAny_holding (v0 gb mb (wpAny_bind ?_)))
    unfold updateField
    refine wpAny_bind (wpAny_load g ?_)
    rw[d]
    dsimp only
    rw[if_pos hz]
    refine wpAny_update g (wpAny_throw (h _ (Obj.mapFields (·.setIfInBounds 2 (.ref b)) o) (fun c u hc z=>(Heap.get?_update_other _ _ (Ne.symm hc)).trans z) (Heap.get?_update_self _ g (Obj.isFreed_of_fields (Ny d))) (Obj.cls_mapFields ..)))
theorem gD{α:Type}{Q:α->Shared->Prop}(q:Qu A s.heap)(h:∀h' e,(∀b u,s.heap.get? b=some u->h'.get? b=some u)->(∃o,h'.get? e=some o/\o.cls=.type "StopIteration")->E (.ref e) { s with heap:=h' }):
    wpAny (model prog w) A (newExc (.type "StopIteration") [] >>= fun e=>raiseNew (α:=α) e) Q E s:=by
  refine wpAny_bind ?_
  simp only[newExc,newTuple]
  refine wpAny_bind (wpAny_newObj_type (wpAny_bind (m:=firstArgMember _ _) (wpAny_of_eq (a:=Value.none) (by first | rfl | (simp only[firstArgMember];rfl)) (wpAny_newObj_type ?_ (by size_fits)))) (by size_fits))
  refine Ch (q.keeps fun b u _ z=>Heap.get?_push_of_some _ (Heap.get?_push_of_some _ z)) (Heap.get?_push_size _ rfl) rfl (by simp;ac_rfl) (fun v e z=>?_) fun h' o' k g c=>h h' _ (fun b u z=>k b u ?_ (Heap.get?_push_of_some _ (Heap.get?_push_of_some _ z))) ⟨o',g,c⟩
  . subst z
    rcases q with q | ⟨b,ob,q,gb,_⟩
    . rw[q] at e;cases e
    . rw[q] at e
      cases e
      exact lt_irrefl _ (lt_of_lt_of_le (Heap.lt_size gb) (by rw[Heap.size_push];exact le_succ _))
  . intro e
    subst e
    exact lt_irrefl _ (lt_of_lt_of_le (Heap.lt_size z) (by rw[Heap.size_push];exact le_succ _))
theorem zP{it l:Addr}{i:Nat}{xs:Array Value}{Q:Option Value->Shared->Prop}(q:Qu A s.heap)(t:s.heap.IsListIter it l i)(il:s.heap.IsList l xs)(n:xs[i]?=none)(h:∀h',Heap.ExtBut it s.heap h'->Q none { s with heap:=h' }):
    wpAny (model prog w) A (pyNext (.ref it)) Q E s:=by
  obtain⟨o,g,c,d⟩:=id t
  obtain⟨ol,gl,_,nl,dl⟩:=il
  unfold pyNext
  refine wpAny_bind (wpAny_attempt (wpAny_callSpecial?_slot (name:=Str.ofString "__next__") t.typeIs slot_listiter_next (wpAny_call_entry slot_listiter_next t.typeIs entry_listiter_next ?_ (args_listiter_next _))))
  refine wpAny_bind (m:=field (.ref it) 0) (wpAny_field g d (x:=.ref l) rfl ?_)
  rw[if_neg (show ¬((Value.ref l==Value.none)=true) from fun z=>nomatch z)]
  refine wpAny_bind (m:=field (.ref it) 1) (wpAny_field g d (x:=.int i 0) rfl (wpAny_bind (m:=seqItems? (.ref l)) (wpAny_seqItems gl dl ?_)))
  simp only[toNat_natCast,n]
  have ne:∀b u,pU u->s.heap.get? b=some u->b≠it:=fun b u m gb z=>by
    subst z
    rw[g] at gb
    cases gb
    obtain⟨us,du,z2⟩:=m
    rw[d] at du
    cases du
    simp at z2
  refine wpAny_bind (wpAny_rule (wpAny_bind (wpAny_setField g d (by simp) (gD (q.keeps fun b u m z=>(Heap.get?_update_other _ _ (Ne.symm (ne b u m z))).trans z) fun h' e k ⟨oe,ge,ce⟩=>?_))))
  refine wpAny_bind (wpAny_isInstance (T:="StopIteration") (b:=true) ⟨oe,ge,ce⟩ isSubtype_stop (wpAny_pure (h _ fun b u hb z=>k b u ((Heap.get?_update_other _ _ (Ne.symm hb)).trans z))))
theorem Db{it l:Addr}{i:Nat}{xs:Array Value}{Q:Option Value->Shared->Prop}(q:Qu A s.heap)(t:s.heap.IsTupleIter it l i)(il:s.heap.IsTuple l xs)(n:xs[i]?=none)(h:∀h',Heap.ExtBut it s.heap h'->Q none { s with heap:=h' }):
    wpAny (model prog w) A (pyNext (.ref it)) Q E s:=by
  obtain⟨o,g,c,d⟩:=id t
  obtain⟨ol,gl,_,nl,dl⟩:=il
  unfold pyNext
  refine wpAny_bind (wpAny_attempt (wpAny_callSpecial?_slot (name:=Str.ofString "__next__") t.typeIs F.slot_tuple_iterator_next (wpAny_call_entry F.slot_tuple_iterator_next t.typeIs F.entry_tuple_iterator_next ?_ (F.args_tuple_iterator_next_1 _))))
  refine wpAny_bind (m:=field (.ref it) 0) (wpAny_field g d (x:=.ref l) rfl ?_)
  rw[if_neg (show ¬((Value.ref l==Value.none)=true) from fun z=>nomatch z)]
  refine wpAny_bind (m:=field (.ref it) 1) (wpAny_field g d (x:=.int i 0) rfl (wpAny_bind (m:=seqItems? (.ref l)) (wpAny_seqItems gl dl ?_)))
  simp only[toNat_natCast,n]
  have ne:∀b u,pU u->s.heap.get? b=some u->b≠it:=fun b u m gb z=>by
    subst z
    rw[g] at gb
    cases gb
    obtain⟨us,du,z2⟩:=m
    rw[d] at du
    cases du
    simp at z2
  refine wpAny_bind (wpAny_rule (wpAny_bind (wpAny_setField g d (by simp) (gD (q.keeps fun b u m z=>(Heap.get?_update_other _ _ (Ne.symm (ne b u m z))).trans z) fun h' e k ⟨oe,ge,ce⟩=>?_))))
  refine wpAny_bind (wpAny_isInstance (T:="StopIteration") (b:=true) ⟨oe,ge,ce⟩ isSubtype_stop (wpAny_pure (h _ fun b u hb z=>k b u ((Heap.get?_update_other _ _ (Ne.symm hb)).trans z))))
theorem uR{it:Addr}{x left step:Int}{Q:Option Value->Shared->Prop}(q:Qu A s.heap)(t:IsRangeIter s.heap it x left step)(n:left<=0)(h:∀h',Heap.ExtBut it s.heap h'->Q none { s with heap:=h' }):
    wpAny (model prog w) A (pyNext (.ref it)) Q E s:=by
  have ty:s.TypeIs (.ref it) "range_iterator" := ⟨_,t,rfl⟩
  unfold pyNext
  refine wpAny_bind (wpAny_attempt (wpAny_callSpecial?_slot (name:=Str.ofString "__next__") ty F.slot_range_iterator_next (wpAny_call_entry F.slot_range_iterator_next ty F.entry_range_iterator_next ?_ (F.args_range_iterator_next_1 _))))
  refine wpAny_bind (m:=field (.ref it) 0) (wpAny_field t rfl (x:=rawInt x) rfl (wpAny_bind (m:=field (.ref it) 1) (wpAny_field t rfl (x:=rawInt left) rfl (wpAny_bind (m:=field (.ref it) 2) (wpAny_field t rfl (x:=rawInt step) rfl ?_)))))
  refine(show wpAny _ _ (ite (left<=0) _ _) _ _ s from ?_)
  rw[if_pos n]
  refine wpAny_bind (wpAny_rule (wpAny_bind (gD q fun h' e k zz=>?_)))
  obtain⟨oe,ge,ce⟩:=zz
  refine wpAny_bind (wpAny_isInstance (T:="StopIteration") (b:=true) ⟨oe,ge,ce⟩ isSubtype_stop (wpAny_pure (h _ fun b u hb z=>k b u z)))
theorem mP{it l:Addr}{i:Nat}{xs:Array Value}{Q:Value->Shared->Prop}(q:Qu A s.heap)(t:s.heap.IsListIter it l i)(il:s.heap.IsList l xs)(n:xs[i]?=none)
    (h:∀h' e,Heap.ExtBut it s.heap h'->(∃o,h'.get? e=some o/\o.cls=.type "StopIteration")->E (.ref e) { s with heap:=h' }):wpAny (model prog w) A (Builtin.SmallTypes.nextOf (.ref it)) Q E s:=by
  obtain⟨o,g,c,d⟩:=id t
  obtain⟨ol,gl,_,nl,dl⟩:=il
  unfold Builtin.SmallTypes.nextOf
  refine wpAny_bind (wpAny_callSpecial?_slot (name:=Str.ofString "__next__") t.typeIs slot_listiter_next (wpAny_call_entry slot_listiter_next t.typeIs entry_listiter_next ?_ (args_listiter_next _)))
  refine wpAny_bind (m:=field (.ref it) 0) (wpAny_field g d (x:=.ref l) rfl ?_)
  rw[if_neg (show ¬((Value.ref l==Value.none)=true) from fun z=>nomatch z)]
  refine wpAny_bind (m:=field (.ref it) 1) (wpAny_field g d (x:=.int i 0) rfl (wpAny_bind (m:=seqItems? (.ref l)) (wpAny_seqItems gl dl ?_)))
  simp only[toNat_natCast,n]
  have ne:∀b u,pU u->s.heap.get? b=some u->b≠it:=fun b u m gb z=>by
    subst z
    rw[g] at gb
    cases gb
    obtain⟨us,du,z2⟩:=m
    rw[d] at du
    cases du
    simp at z2
  exact wpAny_bind (wpAny_rule (wpAny_bind (wpAny_setField g d (by simp) (gD (q.keeps fun b u m z=>(Heap.get?_update_other _ _ (Ne.symm (ne b u m z))).trans z) fun h' e k z=>h h' e (fun b u hb z=>k b u ((Heap.get?_update_other _ _ (Ne.symm hb)).trans z)) z))))
theorem GG{e it l:Addr}{i:Nat}{xs:Array Value}{old:Value}{Q:Option Value->Shared->Prop}(q:Qu A s.heap)(he:IsEnum s.heap e it i old)(t:s.heap.IsListIter it l i)(il:s.heap.IsList l xs)(n:xs[i]?=none)
    (h:∀h',Heap.ExtBut it s.heap h'->Q none { s with heap:=h' }):wpAny (model prog w) A (pyNext (.ref e)) Q E s:=by
  have ty:s.TypeIs (.ref e) "enumerate" := ⟨_,he,rfl⟩
  unfold pyNext
  refine wpAny_bind (wpAny_attempt (wpAny_callSpecial?_slot (name:=Str.ofString "__next__") ty F.slot_enumerate_next (wpAny_call_entry F.slot_enumerate_next ty F.entry_enumerate_next ?_ (F.args_enumerate_next_1 _))))
  refine wpAny_bind (m:=field (.ref e) 2) (wpAny_field he rfl (x:=.ref it) rfl (wpAny_bind (mP q t il n fun h' x k zz=>?_)))
  obtain⟨oe,ge,ce⟩:=zz
  exact wpAny_bind (wpAny_isInstance (T:="StopIteration") (b:=true) ⟨oe,ge,ce⟩ isSubtype_stop (wpAny_pure (h _ k)))
theorem I9{z TI TO i1 i2 l1 l2:Addr}{k1 k2:Nat}{xs ys:Array Value}{a b:Value}{Q:Option Value->Shared->Prop}(q:Qu A s.heap)(D:ZipApart z TI TO i1 i2 l1 l2)(hz:IsZip s.heap z TI TO .none)(pI:IsPair s.heap TI (.ref i1) (.ref i2))(pO:IsPair s.heap TO a b)
    (t1:s.heap.IsListIter i1 l1 k1) (t2:s.heap.IsListIter i2 l2 k2) (il1:s.heap.IsList l1 xs) (il2:s.heap.IsList l2 ys) (n:xs[k1]?=none \/ ys[k2]?=none)
    (h:∀h',(∀c o,c≠z->c≠TO->c≠i1->c≠i2->s.heap.get? c=some o->h'.get? c=some o)->Q none { s with heap:=h' }):wpAny (model prog w) A (pyNext (.ref z)) Q E s:=by
  have ty:s.TypeIs (.ref z) "zip" := ⟨_,hz,rfl⟩
  have fin:∀h' e,(∃o,h'.get? e=some o/\o.cls=.type "StopIteration")->(∀c o,c≠z->c≠TO->c≠i1->c≠i2->s.heap.get? c=some o->h'.get? c=some o) ->
      wpAny (model prog w) A (isInstance (.ref e) (.type "StopIteration") >>= fun y=>if y=true then pure none else throw (.ref e)) Q E { s with heap:=h' }:=fun h' e ⟨oe,ge,ce⟩ k=>
    wpAny_bind (wpAny_isInstance (T:="StopIteration") (b:=true) ⟨oe,ge,ce⟩ isSubtype_stop (wpAny_pure (h _ k)))
  have mz:∀f0,¬pU { cls:=.type "zip",dict:=none,data:=.fields #[f0,.bool false,.bool false,.ref TI,.ref TO],slots:=#[] }:=fun f0 zq0=>by
    obtain⟨us,du,z2⟩:=zq0
    cases du
    simp at z2
  have mi:∀{h1:Heap} {i l:Addr} {k:Nat},h1.IsListIter i l k -> ∀u,pU u->h1.get? i≠some u:=fun⟨o,g,_,d⟩ u ⟨us,du,z2⟩ gu=>by
    rw[g] at gu
    cases gu
    rw[d] at du
    cases du
    simp at z2
  have mp:∀{h1:Heap} {p:Addr} {x y:Value},IsPair h1 p x y -> ∀u,pU u->h1.get? p≠some u:=fun g u ⟨us,du,z2⟩ gu=>by
    rw[g] at gu
    cases gu
    cases du
  unfold pyNext
  refine wpAny_bind (wpAny_attempt (wpAny_callSpecial?_slot (name:=Str.ofString "__next__") ty F.slot_zip_next (wpAny_call_entry F.slot_zip_next ty F.entry_zip_next ?_ (F.args_zip_next_1 _))))
  refine wpAny_bind (m:=field (.ref z) 2) (wpAny_field hz rfl (x:=.bool false) rfl (wpAny_bind (m:=field (.ref z) 3) (wpAny_field hz rfl (x:=.ref TI) rfl (wpAny_bind (wpAny_seqItems pI rfl ?_)))))
  refine wpAny_bind (m:=Builtin.SmallTypes.ownedTupleIsFree (.ref z)) ?_
  unfold Builtin.SmallTypes.ownedTupleIsFree
  refine wpAny_bind (wpAny_field hz rfl (x:=.none) rfl (wpAny_pure ?_))
  simp only[if_true]
  refine wpAny_bind (wpAny_rule (wpAny_bind (wpAny_field hz rfl (x:=.ref TO) rfl (wpAny_bind (wpAny_setField_rec hz (by simp) fun h1 hz1 s1=>wpAny_bind ?_)))))
  replace hz1:IsZip h1 z TI TO .ellipsis:=hz1
  have q1:Qu A h1:=q.keeps fun c u m g=>s1.extBut c u (fun e=>by subst e;rw[hz] at g;cases g;exact mz _ m) g
  simp only[zipIdx_cons,zipIdx_nil,forIn_cons,forIn_nil]
  refine wpAny_bind (wpAny_bind (wpAny_onRaise (wpAny_bind (m:=Builtin.SmallTypes.nextOf (.ref i1)) ?_)))
  have t1':=t1.extBut s1.extBut D.i1z
  have il1':=il1.extBut s1.extBut D.l1z
  cases hx:xs[k1]? with
  |none=>
    refine mP q1 t1' il1' hx fun h2 e s2 zz=>?_
    obtain⟨oe,ge,ce⟩:=zz
    have hz2:IsZip h2 z TI TO .ellipsis:=s2 _ _ D.i1z.symm hz1
    have ne:e≠z:=fun y=>by subst y;rw[hz2] at ge;cases ge;simp at ce
    exact wpAny_setField_rec hz2 (by simp) fun h3 _ s3=>fin h3 e ⟨oe,s3.extBut _ _ ne ge,ce⟩ fun c o c1 _ c3 _ g=>s3.extBut _ _ c1 (s2 _ _ c3 (s1.extBut _ _ c1 g))
  |some x=>
    have hy:ys[k2]?=none:=n.elim (fun y=>by rw[hx] at y;cases y) id
    refine wpAny_nextOf_list_item t1' il1' hx fun h2 t2' s2=>wpAny_pure ?_
    have pO2:IsPair h2 TO a b:=s2.extBut _ _ D.TOi1 (s1.extBut _ _ D.TOz pO)
    have q2:Qu A h2:=q1.keeps fun c u m g=>s2.extBut c u (fun e=>by subst e;exact mi t1' u m g) g
    refine wpAny_bind (wpAny_seqItems pO2 rfl (wpAny_bind (wpAny_updateSeq_pair pO2 fun h3 pO3 s3=>wpAny_bind (wpAny_letGo (wpAny_pure ?_)))))
    have q3:Qu A h3:=q2.keeps fun c u m g=>s3.extBut c u (fun e=>by subst e;exact mp pO2 u m g) g
    refine wpAny_bind (wpAny_bind (wpAny_onRaise (wpAny_bind (m:=Builtin.SmallTypes.nextOf (.ref i2)) ?_)))
    refine mP q3 (((t2.extBut s1.extBut D.i2z).extBut s2.extBut D.i12.symm).extBut s3.extBut D.TOi2.symm) (((il2.extBut s1.extBut D.l2z).extBut s2.extBut D.l2i1).extBut s3.extBut D.l2TO) hy fun h4 e s4 zz=>?_
    obtain⟨oe,ge,ce⟩:=zz
    have hz4:IsZip h4 z TI TO .ellipsis:=s4 _ _ D.i2z.symm (s3.extBut _ _ D.TOz.symm (s2.extBut _ _ D.i1z.symm hz1))
    have ne:e≠z:=fun y=>by subst y;rw[hz4] at ge;cases ge;simp at ce
    exact wpAny_setField_rec hz4 (by simp) fun h5 _ s5=>fin h5 e ⟨oe,s5.extBut _ _ ne ge,ce⟩ fun c o c1 c2 c3 c4 g=>s5.extBut _ _ c1 (s4 _ _ c4 (s3.extBut _ _ c2 (s2.extBut _ _ c3 (s1.extBut _ _ c1 g))))
theorem CW{a:Addr}{o:Obj}(hh:A.handled=some (.ref a))(m:pU o)(I ax:Addr)(hne:ax≠I)(xs:Array Value):
    Walks prog w A I [I,ax,a] [I] xs.size (fun i v=>xs[i]?=some v) (fun i h=>(h.IsListIter I ax i/\h.IsList ax xs)/\h.get? a=some o) where
  sub:=fun b hb=>by simp at hb;simp[hb]
  frame:=fun _ _ _ st k=>⟨⟨st.1.1.at fun o e=>k I (by simp) o e,st.1.2.at fun o e=>k ax (by simp) o e⟩,k a (by simp) _ st.2⟩
  item:=fun i s Q E hi st h=>by
    have na:a≠I:=fun e=>by
      subst e
      obtain⟨o',g,_,d⟩:=st.1.1
      obtain⟨us,du,z2⟩:=m
      rw[st.2] at g
      cases g
      rw[d] at du
      cases du
      simp at z2
    exact wpAny_pyNext_list_item st.1.1 st.1.2 (x:=xs[i]) (by simp[hi]) fun h' t sb=>h _ h' s.toks (by simp[hi]) ⟨⟨t,st.1.2.extBut sb.extBut hne⟩,sb.extBut _ _ na st.2⟩ fun b o hb e=>sb.extBut b o (fun z=>hb (by simp[z])) e
  done:=fun s Q E st h=>zP (.inr ⟨a,o,hh,st.2,m⟩) st.1.1 st.1.2 (by simp) fun h' k=>h h' s.toks fun b o hb e=>k b o (fun z=>hb (by simp[z])) e
  self:=fun _ _ _ _ st q=>wpAny_pyIter_listiter st.1.1 q
theorem LN{l:Addr}{xs:Array (Int×Tok)}{Q:Value->Shared->Prop}(q:Qu A s.heap)(il:s.heap.IsList l (intItems xs))
    (h:∀h' tk t',(∀b o,s.heap.get? b=some o->h'.get? b=some o)->Q (.int (preSum (numAt xs) xs.size) t') { s with heap:=h',toks:=tk }):wpAny (model prog w) A (call (.builtin "sum") [.ref l]) Q E s:=by
  rcases q with q | ⟨a,o,q,g,m⟩
  . exact sum_intListG q il h
  . refine call_sum_walkG (iter_intList il fun s2 e st fp ne=>?_)
    subst e
    refine⟨_,_,_,_,_,_,numAt xs,rfl,CW (A:=A.in1) q m _ l ne (intItems xs),⟨st,Heap.get?_push_of_some _ g⟩,fun b hb=>?_,fun _ _=>intItems_at,fun h' tk t' k=>?_⟩
    . rcases mem_cons.mp hb with e | hb
      . exact fp b (by simp[e])
      . rcases mem_cons.mp hb with e | hb
        . exact fp b (by simp[e])
        . have e:b=a:=by simpa using hb
          subst e
          exact Heap.lt_size (Heap.get?_push_of_some _ g)
    . have:=h h' tk t' (old_kept k)
      simpa [intItems] using this
theorem sJ{it:Addr}{lo c:Int}{n i:Nat}{Q:Option Value->Shared->Prop}(hi:i<n)(t:IsRangeIter s.heap it (lo+(i:Nat)*c) ((n:Int)-(i:Nat)) c)
    (h:∀v h' tk,(∃t,v=.int (lo+i*c) t)->IsRangeIter h' it (lo+((i+1:Nat):Int)*c) ((n:Int)-((i+1:Nat):Int)) c->(∀b o,b ∉ [it]->s.heap.get? b=some o->h'.get? b=some o)->Q (some v) { s with heap:=h',toks:=tk }):
    wpAny (model prog w) A (pyNext (.ref it)) Q E s:=by
  refine wpAny_pyNext_range_item t ⋯ fun h' t' sb=>h _ h' _ ⟨_,rfl⟩ ?_ fun b o hb e=>sb.extBut b o (fun z=>hb (by simp[z])) e
  rw[show ((i+1:Nat):Int)=(i:Int)+1 by simp,show lo+((i:Int)+1)*c=lo+i*c+c by rw[Int.add_mul,Int.one_mul,Int.add_assoc],show (n:Int)-((i:Int)+1)=n-i-1 by ac_rfl]
  exact t'
end
noncomputable abbrev cW:=Sum Int Str
noncomputable def uL:cW->Value->Bool
  | .inl k,v=>Value.isInt k v
  | .inr x,v=>Value.isStrOf x v
noncomputable def Nq(w:World):cW->Int
  | .inl k=>hashInt k
  | .inr x=>hashStr w x
theorem d6:∀{k:cW} {v:Value},uL k v=true->(∃i t,k=Sum.inl i/\v=Value.int i t) \/ (∃x t,k=Sum.inr x/\v=Value.str x t)
  | .inl i,v,h=>by
    obtain⟨t,e⟩:=Value.isInt_shape (k:=i) (v:=v) h
    exact .inl ⟨i,t,rfl,e⟩
  | .inr x,v,h=>by
    obtain⟨t,e⟩:=Value.isStrOf_shape (x:=x) (v:=v) h
    exact .inr ⟨x,t,rfl,e⟩
theorem DT(i:Int)(t:Tok):uL (.inl i) (.int i t)=true:=by simp[uL,Value.isInt]
theorem DS(x:Str)(t:Tok):uL (.inr x) (.str x t)=true:=by simp[uL,Value.isStrOf]
theorem KZ(a b:Int):decide ((Sum.inl a:cW)=Sum.inl b)=(a==b):=by
  by_cases e:a=b
  . subst e;simp
  . have h:¬(Sum.inl a:cW)=Sum.inl b:=fun q=>e (Sum.inl.inj q)
    rw[decide_eq_false h]
    exact(beq_eq_false_iff_ne.mpr e).symm
theorem KU(a b:Str):decide ((Sum.inr a:cW)=Sum.inr b)=decide (a=b):=by
  by_cases e:a=b
  . subst e;simp
  . have h:¬(Sum.inr a:cW)=Sum.inr b:=fun q=>e (Sum.inr.inj q)
    rw[decide_eq_false h,decide_eq_false e]
theorem KY(a:Int)(b:Str):decide ((Sum.inl a:cW)=Sum.inr b)=false:=decide_eq_false (fun q=>nomatch q)
theorem KW(a:Str)(b:Int):decide ((Sum.inr a:cW)=Sum.inl b)=false:=decide_eq_false (fun q=>nomatch q)
noncomputable def fP(prog:Program)(w:World):PySem.KeyKind prog w cW where
  is:=uL
  hash:=Nq w
  inj:=fun v a b ha hb=>by
    rcases d6 ha with⟨i,t,rfl,rfl⟩ | ⟨x,t,rfl,rfl⟩
    . rcases d6 hb with⟨j,u,rfl,e⟩ | ⟨y,u,rfl,e⟩
      . injection e with e1 _;rw[e1]
      . exact nomatch e
    . rcases d6 hb with⟨j,u,rfl,e⟩ | ⟨y,u,rfl,e⟩
      . exact nomatch e
      . injection e with e1 _;rw[e1]
  byValue:=fun k v h=>by
    rcases d6 h with⟨i,t,rfl,rfl⟩ | ⟨x,t,rfl,rfl⟩<;>rfl
  pyHash:=fun hv h=>by
    rcases d6 hv with⟨i,t,rfl,rfl⟩ | ⟨x,t,rfl,rfl⟩
    . exact wpAny_pyHash_int h
    . exact wpAny_pyHash_str h
  eqBool:=fun hu hv h=>by
    rcases d6 hu with⟨i,t,rfl,rfl⟩ | ⟨x,t,rfl,rfl⟩
    . rcases d6 hv with⟨j,u,rfl,rfl⟩ | ⟨y,u,rfl,rfl⟩
      . rw[KZ] at h;exact wpAny_eqBool_int h
      . rw[KY] at h;exact SeqAt.EqAt.int_str i t y u _ _ _ _ h
    . rcases d6 hv with⟨j,u,rfl,rfl⟩ | ⟨y,u,rfl,rfl⟩
      . rw[KW] at h;exact SeqAt.EqAt.str_int x t j u _ _ _ _ h
      . rw[KU] at h;exact wpAny_eqBool_str h
  «strs» := fun k x t v h=>by
    rcases d6 h with⟨i,u,rfl,e⟩ | ⟨y,u,rfl,e⟩
    . exact nomatch e
    . injection e with e1 _
      subst e1
      cases v<;>rfl
theorem zC(prog:Program)(w:World)(i:Int)(t:Tok):(fP prog w).is (.inl i) (.int i t)=true:=DT i t
theorem zB(prog:Program)(w:World)(x:Str)(t:Tok):(fP prog w).is (.inr x) (.str x t)=true:=DS x t
inductive V where
  |non | bl (b:Bool) | int (i:Int) | str (x:Str) | byt (b:Array UInt8) | flt (b:UInt64) | ref (a:Addr) | ty (n:String)
  deriving DecidableEq
noncomputable def cJ:V->Value->Prop
  | .non,u=>u=Value.none
  | .bl b,u=>u=Value.bool b
  | .int i,u=>∃t,u=Value.int i t
  | .str x,u=>∃t,u=Value.str x t
  | .byt b,u=>∃t,u=Value.bytes b t
  | .flt b,u=>∃t,u=Value.float b t
  | .ref a,u=>u=Value.ref a
  | .ty n,u=>u=Value.type n
noncomputable abbrev bF:List V->List Value->Prop:=Paired cJ
theorem bF.length{xs:List V}{us:List Value}(r:bF xs us):xs.length=us.length:=Paired.length r
theorem bF.get:∀{xs:List V} {us:List Value} {i:Nat} {x:V},bF xs us->xs[i]?=some x -> ∃u,us[i]?=some u/\cJ x u
  |_,_,_,_,.nil,e=>by simp at e
  |_,_,0,_,.cons r _,e=>by simp at e;subst e;exact⟨_,rfl,r⟩
  |_,_,i+1,x,.cons _ t,e=>by
    obtain⟨u,h1,h2⟩:=bF.get (i:=i) (x:=x) t (by simpa using e)
    exact⟨u,by simpa using h1,h2⟩
theorem bF.append:∀{xs ys:List V} {us ws:List Value},bF xs us->bF ys ws->bF (xs++ys) (us++ws)
  |_,_,_,_,.nil,s=>s
  |_,_,_,_,.cons r t,s=>.cons r (bF.append t s)
theorem bF.take:∀{xs:List V} {us:List Value} (n:Nat),bF xs us->bF (xs.take n) (us.take n)
  |_,_,0,_=>.nil
  |_,_,_+1,.nil=>.nil
  |_,_,n+1,.cons r t=>.cons r (bF.take n t)
theorem bF.drop:∀{xs:List V} {us:List Value} (n:Nat),bF xs us->bF (xs.drop n) (us.drop n)
  |_,_,0,r=>r
  |_,_,_+1,.nil=>.nil
  |_,_,n+1,.cons _ t=>bF.drop n t
noncomputable def oO:Option V->Option Value->Prop
  |some v,some u=>cJ v u
  |none,none=>True
  |_,_=>False
noncomputable def KV{κ:Type}:List (κ×V)->List (κ×Value)->Prop:=Paired fun(p:κ×V) (q:κ×Value)=>p.1=q.1/\cJ p.2 q.2
noncomputable def kV:cW->V
  | .inl i=>.int i
  | .inr x=>.str x
inductive HO where
  /-- a list -/
  |lst (xs:List V)
  /-- a tuple (never changes) -/
  |tup (xs:List V)
  /-- a dict whose keys are ints and texts;one whose keys are tuples of ints and texts (the empty one is both) -/
  |dK (kvs:List (cW×V)) | dT (ep:Nat) (kvs:List (List cW×V))
  /-- a set of ints: its members,its size -/
  |set (S:Int->Bool) (n:Nat)
  /-- an instance of the class at C,its dict at dx,its attributes -/
  |ins (C dx:Addr) (fs:List (Str×V))
  /-- the dict of the instance at x -/
  |own (x:Addr)
  /-- the dict of an exception -/
  |xd (fs:List (Str×V))
  /-- a bound method,f of x -/
  |met (f x:Addr)
  /-- a range object lo,lo+1,.. below hi -/
  |rng (lo hi:Int)
  /-- a thing that is known to the object (the script;a dict while a loop walks it): read,never written while it is so -/
  |frz (o:Obj) (u:HO)
  /-- a code object's table -/
  |tbl (ps:Array Value)
  /-- a code object's table whose lambdas are named q;such a lambda's code -/
  |lam (q:Str) | cod (q:Str)
  /-- any other thing,by what is true of its one object (a def of one's own: SetO a S n:=HO.ext fun h=>..) -/
  |ext (φ:Heap->Prop)
noncomputable abbrev Hp:=Addr->Option HO
noncomputable def upd(H:Hp)(a:Addr)(o:HO):Hp:=fun b=>if b=a then some o else H b
theorem aY{H:Hp}{a:Addr}{o:HO}:upd H a o a=some o:=by unfold upd;rw[if_pos rfl]
theorem aO{H:Hp}{a b:Addr}{o:HO}(h:b≠a):upd H a o b=H b:=by unfold upd;rw[if_neg h]
theorem aM{H:Hp}{a b:Addr}{o:HO}(h:H a=some o)(h':H b=none):a≠b:=by
  intro e;subst e;rw[h] at h';cases h'
section
variable (P:Program) (w:World)
noncomputable def cI(H:Hp)(h:Heap)(a:Addr):HO->Prop
  | .lst xs=>xs.length<=sizeLine /\ ∃(its:List Value) (n:Nat),bF xs its/\h.get? a=some { cls:=.type "list",data:=.seq its.toArray n }
  | .tup xs=>xs.length<=sizeLine /\ ∃its:List Value,bF xs its/\IsTup h a its.toArray
  | .dK kvs=>kvs.length<=sizeLine/\(a==sysModules)=false /\ ∃vs,KV kvs vs/\h.DictOf (fP P w) a vs
  | .dT ep kvs=>kvs.length<=sizeLine/\(a==sysModules)=false /\ ∃xs:List (List cW×Addr×Value),
      Paired (fun(p:List cW×V) (q:List cW×Addr×Value)=>p.1=q.1/\H q.2.1=some (.tup (p.1.map kV))/\cJ p.2 q.2.2) kvs xs /\
      ∃o es,h.get? a=some o/\o.ExactDict/\o.data=.dict es ep/\es.toList=xs.map (entryOfKey (tupleKind (fP P w)))/\(xs.map (·.1)).Nodup
  | .set S n=>h.SetOf (intKind P w) a S n
  | .ins C dx fs=>H dx=some (.own a)/\fs.length<=1000/\dx≠a/\h.get? a=some (W.instObj C dx) /\
      ∃mA,h.Ns1 dx mA/\(∀f,oO (fs.lookup f) (mA f))/\PySem.Within mA (fs.map (·.1))
  | .own _=>∃o,h.get? a=some o
  | .xd fs=>∃mA,h.Ns1 a mA /\ ∀f,oO (fs.lookup f) (mA f)
  | .rng lo hi=>∃t u v,h.get? a=some { cls:=.type "range",data:=.fields #[.int lo t,.int hi u,.int 1 v] }
  | .frz o u=>h.get? a=some o/\cI H h a u
  | .tbl ps=>h.get? a=some { cls:=.none,data:=.fields ps }
  | .lam q=>∃ps:Array Value,h.get? a=some (W.tabObj ps)/\TriplesOk ps.toList /\ ∀p:Pos,codeAmong p ps.toList=none \/ ∃c,codeAmong p ps.toList=some (.ref c)/\H c=some (.cod q)
  | .cod q=>h.CodeRec (.ref a) q
  | .met f x=>h.get? a=some (W.methodObj (.ref f) (.ref x))
  | .ext φ=>φ h/\(∃o,h.get? a=some o) /\ ∀h1 h2:Heap,φ h1->(∀o,h1.get? a=some o->h2.get? a=some o)->φ h2
noncomputable def nD(H:Hp)(h:Heap):Prop:=∀a o,H a=some o->cI P w H h a o
end
section
variable {P:Program} {w:World} {H H':Hp} {h h':Heap} {a:Addr} {o:HO}
theorem cI.lt(x:cI P w H h a o):a<h.objs.size:=by
  cases o with
  |lst xs=>obtain⟨_,_,_,_,e⟩:=x;exact Heap.lt_size e
  |tup xs=>obtain⟨_,_,_,p⟩:=x;exact p.lt
  |dK kvs=>obtain⟨_,_,_,_,o,_,_,e,_⟩:=x;exact Heap.lt_size e
  |dT ep kvs=>obtain⟨_,_,_,_,o,_,e,_⟩:=x;exact Heap.lt_size e
  |set S n=>obtain⟨o,_,_,_,e,_⟩:=x;exact Heap.lt_size e
  |ins C dx fs=>obtain⟨_,_,_,e,_⟩:=x;exact Heap.lt_size e
  |own y=>obtain⟨_,e⟩:=x;exact Heap.lt_size e
  |xd fs=>obtain⟨_,⟨_,_,_,e,_⟩,_⟩:=x;exact Heap.lt_size e
  |rng lo hi=>obtain⟨_,_,_,e⟩:=x;exact Heap.lt_size e
  |frz ob u=>obtain⟨e,_⟩:=x;exact Heap.lt_size e
  |tbl ps=>exact Heap.lt_size (show h.get? a=some _ from x)
  |lam q=>obtain⟨_,e,_⟩:=x;exact Heap.lt_size e
  |cod q=>obtain⟨_,_,_,_,e,e2,_⟩:=x;cases e;exact Heap.lt_size e2
  |met f y=>exact Heap.lt_size (show h.get? a=some _ from x)
  |ext φ=>obtain⟨_,⟨_,e⟩,_⟩:=x;exact Heap.lt_size e
theorem Paired.mapP{α β:Type}{F G:α->β->Prop}:∀{l₁:List α} {l₂:List β},Paired F l₁ l₂->(∀a b,F a b->G a b)->Paired G l₁ l₂
  |_,_,.nil,_=>.nil
  |_,_,.cons r t,f=>.cons (f _ _ r) (Paired.mapP t f)
theorem cI.stay(x:cI P w H h a o)(k:∀b u,(b=a \/ H b=some (.own a))->h.get? b=some u->h'.get? b=some u)
    (ho:∀b,H b=some (.own a)->H' b=some (.own a)) (ht:∀b xs,H b=some (.tup xs)->H' b=some (.tup xs)) (hc:∀b q,H b=some (.cod q)->H' b=some (.cod q)):cI P w H' h' a o:=by
  induction o with
  |lst xs=>obtain⟨z,its,n,r,e⟩:=x;exact⟨z,its,n,r,k _ _ (.inl rfl) e⟩
  |tup xs=>obtain⟨z,its,r,ob,e,c⟩:=x;exact⟨z,its,r,ob,k _ _ (.inl rfl) e,c⟩
  |dK kvs=>obtain⟨z,y,vs,r,ob,es,ep,e,c⟩:=x;exact⟨z,y,vs,r,ob,es,ep,k _ _ (.inl rfl) e,c⟩
  |dT ep kvs=>
    obtain⟨z,y,xs,r,ob,es,e,c⟩:=x
    exact⟨z,y,xs,Paired.mapP r fun p q z=>⟨z.1,ht _ _ z.2.1,z.2.2⟩,ob,es,k _ _ (.inl rfl) e,c⟩
  |set S n=>obtain⟨ob,es,ep,t,e,c⟩:=x;exact⟨ob,es,ep,t,k _ _ (.inl rfl) e,c⟩
  |ins C dx fs=>
    obtain⟨d,z,ne,e,mA,⟨od,es,ep,e2,c⟩,r⟩:=x
    exact⟨ho _ d,z,ne,k _ _ (.inl rfl) e,mA,⟨od,es,ep,k _ _ (.inr d) e2,c⟩,r⟩
  |own y=>obtain⟨ob,e⟩:=x;exact⟨ob,k _ _ (.inl rfl) e⟩
  |xd fs=>obtain⟨mA,⟨od,es,ep,e,c⟩,r⟩:=x;exact⟨mA,⟨od,es,ep,k _ _ (.inl rfl) e,c⟩,r⟩
  |rng lo hi=>obtain⟨t,u,v,e⟩:=x;exact⟨t,u,v,k _ _ (.inl rfl) e⟩
  |frz ob u ih=>obtain⟨e,q⟩:=x;exact⟨k _ _ (.inl rfl) e,ih q⟩
  |tbl ps=>
    have e:h.get? a=some { cls:=.none,data:=.fields ps }:=x
    show h'.get? a=some { cls:=.none,data:=.fields ps }
    exact k a _ (.inl rfl) e
  |lam q=>
    obtain⟨ps,e,t,f⟩:=x
    exact⟨ps,k _ _ (.inl rfl) e,t,fun p=>(f p).imp_right fun zq1=>by obtain⟨c,e1,e2⟩:=zq1;exact⟨c,e1,hc _ _ e2⟩⟩
  |cod q=>
    obtain⟨_,o,vs,t,e,e2,e3⟩:=x
    cases e
    exact⟨a,o,vs,t,rfl,k _ _ (.inl rfl) e2,e3⟩
  |met f y=>
    have e:h.get? a=some (W.methodObj (.ref f) (.ref y)):=x
    show h'.get? a=some (W.methodObj (.ref f) (.ref y))
    exact k a _ (.inl rfl) e
  |ext φ=>obtain⟨p,⟨o,e⟩,st⟩:=x;exact⟨st _ _ p fun o q=>k _ _ (.inl rfl) q,⟨o,k _ _ (.inl rfl) e⟩,st⟩
theorem nD.lt(x:nD P w H h)(e:H a=some o):a<h.objs.size:=(x a o e).lt
theorem nD.fresh(x:nD P w H h)(e:h.objs.size<=a):H a=none:=by
  cases q:H a with
  |none=>rfl
  |some u=>exact absurd (lt_of_lt_of_le (x.lt q) e) (lt_irrefl _)
theorem nD.kept(x:nD P w H h)(k:∀b u,h.get? b=some u->h'.get? b=some u):nD P w H h':=fun a o e=>
  (x a o e).stay (fun b u _ q=>k b u q) (fun _ q=>q) (fun _ _ q=>q) fun _ _ q=>q
theorem nD.laid(x:nD P w H h)(k:∀b u,h.get? b=some u->h'.get? b=some u)(hp:h.objs.size<=a)(new:cI P w (upd H a o) h' a o):nD P w (upd H a o) h':=fun b u e=>by
  have hn:=x.fresh hp
  by_cases hb:b=a
  . subst hb;rw[aY] at e;cases e;exact new
  . rw[aO hb] at e
    exact(x b u e).stay (fun c v _ q=>k c v q) (fun c q=>by rw[aO (aM q hn)];exact q) (fun c xs q=>by rw[aO (aM q hn)];exact q) fun c xs q=>by rw[aO (aM q hn)];exact q
end
noncomputable def Rd(H:Hp)(a:Addr)(u:HO):Prop:=H a=some u \/ ∃o,H a=some (.frz o u)
theorem Rd.ok{P:Program}{w:World}{H:Hp}{h:Heap}{a:Addr}{u:HO}(r:Rd H a u)(x:nD P w H h):cI P w H h a u:=by
  rcases r with r | ⟨o,r⟩
  . exact x a u r
  . obtain⟨_,q⟩:=x a _ r
    exact q
noncomputable def Dk:Option HO->Prop
  |some (.lst _)=>True
  |some (.dK _)=>True
  |some (.dT _ _)=>True
  |some (.set _ _)=>True
  |some (.ins _ _ _)=>True
  |some (.ext _)=>True
  |_=>False
section
variable {P:Program} {w:World} {H:Hp} {h h':Heap} {x e:Addr} {o':HO}
theorem nD.write(ok:nD P w H h)(mu:Dk (H x))(he:e=x \/ H e=some (.own x))(k:∀b u,b≠e->h.get? b=some u->h'.get? b=some u)(heo:∃u,h'.get? e=some u)
    (new:cI P w (upd H x o') h' x o'):nD P w (upd H x o') h':=fun b u q=>by
  have nown:∀c y,H c=some (.own y)->c≠x:=fun c y r z=>by subst z;rw[r] at mu;exact mu
  have ntup:∀c xs,H c=some (.tup xs)->c≠x:=fun c xs r z=>by subst z;rw[r] at mu;exact mu
  have ncod:∀c q,H c=some (.cod q)->c≠x:=fun c xs r z=>by subst z;rw[r] at mu;exact mu
  by_cases hb:b=x
  . subst hb;rw[aY] at q;cases q;exact new
  . rw[aO hb] at q
    by_cases hbe:b=e
    . have q':H b=some (.own x):=by
        rcases he with z | z
        . exact absurd (hbe.trans z) hb
        . rw[hbe];exact z
      rw[q] at q';cases q'
      obtain⟨v,hv⟩:=heo
      exact⟨v,by rw[hbe];exact hv⟩
    . refine(ok b u q).stay (fun c v hc r=>k c v ?_ r) (fun c r=>by rw[aO (nown c b r)];exact r) (fun c xs r=>by rw[aO (ntup c xs r)];exact r) fun c xs r=>by rw[aO (ncod c xs r)];exact r
      rcases hc with rfl | hc
      . exact hbe
      . rintro rfl
        rcases he with z | z
        . exact nown c b hc z
        . rw[hc] at z;cases z;exact hb rfl
end
structure Un(fs ex:List Addr)(H H':Hp)(h h':Heap):Prop where
  keep:∀b o,h.get? b=some o->H b=none->b ∉ fs->b ∉ ex->h'.get? b=some o
  slot:∀b o,h.get? b=some o->H b=none->b∈fs->b ∉ ex -> ∃sl,h'.get? b=some { o with slots:=sl }
  free:∀b o,h.get? b=some o->H b=none->b ∉ ex->H' b=none
  there:∀b o,h.get? b=some o->b ∉ ex -> ∃o',h'.get? b=some o'
  tups:∀b xs,H b=some (.tup xs)->H' b=some (.tup xs)
  frzs:∀b o u,H b=some (.frz o u)->H' b=some (.frz o u)
  tbls:∀b ps,H b=some (.tbl ps) -> ∃more,H' b=some (.tbl (ps++more))
section
variable {fs fs' ex ex':List Addr} {H H1 H2:Hp} {h h1 h2 h':Heap} {a x e:Addr} {o:HO}
theorem Un.any(u:Un fs ex H H1 h h1){b:Addr}{ob:Obj}(q:h.get? b=some ob)(n:H b=none)(hx:b ∉ ex):∃sl,h1.get? b=some { ob with slots:=sl }:=by
  by_cases hb:b∈fs
  . exact u.slot b ob q n hb hx
  . exact⟨ob.slots,u.keep b ob q n hb hx⟩
theorem Un.kept(k:∀b u,h.get? b=some u->h'.get? b=some u):Un fs ex H H h h':=
  ⟨fun b ob q _ _ _=>k b ob q,fun b ob q _ _ _=>⟨ob.slots,k b ob q⟩,fun _ _ _ n _=>n,fun b ob q _=>⟨ob,k b ob q⟩,fun _ _ q=>q,fun _ _ _ q=>q,fun _ ps q=>⟨#[],by rw[q];simp⟩⟩
theorem Un.refl:Un fs ex H H h h:=Un.kept fun _ _ q=>q
theorem Un.laid(k:∀b u,h.get? b=some u->h'.get? b=some u)(hp:h.objs.size<=a)(hn:H a=none):Un fs ex H (upd H a o) h h' where
  keep:=fun b u q _ _ _=>k b u q
  slot:=fun b u q _ _ _=>⟨u.slots,k b u q⟩
  free:=fun b u q n _=>by rw[aO (ne_of_lt (lt_of_lt_of_le (Heap.lt_size q) hp))];exact n
  there:=fun b u q _=>⟨u,k b u q⟩
  tups:=fun b xs q=>by rw[aO (aM q hn)];exact q
  frzs:=fun b u xs q=>by rw[aO (aM q hn)];exact q
  tbls:=fun b ps q=>⟨#[],by rw[aO (aM q hn),q];simp⟩
theorem Un.write(mu:Dk (H x))(he:e=x \/ H e=some (.own x))(k:∀b u,b≠e->h.get? b=some u->h'.get? b=some u)(heo:∃u,h'.get? e=some u):Un fs ex H (upd H x o) h h':=by
  have hx:∀b,H b=none->b≠x:=fun b n z=>by subst z;rw[n] at mu;exact mu
  have hb:∀b,H b=none->b≠e:=fun b n z=>by
    subst z
    rcases he with r | r
    . exact hx b n r
    . rw[n] at r;cases r
  have hm:∀b u,H b=some u -> ¬Dk (some u)->b≠x:=fun b u q nm z=>by subst z;rw[q] at mu;exact nm mu
  refine⟨fun b u q n _ _=>k b u (hb b n) q,fun b u q n _ _=>⟨u.slots,k b u (hb b n) q⟩,fun b u q n _=>by rw[aO (hx b n)];exact n,fun b u q _=>?_,
    fun b xs q=>by rw[aO (hm b _ q fun z=>z)];exact q,fun b u xs q=>by rw[aO (hm b _ q fun z=>z)];exact q,fun b ps q=>⟨#[],by rw[aO (hm b _ q fun z=>z),q];simp⟩⟩
  by_cases hbe:b=e
  . subst hbe;exact heo
  . exact⟨u,k b u hbe q⟩
end
noncomputable def trk(h:Heap)(H:Hp):List Addr:=(List.range h.objs.size).filter fun a=>(H a).isSome
noncomputable def wC(h:Heap)(H:Hp):Heap:=W.hideAll h (trk h H)
theorem DY(h:Heap)(H:Hp):(wC h H).objs.size=h.objs.size:=W.hideAll_size _ _
theorem sN{h:Heap}{H:Hp}{b:Addr}{o:Obj}(e:h.get? b=some o)(n:H b=none):(wC h H).get? b=some o:=
  W.hideAll_get _ e fun hm=>by
    have q:(H b).isSome=true:=(List.mem_filter.mp hm).2
    rw[n] at q;simp at q
theorem HS{h:Heap}{H:Hp}{b:Addr}{o:Obj}(e:(wC h H).get? b=some o):h.get? b=some o/\H b=none:=by
  have e':h.get? b=some o:=W.of_hideAll (trk h H) e
  refine⟨e',?_⟩
  cases q:H b with
  |none=>rfl
  |some x=>
    have hm:b∈trk h H:=List.mem_filter.mpr ⟨mem_range.mpr (Heap.lt_size e'),by simp[q]⟩
    have z:(wC h H).get? b=none:=W.hideAll_none (trk h H) hm
    rw[z] at e;cases e
structure Mod(K:W.Frag)(mg:Str->Option Value)(base:Heap):Prop where
  kin:K.In base
  glob:base.Ns mainGlobals mg
  blt:∃mb,base.Ns builtinsNs mb /\ ∀x:Str,x ≠ "__name__" -> mb x=bootBuiltins x
  nolimit:base.NoLimit
/-- the context: a def's body (or a comprehension's block) running. base: fixed through the whole law;s₀,HZ: the entry;outer: the frames whose slots others may change (a def's callers);stack: all frames that run;
   ex: iterators that were made ahead of the entry and are walked here (a comprehension's);fn: the names whose cells were made at the entry (a def: all;a comprehension's block: its own);calm: not within an except suite;pn: pj that every state bears;xe: what is wanted of an exception that leaves the code -/
structure Cx where
  prog:Program
  w:World
  K:W.Frag
  mg:Str->Option Value
  base:Heap
  A:Around
  N:List Str
  s₀:Shared
  HZ:Hp
  env:Env
  outer:List Env
  stack:List Env
  ex:List Addr
  fn:Str->Bool
  calm:Bool
  pn:List (Addr×Obj)
  xe:Value->Shared->Prop
  hs:List Addr
noncomputable def frs(l:List Env):List Addr:=l.filterMap (·.frame)
noncomputable abbrev Cx.fs(X:Cx):List Addr:=frs X.outer
noncomputable def Mo(sc:Scope)(x:Str):Prop:=sc.names.lookup x=some .local \/ sc.names.lookup x=some .cell \/ sc.names.lookup x=some .free
noncomputable def Do(sc:Scope)(x:Str):Prop:=sc.names.lookup x=some .local \/ sc.names.lookup x=some .cell
noncomputable def O6(env:Env)(h:Heap)(m:Str->Option Value)(x:Str)(u:Value):Prop:=
  (env.kindOf x=some .local/\m x=some u) \/ ((env.kindOf x=some .cell \/ env.kindOf x=some .free) /\ ∃c,env.cells.lookup x=some c/\h.IsCell c (some u))
structure Cx.Ok(X:Cx):Prop where
  mod:Mod X.K X.mg X.base
  kind:X.env.scope.kind=.function
  glob:X.env.globals=mainGlobals
  blt:X.env.builtins=builtinsNs
  above:X.s₀.heap.objs.size<=X.env.locals
  inj:∀x y c,X.env.cells.lookup x=some c->X.env.cells.lookup y=some c->x=y
  has:∀x,(X.env.kindOf x=some .cell \/ X.env.kindOf x=some .free) -> ∃c,X.env.cells.lookup x=some c
  cab:∀x c,X.fn x=true->X.env.cells.lookup x=some c->X.s₀.heap.objs.size<=c
  hd:X.calm=true->X.A.handled=none
  frames:X.A.frames=some X.stack
  stk:X.stack=X.outer \/ (X.stack=X.env::X.outer/\X.env.frame=some X.env.locals)
  exf:∀b∈X.ex,b≠X.env.locals /\ ∀x c,X.env.cells.lookup x=some c->c≠b
  bs:∀b o,X.base.get? b=some o->X.s₀.heap.get? b=some o/\X.HZ b=none
  bsz:X.base.objs.size<=X.s₀.heap.objs.size
  noex:∀b o,X.base.get? b=some o->b ∉ X.ex
  exfs:∀b∈X.ex,b ∉ X.fs
  funs:X.s₀.heap.FunFrames X.base X.outer
  frf:∀b∈X.fs,X.HZ b=none
  hq:X.A.handled=none \/ ∃a,a∈X.hs/\X.A.handled=some (.ref a)
structure Inv(X:Cx)(pj:List (Addr×Obj))(σ:List (Option V))(H:Hp)(s:Shared):Prop where
  ok:X.Ok
  os:s.os=X.s₀.os
  bare:AllBare s.gens
  base:Un X.fs X.ex X.HZ H X.s₀.heap s.heap
  loc:∃m,s.heap.Ns X.env.locals m /\ ∀(i:Nat) (x:Str) (v:V),X.N[i]?=some x->σ[i]?=some (some v)->Mo X.env.scope x -> ∃u,cJ v u/\O6 X.env s.heap m x u
  cell:∀x c,X.env.cells.lookup x=some c -> ∃v,s.heap.IsCell c v
  free:H X.env.locals=none
  freeC:∀x c,X.env.cells.lookup x=some c->H c=none
  pin:∀p∈X.pn++pj,s.heap.get? p.1=some p.2/\H p.1=none/\p.1≠X.env.locals/\p.1 ∉ X.fs /\ ∀v,p.2.data ≠ .cell v
  hok:nD X.prog X.w H s.heap
  len:σ.length=X.N.length
  mild:∀a∈X.hs,∃o u,H a=some (.frz o u)/\pU o
section
variable {X:Cx} {pj:List (Addr×Obj)} {σ:List (Option V)} {H H':Hp} {s:Shared} {h':Heap}
theorem Cx.Ok.nofr(ok:X.Ok){b:Addr}{o:Obj}(e:X.base.get? b=some o):b ∉ X.fs:=fun hb=>by
  have:=(ok.funs.mem hb).1
  rw[e] at this;cases this
theorem Inv.bs(I:Inv X pj σ H s):∀b o,X.base.get? b=some o->s.heap.get? b=some o/\H b=none:=fun b o e=>
  ⟨I.base.keep b o (I.ok.bs b o e).1 (I.ok.bs b o e).2 (I.ok.nofr e) (I.ok.noex b o e),I.base.free b o (I.ok.bs b o e).1 (I.ok.bs b o e).2 (I.ok.noex b o e)⟩
theorem Inv.qu(I:Inv X pj σ H s):Qu X.A s.heap:=by
  rcases I.ok.hq with e | ⟨a,ha,e⟩
  . exact .inl e
  . obtain⟨o,u,g,m⟩:=I.mild a ha
    obtain⟨ho,_⟩:=(show cI X.prog X.w H s.heap a (.frz o u) from I.hok a _ g)
    exact .inr ⟨a,o,e,ho,m⟩
theorem Inv.bk(I:Inv X pj σ H s):∀b o,X.base.get? b=some o->s.heap.get? b=some o:=fun b o e=>(I.bs b o e).1
theorem Inv.mod(I:Inv X pj σ H s):Mod X.K X.mg X.base:=I.ok.mod
theorem Inv.kIn(I:Inv X pj σ H s):X.K.In s.heap:=I.ok.mod.kin.keeps I.bk
theorem Inv.nolimit(I:Inv X pj σ H s):s.heap.NoLimit:=I.ok.mod.nolimit.keeps I.bk
theorem Inv.lt(I:Inv X pj σ H s):X.env.locals<s.heap.objs.size:=let ⟨_,hn,_⟩:=I.loc;hn.lt
theorem Inv.sz(I:Inv X pj σ H s):X.s₀.heap.objs.size<=s.heap.objs.size:=le_trans I.ok.above (le_of_lt I.lt)
theorem Inv.nofs(I:Inv X pj σ H s){a:Addr}(h:s.heap.objs.size<=a):a ∉ X.fs:=fun hb=>by
  obtain⟨_,o,ho,_⟩:=I.ok.funs.mem hb
  exact absurd (lt_of_lt_of_le (Heap.lt_size ho) (le_trans I.sz h)) (lt_irrefl _)
theorem Inv.cne(I:Inv X pj σ H s):∀x c,X.env.cells.lookup x=some c->c≠X.env.locals:=fun x c e z=>by
  obtain⟨v,o,ho,hd⟩:=I.cell x c e
  obtain⟨m,⟨o',es,ep,ho',hd',_⟩,_⟩:=I.loc
  rw[z,ho'] at ho;cases ho;rw[hd'] at hd;cases hd
theorem Inv.funs(I:Inv X pj σ H s):s.heap.FunFrames X.base X.outer:=by
  have all:∀(l:List Env),(∀b∈frs l,b∈X.fs)->X.s₀.heap.FunFrames X.base l->s.heap.FunFrames X.base l:=by
    intro l
    induction l with
    |nil=>intro _ _;trivial
    |cons env r ih=>
      intro hs hl
      obtain⟨hk,⟨L,o,hf,hn,ho,hd⟩,hr⟩:=hl
      have hL:L∈X.fs:=hs L (by unfold frs;rw[List.filterMap_cons,hf];exact mem_cons_self)
      obtain⟨sl,e⟩:=I.base.slot L o ho (I.ok.frf L hL) hL fun z=>I.ok.exfs L z hL
      exact⟨hk,⟨L,_,hf,hn,e,hd⟩,ih (fun b hb=>hs b (by unfold frs;rw[List.filterMap_cons,hf];exact mem_cons_of_mem _ hb)) hr⟩
  exact all X.outer (fun _ hb=>hb) I.ok.funs
theorem Inv.stack(I:Inv X pj σ H s):s.heap.FunFrames X.base X.stack:=by
  rcases I.ok.stk with e | ⟨e,hf⟩
  . rw[e];exact I.funs
  . rw[e]
    obtain⟨m,hn,_⟩:=I.loc
    refine .cons (by rw[I.ok.kind];decide) hf hn ?_ I.funs
    exact Heap.get?_none_of_le (le_trans I.ok.bsz I.ok.above)
theorem Inv.stkSub(I:Inv X pj σ H s):∀b∈frs X.stack,b∈X.env.locals::X.fs:=fun b hb=>by
  rcases I.ok.stk with e | ⟨e,hf⟩
  . rw[e] at hb;exact mem_cons_of_mem _ hb
  . rw[e] at hb
    unfold frs at hb
    rw[List.filterMap_cons,hf] at hb
    exact hb
theorem Inv.stkFree(I:Inv X pj σ H s):∀b∈frs X.stack,H b=none:=fun b hb=>by
  rcases mem_cons.mp (I.stkSub b hb) with e | hb
  . rw[e];exact I.free
  . obtain⟨_,o,ho,_⟩:=I.ok.funs.mem hb
    exact I.base.free b o ho (I.ok.frf b hb) fun z=>I.ok.exfs b z hb
theorem Inv.step{g':Array GenState}{t':Nat}{d':Drawn}{ch:List Addr}(I:Inv X pj σ H s)
    (hch:∀b∈ch,(b∈X.ex \/ X.s₀.heap.objs.size<=b)/\b≠X.env.locals/\(∀x c,X.env.cells.lookup x=some c->c≠b) /\ ∀p∈X.pn++pj,p.1≠b)
    (keep:∀b o,b≠X.env.locals->b ∉ X.fs->b ∉ ch->s.heap.get? b=some o->H b=none->h'.get? b=some o)
    (slot:∀b o,b≠X.env.locals->b∈X.fs->b ∉ ch->s.heap.get? b=some o->H b=none -> ∃sl,h'.get? b=some { o with slots:=sl }) (free:∀b o,b ∉ ch->s.heap.get? b=some o->H b=none->H' b=none)
    (there:∀b o,b ∉ ch->s.heap.get? b=some o -> ∃o',h'.get? b=some o')
    (tups:∀b xs,H b=some (.tup xs)->H' b=some (.tup xs)) (frzs:∀b o u,H b=some (.frz o u)->H' b=some (.frz o u)) (tbls:∀b ps,H b=some (.tbl ps) -> ∃more,H' b=some (.tbl (ps++more)))
    (ns:∀m,s.heap.Ns X.env.locals m->h'.Ns X.env.locals m) (hok:nD X.prog X.w H' h') (hg:AllBare g'):
    Inv X pj σ H' { s with heap:=h',gens:=g',drawn:=d',toks:=t' }:=by
  have neL:∀b o,X.s₀.heap.get? b=some o->b≠X.env.locals:=fun b o e=>ne_of_lt (lt_of_lt_of_le (Heap.lt_size e) I.ok.above)
  have neC:∀b o,X.s₀.heap.get? b=some o->b ∉ X.ex->b ∉ ch:=fun b o e hx hb=>by
    rcases(hch b hb).1 with z | z
    . exact hx z
    . exact absurd (lt_of_lt_of_le (Heap.lt_size e) z) (lt_irrefl _)
  have cellK:∀x c,X.env.cells.lookup x=some c -> ∀v,s.heap.IsCell c v->h'.IsCell c v:=fun x c e v zq2=>by
    obtain⟨o,ho,hd⟩:=zq2
    have nch:c ∉ ch:=fun z=>(hch c z).2.2.1 x c e rfl
    by_cases hc:c∈X.fs
    . obtain⟨sl,q⟩:=slot c o (I.cne x c e) hc nch ho (I.freeC x c e)
      exact⟨_,q,hd⟩
    . exact⟨o,keep c o (I.cne x c e) hc nch ho (I.freeC x c e),hd⟩
  refine⟨I.ok,I.os,hg,⟨fun b o e n hb hx=>?_,fun b o e n hb hx=>?_,fun b o e n hx=>?_,fun b o e hx=>?_,fun b xs e=>tups b xs (I.base.tups b xs e),fun b o xs e=>frzs b o xs (I.base.frzs b o xs e),fun b ps e=>?_⟩,?_,fun x c e=>?_,?_,fun x c e=>?_,fun p hp=>?_,hok,I.len,fun a ha=>let ⟨o,u,g,m⟩:=I.mild a ha;⟨o,u,frzs a o u g,m⟩⟩
  . exact keep b o (neL b o e) hb (neC b o e hx) (I.base.keep b o e n hb hx) (I.base.free b o e n hx)
  . obtain⟨sl,e1⟩:=I.base.slot b o e n hb hx
    obtain⟨sl',e2⟩:=slot b _ (neL b o e) hb (neC b o e hx) e1 (I.base.free b o e n hx)
    exact⟨sl',e2⟩
  . obtain⟨o',e1⟩:=I.base.there b o e hx
    exact free b o' (neC b o e hx) e1 (I.base.free b o e n hx)
  . obtain⟨o',e1⟩:=I.base.there b o e hx
    exact there b o' (neC b o e hx) e1
  . obtain⟨m1,e1⟩:=I.base.tbls b ps e
    obtain⟨m2,e2⟩:=tbls b _ e1
    exact⟨m1++m2,by rw[e2,Array.append_assoc]⟩
  . obtain⟨m,hn,hl⟩:=I.loc
    refine⟨m,ns m hn,fun i x v e1 e2 e3=>?_⟩
    obtain⟨u,r,l⟩:=hl i x v e1 e2 e3
    refine⟨u,r,?_⟩
    rcases l with l | ⟨k,c,e,z⟩
    . exact .inl l
    . exact .inr ⟨k,c,e,cellK x c e _ z⟩
  . obtain⟨v,z⟩:=I.cell x c e
    exact⟨v,cellK x c e v z⟩
  . obtain⟨m,⟨o,_,_,ho,_⟩,_⟩:=I.loc
    exact free _ o (fun z=>(hch _ z).2.1 rfl) ho I.free
  . obtain⟨v,o,ho,hd⟩:=I.cell x c e
    exact free c o (fun z=>(hch c z).2.2.1 x c e rfl) ho (I.freeC x c e)
  . obtain⟨e,n,ne,nf,d⟩:=I.pin p hp
    have nch:p.1 ∉ ch:=fun z=>(hch p.1 z).2.2.2 p hp rfl
    exact⟨keep p.1 p.2 ne nf nch e n,free p.1 p.2 nch e n,ne,nf,d⟩
theorem Inv.un{t':Nat}(I:Inv X pj σ H s)(u:Un X.fs [] H H' s.heap h')(hok:nD X.prog X.w H' h'):Inv X pj σ H' { s with heap:=h',toks:=t' }:=by
  obtain⟨m,⟨o,es,ep,ho,r⟩,_⟩:=id I.loc
  obtain⟨sl,hL⟩:=u.any ho I.free (by simp)
  exact I.step (g':=s.gens) (d':=s.drawn) (ch:=[]) (fun _ z=>nomatch z) (fun b o _ hb _ e n=>u.keep b o e n hb (by simp)) (fun b o _ hb _ e n=>u.slot b o e n hb (by simp)) (fun b o _ e n=>u.free b o e n (by simp)) (fun b o _ e=>u.there b o e (by simp)) u.tups u.frzs u.tbls (fun m' hm=>by
    obtain⟨o',es',ep',ho',r'⟩:=hm
    rw[ho] at ho';cases ho'
    exact⟨_,es',ep',hL,r'⟩) hok I.bare
theorem Inv.call{g':Array GenState}{t':Nat}{d':Drawn}{ch:List Addr}(I:Inv X pj σ H s)(u:Un (frs X.stack) ch H H' s.heap h')(hok:nD X.prog X.w H' h')(hg:AllBare g')
    (hch:∀b∈ch,(b∈X.ex \/ X.s₀.heap.objs.size<=b)/\b≠X.env.locals/\(∀x c,X.env.cells.lookup x=some c->c≠b) /\ ∀p∈X.pn++pj,p.1≠b):
    Inv X pj σ H' { s with heap:=h',gens:=g',drawn:=d',toks:=t' }:=by
  obtain⟨m,⟨o,es,ep,ho,r⟩,_⟩:=id I.loc
  obtain⟨sl,hL⟩:=u.any ho I.free fun z=>(hch _ z).2.1 rfl
  exact I.step (ch:=ch) hch (fun b o hL hb hc e n=>u.keep b o e n (fun z=>(mem_cons.mp (I.stkSub b z)).elim hL hb) hc) (fun b o _ _ hc e n=>u.any e n hc) (fun b o hc e n=>u.free b o e n hc) (fun b o hc e=>u.there b o e hc) u.tups u.frzs u.tbls (fun m' hm=>by
    obtain⟨o',es',ep',ho',r'⟩:=hm
    rw[ho] at ho';cases ho'
    exact⟨_,es',ep',hL,r'⟩) hok hg
theorem Inv.turned{t':Nat}{it:Addr}(I:Inv X pj σ H s)(k:∀b o,b≠it->s.heap.get? b=some o->h'.get? b=some o)(hn:H it=none)(hL:it≠X.env.locals)
    (h1:it∈X.ex \/ X.s₀.heap.objs.size<=it) (h2:∀x c,X.env.cells.lookup x=some c->c≠it) (h3:∀p∈X.pn++pj,p.1≠it):Inv X pj σ H { s with heap:=h',toks:=t' }:=by
  have nit:∀b u,H b=some u->b≠it:=fun b u e z=>by rw[z,hn] at e;cases e
  refine I.step (g':=s.gens) (d':=s.drawn) (ch:=[it]) (fun b hb=>?_) (fun b o _ _ hc e _=>k b o (fun z=>hc (by simp[z])) e) (fun b o _ _ hc e _=>⟨o.slots,k b o (fun z=>hc (by simp[z])) e⟩) (fun _ _ _ _ n=>n)
    (fun b o hc e=>⟨o,k b o (fun z=>hc (by simp[z])) e⟩) (fun _ _ e=>e) (fun _ _ _ e=>e) (fun b ps e=>⟨#[],by rw[e];simp⟩) (fun m hm=>?_) (fun b u e=>?_) I.bare
  . have e:b=it:=by simpa using hb
    subst e
    exact⟨h1,hL,h2,h3⟩
  . obtain⟨o,es,ep,ho,r⟩:=hm
    exact⟨o,es,ep,k _ o (Ne.symm hL) ho,r⟩
  . refine(I.hok b u e).stay (fun c v hc q=>k c v ?_ q) (fun _ q=>q) (fun _ _ q=>q) fun _ _ q=>q
    rcases hc with z | z
    . rw[z];exact nit b u e
    . exact nit c _ z
theorem Inv.tok(I:Inv X pj σ H s)(t:Nat):Inv X pj σ H { s with toks:=t }:=I.un (h':=s.heap) (t':=t) Un.refl I.hok
theorem Inv.kept{t':Nat}(I:Inv X pj σ H s)(k:∀b u,s.heap.get? b=some u->h'.get? b=some u):Inv X pj σ H { s with heap:=h',toks:=t' }:=I.un (Un.kept k) (I.hok.kept k)
theorem Inv.laid{a:Addr}{o:HO}{t':Nat}(I:Inv X pj σ H s)(k:∀b u,s.heap.get? b=some u->h'.get? b=some u)(hp:s.heap.objs.size<=a)(new:cI X.prog X.w (upd H a o) h' a o):
    Inv X pj σ (upd H a o) { s with heap:=h',toks:=t' }:=I.un (Un.laid k hp (I.hok.fresh hp)) (I.hok.laid k hp new)
theorem Inv.write{x e:Addr}{o:HO}{t':Nat}(I:Inv X pj σ H s)(mu:Dk (H x))(he:e=x \/ H e=some (.own x))(k:∀b u,b≠e->s.heap.get? b=some u->h'.get? b=some u)(heo:∃u,h'.get? e=some u)
    (new:cI X.prog X.w (upd H x o) h' x o):Inv X pj σ (upd H x o) { s with heap:=h',toks:=t' }:=I.un (Un.write mu he k heo) (I.hok.write mu he k heo new)
theorem Inv.pins_of{pins':List (Addr×Obj)}(I:Inv X pj σ H s)(h:∀p∈pins',s.heap.get? p.1=some p.2/\H p.1=none/\p.1≠X.env.locals/\p.1 ∉ X.fs /\ ∀v,p.2.data ≠ .cell v):Inv X pins' σ H s:=
  ⟨I.ok,I.os,I.bare,I.base,I.loc,I.cell,I.free,I.freeC,fun p hp=>(mem_append.mp hp).elim (fun z=>I.pin p (mem_append_left _ z)) (h p),I.hok,I.len,I.mild⟩
theorem yY{N:List Str}(hN:N.Nodup){i j:Nat}{x:Str}(a:N[i]?=some x)(b:N[j]?=some x):i=j:=by
  obtain⟨h1,e1⟩:=List.getElem?_eq_some_iff.mp a
  obtain⟨h2,e2⟩:=List.getElem?_eq_some_iff.mp b
  exact(List.getElem_inj hN).mp (e1.trans e2.symm)
theorem u8{M:Model}{A:Around}{E:Value->Shared->Prop}{i:Nat}{x:Str}{v:V}{u:Value}{Q:Unit->Shared->Prop}(I:Inv X pj σ H s)(hN:X.N.Nodup)(hi:X.N[i]?=some x)(hx:Do X.env.scope x)(r:cJ v u)
    (h:∀s',Inv X pj (σ.set i (some v)) H s'->(∃a,Heap.SameBut a s.heap s'.heap/\(a=X.env.locals \/ X.env.cells.lookup x=some a))->Q () s') (hf:autoParam (X.fn x=true \/ X.env.scope.names.lookup x=some .local) Dm._auto_1):wpAny M A (storeName X.env x u) Q E s:=by
  obtain⟨m,hn,hl⟩:=id I.loc
  have hcls:(X.env.scope.kind == .class || (X.env.scope.kind == .module&&X.env.locals != X.env.globals))=false:=by rw[I.ok.kind];rfl
  have hiσ:i<σ.length:=by rw[I.len];exact(List.getElem?_eq_some_iff.mp hi).1
  have cne:=I.cne
  have tracked:∀{a:Addr} {h':Heap},(∃o,s.heap.get? a=some o/\H a=none)->Heap.SameBut a s.heap h'->nD X.prog X.w H h':=fun {a h'} ha hs b ob e=>by
    obtain⟨_,_,hfree⟩:=ha
    refine(I.hok b ob e).stay (fun c w' hc q=>(hs.2 c ?_).trans q) (fun _ q=>q) (fun _ _ q=>q) fun _ _ q=>q
    rintro rfl
    rcases hc with rfl | hc
    . rw[hfree] at e;cases e
    . rw[hfree] at hc;cases hc
  rcases hx with hk | hk
  . refine wpAny_storeName_local hk hn (fun h' hn' hs=>?_) hcls
    obtain⟨oL,_,_,hoL,_⟩:=id hn
    refine h _ ⟨I.ok,I.os,I.bare,⟨fun b o e n hb hx=>?_,fun b o e n hb hx=>?_,I.base.free,fun b o e hx=>?_,I.base.tups,I.base.frzs,I.base.tbls⟩,⟨_,hn',fun j y v' e1 e2 e3=>?_⟩,fun y c e=>?_,I.free,I.freeC,fun p hp=>?_,tracked ⟨oL,hoL,I.free⟩ hs,by simpa using I.len,I.mild⟩ ⟨_,hs,.inl rfl⟩
    . exact(hs.2 b (ne_of_lt (lt_of_lt_of_le (Heap.lt_size e) I.ok.above))).trans (I.base.keep b o e n hb hx)
    . obtain⟨sl,e1⟩:=I.base.slot b o e n hb hx
      exact⟨sl,(hs.2 b (ne_of_lt (lt_of_lt_of_le (Heap.lt_size e) I.ok.above))).trans e1⟩
    . obtain⟨o',e1⟩:=I.base.there b o e hx
      exact⟨o',(hs.2 b (ne_of_lt (lt_of_lt_of_le (Heap.lt_size e) I.ok.above))).trans e1⟩
    . by_cases hj:j=i
      . subst hj
        rw[hi] at e1;cases e1
        rw[List.getElem?_set_self hiσ] at e2
        cases e2
        exact⟨u,r,.inl ⟨hk,by simp⟩⟩
      . rw[List.getElem?_set_ne (Ne.symm hj)] at e2
        obtain⟨u',r',q⟩:=hl j y v' e1 e2 e3
        refine⟨u',r',?_⟩
        rcases q with⟨k,e⟩ | ⟨k,c,e,z⟩
        . refine .inl ⟨k,?_⟩
          have:y≠x:=fun e=>hj (yY hN e1 (e ▸ hi))
          simp[this,e]
        . exact .inr ⟨k,c,e,z.sameBut hs (cne y c e)⟩
    . obtain⟨w',z⟩:=I.cell y c e
      exact⟨w',z.sameBut hs (cne y c e)⟩
    . obtain⟨e,n,ne,nf,d⟩:=I.pin p hp
      exact⟨(hs.2 p.1 ne).trans e,n,ne,nf,d⟩
  . have hfn:X.fn x=true:=by
      rcases hf with z | z
      . exact z
      . rw[z] at hk;cases hk
    obtain⟨c,hc⟩:=I.ok.has x (.inl hk)
    obtain⟨w',z⟩:=I.cell x c hc
    refine wpAny_storeName_cell I.ok.kind hk hc z (fun h' hc' hs=>?_)
    obtain⟨oc,hoc,hocd⟩:=id z
    refine h { s with heap:=h' } ⟨I.ok,I.os,I.bare,⟨fun b o e n hb hx=>?_,fun b o e n hb hx=>?_,I.base.free,fun b o e hx=>?_,I.base.tups,I.base.frzs,I.base.tbls⟩,⟨m,hn.sameBut hs (Ne.symm (cne x c hc)),fun j y v' e1 e2 e3=>?_⟩,fun y c' e=>?_,I.free,I.freeC,fun p hp=>?_,tracked ⟨oc,hoc,I.freeC x c hc⟩ hs,by simpa using I.len,I.mild⟩ ⟨c,hs,.inr hc⟩
    . exact(hs.2 b (ne_of_lt (lt_of_lt_of_le (Heap.lt_size e) (I.ok.cab x c hfn hc)))).trans (I.base.keep b o e n hb hx)
    . obtain⟨sl,e1⟩:=I.base.slot b o e n hb hx
      exact⟨sl,(hs.2 b (ne_of_lt (lt_of_lt_of_le (Heap.lt_size e) (I.ok.cab x c hfn hc)))).trans e1⟩
    . obtain⟨o',e1⟩:=I.base.there b o e hx
      exact⟨o',(hs.2 b (ne_of_lt (lt_of_lt_of_le (Heap.lt_size e) (I.ok.cab x c hfn hc)))).trans e1⟩
    . by_cases hj:j=i
      . subst hj
        rw[hi] at e1;cases e1
        rw[List.getElem?_set_self hiσ] at e2
        cases e2
        exact⟨u,r,.inr ⟨.inl hk,c,hc,hc'⟩⟩
      . rw[List.getElem?_set_ne (Ne.symm hj)] at e2
        obtain⟨u',r',q⟩:=hl j y v' e1 e2 e3
        refine⟨u',r',?_⟩
        rcases q with q | ⟨k,c',e,z'⟩
        . exact .inl q
        . refine .inr ⟨k,c',e,z'.sameBut hs ?_⟩
          rintro rfl
          exact hj (yY hN e1 (I.ok.inj _ _ _ e hc ▸ hi))
    . by_cases hcc:c'=c
      . subst hcc;exact⟨_,hc'⟩
      . obtain⟨w2,z2⟩:=I.cell y c' e
        exact⟨w2,z2.sameBut hs hcc⟩
    . obtain⟨e,n,ne,nf,d⟩:=I.pin p hp
      refine⟨(hs.2 p.1 ?_).trans e,n,ne,nf,d⟩
      intro q
      rw[q,hoc] at e
      have q':oc=p.2:=Option.some.inj e
      exact d w' (by rw[<- q'];exact hocd)
theorem rC{M:Model}{A:Around}{E:Value->Shared->Prop}{i:Nat}{x:Str}{v:V}{u:Value}{Q:Unit->Shared->Prop}(I:Inv X pj σ H s)(hN:X.N.Nodup)(hi:X.N[i]?=some x)(hx:Do X.env.scope x)(r:cJ v u)
    (h:∀s',Inv X pj (σ.set i (some v)) H s'->Q () s') (hf:autoParam (X.fn x=true \/ X.env.scope.names.lookup x=some .local) Dm._auto_1):wpAny M A (storeName X.env x u) Q E s:=
  u8 I hN hi hx r (fun s' I' _=>h s' I') hf
theorem Inv.call'{s':Shared}{ch:List Addr}(I:Inv X pj σ H s)(ho:s'.os=s.os)(u:Un (frs X.stack) ch H H' s.heap s'.heap)(hok:nD X.prog X.w H' s'.heap)(hg:AllBare s'.gens)
    (hch:∀b∈ch,(b∈X.ex \/ X.s₀.heap.objs.size<=b)/\b≠X.env.locals/\(∀x c,X.env.cells.lookup x=some c->c≠b) /\ ∀p∈X.pn++pj,p.1≠b):Inv X pj σ H' s':=by
  obtain⟨h',g',d',t',o'⟩:=s'
  have e:o'=s.os:=ho
  subst e
  exact I.call (g':=g') (t':=t') (d':=d') u hok hg hch
end
noncomputable abbrev XK:=Value->Option Addr->Hp->Prop
noncomputable abbrev St:=List (Option V)
noncomputable abbrev VK:=V->Hp->Prop
noncomputable abbrev TE:=St->Hp->VK->Prop
noncomputable abbrev TT:=St->Hp->(Bool->Hp->Prop)->Prop
noncomputable abbrev TA:=St->Hp->(List V->Hp->Prop)->Prop
structure Ends where
  nx:St->Hp->Prop
  rt:VK
  bk:St->Hp->Prop:=fun _ _=>False
  ct:St->Hp->Prop:=fun _ _=>False
noncomputable abbrev TS:=Ends->St->Hp->Prop
inductive EP(X:Cx)(pj:List (Addr×Obj))(σ:St)(Q:VK)(u:Value)(s':Shared):Prop
  |mk (v:V) (H':Hp) (I:Inv X pj σ H' s') (r:cJ v u) (q:Q v H')
inductive TP(X:Cx)(pj:List (Addr×Obj))(σ:St)(Q:Bool->Hp->Prop)(b:Bool)(s':Shared):Prop
  |mk (H':Hp) (I:Inv X pj σ H' s') (q:Q b H')
inductive AP(X:Cx)(pj:List (Addr×Obj))(σ:St)(Q:List V->Hp->Prop)(us:List Value)(s':Shared):Prop
  |mk (vs:List V) (H':Hp) (I:Inv X pj σ H' s') (r:bF vs us) (q:Q vs H')
inductive NP(X:Cx)(pj:List (Addr×Obj))(P:St->Hp->Prop)(s':Shared):Prop
  |mk (σ':St) (H':Hp) (I:Inv X pj σ' H' s') (q:P σ' H')
inductive RP(X:Cx)(pj:List (Addr×Obj))(P:VK)(u:Value)(s':Shared):Prop
  |mk (v:V) (σ':St) (H':Hp) (I:Inv X pj σ' H' s') (r:cJ v u) (q:P v H')
noncomputable def SP(X:Cx)(pj:List (Addr×Obj))(D:Ends)(f:Flow)(s':Shared):Prop:=
  match f with
  | .next=>NP X pj D.nx s'
  | .brk=>NP X pj D.bk s'
  | .cont=>NP X pj D.ct s'
  | .ret u=>RP X pj D.rt u s'
noncomputable def PE(X:Cx)(e:Expr)(t:TE):Prop:=
  ∀(pj:List (Addr×Obj)) (s:Shared) (σ:St) (H:Hp) (Q:VK),Inv X pj σ H s->t σ H Q->wpAny (model X.prog X.w) X.A (eval e X.env) (EP X pj σ Q) X.xe s
noncomputable def PT(X:Cx)(e:Expr)(t:TT):Prop:=
  ∀(pj:List (Addr×Obj)) (s:Shared) (σ:St) (H:Hp) (Q:Bool->Hp->Prop),Inv X pj σ H s->t σ H Q->wpAny (model X.prog X.w) X.A (isTrue e X.env (eval e X.env)) (TP X pj σ Q) X.xe s
noncomputable def PW(X:Cx)(e:Expr)(t:TT):Prop:=
  ∀(whole:Sem Value) (pj:List (Addr×Obj)) (s:Shared) (σ:St) (H:Hp) (Q:Bool->Hp->Prop),Inv X pj σ H s->t σ H Q->wpAny (model X.prog X.w) X.A (isTrue e X.env whole) (TP X pj σ Q) X.xe s
theorem PW.pt{X:Cx}{e:Expr}{t:TT}(h:PW X e t):PT X e t:=h _
noncomputable def PA(X:Cx)(es:List Expr)(t:TA):Prop:=
  ∀(pos:Pos) (pj:List (Addr×Obj)) (s:Shared) (σ:St) (H:Hp) (Q:List V->Hp->Prop),Inv X pj σ H s->t σ H Q->wpAny (model X.prog X.w) X.A (spliced (backTo pos (starEach es X.env))) (AP X pj σ Q) X.xe s
noncomputable def PS(X:Cx)(st:Stmt)(t:TS):Prop:=
  ∀(pj:List (Addr×Obj)) (s:Shared) (σ:St) (H:Hp) (D:Ends),Inv X pj σ H s->t D σ H->wpAny (model X.prog X.w) X.A (exec st X.env) (SP X pj D) X.xe s
noncomputable def xL(X:Cx)(st:List Stmt)(t:TS):Prop:=
  ∀(pj:List (Addr×Obj)) (s:Shared) (σ:St) (H:Hp) (D:Ends),Inv X pj σ H s->t D σ H->wpAny (model X.prog X.w) X.A (execs st X.env) (SP X pj D) X.xe s
theorem thn{α:Type}{t:Sem α}{Q Q':α->Shared->Prop}{M:Model}{A:Around}{E:Value->Shared->Prop}{s:Shared}(h:wpAny M A t Q E s)(hQ:∀a s,Q a s->Q' a s):wpAny M A t Q' E s:=wpAny_mono h hQ fun _ _ x=>x
section
variable {X:Cx}
noncomputable def AN(i:Nat):TE:=fun σ H Q=>∃v,σ[i]?=some (some v)/\Q v H
noncomputable def tC(v:V):TE:=fun _ H Q=>Q v H
theorem Jp{i:Nat}{x:Str}{pos:Pos}(hN:X.N[i]?=some x)(hv:Mo X.env.scope x)(hd:autoParam ((x==("__debug__" : Str))=false) nB._auto_1)(hcd:autoParam ((x==("__classdict__" : Str))=false) nB._auto_1):PE X (.Name x pos) (AN i):=by
  intro pj s σ H Q I h
  obtain⟨v,e,h⟩:=h
  obtain⟨m,hn,hl⟩:=I.loc
  obtain⟨u,r,l⟩:=hl i x v hN e hv
  have fin:EP X pj σ Q u s:=⟨v,H,I,r,h⟩
  rcases l with⟨hk,hm⟩ | ⟨hk,c,hc,hcell⟩
  . exact wpAny_Name (wpAny_loadName_local I.ok.kind hk hn hm fin) hd
  . rcases hk with hk | hk
    . exact wpAny_Name (wpAny_loadName_cell I.ok.kind hk hc hcell fin) hd
    . exact wpAny_Name (wpAny_loadName_free I.ok.kind hk hc hcell fin hcd) hd
theorem Jv{i j pos}:PE X (.Constant (.int i) j pos) (tC (.int i)):=fun _ _ _ H _ I h=>wpAny_Constant_int ⟨.int i,H,I.tok _,⟨_,rfl⟩,h⟩
theorem Lr{b j pos}:PE X (.Constant (.bool b) j pos) (tC (.bl b)):=fun _ _ _ H _ I h=>Constant_bool ⟨.bl b,H,I,rfl,h⟩
theorem Jt{j pos}:PE X (.Constant .none j pos) (tC .non):=fun _ _ _ H _ I h=>Constant_none ⟨.non,H,I,rfl,h⟩
noncomputable def Gl(X:Cx)(x:Str):Prop:=X.env.kindOf x=some .globalImplicit
theorem wA{E:Value->Shared->Prop}{pj:List (Addr×Obj)}{s:Shared}{σ:St}{H:Hp}{x:Str}{u:Value}{pos:Pos}{Q:Value->Shared->Prop}(I:Inv X pj σ H s)(hg:Gl X x)(hm:X.mg x=some u)(h:Q u s)
    (hd:autoParam ((x==("__debug__" : Str))=false) nB._auto_1):wpAny (model X.prog X.w) X.A (eval (.Name x pos) X.env) Q E s:=
  Calls.Name_function_global I.ok.kind hg (Calls.loadGlobal_global (by rw[I.ok.glob];exact I.mod.glob.keeps I.bk) hm h) hd
theorem iJ{E:Value->Shared->Prop}{pj:List (Addr×Obj)}{s:Shared}{σ:St}{H:Hp}{x:Str}{u:Value}{pos:Pos}{Q:Value->Shared->Prop}(I:Inv X pj σ H s)(hg:Gl X x)(hm:X.mg x=none)(hv:bootBuiltins x=some u)(h:Q u s)
    (hn:autoParam (x ≠ "__name__") nB._auto_1) (hd:autoParam ((x==("__debug__" : Str))=false) nB._auto_1):wpAny (model X.prog X.w) X.A (eval (.Name x pos) X.env) Q E s:=by
  obtain⟨mb,h1,h2⟩:=I.mod.blt
  exact Calls.Name_function_global I.ok.kind hg (Calls.loadGlobal_builtin (by rw[I.ok.glob];exact I.mod.glob.keeps I.bk) hm (by rw[I.ok.blt];exact h1.keeps I.bk) ((h2 x hn).trans hv) h) hd
theorem HJ{x:Str}{v:V}{u:Value}{pos:Pos}(hg:Gl X x)(hm:X.mg x=some u)(r:cJ v u)(hd:autoParam ((x==("__debug__" : Str))=false) nB._auto_1):PE X (.Name x pos) (tC v):=
  fun _ _ _ H _ I h=>wA I hg hm ⟨v,H,I,r,h⟩ hd
theorem jV{x:Str}{v:V}{u:Value}{pos:Pos}(hg:Gl X x)(hm:X.mg x=none)(hv:bootBuiltins x=some u)(r:cJ v u)(hn:autoParam (x ≠ "__name__") nB._auto_1)(hd:autoParam ((x==("__debug__" : Str))=false) nB._auto_1):PE X (.Name x pos) (tC v):=
  fun _ _ _ H _ I h=>iJ I hg hm hv ⟨v,H,I,r,h⟩ hn hd
variable {a b:Expr} {ta tb:TE} {pos:Pos}
variable {tA tB':TT} {rest:List Expr}
noncomputable def NR(t u:TT):TT:=fun σ H Q=>t σ H fun c H1=>if c=true then u σ H1 Q else Q false H1
noncomputable def OO(t u:TT):TT:=fun σ H Q=>t σ H fun c H1=>if c=true then Q true H1 else u σ H1 Q
noncomputable def NJ(t:TT):TT:=fun σ H Q=>t σ H fun c H1=>Q (!c) H1
theorem Gv(ha:PT X a tA):PW X (.BoolOp .And [a] pos) tA:=by
  intro wh pj s σ H Q I h
  refine isTrue_and (thn (ha pj s σ H Q I h) fun c s1 e=>?_)
  cases c with
  |true=>exact isTrue_and_nil e
  |false=>exact e
theorem Jc(ha:PT X a tA):PW X (.BoolOp .Or [a] pos) tA:=by
  intro wh pj s σ H Q I h
  refine isTrue_or (thn (ha pj s σ H Q I h) fun c s1 e=>?_)
  cases c with
  |false=>exact isTrue_or_nil e
  |true=>exact e
theorem Jd(ha:PT X a tA)(hb:PW X (.BoolOp .And (b::rest) pos) tB'):PW X (.BoolOp .And (a::b::rest) pos) (NR tA tB'):=by
  intro wh pj s σ H Q I h
  refine isTrue_and (thn (ha pj s σ H _ I h) fun c s1 zz=>?_)
  obtain⟨H1,I1,q1⟩:=zz
  cases c with
  |true=>exact hb wh pj s1 σ H1 Q I1 q1
  |false=>exact⟨H1,I1,q1⟩
theorem Ll(ha:PT X a tA)(hb:PW X (.BoolOp .Or (b::rest) pos) tB'):PW X (.BoolOp .Or (a::b::rest) pos) (OO tA tB'):=by
  intro wh pj s σ H Q I h
  refine isTrue_or (thn (ha pj s σ H _ I h) fun c s1 zz=>?_)
  obtain⟨H1,I1,q1⟩:=zz
  cases c with
  |true=>exact⟨H1,I1,q1⟩
  |false=>exact hb wh pj s1 σ H1 Q I1 q1
theorem Je(ha:PT X a tA):PT X (.UnaryOp .Not a pos) (NJ tA):=by
  intro pj s σ H Q I h
  exact isTrue_not (thn (ha pj s σ H (fun c H1=>Q (!c) H1) I h) fun c s' z=>by cases z;exact⟨_,by assumption,by assumption⟩)
noncomputable def LM(ta tb:TE):TE:=fun σ H Q=>ta σ H fun x H1=>∃c,x=.bl c/\if c=true then tb σ H1 Q else Q (.bl false) H1
noncomputable def NI(ta tb:TE):TE:=fun σ H Q=>ta σ H fun x H1=>∃c,x=.bl c/\if c=true then Q (.bl true) H1 else tb σ H1 Q
noncomputable def LF(ta:TE):TE:=fun σ H Q=>ta σ H fun x H1=>∃c,x=.bl c/\Q (.bl (!c)) H1
theorem Jr{op}{t:TE}(h:PE X a t):PE X (.BoolOp op [a] pos) t:=fun pj s σ H Q I hw=>BoolOp_one (h pj s σ H Q I hw)
theorem Jx(ha:PE X a ta)(hb:PE X (.BoolOp .And (b::rest) pos) tb):PE X (.BoolOp .And (a::b::rest) pos) (LM ta tb):=by
  intro pj s σ H Q I h
  refine BoolOp_and (thn (ha pj s σ H _ I h) fun v s1 zz=>?_)
  obtain⟨x,H1,I1,r1,q1⟩:=zz
  obtain⟨c,rfl,q1⟩:=q1
  cases r1
  refine wpAny_truthy_bool ?_
  cases c with
  |true=>exact hb pj s1 σ H1 Q I1 q1
  |false=>exact⟨.bl false,H1,I1,rfl,q1⟩
theorem Lo(ha:PE X a ta)(hb:PE X (.BoolOp .Or (b::rest) pos) tb):PE X (.BoolOp .Or (a::b::rest) pos) (NI ta tb):=by
  intro pj s σ H Q I h
  refine BoolOp_or (thn (ha pj s σ H _ I h) fun v s1 zz=>?_)
  obtain⟨x,H1,I1,r1,q1⟩:=zz
  obtain⟨c,rfl,q1⟩:=q1
  cases r1
  refine wpAny_truthy_bool ?_
  cases c with
  |false=>exact hb pj s1 σ H1 Q I1 q1
  |true=>exact⟨.bl true,H1,I1,rfl,q1⟩
theorem Js(ha:PE X a ta):PE X (.UnaryOp .Not a pos) (LF ta):=by
  intro pj s σ H Q I h
  refine UnaryOp_ (thn (ha pj s σ H _ I h) fun v s1 zz=>?_)
  obtain⟨x,H1,I1,r1,q1⟩:=zz
  obtain⟨c,rfl,q1⟩:=q1
  cases r1
  exact not_of (wpAny_truthy_bool ⟨.bl (!c),H1,I1,rfl,q1⟩)
end
noncomputable def eJ(K:W.Frag)(H:Hp)(a:Addr)(xs:List V):Prop:=
  Rd H a (.lst xs) \/
    ∃(o:Obj) (its:Array Value) (n:Nat),K.lookup a=some o/\o.cls=.type "list" /\ o.dict=none/\o.data=.seq its n/\its.size<=sizeLine/\bF xs its.toList
noncomputable def lY(K:W.Frag)(H:Hp)(a:Addr)(xs:List V):Prop:=
  Rd H a (.tup xs) \/
    ∃(o:Obj) (its:Array Value) (n:Nat),K.lookup a=some o/\o.cls=.type "tuple" /\ o.data=.seq its n/\its.size<=sizeLine/\bF xs its.toList
noncomputable def O1:Value->Option V
  | .none=>some .non
  | .bool b=>some (.bl b)
  | .int i _=>some (.int i)
  | .str x _=>some (.str x)
  | .bytes b _=>some (.byt b)
  | .float b _=>some (.flt b)
  | .ref a=>some (.ref a)
  | .type n=>some (.ty n)
  |_=>none
theorem cJ.abs{x:V}{u:Value}(r:cJ x u):O1 u=some x:=by
  cases x with
  |non=>cases r;rfl
  |bl _=>cases r;rfl
  |int _=>obtain⟨t,rfl⟩:=r;rfl
  |str _=>obtain⟨t,rfl⟩:=r;rfl
  |byt _=>obtain⟨t,rfl⟩:=r;rfl
  |flt _=>obtain⟨t,rfl⟩:=r;rfl
  |ref _=>cases r;rfl
  |ty _=>cases r;rfl
theorem cJ.inj{x y:V}{u:Value}(r:cJ x u)(q:cJ y u):x=y:=Option.some.inj (r.abs.symm.trans q.abs)
theorem bF.inj:∀{xs ys:List V} {us:List Value},bF xs us->bF ys us->xs=ys
  |_,_,_,.nil,.nil=>rfl
  |_,_,_,.cons r t,.cons r' t'=>by rw[r.inj r',bF.inj t t']
section
variable {X:Cx} {pj:List (Addr×Obj)} {σ:St} {H:Hp} {s:Shared} {a:Addr} {xs ys:List V}
theorem eJ.of{K:W.Frag}(h:H a=some (.lst xs)):eJ K H a xs:=.inl (.inl h)
theorem lY.of{K:W.Frag}(h:H a=some (.tup xs)):lY K H a xs:=.inl (.inl h)
theorem Inv.list(I:Inv X pj σ H s)(h:eJ X.K H a xs):∃its:List Value,bF xs its/\PlainL s.heap a its.toArray/\xs.length<=sizeLine:=by
  rcases h with h | ⟨o,its,n,hk,hc,hd,hs,hz,r⟩
  . obtain⟨z,its,n,r,e⟩:=h.ok I.hok
    exact⟨its,r,⟨_,n,e,rfl,rfl,rfl⟩,z⟩
  . refine⟨its.toList,r,⟨o,n,I.kIn a o hk,hc,hd,by simpa using hs⟩,?_⟩
    have e:=r.length
    simp only[length_toList] at e
    ac_rfl
theorem Inv.tuple(I:Inv X pj σ H s)(h:lY X.K H a xs):∃its:List Value,bF xs its/\IsTup s.heap a its.toArray/\xs.length<=sizeLine:=by
  rcases h with h | ⟨o,its,n,hk,hc,hs,hz,r⟩
  . obtain⟨z,its,r,p⟩:=h.ok I.hok
    exact⟨its,r,p,z⟩
  . refine⟨its.toList,r,⟨o,I.kIn a o hk,hc,n,by simpa using hs⟩,?_⟩
    have e:=r.length
    simp only[length_toList] at e
    ac_rfl
theorem Inv.list_inj(I:Inv X pj σ H s)(h:eJ X.K H a xs)(h':eJ X.K H a ys):xs=ys:=by
  obtain⟨its,r,⟨o,n,e,_,_,d⟩,_⟩:=I.list h
  obtain⟨its',r',⟨o',n',e',_,_,d'⟩,_⟩:=I.list h'
  rw[e] at e';cases e'
  rw[d] at d'
  injection d' with d1 _
  have:its=its':=by simpa using congrArg Array.toList d1
  subst this
  exact r.inj r'
theorem Inv.tuple_inj(I:Inv X pj σ H s)(h:lY X.K H a xs)(h':lY X.K H a ys):xs=ys:=by
  obtain⟨its,r,⟨o,e,_,n,d⟩,_⟩:=I.tuple h
  obtain⟨its',r',⟨o',e',_,n',d'⟩,_⟩:=I.tuple h'
  rw[e] at e';cases e'
  rw[d] at d'
  injection d' with d1 _
  have:its=its':=by simpa using congrArg Array.toList d1
  subst this
  exact r.inj r'
end
noncomputable abbrev Cx.wish(X:Cx)(E:Value->Shared->Prop):Cx:={ X with xe:=E }
noncomputable abbrev Cx.nox(X:Cx):Cx:=X.wish fun _ _=>False
theorem Cx.Ok.wish{X:Cx}(ok:X.Ok)(E:Value->Shared->Prop):(X.wish E).Ok:=
  ⟨ok.mod,ok.kind,ok.glob,ok.blt,ok.above,ok.inj,ok.has,ok.cab,ok.hd,ok.frames,ok.stk,ok.exf,ok.bs,ok.bsz,ok.noex,ok.exfs,ok.funs,ok.frf,ok.hq⟩
theorem Cx.Ok.unwish{X:Cx}{E:Value->Shared->Prop}(ok:(X.wish E).Ok):X.Ok:=
  ⟨ok.mod,ok.kind,ok.glob,ok.blt,ok.above,ok.inj,ok.has,ok.cab,ok.hd,ok.frames,ok.stk,ok.exf,ok.bs,ok.bsz,ok.noex,ok.exfs,ok.funs,ok.frf,ok.hq⟩
section
variable {X:Cx} {pj:List (Addr×Obj)} {σ:St} {H:Hp} {s:Shared} {E:Value->Shared->Prop}
theorem Inv.wish(I:Inv X pj σ H s)(E:Value->Shared->Prop):Inv (X.wish E) pj σ H s:=⟨I.ok.wish E,I.os,I.bare,I.base,I.loc,I.cell,I.free,I.freeC,I.pin,I.hok,I.len,I.mild⟩
theorem Inv.unwish(I:Inv (X.wish E) pj σ H s):Inv X pj σ H s:=⟨I.ok.unwish,I.os,I.bare,I.base,I.loc,I.cell,I.free,I.freeC,I.pin,I.hok,I.len,I.mild⟩
theorem SP.unwish{D:Ends}{f:Flow}{s':Shared}(h:SP (X.wish E) pj D f s'):SP X pj D f s':=by
  cases f with
  |next=>obtain⟨σ',H',I,q⟩:=h;exact⟨σ',H',I.unwish,q⟩
  |brk=>obtain⟨σ',H',I,q⟩:=h;exact⟨σ',H',I.unwish,q⟩
  |cont=>obtain⟨σ',H',I,q⟩:=h;exact⟨σ',H',I.unwish,q⟩
  |ret u=>obtain⟨v,σ',H',I,r,q⟩:=h;exact⟨v,σ',H',I.unwish,r,q⟩
theorem xL.nox{st:List Stmt}{t:TS}(h:xL X.nox st t):xL X st t:=fun pj s σ H D I hw=>
  wpAny_mono (h pj s σ H D (I.wish _) hw) (fun _ _ q=>q.unwish) fun _ _ z=>False.elim z
end
section
variable {X:Cx} {st:Stmt} {rest:List Stmt} {t u:TS} {e:Expr} {te:TE} {pos:Pos}
noncomputable def LH:TS:=fun D σ H=>D.nx σ H
noncomputable def NG(t u:TS):TS:=fun D σ H=>t { D with nx:=u D } σ H
theorem HC:xL X [] LH:=fun _ _ σ H _ I h=>wpAny_execs_nil ⟨σ,H,I,h⟩
theorem EU(h1:PS X st t)(h2:xL X rest u):xL X (st::rest) (NG t u):=by
  intro pj s σ H D I h
  refine wpAny_execs_cons (thn (h1 pj s σ H { D with nx:=u D } I h) fun f s1 q=>?_)
  cases f with
  |next=>
    obtain⟨σ',H',I',q⟩:=q
    exact h2 pj s1 σ' H' D I' q
  |ret v=>exact q
  |brk=>exact q
  |cont=>exact q
theorem HA(h1:PS X st t):xL X [st] t:=by
  intro pj s σ H D I h
  refine wpAny_execs_cons (thn (h1 pj s σ H D I h) fun f s1 q=>?_)
  cases f with
  |next=>exact wpAny_execs_nil q
  |ret v=>exact q
  |brk=>exact q
  |cont=>exact q
theorem Inv.quiet{pj:List (Addr×Obj)}{σ:St}{H:Hp}{s:Shared}(I:Inv X pj σ H s):interactive X.env=false:=by simp[interactive,I.ok.kind]
noncomputable def LJ(te:TE):TS:=fun D σ H=>te σ H fun _ H1=>D.nx σ H1
theorem vG(he:PE X e te)(hs:autoParam (swapsWith e none pos.line X.env=pure false) cB._auto_1):PS X (.Expr e pos) (LJ te):=by
  intro pj s σ H D I h
  exact wpAny_Expr_any (thn (he pj s σ H _ I h) fun v s1 zq3=>by obtain⟨x,H1,I1,r1,q1⟩:=zq3;exact⟨σ,H1,I1,q1⟩) I.quiet hs
noncomputable def NH(te:TE):TS:=fun D σ H=>te σ H D.rt
theorem Jg(he:PE X e te):PS X (.Return (some e) pos) (NH te):=by
  intro pj s σ H D I h
  exact wpAny_Return_some (thn (he pj s σ H _ I h) fun v s1 zq4=>by obtain⟨x,H1,I1,r1,q1⟩:=zq4;exact⟨x,σ,H1,I1,r1,q1⟩)
noncomputable def NL(c:TT)(t u:TS):TS:=fun D σ H=>c σ H fun b H1=>if b=true then t D σ H1 else u D σ H1
theorem Lm{c:Expr}{a b:List Stmt}{tc:TT}(hc:PT X c tc)(ha:xL X a t)(hb:xL X b u):PS X (.If c a b pos) (NL tc t u):=by
  intro pj s σ H D I h
  refine wpAny_If (thn (hc pj s σ H _ I h) fun d s1 zz=>?_)
  obtain⟨H1,I1,q1⟩:=zz
  cases d with
  |true=>exact ha pj s1 σ H1 D I1 q1
  |false=>exact hb pj s1 σ H1 D I1 q1
noncomputable def JS:TS:=fun _ _ _=>False
theorem EW:PS X st JS:=fun _ _ _ _ _ _ h=>h.elim
end
noncomputable abbrev TG:=V->St->Hp->(St->Hp->Prop)->Prop
noncomputable abbrev JK:=List V->St->Hp->(St->Hp->Prop)->Prop
noncomputable def PG(X:Cx)(target:Expr)(t:TG):Prop:=
  ∀(pj:List (Addr×Obj)) (s:Shared) (σ:St) (H:Hp) (v:V) (u:Value) (Q:St->Hp->Prop),Inv X pj σ H s->cJ v u->t v σ H Q ->
    wpAny (model X.prog X.w) X.A (assign target X.env u) (fun _ s'=>∃σ' H',Inv X pj σ' H' s'/\Q σ' H') X.xe s
noncomputable def N3(X:Cx)(ts:List Expr)(t:JK):Prop:=
  ∀(pj:List (Addr×Obj)) (s:Shared) (σ:St) (H:Hp) (vs:List V) (us:List Value) (Q:St->Hp->Prop),Inv X pj σ H s->bF vs us->t vs σ H Q ->
    wpAny (model X.prog X.w) X.A (assignInOrder ((assignEach ts X.env).map (·.2)) us) (fun _ s'=>∃σ' H',Inv X pj σ' H' s'/\Q σ' H') X.xe s
noncomputable abbrev tX:=V->V->Hp->VK->Prop
noncomputable def OY(X:Cx)(op:Operator)(t:tX):Prop:=
  ∀(pj:List (Addr×Obj)) (s:Shared) (σ:St) (H:Hp) (x y:V) (v u:Value) (Q:VK),Inv X pj σ H s->cJ x v->cJ y u->t x y H Q ->
    wpAny (model X.prog X.w) X.A (inplaceOp op v u) (EP X pj σ Q) X.xe s
section
variable {X:Cx} {pos:Pos}
noncomputable def zN(i:Nat):TG:=fun v σ H Q=>Q (σ.set i (some v)) H
theorem c6{i:Nat}{x:Str}(hN:X.N.Nodup)(hi:X.N[i]?=some x)(hx:Do X.env.scope x)(hf:autoParam (X.fn x=true \/ X.env.scope.names.lookup x=some .local) Dm._auto_1):PG X (.Name x pos) (zN i):=by
  intro pj s σ H v u Q I r h
  exact wpAny_assign_Name (rC I hN hi hx r (fun s' I'=>⟨_,H,I',h⟩) hf)
noncomputable def MO:JK:=fun vs σ H Q=>vs=[]/\Q σ H
noncomputable def JC(t:TG)(u:JK):JK:=fun vs σ H Q=>∃v r,vs=v::r/\t v σ H fun σ' H'=>u r σ' H' Q
theorem gL:N3 X [] MO:=by
  intro pj s σ H vs us Q I r h
  obtain⟨e,h⟩:=h
  subst e
  cases r
  exact assignInOrder_nil ⟨σ,H,I,h⟩
theorem bL{e:Expr}{es:List Expr}{t:TG}{u:JK}(h1:PG X e t)(h2:N3 X es u)
    (hs:autoParam ((assignEach (e::es) X.env).map (·.2)=assign e X.env::(assignEach es X.env).map (·.2)) cB._auto_1):N3 X (e::es) (JC t u):=by
  intro pj s σ H vs us Q I r h
  obtain⟨v,vr,e1,h⟩:=h
  subst e1
  cases r with
  |cons r rr=>
    rw[hs]
    refine assignInOrder_cons (thn (h1 pj s σ H _ _ _ I r h) fun _ s1 zz=>?_)
    obtain⟨σ1,H1,I1,q1⟩:=zz
    exact h2 pj s1 σ1 H1 _ _ Q I1 rr q1
noncomputable def Nu(K:W.Frag)(n:Nat)(t:JK):TG:=fun v σ H Q=>∃a xs,v=.ref a/\lY K H a xs/\xs.length=n/\t xs σ H Q
theorem Jo{es:List Expr}{k:Nat}{t:JK}{n:Nat}(hc:X.calm=true)(h:N3 X es t)
    (hn:autoParam ((assignEach es X.env).length=n) cB._auto_1) (hst:autoParam ((assignEach es X.env).findIdx? (·.1)=none) cB._auto_1):PG X (.Tuple es k pos) (Nu X.K n t):=by
  intro pj s σ H v u Q I r hw
  obtain⟨a,xs,e1,hq,hl,hw⟩:=hw
  subst e1
  cases r
  obtain⟨its,rv,ht,hz⟩:=I.tuple hq
  refine assign_Tuple_tuple (I.ok.hd hc) ht (by simp[hn,<- hl,rv.length]) hst fun h' hx=>?_
  have I1:Inv X pj σ H { s with heap:=h' }:=I.kept (t':=s.toks) fun b o e=>hx b o (ne_of_lt (Heap.lt_size e)) e
  exact h pj _ σ H xs _ Q I1 (by simpa using rv) hw
noncomputable def Gj(te:TE)(g:TG):TS:=fun D σ H=>te σ H fun x H1=>g x σ H1 D.nx
theorem Jk{tg e:Expr}{te:TE}{g:TG}(he:PE X e te)(hg:PG X tg g)(hs:autoParam (swapsWithSole [tg] e pos.line X.env=pure false) cB._auto_1)(hw:autoParam (swappedStores [tg] e X.env=pure none) cB._auto_1)
    (h1:autoParam ((assignEach [tg] X.env).map (·.2)=[assign tg X.env]) cB._auto_1):PS X (.Assign [tg] e pos) (Gj te g):=by
  intro pj s σ H D I h
  refine wpAny_Assign_stores (thn (he pj s σ H _ I h) fun v s1 ⟨x,H1,I1,r1,q1⟩=>?_) hs hw
  rw[h1]
  exact thn (hg pj s1 σ H1 x v _ I1 r1 q1) fun _ s2 q=>by obtain⟨σ',H',I',q⟩:=q;exact⟨σ',H',I',q⟩
theorem EV{i:Nat}{x:Str}{e:Expr}{te:TE}{pos':Pos}(hN:X.N.Nodup)(hi:X.N[i]?=some x)(hx:Do X.env.scope x)(he:PE X e te)(hs:autoParam (swapsWith e (some (.Name x pos')) pos.line X.env=pure false) cB._auto_1)(hf:autoParam (X.fn x=true \/ X.env.scope.names.lookup x=some .local) Dm._auto_1):
    PS X (.Assign [.Name x pos'] e pos) (Gj te (zN i)):=by
  intro pj s σ H D I h
  refine wpAny_Assign_Name (thn (he pj s σ H _ I h) fun v s1 ⟨y,H1,I1,r1,q1⟩=>?_) hs
  exact rC I1 hN hi hx r1 (fun s2 I2=>⟨_,H1,I2,q1⟩) hf
noncomputable def NQ(i:Nat)(te:TE)(ti:tX):TS:=fun D σ H=>∃x,σ[i]?=some (some x)/\te σ H fun y H1=>ti x y H1 fun z H2=>D.nx (σ.set i (some z)) H2
theorem Jj{i:Nat}{x:Str}{e:Expr}{te:TE}{op:Operator}{ti:tX}{pos':Pos}(hN:X.N.Nodup)(hi:X.N[i]?=some x)(hx:Do X.env.scope x)(he:PE X e te)(ho:OY X op ti)(hf:autoParam (X.fn x=true \/ X.env.scope.names.lookup x=some .local) Dm._auto_1):
    PS X (.AugAssign (.Name x pos') op e pos) (NQ i te ti):=by
  intro pj s σ H D I h
  obtain⟨v,e1,h⟩:=h
  obtain⟨m,hn,hl⟩:=I.loc
  have vis:Mo X.env.scope x:=by rcases hx with k | k;exact .inl k;exact .inr (.inl k)
  obtain⟨u,r,l⟩:=hl i x v hi e1 vis
  refine wpAny_AugAssign_Name ?_
  have go:wpAny (model X.prog X.w) X.A (eval e X.env) (fun w s₂=>wpAny (model X.prog X.w) X.A (inplaceOp op u w) (fun r s₃=>wpAny (model X.prog X.w) X.A (storeName X.env x r) (fun _=>SP X pj D .next) X.xe s₃) X.xe s₂) X.xe s:=by
    refine thn (he pj s σ H _ I h) fun w s1 zz=>?_
    obtain⟨y,H1,I1,r1,q1⟩:=zz
    refine thn (ho pj s1 σ H1 v y u w _ I1 r r1 q1) fun z s2 zz=>?_
    obtain⟨zv,H2,I2,r2,q2⟩:=zz
    exact rC I2 hN hi hx r2 (fun s3 I3=>⟨_,H2,I3,q2⟩) hf
  rcases l with⟨hk,hm⟩ | ⟨hk,c,hc,hcell⟩
  . exact wpAny_loadName_local I.ok.kind hk hn hm go
  . rcases hk with hk | hk
    . exact wpAny_loadName_cell I.ok.kind hk hc hcell go
    . rcases hx with k | k
      . have:X.env.scope.names.lookup x=some .free:=hk
        rw[k] at this;cases this
      . have:X.env.scope.names.lookup x=some .free:=hk
        rw[k] at this;cases this
end
structure It where
  go:Nat->Hp->Prop
  yld:Nat->Hp->V->Hp->Prop
  stop:Nat->Hp->Prop
noncomputable def t9(X:Cx)(pj:List (Addr×Obj))(H:Hp)(b:Addr):Prop:=
  H b=none/\b≠X.env.locals/\b ∉ X.fs/\(b∈X.ex \/ X.s₀.heap.objs.size<=b)/\(∀x c,X.env.cells.lookup x=some c->c≠b) /\ ∀p∈X.pn++pj,p.1≠b
theorem Inv.fpOk{X:Cx}{pj:List (Addr×Obj)}{σ:St}{H H':Hp}{s:Shared}{b:Addr}(I:Inv X pj σ H s)(hb:s.heap.objs.size<=b)(hn:H' b=none):t9 X pj H' b:=by
  refine⟨hn,ne_of_gt (lt_of_lt_of_le I.lt hb),I.nofs hb,.inr (le_trans I.sz hb),fun x c e z=>?_,fun p hp z=>?_⟩
  . obtain⟨v,q⟩:=I.cell x c e
    exact absurd (lt_of_lt_of_le q.lt (by rw[z];exact hb)) (lt_irrefl _)
  . exact absurd (lt_of_lt_of_le (Heap.lt_size (I.pin p hp).1) (by rw[z];exact hb)) (lt_irrefl _)
structure Turn(P:Program)(w:World)(K:W.Frag)(tg:Expr)(J:It)(fp:List Addr)(it:Addr)(tn:Nat->Heap->Prop):Prop where
  mem:it∈fp
  obj:∀i h,tn i h -> ∀b∈fp,∃o,h.get? b=some o /\ ∀v,o.data ≠ .cell v
  keep:∀i h h',tn i h->(∀b∈fp,∀o,h.get? b=some o->h'.get? b=some o)->tn i h'
  item:∀(X:Cx),X.prog=P->X.w=w->X.K=K->X.N=X.N -> ∀(i:Nat) (pj:List (Addr×Obj)) (s:Shared) (σ:St) (H:Hp) (E:Value->Shared->Prop),Inv X pj σ H s->(∀b∈fp,t9 X pj H b)->tn i s.heap->J.go i H ->
    wpAny (model P w) X.A (pyNext (.ref it)) (fun r s1=>∃u,r=some u /\
      wpAny (model P w) X.A (letOwnedTupleGo tg (.ref it) u) (fun _ s2=>∃x H',Inv X pj σ H' s2/\cJ x u/\J.yld i H x H'/\tn (i+1) s2.heap /\ ∀b∈fp,H' b=none) E s1) E s
  done:∀(X:Cx),X.prog=P->X.w=w->X.K=K->X.N=X.N -> ∀(i:Nat) (pj:List (Addr×Obj)) (s:Shared) (σ:St) (H:Hp) (E:Value->Shared->Prop),Inv X pj σ H s->(∀b∈fp,t9 X pj H b)->tn i s.heap->J.stop i H ->
    wpAny (model P w) X.A (pyNext (.ref it)) (fun r s1=>r=none/\Inv X pj σ H s1) E s
  self:∀(A:Around) (i:Nat) (s:Shared) (Q:Value->Shared->Prop) (E:Value->Shared->Prop),tn i s.heap->Q (.ref it) s->wpAny (model P w) A (pyIter (.ref it)) Q E s
noncomputable abbrev TI:=St->Hp->(It->Hp->Prop)->Prop
noncomputable def OG(X:Cx)(pj:List (Addr×Obj))(σ:St)(tg:Expr)(R:It->Hp->Prop)(itv:Value)(s2:Shared):Prop:=
  ∃(it:Addr) (fp:List Addr) (tn:Nat->Heap->Prop) (J:It) (H':Hp),itv=.ref it/\Inv X pj σ H' s2/\Turn X.prog X.w X.K tg J fp it tn/\tn 0 s2.heap/\(∀b∈fp,t9 X pj H' b)/\R J H'
noncomputable def PI(X:Cx)(tg iter:Expr)(wi:TI):Prop:=
  ∀(pj:List (Addr×Obj)) (s:Shared) (σ:St) (H:Hp) (R:It->Hp->Prop),Inv X pj σ H s->wi σ H R ->
    wpAny (model X.prog X.w) X.A (eval iter X.env) (fun v s1=>wpAny (model X.prog X.w) X.A (pyIter v) (OG X pj σ tg R) X.xe s1) X.xe s
theorem uP{M:Model}{A:Around}{E:Value->Shared->Prop}{s:Shared}{tg:Expr}{it:Addr}{u:Value}{o:Obj}{n:String}{vs:Array Value}{Q:Unit->Shared->Prop}(ho:s.heap.get? it=some o)(hc:o.cls=.type n)(hd:o.data=.fields vs)
    (hn:["enumerate", "zip", "dict_itemiterator", "dict_reverseitemiterator", "odict_iterator", "itertools.zip_longest", "itertools.pairwise"].contains n=false) (hQ:Q () s):wpAny M A (letOwnedTupleGo tg (.ref it) u) Q E s:=by
  unfold letOwnedTupleGo
  cases tg<;>first
    |exact wpAny_pure hQ
    | (cases u<;>first
        |exact wpAny_pure hQ
        | (refine wpAny_bind (wpAny_load ho ?_)
           rw[hc,hd]
           show wpAny M A (if (["enumerate", "zip", "dict_itemiterator", "dict_reverseitemiterator", "odict_iterator", "itertools.zip_longest", "itertools.pairwise"].contains n&&vs[0]?==some (rawInt _))=true then _ else _) Q E s
           rw[if_neg (by intro h;rw[hn,Bool.false_and] at h;cases h)]
           exact wpAny_pure hQ))
noncomputable def N7(K:W.Frag)(a:Addr):It:=
  ⟨fun i H=>∃xs x,eJ K H a xs/\xs[i]?=some x,fun i H x H'=>H'=H /\ ∀xs,eJ K H a xs->xs[i]?=some x,fun i H=>∃xs,eJ K H a xs/\xs.length<=i⟩
noncomputable def O8(K:W.Frag)(a:Addr):It:=
  ⟨fun i H=>∃xs x,lY K H a xs/\xs[i]?=some x,fun i H x H'=>H'=H /\ ∀xs,lY K H a xs->xs[i]?=some x,fun i H=>∃xs,lY K H a xs/\xs.length<=i⟩
noncomputable def N6(lo:Int)(n:Nat):It:=⟨fun i _=>i<n,fun i H x H'=>H'=H/\x=.int (lo+i),fun i _=>n<=i⟩
theorem CY{P:Program}{w:World}{K:W.Frag}{tg:Expr}(a it:Addr):Turn P w K tg (N7 K a) [it] it (fun i h=>h.IsListIter it a i) where
  mem:=by simp
  obj:=fun i h st b hb=>by
    have e:b=it:=by simpa using hb
    subst e
    obtain⟨o,e,c,d⟩:=st
    exact⟨o,e,fun v z=>by rw[d] at z;cases z⟩
  keep:=fun i h h' st k=>st.at fun o e=>k it (by simp) o e
  item:=by
    intro X hP hw hK hc i pj s σ H E I hf st hg
    subst hP hw hK
    obtain⟨xs,x,hq,hx⟩:=hg
    obtain⟨its,rv,p,hz⟩:=I.list hq
    obtain⟨u,hu,ru⟩:=rv.get hx
    obtain⟨f0,f1,f2,f3,f4,f5⟩:=hf it (by simp)
    refine wpAny_pyNext_list_item st p.isList (x:=u) (by simpa using hu) fun h' st' sb=>?_
    have I1:Inv X pj σ H { s with heap:=h' }:=I.turned (t':=s.toks) (fun b o hb e=>(sb.2 b hb).trans e) f0 f1 f3 f4 f5
    obtain⟨o,e,c,d⟩:=id st'
    exact⟨u,rfl,uP (s:={ s with heap:=h' }) e c d ∅ ⟨x,H,I1,ru,⟨rfl,fun ys hy=>by rw[I.list_inj hy hq];exact hx⟩,st',fun b hb=>(hf b hb).1⟩⟩
  done:=by
    intro X hP hw hK hc i pj s σ H E I hf st hg
    subst hP hw hK
    obtain⟨xs,hq,hx⟩:=hg
    obtain⟨its,rv,p,hz⟩:=I.list hq
    obtain⟨f0,f1,f2,f3,f4,f5⟩:=hf it (by simp)
    have hl:=rv.length
    exact zP I.qu st p.isList (by simp;ac_rfl) fun h' eb=>⟨rfl,I.turned (t':=s.toks) (fun b o hb e=>eb b o hb e) f0 f1 f3 f4 f5⟩
  self:=fun _ _ _ _ _ st h=>wpAny_pyIter_listiter st h
theorem AD{P:Program}{w:World}{K:W.Frag}{tg:Expr}(a it:Addr):Turn P w K tg (O8 K a) [it] it (fun i h=>h.IsTupleIter it a i) where
  mem:=by simp
  obj:=fun i h st b hb=>by
    have e:b=it:=by simpa using hb
    subst e
    obtain⟨o,e,c,d⟩:=st
    exact⟨o,e,fun v z=>by rw[d] at z;cases z⟩
  keep:=fun i h h' st k=>st.at fun o e=>k it (by simp) o e
  item:=by
    intro X hP hw hK hc i pj s σ H E I hf st hg
    subst hP hw hK
    obtain⟨xs,x,hq,hx⟩:=hg
    obtain⟨its,rv,p,hz⟩:=I.tuple hq
    obtain⟨u,hu,ru⟩:=rv.get hx
    obtain⟨f0,f1,f2,f3,f4,f5⟩:=hf it (by simp)
    refine wpAny_pyNext_tuple_item st (show s.heap.IsTuple a its.toArray from p) (x:=u) (by simpa using hu) fun h' st' sb=>?_
    have I1:Inv X pj σ H { s with heap:=h' }:=I.turned (t':=s.toks) (fun b o hb e=>(sb.2 b hb).trans e) f0 f1 f3 f4 f5
    obtain⟨o,e,c,d⟩:=id st'
    exact⟨u,rfl,uP (s:={ s with heap:=h' }) e c d ∅ ⟨x,H,I1,ru,⟨rfl,fun ys hy=>by rw[I.tuple_inj hy hq];exact hx⟩,st',fun b hb=>(hf b hb).1⟩⟩
  done:=by
    intro X hP hw hK hc i pj s σ H E I hf st hg
    subst hP hw hK
    obtain⟨xs,hq,hx⟩:=hg
    obtain⟨its,rv,p,hz⟩:=I.tuple hq
    obtain⟨f0,f1,f2,f3,f4,f5⟩:=hf it (by simp)
    have hl:=rv.length
    exact Db I.qu st (show s.heap.IsTuple a its.toArray from p) (by simp;ac_rfl) fun h' eb=>⟨rfl,I.turned (t':=s.toks) (fun b o hb e=>eb b o hb e) f0 f1 f3 f4 f5⟩
  self:=fun _ _ _ _ _ st h=>wpAny_pyIter_tupleiter st h
theorem AE{P:Program}{w:World}{K:W.Frag}{tg:Expr}(it:Addr)(lo:Int)(n:Nat):Turn P w K tg (N6 lo n) [it] it (fun i h=>IsRangeIter h it (lo+(i:Nat)*1) ((n:Int)-(i:Nat)) 1) where
  mem:=by simp
  obj:=fun i h st b hb=>by
    have e:b=it:=by simpa using hb
    subst e
    exact⟨_,st,fun v z=>by
      have z':Data.fields _=Data.cell v:=z
      cases z'⟩
  keep:=fun i h h' st k=>k it (by simp) _ st
  item:=by
    intro X hP hw hK hc i pj s σ H E I hf st hg
    subst hP hw hK
    obtain⟨f0,f1,f2,f3,f4,f5⟩:=hf it (by simp)
    refine sJ hg st fun v h' tk hv st' kk=>?_
    obtain⟨t,rfl⟩:=hv
    have I1:Inv X pj σ H { s with heap:=h',toks:=tk }:=I.turned (fun b o hb e=>kk b o (by simpa using hb) e) f0 f1 f3 f4 f5
    refine⟨_,rfl,uP (s:={ s with heap:=h',toks:=tk }) (n:="range_iterator") st' rfl rfl ∅ ⟨.int (lo+i),H,I1,⟨t,?_⟩,⟨rfl,rfl⟩,st',fun b hb=>(hf b hb).1⟩⟩
    rw[Int.mul_one]
  done:=by
    intro X hP hw hK hc i pj s σ H E I hf st hg
    subst hP hw hK
    obtain⟨f0,f1,f2,f3,f4,f5⟩:=hf it (by simp)
    exact uR I.qu st (by have:n<=i:=hg;ac_rfl) fun h' eb=>⟨rfl,I.turned (t':=s.toks) (fun b o hb e=>eb b o hb e) f0 f1 f3 f4 f5⟩
  self:=fun _ _ _ _ _ st h=>wpAny_pyIter_rangeiter st h
section
variable {X:Cx} {tg:Expr}
theorem y4{pj:List (Addr×Obj)}{σ:St}{H:Hp}{s:Shared}{R:It->Hp->Prop}{E:Value->Shared->Prop}{lo hi:Int}{t u v:Tok}{tk:Nat}(I:Inv X pj σ H s)(h1:-(2 ^ 62)<=lo)(h2:lo<2 ^ 62)(h3:-(2 ^ 62)<=hi)(h4:hi<2 ^ 62)
    (q:R (N6 lo (hi-lo).toNat) H):wpAny (model X.prog X.w) X.A (pyIter (.ref s.heap.objs.size)) (OG X pj σ tg R) E { s with heap:=s.heap.push { cls:=.type "range",data:=.fields #[.int lo t,.int hi u,.int 1 v] },toks:=tk }:=by
  refine wpAny_pyIter_range (IsRange.new ..) (small_one h1 h2 h3 h4) ?_
  have I1:Inv X pj σ H { s with heap:=s.heap.push { cls:=.type "range",data:=.fields #[.int lo t,.int hi u,.int 1 v] },toks:=tk }:=I.kept fun b o e=>Heap.get?_push_of_some _ e
  refine⟨(s.heap.push { cls:=.type "range",data:=.fields #[.int lo t,.int hi u,.int 1 v] }).objs.size,[(s.heap.push { cls:=.type "range",data:=.fields #[.int lo t,.int hi u,.int 1 v] }).objs.size],_,_,H,rfl,
    I1.kept (t':=tk) fun b o e=>Heap.get?_push_of_some _ e,AE _ lo (hi-lo).toNat,?_,fun b hb=>?_,q⟩
  . have e1:lo+((0:Nat):Int)*1=lo:=by simp
    have e2:(((hi-lo).toNat:Nat):Int)-((0:Nat):Int)=Builtin.Range.rangeSize lo hi 1:=by rw[rangeSize_one];split<;>ac_rfl
    show IsRangeIter _ _ (lo+((0:Nat):Int)*1) ((((hi-lo).toNat:Nat):Int)-((0:Nat):Int)) 1
    rw[e1,e2]
    exact Heap.get?_push_size _ rfl
  . have e:b=(s.heap.push { cls:=.type "range",data:=.fields #[.int lo t,.int hi u,.int 1 v] }).objs.size:=by simpa using hb
    subst e
    exact I1.fpOk (le_refl _) (I1.hok.fresh (le_refl _))
noncomputable def ME(ta:TA):TI:=fun σ H R=>ta σ H fun vs H1=>∃j:Int,vs=[.int j] /\ -(2 ^ 62)<=j/\j<2 ^ 62/\R (N6 0 j.toNat) H1
noncomputable def MD(ta:TA):TI:=fun σ H R=>ta σ H fun vs H1=>∃i j:Int,vs=[.int i,.int j]/\(-(2 ^ 62)<=i/\i<2 ^ 62 /\ -(2 ^ 62)<=j/\j<2 ^ 62)/\R (N6 i (j-i).toNat) H1
theorem Cp{a:Expr}{ta:TA}{p pos:Pos}(hg:Gl X "range")(hm:X.mg "range" = none)(ha:PA X [a] ta)(hs:autoParam (starEach [a] X.env=[(false,eval a X.env)]) cB._auto_1):PI X tg (.Call (.Name "range" p) [a] [] pos) (ME ta):=by
  intro pj s σ H R I h
  refine Call_ (iJ I hg hm boot_range (PyProof.Rows.callWith_type1 (thn (ha pos pj s σ H _ I h) fun us s1 ⟨vs,H1,I1,r1,q1⟩=>?_) hs rfl))
  obtain⟨j,e,q1,q2,q⟩:=q1
  subst e
  cases r1 with
  |cons r rr=>
    cases rr
    obtain⟨t,rfl⟩:=r
    exact call_range_1 (y4 I1 ⋯ ⋯ q1 q2 (by simpa using q))
theorem Co{a b:Expr}{ta:TA}{p pos:Pos}(hg:Gl X "range")(hm:X.mg "range" = none)(ha:PA X [a,b] ta)(hs:autoParam (starEach [a,b] X.env=[(false,eval a X.env),(false,eval b X.env)]) cB._auto_1)(hs2:autoParam (starEach [b] X.env=[(false,eval b X.env)]) cB._auto_1):
    PI X tg (.Call (.Name "range" p) [a,b] [] pos) (MD ta):=by
  intro pj s σ H R I h
  refine Call_ (iJ I hg hm boot_range (PyProof.Rows.callWith_type1 (thn (ha pos pj s σ H _ I h) fun us s1 ⟨vs,H1,I1,r1,q1⟩=>?_) (by rw[hs,hs2]) (by rw[hs2];rfl)))
  obtain⟨i,j,e,⟨q1,q2,q3,q4⟩,q⟩:=q1
  subst e
  cases r1 with
  |cons r rr=>
    cases rr with
    |cons r' rr=>
      cases rr
      obtain⟨t,rfl⟩:=r
      obtain⟨t',rfl⟩:=r'
      exact call_range_2 (y4 I1 q1 q2 q3 q4 q)
noncomputable def NM(wi:TI)(g:TG)(tb:TS):TS:=fun D σ H=>wi σ H fun J H1=>∃W:Nat->Nat->St->Hp->Prop,(∃m,W 0 m σ H1) /\ ∀i m σ H,W i m σ H ->
  (J.stop i H/\D.nx σ H) \/ (J.go i H /\ ∃N:St->Hp->Prop,(∀σ' H',N σ' H' -> ∃m',m'<m/\W (i+1) m' σ' H') /\ ∀x H',J.yld i H x H'->g x σ H' fun σ2 H2=>tb { D with nx:=N,ct:=N,bk:=D.nx } σ2 H2)
noncomputable def rX(fp:List Addr)(h:Heap):List (Addr×Obj):=fp.filterMap fun b=>(h.get? b).map fun o=>(b,o)
theorem jY{fp:List Addr}{h:Heap}{b:Addr}{o:Obj}(hb:b∈fp)(e:h.get? b=some o):(b,o)∈rX fp h:=List.mem_filterMap.mpr ⟨b,hb,by rw[e];rfl⟩
theorem D3{fp:List Addr}{h:Heap}{p:Addr×Obj}(hp:p∈rX fp h):p.1∈fp/\h.get? p.1=some p.2:=by
  obtain⟨b,hb,e⟩:=List.mem_filterMap.mp hp
  cases q:h.get? b with
  |none=>rw[q] at e;cases e
  |some o=>
    rw[q] at e
    have e':(b,o)=p:=Option.some.inj e
    subst e'
    exact⟨hb,q⟩
theorem Inv.pinned{pj:List (Addr×Obj)}{σ:St}{H:Hp}{s:Shared}{fp:List Addr}(I:Inv X pj σ H s)(hf:∀b∈fp,t9 X pj H b)(ho:∀b∈fp,∃o,s.heap.get? b=some o /\ ∀v,o.data ≠ .cell v):Inv X (pj++rX fp s.heap) σ H s:=
  I.pins_of fun p hp=>(mem_append.mp hp).elim (fun z=>I.pin p (mem_append_right _ z)) fun z=>by
    obtain⟨hb,e⟩:=D3 z
    obtain⟨f0,f1,f2,_⟩:=hf p.1 hb
    obtain⟨o,e',d⟩:=ho p.1 hb
    rw[e] at e';cases e'
    exact⟨e,f0,f1,f2,d⟩
theorem Inv.unpinned{pj pl:List (Addr×Obj)}{σ:St}{H:Hp}{s:Shared}(I:Inv X (pj++pl) σ H s):Inv X pj σ H s:=I.pins_of fun p hp=>I.pin p (mem_append_right _ (mem_append_left _ hp))
theorem Jh{iter:Expr}{body:List Stmt}{wi:TI}{g:TG}{tb:TS}{pos:Pos}(hp:PassesOwn (model X.prog X.w) X.A X.env X.xe)(hc:X.N=X.N)(hi:PI X tg iter wi)(hg:PG X tg g)(hb:xL X body tb)
    (hs:autoParam (∀x,foldedSetIterable iter X.env x=pure x) Ga._auto_1):PS X (.For tg iter body [] pos) (NM wi g tb):=by
  intro pj s σ H D I h
  refine wpAny_For (thn (hi pj s σ H _ I h) fun v s1 h1=>thn h1 fun itv s2 h2=>?_) hs
  obtain⟨it,fp,tn,J,H2,e,I2,T,st2,f2,W,⟨m0,w0⟩,turn⟩:=h2
  subst e
  have stat:∀{H':Hp},(∀b∈fp,H' b=none) -> ∀b∈fp,t9 X pj H' b:=fun hn b hb=>⟨hn b hb,(f2 b hb).2⟩
  refine codeAny_forLoop_any (fun n s'=>∃i σ' H',Inv X pj σ' H' s'/\tn i s'.heap/\(∀b∈fp,H' b=none)/\W i n σ' H') ?_ m0 ⟨0,σ,H2,I2,st2,fun b hb=>(f2 b hb).1,w0⟩
  rintro n s3 ⟨i,σ3,H3,I3,st3,fr3,w3⟩
  rcases turn i n σ3 H3 w3 with⟨stop,qn⟩ | ⟨go,N,hN,step⟩
  . refine wpAny_passesOwn hp (thn (T.done X rfl rfl rfl hc i pj s3 σ3 H3 X.xe I3 (stat fr3) st3 stop) fun r s4 zz=>?_)
    obtain⟨hr,I4⟩:=zz
    subst hr
    exact wpAny_execs_nil ⟨σ3,H3,I4,qn⟩
  . refine wpAny_passesOwn hp (thn (T.item X rfl rfl rfl hc i pj s3 σ3 H3 X.xe I3 (stat fr3) st3 go) fun r s4 zz=>?_)
    obtain⟨u,hr,h4⟩:=zz
    subst hr
    refine wpAny_passesOwn hp (thn h4 fun _ s5 zz=>?_)
    obtain⟨x,H5,I5,r5,y5,st5,fr5⟩:=zz
    have I5':=I5.pinned (stat fr5) (T.obj _ _ st5)
    refine wpAny_passesOwn hp (thn (hg _ s5 σ3 H5 x u _ I5' r5 (step x H5 y5)) fun _ s6 zz=>?_)
    obtain⟨σ6,H6,I6,q6⟩:=zz
    refine wpAny_passesOwn hp (thn (hb _ s6 σ6 H6 _ I6 q6) fun f s7 q7=>?_)
    have again:∀{σ7:St} {H7:Hp},Inv X (pj++rX fp s5.heap) σ7 H7 s7->N σ7 H7 -> ∃m,m<n /\ ∃i σ' H',Inv X pj σ' H' s7/\tn i s7.heap/\(∀b∈fp,H' b=none)/\W i m σ' H':=fun {σ7 H7} I7 n7=>by
      obtain⟨m',hm,w7⟩:=hN σ7 H7 n7
      refine⟨m',hm,i+1,σ7,H7,I7.unpinned,T.keep _ _ _ st5 fun b hb o e=>(I7.pin (b,o) (mem_append_right _ (mem_append_right _ (jY hb e)))).1,fun b hb=>?_,w7⟩
      obtain⟨o,e,d⟩:=T.obj _ _ st5 b hb
      exact(I7.pin (b,o) (mem_append_right _ (mem_append_right _ (jY hb e)))).2.1
    cases f with
    |next=>obtain⟨σ7,H7,I7,n7⟩:=q7;exact again I7 n7
    |cont=>obtain⟨σ7,H7,I7,n7⟩:=q7;exact again I7 n7
    |brk=>obtain⟨σ7,H7,I7,q7⟩:=q7;exact⟨σ7,H7,I7.unpinned,q7⟩
    |ret v=>obtain⟨x7,σ7,H7,I7,r7,q7⟩:=q7;exact⟨x7,σ7,H7,I7.unpinned,r7,q7⟩
end
noncomputable abbrev R2:=V->V->Hp->VK->Prop
noncomputable def k9(X:Cx)(f:Value->Value->Sem Value)(r:R2):Prop:=
  ∀(pj:List (Addr×Obj)) (s:Shared) (σ:St) (H:Hp) (x y:V) (v u:Value) (Q:VK),Inv X pj σ H s->cJ x v->cJ y u->r x y H Q ->
    wpAny (model X.prog X.w) X.A (f v u) (EP X pj σ Q) X.xe s
noncomputable def O3(X:Cx)(f:Value->Sem Value)(r:V->Hp->VK->Prop):Prop:=
  ∀(pj:List (Addr×Obj)) (s:Shared) (σ:St) (H:Hp) (x:V) (v:Value) (Q:VK),Inv X pj σ H s->cJ x v->r x H Q ->
    wpAny (model X.prog X.w) X.A (f v) (EP X pj σ Q) X.xe s
noncomputable def eS(X:Cx)(f:Value)(r:List V->Hp->VK->Prop):Prop:=
  ∀(pj:List (Addr×Obj)) (s:Shared) (σ:St) (H:Hp) (xs:List V) (us:List Value) (Q:VK),Inv X pj σ H s->bF xs us->r xs H Q ->
    wpAny (model X.prog X.w) X.A (call f us) (EP X pj σ Q) X.xe s
noncomputable def O4(X:Cx)(r:V->Hp->(Bool->Hp->Prop)->Prop):Prop:=
  ∀(pj:List (Addr×Obj)) (s:Shared) (σ:St) (H:Hp) (x:V) (v:Value) (Q:Bool->Hp->Prop),Inv X pj σ H s->cJ x v->r x H Q ->
    wpAny (model X.prog X.w) X.A (truthy v) (TP X pj σ Q) X.xe s
noncomputable def LD(r:R2)(ta tb:TE):TE:=fun σ H Q=>ta σ H fun x H1=>tb σ H1 fun y H2=>r x y H2 Q
noncomputable def OM(r:V->Hp->VK->Prop)(ta:TE):TE:=fun σ H Q=>ta σ H fun x H1=>r x H1 Q
noncomputable def rI(C:Int->Int->Prop)(g:Int->Int->V):R2:=fun x y H Q=>∃i j,x=.int i/\y=.int j/\C i j/\Q (g i j) H
noncomputable def Ab(g:Int->Int->V):R2:=fun x y H Q=>∃i j,x=.int i/\y=.int j/\Q (g i j) H
noncomputable def rU(g:Int->V):V->Hp->VK->Prop:=fun x H Q=>∃i,x=.int i/\Q (g i) H
section
variable {X:Cx} {a b c:Expr} {ta tb tc:TE} {pos:Pos}
theorem Kw(ha:PE X a ta)(hb:PE X b tb){pj:List (Addr×Obj)}{s:Shared}{σ:St}{H:Hp}{R:V->V->Hp->Prop}(I:Inv X pj σ H s)
    (h:ta σ H fun x H1=>tb σ H1 fun y H2=>R x y H2) {Q:Value->Shared->Prop} {f:Value->Value->Sem Value}
    (hf:∀v u s2 x y H2,Inv X pj σ H2 s2->cJ x v->cJ y u->R x y H2->wpAny (model X.prog X.w) X.A (f v u) Q X.xe s2):
    wpAny (model X.prog X.w) X.A (eval a X.env) (fun v s₁=>wpAny (model X.prog X.w) X.A (eval b X.env) (fun u s₂=>wpAny (model X.prog X.w) X.A (f v u) Q X.xe s₂) X.xe s₁) X.xe s:=by
  refine thn (ha pj s σ H _ I h) fun v s1 zz=>?_
  obtain⟨x,H1,I1,r1,q1⟩:=zz
  refine thn (hb pj s1 σ H1 _ I1 q1) fun u s2 zz=>?_
  obtain⟨y,H2,I2,r2,q2⟩:=zz
  exact hf v u s2 x y H2 I2 r1 r2 q2
theorem Lp{op:Operator}{r:R2}(ho:k9 X (binaryOp op) r)(ha:PE X a ta)(hb:PE X b tb):PE X (.BinOp a op b pos) (LD r ta tb):=by
  intro pj s σ H Q I h
  exact wpAny_BinOp (Kw ha hb I h fun v u s2 x y H2 I2 rx ry q=>ho pj s2 σ H2 x y v u Q I2 rx ry q)
theorem Ln{op:UnaryOp}{r:V->Hp->VK->Prop}(ho:O3 X (unaryOp op) r)(ha:PE X a ta):PE X (.UnaryOp op a pos) (OM r ta):=by
  intro pj s σ H Q I h
  exact UnaryOp_ (thn (ha pj s σ H _ I h) fun v s1 zq5=>by obtain⟨x,H1,I1,r1,q1⟩:=zq5;exact ho pj s1 σ H1 x v Q I1 r1 q1)
theorem Nl{f:Value->Value->Sem Value}{C:Int->Int->Prop}{g:Int->Int->Int}
    (rule:∀(i j:Int) (t u:Tok) (s:Shared) (Q:Value->Shared->Prop) (E:Value->Shared->Prop),C i j->Q (.int (g i j) s.toks) { s with toks:=s.toks+1 }->wpAny (model X.prog X.w) X.A (f (.int i t) (.int j u)) Q E s):
    k9 X f (rI C fun i j=>.int (g i j)):=by
  intro pj s σ H x y v u Q I rx ry h
  obtain⟨i,j,rfl,rfl,hc,q⟩:=h
  obtain⟨t,rfl⟩:=rx
  obtain⟨t',rfl⟩:=ry
  exact rule i j t t' s _ _ hc ⟨.int (g i j),H,I.tok _,⟨_,rfl⟩,q⟩
theorem KJ{f:Value->Value->Sem Value}{g:Int->Int->Int}
    (rule:∀(i j:Int) (t u:Tok) (s:Shared) (Q:Value->Shared->Prop) (E:Value->Shared->Prop),Q (.int (g i j) s.toks) { s with toks:=s.toks+1 }->wpAny (model X.prog X.w) X.A (f (.int i t) (.int j u)) Q E s):
    k9 X f (Ab fun i j=>.int (g i j)):=by
  intro pj s σ H x y v u Q I rx ry h
  obtain⟨i,j,rfl,rfl,q⟩:=h
  obtain⟨t,rfl⟩:=rx
  obtain⟨t',rfl⟩:=ry
  exact rule i j t t' s _ _ ⟨.int (g i j),H,I.tok _,⟨_,rfl⟩,q⟩
theorem KL{f:Value->Value->Sem Value}{g:Int->Int->Bool}
    (rule:∀(i j:Int) (t u:Tok) (s:Shared) (Q:Value->Shared->Prop) (E:Value->Shared->Prop),Q (.bool (g i j)) s->wpAny (model X.prog X.w) X.A (f (.int i t) (.int j u)) Q E s):
    k9 X f (Ab fun i j=>.bl (g i j)):=by
  intro pj s σ H x y v u Q I rx ry h
  obtain⟨i,j,rfl,rfl,q⟩:=h
  obtain⟨t,rfl⟩:=rx
  obtain⟨t',rfl⟩:=ry
  exact rule i j t t' s _ _ ⟨.bl (g i j),H,I,rfl,q⟩
noncomputable def IT(i j:Int):Prop:=0<=j/\j<=1000000/\i.natAbs<2 ^ 64
noncomputable def L4(i j:Int):Prop:=(-(2 ^ 64)<i/\i<2 ^ 64) \/ (-(2 ^ 64)<j/\j<2 ^ 64)
theorem L4.ok{i j:Int}(h:L4 i j):IntMulOk i j:=by
  rcases h with⟨h1,h2⟩ | ⟨h1,h2⟩
  . exact .of_left (intBits_le_64 h1 h2)
  . exact .of_right (intBits_le_64 h1 h2)
theorem KI:k9 X (binaryOp .Add) (Ab fun i j=>.int (i+j)):=KJ fun _ _ _ _ _ _ _ q=>add_int q
theorem K4:k9 X (binaryOp .Sub) (Ab fun i j=>.int (i-j)):=KJ fun _ _ _ _ _ _ _ q=>sub_int q
theorem KB:k9 X (binaryOp .Mod) (rI (fun _ j=>0<j) fun i j=>.int (i % j)):=Nl fun i j _ _ _ _ _ hc q=>by
  have h1:(0:Int)<j:=hc
  exact mod_int' ⋯ (by rw[Int.fmod_eq_emod_of_nonneg i ⋯];exact q)
theorem Hy:k9 X (inplaceOp .Add) (Ab fun i j=>.int (i+j)):=KJ fun _ _ _ _ _ _ _ q=>iadd_int q
theorem OL{f:Value->Sem Value}{g:Int->Int}
    (rule:∀(i:Int) (t:Tok) (s:Shared) (Q:Value->Shared->Prop) (E:Value->Shared->Prop),Q (.int (g i) s.toks) { s with toks:=s.toks+1 }->wpAny (model X.prog X.w) X.A (f (.int i t)) Q E s):
    O3 X f (rU fun i=>.int (g i)):=by
  intro pj s σ H x v Q I rx h
  obtain⟨i,rfl,q⟩:=h
  obtain⟨t,rfl⟩:=rx
  exact rule i t s _ _ ⟨.int (g i),H,I.tok _,⟨_,rfl⟩,q⟩
theorem JM:O3 X (unaryOp .USub) (rU fun i=>.int (-i)):=OL fun _ _ _ _ _ q=>neg_int q
theorem Kh{pj:List (Addr×Obj)}{σ:St}{H:Hp}{s:Shared}{Q:VK}{k k':Bool}(I:Inv X pj σ H s)(q:Q (.bl k) H)(e:k=k'):EP X pj σ Q (.bool k') s:=by
  subst e
  exact⟨.bl k,H,I,rfl,q⟩
theorem M5:k9 X (compareOp .Lt) (Ab fun i j=>.bl (decide (i<j))):=KL fun _ _ _ _ _ _ _ q=>lt_int q
theorem F8:k9 X (compareOp .LtE) (Ab fun i j=>.bl (decide (i<=j))):=KL fun _ _ _ _ _ _ _ q=>le_int q
theorem M7:k9 X (compareOp .Gt) (Ab fun i j=>.bl (decide (j<i))):=KL fun _ _ _ _ _ _ _ q=>gt_int q
theorem KC:k9 X (compareOp .Is) (fun x y H Q=>y=.non/\Q (.bl (decide (x=.non))) H):=by
  intro pj s σ H x y v u Q I rx ry h
  obtain⟨rfl,q⟩:=h
  cases ry
  refine is_none_gen (Kh I q ?_)
  cases x<;>first
    | (cases rx;rfl)
    | (obtain⟨t,rfl⟩:=rx;rfl)
theorem k9.or{f:Value->Value->Sem Value}{r r':R2}(h:k9 X f r)(h':k9 X f r'):k9 X f (fun x y H Q=>r x y H Q \/ r' x y H Q):=by
  intro pj s σ H x y v u Q I rx ry q
  rcases q with q | q
  . exact h pj s σ H x y v u Q I rx ry q
  . exact h' pj s σ H x y v u Q I rx ry q
theorem nomark(b:Expr){op:CmpOp}(h:autoParam (op ≠ .In) nB._auto_1)(h2:autoParam (op ≠ .NotIn) nB._auto_1):behindInMarks op b=false:=by
  have e1:(op==CmpOp.In)=false:=by cases op<;>first | rfl | exact absurd rfl h
  have e2:(op==CmpOp.NotIn)=false:=by cases op<;>first | rfl | exact absurd rfl h2
  cases b<;>simp[behindInMarks,e1,e2]
theorem HK{op:CmpOp}{r:R2}(ho:k9 X (compareOp op) r)(ha:PE X a ta)(hb:PE X b tb)(hm:behindInMarks op b=false):PE X (.Compare a [op] [b] pos) (LD r ta tb):=by
  intro pj s σ H Q I h
  exact wpAny_Compare1 (Kw ha hb I h fun v u s2 x y H2 I2 rx ry q=>ho pj s2 σ H2 x y v u Q I2 rx ry q) hm
noncomputable def IV(t:TE):TT:=fun σ H Q=>t σ H fun x H'=>∃k,x=.bl k/\Q k H'
theorem H9{op:CmpOp}{r:R2}(ho:k9 X (compareOp op) r)(ha:PE X a ta)(hb:PE X b tb)(hm:behindInMarks op b=false):PT X (.Compare a [op] [b] pos) (IV (LD r ta tb)):=by
  intro pj s σ H Q I h
  refine wpAny_isTrue_Compare1 (thn (ha pj s σ H _ I h) fun v s1 ⟨x,H1,I1,r1,q1⟩=>thn (hb pj s1 σ H1 _ I1 q1) fun u s2 ⟨y,H2,I2,r2,q2⟩=>
    thn (ho pj s2 σ H2 x y v u _ I2 r1 r2 q2) fun c s3 ⟨z,H3,I3,r3,k,e,q3⟩=>?_) hm
  subst e
  cases r3
  exact wpAny_truthy_bool ⟨H3,I3,q3⟩
noncomputable def AO(r r':R2)(ta tb tc:TE):TE:=fun σ H Q=>ta σ H fun x H1=>tb σ H1 fun y H2=>r x y H2 fun z H3=>∃k,z=.bl k /\
  (if k=true then tc σ H3 fun w' H4=>r' y w' H4 Q else Q (.bl false) H3)
theorem Ej{op op':CmpOp}{r r':R2}(ho:k9 X (compareOp op) r)(ho':k9 X (compareOp op') r')(ha:PE X a ta)(hb:PE X b tb)(hc:PE X c tc)
    (hm:autoParam (lastMarks [op,op'] [b,c]=false) NA._auto_1):PE X (.Compare a [op,op'] [b,c] pos) (AO r r' ta tb tc):=by
  intro pj s σ H Q I h
  refine Compare_chain (thn (ha pj s σ H _ I h) fun v s1 ⟨x,H1,I1,r1,q1⟩=>chain_link (thn (hb pj s1 σ H1 _ I1 q1) fun u s2 ⟨y,H2,I2,r2,q2⟩=>
    thn (ho pj s2 σ H2 x y v u _ I2 r1 r2 q2) fun d s3 ⟨z,H3,I3,r3,k,e,q3⟩=>?_)) hm
  subst e
  cases r3
  refine wpAny_truthy_bool ?_
  cases k with
  |false=>exact ite_ff ⟨.bl false,H3,I3,rfl,q3⟩
  |true=>exact ite_tt (chain_last (thn (hc pj s3 σ H3 _ I3 q3) fun w' s4 ⟨z',H4,I4,r4,q4⟩=>ho' pj s4 σ H4 y z' u w' Q I4 r2 r4 q4))
theorem ET{op op':CmpOp}{r r':R2}(ho:k9 X (compareOp op) r)(ho':k9 X (compareOp op') r')(ha:PE X a ta)(hb:PE X b tb)(hc:PE X c tc)
    (hm:autoParam (lastMarks [op,op'] [b,c]=false) NA._auto_1):PT X (.Compare a [op,op'] [b,c] pos) (IV (AO r r' ta tb tc)):=by
  intro pj s σ H Q I h
  refine isTrue_chain (thn (ha pj s σ H _ I h) fun v s1 ⟨x,H1,I1,r1,q1⟩=>test_link (thn (hb pj s1 σ H1 _ I1 q1) fun u s2 ⟨y,H2,I2,r2,q2⟩=>
    thn (ho pj s2 σ H2 x y v u _ I2 r1 r2 q2) fun d s3 ⟨z,H3,I3,r3,k,e,q3⟩=>?_)) hm
  subst e
  cases r3
  refine wpAny_truthy_bool ?_
  cases k with
  |false=>
    obtain⟨k',e',q'⟩:=q3
    cases e'
    exact ite_ff ⟨H3,I3,q'⟩
  |true=>
    refine ite_tt (test_last (thn (hc pj s3 σ H3 _ I3 q3) fun w' s4 ⟨z',H4,I4,r4,q4⟩=>thn (ho' pj s4 σ H4 y z' u w' _ I4 r2 r4 q4) fun d' s5 zz=>?_))
    obtain⟨z2,H5,I5,r5,k2,e2,q5⟩:=zz
    subst e2
    cases r5
    exact wpAny_truthy_bool ⟨H5,I5,q5⟩
noncomputable def Mp(K:W.Frag)(x:V)(H:Hp)(k:Bool):Prop:=
  match x with
  | .non=>k=false
  | .bl b=>k=b
  | .int i=>k=(i != 0)
  | .str y=>y.length<=sizeLine/\k=((y.length:Int) != 0)
  | .byt y=>y.size<=sizeLine/\k=((y.size:Int) != 0)
  | .ref p=>(∃xs,eJ K H p xs/\k = !xs.isEmpty) \/ (∃xs,lY K H p xs/\k = !xs.isEmpty) \/ ∃kvs,H p=some (.dK kvs)/\k = !kvs.isEmpty
  |_=>False
theorem B4{κ:Type}{kvs:List (κ×V)}{vs:List (κ×Value)}(r:KV kvs vs):(!vs.isEmpty) = !kvs.isEmpty:=by
  cases r<;>rfl
theorem sK{xs:List V}{its:List Value}(r:bF xs its):(!its.toArray.isEmpty) = !xs.isEmpty:=by
  cases r<;>simp
theorem pF:(sizeLine:Nat)<2 ^ 63:=by rw[sizeLine_eq];decide
theorem JP:O4 X (fun x H Q=>∃k,Mp X.K x H k/\Q k H):=by
  intro pj s σ H x v Q I rx h
  obtain⟨k,e,q⟩:=h
  have hl:=pF
  have hs:sizeLine=16777216:=sizeLine_eq
  cases x with
  |non=>
    cases rx
    have e':k=false:=e
    subst e'
    exact truthy_none ⟨H,I,q⟩
  |bl b=>
    cases rx
    have e':k=b:=e
    subst e'
    exact wpAny_truthy_bool ⟨H,I,q⟩
  |int i=>
    obtain⟨t,rfl⟩:=rx
    have e':k=(i != 0):=e
    subst e'
    exact PySem.P.truthy_int ⟨H,I,q⟩
  |str y=>
    obtain⟨t,rfl⟩:=rx
    obtain⟨hy,e'⟩:y.length<=sizeLine/\k=((y.length:Int) != 0):=e
    subst e'
    exact PySem.P.truthy_str ⋯ ⟨H,I.tok _,q⟩
  |byt y=>
    obtain⟨t,rfl⟩:=rx
    obtain⟨hy,e'⟩:y.size<=sizeLine/\k=((y.size:Int) != 0):=e
    subst e'
    exact W.truthy_bytes ⋯ ⟨H,I.tok _,q⟩
  |ref p=>
    cases rx
    have e':(∃xs,eJ X.K H p xs/\k = !xs.isEmpty) \/ (∃xs,lY X.K H p xs/\k = !xs.isEmpty) \/ ∃kvs,H p=some (.dK kvs)/\k = !kvs.isEmpty:=e
    rcases e' with⟨xs,hx,e'⟩ | ⟨xs,hx,e'⟩ | ⟨kvs,hx,e'⟩
    . subst e'
      obtain⟨its,r,pl,hz⟩:=I.list hx
      have hlen:=r.length
      exact wpAny_truthy_list pl.isList (by simp only[size_toArray];ac_rfl) ⟨H,I.tok _,by rw[sK r];exact q⟩
    . subst e'
      obtain⟨its,r,pl,hz⟩:=I.tuple hx
      have hlen:=r.length
      exact truthy_tuple pl (by simp only[size_toArray];ac_rfl) ⟨H,I.tok _,by rw[sK r];exact q⟩
    . subst e'
      obtain⟨hz,hS,vs,r,m⟩:kvs.length<=sizeLine/\(p==sysModules)=false /\ ∃vs,KV kvs vs/\s.heap.DictOf (fP X.prog X.w) p vs:=I.hok p _ hx
      have hlen:kvs.length=vs.length:=Paired.length r
      exact wpAny_truthy_dict hS m ⋯ ⟨H,I.tok _,by rw[B4 r];exact q⟩
  |_=>exact(show False from e).elim
theorem ES(ha:PE X a ta)(he:∀whole,isTrue a X.env whole=(do let v <- whole;standAt a.pos;holding [v] (truthy v))):
    PT X a (fun σ H Q=>ta σ H fun x H'=>∃k,Mp X.K x H' k/\Q k H'):=by
  intro pj s σ H Q I h
  exact isTrue_plain (thn (ha pj s σ H _ I h) fun v s1 zq6=>by obtain⟨x,H1,I1,r1,q1⟩:=zq6;exact JP pj s1 σ H1 x v Q I1 r1 q1) (he _)
theorem Ao:k9 X (binaryOp .Add) (fun x y H Q=>∃i j,x=.str i/\y=.str j/\i.length+j.length<=sizeLine/\Q (.str (i++j)) H):=by
  intro pj s σ H x y v u Q I rx ry h
  obtain⟨i,j,rfl,rfl,hz,q⟩:=h
  obtain⟨t,rfl⟩:=rx
  obtain⟨t',rfl⟩:=ry
  exact add_str (fun t' tk=>⟨.str (i++j),H,I.tok _,⟨_,rfl⟩,q⟩) hz
theorem zJ:k9 X (inplaceOp .Add) (fun x y H Q=>∃i j,x=.str i/\y=.str j/\i.length+j.length<=sizeLine/\Q (.str (i++j)) H):=by
  intro pj s σ H x y v u Q I rx ry h
  obtain⟨i,j,rfl,rfl,hz,q⟩:=h
  obtain⟨t,rfl⟩:=rx
  obtain⟨t',rfl⟩:=ry
  exact iadd_str (fun t' tk=>⟨.str (i++j),H,I.tok _,⟨_,rfl⟩,q⟩) hz
theorem i8{x:V}{us:List Value}(r:bF [x] us):∃u,us=[u]/\cJ x u:=by
  cases r with
  |cons r1 r2=>cases r2;exact⟨_,rfl,r1⟩
theorem Dr{x y:V}{us:List Value}(r:bF [x,y] us):∃u w',us=[u,w']/\cJ x u/\cJ y w':=by
  cases r with
  |cons r1 r2=>
    cases r2 with
    |cons r3 r4=>cases r4;exact⟨_,_,rfl,r1,r3⟩
theorem GS:eS X (.builtin "abs") (fun xs H Q=>∃i,xs=[.int i]/\Q (.int (if i<0 then -i else i)) H):=by
  intro pj s σ H xs us Q I r h
  obtain⟨i,rfl,q⟩:=h
  obtain⟨u,rfl,t,rfl⟩:=i8 r
  exact call_abs_int fun u tk=>⟨.int (if i<0 then -i else i),H,I.tok _,⟨_,rfl⟩,q⟩
theorem Dh(hc:X.calm=true):eS X (.builtin "min") (fun xs H Q=>∃i j,xs=[.int i,.int j]/\Q (.int (if j<i then j else i)) H):=by
  intro pj s σ H xs us Q I r h
  obtain⟨i,j,rfl,q⟩:=h
  obtain⟨u,w',rfl,⟨t,rfl⟩,⟨t',rfl⟩⟩:=Dr r
  refine min_two_ints (I.ok.hd hc) fun h' tk k=>⟨_,H,I.kept k,?_,q⟩
  by_cases hj:j<i
  . rw[if_pos hj,if_pos hj];exact⟨_,rfl⟩
  . rw[if_neg hj,if_neg hj];exact⟨_,rfl⟩
end
structure ObjM(h:Heap)(x dx C:Addr)(mA:Str->Option Value):Prop where
  obj:h.get? x=some (W.instObj C dx)
  ns:h.Ns1 dx mA
  ne:dx≠x
theorem DC{h:Heap}{dx:Addr}{mA:Str->Option Value}(n:h.Ns1 dx mA):∃od,h.get? dx=some od /\ ∀name,W.lookIn name od=some (mA name):=by
  obtain⟨o,es,ep,ho,hd,hk,_,hm⟩:=n
  refine⟨o,ho,fun name=>?_⟩
  have e:=hm name
  unfold nsFind findBy at e
  rw[<- Array.find?_toList] at e
  unfold W.lookIn
  rw[hd]
  dsimp only
  split
  . rename_i y q
    rw[q] at e
    exact congrArg some e
  . rename_i q
    rw[q] at e
    have a:es.toList.any (·.refKey)=false:=by
      rw[List.any_eq_false]
      intro y hy
      obtain⟨z,t,hkey⟩:=hk y (Array.mem_toList_iff.mp hy)
      simp[DictEntry.refKey,hkey]
    have a':¬es.toList.any (·.refKey)=true:=by rw[a];exact Bool.false_ne_true
    rw[if_neg a']
    exact congrArg some e
theorem ObjM.look{h:Heap}{x dx C:Addr}{mA:Str->Option Value}(I:ObjM h x dx C mA):∃od,W.InstAt h x (W.instObj C dx) C (some od) /\ ∀name,W.lookIn name od=some (mA name):=
  let ⟨od,ho,hl⟩:=DC I.ns
  ⟨od,⟨I.obj,rfl,rfl,ho⟩,hl⟩
section
variable {prog:Program} {w:World} {A:Around} {E:Value->Shared->Prop} {s:Shared} {K:W.Frag} {x dx C f:Addr} {mA:Str->Option Value} {name:Str} {v:Value}
theorem I8{expr:Bool}{Q:Value->Shared->Prop}(X:K.In s.heap)(I:ObjM s.heap x dx C mA)(hg:W.plainGet K C name=true)(hh:W.hasDictIn K C=true)
    (ha:W.findIn K (.ref C) name=some none) (hv:mA name=some v) (hv':W.handedIn v=true) (h:Q v { s with toks:=s.toks+1 }):
    wpAny (model prog w) A (getAttr (.ref x) name expr) Q E s:=by
  obtain⟨od,J,hl⟩:=I.look
  exact W.get_value X J (W.plainGet_of hg).1 (W.findObj_own hh ha rfl (by rw[hl,hv])) hv' h
theorem G9{pl:Sem Bool}{Q:Value×List Value->Shared->Prop}(X:K.In s.heap)(I:ObjM s.heap x dx C mA)(hg:W.plainGet K C name=true)
    (hf:W.findIn K (.ref C) name=some (some (.ref f))) (ht:W.isFn K (.ref f)=true) (hv:mA name=none) (h:Q (.ref f,[.ref x]) s):
    wpAny (model prog w) A (getMethod (.ref x) name pl) Q E s:=by
  obtain⟨od,J,hl⟩:=I.look
  exact W.method_fn X J (W.plainGet_of hg).1 (W.plainGet_of hg).2 hf (beq_iff_eq.mp ht) (by show (W.lookIn name od).map (·.isSome)=some false;rw[hl,hv];rfl) h
theorem Gm{ns:List Str}{Q:Unit->Shared->Prop}(X:K.In s.heap)(I:ObjM s.heap x dx C mA)
    (hs:W.findIn K (.ref C) "__setattr__" = some (some (.builtin "object.__setattr__"))) (hp:W.plainOver K C=true) (ht:W.takerIn K C name=some none) (hh:W.hasDictIn K C=true)
    (hw:PySem.Within mA ns) (hsz:ns.length<=sizeLine)
    (h:∀h',ObjM h' x dx C (fun y=>if y=name then some v else mA y)->Heap.SameBut dx s.heap h'->Q () { s with heap:=h',toks:=s.toks+2 }):
    wpAny (model prog w) A (setAttr (.ref x) name v) Q E s:=by
  obtain⟨od,J,hl⟩:=I.look
  refine W.set_plain X J hs (W.osa_open (s:={ s with toks:=s.toks+1 }) (r:=none) X J hp ht fun b=>?_)
  obtain⟨cd,hc,hd'⟩:=W.any_some hh
  have hx:s.heap.get? x=some ⟨.ref C,some dx,.plain,#[]⟩:=I.obj
  refine wpAny_bind (wpAny_pure (wpAny_bind (wpAny_bind (wpAny_loadPart hx (wpAny_bind (W.Looks.here (s:={ s with toks:=s.toks+1 }) (W.looks_clsIn X hc) ?_))))))
  rw[hd']
  refine wpAny_pure (a:=some dx) (wpAny_bind (wpAny_pure (wpAny_bind ?_)))
  refine wpAny_nsSet1 (s:={ s with toks:=s.toks+1 }) I.ns fun h' hn2 hs2=>?_
  obtain⟨oD,esD,epD,hoD,hdD,hcD⟩:=hn2.count (PySem.Within.cons name v hw)
  refine wpAny_bind (wpAny_lookBehind hoD (by rw[hdD];exact pastItsLine_dict (le_trans hcD (by rw[length_cons];ac_rfl))) ?_)
  exact wpAny_pure (h _ ⟨(hs2.2 _ (Ne.symm I.ne)).trans I.obj,hn2,I.ne⟩ hs2)
theorem FQ{R:Result->Shared->Prop}{vs:List Value}{kw:List (Str×Value)}(X:K.In s.heap)(hm:W.makesIn K C=true)
    (hi:W.findIn K (.ref C) "__init__" = some (some (.ref f))) (hf:W.typeIn K (.ref f)=some (.type "function"))
    (h:codeAny (model prog w) (A.under (.builtin "type.__call__" ⟨.ref C::vs,kw⟩)) (.call (.ref f) ⟨.ref (s.heap.objs.size+1)::vs,kw⟩) (W.InitBack (s.heap.objs.size+1) R)
      { s with heap:=(s.heap.push W.emptyDict).push (W.instObj C s.heap.objs.size) }):
    codeAny (model prog w) A (.call (.ref C) ⟨vs,kw⟩) R s:=by
  obtain⟨hh,g,d,t,os⟩:=s
  exact W.make_core (W.makes_of X hm) (W.looks_findIn X hi) (fun self=>W.bind_fn X self hf) (.inl rfl) h
end
noncomputable def jU(f:Str)(v:V):List (Str×V)->List (Str×V)
  | []=>[(f,v)]
  | (g,x)::r=>if g=f then (g,v)::r else (g,x)::jU f v r
theorem pY(f g:Str)(v:V):∀fs:List (Str×V),(jU f v fs).lookup g=if g=f then some v else fs.lookup g
  | []=>by
    show List.lookup g [(f,v)]=_
    by_cases h:g=f
    . have hb:(g==f)=true:=beq_iff_eq.mpr h
      simp only[List.lookup,hb,if_pos h]
    . have hb:(g==f)=false:=beq_eq_false_iff_ne.mpr h
      simp only[List.lookup,hb,if_neg h]
  | (k,x)::r=>by
    have ih:=pY f g v r
    rw[show jU f v ((k,x)::r)=(if k=f then (k,v)::r else (k,x)::jU f v r) from rfl]
    by_cases hk:k=f
    . rw[if_pos hk]
      by_cases h:g=k
      . have hb:(g==k)=true:=beq_iff_eq.mpr h
        simp only[List.lookup,hb,if_pos (h.trans hk)]
      . have hb:(g==k)=false:=beq_eq_false_iff_ne.mpr h
        simp only[List.lookup,hb,if_neg (fun e:g=f=>h (e.trans hk.symm))]
    . rw[if_neg hk]
      by_cases h:g=k
      . have hb:(g==k)=true:=beq_iff_eq.mpr h
        simp only[List.lookup,hb,if_neg (fun e:g=f=>hk (h.symm.trans e))]
      . have hb:(g==k)=false:=beq_eq_false_iff_ne.mpr h
        simp only[List.lookup,hb]
        exact ih
theorem pH(f:Str)(v:V):∀fs:List (Str×V),f∈(jU f v fs).map (·.1) /\ ∀g,g∈fs.map (·.1)->g∈(jU f v fs).map (·.1)
  | []=>⟨by simp[jU],fun g h=>by simp at h⟩
  | (k,x)::r=>by
    obtain⟨i1,i2⟩:=pH f v r
    rw[show jU f v ((k,x)::r)=(if k=f then (k,v)::r else (k,x)::jU f v r) from rfl]
    by_cases hk:k=f
    . rw[if_pos hk]
      subst hk
      exact⟨by simp,fun g h=>by simpa using h⟩
    . rw[if_neg hk]
      refine⟨?_,fun g h=>?_⟩
      . rw[map_cons]
        exact mem_cons_of_mem _ i1
      . rw[map_cons] at h ⊢
        rcases mem_cons.mp h with e | e
        . exact mem_cons.mpr (.inl e)
        . exact mem_cons_of_mem _ (i2 g e)
theorem pZ(f:Str)(v:V):∀fs:List (Str×V),(jU f v fs).length<=fs.length+1
  | []=>by simp[jU]
  | (k,x)::r=>by
    have ih:=pZ f v r
    rw[show jU f v ((k,x)::r)=(if k=f then (k,v)::r else (k,x)::jU f v r) from rfl]
    by_cases hk:k=f
    . rw[if_pos hk,length_cons,length_cons];ac_rfl
    . rw[if_neg hk,length_cons,length_cons];ac_rfl
theorem oO.some_of{v:V}{o:Option Value}(r:oO (some v) o):∃u,o=some u/\cJ v u:=by
  cases o with
  |none=>exact(show False from r).elim
  |some u=>exact⟨u,rfl,r⟩
theorem oO.none_of{o:Option Value}(r:oO none o):o=none:=by
  cases o with
  |none=>rfl
  |some u=>exact(show False from r).elim
theorem DZ{v:V}{u:Value}(r:cJ v u):W.handedIn u=true:=by
  cases v with
  |non=>cases (show u=Value.none from r);rfl
  |bl b=>cases (show u=Value.bool b from r);rfl
  |int i=>obtain⟨t,e⟩:=(show ∃t,u=Value.int i t from r);cases e;rfl
  |str x=>obtain⟨t,e⟩:=(show ∃t,u=Value.str x t from r);cases e;rfl
  |byt b=>obtain⟨t,e⟩:=(show ∃t,u=Value.bytes b t from r);cases e;rfl
  |flt b=>obtain⟨t,e⟩:=(show ∃t,u=Value.float b t from r);cases e;rfl
  |ref a=>cases (show u=Value.ref a from r);rfl
  |ty n=>cases (show u=Value.type n from r);rfl
section
variable {P:Program} {w:World} {H H':Hp} {h h':Heap} {a C dx:Addr} {fs fs':List (Str×V)}
theorem qS(hok:nD P w H h)(e:H a=some (.ins C dx fs)):∃mA,ObjM h a dx C mA/\(∀f,oO (fs.lookup f) (mA f))/\PySem.Within mA (fs.map (·.1))/\fs.length<=1000/\H dx=some (.own a):=by
  obtain⟨d,z,ne,ob,mA,n,r,q⟩:=(show cI P w H h a (.ins C dx fs) from hok a _ e)
  exact⟨mA,⟨ob,n,ne⟩,r,q,z,d⟩
end
structure Cls(K:W.Frag)(C:Addr):Prop where
  pg:W.plainGet K C Str.empty=true
  hd:W.hasDictIn K C=true
  po:W.plainOver K C=true
  sa:W.findIn K (.ref C) "__setattr__" = some (some (.builtin "object.__setattr__"))
theorem Cls.get{K:W.Frag}{C:Addr}(c:Cls K C)(f:Str):W.plainGet K C f=true:=c.pg
noncomputable def g6(K:W.Frag)(C:Addr)(f:Str):Prop:=W.findIn K (.ref C) f=some none
theorem g6.taker{K:W.Frag}{C:Addr}{f:Str}(n:g6 K C f):W.takerIn K C f=some none:=by
  unfold W.takerIn
  rw[show W.findIn K (.ref C) f=some none from n]
  rfl
structure Meth(K:W.Frag)(C:Addr)(m:Str)(f:Addr):Prop where
  at_:W.findIn K (.ref C) m=some (some (.ref f))
  fn:W.isFn K (.ref f)=true
  kp:W.keepIn K (.ref f)=true
section
variable {X:Cx} {pj:List (Addr×Obj)} {σ:St} {H:Hp} {s:Shared} {a C dx:Addr} {fs:List (Str×V)} {f:Str} {v:V} {A:Around} {E:Value->Shared->Prop}
theorem B5{b:Bool}{Q:Value->Shared->Prop}(I:Inv X pj σ H s)(e:H a=some (.ins C dx fs))(c:Cls X.K C)(n:g6 X.K C f)(l:fs.lookup f=some v)
    (h:∀u s',Inv X pj σ H s'->cJ v u->Q u s'):wpAny (model X.prog X.w) A (getAttr (.ref a) f b) Q E s:=by
  obtain⟨mA,O,r,_,_,_⟩:=qS I.hok e
  obtain⟨u,hu,ru⟩:=oO.some_of (v:=v) (o:=mA f) (by rw[<- l];exact r f)
  exact I8 I.kIn O (c.get f) c.hd n hu (DZ ru) (h u _ (I.tok _) ru)
theorem sO{m:Str}{g:Addr}{pl:Sem Bool}{Q:Value×List Value->Shared->Prop}(I:Inv X pj σ H s)(e:H a=some (.ins C dx fs))(c:Cls X.K C)(k:Meth X.K C m g)(l:fs.lookup m=none)
    (h:Q (.ref g,[.ref a]) s):wpAny (model X.prog X.w) A (getMethod (.ref a) m pl) Q E s:=by
  obtain⟨mA,O,r,_,_,_⟩:=qS I.hok e
  have hn:mA m=none:=oO.none_of (by rw[<- l];exact r m)
  exact G9 I.kIn O (c.get m) k.at_ k.fn hn h
theorem AS{y:V}{u:Value}{Q:Unit->Shared->Prop}(I:Inv X pj σ H s)(e:H a=some (.ins C dx fs))(c:Cls X.K C)(n:g6 X.K C f)(hl:fs.length<1000)(ry:cJ y u)
    (h:∀s',Inv X pj σ (upd H a (.ins C dx (jU f y fs))) s'->Q () s'):wpAny (model X.prog X.w) A (setAttr (.ref a) f u) Q E s:=by
  obtain⟨mA,O,r,wi,_,ho⟩:=qS I.hok e
  have hz:(fs.map (·.1)).length<=sizeLine:=by rw[length_map,sizeLine_eq];ac_rfl
  refine Gm I.kIn O c.sa c.po n.taker c.hd wi hz fun h' O' sb=>h _ ?_
  have hd:∃o,h'.get? dx=some o:=let ⟨o,_,_,e',_⟩:=O'.ns;⟨o,e'⟩
  refine I.write (x:=a) (e:=dx) (by rw[e];exact True.intro) (.inr ho) (fun b q hb z=>(sb.2 b hb).trans z) hd ?_
  refine⟨by rw[aO O.ne];exact ho,?_,O.ne,O'.obj,_,O'.ns,fun g=>?_,fun g hg=>?_⟩
  . have:=pZ f y fs;ac_rfl
  . show oO ((jU f y fs).lookup g) (if g=f then some u else mA g)
    rw[pY]
    by_cases q:g=f
    . rw[if_pos q,if_pos q];exact ry
    . rw[if_neg q,if_neg q];exact r g
  . by_cases q:g=f
    . rw[q];exact(pH f y fs).1
    . refine(pH f y fs).2 g (wi g fun z=>hg ?_)
      show (if g=f then some u else mA g)=none
      rw[if_neg q];exact z
theorem Inv.made(I:Inv X pj σ H s):Inv X pj σ (upd (upd H s.heap.objs.size (.own (s.heap.objs.size+1))) (s.heap.objs.size+1) (.ins C s.heap.objs.size []))
    { s with heap:=(s.heap.push W.emptyDict).push (W.instObj C s.heap.objs.size) }:=by
  have e1:(s.heap.push W.emptyDict).get? s.heap.objs.size=some W.emptyDict:=Heap.get?_push_size s.heap rfl
  have e2:((s.heap.push W.emptyDict).push (W.instObj C s.heap.objs.size)).get? (s.heap.objs.size+1)=some (W.instObj C s.heap.objs.size):=by
    have:=Heap.get?_push_size (s.heap.push W.emptyDict) (o:=W.instObj C s.heap.objs.size) rfl
    rwa[Heap.size_push] at this
  have e3:(s.heap.push W.emptyDict).Ns s.heap.objs.size (fun _=>none):=⟨W.emptyDict,#[],_,e1,rfl,(fun e he=>absurd he (by simp)),fun _=>rfl⟩
  have I1:=I.laid (a:=s.heap.objs.size) (o:=.own (s.heap.objs.size+1)) (h':=s.heap.push W.emptyDict) (t':=s.toks) (fun b u q=>Heap.get?_push_of_some _ q) (le_refl _) ⟨_,e1⟩
  refine I1.laid (a:=s.heap.objs.size+1) (o:=.ins C s.heap.objs.size []) (t':=s.toks) (fun b u q=>Heap.get?_push_of_some _ q) (Nat.le_of_eq (Heap.size_push _ _)) ?_
  have ne:s.heap.objs.size≠s.heap.objs.size+1:=ne_of_lt (Nat.lt_succ_self _)
  refine⟨by rw[aO ne,aY],zero_le _,ne,e2,fun _=>none,(Heap.Ns1.of_empty e3).at fun o q=>Heap.get?_push_of_some _ q,fun _=>True.intro,fun y hy=>absurd rfl hy⟩
theorem IN{prog:Program}{w:World}{env:Env}{e:Expr}{f:Str}{pos:Pos}{s:Shared}{Q:Value->Shared->Prop}(hb:attributeBase e f env (eval e env)=eval e env)
    (h:wpAny (model prog w) A (eval e env) (fun o s₁=>wpAny (model prog w) A (getAttr o f true) Q E s₁) E s):wpAny (model prog w) A (eval (.Attribute e f pos) env) Q E s:=
  Attribute_any_ h (by rw[arm_eval_Attribute,hb])
end
noncomputable def NN(K:W.Frag)(ta:TE)(f:Str):TE:=fun σ H Q=>ta σ H fun x H1=>∃a C dx fs v,x=.ref a/\H1 a=some (.ins C dx fs)/\Cls K C/\g6 K C f/\fs.lookup f=some v/\Q v H1
noncomputable def NS(K:W.Frag)(ta tv:TE)(f:Str):TS:=fun D σ H=>tv σ H fun y H1=>ta σ H1 fun x H2=>∃a C dx fs,x=.ref a/\H2 a=some (.ins C dx fs)/\Cls K C/\g6 K C f/\fs.length<1000 /\
  D.nx σ (upd H2 a (.ins C dx (jU f y fs)))
section
variable {X:Cx} {o e value:Expr} {f:Str} {pos pos' tpos:Pos} {ta tv:TE}
theorem Jw(he:PE X e ta)(hb:attributeBase e f X.env (eval e X.env)=eval e X.env):PE X (.Attribute e f pos) (NN X.K ta f):=by
  intro pj s σ H Q I h
  refine IN hb (thn (he pj s σ H _ I h) fun u s1 zz=>?_)
  obtain⟨x,H1,I1,rx,a,C,dx,fs,v,ex,ea,c,n,l,q⟩:=zz
  subst ex
  obtain rfl:u=Value.ref a:=rx
  exact B5 I1 ea c n l fun u' s2 I2 ru=>⟨v,H1,I2,ru,q⟩
theorem Ji(ha:PE X o ta)(hv:PE X value tv)(hs:swapsWith value (some (.Attribute o f pos')) pos.line X.env=pure false):PS X (.Assign [.Attribute o f pos'] value pos) (NS X.K ta tv f):=by
  intro pj s σ H D I h
  refine plainObj_wpAny_Assign_Attribute (thn (hv pj s σ H _ I h) fun u s1 ⟨y,H1,I1,ry,q⟩=>thn (ha pj s1 σ H1 _ I1 q) fun ov s2 ⟨x,H2,I2,rx,a,C,dx,fs,ex,ea,c,n,l,q2⟩=>?_) hs
  subst ex
  obtain rfl:ov=Value.ref a:=rx
  exact AS I2 ea c n l ry fun s3 I3=>⟨σ,_,I3,q2⟩
end
section
variable {X:Cx} {pj:List (Addr×Obj)} {σ:St} {H:Hp} {s:Shared} {A:Around} {E:Value->Shared->Prop} {Q:Value->Shared->Prop} {c:Value} {b:Bool}
inductive TyOf(K:W.Frag)(H:Hp):V->Value->Prop where
  |non:TyOf K H .non (.type "NoneType")
  |bl (x:Bool):TyOf K H (.bl x) (.type "bool")
  |int (i:Int):TyOf K H (.int i) (.type "int")
  |str (x:Str):TyOf K H (.str x) (.type "str")
  |flt (x:UInt64):TyOf K H (.flt x) (.type "float")
  |lst {a:Addr} {xs:List V} (e:H a=some (.lst xs)):TyOf K H (.ref a) (.type "list")
  |frz {a:Addr} {o:Obj} {xs:List V} (e:H a=some (.frz o (.lst xs))):TyOf K H (.ref a) (.type "list")
  |tup {a:Addr} {xs:List V} (e:H a=some (.tup xs)):TyOf K H (.ref a) (.type "tuple")
  |dK {a:Addr} {kvs:List (cW×V)} (e:H a=some (.dK kvs)):TyOf K H (.ref a) (.type "dict")
  |dT {a:Addr} {ep:Nat} {kvs:List (List cW×V)} (e:H a=some (.dT ep kvs)):TyOf K H (.ref a) (.type "dict")
  |ins {a C dx:Addr} {fs:List (Str×V)} (e:H a=some (.ins C dx fs)) (cl:Cls K C) (ha:W.findIn K (.ref C) "__class__" = some (some (.builtin "object.__class__")))
      (hn:W.specialIn K (.builtin "object.__class__") "__get__" = some (some (.builtin "getset_descriptor.__get__"))) (htk:W.takesIn K (.builtin "object.__class__")=some true)
      (hm:W.mroIn K C (.type "object")=some true):TyOf K H (.ref a) (.ref C)
theorem DV{x:V}{u t:Value}(I:Inv X pj σ H s)(rx:cJ x u)(ty:TyOf X.K H x t)(e:W.kitOne X.K t c=some b)(h:∀tk,Q (.bool b) { s with toks:=tk }):
    wpAny (model X.prog X.w) A (call (.builtin "isinstance") [u,c]) Q E s:=by
  cases ty with
  |non=>cases (show u=Value.none from rx);exact W.kia_one W.kitx_none I.kIn True.intro e (fun z=>nomatch z) h
  |bl y=>cases (show u=Value.bool y from rx);exact W.kia_one W.kitx_bool I.kIn True.intro e (fun z=>nomatch z) h
  |int i=>obtain⟨t,q⟩:=(show ∃t,u=Value.int i t from rx);cases q;exact W.kia_one W.kitx_int I.kIn True.intro e (fun z=>nomatch z) h
  |str y=>obtain⟨t,q⟩:=(show ∃t,u=Value.str y t from rx);cases q;exact W.kia_one W.kitx_str I.kIn True.intro e (fun z=>nomatch z) h
  |flt y=>obtain⟨t,q⟩:=(show ∃t,u=Value.float y t from rx);cases q;exact W.kia_one W.kitx_float I.kIn True.intro e (fun z=>nomatch z) h
  | @lst a xs ea=>
    cases (show u=Value.ref a from rx)
    obtain⟨_,_,n,_,h1⟩:=(show cI X.prog X.w H s.heap a (.lst xs) from I.hok a _ ea)
    exact W.kia_one W.kitx_list I.kIn ⟨_,h1,rfl⟩ e (fun z=>nomatch z) h
  | @frz a ob xs ea=>
    cases (show u=Value.ref a from rx)
    obtain⟨_,_,_,n,_,h1⟩:=(show cI X.prog X.w H s.heap a (.frz ob (.lst xs)) from I.hok a _ ea)
    exact W.kia_one W.kitx_list I.kIn ⟨_,h1,rfl⟩ e (fun z=>nomatch z) h
  | @tup a xs ea=>
    cases (show u=Value.ref a from rx)
    obtain⟨_,_,_,p⟩:=(show cI X.prog X.w H s.heap a (.tup xs) from I.hok a _ ea)
    obtain⟨o,h1,h2,_⟩:=p
    exact W.kia_one W.kitx_tuple I.kIn ⟨o,h1,h2⟩ e (fun z=>nomatch z) h
  | @dK a kvs ea=>
    cases (show u=Value.ref a from rx)
    obtain⟨_,_,vs,_,p⟩:=(show cI X.prog X.w H s.heap a (.dK kvs) from I.hok a _ ea)
    obtain⟨o,es,ep,h1,h2,_⟩:=p
    exact W.kia_one W.kitx_dict I.kIn ⟨o,h1,h2.1⟩ e (fun z=>nomatch z) h
  | @dT a ep kvs ea=>
    cases (show u=Value.ref a from rx)
    obtain⟨_,_,xs,_,o,es,h1,h2,_⟩:=(show cI X.prog X.w H s.heap a (.dT ep kvs) from I.hok a _ ea)
    exact W.kia_one W.kitx_dict I.kIn ⟨o,h1,h2.1⟩ e (fun z=>nomatch z) h
  | @ins a C dx fs ea cl ha hn htk hm=>
    cases (show u=Value.ref a from rx)
    obtain⟨mA,O,_⟩:=qS I.hok ea
    obtain⟨od,J,_⟩:=O.look
    exact W.kia_one (W.kitx_own (cl.get _) cl.hd ha hn htk hm) I.kIn J e (fun z=>nomatch z) h
end
structure Room(k:Nat)(A:Around):Prop where
  hd:A.handled=none
  dp:A.depth+3*k+5<recursionLimit
  un:A.units+16*k+200<cLine
theorem Room.mono{j k:Nat}{A:Around}(r:Room k A)(h:j<=k):Room j A:=⟨r.hd,by have:=r.dp;ac_rfl,by have:=r.un;ac_rfl⟩
theorem Room.deeper{k:Nat}{A:Around}(r:Room (k+1) A)(env:Env):Room k (A.deeper env):=
  ⟨r.hd,by have:=r.dp;show A.depth+1+3*k+5<_;ac_rfl,by have:=r.un;show A.units+3+16*k+200<_;ac_rfl⟩
theorem Av{A:Around}{C:Addr}{us:List Value}{kw:List (Str×Value)}:(A.under (.builtin "type.__call__" ⟨.ref C::us,kw⟩)).depth=A.depth+1:=by
  first | rfl | simp[Around.under,Code.weight,Code.isCreation,Code.isGuard,Code.isCaller,Code.frames,Code.isFrame,guardIds]
theorem Au{A:Around}{C:Addr}{us:List Value}{kw:List (Str×Value)}:(A.under (.builtin "type.__call__" ⟨.ref C::us,kw⟩)).units=A.units+1:=by
  first | rfl | simp[Around.under,Code.cUnits,Code.frames,Code.isFrame]
theorem Room.make{k:Nat}{A:Around}(r:Room (k+1) A)(C:Addr)(us:List Value)(kw:List (Str×Value)):Room k (A.under (.builtin "type.__call__" ⟨.ref C::us,kw⟩)):=
  ⟨r.hd,by have:=r.dp;rw[Av];ac_rfl,by have:=r.un;rw[Au];ac_rfl⟩
theorem Room.depth{k:Nat}{A:Around}(r:Room k A):A.depth<recursionLimit:=by have:=r.dp;ac_rfl
theorem Room.units{k:Nat}{A:Around}(r:Room k A):A.units+64<cLine:=by have:=r.un;ac_rfl
noncomputable def LG:TA:=fun _ H Q=>Q [] H
noncomputable def LK(ta:TE)(tr:TA):TA:=fun σ H Q=>ta σ H fun x H1=>tr σ H1 fun xs H2=>Q (x::xs) H2
section
variable {X:Cx} {e:Expr} {es:List Expr} {te:TE} {t:TA} {pos:Pos}
theorem mL:PA X [] LG:=fun _ _ _ _ H Q I h=>Calls.spliced_nil ⟨[],H,I,.nil,h⟩
theorem iS(ha:PE X e te)(hr:PA X es t)(hs:autoParam (starEach (e::es) X.env=(false,eval e X.env)::starEach es X.env) cB._auto_1):PA X (e::es) (LK te t):=by
  intro pos pj s σ H Q I h
  rw[hs]
  show wpAny _ _ (spliced ((false,eval e X.env)::backTo pos (starEach es X.env))) _ _ s
  refine Calls.spliced_cons (thn (ha pj s σ H _ I h) fun u s1 zz=>?_)
  obtain⟨x,H1,I1,r1,q1⟩:=zz
  exact thn (hr pos pj s1 σ H1 _ I1 q1) fun us s2 zq0=>by obtain⟨xs,H2,I2,r2,q2⟩:=zq0;exact⟨x::xs,H2,I2,.cons r1 r2,q2⟩
noncomputable def NF(t:TA):TE:=fun σ H Q=>t σ H fun xs H1=>xs.length<=sizeLine /\ ∀p,H1 p=none->Q (.ref p) (upd H1 p (.tup xs))
noncomputable def NK(t:TA):TE:=fun σ H Q=>t σ H fun xs H1=>xs.length<=sizeLine /\ ∀p,H1 p=none->Q (.ref p) (upd H1 p (.lst xs))
theorem Jq{x1}(h:PA X es t):PE X (.Tuple es x1 pos) (NF t):=by
  intro pj s σ H Q I hq
  refine wpAny_Tuple_spliced (thn (h pos pj s σ H _ I hq) fun us s1 ⟨xs,H1,I1,r,z,q⟩=>⟨by rw[<- r.length];exact z,?_⟩)
  have hf:H1 s1.heap.objs.size=none:=I1.hok.fresh (le_refl _)
  refine⟨.ref s1.heap.objs.size,upd H1 s1.heap.objs.size (.tup xs),I1.laid (t':=s1.toks) (fun b u e=>Heap.get?_push_of_some _ e) (le_refl _) ?_,rfl,q _ hf⟩
  exact⟨z,us,r,⟨_,Heap.get?_push_size _ rfl,rfl,_,rfl⟩⟩
theorem Ju(h:PA X es t):PE X (.List es pos) (NK t):=by
  intro pj s σ H Q I hq
  refine wpAny_List_spliced (thn (h pos pj s σ H _ I hq) fun us s1 ⟨xs,H1,I1,r,z,q⟩=>⟨by rw[<- r.length];exact z,?_⟩)
  have hf:H1 s1.heap.objs.size=none:=I1.hok.fresh (le_refl _)
  refine⟨.ref s1.heap.objs.size,upd H1 s1.heap.objs.size (.lst xs),I1.laid (t':=s1.toks) (fun b u e=>Heap.get?_push_of_some _ e) (le_refl _) ?_,rfl,q _ hf⟩
  exact⟨z,us,0,r,Heap.get?_push_size _ rfl⟩
end
noncomputable abbrev Sp:=List V->Hp->VK->XK->Prop
noncomputable abbrev IS:=List Env->Hp->Shared->XK->Value->Shared->Prop
structure Env0(P:Program)(w:World)(K:W.Frag)(mg:Str->Option Value)(base:Heap)(A:Around)(outer:List Env)(s:Shared)(H:Hp):Prop where
  frames:A.frames=some outer
  mod:Mod K mg base
  bs:∀b o,base.get? b=some o->s.heap.get? b=some o/\H b=none
  bsz:base.objs.size<=s.heap.objs.size
  funs:s.heap.FunFrames base outer
  frf:∀b∈frs outer,H b=none
  hok:nD P w H s.heap
  bare:AllBare s.gens
noncomputable def CE(outer:List Env)(P:Program)(w:World)(H:Hp)(s:Shared)(Q:VK)(u:Value)(s':Shared):Prop:=
  ∃v H',s'.os=s.os/\AllBare s'.gens/\Un (frs outer) [] H H' s.heap s'.heap/\nD P w H' s'.heap/\cJ v u/\Q v H'
noncomputable def CR(CX:IS)(outer:List Env)(P:Program)(w:World)(H:Hp)(s:Shared)(Q:VK)(E:XK)(r:Result)(s':Shared):Prop:=
  match r with
  | .ok (.ret u)=>CE outer P w H s Q u s'
  | .ok _=>False
  | .error e=>CX outer H s E e s'
structure FnOk(P:Program)(w:World)(K:W.Frag)(mg:Str->Option Value)(base:Heap)(CX:IS)(k:Nat)(f:Addr)(fd:FuncData)(ps:List Str)(sp:Sp):Prop where
  len:∀vs H Q E,sp vs H Q E->vs.length=ps.length
  run:∀(A:Around) (outer:List Env) (s:Shared) (H:Hp) (args:Args) (us:List Value) (vs:List V) (Q:VK) (E:XK),Room k A->Env0 P w K mg base A outer s H->BindsTo s fd args (ps.zip us)->bF vs us->sp vs H Q E ->
    codeAny (model P w) A (.call (.ref f) args) (CR CX outer P w H s Q E) s
theorem Env0.make{P:Program}{w:World}{K:W.Frag}{mg:Str->Option Value}{base:Heap}{A:Around}{outer:List Env}{s:Shared}{H:Hp}(e:Env0 P w K mg base A outer s H)(C:Addr)(us:List Value)(kw:List (Str×Value)):
    Env0 P w K mg base (A.under (.builtin "type.__call__" ⟨.ref C::us,kw⟩)) outer s H:=⟨by first | exact e.frames | (simpa [Around.under,Code.envs,Code.isFrame,pushEnvs] using e.frames),e.mod,e.bs,e.bsz,e.funs,e.frf,e.hok,e.bare⟩
section
variable {X:Cx} {pj:List (Addr×Obj)} {σ:St} {H:Hp} {s s':Shared}
theorem Inv.env0(I:Inv X pj σ H s):Env0 X.prog X.w X.K X.mg X.base X.A X.stack s H:=
  ⟨I.ok.frames,I.ok.mod,I.bs,le_trans I.ok.bsz I.sz,I.stack,I.stkFree,I.hok,I.bare⟩
theorem Inv.after{Q:VK}{u:Value}(I:Inv X pj σ H s)(h:CE X.stack X.prog X.w H s Q u s'):EP X pj σ Q u s':=by
  obtain⟨v,H',os,bare,un,hok,r,q⟩:=h
  obtain⟨hh,g,d,t,os'⟩:=s'
  obtain rfl:os'=s.os:=os
  exact⟨v,H',I.call (h':=hh) (g':=g) (d':=d) (t':=t) (ch:=[]) un hok bare (fun b z=>absurd z (by simp)),r,q⟩
end
noncomputable def LL(sp:Sp)(dvs:List V)(E:XK)(t:TA):TE:=fun σ H Q=>t σ H fun vs H1=>sp (vs++dvs) H1 Q E
noncomputable def IW(C:Addr)(m:Str)(sp:Sp)(dvs:List V)(E:XK)(ta:TE)(t:TA):TE:=fun σ H Q=>ta σ H fun x H1=>∃a dx fs,x=.ref a/\H1 a=some (.ins C dx fs)/\fs.lookup m=none /\
  t σ H1 fun vs H2=>sp (x::(vs++dvs)) H2 Q E
noncomputable def LI(C:Addr)(sp:Sp)(dvs:List V)(E:XK)(t:TA):TE:=fun σ H Q=>t σ H fun vs H1=>∀x dx,H1 x=none->H1 dx=none->dx≠x ->
  sp (.ref x::(vs++dvs)) (upd (upd H1 dx (.own x)) x (.ins C dx [])) (fun v H2=>v=.non/\Q (.ref x) H2) E
noncomputable def iM(K:W.Frag)(fd:FuncData)(ps:List Str)(ds:List Value):Prop:=
  ∀(s:Shared) (us:List Value),K.In s.heap->(us++ds).length=ps.length->BindsTo s fd ⟨us,[]⟩ (ps.zip (us++ds))
theorem iM.all{K:W.Frag}{fd:FuncData}{ps:List Str}(h:∀us:List Value,us.length=ps.length->bindArgs fd ⟨us,[]⟩=pure (ps.zip us)):iM K fd ps []:=fun s us _ hl=>by
  rw[append_nil] at hl ⊢
  exact .of_eq (h us hl)
noncomputable def nA(CX:IS)(X:Cx)(E:XK):Prop:=∀(pj:List (Addr×Obj)) (σ:St) (H:Hp) (s:Shared) (e:Value) (s':Shared),Inv X pj σ H s->CX X.stack H s E e s'->X.xe e s'
section
variable {X:Cx} {CX:IS} {k:Nat} {f C:Addr} {fd:FuncData} {ps:List Str} {sp:Sp} {dvs:List V} {ds:List Value} {E:XK} {x m:Str} {p pos apos:Pos} {e o:Expr} {es:List Expr} {ta:TE} {t:TA}
theorem AU{pj:List (Addr×Obj)}{σ:St}{H:Hp}{s:Shared}{Q:VK}{us:List Value}{vs:List V}(F:FnOk X.prog X.w X.K X.mg X.base CX k f fd ps sp)(hr:Room k X.A)(hb:iM X.K fd ps ds)(hd:bF dvs ds)(hx:nA CX X E)
    (I:Inv X pj σ H s) (r:bF vs us) (h:sp (vs++dvs) H Q E):wpAny (model X.prog X.w) X.A (call (.ref f) us) (EP X pj σ Q) X.xe s:=by
  have r2:bF (vs++dvs) (us++ds):=r.append hd
  have hl:(us++ds).length=ps.length:=by rw[<- r2.length];exact F.len _ _ _ _ h
  refine wpAny_call (codeAny_mono (F.run X.A X.stack s H ⟨us,[]⟩ (us++ds) (vs++dvs) Q E hr I.env0 (hb s us I.kIn hl) r2 h) fun r s' hq=>?_)
  cases r with
  |error e=>exact hx pj σ H s e s' I hq
  |ok fl=>
    cases fl with
    |ret u=>exact I.after hq
    |next=>exact False.elim hq
    |brk=>exact False.elim hq
    |cont=>exact False.elim hq
theorem HL(F:FnOk X.prog X.w X.K X.mg X.base CX k f fd ps sp)(hr:Room k X.A)(hg:Gl X x)(hm:X.mg x=some (.ref f))(hk:W.keepIn X.K (.ref f)=true)(hb:iM X.K fd ps ds)(hd:bF dvs ds)(hx:nA CX X E)
    (ha:PA X (e::es) t) (hdb:autoParam ((x==("__debug__" : Str))=false) nB._auto_1) (he:autoParam (starEach (e::es) X.env=(false,eval e X.env)::starEach es X.env) cB._auto_1) (hpl:autoParam ((backTo pos (starEach es X.env)).any (·.1)=false) cB._auto_1):
    PE X (.Call (.Name x p) (e::es) [] pos) (LL sp dvs E t):=by
  intro pj s σ H Q I h
  refine wpAny_Call_Name_kw (wA I hg hm ?_ hdb)
  refine W.callWith_K (h₀:=X.base) I.ok.mod.kin hk (thn (ha pos pj s σ H _ I h) fun us s1 ⟨vs,H1,I1,r,q⟩=>⟨I1.kIn,?_⟩) he hpl
  exact AU F hr hb hd hx I1 r q
theorem HH{pl:Sem Bool}(he:PE X o ta)(c:Cls X.K C)(hm:Meth X.K C m f)(F:FnOk X.prog X.w X.K X.mg X.base CX k f fd ps sp)(hr:Room k X.A)(hb:iM X.K fd ps ds)(hd:bF dvs ds)(hx:nA CX X E)(ha:PA X (e::es) t)
    (hst:autoParam (starEach (e::es) X.env=(false,eval e X.env)::starEach es X.env) cB._auto_1) (hpl:autoParam ((backTo pos (starEach es X.env)).any (·.1)=false) cB._auto_1)
    (ht:autoParam (eval (.Call (.Attribute o m apos) (e::es) [] pos) X.env=(do
      let ov <- eval o X.env
      standAt apos.atName
      let (f,first) <- holding [ov] (getMethod ov m pl)
      callWith pos f first (backTo pos (starEach (e::es) X.env)) (backToKw pos (keywordEach [] X.env)))) cB._auto_1):
    PE X (.Call (.Attribute o m apos) (e::es) [] pos) (IW C m sp dvs E ta t):=by
  intro pj s σ H Q I h
  refine W.methodCall_KW (pl:=pl) (thn (he pj s σ H _ I h) fun u s1 ⟨x,H1,I1,rx,a,dx,fs,ex,ea,l,q⟩=>?_) ht
  subst ex
  obtain rfl:u=Value.ref a:=rx
  refine sO I1 ea c hm l ?_
  refine W.callWith_K (first:=[.ref a]) (h₀:=X.base) I.ok.mod.kin hm.kp (thn (ha pos pj s1 σ H1 _ I1 q) fun us s2 ⟨vs,H2,I2,r,q2⟩=>⟨I2.kIn,?_⟩) hst hpl
  exact AU (us:=.ref a::us) (vs:=.ref a::vs) F hr hb hd hx I2 (.cons rfl r) q2
theorem Ef{pl:Sem Bool}(he:PE X o ta)(c:Cls X.K C)(hm:Meth X.K C m f)(F:FnOk X.prog X.w X.K X.mg X.base CX k f fd ps sp)(hr:Room k X.A)(hb:iM X.K fd ps ds)(hd:bF dvs ds)(hx:nA CX X E)
    (ht:autoParam (eval (.Call (.Attribute o m apos) [] [] pos) X.env=(do
      let ov <- eval o X.env
      standAt apos.atName
      let (f,first) <- holding [ov] (getMethod ov m pl)
      callWith pos f first (backTo pos (starEach [] X.env)) (backToKw pos (keywordEach [] X.env)))) cB._auto_1):
    PE X (.Call (.Attribute o m apos) [] [] pos) (IW C m sp dvs E ta LG):=by
  intro pj s σ H Q I h
  refine W.methodCall_KW (pl:=pl) (thn (he pj s σ H _ I h) fun u s1 ⟨x,H1,I1,rx,a,dx,fs,ex,ea,l,q⟩=>?_) ht
  subst ex
  obtain rfl:u=Value.ref a:=rx
  refine sO I1 ea c hm l ?_
  exact W.callWith_K0 (first:=[.ref a]) I1.kIn hm.kp (AU (us:=[.ref a]) (vs:=[.ref a]) F hr hb hd hx I1 (.cons rfl .nil) q)
structure Mk(K:W.Frag)(C f:Addr):Prop where
  makes:W.makesIn K C=true
  init:W.findIn K (.ref C) "__init__" = some (some (.ref f))
  fn:W.isFn K (.ref f)=true
  kp:W.keepIn K (.ref C)=true
theorem EG{pj:List (Addr×Obj)}{σ:St}{H:Hp}{s:Shared}{Q:VK}{us:List Value}{vs:List V}(M:Mk X.K C f)(F:FnOk X.prog X.w X.K X.mg X.base CX k f fd ps sp)(hr:Room (k+1) X.A)(hb:iM X.K fd ps ds)(hd:bF dvs ds)
    (hx:nA CX X E) (I:Inv X pj σ H s) (r:bF vs us)
    (h:∀x dx,H x=none->H dx=none->dx≠x->sp (.ref x::(vs++dvs)) (upd (upd H dx (.own x)) x (.ins C dx [])) (fun v H2=>v=.non/\Q (.ref x) H2) E):
    wpAny (model X.prog X.w) X.A (call (.ref C) us) (EP X pj σ Q) X.xe s:=by
  have hq:=h (s.heap.objs.size+1) s.heap.objs.size (I.hok.fresh (le_succ _)) (I.hok.fresh (le_refl _)) (ne_of_lt (Nat.lt_succ_self _))
  have I2:=Inv.made (C:=C) I
  have r2:bF (V.ref (s.heap.objs.size+1)::(vs++dvs)) (Value.ref (s.heap.objs.size+1)::(us++ds)):=.cons rfl (r.append hd)
  have hl:(Value.ref (s.heap.objs.size+1)::us++ds).length=ps.length:=by
    have e:=r2.length
    rw[F.len _ _ _ _ hq] at e
    exact e.symm
  refine wpAny_call (FQ (f:=f) I.kIn M.makes M.init (beq_iff_eq.mp M.fn) (codeAny_mono (F.run _ X.stack _ _ ⟨Value.ref (s.heap.objs.size+1)::us,[]⟩ (Value.ref (s.heap.objs.size+1)::(us++ds)) _ _ E (hr.make C us [])
    (I2.env0.make C us []) (hb _ (Value.ref (s.heap.objs.size+1)::us) I2.kIn hl) r2 hq) fun r s' hq'=>?_))
  cases r with
  |error e=>exact hx pj σ _ _ e s' I2 hq'
  |ok fl=>
    cases fl with
    |ret u=>
      obtain⟨v,H',I3,rv,ev,q3⟩:=I2.after hq'
      subst ev
      exact⟨rv,⟨V.ref (s.heap.objs.size+1),H',I3,rfl,q3⟩⟩
    |next=>exact False.elim hq'
    |brk=>exact False.elim hq'
    |cont=>exact False.elim hq'
theorem HI(M:Mk X.K C f)(F:FnOk X.prog X.w X.K X.mg X.base CX k f fd ps sp)(hr:Room (k+1) X.A)(hg:Gl X x)(hm:X.mg x=some (.ref C))(hb:iM X.K fd ps ds)(hd:bF dvs ds)(hx:nA CX X E)
    (ha:PA X (e::es) t) (hdb:autoParam ((x==("__debug__" : Str))=false) nB._auto_1) (he:autoParam (starEach (e::es) X.env=(false,eval e X.env)::starEach es X.env) cB._auto_1) (hpl:autoParam ((backTo pos (starEach es X.env)).any (·.1)=false) cB._auto_1):
    PE X (.Call (.Name x p) (e::es) [] pos) (LI C sp dvs E t):=by
  intro pj s σ H Q I h
  refine wpAny_Call_Name_kw (wA I hg hm ?_ hdb)
  refine W.callWith_K (h₀:=X.base) I.ok.mod.kin M.kp (thn (ha pos pj s σ H _ I h) fun us s1 ⟨vs,H1,I1,r,q⟩=>⟨I1.kIn,?_⟩) he hpl
  exact EG M F hr hb hd hx I1 r q
end
section
variable {X:Cx} {CX:IS} {k:Nat} {f C:Addr} {fd:FuncData} {ps ks:List Str} {sp:Sp} {E:XK} {x m:Str} {p pos apos kpos:Pos} {e o:Expr} {es:List Expr} {kws:List Keyword} {te ta:TE} {t tk:TA} {nm:Option Str}
variable {g:List Value->List Value->List Value} {gV:List V->List V->List V}
end
structure FnScope(N P:List Str)(sc:Scope):Prop where
  kind:sc.kind=.function
  co:sc.isCoroutine=false
  gen:sc.isGenerator=false
  nd:N.Nodup
  pre:N.take P.length=P
  par:∀x∈P,sc.names.lookup x=some .local \/ sc.names.lookup x=some .cell
  nofree:∀y∈sc.names,y.2 ≠ .free
theorem uU{kindOf:Str->Option NameKind}{x:Str}:∀{binds:List (Str×Value)} {m:Str->Option Value},(∀v,(x,v) ∉ binds)->bindL kindOf binds m x=m x
  | [],_,_=>rfl
  | (n,v)::r,m,h=>by
    unfold bindL
    rw[uU fun w hw=>h w (mem_cons_of_mem _ hw)]
    split
    . have:x≠n:=by rintro rfl;exact h v mem_cons_self
      simp[this]
    . rfl
theorem uW{kindOf:Str->Option NameKind}{x:Str}:∀{binds:List (Str×Value)} {m:Str->Option Value},(∀v,(x,v) ∉ binds)->bindC kindOf binds m x=m x
  | [],_,_=>rfl
  | (n,v)::r,m,h=>by
    unfold bindC
    rw[uW fun w hw=>h w (mem_cons_of_mem _ hw)]
    split
    . rfl
    . have:x≠n:=by rintro rfl;exact h v mem_cons_self
      simp[this]
theorem uV{kindOf:Str->Option NameKind}{x:Str}{v:Value}:∀{P:List Str} {vs:List Value} {i:Nat} {m:Str->Option Value},P.Nodup->P[i]?=some x->vs[i]?=some v->kindOf x=some .local ->
    bindL kindOf (P.zip vs) m x=some v
  | [],_,_,_,_,h,_,_=>by simp at h
  |_::_,[],_,_,_,_,h,_=>by simp at h
  |p::P,w::vs,0,m,nd,h1,h2,hk=>by
    simp at h1 h2;subst h1;subst h2
    show bindL kindOf ((p,w)::P.zip vs) m p=_
    unfold bindL
    rw[uU fun v hv=>(nodup_cons.mp nd).1 (of_mem_zip hv).1,if_pos hk]
    simp
  |p::P,w::vs,i+1,m,nd,h1,h2,hk=>by
    show bindL kindOf ((p,w)::P.zip vs) m x=_
    unfold bindL
    exact uV (i:=i) (nodup_cons.mp nd).2 (by simpa using h1) (by simpa using h2) hk
theorem uX{kindOf:Str->Option NameKind}{x:Str}{v:Value}:∀{P:List Str} {vs:List Value} {i:Nat} {m:Str->Option Value},P.Nodup->P[i]?=some x->vs[i]?=some v->kindOf x≠some .local ->
    bindC kindOf (P.zip vs) m x=some v
  | [],_,_,_,_,h,_,_=>by simp at h
  |_::_,[],_,_,_,_,h,_=>by simp at h
  |p::P,w::vs,0,m,nd,h1,h2,hk=>by
    simp at h1 h2;subst h1;subst h2
    show bindC kindOf ((p,w)::P.zip vs) m p=_
    unfold bindC
    rw[uW fun v hv=>(nodup_cons.mp nd).1 (of_mem_zip hv).1,if_neg hk]
    simp
  |p::P,w::vs,i+1,m,nd,h1,h2,hk=>by
    show bindC kindOf ((p,w)::P.zip vs) m x=_
    unfold bindC
    exact uX (i:=i) (nodup_cons.mp nd).2 (by simpa using h1) (by simpa using h2) hk
noncomputable def start(N:List Str)(vs:List V):St:=vs.map some++List.replicate (N.length-vs.length) none
noncomputable def I0(A:Around):List Addr:=match A.handled with
  |some (.ref a)=>[a]
  |_=>[]
theorem DX{A:Around}(h:A.handled=none):I0 A=[]:=by
  unfold I0
  rw[h]
noncomputable def n4(CX:IS)(P:Program)(w:World)(K:W.Frag)(mg:Str->Option Value)(base:Heap)(N:List Str)(qual:Str)(scope:Scope)(f:Addr)(cd:Value)(A:Around)(outer:List Env)(s:Shared)(H:Hp)(E:XK):Cx where
  prog:=P
  w:=w
  K:=K
  mg:=mg
  base:=base
  A:=A.deeper (envOfC qual scope s.heap.objs.size f cd)
  N:=N
  s₀:=s
  HZ:=H
  env:=envOfC qual scope s.heap.objs.size f cd
  outer:=outer
  stack:=envOfC qual scope s.heap.objs.size f cd::outer
  ex:=[]
  calm:=true
  fn:=fun _=>true
  pn:=[]
  hs:=I0 A
  xe:=fun e s'=>wpAny (model P w) (A.deeper (envOfC qual scope s.heap.objs.size f cd)) (leaving (envOfC qual scope s.heap.objs.size f cd) e) (fun _ s''=>CX outer H s E e s'') (fun e' s''=>CX outer H s E e' s'') s'
theorem A1{sc:Scope}{n:Nat}{x:Str}(h:sc.names.lookup x=some .cell):∃c,(cellsFrom n sc.names []).lookup x=some c:=by
  have q:=W.cellsFrom_some sc.names n [] (.inl h)
  exact isSome_iff_exists.mp q
theorem DW{CX:IS}{P:Program}{w:World}{K:W.Frag}{mg:Str->Option Value}{base:Heap}{N ps:List Str}{qual:Str}{scope:Scope}{f:Addr}{cd:Value}{A:Around}{outer:List Env}{s s1:Shared}{H:Hp}{E:XK}{us:List Value}{vs:List V}
    (S:FnScope N ps scope) (hd:A.handled=none) (e0:Env0 P w K mg base A outer s H) (hl:vs.length=ps.length) (r:bF vs us)
    (x:InCallC s s.heap.objs.size (bindL (envOfC qual scope s.heap.objs.size f cd).kindOf (ps.zip us) fun _=>none) (cellsFrom (s.heap.objs.size+1) scope.names []) (bindC (envOfC qual scope s.heap.objs.size f cd).kindOf (ps.zip us) fun _=>none) s1):
    Inv (n4 CX P w K mg base N qual scope f cd A outer s H E) [] (start N vs) H s1:=by
  have hpl:ps.length<=N.length:=by have:=congrArg List.length S.pre;rw[length_take] at this;ac_rfl
  obtain⟨h1,tk,rfl,hk⟩:=x.done
  have noA:∀b:Addr,b ∉ (n4 CX P w K mg base N qual scope f cd A outer s H E).ex:=fun b z=>absurd (show b∈([]:List Addr) from z) (by simp)
  refine⟨⟨e0.mod,S.kind,rfl,rfl,le_refl _,fun y z c h1 h2=>?_,fun y hy=>?_,fun y c _ h=>?_,fun _=>hd,Around.frames_deeper e0.frames,.inr ⟨rfl,rfl⟩,fun b z=>absurd z (noA b),e0.bs,e0.bsz,fun b _ _=>noA b,fun b z=>absurd z (noA b),e0.funs,e0.frf,.inl hd⟩,
    rfl,e0.bare,Un.kept hk,⟨_,x.toInCall.ns,fun i y v h1 h2 h3=>?_⟩,fun y c h=>⟨_,x.cell y c h⟩,e0.hok.fresh (le_refl _),fun y c h=>?_,fun p hp=>absurd (show p∈([]:List (Addr×Obj)) from hp) (by simp),e0.hok.kept hk,?_,fun a ha=>absurd (show a∈I0 A from ha) (by rw[DX hd];simp)⟩
  . exact name_of_addr x.apart (PySem.mem_of_lookup h1) (PySem.mem_of_lookup h2)
  . have hy:scope.names.lookup y=some .cell \/ scope.names.lookup y=some .free:=hy
    rcases hy with hy | hy
    . exact A1 hy
    . exact absurd rfl (S.nofree _ (PySem.mem_of_lookup hy))
  . exact le_of_lt (x.above y c (PySem.mem_of_lookup h))
  . have hi:i<vs.length:=by
      unfold start at h2
      by_cases hi:i<vs.length
      . exact hi
      . rw[List.getElem?_append_right (by simpa using hi)] at h2
        rw[List.getElem?_replicate] at h2
        split at h2<;>cases h2
    have ha:vs[i]?=some v:=by
      unfold start at h2
      rw[List.getElem?_append_left (by simpa using hi),List.getElem?_map] at h2
      cases e:vs[i]? with
      |none=>rw[e] at h2;cases h2
      |some a=>rw[e] at h2;cases h2;rfl
    obtain⟨u,hu,rv⟩:=r.get ha
    have hp:ps[i]?=some y:=by
      rw[<- S.pre,List.getElem?_take_of_lt ⋯];exact h1
    have ndP:ps.Nodup:=by rw[<- S.pre];exact S.nd.sublist (List.take_sublist _ _)
    refine⟨u,rv,?_⟩
    rcases S.par y (mem_of_getElem? hp) with k | k
    . exact .inl ⟨k,uV ndP hp hu k⟩
    . obtain⟨c,e⟩:=A1 (n:=s.heap.objs.size+1) k
      refine .inr ⟨.inl k,c,e,?_⟩
      have q:=x.cell y c e
      rw[uX ndP hp hu (by show scope.names.lookup y≠_;rw[k];decide)] at q
      exact q
  . exact e0.hok.fresh (le_of_lt (x.above y c (PySem.mem_of_lookup h)))
  . unfold start
    show _=N.length
    rw[length_append,length_map,length_replicate]
    ac_rfl
theorem GA{CX:IS}{P:Program}{w:World}{K:W.Frag}{mg:Str->Option Value}{base:Heap}{k:Nat}{f:Addr}{name qual:Str}{params:Arguments}{body:List Stmt}{scope:Scope}{dV kV doc pm cdv ct oc:Value}{an od:Option Addr}
    {osl:Array (Option Value)} {N ps:List Str} {sp:Sp} (lk:K.lookup f=some ⟨oc,od,.func (W.fnOf name qual params body scope dV kV doc pm an cdv ct),osl⟩) (hcd:W.codeIn K cdv qual=true) (S:FnScope N ps scope)
    (len:∀vs H Q E,sp vs H Q E->vs.length=ps.length)
    (hbody:∀(A:Around) (outer:List Env) (s:Shared) (H:Hp) (vs:List V) (Q:VK) (E:XK),Room k (A.deeper (envOfC qual scope s.heap.objs.size f cdv))->sp vs H Q E ->
      ∃t,xL (n4 CX P w K mg base N qual scope f cdv A outer s H E) body t/\t { nx:=fun _ H'=>Q .non H',rt:=Q } (start N vs) H):
    FnOk P w K mg base CX (k+1) f (W.fnOf name qual params body scope dV kV doc pm an cdv ct) ps sp:=by
  refine⟨len,fun A outer s H args us vs Q E hr e0 hb r hsp=>?_⟩
  have hl:=len _ _ _ _ hsp
  have KX:K.In s.heap:=e0.mod.kin.keeps fun b o e=>(e0.bs b o e).1
  have lim:s.heap.NoLimit:=e0.mod.nolimit.keeps fun b o e=>(e0.bs b o e).1
  have hkind:∀y∈ps.zip us,scope.names.lookup y.1=some .local \/ (scope.names.lookup y.1=some .cell/\((cellsFrom (s.heap.objs.size+1) scope.names []).lookup y.1).isSome=true):=fun⟨n,v⟩ hy=>by
    rcases S.par n (of_mem_zip hy).1 with q | q
    . exact .inl q
    . exact .inr ⟨q,W.cellsFrom_some _ _ _ (.inl q)⟩
  refine codeAny_call_function hr.depth (KX _ _ lk) rfl S.co S.gen rfl (W.codeRec_of KX hcd) (hb _ _ _ _ ?_)
  refine wpAny_newFunctionEnv_cells S.kind hkind fun env he s1 x=>?_
  subst he
  refine⟨lim.keeps x.toInCall.keep,codeAny_func ?_⟩
  obtain⟨t,ht,hq⟩:=hbody A outer s H vs Q E (hr.deeper _) hsp
  have I:Inv (n4 CX P w K mg base N qual scope f cdv A outer s H E) [] (start N vs) H s1:=DW S hr.hd e0 hl r x
  refine wpAny_mono (ht [] s1 (start N vs) H _ I hq) (fun fl s' hs=>?_) fun e s' hs=>hs
  have fin:∀{σ':St} {H':Hp} {v:V} {u:Value},Inv (n4 CX P w K mg base N qual scope f cdv A outer s H E) [] σ' H' s'->cJ v u->Q v H'->CE outer P w H s Q u s':=
    fun {σ' H' v u} J rv q=>⟨v,H',J.os,J.bare,J.base,J.hok,rv,q⟩
  cases fl with
  |ret u=>
    obtain⟨v,σ',H',J,rv,q⟩:=hs
    exact fin J rv q
  |next=>
    obtain⟨σ',H',J,q⟩:=hs
    exact fin (v:=V.non) (u:=Value.none) J rfl q
  |brk=>
    obtain⟨_,_,_,q⟩:=hs
    exact False.elim q
  |cont=>
    obtain⟨_,_,_,q⟩:=hs
    exact False.elim q
section
variable {X:Cx} {x:Str} {p pos:Pos} {e:Expr} {es:List Expr} {t:TA} {id T:String} {r:List V->Hp->VK->Prop}
noncomputable def NO(r:List V->Hp->VK->Prop)(t:TA):TE:=fun σ H Q=>t σ H fun vs H1=>r vs H1 Q
theorem yB(hc:eS X (.builtin id) r)(hg:Gl X x)(hm:X.mg x=none)(hv:bootBuiltins x=some (.builtin id))(ha:PA X (e::es) t)(hn:autoParam (x ≠ "__name__") nB._auto_1)(hdb:autoParam ((x==("__debug__" : Str))=false) nB._auto_1)
    (he:autoParam (starEach (e::es) X.env=(false,eval e X.env)::starEach es X.env) cB._auto_1) (hpl:autoParam ((backTo pos (starEach es X.env)).any (·.1)=false) cB._auto_1):PE X (.Call (.Name x p) (e::es) [] pos) (NO r t):=by
  intro pj s σ H Q I h
  refine wpAny_Call_Name_kw (iJ I hg hm hv ?_ hn hdb)
  exact PyProof.Rows.callWith_builtin1 (thn (ha pos pj s σ H _ I h) fun us s1 zq1=>by obtain⟨vs,H1,I1,r1,q1⟩:=zq1;exact hc pj s1 σ H1 vs us Q I1 r1 q1) he hpl
theorem jD(hc:eS X (.type T) r)(hg:Gl X x)(hm:X.mg x=none)(hv:bootBuiltins x=some (.type T))(ha:PA X (e::es) t)(hn:autoParam (x ≠ "__name__") nB._auto_1)(hdb:autoParam ((x==("__debug__" : Str))=false) nB._auto_1)
    (he:autoParam (starEach (e::es) X.env=(false,eval e X.env)::starEach es X.env) cB._auto_1) (hpl:autoParam ((backTo pos (starEach es X.env)).any (·.1)=false) cB._auto_1):PE X (.Call (.Name x p) (e::es) [] pos) (NO r t):=by
  intro pj s σ H Q I h
  refine wpAny_Call_Name_kw (iJ I hg hm hv ?_ hn hdb)
  exact PyProof.Rows.callWith_type1 (thn (ha pos pj s σ H _ I h) fun us s1 zq2=>by obtain⟨vs,H1,I1,r1,q1⟩:=zq2;exact hc pj s1 σ H1 vs us Q I1 r1 q1) he hpl
end
end L2
namespace HT
open PySem PyProof.Rows
section
open PySem.SeqAt
open PySem.AutoSeq1 (wpAny_loadPart')
open PySem.MeetsSeq PySem.MeetsSeq2 PySem.MeetsSeq3
end
section
variable {prog:Program} {w:World} {A:Around} {E:Value->Shared->Prop} {s:Shared}
noncomputable def fE(n d:Nat):Option Int->Nat
  |none=>d
  |some v=>if v<0 then (v+(n:Int)).toNat else min v.toNat n
theorem xY(n d:Nat):fE n d none=d:=rfl
theorem JW(n d:Nat)(hd:d<=n)(o:Option Int):fE n d o<=n:=by
  cases o with
  |none=>exact hd
  |some v=>
    show (if v<0 then (v+(n:Int)).toNat else min v.toNat n)<=n
    by_cases hv:v<0
    . rw[if_pos hv];ac_rfl
    . rw[if_neg hv];exact Nat.min_le_right _ _
theorem CP(v:Int)(n d:Nat):(if v<0 then max (v+(n:Int)) 0 else min v (n:Int))=((fE n d (some v):Nat):Int):=by
  show (if v<0 then max (v+(n:Int)) 0 else min v (n:Int))=(((if v<0 then (v+(n:Int)).toNat else min v.toNat n):Nat):Int)
  by_cases hv:v<0
  . simp only[if_pos hv];ac_rfl
  . simp only[if_neg hv];ac_rfl
theorem BU(lo hi:Option Int)(n:Nat):Builtin.Slice.sliceAdjust lo hi 1 (n:Int)=(((fE n 0 lo:Nat):Int),((fE n n hi:Nat):Int)):=by
  have h1:¬((1:Int)<0):=⋯
  unfold Builtin.Slice.sliceAdjust
  simp only[h1,if_false]
  refine Prod.ext ?_ ?_
  . cases lo with
    |none=>rfl
    |some v=>exact CP v n 0
  . cases hi with
    |none=>rfl
    |some v=>exact CP v n n
theorem Ad(i j:Nat):Builtin.Slice.slicePlaces (i:Int) (j:Int) 1=j-i:=by
  unfold Builtin.Slice.slicePlaces
  have h1:(1:Int) > 0:=⋯
  simp only[h1,if_true,Int.ediv_one]
  split<;>ac_rfl
theorem rL{v:Value}{o:Option Int}{Q:Option Int->Shared->Prop}(p:IsPart v o)(h:Q o s):wpAny (model prog w) A (Builtin.Slice.slicePartIndex v) Q E s:=by
  cases p with
  |none=>exact slicePart_none h
  |int i t=>exact slicePart_int h
theorem oZ{sl:Addr}{vl vu:Value}{lo hi:Option Int}{n:Nat}{Q:Int×Int×Nat->Shared->Prop}(hs:s.heap.IsSliceOf sl vl vu .none)(pl:IsPart vl lo)(pu:IsPart vu hi)
    (h:Q (((fE n 0 lo:Nat):Int),1,fE n n hi-fE n 0 lo) s):wpAny (model prog w) A (Builtin.Slice.sliceApplied (.ref sl) (pure (n:Int))) Q E s:=by
  obtain⟨os,hos,hcs,hds⟩:=id hs
  unfold Builtin.Slice.sliceApplied Builtin.Slice.sliceFields
  refine wpAny_bind (wpAny_bind (wpAny_field hos hds (x:=vl) rfl (wpAny_bind (wpAny_field hos hds (x:=vu) rfl (wpAny_bind (wpAny_field hos hds (x:=.none) rfl (wpAny_pure ?_)))))))
  refine wpAny_bind (slicePart_none ?_)
  show wpAny _ _ (if ((1:Int)==0)=true then _ else _) _ _ s
  rw[if_neg ∅]
  refine wpAny_bind (rL pl (wpAny_bind (rL pu (wpAny_bind (wpAny_pure ?_)))))
  show wpAny _ _ (match Builtin.Slice.sliceAdjust lo hi 1 (n:Int) with | (lo,hi)=>pure (lo,(1:Int),Builtin.Slice.slicePlaces lo hi 1)) _ _ s
  rw[BU lo hi n]
  show wpAny _ _ (pure (((fE n 0 lo:Nat):Int),(1:Int),Builtin.Slice.slicePlaces ((fE n 0 lo:Nat):Int) ((fE n n hi:Nat):Int) 1)) _ _ s
  rw[Ad]
  exact wpAny_pure h
theorem Eb(xs:Array Value)(i k:Nat):((List.range k).filterMap fun(m:Nat)=>xs[((i:Int)+(m:Int)*1).toNat]?).toArray=((xs.toList.drop i).take k).toArray:=by
  have e:(fun(m:Nat)=>xs[((i:Int)+(m:Int)*1).toNat]?)=fun m=>xs[i+m]?:=by
    funext m
    have:((i:Int)+(m:Int)*1).toNat=i+m:=⋯
    rw[this]
  rw[e]
  have:=pick_run xs i k
  rw[List.filterMap_map] at this
  have e2:((fun x=>xs[x]?) ∘ fun x=>i+x)=fun m=>xs[i+m]?:=rfl
  rw[e2] at this
  rw[this]
theorem oC{t sl:Addr}{items:Array Value}{vl vu:Value}{lo hi:Option Int}{Q:Value->Shared->Prop}(ht:IsTup s.heap t items)(hs:s.heap.IsSliceOf sl vl vu .none)(pl:IsPart vl lo)(pu:IsPart vu hi)
    (hw:¬(fE items.size 0 lo=0/\fE items.size items.size hi=items.size))
    (h:Q (.ref s.heap.objs.size) { s with heap:=s.heap.push { cls:=.type "tuple",data:=.seq ((items.toList.drop (fE items.size 0 lo)).take (fE items.size items.size hi-fE items.size 0 lo)).toArray } })
    (hsz:items.size<=sizeLine):wpAny (model prog w) A (getItem (.ref t) (.ref sl)) Q E s:=by
  have htake:sizeOk (.seq ((items.toList.drop (fE items.size 0 lo)).take (fE items.size items.size hi-fE items.size 0 lo)).toArray):=by
    show ((items.toList.drop (fE items.size 0 lo)).take (fE items.size items.size hi-fE items.size 0 lo)).toArray.size<=sizeLine
    rw[size_toArray,length_take,length_drop,length_toList]
    ac_rfl
  have hj:fE items.size items.size hi<=items.size:=JW _ _ (le_refl _) hi
  obtain⟨os,hos,hcs,hds⟩:=id hs
  have hTs:s.TypeIs (.ref sl) "slice" := ⟨os,hos,hcs⟩
  unfold getItem
  try with_reducible refine wpAny_holding ?_
  first | refine wpAny_bind (wpAny_pure ?_) | skip
  refine wpAny_bind (wpAny_sequenceKey ht.typeIs ∅ ?_)
  refine wpAny_bind (wpAny_callSpecial?_slot (name:=Str.ofString "__getitem__") ht.typeIs PyProof.Rows.slot_tuple_getitem
    (wpAny_call_entry PyProof.Rows.slot_tuple_getitem ht.typeIs entry_tuple_getitem ?_ (args_tuple_getitem _ _)))
  show wpAny _ _ (Builtin.Tuple.tupleItemsOf (.ref t) >>= _) _ _ s
  refine wpAny_bind (tupleItemsOf_ ht ?_)
  refine wpAny_bind (wpAny_typeOf hTs ?_)
  rw[if_pos ∅]
  refine wpAny_bind (oZ hs pl pu ?_)
  have hno:¬((((fE items.size 0 lo:Nat):Int)==0&&(1:Int)==1&&(fE items.size items.size hi-fE items.size 0 lo)==items.size)=true):=by
    intro q
    rw[Bool.and_eq_true,Bool.and_eq_true] at q
    have q1:((fE items.size 0 lo:Nat):Int)=0:=eq_of_beq q.1.1
    have q2:fE items.size items.size hi-fE items.size 0 lo=items.size:=eq_of_beq q.2
    exact hw ⟨⋯,⋯⟩
  show wpAny _ _ (if (((fE items.size 0 lo:Nat):Int)==0&&(1:Int)==1&&(fE items.size items.size hi-fE items.size 0 lo)==items.size)=true then _ else _) _ _ s
  rw[if_neg hno,Eb]
  first
    |exact wpAny_bind (m:=Builtin.Tuple.tupleExact _) (wpAny_newObj_type (wpAny_pure ⟨_,rfl,wpAny_pure h⟩) htake)
    |exact wpAny_bind (m:=Builtin.Tuple.tupleExact _) (wpAny_newObj_type (wpAny_bind (wpAny_pure (wpAny_pure ⟨_,rfl,wpAny_pure h⟩))) htake)
    |exact wpAny_bind (wpAny_bind (m:=Builtin.Tuple.tupleExact _) (wpAny_newObj_type (wpAny_pure (wpAny_pure ⟨_,rfl,wpAny_pure h⟩)) htake))
    |exact wpAny_bind (wpAny_bind (m:=Builtin.Tuple.tupleExact _) (wpAny_newObj_type (wpAny_pure ⟨_,rfl,wpAny_pure h⟩) htake))
end
end HT
namespace L2
noncomputable abbrev TO:=St->Hp->(Option Int->Hp->Prop)->Prop
noncomputable def PO(X:Cx)(e:Option Expr)(t:TO):Prop:=
  ∀(pj:List (Addr×Obj)) (s:Shared) (σ:St) (H:Hp) (Q:Option Int->Hp->Prop),Inv X pj σ H s->t σ H Q ->
    wpAny (model X.prog X.w) X.A (evalPart e X.env) (fun u s'=>∃o H',Inv X pj σ H' s'/\IsPart u o/\Q o H') X.xe s
noncomputable def Gi:TO:=fun _ H Q=>Q none H
noncomputable def LC(t:TE):TO:=fun σ H Q=>t σ H fun x H1=>∃i,x=.int i/\Q (some i) H1
theorem k3{ns:List Int}:∀{us:List Value},bF (ns.map V.int) us->IntsAre us ns:=by
  induction ns with
  |nil=>intro us r;rw[map_nil] at r;cases r;exact .nil
  |cons n ns ih=>
    intro us r
    rw[map_cons] at r
    cases r with
    |cons r1 r2=>
      obtain⟨t,e⟩:=r1
      subst e
      exact .cons n t (ih r2)
section
variable {X:Cx} {e:Expr} {te:TE} {lo hi:Option Expr} {tl th:TO} {pos p2:Pos}
theorem HE:PO X none Gi:=by
  intro pj s σ H Q I h
  rw[evalPart_none]
  exact wpAny_pure ⟨none,H,I,.none,h⟩
theorem HD(h:PE X e te):PO X (some e) (LC te):=by
  intro pj s σ H Q I hw
  rw[evalPart_some]
  refine thn (h pj s σ H _ I hw) fun u s1 zz=>?_
  obtain⟨x,H1,I1,r1,q1⟩:=zz
  obtain⟨i,rfl,q⟩:=q1
  obtain⟨t,rfl⟩:=r1
  exact⟨some i,H1,I1,.int i t,q⟩
noncomputable def L0(X:Cx)(r:V->Option Int->Option Int->Hp->VK->Prop):Prop:=
  ∀(pj:List (Addr×Obj)) (s:Shared) (σ:St) (H:Hp) (x:V) (v vl vu:Value) (lo hi:Option Int) (sl:Addr) (Q:VK),Inv X pj σ H s->cJ x v->s.heap.IsSliceOf sl vl vu .none->IsPart vl lo->IsPart vu hi->r x lo hi H Q ->
    ∃T id,typeLookup (.type T) "__getitem__" = pure (some (.builtin id))/\s.TypeIs v T/\wpAny (model X.prog X.w) X.A (getItem v (.ref sl)) (EP X pj σ Q) X.xe s
theorem L0.or{r r':V->Option Int->Option Int->Hp->VK->Prop}(h:L0 X r)(h':L0 X r'):L0 X (fun x lo hi H Q=>r x lo hi H Q \/ r' x lo hi H Q):=by
  intro pj s σ H x v vl vu lo hi sl Q I rx hs pl pu q
  rcases q with q | q
  . exact h pj s σ H x v vl vu lo hi sl Q I rx hs pl pu q
  . exact h' pj s σ H x v vl vu lo hi sl Q I rx hs pl pu q
noncomputable def ON(r:V->Option Int->Option Int->Hp->VK->Prop)(te:TE)(tl th:TO):TE:=fun σ H Q=>te σ H fun x H1=>tl σ H1 fun l H2=>th σ H2 fun u H3=>r x l u H3 Q
theorem Ee{r:V->Option Int->Option Int->Hp->VK->Prop}(hr:L0 X r)(he:PE X e te)(hl:PO X lo tl)(hu:PO X hi th):PE X (.Subscript e (.Slice lo hi none p2) pos) (ON r te tl th):=by
  intro pj s σ H Q I h
  refine Subscript_ (thn (he pj s σ H _ I h) fun v s1 zz=>?_)
  obtain⟨x,H1,I1,r1,q1⟩:=zz
  refine wpAny_Slice (thn (hl pj s1 σ H1 _ I1 q1) fun vl s2 ⟨l,H2,I2,pl,q2⟩=>thn (hu pj s2 σ H2 _ I2 q2) fun vu s3 zz=>?_)
  obtain⟨u,H3,I3,pu,q3⟩:=zz
  rw[evalPart_none]
  refine wpAny_pure ?_
  have I4:Inv X pj σ H3 { s3 with heap:=s3.heap.push { cls:=.type "slice",data:=.fields #[vl,vu,.none] } }:=I3.kept (t':=s3.toks) fun b ob q=>Heap.get?_push_of_some _ q
  obtain⟨T,id,hT,ht,hg⟩:=hr pj { s3 with heap:=s3.heap.push { cls:=.type "slice",data:=.fields #[vl,vu,.none] } } σ H3 x v vl vu l u s3.heap.objs.size Q I4 r1 (Heap.IsSliceOf.new ..) pl pu q3
  show wpAny (model X.prog X.w) X.A (subscriptTail e (.Slice lo hi none p2) v (.ref s3.heap.objs.size)) (EP X pj σ Q) X.xe { s3 with heap:=s3.heap.push { cls:=.type "slice",data:=.fields #[vl,vu,.none] } }
  exact tail_any (ops:=[.ref s3.heap.objs.size,v]) ht hT hg (by with_unfolding_all rfl)
noncomputable def zZ(xs:List V)(lo hi:Option Int):List V:=(xs.drop (HT.fE xs.length 0 lo)).take (HT.fE xs.length xs.length hi-HT.fE xs.length 0 lo)
theorem qA(xs:List V)(lo hi:Option Int):(zZ xs lo hi).length<=xs.length:=by
  unfold zZ
  rw[length_take,length_drop]
  ac_rfl
noncomputable def NU(K:W.Frag):V->Option Int->Option Int->Hp->VK->Prop:=fun x lo hi H Q=>∃a xs,x=.ref a/\lY K H a xs /\
  ¬(HT.fE xs.length 0 lo=0/\HT.fE xs.length xs.length hi=xs.length) /\ ∀p,H p=none->Q (.ref p) (upd H p (.tup (zZ xs lo hi)))
theorem JV:L0 X (NU X.K):=by
  intro pj s σ H x v vl vu lo hi sl Q I rx hs pl pu h
  obtain⟨a,xs,rfl,hx,hw,q⟩:=h
  cases rx
  obtain⟨its,r,ht,hz⟩:=I.tuple hx
  have hlen:its.toArray.size=xs.length:=by rw[size_toArray];exact r.length.symm
  refine⟨"tuple",_,PyProof.Rows.slot_tuple_getitem.lookup,ht.typeIs,?_⟩
  refine HT.oC ht hs pl pu (by rw[hlen];exact hw) ?_ (by rw[hlen];exact hz)
  rw[hlen]
  refine⟨.ref s.heap.objs.size,_,I.laid (t':=s.toks) (o:=.tup (zZ xs lo hi)) (fun b ob q=>Heap.get?_push_of_some _ q) (le_refl _) ?_,rfl,q _ (I.hok.fresh (le_refl _))⟩
  exact⟨le_trans (qA xs lo hi) hz,_,(r.drop (HT.fE xs.length 0 lo)).take (HT.fE xs.length xs.length hi-HT.fE xs.length 0 lo),IsTup.new _ _⟩
end
noncomputable def oQ(n:Nat)(i:Int):Option Nat:=if 0<=i then (if i<n then some i.toNat else none) else if -(n:Int)<=i then some (i+n).toNat else none
noncomputable def jH{α:Type}(xs:List α)(i:Int):Option α:=(oQ xs.length i).bind fun j=>xs[j]?
theorem Hw{n:Nat}{i:Int}{j:Nat}(h:oQ n i=some j):seqIndex? i n=some j/\j<n /\ -(n:Int)<=i/\i<n:=by
  unfold oQ at h
  by_cases h0:0<=i
  . rw[if_pos h0] at h
    by_cases h1:i<n
    . rw[if_pos h1] at h
      have e:i.toNat=j:=Option.some.inj h
      exact⟨by rw[seqIndex_of h0 h1,e],⋯,⋯,h1⟩
    . rw[if_neg h1] at h;cases h
  . rw[if_neg h0] at h
    by_cases h1:-(n:Int)<=i
    . rw[if_pos h1] at h
      have e:(i+n).toNat=j:=Option.some.inj h
      exact⟨by rw[seqIndex_neg ⋯ h1,e],⋯,h1,⋯⟩
    . rw[if_neg h1] at h;cases h
theorem xF{α:Type}{xs:List α}{i:Int}{v:α}(h:jH xs i=some v):∃j,seqIndex? i xs.length=some j/\xs[j]?=some v/\j<xs.length /\ -(xs.length:Int)<=i/\i<xs.length:=by
  unfold jH at h
  cases e:oQ xs.length i with
  |none=>rw[e] at h;cases h
  |some j=>
    rw[e] at h
    obtain⟨h1,h2,h3,h4⟩:=Hw e
    exact⟨j,h1,h,h2,h3,h4⟩
theorem eU{α:Type}{xs:List α}{j:Nat}{v:α}(h:xs[j]?=some v):jH xs (j:Int)=some v:=by
  have hj:j<xs.length:=(List.getElem?_eq_some_iff.mp h).1
  have e:oQ xs.length (j:Int)=some j:=by
    unfold oQ
    rw[if_pos ⋯,if_pos ⋯];simp
  unfold jH;rw[e];exact h
theorem A5{α:Type}(xs:List α)(v:α):jH (xs++[v]) (-1)=some v:=by
  have hl:(xs++[v]).length=xs.length+1:=by simp
  have e:oQ (xs++[v]).length (-1)=some xs.length:=by
    unfold oQ
    rw[hl,if_neg ∅,if_pos ⋯]
    congr 1
    ac_rfl
  unfold jH
  rw[e]
  show (xs++[v])[xs.length]?=some v
  simp
noncomputable def CU(b:Expr):Prop:=∀o i,subscripted b false o i=operate [o,i] (getItem o i)
noncomputable def Gd(X:Cx)(r:R2):Prop:=
  ∀(value slice:Expr) (pj:List (Addr×Obj)) (s:Shared) (σ:St) (H:Hp) (x y:V) (v u:Value) (Q:VK),Inv X pj σ H s->cJ x v->cJ y u->r x y H Q ->
    subscripted slice false v u=operate [v,u] (getItem v u)->wpAny (model X.prog X.w) X.A (subscriptTail value slice v u) (EP X pj σ Q) X.xe s
noncomputable def OH(X:Cx)(id:String)(r:V->List V->Hp->VK->Prop):Prop:=
  ∀(pj:List (Addr×Obj)) (s:Shared) (σ:St) (H:Hp) (x:V) (xs:List V) (v:Value) (us:List Value) (Q:VK),Inv X pj σ H s->cJ x v->bF xs us->r x xs H Q ->
    wpAny (model X.prog X.w) X.A (call (.builtin id) (v::us)) (EP X pj σ Q) X.xe s
section
variable {X:Cx} {a b:Expr} {ta tb:TE} {pos:Pos}
theorem Gd.or{r r':R2}(h:Gd X r)(h':Gd X r'):Gd X (fun x y H Q=>r x y H Q \/ r' x y H Q):=by
  intro value slice pj s σ H x y v u Q I rx ry q hs
  rcases q with q | q
  . exact h value slice pj s σ H x y v u Q I rx ry q hs
  . exact h' value slice pj s σ H x y v u Q I rx ry q hs
theorem Lq{r:R2}(hr:Gd X r)(ha:PE X a ta)(hb:PE X b tb)(hs:CU b):PE X (.Subscript a b pos) (LD r ta tb):=by
  intro pj s σ H Q I h
  exact Subscript_ (Kw ha hb I h fun v u s2 x y H2 I2 rx ry q=>hr a b pj s2 σ H2 x y v u Q I2 rx ry q (hs _ _))
noncomputable def Li(K:W.Frag):R2:=fun x y H Q=>∃p xs i v,x=.ref p/\y=.int i/\eJ K H p xs/\jH xs i=some v/\Q v H
noncomputable def Lg(K:W.Frag):R2:=fun x y H Q=>∃p xs i v,x=.ref p/\y=.int i/\lY K H p xs/\jH xs i=some v/\Q v H
noncomputable def Lh:R2:=fun x y H Q=>∃z i c,x=.str z/\y=.int i/\z.length<=sizeLine/\jH z.cps.toList i=some c/\Q (.str ⟨#[c]⟩) H
theorem Hu:Gd X (Li X.K):=by
  intro value slice pj s σ H x y v u Q I rx ry h hs
  obtain⟨p,xs,i,z,rfl,rfl,hq,he,q⟩:=h
  cases rx
  obtain⟨t,rfl⟩:=ry
  obtain⟨its,r,pl,hz⟩:=I.list hq
  obtain⟨j,h1,h2,h3,h4,h5⟩:=xF he
  obtain⟨w,ew,rw'⟩:=r.get h2
  have hl:=r.length
  have hn:=pF
  have fin:EP X pj σ Q w s:=⟨z,H,I,rw',q⟩
  by_cases h0:0<=i
  . have hj:i.toNat=j:=by
      rw[seqIndex_of h0 h5] at h1
      exact Option.some.inj h1
    exact item_listR pl.isList h0 ⋯ (by rw[hj];simpa using ew) fin hs
  . have hj:(i+(its.toArray.size:Int)).toNat=j:=by
      rw[seqIndex_neg ⋯ h4] at h1
      rw[size_toArray,<- hl]
      exact Option.some.inj h1
    exact subscriptTail_builtinR (x:=w) pl.isList.typeIs slot_list_getitem.lookup
      (wpAny_getItem_list_neg (Q:=fun r s'=>r=w/\EP X pj σ Q r s') pl.isList ⋯ (by rw[size_toArray]<;>ac_rfl) ⋯ (by rw[hj];simpa using ew) ⟨rfl,fin⟩) hs
theorem Kb:Gd X (Lg X.K):=by
  intro value slice pj s σ H x y v u Q I rx ry h hs
  obtain⟨p,xs,i,z,rfl,rfl,hq,he,q⟩:=h
  cases rx
  obtain⟨t,rfl⟩:=ry
  obtain⟨its,r,pl,hz⟩:=I.tuple hq
  obtain⟨j,h1,h2,h3,h4,h5⟩:=xF he
  obtain⟨w,ew,rw'⟩:=r.get h2
  have hl:=r.length
  have hn:=pF
  have fin:EP X pj σ Q w s:=⟨z,H,I,rw',q⟩
  exact subscriptTail_builtinR (x:=w) pl.typeIs slot_tuple_getitem.lookup
    (getItem_tuple (j:=j) (Q:=fun r s'=>r=w/\EP X pj σ Q r s') pl ⋯ ⋯ (by rw[size_toArray,<- hl];exact h1) (by simpa using ew) ⟨rfl,fin⟩) hs
theorem Kc:Gd X Lh:=by
  intro value slice pj s σ H x y v u Q I rx ry h hs
  obtain⟨z,i,c,rfl,rfl,hz,he,q⟩:=h
  obtain⟨t,rfl⟩:=rx
  obtain⟨t',rfl⟩:=ry
  obtain⟨j,h1,h2,h3,h4,h5⟩:=xF he
  have hl:z.cps.toList.length=z.length:=by simp[Str.length]
  rw[hl] at h1 h4 h5
  have hn:=pF
  exact tail_any (typeIs_str s z t) slot_str_getitem.lookup (getItem_str (c:=c) (by
    have e1:decide (i < -(2 ^ 63:Int))=false:=decide_eq_false ⋯
    have e2:decide (i >= 2 ^ 63)=false:=decide_eq_false ⋯
    rw[e1,e2,Bool.or_false]) (by rw[h1];simpa using h2) ⟨.str ⟨#[c]⟩,H,I.tok _,⟨_,rfl⟩,q⟩) hs
noncomputable def OQ(K:W.Frag):R2:=fun x y H Q=>Li K x y H Q \/ Lg K x y H Q \/ Lh x y H Q
theorem Kd:Gd X (OQ X.K):=Hu.or (Kb.or Kc)
theorem vC(lo hi:Option Int)(n:Nat):(sliceBounds lo hi none n).1=((HT.fE n 0 lo:Nat):Int)/\(sliceBounds lo hi none n).2.1=((HT.fE n n hi:Nat):Int)/\(sliceBounds lo hi none n).2.2=1:=by
  refine⟨?_,?_,rfl⟩
  . cases lo with
    |none=>simp[sliceBounds,HT.fE]
    |some i=>
      simp only[sliceBounds,HT.fE,getD_none,show (1:Int) > 0 by decide,if_true]
      by_cases h:i<0
      . simp only[h,if_true]<;>ac_rfl
      . simp only[h,if_false]<;>ac_rfl
  . cases hi with
    |none=>simp[sliceBounds,HT.fE]
    |some i=>
      simp only[sliceBounds,HT.fE,getD_none,show (1:Int) > 0 by decide,if_true]
      by_cases h:i<0
      . simp only[h,if_true]<;>ac_rfl
      . simp only[h,if_false]<;>ac_rfl
theorem tE(its:List Value)(lo hi:Option Int):slicePick its.toArray lo hi none=((its.drop (HT.fE its.length 0 lo)).take (HT.fE its.length its.length hi-HT.fE its.length 0 lo)).toArray:=by
  obtain⟨h1,h2,h3⟩:=vC lo hi its.toArray.size
  unfold slicePick
  rw[h1,h2,h3]
  simp only[sliceRange_one,pick_run,size_toArray]<;>rfl
noncomputable def NV(K:W.Frag):V->Option Int->Option Int->Hp->VK->Prop:=fun x lo hi H Q=>∃a xs,x=.ref a/\eJ K H a xs /\ ∀p,H p=none->Q (.ref p) (upd H p (.lst (zZ xs lo hi)))
theorem Gk:L0 X (NV X.K):=by
  intro pj s σ H x v vl vu lo hi sl Q I rx hs pl pu h
  obtain⟨a,xs,rfl,hx,q⟩:=h
  cases rx
  obtain⟨its,r,ht,hz⟩:=I.list hx
  have hlen:=r.length
  refine⟨"list",_,slot_list_getitem.lookup,ht.isList.typeIs,?_⟩
  refine wpAny_getItem_list_slice ht.isList hs pl pu .none (by simp) ?_ (by rw[size_toArray]<;>ac_rfl)
  rw[tE,<- hlen]
  refine⟨.ref s.heap.objs.size,_,I.laid (t':=s.toks) (o:=.lst (zZ xs lo hi)) (fun b ob q=>Heap.get?_push_of_some _ q) (le_refl _) ?_,rfl,q _ (I.hok.fresh (le_refl _))⟩
  exact⟨le_trans (qA xs lo hi) hz,_,0,(r.drop (HT.fE xs.length 0 lo)).take (HT.fE xs.length xs.length hi-HT.fE xs.length 0 lo),Heap.get?_push_size _ rfl⟩
theorem xE:eS X (.builtin "len") (fun xs H Q=>∃p ys,xs=[.ref p]/\(eJ X.K H p ys \/ lY X.K H p ys)/\Q (.int ys.length) H):=by
  intro pj s σ H xs us Q I r h
  obtain⟨p,ys,rfl,hq,q⟩:=h
  obtain⟨u,rfl,rx⟩:=i8 r
  cases rx
  have hn:=pF
  rcases hq with hq | hq
  . obtain⟨its,r',pl,hz⟩:=I.list hq
    have hlen:=r'.length
    exact Calls.call_len_list pl.isList (by simp only[size_toArray]<;>ac_rfl) ⟨.int ys.length,H,I.tok _,⟨s.toks+1,by rw[size_toArray,hlen]⟩,q⟩
  . obtain⟨its,r',pl,hz⟩:=I.tuple hq
    have hlen:=r'.length
    exact len_tuple pl (by simp only[size_toArray]<;>ac_rfl) ⟨.int ys.length,H,I.tok _,⟨s.toks+1,by rw[size_toArray,hlen]⟩,q⟩
theorem xD:eS X (.builtin "len") (fun xs H Q=>∃z,xs=[.str z]/\z.length<=sizeLine/\Q (.int z.length) H):=by
  intro pj s σ H xs us Q I r h
  obtain⟨z,rfl,hz,q⟩:=h
  obtain⟨u,rfl,t,rfl⟩:=i8 r
  have hn:=pF
  exact len_str ⋯ ⟨.int z.length,H,I.tok _,⟨_,rfl⟩,q⟩
theorem eS.or{f:Value}{r r':List V->Hp->VK->Prop}(h:eS X f r)(h':eS X f r'):eS X f (fun xs H Q=>r xs H Q \/ r' xs H Q):=by
  intro pj s σ H xs us Q I rs q
  rcases q with q | q
  . exact h pj s σ H xs us Q I rs q
  . exact h' pj s σ H xs us Q I rs q
theorem xC:eS X (.type "list") (fun xs H Q=>∃p ys,xs=[.ref p]/\(eJ X.K H p ys \/ lY X.K H p ys) /\ ∀l,H l=none->Q (.ref l) (upd H l (.lst ys))):=by
  intro pj s σ H xs us Q I r h
  obtain⟨p,ys,rfl,hq,q⟩:=h
  obtain⟨u,rfl,rx⟩:=i8 r
  cases rx
  have fin:∀(its:List Value),bF ys its->ys.length<=sizeLine -> ∀(h':Heap) (c':Nat),(∀b o',s.heap.get? b=some o'->h'.get? b=some o') ->
      h'.get? s.heap.objs.size=some { cls:=.type "list",dict:=none,data:=.seq its.toArray c',slots:=#[] }->EP X pj σ Q (.ref s.heap.objs.size) { s with heap:=h' }:=fun its r' hz h' c' kp e=>
    ⟨.ref s.heap.objs.size,_,I.laid (t':=s.toks) kp (le_refl _) (show cI X.prog X.w _ h' _ (.lst ys) from⟨hz,its,c',r',e⟩),rfl,q _ (I.hok.fresh (le_refl _))⟩
  rcases hq with hq | hq
  . obtain⟨its,r',pl,hz⟩:=I.list hq
    have hlen:=r'.length
    obtain⟨o,ho,hc,n,hd⟩:=pl.isList
    exact call_list_seq p (.inl rfl) ho hc hd (fun h' c' kp e=>fin its r' hz h' c' kp e) (by simp only[size_toArray]<;>ac_rfl)
  . obtain⟨its,r',pl,hz⟩:=I.tuple hq
    have hlen:=r'.length
    obtain⟨o,ho,hc,n,hd⟩:=pl
    exact call_list_seq p (.inr rfl) ho hc hd (fun h' c' kp e=>fin its r' hz h' c' kp e) (by simp only[size_toArray]<;>ac_rfl)
theorem tU:eS X (.type "tuple") (fun xs H Q=>∃p ys,xs=[.ref p]/\((eJ X.K H p ys /\ ∀l,H l=none->Q (.ref l) (upd H l (.tup ys))) \/ (lY X.K H p ys/\Q (.ref p) H))):=by
  intro pj s σ H xs us Q I r h
  obtain⟨p,ys,rfl,h⟩:=h
  obtain⟨u,rfl,rx⟩:=i8 r
  cases rx
  rcases h with⟨hq,q⟩ | ⟨hq,q⟩
  . obtain⟨its,r',pl,hz⟩:=I.list hq
    have hlen:=r'.length
    refine call_tuple_list pl.isList (fun h' kp=>?_) (by simp only[size_toArray]<;>ac_rfl)
    have I1:Inv X pj σ H { s with heap:=h' }:=I.kept (t':=s.toks) kp
    have I2:Inv X pj σ (upd H h'.objs.size (.tup ys)) { s with heap:=h'.push { cls:=.type "tuple",data:=.seq its.toArray } }:=
      I1.laid (t':=s.toks) (fun b o e=>Heap.get?_push_of_some _ e) (le_refl _) (show cI X.prog X.w _ _ _ (.tup ys) from⟨hz,its,r',IsTup.new _ _⟩)
    exact⟨.ref h'.objs.size,_,I2,rfl,q _ (I1.hok.fresh (le_refl _))⟩
  . obtain⟨its,r',pl,hz⟩:=I.tuple hq
    exact call_tuple_same pl ⟨.ref p,H,I,rfl,q⟩
noncomputable def OD(K:W.Frag)(T:String)(x:V)(H:Hp):Prop:=match x with
  | .str _=>T = "str"
  | .int _=>T = "int"
  | .ref p=>(T = "list" /\ ∃xs,eJ K H p xs) \/ (T = "tuple" /\ ∃o,K.lookup p=some o/\o.cls=.type "tuple" /\ o.dict=none) \/
      (T = "dict" /\ ((∃kvs,H p=some (.dK kvs)) \/ ∃ep kvs,H p=some (.dT ep kvs))) \/ (T = "set" /\ ∃S n,H p=some (.set S n))
  |_=>False
theorem JN{pj:List (Addr×Obj)}{σ:St}{H:Hp}{s:Shared}{T:String}{x:V}{v:Value}(I:Inv X pj σ H s)(r:cJ x v)(ty:OD X.K T x H):
    s.TypeIs v T /\ ∀a,v=.ref a -> ∃ob,s.heap.get? a=some ob/\ob.dict=none:=by
  cases x with
  |str z=>
    obtain⟨t,rfl⟩:=r
    cases (show T = "str" from ty)
    exact⟨typeIs_str s z t,fun _ e=>nomatch e⟩
  |int i=>
    obtain⟨t,rfl⟩:=r
    cases (show T = "int" from ty)
    exact⟨typeIs_int s i t,fun _ e=>nomatch e⟩
  |ref p=>
    cases r
    rcases ty with⟨rfl,xs,hq⟩ | ⟨rfl,o,hk,hc,hd⟩ | ⟨rfl,hk⟩ | ⟨rfl,S,n,hk⟩
    . obtain⟨its,_,pl,_⟩:=I.list hq
      refine⟨pl.isList.typeIs,fun a e=>?_⟩
      cases e
      obtain⟨o,n,e,c,hd,_⟩:=pl
      exact⟨o,e,hd⟩
    . refine⟨⟨o,I.kIn p o hk,hc⟩,fun a e=>?_⟩
      cases e
      exact⟨o,I.kIn _ o hk,hd⟩
    . have z:∃o,s.heap.get? p=some o/\o.ExactDict:=by
        rcases hk with⟨kvs,hk⟩ | ⟨ep,kvs,hk⟩
        . obtain⟨_,_,_,_,o,_,_,e,ex,_⟩:=I.hok p _ hk
          exact⟨o,e,ex⟩
        . obtain⟨_,_,_,_,o,_,e,ex,_⟩:=I.hok p _ hk
          exact⟨o,e,ex⟩
      obtain⟨o,e,ex⟩:=z
      refine⟨⟨o,e,ex.1⟩,fun a e2=>?_⟩
      cases e2
      exact⟨o,e,ex.2.1⟩
    . obtain⟨o,_,_,_,e,ex,_⟩:=I.hok p _ hk
      refine⟨⟨o,e,ex.1⟩,fun a e2=>?_⟩
      cases e2
      exact⟨o,e,ex.2.1⟩
  |_=>exact False.elim ty
noncomputable def OP(K:W.Frag)(T:String)(r:V->List V->Hp->VK->Prop)(to:TE)(t:TA):TE:=fun σ H Q=>to σ H fun x H1=>OD K T x H1/\t σ H1 fun xs H2=>r x xs H2 Q
variable {o e:Expr} {es:List Expr} {to:TE} {t:TA} {name:Str} {apos cpos:Pos} {T id:String} {r:V->List V->Hp->VK->Prop}
theorem Io(pa:PlainAttrs T)(slot:Slot T name id)(hty:typeOf (.builtin id)=pure (.type "method_descriptor"))(hm:OH X id r)(ho:PE X o to)(ha:PA X (e::es) t)
    (hbase:autoParam (attributeBase o name X.env (eval o X.env)=eval o X.env) cB._auto_1)
    (hfew:autoParam (((backTo cpos (starEach (e::es) X.env)).all (fun x=>!x.1)&&(backToKw cpos (keywordEach [] X.env)).all (fun x=>x.1.isSome)
      && decide ((e::es).length+([]:List Keyword).length+(if ([]:List Keyword).isEmpty then 0 else 1)<30))=true) cB._auto_1)
    (hline:autoParam ((apos.endLine==cpos.line)=true) cB._auto_1) (hs:autoParam (starEach (e::es) X.env=(false,eval e X.env)::starEach es X.env) cB._auto_1) (hplain:autoParam ((backTo cpos (starEach es X.env)).any (·.1)=false) cB._auto_1):
    PE X (.Call (.Attribute o name apos) (e::es) [] cpos) (OP X.K T r to t):=by
  intro pj s σ H Q I h
  refine wpAny_Call_method_late hbase hfew hline rfl (thn (ho pj s σ H _ I h) fun v s1 zz=>?_)
  obtain⟨x,H1,I1,r1,ty,q1⟩:=zz
  obtain⟨h1,h2⟩:=JN I1 r1 ty
  refine⟨T,id,pa,slot,hty,h1,h2,?_⟩
  have hA:=ha cpos pj s1 σ H1 _ I1 q1
  rw[hs] at hA ⊢
  refine Calls.callWith_builtin (by show (false || (backTo cpos (starEach es X.env)).any (·.1))=false;rw[hplain]<;>rfl) (Calls.evalArgs_plain ?_)
  exact thn hA fun us s2 zq3=>by obtain⟨vs,H2,I2,r2,q2⟩:=zq3;exact hm pj s2 σ H2 x vs v us Q I2 r1 r2 q2
/- xs.append(e),list.index on a module's tuple .. are OH facts of 06m -/
end
noncomputable def OI(X:Cx)(id:String)(r:V->List V->Hp->VK->Prop):Prop:=
  ∀(pj:List (Addr×Obj)) (s:Shared) (σ:St) (H:Hp) (x:V) (xs:List V) (v:Value) (us:List Value) (Q:VK),Inv X pj σ H s->cJ x v->bF xs us->r x xs H Q ->
    wpAny (model X.prog X.w) X.A (call (.builtin id) (v::us)) (EP X pj σ Q) X.xe s
theorem bF.one:∀{x:V} {us:List Value},bF [x] us -> ∃u,us=[u]/\cJ x u
  |_,_,.cons r .nil=>⟨_,rfl,r⟩
theorem bF.rep{xs:List V}{us:List Value}(h:bF xs us):∀k:Nat,bF (List.replicate k xs).flatten (List.replicate k us).flatten
  |0=>.nil
  |k+1=>by
    rw[replicate_succ,replicate_succ,flatten_cons,flatten_cons]
    exact bF.append h (bF.rep h k)
theorem uQ(its:List Value):∀(k:Nat) (acc:List Value),
    List.foldl (fun x1 x2=>x1++x2) acc.toArray (List.replicate k its.toArray)=(acc++(List.replicate k its).flatten).toArray
  |0,acc=>by simp
  |k+1,acc=>by
    have e:acc.toArray++its.toArray=(acc++its).toArray:=by simp
    have e2:(acc++its)++(List.replicate k its).flatten=acc++(List.replicate (k+1) its).flatten:=by
      rw[replicate_succ,flatten_cons,append_assoc]
    rw[<- e2,<- uQ its k (acc++its),<- e,replicate_succ,List.foldl_cons]
section
variable {X:Cx} {pj:List (Addr×Obj)} {σ:St} {H:Hp} {s:Shared} {l b:Addr} {xs ys zs:List V}
theorem Inv.lset{its its':List Value}{n:Nat}{f:Array Value->Array Value}{t':Nat}(I:Inv X pj σ H s)(hH:H l=some (.lst xs))
    (e:s.heap.get? l=some { cls:=.type "list",data:=.seq its.toArray n }) (hf:f its.toArray=its'.toArray) (hv:bF ys its') (hz:ys.length<=sizeLine):
    Inv X pj σ (upd H l (.lst ys)) { s with heap:=s.heap.update l (Obj.mapSeq f),toks:=t' }:=by
  have q:=PySem.IsL.update e f
  rw[hf] at q
  refine I.write (x:=l) (e:=l) (by rw[hH];exact trivial) (.inl rfl) (fun b' u hb hu=>(Heap.get?_update_other s.heap (Obj.mapSeq f) (Ne.symm hb)).trans hu) ⟨_,q⟩ ?_
  exact⟨hz,its',_,hv,q⟩
theorem Inv.lnew{its:List Value}{t':Nat}(I:Inv X pj σ H s)(hv:bF ys its)(hz:ys.length<=sizeLine):
    Inv X pj σ (upd H s.heap.objs.size (.lst ys)) { s with heap:=s.heap.push { cls:=.type "list",data:=.seq its.toArray },toks:=t' }:=
  I.laid (fun _ _ q=>Heap.get?_push_of_some _ q) (le_refl _) ⟨hz,its,0,hv,Heap.get?_push_size _ rfl⟩
theorem Inv.fresh(I:Inv X pj σ H s):H s.heap.objs.size=none:=I.hok.fresh (le_refl _)
theorem Inv.lstM(I:Inv X pj σ H s)(hH:H l=some (.lst xs)):xs.length<=sizeLine /\ ∃(its:List Value) (n:Nat),bF xs its/\xs.length=its.length/\s.heap.get? l=some { cls:=.type "list",data:=.seq its.toArray n }:=by
  obtain⟨z,its,n,r,e⟩:=I.hok l _ hH
  exact⟨z,its,n,r,r.length,e⟩
theorem yX{n:Nat}(h:n<=sizeLine):Builtin.List.listTooLong n=false:=by
  unfold Builtin.List.listTooLong
  exact decide_eq_false ⋯
end
section
variable {X:Cx}
noncomputable def Gp:V->List V->Hp->VK->Prop:=fun x vs H Q=>∃l xs y,x=.ref l/\vs=[y]/\H l=some (.lst xs)/\xs.length<sizeLine/\Q .non (upd H l (.lst (xs++[y])))
theorem uH:OI X "list.append" Gp:=by
  intro pj s σ H x vs v us Q I rx rv h
  obtain⟨l,xs,y,rfl,rfl,hH,hz,q⟩:=h
  cases rx
  obtain⟨u,rfl,ru⟩:=rv.one
  obtain⟨z,its,n,r,hl,e⟩:=I.lstM hH
  refine call_meets F.slot_list_append ⟨_,e,rfl⟩ F.entry_list_append (F.args_list_append_2 _ _) (PySem.list_append l its.toArray n u (by rw[size_toArray];ac_rfl)) ⟨e,?_⟩
  refine⟨.non,_,I.lset (its':=its++[u]) hH e (by simp) (r.append (.cons ru .nil)) ?_,rfl,q⟩
  rw[length_append,List.length_singleton]
  ac_rfl
noncomputable def Go:V->List V->Hp->VK->Prop:=fun x vs H Q=>∃l b xs zs,x=.ref l/\vs=[.ref b]/\H l=some (.lst xs)/\H b=some (.lst zs)/\xs.length+zs.length<=sizeLine/\Q .non (upd H l (.lst (xs++zs)))
theorem D7:OI X "list.extend" Go:=by
  intro pj s σ H x vs v us Q I rx rv h
  obtain⟨l,b,xs,zs,rfl,rfl,hH,hB,hz,q⟩:=h
  cases rx
  obtain⟨u,rfl,ru⟩:=rv.one
  cases ru
  obtain⟨z,its,n,r,hl,e⟩:=I.lstM hH
  obtain⟨z2,its2,n2,r2,hl2,e2⟩:=I.lstM hB
  have hsz:its.toArray.size+its2.toArray.size<=sizeLine:=by rw[size_toArray,size_toArray];ac_rfl
  have hlong:¬(!its.toArray.isEmpty&&Builtin.List.listTooLong (its.toArray.size+its2.toArray.size))=true:=by
    rw[yX hsz,Bool.and_false]
    exact Bool.false_ne_true
  refine call_meets F.slot_list_extend ⟨_,e,rfl⟩ F.entry_list_extend (F.args_list_extend_2 _ _)
    (AutoSeq1.list_extend_list_list_0 l its.toArray n b its2.toArray n2 hlong (by rw[size_toArray];ac_rfl) ⋯) ⟨e,e2,?_⟩
  refine⟨.non,_,I.lset (its':=its++its2) hH e (by simp) (r.append r2) ?_,rfl,q⟩
  rw[length_append]
  ac_rfl
noncomputable def Nc:R2:=fun x y H Q=>∃l b xs zs,x=.ref l/\y=.ref b/\H l=some (.lst xs)/\H b=some (.lst zs)/\xs.length+zs.length<=sizeLine /\ ∀p,H p=none->Q (.ref p) (upd H p (.lst (xs++zs)))
theorem KH:k9 X (binaryOp .Add) Nc:=by
  intro pj s σ H x y v u Q I rx ry h
  obtain⟨l,b,xs,zs,rfl,rfl,hH,hB,hz,q⟩:=h
  cases rx
  cases ry
  obtain⟨z,its,n,r,hl,e⟩:=I.lstM hH
  obtain⟨z2,its2,n2,r2,hl2,e2⟩:=I.lstM hB
  refine PySem.P.add_list e e2 ?_ (by rw[size_toArray,size_toArray];ac_rfl)
  have ea:its.toArray++its2.toArray=(its++its2).toArray:=by simp
  rw[ea]
  exact⟨.ref _,_,I.lnew (t':=s.toks) (r.append r2) (by rw[length_append];ac_rfl),rfl,q _ I.fresh⟩
noncomputable def NW:R2:=fun x y H Q=>∃l k xs,x=.ref l/\y=.int k/\H l=some (.lst xs) /\ -(2 ^ 63)<=k/\k<2 ^ 63/\xs.length*k.toNat<=sizeLine /\
  ∀p,H p=none->Q (.ref p) (upd H p (.lst (List.replicate k.toNat xs).flatten))
theorem Hi{α:Type}(xs:List α)(k:Nat):(List.replicate k xs).flatten.length=k*xs.length:=by
  induction k with
  |zero=>simp
  |succ k ih=>rw[replicate_succ,flatten_cons,length_append,ih,Nat.succ_mul,Nat.add_comm]
theorem K9:k9 X (binaryOp .Mult) NW:=by
  intro pj s σ H x y v u Q I rx ry h
  obtain⟨l,k,xs,rfl,rfl,hH,h1,h2,hz,q⟩:=h
  cases rx
  obtain⟨t,rfl⟩:=ry
  obtain⟨z,its,n,r,hl,e⟩:=I.lstM hH
  have hlen:its.toArray.size*k.toNat<=sizeLine:=by rw[size_toArray,<- hl];exact hz
  have hcap:¬its.toArray.size*k.toNat > (2 ^ 63-1) / 8:=by
    have:(sizeLine:Nat)<=(2 ^ 63-1) / 8:=by decide
    ac_rfl
  have hfit:¬(!Builtin.List.listFitsIndex k)=true:=by
    rw[fitsIndex_both h1 h2]
    exact Bool.false_ne_true
  have hlong:¬Builtin.List.listTooLong (its.toArray.size*k.toNat)=true:=by
    rw[yX hlen]
    exact Bool.false_ne_true
  have hnew:List.foldl (fun x1 x2=>x1++x2) #[] (List.replicate (if its.toArray.isEmpty=true then 0 else k.toNat) its.toArray)=(List.replicate k.toNat its).flatten.toArray:=by
    have f0:∀m:Nat,List.foldl (fun x1 x2=>x1++x2) #[] (List.replicate m its.toArray)=(List.replicate m its).flatten.toArray:=fun m=>by
      have:=uQ its m []
      rw[nil_append] at this
      exact this
    rw[f0]
    cases its with
    |nil=>simp
    |cons a r'=>rw[if_neg (by simp)]
  refine wpAny_binaryOp_repeat_ref (T:="list") (U:="int") ∅ ⟨_,e,rfl⟩ (fun s'=>typeIs_int s' k t) noFill_list_mul F.fills_int_mul F.slot_int_rmul repeat_list F.slot_int_index.lookup
    (call_meets F.slot_int_rmul (typeIs_int s k t) F.entry_int_rmul (F.args_int_rmul_2 _ _) (int___rmul___int_list k t l its.toArray n)
      ⟨e,rfl,⟨_,e,rfl⟩,call_meets F.slot_list_mul ⟨_,e,rfl⟩ F.entry_list_mul (F.args_list_mul_2 _ _) (AutoListH.list___mul___list_int_3 l its.toArray n k t hfit hcap hlong) ⟨e,?_⟩⟩)
  rw[hnew]
  exact⟨.ref _,_,I.lnew (t':=s.toks) (r.rep k.toNat) (by rw[Hi,mul_comm];exact hz),rfl,q _ I.fresh⟩
end
section
variable {prog:Program} {w:World} {A:Around} {E:Value->Shared->Prop} {s:Shared}
end
section
variable {X:Cx}
end
end L2
namespace Att
open PySem PySem.W PySem.Calls PyProof.Rows
theorem qK{P:Params}{h:Heap}:∀(ns:List Int) (vs:List Value),WellAll P h vs (ns.map WData.int)->IntsAre vs ns:=by
  intro ns
  induction ns with
  |nil=>
    intro vs w
    rw[map_nil] at w
    cases w
    exact .nil
  |cons n ns ih=>
    intro vs w
    rw[map_cons] at w
    cases w with
    |cons a b=>
      cases a
      exact .cons _ _ (ih _ b)
theorem Cf{l:OpenLaw}{n:Nat}(hn:l.most=some n){P:Params}{h:Heap}{args:List WData}{vals:List Value}
    (hpre:l.row.toRowW.claim.pre args=true) (hwl:WellAll P h vals args):
    ∃a vs ns,vals=[Value.ref a]/\args=[WData.list (ns.map WData.int)]/\h.get? a=some { cls:=.type "list",data:=.seq vs.toArray }/\IntsAre vs ns/\ns.length<=n:=by
  have hsh:WShape.hasAll [] args [.list .int]=true:=(pre_splitW hpre).1
  have hc:l.pre.holds [] { args:=args }=true:=(pre_splitW hpre).2
  obtain⟨d,r,rfl,h1,h2⟩:=hasAllW_cons hsh
  obtain rfl:=hasAllW_nil h2
  obtain⟨xs,rfl,h3⟩:=hasW_list h1
  obtain⟨ns,rfl⟩:=items_int h3
  have hlen:ns.length<=n:=by
    unfold OpenLaw.pre at hc
    have h4:(WTm.not (.lt (.lit (.int (n:Int))) (.len (.arg 0)))).holds [] { args:=[.list (ns.map .int)] }=true:=by
      have h4:=(holds_andW hc).1
      rw[hn] at h4
      exact h4
    have h5:=condW_of h4 (w_not (w_lt w_lit (w_len_list (w_arg rfl))))
    rw[length_map] at h5
    refine le_of_not_lt fun q=>?_
    have q':(n:Int)<((ns.length:Nat):Int):=⋯
    first
      | (rw[decide_eq_true q'] at h5;exact absurd h5 ∅)
      | (simp at h5;ac_rfl)
  cases hwl with
  |cons w1 w2=>
    cases w2
    cases w1 with
    |list ho hall=>exact⟨_,_,ns,rfl,rfl,ho,qK ns _ hall,hlen⟩
theorem Cm(l:OpenLaw)(args:List WData):l.row.toRowW.claim.post args (.bool true) args=true:=
  postW_of (r:=l.row.toRowW) (X:=(true==true))
    (show WShape.has [] (.bool true) .bool=true by first | rfl | decide | simp[WShape.has,WShape.arms,WShape.armsAll])
    (show (WTm.eq .res (.lit (.bool true))).value [] { args:=args,res:=some (.bool true),after:=args }=some (.bool (true==true)) from w_eq_bool (w_res rfl) w_lit) rfl
theorem A3{l:OpenLaw}{n:Nat}{q:Program}{loose:List Str}{XP:(Str->Option Value)->Heap->Prop}{YP:World->Heap->Prop}{d:DefRec}
    (hn:l.most=some n) (hdf:d.params.defaults=[])
    (call:∀(w:World) (s₀ s₁:Shared) (mg mb:Str->Option Value) (fa:Addr) (o:Obj) (pm cd doc:Value) (a:Addr) (vs:List Value) (ns:List Int),
      Ground q loose [] XP w s₀ mg mb s₁.heap->YP w s₁.heap ->
      s₁.heap.get? fa=some o->o.data=.func (docDef d.name d.params d.body d.scope pm cd doc)->s₁.heap.CodeRec cd d.name->mg d.name=some (.ref fa) ->
      s₁.heap.get? a=some { cls:=.type "list",data:=.seq vs.toArray }->IntsAre vs ns->ns.length<=n->s₁.gens = #[] ->
      codeAny (model l.prog w) callerA (.call (.ref fa) ⟨[.ref a],[]⟩) (fun r s'=>r=.ok (.ret (.bool true))/\OldK s₁.heap s'.heap/\s'.os=s₁.os/\AllBare s'.gens) s₁):
    WalkO q loose XP YP l.row.toRowW d [] (fun f vs=>PySem.call f vs):=by
  intro w s₀ s₁ mg mb G Y fa o pm cd doc dV kV ho hd hcd hD hmg hg args vals as hpre hlay hrd hwl hlo
  obtain rfl:dV=.none:=Dflts.none hD hdf
  obtain rfl:kV=.none:=Dflts.noKw hD
  obtain⟨a,vs,ns,rfl,rfl,hobj,hints,hlen⟩:=Cf hn hpre hwl
  refine enter_call (codeAny_mono (call w s₀ s₁ mg mb fa o pm cd doc a vs ns G Y ho (fd_plain hd) hcd hmg hobj hints hlen hg) fun r s' hq=>?_)
  obtain⟨rfl,h2,h3,h4⟩:=hq
  exact⟨.inl ⟨.bool true,.bool true,[],rfl,fun _=>rfl,.bool true,Cm l _,fun _=>⟨List.Pairwise.nil,fun _ hm=>(nomatch hm)⟩⟩,h2,h3,h4⟩
section
variable {prog:Program} {w:World} {A:Around} {E:Value->Shared->Prop} {s:Shared} {K:Frag}
end
end Att
namespace L2
theorem u7:∀{vs:List Value} {ns:List Int},IntsAre vs ns->bF (ns.map V.int) vs
  |_,_,.nil=>.nil
  |_,_,.cons n t h=>.cons ⟨t,rfl⟩ (u7 h)
noncomputable def cQ(s:Stmt)(j:Nat):Stmt:=match s with
  | .ClassDef _ _ _ body _ _ _ _ _ _ _=>body.getD j (.Pass ⟨0,0,0,0⟩)
  |_=>.Pass ⟨0,0,0,0⟩
noncomputable def iC(s:Stmt):Arguments:=match s with
  | .FunctionDef _ a _ _ _ _ _ _ _ _=>a
  |_=>{ posonlyargs:=[],args:=[],vararg:=none,kwonlyargs:=[],kw_defaults:=[],kwarg:=none,defaults:=[] }
noncomputable def d7(s:Stmt):List Stmt:=match s with
  | .FunctionDef _ _ b _ _ _ _ _ _ _=>b
  |_=>[]
noncomputable def aF(s:Stmt):Scope:=match s with
  | .FunctionDef _ _ _ _ _ _ sc _ _ _=>sc
  |_=>{ kind:=.function,names:=[],isGenerator:=false,isCoroutine:=false }
noncomputable abbrev u3:IS:=fun _ _ _ _ _ _=>False
noncomputable abbrev E0:XK:=fun _ _ _=>False
theorem Bj{X:Cx}:nA u3 X E0:=fun _ _ _ _ _ _ _ h=>h.elim
structure Fun(K:W.Frag)(x qual:Str)(st:Stmt)(f:Addr)(fd:FuncData):Prop where
  ex:∃(oc:Value) (od:Option Addr) (kV doc pm:Value) (an:Option Addr) (cdv ct:Value) (osl:Array (Option Value)),
    fd=W.fnOf x qual (iC st) (d7 st) (aF st) .none kV doc pm an cdv ct/\K.lookup f=some ⟨oc,od,.func fd,osl⟩/\W.codeIn K cdv qual=true
  kp:W.keepIn K (.ref f)=true
section
variable {P:Program} {w:World} {K:W.Frag} {mg:Str->Option Value} {base:Heap}
theorem Fun.ok{x qual:Str}{st:Stmt}{f:Addr}{fd:FuncData}{N ps:List Str}{k:Nat}{sp:Sp}(F:Fun K x qual st f fd)(S:FnScope N ps (aF st))(len:∀vs H Q E,sp vs H Q E->vs.length=ps.length)
    (hbody:∀(cdv:Value) (A:Around) (outer:List Env) (s:Shared) (H:Hp) (vs:List V) (Q:VK) (E:XK),Room k (A.deeper (envOfC qual (aF st) s.heap.objs.size f cdv))->sp vs H Q E ->
      ∃t,xL (n4 u3 P w K mg base N qual (aF st) f cdv A outer s H E).nox (d7 st) t/\t { nx:=fun _ H'=>Q .non H',rt:=Q } (start N vs) H):FnOk P w K mg base u3 (k+1) f fd ps sp:=by
  obtain⟨oc,od,kV,doc,pm,an,cdv,ct,osl,rfl,lk,hcd⟩:=F.ex
  refine GA lk hcd S len fun A outer s H vs Q E hr hsp=>?_
  obtain⟨t,h,q⟩:=hbody cdv A outer s H vs Q E hr hsp
  exact⟨t,h.nox,q⟩
theorem Fun.binds{x qual:Str}{st:Stmt}{f:Addr}{fd:FuncData}{ps:List Str}(F:Fun K x qual st f fd)
    (h:∀(kV doc pm:Value) (an:Option Addr) (cdv ct:Value) (us:List Value),us.length=ps.length->bindArgs (W.fnOf x qual (iC st) (d7 st) (aF st) .none kV doc pm an cdv ct) ⟨us,[]⟩=pure (ps.zip us)):iM K fd ps []:=by
  obtain⟨oc,od,kV,doc,pm,an,cdv,ct,osl,rfl,lk,hcd⟩:=F.ex
  exact .all (h kV doc pm an cdv ct)
theorem wG{x qual:Str}{st:Stmt}{f:Addr}{oc:Value}{od an:Option Addr}{osl:Array (Option Value)}{kV doc pm cdv ct:Value}(l:K.lookup f=some ⟨oc,od,.func (W.fnOf x qual (iC st) (d7 st) (aF st) .none kV doc pm an cdv ct),osl⟩)
    (c:W.codeIn K cdv qual=true) (k:W.keepIn K (.ref f)=true):Fun K x qual st f (W.fnOf x qual (iC st) (d7 st) (aF st) .none kV doc pm an cdv ct):=⟨⟨oc,od,kV,doc,pm,an,cdv,ct,osl,rfl,l,c⟩,k⟩
end
theorem dR{A:Around}{k:Nat}(hr:Room k A):A.units+1<cLine:=Nat.lt_of_le_of_lt (Nat.add_le_add_left (by decide:1<=64) _) hr.units
theorem Ce{n:Nat}(h:n<=1000):n<sizeLine:=Nat.lt_of_le_of_lt h ∅
section
variable {X:Cx}
theorem pv(i:Nat){x:Str}{pos:Pos}(hN:autoParam (X.N[i]?=some x) cB._auto_1)(hv:Mo X.env.scope x:=by first | exact Or.inl rfl | exact Or.inr (.inl rfl) | exact Or.inr (.inr rfl))(hd:autoParam ((x==("__debug__" : Str))=false) nB._auto_1)
    (hcd:autoParam ((x==("__classdict__" : Str))=false) nB._auto_1):PE X (.Name x pos) (AN i):=Jp hN hv hd hcd
end
theorem tM{A B:Prop}(h:B):if false=true then A else B:=by
  rw[if_neg Bool.false_ne_true]
  exact h
theorem tL{A B:Prop}(h:A):if true=true then A else B:=by
  rw[if_pos rfl]
  exact h
theorem G3{c A B:Prop}[Decidable c](h1:c->A)(h2:¬c->B):if c then A else B:=by
  by_cases h:c
  . rw[if_pos h]
    exact h1 h
  . rw[if_neg h]
    exact h2 h
noncomputable def aK(H H':Hp):Prop:=∀b o,H b=some o->H' b=some o
theorem aK.refl(H:Hp):aK H H:=fun _ _ h=>h
theorem aK.trans{H H1 H2:Hp}(a:aK H H1)(b:aK H1 H2):aK H H2:=fun c o h=>b c o (a c o h)
theorem aK.free{H H':Hp}(e:aK H H'){l:Addr}(h:H' l=Option.none):H l=Option.none:=by
  cases q:H l with
  |none=>rfl
  |some o=>
    rw[e l o q] at h
    cases h
end L2
set_option maxHeartbeats 4000000
namespace L2
noncomputable def N9(i j:Int):Prop:=0<j/\j<2 ^ 200
theorem F9{X:Cx}:k9 X (binaryOp .FloorDiv) (rI N9 fun i j=>.int (i / j)):=Nl fun i j _ _ _ _ _ hc q=>by
  have p1:(0:Int)<j:=hc.1
  have p2:j<2 ^ 200:=hc.2
  have p3:j.natAbs<2 ^ 200:=⋯
  have p4:j.natAbs.log2<200:=(Nat.log2_lt ⋯).mpr p3
  refine floordiv_int ⋯ ?_ (.inl (PyProof.noPylong_of_log2 ⋯))
  rw[Int.fdiv_eq_ediv_of_nonneg i ⋯]
  exact q
theorem Eg{X:Cx}{x:Str}{n:Int}{pos:Pos}(hm:∃t,X.mg x=some (.int n t))(hg:autoParam (Gl X x) cB._auto_1)(hd:autoParam ((x==("__debug__" : Str))=false) nB._auto_1):PE X (.Name x pos) (tC (.int n)):=by
  obtain⟨t,h⟩:=hm
  exact HJ hg h ⟨t,rfl⟩ hd
section
variable {X:Cx} {pj:List (Addr×Obj)} {σ:St} {H:Hp} {s:Shared} {h':Heap}
theorem Inv.turnedL{t':Nat}{fp:List Addr}(I:Inv X pj σ H s)(hf:∀b∈fp,t9 X pj H b)(k:∀b o,b ∉ fp->s.heap.get? b=some o->h'.get? b=some o):Inv X pj σ H { s with heap:=h',toks:=t' }:=by
  have nf:∀b u,H b=some u->b ∉ fp:=fun b u e z=>by have:=(hf b z).1;rw[e] at this;cases this
  refine I.step (g':=s.gens) (d':=s.drawn) (ch:=fp) (fun b hb=>?_) (fun b o _ _ hc e _=>k b o hc e) (fun b o _ _ hc e _=>⟨o.slots,k b o hc e⟩) (fun _ _ _ _ n=>n) (fun b o hc e=>⟨o,k b o hc e⟩) (fun _ _ e=>e) (fun _ _ _ e=>e)
    (fun b ps e=>⟨#[],by rw[e];simp⟩) (fun m hm=>?_) (fun b u e=>?_) I.bare
  . obtain⟨_,f1,_,f3,f4,f5⟩:=hf b hb
    exact⟨f3,f1,f4,f5⟩
  . obtain⟨o,es,ep,ho,r⟩:=hm
    exact⟨o,es,ep,k _ o (fun z=>(hf _ z).2.1 rfl) ho,r⟩
  . refine(I.hok b u e).stay (fun c v hc q=>k c v ?_ q) (fun _ q=>q) (fun _ _ q=>q) fun _ _ q=>q
    rcases hc with z | z
    . rw[z];exact nf b u e
    . exact nf c _ z
theorem Inv.turnedN{t':Nat}{fp:List Addr}{T:Addr}{ob:HO}(I:Inv X pj σ H s)(hf:∀b∈fp,t9 X pj H b)(k:∀b o,b ∉ fp->s.heap.get? b=some o->h'.get? b=some o)(hT:s.heap.objs.size<=T)
    (new:cI X.prog X.w (upd H T ob) h' T ob):Inv X pj σ (upd H T ob) { s with heap:=h',toks:=t' }:=by
  have hn:H T=none:=I.hok.fresh hT
  have nf:∀b u,H b=some u->b ∉ fp:=fun b u e z=>by have:=(hf b z).1;rw[e] at this;cases this
  have nT:∀b o,s.heap.get? b=some o->b≠T:=fun b o e=>ne_of_lt (lt_of_lt_of_le (Heap.lt_size e) hT)
  refine I.step (g':=s.gens) (d':=s.drawn) (ch:=fp) (fun b hb=>?_) (fun b o _ _ hc e _=>k b o hc e) (fun b o _ _ hc e _=>⟨o.slots,k b o hc e⟩) (fun b o _ e n=>by rw[aO (nT b o e)];exact n) (fun b o hc e=>⟨o,k b o hc e⟩)
    (fun b xs e=>by rw[aO (aM e hn)];exact e) (fun b _ _ e=>by rw[aO (aM e hn)];exact e)
    (fun b ps e=>⟨#[],by rw[aO (aM e hn),e];simp⟩) (fun m hm=>?_) (fun b u e=>?_) I.bare
  . obtain⟨_,f1,_,f3,f4,f5⟩:=hf b hb
    exact⟨f3,f1,f4,f5⟩
  . obtain⟨o,es,ep,ho,r⟩:=hm
    exact⟨o,es,ep,k _ o (fun z=>(hf _ z).2.1 rfl) ho,r⟩
  . by_cases hb:b=T
    . subst hb
      rw[aY] at e
      cases e
      exact new
    . rw[aO hb] at e
      refine(I.hok b u e).stay (fun c v hc q=>k c v ?_ q) (fun c q=>by rw[aO (aM q hn)];exact q) (fun c xs q=>by rw[aO (aM q hn)];exact q) fun c xs q=>by rw[aO (aM q hn)];exact q
      rcases hc with z | z
      . rw[z];exact nf b u e
      . exact nf c _ z
end
noncomputable def NE(K:W.Frag)(a:Addr):It:=
  ⟨fun i H=>∃xs x,eJ K H a xs/\xs[i]?=some x,fun i H v H'=>∃T x,H T=none/\v=.ref T/\H'=upd H T (.tup [.int i,x]) /\ ∀xs,eJ K H a xs->xs[i]?=some x,fun i H=>∃xs,eJ K H a xs/\xs.length<=i⟩
theorem CZ{P:Program}{w:World}{K:W.Frag}{elts:List Expr}{x1:Nat}{pos:Pos}(a e it:Addr)(hne:e≠it):
    Turn P w K (.Tuple elts x1 pos) (NE K a) [e,it] e (fun i h=>(∃old,IsEnum h e it (i:Nat) old)/\h.IsListIter it a i) where
  mem:=by simp
  obj:=fun i h st b hb=>by
    obtain⟨⟨old,he⟩,o,ho,c,d⟩:=st
    rcases mem_cons.mp hb with rfl | hb
    . exact⟨_,he,fun v z=>by cases z⟩
    . rw[mem_singleton.mp hb]
      exact⟨o,ho,fun v z=>by rw[d] at z;cases z⟩
  keep:=fun i h h' st k=>⟨let ⟨old,he⟩:=st.1;⟨old,k e (by simp) _ he⟩,st.2.at fun o q=>k it (by simp) o q⟩
  item:=by
    intro X hP hw hK hc i pj s σ H E I hf st hg
    subst hP hw hK
    obtain⟨xs,x,hq,hx⟩:=hg
    obtain⟨its,rv,p,hz⟩:=I.list hq
    obtain⟨u,hu,ru⟩:=rv.get hx
    obtain⟨⟨old,he⟩,hit⟩:=st
    refine wpAny_pyNext_enum_item he hit p.isList (x:=u) (by simpa using hu) hne fun h1 heo hit1 ht hsz hk=>⟨_,rfl,?_⟩
    refine wpAny_letOwnedTupleGo_enum heo fun h2 he2 hs2=>?_
    have heL:e<s.heap.objs.size:=Heap.lt_size he
    have hn:H s.heap.objs.size=none:=I.hok.fresh (le_refl _)
    have k2:∀b o,b ∉ [e,it]->s.heap.get? b=some o->h2.get? b=some o:=fun b o hb q=>by
      have b1:b≠e:=fun z=>hb (by simp[z])
      have b2:b≠it:=fun z=>hb (by simp[z])
      exact(hs2.2 b b1).trans (hk b o b1 b2 q)
    have tt:h2.get? s.heap.objs.size=some { cls:=.type "tuple",data:=.seq #[.int i s.toks,u] }:=(hs2.2 _ (ne_of_gt heL)).trans ht
    refine⟨.ref s.heap.objs.size,_,I.turnedN (ob:=.tup [.int i,x]) (T:=s.heap.objs.size) (t':=s.toks+1) hf k2 (le_refl _) ?_,rfl,⟨_,x,hn,rfl,rfl,fun ys hy=>by rw[I.list_inj hy hq];exact hx⟩,⟨⟨u,?_⟩,hit1.extBut hs2.extBut (Ne.symm hne)⟩,fun b hb=>?_⟩
    . exact⟨(by decide:2<=sizeLine),[.int i s.toks,u],.cons ⟨_,rfl⟩ (.cons ru .nil),_,tt,rfl,_,rfl⟩
    . have:((i+1:Nat):Int)=(i:Int)+1:=⋯
      rw[this]
      exact he2
    . have hb1:=(hf b hb).1
      rw[aO ?_]
      . exact hb1
      . rintro rfl
        obtain⟨o,ho,_⟩:=id hit
        rcases mem_cons.mp hb with z | z
        . exact absurd heL (by rw[<- z];exact lt_irrefl _)
        . have:=Heap.lt_size ho
          rw[<- mem_singleton.mp z] at this
          exact lt_irrefl _ this
  done:=by
    intro X hP hw hK hc i pj s σ H E I hf st hg
    subst hP hw hK
    obtain⟨xs,hq,hx⟩:=hg
    obtain⟨its,rv,p,hz⟩:=I.list hq
    obtain⟨⟨old,he⟩,hit⟩:=st
    have hl:=rv.length
    exact GG I.qu he hit p.isList (by simp;ac_rfl) fun h1 eb=>⟨rfl,I.turnedL (t':=s.toks) hf fun b o hb q=>eb b o (fun z=>hb (by simp[z])) q⟩
  self:=fun _ _ _ _ _ st h=>by
    obtain⟨⟨old,he⟩,_⟩:=st
    exact wpAny_pyIter_enum he h
section
variable {X:Cx}
noncomputable def MH(K:W.Frag)(ta:TA):TI:=fun σ H R=>ta σ H fun vs H1=>∃a,vs=[.ref a]/\(∃xs,eJ K H1 a xs)/\R (NE K a) H1
theorem HF{elts:List Expr}{x1:Nat}{tp:Pos}{a:Expr}{ta:TA}{p pos:Pos}(hg:Gl X "enumerate")(hm:X.mg "enumerate" = none)(ha:PA X [a] ta)(hs:autoParam (starEach [a] X.env=[(false,eval a X.env)]) cB._auto_1):
    PI X (.Tuple elts x1 tp) (.Call (.Name "enumerate" p) [a] [] pos) (MH X.K ta):=by
  intro pj s σ H R I h
  refine Call_ (iJ I hg hm boot_enumerate (PyProof.Rows.callWith_type1 (thn (ha pos pj s σ H _ I h) fun us s1 ⟨vs,H1,I1,r1,q1⟩=>?_) hs rfl))
  obtain⟨l,e,⟨xs,hq⟩,q⟩:=q1
  subst e
  obtain⟨u,rfl,ru⟩:=i8 r1
  cases ru
  obtain⟨its,rv,pl,hz⟩:=I1.list hq
  refine call_enumerate_list pl.isList fun h1 he hit hsz hk=>wpAny_pyIter_enum he ?_
  have I2:Inv X pj σ H1 { s1 with heap:=h1 }:=I1.kept (t':=s1.toks) hk
  refine⟨s1.heap.objs.size+1,[s1.heap.objs.size+1,s1.heap.objs.size],_,_,H1,rfl,I2,CZ l _ _ (Nat.succ_ne_self _),⟨⟨_,he⟩,hit⟩,fun b hb=>?_,q⟩
  refine I1.fpOk ?_ (I1.hok.fresh ?_)
  all_goals
    rcases mem_cons.mp hb with z | z
    . rw[z];exact le_succ _
    . rw[mem_singleton.mp z];exact le_refl _
end
noncomputable def OA(a b:Addr):It:=
  ⟨fun i H=>∃xs ys x y,H a=some (.lst xs)/\H b=some (.lst ys)/\xs[i]?=some x/\ys[i]?=some y,
   fun i H v H'=>∃T x y,H T=none/\v=.ref T/\H'=upd H T (.tup [x,y])/\(∀xs,H a=some (.lst xs)->xs[i]?=some x) /\ ∀ys,H b=some (.lst ys)->ys[i]?=some y,
   fun i H=>∃xs ys,H a=some (.lst xs)/\H b=some (.lst ys)/\(xs.length<=i \/ ys.length<=i)⟩
structure ZApart(z TI TO i1 i2:Addr):Prop where
  a:TI≠z
  b:TO≠z
  c:i1≠z
  d:i2≠z
  e:TI≠TO
  f:TI≠i1
  g:TI≠i2
  h:TO≠i1
  i:TO≠i2
  j:i1≠i2
theorem Ds{P:Program}{w:World}{K:W.Frag}{elts:List Expr}{x1:Nat}{pos:Pos}(a b z TI TO i1 i2:Addr)(Z:ZApart z TI TO i1 i2):
    Turn P w K (.Tuple elts x1 pos) (OA a b) [z,TI,TO,i1,i2] z (fun i h=>IsZip h z TI TO .none/\IsPair h TI (.ref i1) (.ref i2)/\(∃p q,IsPair h TO p q)/\h.IsListIter i1 a i/\h.IsListIter i2 b i) where
  mem:=by simp
  obj:=fun i h st c hc=>by
    obtain⟨hz,hI,⟨p,q,hO⟩,⟨o1,h1,_,d1⟩,⟨o2,h2,_,d2⟩⟩:=st
    simp only[mem_cons,not_mem_nil,or_false] at hc
    rcases hc with rfl | rfl | rfl | rfl | rfl
    . exact⟨_,hz,fun v y=>by cases y⟩
    . exact⟨_,hI,fun v y=>by cases y⟩
    . exact⟨_,hO,fun v y=>by cases y⟩
    . exact⟨_,h1,fun v y=>by rw[d1] at y;cases y⟩
    . exact⟨_,h2,fun v y=>by rw[d2] at y;cases y⟩
  keep:=fun i h h' st k=>by
    obtain⟨hz,hI,⟨p,q,hO⟩,h1,h2⟩:=st
    exact⟨k z (by simp) _ hz,k TI (by simp) _ hI,⟨p,q,k TO (by simp) _ hO⟩,h1.at fun o y=>k i1 (by simp) o y,h2.at fun o y=>k i2 (by simp) o y⟩
  item:=by
    intro X hP hw hK hc i pj s σ H E I hf st hg
    subst hP hw hK
    obtain⟨xs,ys,x,y,ha,hb,hx,hy⟩:=hg
    obtain⟨its,rv,pl,hz1⟩:=I.list (eJ.of ha)
    obtain⟨its2,rv2,pl2,hz2⟩:=I.list (eJ.of hb)
    obtain⟨u,hu,ru⟩:=rv.get hx
    obtain⟨u2,hu2,ru2⟩:=rv2.get hy
    obtain⟨hz,hI,⟨p,q,hO⟩,h1,h2⟩:=st
    have na:∀c∈[z,TI,TO,i1,i2],a≠c:=fun c hc=>aM ha (hf c hc).1
    have nb:∀c∈[z,TI,TO,i1,i2],b≠c:=fun c hc=>aM hb (hf c hc).1
    have D:ZipApart z TI TO i1 i2 a b:=⟨Z.a,Z.b,Z.c,Z.d,Z.e,Z.f,Z.g,Z.h,Z.i,Z.j,na z (by simp),na TO (by simp),na i1 (by simp),na i2 (by simp),nb z (by simp),nb TO (by simp),nb i1 (by simp),nb i2 (by simp)⟩
    refine wpAny_pyNext_zip_item D hz hI hO h1 h2 pl.isList pl2.isList (x:=u) (y:=u2) (by simpa using hu) (by simpa using hu2) fun g a1 a2 a3 a4 a5 a6 hk=>⟨_,rfl,?_⟩
    refine wpAny_letOwnedTupleGo_zip a1 fun g2 hz2 hs2=>?_
    have hn:H s.heap.objs.size=none:=I.hok.fresh (le_refl _)
    have zL:z<s.heap.objs.size:=Heap.lt_size hz
    have lt:∀{c:Addr} {o:Obj},s.heap.get? c=some o->c≠s.heap.objs.size:=fun e=>ne_of_lt (Heap.lt_size e)
    have k2:∀c o,c ∉ [z,TI,TO,i1,i2]->s.heap.get? c=some o->g2.get? c=some o:=fun c o hc e=>by
      simp only[mem_cons,not_mem_nil,or_false,not_or] at hc
      exact(hs2.2 c hc.1).trans (hk c o hc.1 hc.2.2.1 hc.2.2.2.1 hc.2.2.2.2 e)
    have tt:g2.get? s.heap.objs.size=some { cls:=.type "tuple",data:=.seq #[u,u2] }:=(hs2.2 _ (ne_of_gt zL)).trans a5
    refine⟨.ref s.heap.objs.size,_,I.turnedN (ob:=.tup [x,y]) (T:=s.heap.objs.size) (t':=s.toks) hf k2 (le_refl _) ?_,rfl,
      ⟨_,x,y,hn,rfl,rfl,fun zs hzs=>by rw[ha] at hzs;cases hzs;exact hx,fun zs hzs=>by rw[hb] at hzs;cases hzs;exact hy⟩,
      ⟨hz2,hs2.extBut _ _ Z.a (hk _ _ Z.a Z.e Z.f Z.g hI),⟨_,_,hs2.extBut _ _ Z.b a2⟩,a3.extBut hs2.extBut Z.c,a4.extBut hs2.extBut Z.d⟩,fun c hc=>?_⟩
    . exact⟨(by decide:2<=sizeLine),[u,u2],.cons ru (.cons ru2 .nil),_,tt,rfl,_,rfl⟩
    . have hc1:=(hf c hc).1
      have:c≠s.heap.objs.size:=by
        simp only[mem_cons,not_mem_nil,or_false] at hc
        rcases hc with rfl | rfl | rfl | rfl | rfl
        . exact lt hz
        . exact lt hI
        . exact lt hO
        . obtain⟨o,e,_⟩:=h1;exact lt e
        . obtain⟨o,e,_⟩:=h2;exact lt e
      rw[aO this]
      exact hc1
  done:=by
    intro X hP hw hK hc i pj s σ H E I hf st hg
    subst hP hw hK
    obtain⟨xs,ys,ha,hb,hor⟩:=hg
    obtain⟨its,rv,pl,hz1⟩:=I.list (eJ.of ha)
    obtain⟨its2,rv2,pl2,hz2⟩:=I.list (eJ.of hb)
    obtain⟨hz,hI,⟨p,q,hO⟩,h1,h2⟩:=st
    have na:∀c∈[z,TI,TO,i1,i2],a≠c:=fun c hc=>aM ha (hf c hc).1
    have nb:∀c∈[z,TI,TO,i1,i2],b≠c:=fun c hc=>aM hb (hf c hc).1
    have D:ZipApart z TI TO i1 i2 a b:=⟨Z.a,Z.b,Z.c,Z.d,Z.e,Z.f,Z.g,Z.h,Z.i,Z.j,na z (by simp),na TO (by simp),na i1 (by simp),na i2 (by simp),nb z (by simp),nb TO (by simp),nb i1 (by simp),nb i2 (by simp)⟩
    have l1:=rv.length
    have l2:=rv2.length
    refine I9 I.qu D hz hI hO h1 h2 pl.isList pl2.isList ?_ fun g hk=>⟨rfl,I.turnedL (t':=s.toks) hf fun c o hc e=>?_⟩
    . rcases hor with h | h
      . exact .inl (by simp;ac_rfl)
      . exact .inr (by simp;ac_rfl)
    . simp only[mem_cons,not_mem_nil,or_false,not_or] at hc
      exact hk c o hc.1 hc.2.2.1 hc.2.2.2.1 hc.2.2.2.2 e
  self:=fun _ _ _ _ _ st h=>wpAny_pyIter_zip st.1 h
theorem zapart(n:Nat):ZApart (n+4) (n+2) (n+3) n (n+1):=
  ⟨fun e=>by have e':(n+2:Nat)=n+4:=e;ac_rfl,fun e=>by have e':(n+3:Nat)=n+4:=e;ac_rfl,fun e=>by have e':(n:Nat)=n+4:=e;ac_rfl,fun e=>by have e':(n+1:Nat)=n+4:=e;ac_rfl,
   fun e=>by have e':(n+2:Nat)=n+3:=e;ac_rfl,fun e=>by have e':(n+2:Nat)=n:=e;ac_rfl,fun e=>by have e':(n+2:Nat)=n+1:=e;ac_rfl,fun e=>by have e':(n+3:Nat)=n:=e;ac_rfl,
   fun e=>by have e':(n+3:Nat)=n+1:=e;ac_rfl,fun e=>by have e':(n:Nat)=n+1:=e;ac_rfl⟩
section
variable {X:Cx}
noncomputable def Nr(ta:TA):TI:=fun σ H R=>ta σ H fun vs H1=>∃a b,vs=[.ref a,.ref b]/\(∃xs,H1 a=some (.lst xs))/\(∃ys,H1 b=some (.lst ys))/\R (OA a b) H1
theorem Jl{elts:List Expr}{x1:Nat}{tp:Pos}{a b:Expr}{ta:TA}{p pos:Pos}(hg:Gl X "zip")(hm:X.mg "zip" = none)(ha:PA X [a,b] ta)
    (hs:autoParam (starEach [a,b] X.env=[(false,eval a X.env),(false,eval b X.env)]) cB._auto_1) (hs2:autoParam (starEach [b] X.env=[(false,eval b X.env)]) cB._auto_1):
    PI X (.Tuple elts x1 tp) (.Call (.Name "zip" p) [a,b] [] pos) (Nr ta):=by
  intro pj s σ H R I h
  refine Call_ (iJ I hg hm boot_zip (PyProof.Rows.callWith_type1 (thn (ha pos pj s σ H _ I h) fun us s1 ⟨vs,H1,I1,r1,q1⟩=>?_) (by rw[hs,hs2]) (by rw[hs2];rfl)))
  obtain⟨l,l2,e,⟨xs,hl⟩,⟨ys,hl2⟩,q⟩:=q1
  subst e
  obtain⟨u,u2,rfl,ru,ru2⟩:=Dr r1
  cases ru
  cases ru2
  obtain⟨its,rv,pl,hz⟩:=I1.list (eJ.of hl)
  obtain⟨its2,rv2,pl2,hz2⟩:=I1.list (eJ.of hl2)
  refine call_zip_2 pl.isList pl2.isList fun h1 hz hI hO i1 i2 hsz hk=>wpAny_pyIter_zip hz ?_
  have I2:Inv X pj σ H1 { s1 with heap:=h1 }:=I1.kept (t':=s1.toks) hk
  refine⟨s1.heap.objs.size+4,[s1.heap.objs.size+4,s1.heap.objs.size+2,s1.heap.objs.size+3,s1.heap.objs.size,s1.heap.objs.size+1],_,_,H1,rfl,I2,
    Ds l l2 _ _ _ _ _ (zapart s1.heap.objs.size),⟨hz,hI,⟨_,_,hO⟩,i1,i2⟩,fun b hb=>?_,q⟩
  have hle:s1.heap.objs.size<=b:=by
    simp only[mem_cons,not_mem_nil,or_false] at hb
    rcases hb with rfl | rfl | rfl | rfl | rfl
    . exact le_add_right _ _
    . exact le_add_right _ _
    . exact le_add_right _ _
    . exact le_refl _
    . exact le_add_right _ _
  exact I1.fpOk hle (I1.hok.fresh hle)
noncomputable def NZ(K:W.Frag):List V->Hp->VK->Prop:=fun xs H Q=>∃x T t b,xs=[x,.ty T]/\TyOf K H x t/\W.kitOne K t (.type T)=some b/\Q (.bl b) H
theorem GR:eS X (.builtin "isinstance") (NZ X.K):=by
  intro pj s σ H xs us Q I r h
  obtain⟨x,T,t,b,rfl,ty,k,q⟩:=h
  obtain⟨u,u2,rfl,ru,ru2⟩:=Dr r
  cases ru2
  exact DV I ru ty k fun tk=>⟨.bl b,H,I.tok tk,rfl,q⟩
theorem qZ:∀{bs:List Bool} {us:List Value},bF (bs.map V.bl) us->LSm.BoolsAre us bs
  | [],_,.nil=>.nil
  |_::_,_,.cons r t=>by cases r;exact .cons _ (qZ t)
theorem qY:∀{ns:List Int} {us:List Value},bF (ns.map V.int) us->IntsAre us ns
  | [],_,.nil=>.nil
  |_::_,_,.cons r t=>by obtain⟨t',rfl⟩:=r;exact .cons _ _ (qY t)
noncomputable def Nd(K:W.Frag):List V->Hp->VK->Prop:=fun xs H Q=>∃(a:Addr) (bs:List Bool),xs=[.ref a]/\eJ K H a (bs.map V.bl)/\Q (.bl (bs.all id)) H
theorem Dj(hc:X.calm=true):eS X (.builtin "all") (Nd X.K):=by
  intro pj s σ H xs us Q I r h
  obtain⟨a,bs,rfl,hq,q⟩:=h
  obtain⟨u,rfl,ru⟩:=i8 r
  cases ru
  obtain⟨its,rv,pl,hz⟩:=I.list hq
  have ba:=qZ rv
  have lt:a<s.heap.objs.size:=by obtain⟨_,e,_⟩:=pl.isList;exact Heap.lt_size e
  refine call_all_walk (wpAny_pyIter_list pl.isList ⟨s.heap.objs.size,[s.heap.objs.size,a],[s.heap.objs.size],its.toArray.size,_,_,fun i=>(bs[i]?).getD true,rfl,
    Walks.list (A:=X.A.in1) (I.ok.hd hc) _ a (ne_of_lt lt) its.toArray,⟨⟨_,Heap.get?_push_size _ rfl,rfl,rfl⟩,pl.isList.push _⟩,fun i v s' Q' E' hP hQ=>?_,fun h' tk hk=>?_⟩)
  . obtain⟨b,e,rfl⟩:=ba.get i v (by simpa using hP)
    have hQ':Q' ((bs[i]?).getD true) s':=hQ
    rw[e] at hQ'
    exact wpAny_truthy_bool hQ'
  . have e:((List.range its.toArray.size).all fun i=>(bs[i]?).getD true)=bs.all id:=by
      have:=LSm.range_all bs
      rw[<- ba.length] at this
      simpa using this
    rw[e]
    exact⟨.bl _,H,I.kept (LSm.kept_iter hk),rfl,q⟩
noncomputable def NT(K:W.Frag):List V->Hp->VK->Prop:=fun xs H Q=>∃(a:Addr) (ns:List Int),xs=[.ref a]/\eJ K H a (ns.map V.int)/\Q (.int ns.sum) H
theorem Dg(hc:X.N=X.N):eS X (.builtin "sum") (NT X.K):=by
  intro pj s σ H xs us Q I r h
  obtain⟨a,ns,rfl,hq,q⟩:=h
  obtain⟨u,rfl,ru⟩:=i8 r
  cases ru
  obtain⟨its,rv,pl,hz⟩:=I.list hq
  have ia:=qY rv
  obtain⟨ys,hy⟩:=ia.allInts.items
  have e1:=nums_intItems ys
  rw[<- hy,show numsOf its.toArray.toList=ns from ia.numsOf] at e1
  refine LN I.qu (hy ▸ pl.isList) fun h' tk t' hk=>⟨.int ns.sum,H,I.kept hk,⟨t',?_⟩,q⟩
  rw[preSum_eq,e1,List.take_of_length_le (by simp)]
end
noncomputable def pick(js:List Nat)(σ:St):St:=js.map fun j=>(σ[j]?).join
noncomputable def n5(X:Cx)(scope:Scope)(cl:List (Str×Addr))(fp:List Addr)(N:List Str)(s:Shared)(H:Hp):Cx where
  prog:=X.prog
  w:=X.w
  K:=X.K
  mg:=X.mg
  base:=X.base
  A:=X.A
  N:=N
  s₀:=s
  HZ:=H
  env:=compEnvC scope cl s.heap.objs.size X.env
  outer:=X.stack
  stack:=X.stack
  ex:=fp
  fn:=fun _=>false
  calm:=X.calm
  pn:=[]
  xe:=fun _ _=>False
  hs:=X.hs
noncomputable def L1(X:Cx)(ifs:List Expr)(t:TT):Prop:=
  ∀(pj:List (Addr×Obj)) (s:Shared) (σ:St) (H:Hp) (Q:Bool->Hp->Prop),Inv X pj σ H s->t σ H Q ->
    wpAny (model X.prog X.w) X.A (forIn ifs true fun c r=>if r=true then do let ok <- isTrue c X.env (eval c X.env);pure (ForInStep.yield ok) else pure (ForInStep.yield r)) (TP X pj σ Q) X.xe s
theorem Gz{X:Cx}:L1 X [] (fun _ H Q=>Q true H):=fun pj s σ H Q I h=>wpAny_tests_nil ⟨H,I,h⟩
theorem Gy{X:Cx}{c:Expr}{t:TT}(h:PT X c t):L1 X [c] t:=fun pj s σ H Q I q=>wpAny_tests_one (h pj s σ H Q I q)
noncomputable def v7(wi:TI)(k:Nat)(js:List Nat)(g:TG)(tt:TT)(te:TE):TE:=fun σ H Q=>wi σ H fun J H1=>∀D,H1 D=none -> ∃W:Nat->Nat->List V->Hp->Prop,(∃m,W 0 m [] (upd H1 D (.lst []))) /\ ∀i m acc H2,W i m acc H2->H2 D=some (.lst acc) ->
  (J.stop i H2/\Q (.ref D) H2) \/ (J.go i H2 /\ ∀y H3,J.yld i H2 y H3 -> ∀old:St,old.length=k->g y (old++pick js σ) H3 fun σ4 H4=>(∃new:St,new.length=k/\σ4=new++pick js σ)/\tt σ4 H4 fun b H5=>
    if b=true then te σ4 H5 fun v H6=>H6 D=some (.lst acc)/\acc.length<sizeLine /\ ∃m',m'<m/\W (i+1) m' (acc++[v]) (upd H6 D (.lst (acc++[v])))
    else H5 D=some (.lst acc) /\ ∃m',m'<m/\W (i+1) m' acc H5)
theorem tT{prog:Program}{w:World}{A:Around}{R:Result->Shared->Prop}{s:Shared}{elt tgt iter:Expr}{ifs:List Expr}{scope:Scope}{pos:Pos}{it acc:Value}{env:Env}(J:Nat->Shared->Prop)
    (turn:∀n s,J n s->wpAny (model prog w) A (pyNext it) (fun r s1=>match r with
      |none=>R (.ok .next) s1
      |some v=>wpAny (model prog w) A (letOwnedTupleGo tgt it v) (fun _ s2=>wpAny (model prog w) A (assign tgt env v) (fun _ s3=>
          wpAny (model prog w) A (forIn ifs true fun c r=>if r=true then do let ok <- isTrue c env (eval c env);pure (ForInStep.yield ok) else pure (ForInStep.yield r)) (fun b s3'=>
          if b=true then wpAny (model prog w) A (eval elt env) (fun y s4=>wpAny (model prog w) A (call (.builtin "list.append") [acc,y]) (fun _ s5=>∃m,m<n/\J m s5) (fun _ _=>False) s4) (fun _ _=>False) s3'
          else ∃m,m<n/\J m s3') (fun _ _=>False) s3) (fun _ _=>False) s2) (fun _ _=>False) s1) (fun _ _=>False) s)
    (n:Nat) (h:J n s):codeAny (model prog w) A (.compLoop (.ListComp elt [⟨tgt,iter,ifs,0⟩] scope pos) 0 it acc env) R s:=by
  refine codeAny_loop rfl J (fun n' s' hJ=>?_) n h
  show wpAny _ _ ((compTurn (.ListComp elt [⟨tgt,iter,ifs,0⟩] scope pos) 0 it acc env).onRaise (fun z=>do noteFrame z env;theTreesLotGoes z)) _ _ s'
  refine wpAny_noted ?_
  rw[compTurn_list]
  have nope:∀{α:Type} {t:Sem α} {Q:α->Shared->Prop} {E:Value->Shared->Prop} {q:Shared},wpAny (model prog w) A t Q (fun _ _=>False) q->wpAny (model prog w) A t Q E q:=fun h=>wpAny_mono h (fun _ _ z=>z) fun _ _ z=>z.elim
  refine wpAny_bind (wpAny_standAt (wpAny_bind (wpAny_mono (nope (turn n' s' hJ)) (fun r s1 h1=>?_) fun _ _ z=>z)))
  cases r with
  |none=>exact wpAny_pure h1
  |some v=>
    refine wpAny_bind (wpAny_mono (nope h1) (fun _ s2 h2=>?_) fun _ _ z=>z)
    refine wpAny_bind (wpAny_mono (nope h2) (fun _ s3 h3=>?_) fun _ _ z=>z)
    refine wpAny_bind (wpAny_mono (nope h3) (fun b s4 h4=>?_) fun _ _ z=>z)
    cases b with
    |true=>
      have h4':=(show wpAny _ _ _ _ _ s4 by simpa using h4)
      simp only[if_true]
      refine wpAny_bind (wpAny_bind (wpAny_mono (nope h4') (fun y s5 h5=>?_) fun _ _ z=>z))
      refine wpAny_bind (wpAny_mono (nope h5) (fun _ s6 h6=>?_) fun _ _ z=>z)
      exact wpAny_pure (wpAny_pure ⟨rfl,h6⟩)
    |false=>
      have h4':∃m,m<n'/\J m s4:=by simpa using h4
      simp only[Bool.false_eq_true,if_false]
      exact wpAny_bind (wpAny_pure (wpAny_pure ⟨rfl,h4'⟩))
section
variable {X:Cx}
theorem Ea{js:List Nat}{σ:St}{i:Nat}{v:V}(h:(pick js σ)[i]?=some (some v)):∃j,js[i]?=some j/\σ[j]?=some (some v):=by
  unfold pick at h
  rw[List.getElem?_map] at h
  cases e:js[i]? with
  |none=>rw[e] at h;cases h
  |some j=>
    rw[e] at h
    have h':(σ[j]?).join=some v:=Option.some.inj h
    refine⟨j,rfl,?_⟩
    cases q:σ[j]? with
    |none=>rw[q] at h';cases h'
    |some o=>rw[q] at h';exact congrArg some h'
theorem uT{elt iter tgt:Expr}{ifs:List Expr}{scope:Scope}{pos:Pos}{cl:List (Str×Addr)}{tgs ns:List Str}{js:List Nat}{wi:TI}{g:TG}{tt:TT}{te:TE}(hc:X.N=X.N)
    (hi:PI X tgt iter wi) (hg:∀(fp:List Addr) (s:Shared) (H:Hp),PG (n5 X scope cl fp (tgs++ns) s H) tgt g) (ht:∀(fp:List Addr) (s:Shared) (H:Hp),L1 (n5 X scope cl fp (tgs++ns) s H) ifs tt)
    (he:∀(fp:List Addr) (s:Shared) (H:Hp),PE (n5 X scope cl fp (tgs++ns) s H) elt te)
    (hclos:closureFor scope X.env=pure cl) (hsub:∀x c,cl.lookup x=some c->X.env.cells.lookup x=some c)
    (hhas:∀x,((relabel scope X.env).names.lookup x=some .cell \/ (relabel scope X.env).names.lookup x=some .free) -> ∃c,cl.lookup x=some c)
    (hjs:js.map (fun j=>X.N[j]?)=ns.map some) (hin:∀y∈ns,(relabel scope X.env).names.lookup y=some .cell \/ (relabel scope X.env).names.lookup y=some .free)
    (hout:∀y∈ns,X.env.kindOf y=some .cell \/ X.env.kindOf y=some .free)
    (hcell:autoParam (∀y∈scope.names,y.2 ≠ .cell) BW._auto_1) (hkind:autoParam (scope.kind=.function) cB._auto_1)
    (hnames:autoParam (∀y∈scope.names,y.2=.local->scope.names.lookup y.1=some .local) BW._auto_1)
    (hs:autoParam (∀z,foldedSetIterable iter X.env z=pure z) Ga._auto_1):
    ∀(pos0:Pos) (pj:List (Addr×Obj)) (s:Shared) (σ:St) (H:Hp) (Q:VK) (I:Inv X pj σ H s) (h:v7 wi tgs.length js g tt te σ H Q) (use:Option (Value->Sem Unit)) (R:Value->Shared->Prop)
      (hfin:∀(D C:Addr) (H':Hp) (s':Shared),Q (.ref D) H'->t9 X pj H' C->(∃m,s'.heap.Ns C m)->(∀h',Heap.SameBut C s'.heap h'->Inv X pj σ H' { s' with heap:=h' })->compPost (model X.prog X.w) X.A X.xe use R (.ref D) C (.ok .next) s'),
      wpAny (model X.prog X.w) X.A (comprehension (.ListComp elt [⟨tgt,iter,ifs,0⟩] scope pos) scope X.env pos0 (newList []) false (eval iter X.env) use) R X.xe s:=by
  intro pos0 pj s σ H Q I h use R hfin
  refine wpAny_comprehension_free (use:=use) rfl hs hclos hkind hnames (thn (hi pj s σ H _ I h) fun v s1 h1=>thn h1 fun itv s2 h2=>?_)
  obtain⟨it,fp,tn,J,H2,rfl,I2,T,st2,f2,body⟩:=h2
  have hD:H2 s2.heap.objs.size=none:=I2.hok.fresh (le_refl _)
  obtain⟨W,⟨m0,w0⟩,step⟩:=body _ hD
  refine wpAny_newObj_type (wpAny_newFunctionEnv hcell (by intro y hy;simp at hy) (fun g1 hns hsb=>?_) hkind) (by size_fits)
  dsimp only at hns hsb ⊢
  have I3:Inv X pj σ (upd H2 s2.heap.objs.size (.lst [])) { s2 with heap:=s2.heap.push { cls:=.type "list",dict:=none,data:=.seq ([]:List Value).toArray } }:=I2.lnew (t':=s2.toks) .nil (by simp)
  generalize hD':s2.heap.objs.size=D at *
  generalize hH3:upd H2 D (.lst [])=H3 at *
  generalize hS3:s2.heap.push { cls:=.type "list",dict:=none,data:=.seq ([]:List Value).toArray }=g3 at *
  have zs:g3.objs.size=D+1:=by rw[<- hS3,Heap.size_push,hD']
  have f3:∀b∈fp,t9 X pj H3 b:=fun b hb=>by
    obtain⟨o,ho,_⟩:=T.obj _ _ st2 b hb
    have lt:=Heap.lt_size ho
    refine⟨?_,(f2 b hb).2⟩
    rw[<- hH3,aO (ne_of_lt (hD' ▸ lt))]
    exact(f2 b hb).1
  have ltf:∀b∈fp,b<g3.objs.size:=fun b hb=>by
    obtain⟨o,ho,_⟩:=T.obj _ _ st2 b hb
    rw[zs]
    exact Nat.lt_succ_of_lt (hD' ▸ Heap.lt_size ho)
  have kept:∀b o,g3.get? b=some o->g1.get? b=some o:=fun b o e=>hsb.extBut b o (ne_of_lt (Heap.lt_size e)) (Heap.get?_push_of_some _ e)
  have cne:∀x c,cl.lookup x=some c->c≠g3.objs.size:=fun x c e=>by
    obtain⟨v,q⟩:=I3.cell x c (hsub x c e)
    exact ne_of_lt q.lt
  have ok:(n5 X scope cl fp (tgs++ns) { s2 with heap:=g3 } H3).Ok:=by
    refine⟨I.ok.mod,hkind,I.ok.glob,I.ok.blt,le_refl _,fun y z c e1 e2=>I.ok.inj y z c (hsub y c e1) (hsub z c e2),fun y hy=>hhas y hy,fun y c e=>(nomatch e),I.ok.hd,I.ok.frames,.inl rfl,
      fun b hb=>⟨ne_of_lt (ltf b hb),fun y c e=>(f3 b hb).2.2.2.2.1 y c (hsub y c e)⟩,I3.bs,le_trans I.ok.bsz I3.sz,fun b o e hb=>?_,fun b hb=>?_,I3.stack,I3.stkFree,I.ok.hq⟩
    . rcases(f3 b hb).2.2.2.1 with q | q
      . exact I.ok.noex b o e q
      . exact absurd (lt_of_lt_of_le (Heap.lt_size (I.ok.bs b o e).1) q) (lt_irrefl _)
    . intro z
      rcases mem_cons.mp (I3.stkSub b z) with q | q
      . exact(f3 b hb).2.1 q
      . exact(f3 b hb).2.2.1 q
  have cells1:∀x c,cl.lookup x=some c -> ∃v,g1.IsCell c v:=fun x c e=>by
    obtain⟨v,o,ho,hd⟩:=I3.cell x c (hsub x c e)
    exact⟨v,o,kept _ _ ho,hd⟩
  have J4:Inv (n5 X scope cl fp (tgs++ns) { s2 with heap:=g3 } H3) [] (List.replicate tgs.length none++pick js σ) H3 { s2 with heap:=g1,toks:=s2.toks+([]:List (Str×Value)).length }:=by
    refine⟨ok,rfl,I3.bare,Un.kept kept,⟨_,hns,fun i y v e1 e2 e3=>?_⟩,fun y c e=>cells1 y c e,I3.hok.fresh (le_refl _),fun y c e=>I3.freeC y c (hsub y c e),fun p hp=>absurd (show p∈([]:List (Addr×Obj)) from hp) (by simp),I3.hok.kept kept,?_,I3.mild⟩
    . have hi2:tgs.length<=i:=by
        by_cases hlt:i<tgs.length
        . rw[List.getElem?_append_left (by simpa using hlt),List.getElem?_replicate,if_pos hlt] at e2
          cases e2
        . ac_rfl
      rw[List.getElem?_append_right (by simpa using hi2),length_replicate] at e2
      have e1':(tgs++ns)[i]?=some y:=e1
      rw[List.getElem?_append_right hi2] at e1'
      obtain⟨j,hj,hσ⟩:=Ea e2
      have hNj:X.N[j]?=some y:=by
        have:=congrArg (fun l=>l[i-tgs.length]?) hjs
        simp only[List.getElem?_map,hj,e1',map_some] at this
        exact Option.some.inj this
      have ym:y∈ns:=mem_of_getElem? e1'
      obtain⟨m,hm,hl⟩:=I3.loc
      have vis:Mo X.env.scope y:=by
        rcases hout y ym with q | q
        . exact .inr (.inl q)
        . exact .inr (.inr q)
      obtain⟨u,ru,lk⟩:=hl j y v hNj hσ vis
      refine⟨u,ru,?_⟩
      rcases lk with⟨q,_⟩ | ⟨_,c,hc1,hc2⟩
      . rcases hout y ym with z | z
        . rw[z] at q;cases q
        . rw[z] at q;cases q
      . obtain⟨c',hc'⟩:=hhas y (hin y ym)
        have:=hsub y c' hc'
        rw[hc1] at this
        cases this
        obtain⟨o,ho,hd⟩:=hc2
        exact .inr ⟨hin y ym,c,hc',o,kept _ _ ho,hd⟩
    . show _=(tgs++ns).length
      have:=congrArg List.length hjs
      simp only[length_map] at this
      simp[pick,this]
  have st4:tn 0 g1:=T.keep 0 _ _ st2 fun b hb o e=>kept b o (by rw[<- hS3];exact Heap.get?_push_of_some _ e)
  have fin:∀(H':Hp) (σ':St) (s':Shared),Inv (n5 X scope cl fp (tgs++ns) { s2 with heap:=g3 } H3) [] σ' H' s'->Q (.ref D) H'->compPost (model X.prog X.w) X.A X.xe use R (.ref D) g3.objs.size (.ok .next) s':=by
    intro H' σ' s' K q
    obtain⟨m,hm,_⟩:=K.loc
    refine hfin D g3.objs.size H' s' q (I3.fpOk (le_refl _) K.free) ⟨m,hm⟩ fun h' hsb'=>?_
    have ne:∀b o,g3.get? b=some o->b≠g3.objs.size:=fun b o e=>ne_of_lt (Heap.lt_size e)
    have B:Un (frs X.stack) fp H3 H' g3 s'.heap:=K.base
    refine I3.call' (s':={ s' with heap:=h' }) (ch:=fp) K.os ⟨fun b o e n hb hx=>(hsb'.2 b (ne b o e)).trans (B.keep b o e n hb hx),fun b o e n hb hx=>?_,B.free,fun b o e hx=>?_,B.tups,B.frzs,B.tbls⟩ (fun b u e=>?_) K.bare (fun b hb=>?_)
    . obtain⟨sl,e1⟩:=B.slot b o e n hb hx
      exact⟨sl,(hsb'.2 b (ne b o e)).trans e1⟩
    . obtain⟨o',e1⟩:=B.there b o e hx
      exact⟨o',(hsb'.2 b (ne b o e)).trans e1⟩
    . have nC:∀c v,H' c=some v->c≠g3.objs.size:=fun c v e z=>by
        have:H' g3.objs.size=none:=K.free
        rw[z,this] at e
        cases e
      refine(K.hok b u e).stay (fun c v hc q=>(hsb'.2 c ?_).trans q) (fun _ q=>q) (fun _ _ q=>q) fun _ _ q=>q
      rcases hc with z | z
      . rw[z];exact nC b u e
      . exact nC c _ z
    . obtain⟨_,q1,_,q3,q4,q5⟩:=f3 b hb
      exact⟨q3,q1,q4,q5⟩
  have loop:codeAny (model X.prog X.w) X.A (.compLoop (.ListComp elt [⟨tgt,iter,ifs,0⟩] scope pos) 0 (.ref it) (.ref D) (compEnvC scope cl g3.objs.size X.env))
      (compPost (model X.prog X.w) X.A X.xe use R (.ref D) g3.objs.size) { s2 with heap:=g1,toks:=s2.toks+([]:List (Str×Value)).length }:=by
    refine tT (fun n s'=>∃i acc old H',Inv (n5 X scope cl fp (tgs++ns) { s2 with heap:=g3 } H3) [] (old++pick js σ) H' s'/\old.length=tgs.length/\tn i s'.heap/\(∀b∈fp,H' b=none)/\H' D=some (.lst acc)/\W i n acc H') ?_ m0
      ⟨0,[],List.replicate tgs.length none,H3,J4,by simp,st4,fun b hb=>(f3 b hb).1,by rw[<- hH3];exact aY,w0⟩
    rintro n s' ⟨i,acc,old,H',K,lo,st,fr,hDl,w⟩
    have fpk:∀{H'':Hp},(∀b∈fp,H'' b=none) -> ∀b∈fp,t9 (n5 X scope cl fp (tgs++ns) { s2 with heap:=g3 } H3) [] H'' b:=fun hn b hb=>
      ⟨hn b hb,ne_of_lt (ltf b hb),fun z=>ok.exfs b hb z,.inl hb,fun y c e=>(f3 b hb).2.2.2.2.1 y c (hsub y c e),fun p hp=>absurd (show p∈([]:List (Addr×Obj)) from hp) (by simp)⟩
    rcases step i n acc H' w hDl with⟨stop,q⟩ | ⟨go,next⟩
    . refine thn (T.done (n5 X scope cl fp (tgs++ns) { s2 with heap:=g3 } H3) rfl rfl rfl rfl i [] s' _ H' _ K (fpk fr) st stop) fun r s1 zz=>?_
      obtain⟨hr,K1⟩:=zz
      subst hr
      exact fin H' _ s1 K1 q
    . refine thn (T.item (n5 X scope cl fp (tgs++ns) { s2 with heap:=g3 } H3) rfl rfl rfl rfl i [] s' _ H' _ K (fpk fr) st go) fun r s1 zz=>?_
      obtain⟨u,hr,h4⟩:=zz
      subst hr
      refine thn h4 fun _ s5 zz=>?_
      obtain⟨y,H5,K5,r5,y5,st5,fr5⟩:=zz
      have K5':=K5.pinned (fpk fr5) (T.obj _ _ st5)
      refine thn (hg fp { s2 with heap:=g3 } H3 _ s5 _ H5 y u _ K5' r5 (next y H5 y5 old lo)) fun _ s6 ⟨σ6,H6,K6,⟨new,hnew,e6⟩,q6⟩=>?_
      subst e6
      refine thn (ht fp { s2 with heap:=g3 } H3 _ s6 _ H6 _ K6 q6) fun b s6' zz=>?_
      obtain⟨H6',K6',q6'⟩:=zz
      have again:∀{s8:Shared} {H8:Hp} {acc':List V} {m':Nat},Inv (n5 X scope cl fp (tgs++ns) { s2 with heap:=g3 } H3) ([]++rX fp s5.heap) (new++pick js σ) H8 s8->H8 D=some (.lst acc')->m'<n->W (i+1) m' acc' H8 ->
          ∃m,m<n /\ ∃i acc old H',Inv (n5 X scope cl fp (tgs++ns) { s2 with heap:=g3 } H3) [] (old++pick js σ) H' s8/\old.length=tgs.length/\tn i s8.heap/\(∀b∈fp,H' b=none)/\H' D=some (.lst acc)/\W i m acc H':=by
        intro s8 H8 acc' m' K8 h8 hm' w8
        refine⟨m',hm',i+1,acc',new,H8,K8.unpinned,hnew,T.keep _ _ _ st5 fun b hb o e=>(K8.pin (b,o) (mem_append_right _ (mem_append_right _ (jY hb e)))).1,fun b hb=>?_,h8,w8⟩
        obtain⟨o,e,d⟩:=T.obj _ _ st5 b hb
        exact(K8.pin (b,o) (mem_append_right _ (mem_append_right _ (jY hb e)))).2.1
      cases b with
      |true=>
        refine tL ?_
        rw[if_pos rfl] at q6'
        refine thn (he fp { s2 with heap:=g3 } H3 _ s6' _ H6' _ K6' q6') fun vv s7 zz=>?_
        obtain⟨v,H7,K7,r7,hD7,hlen,m',hm',w7⟩:=zz
        refine thn (uH (X:=n5 X scope cl fp (tgs++ns) { s2 with heap:=g3 } H3) _ s7 _ H7 (.ref D) [v] (.ref D) [vv] (fun _ H8=>H8=upd H7 D (.lst (acc++[v]))) K7 rfl (.cons r7 .nil) ⟨D,acc,v,rfl,rfl,hD7,hlen,rfl⟩) fun _ s8 zz=>?_
        obtain⟨_,H8,K8,_,e8⟩:=zz
        subst e8
        exact again K8 aY hm' w7
      |false=>
        refine tM ?_
        have q6f:H6' D=some (.lst acc) /\ ∃m',m'<n/\W (i+1) m' acc H6':=by simpa using q6'
        obtain⟨hD7,m',hm',w7⟩:=q6f
        exact again K6' hD7 hm' w7
  exact codeAny_compStart_list loop (T.self _ 0 _ _ _ st4 loop)
theorem Ei{elt iter tgt:Expr}{ifs:List Expr}{scope:Scope}{pos:Pos}{cl:List (Str×Addr)}{tgs ns:List Str}{js:List Nat}{wi:TI}{g:TG}{tt:TT}{te:TE}(hc:X.N=X.N)
    (hi:PI X tgt iter wi) (hg:∀(fp:List Addr) (s:Shared) (H:Hp),PG (n5 X scope cl fp (tgs++ns) s H) tgt g) (ht:∀(fp:List Addr) (s:Shared) (H:Hp),L1 (n5 X scope cl fp (tgs++ns) s H) ifs tt)
    (he:∀(fp:List Addr) (s:Shared) (H:Hp),PE (n5 X scope cl fp (tgs++ns) s H) elt te)
    (hclos:closureFor scope X.env=pure cl) (hsub:∀x c,cl.lookup x=some c->X.env.cells.lookup x=some c)
    (hhas:∀x,((relabel scope X.env).names.lookup x=some .cell \/ (relabel scope X.env).names.lookup x=some .free) -> ∃c,cl.lookup x=some c)
    (hjs:js.map (fun j=>X.N[j]?)=ns.map some) (hin:∀y∈ns,(relabel scope X.env).names.lookup y=some .cell \/ (relabel scope X.env).names.lookup y=some .free)
    (hout:∀y∈ns,X.env.kindOf y=some .cell \/ X.env.kindOf y=some .free)
    (hcell:autoParam (∀y∈scope.names,y.2 ≠ .cell) BW._auto_1) (hkind:autoParam (scope.kind=.function) cB._auto_1)
    (hnames:autoParam (∀y∈scope.names,y.2=.local->scope.names.lookup y.1=some .local) BW._auto_1)
    (hs:autoParam (∀z,foldedSetIterable iter X.env z=pure z) Ga._auto_1):
    PE X (.ListComp elt [⟨tgt,iter,ifs,0⟩] scope pos) (v7 wi tgs.length js g tt te):=by
  intro pj s σ H Q I h
  rw[eval_ListComp]
  refine uT hc hi hg ht he hclos hsub hhas hjs hin hout hcell hkind hnames hs _ pj s σ H Q I h none _ ?_
  intro D C H' s' q fp hm inv
  obtain⟨m,hm⟩:=hm
  exact⟨m,hm,fun h' hs'=>⟨.ref D,H',inv h' hs',rfl,q⟩⟩
theorem EY{y:Str}{py spos:Pos}{iy:Nat}{elt iter tgt:Expr}{ifs:List Expr}{scope:Scope}{pos:Pos}{cl:List (Str×Addr)}{tgs ns:List Str}{js:List Nat}{wi:TI}{g:TG}{tt:TT}{te:TE}(hN:X.N.Nodup)(hi2:X.N[iy]?=some y)(hx2:Do X.env.scope y)(hc:X.N=X.N)
    (hi:PI X tgt iter wi) (hg:∀(fp:List Addr) (s:Shared) (H:Hp),PG (n5 X scope cl fp (tgs++ns) s H) tgt g) (ht:∀(fp:List Addr) (s:Shared) (H:Hp),L1 (n5 X scope cl fp (tgs++ns) s H) ifs tt)
    (he:∀(fp:List Addr) (s:Shared) (H:Hp),PE (n5 X scope cl fp (tgs++ns) s H) elt te)
    (hclos:closureFor scope X.env=pure cl) (hsub:∀x c,cl.lookup x=some c->X.env.cells.lookup x=some c)
    (hhas:∀x,((relabel scope X.env).names.lookup x=some .cell \/ (relabel scope X.env).names.lookup x=some .free) -> ∃c,cl.lookup x=some c)
    (hjs:js.map (fun j=>X.N[j]?)=ns.map some) (hin:∀y∈ns,(relabel scope X.env).names.lookup y=some .cell \/ (relabel scope X.env).names.lookup y=some .free)
    (hout:∀y∈ns,X.env.kindOf y=some .cell \/ X.env.kindOf y=some .free)
    (hcell:autoParam (∀y∈scope.names,y.2 ≠ .cell) BW._auto_1) (hkind:autoParam (scope.kind=.function) cB._auto_1)
    (hnames:autoParam (∀y∈scope.names,y.2=.local->scope.names.lookup y.1=some .local) BW._auto_1)
    (hs:autoParam (∀z,foldedSetIterable iter X.env z=pure z) Ga._auto_1)
    (hsw:autoParam (swapsWith (.ListComp elt [⟨tgt,iter,ifs,0⟩] scope pos) (some (.Name y py)) spos.line X.env=pure true) cB._auto_1) (hf:autoParam (X.fn y=true \/ X.env.scope.names.lookup y=some .local) Dm._auto_1):
    PS X (.Assign [.Name y py] (.ListComp elt [⟨tgt,iter,ifs,0⟩] scope pos) spos) (Gj (v7 wi tgs.length js g tt te) (zN iy)):=by
  intro pj s σ H D I h
  rw[exec_Assign_Name_used _ _ _ _ hsw]
  refine wpAny_bind (wpAny_standAt (wpAny_bind ?_))
  show wpAny _ X.A (do let _ <- comprehension (.ListComp elt [⟨tgt,iter,ifs,0⟩] scope pos) scope X.env _ (newList []) false (eval iter X.env) (some (assign (.Name y py) X.env))) _ _ s
  refine wpAny_bind (wpAny_mono (uT hc hi hg ht he hclos hsub hhas hjs hin hout hcell hkind hnames hs _ pj s σ H _ I h (some (assign (.Name y py) X.env)) (fun _ s'=>SP X pj D .next s') ?_) (fun _ s' hq=>wpAny_pure (wpAny_pure hq)) fun _ _ e=>e)
  intro E C H' s' q fp ⟨m,hm⟩ inv
  have I1:Inv X pj σ H' s':=inv s'.heap ⟨rfl,fun _ _=>rfl⟩
  show wpAny _ X.A (assign (.Name y py) X.env (.ref E)) _ _ _
  refine wpAny_assign_Name (u8 I1 hN hi2 hx2 (v:=.ref E) rfl (fun s2 I2 hsb=>?_) hf)
  obtain⟨a,hsb,ha⟩:=hsb
  have aC:a≠C:=by
    rcases ha with ha | ha
    . rw[ha];exact Ne.symm fp.2.1
    . exact fp.2.2.2.2.1 _ _ ha
  refine⟨m,hm.sameBut hsb (Ne.symm aC),fun h' hs'=>⟨_,H',?_,q⟩⟩
  refine I2.call' (s':={ s2 with heap:=h' }) (ch:=[C]) rfl ⟨fun b o e n hb hx=>?_,fun b o e n hb hx=>?_,fun b o e n hx=>n,fun b o e hx=>?_,fun _ _ e=>e,fun _ _ _ e=>e,fun b ps e=>⟨#[],by simpa using e⟩⟩ ?_ I2.bare ?_
  . exact hs'.extBut b o (by simpa using hx) e
  . exact⟨o.slots,hs'.extBut b o (by simpa using hx) e⟩
  . exact⟨o,hs'.extBut b o (by simpa using hx) e⟩
  . have nC:∀c v,H' c=some v->c≠C:=fun c v e z=>by
      rw[z,fp.1] at e
      cases e
    intro b u e
    refine(I2.hok b u e).stay (fun c v hc q=>(hs'.2 c ?_).trans q) (fun _ q=>q) (fun _ _ q=>q) fun _ _ q=>q
    rcases hc with z | z
    . rw[z];exact nC b u e
    . exact nC c _ z
  . intro b hb
    obtain rfl:b=C:=by simpa using hb
    exact⟨fp.2.2.2.1,fp.2.1,fp.2.2.2.2.1,fp.2.2.2.2.2⟩
end
section
variable {κ:Type} [DecidableEq κ]
noncomputable def jK(kvs:List (κ×V))(k:κ):Option V:=(kvs.find? fun kv=>decide (kv.1=k)).map (·.2)
theorem nE{p:κ×V}{r:List (κ×V)}{k:κ}(e:p.1=k):jK (p::r) k=some p.2:=by simp[jK,find?_cons,e]
theorem nG{p:κ×V}{r:List (κ×V)}{k:κ}(e:¬p.1=k):jK (p::r) k=jK r k:=by simp[jK,find?_cons,e]
theorem KV.val{kvs:List (κ×V)}{vs:List (κ×Value)}(r:KV kvs vs)(k:κ):oO (jK kvs k) (valueAt vs k):=by
  unfold KV at r
  induction r with
  |nil=>exact True.intro
  | @cons p q ps qs h t ih=>
    obtain⟨h1,h2⟩:=h
    by_cases e:p.1=k
    . have e':q.1=k:=h1.symm.trans e
      have b:valueAt (q::qs) k=some q.2:=by simp[valueAt,find?_cons,e']
      rw[nE e,b];exact h2
    . have e':¬q.1=k:=fun z=>e (h1.trans z)
      have b:valueAt (q::qs) k=valueAt qs k:=by simp[valueAt,find?_cons,e']
      rw[nG e,b];exact ih
theorem KV.length{kvs:List (κ×V)}{vs:List (κ×Value)}(r:KV kvs vs):kvs.length=vs.length:=Paired.length r
end
theorem J2{P:Program}{w:World}{k:cW}{u:Value}(r:cJ (kV k) u):(fP P w).is k u=true:=by
  cases k with
  |inl i=>obtain⟨t,e⟩:=(show ∃t,u=Value.int i t from r);subst e;exact zC P w i t
  |inr x=>obtain⟨t,e⟩:=(show ∃t,u=Value.str x t from r);subst e;exact zB P w x t
theorem uN{P:Program}{w:World}:∀{ks:List cW} {us:List Value},bF (ks.map kV) us->ItemsAre (fP P w) ks us
  | [],_,r=>by rw[map_nil] at r;cases r;exact .nil
  |k::ks,_,r=>by
    rw[map_cons] at r
    cases r with
    |cons h t=>exact .cons (J2 h) (uN t)
noncomputable abbrev KT(H:Hp):List (List cW×V)->List (List cW×Addr×Value)->Prop:=Paired fun p q=>p.1=q.1/\H q.2.1=some (.tup (p.1.map kV))/\cJ p.2 q.2.2
theorem KT.val{H:Hp}{kvs:List (List cW×V)}{xs:List (List cW×Addr×Value)}(r:KT H kvs xs)(k:List cW):oO (jK kvs k) ((atKey xs k).map (·.2)):=by
  induction r with
  |nil=>exact True.intro
  | @cons p q ps qs h t ih=>
    obtain⟨h1,_,h2⟩:=h
    by_cases e:p.1=k
    . have e':q.1=k:=h1.symm.trans e
      have b:atKey (q::qs) k=some q.2:=by simp[atKey,find?_cons,e']
      rw[nE e,b];exact h2
    . have e':¬q.1=k:=fun z=>e (h1.trans z)
      have b:atKey (q::qs) k=atKey qs k:=by simp[atKey,find?_cons,e']
      rw[nG e,b];exact ih
section
variable {P:Program} {w:World} {H:Hp} {h:Heap} {a:Addr}
theorem Ih{u:HO}(ok:nD P w H h)(e:Rd H a u):cI P w H h a u:=e.ok ok
theorem GN{kvs:List (cW×V)}(ok:nD P w H h)(e:Rd H a (.dK kvs)):kvs.length<=sizeLine/\(a==sysModules)=false /\ ∃vs,KV kvs vs/\h.DictOf (fP P w) a vs:=
  show cI P w H h a (.dK kvs) from Ih ok e
theorem Fe{ks:List cW}(ok:nD P w H h)(e:H a=some (.tup (ks.map kV))):(tupleKind (fP P w)).is h ks a:=by
  obtain⟨_,its,r,o,h1,h2,n,h3⟩:=(show cI P w H h a (.tup (ks.map kV)) from ok a _ e)
  exact⟨o,its.toArray,n,h1,h2,h3,by simpa using uN r⟩
theorem JD{ep:Nat}{kvs:List (List cW×V)}(ok:nD P w H h)(e:Rd H a (.dT ep kvs)):kvs.length<=sizeLine/\(a==sysModules)=false /\
    ∃xs,KT H kvs xs/\h.DictOfH (tupleKind (fP P w)) a xs:=by
  obtain⟨z,y,xs,r,o,es,h1,h2,h3,h4,h5⟩:=(show cI P w H h a (.dT ep kvs) from Ih ok e)
  refine⟨z,y,xs,r,o,es,ep,h1,h2,h3,h4,fun x hx=>?_,h5⟩
  have all:∀{l:List (List cW×V)} {m:List (List cW×Addr×Value)},KT H l m -> ∀x∈m,(tupleKind (fP P w)).is h x.1 x.2.1:=by
    intro l m q
    induction q with
    |nil=>intro x hx;exact nomatch hx
    | @cons p q ps qs hq t ih=>
      intro x hx
      rcases mem_cons.mp hx with e | hx
      . subst e
        exact Fe ok (by rw[<- hq.1];exact hq.2.1)
      . exact ih x hx
  exact all r x hx
end
noncomputable def u0(H:Hp)(a:Addr)(y:V)(r:Option V):Prop:=
  (∃kvs k,Rd H a (.dK kvs)/\y=kV k/\r=jK kvs k) \/ ∃ep kvs k b,Rd H a (.dT ep kvs)/\y=.ref b/\H b=some (.tup (k.map kV))/\r=jK kvs k
theorem u0.k{H:Hp}{a:Addr}{kvs:List (cW×V)}{k:cW}(e:H a=some (.dK kvs)):u0 H a (kV k) (jK kvs k):=.inl ⟨kvs,k,.inl e,rfl,rfl⟩
theorem u0.t{H:Hp}{a b:Addr}{ep:Nat}{kvs:List (List cW×V)}{k:List cW}(e:H a=some (.dT ep kvs))(eb:H b=some (.tup (k.map kV))):u0 H a (.ref b) (jK kvs k):=.inr ⟨ep,kvs,k,b,.inl e,rfl,eb,rfl⟩
section
variable {X:Cx} {pj:List (Addr×Obj)} {σ:St} {H:Hp} {s:Shared} {a:Addr} {y v:V} {u r:Value} {o:Option V} {A:Around} {E:Value->Shared->Prop}
theorem Inv.big(I:Inv X pj σ H s):sysModules<s.heap.objs.size:=by
  have h:mainGlobals<s.heap.objs.size:=(I.mod.glob.keeps I.bk).lt
  exact Nat.lt_trans ∅ h
theorem De{Q:Value->Shared->Prop}(hu:A.units+1<cLine)(I:Inv X pj σ H s)(g:u0 H a y (some v))(ry:cJ y u)(h:∀w' s',Inv X pj σ H s'->cJ v w'->Q w' s'):
    wpAny (model X.prog X.w) A (getItem (.ref a) u) Q E s:=by
  rcases g with⟨kvs,k,e,ey,l⟩ | ⟨_,kvs,k,b,e,ey,eb,l⟩
  . subst ey
    obtain⟨z,hd,vs,rel,dd⟩:=GN I.hok e
    obtain⟨w',hw,rw'⟩:=oO.some_of (v:=v) (o:=valueAt vs k) (by rw[l];exact rel.val k)
    exact wpAny_getItem_of (J2 ry) dd.mapOf hw (h w' _ (I.tok _) rw')
  . subst ey
    cases (show u=Value.ref b from ry)
    obtain⟨z,hd,xs,rel,dd⟩:=JD I.hok e
    obtain⟨w',hw,rw'⟩:=oO.some_of (v:=v) (o:=(atKey xs k).map (·.2)) (by rw[l];exact rel.val k)
    obtain⟨p,hp,hp2⟩:=map_eq_some_iff.mp hw
    refine wpAny_getItem_heap (tupleKind_room_in1 hu) (Fe I.hok eb) dd hp ?_
    rw[hp2]
    exact h w' _ (I.tok _) rw'
theorem II{h':Heap}{t':Nat}{ob:HO}(I:Inv X pj σ H s)(mu:Dk (H a))(hs:Heap.SameBut a s.heap h')(he:∃q,h'.get? a=some q)(new:cI X.prog X.w (upd H a ob) h' a ob):
    Inv X pj σ (upd H a ob) { s with heap:=h',toks:=t' }:=
  I.write (x:=a) (e:=a) mu (.inl rfl) (fun b q hb z=>(hs.2 b hb).trans z) he new
end
section
variable {X:Cx} {pj:List (Addr×Obj)} {σ:St} {H:Hp} {s:Shared} {a:Addr} {kvs:List (cW×V)} {k:cW} {u:Value} {A:Around} {E:Value->Shared->Prop}
theorem MZ{Q:Value->Shared->Prop}(I:Inv X pj σ H s)(e:Rd H a (.dK kvs))(h:∀t s',Inv X pj σ H s'->Q (.int kvs.length t) s'):wpAny (model X.prog X.w) A (call (.builtin "len") [.ref a]) Q E s:=by
  obtain⟨z,hd,vs,rel,dd⟩:=GN I.hok e
  refine call_len_dict hd dd (by rw[<- rel.length];rw[sizeLine_eq] at z;ac_rfl) ?_
  rw[<- rel.length]
  exact h _ _ (I.tok _)
end
theorem zW{X:Cx}{pj:List (Addr×Obj)}{σ:St}{H:Hp}{s:Shared}{a:Addr}{y:V}{o:Option V}(I:Inv X pj σ H s)(g:u0 H a y o):s.TypeIs (.ref a) "dict" := by
  rcases g with⟨kvs,k,e,_,_⟩ | ⟨_,kvs,k,b,e,_,_,_⟩
  . obtain⟨_,_,vs,_,dd⟩:=GN I.hok e
    exact dd.typeIs
  . obtain⟨_,_,xs,_,dd⟩:=JD I.hok e
    exact dd.typeIs
section
variable {X:Cx} {o i e value:Expr} {pos pos' tpos:Pos} {td ty tv:TE}
end
section
variable {X:Cx} {pos:Pos}
end
section
variable {X:Cx} {pj:List (Addr×Obj)} {σ:St} {H:Hp} {s:Shared} {a:Addr} {y d:V} {u r:Value} {o:Option V} {A:Around} {E:Value->Shared->Prop}
end
section
variable {X:Cx} {o e f:Expr} {apos cpos:Pos} {td ty tx:TE}
end
section
variable {X:Cx} {pj:List (Addr×Obj)} {σ:St} {H:Hp} {s:Shared} {a:Addr} {kvs:List (cW×V)} {A:Around} {E:Value->Shared->Prop}
end
section
variable {X:Cx} {pj:List (Addr×Obj)} {σ:St} {H:Hp} {s:Shared} {a:Addr} {y:V} {u:Value} {A:Around} {E:Value->Shared->Prop}
end
section
variable {X:Cx}
theorem Di:eS X (.builtin "len") (fun xs H Q=>∃a kvs,xs=[V.ref a]/\H a=some (.dK kvs)/\Q (.int kvs.length) H):=by
  intro pj s σ H xs us Q I r h
  obtain⟨a,kvs,rfl,ha,q⟩:=h
  obtain⟨u,rfl,ru⟩:=i8 r
  cases ru
  exact MZ I (.inl ha) fun t s' I'=>⟨.int kvs.length,H,I',⟨t,rfl⟩,q⟩
end
section
variable {κ:Type} [DecidableEq κ]
end
noncomputable abbrev Tk:=Int×List Int
section
variable {prog:Program} {w:World}
noncomputable def eM(prog:Program)(w:World)(h:Heap)(k:Tk)(a:Addr):Prop:=
  ∃(o:Obj) (t:Tok) (c:Addr) (n:Nat),h.get? a=some o/\o.cls=.type "tuple" /\ o.data=.seq #[.int k.1 t,.ref c] n/\IsTupleKey (intKind prog w) h k.2 c
theorem eM.ty{s:Shared}{k:Tk}{a:Addr}(x:eM prog w s.heap k a):s.TypeIs (.ref a) "tuple" := let ⟨o,_,_,_,g,c,_⟩:=x;⟨o,g,c⟩
noncomputable def nJ(k:Tk):Int:=reduceHash (Builtin.Tuple.tupleHashOf [hashInt k.1,reduceHash (Builtin.Tuple.tupleHashOf (k.2.map hashInt))])
variable {A:Around} {E:Value->Shared->Prop} {s:Shared}
theorem Ca{k:Tk}{a:Addr}{Q:Int->Shared->Prop}(hu:A.units+1<cLine)(x:eM prog w s.heap k a)(h:Q (nJ k) { s with toks:=s.toks+(k.2.length+3) }):wpAny (model prog w) A (pyHash (.ref a)) Q E s:=by
  have ty:=x.ty
  obtain⟨o,t,c,n,g,_,d,i⟩:=x
  unfold pyHash
  first | unfold pyHashByItsType | skip
  first | refine wpAny_bind (wpAny_cRoomFor_or (.inr (Nat.lt_of_succ_lt hu)) ?_) | skip
  refine wpAny_bind (wpAny_specialOf ty F.slot_tuple_hash.lookup ?_)
  refine(show wpAny _ _ (ite ((some (Value.builtin "tuple.__hash__")==some Value.none)=true) _ _) Q E s from ?_)
  rw[if_neg (by rw[beq_builtin_none];exact Bool.false_ne_true)]
  refine wpAny_bind (wpAny_specialOf ty F.slot_tuple_hash.lookup (wpAny_bind (m:=callSpecialIfBoundUnlessNone? (.ref a) "__hash__" _) (wpAny_callSpecialIfBoundUnlessNone?_slot ty F.slot_tuple_hash (wpAny_call_entry F.slot_tuple_hash ty F.entry_tuple_hash ?_ (F.args_tuple_hash_1 _)))))
  refine wpAny_bind (m:=Builtin.Tuple.tupleItemsOf (.ref a)) (wpAny_tupleItemsOf g d (wpAny_bind ?_))
  rw[<- forIn_toList]
  simp only[forIn_cons,forIn_nil]
  refine wpAny_bind (wpAny_bind (wpAny_pyHash_int (wpAny_pure ?_)))
  refine wpAny_bind (wpAny_bind (wpAny_pyHash_tuple (knd:=intKind prog w) hu i (wpAny_pure (wpAny_pure ?_))))
  refine(show wpAny _ _ (retInt (Builtin.Tuple.tupleHashOf [hashInt k.1,reduceHash (Builtin.Tuple.tupleHashOf (k.2.map hashInt))])) _ _ _ from ?_)
  unfold nJ reduceHash at h
  unfold reduceHash
  generalize hZ:Builtin.Tuple.tupleHashOf [hashInt k.1,_]=z at h ⊢
  refine wpAny_ret_mkInt ?_
  refine(show wpAny _ _ (ite ((decide (-(2:Int) ^ 63<=z)&&decide (z<2 ^ 63))=true) _ _) Q E _ from ?_)
  have et:s.toks+1+(k.2.length+1)+1=s.toks+(k.2.length+3):=⋯
  by_cases c1:(decide (-(2:Int) ^ 63<=z)&&decide (z<2 ^ 63))=true
  . rw[if_pos c1] at h ⊢
    exact wpAny_pure (by simpa [et] using h)
  . rw[if_neg c1] at h ⊢
    exact wpAny_bind (wpAny_rule (wpAny_pure (by simpa [et] using h)))
theorem v4{x y:Tk}{a b:Addr}{P:Fin->Shared->Prop}(hu:A.units<cLine)(hx:eM prog w s.heap x a)(hy:eM prog w s.heap y b)(h:P (.done (.ret (.bool (decide (x=y))))) s):
    wpAny (model prog w) A (Builtin.«tuple.__eq__» ⟨[.ref a,.ref b],[]⟩) P E s:=by
  have ty:=hy.ty
  obtain⟨o,t,c,n,g,_,d,i⟩:=hx
  obtain⟨o2,t2,c2,n2,g2,_,d2,i2⟩:=hy
  refine wpAny_bind (m:=isInstance (.ref b) (.type "tuple")) (wpAny_isInstance ty isSubtype_tuple_tuple ?_)
  simp only[Bool.not_true,Bool.false_eq_true,if_false]
  refine wpAny_bind (wpAny_tupleItemsOf g d (wpAny_bind (wpAny_tupleItemsOf g2 d2 (wpAny_bind ?_))))
  simp only[List.zip_cons_cons,List.zip_nil_right,forIn_cons,forIn_nil]
  have no:x≠y->P (.done (.ret (.bool false))) s:=fun e=>by rw[decide_eq_false e] at h;exact h
  refine wpAny_bind (wpAny_bind (wpAny_eqBool_int ?_))
  by_cases e1:x.1=y.1
  . rw[beq_iff_eq.mpr e1]
    refine wpAny_pure (wpAny_bind (wpAny_bind (wpAny_eqBool_tuple hu i i2 ?_)))
    by_cases e3:x.2=y.2
    . rw[decide_eq_true e3]
      rw[decide_eq_true (Prod.ext e1 e3)] at h
      exact wpAny_pure (wpAny_pure (wpAny_pure h))
    . rw[decide_eq_false e3]
      exact wpAny_bind (wpAny_pure (wpAny_pure (wpAny_pure (wpAny_pure (no fun z=>e3 (by rw[z]))))))
  . rw[beq_eq_false_iff_ne.mpr e1]
    exact wpAny_bind (wpAny_pure (wpAny_pure (wpAny_pure (wpAny_pure (no fun z=>e1 (by rw[z]))))))
theorem eM.inj{h:Heap}{a:Addr}{x y:Tk}(hx:eM prog w h x a)(hy:eM prog w h y a):x=y:=by
  obtain⟨o,t,c,n,g,_,d,i⟩:=hx
  obtain⟨o2,t2,c2,n2,g2,_,d2,i2⟩:=hy
  rw[g] at g2
  cases g2
  rw[d] at d2
  simp only[Data.seq.injEq,Array.mk.injEq,List.cons.injEq,Value.int.injEq,Value.ref.injEq] at d2
  obtain⟨⟨⟨e1,_⟩,e3,_⟩,_⟩:=d2
  subst e3
  exact Prod.ext e1 (i.inj i2)
theorem Gg{x y:Tk}{a b:Addr}{Q:Bool->Shared->Prop}(hu:A.units+1<cLine)(hx:eM prog w s.heap x a)(hy:eM prog w s.heap y b)(h:Q (decide (x=y)) s):wpAny (model prog w) A (eqBool (.ref a) (.ref b)) Q E s:=by
  unfold eqBool
  try with_reducible refine wpAny_holding ?_
  refine(show wpAny _ _ (ite ((Value.ref a==Value.ref b)=true) _ _) Q E s from ?_)
  by_cases ab:(Value.ref a==Value.ref b)=true
  . rw[if_pos ab]
    have e:a=b:=by have:=eq_of_beq ab;injection this
    subst e
    obtain rfl:=hx.inj hy
    exact wpAny_bind (wpAny_rule (wpAny_pure (by simpa using h)))
  . rw[if_neg ab]
    exact wpAny_bind (wpAny_richCompare_same_room (op:=.Eq) hx.ty hy.ty F.slot_tuple_eq (wpAny_call_entry F.slot_tuple_eq hx.ty F.entry_tuple_eq (v4 hu hx hy ⟨_,rfl,(fun e=>nomatch e),wpAny_truthy_bool h⟩) (F.args_tuple_eq_2 _ _)) (Nat.lt_of_succ_lt hu))
theorem eM.keeps{h h':Heap}{k:Tk}{a d:Addr}{o:Obj}{es:Array DictEntry}{ep:Nat}(x:eM prog w h k a)(ho:h.get? d=some o)(hd:o.data=.dict es ep)(hs:Heap.SameBut d h h'):eM prog w h' k a:=by
  obtain⟨o2,t,c,n,g,cl,d2,i⟩:=x
  have ne:a≠d:=by
    rintro rfl
    rw[g] at ho
    cases ho
    rw[hd] at d2
    cases d2
  exact⟨o2,t,c,n,(hs.2 a ne).trans g,cl,d2,i.keeps ho hd hs⟩
theorem zK{ks:List Int}{a:Addr}{Q:Bool->Shared->Prop}(hk:IsTupleKey (intKind prog w) s.heap ks a)(h:Q true s):wpAny (model prog w) A (eqIsQuiet 7 (.ref a)) Q E s:=by
  have ty:=hk.typeIs
  obtain⟨o,its,n,g,_,d,i⟩:=hk
  unfold eqIsQuiet
  refine wpAny_bind (wpAny_specialOf ty F.slot_tuple_eq.lookup (wpAny_bind (m:=isInstance (.ref a) (.type "tuple")) (wpAny_isInstance ty isSubtype_tuple_tuple ?_)))
  simp only[Bool.not_true,Bool.false_eq_true,if_false]
  refine wpAny_bind (wpAny_seqItems g d (wpAny_bind ?_))
  refine(show wpAny _ _ (forIn its _ _) _ _ s from ?_)
  rw[<- forIn_toList]
  refine wpAny_forIn_list _ (fun rest r s'=>r.1=none/\s'=s /\ ∀v∈rest,carriedByValue v=true) _ (fun v rest r s' z=>?_) (fun r s' z=>?_) _ _ ⟨rfl,rfl,i.byValue⟩
  . obtain⟨_,rfl,al⟩:=z
    rw[eqIsQuiet_byValue _ (al v mem_cons_self)]
    refine wpAny_bind (wpAny_pure ?_)
    simp only[Bool.not_true,Bool.false_eq_true,if_false]
    exact wpAny_pure ⟨rfl,rfl,fun y hy=>al y (mem_cons_of_mem _ hy)⟩
  . obtain⟨r1,r2⟩:=r
    obtain⟨hr,rfl,_⟩:=z
    cases hr
    exact wpAny_pure h
theorem AH{k:Tk}{a:Addr}{Q:Bool->Shared->Prop}(hk:eM prog w s.heap k a)(h:Q true s):wpAny (model prog w) A (eqIsQuiet 8 (.ref a)) Q E s:=by
  have ty:=hk.ty
  obtain⟨o,t,c,n,g,_,d,i⟩:=hk
  unfold eqIsQuiet
  refine wpAny_bind (wpAny_specialOf ty F.slot_tuple_eq.lookup (wpAny_bind (m:=isInstance (.ref a) (.type "tuple")) (wpAny_isInstance ty isSubtype_tuple_tuple ?_)))
  simp only[Bool.not_true,Bool.false_eq_true,if_false]
  refine wpAny_bind (wpAny_seqItems g d (wpAny_bind ?_))
  refine(show wpAny _ _ (forIn (#[Value.int k.1 t,Value.ref c]:Array Value) _ _) _ _ s from ?_)
  rw[<- forIn_toList]
  simp only[forIn_cons,forIn_nil]
  rw[eqIsQuiet_byValue _ (show carriedByValue (Value.int k.1 t)=true from rfl)]
  refine wpAny_bind (wpAny_bind (wpAny_pure (wpAny_pure ?_)))
  exact wpAny_bind (wpAny_bind (zK i (wpAny_pure (wpAny_pure (wpAny_pure h)))))
noncomputable def nI(prog:Program)(w:World):HeapKind prog w Tk where
  is:=eM prog w
  hash:=nJ
  draws:=fun k=>k.2.length+3
  room:=fun A=>A.units+1<cLine
  inj:=fun hx hy=>hx.inj hy
  keeps:=fun x ho hd hs=>x.keeps ho hd hs
  pyHash:=fun hu hk h=>Ca hu hk h
  eqBool:=fun hu hx hy h=>Gg hu hx hy h
  quiet:=fun hk h=>AH hk h
end
noncomputable abbrev MR(x:Tk×Addr):DictEntry:=⟨nJ x.1,.ref x.2,.bool true⟩
noncomputable def ndict(a:Addr)(ep:Nat)(xs:List (Tk×Addr)):Heap->Prop:=fun h=>xs.length<=sizeLine/\(a==sysModules)=false /\ ∃o es,h.get? a=some o/\o.ExactDict/\o.data=.dict es ep/\es.toList=xs.map MR/\(xs.map (·.1)).Nodup
noncomputable abbrev HO.dN(a:Addr)(ep:Nat)(xs:List (Tk×Addr)):HO:=.ext (ndict a ep xs)
noncomputable def TileAt(H:Hp)(k:Tk)(b:Addr):Prop:=∃c,H b=some (.tup [.int k.1,.ref c])/\H c=some (.tup (k.2.map V.int))
section
variable {P:Program} {w:World} {H:Hp} {h:Heap} {a b:Addr}
theorem TileAt.is{k:Tk}(ok:nD P w H h)(t:TileAt H k b):eM P w h k b:=by
  obtain⟨c,e1,e2⟩:=t
  obtain⟨_,its,r,o,g,cl,n,d⟩:=(show cI P w H h b (.tup _) from ok b _ e1)
  obtain⟨_,its2,r2,o2,g2,cl2,n2,d2⟩:=(show cI P w H h c (.tup _) from ok c _ e2)
  cases r with
  |cons r1 r=>
      cases r with
      |cons r3 r=>
        cases r
        obtain⟨t1,rfl⟩:=r1
        cases r3
        refine⟨o,t1,c,n,g,cl,d,o2,its2.toArray,n2,g2,cl2,d2,?_⟩
        have all:∀{ns:List Int} {us:List Value},bF (ns.map V.int) us->ItemsAre (intKind P w) ns us:=by
          intro ns
          induction ns with
          |nil=>intro us r;cases r;exact .nil
          |cons n ns ih=>
            intro us r
            cases r with
            |cons r1 r=>
              obtain⟨t,rfl⟩:=r1
              exact .cons (show Value.isInt n (.int n t)=true from by simp[Value.isInt]) (ih r)
        simpa using all r2
theorem yZ{ep:Nat}{xs:List (Tk×Addr)}:∀h1 h2:Heap,ndict a ep xs h1->(∀o,h1.get? a=some o->h2.get? a=some o)->ndict a ep xs h2:=fun h1 h2 ⟨z,y,o,es,g,r⟩ k=>⟨z,y,o,es,k o g,r⟩
theorem z4{ep:Nat}{xs:List (Tk×Addr)}(x:ndict a ep xs h):cI P w H h a (.dN a ep xs):=by
  refine⟨x,?_,yZ⟩
  obtain⟨_,_,o,_,g,_⟩:=x
  exact⟨o,g⟩
theorem sC{ep:Nat}{xs:List (Tk×Addr)}(ok:nD P w H h)(e:H a=some (.dN a ep xs))(t:∀x∈xs,TileAt H x.1 x.2):xs.length<=sizeLine/\(a==sysModules)=false/\h.DictOfH (nI P w) a (xs.map fun x=>(x.1,x.2,.bool true)):=by
  obtain⟨⟨z,y,o,es,g,ex,d,l,nd⟩,_⟩:=(show cI P w H h a (.dN a ep xs) from ok a _ e)
  refine⟨z,y,o,es,ep,g,ex,d,?_,fun x hx=>?_,?_⟩
  . rw[l,map_map]
    rfl
  . obtain⟨p,hp,rfl⟩:=mem_map.mp hx
    exact(t p hp).is ok
  . rw[map_map]
    exact nd
end
noncomputable def hasN(xs:List (Tk×Addr))(k:Tk):Bool:=xs.any fun x=>decide (x.1=k)
noncomputable def tG(xs:List (Tk×Addr))(k:Tk)(b:Addr):List (Tk×Addr):=if hasN xs k then xs else xs++[(k,b)]
noncomputable abbrev AG(x:Tk×Addr):Tk×Addr×Value:=(x.1,x.2,.bool true)
theorem pT(xs:List (Tk×Addr))(k:Tk):(atKey (xs.map AG) k).isSome=hasN xs k:=by
  induction xs with
  |nil=>rfl
  |cons x r ih=>
    unfold atKey hasN at *
    rw[map_cons,find?_cons,any_cons]
    by_cases e:x.1=k
    . simp[e]
    . simp only[decide_eq_false e,Bool.false_or]
      exact ih
theorem AQ(xs:List (Tk×Addr))(k:Tk)(b:Addr):storedH (xs.map AG) k b (.bool true)=(tG xs k b).map AG:=by
  unfold storedH tG
  rw[pT]
  by_cases e:hasN xs k=true
  . rw[if_pos e,if_pos e,map_map]
    refine map_congr_left fun x _=>?_
    unfold putAt
    simp only[Function.comp_apply]
    split<;>rfl
  . rw[if_neg e,if_neg e,map_append]
    rfl
theorem Gx(xs:List (Tk×Addr))(k:Tk)(b:Addr):(tG xs k b).length<=xs.length+1:=by
  unfold tG
  split
  . exact le_succ _
  . rw[length_append];exact le_refl _
section
variable {X:Cx} {pj:List (Addr×Obj)} {σ:St} {H:Hp} {s:Shared} {a b:Addr} {xs:List (Tk×Addr)} {ep:Nat} {k:Tk} {A:Around} {E:Value->Shared->Prop}
theorem D5{Q:Unit->Shared->Prop}(hu:A.units+2<cLine)(I:Inv X pj σ H s)(e:H a=some (.dN a ep xs))(t:∀x∈xs,TileAt H x.1 x.2)(tb:TileAt H k b)(hl:xs.length<sizeLine)
    (h:∀ep' s',Inv X pj σ (upd H a (.dN a ep' (tG xs k b))) s'->Q () s'):wpAny (model X.prog X.w) A (setItem (.ref a) (.ref b) (.bool true)) Q E s:=by
  obtain⟨z,hd,dd⟩:=sC I.hok e t
  refine wpAny_setItem_heap (knd:=nI X.prog X.w) (hsz:=by rw[length_map];exact z) hu (tb.is I.hok) dd fun h' dd' hs=>?_
  rw[AQ] at dd'
  obtain⟨q,es,ep',hq,h2,h3,h4,_,h5⟩:=dd'
  refine h ep' _ (II I (by rw[e];exact True.intro) hs ⟨q,hq⟩ (z4 ⟨le_trans (Gx xs k b) hl,hd,q,es,hq,h2,h3,?_,?_⟩))
  . rw[h4,map_map]
    rfl
  . rw[map_map] at h5
    exact h5
theorem Nm{Q:Value->Shared->Prop}(hu:A.units+2<cLine)(I:Inv X pj σ H s)(e:H a=some (.dN a ep xs))(t:∀x∈xs,TileAt H x.1 x.2)(tb:TileAt H k b)(h:∀s',Inv X pj σ H s'->Q (.bool (hasN xs k)) s'):
    wpAny (model X.prog X.w) A (compareOp .In (.ref b) (.ref a)) Q E s:=by
  obtain⟨z,hd,dd⟩:=sC I.hok e t
  refine wpAny_in_heap (knd:=nI X.prog X.w) hu (tb.is I.hok) hd dd ?_
  rw[pT]
  exact h _ (I.tok _)
theorem HU{Q:Value->Shared->Prop}(hu:A.units+2<cLine)(I:Inv X pj σ H s)(e:H a=some (.dN a ep xs))(t:∀x∈xs,TileAt H x.1 x.2)(tb:TileAt H k b)(h:∀s',Inv X pj σ H s'->Q (.bool (!hasN xs k)) s'):
    wpAny (model X.prog X.w) A (compareOp .NotIn (.ref b) (.ref a)) Q E s:=by
  obtain⟨z,hd,dd⟩:=sC I.hok e t
  refine wpAny_notIn_heap (knd:=nI X.prog X.w) hu (tb.is I.hok) hd dd ?_
  rw[pT]
  exact h _ (I.tok _)
end
section
variable {X:Cx} {pos pos':Pos} {o i value:Expr} {td ty tv:TE}
noncomputable def JT:TE:=fun _ H Q=>∀p,H p=none->Q (.ref p) (upd H p (.dN p 0 []))
theorem Eh:PE X (.Dict [] [] pos) JT:=fun pj s σ H Q I h=>
  wpAny_Dict_empty ⟨.ref s.heap.objs.size,_,I.laid (a:=s.heap.objs.size) (o:=.dN s.heap.objs.size 0 []) (t':=s.toks) (fun _ _ q=>Heap.get?_push_of_some _ q) (le_refl _)
    (z4 ⟨zero_le _,beq_eq_false_iff_ne.mpr (Ne.symm (ne_of_lt I.big)),_,#[],Heap.get?_push_size _ rfl,⟨rfl,rfl,rfl⟩,rfl,rfl,List.nodup_nil⟩),rfl,h _ (I.hok.fresh (le_refl _))⟩
noncomputable def JX(td ty tv:TE):TS:=fun D σ H=>tv σ H fun v H1=>v=.bl true/\td σ H1 fun x H2=>ty σ H2 fun y H3=>∃a b ep xs k,x=.ref a/\y=.ref b/\H3 a=some (.dN a ep xs)/\(∀x∈xs,TileAt H3 x.1 x.2)/\TileAt H3 k b/\xs.length<sizeLine /\ ∀ep',D.nx σ (upd H3 a (.dN a ep' (tG xs k b)))
theorem EX(hu:X.A.units+2<cLine)(ho:PE X o td)(hi:PE X i ty)(hv:PE X value tv)(hs:swapsWith value (some (.Subscript o i pos')) pos.line X.env=pure false):
    PS X (.Assign [.Subscript o i pos'] value pos) (JX td ty tv):=by
  intro pj s σ H D I h
  refine wpAny_Assign_Subscript (thn (hv pj s σ H _ I h) fun r s1 ⟨v,H1,I1,rv,ev,q1⟩=>thn (ho pj s1 σ H1 _ I1 q1) fun u s2 ⟨x,H2,I2,rx,q2⟩=>thn (hi pj s2 σ H2 _ I2 q2) fun iv s3 ⟨y,H3,I3,ry,a,b,ep,xs,k,ex,ey,e,t,tb,hl,q3⟩=>?_) hs
  subst ev ex ey
  obtain rfl:u=Value.ref a:=rx
  obtain rfl:iv=Value.ref b:=ry
  obtain rfl:r=Value.bool true:=rv
  exact D5 hu I3 e t tb hl fun ep' s4 I4=>⟨σ,_,I4,q3 ep'⟩
noncomputable def Lj(neg:Bool):R2:=fun x y H Q=>∃a b ep xs k,x=.ref b/\y=.ref a/\H a=some (.dN a ep xs)/\(∀x∈xs,TileAt H x.1 x.2)/\TileAt H k b/\Q (.bl (if neg then !hasN xs k else hasN xs k)) H
theorem KF(hu:X.A.units+2<cLine):k9 X (compareOp .In) (Lj false):=by
  intro pj s σ H x y v u Q I rx ry h
  obtain⟨a,b,ep,xs,k,rfl,rfl,e,t,tb,q⟩:=h
  cases rx
  cases ry
  exact Nm hu I e t tb fun s' I'=>⟨.bl (hasN xs k),H,I',rfl,q⟩
theorem D1(hu:X.A.units+2<cLine):k9 X (compareOp .NotIn) (Lj true):=by
  intro pj s σ H x y v u Q I rx ry h
  obtain⟨a,b,ep,xs,k,rfl,rfl,e,t,tb,q⟩:=h
  cases rx
  cases ry
  exact HU hu I e t tb fun s' I'=>⟨.bl (!hasN xs k),H,I',rfl,q⟩
end
end L2
namespace Z
open L2
noncomputable abbrev St:=L2.St
inductive Dv where
 |non
 |bl (b:Bool)
 |int (i:Int)
 |str (x:Str)
 |tup (xs:List Dv)
 |lst (xs:List Dv)
 |dik (kvs:List (cW×Dv))
 |dit (kvs:List (List cW×Dv))
 |obj (C:Addr) (fs:List (Str×Dv))
 |scr (ns:List Int)
 /-- an exception that was caught,of the class at C -/
 |exc (C:Addr) (p:Option Int)
 /-- a dict by tiles whose values are True -/
 |dns (ks:List Tk)
noncomputable def iT:Dv->Bool
 | .lst _=>false
 | .dik _=>false
 | .dit _=>false
 | .obj _ _=>false
 | .dns _=>false
 | .tup xs=>flatDs xs
 |_=>true
where flatDs:List Dv->Bool
 | []=>true
 |d::r=>iT d&&flatDs r
noncomputable abbrev flatDs:=iT.flatDs
noncomputable def IR(K:W.Frag)(H:Hp)(a:Addr)(ns:List Int):Prop:=
 (∃o,H a=some (.frz o (.lst (ns.map V.int)))) \/
  ∃(o:Obj) (its:Array Value) (n:Nat),K.lookup a=some o/\o.cls=.type "list" /\ o.dict=none/\o.data=.seq its n/\its.size<=sizeLine/\bF (ns.map V.int) its.toList
theorem IR.sq{K:W.Frag}{H:Hp}{a:Addr}{ns:List Int}(h:IR K H a ns):eJ K H a (ns.map V.int):=by
 rcases h with⟨o,h⟩ | h
 ·exact .inl (.inr ⟨o,h⟩)
 ·exact .inr h
noncomputable def CV(H:Hp):Option Int->Option Addr->Prop
 |none,none=>True
 |some n,some d=>∃od,H d=some (.frz od (.xd [("step",.int n)]))
 |_,_=>False
theorem CV.gen{H H':Hp}(h:∀a o u,H a=some (.frz o u)->H' a=some (.frz o u)):∀{p:Option Int} {d:Option Addr},CV H p d->CV H' p d
 |none,none,z=>z
 |some _,some _,⟨od,z⟩=>⟨od,h _ _ _ z⟩
 |none,some _,z=>z.elim
 |some _,none,z=>z.elim
noncomputable def N8(H:Hp)(a C:Addr)(p:Option Int):Prop:=∃o u,H a=some (.frz o u)/\o.cls=.ref C/\CV H p o.dict/\pU o
noncomputable def O5(H:Hp)(a:Addr)(ks:List Tk):Prop:=∃ep xs,H a=some (.dN a ep xs)/\ks=xs.map (·.1) /\ ∀x∈xs,TileAt H x.1 x.2
mutual
inductive Rep(K:W.Frag)(M:Addr->Prop)(H:Hp):V->Dv->Prop
 |non:Rep K M H .non .non
 |bl (b:Bool):Rep K M H (.bl b) (.bl b)
 |int (i:Int):Rep K M H (.int i) (.int i)
 |str (x:Str):Rep K M H (.str x) (.str x)
 |tup {a:Addr} {xs:List V} {ds:List Dv}:H a=some (.tup xs)->Reps K M H xs ds->Rep K M H (.ref a) (.tup ds)
 |lst {a:Addr} {xs:List V} {ds:List Dv}:H a=some (.lst xs) -> ¬M a->Reps K M H xs ds->Rep K M H (.ref a) (.lst ds)
 |dik {a:Addr} {kvs:List (cW×V)} {ds:List (cW×Dv)}:H a=some (.dK kvs) -> ¬M a->RepK K M H kvs ds->Rep K M H (.ref a) (.dik ds)
 |dit {a:Addr} {ep:Nat} {kvs:List (List cW×V)} {ds:List (List cW×Dv)}:H a=some (.dT ep kvs) -> ¬M a->RepT K M H kvs ds->Rep K M H (.ref a) (.dit ds)
 |obj {a C dx:Addr} {fs:List (Str×V)} {ds:List (Str×Dv)}:H a=some (.ins C dx fs) -> ¬M a->RepF K M H fs ds->Rep K M H (.ref a) (.obj C ds)
 |scr {a:Addr} {ns:List Int}:IR K H a ns->Rep K M H (.ref a) (.scr ns)
 |exc {a C:Addr} {p:Option Int}:N8 H a C p->Rep K M H (.ref a) (.exc C p)
 |dns {a:Addr} {ks:List Tk}:O5 H a ks -> ¬M a->Rep K M H (.ref a) (.dns ks)
inductive Reps(K:W.Frag)(M:Addr->Prop)(H:Hp):List V->List Dv->Prop
 |nil:Reps K M H [] []
 |cons {x:V} {d:Dv} {xs:List V} {ds:List Dv}:Rep K M H x d->Reps K M H xs ds->Reps K M H (x::xs) (d::ds)
inductive RepK(K:W.Frag)(M:Addr->Prop)(H:Hp):List (cW×V)->List (cW×Dv)->Prop
 |nil:RepK K M H [] []
 |cons {k:cW} {x:V} {d:Dv} {xs:List (cW×V)} {ds:List (cW×Dv)}:Rep K M H x d->RepK K M H xs ds->RepK K M H ((k,x)::xs) ((k,d)::ds)
inductive RepT(K:W.Frag)(M:Addr->Prop)(H:Hp):List (List cW×V)->List (List cW×Dv)->Prop
 |nil:RepT K M H [] []
 |cons {k:List cW} {x:V} {d:Dv} {xs:List (List cW×V)} {ds:List (List cW×Dv)}:Rep K M H x d->RepT K M H xs ds->RepT K M H ((k,x)::xs) ((k,d)::ds)
inductive RepF(K:W.Frag)(M:Addr->Prop)(H:Hp):List (Str×V)->List (Str×Dv)->Prop
 |nil:RepF K M H [] []
 |cons {k:Str} {x:V} {d:Dv} {xs:List (Str×V)} {ds:List (Str×Dv)}:Rep K M H x d->RepF K M H xs ds->RepF K M H ((k,x)::xs) ((k,d)::ds)
end
structure Gen(K:W.Frag)(M M':Addr->Prop)(H H':Hp):Prop where
 l:∀a o,H a=some o->Dk (some o) -> ¬M a->H' a=some o /\ ¬M' a
 t:∀a xs,H a=some (.tup xs)->H' a=some (.tup xs)
 s:∀a ns,IR K H a ns->IR K H' a ns
 x:∀a o u,H a=some (.frz o u)->H' a=some (.frz o u)
section
variable {K:W.Frag} {M M' M'':Addr->Prop} {H H' H'':Hp}
theorem Reps.ind{P:List V->List Dv->Prop}(h0:P [] [])(h1:∀(x:V) (d:Dv) (xs:List V) (ds:List Dv),Rep K M H x d->Reps K M H xs ds->P xs ds->P (x::xs) (d::ds)){xs:List V}{ds:List Dv}(r:Reps K M H xs ds):P xs ds:=
 Reps.rec (motive_1:=fun _ _ _=>True) (motive_2:=fun xs ds _=>P xs ds) (motive_3:=fun _ _ _=>True) (motive_4:=fun _ _ _=>True) (motive_5:=fun _ _ _=>True) trivial (fun _=>trivial) (fun _=>trivial) (fun _=>trivial) (fun _ _ _=>trivial) (fun _ _ _ _=>trivial) (fun _ _ _ _=>trivial) (fun _ _ _ _=>trivial) (fun _ _ _ _=>trivial) (fun _=>trivial) (fun _=>trivial) (fun _ _=>trivial) h0 (fun a r _ ih=>h1 _ _ _ _ a r ih) trivial (fun _ _ _ _=>trivial) trivial (fun _ _ _ _=>trivial) trivial (fun _ _ _ _=>trivial) r
theorem RepK.ind{P:List (cW×V)->List (cW×Dv)->Prop}(h0:P [] [])(h1:∀(k:cW) (x:V) (d:Dv) (xs:List (cW×V)) (ds:List (cW×Dv)),Rep K M H x d->RepK K M H xs ds->P xs ds->P ((k,x)::xs) ((k,d)::ds)){xs:List (cW×V)}{ds:List (cW×Dv)}(r:RepK K M H xs ds):P xs ds:=
 RepK.rec (motive_1:=fun _ _ _=>True) (motive_2:=fun _ _ _=>True) (motive_3:=fun xs ds _=>P xs ds) (motive_4:=fun _ _ _=>True) (motive_5:=fun _ _ _=>True) trivial (fun _=>trivial) (fun _=>trivial) (fun _=>trivial) (fun _ _ _=>trivial) (fun _ _ _ _=>trivial) (fun _ _ _ _=>trivial) (fun _ _ _ _=>trivial) (fun _ _ _ _=>trivial) (fun _=>trivial) (fun _=>trivial) (fun _ _=>trivial) trivial (fun _ _ _ _=>trivial) h0 (fun a r _ ih=>h1 _ _ _ _ _ a r ih) trivial (fun _ _ _ _=>trivial) trivial (fun _ _ _ _=>trivial) r
theorem RepT.ind{P:List (List cW×V)->List (List cW×Dv)->Prop}(h0:P [] [])(h1:∀(k:List cW) (x:V) (d:Dv) (xs:List (List cW×V)) (ds:List (List cW×Dv)),Rep K M H x d->RepT K M H xs ds->P xs ds->P ((k,x)::xs) ((k,d)::ds)){xs:List (List cW×V)}{ds:List (List cW×Dv)}(r:RepT K M H xs ds):P xs ds:=
 RepT.rec (motive_1:=fun _ _ _=>True) (motive_2:=fun _ _ _=>True) (motive_3:=fun _ _ _=>True) (motive_4:=fun xs ds _=>P xs ds) (motive_5:=fun _ _ _=>True) trivial (fun _=>trivial) (fun _=>trivial) (fun _=>trivial) (fun _ _ _=>trivial) (fun _ _ _ _=>trivial) (fun _ _ _ _=>trivial) (fun _ _ _ _=>trivial) (fun _ _ _ _=>trivial) (fun _=>trivial) (fun _=>trivial) (fun _ _=>trivial) trivial (fun _ _ _ _=>trivial) trivial (fun _ _ _ _=>trivial) h0 (fun a r _ ih=>h1 _ _ _ _ _ a r ih) trivial (fun _ _ _ _=>trivial) r
theorem RepF.ind{P:List (Str×V)->List (Str×Dv)->Prop}(h0:P [] [])(h1:∀(k:Str) (x:V) (d:Dv) (xs:List (Str×V)) (ds:List (Str×Dv)),Rep K M H x d->RepF K M H xs ds->P xs ds->P ((k,x)::xs) ((k,d)::ds)){xs:List (Str×V)}{ds:List (Str×Dv)}(r:RepF K M H xs ds):P xs ds:=
 RepF.rec (motive_1:=fun _ _ _=>True) (motive_2:=fun _ _ _=>True) (motive_3:=fun _ _ _=>True) (motive_4:=fun _ _ _=>True) (motive_5:=fun xs ds _=>P xs ds) trivial (fun _=>trivial) (fun _=>trivial) (fun _=>trivial) (fun _ _ _=>trivial) (fun _ _ _ _=>trivial) (fun _ _ _ _=>trivial) (fun _ _ _ _=>trivial) (fun _ _ _ _=>trivial) (fun _=>trivial) (fun _=>trivial) (fun _ _=>trivial) trivial (fun _ _ _ _=>trivial) trivial (fun _ _ _ _=>trivial) trivial (fun _ _ _ _=>trivial) h0 (fun a r _ ih=>h1 _ _ _ _ _ a r ih) r
theorem _root_.L2.TileAt.gen{k:Tk}{b:Addr}(t:TileAt H k b)(ht:∀a xs,H a=some (.tup xs)->H' a=some (.tup xs)):TileAt H' k b:=let ⟨c,e1,e2⟩:=t;⟨c,ht _ _ e1,ht _ _ e2⟩
theorem Rep.gen(G:Gen K M M' H H'){x:V}{d:Dv}(r:Rep K M H x d):Rep K M' H' x d:=
 Rep.rec (motive_1:=fun x d _=>Rep K M' H' x d) (motive_2:=fun xs ds _=>Reps K M' H' xs ds) (motive_3:=fun xs ds _=>RepK K M' H' xs ds) (motive_4:=fun xs ds _=>RepT K M' H' xs ds) (motive_5:=fun xs ds _=>RepF K M' H' xs ds)
  .non .bl .int .str (fun h _ r=>.tup (G.t _ _ h) r) (fun h m _ r=>.lst (G.l _ _ h trivial m).1 (G.l _ _ h trivial m).2 r) (fun h m _ r=>.dik (G.l _ _ h trivial m).1 (G.l _ _ h trivial m).2 r) (fun h m _ r=>.dit (G.l _ _ h trivial m).1 (G.l _ _ h trivial m).2 r)
  (fun h m _ r=>.obj (G.l _ _ h trivial m).1 (G.l _ _ h trivial m).2 r) (fun h=>.scr (G.s _ _ h)) (fun zq4=>by obtain⟨o,u,h,z,y,m⟩:=zq4;exact .exc ⟨o,u,G.x _ _ _ h,z,y.gen G.x,m⟩) (fun⟨ep,xs,h,e,t⟩ m=>.dns ⟨ep,xs,(G.l _ _ h trivial m).1,e,fun x hx=>(t x hx).gen G.t⟩ (G.l _ _ h trivial m).2) .nil (fun _ _ a r=>.cons a r) .nil (fun _ _ a r=>.cons a r) .nil (fun _ _ a r=>.cons a r) .nil (fun _ _ a r=>.cons a r) r
theorem Reps.gen(G:Gen K M M' H H'){xs:List V}{ds:List Dv}(r:Reps K M H xs ds):Reps K M' H' xs ds:=r.ind .nil fun _ _ _ _ a _ ih=>.cons (a.gen G) ih
theorem RepK.gen(G:Gen K M M' H H'){xs:List (cW×V)}{ds:List (cW×Dv)}(r:RepK K M H xs ds):RepK K M' H' xs ds:=r.ind .nil fun _ _ _ _ _ a _ ih=>.cons (a.gen G) ih
theorem RepT.gen(G:Gen K M M' H H'){xs:List (List cW×V)}{ds:List (List cW×Dv)}(r:RepT K M H xs ds):RepT K M' H' xs ds:=r.ind .nil fun _ _ _ _ _ a _ ih=>.cons (a.gen G) ih
theorem RepF.gen(G:Gen K M M' H H'){xs:List (Str×V)}{ds:List (Str×Dv)}(r:RepF K M H xs ds):RepF K M' H' xs ds:=r.ind .nil fun _ _ _ _ _ a _ ih=>.cons (a.gen G) ih
theorem aK.scr(S:aK H H'){a:Addr}{ns:List Int}(h:IR K H a ns):IR K H' a ns:=by
 rcases h with⟨o,h⟩ | h
 ·exact .inl ⟨o,S _ _ h⟩
 ·exact .inr h
theorem Gen.mono(S:aK H H'):Gen K M M H H':=⟨fun a o h _ m=>⟨S _ _ h,m⟩,fun _ _ h=>S _ _ h,fun _ _ h=>aK.scr S h,fun _ _ _ h=>S _ _ h⟩
theorem Gen.weak(h:∀a,M' a->M a):Gen K M M' H H:=⟨fun a o e _ m=>⟨e,fun z=>m (h a z)⟩,fun _ _ h=>h,fun _ _ h=>h,fun _ _ _ h=>h⟩
theorem Gen.fresh{p:Addr}(hp:H p=none):Gen K M (fun b=>M b \/ b=p) H H:=
 ⟨fun a o e _ m=>⟨e,fun z=>z.elim m fun z=>by rw[z,hp] at e;cases e⟩,fun _ _ h=>h,fun _ _ h=>h,fun _ _ _ h=>h⟩
theorem Gen.trans(a:Gen K M M' H H')(b:Gen K M' M'' H' H''):Gen K M M'' H H'':=
 ⟨fun c o e mu m=>b.l c o (a.l c o e mu m).1 mu (a.l c o e mu m).2,fun c xs h=>b.t c xs (a.t c xs h),fun c ns h=>b.s c ns (a.s c ns h),fun c o u h=>b.x c o u (a.x c o u h)⟩
theorem Ap{p a:Addr}{u:HO}(mu:Dk (H p))(e:H a=some u)(n:¬Dk (some u)):a≠p:=fun z=>by
 subst z
 rw[e] at mu
 exact n mu
theorem Gen.write{p:Addr}{o:HO}(hM:M p)(mu:Dk (H p)):Gen K M M H (upd H p o):=by
 refine⟨fun a u e _ m=>⟨?_,m⟩,fun a xs h=>?_,fun a ns h=>?_,fun a o u h=>by rw[aO (Ap mu h fun z=>z)];exact h⟩
 ·rw[aO fun z=>m (by rw[z];exact hM)]
  exact e
 ·rw[aO (Ap mu h fun z=>z)]
  exact h
 ·rcases h with⟨u,h⟩ | h
  ·exact .inl ⟨u,by rw[aO (Ap mu h fun z=>z)];exact h⟩
  ·exact .inr h
end
section
variable {K:W.Frag} {M M':Addr->Prop} {H H':Hp}
theorem Rep.mono{x:V}{d:Dv}(S:aK H H')(h:Rep K M H x d):Rep K M H' x d:=h.gen (.mono S)
theorem Rep.weak{x:V}{d:Dv}(w:∀a,M' a->M a)(h:Rep K M H x d):Rep K M' H x d:=h.gen (.weak w)
theorem Reps.mono{xs:List V}{ds:List Dv}(S:aK H H')(h:Reps K M H xs ds):Reps K M H' xs ds:=h.gen (.mono S)
theorem Reps.weak{xs:List V}{ds:List Dv}(w:∀a,M' a->M a)(h:Reps K M H xs ds):Reps K M' H xs ds:=h.gen (.weak w)
theorem dU{d:Dv}{ds:List Dv}(f:flatDs (d::ds)=true):iT d=true/\flatDs ds=true:=by
 have f':(iT d&&flatDs ds)=true:=f
 rwa[Bool.and_eq_true] at f'
theorem Rep.flat{x:V}{d:Dv}(f:iT d=true)(r:Rep K M H x d):Rep K M' H x d:=
 Rep.rec (motive_1:=fun x d _=>iT d=true->Rep K M' H x d) (motive_2:=fun xs ds _=>flatDs ds=true->Reps K M' H xs ds) (motive_3:=fun _ _ _=>True) (motive_4:=fun _ _ _=>True) (motive_5:=fun _ _ _=>True)
  (fun _=>.non) (fun b _=>.bl b) (fun i _=>.int i) (fun x _=>.str x) (fun h _ ih f=>.tup h (ih (by rw[iT] at f;exact f))) (fun _ _ _ _ f=>by simp[iT] at f) (fun _ _ _ _ f=>by simp[iT] at f) (fun _ _ _ _ f=>by simp[iT] at f)
  (fun _ _ _ _ f=>by simp[iT] at f) (fun h _=>.scr h) (fun h _=>.exc h) (fun _ _ f=>by simp[iT] at f) (fun _=>.nil) (fun _ _ a r f=>.cons (a (dU f).1) (r (dU f).2)) trivial (fun _ _ _ _=>trivial) trivial (fun _ _ _ _=>trivial) trivial (fun _ _ _ _=>trivial) r f
theorem Reps.flat{xs:List V}{ds:List Dv}(f:flatDs ds=true)(r:Reps K M H xs ds):Reps K M' H xs ds:=
 r.ind (P:=fun xs ds=>flatDs ds=true->Reps K M' H xs ds) (fun _=>.nil) (fun _ _ _ _ a _ ih f=>.cons (a.flat (dU f).1) (ih (dU f).2)) f
theorem RepF.flat{xs:List (Str×V)}{ds:List (Str×Dv)}(f:flatDs (ds.map (·.2))=true)(r:RepF K M H xs ds):RepF K M' H xs ds:=
 r.ind (P:=fun xs ds=>flatDs (ds.map (·.2))=true->RepF K M' H xs ds) (fun _=>.nil) (fun _ _ _ _ _ a _ ih f=>.cons (a.flat (dU f).1) (ih (dU f).2)) f
theorem RepK.flat{xs:List (cW×V)}{ds:List (cW×Dv)}(f:flatDs (ds.map (·.2))=true)(r:RepK K M H xs ds):RepK K M' H xs ds:=
 r.ind (P:=fun xs ds=>flatDs (ds.map (·.2))=true->RepK K M' H xs ds) (fun _=>.nil) (fun _ _ _ _ _ a _ ih f=>.cons (a.flat (dU f).1) (ih (dU f).2)) f
theorem RepT.flat{xs:List (List cW×V)}{ds:List (List cW×Dv)}(f:flatDs (ds.map (·.2))=true)(r:RepT K M H xs ds):RepT K M' H xs ds:=
 r.ind (P:=fun xs ds=>flatDs (ds.map (·.2))=true->RepT K M' H xs ds) (fun _=>.nil) (fun _ _ _ _ _ a _ ih f=>.cons (a.flat (dU f).1) (ih (dU f).2)) f
theorem Reps.length{xs:List V}{ds:List Dv}(r:Reps K M H xs ds):xs.length=ds.length:=r.ind (P:=fun xs ds=>xs.length=ds.length) rfl fun _ _ _ _ _ _ ih=>congrArg (· + 1) ih
theorem Reps.append{xs ys:List V}{ds es:List Dv}(r:Reps K M H xs ds)(s:Reps K M H ys es):Reps K M H (xs++ys) (ds++es):=r.ind (P:=fun xs ds=>Reps K M H (xs++ys) (ds++es)) s fun _ _ _ _ a _ ih=>.cons a ih
theorem Reps.get{xs:List V}{ds:List Dv}{i:Nat}{d:Dv}(r:Reps K M H xs ds)(e:ds[i]?=some d):∃x,xs[i]?=some x/\Rep K M H x d:=
 r.ind (P:=fun xs ds=>∀i,ds[i]?=some d -> ∃x,xs[i]?=some x/\Rep K M H x d) (fun i e=>by rw[List.getElem?_nil] at e;cases e) (fun x y xs ys a _ ih i e=>by
  cases i with
  |zero=>rw[List.getElem?_cons_zero] at e;cases e;exact⟨x,rfl,a⟩
  |succ i=>exact ih i e) i e
theorem Reps.take{xs:List V}{ds:List Dv}(n:Nat)(r:Reps K M H xs ds):Reps K M H (xs.take n) (ds.take n):=
 r.ind (P:=fun xs ds=>∀n,Reps K M H (xs.take n) (ds.take n)) (fun n=>by cases n<;>exact .nil) (fun _ _ _ _ a r ih n=>by cases n with
  |zero=>exact .nil
  |succ n=>exact .cons a (ih n)) n
theorem Reps.drop{xs:List V}{ds:List Dv}(n:Nat)(r:Reps K M H xs ds):Reps K M H (xs.drop n) (ds.drop n):=
 r.ind (P:=fun xs ds=>∀n,Reps K M H (xs.drop n) (ds.drop n)) (fun n=>by cases n<;>exact .nil) (fun _ _ _ _ a r ih n=>by cases n with
  |zero=>exact .cons a r
  |succ n=>exact ih n) n
theorem Reps.reverse{xs:List V}{ds:List Dv}(r:Reps K M H xs ds):Reps K M H xs.reverse ds.reverse:=
 r.ind (P:=fun xs ds=>Reps K M H xs.reverse ds.reverse) .nil fun _ _ _ _ a _ ih=>by
  rw[List.reverse_cons,List.reverse_cons]
  exact ih.append (.cons a .nil)
theorem Reps.repl{xs:List V}{ds:List Dv}(h:Reps K M H xs ds):∀n:Nat,Reps K M H (List.replicate n xs).flatten (List.replicate n ds).flatten
 |0=>.nil
 |n+1=>by
  rw[replicate_succ,replicate_succ,flatten_cons,flatten_cons]
  exact h.append (Reps.repl h n)
theorem Reps.ints:∀ns:List Int,Reps K M H (ns.map V.int) (ns.map Dv.int)
 | []=>.nil
 |n::r=>.cons (.int n) (Reps.ints r)
end
noncomputable def dS(K:W.Frag)(M:Addr->Prop)(H:Hp)(a:Addr):Dv->Prop
 | .lst ds=>∃xs,H a=some (.lst xs)/\Reps K M H xs ds
 | .dik ds=>∃kvs,H a=some (.dK kvs)/\RepK K M H kvs ds
 | .dit ds=>∃ep kvs,H a=some (.dT ep kvs)/\RepT K M H kvs ds
 | .obj C ds=>∃dx fs,H a=some (.ins C dx fs)/\RepF K M H fs ds
 | .dns ks=>O5 H a ks
 |_=>False
noncomputable def GB:Dv->Bool
 | .lst ds=>flatDs ds
 | .dik ds=>flatDs (ds.map (·.2))
 | .dit ds=>flatDs (ds.map (·.2))
 | .obj _ ds=>flatDs (ds.map (·.2))
 | .dns _=>true
 |_=>false
section
variable {K:W.Frag} {M M':Addr->Prop} {H H':Hp} {a:Addr}
theorem dS.gen{d:Dv}(G:Gen K M M' H H')(ha:∀o,H a=some o->H' a=some o)(h:dS K M H a d):dS K M' H' a d:=by
 cases d with
 |lst ds=>obtain⟨xs,e,r⟩:=h;exact⟨xs,ha _ e,r.gen G⟩
 |dik ds=>obtain⟨xs,e,r⟩:=h;exact⟨xs,ha _ e,r.gen G⟩
 |dit ds=>obtain⟨ep,xs,e,r⟩:=h;exact⟨ep,xs,ha _ e,r.gen G⟩
 |obj C ds=>obtain⟨dx,fs,e,r⟩:=h;exact⟨dx,fs,ha _ e,r.gen G⟩
 |dns ks=>obtain⟨ep,xs,e,k,t⟩:=h;exact⟨ep,xs,ha _ e,k,fun x hx=>(t x hx).gen G.t⟩
 |_=>exact h.elim
theorem dS.mono{d:Dv}(S:aK H H')(h:dS K M H a d):dS K M H' a d:=h.gen (.mono S) fun o e=>S _ _ e
theorem dS.weak{d:Dv}(w:∀a,M' a->M a)(h:dS K M H a d):dS K M' H a d:=h.gen (.weak w) fun _ e=>e
theorem dS.flat{d:Dv}(f:GB d=true)(h:dS K M H a d):dS K M' H a d:=by
 cases d with
 |lst ds=>obtain⟨xs,e,r⟩:=h;exact⟨xs,e,r.flat f⟩
 |dik ds=>obtain⟨xs,e,r⟩:=h;exact⟨xs,e,r.flat f⟩
 |dit ds=>obtain⟨ep,xs,e,r⟩:=h;exact⟨ep,xs,e,r.flat f⟩
 |obj C ds=>obtain⟨dx,fs,e,r⟩:=h;exact⟨dx,fs,e,r.flat f⟩
 |dns ks=>exact h
 |_=>exact h.elim
theorem dS.mut{d:Dv}(h:dS K M H a d):∃o,H a=some o/\Dk (some o):=by
 cases d with
 |lst ds=>obtain⟨xs,e,r⟩:=h;exact⟨_,e,trivial⟩
 |dik ds=>obtain⟨xs,e,r⟩:=h;exact⟨_,e,trivial⟩
 |dit ds=>obtain⟨ep,xs,e,r⟩:=h;exact⟨_,e,trivial⟩
 |obj C ds=>obtain⟨dx,fs,e,r⟩:=h;exact⟨_,e,trivial⟩
 |dns ks=>obtain⟨ep,xs,e,_⟩:=h;exact⟨_,e,trivial⟩
 |_=>exact h.elim
theorem dS.rep{d:Dv}(h:dS K M H a d)(m:¬M a):Rep K M H (.ref a) d:=by
 cases d with
 |lst ds=>obtain⟨xs,e,r⟩:=h;exact .lst e m r
 |dik ds=>obtain⟨xs,e,r⟩:=h;exact .dik e m r
 |dit ds=>obtain⟨ep,xs,e,r⟩:=h;exact .dit e m r
 |obj C ds=>obtain⟨dx,fs,e,r⟩:=h;exact .obj e m r
 |dns ks=>exact .dns h m
 |_=>exact h.elim
end
inductive Sl where
 |un
 |v (d:Dv)
 |own (a:Addr) (d:Dv)
noncomputable def MM(F:Addr->Prop)(ρ:List Sl):Addr->Prop:=fun a=>F a \/ ∃d,Sl.own a d∈ρ
noncomputable def tY(K:W.Frag)(M:Addr->Prop)(H:Hp)(o:Option (Option V)):Sl->Prop
 | .un=>True
 | .v d=>∃x,o=some (some x)/\Rep K M H x d
 | .own a d=>o=some (some (.ref a))/\dS K M H a d
noncomputable abbrev M9:Bool:=true
noncomputable def uY(K:W.Frag)(f P:Addr):Prop:=∃(o:Value) (od:Option Addr) (fd:FuncData) (sl:Array (Option Value)) (c:Addr) (oc:Value) (odc:Option Addr) (vs:Array Value) (slc:Array (Option Value)),
 K.lookup f=some ⟨o,od,.func fd,sl⟩/\fd.code=.ref c/\K.lookup c=some ⟨oc,odc,.fields vs,slc⟩/\vs[11]?=some (.ref P)
theorem uY.one{K:W.Frag}{f P P':Addr}(a:uY K f P)(b:uY K f P'):P'=P:=by
 obtain⟨o,od,fd,sl,c,oc,odc,vs,slc,a3,a4,a5,a6⟩:=a
 obtain⟨o',od',fd',sl',c',oc',odc',vs',slc',b3,b4,b5,b6⟩:=b
 rw[a3] at b3;cases b3
 rw[a4] at b4;cases b4
 rw[a5] at b5;cases b5
 rw[a6] at b6;cases b6
 rfl
noncomputable def L9(K:W.Frag)(P:Addr):Prop:=∃C f:Addr,W.nsIn K mainGlobals "Sides" = some (some (.ref C))/\W.findIn K (.ref C) "last" = some (some (.ref f))/\uY K f P
noncomputable def JL(K:W.Frag)(x:Str)(P:Addr):Prop:=∃f:Addr,W.nsIn K mainGlobals x=some (some (.ref f))/\uY K f P
theorem L9.one{K:W.Frag}{P P':Addr}(a:L9 K P)(b:L9 K P'):P'=P:=by
 obtain⟨C,f,a1,a2,a⟩:=a
 obtain⟨C',f',b1,b2,b⟩:=b
 rw[a1] at b1;cases b1
 rw[a2] at b2;cases b2
 exact a.one b
theorem JL.one{K:W.Frag}{x:Str}{P P':Addr}(a:JL K x P)(b:JL K x P'):P'=P:=by
 obtain⟨f,a1,a⟩:=a
 obtain⟨f',b1,b⟩:=b
 rw[a1] at b1;cases b1
 exact a.one b
noncomputable abbrev oB(x:Str):Str:=x ++ ".<locals>." ++ "<lambda>"
noncomputable def kA(K:W.Frag)(P:Addr)(q:Str):Prop:=M9=true/\((L9 K P/\q=oB "Sides.last") \/ (JL K "_law_hands" P/\q=oB "_law_hands") \/ (JL K "_law_round" P/\q=oB "_law_round"))
noncomputable def A9(K:W.Frag)(H:Hp):Prop:=∀P q,kA K P q->H P=some (.lam q)
structure OldF(K:W.Frag)(F:Addr->Prop)(HZ:Hp):Prop where
 f:∀a,F a->HZ a≠none
 t:A9 K HZ
theorem A9.mono{K:W.Frag}{H H':Hp}(t:A9 K H)(S:aK H H'):A9 K H':=fun P q z=>S _ _ (t P q z)
structure Fr(K:W.Frag)(HZ:Hp)(F:Addr->Prop)(σ:St)(H:Hp)(ρ:List Sl):Prop where
 len:σ.length=ρ.length
 sl:∀(i:Nat) (s:Sl),ρ[i]?=some s->tY K (MM F ρ) H σ[i]? s
 nd:∀(i j:Nat) (a:Addr) (d d':Dv),ρ[i]?=some (.own a d)->ρ[j]?=some (.own a d')->i=j
 new:∀(a:Addr) (d:Dv),Sl.own a d∈ρ->HZ a=none
 same:aK HZ H
 old:OldF K F HZ
section
variable {K:W.Frag} {M M':Addr->Prop} {HZ H H':Hp} {F:Addr->Prop} {σ:St} {ρ:List Sl}
theorem tY.mono{o:Option (Option V)}{s:Sl}(S:aK H H')(h:tY K M H o s):tY K M H' o s:=by
 cases s with
 |un=>trivial
 |v d=>obtain⟨x,e,r⟩:=h;exact⟨x,e,r.mono S⟩
 |own a d=>exact⟨h.1,h.2.mono S⟩
theorem tY.weak{o:Option (Option V)}{s:Sl}(w:∀a,M' a->M a)(h:tY K M H o s):tY K M' H o s:=by
 cases s with
 |un=>trivial
 |v d=>obtain⟨x,e,r⟩:=h;exact⟨x,e,r.weak w⟩
 |own a d=>exact⟨h.1,h.2.weak w⟩
theorem Fr.tab(fr:Fr K HZ F σ H ρ):A9 K H:=fr.old.t.mono fr.same
theorem Fr.mono(fr:Fr K HZ F σ H ρ)(S:aK H H'):Fr K HZ F σ H' ρ:=⟨fr.len,fun i s e=>(fr.sl i s e).mono S,fr.nd,fr.new,fr.same.trans S,fr.old⟩
theorem Fr.at_own(fr:Fr K HZ F σ H ρ){a:Addr}{d:Dv}(h:Sl.own a d∈ρ):∃i:Nat,ρ[i]?=some (.own a d)/\σ[i]?=some (some (.ref a))/\dS K (MM F ρ) H a d:=by
 obtain⟨i,e⟩:=mem_iff_getElem?.mp h
 have:=fr.sl i _ e
 exact⟨i,e,this.1,this.2⟩
theorem Fr.dom(fr:Fr K HZ F σ H ρ){a:Addr}(m:MM F ρ a):H a≠none:=by
 rcases m with m | ⟨d,m⟩
 ·intro e
  exact fr.old.f a m (fr.same.free e)
 ·obtain⟨_,_,_,o⟩:=fr.at_own m
  obtain⟨u,e,_⟩:=o.mut
  rw[e]
  simp
theorem Fr.fresh(fr:Fr K HZ F σ H ρ){a:Addr}(e:H a=none):¬MM F ρ a:=fun m=>fr.dom m e
end
inductive R where
 |v (d:Dv)
 |ow (a:Addr) (d:Dv)
 |nw (d:Dv)
noncomputable def R.d:R->Dv
 | .v d=>d
 | .ow _ d=>d
 | .nw d=>d
noncomputable def R.free:R->Bool
 | .ow _ _=>false
 |_=>true
noncomputable def tZ(ρ:List Sl):Addr->Dv->Prop:=fun a d=>Sl.own a d∈ρ
noncomputable def AA:Addr->Dv->Prop:=fun _ _=>False
noncomputable def d9(K:W.Frag)(M:Addr->Prop)(O:Addr->Dv->Prop)(H:Hp)(x:V)(r:R)(H':Hp):Prop:=match r with
 | .v d=>Rep K M H' x d
 | .ow a d=>x=.ref a/\O a d/\dS K M H' a d
 | .nw d=>∃a,x=.ref a/\H a=none/\dS K (fun b=>M b \/ b=a) H' a d
noncomputable def cY(K:W.Frag)(M:Addr->Prop)(H:Hp)(x:V)(d:Dv):Prop:=Rep K M H x d \/ ∃a,x=.ref a/\dS K M H a d
section
variable {K:W.Frag} {M M':Addr->Prop} {O:Addr->Dv->Prop} {H H' H'':Hp} {x:V} {r:R}
theorem d9.mono(h:d9 K M O H x r H')(S:aK H' H''):d9 K M O H x r H'':=by
 cases r with
 |v d=>exact Rep.mono S h
 |ow a d=>exact⟨h.1,h.2.1,h.2.2.mono S⟩
 |nw d=>obtain⟨a,e,n,o⟩:=h;exact⟨a,e,n,o.mono S⟩
theorem d9.ahead{H1:Hp}(h:d9 K M O H1 x r H')(S:aK H H1):d9 K M O H x r H':=by
 cases r with
 |v d=>exact h
 |ow a d=>exact h
 |nw d=>obtain⟨a,e,n,o⟩:=h;exact⟨a,e,S.free n,o⟩
theorem d9.c(h:d9 K M O H x r H'):cY K M H' x r.d:=by
 cases r with
 |v d=>exact .inl h
 |ow a d=>exact .inr ⟨a,h.1,h.2.2⟩
 |nw d=>obtain⟨a,e,n,o⟩:=h;exact .inr ⟨a,e,o.weak fun b z=>.inl z⟩
theorem d9.rep(h:d9 K M O H x r H')(hM:∀a,M a->H a≠none)(f:r.free=true):Rep K M H' x r.d:=by
 cases r with
 |v d=>exact h
 |ow a d=>simp[R.free] at f
 |nw d=>
  obtain⟨a,e,n,o⟩:=h
  subst e
  exact(o.weak fun b z=>.inl z).rep fun z=>hM a z n
theorem cY.lst{ds:List Dv}(h:cY K M H x (.lst ds)):∃a xs,x=.ref a/\H a=some (.lst xs)/\Reps K M H xs ds:=by
 rcases h with h | ⟨a,e,xs,h1,h2⟩
 ·cases h with
  |lst h1 _ h2=>exact⟨_,_,rfl,h1,h2⟩
 ·exact⟨a,xs,e,h1,h2⟩
theorem cY.tup{ds:List Dv}(h:cY K M H x (.tup ds)):∃a xs,x=.ref a/\H a=some (.tup xs)/\Reps K M H xs ds:=by
 rcases h with h | ⟨a,e,o⟩
 ·cases h with
  |tup h1 h2=>exact⟨_,_,rfl,h1,h2⟩
 ·exact o.elim
theorem cY.int{i:Int}(h:cY K M H x (.int i)):x=.int i:=by
 rcases h with h | ⟨a,e,o⟩
 ·cases h;rfl
 ·exact o.elim
theorem cY.bl{b:Bool}(h:cY K M H x (.bl b)):x=.bl b:=by
 rcases h with h | ⟨a,e,o⟩
 ·cases h;rfl
 ·exact o.elim
theorem cY.non(h:cY K M H x .non):x=.non:=by
 rcases h with h | ⟨a,e,o⟩
 ·cases h;rfl
 ·exact o.elim
theorem cY.str{s:Str}(h:cY K M H x (.str s)):x=.str s:=by
 rcases h with h | ⟨a,e,o⟩
 ·cases h;rfl
 ·exact o.elim
theorem cY.scr{ns:List Int}(h:cY K M H x (.scr ns)):∃a,x=.ref a/\IR K H a ns:=by
 rcases h with h | ⟨a,e,o⟩
 ·cases h with
  |scr h=>exact⟨_,rfl,h⟩
 ·exact o.elim
theorem cY.dns{ks:List Tk}(h:cY K M H x (.dns ks)):∃a,x=.ref a/\O5 H a ks:=by
 rcases h with h | ⟨a,e,o⟩
 ·cases h with
  |dns h _=>exact⟨_,rfl,h⟩
 ·exact⟨a,e,o⟩
theorem cY.dik{ds:List (cW×Dv)}(h:cY K M H x (.dik ds)):∃a kvs,x=.ref a/\H a=some (.dK kvs)/\RepK K M H kvs ds:=by
 rcases h with h | ⟨a,e,xs,h1,h2⟩
 ·cases h with
  |dik h1 _ h2=>exact⟨_,_,rfl,h1,h2⟩
 ·exact⟨a,xs,e,h1,h2⟩
theorem cY.dit{ds:List (List cW×Dv)}(h:cY K M H x (.dit ds)):∃a ep kvs,x=.ref a/\H a=some (.dT ep kvs)/\RepT K M H kvs ds:=by
 rcases h with h | ⟨a,e,ep0,xs,h1,h2⟩
 ·cases h with
  |dit h1 _ h2=>exact⟨_,_,_,rfl,h1,h2⟩
 ·exact⟨a,ep0,xs,e,h1,h2⟩
theorem cY.obj{C:Addr}{ds:List (Str×Dv)}(h:cY K M H x (.obj C ds)):∃a dx fs,x=.ref a/\H a=some (.ins C dx fs)/\RepF K M H fs ds:=by
 rcases h with h | ⟨a,e,dx,fs,h1,h2⟩
 ·cases h with
  |obj h1 _ h2=>exact⟨_,_,_,rfl,h1,h2⟩
 ·exact⟨a,dx,fs,e,h1,h2⟩
end
noncomputable abbrev d3:=List Sl->(R->Prop)->Prop
noncomputable abbrev lI:=List Sl->(List R->Prop)->Prop
noncomputable abbrev lH:=List Sl->(Bool->Prop)->Prop
noncomputable def kB(K:W.Frag)(M:Addr->Prop)(O:Addr->Dv->Prop)(H:Hp)(xs:List V)(rs:List R)(H':Hp):Prop:=Paired (fun x r=>d9 K M O H x r H') xs rs
noncomputable def uZ(K:W.Frag)(M:Addr->Prop)(H:Hp):List V->List Dv->Prop:=Paired (cY K M H)
section
variable {K:W.Frag} {M:Addr->Prop} {O:Addr->Dv->Prop} {H H1 H' H'':Hp}
theorem kB.ahead{xs:List V}{rs:List R}(h:kB K M O H1 xs rs H')(S:aK H H1):kB K M O H xs rs H':=Paired.mapP h fun _ _ q=>q.ahead S
theorem kB.c:∀{xs:List V} {rs:List R},kB K M O H xs rs H'->uZ K M H' xs (rs.map R.d)
 |_,_,.nil=>.nil
 |_,_,.cons a t=>.cons a.c (kB.c t)
theorem kB.reps(hM:∀a,M a->H a≠none):∀{xs:List V} {rs:List R},kB K M O H xs rs H'->rs.all R.free=true->Reps K M H' xs (rs.map R.d)
 |_,_,.nil,_=>.nil
 |_,_,.cons a t,f=>by
  rw[all_cons,Bool.and_eq_true] at f
  exact .cons (a.rep hM f.1) (kB.reps hM t f.2)
end
inductive lift(K:W.Frag)(HZ:Hp)(F:Addr->Prop)(t:d3)(σ:St)(H:Hp)(Q:VK):Prop
 |mk (ρ:List Sl) (fr:Fr K HZ F σ H ρ) (h:t ρ fun r=>∀x H',aK H H'->d9 K (MM F ρ) (tZ ρ) H x r H'->Q x H')
inductive liftA(K:W.Frag)(HZ:Hp)(F:Addr->Prop)(t:lI)(σ:St)(H:Hp)(Q:List V->Hp->Prop):Prop
 |mk (ρ:List Sl) (fr:Fr K HZ F σ H ρ) (h:t ρ fun rs=>∀xs H',aK H H'->kB K (MM F ρ) (tZ ρ) H xs rs H'->Q xs H')
inductive liftT(K:W.Frag)(HZ:Hp)(F:Addr->Prop)(t:lH)(σ:St)(H:Hp)(Q:Bool->Hp->Prop):Prop
 |mk (ρ:List Sl) (fr:Fr K HZ F σ H ρ) (h:t ρ fun b=>∀H',aK H H'->Q b H')
structure QE(X:Cx)(e:Expr)(t:d3):Prop where
 mono:∀(ρ:List Sl) (Q Q':R->Prop),(∀r,Q r->Q' r)->t ρ Q->t ρ Q'
 run:∀(HZ:Hp) (F:Addr->Prop),PE X e (lift X.K HZ F t)
structure QA(X:Cx)(es:List Expr)(t:lI):Prop where
 mono:∀(ρ:List Sl) (Q Q':List R->Prop),(∀r,Q r->Q' r)->t ρ Q->t ρ Q'
 run:∀(HZ:Hp) (F:Addr->Prop),PA X es (liftA X.K HZ F t)
structure QT(X:Cx)(e:Expr)(t:lH):Prop where
 mono:∀(ρ:List Sl) (Q Q':Bool->Prop),(∀r,Q r->Q' r)->t ρ Q->t ρ Q'
 run:∀(HZ:Hp) (F:Addr->Prop),PT X e (liftT X.K HZ F t)
structure QW(X:Cx)(e:Expr)(t:lH):Prop where
 mono:∀(ρ:List Sl) (Q Q':Bool->Prop),(∀r,Q r->Q' r)->t ρ Q->t ρ Q'
 run:∀(HZ:Hp) (F:Addr->Prop),PW X e (liftT X.K HZ F t)
section
variable {X:Cx} {a b e c:Expr} {es:List Expr} {ta tb te tc:d3} {ts:lI} {pos:Pos}
theorem cS{t t':TE}(h:PE X e t)(w:∀σ H Q,t' σ H Q->t σ H Q):PE X e t':=fun pj s σ H Q I q=>h pj s σ H Q I (w σ H Q q)
theorem GY{t t':TA}(h:PA X es t)(w:∀σ H Q,t' σ H Q->t σ H Q):PA X es t':=fun pos pj s σ H Q I q=>h pos pj s σ H Q I (w σ H Q q)
theorem xJ{t t':TT}(h:PT X e t)(w:∀σ H Q,t' σ H Q->t σ H Q):PT X e t':=fun pj s σ H Q I q=>h pj s σ H Q I (w σ H Q q)
theorem GW{t t':TT}(h:PW X e t)(w:∀σ H Q,t' σ H Q->t σ H Q):PW X e t':=fun wh pj s σ H Q I q=>h wh pj s σ H Q I (w σ H Q q)
theorem QW.qt{t:lH}(h:QW X e t):QT X e t:=⟨h.mono,fun HZ F=>(h.run HZ F).pt⟩
theorem QE.step{HZ:Hp}{F:Addr->Prop}{σ:St}{H:Hp}{ρ:List Sl}{Q:R->Prop}{Q':VK}(h:QE X e te)(fr:Fr X.K HZ F σ H ρ)(q:te ρ Q)
  (k:∀r x H',Q r->aK H H'->d9 X.K (MM F ρ) (tZ ρ) H x r H'->Q' x H'):lift X.K HZ F te σ H Q':=⟨ρ,fr,h.mono _ _ _ (fun r qr x H' S rx=>k r x H' qr S rx) q⟩
theorem QA.step{HZ:Hp}{F:Addr->Prop}{σ:St}{H:Hp}{ρ:List Sl}{Q:List R->Prop}{Q':List V->Hp->Prop}(h:QA X es ts)(fr:Fr X.K HZ F σ H ρ)(q:ts ρ Q)
  (k:∀rs xs H',Q rs->aK H H'->kB X.K (MM F ρ) (tZ ρ) H xs rs H'->Q' xs H'):liftA X.K HZ F ts σ H Q':=⟨ρ,fr,h.mono _ _ _ (fun r qr x H' S rx=>k r x H' qr S rx) q⟩
theorem QT.step{t:lH}{HZ:Hp}{F:Addr->Prop}{σ:St}{H:Hp}{ρ:List Sl}{Q:Bool->Prop}{Q':Bool->Hp->Prop}(h:QT X e t)(fr:Fr X.K HZ F σ H ρ)(q:t ρ Q)
  (k:∀b H',Q b->aK H H'->Q' b H'):liftT X.K HZ F t σ H Q':=⟨ρ,fr,h.mono _ _ _ (fun r qr H' S=>k r H' qr S) q⟩
noncomputable def a9(i:Nat):d3:=fun ρ Q=>match ρ[i]? with
 |some (.v d)=>Q (.v d)
 |some (.own a d)=>Q (.ow a d)
 |_=>False
theorem a7(i:Nat){x:Str}(h:PE X (.Name x pos) (AN i)):QE X (.Name x pos) (a9 i):=by
 refine⟨fun ρ Q Q' w h=>?_,fun HZ F=>cS h fun σ H Q ⟨ρ,fr,q⟩=>?_⟩
 ·unfold a9 at *
  split at h
  ·exact w _ h
  ·exact w _ h
  ·exact h
 ·unfold a9 at q
  split at q
  ·rename_i d e
   obtain⟨x,hx,r⟩:=fr.sl i _ e
   exact⟨x,hx,q x H (aK.refl _) r⟩
  ·rename_i a d e
   obtain⟨hx,r⟩:=fr.sl i _ e
   exact⟨.ref a,hx,q _ H (aK.refl _) ⟨rfl,mem_of_getElem? e,r⟩⟩
  ·exact q.elim
noncomputable def eC(d:Dv):d3:=fun _ Q=>Q (.v d)
theorem NC{v:V}{d:Dv}(h:PE X e (tC v))(r:∀M H,Rep X.K M H v d):QE X e (eC d):=
 ⟨fun _ _ _ w q=>w _ q,fun HZ F=>cS h fun σ H Q zq5=>by obtain⟨ρ,fr,q⟩:=zq5;exact q v H (aK.refl _) (r _ _)⟩
theorem aI{i j pos}:QE X (.Constant (.int i) j pos) (eC (.int i)):=NC Jv fun _ _=>.int i
theorem mK{b j pos}:QE X (.Constant (.bool b) j pos) (eC (.bl b)):=NC Lr fun _ _=>.bl b
theorem pX{j pos}:QE X (.Constant .none j pos) (eC .non):=NC Jt fun _ _=>.non
theorem o0{x:Str}{n:Int}(hm:∃t,X.mg x=some (.int n t))(hg:autoParam (Gl X x) cB._auto_1)(hd:autoParam ((x==("__debug__" : Str))=false) nB._auto_1):QE X (.Name x pos) (eC (.int n)):=NC (Eg hm hg hd) fun _ _=>.int n
noncomputable def aG:lI:=fun _ Q=>Q []
noncomputable def aA(te:d3)(ts:lI):lI:=fun ρ Q=>te ρ fun r=>ts ρ fun rs=>Q (r::rs)
theorem aE:QA X [] aG:=⟨fun _ _ _ w q=>w _ q,fun HZ F=>GY mL fun σ H Q zq6=>by obtain⟨ρ,fr,q⟩:=zq6;exact q [] H (aK.refl _) .nil⟩
theorem a8(ha:QE X e te)(hr:QA X es ts)(hs:autoParam (starEach (e::es) X.env=(false,eval e X.env)::starEach es X.env) cB._auto_1):QA X (e::es) (aA te ts):=by
 refine⟨fun ρ Q Q' w h=>ha.mono _ _ _ (fun r q=>hr.mono _ _ _ (fun rs q=>w _ q) q) h,fun HZ F=>GY (iS (ha.run HZ F) (hr.run HZ F) hs) fun σ H Q zz=>?_⟩
 obtain⟨ρ,fr,q⟩:=zz
 refine ha.step fr q fun r x H1 q1 S1 r1=>?_
 refine hr.step (fr.mono S1) q1 fun rs xs H2 q2 S2 r2=>?_
 exact q2 _ H2 (S1.trans S2) (.cons (r1.mono S2) (r2.ahead S1))
noncomputable def xM(X:Cx)(f:Value->Value->Sem Value)(p:Dv->Dv->(R->Prop)->Prop):Prop:=
 (∀dx dy (Q Q':R->Prop),(∀r,Q r->Q' r)->p dx dy Q->p dx dy Q') /\ ∃r:R2,k9 X f r /\ ∀(M:Addr->Prop) (O:Addr->Dv->Prop) (H:Hp) (x y:V) (dx dy:Dv) (Q:VK),cY X.K M H x dx->cY X.K M H y dy ->
  p dx dy (fun rr=>∀z H',aK H H'->d9 X.K M O H z rr H'->Q z H')->r x y H Q
noncomputable def aQ(p:Dv->Dv->(R->Prop)->Prop)(ta tb:d3):d3:=fun ρ Q=>ta ρ fun x=>tb ρ fun y=>p x.d y.d Q
theorem qV{p:Dv->Dv->(R->Prop)->Prop}{r:R2}(ha:QE X a ta)(hb:QE X b tb) (hr:∀(M:Addr->Prop) (O:Addr->Dv->Prop) (H:Hp) (x y:V) (dx dy:Dv) (Q:VK),cY X.K M H x dx->cY X.K M H y dy ->
  p dx dy (fun rr=>∀z H',aK H H'->d9 X.K M O H z rr H'->Q z H')->r x y H Q) (mo:∀dx dy (Q Q':R->Prop),(∀r,Q r->Q' r)->p dx dy Q->p dx dy Q') (HZ:Hp) (F:Addr->Prop) (σ:St) (H:Hp) (Q:VK)
  (h:lift X.K HZ F (aQ p ta tb) σ H Q):LD r (lift X.K HZ F ta) (lift X.K HZ F tb) σ H Q:=by
 obtain⟨ρ,fr,q⟩:=h
 refine ha.step fr q fun rx x H1 q1 S1 r1=>?_
 refine hb.step (fr.mono S1) q1 fun ry y H2 q2 S2 r2=>?_
 refine hr (MM F ρ) (tZ ρ) H2 x y _ _ Q (r1.mono S2).c r2.c (mo _ _ _ _ (fun rr k z H' S rz=>?_) q2)
 exact k z H' ((S1.trans S2).trans S) (rz.ahead (S1.trans S2))
theorem oF{p:Dv->Dv->(R->Prop)->Prop}(ha:QE X a ta)(hb:QE X b tb)(mo:∀dx dy (Q Q':R->Prop),(∀r,Q r->Q' r)->p dx dy Q->p dx dy Q')(ρ:List Sl)(Q Q':R->Prop)(w:∀r,Q r->Q' r)(h:aQ p ta tb ρ Q):aQ p ta tb ρ Q':=
 ha.mono _ _ _ (fun rx h=>hb.mono _ _ _ (fun ry h=>mo _ _ _ _ w h) h) h
theorem aX{op:Operator}{p:Dv->Dv->(R->Prop)->Prop}(ho:xM X (binaryOp op) p)(ha:QE X a ta)(hb:QE X b tb):QE X (.BinOp a op b pos) (aQ p ta tb):=by
 obtain⟨mo,r,hR,hr⟩:=ho
 exact⟨oF ha hb mo,fun HZ F=>cS (Lp hR (ha.run HZ F) (hb.run HZ F)) (qV ha hb hr mo HZ F)⟩
theorem jB{op:CmpOp}{p:Dv->Dv->(R->Prop)->Prop}(ho:xM X (compareOp op) p)(ha:QE X a ta)(hb:QE X b tb)(hm:autoParam (behindInMarks op b=false) OC._auto_1):QE X (.Compare a [op] [b] pos) (aQ p ta tb):=by
 obtain⟨mo,r,hR,hr⟩:=ho
 exact⟨oF ha hb mo,fun HZ F=>cS (HK hR (ha.run HZ F) (hb.run HZ F) hm) (qV ha hb hr mo HZ F)⟩
noncomputable def bU(te:d3):lH:=fun ρ Q=>te ρ fun r=>match r.d with
 | .bl c=>Q c
 |_=>False
theorem sR(mo:∀(ρ:List Sl) (Q Q':R->Prop),(∀r,Q r->Q' r)->te ρ Q->te ρ Q')(ρ:List Sl)(Q Q':Bool->Prop)(w:∀r,Q r->Q' r)(h:bU te ρ Q):bU te ρ Q':=by
 refine mo _ _ _ (fun r q=>?_) h
 split at q
 ·exact w _ q
 ·exact q.elim
theorem GH{HZ:Hp}{F:Addr->Prop}{σ:St}{H:Hp}{Q:Bool->Hp->Prop}(mo:∀(ρ:List Sl) (Q Q':R->Prop),(∀r,Q r->Q' r)->te ρ Q->te ρ Q')(h:liftT X.K HZ F (bU te) σ H Q):lift X.K HZ F te σ H fun x H'=>∃k,x=.bl k/\Q k H':=by
 obtain⟨ρ,fr,q⟩:=h
 refine⟨ρ,fr,mo _ _ _ (fun r q x H' S rx=>?_) q⟩
 split at q
 ·rename_i c e
  have:=rx.c
  rw[e] at this
  exact⟨c,this.bl,q H' S⟩
 ·exact q.elim
theorem c7{op:CmpOp}{p:Dv->Dv->(R->Prop)->Prop}(ho:xM X (compareOp op) p)(ha:QE X a ta)(hb:QE X b tb)(hm:autoParam (behindInMarks op b=false) OC._auto_1):QT X (.Compare a [op] [b] pos) (bU (aQ p ta tb)):=by
 obtain⟨mo,r,hR,hr⟩:=ho
 have m1:=oF ha hb mo
 exact⟨sR m1,fun HZ F=>xJ (H9 hR (ha.run HZ F) (hb.run HZ F) hm) fun σ H Q h=>qV ha hb hr mo HZ F σ H _ (GH m1 h)⟩
noncomputable def IC(t u:lH):lH:=fun ρ Q=>t ρ fun c=>if c=true then u ρ Q else Q false
noncomputable def GJ(t u:lH):lH:=fun ρ Q=>t ρ fun c=>if c=true then Q true else u ρ Q
noncomputable def kY(t:lH):lH:=fun ρ Q=>t ρ fun c=>Q (!c)
theorem Gq{t:lH}(h:QT X a t):QW X (.BoolOp .And [a] pos) t:=⟨h.mono,fun HZ F=>Gv (h.run HZ F)⟩
theorem p5{t:lH}(h:QT X a t):QW X (.BoolOp .Or [a] pos) t:=⟨h.mono,fun HZ F=>Jc (h.run HZ F)⟩
theorem JY{t u:lH}{rest:List Expr}(h:QT X a t)(k:QW X (.BoolOp .And (b::rest) pos) u):QW X (.BoolOp .And (a::b::rest) pos) (IC t u):=by
 refine⟨fun ρ Q Q' w q=>h.mono _ _ _ (fun c q=>?_) q,fun HZ F=>GW (Jd (h.run HZ F) (k.run HZ F)) fun σ H Q ⟨ρ,fr,q⟩=>?_⟩
 ·split at q
  ·rw[if_pos ‹_›];exact k.mono _ _ _ w q
  ·rw[if_neg ‹_›];exact w _ q
 ·refine h.step fr q fun c H1 q1 S1=>?_
  cases c with
  |true=>
   simp only[if_true] at q1
   exact tL ⟨ρ,fr.mono S1,k.mono _ _ _ (fun b q H' S=>q H' (S1.trans S)) q1⟩
  |false=>
   simp only[Bool.false_eq_true,if_false] at q1
   exact tM (q1 H1 S1)
theorem pW{t u:lH}{rest:List Expr}(h:QT X a t)(k:QW X (.BoolOp .Or (b::rest) pos) u):QW X (.BoolOp .Or (a::b::rest) pos) (GJ t u):=by
 refine⟨fun ρ Q Q' w q=>h.mono _ _ _ (fun c q=>?_) q,fun HZ F=>GW (Ll (h.run HZ F) (k.run HZ F)) fun σ H Q ⟨ρ,fr,q⟩=>?_⟩
 ·split at q
  ·rw[if_pos ‹_›];exact w _ q
  ·rw[if_neg ‹_›];exact k.mono _ _ _ w q
 ·refine h.step fr q fun c H1 q1 S1=>?_
  cases c with
  |true=>
   simp only[if_true] at q1
   exact tL (q1 H1 S1)
  |false=>
   simp only[Bool.false_eq_true,if_false] at q1
   exact tM ⟨ρ,fr.mono S1,k.mono _ _ _ (fun b q H' S=>q H' (S1.trans S)) q1⟩
theorem fN{t:lH}(h:QT X a t):QT X (.UnaryOp .Not a pos) (kY t):=
 ⟨fun ρ Q Q' w q=>h.mono _ _ _ (fun c q=>w _ q) q,fun HZ F=>xJ (Je (h.run HZ F)) fun σ H Q zq0=>by obtain⟨ρ,fr,q⟩:=zq0;exact h.step fr q fun c H1 q1 S1=>q1 H1 S1⟩
noncomputable def sS(ta tb:d3):d3:=fun ρ Q=>ta ρ fun r=>match r.d with
 | .bl c=>if c=true then tb ρ Q else Q (.v (.bl false))
 |_=>False
noncomputable def IB(ta tb:d3):d3:=fun ρ Q=>ta ρ fun r=>match r.d with
 | .bl c=>if c=true then Q (.v (.bl true)) else tb ρ Q
 |_=>False
noncomputable def zQ(ta:d3):d3:=fun ρ Q=>ta ρ fun r=>match r.d with
 | .bl c=>Q (.v (.bl (!c)))
 |_=>False
theorem y7{op}(h:QE X a ta):QE X (.BoolOp op [a] pos) ta:=⟨h.mono,fun HZ F=>Jr (h.run HZ F)⟩
theorem Bg{rest:List Expr}(h:QE X a ta)(k:QE X (.BoolOp .And (b::rest) pos) tb):QE X (.BoolOp .And (a::b::rest) pos) (sS ta tb):=by
 refine⟨fun ρ Q Q' w q=>h.mono _ _ _ (fun c q=>?_) q,fun HZ F=>cS (Jx (h.run HZ F) (k.run HZ F)) fun σ H Q ⟨ρ,fr,q⟩=>?_⟩
 ·split at q
  ·split at q
   ·rw[if_pos ‹_›];exact k.mono _ _ _ w q
   ·rw[if_neg ‹_›];exact w _ q
  ·exact q
 ·refine h.step fr q fun r x H1 q1 S1 r1=>?_
  split at q1
  ·rename_i c e
   have rc:=r1.c
   rw[e] at rc
   refine⟨c,rc.bl,?_⟩
   cases c with
   |true=>
    simp only[if_true] at q1
    exact tL ⟨ρ,fr.mono S1,k.mono _ _ _ (fun b q z H' S rz=>q z H' (S1.trans S) (rz.ahead S1)) q1⟩
   |false=>
    simp only[Bool.false_eq_true,if_false] at q1
    exact tM (q1 _ H1 S1 (Rep.bl false))
  ·exact q1.elim
theorem Nf{rest:List Expr}(h:QE X a ta)(k:QE X (.BoolOp .Or (b::rest) pos) tb):QE X (.BoolOp .Or (a::b::rest) pos) (IB ta tb):=by
 refine⟨fun ρ Q Q' w q=>h.mono _ _ _ (fun c q=>?_) q,fun HZ F=>cS (Lo (h.run HZ F) (k.run HZ F)) fun σ H Q ⟨ρ,fr,q⟩=>?_⟩
 ·split at q
  ·split at q
   ·rw[if_pos ‹_›];exact w _ q
   ·rw[if_neg ‹_›];exact k.mono _ _ _ w q
  ·exact q
 ·refine h.step fr q fun r x H1 q1 S1 r1=>?_
  split at q1
  ·rename_i c e
   have rc:=r1.c
   rw[e] at rc
   refine⟨c,rc.bl,?_⟩
   cases c with
   |true=>
    simp only[if_true] at q1
    exact tL (q1 _ H1 S1 (Rep.bl true))
   |false=>
    simp only[Bool.false_eq_true,if_false] at q1
    exact tM ⟨ρ,fr.mono S1,k.mono _ _ _ (fun b q z H' S rz=>q z H' (S1.trans S) (rz.ahead S1)) q1⟩
  ·exact q1.elim
theorem Ii(h:QE X a ta):QE X (.UnaryOp .Not a pos) (zQ ta):=by
 refine⟨fun ρ Q Q' w q=>h.mono _ _ _ (fun c q=>?_) q,fun HZ F=>cS (Js (h.run HZ F)) fun σ H Q ⟨ρ,fr,q⟩=>?_⟩
 ·split at q
  ·exact w _ q
  ·exact q
 ·refine h.step fr q fun r x H1 q1 S1 r1=>?_
  split at q1
  ·rename_i c e
   have rc:=r1.c
   rw[e] at rc
   exact⟨c,rc.bl,q1 _ H1 S1 (Rep.bl _)⟩
  ·exact q1.elim
noncomputable def OE(t:lH)(ta tb:d3):d3:=fun ρ Q=>t ρ fun c=>if c=true then ta ρ Q else tb ρ Q
noncomputable def fT(ts:lI):d3:=fun ρ Q=>ts ρ fun rs=>rs.all R.free=true/\rs.length<=1000/\Q (.v (.tup (rs.map R.d)))
noncomputable def gA(ts:lI):d3:=fun ρ Q=>ts ρ fun rs=>rs.all R.free=true/\rs.length<=1000/\Q (.nw (.lst (rs.map R.d)))
theorem pV{n:Nat}(h:n<=1000):n<=sizeLine:=le_of_lt (Ce h)
theorem aK.new'{H:Hp}{l:Addr}{o:HO}(hl:H l=none):aK H (upd H l o):=fun b q e=>by rw[aO (aM e hl)];exact e
theorem eN{x1}(h:QA X es ts):QE X (.Tuple es x1 pos) (fT ts):=by
 refine⟨fun ρ Q Q' w q=>h.mono _ _ _ (fun rs q=>⟨q.1,q.2.1,w _ q.2.2⟩) q,fun HZ F=>cS (Jq (h.run HZ F)) fun σ H Q zz=>?_⟩
 obtain⟨ρ,fr,q⟩:=zz
 refine h.step fr q fun rs xs H1 ⟨q1,q2,q3⟩ S1 r1=>?_
 have hl:xs.length=rs.length:=Paired.length r1
 refine⟨pV ⋯,fun p hp=>q3 _ _ (S1.trans (aK.new' hp)) ?_⟩
 exact .tup aY ((r1.reps (fun a m=>fr.dom m) q1).mono (aK.new' hp))
theorem f9(h:QA X es ts):QE X (.List es pos) (gA ts):=by
 refine⟨fun ρ Q Q' w q=>h.mono _ _ _ (fun rs q=>⟨q.1,q.2.1,w _ q.2.2⟩) q,fun HZ F=>cS (Ju (h.run HZ F)) fun σ H Q zz=>?_⟩
 obtain⟨ρ,fr,q⟩:=zz
 refine h.step fr q fun rs xs H1 ⟨q1,q2,q3⟩ S1 r1=>?_
 have hl:xs.length=rs.length:=Paired.length r1
 refine⟨pV ⋯,fun p hp=>q3 _ _ (S1.trans (aK.new' hp)) ?_⟩
 exact⟨p,rfl,S1.free hp,xs,aY,((r1.reps (fun a m=>fr.dom m) q1).gen (.fresh hp)).mono (aK.new' hp)⟩
end
noncomputable abbrev xN:Nat:=1000000
theorem hU{n:Nat}(h:n<=xN):n<=sizeLine:=le_trans h (by rw[sizeLine_eq];decide)
section
variable {K:W.Frag} {M:Addr->Prop} {O:Addr->Dv->Prop} {H:Hp}
theorem j4{p:Addr}{xs:List V}{ds:List Dv}(hp:H p=none)(r:Reps K M H xs ds):d9 K M O H (.ref p) (.nw (.lst ds)) (upd H p (.lst xs)):=⟨p,rfl,hp,xs,aY,(r.gen (.fresh hp)).mono (aK.new' hp)⟩
theorem IU{p:Addr}{xs:List V}{ds:List Dv}(hp:H p=none)(r:Reps K M H xs ds):d9 K M O H (.ref p) (.v (.tup ds)) (upd H p (.tup xs)):=Rep.tup aY (r.mono (aK.new' hp))
end
noncomputable def cM:Dv->Dv->(R->Prop)->Prop
 | .int i,.int j,Q=>Q (.v (.int (i+j)))
 | .lst xs,.lst ys,Q=>xs.length+ys.length<=xN/\Q (.nw (.lst (xs++ys)))
 | .str x,.str y,Q=>x.length+y.length<=xN/\Q (.v (.str (x++y)))
 |_,_,_=>False
noncomputable def fF:Dv->Dv->(R->Prop)->Prop
 | .int i,.int j,Q=>Q (.v (.int (i-j)))
 |_,_,_=>False
noncomputable def oP(i j:Int):Prop:=L4 i j \/ (i.natAbs<2 ^ 4000/\j.natAbs<2 ^ 4000)
noncomputable def eI:Dv->Dv->(R->Prop)->Prop
 | .int i,.int j,Q=>oP i j/\Q (.v (.int (i*j)))
 | .lst xs,.int k,Q=>(-(2 ^ 63)<=k/\k<2 ^ 63/\xs.length*k.toNat<=xN)/\Q (.nw (.lst (List.replicate k.toNat xs).flatten))
 |_,_,_=>False
noncomputable def kU:Dv->Dv->(R->Prop)->Prop
 | .int i,.int j,Q=>(0<j/\j<2 ^ 200)/\Q (.v (.int (i / j)))
 |_,_,_=>False
noncomputable def M4:Dv->Dv->(R->Prop)->Prop
 | .int i,.int j,Q=>(j≠0/\j.natAbs<2 ^ 4000)/\Q (.v (.int (i.fdiv j)))
 |_,_,_=>False
noncomputable def g8:Dv->Dv->(R->Prop)->Prop
 | .int i,.int j,Q=>0<j/\Q (.v (.int (i % j)))
 |_,_,_=>False
noncomputable def Nj:Dv->Dv->(R->Prop)->Prop
 | .int i,.int j,Q=>IT i j/\Q (.v (.int (i ^ j.toNat)))
 |_,_,_=>False
section
variable {X:Cx}
theorem D0:∀dx dy (Q Q':R->Prop),(∀r,Q r->Q' r)->cM dx dy Q->cM dx dy Q':=by
 intro dx dy Q Q' w h
 unfold cM at h
 split at h
 ·exact w _ h
 ·exact⟨h.1,w _ h.2⟩
 ·exact⟨h.1,w _ h.2⟩
 ·exact h.elim
theorem bC:xM X (binaryOp .Add) cM:=by
 refine⟨D0,_,KI.or (KH.or Ao),fun M O H x y dx dy Q cx cy h=>?_⟩
 unfold cM at h
 split at h
 ·obtain rfl:=cx.int
  obtain rfl:=cy.int
  exact .inl ⟨_,_,rfl,rfl,h _ H (aK.refl _) (Rep.int _)⟩
 ·obtain⟨a,xs,rfl,ea,ra⟩:=cx.lst
  obtain⟨b,ys,rfl,eb,rb⟩:=cy.lst
  have l1:=ra.length
  have l2:=rb.length
  exact .inr (.inl ⟨a,b,xs,ys,rfl,rfl,ea,eb,hU ⋯,fun p hp=>h.2 _ _ (aK.new' hp) (j4 hp (ra.append rb))⟩)
 ·obtain rfl:=cx.str
  obtain rfl:=cy.str
  exact .inr (.inr ⟨_,_,rfl,rfl,hU h.1,h.2 _ H (aK.refl _) (Rep.str _)⟩)
 ·exact h.elim
theorem Ct:∀dx dy (Q Q':R->Prop),(∀r,Q r->Q' r)->fF dx dy Q->fF dx dy Q':=by
 intro dx dy Q Q' w h
 unfold fF at h
 split at h
 ·exact w _ h
 ·exact h.elim
theorem cX:xM X (binaryOp .Sub) fF:=by
 refine⟨Ct,_,K4,fun M O H x y dx dy Q cx cy h=>?_⟩
 unfold fF at h
 split at h
 ·obtain rfl:=cx.int
  obtain rfl:=cy.int
  exact⟨_,_,rfl,rfl,h _ H (aK.refl _) (Rep.int _)⟩
 ·exact h.elim
theorem oP.ok{i j:Int}(h:oP i j):IntMulOk i j:=by
 rcases h with h | ⟨h1,h2⟩
 ·exact h.ok
 ·have key:∀{z:Int},z.natAbs<2 ^ 4000->Builtin.Int.intBits z<=2 ^ 20:=fun {z} hz=>by
   have hl:z.natAbs≠0->z.natAbs.log2<4000:=fun h0=>(Nat.log2_lt h0).mpr hz
   clear hz h1 h2
   unfold Builtin.Int.intBits
   by_cases h0:z=0
   ·simp[h0]
   ·have:=hl ⋯
    simp[h0]
    ac_rfl
  exact IntMulOk.of_bits (key h1) (key h2)
theorem HR:k9 X (binaryOp .Mult) (rI oP fun i j=>.int (i*j)):=Nl fun _ _ _ _ _ _ _ hc q=>mul_int q hc.ok
theorem Cw:∀dx dy (Q Q':R->Prop),(∀r,Q r->Q' r)->eI dx dy Q->eI dx dy Q':=by
 intro dx dy Q Q' w h
 unfold eI at h
 split at h
 ·exact⟨h.1,w _ h.2⟩
 ·exact⟨h.1,w _ h.2⟩
 ·exact h.elim
theorem cF:xM X (binaryOp .Mult) eI:=by
 refine⟨Cw,_,HR.or K9,fun M O H x y dx dy Q cx cy h=>?_⟩
 unfold eI at h
 split at h
 ·obtain rfl:=cx.int
  obtain rfl:=cy.int
  exact .inl ⟨_,_,rfl,rfl,h.1,h.2 _ H (aK.refl _) (Rep.int _)⟩
 ·obtain⟨a,xs,rfl,ea,ra⟩:=cx.lst
  obtain rfl:=cy.int
  have l1:=ra.length
  exact .inr ⟨a,_,xs,rfl,rfl,ea,h.1.1,h.1.2.1,hU (by rw[l1];exact h.1.2.2),fun p hp=>h.2 _ _ (aK.new' hp) (j4 hp (ra.repl _))⟩
 ·exact h.elim
theorem Cz:∀dx dy (Q Q':R->Prop),(∀r,Q r->Q' r)->kU dx dy Q->kU dx dy Q':=by
 intro dx dy Q Q' w h
 unfold kU at h
 split at h
 ·exact⟨h.1,w _ h.2⟩
 ·exact h.elim
theorem iB:xM X (binaryOp .FloorDiv) kU:=by
 refine⟨Cz,_,F9,fun M O H x y dx dy Q cx cy h=>?_⟩
 unfold kU at h
 split at h
 ·obtain rfl:=cx.int
  obtain rfl:=cy.int
  exact⟨_,_,rfl,rfl,h.1,h.2 _ H (aK.refl _) (Rep.int _)⟩
 ·exact h.elim
theorem Cy:∀dx dy (Q Q':R->Prop),(∀r,Q r->Q' r)->g8 dx dy Q->g8 dx dy Q':=by
 intro dx dy Q Q' w h
 unfold g8 at h
 split at h
 ·exact⟨h.1,w _ h.2⟩
 ·exact h.elim
theorem d5:xM X (binaryOp .Mod) g8:=by
 refine⟨Cy,_,KB,fun M O H x y dx dy Q cx cy h=>?_⟩
 unfold g8 at h
 split at h
 ·obtain rfl:=cx.int
  obtain rfl:=cy.int
  exact⟨_,_,rfl,rfl,h.1,h.2 _ H (aK.refl _) (Rep.int _)⟩
 ·exact h.elim
noncomputable def B9(ta:d3):d3:=fun ρ Q=>ta ρ fun r=>match r.d with
 | .int i=>Q (.v (.int (-i)))
 |_=>False
theorem Bb{a:Expr}{pos:Pos}{ta:d3}(h:QE X a ta):QE X (.UnaryOp .USub a pos) (B9 ta):=by
 refine⟨fun ρ Q Q' w q=>h.mono _ _ _ (fun c q=>?_) q,fun HZ F=>cS (Ln JM (h.run HZ F)) fun σ H Q ⟨ρ,fr,q⟩=>?_⟩
 ·split at q
  ·exact w _ q
  ·exact q
 ·refine h.step fr q fun r x H1 q1 S1 r1=>?_
  split at q1
  ·rename_i i e
   have rc:=r1.c
   rw[e] at rc
   exact⟨i,rc.int,q1 _ H1 S1 (Rep.int _)⟩
  ·exact q1.elim
noncomputable def vO(f:Int->Int->Bool):Dv->Dv->(R->Prop)->Prop
 | .int i,.int j,Q=>Q (.v (.bl (f i j)))
 |_,_,_=>False
theorem rZ{f:Int->Int->Bool}:∀dx dy (Q Q':R->Prop),(∀r,Q r->Q' r)->vO f dx dy Q->vO f dx dy Q':=by
 intro dx dy Q Q' w h
 unfold vO at h
 split at h
 ·exact w _ h
 ·exact h.elim
theorem An{g:Value->Value->Sem Value}{f:Int->Int->Bool}(h:k9 X g (Ab fun i j=>.bl (f i j))):xM X g (vO f):=by
 refine⟨rZ,_,h,fun M O H x y dx dy Q cx cy h=>?_⟩
 unfold vO at h
 split at h
 ·obtain rfl:=cx.int
  obtain rfl:=cy.int
  exact⟨_,_,rfl,rfl,h _ H (aK.refl _) (Rep.bl _)⟩
 ·exact h.elim
noncomputable abbrev HQ:=vO fun i j=>decide (i<j)
noncomputable abbrev L5:=vO fun i j=>decide (i<=j)
noncomputable abbrev Gb:=vO fun i j=>decide (j<i)
theorem pB:xM X (compareOp .Lt) HQ:=An M5
theorem Am:xM X (compareOp .LtE) L5:=An F8
theorem mO:xM X (compareOp .Gt) Gb:=An M7
noncomputable def pK(p p':Dv->Dv->(R->Prop)->Prop)(ta tb tc:d3):d3:=fun ρ Q=>ta ρ fun x=>tb ρ fun y=>p x.d y.d fun z=>match z.d with
 | .bl k=>if k=true then tc ρ fun w=>p' y.d w.d Q else Q (.v (.bl false))
 |_=>False
noncomputable def isN:Dv->Bool
 | .non=>true
 |_=>false
noncomputable def vM:Dv->Dv->(R->Prop)->Prop
 |d,.non,Q=>Q (.v (.bl (isN d)))
 |_,_,_=>False
noncomputable def Ly:Dv->Dv->(R->Prop)->Prop
 |d,.non,Q=>Q (.v (.bl (!isN d)))
 |_,_,_=>False
theorem cY.non_iff{K:W.Frag}{M:Addr->Prop}{H:Hp}{x:V}{d:Dv}(h:cY K M H x d):decide (x=.non)=isN d:=by
 rcases h with h | ⟨a,rfl,o⟩
 ·cases h<;>simp[isN]
 ·cases d<;>first | exact o.elim | simp[isN]
theorem o5:xM X (compareOp .Is) vM:=by
 refine⟨fun dx dy Q Q' w h=>?_,_,KC,fun M O H x y dx dy Q cx cy h=>?_⟩
 ·unfold vM at h
  split at h
  ·exact w _ h
  ·exact h.elim
 ·unfold vM at h
  split at h
  ·refine⟨cy.non,?_⟩
   rw[cx.non_iff]
   exact h _ H (aK.refl _) (Rep.bl _)
  ·exact h.elim
end
noncomputable def gG:Dv->PyData
 | .non=>.none
 | .bl b=>.bool b
 | .int i=>.int i
 | .str x=>.str x
 | .tup xs=>.tuple (pyDs xs)
 | .lst xs=>.list (pyDs xs)
 | .scr ns=>.list (ns.map .int)
 |_=>.dict []
where pyDs:List Dv->List PyData
 | []=>[]
 |d::r=>gG d::pyDs r
noncomputable abbrev pyDs:=gG.pyDs
noncomputable def dA:Nat->Dv->Bool
 |_,.non=>true
 |_,.bl _=>true
 |_,.int _=>true
 |_,.str x=>PyData.strOk x
 |n+1,.tup xs=>okDs n xs
 |n+1,.lst xs=>okDs n xs
 |_+1,.scr _=>true
 |_,_=>false
where okDs:Nat->List Dv->Bool
 |_,[]=>true
 |n,d::r=>dA n d&&okDs n r
noncomputable abbrev okDs:=dA.okDs
noncomputable def eqD(a b:Dv):Bool:=PyData.eqv (gG a) (gG b)
theorem A2(ns:List Int):PyData.canLayAll0 (ns.map .int)=true:=by
 induction ns with
 |nil=>rfl
 |cons n r ih=>rw[map_cons,PyData.canLayAll0,ih];rfl
theorem BG(ns:List Int):PyData.depthAll (ns.map .int)=0:=by
 induction ns with
 |nil=>rfl
 |cons n r ih=>rw[map_cons,PyData.depthAll,ih];rfl
mutual
theorem o6:∀(n:Nat) (d:Dv),dA n d=true->(gG d).canLay0=true/\(gG d).depth<=n
 |_,.non,_=>⟨by simp[gG,PyData.canLay0],by simp[gG,PyData.depth]⟩
 |_,.bl _,_=>⟨by simp[gG,PyData.canLay0],by simp[gG,PyData.depth]⟩
 |_,.int _,_=>⟨by simp[gG,PyData.canLay0],by simp[gG,PyData.depth]⟩
 |_,.str x,h=>⟨by rw[gG,PyData.canLay0];cases ‹Nat›<;>simpa [dA] using h,by simp[gG,PyData.depth]⟩
 |0,.tup _,h=>by simp[dA] at h
 |0,.lst _,h=>by simp[dA] at h
 |0,.scr _,h=>by simp[dA] at h
 |n+1,.tup xs,h=>by
  have:=sB n xs (by rw[dA] at h;exact h)
  exact⟨by rw[gG,PyData.canLay0];exact this.1,by rw[gG,PyData.depth];have h2:PyData.depthAll (gG.pyDs xs)<=n:=this.2;ac_rfl⟩
 |n+1,.lst xs,h=>by
  have:=sB n xs (by rw[dA] at h;exact h)
  exact⟨by rw[gG,PyData.canLay0];exact this.1,by rw[gG,PyData.depth];have h2:PyData.depthAll (gG.pyDs xs)<=n:=this.2;ac_rfl⟩
 |n+1,.scr ns,_=>⟨by rw[gG,PyData.canLay0];exact A2 ns,by rw[gG,PyData.depth,BG];ac_rfl⟩
 |0,.dik _,h=>by simp[dA] at h
 |0,.dit _,h=>by simp[dA] at h
 |0,.obj _ _,h=>by simp[dA] at h
 |0,.exc _ _,h=>by simp[dA] at h
 |_+1,.exc _ _,h=>by simp[dA] at h
 |0,.dns _,h=>by simp[dA] at h
 |_+1,.dns _,h=>by simp[dA] at h
 |_+1,.dik _,h=>by simp[dA] at h
 |_+1,.dit _,h=>by simp[dA] at h
 |_+1,.obj _ _,h=>by simp[dA] at h
theorem sB:∀(n:Nat) (ds:List Dv),okDs n ds=true->PyData.canLayAll0 (pyDs ds)=true/\PyData.depthAll (pyDs ds)<=n
 |_,[],_=>⟨by simp[gG.pyDs,PyData.canLayAll0],by simp[gG.pyDs,PyData.depthAll]⟩
 |n,d::r,h=>by
  have h':(dA n d&&okDs n r)=true:=h
  rw[Bool.and_eq_true] at h'
  have h1:=o6 n d h'.1
  have h2:=sB n r h'.2
  refine⟨by show PyData.canLayAll0 (gG d::pyDs r)=true;rw[PyData.canLayAll0,h1.1,h2.1];rfl,?_⟩
  show PyData.depthAll (gG d::pyDs r)<=n
  rw[PyData.depthAll]
  ac_rfl
end
theorem jW{n:Nat}{d:Dv}(h:dA n d=true)(hn:n<=64):SeqAt.shaped (gG d)=true:=by
 obtain⟨h1,h2⟩:=o6 n d h
 unfold SeqAt.shaped
 rw[h1,decide_eq_true ⋯]
 rfl
section
variable {X:Cx} {M:Addr->Prop} {pj:List (Addr×Obj)} {σ:St} {H:Hp} {s:Shared}
theorem sL{h:Heap}:∀{ns:List Int} {us:List Value},bF (ns.map V.int) us -> ∃as,ReadsAll h us (ns.map PyData.int) as
 | [],_,.nil=>⟨_,.nil⟩
 |n::r,_,.cons a t=>by
  obtain⟨tk,rfl⟩:=a
  obtain⟨as,q⟩:=sL (h:=h) t
  exact⟨_,.cons (.int n tk) q⟩
theorem qR{n:Nat}{d:Dv}{ds:List Dv}(f:okDs n (d::ds)=true):dA n d=true/\okDs n ds=true:=by
 have f':(dA n d&&okDs n ds)=true:=f
 rwa[Bool.and_eq_true] at f'
theorem Rep.reads(I:Inv X pj σ H s){n:Nat}{x:V}{d:Dv}{u:Value}(q:Rep X.K M H x d)(ok:dA n d=true)(r:cJ x u):∃as,Reads s.heap u (gG d) as:=by
 refine Rep.rec (motive_1:=fun x d _=>∀n u,dA n d=true->cJ x u -> ∃as,Reads s.heap u (gG d) as) (motive_2:=fun xs ds _=>∀n us,okDs n ds=true->bF xs us -> ∃as,ReadsAll s.heap us (pyDs ds) as) (motive_3:=fun _ _ _=>True) (motive_4:=fun _ _ _=>True) (motive_5:=fun _ _ _=>True)
  (fun n u _ r=>by cases r;exact⟨_,.none⟩) (fun b n u _ r=>by cases r;exact⟨_,.bool b⟩) (fun i n u _ r=>by obtain⟨t,rfl⟩:=r;exact⟨_,.int i t⟩) (fun y n u _ r=>by obtain⟨t,rfl⟩:=r;exact⟨_,.str y t⟩) ?tup ?lst ?dik ?dit ?obj ?scr ?exc ?dns ?nil ?cons
  trivial (fun _ _ _ _=>trivial) trivial (fun _ _ _ _=>trivial) trivial (fun _ _ _ _=>trivial) q n u ok r
 case tup=>
  intro a xs ds e _ ih n u ok r
  cases n with
  |zero=>simp[dA] at ok
  |succ n=>
   cases r
   obtain⟨_,its,rv,o,ho,hc,m,hd⟩:=I.hok _ _ e
   obtain⟨as,ra⟩:=ih n its (by rw[dA] at ok;exact ok) rv
   exact⟨_,.tuple ho hc hd ra⟩
 case lst=>
  intro a xs ds e _ _ ih n u ok r
  cases n with
  |zero=>simp[dA] at ok
  |succ n=>
   cases r
   obtain⟨_,its,m,rv,ho⟩:=I.hok _ _ e
   obtain⟨as,ra⟩:=ih n its (by rw[dA] at ok;exact ok) rv
   exact⟨_,.list ho rfl rfl ra⟩
 case dik=>intro a xs ds _ _ _ _ n u ok;cases n<;>simp[dA] at ok
 case dit=>intro a ep xs ds _ _ _ _ n u ok;cases n<;>simp[dA] at ok
 case obj=>intro a C dx xs ds _ _ _ _ n u ok;cases n<;>simp[dA] at ok
 case scr=>
  intro a ns e n u _ r
  cases r
  obtain⟨its,rv,pl,_⟩:=I.list e.sq
  obtain⟨o,ho,hc,m,hd⟩:=pl.isList
  obtain⟨as,ra⟩:=sL (h:=s.heap) rv
  exact⟨_,.list ho hc hd (by simpa using ra)⟩
 case exc=>intro a C p _ n u ok;cases n<;>simp[dA] at ok
 case dns=>intro a ks _ _ n u ok;cases n<;>simp[dA] at ok
 case nil=>intro n us _ r;cases r;exact⟨_,.nil⟩
 case cons=>
  intro x d xs ds _ _ i1 i2 n us ok r
  cases r with
  |cons r1 r2=>
   obtain⟨as,ra⟩:=i1 n _ (qR ok).1 r1
   obtain⟨bs,rb⟩:=i2 n _ (qR ok).2 r2
   exact⟨_,.cons ra rb⟩
theorem Reps.reads(I:Inv X pj σ H s){n:Nat}{xs:List V}{ds:List Dv}{us:List Value}(q:Reps X.K M H xs ds)(ok:okDs n ds=true)(r:bF xs us):∃as,ReadsAll s.heap us (pyDs ds) as:=
 q.ind (P:=fun xs ds=>∀us,okDs n ds=true->bF xs us -> ∃as,ReadsAll s.heap us (pyDs ds) as) (fun us _ r=>by cases r;exact⟨_,.nil⟩) (fun x d xs ds a _ ih us ok r=>by
  cases r with
  |cons r1 r2=>
   obtain⟨as,ra⟩:=a.reads I (qR ok).1 r1
   obtain⟨bs,rb⟩:=ih _ (qR ok).2 r2
   exact⟨_,.cons ra rb⟩) us ok r
theorem cY.reads(I:Inv X pj σ H s){n:Nat}{x:V}{d:Dv}{u:Value}(c:cY X.K M H x d)(ok:dA n d=true)(r:cJ x u):∃as,Reads s.heap u (gG d) as:=by
 rcases c with c | ⟨a,rfl,o⟩
 ·exact c.reads I ok r
 ·cases d with
  |lst ds=>
   obtain⟨xs,e,q⟩:=o
   cases r
   cases n with
   |zero=>simp[dA] at ok
   |succ n=>
    obtain⟨_,its,m,rv,ho⟩:=I.hok _ _ e
    obtain⟨as,ra⟩:=Reps.reads I q (by rw[dA] at ok;exact ok) rv
    exact⟨_,.list ho rfl rfl ra⟩
  |dik _=>cases n<;>simp[dA] at ok
  |dit _=>cases n<;>simp[dA] at ok
  |obj _ _=>cases n<;>simp[dA] at ok
  |dns _=>cases n<;>simp[dA] at ok
  |_=>exact o.elim
end
noncomputable def tD:Dv->Dv->(R->Prop)->Prop
 | .int i,.int j,Q=>Q (.v (.bl (decide (i=j))))
 |dx,dy,Q=>(dA 8 dx=true/\dA 8 dy=true)/\Q (.v (.bl (eqD dx dy)))
noncomputable def Cv:Dv->Dv->(R->Prop)->Prop
 | .int i,.int j,Q=>Q (.v (.bl (!decide (i=j))))
 |dx,dy,Q=>(dA 8 dx=true/\dA 8 dy=true)/\Q (.v (.bl (!eqD dx dy)))
section
variable {X:Cx}
noncomputable def Nb(K:W.Frag):R2:=fun x y H Q=>∃M dx dy,cY K M H x dx/\cY K M H y dy/\dA 8 dx=true/\dA 8 dy=true/\Q (.bl (eqD dx dy)) H
noncomputable def NX(K:W.Frag):R2:=fun x y H Q=>∃M dx dy,cY K M H x dx/\cY K M H y dy/\dA 8 dx=true/\dA 8 dy=true/\Q (.bl (!eqD dx dy)) H
theorem KG(hu:X.A.units+64<cLine):k9 X (compareOp .Eq) (Nb X.K):=by
 intro pj s σ H x y v u Q I rx ry h
 obtain⟨M,dx,dy,r1,r2,o1,o2,q⟩:=h
 obtain⟨as,ra⟩:=r1.reads I o1 rx
 obtain⟨bs,rb⟩:=r2.reads I o2 ry
 exact SeqAt.compareEq_shaped ra rb (jW o1 ∅) (jW o2 ∅) hu ⟨.bl _,H,I,rfl,q⟩
theorem KA(hu:X.A.units+64<cLine):k9 X (compareOp .NotEq) (NX X.K):=by
 intro pj s σ H x y v u Q I rx ry h
 obtain⟨M,dx,dy,r1,r2,o1,o2,q⟩:=h
 obtain⟨as,ra⟩:=r1.reads I o1 rx
 obtain⟨bs,rb⟩:=r2.reads I o2 ry
 exact SeqAt.compareNe_shaped ra rb (jW o1 ∅) (jW o2 ∅) hu ⟨.bl _,H,I,rfl,q⟩
theorem wI(i j:Int):eqD (.int i) (.int j)=decide (i=j):=by
 show PyData.eqv (.int i) (.int j)=_
 rw[PyData.eqv]
 exact Bool.beq_eq_decide_eq i j
theorem iH(hu:X.A.units+64<cLine):xM X (compareOp .Eq) tD:=by
 refine⟨fun dx dy Q Q' w h=>?_,_,KG hu,fun M O H x y dx dy Q cx cy h=>?_⟩
 ·unfold tD at *
  split at h
  ·exact w _ h
  ·exact⟨h.1,w _ h.2⟩
 ·unfold tD at h
  split at h
  ·refine⟨M,_,_,cx,cy,by simp[dA],by simp[dA],?_⟩
   rw[wI]
   exact h _ H (aK.refl _) (Rep.bl _)
  ·exact⟨M,_,_,cx,cy,h.1.1,h.1.2,h.2 _ H (aK.refl _) (Rep.bl _)⟩
theorem vP(hu:X.A.units+64<cLine):xM X (compareOp .NotEq) Cv:=by
 refine⟨fun dx dy Q Q' w h=>?_,_,KA hu,fun M O H x y dx dy Q cx cy h=>?_⟩
 ·unfold Cv at *
  split at h
  ·exact w _ h
  ·exact⟨h.1,w _ h.2⟩
 ·unfold Cv at h
  split at h
  ·refine⟨M,_,_,cx,cy,by simp[dA],by simp[dA],?_⟩
   rw[wI]
   exact h _ H (aK.refl _) (Rep.bl _)
  ·exact⟨M,_,_,cx,cy,h.1.1,h.1.2,h.2 _ H (aK.refl _) (Rep.bl _)⟩
end
structure En where
 nx:List Sl->Prop
 rt:R->Prop
 bk:List Sl->Prop:=fun _=>False
 ct:List Sl->Prop:=fun _=>False
noncomputable abbrev cD:=En->List Sl->Prop
structure EnLe(E E':En):Prop where
 nx:∀ρ,E.nx ρ->E'.nx ρ
 rt:∀r,E.rt r->E'.rt r
 bk:∀ρ,E.bk ρ->E'.bk ρ
 ct:∀ρ,E.ct ρ->E'.ct ρ
structure Ent(K:W.Frag)(HZ:Hp)(F:Addr->Prop)(E:En)(D:Ends):Prop where
 nx:∀ρ σ H,Fr K HZ F σ H ρ->E.nx ρ->D.nx σ H
 bk:∀ρ σ H,Fr K HZ F σ H ρ->E.bk ρ->D.bk σ H
 ct:∀ρ σ H,Fr K HZ F σ H ρ->E.ct ρ->D.ct σ H
 rt:∀r x H,aK HZ H->d9 K F AA HZ x r H->E.rt r->D.rt x H
inductive liftS(K:W.Frag)(HZ:Hp)(F:Addr->Prop)(t:cD)(D:Ends)(σ:St)(H:Hp):Prop
 |mk (ρ:List Sl) (E:En) (fr:Fr K HZ F σ H ρ) (h:t E ρ) (en:Ent K HZ F E D)
structure QS(X:Cx)(st:Stmt)(t:cD):Prop where
 mono:∀E E' ρ,EnLe E E'->t E ρ->t E' ρ
 run:∀(HZ:Hp) (F:Addr->Prop),PS X st (liftS X.K HZ F t)
structure QSs(X:Cx)(sts:List Stmt)(t:cD):Prop where
 mono:∀E E' ρ,EnLe E E'->t E ρ->t E' ρ
 run:∀(HZ:Hp) (F:Addr->Prop),xL X sts (liftS X.K HZ F t)
section
variable {X:Cx} {st:Stmt} {sts:List Stmt} {t u:cD} {e c:Expr} {te:d3} {pos:Pos}
theorem f6{t t':TS}(h:PS X st t)(w:∀D σ H,t' D σ H->t D σ H):PS X st t':=fun pj s σ H D I q=>h pj s σ H D I (w D σ H q)
theorem xK{t t':TS}(h:xL X sts t)(w:∀D σ H,t' D σ H->t D σ H):xL X sts t':=fun pj s σ H D I q=>h pj s σ H D I (w D σ H q)
noncomputable def c9:cD:=fun E ρ=>E.nx ρ
noncomputable def aS(t u:cD):cD:=fun E ρ=>t { E with nx:=u E } ρ
theorem bT:QSs X [] c9:=⟨fun E E' ρ w h=>w.nx _ h,fun HZ F=>xK HC fun D σ H zq1=>by obtain⟨ρ,E,fr,h,en⟩:=zq1;exact en.nx _ _ _ fr h⟩
theorem EnLe.with_nx{E E':En}{a b:List Sl->Prop}(w:EnLe E E')(h:∀ρ,a ρ->b ρ):EnLe { E with nx:=a } { E' with nx:=b }:=⟨h,w.rt,w.bk,w.ct⟩
theorem aB(h1:QS X st t)(h2:QSs X sts u):QSs X (st::sts) (aS t u):=by
 refine⟨fun E E' ρ w h=>h1.mono _ _ _ (w.with_nx fun ρ h=>h2.mono _ _ _ w h) h,fun HZ F=>xK (EU (h1.run HZ F) (h2.run HZ F)) fun D σ H zz=>?_⟩
 obtain⟨ρ,E,fr,h,en⟩:=zz
 exact⟨ρ,_,fr,h,fun ρ' σ' H' fr' h'=>⟨ρ',E,fr',h',en⟩,en.bk,en.ct,en.rt⟩
theorem aH(h1:QS X st t):QSs X [st] t:=⟨h1.mono,fun HZ F=>HA (h1.run HZ F)⟩
noncomputable def EE:cD:=fun E ρ=>E.bk ρ
noncomputable def Ig:cD:=fun E ρ=>E.ct ρ
noncomputable def gC:cD:=fun _ _=>False
theorem gK:QS X st gC:=⟨fun _ _ _ _ h=>h,fun HZ F=>f6 EW fun D σ H zq2=>by obtain⟨ρ,E,fr,h,en⟩:=zq2;exact h⟩
noncomputable def xZ(te:d3):cD:=fun E ρ=>te ρ fun _=>E.nx ρ
theorem EN(he:QE X e te)(hs:autoParam (swapsWith e none pos.line X.env=pure false) cB._auto_1):QS X (.Expr e pos) (xZ te):=
 ⟨fun E E' ρ w h=>he.mono _ _ _ (fun _ q=>w.nx _ q) h,fun HZ F=>f6 (vG (he.run HZ F) hs) fun D σ H zq3=>by obtain⟨ρ,E,fr,h,en⟩:=zq3;exact he.step fr h fun r x H1 q S1 _=>en.nx _ _ _ (fr.mono S1) q⟩
noncomputable def R.out:R->R
 | .ow _ d=>.nw d
 |r=>r
theorem d9.out{K:W.Frag}{HZ H H':Hp}{F:Addr->Prop}{σ:St}{ρ:List Sl}{x:V}{r:R}(fr:Fr K HZ F σ H ρ)(h:d9 K (MM F ρ) (tZ ρ) H x r H'):d9 K F AA HZ x r.out H':=by
 cases r with
 |v d=>exact Rep.weak (fun a z=>.inl z) h
 |nw d=>
  obtain⟨a,e,n,o⟩:=h
  exact⟨a,e,fr.same.free n,o.weak fun b z=>z.elim (fun z=>.inl (.inl z)) .inr⟩
 |ow a d=>
  obtain⟨e,m,o⟩:=h
  refine⟨a,e,fr.new a d m,o.weak fun b z=>?_⟩
  rcases z with z | z
  ·exact .inl z
  ·rw[z];exact .inr ⟨d,m⟩
noncomputable def cA(te:d3):cD:=fun E ρ=>te ρ fun r=>E.rt r.out
noncomputable def Ie:cD:=fun E _=>E.rt (.v .non)
theorem bD(he:QE X e te):QS X (.Return (some e) pos) (cA te):=
 ⟨fun E E' ρ w h=>he.mono _ _ _ (fun _ q=>w.rt _ q) h,fun HZ F=>f6 (Jg (he.run HZ F)) fun D σ H zq4=>by obtain⟨ρ,E,fr,h,en⟩:=zq4;exact he.step fr h fun r x H1 q S1 r1=>en.rt _ _ _ (fr.same.trans S1) (d9.out fr r1) q⟩
noncomputable def jJ(c:lH)(t u:cD):cD:=fun E ρ=>c ρ fun b=>if b=true then t E ρ else u E ρ
theorem eH{a b:List Stmt}{tc:lH}(hc:QT X c tc)(ha:QSs X a t)(hb:QSs X b u):QS X (.If c a b pos) (jJ tc t u):=by
 refine⟨fun E E' ρ w h=>hc.mono _ _ _ (fun k q=>?_) h,fun HZ F=>f6 (Lm (hc.run HZ F) (ha.run HZ F) (hb.run HZ F)) fun D σ H ⟨ρ,E,fr,h,en⟩=>?_⟩
 ·split at q
  ·rw[if_pos ‹_›];exact ha.mono _ _ _ w q
  ·rw[if_neg ‹_›];exact hb.mono _ _ _ w q
 ·refine hc.step fr h fun k H1 q S1=>?_
  cases k with
  |true=>exact tL ⟨ρ,E,fr.mono S1,by simpa using q,en⟩
  |false=>exact tM ⟨ρ,E,fr.mono S1,by simpa using q,en⟩
end
section
variable {K:W.Frag} {HZ H H':Hp} {F:Addr->Prop} {σ:St} {ρ:List Sl}
theorem dJ{α:Type}{l:List α}{i j:Nat}{a b:α}(h:(l.set i a)[j]?=some b):(i=j/\i<l.length/\b=a) \/ (i≠j/\l[j]?=some b):=by
 by_cases e:i=j
 ·subst e
  by_cases hl:i<l.length
  ·rw[List.getElem?_set_self hl] at h
   exact .inl ⟨rfl,hl,(Option.some.inj h).symm⟩
  ·rw[List.getElem?_eq_none (by simp;ac_rfl)] at h
   cases h
 ·rw[List.getElem?_set_ne e] at h
  exact .inr ⟨e,h⟩
theorem MM.set{i:Nat}{s:Sl}(a:Addr)(h:MM F (ρ.set i s) a):MM F ρ a \/ ∃d,s=.own a d:=by
 rcases h with h | ⟨d,h⟩
 ·exact .inl (.inl h)
 ·rcases mem_or_eq_of_mem_set h with h | h
  ·exact .inl (.inr ⟨d,h⟩)
  ·exact .inr ⟨d,h.symm⟩
theorem Fr.setv(fr:Fr K HZ F σ H ρ){i:Nat}{x:V}{d:Dv}(r:Rep K (MM F ρ) H x d):Fr K HZ F (σ.set i (some x)) H (ρ.set i (.v d)):=by
 have wk:∀a,MM F (ρ.set i (.v d)) a->MM F ρ a:=fun a h=>by
  rcases MM.set a h with h | ⟨_,h⟩
  ·exact h
  ·cases h
 refine⟨by simp[fr.len],fun j s e=>?_,fun j k a d1 d2 e1 e2=>?_,fun a d1 h=>?_,fr.same,fr.old⟩
 ·rcases dJ e with⟨rfl,hl,rfl⟩ | ⟨ne,e⟩
  ·exact⟨x,by rw[List.getElem?_set_self (by rw[fr.len];exact hl)],r.weak wk⟩
  ·rw[List.getElem?_set_ne ne]
   exact(fr.sl j s e).weak wk
 ·rcases dJ e1 with⟨_,_,z⟩ | ⟨_,e1⟩
  ·cases z
  ·rcases dJ e2 with⟨_,_,z⟩ | ⟨_,e2⟩
   ·cases z
   ·exact fr.nd j k a d1 d2 e1 e2
 ·rcases mem_or_eq_of_mem_set h with h | h
  ·exact fr.new a d1 h
  ·cases h
theorem tY.gen{M M':Addr->Prop}{o:Option (Option V)}{s:Sl}(G:Gen K M M' H H')(hs:∀a d,s=.own a d -> ∀u,H a=some u->H' a=some u)(h:tY K M H o s):tY K M' H' o s:=by
 cases s with
 |un=>trivial
 |v d=>obtain⟨x,e,r⟩:=h;exact⟨x,e,r.gen G⟩
 |own a d=>exact⟨h.1,h.2.gen G (hs a d rfl)⟩
theorem Fr.seto(fr:Fr K HZ F σ H ρ)(S:aK H H'){i:Nat}{a:Addr}{d:Dv}(ha:H a=none)(o:dS K (fun b=>MM F ρ b \/ b=a) H' a d):Fr K HZ F (σ.set i (some (.ref a))) H' (ρ.set i (.own a d)):=by
 have wk:∀b,MM F (ρ.set i (.own a d)) b->MM F ρ b \/ b=a:=fun b h=>by
  rcases MM.set b h with h | ⟨_,h⟩
  ·exact .inl h
  ·cases h;exact .inr rfl
 have G:Gen K (MM F ρ) (MM F (ρ.set i (.own a d))) H H':=((Gen.fresh ha).trans (.mono S)).trans (.weak wk)
 have ne:∀(j:Nat) (b:Addr) (d':Dv),ρ[j]?=some (Sl.own b d')->b≠a:=fun j b d' e z=>by
  have:=(fr.sl j _ e).2.mut
  obtain⟨u,hu,_⟩:=this
  rw[z,ha] at hu
  cases hu
 refine⟨by simp[fr.len],fun j s e=>?_,fun j k b d1 d2 e1 e2=>?_,fun b d1 h=>?_,fr.same.trans S,fr.old⟩
 ·rcases dJ e with⟨rfl,hl,rfl⟩ | ⟨hne,e⟩
  ·exact⟨by rw[List.getElem?_set_self (by rw[fr.len];exact hl)],o.weak wk⟩
  ·rw[List.getElem?_set_ne hne]
   exact(fr.sl j s e).gen G fun b d' _ u hu=>S _ _ hu
 ·rcases dJ e1 with⟨h1,_,z⟩ | ⟨_,e1⟩
  ·rcases dJ e2 with⟨h2,_,z'⟩ | ⟨_,e2⟩
   ·ac_rfl
   ·cases z
    exact absurd rfl (ne k _ _ e2)
  ·rcases dJ e2 with⟨h2,_,z'⟩ | ⟨_,e2⟩
   ·cases z'
    exact absurd rfl (ne j _ _ e1)
   ·exact fr.nd j k b d1 d2 e1 e2
 ·rcases mem_or_eq_of_mem_set h with h | h
  ·exact fr.new b d1 h
  ·cases h
   exact fr.same.free ha
theorem Fr.write(fr:Fr K HZ F σ H ρ){i:Nat}{a:Addr}{d d':Dv}{o:HO}(hi:ρ[i]?=some (.own a d))(n:dS K (MM F ρ) (upd H a o) a d'):Fr K HZ F σ (upd H a o) (ρ.set i (.own a d')):=by
 have mem:Sl.own a d∈ρ:=mem_of_getElem? hi
 have wk:∀b,MM F (ρ.set i (.own a d')) b->MM F ρ b:=fun b h=>by
  rcases MM.set b h with h | ⟨_,h⟩
  ·exact h
  ·cases h;exact .inr ⟨d,mem⟩
 obtain⟨hs,ow⟩:=fr.sl i _ hi
 obtain⟨u,hu,mu⟩:=ow.mut
 have mu':Dk (H a):=by rw[hu];exact mu
 have G:Gen K (MM F ρ) (MM F (ρ.set i (.own a d'))) H (upd H a o):=(Gen.write (.inr ⟨d,mem⟩) mu').trans (.weak wk)
 refine⟨by simp[fr.len],fun j s e=>?_,fun j k b d1 d2 e1 e2=>?_,fun b d1 h=>?_,fun b q e=>?_,fr.old⟩
 ·rcases dJ e with⟨rfl,hl,rfl⟩ | ⟨hne,ej⟩
  ·exact⟨hs,n.weak wk⟩
  ·refine(fr.sl j s ej).gen G fun b d2 es u hu=>?_
   subst es
   rw[aO fun z=>hne ?_]
   ·exact hu
   ·subst z;exact fr.nd i j _ d d2 hi ej
 ·rcases dJ e1 with⟨h1,_,z⟩ | ⟨_,e1⟩
  ·cases z
   rcases dJ e2 with⟨h2,_,z'⟩ | ⟨_,e2⟩
   ·ac_rfl
   ·rw[<- h1];exact fr.nd i k _ d d2 hi e2
  ·rcases dJ e2 with⟨h2,_,z'⟩ | ⟨_,e2⟩
   ·cases z'
    rw[<- h2];exact fr.nd j i _ d1 d e1 hi
   ·exact fr.nd j k b d1 d2 e1 e2
 ·rcases mem_or_eq_of_mem_set h with h | h
  ·exact fr.new b d1 h
  ·cases h
   exact fr.new _ d mem
 ·rw[aO ?_]
  ·exact fr.same b q e
  ·intro z
   subst z
   rw[fr.new _ d mem] at e
   cases e
noncomputable def freeze(i:Nat)(ρ:List Sl):List Sl:=match ρ[i]? with
 |some (.own _ d)=>ρ.set i (.v d)
 |_=>ρ
theorem Fr.freeze(fr:Fr K HZ F σ H ρ)(i:Nat):Fr K HZ F σ H (freeze i ρ):=by
 unfold Z.freeze
 split
 ·rename_i a d hi
  have mem:Sl.own a d∈ρ:=mem_of_getElem? hi
  obtain⟨hs,ow⟩:=fr.sl i _ hi
  have nF:¬F a:=fun z=>fr.old.f a z (fr.new a d mem)
  have wk:∀b,MM F (ρ.set i (.v d)) b->MM F ρ b:=fun b h=>by
   rcases MM.set b h with h | ⟨_,h⟩
   ·exact h
   ·cases h
  have nM:¬MM F (ρ.set i (.v d)) a:=by
   rintro(h | ⟨d',h⟩)
   ·exact nF h
   ·obtain⟨j,e⟩:=mem_iff_getElem?.mp h
    rcases dJ e with⟨_,_,z⟩ | ⟨ne,e⟩
    ·cases z
    ·exact ne (fr.nd i j a d d' hi e)
  refine⟨by simp[fr.len],fun j s e=>?_,fun j k b d1 d2 e1 e2=>?_,fun b d1 h=>?_,fr.same,fr.old⟩
  ·rcases dJ e with⟨rfl,hl,rfl⟩ | ⟨hne,e⟩
   ·exact⟨_,hs,(ow.weak wk).rep nM⟩
   ·exact(fr.sl j s e).weak wk
  ·rcases dJ e1 with⟨_,_,z⟩ | ⟨_,e1⟩
   ·cases z
   ·rcases dJ e2 with⟨_,_,z⟩ | ⟨_,e2⟩
    ·cases z
    ·exact fr.nd j k b d1 d2 e1 e2
  ·rcases mem_or_eq_of_mem_set h with h | h
   ·exact fr.new b d1 h
   ·cases h
 ·exact fr
end
section
variable {X:Cx} {e:Expr} {te:d3} {pos pos':Pos} {sts:List Stmt} {t:cD}
noncomputable def bV(i:Nat)(te:d3):cD:=fun E ρ=>te ρ fun r=>match r with
 | .v d=>E.nx (ρ.set i (.v d))
 | .nw d=>E.nx (ρ.set i (.v d))
 | .ow _ _=>False
noncomputable def kR(i:Nat)(te:d3):cD:=fun E ρ=>te ρ fun r=>match r with
 | .v d=>E.nx (ρ.set i (.v d))
 | .nw d=>∀a,E.nx (ρ.set i (.own a d))
 | .ow _ _=>False
noncomputable def EC(i:Nat)(t:cD):cD:=fun E ρ=>t E (freeze i ρ)
theorem Ij(i:Nat)(h:QSs X sts t):QSs X sts (EC i t):=
 ⟨fun E E' ρ w q=>h.mono _ _ _ w q,fun HZ F=>xK (h.run HZ F) fun D σ H zq5=>by obtain⟨ρ,E,fr,q,en⟩:=zq5;exact⟨_,E,fr.freeze i,q,en⟩⟩
theorem bS{i:Nat}{x:Str}(hN:X.N.Nodup)(hi:X.N[i]?=some x)(hx:Do X.env.scope x)(he:QE X e te)(hs:autoParam (swapsWith e (some (.Name x pos')) pos.line X.env=pure false) cB._auto_1)(hf:autoParam (X.fn x=true \/ X.env.scope.names.lookup x=some .local) Dm._auto_1):
  QS X (.Assign [.Name x pos'] e pos) (bV i te):=by
 refine⟨fun E E' ρ w h=>he.mono _ _ _ (fun r q=>?_) h,fun HZ F=>f6 (EV hN hi hx (he.run HZ F) hs hf) fun D σ H ⟨ρ,E,fr,h,en⟩=>?_⟩
 ·cases r with
  |v d=>exact w.nx _ q
  |nw d=>exact w.nx _ q
  |ow a d=>exact q
 ·refine he.step fr h fun r x H1 q S1 r1=>?_
  cases r with
  |v d=>exact en.nx _ _ _ ((fr.mono S1).setv r1) q
  |nw d=>exact en.nx _ _ _ ((fr.mono S1).setv (r1.rep (fun a m=>fr.dom m) rfl)) q
  |ow a d=>exact q.elim
theorem kT{i:Nat}{x:Str}(hN:X.N.Nodup)(hi:X.N[i]?=some x)(hx:Do X.env.scope x)(he:QE X e te)(hs:autoParam (swapsWith e (some (.Name x pos')) pos.line X.env=pure false) cB._auto_1)(hf:autoParam (X.fn x=true \/ X.env.scope.names.lookup x=some .local) Dm._auto_1):
  QS X (.Assign [.Name x pos'] e pos) (kR i te):=by
 refine⟨fun E E' ρ w h=>he.mono _ _ _ (fun r q=>?_) h,fun HZ F=>f6 (EV hN hi hx (he.run HZ F) hs hf) fun D σ H ⟨ρ,E,fr,h,en⟩=>?_⟩
 ·cases r with
  |v d=>exact w.nx _ q
  |nw d=>exact fun a=>w.nx _ (q a)
  |ow a d=>exact q
 ·refine he.step fr h fun r x H1 q S1 r1=>?_
  cases r with
  |v d=>exact en.nx _ _ _ ((fr.mono S1).setv r1) q
  |nw d=>
   obtain⟨a,rfl,ha,o⟩:=r1
   exact en.nx _ _ _ (fr.seto S1 ha o) (q a)
  |ow a d=>exact q.elim
noncomputable def AT(i:Nat)(p:Dv->Dv->(R->Prop)->Prop)(te:d3):cD:=fun E ρ=>match ρ[i]? with
 |some (.v d)=>te ρ fun r=>p d r.d fun z=>match z with
  | .v d'=>E.nx (ρ.set i (.v d'))
  |_=>False
 |_=>False
noncomputable def OJ(X:Cx)(op:Operator)(p:Dv->Dv->(R->Prop)->Prop):Prop:=xM X (inplaceOp op) p
theorem Ik{i:Nat}{x:Str}{op:Operator}{p:Dv->Dv->(R->Prop)->Prop}(ho:OJ X op p)(hN:X.N.Nodup)(hi:X.N[i]?=some x)(hx:Do X.env.scope x)(he:QE X e te)(hf:autoParam (X.fn x=true \/ X.env.scope.names.lookup x=some .local) Dm._auto_1):
  QS X (.AugAssign (.Name x pos') op e pos) (AT i p te):=by
 obtain⟨mo,r2,hR,hr⟩:=ho
 refine⟨fun E E' ρ w h=>?_,fun HZ F=>f6 (Jj hN hi hx (he.run HZ F) (fun pj s σ H x y v u Q I rx ry h=>hR pj s σ H x y v u Q I rx ry h) hf) fun D σ H ⟨ρ,E,fr,h,en⟩=>?_⟩
 ·unfold AT at *
  split at h
  ·refine he.mono _ _ _ (fun r q=>mo _ _ _ _ (fun z q=>?_) q) h
   split at q
   ·exact w.nx _ q
   ·exact q
  ·exact h
 ·unfold AT at h
  split at h
  ·rename_i d ed
   obtain⟨x,ex,rx⟩:=fr.sl i _ ed
   refine⟨x,ex,he.step fr h fun r y H1 q S1 r1=>?_⟩
   refine hr (MM F ρ) (tZ ρ) H1 x y _ _ _ (.inl (rx.mono S1)) r1.c (mo _ _ _ _ (fun z q z' H' S' rz=>?_) q)
   split at q
   ·exact en.nx _ _ _ (((fr.mono S1).mono S').setv rz) q
   ·exact q.elim
  ·exact h.elim
noncomputable def qG(i:Nat)(te:d3):cD:=fun E ρ=>match ρ[i]? with
 |some (.own a (.lst xs))=>te ρ fun r=>(r.free=true/\xs.length<xN)/\E.nx (ρ.set i (.own a (.lst (xs++[r.d]))))
 |_=>False
theorem w6{n:Nat}(h:n<xN):n<sizeLine:=lt_of_lt_of_le h (hU (le_refl _))
theorem uB{i:Nat}{x:Str}{p1 p2 p3:Pos}(hv:PE X (.Name x p1) (AN i))(he:QE X e te)(hs:autoParam (swapsWith (.Call (.Attribute (.Name x p1) "append" p2) [e] [] p3) none pos.line X.env=pure false) cB._auto_1)
  (hbase:autoParam (attributeBase (.Name x p1) "append" X.env (eval (.Name x p1) X.env)=eval (.Name x p1) X.env) cB._auto_1)
  (hfew:autoParam (((backTo p3 (starEach [e] X.env)).all (fun x=>!x.1)&&(backToKw p3 (keywordEach [] X.env)).all (fun x=>x.1.isSome)
   && decide ([e].length+([]:List Keyword).length+(if ([]:List Keyword).isEmpty then 0 else 1)<30))=true) cB._auto_1)
  (hline:autoParam ((p2.endLine==p3.line)=true) cB._auto_1) (hst:autoParam (starEach [e] X.env=(false,eval e X.env)::starEach [] X.env) cB._auto_1) (hplain:autoParam ((backTo p3 (starEach [] X.env)).any (·.1)=false) cB._auto_1):
  QS X (.Expr (.Call (.Attribute (.Name x p1) "append" p2) [e] [] p3) pos) (qG i te):=by
 refine⟨fun E E' ρ w h=>?_,fun HZ F=>f6 (vG (Io PySem.F.plainAttrs_list PySem.F.slot_list_append PySem.F.type_list_append uH hv (iS (he.run HZ F) mL hst) hbase hfew hline hst hplain) hs) fun D σ H ⟨ρ,E,fr,h,en⟩=>?_⟩
 ·unfold qG at *
  split at h
  ·exact he.mono _ _ _ (fun r q=>⟨q.1,w.nx _ q.2⟩) h
  ·exact h
 ·unfold qG at h
  split at h
  ·rename_i a xs hx
   obtain⟨hs1,vs,hv1,rv1⟩:=fr.sl i _ hx
   refine⟨_,hs1,.inl ⟨rfl,_,eJ.of hv1⟩,he.step fr h fun r y H1 q S1 r1=>?_⟩
   obtain⟨⟨qf,ql⟩,q2⟩:=q
   have rep:=r1.rep (fun a m=>fr.dom m) qf
   have hv2:=S1 _ _ hv1
   refine⟨a,vs,y,rfl,rfl,hv2,by rw[rv1.length];exact w6 ql,?_⟩
   refine en.nx _ _ _ ((fr.mono S1).write (d':=.lst (xs++[r.d])) hx ⟨_,aY,?_⟩) q2
   have G:Gen X.K (MM F ρ) (MM F ρ) H1 (upd H1 a (.lst (vs++[y]))):=Gen.write (.inr ⟨_,mem_of_getElem? hx⟩) (by rw[hv2];trivial)
   exact((rv1.mono S1).append (.cons rep .nil)).gen G
  ·exact h.elim
end
open Classical in
noncomputable def prot(H:Hp)(ρ:List Sl):Hp:=fun b=>if ∃d,Sl.own b d∈ρ then none else H b
section
variable {K:W.Frag} {HZ H H1 H':Hp} {F:Addr->Prop} {σ σ':St} {ρ ρ':List Sl}
theorem rV{b:Addr}{d:Dv}(h:Sl.own b d∈ρ):prot H ρ b=none:=by unfold prot;rw[if_pos ⟨d,h⟩]
theorem bZ{b:Addr}(h:¬ ∃d,Sl.own b d∈ρ):prot H ρ b=H b:=by unfold prot;rw[if_neg h]
theorem lK{b:Addr}{o:HO}(h:prot H ρ b=some o):H b=some o:=by
 by_cases c:∃d,Sl.own b d∈ρ
 ·obtain⟨d,c⟩:=c
  rw[rV c] at h
  cases h
 ·rw[bZ c] at h
  exact h
theorem Ck(h:prot H ρ b=none):(∃d,Sl.own b d∈ρ) \/ H b=none:=by
 by_cases c:∃d,Sl.own b d∈ρ
 ·exact .inl c
 ·rw[bZ c] at h
  exact .inr h
theorem Fr.prot(fr:Fr K HZ F σ H ρ):Fr K (prot H ρ) F σ H ρ:=by
 refine⟨fr.len,fr.sl,fr.nd,fun a d h=>rV h,fun b o h=>lK h,fun a h=>?_,fun P q z=>?_⟩
 ·rw[bZ ?_]
  ·exact fr.dom (.inl h)
  ·rintro⟨d,c⟩
   exact fr.old.f a h (fr.new a d c)
 ·have e:=fr.old.t P q z
  rw[bZ ?_]
  ·exact fr.same _ _ e
  ·rintro⟨d,c⟩
   rw[fr.new P d c] at e
   cases e
theorem Fr.free_of(fr:Fr K HZ F σ H ρ){b:Addr}(h:Z.prot H ρ b=none):HZ b=none:=by
 rcases Ck h with⟨d,c⟩ | h
 ·exact fr.new b d c
 ·exact fr.same.free h
theorem Fr.same_of(fr:Fr K HZ F σ H ρ)(S:aK (Z.prot H ρ) H'):aK HZ H':=fun b o e=>by
 refine S b o ?_
 rw[bZ ?_]
 ·exact fr.same b o e
 ·rintro⟨d,c⟩
  rw[fr.new b d c] at e
  cases e
theorem Fr.unprot(fr:Fr K HZ F σ H ρ)(g:Fr K (Z.prot H ρ) F σ' H' ρ'):Fr K HZ F σ' H' ρ':=
 ⟨g.len,g.sl,g.nd,fun a d h=>fr.free_of (g.new a d h),fr.same_of g.same,fr.old⟩
theorem Fr.gen(fr:Fr K HZ F σ H ρ)(g:Fr K (Z.prot H ρ) F σ' H' ρ'):Gen K (MM F ρ) (MM F ρ') H H':=by
 have no:∀a o,H a=some o -> ¬MM F ρ a->Z.prot H ρ a=some o:=fun a o e m=>by
  rw[bZ fun c=>m (.inr c)]
  exact e
 have no2:∀a o,H a=some o -> ¬Dk (some o)->Z.prot H ρ a=some o:=fun a o e m=>by
  rw[bZ ?_]
  ·exact e
  ·rintro⟨d,c⟩
   obtain⟨_,_,_,ow⟩:=fr.at_own c
   obtain⟨u,hu,mu⟩:=ow.mut
   rw[e] at hu
   cases hu
   exact m mu
 refine⟨fun a o e mu m=>⟨g.same _ _ (no a o e m),?_⟩,fun a xs e=>g.same _ _ (no2 a _ e fun z=>z),fun a ns e=>?_,fun a o u e=>g.same _ _ (no2 a _ e fun z=>z)⟩
 ·rintro(h | ⟨d,h⟩)
  ·exact m (.inl h)
  ·have:=g.new a d h
   rw[no a o e m] at this
   cases this
 ·rcases e with⟨o,e⟩ | e
  ·exact .inl ⟨o,g.same _ _ (no2 a _ e fun z=>z)⟩
  ·exact .inr e
theorem Ent.prot{E:En}{D:Ends}(fr:Fr K HZ F σ H ρ)(en:Ent K HZ F E D):Ent K (Z.prot H ρ) F E D:=by
 refine⟨fun ρ' σ' H' g h=>en.nx _ _ _ (fr.unprot g) h,fun ρ' σ' H' g h=>en.bk _ _ _ (fr.unprot g) h,fun ρ' σ' H' g h=>en.ct _ _ _ (fr.unprot g) h,fun r x H' S rr h=>en.rt r x H' (fr.same_of S) ?_ h⟩
 cases r with
 |v d=>exact rr
 |ow a d=>exact rr
 |nw d=>obtain⟨a,e,n,o⟩:=rr;exact⟨a,e,fr.free_of n,o⟩
end
noncomputable abbrev tX:=List Sl->(List Dv->List (Addr×List Dv)->Prop)->Prop
noncomputable def guard(ogs:List (Addr×List Dv))(ρ:List Sl):Prop:=∀p∈ogs,Sl.own p.1 (.lst p.2)∈ρ
noncomputable def qL(K:W.Frag)(P:Hp)(M:Addr->Prop)(H1:Hp)(J:It)(ds:List Dv)(ogs:List (Addr×List Dv)):Prop:=
 ∀(i:Nat) (H':Hp) (M':Addr->Prop),aK P H'->Gen K M M' H1 H'->(∀p∈ogs,dS K M' H' p.1 (.lst p.2)) ->
  (∀d,ds[i]?=some d->J.go i H' /\ ∀y H'',J.yld i H' y H''->aK H' H''/\Rep K M' H'' y d)/\(ds.length<=i->J.stop i H')
structure QI(X:Cx)(tg iter:Expr)(ti:tX):Prop where
 mono:∀(ρ:List Sl) (Q Q':List Dv->List (Addr×List Dv)->Prop),(∀ds g,Q ds g->Q' ds g)->ti ρ Q->ti ρ Q'
 run:∀(HZ:Hp) (F:Addr->Prop),∃wi,PI X tg iter wi /\ ∀(σ:St) (H:Hp) (ρ:List Sl) (R:It->Hp->Prop),Fr X.K HZ F σ H ρ ->
  ti ρ (fun ds ogs=>∀J H1,aK H H1->guard ogs ρ->qL X.K (prot H1 ρ) (MM F ρ) H1 J ds ogs->R J H1)->wi σ H R
section
variable {X:Cx} {tg l:Expr} {tl:d3}
noncomputable def MB(K:W.Frag)(tl:TE):TI:=fun σ H R=>tl σ H fun x H1=>∃a,x=.ref a/\(((∃xs,eJ K H1 a xs)/\R (N7 K a) H1) \/ ((∃xs,lY K H1 a xs)/\R (O8 K a) H1))
theorem Jm{l:Expr}{tl:TE}(hl:PE X l tl):PI X tg l (MB X.K tl):=by
 intro pj s σ H R I h
 refine thn (hl pj s σ H _ I h) fun v s1 zz=>?_
 obtain⟨x,H1,I1,r1,q1⟩:=zz
 obtain⟨a,e,q1⟩:=q1
 subst e
 cases r1
 rcases q1 with⟨⟨xs,hq⟩,q⟩ | ⟨⟨xs,hq⟩,q⟩
 ·obtain⟨its,rv,p,hz⟩:=I1.list hq
  refine wpAny_pyIter_list p.isList ?_
  refine⟨s1.heap.objs.size,[s1.heap.objs.size],_,_,H1,rfl,I1.kept (t':=s1.toks) fun b o e=>Heap.get?_push_of_some _ e,CY a _,⟨_,Heap.get?_push_size _ rfl,rfl,rfl⟩,fun b hb=>?_,q⟩
  have e:b=s1.heap.objs.size:=by simpa using hb
  subst e
  exact I1.fpOk (le_refl _) (I1.hok.fresh (le_refl _))
 ·obtain⟨its,rv,p,hz⟩:=I1.tuple hq
  refine wpAny_pyIter_tuple (show s1.heap.IsTuple a its.toArray from p) ?_
  refine⟨s1.heap.objs.size,[s1.heap.objs.size],_,_,H1,rfl,I1.kept (t':=s1.toks) fun b o e=>Heap.get?_push_of_some _ e,AD a _,⟨_,Heap.get?_push_size _ rfl,rfl,rfl⟩,fun b hb=>?_,q⟩
  have e:b=s1.heap.objs.size:=by simpa using hb
  subst e
  exact I1.fpOk (le_refl _) (I1.hok.fresh (le_refl _))
noncomputable def iN(tl:d3):tX:=fun ρ Q=>tl ρ fun r=>match r with
 | .v (.lst ds)=>Q ds []
 | .nw (.lst ds)=>Q ds []
 | .ow a (.lst ds)=>Q ds [(a,ds)]
 | .v (.tup ds)=>Q ds []
 | .v (.scr ns)=>Q (ns.map .int) []
 |_=>False
theorem uM{K:W.Frag}{P:Hp}{M:Addr->Prop}{H1:Hp}{a:Addr}{xs:List V}{ds:List Dv}(hP:P a=some (.lst xs))(r:Reps K M H1 xs ds):qL K P M H1 (N7 K a) ds []:=by
 intro i H' M' S G _
 have h':=S _ _ hP
 refine⟨fun d e=>?_,fun h=>⟨xs,eJ.of h',by rw[r.length];exact h⟩⟩
 obtain⟨x,hx,rx⟩:=r.get e
 refine⟨⟨xs,x,eJ.of h',hx⟩,fun y H'' zz=>?_⟩
 obtain⟨e1,e2⟩:=zz
 subst e1
 have:=e2 xs (eJ.of h')
 rw[hx] at this
 cases this
 exact⟨aK.refl _,rx.gen G⟩
theorem G1{K:W.Frag}{P:Hp}{M:Addr->Prop}{H1:Hp}{a:Addr}{ds:List Dv}:qL K P M H1 (N7 K a) ds [(a,ds)]:=by
 intro i H' M' S G ow
 obtain⟨xs,h',r⟩:=ow (a,ds) (by simp)
 refine⟨fun d e=>?_,fun h=>⟨xs,eJ.of h',by rw[r.length];exact h⟩⟩
 obtain⟨x,hx,rx⟩:=r.get e
 refine⟨⟨xs,x,eJ.of h',hx⟩,fun y H'' zz=>?_⟩
 obtain⟨e1,e2⟩:=zz
 subst e1
 have:=e2 xs (eJ.of h')
 rw[hx] at this
 cases this
 exact⟨aK.refl _,rx⟩
theorem Fz{K:W.Frag}{P:Hp}{M:Addr->Prop}{H1:Hp}{a:Addr}{xs:List V}{ds:List Dv}(hP:P a=some (.tup xs))(r:Reps K M H1 xs ds):qL K P M H1 (O8 K a) ds []:=by
 intro i H' M' S G _
 have h':=S _ _ hP
 refine⟨fun d e=>?_,fun h=>⟨xs,lY.of h',by rw[r.length];exact h⟩⟩
 obtain⟨x,hx,rx⟩:=r.get e
 refine⟨⟨xs,x,lY.of h',hx⟩,fun y H'' zz=>?_⟩
 obtain⟨e1,e2⟩:=zz
 subst e1
 have:=e2 xs (lY.of h')
 rw[hx] at this
 cases this
 exact⟨aK.refl _,rx.gen G⟩
theorem G0{K:W.Frag}{P:Hp}{M:Addr->Prop}{H1:Hp}{a:Addr}{ns:List Int}(hP:IR K P a ns):qL K P M H1 (N7 K a) (ns.map .int) []:=by
 intro i H' M' S G _
 have h':=(aK.scr S hP).sq
 refine⟨fun d e=>?_,fun h=>⟨_,h',by simpa using h⟩⟩
 have r:Reps K M' H' (ns.map V.int) (ns.map .int):=Reps.ints ns
 obtain⟨x,hx,rx⟩:=r.get e
 refine⟨⟨_,x,h',hx⟩,fun y H'' zz=>?_⟩
 obtain⟨e1,e2⟩:=zz
 subst e1
 have:=e2 _ h'
 rw[hx] at this
 cases this
 exact⟨aK.refl _,rx⟩
theorem C6{K:W.Frag}{HZ:Hp}{F:Addr->Prop}{σ:St}{H:Hp}{ρ:List Sl}{a:Addr}{o:HO}(fr:Fr K HZ F σ H ρ)(e:H a=some o)(m:¬Dk (some o)):¬ ∃d,Sl.own a d∈ρ:=by
 rintro⟨d,c⟩
 obtain⟨_,_,_,ow⟩:=fr.at_own c
 obtain⟨u,hu,mu⟩:=ow.mut
 rw[e] at hu
 cases hu
 exact m mu
theorem dW(h:QE X l tl):QI X tg l (iN tl):=by
 refine⟨fun ρ Q Q' w q=>h.mono _ _ _ (fun r q=>?_) q,fun HZ F=>⟨_,Jm (h.run HZ F),fun σ H ρ R fr q=>?_⟩⟩
 ·unfold iN at *
  split at q<;>first | exact w _ _ q | exact q
 ·refine h.step fr q fun r x H1 q S1 r1=>?_
  have fr1:=fr.mono S1
  split at q
  ·rename_i ds
   cases r1 with
   |lst e m rs=>
    exact⟨_,rfl,.inl ⟨⟨_,eJ.of e⟩,q _ H1 S1 (by intro p hp;simp at hp) (uM (by rw[bZ fun c=>m (.inr c)];exact e) rs)⟩⟩
  ·rename_i ds
   obtain⟨a,rfl,n,xs,e,rs⟩:=r1
   exact⟨_,rfl,.inl ⟨⟨_,eJ.of e⟩,q _ H1 S1 (by intro p hp;simp at hp) (uM (by rw[bZ fun c=>fr.fresh n (.inr c)];exact e) (rs.weak fun b z=>.inl z))⟩⟩
  ·rename_i a ds
   obtain⟨rfl,m,xs,e,rs⟩:=r1
   exact⟨_,rfl,.inl ⟨⟨_,eJ.of e⟩,q _ H1 S1 (by intro p hp;simp at hp;subst hp;exact m) G1⟩⟩
  ·rename_i ds
   cases r1 with
   |tup e rs=>exact⟨_,rfl,.inr ⟨⟨_,lY.of e⟩,q _ H1 S1 (by intro p hp;simp at hp) (Fz (by rw[bZ (C6 fr1 e fun z=>z)];exact e) rs)⟩⟩
  ·rename_i ns
   cases r1 with
   |scr e=>
    refine⟨_,rfl,.inl ⟨⟨_,e.sq⟩,q _ H1 S1 (by intro p hp;simp at hp) (G0 ?_)⟩⟩
    rcases e with⟨o,e⟩ | e
    ·exact .inl ⟨o,by rw[bZ (C6 fr1 e fun z=>z)];exact e⟩
    ·exact .inr e
  ·exact q.elim
noncomputable def bP(lo:Int)(n:Nat):List Dv:=(List.range n).map fun(k:Nat)=>Dv.int (lo+(k:Int))
theorem AZ{lo:Int}{n i:Nat}{d:Dv}(h:(bP lo n)[i]?=some d):i<n/\d=.int (lo+i):=by
 unfold bP at h
 rw[List.getElem?_map] at h
 cases e:(List.range n)[i]? with
 |none=>rw[e] at h;cases h
 |some k=>
  rw[e] at h
  obtain⟨h1,h2⟩:=List.getElem?_eq_some_iff.mp e
  simp at h1 h2
  subst h2
  exact⟨h1,(Option.some.inj h).symm⟩
theorem sI{K:W.Frag}{P:Hp}{M:Addr->Prop}{H1:Hp}{lo:Int}{n:Nat}:qL K P M H1 (N6 lo n) (bP lo n) []:=by
 intro i H' M' S G _
 refine⟨fun d e=>?_,fun h=>(show n<=i by simpa [bP] using h)⟩
 obtain⟨h1,h2⟩:=AZ e
 subst h2
 refine⟨h1,fun y H'' zz=>?_⟩
 obtain⟨e1,e2⟩:=zz
 subst e1 e2
 exact⟨aK.refl _,.int _⟩
noncomputable def fR(ts:lI):tX:=fun ρ Q=>ts ρ fun rs=>match rs.map R.d with
 | [.int j]=>(-(2 ^ 62)<=j/\j<2 ^ 62)/\Q (bP 0 j.toNat) []
 |_=>False
noncomputable def qU(ts:lI):tX:=fun ρ Q=>ts ρ fun rs=>match rs.map R.d with
 | [.int i,.int j]=>(-(2 ^ 62)<=i/\i<2 ^ 62 /\ -(2 ^ 62)<=j/\j<2 ^ 62)/\Q (bP i (j-i).toNat) []
 |_=>False
theorem dL{K:W.Frag}{M:Addr->Prop}{H:Hp}{xs:List V}{d:Dv}(h:uZ K M H xs [d]):∃x,xs=[x]/\cY K M H x d:=by
 cases h with
 |cons a t=>cases t;exact⟨_,rfl,a⟩
theorem BJ{K:W.Frag}{M:Addr->Prop}{H:Hp}{xs:List V}{d d':Dv}(h:uZ K M H xs [d,d']):∃x y,xs=[x,y]/\cY K M H x d/\cY K M H y d':=by
 cases h with
 |cons a t=>
  obtain⟨y,rfl,b⟩:=dL t
  exact⟨_,_,rfl,a,b⟩
theorem gF{a:Expr}{ts:lI}{p pos:Pos}(hg:Gl X "range")(hm:X.mg "range" = none)(ha:QA X [a] ts)(hs:autoParam (starEach [a] X.env=[(false,eval a X.env)]) cB._auto_1):QI X tg (.Call (.Name "range" p) [a] [] pos) (fR ts):=by
 refine⟨fun ρ Q Q' w q=>ha.mono _ _ _ (fun r q=>?_) q,fun HZ F=>⟨_,Cp hg hm (ha.run HZ F) hs,fun σ H ρ R fr q=>?_⟩⟩
 ·split at q
  ·exact⟨q.1,w _ _ q.2⟩
  ·exact q
 ·refine ha.step fr q fun rs xs H1 q S1 r1=>?_
  split at q
  ·rename_i j e
   have c:=r1.c
   rw[e] at c
   obtain⟨x,rfl,cx⟩:=dL c
   obtain rfl:=cx.int
   exact⟨j,rfl,q.1.1,q.1.2,q.2 _ H1 S1 (by intro p hp;simp at hp) sI⟩
  ·exact q.elim
theorem Cj{a b:Expr}{ts:lI}{p pos:Pos}(hg:Gl X "range")(hm:X.mg "range" = none)(ha:QA X [a,b] ts)(hs:autoParam (starEach [a,b] X.env=[(false,eval a X.env),(false,eval b X.env)]) cB._auto_1)(hs2:autoParam (starEach [b] X.env=[(false,eval b X.env)]) cB._auto_1):
  QI X tg (.Call (.Name "range" p) [a,b] [] pos) (qU ts):=by
 refine⟨fun ρ Q Q' w q=>ha.mono _ _ _ (fun r q=>?_) q,fun HZ F=>⟨_,Co hg hm (ha.run HZ F) hs hs2,fun σ H ρ R fr q=>?_⟩⟩
 ·split at q
  ·exact⟨q.1,w _ _ q.2⟩
  ·exact q
 ·refine ha.step fr q fun rs xs H1 q S1 r1=>?_
  split at q
  ·rename_i i j e
   have c:=r1.c
   rw[e] at c
   obtain⟨x,y,rfl,cx,cy⟩:=BJ c
   obtain rfl:=cx.int
   obtain rfl:=cy.int
   exact⟨i,j,rfl,q.1,q.2 _ H1 S1 (by intro p hp;simp at hp) sI⟩
  ·exact q.elim
end
noncomputable abbrev xI:=Dv->List Sl->(List Sl->Prop)->Prop
structure QG(X:Cx)(tg:Expr)(k:Nat)(g:xI):Prop where
 mono:∀d ρ (Q Q':List Sl->Prop),(∀ρ,Q ρ->Q' ρ)->g d ρ Q->g d ρ Q'
 agree:∀d ρ (Q:List Sl->Prop),g d ρ Q->g d ρ fun ρ1=>Q ρ1/\ρ1.length=ρ.length /\ ∀j,k<=j->ρ1[j]?=ρ[j]?
 run:∃t,PG X tg t /\ ∀(HZ:Hp) (F:Addr->Prop) (v:V) (d:Dv) (σ:St) (H:Hp) (ρ:List Sl) (Q:St->Hp->Prop),Fr X.K HZ F σ H ρ->Rep X.K (MM F ρ) H v d ->
  g d ρ (fun ρ1=>∀σ1,Fr X.K HZ F σ1 H ρ1->(∀j,k<=j->σ1[j]?=σ[j]?)->Q σ1 H)->t v σ H Q
noncomputable def gN(i:Nat):xI:=fun d ρ Q=>Q (ρ.set i (.v d))
noncomputable def jQ:List Nat->List Dv->List Sl->List Sl
 |i::is,d::ds,ρ=>jQ is ds (ρ.set i (.v d))
 |_,_,ρ=>ρ
noncomputable def gT(is:List Nat):xI:=fun d ρ Q=>match d with
 | .tup ds=>ds.length=is.length/\Q (jQ is ds ρ)
 |_=>False
noncomputable def Nt:List Nat->JK
 | []=>MO
 |i::is=>JC (zN i) (Nt is)
theorem rM:∀(is:List Nat) (ds:List Dv) (ρ:List Sl),(jQ is ds ρ).length=ρ.length
 | [],_,_=>rfl
 |_::_,[],_=>rfl
 |i::is,d::ds,ρ=>by rw[jQ,rM is ds];simp
theorem rN{k:Nat}:∀(is:List Nat) (ds:List Dv) (ρ:List Sl),(∀i∈is,i<k) -> ∀j,k<=j->(jQ is ds ρ)[j]?=ρ[j]?
 | [],_,_,_,_,_=>rfl
 |_::_,[],_,_,_,_=>rfl
 |i::is,d::ds,ρ,h,j,hj=>by
  have:=h i (by simp)
  rw[jQ,rN is ds _ (fun i hi=>h i (by simp[hi])) j hj,List.getElem?_set_ne ⋯]
section
variable {X:Cx} {pos:Pos}
theorem hG{i k:Nat}{x:Str}(hN:X.N.Nodup)(hi:X.N[i]?=some x)(hx:Do X.env.scope x)(hk:autoParam (i<k) nB._auto_1)(hf:autoParam (X.fn x=true \/ X.env.scope.names.lookup x=some .local) Dm._auto_1):QG X (.Name x pos) k (gN i):=by
 refine⟨fun d ρ Q Q' w q=>w _ q,fun d ρ Q q=>⟨q,by simp,fun j hj=>by rw[List.getElem?_set_ne ⋯]⟩,_,c6 hN hi hx hf,fun HZ F v d σ H ρ Q fr r q=>?_⟩
 exact q _ (fr.setv r) fun j hj=>by rw[List.getElem?_set_ne ⋯]
theorem CH{K:W.Frag}{HZ:Hp}{F:Addr->Prop}{H:Hp}{k:Nat}:∀(is:List Nat) (ds:List Dv) (vs:List V) (σ:St) (ρ:List Sl) (Q:St->Hp->Prop),(∀i∈is,i<k)->ds.length=is.length->Fr K HZ F σ H ρ->Reps K (MM F ρ) H vs ds ->
  (∀σ1,Fr K HZ F σ1 H (jQ is ds ρ)->(∀j,k<=j->σ1[j]?=σ[j]?)->Q σ1 H)->Nt is vs σ H Q
 | [],[],_,σ,ρ,Q,_,_,fr,.nil,q=>⟨rfl,q σ fr fun _ _=>rfl⟩
 |i::is,d::ds,_,σ,ρ,Q,hk,hl,fr,.cons (x:=x) a r,q=>by
  refine⟨x,_,rfl,?_⟩
  have wk:∀b,MM F (ρ.set i (.v d)) b->MM F ρ b:=fun b h=>by
   rcases MM.set b h with h | ⟨_,h⟩
   ·exact h
   ·cases h
  refine CH is ds _ _ (ρ.set i (.v d)) Q (fun i hi=>hk i (by simp[hi])) (by simpa using hl) (fr.setv a) (r.weak wk) fun σ1 f1 e1=>q σ1 f1 fun j hj=>?_
  have:=hk i (by simp)
  rw[e1 j hj,List.getElem?_set_ne ⋯]
theorem tF{es:List Expr}{x1 n k:Nat}{is:List Nat}(hc:X.calm=true)(h:N3 X es (Nt is))(hk:autoParam (∀i∈is,i<k) nB._auto_1)(hl:autoParam (is.length=n) cB._auto_1)
  (hn:autoParam ((assignEach es X.env).length=n) cB._auto_1) (hst:autoParam ((assignEach es X.env).findIdx? (·.1)=none) cB._auto_1):QG X (.Tuple es x1 pos) k (gT is):=by
 refine⟨fun d ρ Q Q' w q=>?_,fun d ρ Q q=>?_,_,Jo hc h hn hst,fun HZ F v d σ H ρ Q fr r q=>?_⟩
 ·unfold gT at *
  split at q
  ·exact⟨q.1,w _ q.2⟩
  ·exact q
 ·unfold gT at *
  split at q
  ·exact⟨q.1,q.2,rM _ _ _,rN _ _ _ hk⟩
  ·exact q
 ·unfold gT at q
  split at q
  ·cases r with
   |tup e rs=>exact⟨_,_,rfl,lY.of e,by rw[rs.length,q.1,hl],CH is _ _ σ ρ Q hk q.1 fr rs q.2⟩
  ·exact q.elim
end
noncomputable def aV(g:xI)(tb:cD)(ogs:List (Addr×List Dv)):List Dv->cD
 | []=>fun E ρ=>guard ogs ρ/\E.nx ρ
 |d::r=>fun E ρ=>guard ogs ρ/\g d ρ fun ρ1=>tb { E with nx:=aV g tb ogs r E,ct:=aV g tb ogs r E,bk:=E.nx } ρ1
noncomputable def h9(ti:tX)(g:xI)(tb:cD):cD:=fun E ρ=>ti ρ fun ds ogs=>aV g tb ogs ds E ρ
section
variable {X:Cx} {tg iter c:Expr} {ti:tX} {g:xI} {tb:cD} {body:List Stmt} {pos:Pos} {k:Nat}
theorem mS(mg:∀d ρ (Q Q':List Sl->Prop),(∀ρ,Q ρ->Q' ρ)->g d ρ Q->g d ρ Q')(mb:∀E E' ρ,EnLe E E'->tb E ρ->tb E' ρ)(ogs:List (Addr×List Dv)):∀(ds:List Dv) (E E':En) (ρ:List Sl),EnLe E E'->aV g tb ogs ds E ρ->aV g tb ogs ds E' ρ
 | [],E,E',ρ,w,h=>⟨h.1,w.nx _ h.2⟩
 |d::r,E,E',ρ,w,h=>by
  have w2:EnLe { E with nx:=aV g tb ogs r E,ct:=aV g tb ogs r E,bk:=E.nx } { E' with nx:=aV g tb ogs r E',ct:=aV g tb ogs r E',bk:=E'.nx }:=
   ⟨fun ρ h=>mS mg mb ogs r E E' ρ w h,w.rt,w.nx,fun ρ h=>mS mg mb ogs r E E' ρ w h⟩
  exact⟨h.1,mg _ _ _ _ (fun ρ1 h=>mb _ _ _ w2 h) h.2⟩
theorem bH(ogs:List (Addr×List Dv))(E:En)(ρ:List Sl):aV g tb ogs [] E ρ=(guard ogs ρ/\E.nx ρ):=rfl
theorem b8(ogs:List (Addr×List Dv))(d:Dv)(r:List Dv)(E:En)(ρ:List Sl):aV g tb ogs (d::r) E ρ=(guard ogs ρ/\g d ρ fun ρ1=>tb { E with nx:=aV g tb ogs r E,ct:=aV g tb ogs r E,bk:=E.nx } ρ1):=rfl
theorem zO{ogs:List (Addr×List Dv)}{E:En}{ρ:List Sl}:∀{ds:List Dv},aV g tb ogs ds E ρ->guard ogs ρ
 | [],h=>by rw[bH] at h;exact h.1
 |_::_,h=>by rw[b8] at h;exact h.1
theorem e9(hp:PassesOwn (model X.prog X.w) X.A X.env X.xe)(hc:X.N=X.N)(hi:QI X tg iter ti)(hg:QG X tg k g)(hb:QSs X body tb)(hs:autoParam (∀x,foldedSetIterable iter X.env x=pure x) Ga._auto_1):QS X (.For tg iter body [] pos) (h9 ti g tb):=by
 refine⟨fun E E' ρ w h=>hi.mono _ _ _ (fun ds ogs h=>mS hg.mono hb.mono ogs ds E E' ρ w h) h,fun HZ F=>?_⟩
 obtain⟨wi,hwi,wiq⟩:=hi.run HZ F
 obtain⟨tt,htt,ttq⟩:=hg.run
 have hb':xL X body (fun D σ H=>∃P,liftS X.K P F tb D σ H):=fun pj s σ H D I zq6=>by obtain⟨P,q⟩:=zq6;exact hb.run P F pj s σ H D I q
 refine f6 (Jh hp hc hwi htt hb' hs) fun D σ H zz=>?_
 obtain⟨ρ,E,fr,h,en⟩:=zz
 refine wiq σ H ρ _ fr (hi.mono _ _ _ (fun ds ogs q J H2 S2 _ ok=>?_) h)
 have fr2:=fr.mono S2
 have en2:Ent X.K (prot H2 ρ) F E D:=en.prot fr2
 refine⟨fun i m σ' H'=>m=ds.length-i/\i<=ds.length /\ ∃ρ',Fr X.K (prot H2 ρ) F σ' H' ρ'/\aV g tb ogs (ds.drop i) E ρ',⟨ds.length,by simp,zero_le _,ρ,fr2.prot,by simpa using q⟩,?_⟩
 rintro i m σ' H' ⟨rfl,hil,ρ',fr',q'⟩
 have gd:guard ogs ρ':=zO q'
 have Gn:=fr2.gen fr'
 have oks:=ok i H' (MM F ρ') fr'.same Gn fun p hp=>let ⟨_,_,_,h⟩:=fr'.at_own (gd p hp);h
 by_cases hlt:i<ds.length
 ·have hd:ds[i]?=some ds[i]:=by simp[hlt]
  have hdr:ds.drop i=ds[i]::ds.drop (i+1):=drop_eq_getElem_cons hlt
  rw[hdr,b8] at q'
  obtain⟨go,yld⟩:=oks.1 _ hd
  refine .inr ⟨go,fun σ2 H2'=>∃ρ2,Fr X.K (prot H2 ρ) F σ2 H2' ρ2/\aV g tb ogs (ds.drop (i+1)) E ρ2,fun σ2 H2' zq0=>by obtain⟨ρ2,f2',q2⟩:=zq0;exact⟨ds.length-(i+1),⋯,rfl,hlt,ρ2,f2',q2⟩,fun y H3 hy=>?_⟩
  obtain⟨S3,ry⟩:=yld y H3 hy
  refine ttq _ F y _ σ' H3 ρ' _ (fr'.mono S3) ry (hg.mono _ _ _ _ (fun ρ1 q1 σ1 f1 _=>?_) q'.2)
  exact⟨_,ρ1,_,f1,q1,fun ρ3 σ3 H3' f3 q3=>⟨ρ3,f3,q3⟩,en2.nx,fun ρ3 σ3 H3' f3 q3=>⟨ρ3,f3,q3⟩,en2.rt⟩
 ·have e:i=ds.length:=⋯
  subst e
  rw[drop_length,bH] at q'
  exact .inl ⟨oks.2 (le_refl _),en2.nx _ _ _ fr' q'.2⟩
end
end Z
namespace Z
open L2
section
variable {X:Cx} {tg iter c e elt:Expr} {ti:tX} {g:xI} {tb:cD} {body:List Stmt} {pos:Pos} {k:Nat} {tc:lH} {es:List Expr} {ts:lI} {te:d3}
noncomputable def dQ(js:List Nat)(ρ:List Sl):List Sl:=js.map fun j=>(ρ[j]?).getD .un
noncomputable def dC(ρ0:List Sl)(g:xI)(tt:lH)(te:d3):List Dv->List Dv->(R->Prop)->Prop
 | [],acc,Q=>Q (.nw (.lst acc))
 |d::r,acc,Q=>g d ρ0 fun ρ1=>tt ρ1 fun b=>if b=true then te ρ1 fun v=>(v.free=true/\acc.length<xN)/\dC ρ0 g tt te r (acc++[v.d]) Q else dC ρ0 g tt te r acc Q
noncomputable def fV(k:Nat)(js:List Nat)(ti:tX)(g:xI)(tt:lH)(te:d3):d3:=fun ρ Q=>ti ρ fun ds _=>dC (List.replicate k .un++dQ js ρ) g tt te ds [] Q
structure QTs(X:Cx)(ifs:List Expr)(t:lH):Prop where
 mono:∀(ρ:List Sl) (Q Q':Bool->Prop),(∀r,Q r->Q' r)->t ρ Q->t ρ Q'
 run:∀(HZ:Hp) (F:Addr->Prop),L1 X ifs (liftT X.K HZ F t)
noncomputable def fM:lH:=fun _ Q=>Q true
theorem i9:QTs X [] fM:=⟨fun _ _ _ w q=>w _ q,fun HZ F pj s σ H Q I zq1=>by obtain⟨ρ,fr,q⟩:=zq1;exact Gz pj s σ H Q I (q H (aK.refl _))⟩
theorem Ba{t:lH}(h:QT X c t):QTs X [c] t:=⟨h.mono,fun HZ F=>Gy (h.run HZ F)⟩
theorem jC{js:List Nat}{ρ:List Sl}{i:Nat}{s:Sl}(h:(dQ js ρ)[i]?=some s)(hs:s ≠ .un):∃j,js[i]?=some j/\ρ[j]?=some s:=by
 unfold dQ at h
 rw[List.getElem?_map] at h
 cases e:js[i]? with
 |none=>rw[e] at h;cases h
 |some j=>
  rw[e] at h
  refine⟨j,rfl,?_⟩
  have h':(ρ[j]?).getD .un=s:=Option.some.inj h
  cases q:ρ[j]? with
  |none=>rw[q] at h';exact absurd h'.symm hs
  |some o=>rw[q] at h';exact congrArg some h'
theorem Bh{js:List Nat}{σ:St}{i j:Nat}{x:V}(hj:js[i]?=some j)(h:σ[j]?=some (some x)):(pick js σ)[i]?=some (some x):=by
 unfold pick
 rw[List.getElem?_map,hj,map_some,h]
 rfl
theorem iW{ρ0:List Sl}{tt:lH}(mg:∀d ρ (Q Q':List Sl->Prop),(∀ρ,Q ρ->Q' ρ)->g d ρ Q->g d ρ Q')(mt:∀(ρ:List Sl) (Q Q':Bool->Prop),(∀r,Q r->Q' r)->tt ρ Q->tt ρ Q')(me:∀(ρ:List Sl) (Q Q':R->Prop),(∀r,Q r->Q' r)->te ρ Q->te ρ Q'):
  ∀(ds acc:List Dv) (Q Q':R->Prop),(∀r,Q r->Q' r)->dC ρ0 g tt te ds acc Q->dC ρ0 g tt te ds acc Q'
 | [],acc,Q,Q',w,h=>w _ h
 |d::r,acc,Q,Q',w,h=>by
  refine mg _ _ _ _ (fun ρ1 h=>mt _ _ _ (fun b h=>?_) h) h
  split at h
  ·rw[if_pos ‹_›];exact me _ _ _ (fun v h=>⟨h.1,iW mg mt me r _ Q Q' w h.2⟩) h
  ·rw[if_neg ‹_›];exact iW mg mt me r _ Q Q' w h
theorem D4{l:List Nat}(hN:l.Nodup){i j x:Nat}(a:l[i]?=some x)(b:l[j]?=some x):i=j:=by
 obtain⟨h1,e1⟩:=List.getElem?_eq_some_iff.mp a
 obtain⟨h2,e2⟩:=List.getElem?_eq_some_iff.mp b
 have P:=pairwise_iff_getElem.mp hN
 rcases Nat.lt_trichotomy i j with h | h | h
 ·exact absurd (e1.trans e2.symm) (P i j h1 h2 h)
 ·exact h
 ·exact absurd (e2.trans e1.symm) (P j i h2 h1 h)
theorem Fr.block{K:W.Frag}{HZ H H2:Hp}{F:Addr->Prop}{σ:St}{ρ:List Sl}{k:Nat}{js:List Nat}{D:Addr}{old:St}(fr:Fr K HZ F σ H ρ)(S:aK H H2)(hD:H D=none)(hD2:H2 D≠none)(nd:js.Nodup)(lo:old.length=k):
  ∃(P:Hp) (F':Addr->Prop),Fr K P F' (old++pick js σ) H2 (List.replicate k .un++dQ js ρ)/\(∀a,MM F' (List.replicate k .un++dQ js ρ) a ↔ MM F ρ a \/ a=D)/\(∀a,F' a ↔ (MM F ρ a \/ a=D) /\ ¬ ∃d,Sl.own a d∈dQ js ρ):=by
 have mem:∀{a:Addr} {d:Dv},Sl.own a d∈List.replicate k Sl.un++dQ js ρ->Sl.own a d∈dQ js ρ:=fun h=>by
  rcases mem_append.mp h with h | h
  ·cases eq_of_mem_replicate h
  ·exact h
 have sub:∀{a:Addr} {d:Dv},Sl.own a d∈dQ js ρ->Sl.own a d∈ρ:=fun h=>by
  obtain⟨i,e⟩:=mem_iff_getElem?.mp h
  obtain⟨j,_,e2⟩:=jC e (by intro z;cases z)
  exact mem_of_getElem? e2
 refine⟨Z.prot H2 (dQ js ρ),fun a=>(MM F ρ a \/ a=D) /\ ¬ ∃d,Sl.own a d∈dQ js ρ,?_,fun a=>⟨fun h=>?_,fun h=>?_⟩,fun a=>Iff.rfl⟩
 ·have iff:∀a,MM (fun a=>(MM F ρ a \/ a=D) /\ ¬ ∃d,Sl.own a d∈dQ js ρ) (List.replicate k .un++dQ js ρ) a->MM F ρ a \/ a=D:=fun a h=>by
   rcases h with h | ⟨d,h⟩
   ·exact h.1
   ·exact .inl (.inr ⟨d,sub (mem h)⟩)
  have G:Gen K (MM F ρ) (MM (fun a=>(MM F ρ a \/ a=D) /\ ¬ ∃d,Sl.own a d∈dQ js ρ) (List.replicate k .un++dQ js ρ)) H H2:=((Gen.fresh hD).trans (.mono S)).trans (.weak iff)
  refine⟨by simp[pick,dQ,lo],fun i s e=>?_,fun i j a d d' e1 e2=>?_,fun a d h=>rV (mem h),fun b o h=>lK h,fun a h=>?_,fun Pt q z=>?_⟩
  ·by_cases hi:i<k
   ·rw[List.getElem?_append_left (by simpa using hi),List.getElem?_replicate,if_pos hi] at e
    cases e
    trivial
   ·rw[List.getElem?_append_right (by simpa using le_of_not_lt hi),length_replicate] at e
    rw[List.getElem?_append_right (by rw[lo];exact le_of_not_lt hi),lo]
    cases s with
    |un=>trivial
    |v d=>
     obtain⟨j,hj,e2⟩:=jC e (by intro z;cases z)
     obtain⟨x,hx,r⟩:=fr.sl j _ e2
     exact⟨x,Bh hj hx,r.gen G⟩
    |own a d=>
     obtain⟨j,hj,e2⟩:=jC e (by intro z;cases z)
     obtain⟨hx,r⟩:=fr.sl j _ e2
     exact⟨Bh hj hx,r.gen G fun o e=>S _ _ e⟩
  ·have ge:∀{i:Nat} {d:Dv},(List.replicate k Sl.un++dQ js ρ)[i]?=some (.own a d)->k<=i/\(dQ js ρ)[i-k]?=some (.own a d):=fun {i d} e=>by
    by_cases hi:i<k
    ·rw[List.getElem?_append_left (by simpa using hi),List.getElem?_replicate,if_pos hi] at e
     cases e
    ·rw[List.getElem?_append_right (by simpa using le_of_not_lt hi),length_replicate] at e
     exact⟨le_of_not_lt hi,e⟩
   obtain⟨k1,e1⟩:=ge e1
   obtain⟨k2,e2⟩:=ge e2
   obtain⟨j1,hj1,e1⟩:=jC e1 (by intro z;cases z)
   obtain⟨j2,hj2,e2⟩:=jC e2 (by intro z;cases z)
   have:=fr.nd j1 j2 a d d' e1 e2
   subst this
   have:=D4 nd hj1 hj2
   ac_rfl
  ·rw[bZ h.2]
   rcases h.1 with m | m
   ·intro z
    exact fr.dom m (S.free z)
   ·rw[m];exact hD2
  ·have e:=fr.old.t Pt q z
   rw[bZ ?_]
   ·exact S _ _ (fr.same _ _ e)
   ·rintro⟨d,c⟩
    rw[fr.new Pt d (sub c)] at e
    cases e
 ·rcases h with h | ⟨d,h⟩
  ·exact h.1
  ·exact .inl (.inr ⟨d,sub (mem h)⟩)
 ·by_cases c:∃d,Sl.own a d∈dQ js ρ
  ·obtain⟨d,c⟩:=c
   exact .inr ⟨d,mem_append_right _ c⟩
  ·exact .inl ⟨h,c⟩
end
inductive liftG(K:W.Frag)(k:Nat)(g:xI)(v:V)(σ:St)(H:Hp)(Q:St->Hp->Prop):Prop
 |mk (d:Dv) (HZ:Hp) (F:Addr->Prop) (ρ:List Sl) (fr:Fr K HZ F σ H ρ) (r:Rep K (MM F ρ) H v d) (h:g d ρ (fun ρ1=>∀σ1,Fr K HZ F σ1 H ρ1->(∀j,k<=j->σ1[j]?=σ[j]?)->Q σ1 H))
theorem QG.pg{X:Cx}{tg:Expr}{k:Nat}{g:xI}(h:QG X tg k g):PG X tg (liftG X.K k g):=by
 obtain⟨t,ht,tq⟩:=h.run
 intro pj s σ H v u Q I r ⟨d,HZ,F,ρ,fr,rv,q⟩
 exact ht pj s σ H v u Q I r (tq HZ F v d σ H ρ Q fr rv q)
theorem QE.pe{X:Cx}{e:Expr}{te:d3}(h:QE X e te):PE X e (fun σ H Q=>∃HZ F,lift X.K HZ F te σ H Q):=fun pj s σ H Q I zq2=>by obtain⟨HZ,F,q⟩:=zq2;exact h.run HZ F pj s σ H Q I q
theorem QTs.pt{X:Cx}{ifs:List Expr}{tt:lH}(h:QTs X ifs tt):L1 X ifs (fun σ H Q=>∃HZ F,liftT X.K HZ F tt σ H Q):=fun pj s σ H Q I zq3=>by obtain⟨HZ,F,q⟩:=zq3;exact h.run HZ F pj s σ H Q I q
theorem xU{α:Type}{l a b:List α}{k:Nat}(ha:a.length=k)(hl:l.length=k+b.length)(h:∀j,k<=j->l[j]?=(a++b)[j]?):l=l.take k++b:=by
 refine ext_getElem? fun j=>?_
 by_cases hj:j<k
 ·rw[List.getElem?_append_left (by rw[length_take];ac_rfl),List.getElem?_take_of_lt hj]
 ·rw[h j ⋯,List.getElem?_append_right ⋯,List.getElem?_append_right (by rw[length_take];ac_rfl),ha,length_take,min_eq_left ⋯]
section
variable {X:Cx} {pos:Pos}
theorem Jb{elt iter tgt:Expr}{ifs:List Expr}{scope:Scope}{cl:List (Str×Addr)}{tgs ns:List Str}{js:List Nat}{k:Nat}{ti:tX}{g:xI}{tt:lH}{te:d3}(hc:X.N=X.N)(hk:tgs.length=k)
  (hi:QI X tgt iter ti) (hg:∀(fp:List Addr) (s:Shared) (H:Hp),QG (n5 X scope cl fp (tgs++ns) s H) tgt k g) (ht:∀(fp:List Addr) (s:Shared) (H:Hp),QTs (n5 X scope cl fp (tgs++ns) s H) ifs tt)
  (he:∀(fp:List Addr) (s:Shared) (H:Hp),QE (n5 X scope cl fp (tgs++ns) s H) elt te)
  (hclos:closureFor scope X.env=pure cl) (hsub:∀x c,cl.lookup x=some c->X.env.cells.lookup x=some c)
  (hhas:∀x,((relabel scope X.env).names.lookup x=some .cell \/ (relabel scope X.env).names.lookup x=some .free) -> ∃c,cl.lookup x=some c)
  (hjs:js.map (fun j=>X.N[j]?)=ns.map some) (hin:∀y∈ns,(relabel scope X.env).names.lookup y=some .cell \/ (relabel scope X.env).names.lookup y=some .free)
  (hout:∀y∈ns,X.env.kindOf y=some .cell \/ X.env.kindOf y=some .free) (nd:js.Nodup)
  (hcell:autoParam (∀y∈scope.names,y.2 ≠ .cell) BW._auto_1) (hkind:autoParam (scope.kind=.function) cB._auto_1)
  (hnames:autoParam (∀y∈scope.names,y.2=.local->scope.names.lookup y.1=some .local) BW._auto_1)
  (hs:autoParam (∀z,foldedSetIterable iter X.env z=pure z) Ga._auto_1):
  QE X (.ListComp elt [⟨tgt,iter,ifs,0⟩] scope pos) (fV k js ti g tt te):=by
 have mg:=(hg [] X.s₀ fun _=>none).mono
 have ag:=(hg [] X.s₀ fun _=>none).agree
 have mt:=(ht [] X.s₀ fun _=>none).mono
 have me:=(he [] X.s₀ fun _=>none).mono
 refine⟨fun ρ Q Q' w h=>hi.mono _ _ _ (fun ds ogs h=>iW mg mt me ds [] Q Q' w h) h,fun HZ F=>?_⟩
 obtain⟨wi,hwi,wiq⟩:=hi.run HZ F
 refine cS (Ei (tgs:=tgs) (ns:=ns) (js:=js) (g:=liftG X.K k g) (tt:=fun σ H Q=>∃HZ F,liftT X.K HZ F tt σ H Q) (te:=fun σ H Q=>∃HZ F,lift X.K HZ F te σ H Q) hc hwi (fun fp s H=>(hg fp s H).pg) (fun fp s H=>(ht fp s H).pt) (fun fp s H=>(he fp s H).pe) hclos hsub hhas hjs hin hout hcell hkind hnames hs) fun σ H Q zz=>?_
 obtain⟨ρ,fr,h⟩:=zz
 subst hk
 refine wiq σ H ρ _ fr (hi.mono _ _ _ (fun ds ogs q J H1 S1 gd ok=>?_) h)
 intro D hD
 have fr1:=fr.mono S1
 refine⟨fun i m acc H2=>m=ds.length-i/\i<=ds.length/\aK H1 H2 /\ ∃accD,Reps X.K (fun a=>MM F ρ a \/ a=D) H2 acc accD /\
  dC (List.replicate tgs.length .un++dQ js ρ) g tt te (ds.drop i) accD (fun r=>∀x H',aK H H'->d9 X.K (MM F ρ) (tZ ρ) H x r H'->Q x H'),
  ⟨ds.length,by simp,zero_le _,aK.new' hD,[],.nil,by simpa using q⟩,?_⟩
 rintro i m acc H2 ⟨rfl,hil,S2,accD,ra,q⟩ hDl
 have G2:Gen X.K (MM F ρ) (fun a=>MM F ρ a \/ a=D) H1 H2:=(Gen.fresh hD).trans (.mono S2)
 have oks:=ok i H2 (fun a=>MM F ρ a \/ a=D) (fun b o e=>S2 _ _ (lK e)) G2 fun p hp=>by
  obtain⟨_,_,_,ow⟩:=fr1.at_own (gd p hp)
  exact ow.gen G2 fun o e=>S2 _ _ e
 by_cases hlt:i<ds.length
 ·have hd:ds[i]?=some ds[i]:=by simp[hlt]
  rw[drop_eq_getElem_cons hlt] at q
  obtain⟨go,yld⟩:=oks.1 _ hd
  refine .inr ⟨go,fun y H3 hy old lo=>?_⟩
  obtain⟨S3,ry⟩:=yld y H3 hy
  have hD3:=S3 _ _ hDl
  obtain⟨P,F',fr',iff,iffF⟩:=fr1.block (js:=js) (old:=old) (S2.trans S3) hD (by rw[hD3];simp) nd lo
  refine⟨_,P,F',_,fr',ry.weak fun a z=>(iff a).mp z,mg _ _ _ _ (fun ρ1 q1 σ1 f1 a1=>?_) (ag _ _ _ q)⟩
  obtain⟨q1,l1,b1⟩:=q1
  have up:∀a,MM F ρ a \/ a=D->MM F' ρ1 a:=fun a z=>by
   rcases(iff a).mpr z with z | ⟨d,z⟩
   ·exact .inl z
   ·refine .inr ⟨d,?_⟩
    obtain⟨j,e⟩:=mem_iff_getElem?.mp z
    have hj:tgs.length<=j:=by
     by_cases hj:j<tgs.length
     ·rw[List.getElem?_append_left (by simpa using hj),List.getElem?_replicate,if_pos hj] at e
      cases e
     ·ac_rfl
    rw[<- b1 j hj] at e
    exact mem_of_getElem? e
  have hlen:σ1.length=tgs.length+(pick js σ).length:=by
   have:=f1.len
   rw[l1] at this
   simp[pick,dQ] at this ⊢
   ac_rfl
  refine⟨⟨σ1.take tgs.length,by rw[length_take];ac_rfl,xU lo hlen a1⟩,P,F',ρ1,f1,mt _ _ _ (fun b q5 H5 S5=>?_) q1⟩
  have S25:=(S2.trans S3).trans S5
  cases b with
  |true=>
   simp only[if_true] at q5
   refine tL ⟨P,F',ρ1,f1.mono S5,me _ _ _ (fun r q6 x H6 S6 rx=>?_) q5⟩
   have hD6:=S6 _ _ (S5 _ _ hD3)
   obtain⟨⟨rf,rl⟩,q6⟩:=q6
   have rep:=(rx.rep (fun a z=>(f1.mono S5).dom z) rf).weak up
   refine⟨hD6,by rw[ra.length];exact w6 rl,ds.length-(i+1),⋯,rfl,hlt,fun b o e=>?_,_,?_,q6⟩
   ·rw[aO (aM e hD)]
    exact S6 _ _ (S25 _ _ e)
   ·have G6:Gen X.K (fun a=>MM F ρ a \/ a=D) (fun a=>MM F ρ a \/ a=D) H6 (upd H6 D (.lst (acc++[x]))):=Gen.write (.inr rfl) (by rw[hD6];trivial)
    exact((ra.mono ((S3.trans S5).trans S6)).append (.cons rep .nil)).gen G6
  |false=>
   simp only[Bool.false_eq_true,if_false] at q5
   exact tM ⟨S5 _ _ hD3,ds.length-(i+1),⋯,rfl,hlt,S25,accD,ra.mono (S3.trans S5),q5⟩
 ·have e:i=ds.length:=⋯
  subst e
  rw[drop_length] at q
  exact .inl ⟨oks.2 (le_refl _),q (.ref D) H2 (S1.trans S2) ⟨D,rfl,S1.free hD,acc,hDl,ra⟩⟩
end
noncomputable def lZ(X:Cx)(f:Value)(p:List Dv->(R->Prop)->Prop):Prop:=
 (∀ds (Q Q':R->Prop),(∀r,Q r->Q' r)->p ds Q->p ds Q') /\ ∃r:List V->Hp->VK->Prop,eS X f r /\ ∀(M:Addr->Prop) (O:Addr->Dv->Prop) (H:Hp) (xs:List V) (ds:List Dv) (Q:VK),uZ X.K M H xs ds ->
  p ds (fun rr=>∀z H',aK H H'->d9 X.K M O H z rr H'->Q z H')->r xs H Q
noncomputable def dM(p:List Dv->(R->Prop)->Prop)(ts:lI):d3:=fun ρ Q=>ts ρ fun rs=>p (rs.map R.d) Q
section
variable {X:Cx} {pos p:Pos} {e:Expr} {es:List Expr} {ts:lI} {x:Str} {id T:String} {pp:List Dv->(R->Prop)->Prop}
theorem CM{r:List V->Hp->VK->Prop}(ha:QA X es ts)(mo:∀ds (Q Q':R->Prop),(∀r,Q r->Q' r)->pp ds Q->pp ds Q')
  (hr:∀(M:Addr->Prop) (O:Addr->Dv->Prop) (H:Hp) (xs:List V) (ds:List Dv) (Q:VK),uZ X.K M H xs ds->pp ds (fun rr=>∀z H',aK H H'->d9 X.K M O H z rr H'->Q z H')->r xs H Q)
  (HZ:Hp) (F:Addr->Prop) (σ:St) (H:Hp) (Q:VK) (h:lift X.K HZ F (dM pp ts) σ H Q):NO r (liftA X.K HZ F ts) σ H Q:=by
 obtain⟨ρ,fr,h⟩:=h
 refine ha.step fr h fun rs xs H1 q S1 r1=>?_
 exact hr (MM F ρ) (tZ ρ) H1 xs _ Q r1.c (mo _ _ _ (fun rr k z H' S rz=>k z H' (S1.trans S) (rz.ahead S1)) q)
theorem aT(hc:lZ X (.builtin id) pp)(hg:Gl X x)(hm:X.mg x=none)(hv:bootBuiltins x=some (.builtin id))(ha:QA X (e::es) ts)(hn:autoParam (x ≠ "__name__") nB._auto_1)(hdb:autoParam ((x==("__debug__" : Str))=false) nB._auto_1)
  (he:autoParam (starEach (e::es) X.env=(false,eval e X.env)::starEach es X.env) cB._auto_1) (hpl:autoParam ((backTo pos (starEach es X.env)).any (·.1)=false) cB._auto_1):QE X (.Call (.Name x p) (e::es) [] pos) (dM pp ts):=by
 obtain⟨mo,r,hR,hr⟩:=hc
 exact⟨fun ρ Q Q' w q=>ha.mono _ _ _ (fun rs q=>mo _ _ _ w q) q,fun HZ F=>cS (yB hR hg hm hv (ha.run HZ F) hn hdb he hpl) (CM ha mo hr HZ F)⟩
theorem d4(hc:lZ X (.type T) pp)(hg:Gl X x)(hm:X.mg x=none)(hv:bootBuiltins x=some (.type T))(ha:QA X (e::es) ts)(hn:autoParam (x ≠ "__name__") nB._auto_1)(hdb:autoParam ((x==("__debug__" : Str))=false) nB._auto_1)
  (he:autoParam (starEach (e::es) X.env=(false,eval e X.env)::starEach es X.env) cB._auto_1) (hpl:autoParam ((backTo pos (starEach es X.env)).any (·.1)=false) cB._auto_1):QE X (.Call (.Name x p) (e::es) [] pos) (dM pp ts):=by
 obtain⟨mo,r,hR,hr⟩:=hc
 exact⟨fun ρ Q Q' w q=>ha.mono _ _ _ (fun rs q=>mo _ _ _ w q) q,fun HZ F=>cS (jD hR hg hm hv (ha.run HZ F) hn hdb he hpl) (CM ha mo hr HZ F)⟩
noncomputable def e5:List Dv->(R->Prop)->Prop
 | [.lst xs],Q=>Q (.v (.int xs.length))
 | [.tup xs],Q=>Q (.v (.int xs.length))
 | [.scr ns],Q=>Q (.v (.int ns.length))
 | [.str y],Q=>y.length<=xN/\Q (.v (.int y.length))
 | [.dik kvs],Q=>Q (.v (.int kvs.length))
 |_,_=>False
theorem RepK.length{K:W.Frag}{M:Addr->Prop}{H:Hp}{xs:List (cW×V)}{ds:List (cW×Dv)}(r:RepK K M H xs ds):xs.length=ds.length:=r.ind (P:=fun xs ds=>xs.length=ds.length) rfl fun _ _ _ _ _ _ _ ih=>congrArg (· + 1) ih
theorem cR:lZ X (.builtin "len") e5:=by
 refine⟨fun ds Q Q' w h=>?_,_,xE.or (xD.or Di),fun M O H xs ds Q c h=>?_⟩
 ·unfold e5 at *
  split at h<;>first | exact w _ h | exact⟨h.1,w _ h.2⟩ | exact h
 ·unfold e5 at h
  split at h
  ·obtain⟨x,rfl,cx⟩:=dL c
   obtain⟨a,ys,rfl,ea,ra⟩:=cx.lst
   refine .inl ⟨a,ys,rfl,.inl (eJ.of ea),?_⟩
   rw[ra.length]
   exact h _ H (aK.refl _) (Rep.int _)
  ·obtain⟨x,rfl,cx⟩:=dL c
   obtain⟨a,ys,rfl,ea,ra⟩:=cx.tup
   refine .inl ⟨a,ys,rfl,.inr (lY.of ea),?_⟩
   rw[ra.length]
   exact h _ H (aK.refl _) (Rep.int _)
  ·obtain⟨x,rfl,cx⟩:=dL c
   obtain⟨a,rfl,ea⟩:=cx.scr
   refine .inl ⟨a,_,rfl,.inl ea.sq,?_⟩
   rw[length_map]
   exact h _ H (aK.refl _) (Rep.int _)
  ·obtain⟨x,rfl,cx⟩:=dL c
   obtain rfl:=cx.str
   exact .inr (.inl ⟨_,rfl,hU h.1,h.2 _ H (aK.refl _) (Rep.int _)⟩)
  ·obtain⟨x,rfl,cx⟩:=dL c
   obtain⟨a,ys,rfl,ea,ra⟩:=cx.dik
   refine .inr (.inr ⟨a,ys,rfl,ea,?_⟩)
   rw[ra.length]
   exact h _ H (aK.refl _) (Rep.int _)
  ·exact h.elim
noncomputable def Ak:List Dv->(R->Prop)->Prop
 | [.int i],Q=>Q (.v (.int (if i<0 then -i else i)))
 |_,_=>False
theorem BN:lZ X (.builtin "abs") Ak:=by
 refine⟨fun ds Q Q' w h=>?_,_,GS,fun M O H xs ds Q c h=>?_⟩
 ·unfold Ak at *
  split at h<;>first | exact w _ h | exact h
 ·unfold Ak at h
  split at h
  ·obtain⟨x,rfl,cx⟩:=dL c
   obtain rfl:=cx.int
   exact⟨_,rfl,h _ H (aK.refl _) (Rep.int _)⟩
  ·exact h.elim
noncomputable def rY:List Dv->(R->Prop)->Prop
 | [.int i,.int j],Q=>Q (.v (.int (if j<i then j else i)))
 |_,_=>False
noncomputable def M1:List Dv->(R->Prop)->Prop
 | [.int i,.int j],Q=>Q (.v (.int (if j > i then j else i)))
 |_,_=>False
theorem CQ(hc:X.calm=true):lZ X (.builtin "min") rY:=by
 refine⟨fun ds Q Q' w h=>?_,_,Dh hc,fun M O H xs ds Q c h=>?_⟩
 ·unfold rY at *
  split at h<;>first | exact w _ h | exact h
 ·unfold rY at h
  split at h
  ·obtain⟨x,y,rfl,cx,cy⟩:=BJ c
   obtain rfl:=cx.int
   obtain rfl:=cy.int
   exact⟨_,_,rfl,h _ H (aK.refl _) (Rep.int _)⟩
  ·exact h.elim
noncomputable def Aj:List Dv->(R->Prop)->Prop
 | [.lst ds],Q=>∃ns:List Int,ds=ns.map .int/\Q (.v (.int ns.sum))
 |_,_=>False
noncomputable def F5:List Dv->(R->Prop)->Prop
 | [.lst ds],Q=>∃bs:List Bool,ds=bs.map .bl/\Q (.v (.bl (bs.all _root_.id)))
 |_,_=>False
theorem Reps.of_ints{K:W.Frag}{M:Addr->Prop}{H:Hp}:∀{xs:List V} {ns:List Int},Reps K M H xs (ns.map .int)->xs=ns.map V.int
 |_,[],.nil=>rfl
 |_,n::r,.cons a t=>by cases a;rw[Reps.of_ints t];rfl
theorem Reps.of_bls{K:W.Frag}{M:Addr->Prop}{H:Hp}:∀{xs:List V} {ns:List Bool},Reps K M H xs (ns.map .bl)->xs=ns.map V.bl
 |_,[],.nil=>rfl
 |_,n::r,.cons a t=>by cases a;rw[Reps.of_bls t];rfl
theorem BK(hc:X.N=X.N):lZ X (.builtin "sum") Aj:=by
 refine⟨fun ds Q Q' w h=>?_,_,Dg hc,fun M O H xs ds Q c h=>?_⟩
 ·unfold Aj at *
  split at h
  ·obtain⟨ns,e,h⟩:=h;exact⟨ns,e,w _ h⟩
  ·exact h
 ·unfold Aj at h
  split at h
  ·obtain⟨ns,rfl,h⟩:=h
   obtain⟨x,rfl,cx⟩:=dL c
   obtain⟨a,ys,rfl,ea,ra⟩:=cx.lst
   obtain rfl:=ra.of_ints
   exact⟨a,ns,rfl,eJ.of ea,h _ H (aK.refl _) (Rep.int _)⟩
  ·exact h.elim
theorem Kv(hc:X.calm=true):lZ X (.builtin "all") F5:=by
 refine⟨fun ds Q Q' w h=>?_,_,Dj hc,fun M O H xs ds Q c h=>?_⟩
 ·unfold F5 at *
  split at h
  ·obtain⟨ns,e,h⟩:=h;exact⟨ns,e,w _ h⟩
  ·exact h
 ·unfold F5 at h
  split at h
  ·obtain⟨ns,rfl,h⟩:=h
   obtain⟨x,rfl,cx⟩:=dL c
   obtain⟨a,ys,rfl,ea,ra⟩:=cx.lst
   obtain rfl:=ra.of_bls
   exact⟨a,ns,rfl,eJ.of ea,h _ H (aK.refl _) (Rep.bl _)⟩
  ·exact h.elim
noncomputable def jE:List Dv->(R->Prop)->Prop
 | [.lst ds],Q=>Q (.nw (.lst ds))
 | [.tup ds],Q=>Q (.nw (.lst ds))
 | [.scr ns],Q=>Q (.nw (.lst (ns.map .int)))
 |_,_=>False
theorem oK:lZ X (.type "list") jE:=by
 refine⟨fun ds Q Q' w h=>?_,_,xC,fun M O H xs ds Q c h=>?_⟩
 ·unfold jE at *
  split at h<;>first | exact w _ h | exact h
 ·unfold jE at h
  split at h
  ·obtain⟨x,rfl,cx⟩:=dL c
   obtain⟨a,ys,rfl,ea,ra⟩:=cx.lst
   exact⟨a,ys,rfl,.inl (eJ.of ea),fun l hl=>h _ _ (aK.new' hl) (j4 hl ra)⟩
  ·obtain⟨x,rfl,cx⟩:=dL c
   obtain⟨a,ys,rfl,ea,ra⟩:=cx.tup
   exact⟨a,ys,rfl,.inr (lY.of ea),fun l hl=>h _ _ (aK.new' hl) (j4 hl ra)⟩
  ·obtain⟨x,rfl,cx⟩:=dL c
   obtain⟨a,rfl,ea⟩:=cx.scr
   exact⟨a,_,rfl,.inl ea.sq,fun l hl=>h _ _ (aK.new' hl) (j4 hl (Reps.ints _))⟩
  ·exact h.elim
noncomputable def dX:List Dv->(R->Prop)->Prop
 | [.lst ds],Q=>Q (.v (.tup ds))
 | [.tup ds],Q=>Q (.v (.tup ds))
 |_,_=>False
theorem fY:lZ X (.type "tuple") dX:=by
 refine⟨fun ds Q Q' w h=>?_,_,tU,fun M O H xs ds Q c h=>?_⟩
 ·unfold dX at *
  split at h<;>first | exact w _ h | exact h
 ·unfold dX at h
  split at h
  ·obtain⟨x,rfl,cx⟩:=dL c
   obtain⟨a,ys,rfl,ea,ra⟩:=cx.lst
   exact⟨a,ys,rfl,.inl ⟨eJ.of ea,fun l hl=>h _ _ (aK.new' hl) (IU hl ra)⟩⟩
  ·obtain⟨x,rfl,cx⟩:=dL c
   obtain⟨a,ys,rfl,ea,ra⟩:=cx.tup
   exact⟨a,ys,rfl,.inr ⟨lY.of ea,h _ H (aK.refl _) (Rep.tup ea ra)⟩⟩
  ·exact h.elim
noncomputable def NB:Dv->String
 | .non=>"NoneType"
 | .bl _=>"bool"
 | .int _=>"int"
 | .str _=>"str"
 | .tup _=>"tuple"
 | .lst _=>"list"
 | .scr _=>"list"
 | .dik _=>"dict"
 | .dit _=>"dict"
 | .obj _ _=>""
 | .exc _ _=>""
 | .dns _=>""
noncomputable def Hx(T:String)(d:Dv):Bool:=NB d==T || (T == "int" && NB d == "bool")
noncomputable def xO:Dv->Bool
 | .obj _ _=>false
 | .exc _ _=>false
 | .dns _=>false
 | .scr _=>false
 |_=>true
noncomputable def tP(T:String)(te:d3):d3:=fun ρ Q=>te ρ fun r=>xO r.d=true/\Q (.v (.bl (Hx T r.d)))
theorem Hr{K:W.Frag}{T:String}(hT:T = "int" \/ T = "bool" \/ T = "tuple" \/ T = "list" \/ T = "str")(d:Dv)(ho:xO d=true):W.kitOne K (.type (NB d)) (.type T)=some (Hx T d):=by
 rcases hT with rfl | rfl | rfl | rfl | rfl<;>cases d<;>first | (simp[xO] at ho;done) | with_unfolding_all rfl
theorem cY.ty{K:W.Frag}{M:Addr->Prop}{H:Hp}{x:V}{d:Dv}(c:cY K M H x d)(ho:xO d=true):TyOf K H x (.type (NB d)):=by
 cases d with
 |non=>obtain rfl:=c.non;exact .non
 |bl b=>obtain rfl:=c.bl;exact .bl b
 |int i=>obtain rfl:=c.int;exact .int i
 |str y=>obtain rfl:=c.str;exact .str y
 |tup ds=>obtain⟨a,xs,rfl,e,_⟩:=c.tup;exact .tup e
 |lst ds=>obtain⟨a,xs,rfl,e,_⟩:=c.lst;exact .lst e
 |dik ds=>obtain⟨a,xs,rfl,e,_⟩:=c.dik;exact .dK e
 |dit ds=>obtain⟨a,ep,xs,rfl,e,_⟩:=c.dit;exact .dT e
 |obj C fs=>simp[xO] at ho
 |scr ns=>simp[xO] at ho
 |exc C p=>simp[xO] at ho
 |dns ks=>simp[xO] at ho
theorem rT{te:d3}{p2:Pos}(hT:T = "int" \/ T = "bool" \/ T = "tuple" \/ T = "list" \/ T = "str")(hg:Gl X "isinstance")(hm:X.mg "isinstance" = none)(ha:QE X e te)(hty:PE X (.Name x p2) (tC (.ty T)))
  (he:autoParam (starEach [e,.Name x p2] X.env=(false,eval e X.env)::starEach [.Name x p2] X.env) cB._auto_1) (he2:autoParam (starEach [Expr.Name x p2] X.env=(false,eval (.Name x p2) X.env)::starEach [] X.env) cB._auto_1) (hpl:autoParam ((backTo pos (starEach [.Name x p2] X.env)).any (·.1)=false) cB._auto_1):
  QE X (.Call (.Name "isinstance" p) [e,.Name x p2] [] pos) (tP T te):=by
 refine⟨fun ρ Q Q' w q=>ha.mono _ _ _ (fun r q=>⟨q.1,w _ q.2⟩) q,fun HZ F=>cS (yB GR hg hm boot_isinstance (iS (ha.run HZ F) (iS hty mL he2) he) ∅ ∅ he hpl) fun σ H Q zz=>?_⟩
 obtain⟨ρ,fr,h⟩:=zz
 refine ha.step fr h fun r x H1 q S1 r1=>?_
 exact⟨x,T,_,_,rfl,r1.c.ty q.1,Hr hT _ q.1,q.2 _ H1 S1 (Rep.bl _)⟩
end
noncomputable def kD:cW->Dv
 | .inl i=>.int i
 | .inr x=>.str x
noncomputable def cO:Dv->Dv->(R->Prop)->Prop
 | .lst xs,.int i,Q=>match jH xs i with
  |some d=>Q (.v d)
  |none=>False
 | .tup xs,.int i,Q=>match jH xs i with
  |some d=>Q (.v d)
  |none=>False
 | .scr ns,.int i,Q=>match jH ns i with
  |some n=>Q (.v (.int n))
  |none=>False
 | .str z,.int i,Q=>z.length<=xN/\match jH z.cps.toList i with
  |some c=>Q (.v (.str ⟨#[c]⟩))
  |none=>False
 | .dik kvs,.int i,Q=>match kvs.find? (fun kv=>decide (kv.1=Sum.inl i)) with
  |some kv=>Q (.v kv.2)
  |none=>False
 | .dik kvs,.str x,Q=>match kvs.find? (fun kv=>decide (kv.1=Sum.inr x)) with
  |some kv=>Q (.v kv.2)
  |none=>False
 | .dit kvs,.tup ds,Q=>∃k:List cW,ds=k.map kD/\match kvs.find? (fun kv=>decide (kv.1=k)) with
  |some kv=>Q (.v kv.2)
  |none=>False
 |_,_,_=>False
section
variable {X:Cx} {a b e:Expr} {ta tb te:d3} {pos:Pos}
theorem Reps.at{K:W.Frag}{M:Addr->Prop}{H:Hp}{xs:List V}{ds:List Dv}{i:Int}{d:Dv}(r:Reps K M H xs ds)(h:jH ds i=some d):∃x,jH xs i=some x/\Rep K M H x d:=by
 unfold jH at *
 rw[r.length]
 cases e:oQ ds.length i with
 |none=>rw[e] at h;cases h
 |some j=>
  rw[e] at h
  obtain⟨x,hx,rx⟩:=r.get (i:=j) h
  exact⟨x,hx,rx⟩
theorem IP{α β:Type}{f:α->β}{l:List α}{i:Int}:jH (l.map f) i=(jH l i).map f:=by
 unfold jH
 rw[length_map]
 cases oQ l.length i with
 |none=>rfl
 |some j=>simp
theorem RepK.val{K:W.Frag}{M:Addr->Prop}{H:Hp}{k:cW}{xs:List (cW×V)}{ds:List (cW×Dv)}(r:RepK K M H xs ds):(∀kv,ds.find? (fun kv=>decide (kv.1=k))=some kv -> ∃x,jK xs k=some x/\Rep K M H x kv.2)/\(ds.find? (fun kv=>decide (kv.1=k))=none->jK xs k=none):=
 r.ind (P:=fun xs ds=>(∀kv,ds.find? (fun kv=>decide (kv.1=k))=some kv -> ∃x,jK xs k=some x/\Rep K M H x kv.2)/\(ds.find? (fun kv=>decide (kv.1=k))=none->jK xs k=none)) ⟨fun _ h=>(by cases h),fun _=>rfl⟩ fun k' x d xs ds a _ ih=>by
  by_cases e:k'=k
  ·rw[List.find?_cons_of_pos (by simpa using e),nE e]
   exact⟨fun kv h=>by cases h;exact⟨x,rfl,a⟩,fun h=>by cases h⟩
  ·rw[List.find?_cons_of_neg (by simpa using e),nG e]
   exact ih
theorem RepT.val{K:W.Frag}{M:Addr->Prop}{H:Hp}{k:List cW}{xs:List (List cW×V)}{ds:List (List cW×Dv)}(r:RepT K M H xs ds):(∀kv,ds.find? (fun kv=>decide (kv.1=k))=some kv -> ∃x,jK xs k=some x/\Rep K M H x kv.2)/\(ds.find? (fun kv=>decide (kv.1=k))=none->jK xs k=none):=
 r.ind (P:=fun xs ds=>(∀kv,ds.find? (fun kv=>decide (kv.1=k))=some kv -> ∃x,jK xs k=some x/\Rep K M H x kv.2)/\(ds.find? (fun kv=>decide (kv.1=k))=none->jK xs k=none)) ⟨fun _ h=>(by cases h),fun _=>rfl⟩ fun k' x d xs ds a _ ih=>by
  by_cases e:k'=k
  ·rw[List.find?_cons_of_pos (by simpa using e),nE e]
   exact⟨fun kv h=>by cases h;exact⟨x,rfl,a⟩,fun h=>by cases h⟩
  ·rw[List.find?_cons_of_neg (by simpa using e),nG e]
   exact ih
theorem Reps.keys{K:W.Frag}{M:Addr->Prop}{H:Hp}:∀{xs:List V} {k:List cW},Reps K M H xs (k.map kD)->xs=k.map kV
 |_,[],.nil=>rfl
 |_,.inl i::r,.cons a t=>by cases a;rw[Reps.keys t];rfl
 |_,.inr x::r,.cons a t=>by cases a;rw[Reps.keys t];rfl
noncomputable def NY:R2:=fun x y H Q=>∃a v,x=.ref a/\u0 H a y (some v)/\Q v H
theorem Hv(hu:X.A.units+1<cLine):Gd X NY:=by
 intro value slice pj s σ H x y v u Q I rx ry h hs
 obtain⟨a,z,rfl,g,q⟩:=h
 cases rx
 have hT:=zW I g
 unfold subscriptTail
 refine wpAny_bind ?_
 rw[getitemInPython_of_ne hT.not_modules]
 refine wpAny_bind (wpAny_specialOf hT PySem.F.slot_dict_getitem.lookup ?_)
 have fin:wpAny (model X.prog X.w) X.A (subscripted slice false (.ref a) u) (fun r s₃=>wpAny (model X.prog X.w) X.A (letTemporaryGo value (.ref a) r >>= fun _=>pure r) (EP X pj σ Q) X.xe s₃) X.xe s:=by
  rw[hs]
  exact wpAny_operating (wpAny_mono (De hu I g ry fun w' s' I' rw'=>show EP X pj σ Q w' s' from⟨z,H,I',rw',q⟩) (fun r s₃ h₃=>wpAny_bind (wpAny_letTemporaryGo (wpAny_pure h₃))) fun _ _ x=>x)
 first
  |exact wpAny_pure (wpAny_bind fin)
  |exact wpAny_bind (wpAny_pure (wpAny_bind fin))
  |exact wpAny_bind fin
theorem yQ:∀dx dy (Q Q':R->Prop),(∀r,Q r->Q' r)->cO dx dy Q->cO dx dy Q':=by
 intro dx dy Q Q' w h
 unfold cO at *
 split at h
 ·split at h
  ·exact w _ h
  ·exact h
 ·split at h
  ·exact w _ h
  ·exact h
 ·split at h
  ·exact w _ h
  ·exact h
 ·refine⟨h.1,?_⟩
  have h2:=h.2
  split at h2
  ·exact w _ h2
  ·exact h2
 ·split at h
  ·exact w _ h
  ·exact h
 ·split at h
  ·exact w _ h
  ·exact h
 ·obtain⟨k,e,h⟩:=h
  refine⟨k,e,?_⟩
  split at h
  ·exact w _ h
  ·exact h
 ·exact h
theorem bN(hu:X.A.units+1<cLine)(ha:QE X a ta)(hb:QE X b tb)(hs:autoParam (CU b) OK._auto_1):QE X (.Subscript a b pos) (aQ cO ta tb):=by
 refine⟨oF ha hb yQ,fun HZ F=>cS (Lq (Kd.or (Hv hu)) (ha.run HZ F) (hb.run HZ F) hs) (qV ha hb (fun M O H x y dx dy Q cx cy h=>?_) yQ HZ F)⟩
 unfold cO at h
 split at h
 ·rename_i xs i
  split at h
  ·rename_i d hd
   obtain⟨p,vs,rfl,ea,ra⟩:=cx.lst
   obtain rfl:=cy.int
   obtain⟨z,hz,rz⟩:=ra.at hd
   exact .inl (.inl ⟨p,vs,i,z,rfl,rfl,eJ.of ea,hz,h _ H (aK.refl _) rz⟩)
  ·exact h.elim
 ·rename_i xs i
  split at h
  ·rename_i d hd
   obtain⟨p,vs,rfl,ea,ra⟩:=cx.tup
   obtain rfl:=cy.int
   obtain⟨z,hz,rz⟩:=ra.at hd
   exact .inl (.inr (.inl ⟨p,vs,i,z,rfl,rfl,lY.of ea,hz,h _ H (aK.refl _) rz⟩))
  ·exact h.elim
 ·rename_i ns i
  split at h
  ·rename_i n hn
   obtain⟨p,rfl,ea⟩:=cx.scr
   obtain rfl:=cy.int
   refine .inl (.inl ⟨p,_,i,.int n,rfl,rfl,ea.sq,?_,h _ H (aK.refl _) (Rep.int _)⟩)
   rw[IP,hn]
   rfl
  ·exact h.elim
 ·rename_i z i
  obtain⟨hl,h⟩:=h
  split at h
  ·rename_i c hc
   obtain rfl:=cx.str
   obtain rfl:=cy.int
   exact .inl (.inr (.inr ⟨z,i,c,rfl,rfl,hU hl,hc,h _ H (aK.refl _) (Rep.str _)⟩))
  ·exact h.elim
 ·split at h
  ·rename_i kv hk
   obtain⟨p,kvs,rfl,ea,ra⟩:=cx.dik
   obtain rfl:=cy.int
   obtain⟨z,hz,rz⟩:=ra.val.1 kv hk
   exact .inr ⟨p,z,rfl,by rw[<- hz];exact u0.k (k:=Sum.inl _) ea,h _ H (aK.refl _) rz⟩
  ·exact h.elim
 ·split at h
  ·rename_i kv hk
   obtain⟨p,kvs,rfl,ea,ra⟩:=cx.dik
   obtain rfl:=cy.str
   obtain⟨z,hz,rz⟩:=ra.val.1 kv hk
   exact .inr ⟨p,z,rfl,by rw[<- hz];exact u0.k (k:=Sum.inr _) ea,h _ H (aK.refl _) rz⟩
  ·exact h.elim
 ·obtain⟨k,rfl,h⟩:=h
  split at h
  ·rename_i kv hk
   obtain⟨p,ep,kvs,rfl,ea,ra⟩:=cx.dit
   obtain⟨b,ys,rfl,eb,rb⟩:=cy.tup
   obtain rfl:=rb.keys
   obtain⟨z,hz,rz⟩:=ra.val.1 kv hk
   exact .inr ⟨p,z,rfl,by rw[<- hz];exact u0.t ea eb,h _ H (aK.refl _) rz⟩
  ·exact h.elim
 ·exact h.elim
noncomputable abbrev Mq:=List Sl->(Option Int->Prop)->Prop
structure QO(X:Cx)(e:Option Expr)(t:Mq):Prop where
 mono:∀(ρ:List Sl) (Q Q':Option Int->Prop),(∀r,Q r->Q' r)->t ρ Q->t ρ Q'
 run:∀(HZ:Hp) (F:Addr->Prop),PO X e (fun σ H Q=>∃ρ,Fr X.K HZ F σ H ρ/\t ρ fun o=>∀H',aK H H'->Q o H')
noncomputable def fU:Mq:=fun _ Q=>Q none
noncomputable def kX(te:d3):Mq:=fun ρ Q=>te ρ fun r=>match r.d with
 | .int i=>Q (some i)
 |_=>False
theorem GX{e:Option Expr}{t t':TO}(h:PO X e t)(w:∀σ H Q,t' σ H Q->t σ H Q):PO X e t':=fun pj s σ H Q I q=>h pj s σ H Q I (w σ H Q q)
theorem jS:QO X none fU:=⟨fun _ _ _ w q=>w _ q,fun HZ F=>GX HE fun σ H Q zq4=>by obtain⟨ρ,fr,q⟩:=zq4;exact q H (aK.refl _)⟩
theorem jR(h:QE X e te):QO X (some e) (kX te):=by
 refine⟨fun ρ Q Q' w q=>h.mono _ _ _ (fun r q=>?_) q,fun HZ F=>GX (HD (h.run HZ F)) fun σ H Q ⟨ρ,fr,q⟩=>?_⟩
 ·split at q
  ·exact w _ q
  ·exact q
 ·refine h.step fr q fun r x H1 q S1 r1=>?_
  split at q
  ·rename_i i e
   have c:=r1.c
   rw[e] at c
   exact⟨i,c.int,q H1 S1⟩
  ·exact q.elim
noncomputable def cut{α:Type}(xs:List α)(lo hi:Option Int):List α:=(xs.drop (HT.fE xs.length 0 lo)).take (HT.fE xs.length xs.length hi-HT.fE xs.length 0 lo)
noncomputable def Iv:Dv->Option Int->Option Int->(R->Prop)->Prop
 | .lst xs,lo,hi,Q=>Q (.nw (.lst (cut xs lo hi)))
 | .scr ns,lo,hi,Q=>Q (.nw (.lst ((cut ns lo hi).map .int)))
 | .tup xs,lo,hi,Q=>¬(HT.fE xs.length 0 lo=0/\HT.fE xs.length xs.length hi=xs.length)/\Q (.v (.tup (cut xs lo hi)))
 |_,_,_,_=>False
noncomputable def GI(te:d3)(tl th:Mq):d3:=fun ρ Q=>te ρ fun r=>tl ρ fun lo=>th ρ fun hi=>Iv r.d lo hi Q
theorem Eo:∀d lo hi (Q Q':R->Prop),(∀r,Q r->Q' r)->Iv d lo hi Q->Iv d lo hi Q':=by
 intro d lo hi Q Q' w h
 unfold Iv at *
 split at h<;>first | exact w _ h | exact⟨h.1,w _ h.2⟩ | exact h
theorem Reps.cut{K:W.Frag}{M:Addr->Prop}{H:Hp}{xs:List V}{ds:List Dv}(r:Reps K M H xs ds)(lo hi:Option Int):Reps K M H (zZ xs lo hi) (Z.cut ds lo hi):=by
 unfold zZ Z.cut
 rw[r.length]
 exact(r.drop _).take _
theorem jT{lo hi:Option Expr}{tl th:Mq}{p2:Pos}(he:QE X e te)(hl:QO X lo tl)(hh:QO X hi th):QE X (.Subscript e (.Slice lo hi none p2) pos) (GI te tl th):=by
 refine⟨fun ρ Q Q' w q=>he.mono _ _ _ (fun r q=>hl.mono _ _ _ (fun l q=>hh.mono _ _ _ (fun u q=>Eo _ _ _ _ _ w q) q) q) q,fun HZ F=>cS (Ee (Gk.or JV) (he.run HZ F) (hl.run HZ F) (hh.run HZ F)) fun σ H Q zz=>?_⟩
 obtain⟨ρ,fr,q⟩:=zz
 refine he.step fr q fun r x H1 q S1 r1=>?_
 refine⟨ρ,fr.mono S1,hl.mono _ _ _ (fun l q H2 S2=>?_) q⟩
 refine⟨ρ,(fr.mono S1).mono S2,hh.mono _ _ _ (fun u q H3 S3=>?_) q⟩
 have S13:=(S1.trans S2).trans S3
 have c:=(r1.mono (S2.trans S3)).c
 generalize r.d=d at q c
 unfold Iv at q
 split at q
 ·obtain⟨a,xs,rfl,ea,ra⟩:=c.lst
  exact .inl ⟨a,xs,rfl,eJ.of ea,fun p hp=>q _ _ (S13.trans (aK.new' hp)) ((j4 hp (ra.cut _ _)).ahead S13)⟩
 ·obtain⟨a,rfl,ea⟩:=c.scr
  refine .inl ⟨a,_,rfl,ea.sq,fun p hp=>q _ _ (S13.trans (aK.new' hp)) (d9.ahead (j4 hp ?_) S13)⟩
  have:∀(ns:List Int) l u,(Z.cut ns l u).map Dv.int=Z.cut (ns.map Dv.int) l u:=fun ns l u=>by
   unfold Z.cut
   simp[map_take,map_drop]
  rw[this]
  exact(Reps.ints _).cut _ _
 ·obtain⟨a,xs,rfl,ea,ra⟩:=c.tup
  exact .inr ⟨a,xs,rfl,lY.of ea,by rw[ra.length];exact q.1,fun p hp=>q.2 _ _ (S13.trans (aK.new' hp)) (d9.ahead (IU hp (ra.cut _ _)) S13)⟩
 ·exact q.elim
end
section
variable {X:Cx} {a b c e:Expr} {ta tb tc te:d3} {pos:Pos}
theorem Gu{op op':CmpOp}{f f':Int->Int->Bool}(ho:k9 X (compareOp op) (Ab fun i j=>.bl (f i j)))(ho':k9 X (compareOp op') (Ab fun i j=>.bl (f' i j)))(ha:QE X a ta)(hb:QE X b tb)(hc:QE X c tc)
  (hm:autoParam (lastMarks [op,op'] [b,c]=false) NA._auto_1):QE X (.Compare a [op,op'] [b,c] pos) (pK (vO f) (vO f') ta tb tc):=by
 refine⟨fun ρ Q Q' w q=>ha.mono _ _ _ (fun rx q=>hb.mono _ _ _ (fun ry q=>rZ _ _ _ _ (fun z q=>?_) q) q) q,fun HZ F=>cS (Ej ho ho' (ha.run HZ F) (hb.run HZ F) (hc.run HZ F) hm) fun σ H Q ⟨ρ,fr,q⟩=>?_⟩
 ·split at q
  ·split at q
   ·rw[if_pos ‹_›];exact hc.mono _ _ _ (fun w' q=>rZ _ _ _ _ w q) q
   ·rw[if_neg ‹_›];exact w _ q
  ·exact q
 ·refine ha.step fr q fun rx x H1 q1 S1 r1=>?_
  refine hb.step (fr.mono S1) q1 fun ry y H2 q2 S2 r2=>?_
  have cx:=(r1.mono S2).c
  have cy:=r2.c
  generalize rx.d=dx at q2 cx
  generalize ry.d=dy at q2 cy
  unfold vO at q2
  split at q2
  ·rename_i Q2 i j
   obtain rfl:=cx.int
   obtain rfl:=cy.int
   refine⟨_,_,rfl,rfl,f i j,rfl,?_⟩
   have S12:=S1.trans S2
   replace q2:=(show (if f i j=true then tc ρ (fun w=>vO f' (.int j) w.d (fun r=>∀x H',aK H H'->d9 X.K (MM F ρ) (Z.tZ ρ) H x r H'->Q x H')) else (∀x H',aK H H'->d9 X.K (MM F ρ) (Z.tZ ρ) H x (.v (.bl false)) H'->Q x H')) from q2)
   cases h:f i j with
   |true=>
    rw[h] at q2
    simp only[if_true] at q2
    refine tL (hc.step ((fr.mono S1).mono S2) q2 fun rw' z H3 q3 S3 r3=>?_)
    have cz:=r3.c
    generalize rw'.d=dz at q3 cz
    cases dz with
    |int l=>
     obtain rfl:=cz.int
     exact⟨_,_,rfl,rfl,q3 _ H3 (S12.trans S3) (Rep.bl _)⟩
    |_=>exact(show False from q3).elim
   |false=>
    rw[h] at q2
    simp only[Bool.false_eq_true,if_false] at q2
    exact tM (q2 _ H2 S12 (Rep.bl _))
  ·exact q2.elim
noncomputable def lQ:Dv->Option Bool
 | .non=>some false
 | .bl b=>some b
 | .int i=>some (i != 0)
 | .lst xs=>some (!xs.isEmpty)
 | .tup xs=>some (!xs.isEmpty)
 | .dik xs=>some (!xs.isEmpty)
 | .scr xs=>some (!xs.isEmpty)
 |_=>none
noncomputable def lT(te:d3):lH:=fun ρ Q=>te ρ fun r=>match lQ r.d with
 |some k=>Q k
 |none=>False
theorem Reps.empty{K:W.Frag}{M:Addr->Prop}{H:Hp}{xs:List V}{ds:List Dv}(r:Reps K M H xs ds):xs.isEmpty=ds.isEmpty:=by cases r<;>rfl
theorem gE(h:QE X e te)(he:autoParam (∀whole,isTrue e X.env whole=(do let v <- whole;standAt e.pos;holding [v] (truthy v))) Ga._auto_1):QT X e (lT te):=by
 refine⟨fun ρ Q Q' w q=>h.mono _ _ _ (fun r q=>?_) q,fun HZ F=>xJ (ES (h.run HZ F) he) fun σ H Q ⟨ρ,fr,q⟩=>?_⟩
 ·split at q
  ·exact w _ q
  ·exact q
 ·refine h.step fr q fun r x H1 q S1 r1=>?_
  have cx:=r1.c
  generalize r.d=d at q cx
  split at q
  ·rename_i k hk
   refine⟨k,?_,q H1 S1⟩
   cases d with
   |non=>obtain rfl:=cx.non;simp only[lQ,Option.some.injEq] at hk;subst hk;rfl
   |bl b=>obtain rfl:=cx.bl;simp only[lQ,Option.some.injEq] at hk;exact hk.symm
   |int i=>obtain rfl:=cx.int;simp only[lQ,Option.some.injEq] at hk;exact hk.symm
   |lst ds=>
    obtain⟨a,xs,rfl,ea,ra⟩:=cx.lst
    simp only[lQ,Option.some.injEq] at hk
    exact .inl ⟨xs,eJ.of ea,by rw[ra.empty];exact hk.symm⟩
   |tup ds=>
    obtain⟨a,xs,rfl,ea,ra⟩:=cx.tup
    simp only[lQ,Option.some.injEq] at hk
    exact .inr (.inl ⟨xs,lY.of ea,by rw[ra.empty];exact hk.symm⟩)
   |dik ds=>
    obtain⟨a,xs,rfl,ea,ra⟩:=cx.dik
    simp only[lQ,Option.some.injEq] at hk
    exact .inr (.inr ⟨xs,ea,by rw[<- hk];cases ra<;>rfl⟩)
   |scr ns=>
    obtain⟨a,rfl,ea⟩:=cx.scr
    simp only[lQ,Option.some.injEq] at hk
    exact .inl ⟨_,ea.sq,by rw[<- hk];cases ns<;>rfl⟩
   |_=>simp[lQ] at hk
  ·exact q.elim
end
noncomputable abbrev Fn:=List Dv->(R->Prop)->Prop
inductive low(K:W.Frag)(sp:Fn)(vs:List V)(H:Hp)(Q:VK)(E:XK):Prop
 |mk (F:Addr->Prop) (ds:List Dv) (hF:OldF K F H) (r:Reps K F H vs ds) (q:sp ds (fun r=>∀x H',aK H H'->d9 K F AA H x r H'->Q x H'))
structure MonoF(sp:Fn):Prop where
 mo:∀ds (Q Q':R->Prop),(∀r,Q r->Q' r)->sp ds Q->sp ds Q'
structure Def(P:Program)(w:World)(K:W.Frag)(mg:Str->Option Value)(base:Heap)(k:Nat)(x:Str)(ps:List Str)(sp:Sp):Prop where
 ex:∃f fd,mg x=some (.ref f)/\W.keepIn K (.ref f)=true/\iM K fd ps []/\FnOk P w K mg base u3 k f fd ps sp
structure At(K:W.Frag)(mg:Str->Option Value)(x nm:Str)(st:Stmt)(ps:List Str):Prop where
 ex:∃f fd,mg x=some (.ref f)/\Fun K nm nm st f fd/\iM K fd ps []
structure MDef(P:Program)(w:World)(K:W.Frag)(mg:Str->Option Value)(base:Heap)(k:Nat)(C:Addr)(m:Str)(ps:List Str)(sp:Sp):Prop where
 ex:∃f fd,Meth K C m f/\iM K fd ps []/\FnOk P w K mg base u3 k f fd ps sp
structure MAt(K:W.Frag)(C:Addr)(m qual:Str)(st:Stmt)(ps:List Str):Prop where
 ex:∃f fd,Meth K C m f/\Fun K m qual st f fd/\iM K fd ps []
theorem At.ok{P:Program}{w:World}{K:W.Frag}{mg:Str->Option Value}{base:Heap}{k:Nat}{x nm:Str}{st:Stmt}{ps N:List Str}{sp:Sp}(a:At K mg x nm st ps)(S:FnScope N ps (aF st))(len:∀vs H Q E,sp vs H Q E->vs.length=ps.length)
  (hbody:∀(f:Addr) (cdv:Value) (A:Around) (outer:List Env) (s:Shared) (H:Hp) (vs:List V) (Q:VK) (E:XK),Room k (A.deeper (envOfC nm (aF st) s.heap.objs.size f cdv))->sp vs H Q E ->
   ∃t,xL (n4 u3 P w K mg base N nm (aF st) f cdv A outer s H E).nox (d7 st) t/\t { nx:=fun _ H'=>Q .non H',rt:=Q } (start N vs) H):Def P w K mg base (k+1) x ps sp:=by
 obtain⟨f,fd,hm,F,hb⟩:=a.ex
 exact⟨f,fd,hm,F.kp,hb,F.ok S len (hbody f)⟩
theorem MAt.ok{P:Program}{w:World}{K:W.Frag}{mg:Str->Option Value}{base:Heap}{k:Nat}{C:Addr}{m qual:Str}{st:Stmt}{ps N:List Str}{sp:Sp}(a:MAt K C m qual st ps)(S:FnScope N ps (aF st))(len:∀vs H Q E,sp vs H Q E->vs.length=ps.length)
  (hbody:∀(f:Addr) (cdv:Value) (A:Around) (outer:List Env) (s:Shared) (H:Hp) (vs:List V) (Q:VK) (E:XK),Room k (A.deeper (envOfC qual (aF st) s.heap.objs.size f cdv))->sp vs H Q E ->
   ∃t,xL (n4 u3 P w K mg base N qual (aF st) f cdv A outer s H E).nox (d7 st) t/\t { nx:=fun _ H'=>Q .non H',rt:=Q } (start N vs) H):MDef P w K mg base (k+1) C m ps sp:=by
 obtain⟨f,fd,hm,F,hb⟩:=a.ex
 exact⟨f,fd,hm,hb,F.ok S len (hbody f)⟩
noncomputable def aJ(N:List Str)(ds:List Dv):List Sl:=ds.map .v++List.replicate (N.length-ds.length) .un
theorem rF{K:W.Frag}{F:Addr->Prop}{H:Hp}{N:List Str}{vs:List V}{ds:List Dv}(hF:OldF K F H)(r:Reps K F H vs ds):Fr K H F (start N vs) H (aJ N ds):=by
 have no:∀{a:Addr} {d:Dv},Sl.own a d∈aJ N ds->False:=fun {a d} h=>by
  rcases mem_append.mp h with h | h
  ·obtain⟨z,_,e⟩:=mem_map.mp h
   cases e
  ·cases eq_of_mem_replicate h
 have wk:∀a,MM F (aJ N ds) a->F a:=fun a h=>by
  rcases h with h | ⟨d,h⟩
  ·exact h
  ·exact(no h).elim
 have hl:=r.length
 refine⟨by simp[L2.start,aJ,hl],fun i s e=>?_,fun i j a d d' e _=>(no (mem_of_getElem? e)).elim,fun a d h=>(no h).elim,aK.refl _,hF⟩
 unfold aJ at e
 by_cases hi:i<ds.length
 ·rw[List.getElem?_append_left (by simpa using hi),List.getElem?_map] at e
  cases q:ds[i]? with
  |none=>rw[q] at e;cases e
  |some d=>
   rw[q] at e
   cases e
   obtain⟨x,hx,rx⟩:=r.get q
   refine⟨x,?_,rx.weak wk⟩
   unfold L2.start
   rw[List.getElem?_append_left (by simpa using(List.getElem?_eq_some_iff.mp hx).1),List.getElem?_map,hx]
   rfl
 ·rw[List.getElem?_append_right (by simpa using le_of_not_lt hi)] at e
  have:=mem_of_getElem? e
  cases eq_of_mem_replicate this
  trivial
theorem oM{X:Cx}{sts:List Stmt}{t:cD}{N:List Str}{H:Hp}{vs:List V}{Q:VK}{E:XK}{sp:Fn}(h:QSs X sts t)(hsp:∀ds Q,sp ds Q->t ↥Q (aJ N ds))(q:low X.K sp vs H Q E):
  ∃t',xL X sts t'/\t' { nx:=fun _ H'=>Q .non H',rt:=Q } (start N vs) H:=by
 obtain⟨F,ds,hF,r,q⟩:=q
 exact⟨_,h.run H F,aJ N ds,_,rF hF r,hsp ds _ q,fun ρ σ H' fr q=>q .non H' fr.same Rep.non,fun _ _ _ _ z=>z.elim,fun _ _ _ _ z=>z.elim,fun rr x H' S rx q=>q x H' S rx⟩
theorem o9{K:W.Frag}{sp:Fn}{n:Nat}(h:∀ds Q,sp ds Q->ds.length=n):∀vs H Q E,low K sp vs H Q E->vs.length=n:=fun vs H Q E zq5=>by obtain⟨F,ds,_,r,q⟩:=zq5;(rw[r.length];exact h _ _ q)
theorem At.okP{P:Program}{w:World}{K:W.Frag}{mg:Str->Option Value}{base:Heap}{k:Nat}{x nm:Str}{st:Stmt}{ps N:List Str}{sp:Fn}{t:cD}(a:At K mg x nm st ps)(S:FnScope N ps (aF st))
  (hq:∀(f:Addr) (cdv:Value) (A:Around) (outer:List Env) (s:Shared) (H:Hp) (E:XK),Room k (A.deeper (envOfC nm (aF st) s.heap.objs.size f cdv))->QSs (n4 u3 P w K mg base N nm (aF st) f cdv A outer s H E).nox (d7 st) t)
  (len:∀ds Q,sp ds Q->ds.length=ps.length) (hsp:∀ds Q,sp ds Q->t ↥Q (aJ N ds)):Def P w K mg base (k+1) x ps (low K sp):=
 a.ok S (o9 len) fun f cdv A outer s H vs Q E hr q=>oM (hq f cdv A outer s H E hr) hsp q
theorem MAt.okP{P:Program}{w:World}{K:W.Frag}{mg:Str->Option Value}{base:Heap}{k:Nat}{C:Addr}{m qual:Str}{st:Stmt}{ps N:List Str}{sp:Fn}{t:cD}(a:MAt K C m qual st ps)(S:FnScope N ps (aF st))
  (hq:∀(f:Addr) (cdv:Value) (A:Around) (outer:List Env) (s:Shared) (H:Hp) (E:XK),Room k (A.deeper (envOfC qual (aF st) s.heap.objs.size f cdv))->QSs (n4 u3 P w K mg base N qual (aF st) f cdv A outer s H E).nox (d7 st) t)
  (len:∀ds Q,sp ds Q->ds.length=ps.length) (hsp:∀ds Q,sp ds Q->t ↥Q (aJ N ds)):MDef P w K mg base (k+1) C m ps (low K sp):=
 a.ok S (o9 len) fun f cdv A outer s H vs Q E hr q=>oM (hq f cdv A outer s H E hr) hsp q
noncomputable def R.flat:R->Bool
 | .v d=>iT d
 | .nw d=>GB d
 | .ow _ _=>false
noncomputable def back(rs:List R)(Q:R->Prop):R->Prop:=fun r=>(rs.all R.free=true \/ r.flat=true)/\Q r
noncomputable def bQ(sp:Fn)(ts:lI):d3:=fun ρ Q=>ts ρ fun rs=>sp (rs.map R.d) (back rs Q)
section
variable {K:W.Frag} {HZ H H1:Hp} {F:Addr->Prop} {σ:St} {ρ:List Sl}
noncomputable def lent(M:Addr->Prop)(rs:List R):Addr->Prop:=fun a=>M a /\ ∀d,R.ow a d ∉ rs
theorem pG(fr:Fr K HZ F σ H ρ){all:List R}:∀{xs:List V} {rs:List R},(∀r∈rs,r∈all)->Paired (fun x r=>d9 K (MM F ρ) (Z.tZ ρ) H x r H1) xs rs->Reps K (lent (MM F ρ) all) H1 xs (rs.map R.d)
 |_,_,_,.nil=>.nil
 |_,r::_,hs,.cons a t=>by
  refine .cons ?_ (pG fr (fun r hr=>hs r (by simp[hr])) t)
  have wk:∀a,lent (MM F ρ) all a->MM F ρ a:=fun a z=>z.1
  cases r with
  |v d=>exact Rep.weak wk a
  |nw d=>exact(d9.rep a (fun a m=>fr.dom m) rfl).weak wk
  |ow b d=>
   obtain⟨rfl,_,o⟩:=a
   exact(o.weak wk).rep fun z=>z.2 d (hs _ (by simp))
theorem GV{rs:List R}(h:rs.all R.free=true)(a:Addr)(d:Dv):R.ow a d ∉ rs:=fun z=>by
 have:=all_eq_true.mp h _ z
 simp[R.free] at this
theorem uK{rs:List R}{x:V}{r:R}{H':Hp}{O:Addr->Dv->Prop}(fr:Fr K HZ F σ H ρ)(S1:aK H H1)(h:d9 K (lent (MM F ρ) rs) AA H1 x r H')(f:rs.all R.free=true \/ r.flat=true):d9 K (MM F ρ) O H x r H':=by
 rcases f with f | f
 ·have wk:∀a,MM F ρ a->lent (MM F ρ) rs a:=fun a z=>⟨z,fun d=>GV f a d⟩
  cases r with
  |v d=>exact Rep.weak wk h
  |ow a d=>exact h.2.1.elim
  |nw d=>
   obtain⟨a,e,n,o⟩:=h
   exact⟨a,e,S1.free n,o.weak fun b z=>z.elim (fun z=>.inl (wk b z)) .inr⟩
 ·cases r with
  |v d=>exact Rep.flat f h
  |ow a d=>exact h.2.1.elim
  |nw d=>
   obtain⟨a,e,n,o⟩:=h
   exact⟨a,e,S1.free n,o.flat f⟩
end
section
variable {X:Cx} {k:Nat} {x:Str} {ps:List Str} {sp:Fn} {e o:Expr} {es:List Expr} {ts:lI} {to:d3} {p pos apos:Pos} {C:Addr} {m:Str}
theorem t0{rs:List R}{xs:List V}{HZ H H1:Hp}{F:Addr->Prop}{σ:St}{ρ:List Sl}{Q:VK}{E:XK}{Q':R->Prop}(mo:MonoF sp)(fr:Fr X.K HZ F σ H ρ)(S1:aK H H1)(r1:kB X.K (MM F ρ) (Z.tZ ρ) H xs rs H1)(q:sp (rs.map R.d) (back rs Q'))
  (w:∀r,Q' r -> ∀x H',aK H H'->d9 X.K (MM F ρ) (Z.tZ ρ) H x r H'->Q x H'):low X.K sp xs H1 Q E:=by
 refine⟨lent (MM F ρ) rs,_,⟨fun a z=>(fr.mono S1).dom z.1,(fr.mono S1).tab⟩,pG fr (fun _ h=>h) r1,mo.mo _ _ _ (fun r q x H' S rx=>?_) q⟩
 exact w r q.2 x H' (S1.trans S) (uK fr S1 rx q.1)
theorem lP{rs:List R}{Q Q':R->Prop}(w:∀r,Q r->Q' r):∀r,back rs Q r->back rs Q' r:=fun r h=>⟨h.1,w r h.2⟩
theorem bE(d:Def X.prog X.w X.K X.mg X.base k x ps (low X.K sp))(mo:MonoF sp)(hr:Room k X.A)(ha:QA X (e::es) ts)(hg:autoParam (Gl X x) cB._auto_1)
  (hdb:autoParam ((x==("__debug__" : Str))=false) nB._auto_1) (he:autoParam (starEach (e::es) X.env=(false,eval e X.env)::starEach es X.env) cB._auto_1) (hpl:autoParam ((backTo pos (starEach es X.env)).any (·.1)=false) cB._auto_1):
  QE X (.Call (.Name x p) (e::es) [] pos) (bQ sp ts):=by
 obtain⟨f,fd,hm,hk,hb,FO⟩:=d.ex
 refine⟨fun ρ Q Q' w q=>ha.mono _ _ _ (fun rs q=>mo.mo _ _ _ (lP w) q) q,fun HZ F=>cS (HL FO hr hg hm hk hb .nil Bj (ha.run HZ F) hdb he hpl) fun σ H Q zz=>?_⟩
 obtain⟨ρ,fr,h⟩:=zz
 refine ha.step fr h fun rs xs H1 q S1 r1=>?_
 rw[append_nil]
 exact t0 mo fr S1 r1 q fun r z=>z
noncomputable def iU(C:Addr)(m:Str)(sp:Fn)(to:d3)(ts:lI):d3:=fun ρ Q=>to ρ fun ro=>match ro.d with
 | .obj C' fs=>(C'=C/\fs.lookup m=none)/\ts ρ fun rs=>sp (ro.d::rs.map R.d) (back (ro::rs) Q)
 |_=>False
theorem RepF.lookup{K:W.Frag}{M:Addr->Prop}{H:Hp}{f:Str}{xs:List (Str×V)}{ds:List (Str×Dv)}(r:RepF K M H xs ds):(ds.lookup f=none->xs.lookup f=none) /\ ∀d,ds.lookup f=some d -> ∃x,xs.lookup f=some x/\Rep K M H x d:=
 r.ind (P:=fun xs ds=>(ds.lookup f=none->xs.lookup f=none) /\ ∀d,ds.lookup f=some d -> ∃x,xs.lookup f=some x/\Rep K M H x d) ⟨fun _=>rfl,fun d h=>by cases h⟩ fun k x d xs ds a _ ih=>by
  rw[lookup_cons,lookup_cons]
  cases h:f==k with
  |true=>
   refine⟨fun z=>?_,fun d' z=>?_⟩
   ·cases z
   ·cases z;exact⟨x,rfl,a⟩
  |false=>exact ih
theorem rS(c:Cls X.K C)(d:MDef X.prog X.w X.K X.mg X.base k C m ps (low X.K sp))(mo:MonoF sp)(hr:Room k X.A)(ho:QE X o to)(ha:QA X (e::es) ts){pl:Sem Bool}
  (hst:autoParam (starEach (e::es) X.env=(false,eval e X.env)::starEach es X.env) cB._auto_1) (hpl:autoParam ((backTo pos (starEach es X.env)).any (·.1)=false) cB._auto_1)
  (ht:autoParam (eval (.Call (.Attribute o m apos) (e::es) [] pos) X.env=(do
   let ov <- eval o X.env
   standAt apos.atName
   let (f,first) <- holding [ov] (getMethod ov m pl)
   callWith pos f first (backTo pos (starEach (e::es) X.env)) (backToKw pos (keywordEach [] X.env)))) cB._auto_1):
  QE X (.Call (.Attribute o m apos) (e::es) [] pos) (iU C m sp to ts):=by
 obtain⟨f,fd,hm,hb,FO⟩:=d.ex
 refine⟨fun ρ Q Q' w q=>ho.mono _ _ _ (fun ro q=>?_) q,fun HZ F=>cS (HH (pl:=pl) (ho.run HZ F) c hm FO hr hb .nil Bj (ha.run HZ F) hst hpl ht) fun σ H Q ⟨ρ,fr,h⟩=>?_⟩
 ·split at q
  ·exact⟨q.1,ha.mono _ _ _ (fun rs q=>mo.mo _ _ _ (lP w) q) q.2⟩
  ·exact q
 ·refine ho.step fr h fun ro x H1 q S1 r1=>?_
  split at q
  ·rename_i C' fs e
   obtain⟨⟨rfl,hl⟩,q⟩:=q
   have cx:=r1.c
   rw[e] at cx
   obtain⟨a,dx,fs',rfl,ea,ra⟩:=cx.obj
   refine⟨a,dx,fs',rfl,ea,ra.lookup.1 hl,ha.step (fr.mono S1) q fun rs xs H2 q S2 r2=>?_⟩
   rw[append_nil]
   exact t0 (rs:=ro::rs) (xs:=.ref a::xs) mo fr (S1.trans S2) (.cons (r1.mono S2) (r2.ahead S1)) q fun r z=>z
  ·exact q.elim
theorem qP(c:Cls X.K C)(d:MDef X.prog X.w X.K X.mg X.base k C m ps (low X.K sp))(mo:MonoF sp)(hr:Room k X.A)(ho:QE X o to){pl:Sem Bool}
  (ht:autoParam (eval (.Call (.Attribute o m apos) [] [] pos) X.env=(do
   let ov <- eval o X.env
   standAt apos.atName
   let (f,first) <- holding [ov] (getMethod ov m pl)
   callWith pos f first (backTo pos (starEach [] X.env)) (backToKw pos (keywordEach [] X.env)))) cB._auto_1):
  QE X (.Call (.Attribute o m apos) [] [] pos) (iU C m sp to aG):=by
 obtain⟨f,fd,hm,hb,FO⟩:=d.ex
 refine⟨fun ρ Q Q' w q=>ho.mono _ _ _ (fun ro q=>?_) q,fun HZ F=>cS (Ef (pl:=pl) (ho.run HZ F) c hm FO hr hb .nil Bj ht) fun σ H Q ⟨ρ,fr,h⟩=>?_⟩
 ·split at q
  ·exact⟨q.1,mo.mo _ _ _ (lP w) q.2⟩
  ·exact q
 ·refine ho.step fr h fun ro x H1 q S1 r1=>?_
  split at q
  ·rename_i C' fs e
   obtain⟨⟨rfl,hl⟩,q⟩:=q
   have cx:=r1.c
   rw[e] at cx
   obtain⟨a,dx,fs',rfl,ea,ra⟩:=cx.obj
   refine⟨a,dx,fs',rfl,ea,ra.lookup.1 hl,?_⟩
   exact t0 (rs:=[ro]) (xs:=[.ref a]) (E:=E0) mo fr S1 (.cons r1 .nil) q fun r z=>z
  ·exact q.elim
noncomputable def BB(C:Addr)(f:Str)(to:d3):d3:=fun ρ Q=>to ρ fun ro=>match ro.d with
 | .obj C' fs=>C'=C/\match fs.lookup f with
  |some d=>Q (.v d)
  |none=>False
 |_=>False
theorem Bd{f:Str}(c:Cls X.K C)(n:g6 X.K C f)(ho:QE X o to)(hb:autoParam (attributeBase o f X.env (eval o X.env)=eval o X.env) cB._auto_1):QE X (.Attribute o f pos) (BB C f to):=by
 refine⟨fun ρ Q Q' w q=>ho.mono _ _ _ (fun ro q=>?_) q,fun HZ F=>cS (Jw (ho.run HZ F) hb) fun σ H Q ⟨ρ,fr,h⟩=>?_⟩
 ·split at q
  ·refine⟨q.1,?_⟩
   have q2:=q.2
   split at q2
   ·exact w _ q2
   ·exact q2
  ·exact q
 ·refine ho.step fr h fun ro x H1 q S1 r1=>?_
  split at q
  ·rename_i C' fs e
   obtain⟨rfl,q⟩:=q
   have cx:=r1.c
   rw[e] at cx
   obtain⟨a,dx,fs',rfl,ea,ra⟩:=cx.obj
   split at q
   ·rename_i d hd
    obtain⟨z,hz,rz⟩:=ra.lookup.2 d hd
    exact⟨a,_,dx,fs',z,rfl,ea,c,n,hz,q _ H1 S1 rz⟩
   ·exact q.elim
  ·exact q.elim
end
end Z
namespace L2
section
variable {X:Cx} {tg:Expr}
noncomputable def L3(lo c:Int)(n:Nat):It:=⟨fun i _=>i<n,fun i H x H'=>H'=H/\x=.int (lo+i*c),fun i _=>n<=i⟩
theorem xP{P:Program}{w:World}{K:W.Frag}{tg:Expr}(it:Addr)(lo c:Int)(n:Nat):Turn P w K tg (L3 lo c n) [it] it (fun i h=>IsRangeIter h it (lo+(i:Nat)*c) ((n:Int)-(i:Nat)) c) where
 mem:=by simp
 obj:=fun i h st b hb=>by
  have e:b=it:=by simpa using hb
  subst e
  exact⟨_,st,fun v z=>by
   have z':Data.fields _=Data.cell v:=z
   cases z'⟩
 keep:=fun i h h' st k=>k it (by simp) _ st
 item:=by
  intro X hP hw hK hc i pj s σ H E I hf st hg
  subst hP hw hK
  obtain⟨f0,f1,f2,f3,f4,f5⟩:=hf it (by simp)
  refine sJ hg st fun v h' tk hv st' kk=>?_
  obtain⟨t,rfl⟩:=hv
  have I1:Inv X pj σ H { s with heap:=h',toks:=tk }:=I.turned (fun b o hb e=>kk b o (by simpa using hb) e) f0 f1 f3 f4 f5
  exact⟨_,rfl,uP (s:={ s with heap:=h',toks:=tk }) (n:="range_iterator") st' rfl rfl ∅ ⟨.int (lo+i*c),H,I1,⟨t,rfl⟩,⟨rfl,rfl⟩,st',fun b hb=>(hf b hb).1⟩⟩
 done:=by
  intro X hP hw hK hc i pj s σ H E I hf st hg
  subst hP hw hK
  obtain⟨f0,f1,f2,f3,f4,f5⟩:=hf it (by simp)
  exact uR I.qu st (by have:n<=i:=hg;ac_rfl) fun h' eb=>⟨rfl,I.turned (t':=s.toks) (fun b o hb e=>eb b o hb e) f0 f1 f3 f4 f5⟩
 self:=fun _ _ _ _ _ st h=>wpAny_pyIter_rangeiter st h
noncomputable def MC(ta:TA):TI:=fun σ H R=>ta σ H fun vs H1=>∃i j c:Int,vs=[.int i,.int j,.int c]/\c≠0/\c.natAbs<1000/\Builtin.Range.small i j c=true/\0<=Builtin.Range.rangeSize i j c/\R (L3 i c (Builtin.Range.rangeSize i j c).toNat) H1
theorem Cn{a b c:Expr}{ta:TA}{p pos:Pos}(hg:Gl X "range")(hm:X.mg "range" = none)(ha:PA X [a,b,c] ta)(hs:autoParam (starEach [a,b,c] X.env=[(false,eval a X.env),(false,eval b X.env),(false,eval c X.env)]) cB._auto_1)
  (hs2:autoParam (starEach [b,c] X.env=[(false,eval b X.env),(false,eval c X.env)]) cB._auto_1):PI X tg (.Call (.Name "range" p) [a,b,c] [] pos) (MC ta):=by
 intro pj s σ H R I h
 refine Call_ (iJ I hg hm boot_range (PyProof.Rows.callWith_type1 (thn (ha pos pj s σ H _ I h) fun us s1 ⟨vs,H1,I1,r1,q1⟩=>?_) (by rw[hs,hs2]) (by rw[hs2];rfl)))
 obtain⟨i,j,c,e,q0,qs,q1,q2,q⟩:=q1
 subst e
 cases r1 with
 |cons r rr=>
  cases rr with
  |cons r' rr=>
   cases rr with
   |cons r'' rr=>
    cases rr
    obtain⟨t,rfl⟩:=r
    obtain⟨t',rfl⟩:=r'
    obtain⟨t'',rfl⟩:=r''
    refine call_range_3 q0 ?_ (.inl (PyProof.noPylong_small ⋯))
    refine wpAny_pyIter_range (IsRange.new ..) q1 ?_
    have I2:Inv X pj σ H1 { s1 with heap:=s1.heap.push { cls:=.type "range",data:=.fields #[.int i t,.int j t',.int c t''] },toks:=s1.toks }:=I1.kept fun b o e=>Heap.get?_push_of_some _ e
    refine⟨_,[_],_,_,H1,rfl,I2.kept (t':=s1.toks) fun b o e=>Heap.get?_push_of_some _ e,xP _ i c (Builtin.Range.rangeSize i j c).toNat,?_,fun b hb=>?_,q⟩
    ·show IsRangeIter _ _ (i+((0:Nat):Int)*c) ((((Builtin.Range.rangeSize i j c).toNat:Nat):Int)-((0:Nat):Int)) c
     have e1:i+((0:Nat):Int)*c=i:=by simp
     have e2:(((Builtin.Range.rangeSize i j c).toNat:Nat):Int)-((0:Nat):Int)=Builtin.Range.rangeSize i j c:=⋯
     rw[e1,e2]
     exact Heap.get?_push_size _ rfl
    ·have e:b=_:=mem_singleton.mp hb
     subst e
     exact I2.fpOk (le_refl _) (I2.hok.fresh (le_refl _))
noncomputable def q8(lo:Int)(n:Nat):List V:=(List.range n).map fun(k:Nat)=>V.int (lo+(k:Int))
theorem pR:eS X (.type "range") (fun xs H Q=>∃j:Int,xs=[.int j] /\ ∀p,H p=none->Q (.ref p) (upd H p (.rng 0 j))):=by
 intro pj s σ H xs us Q I r h
 obtain⟨j,rfl,q⟩:=h
 obtain⟨u,rfl,ru⟩:=i8 r
 obtain⟨t,rfl⟩:=ru
 exact call_range_1 ⟨.ref s.heap.objs.size,_,I.laid (o:=.rng 0 j) (fun b o e=>Heap.get?_push_of_some _ e) (le_refl _) ⟨_,_,_,Heap.get?_push_size _ rfl⟩,rfl,q _ (I.hok.fresh (le_refl _))⟩
theorem tW(hc:X.calm=true):eS X (.type "list") (fun xs H Q=>∃p lo hi,xs=[.ref p]/\H p=some (.rng lo hi)/\(-(2 ^ 62)<=lo/\lo<2 ^ 62 /\ -(2 ^ 62)<=hi/\hi<2 ^ 62)/\(hi-lo).toNat<=1000000 /\ ∀l,H l=none->Q (.ref l) (upd H l (.lst (q8 lo (hi-lo).toNat)))):=by
 intro pj s σ H xs us Q I r h
 obtain⟨p,lo,hi,rfl,hp,⟨b1,b2,b3,b4⟩,hn,q⟩:=h
 obtain⟨u,rfl,ru⟩:=i8 r
 cases ru
 obtain⟨t,t2,t3,e⟩:=I.hok _ _ hp
 refine call_list_range (n:=(hi-lo).toNat) (I.ok.hd hc) e (small_one b1 b2 b3 b4) (by rw[rangeSize_one];split<;>ac_rfl) ⋯ fun h' tk acc c' hk hS hacc=>?_
 refine⟨.ref s.heap.objs.size,_,I.laid (o:=.lst (q8 lo (hi-lo).toNat)) hk (le_refl _) ?_,rfl,q _ (I.hok.fresh (le_refl _))⟩
 have hl:acc.size=(hi-lo).toNat:=hacc.1
 refine⟨by simp only[q8,length_map,length_range];rw[sizeLine_eq];ac_rfl,acc.toList,c',?_,by simpa using hS⟩
 have key:∀(n:Nat) (l:List Value),l.length=n->(∀(i:Nat) (v:Value),l[i]?=some v -> ∃t,v=Value.int (lo+(i:Int)*1) t)->bF (q8 lo n) l:=by
  intro n
  induction n with
  |zero=>intro l hl _;rw[List.length_eq_zero_iff.mp hl];exact .nil
  |succ n ih=>
   intro l hl hi
   have hne:l≠[]:=by intro z;rw[z] at hl;cases hl
   have e1:l=l.dropLast++[l.getLast hne]:=(dropLast_concat_getLast hne).symm
   rw[e1]
   unfold q8
   rw[List.range_succ,map_append]
   have l1:l.dropLast.length=n:=by simp[hl]
   refine bF.append (ih l.dropLast l1 fun i v hv=>hi i v ?_) (.cons ?_ .nil)
   ·have hlt:i<l.dropLast.length:=(List.getElem?_eq_some_iff.mp hv).1
    rw[e1,List.getElem?_append_left hlt]
    exact hv
   ·obtain⟨t,ht⟩:=hi n (l.getLast hne) (by simp[List.getLast_eq_getElem,hl])
    rw[ht,Int.mul_one]
    exact⟨t,rfl⟩
 refine key _ _ (by simpa using hl) fun i v hv=>?_
 exact hacc.2 i v (by simpa using hv)
end
end L2
namespace Z
open L2
section
variable {X:Cx} {tg a b c e:Expr} {ta tb te:d3} {ts:lI} {pos p p2:Pos}
noncomputable def mJ(lo c:Int)(n:Nat):List Dv:=(List.range n).map fun(k:Nat)=>Dv.int (lo+(k:Int)*c)
noncomputable def qT(ts:lI):tX:=fun ρ Q=>ts ρ fun rs=>match rs.map R.d with
 | [.int i,.int j,.int c]=>(c≠0/\c.natAbs<1000/\Builtin.Range.small i j c=true/\0<=Builtin.Range.rangeSize i j c)/\Q (mJ i c (Builtin.Range.rangeSize i j c).toNat) []
 |_=>False
theorem Aa{lo c:Int}{n i:Nat}{d:Dv}(h:(mJ lo c n)[i]?=some d):i<n/\d=.int (lo+i*c):=by
 unfold mJ at h
 rw[List.getElem?_map] at h
 cases e:(List.range n)[i]? with
 |none=>rw[e] at h;cases h
 |some k=>
  rw[e] at h
  obtain⟨h1,h2⟩:=List.getElem?_eq_some_iff.mp e
  simp at h1 h2
  subst h2
  exact⟨h1,(Option.some.inj h).symm⟩
theorem zH{K:W.Frag}{P:Hp}{M:Addr->Prop}{H1:Hp}{lo c:Int}{n:Nat}:qL K P M H1 (L3 lo c n) (mJ lo c n) []:=by
 intro i H' M' S G _
 refine⟨fun d e=>?_,fun h=>(show n<=i by simpa [mJ] using h)⟩
 obtain⟨h1,h2⟩:=Aa e
 subst h2
 refine⟨h1,fun y H'' zz=>?_⟩
 obtain⟨e1,e2⟩:=zz
 subst e1 e2
 exact⟨aK.refl _,.int _⟩
theorem Kr{K:W.Frag}{M:Addr->Prop}{H:Hp}{xs:List V}{d d' d'':Dv}(h:uZ K M H xs [d,d',d'']):∃x y z,xs=[x,y,z]/\cY K M H x d/\cY K M H y d'/\cY K M H z d'':=by
 cases h with
 |cons a t=>
  obtain⟨y,z,rfl,b,c⟩:=BJ t
  exact⟨_,_,_,rfl,a,b,c⟩
theorem Ci(hg:Gl X "range")(hm:X.mg "range" = none)(ha:QA X [a,b,c] ts)(hs:autoParam (starEach [a,b,c] X.env=[(false,eval a X.env),(false,eval b X.env),(false,eval c X.env)]) cB._auto_1)
  (hs2:autoParam (starEach [b,c] X.env=[(false,eval b X.env),(false,eval c X.env)]) cB._auto_1):QI X tg (.Call (.Name "range" p) [a,b,c] [] pos) (qT ts):=by
 refine⟨fun ρ Q Q' w q=>ha.mono _ _ _ (fun r q=>?_) q,fun HZ F=>⟨_,Cn hg hm (ha.run HZ F) hs hs2,fun σ H ρ R fr q=>?_⟩⟩
 ·split at q
  ·exact⟨q.1,w _ _ q.2⟩
  ·exact q
 ·refine ha.step fr q fun rs xs H1 q S1 r1=>?_
  split at q
  ·rename_i i j c e
   have cc:=r1.c
   rw[e] at cc
   obtain⟨x,y,z,rfl,cx,cy,cz⟩:=Kr cc
   obtain rfl:=cx.int
   obtain rfl:=cy.int
   obtain rfl:=cz.int
   exact⟨i,j,c,rfl,q.1.1,q.1.2.1,q.1.2.2.1,q.1.2.2.2,q.2 _ H1 S1 (by intro p hp;simp at hp) zH⟩
  ·exact q.elim
noncomputable def BA(ts:lI):d3:=fun ρ Q=>ts ρ fun rs=>match rs.map R.d with
 | [.int j]=>(-(2 ^ 62)<=j/\j<2 ^ 62/\j.toNat<=1000000)/\Q (.nw (.lst (bP 0 j.toNat)))
 |_=>False
noncomputable def MX(ts:lI):d3:=fun ρ Q=>ts ρ fun rs=>match rs.map R.d with
 | [.int i,.int j]=>((-(2 ^ 62)<=i/\i<2 ^ 62 /\ -(2 ^ 62)<=j/\j<2 ^ 62)/\(j-i).toNat<=1000000)/\Q (.nw (.lst (bP i (j-i).toNat)))
 |_=>False
theorem AY{K:W.Frag}{M:Addr->Prop}{H:Hp}(lo:Int)(n:Nat):Reps K M H (q8 lo n) (bP lo n):=by
 unfold q8 bP
 induction (List.range n) with
 |nil=>exact .nil
 |cons k r ih=>exact .cons (.int _) ih
theorem iA{pos2:Pos}(hc:X.calm=true)(hg:Gl X "list")(hm:X.mg "list" = none)(hg2:Gl X "range")(hm2:X.mg "range" = none)(ha:QA X [a] ts)
  (h1:autoParam (starEach [.Call (.Name "range" p2) [a] [] pos2] X.env=(false,eval (.Call (.Name "range" p2) [a] [] pos2) X.env)::starEach [] X.env) cB._auto_1) (h2:autoParam ((backTo pos (starEach [] X.env)).any (·.1)=false) cB._auto_1)
  (h3:autoParam (starEach [a] X.env=(false,eval a X.env)::starEach [] X.env) cB._auto_1) (h4:autoParam ((backTo pos2 (starEach [] X.env)).any (·.1)=false) cB._auto_1):
  QE X (.Call (.Name "list" p) [.Call (.Name "range" p2) [a] [] pos2] [] pos) (BA ts):=by
 refine⟨fun ρ Q Q' w q=>ha.mono _ _ _ (fun r q=>?_) q,fun HZ F=>cS (jD (tW hc) hg hm boot_list (iS (jD pR hg2 hm2 boot_range (ha.run HZ F) ∅ ∅ h3 h4) mL h1) ∅ ∅ h1 h2) fun σ H Q ⟨ρ,fr,q⟩=>?_⟩
 ·split at q
  ·exact⟨q.1,w _ q.2⟩
  ·exact q
 ·refine ha.step fr q fun rs xs H1 q S1 r1=>?_
  split at q
  ·rename_i j e
   have cc:=r1.c
   rw[e] at cc
   obtain⟨x,rfl,cx⟩:=dL cc
   obtain rfl:=cx.int
   obtain⟨⟨b1,b2,b3⟩,q⟩:=q
   refine⟨j,rfl,fun r hr=>⟨r,0,j,rfl,aY,⟨⋯,⋯,b1,b2⟩,by rw[Int.sub_zero];exact b3,fun l hl=>?_⟩⟩
   have S2:aK H (upd (upd H1 r (.rng 0 j)) l (.lst (q8 0 (j-0).toNat))):=(S1.trans (aK.new' hr)).trans (aK.new' hl)
   rw[Int.sub_zero] at S2 ⊢
   exact q _ _ S2 (d9.ahead (j4 hl (AY 0 _)) (S1.trans (aK.new' hr)))
  ·exact q.elim
noncomputable def q9(ds:List Dv):List Dv:=(ds.zipIdx).map fun q=>.tup [.int (q.2:Int),q.1]
theorem Da{ds:List Dv}{i:Nat}{d:Dv}(h:(q9 ds)[i]?=some d):∃d0,ds[i]?=some d0/\d=.tup [.int i,d0]:=by
 unfold q9 at h
 rw[List.getElem?_map,List.getElem?_zipIdx] at h
 cases e:ds[i]? with
 |none=>rw[e] at h;cases h
 |some d0=>
  rw[e] at h
  refine⟨d0,rfl,?_⟩
  simp at h
  exact h.symm
noncomputable def sM(ts:lI):tX:=fun ρ Q=>ts ρ fun rs=>match rs with
 | [.v (.lst ds)]=>Q (q9 ds) []
 | [.nw (.lst ds)]=>Q (q9 ds) []
 | [.ow a (.lst ds)]=>Q (q9 ds) [(a,ds)]
 |_=>False
structure Walked(K:W.Frag)(P:Hp)(M:Addr->Prop)(H1:Hp)(a:Addr)(ds:List Dv)(ogs:List (Addr×List Dv)):Prop where
 at_:∀(H':Hp) (M':Addr->Prop),aK P H'->Gen K M M' H1 H'->(∀p∈ogs,dS K M' H' p.1 (.lst p.2)) -> ∃xs,H' a=some (.lst xs)/\Reps K M' H' xs ds
noncomputable def lW:R->List (Addr×List Dv)
 | .ow a (.lst ds)=>[(a,ds)]
 |_=>[]
theorem walked{K:W.Frag}{HZ H H1:Hp}{F:Addr->Prop}{σ:St}{ρ:List Sl}{x:V}{r:R}{ds:List Dv}(fr:Fr K HZ F σ H ρ)(S1:aK H H1)(r1:d9 K (MM F ρ) (Z.tZ ρ) H x r H1)(hd:r.d=.lst ds):
  ∃a xs,x=.ref a/\H1 a=some (.lst xs)/\guard (lW r) ρ/\Walked K (prot H1 ρ) (MM F ρ) H1 a ds (lW r):=by
 cases r with
 |v d=>
  have e:d=.lst ds:=hd
  subst e
  cases r1 with
  |lst e m rs=>
   refine⟨_,_,rfl,e,by intro p hp;simp[lW] at hp,⟨fun H' M' S G _=>⟨_,S _ _ (by rw[bZ fun c=>m (.inr c)];exact e),rs.gen G⟩⟩⟩
 |nw d=>
  have e:d=.lst ds:=hd
  subst e
  obtain⟨a,rfl,n,xs,e,rs⟩:=r1
  exact⟨_,_,rfl,e,by intro p hp;simp[lW] at hp,⟨fun H' M' S G _=>⟨_,S _ _ (by rw[bZ fun c=>fr.fresh n (.inr c)];exact e),(rs.weak fun b z=>.inl z).gen G⟩⟩⟩
 |ow a d=>
  have e:d=.lst ds:=hd
  subst e
  obtain⟨rfl,m,xs,e,rs⟩:=r1
  refine⟨_,_,rfl,e,by intro p hp;simp[lW] at hp;subst hp;exact m,⟨fun H' M' S G ow=>?_⟩⟩
  exact ow (a,ds) (by simp[lW])
theorem DU{K:W.Frag}{P:Hp}{M:Addr->Prop}{H1:Hp}{a:Addr}{ds:List Dv}{ogs:List (Addr×List Dv)}(w:Walked K P M H1 a ds ogs):qL K P M H1 (NE K a) (q9 ds) ogs:=by
 intro i H' M' S G ow
 obtain⟨xs,h',r⟩:=w.at_ H' M' S G ow
 refine⟨fun d e=>?_,fun h=>⟨xs,eJ.of h',by rw[r.length];simpa [q9] using h⟩⟩
 obtain⟨d0,e0,rfl⟩:=Da e
 obtain⟨x,hx,rx⟩:=r.get e0
 refine⟨⟨xs,x,eJ.of h',hx⟩,fun y H'' zz=>?_⟩
 obtain⟨T,z,hT,e1,e2,hz⟩:=zz
 subst e1 e2
 have:=hz xs (eJ.of h')
 rw[hx] at this
 cases this
 exact⟨aK.new' hT,.tup aY (.cons (.int _) (.cons (rx.mono (aK.new' hT)) .nil))⟩
theorem Bc{elts:List Expr}{x1:Nat}{tp:Pos}(hg:Gl X "enumerate")(hm:X.mg "enumerate" = none)(ha:QA X [a] ts)(hs:autoParam (starEach [a] X.env=[(false,eval a X.env)]) cB._auto_1):QI X (.Tuple elts x1 tp) (.Call (.Name "enumerate" p) [a] [] pos) (sM ts):=by
 refine⟨fun ρ Q Q' w q=>ha.mono _ _ _ (fun r q=>?_) q,fun HZ F=>⟨_,HF hg hm (ha.run HZ F) hs,fun σ H ρ R fr q=>?_⟩⟩
 ·split at q<;>first | exact w _ _ q | exact q
 ·refine ha.step fr q fun rs xs H1 q S1 r1=>?_
  have one:∀{r:Z.R} {ds:List Dv},rs=[r]->r.d=.lst ds->(∀J H1',aK H H1'->guard (lW r) ρ->qL X.K (prot H1' ρ) (MM F ρ) H1' J (q9 ds) (lW r)->R J H1') -> ∃a,xs=[V.ref a]/\(∃xs,eJ X.K H1 a xs)/\R (NE X.K a) H1:=by
   intro r ds e hd k
   subst e
   cases r1 with
   |cons a1 t1=>
    cases t1
    obtain⟨a,ys,rfl,ea,gd,wk⟩:=walked fr S1 a1 hd
    exact⟨a,rfl,⟨ys,eJ.of ea⟩,k _ H1 S1 gd (DU wk)⟩
  split at q
  ·exact one rfl rfl q
  ·exact one rfl rfl q
  ·exact one rfl rfl q
  ·exact q.elim
noncomputable def qE(xs ys:List Dv):List Dv:=List.zipWith (fun x y=>.tup [x,y]) xs ys
noncomputable def zM(ts:lI):tX:=fun ρ Q=>ts ρ fun rs=>match rs with
 | [r,r']=>match r.d,r'.d with
  | .lst xs,.lst ys=>Q (qE xs ys) (lW r++lW r')
  |_,_=>False
 |_=>False
theorem Fy{K:W.Frag}{P:Hp}{M:Addr->Prop}{H1:Hp}{a b:Addr}{ds es:List Dv}{o1 o2:List (Addr×List Dv)}(w1:Walked K P M H1 a ds o1)(w2:Walked K P M H1 b es o2):qL K P M H1 (OA a b) (qE ds es) (o1++o2):=by
 intro i H' M' S G ow
 obtain⟨xs,h1,r1⟩:=w1.at_ H' M' S G fun p hp=>ow p (mem_append_left _ hp)
 obtain⟨ys,h2,r2⟩:=w2.at_ H' M' S G fun p hp=>ow p (mem_append_right _ hp)
 refine⟨fun d e=>?_,fun h=>⟨xs,ys,h1,h2,?_⟩⟩
 ·unfold qE at e
  rw[List.getElem?_zipWith] at e
  cases e1:ds[i]? with
  |none=>rw[e1] at e;cases e
  |some d1=>
   cases e2:es[i]? with
   |none=>rw[e1,e2] at e;cases e
   |some d2=>
    rw[e1,e2] at e
    cases e
    obtain⟨x,hx,rx⟩:=r1.get e1
    obtain⟨y,hy,ry⟩:=r2.get e2
    refine⟨⟨xs,ys,x,y,h1,h2,hx,hy⟩,fun z H'' zz=>?_⟩
    obtain⟨T,z1,z2,hT,e3,e4,k1,k2⟩:=zz
    subst e3 e4
    have q1:=k1 xs h1
    have q2:=k2 ys h2
    rw[hx] at q1
    rw[hy] at q2
    cases q1
    cases q2
    exact⟨aK.new' hT,.tup aY (.cons (rx.mono (aK.new' hT)) (.cons (ry.mono (aK.new' hT)) .nil))⟩
 ·rw[r1.length,r2.length]
  simp only[qE,List.length_zipWith] at h
  ac_rfl
theorem EM{elts:List Expr}{x1:Nat}{tp:Pos}(hg:Gl X "zip")(hm:X.mg "zip" = none)(ha:QA X [a,b] ts)(hs:autoParam (starEach [a,b] X.env=[(false,eval a X.env),(false,eval b X.env)]) cB._auto_1)(hs2:autoParam (starEach [b] X.env=[(false,eval b X.env)]) cB._auto_1):
  QI X (.Tuple elts x1 tp) (.Call (.Name "zip" p) [a,b] [] pos) (zM ts):=by
 refine⟨fun ρ Q Q' w q=>ha.mono _ _ _ (fun r q=>?_) q,fun HZ F=>⟨_,Jl hg hm (ha.run HZ F) hs hs2,fun σ H ρ R fr q=>?_⟩⟩
 ·split at q
  ·split at q
   ·exact w _ _ q
   ·exact q
  ·exact q
 ·refine ha.step fr q fun rs xs H1 q S1 r1=>?_
  split at q
  ·rename_i r r'
   split at q
   ·rename_i ds es h1 h2
    cases r1 with
    |cons a1 t1=>
     cases t1 with
     |cons a2 t2=>
      cases t2
      obtain⟨a,ys,rfl,ea,gd,wk⟩:=walked fr S1 a1 h1
      obtain⟨b,zs,rfl,eb,gd2,wk2⟩:=walked fr S1 a2 h2
      refine⟨a,b,rfl,⟨ys,ea⟩,⟨zs,eb⟩,q _ H1 S1 (fun p hp=>?_) (Fy wk wk2)⟩
      rcases mem_append.mp hp with h | h
      ·exact gd p h
      ·exact gd2 p h
   ·exact q.elim
  ·exact q.elim
end
noncomputable def dY(env:Env):List (Str×NameKind)->List (Str×Addr)->List (Str×Addr)
 | [],acc=>acc
 | (n,k)::r,acc=>if (k == .free)=true then (match env.cells.lookup n with | some c=>dY env r ((n,c)::acc) | none=>dY env r acc) else dY env r acc
theorem lX{scope:Scope}{env:Env}(h:(scope.names.all fun y=>!(y.2 == .free) || (env.cells.lookup y.1).isSome)=true):closureFor scope env=pure (dY env scope.names []):=by
 unfold closureFor
 have key:∀(l:List (Str×NameKind)) (acc:List (Str×Addr)),(l.all fun y=>!(y.2 == .free) || (env.cells.lookup y.1).isSome)=true ->
   (forIn (m:=Sem) l acc fun x r=>(match x with | (name,kind)=>if (kind==NameKind.free)=true then (do let c <- cellOf env name;pure (ForInStep.yield ((name,c)::r))) else pure (ForInStep.yield r)))=pure (dY env l acc):=by
  intro l
  induction l with
  |nil=>intro acc _;rfl
  |cons y r ih=>
   intro acc hl
   obtain⟨n,k⟩:=y
   rw[all_cons,Bool.and_eq_true] at hl
   rw[forIn_cons]
   unfold dY
   by_cases hk:(k==NameKind.free)=true
   ·rw[if_pos hk]
    have h1:(env.cells.lookup n).isSome=true:=by
     have:=hl.1
     simpa [hk] using this
    obtain⟨c,hc⟩:=isSome_iff_exists.mp h1
    have e:cellOf env n=pure c:=by unfold cellOf;rw[hc]
    simp only[hk,if_true,e,hc]
    exact ih _ hl.2
   ·rw[if_neg hk]
    simp only[hk]
    exact ih _ hl.2
 dsimp only
 have h2:=key scope.names [] h
 refine Eq.trans (congrArg (fun t:Sem (List (Str×Addr))=>t >>= fun r=>pure r) h2) ?_
 rfl
theorem jF{env:Env}:∀(l:List (Str×NameKind)) (acc:List (Str×Addr)),(∀q∈acc,env.cells.lookup q.1=some q.2) -> ∀q∈dY env l acc,env.cells.lookup q.1=some q.2
 | [],acc,h,q,hq=>h q hq
 | (n,k)::r,acc,h,q,hq=>by
  unfold dY at hq
  split at hq
  ·split at hq
   ·rename_i c hc
    refine jF r _ (fun q' hq'=>?_) q hq
    rcases mem_cons.mp hq' with e | e
    ·rw[e];exact hc
    ·exact h q' e
   ·exact jF r acc h q hq
  ·exact jF r acc h q hq
theorem k7{env:Env}:∀(l:List (Str×NameKind)) (acc:List (Str×Addr)),∀q∈acc,q∈dY env l acc
 | [],acc,q,hq=>hq
 | (n,k)::r,acc,q,hq=>by
  unfold dY
  split
  ·split
   ·exact k7 r _ q (mem_cons_of_mem _ hq)
   ·exact k7 r acc q hq
  ·exact k7 r acc q hq
theorem iK{env:Env}{x:Str}:∀(l:List (Str×NameKind)) (acc:List (Str×Addr)),(l.all fun y=>!(y.2 == .free) || (env.cells.lookup y.1).isSome)=true->(x,NameKind.free)∈l -> ∃c,(x,c)∈dY env l acc
 | [],_,_,h=>by simp at h
 | (n,k)::r,acc,hl,h=>by
  rw[all_cons,Bool.and_eq_true] at hl
  unfold dY
  rcases mem_cons.mp h with e | e
  ·cases e
   rw[if_pos (by rfl)]
   have h1:(env.cells.lookup x).isSome=true:=by simpa using hl.1
   obtain⟨c,hc⟩:=isSome_iff_exists.mp h1
   rw[hc]
   exact⟨c,k7 r _ _ (by simp)⟩
  ·split
   ·split
    ·exact iK r _ hl.2 e
    ·exact iK r _ hl.2 e
   ·exact iK r _ hl.2 e
theorem j5{α:Type}{x:Str}{c:α}:∀{l:List (Str×α)},(x,c)∈l -> ∃c',l.lookup x=some c'
 | (n,d)::r,h=>by
  rw[lookup_cons]
  cases e:x==n with
  |true=>exact⟨d,rfl⟩
  |false=>
   rcases mem_cons.mp h with z | z
   ·cases z
    simp at e
   ·exact j5 z
theorem nY{scope:Scope}{env:Env}{x:Str}(hcell:∀y∈scope.names,y.2 ≠ .cell)(h:(relabel scope env).names.lookup x=some .cell \/ (relabel scope env).names.lookup x=some .free):(x,NameKind.free)∈scope.names:=by
 have:(x,NameKind.cell)∈(relabel scope env).names \/ (x,NameKind.free)∈(relabel scope env).names:=h.imp PySem.mem_of_lookup PySem.mem_of_lookup
 rcases this with h | h
 ·obtain⟨⟨n,k⟩,hm,e⟩:=mem_map.mp h
  dsimp only at e
  split at e
  ·rename_i hc
   rw[Bool.and_eq_true,Bool.and_eq_true,beq_iff_eq] at hc
   cases e
   rw[hc.1.1] at hm
   exact hm
  ·cases e
   exact absurd rfl (hcell _ hm)
 ·obtain⟨⟨n,k⟩,hm,e⟩:=mem_map.mp h
  dsimp only at e
  split at e
  ·cases e
  ·cases e
   exact hm
section
variable {X:Cx} {pos:Pos}
theorem y8{elt iter tgt:Expr}{ifs:List Expr}{scope:Scope}(tgs ns:List Str)(js:List Nat){k:Nat}{ti:tX}{g:xI}{tt:lH}{te:d3}(hc:X.N=X.N)(hi:QI X tgt iter ti)
  (hg:∀(fp:List Addr) (s:Shared) (H:Hp),QG (n5 X scope (dY X.env scope.names []) fp (tgs++ns) s H) tgt k g) (ht:∀(fp:List Addr) (s:Shared) (H:Hp),QTs (n5 X scope (dY X.env scope.names []) fp (tgs++ns) s H) ifs tt)
  (he:∀(fp:List Addr) (s:Shared) (H:Hp),QE (n5 X scope (dY X.env scope.names []) fp (tgs++ns) s H) elt te) (hk:autoParam (tgs.length=k) cB._auto_1)
  (hall:autoParam ((scope.names.all fun y=>!(y.2 == .free) || (X.env.cells.lookup y.1).isSome)=true) cB._auto_1) (hjs:autoParam (js.map (fun j=>X.N[j]?)=ns.map some) cB._auto_1)
  (hin:autoParam ((ns.all fun y=>(relabel scope X.env).names.lookup y==some .cell || (relabel scope X.env).names.lookup y==some .free)=true) cB._auto_1) (hout:autoParam ((ns.all fun y=>X.env.kindOf y==some .cell || X.env.kindOf y==some .free)=true) cB._auto_1)
  (nd:autoParam (js.Nodup) nB._auto_1) (hcell:autoParam (∀y∈scope.names,y.2 ≠ .cell) BW._auto_1) (hkind:autoParam (scope.kind=.function) cB._auto_1)
  (hnames:autoParam (∀y∈scope.names,y.2=.local->scope.names.lookup y.1=some .local) BW._auto_1) (hs:autoParam (∀z,foldedSetIterable iter X.env z=pure z) Ga._auto_1):
  QE X (.ListComp elt [⟨tgt,iter,ifs,0⟩] scope pos) (fV k js ti g tt te):=by
 refine Jb hc hk hi hg ht he (lX hall) (fun x c e=>jF scope.names [] (by simp) (x,c) (PySem.mem_of_lookup e)) (fun x h=>?_) hjs (fun y hy=>?_) (fun y hy=>?_) nd hcell hkind hnames hs
 ·obtain⟨c,hc⟩:=iK scope.names [] hall (nY hcell h)
  exact j5 hc
 ·have:=all_eq_true.mp hin y hy
  simpa using this
 ·have:=all_eq_true.mp hout y hy
  simpa using this
end
open Classical in
noncomputable def tN(h:Heap)(db:PyData)(u:Value):Bool:=if q:∃d as,Reads h u d as then PyData.eqv (choose q) db else false
section
variable {X:Cx} {M:Addr->Prop} {pj:List (Addr×Obj)} {σ:St} {H:Hp} {s:Shared}
theorem CJ{h:Heap}{db d:PyData}{u:Value}{as:List Addr}(ok:d.canLay0=true)(r:Reads h u d as):tN h db u=PyData.eqv d db:=by
 unfold tN
 have q:∃d as,Reads h u d as:=⟨d,as,r⟩
 rw[dif_pos q]
 obtain⟨as',r'⟩:=Classical.choose_spec q
 rw[SeqAt.Reads.unique d _ u as as' ok r r']
theorem t6(I:Inv X pj σ H s){db:PyData}{dx:Dv}(hb:db=gG dx):∀{xs:List V} {ds:List Dv} {us:List Value},Reps X.K M H xs ds->okDs 8 ds=true->bF xs us->us.any (tN s.heap db)=ds.any fun d=>eqD d dx
 |_,_,_,.nil,_,r=>by cases r;rfl
 |_,_,_,.cons a q,ok,r=>by
  have ok':(dA 8 _&&okDs 8 _)=true:=ok
  rw[Bool.and_eq_true] at ok'
  cases r with
  |cons r1 r2=>
   obtain⟨as,ra⟩:=Rep.reads I a ok'.1 r1
   rw[any_cons,any_cons,t6 I hb q ok'.2 r2,CJ (o6 8 _ ok'.1).1 ra,hb]
   rfl
theorem sF(I:Inv X pj σ H s){A:Around}{v:Value}{dx:Dv}{bs:List Addr}(rb:Reads s.heap v (gG dx) bs)(ob:dA 8 dx=true)(hu:A.units+64<cLine):∀{xs:List V} {ds:List Dv} {us:List Value},Reps X.K M H xs ds->okDs 8 ds=true->bF xs us -> ∀u∈us,SeqAt.EqAt A s u v (tN s.heap (gG dx) u)
 |_,_,_,.nil,_,r,u,hm=>by cases r;simp at hm
 |_,_,_,.cons a q,ok,r,u,hm=>by
  have ok':(dA 8 _&&okDs 8 _)=true:=ok
  rw[Bool.and_eq_true] at ok'
  cases r with
  |cons r1 r2=>
   rcases mem_cons.mp hm with e | hm
   ·subst e
    obtain⟨as,ra⟩:=Rep.reads I a ok'.1 r1
    obtain⟨l1,l2⟩:=o6 8 _ ok'.1
    obtain⟨m1,m2⟩:=o6 8 _ ob
    rw[CJ l1 ra]
    exact SeqAt.eqAt_reads _ _ A s u v as bs ra rb l1 m1 ⋯
   ·exact sF I rb ob hu q ok'.2 r2 u hm
end
noncomputable def Na(K:W.Frag)(neg:Bool):R2:=fun x y H Q=>∃M dx ds p xs,cY K M H x dx/\y=.ref p/\(eJ K H p xs \/ lY K H p xs)/\Reps K M H xs ds/\dA 8 dx=true/\okDs 8 ds=true /\
 Q (.bl (if neg then !(ds.any fun d=>eqD d dx) else ds.any fun d=>eqD d dx)) H
section
variable {X:Cx}
theorem uO{A:Around}(h:A.units+65<cLine):A.in1.units+64<cLine:=by
 have:A.in1.units<=A.units+1:=by unfold Around.in1;simp[Around.units]
 ac_rfl
theorem KD(hu:X.A.units+65<cLine):k9 X (compareOp .In) (Na X.K false):=by
 intro pj s σ H x y v u Q I rx ry h
 obtain⟨M,dx,ds,p,xs,cx,rfl,hq,rs,o1,o2,q⟩:=h
 cases ry
 obtain⟨bs,rb⟩:=cx.reads I o1 rx
 rcases hq with hq | hq
 ·obtain⟨its,r,pl,hz⟩:=I.list hq
  refine SeqAt.in_listAt (tN s.heap (gG dx)) pl.isList (fun w hw=>sF I rb o1 (uO hu) rs o2 r w (by simpa using hw)) ⟨.bl _,H,I,rfl,?_⟩
  rw[show its.toArray.any (tN s.heap (gG dx))=its.any (tN s.heap (gG dx)) by simp,t6 I rfl rs o2 r]
  exact q
 ·obtain⟨its,r,pl,hz⟩:=I.tuple hq
  refine SeqAt.in_tupleAt (tN s.heap (gG dx)) pl (fun w hw=>sF I rb o1 (uO hu) rs o2 r w (by simpa using hw)) ⟨.bl _,H,I,rfl,?_⟩
  rw[show its.toArray.any (tN s.heap (gG dx))=its.any (tN s.heap (gG dx)) by simp,t6 I rfl rs o2 r]
  exact q
end
end Z
namespace Z
open L2
theorem Gf{k:Nat}{A:Around}(r:Room k A):A.units+65<cLine:=by have:=r.un;ac_rfl
noncomputable def M0:Dv->Dv->(R->Prop)->Prop
 | .int i,.int j,Q=>j≠0/\Q (.v (.int (i.fmod j)))
 |_,_,_=>False
noncomputable def isB(b:Bool):Dv->Bool
 | .bl c=>c==b
 |_=>false
noncomputable def Nk:Dv->Dv->(R->Prop)->Prop
 |d,.bl b,Q=>Q (.v (.bl (isB b d)))
 |_,_,_=>False
noncomputable def Lz:Dv->Dv->(R->Prop)->Prop
 |d,.bl b,Q=>Q (.v (.bl (!isB b d)))
 |_,_,_=>False
section
variable {X:Cx}
noncomputable def IZ(i:Nat)(tk tv:d3):cD:=fun E ρ=>match ρ[i]? with
 |some (.own a (.lst xs))=>tv ρ fun r=>tk ρ fun k=>match k.d with
  | .int n=>match oQ xs.length n with
   |some j=>r.free=true/\E.nx (ρ.set i (.own a (.lst (xs.set j r.d))))
   |none=>False
  |_=>False
 |_=>False
noncomputable def MA(d:Dv)(ds:List Dv):Bool:=ds.any fun e=>eqD e d
noncomputable def L6:Dv->Dv->(R->Prop)->Prop
 |d,.lst ds,Q=>(dA 8 d=true/\okDs 8 ds=true)/\Q (.v (.bl (MA d ds)))
 |d,.tup ds,Q=>(dA 8 d=true/\okDs 8 ds=true)/\Q (.v (.bl (MA d ds)))
 |_,_,_=>False
theorem F7(hu:X.A.units+65<cLine)(_hu1:X.A.units+1<cLine):xM X (compareOp .In) L6:=by
 refine⟨fun dx dy Q Q' w h=>?_,_,KD hu,fun M O H x y dx dy Q cx cy h=>?_⟩
 ·unfold L6 at h
  split at h
  ·exact⟨h.1,w _ h.2⟩
  ·exact⟨h.1,w _ h.2⟩
  ·exact h.elim
 ·unfold L6 at h
  split at h
  ·obtain⟨a,xs,rfl,ea,ra⟩:=cy.lst
   exact⟨M,_,_,a,xs,cx,rfl,.inl (eJ.of ea),ra,h.1.1,h.1.2,h.2 _ H (aK.refl _) (Rep.bl _)⟩
  ·obtain⟨a,xs,rfl,ea,ra⟩:=cy.tup
   exact⟨M,_,_,a,xs,cx,rfl,.inr (lY.of ea),ra,h.1.1,h.1.2,h.2 _ H (aK.refl _) (Rep.bl _)⟩
  ·exact h.elim
end
structure QX(X:Cx)(st:Stmt)(i:Nat)(te:d3):Prop where
 mono:∀(ρ:List Sl) (Q Q':R->Prop),(∀r,Q r->Q' r)->te ρ Q->te ρ Q'
 run:∀(HZ:Hp) (F:Addr->Prop),PS X st (Gj (lift X.K HZ F te) (zN i))
section
variable {X:Cx} {pos:Pos} {st:Stmt} {te:d3} {i:Nat}
theorem QX.step{HZ:Hp}{F:Addr->Prop}{σ:St}{H:Hp}{ρ:List Sl}{Q:R->Prop}{Q':VK}(h:QX X st i te)(fr:Fr X.K HZ F σ H ρ)(q:te ρ Q)
  (k:∀r x H',Q r->aK H H'->d9 X.K (MM F ρ) (tZ ρ) H x r H'->Q' x H'):lift X.K HZ F te σ H Q':=⟨ρ,fr,h.mono _ _ _ (fun r qr x H' S rx=>k r x H' qr S rx) q⟩
theorem Ac(he:QX X st i te):QS X st (bV i te):=by
 refine⟨fun E E' ρ w h=>he.mono _ _ _ (fun r q=>?_) h,fun HZ F=>f6 (he.run HZ F) fun D σ H ⟨ρ,E,fr,h,en⟩=>?_⟩
 ·cases r with
  |v d=>exact w.nx _ q
  |nw d=>exact w.nx _ q
  |ow a d=>exact q
 ·refine he.step fr h fun r x H1 q S1 r1=>?_
  cases r with
  |v d=>exact en.nx _ _ _ ((fr.mono S1).setv r1) q
  |nw d=>exact en.nx _ _ _ ((fr.mono S1).setv (r1.rep (fun a m=>fr.dom m) rfl)) q
  |ow a d=>exact q.elim
end
section
variable {X:Cx} {pos:Pos}
theorem Gs{y:Str}{py spos:Pos}{iy:Nat}{elt iter tgt:Expr}{ifs:List Expr}{scope:Scope}{cl:List (Str×Addr)}{tgs ns:List Str}{js:List Nat}{k:Nat}{ti:tX}{g:xI}{tt:lH}{te:d3}(hN:X.N.Nodup)(hi2:X.N[iy]?=some y)(hx2:Do X.env.scope y)(hc:X.N=X.N)(hk:tgs.length=k)
  (hi:QI X tgt iter ti) (hg:∀(fp:List Addr) (s:Shared) (H:Hp),QG (n5 X scope cl fp (tgs++ns) s H) tgt k g) (ht:∀(fp:List Addr) (s:Shared) (H:Hp),QTs (n5 X scope cl fp (tgs++ns) s H) ifs tt)
  (he:∀(fp:List Addr) (s:Shared) (H:Hp),QE (n5 X scope cl fp (tgs++ns) s H) elt te)
  (hclos:closureFor scope X.env=pure cl) (hsub:∀x c,cl.lookup x=some c->X.env.cells.lookup x=some c)
  (hhas:∀x,((relabel scope X.env).names.lookup x=some .cell \/ (relabel scope X.env).names.lookup x=some .free) -> ∃c,cl.lookup x=some c)
  (hjs:js.map (fun j=>X.N[j]?)=ns.map some) (hin:∀y∈ns,(relabel scope X.env).names.lookup y=some .cell \/ (relabel scope X.env).names.lookup y=some .free)
  (hout:∀y∈ns,X.env.kindOf y=some .cell \/ X.env.kindOf y=some .free) (nd:js.Nodup)
  (hcell:autoParam (∀y∈scope.names,y.2 ≠ .cell) BW._auto_1) (hkind:autoParam (scope.kind=.function) cB._auto_1)
  (hnames:autoParam (∀y∈scope.names,y.2=.local->scope.names.lookup y.1=some .local) BW._auto_1)
  (hs:autoParam (∀z,foldedSetIterable iter X.env z=pure z) Ga._auto_1)
  (hsw:autoParam (swapsWith (.ListComp elt [⟨tgt,iter,ifs,0⟩] scope pos) (some (.Name y py)) spos.line X.env=pure true) cB._auto_1) (hf:autoParam (X.fn y=true \/ X.env.scope.names.lookup y=some .local) Dm._auto_1):
  QX X (.Assign [.Name y py] (.ListComp elt [⟨tgt,iter,ifs,0⟩] scope pos) spos) iy (fV k js ti g tt te):=by
 have mg:=(hg [] X.s₀ fun _=>none).mono
 have ag:=(hg [] X.s₀ fun _=>none).agree
 have mt:=(ht [] X.s₀ fun _=>none).mono
 have me:=(he [] X.s₀ fun _=>none).mono
 refine⟨fun ρ Q Q' w h=>hi.mono _ _ _ (fun ds ogs h=>iW mg mt me ds [] Q Q' w h) h,fun HZ F=>?_⟩
 obtain⟨wi,hwi,wiq⟩:=hi.run HZ F
 suffices key:∀σ H Q,lift X.K HZ F (fV k js ti g tt te) σ H Q->v7 wi tgs.length js (liftG X.K k g) (fun σ H Q=>∃HZ F,liftT X.K HZ F tt σ H Q) (fun σ H Q=>∃HZ F,lift X.K HZ F te σ H Q) σ H Q from
  f6 (EY (tgs:=tgs) (ns:=ns) (js:=js) (g:=liftG X.K k g) (tt:=fun σ H Q=>∃HZ F,liftT X.K HZ F tt σ H Q) (te:=fun σ H Q=>∃HZ F,lift X.K HZ F te σ H Q) hN hi2 hx2 hc hwi (fun fp s H=>(hg fp s H).pg) (fun fp s H=>(ht fp s H).pt) (fun fp s H=>(he fp s H).pe) hclos hsub hhas hjs hin hout hcell hkind hnames hs hsw hf) fun D σ H h=>key σ H _ h
 intro σ H Q ⟨ρ,fr,h⟩
 subst hk
 refine wiq σ H ρ _ fr (hi.mono _ _ _ (fun ds ogs q J H1 S1 gd ok=>?_) h)
 intro D hD
 have fr1:=fr.mono S1
 refine⟨fun i m acc H2=>m=ds.length-i/\i<=ds.length/\aK H1 H2 /\ ∃accD,Reps X.K (fun a=>MM F ρ a \/ a=D) H2 acc accD /\
  dC (List.replicate tgs.length .un++dQ js ρ) g tt te (ds.drop i) accD (fun r=>∀x H',aK H H'->d9 X.K (MM F ρ) (tZ ρ) H x r H'->Q x H'),
  ⟨ds.length,by simp,zero_le _,aK.new' hD,[],.nil,by simpa using q⟩,?_⟩
 rintro i m acc H2 ⟨rfl,hil,S2,accD,ra,q⟩ hDl
 have G2:Gen X.K (MM F ρ) (fun a=>MM F ρ a \/ a=D) H1 H2:=(Gen.fresh hD).trans (.mono S2)
 have oks:=ok i H2 (fun a=>MM F ρ a \/ a=D) (fun b o e=>S2 _ _ (lK e)) G2 fun p hp=>by
  obtain⟨_,_,_,ow⟩:=fr1.at_own (gd p hp)
  exact ow.gen G2 fun o e=>S2 _ _ e
 by_cases hlt:i<ds.length
 ·have hd:ds[i]?=some ds[i]:=by simp[hlt]
  rw[drop_eq_getElem_cons hlt] at q
  obtain⟨go,yld⟩:=oks.1 _ hd
  refine .inr ⟨go,fun y H3 hy old lo=>?_⟩
  obtain⟨S3,ry⟩:=yld y H3 hy
  have hD3:=S3 _ _ hDl
  obtain⟨P,F',fr',iff,iffF⟩:=fr1.block (js:=js) (old:=old) (S2.trans S3) hD (by rw[hD3];simp) nd lo
  refine⟨_,P,F',_,fr',ry.weak fun a z=>(iff a).mp z,mg _ _ _ _ (fun ρ1 q1 σ1 f1 a1=>?_) (ag _ _ _ q)⟩
  obtain⟨q1,l1,b1⟩:=q1
  have up:∀a,MM F ρ a \/ a=D->MM F' ρ1 a:=fun a z=>by
   rcases(iff a).mpr z with z | ⟨d,z⟩
   ·exact .inl z
   ·refine .inr ⟨d,?_⟩
    obtain⟨j,e⟩:=mem_iff_getElem?.mp z
    have hj:tgs.length<=j:=by
     by_cases hj:j<tgs.length
     ·rw[List.getElem?_append_left (by simpa using hj),List.getElem?_replicate,if_pos hj] at e
      cases e
     ·ac_rfl
    rw[<- b1 j hj] at e
    exact mem_of_getElem? e
  have hlen:σ1.length=tgs.length+(pick js σ).length:=by
   have:=f1.len
   rw[l1] at this
   simp[pick,dQ] at this ⊢
   ac_rfl
  refine⟨⟨σ1.take tgs.length,by rw[length_take];ac_rfl,xU lo hlen a1⟩,P,F',ρ1,f1,mt _ _ _ (fun b q5 H5 S5=>?_) q1⟩
  have S25:=(S2.trans S3).trans S5
  cases b with
  |true=>
   simp only[if_true] at q5
   refine tL ⟨P,F',ρ1,f1.mono S5,me _ _ _ (fun r q6 x H6 S6 rx=>?_) q5⟩
   have hD6:=S6 _ _ (S5 _ _ hD3)
   obtain⟨⟨rf,rl⟩,q6⟩:=q6
   have rep:=(rx.rep (fun a z=>(f1.mono S5).dom z) rf).weak up
   refine⟨hD6,by rw[ra.length];exact w6 rl,ds.length-(i+1),⋯,rfl,hlt,fun b o e=>?_,_,?_,q6⟩
   ·rw[aO (aM e hD)]
    exact S6 _ _ (S25 _ _ e)
   ·have G6:Gen X.K (fun a=>MM F ρ a \/ a=D) (fun a=>MM F ρ a \/ a=D) H6 (upd H6 D (.lst (acc++[x]))):=Gen.write (.inr rfl) (by rw[hD6];trivial)
    exact((ra.mono ((S3.trans S5).trans S6)).append (.cons rep .nil)).gen G6
  |false=>
   simp only[Bool.false_eq_true,if_false] at q5
   exact tM ⟨S5 _ _ hD3,ds.length-(i+1),⋯,rfl,hlt,S25,accD,ra.mono (S3.trans S5),q5⟩
 ·have e:i=ds.length:=⋯
  subst e
  rw[drop_length] at q
  exact .inl ⟨oks.2 (le_refl _),q (.ref D) H2 (S1.trans S2) ⟨D,rfl,S1.free hD,acc,hDl,ra⟩⟩
theorem EL{y:Str}{py spos:Pos}{iy:Nat}{elt iter tgt:Expr}{ifs:List Expr}{scope:Scope}(tgs ns:List Str)(js:List Nat){k:Nat}{ti:tX}{g:xI}{tt:lH}{te:d3}(hN:X.N.Nodup)(hi2:X.N[iy]?=some y)(hx2:Do X.env.scope y)(hc:X.N=X.N)(hi:QI X tgt iter ti)
  (hg:∀(fp:List Addr) (s:Shared) (H:Hp),QG (n5 X scope (dY X.env scope.names []) fp (tgs++ns) s H) tgt k g) (ht:∀(fp:List Addr) (s:Shared) (H:Hp),QTs (n5 X scope (dY X.env scope.names []) fp (tgs++ns) s H) ifs tt)
  (he:∀(fp:List Addr) (s:Shared) (H:Hp),QE (n5 X scope (dY X.env scope.names []) fp (tgs++ns) s H) elt te) (hk:autoParam (tgs.length=k) cB._auto_1)
  (hall:autoParam ((scope.names.all fun y=>!(y.2 == .free) || (X.env.cells.lookup y.1).isSome)=true) cB._auto_1) (hjs:autoParam (js.map (fun j=>X.N[j]?)=ns.map some) cB._auto_1)
  (hin:autoParam ((ns.all fun y=>(relabel scope X.env).names.lookup y==some .cell || (relabel scope X.env).names.lookup y==some .free)=true) cB._auto_1) (hout:autoParam ((ns.all fun y=>X.env.kindOf y==some .cell || X.env.kindOf y==some .free)=true) cB._auto_1)
  (nd:autoParam (js.Nodup) nB._auto_1) (hcell:autoParam (∀y∈scope.names,y.2 ≠ .cell) BW._auto_1) (hkind:autoParam (scope.kind=.function) cB._auto_1)
  (hnames:autoParam (∀y∈scope.names,y.2=.local->scope.names.lookup y.1=some .local) BW._auto_1) (hs:autoParam (∀z,foldedSetIterable iter X.env z=pure z) Ga._auto_1)
  (hsw:autoParam (swapsWith (.ListComp elt [⟨tgt,iter,ifs,0⟩] scope pos) (some (.Name y py)) spos.line X.env=pure true) cB._auto_1) (hf:autoParam (X.fn y=true \/ X.env.scope.names.lookup y=some .local) Dm._auto_1):
  QX X (.Assign [.Name y py] (.ListComp elt [⟨tgt,iter,ifs,0⟩] scope pos) spos) iy (fV k js ti g tt te):=by
 refine Gs hN hi2 hx2 hc hk hi hg ht he (lX hall) (fun x c e=>jF scope.names [] (by simp) (x,c) (PySem.mem_of_lookup e)) (fun x h=>?_) hjs (fun y hy=>?_) (fun y hy=>?_) nd hcell hkind hnames hs hsw hf
 ·obtain⟨c,hc⟩:=iK scope.names [] hall (nY hcell h)
  exact j5 hc
 ·have:=all_eq_true.mp hin y hy
  simpa using this
 ·have:=all_eq_true.mp hout y hy
  simpa using this
end
noncomputable def uF:Dv->Dv->(R->Prop)->Prop
 | .int i,.int j,Q=>Q (.v (.int (i+j)))
 | .str x,.str y,Q=>x.length+y.length<=xN/\Q (.v (.str (x++y)))
 |_,_,_=>False
noncomputable def M2:Dv->Dv->(R->Prop)->Prop
 | .int i,.int j,Q=>Q (.v (.int (i-j)))
 |_,_,_=>False
noncomputable def M3:Dv->Dv->(R->Prop)->Prop
 | .int i,.int j,Q=>oP i j/\Q (.v (.int (i*j)))
 |_,_,_=>False
section
variable {X:Cx}
theorem zI:OJ X .Add uF:=by
 refine⟨fun dx dy Q Q' w h=>?_,_,Hy.or zJ,fun M O H x y dx dy Q cx cy h=>?_⟩
 ·unfold uF at h
  split at h
  ·exact w _ h
  ·exact⟨h.1,w _ h.2⟩
  ·exact h.elim
 ·unfold uF at h
  split at h
  ·obtain rfl:=cx.int
   obtain rfl:=cy.int
   exact .inl ⟨_,_,rfl,rfl,h _ H (aK.refl _) (Rep.int _)⟩
  ·obtain rfl:=cx.str
   obtain rfl:=cy.str
   exact .inr ⟨_,_,rfl,rfl,hU h.1,h.2 _ H (aK.refl _) (Rep.str _)⟩
  ·exact h.elim
noncomputable def EF(te:d3)(g:xI):cD:=fun E ρ=>te ρ fun r=>r.free=true/\g r.d ρ E.nx
theorem Il{tg e:Expr}{te:d3}{g:xI}{k:Nat}{pos:Pos}(he:QE X e te)(hg:QG X tg k g)(hs:autoParam (swapsWithSole [tg] e pos.line X.env=pure false) cB._auto_1)(hw:autoParam (swappedStores [tg] e X.env=pure none) cB._auto_1)
  (h1:autoParam ((assignEach [tg] X.env).map (·.2)=[assign tg X.env]) cB._auto_1):QS X (.Assign [tg] e pos) (EF te g):=by
 obtain⟨t,ht,hr⟩:=hg.run
 refine⟨fun E E' ρ w h=>he.mono _ _ _ (fun r q=>⟨q.1,hg.mono _ _ _ _ (fun ρ q=>w.nx _ q) q.2⟩) h,fun HZ F=>f6 (Jk (he.run HZ F) ht hs hw h1) fun D σ H zz=>?_⟩
 obtain⟨ρ,E,fr,h,en⟩:=zz
 refine he.step fr h fun r x H1 q S1 r1=>?_
 have rep:=r1.rep (fun a m=>fr.dom m) q.1
 exact hr HZ F x r.d σ H1 ρ _ (fr.mono S1) rep (hg.mono _ _ _ _ (fun ρ1 q σ1 fr1 _=>en.nx _ _ _ fr1 q) q.2)
theorem EJ{a b c:Expr}{ta tb tc:d3}{pos:Pos}{op op':CmpOp}{f f':Int->Int->Bool}(ho:k9 X (compareOp op) (Ab fun i j=>.bl (f i j)))(ho':k9 X (compareOp op') (Ab fun i j=>.bl (f' i j)))(ha:QE X a ta)(hb:QE X b tb)(hc:QE X c tc)
  (hm:autoParam (lastMarks [op,op'] [b,c]=false) NA._auto_1):QT X (.Compare a [op,op'] [b,c] pos) (bU (pK (vO f) (vO f') ta tb tc)):=by
 have Q0:=Gu (pos:=pos) ho ho' ha hb hc hm
 have low:∀(HZ:Hp) (F:Addr->Prop) (σ:St) (H:Hp) (Q:VK),lift X.K HZ F (pK (vO f) (vO f') ta tb tc) σ H Q->AO (Ab fun i j=>.bl (f i j)) (Ab fun i j=>.bl (f' i j)) (lift X.K HZ F ta) (lift X.K HZ F tb) (lift X.K HZ F tc) σ H Q:=by
  rintro HZ F σ H Q ⟨ρ,fr,q⟩
  refine ha.step fr q fun rx x H1 q1 S1 r1=>?_
  refine hb.step (fr.mono S1) q1 fun ry y H2 q2 S2 r2=>?_
  have cx:=(r1.mono S2).c
  have cy:=r2.c
  generalize rx.d=dx at q2 cx
  generalize ry.d=dy at q2 cy
  unfold vO at q2
  split at q2
  ·rename_i Q2 i j
   obtain rfl:=cx.int
   obtain rfl:=cy.int
   refine⟨_,_,rfl,rfl,f i j,rfl,?_⟩
   have S12:=S1.trans S2
   replace q2:=(show (if f i j=true then tc ρ (fun w=>vO f' (.int j) w.d (fun r=>∀x H',aK H H'->d9 X.K (MM F ρ) (Z.tZ ρ) H x r H'->Q x H')) else (∀x H',aK H H'->d9 X.K (MM F ρ) (Z.tZ ρ) H x (.v (.bl false)) H'->Q x H')) from q2)
   cases h:f i j with
   |true=>
    rw[h] at q2
    simp only[if_true] at q2
    refine tL (hc.step ((fr.mono S1).mono S2) q2 fun rw' z H3 q3 S3 r3=>?_)
    have cz:=r3.c
    generalize rw'.d=dz at q3 cz
    cases dz with
    |int l=>
     obtain rfl:=cz.int
     exact⟨_,_,rfl,rfl,q3 _ H3 (S12.trans S3) (Rep.bl _)⟩
    |_=>exact(show False from q3).elim
   |false=>
    rw[h] at q2
    simp only[Bool.false_eq_true,if_false] at q2
    exact tM (q2 _ H2 S12 (Rep.bl _))
  ·exact q2.elim
 refine⟨fun ρ Q Q' w q=>sR Q0.mono ρ Q Q' w q,fun HZ F=>xJ (ET ho ho' (ha.run HZ F) (hb.run HZ F) (hc.run HZ F) hm) fun σ H Q zz=>?_⟩
 obtain⟨ρ,fr,q⟩:=zz
 refine low HZ F σ H _ (Q0.step fr q fun r x H1 q S1 r1=>?_)
 have cx:=r1.c
 generalize r.d=d at q cx
 split at q
 ·obtain rfl:=cx.bl
  exact⟨_,rfl,q H1 S1⟩
 ·exact q.elim
end
section
variable {X:Cx} {e:Expr} {te:d3} {pos:Pos}
noncomputable def Cg(i:Nat)(te:d3):cD:=fun E ρ=>match ρ[i]? with
 |some (.own a (.lst xs))=>te ρ fun r=>match r.d with
  | .lst ys=>xs.length+ys.length<=xN/\E.nx (ρ.set i (.own a (.lst (xs++ys))))
  |_=>False
 |_=>False
theorem Lk{i:Nat}{x:Str}{p1 p2 p3:Pos}(hv:PE X (.Name x p1) (AN i))(he:QE X e te)(hs:autoParam (swapsWith (.Call (.Attribute (.Name x p1) "extend" p2) [e] [] p3) none pos.line X.env=pure false) cB._auto_1)
  (hbase:autoParam (attributeBase (.Name x p1) "extend" X.env (eval (.Name x p1) X.env)=eval (.Name x p1) X.env) cB._auto_1)
  (hfew:autoParam (((backTo p3 (starEach [e] X.env)).all (fun x=>!x.1)&&(backToKw p3 (keywordEach [] X.env)).all (fun x=>x.1.isSome)
   && decide ([e].length+([]:List Keyword).length+(if ([]:List Keyword).isEmpty then 0 else 1)<30))=true) cB._auto_1)
  (hline:autoParam ((p2.endLine==p3.line)=true) cB._auto_1) (hst:autoParam (starEach [e] X.env=(false,eval e X.env)::starEach [] X.env) cB._auto_1) (hplain:autoParam ((backTo p3 (starEach [] X.env)).any (·.1)=false) cB._auto_1):
  QS X (.Expr (.Call (.Attribute (.Name x p1) "extend" p2) [e] [] p3) pos) (Cg i te):=by
 refine⟨fun E E' ρ w h=>?_,fun HZ F=>f6 (vG (Io PySem.F.plainAttrs_list PySem.F.slot_list_extend PySem.F.type_list_extend D7 hv (iS (he.run HZ F) mL hst) hbase hfew hline hst hplain) hs) fun D σ H ⟨ρ,E,fr,h,en⟩=>?_⟩
 ·unfold Cg at *
  split at h
  ·refine he.mono _ _ _ (fun r q=>?_) h
   split at q
   ·exact⟨q.1,w.nx _ q.2⟩
   ·exact q
  ·exact h
 ·unfold Cg at h
  split at h
  ·rename_i a xs hx
   obtain⟨hs1,vs,hv1,rv1⟩:=fr.sl i _ hx
   refine⟨_,hs1,.inl ⟨rfl,_,eJ.of hv1⟩,he.step fr h fun r y H1 q S1 r1=>?_⟩
   have cy:=r1.c
   generalize r.d=d at q cy
   split at q
   ·rename_i ys
    obtain⟨b,zs,rfl,eb,rb⟩:=cy.lst
    obtain⟨ql,q2⟩:=q
    have hv2:=S1 _ _ hv1
    refine⟨a,b,vs,zs,rfl,rfl,hv2,eb,hU (by rw[rv1.length,rb.length];exact ql),?_⟩
    refine en.nx _ _ _ ((fr.mono S1).write (d':=.lst (xs++ys)) hx ⟨_,aY,?_⟩) q2
    have G:Gen X.K (MM F ρ) (MM F ρ) H1 (upd H1 a (.lst (vs++zs))):=Gen.write (.inr ⟨_,mem_of_getElem? hx⟩) (by rw[hv2];trivial)
    exact((rv1.mono S1).append rb).gen G
   ·exact q.elim
  ·exact h.elim
noncomputable def ER(f:Str)(d:Dv):List (Str×Dv)->List (Str×Dv)
 | []=>[(f,d)]
 | (g,x)::r=>if g=f then (g,d)::r else (g,x)::ER f d r
theorem RepF.put{K:W.Frag}{M:Addr->Prop}{H:Hp}{f:Str}{x:V}{d:Dv}(a:Rep K M H x d){xs:List (Str×V)}{ds:List (Str×Dv)}(r:RepF K M H xs ds):RepF K M H (jU f x xs) (ER f d ds):=
 r.ind (P:=fun xs ds=>RepF K M H (jU f x xs) (ER f d ds)) (.cons a .nil) fun k _ _ _ _ b r ih=>by
  show RepF K M H (if k=f then _ else _) (if k=f then _ else _)
  split
  ·exact .cons a r
  ·exact .cons b ih
theorem RepF.length{K:W.Frag}{M:Addr->Prop}{H:Hp}{xs:List (Str×V)}{ds:List (Str×Dv)}(r:RepF K M H xs ds):xs.length=ds.length:=r.ind (P:=fun xs ds=>xs.length=ds.length) rfl fun _ _ _ _ _ _ _ ih=>congrArg (· + 1) ih
noncomputable def rP(C:Addr)(i:Nat)(f:Str)(te:d3):cD:=fun E ρ=>match ρ[i]? with
 |some (.own a (.obj C' fs))=>te ρ fun r=>(C'=C/\r.free=true/\fs.length<1000)/\E.nx (ρ.set i (.own a (.obj C' (ER f r.d fs))))
 |_=>False
theorem EO{C:Addr}{i:Nat}{x f:Str}{p1 p2:Pos}(c:Cls X.K C)(n:g6 X.K C f)(hv:PE X (.Name x p1) (AN i))(he:QE X e te)
  (hs:autoParam (swapsWith e (some (.Attribute (.Name x p1) f p2)) pos.line X.env=pure false) cB._auto_1):QS X (.Assign [.Attribute (.Name x p1) f p2] e pos) (rP C i f te):=by
 refine⟨fun E E' ρ w h=>?_,fun HZ F=>f6 (Ji hv he.pe hs) fun D σ H ⟨ρ,E,fr,h,en⟩=>?_⟩
 ·unfold rP at *
  split at h
  ·exact he.mono _ _ _ (fun r q=>⟨q.1,w.nx _ q.2⟩) h
  ·exact h
 ·unfold rP at h
  split at h
  ·rename_i a C' fs hx
   refine⟨HZ,F,he.step fr h fun r y H1 q S1 r1=>?_⟩
   obtain⟨⟨rfl,qf,ql⟩,q2⟩:=q
   have fr1:=fr.mono S1
   obtain⟨hs1,dx,fs1,hv1,rv1⟩:=fr1.sl i _ hx
   have rep:=r1.rep (fun a m=>fr.dom m) qf
   refine⟨_,hs1,a,C',dx,fs1,rfl,hv1,c,n,by rw[rv1.length];exact ql,?_⟩
   refine en.nx _ _ _ (fr1.write (d':=.obj C' (ER f r.d fs)) hx ⟨dx,_,aY,?_⟩) q2
   have G:Gen X.K (MM F ρ) (MM F ρ) H1 (upd H1 a (.ins C' dx (jU f y fs1))):=Gen.write (.inr ⟨_,mem_of_getElem? hx⟩) (by rw[hv1];trivial)
   exact(RepF.put rep rv1).gen G
  ·exact h.elim
end
noncomputable def Nn(K:W.Frag)(C:Addr)(sp:Fn):Sp:=fun vs H Q _=>∃(x dx:Addr) (vs':List V) (H0:Hp) (F:Addr->Prop) (ds:List Dv),vs=.ref x::vs'/\H=upd (upd H0 dx (.own x)) x (.ins C dx [])/\H0 x=none/\H0 dx=none/\dx≠x/\OldF K F H0/\Reps K F H0 vs' ds /\
 sp ds (fun r=>∀H',aK H0 H'->d9 K F AA H0 (.ref x) r H'->Q .non H')
structure IDef(P:Program)(w:World)(K:W.Frag)(mg:Str->Option Value)(base:Heap)(k:Nat)(x:Str)(C:Addr)(ps:List Str)(sp:Fn):Prop where
 ex:∃f fd,Mk K C f/\mg x=some (.ref C)/\iM K fd ps []/\FnOk P w K mg base u3 k f fd ps (Nn K C sp)
structure IAt(K:W.Frag)(mg:Str->Option Value)(x:Str)(C:Addr)(qual:Str)(st:Stmt)(ps:List Str):Prop where
 ex:∃f fd,Mk K C f/\mg x=some (.ref C)/\Fun K "__init__" qual st f fd/\iM K fd ps []
noncomputable def i5(C a:Addr)(N:List Str)(ds:List Dv):List Sl:=.own a (.obj C [])::(ds.map .v++List.replicate (N.length-(ds.length+1)) .un)
theorem E9{H0:Hp}{x dx:Addr}{o o':HO}(hx:H0 x=none)(hd:H0 dx=none):aK H0 (upd (upd H0 dx o) x o'):=fun b q e=>by
 rw[aO (aM e hx),aO (aM e hd)]
 exact e
theorem Cb{K:W.Frag}{C x dx:Addr}{F:Addr->Prop}{H0:Hp}{N:List Str}{vs:List V}{ds:List Dv}(hx:H0 x=none)(hd:H0 dx=none)(hF:OldF K F H0)(r:Reps K F H0 vs ds):
  Fr K H0 F (start N (.ref x::vs)) (upd (upd H0 dx (.own x)) x (.ins C dx [])) (i5 C x N ds):=by
 have S:aK H0 (upd (upd H0 dx (.own x)) x (.ins C dx [])):=E9 hx hd
 have only:∀{a:Addr} {d:Dv},Sl.own a d∈i5 C x N ds->a=x:=fun {a d} h=>by
  rcases mem_cons.mp h with h | h
  ·cases h;rfl
  ·rcases mem_append.mp h with h | h
   ·obtain⟨z,_,e⟩:=mem_map.mp h
    cases e
   ·cases eq_of_mem_replicate h
 have wk:∀a,MM F (i5 C x N ds) a->F a \/ a=x:=fun a h=>by
  rcases h with h | ⟨d,h⟩
  ·exact .inl h
  ·exact .inr (only h)
 have G:Gen K F (MM F (i5 C x N ds)) H0 (upd (upd H0 dx (.own x)) x (.ins C dx [])):=((Gen.fresh hx).trans (.mono S)).trans (.weak wk)
 have hl:=r.length
 have r':=r.gen G
 have zero:∀(i:Nat) (a:Addr) (d:Dv),(i5 C x N ds)[i]?=some (.own a d)->i=0:=fun i a d e=>by
  cases i with
  |zero=>rfl
  |succ i=>
   have e':(ds.map Sl.v++List.replicate (N.length-(ds.length+1)) Sl.un)[i]?=some (.own a d):=e
   have:=mem_of_getElem? e'
   rcases mem_append.mp this with h | h
   ·obtain⟨z,_,e⟩:=mem_map.mp h
    cases e
   ·cases eq_of_mem_replicate h
 refine⟨by simp[L2.start,i5,hl],fun i s e=>?_,fun i j a d d' e1 e2=>?_,fun a d h=>by rw[only h];exact hx,S,hF⟩
 ·cases i with
  |zero=>
   cases e
   exact⟨rfl,dx,[],aY,.nil⟩
  |succ i=>
   have e':(ds.map Sl.v++List.replicate (N.length-(ds.length+1)) Sl.un)[i]?=some s:=e
   have es:(start N (.ref x::vs))[i+1]?=(vs.map some++List.replicate (N.length-(vs.length+1)) none)[i]?:=by simp[L2.start]
   rw[es]
   by_cases hi:i<ds.length
   ·rw[List.getElem?_append_left (by simpa using hi),List.getElem?_map] at e'
    cases q:ds[i]? with
    |none=>rw[q] at e';cases e'
    |some d=>
     rw[q] at e'
     cases e'
     obtain⟨y,hy,ry⟩:=r'.get q
     refine⟨y,?_,ry⟩
     rw[List.getElem?_append_left (by simpa using(List.getElem?_eq_some_iff.mp hy).1),List.getElem?_map,hy]
     rfl
   ·rw[List.getElem?_append_right (by simpa using le_of_not_lt hi)] at e'
    have:=mem_of_getElem? e'
    cases eq_of_mem_replicate this
    trivial
 ·rw[zero i a d e1,zero j a d' e2]
theorem IAt.okP{P:Program}{w:World}{K:W.Frag}{mg:Str->Option Value}{base:Heap}{k:Nat}{x qual:Str}{C:Addr}{st:Stmt}{ps N:List Str}{sp:Fn}{t:cD}(m:IAt K mg x C qual st ps)(S:FnScope N ps (aF st))
  (hq:∀(f:Addr) (cdv:Value) (A:Around) (outer:List Env) (s:Shared) (H:Hp) (E:XK),Room k (A.deeper (envOfC qual (aF st) s.heap.objs.size f cdv))->QSs (n4 u3 P w K mg base N qual (aF st) f cdv A outer s H E).nox (d7 st) t)
  (len:∀ds Q,sp ds Q->ds.length+1=ps.length) (hsp:∀ds Q,sp ds Q -> ∀a,t { nx:=fun ρ=>∃d,ρ[0]?=some (.own a d)/\Q (.nw d),rt:=fun _=>False } (i5 C a N ds)):IDef P w K mg base (k+1) x C ps sp:=by
 obtain⟨f,fd,M,hm,FF,hb⟩:=m.ex
 refine⟨f,fd,M,hm,hb,FF.ok S (fun vs H Q E zz=>?_) fun cdv A outer s H vs Q E hr q=>?_⟩
 ·obtain⟨a,dx,vs',H0,F,ds,e,_,_,_,_,_,r,q⟩:=zz
  rw[e,length_cons,r.length]
  exact len _ _ q
 ·obtain⟨a,dx,vs',H0,F,ds,rfl,rfl,hx,hd,hn,hF,r,q⟩:=q
  refine⟨_,(hq f cdv A outer s _ E hr).run H0 F,i5 C a N ds,_,Cb hx hd hF r,hsp ds _ q a,?_,fun _ _ _ _ z=>z.elim,fun _ _ _ _ z=>z.elim,fun _ _ _ _ _ z=>z.elim⟩
  rintro ρ σ H' fr ⟨d,hd',q⟩
  have mem:Sl.own a d∈ρ:=mem_of_getElem? hd'
  exact q H' fr.same ⟨a,rfl,hx,(fr.sl 0 _ hd').2.weak fun b z=>z.elim .inl fun z=>.inr ⟨d,by rw[z];exact mem⟩⟩
noncomputable def CL(sp:Fn)(ts:lI):d3:=fun ρ Q=>ts ρ fun rs=>sp (rs.map R.d) (back rs Q)
section
variable {X:Cx} {k:Nat} {x:Str} {ps:List Str} {sp:Fn} {e:Expr} {es:List Expr} {ts:lI} {p pos:Pos} {C:Addr}
theorem JZ(d:IDef X.prog X.w X.K X.mg X.base k x C ps sp)(mo:MonoF sp)(hr:Room (k+1) X.A)(ha:QA X (e::es) ts)(hg:autoParam (Gl X x) cB._auto_1)
  (hdb:autoParam ((x==("__debug__" : Str))=false) nB._auto_1) (he:autoParam (starEach (e::es) X.env=(false,eval e X.env)::starEach es X.env) cB._auto_1) (hpl:autoParam ((backTo pos (starEach es X.env)).any (·.1)=false) cB._auto_1):
  QE X (.Call (.Name x p) (e::es) [] pos) (CL sp ts):=by
 obtain⟨f,fd,M,hm,hb,FO⟩:=d.ex
 refine⟨fun ρ Q Q' w q=>ha.mono _ _ _ (fun rs q=>mo.mo _ _ _ (lP w) q) q,fun HZ F=>cS (HI M FO hr hg hm hb .nil Bj (ha.run HZ F) hdb he hpl) fun σ H Q zz=>?_⟩
 obtain⟨ρ,fr,h⟩:=zz
 refine ha.step fr h fun rs xs H1 q S1 r1=>?_
 intro a dx hx hd hn
 rw[append_nil]
 refine⟨a,dx,xs,H1,lent (MM F ρ) rs,rs.map R.d,rfl,rfl,hx,hd,hn,⟨fun b z=>(fr.mono S1).dom z.1,(fr.mono S1).tab⟩,pG fr (fun _ h=>h) r1,mo.mo _ _ _ (fun r q H' S rx=>?_) q⟩
 exact⟨rfl,q.2 _ H' (S1.trans S) (uK fr S1 rx q.1)⟩
end
section
variable {K:W.Frag} {HZ H1 H':Hp} {F:Addr->Prop} {σ:St} {ρ:List Sl} {a b:Addr}
end
noncomputable def JU(a:Addr)(N:List Str):List Dv->List Sl
 | []=>[]
 |d::ds=>.own a d::(ds.map .v++List.replicate (N.length-(ds.length+1)) .un)
noncomputable def LS(i:Nat)(sp:Fn)(ts:lI):cD:=fun E ρ=>ts ρ fun rs=>match rs with
 | .ow a d::rest=>ρ[i]?=some (.own a d)/\rest.all R.free=true/\sp (d::rest.map R.d) (fun r=>match r with | .nw d'=>∀b,E.nx (ρ.set i (.own b d')) | _=>False)
 |_=>False
section
variable {X:Cx} {k i:Nat} {x y:Str} {ps:List Str} {sp:Fn} {e:Expr} {es:List Expr} {ts:lI} {p pos pos2 py:Pos}
end
noncomputable def Ni:Dv->Dv->(R->Prop)->Prop
 | .int i,.int j,Q=>IT i j/\Q (.v (.int (i*2 ^ j.toNat)))
 |_,_,_=>False
section
variable {X:Cx}
end
end Z
namespace L2
open AutoSeq1
noncomputable def t8(a c:Int)(n:Nat)(acc:Array Value):Prop:=ItemsOf (fun i v=>∃t,v=.int (a+i*c) t) acc n
noncomputable def N5(h h':Heap):Prop:=∀b o,h.get? b=some o->h'.get? b=some o
section
variable {prog:Program} {w:World} {A:Around} {E:Value->Shared->Prop} {s:Shared} {r:Addr} {a b c:Int} {t u v:Tok} {n:Nat}
theorem qC{Q:List Value->Shared->Prop}(hh:A.handled=none)(e:IsRange s.heap r a b c t u v)(hs:Builtin.Range.small a b c=true)(hz:Builtin.Range.rangeSize a b c=n)(hn:n<=2 ^ 24)
  (k:∀(h':Heap) (tk:Nat) (acc:Array Value),N5 s.heap h'->t8 a c n acc->Q acc.toList { s with heap:=h',toks:=tk }):wpAny (model prog w) A (collect (.ref r)) Q E s:=by
 let new:Obj:={ cls:=.type "list",data:=.seq ([]:List Value).toArray }
 have self:(s.heap.push new).get? s.heap.objs.size=some { cls:=.type "list",data:=.seq #[] 0 }:=Heap.get?_push_size _ rfl
 have back:∀(h':Heap) (tk:Nat) (acc:Array Value) (m:Nat),N5 s.heap h'->t8 a c n acc->h'.get? s.heap.objs.size=some { cls:=.type "list",dict:=none,data:=.seq acc m,slots:=#[] } ->
   wpAny (model prog w) A (load s.heap.objs.size >>= fun o=>match o.data with | .seq xs _=>pure xs.toList | _=>unsupported "internal:collect") Q E { s with heap:=h',toks:=tk }:=
  fun h' tk acc m hk hi hg=>wpAny_bind (wpAny_load hg (wpAny_pure (k h' tk acc hk hi)))
 unfold collect
 refine wpAny_bind (wpAny_runValue (codeAny_builtin F.entry_proto_collect ?_))
 rw[Around.under_plainId F.plain_proto_collect _]
 show wpAny (model prog w) A.in1 (newList [] >>= fun x=>again (.builtin "list.__iadd__" ⟨[x,.ref r],[]⟩)) _ _ s
 refine wpAny_bind (wpAny_newObj_type (wpAny_pure ⟨plainId_quiet F.plain_list_iadd _,codeAny_builtin F.entry_list_iadd ?_⟩))
 rw[Around.under_plainId F.plain_list_iadd _]
 change wpAny (model prog w) A.in1 (Builtin.List.listExtendWith (.ref s.heap.objs.size) (.ref r) _) _ _ { s with heap:=s.heap.push new }
 have ex:=wpAny_extend_range (prog:=prog) (w:=w) (A:=A) (s:={ s with heap:=s.heap.push new }) (R:=fun z s'=>z=.ok (.ret (.ref s.heap.objs.size))/\wpAny (model prog w) A (load s.heap.objs.size >>= fun o=>match o.data with | .seq xs _=>pure xs.toList | _=>unsupported "internal:collect") Q E s')
  hh (Heap.get?_push_of_some new e) hs hz hn s.heap.objs.size (.ref s.heap.objs.size) 0 self fun h' tk acc m hk hg hi=>⟨rfl,back h' tk acc m (fun d o q=>hk d o (ne_of_lt (Heap.lt_size q)) (Heap.get?_push_of_some new q)) hi hg⟩
 refine wpAny_mono ex (fun f s' q=>?_) fun x s' q=>nomatch q.1
 match f,q with
 | .done _,⟨rfl,q⟩=>exact q
 | .again c',⟨q1,q2⟩=>exact⟨q1,codeAny_mono q2 fun z s'' q=>by obtain⟨rfl,q⟩:=q;exact q⟩
end
end L2
namespace L2
section
variable {X:Cx}
end
end L2
namespace Z
open L2
section
variable {X:Cx} {a:Expr} {ts:lI} {p p2 pos:Pos}
noncomputable def MW(ts:lI):d3:=fun ρ Q=>ts ρ fun rs=>match rs.map R.d with
 | [.int j]=>(-(2 ^ 62)<=j/\j<2 ^ 62/\j.toNat<=1000000)/\Q (.v (.tup (bP 0 j.toNat)))
 |_=>False
end
end Z
namespace Tim
open PySem PySem.W PyProof.Rows
noncomputable def ask(lt:Nat->Nat->Bool)(N:Nat){α:Type}:KasT α->(α->Prop)->Prop
 | .ret a,Q=>Q a
 | .ask i j k,Q=>(i<N/\j<N/\i≠j)/\ask lt N (k (lt i j)) Q
theorem jI{lt:Nat->Nat->Bool}{N:Nat}{α β:Type}{f:α->KasT β}{Q:β->Prop}:∀(t:KasT α),ask lt N t (fun a=>ask lt N (f a) Q)->ask lt N (t.bind f) Q
 | .ret _,h=>h
 | .ask i j k,h=>⟨h.1,jI (k (lt i j)) h.2⟩
theorem xG{lt:Nat->Nat->Bool}{N:Nat}{α:Type}{cmp:Nat->Nat->(Bool->Shared->Prop)->Shared->Prop}{s:Shared}(hc:∀i j C,i<N->j<N->i≠j->C (lt i j) s->cmp i j C s){Q:α->Shared->Prop}:
  ∀(t:KasT α),ask lt N t (fun a=>Q a s)->t.kasWp cmp Q s
 | .ret _,h=>h
 | .ask i j k,h=>hc i j _ h.1.1 h.1.2.1 h.1.2.2 (xG hc (k (lt i j)) h.2)
structure Weak(lt:Nat->Nat->Bool):Prop where
 irr:∀a,lt a a=false
 tr:∀a b c,lt a b=true->lt b c=true->lt a c=true
 nt:∀a b c,lt a c=true->lt a b=true \/ lt b c=true
noncomputable def cN(p:Array Nat)(k:Nat):Nat:=p.getD k 0
theorem A4{p q:Array Nat}{i j:Nat}(h:p[i]?=q[j]?):cN p i=cN q j:=by
 unfold cN
 rw[Array.getD_eq_getD_getElem?,Array.getD_eq_getD_getElem?,h]
theorem j7{p:Array Nat}{i j:Nat}(hj:j<=p.size)(k:Nat):cN (kas_rev p i j) k=if i<=k/\k<j then cN p (i+j-1-k) else cN p k:=by
 have e:=getElem?_mirror_all (i:=i) hj k
 split
 ·rename_i h
  rw[if_pos h] at e
  exact A4 e
 ·rename_i h
  rw[if_neg h] at e
  exact A4 e
theorem Ky{p:Array Nat}{k d:Nat}(hs:k<p.size)(hd:d<=k)(u:Nat):cN (bubble p k d) u=if u=k-d then cN p k else if k-d<u/\u<=k then cN p (u-1) else cN p u:=by
 have e:=getElem?_bubble hs d hd u
 by_cases h1:u=k-d
 ·rw[if_pos h1] at e ⊢
  exact A4 e
 ·rw[if_neg h1] at e ⊢
  by_cases h2:k-d<u/\u<=k
  ·rw[if_pos h2] at e ⊢
   exact A4 e
  ·rw[if_neg h2] at e ⊢
   exact A4 e
noncomputable def Pm(N:Nat)(p:Array Nat):Prop:=p.Perm (List.toArray (List.range N))
section
variable {lt:Nat->Nat->Bool} {N:Nat} {p:Array Nat}
theorem Pm.size(h:Pm N p):p.size=N:=by
 have:=Array.Perm.size_eq h
 simpa using this
theorem Pm.list(h:Pm N p):p.toList.Perm (List.range N):=by
 have:=Array.perm_iff_toList_perm.mp h
 simpa using this
theorem n9{k:Nat}(hk:k<p.size):cN p k=p.toList[k]'(by simpa using hk):=by
 unfold cN
 simp[Array.getD,hk]
theorem Pm.ltN(h:Pm N p){k:Nat}(hk:k<N):cN p k<N:=by
 have hs:k<p.size:=by rw[h.size];exact hk
 rw[n9 hs]
 exact mem_range.mp (h.list.mem_iff.mp (List.getElem_mem _))
theorem Pm.ne(h:Pm N p){i j:Nat}(hi:i<N)(hj:j<N)(n:i≠j):cN p i≠cN p j:=by
 have nd:p.toList.Nodup:=h.list.nodup_iff.mpr List.nodup_range
 rw[n9 (by rw[h.size];exact hi),n9 (by rw[h.size];exact hj)]
 intro e
 rcases Nat.lt_or_gt_of_ne n with z | z
 ·exact pairwise_iff_getElem.mp nd i j _ _ z e
 ·exact pairwise_iff_getElem.mp nd j i _ _ z e.symm
theorem Pm.rev(h:Pm N p)(i j:Nat):Pm N (kas_rev p i j):=Array.Perm.trans (mirror_perm _ _ _ _) h
theorem Pm.bub(h:Pm N p)(i j:Nat):Pm N (bubble p i j):=Array.Perm.trans (bubble_perm _ _ _) h
noncomputable def Tl(N:Nat)(p:Array Nat)(k:Nat):Prop:=∀i,k<=i->i<N->cN p i=i
theorem Tl.up{k m:Nat}(h:Tl N p k)(hm:k<=m):Tl N p m:=fun i hi hn=>h i (le_trans hm hi) hn
theorem Tl.below{k i:Nat}(h:Tl N p k)(P:Pm N p)(hk:i<k)(hn:i<N):cN p i<k:=by
 have:=P.ltN hn
 apply Nat.lt_of_not_le
 intro z
 have e:=h _ z this
 exact P.ne hn this ⋯ e.symm
theorem Tl.rev{k i j:Nat}(h:Tl N p k)(P:Pm N p)(hj:j<=k)(hN:j<=N):Tl N (kas_rev p i j) k:=fun u hu hn=>by
 rw[j7 (by rw[P.size];exact hN),if_neg ⋯]
 exact h u hu hn
noncomputable def Dl(lt:Nat->Nat->Bool)(a b:Nat):Prop:=lt b a=false/\(lt a b=true \/ a<b)
theorem Dl.trans(W:Weak lt){a b c:Nat}(h:Dl lt a b)(k:Dl lt b c):Dl lt a c:=by
 have n1:lt c a=false:=by
  cases e:lt c a with
  |false=>rfl
  |true=>
   rcases W.nt c b a e with z | z
   ·rw[k.1] at z;cases z
   ·rw[h.1] at z;cases z
 refine⟨n1,?_⟩
 rcases h.2 with x | x
 ·rcases W.nt a c b x with z | z
  ·exact .inl z
  ·rw[k.1] at z;cases z
 ·rcases k.2 with y | y
  ·rcases W.nt b a c y with z | z
   ·rw[h.1] at z;cases z
   ·exact .inl z
  ·exact .inr (Nat.lt_trans x y)
theorem Weak.asym(W:Weak lt){a b:Nat}(h:lt a b=true):lt b a=false:=by
 cases e:lt b a with
 |false=>rfl
 |true=>have:=W.tr _ _ _ h e;rw[W.irr] at this;cases this
theorem Dl.of(W:Weak lt){a b:Nat}(h:lt a b=true):Dl lt a b:=⟨W.asym h,.inl h⟩
noncomputable def Up(lt:Nat->Nat->Bool)(p:Array Nat)(k:Nat):Prop:=∀u v,u<v->v<k->Dl lt (cN p u) (cN p v)
noncomputable def Dn(lt:Nat->Nat->Bool)(p:Array Nat)(k:Nat):Prop:=∀u v,u<v->v<k->Dl lt (cN p v) (cN p u)
theorem Up.rev{k:Nat}(h:Up lt p k)(hk:k<=p.size):Dn lt (kas_rev p 0 k) k:=fun u v huv hv=>by
 rw[j7 hk,j7 hk,if_pos (by omega),if_pos (by omega)]
 exact h _ _ (by omega) (by omega)
theorem Dn.rev{k:Nat}(h:Dn lt p k)(hk:k<=p.size):Up lt (kas_rev p 0 k) k:=fun u v huv hv=>by
 rw[j7 hk,j7 hk,if_pos ⋯,if_pos ⋯]
 exact h _ _ ⋯ ⋯
theorem Up.snoc(W:Weak lt){k:Nat}(h:Up lt p k)(t:Tl N p k)(P:Pm N p)(h1:1<=k)(hk:k<N)(n:lt (cN p k) (cN p (k-1))=false):Up lt p (k+1):=fun u v huv hv=>by
 by_cases e:v=k
 ·subst e
  have one:Dl lt (cN p (v-1)) (cN p v):=⟨n,.inr (by rw[t v (le_refl _) hk];exact t.below P ⋯ ⋯)⟩
  by_cases e2:u=v-1
  ·rw[e2];exact one
  ·exact(h u (v-1) ⋯ ⋯).trans W one
 ·exact h u v huv ⋯
theorem xH(W:Weak lt)(P:Pm N p){Q:Nat->Prop}:∀(f n:Nat),1<=n->n+f<=N->Up lt p n->Tl N p n ->
  (∀m,n<=m->m<=n+f->Up lt p m->(m=n+f \/ m<N/\lt (cN p m) (cN p (m-1))=true)->Q m)->ask lt N (kas_asc p f n) Q
 |0,n,_,hn,u,t,k=>k n (le_refl _) (le_refl _) u (.inl rfl)
 |f+1,n,h1,hn,u,t,k=>by
  refine⟨⟨P.ltN ⋯,P.ltN ⋯,P.ne ⋯ ⋯ ⋯⟩,?_⟩
  show ask lt N (if lt (cN p n) (cN p (n-1))=true then KasT.ret n else kas_asc p f (n+1)) Q
  cases e:lt (cN p n) (cN p (n-1)) with
  |true=>
   rw[if_pos rfl]
   exact k n (le_refl _) ⋯ u (.inr ⟨⋯,e⟩)
  |false=>
   rw[if_neg (by simp)]
   exact xH W P f (n+1) ⋯ ⋯ (u.snoc W t P h1 ⋯ e) (t.up ⋯) fun m a b c d=>k m ⋯ ⋯ c (d.elim (fun z=>.inl ⋯) .inr)
structure Run(lt:Nat->Nat->Bool)(N:Nat)(p:Array Nat)(n q:Nat):Prop where
 pm:Pm N p
 tl:Tl N p n
 le:q+1<=n
 hi:n<=N
 dn:Dn lt p (n-(q+1))
 same:∀u v,n-(q+1)<=u->u<v->v<n->lt (cN p u) (cN p v)=false/\lt (cN p v) (cN p u)=false/\cN p u<cN p v
 less:∀u v,u<n-(q+1)->n-(q+1)<=v->v<n->lt (cN p v) (cN p u)=true
theorem Run.turn(W:Weak lt){n q:Nat}(h:Run lt N p n q):Dn lt (kas_rev p (n-(q+1)) n) n:=fun u v huv hv=>by
 have hs:n<=p.size:=by rw[h.pm.size];exact h.hi
 have hl:=h.le
 rw[j7 hs,j7 hs]
 by_cases c:n-(q+1)<=v
 ·rw[if_pos ⟨c,hv⟩]
  by_cases d:n-(q+1)<=u
  ·rw[if_pos ⟨d,by omega⟩]
   obtain⟨a,b,e⟩:=h.same (n-(q+1)+n-1-v) (n-(q+1)+n-1-u) (by omega) (by omega) (by omega)
   exact⟨b,.inr e⟩
  ·rw[if_neg (by omega)]
   exact Dl.of W (h.less u _ (by omega) (by omega) (by omega))
 ·rw[if_neg (by omega),if_neg (by omega)]
  exact h.dn u v huv (by omega)
theorem Run.flat(W:Weak lt){n:Nat}(h:Run lt N p n 0):Dn lt p n:=fun u v huv hv=>by
 by_cases c:n-1<=v
 ·exact Dl.of W (h.less u v ⋯ ⋯ hv)
 ·exact h.dn u v huv ⋯
theorem Run.done(W:Weak lt){n q:Nat}(h:Run lt N p n q):∃p',(if q > 0 then kas_rev p (n-(q+1)) n else p)=p'/\Pm N p'/\Tl N p' n/\Dn lt p' n /\ ∀u,u<n -> ∃w,w<n/\cN p' u=cN p w:=by
 by_cases c:q > 0
 ·refine⟨_,if_pos c,h.pm.rev _ _,h.tl.rev h.pm (le_refl _) h.hi,h.turn W,fun u hu=>?_⟩
  have hl:=h.le
  rw[j7 (by rw[h.pm.size];exact h.hi)]
  split
  ·exact⟨_,⋯,rfl⟩
  ·exact⟨u,hu,rfl⟩
 ·have:q=0:=⋯
  subst this
  exact⟨_,if_neg c,h.pm,h.tl,h.flat W,fun u hu=>⟨u,hu,rfl⟩⟩
theorem Run.next(W:Weak lt){n q:Nat}(h:Run lt N p n q)(hn:n<N)(e:lt (cN p n) (cN p (n-1))=true):Run lt N (if q > 0 then kas_rev p (n-(q+1)) n else p) (n+1) 0:=by
 have hl:=h.le
 have all:∀w,w<n->lt (cN p n) (cN p w)=true:=fun w hw=>by
  by_cases c:w=n-1
  ·rw[c];exact e
  ·by_cases d:w<n-(q+1)
   ·exact W.tr _ _ _ e (h.less w (n-1) d ⋯ ⋯)
   ·rcases W.nt _ (cN p w) _ e with z | z
    ·exact z
    ·rw[(h.same w (n-1) ⋯ ⋯ ⋯).1] at z;cases z
 obtain⟨p',ep,P,T,D,A⟩:=h.done W
 rw[ep]
 have en:cN p' n=cN p n:=by rw[T n (le_refl _) hn,h.tl n (le_refl _) hn]
 refine⟨P,T.up ⋯,⋯,hn,by simpa using D,fun u v a b c=>by ac_rfl,fun u v a b c=>?_⟩
 have:v=n:=⋯
 subst this
 obtain⟨w,hw,ew⟩:=A u ⋯
 rw[en,ew]
 exact all w hw
theorem Run.more(W:Weak lt){n q:Nat}(h:Run lt N p n q)(hn:n<N)(e:lt (cN p n) (cN p (n-1))=false)(d:lt (cN p (n-1)) (cN p n)=false):Run lt N p (n+1) (q+1):=by
 have hl:=h.le
 have en:=h.tl n (le_refl _) hn
 have sz:n+1-(q+1+1)=n-(q+1):=⋯
 refine⟨h.pm,h.tl.up ⋯,⋯,hn,by rw[sz];exact h.dn,fun u v a b c=>?_,fun u v a b c=>?_⟩
 ·rw[sz] at a
  by_cases z:v=n
  ·subst z
   have lw:cN p u<cN p v:=by rw[en];exact h.tl.below h.pm b ⋯
   by_cases y:u=v-1
   ·subst y;exact⟨d,e,lw⟩
   ·obtain⟨s1,s2,_⟩:=h.same u (v-1) a ⋯ ⋯
    refine⟨?_,?_,lw⟩
    ·cases q1:lt (cN p u) (cN p v) with
     |false=>rfl
     |true=>
      rcases W.nt _ (cN p (v-1)) _ q1 with x | x
      ·rw[s1] at x;cases x
      ·rw[d] at x;cases x
    ·cases q1:lt (cN p v) (cN p u) with
     |false=>rfl
     |true=>
      rcases W.nt _ (cN p (v-1)) _ q1 with x | x
      ·rw[e] at x;cases x
      ·rw[s2] at x;cases x
  ·exact h.same u v a b ⋯
 ·rw[sz] at a b
  by_cases z:v=n
  ·subst z
   rcases W.nt _ (cN p v) _ (h.less u (v-1) a ⋯ ⋯) with x | x
   ·rw[d] at x;cases x
   ·exact x
  ·exact h.less u v a b ⋯
theorem oI(W:Weak lt){Q:Array Nat×Nat×Nat->Prop}:∀(f:Nat) (p:Array Nat) (n q:Nat),n+f<=N->Run lt N p n q->(∀p' n' q',n<=n'->n'<=n+f->Run lt N p' n' q'->Q (p',n',q'))->ask lt N (kas_desc f p n q) Q
 |0,p,n,q,hn,r,k=>k p n q (le_refl _) (le_refl _) r
 |f+1,p,n,q,hn,r,k=>by
  have hl:=r.le
  refine⟨⟨r.pm.ltN ⋯,r.pm.ltN ⋯,r.pm.ne ⋯ ⋯ ⋯⟩,?_⟩
  show ask lt N (if lt (cN p n) (cN p (n-1))=true then (if q > 0 then kas_desc f (kas_rev p (n-(q+1)) n) (n+1) 0 else kas_desc f p (n+1) 0)
   else .ask (p.getD (n-1) 0) (p.getD n 0) fun d=>if d=true then .ret (p,n,q) else kas_desc f p (n+1) (q+1)) Q
  cases e:lt (cN p n) (cN p (n-1)) with
  |true=>
   rw[if_pos rfl]
   have r':=r.next W ⋯ e
   by_cases c:q > 0
   ·rw[if_pos c] at r' ⊢
    exact oI W f _ (n+1) 0 ⋯ r' fun p' n' q' a b c=>k p' n' q' ⋯ ⋯ c
   ·rw[if_neg c] at r' ⊢
    exact oI W f _ (n+1) 0 ⋯ r' fun p' n' q' a b c=>k p' n' q' ⋯ ⋯ c
  |false=>
   rw[if_neg (by simp)]
   refine⟨⟨r.pm.ltN ⋯,r.pm.ltN ⋯,r.pm.ne ⋯ ⋯ ⋯⟩,?_⟩
   show ask lt N (if lt (cN p (n-1)) (cN p n)=true then .ret (p,n,q) else kas_desc f p (n+1) (q+1)) Q
   cases d:lt (cN p (n-1)) (cN p n) with
   |true=>
    rw[if_pos rfl]
    exact k p n q (le_refl _) ⋯ r
   |false=>
    rw[if_neg (by simp)]
    exact oI W f _ (n+1) (q+1) ⋯ (r.more W ⋯ e d) fun p' n' q' a b c=>k p' n' q' ⋯ ⋯ c
noncomputable def OB(lt:Nat->Nat->Bool)(N:Nat)(r:Nat×Array Nat):Prop:=1<=r.1/\r.1<=N/\Pm N r.2/\Up lt r.2 r.1/\Tl N r.2 r.1
theorem xQ(W:Weak lt){n:Nat}{Q:Nat×Array Nat->Prop}(P:Pm N p)(h1:1<=n)(hn:n<=N)(D:Dn lt p n)(T:Tl N p n)(k:∀r,OB lt N r->Q r):ask lt N (kas_tail3 n N p) Q:=by
 unfold kas_tail3
 have P':=P.rev 0 n
 have T':Tl N (kas_rev p 0 n) n:=T.rev P (le_refl _) hn
 refine jI _ (xH W P' (N-n) n h1 ⋯ (D.rev (by rw[P.size];exact hn)) T' fun m a b c d=>?_)
 exact k _ ⟨by show 1<=m;ac_rfl,by show m<=N;ac_rfl,P',c,T'.up a⟩
theorem yD(W:Weak lt){n:Nat}{Q:Nat×Array Nat->Prop}(P:Pm N p)(h1:1<=n)(hn:n<N)(D:Dn lt p n)(T:Tl N p n)(e:∀w,w<n->lt (cN p n) (cN p w)=true)(k:∀r,OB lt N r->Q r):ask lt N (kas_descPart n N p) Q:=by
 unfold kas_descPart
 have r0:Run lt N p (n+1) 0:=⟨P,T.up ⋯,⋯,hn,by simpa using D,fun u v a b c=>by ac_rfl,fun u v a b c=>by
  have:v=n:=⋯
  subst this
  exact e u ⋯⟩
 refine jI _ (oI W _ p (n+1) 0 ⋯ r0 fun p' n' q' a b r=>?_)
 obtain⟨p2,ep,P2,T2,D2,_⟩:=r.done W
 show ask lt N (if q' > 0 then kas_tail3 n' N (kas_rev p' (n'-(q'+1)) n') else kas_tail3 n' N p') Q
 by_cases c:q' > 0
 ·rw[if_pos c] at ep ⊢
  rw[ep]
  exact xQ W P2 ⋯ ⋯ D2 T2 k
 ·rw[if_neg c] at ep ⊢
  rw[ep]
  exact xQ W P2 ⋯ ⋯ D2 T2 k
theorem Df(W:Weak lt){Q:Nat×Array Nat->Prop}(P:Pm N p)(h1:1<=N)(T:Tl N p 0)(k:∀r,OB lt N r->Q r):ask lt N (kas_count N p) Q:=by
 unfold kas_count
 refine jI _ (xH W P (N-1) 1 (le_refl _) ⋯ (fun u v a b=>by ac_rfl) (T.up ⋯) fun m a b c d=>?_)
 by_cases z:m=N
 ·rw[if_pos (by simpa using z)]
  exact k _ ⟨a,by show m<=N;ac_rfl,P,c,T.up ⋯⟩
 ·rw[if_neg (by simpa using z)]
  have hm:m<N/\lt (cN p m) (cN p (m-1))=true:=d.resolve_left ⋯
  by_cases y:m > 1
  ·rw[if_pos y]
   refine⟨⟨P.ltN ⋯,P.ltN ⋯,P.ne ⋯ ⋯ ⋯⟩,?_⟩
   show ask lt N (if lt (cN p 0) (cN p (m-1))=true then .ret (m,p) else kas_descPart m N (kas_rev p 0 m)) Q
   cases e:lt (cN p 0) (cN p (m-1)) with
   |true=>
    rw[if_pos rfl]
    exact k _ ⟨a,by show m<=N;ac_rfl,P,c,T.up ⋯⟩
   |false=>
    rw[if_neg (by simp)]
    have hs:m<=p.size:=by rw[P.size];ac_rfl
    refine yD W (P.rev _ _) a hm.1 (c.rev hs) ((T.up (zero_le m)).rev P (le_refl _) ⋯) (fun w hw=>?_) k
    rw[j7 hs,j7 hs,if_neg ⋯,if_pos ⋯]
    have m0:lt (cN p m) (cN p 0)=true:=by
     rcases W.nt _ (cN p 0) _ hm.2 with x | x
     ·exact x
     ·rw[e] at x;cases x
    by_cases w0:0+m-1-w=0
    ·rw[w0];exact m0
    ·rcases W.nt _ (cN p (0+m-1-w)) _ m0 with x | x
     ·exact x
     ·rw[(c 0 (0+m-1-w) ⋯ ⋯).1] at x;cases x
  ·rw[if_neg y]
   have:m=1:=⋯
   subst this
   refine yD W P a hm.1 (fun u v a b=>by ac_rfl) (T.up ⋯) (fun w hw=>?_) k
   have:w=0:=⋯
   subst this
   exact hm.2
theorem p6(W:Weak lt)(P:Pm N p){k:Nat}(hk:k<N)(U:Up lt p k){Q:Nat->Prop}:∀(f l r:Nat),l<=r->r<=k->r-l<=f->(∀u,u<l->lt (cN p k) (cN p u)=false)->(∀u,r<=u->u<k->lt (cN p k) (cN p u)=true) ->
  (∀l',l'<=k->(∀u,u<l'->lt (cN p k) (cN p u)=false)->(∀u,l'<=u->u<k->lt (cN p k) (cN p u)=true)->Q l')->ask lt N (kas_place p k f l r) Q
 |0,l,r,hl,hr,hf,a,b,g=>by
  have:r=l:=⋯
  subst this
  exact g r hr a b
 |f+1,l,r,hl,hr,hf,a,b,g=>by
  unfold kas_place
  by_cases c:l >= r
  ·rw[if_pos c]
   have:r=l:=⋯
   subst this
   exact g r hr a b
  ·rw[if_neg c]
   have hm:(l+r) / 2<r:=⋯
   have hm2:l<=(l+r) / 2:=⋯
   generalize (l+r) / 2=mid at *
   refine⟨⟨P.ltN hk,P.ltN ⋯,P.ne hk ⋯ ⋯⟩,?_⟩
   show ask lt N (if lt (cN p k) (cN p mid)=true then kas_place p k f l mid else kas_place p k f (mid+1) r) Q
   cases e:lt (cN p k) (cN p mid) with
   |true=>
    rw[if_pos rfl]
    refine p6 W P hk U f l mid hm2 ⋯ ⋯ a (fun u h1 h2=>?_) g
    by_cases z:u=mid
    ·rw[z];exact e
    ·rcases W.nt _ (cN p u) _ e with x | x
     ·exact x
     ·rw[(U mid u ⋯ h2).1] at x;cases x
   |false=>
    rw[if_neg (by simp)]
    refine p6 W P hk U f (mid+1) r ⋯ hr ⋯ (fun u hu=>?_) b g
    by_cases z:u=mid
    ·rw[z];exact e
    ·cases q:lt (cN p k) (cN p u) with
     |false=>rfl
     |true=>
      rcases W.nt _ (cN p mid) _ q with x | x
      ·rw[e] at x;cases x
      ·rw[(U u mid ⋯ ⋯).1] at x;cases x
theorem CS(W:Weak lt){Q:Array Nat->Prop}:∀(f:Nat) (p:Array Nat) (k:Nat),k+f=N->Pm N p->Up lt p k->Tl N p k->(∀p',Pm N p'->Up lt p' N->Q p')->ask lt N (kas_bin f p k) Q
 |0,p,k,hk,P,U,T,g=>by
  have:k=N:=⋯
  subst this
  exact g p P U
 |f+1,p,k,hk,P,U,T,g=>by
  refine jI _ (p6 W P ⋯ U k 0 k (zero_le _) (le_refl _) ⋯ (fun u h=>by ac_rfl) (fun u h1 h2=>by ac_rfl) fun l hl a b=>?_)
  have hs:k<p.size:=by rw[P.size];ac_rfl
  have e:∀u,cN (bubble p k (k-l)) u=if u=l then cN p k else if l<u/\u<=k then cN p (u-1) else cN p u:=fun u=>by
   rw[Ky hs ⋯ u,show k-(k-l)=l by ac_rfl]
  refine CS W f _ (k+1) ⋯ (P.bub _ _) (fun u v huv hv=>?_) (fun i hi hn=>?_) g
  ·have tk:=T k (le_refl _) ⋯
   rw[e u,e v]
   by_cases u1:u=l
   ·rw[if_pos u1,if_neg ⋯,if_pos ⋯]
    exact Dl.of W (b (v-1) ⋯ ⋯)
   ·rw[if_neg u1]
    by_cases v1:v=l
    ·rw[if_pos v1,if_neg ⋯]
     exact⟨a u ⋯,.inr (by rw[tk];exact T.below P ⋯ ⋯)⟩
    ·rw[if_neg v1]
     by_cases u2:l<u
     ·rw[if_pos ⋯,if_pos ⋯]
      exact U _ _ ⋯ ⋯
     ·rw[if_neg ⋯]
      by_cases v2:l<v
      ·rw[if_pos ⋯]
       exact U _ _ ⋯ ⋯
      ·rw[if_neg ⋯]
       exact U _ _ ⋯ ⋯
  ·rw[e i,if_neg ⋯,if_neg ⋯]
   exact T i ⋯ hn
theorem rK(W:Weak lt)(h1:1<=N){Q:Array Nat->Prop}(k:∀p',Pm N p'->Up lt p' N->Q p'):ask lt N (kas_sort N) Q:=by
 unfold kas_sort
 refine jI _ (Df W (Array.Perm.refl _) h1 (fun i _ hi=>by simp[cN,Array.getD,hi]) fun r g=>?_)
 obtain⟨a,b,c,d,e⟩:=g
 by_cases z:r.1<N
 ·rw[if_pos z]
  have:max r.1 1=r.1:=⋯
  rw[this]
  exact CS W _ r.2 r.1 ⋯ c d e k
 ·rw[if_neg z]
  have:r.1=N:=⋯
  rw[this] at d
  exact k _ c d
end
end Tim
namespace L2
open PySem PySem.Spec PySem.W PyProof.Rows Tim
noncomputable abbrev picked(vs:List Value)(p:Array Nat):List Value:=p.toList.map fun i=>vs.getD i Value.none
structure Cmp(prog:Program)(w:World)(s:Shared)(a:Addr)(vs:List Value)(lt:Nat->Nat->Bool)(κ:SortKind):Prop where
 wk:Weak lt
 kind:∀(A:Around) (h:Heap) (Q:SortKind->Shared->Prop),(∀b o,b≠a->s.heap.get? b=some o->h.get? b=some o)->Q κ { s with heap:=h }->wpAny (model prog w) A (keyKind' vs.toArray) Q (fun _ _=>False) { s with heap:=h }
 less:∀(A:Around) (h:Heap) (i j:Nat) (C:Bool->Shared->Prop),(∀b o,b≠a->s.heap.get? b=some o->h.get? b=some o)->i<vs.length->j<vs.length->i≠j->C (lt i j) { s with heap:=h } ->
  wpAny (model prog w) A (keyLt' κ (vs.getD i Value.none) (vs.getD j Value.none)) C (fun _ _=>False) { s with heap:=h }
section
variable {prog:Program} {w:World} {A:Around} {E:Value->Shared->Prop} {s:Shared}
theorem p7(vs:List Value):picked vs (List.toArray (List.range vs.length))=vs:=by
 apply ext_getElem?
 intro i
 by_cases h:i<vs.length
 ·simp[picked,h]
 ·simp[picked,h]
theorem Cd{a:Addr}{vs:List Value}{n:Nat}{lt:Nat->Nat->Bool}{κ:SortKind}{P:Fin->Shared->Prop}(ho:s.heap.get? a=some (seqObj "list" vs.toArray n))(h64:vs.length<64)(c:2<=vs.length->Cmp prog w s a vs lt κ)
  (k:∀p,Pm vs.length p->Up lt p vs.length->P (.done (.ret .none)) { s with heap:=sortedHeap s.heap a vs (picked vs p).toArray }):wpAny (model prog w) A (Builtin.«list.sort» ⟨[.ref a],[]⟩) P E s:=by
 have la:a<s.heap.objs.size:=Heap.lt_size ho
 let h1:=s.heap.update a (Obj.mapSeq fun _=>#[])
 let h2:=h1.push (seqObj "tuple" vs.toArray 0)
 let h3:=h2.push (seqObj "list" #[] 0)
 obtain⟨m,g1⟩:∃m,h1.get? a=some (seqObj "list" #[] m):=⟨_,get?_update_seq ho fun _=>#[]⟩
 have sz1:h1.objs.size=s.heap.objs.size:=Heap.size_update ..
 have keep:∀b o,b≠a->s.heap.get? b=some o->h3.get? b=some o:=fun b o hb e=>
  Heap.get?_push_of_some _ (Heap.get?_push_of_some _ ((Heap.get?_update_ne _ _ _ _ hb).trans e))
 have g3:h3.get? a=some (seqObj "list" #[] m):=Heap.get?_push_of_some _ (Heap.get?_push_of_some _ g1)
 have line:vs.length<=sizeLine:=by rw[sizeLine_eq];ac_rfl
 have fin:∀p,Pm vs.length p->Up lt p vs.length->wpAny (model prog w) A (do
   let touched:=(<- seqEpoch a) != m
   Builtin.List.listUpdate (.ref a) fun _=>(picked vs p).toArray
   if touched then rule "list.sort.modified";raiseError "ValueError" "list modified during sort"
   ret .none) P E { s with heap:=h3 }:=fun p pm up=>by
  have sz:(picked vs p).toArray.size=vs.length:=by simp[picked,pm.size]
  refine wpAny_bind (seqEpoch_at g3 rfl (wpAny_bind (listUpdate_at g3 rfl ?_ (zero_le _) (by rw[sz];ac_rfl))))
  rw[show (m != m)=false by simp]
  exact wpAny_pure (k p pm up)
 rw[list_sort_plain]
 refine wpAny_bind (listItems_at ho rfl (wpAny_bind (listUpdate_at ho rfl ?_ (by simpa using line) (zero_le _))))
 refine wpAny_bind (seqEpoch_at g1 rfl (wpAny_bind (wpAny_newTuple (wpAny_bind (wpAny_newList (wpAny_holding ?_) (zero_le _))) (by simpa using line))))
 show wpAny (model prog w) A _ P E { s with heap:=h3 }
 dsimp only
 by_cases two:2<=vs.length
 ·have big:¬vs.toArray.size<2:=by simpa using two
  rw[if_neg big,if_neg big]
  have cc:=c two
  refine wpAny_bind (wpAny_mono (cc.kind A h3 (fun x s'=>x=κ/\s'={ s with heap:=h3 }) keep ⟨rfl,rfl⟩) (fun x s' e=>?_) fun _ _ z=>z.elim)
  obtain⟨rfl,rfl⟩:=e
  have tree:(kas_sort vs.length).kasWp (kas_ask prog w A x vs) (fun p s'=>(Pm vs.length p/\Up lt p vs.length)/\s'={ s with heap:=h3 }) { s with heap:=h3 }:=
   xG (lt:=lt) (N:=vs.length) (fun i j C hi hj hn q=>cc.less A h3 i j C keep hi hj hn q) _ (rK cc.wk ⋯ fun p a b=>⟨⟨a,b⟩,rfl⟩)
  refine wpAny_bind (wpAny_mono (kat_run (E:=E) (Q:=fun st' s'=>∃p,(Pm vs.length p/\Up lt p vs.length)/\arrOf st'=p.map (kas_item (vs.toArray.zip vs.toArray))/\failedOf st'=none/\s'={ s with heap:=h3 })
   rfl two h64 (fun p st' s' _ a b q=>⟨p,q.1,a,b,q.2⟩) tree) (fun r s' q=>?_) fun _ _ z=>z)
  obtain⟨⟨⟩,st'⟩:=r
  obtain⟨p,⟨pm,up⟩,e1,e2,rfl⟩:=q
  dsimp only at e1 e2 ⊢
  rw[kat_snds rfl e1,e2]
  exact fin p pm up
 ·have few:vs.toArray.size<2:=by simp;ac_rfl
  rw[if_pos few,if_pos few]
  refine wpAny_bind (wpAny_pure ?_)
  rw[StateT.run_pure]
  refine wpAny_bind (wpAny_pure ?_)
  dsimp only
  have e:((arrOf (SortSt.mk' general' (vs.toArray.zip vs.toArray) #[] 7 none)).map fun x=>x.2)=(picked vs (List.toArray (List.range vs.length))).toArray:=by
   rw[p7]
   apply toList_inj.mp
   show ((vs.toArray.zip vs.toArray).map fun x=>x.2).toList=_
   simp
   apply ext_getElem?
   intro i
   by_cases hi:i<vs.length
   ·simp[hi]
   ·simp[hi]
  rw[e]
  exact fin _ (Array.Perm.refl _) fun u v h1 h2=>by ac_rfl
theorem Cc{l:Addr}{vs:List Value}{lt:Nat->Nat->Bool}{κ:SortKind}{Q:Value->Shared->Prop}(hl:s.heap.IsList l vs.toArray)(h64:vs.length<64)(c:2<=vs.length->Cmp prog w s s.heap.objs.size vs lt κ)
  (k:∀p,Pm vs.length p->Up lt p vs.length->Q (.ref (s.heap.objs.size+1)) { s with heap:=sortedAll s.heap vs (picked vs p).toArray }):wpAny (model prog w) A (call (.builtin "sorted") [.ref l]) Q E s:=by
 have line:vs.length<=sizeLine:=by rw[sizeLine_eq];ac_rfl
 let h1:=(s.heap.push (seqObj "list" #[] 0)).update s.heap.objs.size (Obj.mapSeq (· ++ vs.toArray))
 let h2:=h1.push (seqObj "list" vs.toArray 0)
 have sz:h1.objs.size=s.heap.objs.size+1:=(Heap.size_update ..).trans (size_push' _ _)
 have old:∀b o,s.heap.get? b=some o->h2.get? b=some o:=fun b o e=>
  Heap.get?_push_of_some _ ((Heap.get?_update_ne _ _ _ _ (ne_of_lt (Heap.lt_size e))).trans (Heap.get?_push_of_some _ e))
 have mine:h2.get? (s.heap.objs.size+1)=some (seqObj "list" vs.toArray 0):=sz ▸ Heap.get?_push_size h1 rfl
 refine Calls.call_function_entry kind_sorted plain_sorted entry_sorted (args_sorted1 _) ?_
 unfold Builtin.«sorted»
 refine wpAny_bind (m:=checkCount "sorted" 1 1 _) (wpAny_pure (wpAny_bind (collect_list hl (wpAny_bind (wpAny_newList ?_ line)) line)))
 show wpAny _ _ _ _ _ { s with heap:=h2 }
 rw[show ((s.heap.push (seqObj "list" #[] 0)).update s.heap.objs.size (Obj.mapSeq (· ++ vs.toArray))).objs.size=s.heap.objs.size+1 from sz]
 refine wpAny_bind (wpAny_holding (wpAny_call_entry slot_list_sort ⟨_,mine,rfl⟩ entry_list_sort ?_ (args_list_sort _)))
 refine Cd (s:={ s with heap:=h2 }) (lt:=lt) (κ:=κ) mine h64 (fun two=>?_) fun p a b=>⟨_,rfl,wpAny_pure ⟨_,rfl,k p a b⟩⟩
 ·have cc:=c two
  exact⟨cc.wk,fun A h Q hk q=>cc.kind A h Q (fun b o hb e=>hk b o (fun z=>by have y:=Heap.lt_size e;rw[z] at y;exact Nat.not_succ_lt_self y) (old b o e)) q,
   fun A h i j C hk hi hj hn q=>cc.less A h i j C (fun b o hb e=>hk b o (fun z=>by have y:=Heap.lt_size e;rw[z] at y;exact Nat.not_succ_lt_self y) (old b o e)) hi hj hn q⟩
end
noncomputable def dD:List Int->List Int->Bool
 | [],[]=>false
 | [],_::_=>true
 |_::_,[]=>false
 |a::r,b::t=>if a=b then dD r t else decide (a<b)
theorem zD:∀a,dD a a=false
 | []=>rfl
 |a::r=>by rw[dD,if_pos rfl];exact zD r
theorem w9:∀a b c,dD a b=true->dD b c=true->dD a c=true
 | [],[],_,h,_=>by cases h
 | [],_::_,[],_,k=>by cases k
 | [],_::_,_::_,_,_=>rfl
 |_::_,[],_,h,_=>by cases h
 |_::_,_::_,[],_,k=>by cases k
 |a::r,b::t,c::u,h,k=>by
  unfold dD at h k ⊢
  by_cases e:a=b
  ·rw[if_pos e] at h
   subst e
   by_cases e2:a=c
   ·rw[if_pos e2] at k ⊢
    exact w9 r t u h k
   ·rw[if_neg e2] at k ⊢
    exact k
  ·rw[if_neg e] at h
   have h1:=of_decide_eq_true h
   by_cases e2:b=c
   ·subst e2
    rw[if_neg e]
    exact h
   ·rw[if_neg e2] at k
    have h2:=of_decide_eq_true k
    rw[if_neg ⋯]
    exact decide_eq_true ⋯
theorem oA:∀a b,a≠b->dD a b=true \/ dD b a=true
 | [],[],h=>absurd rfl h
 | [],_::_,_=>.inl rfl
 |_::_,[],_=>.inr rfl
 |a::r,b::t,h=>by
  unfold dD
  by_cases e:a=b
  ·subst e
   rw[if_pos rfl,if_pos rfl]
   exact oA r t fun z=>h (by rw[z])
  ·rw[if_neg e,if_neg (Ne.symm e)]
   rcases Int.lt_or_gt_of_ne e with z | z
   ·exact .inl (decide_eq_true z)
   ·exact .inr (decide_eq_true z)
theorem uJ(f:Nat->List Int):Weak fun i j=>dD (f i) (f j):=by
 refine⟨fun a=>zD _,fun a b c=>w9 _ _ _,fun a b c h=>?_⟩
 by_cases e:f a=f b
 ·exact .inr (by rw[<- e];exact h)
 ·rcases oA _ _ e with z | z
  ·exact .inl z
  ·exact .inr (w9 _ _ _ z h)
section
variable {prog:Program} {w:World} {A:Around} {s:Shared} {C:Bool->Shared->Prop} {fin:Bool}
theorem sG:∀(ns ms:List Int) (us vs ru rv:List Value) (i:Nat),IntsAre us ns->IntsAre vs ms->ns.length=ms.length->ns≠ms->C (dD ns ms) s->KatLex prog w A true fin C ((us++ru).zip (vs++rv)) i s
 | [],[],_,_,_,_,_,_,_,_,n,_=>absurd rfl n
 | [],_::_,_,_,_,_,_,_,_,l,_,_=>by cases l
 |_::_,[],_,_,_,_,_,_,_,l,_,_=>by cases l
 |a::r,b::t,_,_,ru,rv,i,.cons _ x hu,.cons _ y hv,l,n,q=>by
  unfold dD at q
  refine kat_cons (wpAny_eqBool_int (kat_go (fun e=>kat_yes ?_) fun e=>kat_no ?_))
  ·have e':a=b:=by simpa using e
   rw[if_pos e'] at q
   exact sG r t _ _ ru rv (i+1) hu hv (by simpa using l) (fun z=>n (by rw[e',z])) q
  ·have e':¬a=b:=by simpa using e
   rw[if_neg e'] at q
   by_cases z:i=0
   ·rw[show (true&&i==0)=true by simp[z]]
    exact oneLt_int q
   ·rw[show (true&&i==0)=false by simp[z]]
    exact kat_one _ _ (lt_int q)
end
section
variable {X:Cx}
noncomputable abbrev L8:=Addr×List Int×List V
theorem HG{α:Type}{N:Nat}{p:Array Nat}(P:Pm N p)(xs:List α)(hl:xs.length=N)(d:α):(p.toList.map fun i=>xs.getD i d).Perm xs:=by
 have e:(List.range N).map (fun i=>xs.getD i d)=xs:=by
  apply ext_getElem?
  intro i
  by_cases h:i<N
  ·simp[h,hl]
  ·simp[h,hl]
 have:=P.list.map fun i=>xs.getD i d
 rwa[e] at this
theorem kC{α:Type}{N:Nat}{p:Array Nat}{lt:Nat->Nat->Bool}(P:Pm N p)(U:Up lt p N)(xs:List α)(d:α)(Rel:α->α->Prop)(hR:∀i j,i<N->j<N->Dl lt i j->Rel (xs.getD i d) (xs.getD j d)):
  (p.toList.map fun i=>xs.getD i d).Pairwise Rel:=by
 rw[pairwise_map]
 rw[pairwise_iff_getElem]
 intro i j hi hj hij
 have si:i<p.size:=by simpa using hi
 have sj:j<p.size:=by simpa using hj
 have b:=U i j hij (by rw[<- P.size];exact sj)
 rw[n9 si,n9 sj] at b
 have:=P.ltN (k:=i) (by rw[<- P.size];exact si)
 have:=P.ltN (k:=j) (by rw[<- P.size];exact sj)
 rw[n9 si] at *
 rw[n9 sj] at *
 exact hR _ _ (by assumption) (by assumption) b
theorem wZ:eS X (.builtin "sorted") (fun xs H Q=>∃(p:Addr) (its:List L8) (k:Nat),xs=[.ref p]/\eJ X.K H p (its.map fun t=>V.ref t.1)/\its.length<64/\(∀t∈its,lY X.K H t.1 (t.2.1.map V.int++t.2.2)/\t.2.1.length=k+1) /\
  its.Pairwise (fun t u=>t.2.1≠u.2.1) /\ ∀its':List L8,its'.Perm its->its'.Pairwise (fun t u=>dD t.2.1 u.2.1=true) -> ∀l,H l=none->Q (.ref l) (upd H l (.lst (its'.map fun t=>V.ref t.1)))):=by
 intro pj s σ H xs us Q I r h
 obtain⟨p,its,k,rfl,hl,h64,hits,hd,q⟩:=h
 obtain⟨u,rfl,ru⟩:=i8 r
 cases ru
 obtain⟨vs,rv,pl,hz⟩:=I.list hl
 have ev:vs=its.map fun t=>Value.ref t.1:=by
  clear hl hz h64 hits hd q pl
  induction its generalizing vs with
  |nil=>cases rv;rfl
  |cons t r ih=>
   cases rv with
   |cons a b=>rw[map_cons,<- ih _ b];cases a;rfl
 subst ev
 have len:(its.map fun t=>Value.ref t.1).length=its.length:=by simp
 let num:Nat->List Int:=fun i=>(its.getD i (0,[],[])).2.1
 have get:∀i,i<its.length->(its.map fun t=>Value.ref t.1).getD i Value.none=Value.ref (its.getD i (0,[],[])).1:=fun i hi=>by simp[hi]
 have mem:∀i,i<its.length->its.getD i (0,[],[])∈its:=fun i hi=>by
  rw[getD_eq_getElem?_getD,List.getElem?_eq_getElem hi]
  exact List.getElem_mem hi
 have ne:∀i j,i<its.length->j<its.length->i≠j->num i≠num j:=fun i j hi hj n=>by
  have e:∀i,i<its.length->num i=(its[i]!).2.1:=fun i hi=>by simp[num,hi]
  have pw:=pairwise_iff_getElem.mp hd
  have ei:its.getD i (0,[],[])=its[i]:=by simp[hi]
  have ej:its.getD j (0,[],[])=its[j]:=by simp[hj]
  show (its.getD i (0,[],[])).2.1≠(its.getD j (0,[],[])).2.1
  rw[ei,ej]
  rcases Nat.lt_or_gt_of_ne n with z | z
  ·exact pw i j hi hj z
  ·exact(pw j i hj hi z).symm
 have tup:∀t∈its,∃(o:Obj) (a b:List Value) (n:Nat),s.heap.get? t.1=some o/\o.cls=.type "tuple" /\ o.data=.seq (a++b).toArray n/\IntsAre a t.2.1:=fun t ht=>by
  obtain⟨z,r',⟨o,ho,hc,n,hd'⟩,_⟩:=I.tuple (hits t ht).1
  obtain⟨a,b,rfl,ra,rb⟩:∃a b,z=a++b/\bF (t.2.1.map V.int) a/\bF t.2.2 b:=by
   clear hd' ho hc
   generalize t.2.1.map V.int=m at r'
   induction m generalizing z with
   |nil=>exact⟨[],z,rfl,.nil,r'⟩
   |cons x y ih=>
    cases r' with
    |cons x1 x2=>
     obtain⟨a,b,rfl,ra,rb⟩:=ih _ x2
     exact⟨_::a,b,rfl,.cons x1 ra,rb⟩
  exact⟨o,a,b,n,ho,hc,hd',k3 ra⟩
 have cmp:2<=(its.map fun t=>Value.ref t.1).length->Cmp X.prog X.w s s.heap.objs.size (its.map fun t=>Value.ref t.1) (fun i j=>dD (num i) (num j)) (tuples' true):=fun two=>by
  have far:∀{b o},s.heap.get? b=some o->b≠s.heap.objs.size:=fun e=>ne_of_lt (Heap.lt_size e)
  refine⟨uJ num,fun A h Q' hk q'=>?_,fun A h i j C hk hi hj hn q'=>?_⟩
  ·have go:∀l:List L8,(∀t∈l,t∈its) -> ∃fs:List Value,KatTups h (l.map fun t=>Value.ref t.1) fs/\fs.length=l.length /\ ∀v∈fs,∃x y,v=Value.int x y:=by
    intro l
    induction l with
    |nil=>intro _;exact⟨[],.nil,rfl,fun v hv=>by cases hv⟩
    |cons t r ih=>
     intro hm
     obtain⟨fs,kt,e,al⟩:=ih fun u hu=>hm u (mem_cons_of_mem _ hu)
     have ht:=hm t (mem_cons_self ..)
     obtain⟨o,a,b,n,ho,hc,hd',ia⟩:=tup t ht
     obtain⟨x,rest,ex⟩:∃x rest,t.2.1=x::rest:=by
      have:=(hits t ht).2
      cases e':t.2.1 with
      |nil=>rw[e'] at this;cases this
      |cons x rest=>exact⟨x,rest,rfl⟩
     rw[ex] at ia
     cases ia with
     |cons _ y ia'=>
      refine⟨Value.int x y::fs,KatTups.cons (hk _ _ (far ho) ho) hc hd' (by simp) kt,by simp[e],fun v hv=>?_⟩
      rcases mem_cons.mp hv with rfl | hv
      ·exact⟨x,y,rfl⟩
      ·exact al v hv
   obtain⟨fs,kt,e,al⟩:=go its fun _ h=>h
   refine kat_kind (s:={ s with heap:=h }) (T:=.type "int") kt (by rw[e];simp at two;ac_rfl) (fun v hv=>?_) ∅ q'
   obtain⟨x,y,rfl⟩:=al v hv
   exact Looks.of_pure rfl
  ·rw[len] at hi hj
   rw[get i hi,get j hj]
   obtain⟨o,a,b,n,ho,hc,hd',ia⟩:=tup _ (mem i hi)
   obtain⟨o2,a2,b2,n2,ho2,hc2,hd2,ia2⟩:=tup _ (mem j hj)
   refine kat_lt (s:={ s with heap:=h }) (hk _ _ (far ho) ho) hd' (hk _ _ (far ho2) ho2) hd2 ?_
   exact sG _ _ a a2 b b2 0 ia ia2 (by rw[(hits _ (mem i hi)).2,(hits _ (mem j hj)).2]) (ne i j hi hj hn) q'
 refine Cc (lt:=fun i j=>dD (num i) (num j)) (κ:=tuples' true) pl.isList (by rw[len];exact h64) cmp fun p' pm up=>?_
 rw[len] at pm up
 let its':=p'.toList.map fun i=>its.getD i (0,[],[])
 have perm:its'.Perm its:=HG pm its rfl _
 have pw:its'.Pairwise (fun t u=>dD t.2.1 u.2.1=true):=kC pm up its _ _ fun i j hi hj b=>by
  rcases b.2 with z | z
  ·exact z
  ·rcases oA _ _ (ne i j hi hj (ne_of_lt z)) with y | y
   ·exact y
   ·have b1:dD (num j) (num i)=false:=b.1
    rw[b1] at y;cases y
 have ep:picked (its.map fun t=>Value.ref t.1) p'=its'.map fun t=>Value.ref t.1:=by
  unfold picked
  rw[map_map]
  apply map_congr_left
  intro i hi
  exact get i (mem_range.mp (pm.list.mem_iff.mp hi))
 rw[ep]
 obtain⟨c,at1⟩:=sortedAll_at s.heap (its.map fun t=>Value.ref t.1) (its'.map fun t=>Value.ref t.1).toArray
 have rel:∀l:List L8,bF (l.map fun t=>V.ref t.1) (l.map fun t=>Value.ref t.1):=fun l=>by
  induction l with
  |nil=>exact .nil
  |cons t r ih=>exact .cons rfl ih
 have hle:(its'.map fun t=>V.ref t.1).length<=sizeLine:=by rw[sizeLine_eq,length_map,perm.length_eq];ac_rfl
 exact⟨.ref (s.heap.objs.size+1),_,I.laid (t':=s.toks) (fun b o e=>sortedAll_old e) (le_succ _) (show cI X.prog X.w _ _ _ (.lst _) from⟨hle,_,c,rel its',at1⟩),rfl,q its' perm pw _ (I.hok.fresh (le_succ _))⟩
theorem xB:eS X (.builtin "sorted") (fun xs H Q=>∃(p:Addr) (ns:List Int),xs=[.ref p]/\eJ X.K H p (ns.map V.int)/\ns.length<64 /\ ∀ms:List Int,ms.Perm ns->ms.Pairwise (· <= ·) -> ∀l,H l=none->Q (.ref l) (upd H l (.lst (ms.map V.int)))):=by
 intro pj s σ H xs us Q I r h
 obtain⟨p,ns,rfl,hl,h64,q⟩:=h
 obtain⟨u,rfl,ru⟩:=i8 r
 cases ru
 obtain⟨vs,rv,pl,hz⟩:=I.list hl
 have ia:=k3 rv
 refine sorted_ints pl.isList ia (by rw[ia.length];exact h64) fun out ms hi hp hs=>?_
 obtain⟨c,at1⟩:=sortedAll_at s.heap vs out
 have back:∀{us:List Value} {ns:List Int},IntsAre us ns->bF (ns.map V.int) us:=fun h=>by
  induction h with
  |nil=>exact .nil
  |cons a t _ ih=>exact .cons ⟨t,rfl⟩ ih
 have ea:out.toList.toArray=out:=by cases out;rfl
 have hle:(ms.map V.int).length<=sizeLine:=by rw[sizeLine_eq,length_map,hp.length_eq];ac_rfl
 exact⟨.ref (s.heap.objs.size+1),_,I.laid (t':=s.toks) (fun b o e=>sortedAll_old e) (le_succ _) (show cI X.prog X.w _ _ _ (.lst _) from⟨hle,out.toList,c,back hi,by rw[ea];exact at1⟩),rfl,q ms hp hs _ (I.hok.fresh (le_succ _))⟩
end
end L2
namespace Z
open L2
section
variable {X:Cx} {e:Expr} {te:d3} {pos:Pos}
noncomputable def OF:d3:=fun _ Q=>Q (.nw (.dit []))
noncomputable def Ng(kvs:List (List cW×Dv))(k:List cW)(d:Dv):List (List cW×Dv):=
 if kvs.any (fun kv=>decide (kv.1=k)) then kvs.map (fun kv=>if kv.1=k then (kv.1,d) else kv) else kvs++[(k,d)]
noncomputable def LR(i:Nat)(tk tv:d3):cD:=fun E ρ=>match ρ[i]? with
 |some (.own a (.dit kvs))=>tv ρ fun r=>tk ρ fun kk=>∃k:List cW,kk.d=.tup (k.map kD)/\(r.free=true/\kvs.length<xN)/\E.nx (ρ.set i (.own a (.dit (Ng kvs k r.d))))
 |_=>False
noncomputable def ED(i:Nat):cD:=fun E ρ=>match ρ[i]? with
 |some (.own a (.lst _))=>E.nx (ρ.set i (.own a (.lst [])))
 |_=>False
noncomputable def xX(i:Nat):cD:=fun E ρ=>match ρ[i]? with
 |some (.own a (.lst xs))=>E.nx (ρ.set i (.own a (.lst xs.reverse)))
 |_=>False
noncomputable abbrev tI(t:List Int×List Dv):Dv:=.tup (t.1.map .int++t.2)
noncomputable def cP:List Dv->(R->Prop)->Prop
 | [.lst xs],Q=>(∃ns:List Int,xs=ns.map .int/\ns.length<64 /\ ∀ms:List Int,ms.Perm ns->ms.Pairwise (· <= ·)->Q (.nw (.lst (ms.map .int)))) \/
  ∃(ts:List (List Int×List Dv)) (k:Nat),xs=ts.map tI/\ts.length<64/\(∀t∈ts,t.1.length=k+1)/\ts.Pairwise (fun t u=>t.1≠u.1) /\ ∀ts':List (List Int×List Dv),ts'.Perm ts->ts'.Pairwise (fun t u=>dD t.1 u.1=true)->Q (.nw (.lst (ts'.map tI)))
 |_,_=>False
theorem Reps.fore{K:W.Frag}{M:Addr->Prop}{H:Hp}:∀{ns:List Int} {xs:List V} {ds:List Dv},Reps K M H xs (ns.map .int++ds) -> ∃ys,xs=ns.map V.int++ys/\Reps K M H ys ds
 | [],xs,ds,r=>⟨xs,rfl,r⟩
 |n::ns,_,ds,.cons a r=>by
  obtain⟨ys,e,r'⟩:=Reps.fore (ns:=ns) r
  cases a
  exact⟨ys,by rw[e];rfl,r'⟩
theorem uD{α β:Type}{f:α->β}{zs ws:List β}(hp:zs.Perm ws):∀{its:List α},its.map f=ws -> ∃jts:List α,jts.Perm its/\zs=jts.map f:=by
 induction hp with
 |nil=>intro its hz;exact⟨its,.refl _,hz.symm⟩
 |cons x p ih=>
  intro its hz
  cases its with
  |nil=>cases hz
  |cons t r=>
   rw[map_cons] at hz
   injection hz with h1 h2
   obtain⟨j,hj,e⟩:=ih h2
   exact⟨t::j,hj.cons t,by rw[map_cons,h1,e]⟩
 |swap x y l=>
  intro its hz
  match its,hz with
  |t::u::r,hz=>
   simp only[map_cons,List.cons.injEq] at hz
   obtain⟨h1,h2,h3⟩:=hz
   exact⟨u::t::r,.swap _ _ _,by simp only[map_cons,h1,h2,h3]⟩
 |trans p1 p2 ih1 ih2=>
  intro its hz
  obtain⟨j,hj,e⟩:=ih2 hz
  obtain⟨j2,hj2,e2⟩:=ih1 e.symm
  exact⟨j2,hj2.trans hj,e2⟩
theorem fB:lZ X (.builtin "sorted") cP:=by
 refine⟨fun ds Q Q' w h=>?_,_,xB.or wZ,fun M O H xs ds Q c h=>?_⟩
 ·unfold cP at *
  split at h
  ·rcases h with⟨ns,a,b,q⟩ | ⟨ts,k,a,b,c,d,q⟩
   ·exact .inl ⟨ns,a,b,fun ms x y=>w _ (q ms x y)⟩
   ·exact .inr ⟨ts,k,a,b,c,d,fun ts' x y=>w _ (q ts' x y)⟩
  ·exact h
 ·unfold cP at h
  split at h
  ·obtain⟨x,rfl,cx⟩:=dL c
   obtain⟨a,ys,rfl,ea,ra⟩:=cx.lst
   rcases h with⟨ns,rfl,hl,q⟩ | ⟨ts,k,rfl,hl,hk,hd,q⟩
   ·have ey:ys=ns.map V.int:=by
     have ra':Reps X.K M H ys (ns.map .int++[]):=by simpa using ra
     obtain⟨zs,e,r'⟩:=ra'.fore
     cases r'
     simpa using e
    subst ey
    exact .inl ⟨a,ns,rfl,eJ.of ea,hl,fun ms hp hs l hl=>q ms hp hs _ _ (aK.new' hl) (j4 hl (Reps.ints _))⟩
   ·-- what each item is,by its place
    have go:∀{ys:List V} {ts:List (List Int×List Dv)},Reps X.K M H ys (ts.map tI) -> ∃its:List (L8×List Dv),ys=its.map (fun t=>V.ref t.1.1)/\ts=its.map (fun t=>(t.1.2.1,t.2)) /\
      ∀t∈its,H t.1.1=some (.tup (t.1.2.1.map V.int++t.1.2.2))/\Reps X.K M H t.1.2.2 t.2:=by
     intro ys ts r
     induction ts generalizing ys with
     |nil=>cases r;exact⟨[],rfl,rfl,fun t ht=>by cases ht⟩
     |cons t ts ih=>
      cases r with
      |cons u r=>
       obtain⟨its,e1,e2,e3⟩:=ih r
       cases u with
       |tup hb rb=>
        obtain⟨zs,e,rz⟩:=rb.fore
        subst e
        refine⟨((_,t.1,zs),t.2)::its,by rw[e1];rfl,by rw[e2];rfl,fun y hy=>?_⟩
        rcases mem_cons.mp hy with rfl | hy
        ·exact⟨hb,rz⟩
        ·exact e3 y hy
    obtain⟨its,rfl,rfl,al⟩:=go ra
    refine .inr ⟨a,its.map (·.1),k,rfl,by rw[map_map];exact eJ.of ea,by simpa using hl,fun t ht=>?_,?_,fun its' hp hs l hl=>?_⟩
    ·obtain⟨u,hu,rfl⟩:=mem_map.mp ht
     exact⟨lY.of (al u hu).1,hk _ (mem_map.mpr ⟨u,hu,rfl⟩)⟩
    ·rw[pairwise_map] at hd ⊢
     exact hd
    ·-- bring the plain parts along
     obtain⟨jts,hj,rfl⟩:=uD hp rfl
     have rr:∀jts:List (L8×List Dv),(∀t∈jts,t∈its)->Reps X.K M H (jts.map fun t=>V.ref t.1.1) ((jts.map fun t=>(t.1.2.1,t.2)).map tI):=by
      intro jts
      induction jts with
      |nil=>intro _;exact .nil
      |cons t r ih=>
       intro hm
       have ht:=al t (hm t (mem_cons_self ..))
       have one:Reps X.K M H (t.1.2.1.map V.int++t.1.2.2) (t.1.2.1.map .int++t.2):=(Reps.ints _).append ht.2
       exact .cons (.tup ht.1 one) (ih fun u hu=>hm u (mem_cons_of_mem _ hu))
     rw[map_map]
     show Q _ (upd H l (.lst (jts.map fun t=>V.ref t.1.1)))
     refine q (jts.map fun t=>(t.1.2.1,t.2)) (hj.map _) ?_ _ _ (aK.new' hl) (j4 hl (rr jts fun t ht=>hj.mem_iff.mp ht))
     rw[pairwise_map] at hs ⊢
     exact hs
  ·exact h.elim
end
theorem C5{i j:Int}{Q:R->Prop}:(cM (.int i) (.int j) Q)=(Q (.v (.int (i+j)))):=rfl
theorem Bk{i j:Int}{Q:R->Prop}:(fF (.int i) (.int j) Q)=(Q (.v (.int (i-j)))):=rfl
theorem Bu{i j:Int}{Q:R->Prop}:(eI (.int i) (.int j) Q)=(oP i j/\Q (.v (.int (i*j)))):=rfl
theorem C2{i j:Int}{Q:R->Prop}:(kU (.int i) (.int j) Q)=((0<j/\j<2 ^ 200)/\Q (.v (.int (i / j)))):=rfl
theorem yV{i j:Int}{Q:R->Prop}:(M4 (.int i) (.int j) Q)=((j≠0/\j.natAbs<2 ^ 4000)/\Q (.v (.int (i.fdiv j)))):=rfl
theorem Bv{i j:Int}{Q:R->Prop}:(g8 (.int i) (.int j) Q)=(0<j/\Q (.v (.int (i % j)))):=rfl
theorem yP{i j:Int}{Q:R->Prop}:(M0 (.int i) (.int j) Q)=(j≠0/\Q (.v (.int (i.fmod j)))):=rfl
theorem Bm{i j:Int}{Q:R->Prop}:(Nj (.int i) (.int j) Q)=(IT i j/\Q (.v (.int (i ^ j.toNat)))):=rfl
theorem C4{xs ys:List Dv}{Q:R->Prop}:(cM (.lst xs) (.lst ys) Q)=((xs.length+ys.length<=xN/\Q (.nw (.lst (xs++ys))))):=rfl
theorem C3{x y:Str}{Q:R->Prop}:(cM (.str x) (.str y) Q)=((x.length+y.length<=xN/\Q (.v (.str (x++y))))):=rfl
theorem Bt{xs:List Dv}{k:Int}{Q:R->Prop}:(eI (.lst xs) (.int k) Q)=(((-(2 ^ 63)<=k/\k<2 ^ 63/\xs.length*k.toNat<=xN)/\Q (.nw (.lst (List.replicate k.toNat xs).flatten)))):=rfl
theorem F1{f:Int->Int->Bool}{i j:Int}{Q:R->Prop}:(vO f (.int i) (.int j) Q)=(Q (.v (.bl (f i j)))):=rfl
theorem Ey{d:Dv}{Q:R->Prop}:(vM d .non Q)=(Q (.v (.bl (isN d)))):=rfl
theorem Bn{d:Dv}{Q:R->Prop}:(Ly d .non Q)=(Q (.v (.bl (!isN d)))):=rfl
theorem Ez{d:Dv}{b:Bool}{Q:R->Prop}:(Nk d (.bl b) Q)=(Q (.v (.bl (isB b d)))):=rfl
theorem Bo{d:Dv}{b:Bool}{Q:R->Prop}:(Lz d (.bl b) Q)=(Q (.v (.bl (!isB b d)))):=rfl
theorem F2{i j:Int}{Q:R->Prop}:(tD (.int i) (.int j) Q)=(Q (.v (.bl (decide (i=j))))):=rfl
theorem Ep{i j:Int}{Q:R->Prop}:(Cv (.int i) (.int j) Q)=(Q (.v (.bl (!decide (i=j))))):=rfl
theorem F3{x:Bool}{d:Dv}{Q:R->Prop}:(tD (.bl x) d Q)=(((dA 8 (.bl x)=true/\dA 8 d=true)/\Q (.v (.bl (eqD (.bl x) d))))):=rfl
theorem Er{x:Bool}{d:Dv}{Q:R->Prop}:(Cv (.bl x) d Q)=(((dA 8 (.bl x)=true/\dA 8 d=true)/\Q (.v (.bl (!eqD (.bl x) d))))):=rfl
theorem By{x:List Dv}{d:Dv}{Q:R->Prop}:(tD (.tup x) d Q)=(((dA 8 (.tup x)=true/\dA 8 d=true)/\Q (.v (.bl (eqD (.tup x) d))))):=rfl
theorem Bp{x:List Dv}{d:Dv}{Q:R->Prop}:(Cv (.tup x) d Q)=(((dA 8 (.tup x)=true/\dA 8 d=true)/\Q (.v (.bl (!eqD (.tup x) d))))):=rfl
theorem C1{x:List Dv}{d:Dv}{Q:R->Prop}:(tD (.lst x) d Q)=(((dA 8 (.lst x)=true/\dA 8 d=true)/\Q (.v (.bl (eqD (.lst x) d))))):=rfl
theorem Bs{x:List Dv}{d:Dv}{Q:R->Prop}:(Cv (.lst x) d Q)=(((dA 8 (.lst x)=true/\dA 8 d=true)/\Q (.v (.bl (!eqD (.lst x) d))))):=rfl
theorem Bz{x:Str}{d:Dv}{Q:R->Prop}:(tD (.str x) d Q)=(((dA 8 (.str x)=true/\dA 8 d=true)/\Q (.v (.bl (eqD (.str x) d))))):=rfl
theorem Bq{x:Str}{d:Dv}{Q:R->Prop}:(Cv (.str x) d Q)=(((dA 8 (.str x)=true/\dA 8 d=true)/\Q (.v (.bl (!eqD (.str x) d))))):=rfl
theorem C0{x:List Int}{d:Dv}{Q:R->Prop}:(tD (.scr x) d Q)=(((dA 8 (.scr x)=true/\dA 8 d=true)/\Q (.v (.bl (eqD (.scr x) d))))):=rfl
theorem Br{x:List Int}{d:Dv}{Q:R->Prop}:(Cv (.scr x) d Q)=(((dA 8 (.scr x)=true/\dA 8 d=true)/\Q (.v (.bl (!eqD (.scr x) d))))):=rfl
theorem Iy{xs:List Dv}{i:Int}{Q:R->Prop}:(cO (.lst xs) (.int i) Q)=((match jH xs i with | some d=>Q (.v d) | none=>False)):=rfl
theorem Iw{xs:List Dv}{i:Int}{Q:R->Prop}:(cO (.tup xs) (.int i) Q)=((match jH xs i with | some d=>Q (.v d) | none=>False)):=rfl
theorem Ix{ns:List Int}{i:Int}{Q:R->Prop}:(cO (.scr ns) (.int i) Q)=((match jH ns i with | some n=>Q (.v (.int n)) | none=>False)):=rfl
theorem Iu{xs:List Dv}{lo hi:Option Int}{Q:R->Prop}:(Iv (.lst xs) lo hi Q)=(Q (.nw (.lst (cut xs lo hi)))):=rfl
theorem Ir{ns:List Int}{lo hi:Option Int}{Q:R->Prop}:(Iv (.scr ns) lo hi Q)=(Q (.nw (.lst ((cut ns lo hi).map .int)))):=rfl
theorem Iq{xs:List Dv}{lo hi:Option Int}{Q:R->Prop}:(Iv (.tup xs) lo hi Q)=((¬(HT.fE xs.length 0 lo=0/\HT.fE xs.length xs.length hi=xs.length)/\Q (.v (.tup (cut xs lo hi))))):=rfl
theorem Ew{xs:List Dv}{Q:R->Prop}:(e5 [(.lst xs)] Q)=(Q (.v (.int xs.length))):=rfl
theorem Eu{xs:List Dv}{Q:R->Prop}:(e5 [(.tup xs)] Q)=(Q (.v (.int xs.length))):=rfl
theorem Ev{ns:List Int}{Q:R->Prop}:(e5 [.scr ns] Q)=(Q (.v (.int ns.length))):=rfl
theorem F6{i:Int}{Q:R->Prop}:(Ak [.int i] Q)=(Q (.v (.int (if i<0 then -i else i)))):=rfl
theorem Es{i j:Int}{Q:R->Prop}:(rY [.int i,.int j] Q)=(Q (.v (.int (if j<i then j else i)))):=rfl
theorem Et{i j:Int}{Q:R->Prop}:(M1 [.int i,.int j] Q)=(Q (.v (.int (if j > i then j else i)))):=rfl
theorem yO{xs:List Dv}{Q:R->Prop}:(dX [.lst xs] Q)=(Q (.v (.tup xs))):=rfl
theorem yN{xs:List Dv}{Q:R->Prop}:(dX [.tup xs] Q)=(Q (.v (.tup xs))):=rfl
theorem Bx{xs:List Dv}{Q:R->Prop}:(jE [.lst xs] Q)=(Q (.nw (.lst xs))):=rfl
theorem Bw{xs:List Dv}{Q:R->Prop}:(jE [.tup xs] Q)=(Q (.nw (.lst xs))):=rfl
theorem F4{ds:List Dv}{Q:R->Prop}:(F5 [.lst ds] Q)=((∃bs:List Bool,ds=bs.map .bl/\Q (.v (.bl (bs.all _root_.id))))):=rfl
theorem Em{ds:List Dv}{Q:R->Prop}:(Aj [.lst ds] Q)=((∃ns:List Int,ds=ns.map .int/\Q (.v (.int ns.sum)))):=rfl
theorem N0{d:Dv}:(R.d (.v d))=(d):=rfl
theorem N2{d:Dv}:(R.d (.nw d))=(d):=rfl
theorem N1{a:Addr}{d:Dv}:(R.d (.ow a d))=(d):=rfl
theorem Mr{d:Dv}:(R.out (.v d))=(.v d):=rfl
theorem Mt{d:Dv}:(R.out (.nw d))=(.nw d):=rfl
theorem Ms{a:Addr}{d:Dv}:(R.out (.ow a d))=(.nw d):=rfl
theorem Mx{d:Dv}:(R.free (.v d))=(true):=rfl
theorem Mz{d:Dv}:(R.free (.nw d))=(true):=rfl
theorem My{a:Addr}{d:Dv}:(R.free (.ow a d))=(false):=rfl
theorem Mu{d:Dv}:(R.flat (.v d))=(iT d):=rfl
theorem Mw{d:Dv}:(R.flat (.nw d))=(GB d):=rfl
theorem Mv{a:Addr}{d:Dv}:(R.flat (.ow a d))=(false):=rfl
theorem GF{a b:Bool}:(eqD (.bl a) (.bl b))=((a==b)):=by cases a<;>cases b<;>simp[eqD,gG,PyData.eqv]
theorem sZ{ρ0:List Sl}{g:xI}{tt:lH}{te:d3}{acc:List Dv}{Q:R->Prop}:(dC ρ0 g tt te [] acc Q)=(Q (.nw (.lst acc))):=rfl
theorem qB{ρ0:List Sl}{g:xI}{tt:lH}{te:d3}{d:Dv}{r acc:List Dv}{Q:R->Prop}:(dC ρ0 g tt te (d::r) acc Q)=((g d ρ0 fun ρ1=>tt ρ1 fun b=>if b=true then te ρ1 fun v=>(v.free=true/\acc.length<xN)/\dC ρ0 g tt te r (acc++[v.d]) Q else dC ρ0 g tt te r acc Q)):=rfl
theorem eU{α:Type}{xs:List α}{i:Int}(h0:0<=i)(h1:i<xs.length):jH xs i=xs[i.toNat]?:=by
 unfold jH oQ
 rw[if_pos h0,if_pos h1]
 rfl
theorem JJ{α:Type}{x:α}{r:List α}:jH (x::r) 0=some x:=by rw[eU ∅ (by simp<;>ac_rfl)];rfl
theorem JI{α:Type}{x y:α}{r:List α}:jH (x::y::r) 1=some y:=by rw[eU ∅ (by simp<;>ac_rfl)];rfl
theorem JH{α:Type}{x y z:α}{r:List α}:jH (x::y::z::r) 2=some z:=by rw[eU ∅ (by simp<;>ac_rfl)];rfl
theorem JG{α:Type}{x y z w:α}{r:List α}:jH (x::y::z::w::r) 3=some w:=by rw[eU ∅ (by simp<;>ac_rfl)];rfl
theorem JF{α:Type}{x y z w v:α}{r:List α}:jH (x::y::z::w::v::r) 4=some v:=by rw[eU ∅ (by simp<;>ac_rfl)];rfl
theorem G4{b c:Bool}:isB b (.bl c)=(c==b):=rfl
theorem CG{b:Bool}{i:Int}:isB b (.int i)=false:=rfl
theorem J7:isN .non=true:=rfl
theorem JA{b:Bool}:isN (.bl b)=false:=rfl
theorem J9{i:Int}:isN (.int i)=false:=rfl
theorem J5{i:Str}:isN (.str i)=false:=rfl
theorem J3{i:List Dv}:isN (.tup i)=false:=rfl
theorem J8{i:List Dv}:isN (.lst i)=false:=rfl
theorem J6{C:Addr}{i:List (Str×Dv)}:isN (.obj C i)=false:=rfl
theorem E2{b:Bool}:lQ (.bl b)=some b:=rfl
theorem Dx:lQ .non=some false:=rfl
theorem E1{i:Int}:lQ (.int i)=some (i != 0):=rfl
theorem Dy{xs:List Dv}:lQ (.lst xs)=some (!xs.isEmpty):=rfl
theorem Du{xs:List Dv}:lQ (.tup xs)=some (!xs.isEmpty):=rfl
theorem Dz{xs:List (cW×Dv)}:lQ (.dik xs)=some (!xs.isEmpty):=rfl
theorem Dw{xs:List Int}:lQ (.scr xs)=some (!xs.isEmpty):=rfl
theorem Fx:oQ 1 0=some 0:=rfl
theorem Fw:oQ 2 0=some 0:=rfl
theorem Fv:oQ 2 1=some 1:=rfl
theorem Fu:oQ 3 0=some 0:=rfl
theorem Ft:oQ 3 1=some 1:=rfl
theorem Fs:oQ 3 2=some 2:=rfl
theorem Fq:oQ 4 0=some 0:=rfl
theorem Fp:oQ 4 1=some 1:=rfl
theorem Fo:oQ 4 2=some 2:=rfl
theorem Fm:oQ 4 3=some 3:=rfl
theorem Fk:oQ 5 0=some 0:=rfl
theorem Fj:oQ 5 1=some 1:=rfl
theorem Fi:oQ 5 2=some 2:=rfl
theorem Fh:oQ 5 3=some 3:=rfl
theorem Fg:oQ 5 4=some 4:=rfl
theorem eX{lo:Int}:bP lo 0=[]:=rfl
theorem dE{lo:Int}{n:Nat}:bP lo (n+1)=.int lo::bP (lo+1) n:=by
 unfold bP
 rw[List.range_succ_eq_map,map_cons,map_map]
 congr 1
 ·simp
 ·apply map_congr_left
  intro k _
  show Dv.int _=Dv.int _
  congr 1
  show lo+((k+1:Nat):Int)=lo+1+k
  ac_rfl
theorem yU{i j:Int}{Q:R->Prop}:(uF (.int i) (.int j) Q)=(Q (.v (.int (i+j)))):=rfl
theorem yS{i j:Int}{Q:R->Prop}:(M2 (.int i) (.int j) Q)=(Q (.v (.int (i-j)))):=rfl
theorem yT{i j:Int}{Q:R->Prop}:(M3 (.int i) (.int j) Q)=(oP i j/\Q (.v (.int (i*j)))):=rfl
theorem sV{α:Type}{xs:List α}{k:Int}(h0:0<=k):cut xs (some k) none=xs.drop k.toNat:=by
 unfold cut
 have e:HT.fE xs.length 0 (some k)=min k.toNat xs.length:=by show (if k<0 then _ else _)=_;rw[if_neg ⋯]
 rw[e,HT.xY]
 rcases Nat.le_total k.toNat xs.length with h | h
 ·rw[min_eq_left h]
  exact List.take_of_length_le (by rw[length_drop];exact le_refl _)
 ·rw[Nat.min_eq_right h,List.drop_of_length_le (le_refl _),List.drop_of_length_le h,List.take_nil]
theorem wX{α:Type}{xs:List α}{k:Int}(h0:0<=k):cut xs none (some k)=xs.take k.toNat:=by
 unfold cut
 have e:HT.fE xs.length xs.length (some k)=min k.toNat xs.length:=by show (if k<0 then _ else _)=_;rw[if_neg ⋯]
 rw[e,HT.xY,List.drop_zero,Nat.sub_zero]
 rcases Nat.le_total k.toNat xs.length with h | h
 ·rw[min_eq_left h]
 ·rw[Nat.min_eq_right h,List.take_of_length_le (le_refl _),List.take_of_length_le h]
theorem xS{a:Addr}{N:List Str}{d:Dv}{ds:List Dv}:JU a N (d::ds)=.own a d::(ds.map .v++List.replicate (N.length-(ds.length+1)) .un):=rfl
theorem Bl{i j:Int}{Q:R->Prop}:(Ni (.int i) (.int j) Q)=(IT i j/\Q (.v (.int (i*2 ^ j.toNat)))):=rfl
theorem pA{ns:List Int}{Q:R->Prop}(h:ns.length<64)(q:∀ms:List Int,ms.Perm ns->ms.Pairwise (· <= ·)->Q (.nw (.lst (ms.map .int)))):cP [.lst (ns.map .int)] Q:=.inl ⟨ns,rfl,h,q⟩
theorem Cu{ts:List (List Int×List Dv)}{k:Nat}{Q:R->Prop}(h:ts.length<64)(hk:∀t∈ts,t.1.length=k+1)(hd:ts.Pairwise (fun t u=>t.1≠u.1))
  (q:∀ts':List (List Int×List Dv),ts'.Perm ts->ts'.Pairwise (fun t u=>dD t.1 u.1=true)->Q (.nw (.lst (ts'.map tI)))):cP [.lst (ts.map tI)] Q:=.inr ⟨ts,k,rfl,h,hk,hd,q⟩
theorem Ff:∀{a b:List cW},a.map kD=b.map kD->a=b
 | [],[],_=>rfl
 | [],_::_,h=>by cases h
 |_::_,[],h=>by cases h
 |a::r,b::t,h=>by
  rw[map_cons,map_cons] at h
  injection h with h1 h2
  have e:a=b:=by cases a<;>cases b<;>first | (injection h1 with h1;rw[h1]) | cases h1
  rw[e,Ff h2]
theorem Ex{kvs:List (List cW×Dv)}{a b:Int}{Q:R->Prop}:(cO (.dit kvs) (.tup [.int a,.int b]) Q)=(match kvs.find? (fun kv=>decide (kv.1=[Sum.inl a,Sum.inl b])) with | some kv=>Q (.v kv.2) | none=>False):=by
 apply propext
 constructor
 ·rintro⟨k,e,h⟩
  have:k=[Sum.inl a,Sum.inl b]:=Ff (e.symm.trans rfl)
  subst this
  exact h
 ·exact fun h=>⟨[Sum.inl a,Sum.inl b],rfl,h⟩
theorem zc:(type_of% @beq_self_eq_true.{0})/\(type_of% @List.getElem?_cons_zero.{0})/\(type_of% @List.getElem?_cons_succ.{0})/\(type_of% @List.set_cons_zero.{0})/\(type_of% @List.set_cons_succ.{0})/\(type_of% @map_cons.{0,0})/\(type_of% @map_nil.{0,0})/\(type_of% @cons_append.{0})/\(type_of% @nil_append.{0})/\(type_of% @append_nil.{0})/\(type_of% @length_cons.{0})/\(type_of% @length_nil.{0})/\(type_of% @replicate_succ.{0})/\(type_of% @List.replicate_zero.{0})/\(type_of% @all_cons.{0})/\(type_of% @List.all_nil.{0})/\(type_of% @getD_some.{0})/\(type_of% @Bool.and_true)/\(type_of% @Bool.true_and)/\(type_of% @if_true.{1})/\(type_of% @Bool.false_eq_true)/\(type_of% @if_false.{1})/\(type_of% @true_and)/\(type_of% @and_true)/\(type_of% @true_or)/\(type_of% @decide_eq_true_eq)/\(type_of% @decide_true)/\(type_of% @decide_false)/\(type_of% @Bool.not_true)/\(type_of% @Bool.not_false)/\(type_of% @not_mem_nil.{0})/\(type_of% @false_imp_iff)/\(type_of% @implies_true.{1}):=
 ⟨@beq_self_eq_true.{0},@List.getElem?_cons_zero.{0},@List.getElem?_cons_succ.{0},@List.set_cons_zero.{0},@List.set_cons_succ.{0},@map_cons.{0,0},@map_nil.{0,0},@cons_append.{0},@nil_append.{0},@append_nil.{0},@length_cons.{0},@length_nil.{0},@replicate_succ.{0},@List.replicate_zero.{0},@all_cons.{0},@List.all_nil.{0},@getD_some.{0},@Bool.and_true,@Bool.true_and,@if_true.{1},@Bool.false_eq_true,@if_false.{1},@true_and,@and_true,@true_or,@decide_eq_true_eq,@decide_true,@decide_false,@Bool.not_true,@Bool.not_false,@not_mem_nil.{0},@false_imp_iff,@implies_true.{1}⟩
theorem zt:(type_of% @OF.eq_1)/\(type_of% @LR.eq_1)/\(type_of% @ED.eq_1)/\(type_of% @xX.eq_1)/\(type_of% @Ex)/\(type_of% @MW.eq_1)/\(type_of% @Bl)/\(type_of% @Cg.eq_1)/\(type_of% @rP.eq_1)/\(type_of% @CL.eq_1)/\(type_of% @LS.eq_1)/\(type_of% @iU.eq_1)/\(type_of% @BB.eq_1)/\(type_of% @i5.eq_1)/\(type_of% @xS)/\(type_of% @EF.eq_1)/\(type_of% @yU)/\(type_of% @yS)/\(type_of% @yT)/\(type_of% @qT.eq_1)/\(type_of% @sM.eq_1)/\(type_of% @zM.eq_1)/\(type_of% @BA.eq_1)/\(type_of% @MX.eq_1)/\(type_of% @aS.eq_1)/\(type_of% @c9.eq_1)/\(type_of% @EE.eq_1)/\(type_of% @Ig.eq_1)/\(type_of% @gC.eq_1)/\(type_of% @xZ.eq_1)/\(type_of% @cA.eq_1)/\(type_of% @Ie.eq_1)/\(type_of% @jJ.eq_1)/\(type_of% @bV.eq_1)/\(type_of% @kR.eq_1)/\(type_of% @EC.eq_1)/\(type_of% @freeze.eq_1)/\(type_of% @AT.eq_1)/\(type_of% @qG.eq_1)/\(type_of% @IZ.eq_1)/\(type_of% @h9.eq_1)/\(type_of% @a9.eq_1)/\(type_of% @eC.eq_1)/\(type_of% @aA.eq_1)/\(type_of% @aG.eq_1)/\(type_of% @aQ.eq_1)/\(type_of% @bU.eq_1)/\(type_of% @IC.eq_1)/\(type_of% @GJ.eq_1)/\(type_of% @kY.eq_1)/\(type_of% @sS.eq_1)/\(type_of% @IB.eq_1)/\(type_of% @zQ.eq_1)/\(type_of% @OE.eq_1)/\(type_of% @fT.eq_1)/\(type_of% @gA.eq_1)/\(type_of% @B9.eq_1)/\(type_of% @lT.eq_1)/\(type_of% @bQ.eq_1)/\(type_of% @back.eq_1)/\(type_of% @dM.eq_1)/\(type_of% @tP.eq_1)/\(type_of% @fV.eq_1)/\(type_of% @fM.eq_1)/\(type_of% @GI.eq_1)/\(type_of% @kX.eq_1)/\(type_of% @fU.eq_1)/\(type_of% @iN.eq_1)/\(type_of% @fR.eq_1)/\(type_of% @qU.eq_1)/\(type_of% @gN.eq_1)/\(type_of% @gT.eq_1)/\(type_of% @aJ.eq_1)/\(type_of% @pK.eq_1)/\(type_of% @C5)/\(type_of% @Bk)/\(type_of% @Bu)/\(type_of% @C2)/\(type_of% @yV)/\(type_of% @Bv)/\(type_of% @yP)/\(type_of% @Bm)/\(type_of% @C4)/\(type_of% @C3)/\(type_of% @Bt)/\(type_of% @F1)/\(type_of% @Ey)/\(type_of% @Bn)/\(type_of% @Ez)/\(type_of% @Bo)/\(type_of% @F2)/\(type_of% @Ep)/\(type_of% @F3)/\(type_of% @Er)/\(type_of% @By)/\(type_of% @Bp)/\(type_of% @C1)/\(type_of% @Bs)/\(type_of% @Bz)/\(type_of% @Bq)/\(type_of% @C0)/\(type_of% @Br)/\(type_of% @Iy)/\(type_of% @Iw)/\(type_of% @Ix)/\(type_of% @Iu)/\(type_of% @Ir)/\(type_of% @Iq)/\(type_of% @Ew)/\(type_of% @Eu)/\(type_of% @Ev)/\(type_of% @F6)/\(type_of% @Es)/\(type_of% @Et)/\(type_of% @yO)/\(type_of% @yN)/\(type_of% @Bx)/\(type_of% @Bw)/\(type_of% @F4)/\(type_of% @Em)/\(type_of% @sZ)/\(type_of% @qB)/\(type_of% @dQ.eq_1):=
 ⟨@OF.eq_1,@LR.eq_1,@ED.eq_1,@xX.eq_1,@Ex,@MW.eq_1,@Bl,@Cg.eq_1,@rP.eq_1,@CL.eq_1,@LS.eq_1,@iU.eq_1,@BB.eq_1,@i5.eq_1,@xS,@EF.eq_1,@yU,@yS,@yT,@qT.eq_1,@sM.eq_1,@zM.eq_1,@BA.eq_1,@MX.eq_1,@aS.eq_1,@c9.eq_1,@EE.eq_1,@Ig.eq_1,@gC.eq_1,@xZ.eq_1,@cA.eq_1,@Ie.eq_1,@jJ.eq_1,@bV.eq_1,@kR.eq_1,@EC.eq_1,@freeze.eq_1,@AT.eq_1,@qG.eq_1,@IZ.eq_1,@h9.eq_1,@a9.eq_1,@eC.eq_1,@aA.eq_1,@aG.eq_1,@aQ.eq_1,@bU.eq_1,@IC.eq_1,@GJ.eq_1,@kY.eq_1,@sS.eq_1,@IB.eq_1,@zQ.eq_1,@OE.eq_1,@fT.eq_1,@gA.eq_1,@B9.eq_1,@lT.eq_1,@bQ.eq_1,@back.eq_1,@dM.eq_1,@tP.eq_1,@fV.eq_1,@fM.eq_1,@GI.eq_1,@kX.eq_1,@fU.eq_1,@iN.eq_1,@fR.eq_1,@qU.eq_1,@gN.eq_1,@gT.eq_1,@aJ.eq_1,@pK.eq_1,@C5,@Bk,@Bu,@C2,@yV,@Bv,@yP,@Bm,@C4,@C3,@Bt,@F1,@Ey,@Bn,@Ez,@Bo,@F2,@Ep,@F3,@Er,@By,@Bp,@C1,@Bs,@Bz,@Bq,@C0,@Br,@Iy,@Iw,@Ix,@Iu,@Ir,@Iq,@Ew,@Eu,@Ev,@F6,@Es,@Et,@yO,@yN,@Bx,@Bw,@F4,@Em,@sZ,@qB,@dQ.eq_1⟩
theorem zo:(type_of% @N0)/\(type_of% @N2)/\(type_of% @N1)/\(type_of% @Mr)/\(type_of% @Mt)/\(type_of% @Ms)/\(type_of% @Mx)/\(type_of% @Mz)/\(type_of% @My)/\(type_of% @Mu)/\(type_of% @Mw)/\(type_of% @Mv)/\(type_of% @GF)/\(type_of% @bH)/\(type_of% @b8)/\(type_of% @G4)/\(type_of% @CG)/\(type_of% @J7)/\(type_of% @JA)/\(type_of% @J9)/\(type_of% @J5)/\(type_of% @J3)/\(type_of% @J8)/\(type_of% @J6)/\(type_of% @E2)/\(type_of% @Dx)/\(type_of% @E1)/\(type_of% @Dy)/\(type_of% @Du)/\(type_of% @Dz)/\(type_of% @Dw)/\(type_of% @JJ)/\(type_of% @JI)/\(type_of% @JH)/\(type_of% @JG)/\(type_of% @JF)/\(type_of% @Fx)/\(type_of% @Fw)/\(type_of% @Fv)/\(type_of% @Fu)/\(type_of% @Ft)/\(type_of% @Fs)/\(type_of% @Fq)/\(type_of% @Fp)/\(type_of% @Fo)/\(type_of% @Fm)/\(type_of% @Fk)/\(type_of% @Fj)/\(type_of% @Fi)/\(type_of% @Fh)/\(type_of% @Fg):=
 ⟨@N0,@N2,@N1,@Mr,@Mt,@Ms,@Mx,@Mz,@My,@Mu,@Mw,@Mv,@GF,@bH,@b8,@G4,@CG,@J7,@JA,@J9,@J5,@J3,@J8,@J6,@E2,@Dx,@E1,@Dy,@Du,@Dz,@Dw,@JJ,@JI,@JH,@JG,@JF,@Fx,@Fw,@Fv,@Fu,@Ft,@Fs,@Fq,@Fp,@Fo,@Fm,@Fk,@Fj,@Fi,@Fh,@Fg⟩
end Z
namespace Sf
structure Rw where
 x:Int
 y:Int
 m:Int
noncomputable def Rw.up(r:Rw):Prop:=0<r.y \/ (r.y=0/\0<r.x)
noncomputable def crs(a b:Rw):Int:=a.x*b.y-b.x*a.y
theorem uS{a b c:Rw}(ha:a.up)(hb:b.up)(hc:c.up)(h1:0<crs a b)(h2:0<crs b c):0<crs a c:=by
 unfold crs at *
 have key:b.y*(a.x*c.y-c.x*a.y)=a.y*(b.x*c.y-c.x*b.y)+c.y*(a.x*b.y-b.x*a.y):=by
  simp only[Int.mul_sub]
  have e1:a.y*(b.x*c.y)=c.y*(b.x*a.y):=by rw[mul_left_comm,Int.mul_comm a.y c.y,mul_left_comm]
  have e2:b.y*(a.x*c.y)=c.y*(a.x*b.y):=by rw[mul_left_comm,Int.mul_comm b.y c.y,mul_left_comm]
  have e3:b.y*(c.x*a.y)=a.y*(c.x*b.y):=by rw[mul_left_comm,Int.mul_comm b.y a.y,mul_left_comm]
  ac_rfl
 have hay:0<=a.y:=by rcases ha with h | ⟨h,_⟩<;>ac_rfl
 have hcy:0<=c.y:=by rcases hc with h | ⟨h,_⟩<;>ac_rfl
 rcases hb with hby | ⟨hby,hbx⟩
 ·have p1:0<=a.y*(b.x*c.y-c.x*b.y):=mul_nonneg hay (Int.le_of_lt h2)
  have p2:0<=c.y*(a.x*b.y-b.x*a.y):=mul_nonneg hcy (Int.le_of_lt h1)
  by_cases h0:0<a.x*c.y-c.x*a.y
  ·exact h0
  ·exfalso
   have q:b.y*(a.x*c.y-c.x*a.y)<=0:=Int.mul_nonpos_of_nonneg_of_nonpos (Int.le_of_lt hby) ⋯
   have z1:a.y*(b.x*c.y-c.x*b.y)=0:=⋯
   have z2:c.y*(a.x*b.y-b.x*a.y)=0:=⋯
   have ay0:a.y=0:=by
    rcases Int.mul_eq_zero.mp z1 with h | h
    ·exact h
    ·ac_rfl
   have cy0:c.y=0:=by
    rcases Int.mul_eq_zero.mp z2 with h | h
    ·exact h
    ·ac_rfl
   have cx:0<c.x:=by rcases hc with h | ⟨_,h⟩<;>ac_rfl
   rw[cy0] at h2
   have:0<c.x*b.y:=mul_pos cx hby
   ac_rfl
 ·exfalso
  rw[hby] at h1
  have h3:b.x*a.y<0:=⋯
  have h4:0<=b.x*a.y:=mul_nonneg (Int.le_of_lt hbx) hay
  ac_rfl
noncomputable def place(v:Rw)(rows:List Rw):Nat:=rows.countP fun r=>decide (0<crs r v)
noncomputable def t7(rows:List Rw):Prop:=rows.Pairwise fun a b=>0<crs a b
structure Pre(s:Int)(rows:List Rw):Prop where
 srt:t7 rows
 ok:∀r∈rows,r.up /\ -s<=r.x/\r.x<=s/\r.y<=s/\1<=r.m
noncomputable def many(rows:List Rw):Int:=(rows.map (·.m)).sum
structure Good(rows:List Rw):Prop where
 lo:2<=rows.length
 hi:rows.length<=6
 srt:t7 rows
 ok:∀r∈rows,r.up /\ -999999999999<=r.x/\r.x<=999999999999/\r.y<=999999999999/\1<=r.m
 tot:many rows<=12
noncomputable def aW:Nat->List Rw->List Int
 |_,[]=>[]
 |k,r::rs=>List.replicate r.m.toNat (k:Int)++aW (k+1) rs
noncomputable abbrev aD(rows:List Rw):List Int:=aW 0 rows
theorem sH:∀(k:Nat) (rows:List Rw),∀z∈aW k rows,(k:Int)<=z/\z<(k:Int)+rows.length
 |_,[],z,h=>by simp[aW] at h
 |k,r::rs,z,h=>by
  simp only[aW,mem_append,length_cons] at h ⊢
  rcases h with h | h
  ·rw[eq_of_mem_replicate h];ac_rfl
  ·have:=sH (k+1) rs z h;ac_rfl
end Sf
namespace L2
section
variable {D:Ends} {σ:St} {H:Hp} {Q:VK} {t u:TS} {te ta tb tc:TE} {g:TG} {K:W.Frag}
end
end L2
namespace Z
open L2
end Z
namespace L2
section
variable {prog:Program} {w:World} {A:Around} {E:Value->Shared->Prop} {s:Shared}
end
section
variable {X:Cx}
end
end L2
namespace Z
open L2
section
variable {X:Cx}
end
end Z
namespace L2
section
variable {prog:Program} {w:World} {A:Around} {E:Value->Shared->Prop} {s:Shared}
structure Ent(h:Heap)(d:Addr)(es:Array DictEntry)(ep:Nat):Prop where
 at_:∃o,h.get? d=some o/\o.ExactDict/\o.data=.dict es ep
theorem Hs{it d:Addr}{i n ep:Nat}{es:Array DictEntry}{en:DictEntry}{Q:Option Value->Shared->Prop}(k:s.heap.IsKeyIter it d i n ep)(g:Ent s.heap d es ep)(hn:es.size=n)(he:es[i]?=some en)
  (q:∀h',h'.IsKeyIter it d (i+1) n ep->Heap.SameBut it s.heap h'->Q (some en.key) { s with heap:=h' }):wpAny (model prog w) A (pyNext (.ref it)) Q E s:=by
 obtain⟨⟨od,gd,_,dd⟩⟩:=g
 obtain⟨oi,gi,ci,fi⟩:=id k
 have up:(s.heap.update it (Obj.mapFields (·.setIfInBounds 1 (rawInt ((i:Int)+1))))).IsKeyIter it d (i+1) n ep:=
  ⟨_,Heap.get?_update_self _ gi (Obj.isFreed_of_fields (Obj.data_mapFields fi _)),(Obj.cls_mapFields ..).trans ci,by rw[Obj.data_mapFields fi];simp[rawInt]⟩
 have fin:=q _ up (Heap.SameBut.update ..)
 unfold pyNext
 refine wpAny_bind (wpAny_attempt (wpAny_callSpecial?_slot (name:=Str.ofString "__next__") k.typeIs F.slot_dict_keyiterator_next (wpAny_call_entry F.slot_dict_keyiterator_next k.typeIs F.entry_dict_keyiterator_next (wpAny_bind (wpAny_pure (wpAny_bind (wpAny_bind ?a)))) (F.args_dict_keyiterator_next_1 _))))
 refine wpAny_bind (wpAny_typeNameOfWhole_keyiter k.typeIs (wpAny_pure (wpAny_bind (wpAny_fieldsOf gi fi ?b))))
 rw[show (if Builtin.Dict_items.ownsTuple "dict_keyiterator" = true then 2 else 0)=0 by decide]
 show wpAny _ _ (ite ((Value.ref d==Value.none)=true) _ _) _ _ s
 rw[if_neg (by exact fun z=>nomatch z)]
 refine wpAny_bind (wpAny_pure (wpAny_bind (wpAny_dictEntries gd dd ?c)))
 rw[if_neg (by rw[hn];simp)]
 refine wpAny_bind (wpAny_pure (wpAny_bind (wpAny_dictEpoch gd dd ?d)))
 rw[if_neg (by simp)]
 refine wpAny_pure ?e
 simp only[show ¬((i:Int)<0) by ac_rfl,ite_false,toNat_natCast,he]
 refine wpAny_bind (wpAny_bind (wpAny_typeNameOfWhole_keyiter k.typeIs (wpAny_pure (wpAny_bind (wpAny_isOneOf_keyiter k.typeIs ?f)))))
 show wpAny _ _ (setField (.ref it) 1 (rawInt ((i:Int)+1)) >>= _) _ _ s
 refine wpAny_bind (wpAny_setField gi fi (by simp) (wpAny_bind (wpAny_holding (wpAny_bind (wpAny_isOneOf_keyiter (s:={ s with heap:=s.heap.update it (Obj.mapFields (·.setIfInBounds 1 (rawInt ((i:Int)+1)))) }) up.typeIs ?g)))))
 show wpAny _ _ (pure en.key) _ _ _
 exact wpAny_pure (wpAny_pure ⟨_,rfl,wpAny_pure fin⟩)
theorem Ka{it d:Addr}{i n ep:Nat}{es:Array DictEntry}{Q:Option Value->Shared->Prop}(qu:Qu A s.heap)(k:s.heap.IsKeyIter it d i n ep)(g:Ent s.heap d es ep)(hn:es.size=n)(hi:n<=i)
  (q:∀h',Heap.ExtBut it s.heap h'->Q none { s with heap:=h' }):wpAny (model prog w) A (pyNext (.ref it)) Q E s:=by
 obtain⟨⟨od,gd,_,dd⟩⟩:=g
 obtain⟨oi,gi,ci,fi⟩:=id k
 have he:es[i]?=none:=Array.getElem?_eq_none ⋯
 unfold pyNext
 refine wpAny_bind (wpAny_attempt (wpAny_callSpecial?_slot (name:=Str.ofString "__next__") k.typeIs F.slot_dict_keyiterator_next (wpAny_call_entry F.slot_dict_keyiterator_next k.typeIs F.entry_dict_keyiterator_next (wpAny_bind (wpAny_pure (wpAny_bind (wpAny_bind ?a)))) (F.args_dict_keyiterator_next_1 _))))
 refine wpAny_bind (wpAny_typeNameOfWhole_keyiter k.typeIs (wpAny_pure (wpAny_bind (wpAny_fieldsOf gi fi ?b))))
 rw[show (if Builtin.Dict_items.ownsTuple "dict_keyiterator" = true then 2 else 0)=0 by decide]
 show wpAny _ _ (ite ((Value.ref d==Value.none)=true) _ _) _ _ s
 rw[if_neg (by exact fun z=>nomatch z)]
 refine wpAny_bind (wpAny_pure (wpAny_bind (wpAny_dictEntries gd dd ?c)))
 rw[if_neg (by rw[hn];simp)]
 refine wpAny_bind (wpAny_pure (wpAny_bind (wpAny_dictEpoch gd dd ?d)))
 rw[if_neg (by simp)]
 refine wpAny_pure ?e
 simp only[show ¬((i:Int)<0) by ac_rfl,ite_false,toNat_natCast,he]
 refine wpAny_bind (wpAny_bind (wpAny_typeNameOfWhole_keyiter k.typeIs (wpAny_pure ?f)))
 show wpAny _ _ (setField (.ref it) 0 .none >>= _) _ _ s
 have ne:∀b u,pU u->s.heap.get? b=some u->b≠it:=fun b u m gb z=>by
  subst z
  rw[gi] at gb
  cases gb
  obtain⟨us,du,z2⟩:=m
  rw[fi] at du
  cases du
  simp at z2
 refine wpAny_bind (wpAny_setField gi fi (by simp) (gD (qu.keeps fun b u m z=>(Heap.get?_update_other _ _ (Ne.symm (ne b u m z))).trans z) fun h' e kk ⟨oe,ge,ce⟩=>?_))
 exact wpAny_bind (wpAny_isInstance (T:="StopIteration") (b:=true) ⟨oe,ge,ce⟩ isSubtype_stop (wpAny_pure (q _ fun b u hb z=>kk b u ((Heap.get?_update_other _ _ (Ne.symm hb)).trans z))))
theorem Ht{d:Addr}{ep:Nat}{es:Array DictEntry}{Q:Value->Shared->Prop}(hd:(d==sysModules)=false)(g:Ent s.heap d es ep)
  (q:Q (.ref s.heap.objs.size) { s with heap:=s.heap.push { cls:=.type "dict_keyiterator",data:=.fields #[.ref d,.int 0 0,.int es.size 0,.int ep 0] } }):wpAny (model prog w) A (pyIter (.ref d)) Q E s:=by
 obtain⟨⟨od,gd,ex,dd⟩⟩:=g
 have ty:s.TypeIs (.ref d) "dict" := ⟨od,gd,ex.1⟩
 refine wpAny_pyIter_slot ty F.slot_dict_iter (wpAny_call_entry F.slot_dict_iter ty F.entry_dict_iter (wpAny_bind (show wpAny _ _ (Builtin.Dict.dictSlotNone _ _) _ _ s from ?a)) (F.args_dict_iter_1 _))
 unfold Builtin.Dict.dictSlotNone
 refine wpAny_bind (wpAny_notOrdered_dict ty (show wpAny _ _ (pure (Value.ref d)) _ _ s from wpAny_pure (show wpAny _ _ (Builtin.Dict.showsAll d >>= _) _ _ s from wpAny_bind ?b)))
 unfold Builtin.Dict.showsAll
 rw[if_neg (by rw[hd];exact Bool.false_ne_true)]
 refine wpAny_pure (wpAny_bind (wpAny_dictEntries gd dd (wpAny_bind (wpAny_dictEpoch gd dd (wpAny_bind (wpAny_newObj_type (wpAny_pure ⟨_,rfl, "dict_keyiterator",_,⟨_,Heap.get?_push_size _ rfl,rfl⟩,F.slot_dict_keyiterator_next.lookup,?c⟩)))))))
 simpa [rawInt] using q
end
end L2
namespace Z
open L2
section
variable {X:Cx} {tg l:Expr} {tl:d3}
end
end Z
namespace L2
open PySem PySem.Spec PySem.W PyProof.Rows Tim
theorem BR{l t:List Value}(h:TriplesOk l){p:Pos}{v:Value}(e:codeAmong p l=some v):codeAmong p (l++t)=some v:=by
 fun_induction TriplesOk l with
 |case1=>simp[codeAmong] at e
 |case2 a t' b u x rest ih=>
  simp only[cons_append,codeAmong] at e ⊢
  split at e
  ·rename_i hc;rw[if_pos hc];exact e
  ·rename_i hc;rw[if_neg hc];exact ih h e
 |case3 l h1 h2=>exact h.elim
theorem BS{l:List Value}(h:TriplesOk l){p:Pos}(e:codeAmong p l=none)(a b:Int)(c:Value):codeAmong p (l++[rawInt a,rawInt b,c])=none \/ codeAmong p (l++[rawInt a,rawInt b,c])=some c:=by
 fun_induction TriplesOk l with
 |case1=>
  simp only[nil_append,rawInt,codeAmong]
  split
  ·exact .inr rfl
  ·exact .inl rfl
 |case2 a t' b u x rest ih=>
  simp only[cons_append,codeAmong] at e ⊢
  split at e
  ·cases e
  ·rename_i hc;rw[if_neg hc];exact ih h e
 |case3 l h1 h2=>exact h.elim
structure LamCx(X:Cx)(c P:Addr):Prop where
 code:X.env.code=.ref c
 hd:CodeHd X.base c P
 bt:∃bm o,X.mg "__builtins__" = some (.ref bm)/\bm≠builtinsNs/\X.base.get? bm=some o/\o.cls=.type "module" /\ o.dict=some builtinsNs/\o.data=.plain
section
variable {X:Cx} {pj:List (Addr×Obj)} {σ:St} {H:Hp} {s:Shared} {c P:Addr} {q:Str} {params:Arguments} {body:Expr} {scope:Scope} {pos:Pos} {clos:List (Str×Addr)} {E:Value->Shared->Prop}
noncomputable abbrev wB(X:Cx)(q:Str)(params:Arguments)(body:Expr)(scope:Scope)(clos:List (Str×Addr))(c':Addr)(ctv:Value):Obj:=kla_obj "<lambda>" q params body scope clos ((X.mg "__name__").getD .none) c' ctv
theorem Inv.pinOne{f:Addr}{o:Obj}(I:Inv X pj σ H s)(e:s.heap.get? f=some o)(hH:H f=none)(hl:X.env.locals<f)(hf:f ∉ X.fs)(hd:∀v,o.data ≠ .cell v):Inv X ((f,o)::pj) σ H s:=
 I.pins_of fun p hp=>by
  rcases mem_cons.mp hp with rfl | hp
  ·exact⟨e,hH,ne_of_gt hl,hf,hd⟩
  ·exact I.pin p (mem_append_right _ hp)
theorem Inv.grown{h':Heap}{tk:Nat}{c':Addr}{ps:Array Value}(I:Inv X pj σ H s)(hP:H P=some (.lam q))(tr:TriplesOk ps.toList)(al:∀p:Pos,codeAmong p ps.toList=none \/ ∃c,codeAmong p ps.toList=some (.ref c)/\H c=some (.cod q))(hx:Heap.ExtBut P s.heap h')(hge:s.heap.objs.size<=c')(hrec:h'.CodeRec (.ref c') q)
  (htb:h'.get? P=some (tabObj (ps ++ #[rawInt pos.line,rawInt pos.col,.ref c']))):Inv X pj σ (upd H c' (.cod q)) { s with heap:=h',toks:=tk }:=by
 have hcn:H c'=none:=I.hok.fresh hge
 have nP:∀b,H b=none->b≠P:=fun b n z=>by rw[z,hP] at n;cases n
 have nc:∀b o,s.heap.get? b=some o->b≠c':=fun b o e=>ne_of_lt (lt_of_lt_of_le (Heap.lt_size e) hge)
 refine I.step (g':=s.gens) (d':=s.drawn) (ch:=[]) (fun _ z=>nomatch z) (fun b o _ _ _ e n=>hx b o (nP b n) e) (fun b o _ _ _ e n=>⟨o.slots,hx b o (nP b n) e⟩) (fun b o _ e n=>by rw[aO (nc b o e)];exact n) (fun b o _ e=>?_)
  (fun b xs e=>by rw[aO (aM e hcn)];exact e) (fun b o u e=>by rw[aO (aM e hcn)];exact e) (fun b ps e=>⟨#[],by rw[aO (aM e hcn),e];simp⟩) (fun m hm=>hm.extBut hx (nP _ I.free)) (fun b u e=>?_) I.bare
 ·by_cases hb:b=P
  ·exact⟨_,by rw[hb];exact htb⟩
  ·exact⟨o,hx b o hb e⟩
 ·by_cases hb:b=c'
  ·subst hb
   rw[aY] at e
   cases e
   exact hrec
  ·rw[aO hb] at e
   by_cases hbP:b=P
   ·subst hbP
    rw[hP] at e
    cases e
    have el:(ps ++ #[rawInt pos.line,rawInt pos.col,.ref c']).toList=ps.toList++[rawInt pos.line,rawInt pos.col,.ref c']:=by simp
    refine⟨_,htb,by rw[el];exact TriplesOk_snoc _ _ _ _ tr,fun p=>?_⟩
    rw[el]
    rcases al p with z | ⟨c,z,hc⟩
    ·rcases BS tr z pos.line pos.col (.ref c') with y | y
     ·exact .inl y
     ·exact .inr ⟨c',y,aY⟩
    ·exact .inr ⟨c,BR tr z,by rw[aO (aM hc hcn)];exact hc⟩
   ·refine(I.hok b u e).stay (fun d v hd y=>hx d v ?_ y) (fun d y=>by rw[aO (aM y hcn)];exact y) (fun d xs y=>by rw[aO (aM y hcn)];exact y) fun d xs y=>by rw[aO (aM y hcn)];exact y
    rcases hd with rfl | hd
    ·exact hbP
    ·rintro rfl
     rw[hP] at hd
     cases hd
theorem GC{Q:Value->Shared->Prop}(I:Inv X pj σ H s)(L:LamCx X c P)(hP:H P=some (.lam q))(hcl:closureFor scope X.env=pure clos)(hdef:defaultsOf params X.env=([],[]))(hq:X.env.qual ++ "<lambda>" = q)
  (k:∀(f c':Addr) (ctv:Value) (H':Hp) (s':Shared),aK H H'->H' c'=some (.cod q)->Inv X ((f,wB X q params body scope clos c' ctv)::pj) σ H' s'->Q (.ref f) s'):wpAny (model X.prog X.w) X.A (eval (.Lambda params body scope pos) X.env) Q E s:=by
 subst hq
 refine kla_eval hdef ?_
 obtain⟨ps,eP,tr,al⟩:=I.hok P _ hP
 have hgs:s.heap.Ns mainGlobals X.mg:=I.mod.glob.keeps I.bk
 have nP:∀b o,X.base.get? b=some o->b≠P:=fun b o e z=>by
  have:=(I.bs b o e).2
  rw[z,hP] at this
  cases this
 obtain⟨og,esg,epg,eg,dg,_⟩:=I.mod.glob
 have hgP:mainGlobals≠P:=nP _ _ eg
 obtain⟨bm,ob,b1,b2,b3,b4,b5,b6⟩:=L.bt
 have hbG:bm≠mainGlobals:=fun z=>by
  rw[z,eg] at b3
  cases b3
  rw[dg] at b6
  cases b6
 have hB:s.heap.BuiltinsAt X.mg P:=⟨bm,ob,b1,b2,hbG,nP _ _ b3,I.bk _ _ b3,b4,b5,b6⟩
 rcases al pos with hn | ⟨c',hc',hcod⟩
 ·refine kla_makeFunction (mg:=X.mg) hcl I.ok.glob hgs L.code (L.hd.keeps I.bk) eP tr hn hgP hB fun c' ctv h' tk hx hge hlt hrec htb=>?_
  have I1:=I.grown (tk:=tk) hP tr al hx hge hrec htb
  have I2:=I1.kept (t':=tk) (h':=h'.push (wB X (X.env.qual ++ "<lambda>") params body scope clos c' ctv)) (fun b u e=>Heap.get?_push_of_some _ e)
  have hlh:s.heap.objs.size<=h'.objs.size:=le_trans hge (le_of_lt hlt)
  refine k h'.objs.size c' ctv _ _ (fun b o e=>by rw[aO (aM e (I.hok.fresh hge))];exact e) aY (I2.pinOne (Heap.get?_push_size _ rfl) ?_ (lt_of_lt_of_le I.lt hlh) (I.nofs hlh) fun v z=>nomatch z)
  rw[aO (ne_of_gt hlt)]
  exact I.hok.fresh hlh
 ·refine kla_makeFunctionHit (mg:=X.mg) hcl I.ok.glob hgs L.code (L.hd.keeps I.bk) eP tr hc' hB fun ctv h' tk hk hsz=>?_
  have I2:=I.kept (t':=tk) (h':=h'.push (wB X (X.env.qual ++ "<lambda>") params body scope clos c' ctv)) (fun b u e=>Heap.get?_push_of_some _ (hk b u e))
  exact k h'.objs.size c' ctv H _ (aK.refl _) hcod (I2.pinOne (Heap.get?_push_size _ rfl) (I.hok.fresh hsz) (lt_of_lt_of_le I.lt hsz) (I.nofs hsz) fun v z=>nomatch z)
end
noncomputable def zY(X:Cx)(N:List Str)(q:Str)(scope:Scope)(f c':Addr)(clos:List (Str×Addr))(A:Around)(s:Shared)(H:Hp):Cx where
 prog:=X.prog
 w:=X.w
 K:=X.K
 mg:=X.mg
 base:=X.base
 A:=A.deeper (envX q scope s.heap.objs.size f (.ref c') clos)
 N:=N
 s₀:=s
 HZ:=H
 env:=envX q scope s.heap.objs.size f (.ref c') clos
 outer:=X.stack
 stack:=envX q scope s.heap.objs.size f (.ref c') clos::X.stack
 ex:=[]
 fn:=fun _=>false
 calm:=true
 pn:=[]
 xe:=fun _ _=>False
 hs:=[]
structure LamOk(X:Cx)(i:Nat)(x y:Str)(params:Arguments)(scope:Scope)(cy:Addr):Prop where
 bind:∀(q:Str) (body:Expr) (clos:List (Str×Addr)) (pm cd ctv u:Value),bindArgs (kla_fn "<lambda>" q params body scope clos pm cd ctv) ⟨[u],[]⟩=pure [(x,u)]
 co:scope.isCoroutine=false
 gen:scope.isGenerator=false
 kind:scope.kind=.function
 cell:∀z∈scope.names,z.2 ≠ .cell
 lx:scope.names.lookup x=some .local
 ly:scope.names.lookup y=some .free
 only:∀z∈scope.names,z.2=.free->z.1=y
 ix:X.N[i]?=some y
 at_:X.env.cells.lookup y=some cy
 ky:X.env.kindOf y=some .cell
section
variable {X:Cx} {pj:List (Addr×Obj)} {σ:St} {H:Hp} {s:Shared} {q:Str} {params:Arguments} {body:Expr} {scope:Scope} {x y:Str} {i:Nat} {cy:Addr} {A:Around}
theorem Inv.lamStart{f c':Addr}{h₁:Heap}{tk:Nat}{u:Value}{v vy:V}(I:Inv X pj σ H s)(L:LamOk X i x y params scope cy)(hA:A.frames=some X.stack)(hh:A.handled=none)(hns:h₁.Ns s.heap.objs.size (fun z=>[(x,u)].reverse.lookup z))(hk:∀b o,s.heap.get? b=some o->h₁.get? b=some o)
  (r:cJ v u) (hy:σ[i]?=some (some vy)) (q:Str):Inv (zY X [x,y] q scope f c' [(y,cy)] A s H) [] [some v,some vy] H { s with heap:=h₁,toks:=tk }:=by
 have noA:∀b:Addr,b ∉ (zY X [x,y] q scope f c' [(y,cy)] A s H).ex:=fun b z=>absurd (show b∈([]:List Addr) from z) (by simp)
 have one:∀(z:Str) (c:Addr),([(y,cy)]:List (Str×Addr)).lookup z=some c->z=y/\c=cy:=fun z c e=>by
  rw[lookup_cons] at e
  split at e
  ·rename_i hz
   cases e
   exact⟨eq_of_beq hz,rfl⟩
  ·cases e
 have lk:([(y,cy)]:List (Str×Addr)).lookup y=some cy:=by simp
 obtain⟨m,hm,hl⟩:=I.loc
 obtain⟨uy,ry,look⟩:=hl i y vy L.ix hy (.inr (.inl L.ky))
 have hcell:h₁.IsCell cy (some uy):=by
  rcases look with⟨k,_⟩ | ⟨_,c,e,o,ho,hd⟩
  ·rw[L.ky] at k;cases k
  ·rw[L.at_] at e
   cases e
   exact⟨o,hk _ _ ho,hd⟩
 refine⟨⟨I.ok.mod,L.kind,rfl,rfl,le_refl _,fun a b c h1 h2=>?_,fun a ha=>?_,fun a c z=>(by cases z),fun _=>hh,Around.frames_deeper hA,.inr ⟨rfl,rfl⟩,fun b z=>absurd z (noA b),I.bs,le_trans I.ok.bsz I.sz,fun b _ _=>noA b,fun b z=>absurd z (noA b),I.stack,I.stkFree,.inl hh⟩,
  rfl,I.bare,Un.kept hk,⟨_,hns,fun j a v' h1 h2 h3=>?_⟩,fun a c h=>?_,I.hok.fresh (le_refl _),fun a c h=>?_,fun p hp=>absurd (show p∈([]:List (Addr×Obj)) from hp) (by simp),I.hok.kept hk,rfl,fun a ha=>absurd (show a∈([]:List Addr) from ha) (by simp)⟩
 ·rw[(one _ _ h1).1,(one _ _ h2).1]
 ·have ha':scope.names.lookup a=some .cell \/ scope.names.lookup a=some .free:=ha
  rcases ha' with z | z
  ·exact absurd rfl (L.cell _ (PySem.mem_of_lookup z))
  ·have ea:a=y:=L.only (a,.free) (PySem.mem_of_lookup z) rfl
   rw[ea]
   exact⟨cy,lk⟩
 ·match j,h1,h2 with
  |0,h1,h2=>
   cases h1
   cases h2
   exact⟨u,r,.inl ⟨L.lx,by simp⟩⟩
  |1,h1,h2=>
   cases h1
   cases h2
   exact⟨uy,ry,.inr ⟨.inr L.ly,cy,lk,hcell⟩⟩
  |j+2,h1,_=>exact absurd (show ([]:List Str)[j]?=some a from h1) (by simp)
 ·rw[(one _ _ h).2]
  exact⟨_,hcell⟩
 ·rw[(one _ _ h).2]
  exact I.freeC y cy L.at_
theorem CD{f c':Addr}{ctv:Value}{t:TE}{u:Value}{v vy:V}{Q:VK}(I:Inv X pj σ H s)(L:LamOk X i x y params scope cy)(hA:A.frames=some X.stack)(hh:A.handled=none)(hroom:A.depth<recursionLimit)
  (hp:s.heap.get? f=some (wB X q params body scope [(y,cy)] c' ctv)) (hc:H c'=some (.cod q)) (ht:PE (zY X [x,y] q scope f c' [(y,cy)] A s H) body t) (r:cJ v u) (hy:σ[i]?=some (some vy)) (hq:t [some v,some vy] H Q):
  codeAny (model X.prog X.w) A (.call (.ref f) ⟨[u],[]⟩) (CR u3 X.stack X.prog X.w H s Q E0) s:=by
 refine kla_callFunE hroom hp rfl L.co L.gen rfl (I.hok c' _ hc) ?_
 rw[L.bind]
 refine wpAny_pure (wpAny_newFunctionEnv L.cell (fun z hz=>?_) (fun h₁ hns hsb=>⟨I.nolimit.fresh _ hsb,?_⟩) L.kind)
 ·cases hz with
  |head=>exact L.lx
  |tail _ z=>cases z
 ·show codeAny _ _ (.expr body (envX q scope s.heap.objs.size f (.ref c') [(y,cy)])) _ _
  have hk₁:∀b o,s.heap.get? b=some o->h₁.get? b=some o:=fun b o e=>hsb.extBut b o (ne_of_lt (Heap.lt_size e)) (Heap.get?_push_of_some _ e)
  have J:=I.lamStart (f:=f) (c':=c') (tk:=s.toks+1) L hA hh hns hk₁ r hy q
  refine kla_codeExpr (wpAny_mono (ht [] _ _ H _ J hq) (fun u' s' ⟨v',H',J',rv,qv⟩=>?_) fun _ _ z=>z.elim)
  exact⟨v',H',J'.os,J'.bare,J'.base,J'.hok,rv,qv⟩
end
noncomputable abbrev hV(l:Addr)(e1:Nat):HO:=.ext fun h=>h.get? l=some (seqObj "list" #[] e1)
section
variable {X:Cx} {pj:List (Addr×Obj)} {σ:St} {H H0:Hp} {s:Shared} {A:Around} {l kS f:Addr} {vs:List Value} {e1:Nat} {g:Nat->Int} {E:Value->Shared->Prop} {P:PySem.Fin->Shared->Prop}
theorem jZ{st:SortSt}{xs:List V}{p:Array Nat}(I:Inv X pj σ H s)(S0:aK H0 H)(hk0:H0 kS=none)(lk:l≠kS)(hl:H l=some (hV l e1))(hk:H kS=some (.lst xs))(h64:vs.length<64)
  (pm:Pm vs.length p) (har:(arrOf st).map (·.2)=(picked vs p).toArray) (hfl:failedOf st=none)
  (k:∀(H2:Hp) (s2:Shared),aK H0 H2->H2 l=some (hV l e1)->Inv X pj σ H2 s2->P (.done (.ret .none)) { s2 with heap:=s2.heap.update l (Obj.mapSeq fun _=>(picked vs p).toArray) }):
  wpAny (model X.prog X.w) A (ksk_tail l false e1 (.ref kS) st) P E s:=by
 obtain⟨z,its,n,rv,ll,e⟩:=I.lstM hk
 have I3:=I.lset (its':=[]) (ys:=[]) (f:=fun _=>#[]) (t':=s.toks) hk e rfl .nil (zero_le _)
 have el:(s.heap.update kS (Obj.mapSeq fun _=>#[])).get? l=some (seqObj "list" #[] e1):=(I3.hok l (hV l e1) (by rw[aO lk];exact hl)).1
 have sz:(picked vs p).toArray.size=vs.length:=by simp[picked,pm.size]
 unfold ksk_tail
 dsimp only
 rw[har,hfl]
 refine wpAny_bind (listUpdate_at e rfl ?_ (by rw[size_toArray,<- ll];exact z) (zero_le _))
 refine wpAny_bind (wpAny_letGo ?_)
 refine wpAny_bind (seqEpoch_at el rfl ?_)
 refine wpAny_bind (listUpdate_at el rfl ?_ (zero_le _) (by simp only[Bool.false_eq_true,if_false];rw[sz,sizeLine_eq];ac_rfl))
 simp only[bne_self_eq_false,Bool.false_eq_true,if_false]
 exact wpAny_pure (k (upd H kS (.lst [])) _ (fun b o e=>by rw[aO (aM e hk0)];exact S0 _ _ e) (by rw[aO lk];exact hl) I3)
theorem DR{its:List Value}{n:Nat}(I:Inv X pj σ H s)(S0:aK H0 H)(hk0:H0 kS=none)(lk:l≠kS)(hl:H l=some (hV l e1))(hk:H kS=some (.lst ((List.range vs.length).map fun j=>V.int (g j))))(h64:vs.length<64)
  (e:s.heap.get? kS=some { cls:=.type "list",data:=.seq its.toArray n }) (rv:bF ((List.range vs.length).map fun j=>V.int (g j)) its)
  (k:∀(p:Array Nat) (H2:Hp) (s2:Shared),Pm vs.length p->Up (fun i j=>decide (g i<g j)) p vs.length->aK H0 H2->H2 l=some (hV l e1)->Inv X pj σ H2 s2->P (.done (.ret .none)) { s2 with heap:=s2.heap.update l (Obj.mapSeq fun _=>(picked vs p).toArray) }):
  wpAny (model X.prog X.w) A (ksk_end l false vs.toArray e1 (.ref kS) its.toArray) P E s:=by
 have hlen:its.length=vs.length:=by rw[<- rv.length];simp
 have at_:∀j,j<vs.length -> ∃t,its.getD j Value.none=.int (g j) t:=fun j hj=>by
  obtain⟨u,hu,ru⟩:=rv.get (i:=j) (x:=V.int (g j)) (by simp[hj])
  obtain⟨t,rfl⟩:=ru
  exact⟨t,by rw[getD_eq_getElem?_getD,hu];rfl⟩
 have ia:IntsAre its ((List.range vs.length).map g):=by
  have r':=rv
  rw[show ((List.range vs.length).map fun j=>V.int (g j))=((List.range vs.length).map g).map V.int by rw[map_map];rfl] at r'
  exact k3 r'
 unfold ksk_end
 dsimp only
 simp only[Bool.false_eq_true,if_false]
 by_cases two:vs.toArray.size<2
 ·rw[if_pos two,if_pos two]
  refine wpAny_bind (wpAny_pure ?_)
  rw[StateT.run_pure]
  refine wpAny_bind (wpAny_pure ?_)
  dsimp only
  have few:vs.length<2:=by simpa using two
  refine jZ (p:=List.toArray (List.range vs.length)) I S0 hk0 lk hl hk h64 (Array.Perm.refl _) ?_ rfl fun H2 s2=>k _ H2 s2 (Array.Perm.refl _) fun u v h1 h2=>by ac_rfl
  rw[p7]
  apply toList_inj.mp
  show ((its.toArray.zip vs.toArray).map fun x=>x.2).toList=_
  simp
  apply ext_getElem?
  intro i
  by_cases hi:i<vs.length
  ·simp[hi,hlen]
  ·simp[hi,hlen]
 ·have big:2<=vs.length:=by simpa using two
  rw[if_neg two,if_neg two]
  rw[ksk_kind (by simpa using ia) (by simpa [hlen] using big)]
  refine wpAny_bind (wpAny_pure ?_)
  have wk:Weak fun i j=>decide (g i<g j):=⟨fun a=>by simp,fun a b c h1 h2=>by simp only[decide_eq_true_eq] at *;ac_rfl,fun a b c h=>by simp only[decide_eq_true_eq] at *;ac_rfl⟩
  have tree:(kas_sort vs.length).kasWp (kas_ask X.prog X.w A oneType' its) (fun p s'=>(Pm vs.length p/\Up (fun i j=>decide (g i<g j)) p vs.length)/\s'=s) s:=
   xG (lt:=fun i j=>decide (g i<g j)) (N:=vs.length) (fun i j C hi hj hn q=>by
    obtain⟨t,et⟩:=at_ i hi
    obtain⟨u,eu⟩:=at_ j hj
    show wpAny (model X.prog X.w) A (keyLt' oneType' (its.getD i Value.none) (its.getD j Value.none)) C _ s
    rw[et,eu]
    exact kat_lt_int q) _ (rK wk ⋯ fun p a b=>⟨⟨a,b⟩,rfl⟩)
  refine wpAny_bind (wpAny_mono (kat_run (E:=E) (ks:=its) (Q:=fun st' s'=>∃p,(Pm vs.length p/\Up (fun i j=>decide (g i<g j)) p vs.length)/\arrOf st'=p.map (kas_item (its.toArray.zip vs.toArray))/\failedOf st'=none/\s'=s)
   hlen big h64 (fun p st' s' _ a b q=>⟨p,q.1,a,b,q.2⟩) tree) (fun r s' q=>?_) fun _ _ z=>z)
  obtain⟨⟨⟩,st'⟩:=r
  obtain⟨p,⟨pm,up⟩,e1',e2',rfl⟩:=q
  dsimp only at e1' e2' ⊢
  exact jZ I S0 hk0 lk hl hk h64 pm (kat_snds hlen e1') e2' fun H2 s2=>k p H2 s2 pm up
theorem Ay(I:Inv X pj σ H s)(S0:aK H0 H)(hk0:H0 kS=none)(lk:l≠kS)(hl:H l=some (hV l e1))(hk:H kS=some (.lst []))(h64:vs.length<64)
  (turn:∀(i:Nat) (v:Value) (H2:Hp) (s2:Shared),vs[i]?=some v->aK H0 H2->Inv X pj σ H2 s2->wpAny (model X.prog X.w) A (call (.ref f) [v]) (fun u s3=>∃H3 t',u=.int (g i) t'/\aK H2 H3/\Inv X pj σ H3 s3) (fun _ _=>False) s2)
  (k:∀(p:Array Nat) (H2:Hp) (s2:Shared),Pm vs.length p->Up (fun i j=>decide (g i<g j)) p vs.length->aK H0 H2->H2 l=some (hV l e1)->Inv X pj σ H2 s2->P (.done (.ret .none)) { s2 with heap:=s2.heap.update l (Obj.mapSeq fun _=>(picked vs p).toArray) }):
  wpAny (model X.prog X.w) A (ksk_rest l (.ref f) false vs.toArray e1 (.ref kS)) P E s:=by
 unfold ksk_rest
 refine wpAny_bind (wpAny_rule ?_)
 first
  |rw[List.forIn_toArray]
  | (rw[<- forIn_toList];simp only[List.toList_toArray])
  |rw[<- forIn_toList]
 refine wpAny_bind (ksk_fold (fun i s'=>∃H2,aK H0 H2/\H2 l=some (hV l e1)/\H2 kS=some (.lst ((List.range i).map fun j=>V.int (g j)))/\Inv X pj σ H2 s') vs 0 s ⟨H,S0,hl,by simpa using hk,I⟩ ?step ?done)
 case step=>
  rintro j x s' hx ⟨H2,S2,hl2,hk2,I2⟩
  simp only[zero_add] at hk2 ⊢
  have hj:j<vs.length:=(List.getElem?_eq_some_iff.mp hx).1
  refine wpAny_bind (wpAny_attempt (wpAny_mono (turn j x H2 s' hx S2 I2) (fun u s'' he=>?_) fun _ _ hF=>hF.elim))
  obtain⟨H3,t',rfl,S3,I3⟩:=he
  dsimp only
  obtain⟨z,its,n,rv,ll,e⟩:=I3.lstM (S3 _ _ hk2)
  have li:its.length=j:=by rw[<- ll];simp
  refine wpAny_bind (listUpdate_at e rfl ?_ (by rw[size_toArray,<- ll];exact z) (by rw[Array.size_push,size_toArray,li,sizeLine_eq];ac_rfl))
  refine wpAny_pure ⟨rfl,upd H3 kS (.lst ((List.range j).map (fun j=>V.int (g j))++[V.int (g j)])),fun b o e=>by rw[aO (aM e hk0)];exact S3 _ _ (S2 _ _ e),by rw[aO lk];exact S3 _ _ hl2,by rw[aY,List.range_succ,map_append];rfl,
   I3.lset (its':=its++[.int (g j) t']) (t':=s''.toks) (S3 _ _ hk2) e (by simp) (rv.append (.cons ⟨t',rfl⟩ .nil)) (by rw[length_append,length_map,length_range,sizeLine_eq];simp;ac_rfl)⟩
 case done=>
  rintro s' ⟨H2,S2,hl2,hk2,I2⟩
  rw[zero_add] at hk2
  obtain⟨z,its,n,rv,ll,e⟩:=I2.lstM hk2
  exact wpAny_bind (listItems_at e rfl (DR I2 S2 hk0 lk hl2 hk2 h64 e rv k))
end
section
variable {X:Cx} {pj:List (Addr×Obj)} {σ:St} {H:Hp} {s:Shared} {A:Around} {r f:Addr} {n:Nat} {g:Nat->Int} {E:Value->Shared->Prop} {t u v:Tok}
theorem qO{acc:Array Value}(hi:t8 0 1 n acc){i:Nat}{x:Value}(e:acc.toList[i]?=some x):i<n /\ ∃t,x=.int i t:=by
 have hl:acc.size=n:=hi.1
 have hj:i<acc.toList.length:=(List.getElem?_eq_some_iff.mp e).1
 have hn:i<n:=by simpa [hl] using hj
 refine⟨hn,?_⟩
 obtain⟨t,ht⟩:=hi.2 i x (by simpa using e)
 exact⟨t,by rw[ht];simp⟩
theorem xA{Q:Value->Shared->Prop}(I:Inv X pj σ H s)(hh:A.handled=none)(e:IsRange s.heap r 0 n 1 t u v)(hn:n<64)
  (turn:∀(i:Nat) (t':Tok) (H2:Hp) (s2:Shared),i<n->aK H H2->Inv X pj σ H2 s2->wpAny (model X.prog X.w) A.in1.in1 (call (.ref f) [.int i t']) (fun u s3=>∃H3 t',u=.int (g i) t'/\aK H2 H3/\Inv X pj σ H3 s3) (fun _ _=>False) s2)
  (k:∀(p:Array Nat) (l:Addr) (H':Hp) (s':Shared),Pm n p->Up (fun i j=>decide (g i<g j)) p n->aK H H'->H l=none->H' l=some (.lst (p.toList.map fun i:Nat=>V.int (i:Int)))->Inv X pj σ H' s'->Q (.ref l) s'):
  wpAny (model X.prog X.w) A (call (.builtin "sorted") [.ref r] [(Str.ofString "key",.ref f)]) Q E s:=by
 refine call_function_entry_kw kind_sorted plain_sorted entry_sorted (ksk_s1 _ _) ?_
 unfold Builtin.«sorted»
 refine wpAny_bind (m:=checkCount "sorted" 1 1 _) (wpAny_pure ?_)
 have hs:Builtin.Range.small 0 (n:Int) 1=true:=small_one ⋯ ⋯ ⋯ ⋯
 have hz:Builtin.Range.rangeSize 0 (n:Int) 1=n:=by rw[rangeSize_one];split<;>ac_rfl
 refine wpAny_bind (qC (show A.in1.handled=none from hh) e hs hz ⋯ fun h1 tk acc hk hi=>?_)
 have la:acc.toList.length=n:=by simpa using hi.1
 have line:acc.toList.length<=sizeLine:=by rw[la,sizeLine_eq];ac_rfl
 refine wpAny_bind (wpAny_newList ?_ line)
 have mine:(h1.push (seqObj "list" acc.toList.toArray 0)).get? h1.objs.size=some (seqObj "list" acc.toList.toArray 0):=Heap.get?_push_size _ rfl
 refine wpAny_bind (wpAny_holding (wpAny_call_entry_kw slot_list_sort ⟨_,mine,rfl⟩ entry_list_sort ?_ (ksk_l1 _ _)))
 show wpAny (model X.prog X.w) A.in1.in1 (Builtin.«list.sort» ⟨[.ref h1.objs.size],[(Str.ofString "key",.ref f)]⟩) _ _ _
 rw[ksk_t1]
 unfold ksk_tree
 refine wpAny_bind (listItems_at mine rfl (wpAny_bind (listUpdate_at mine rfl ?_ (by simpa using line) (zero_le _))))
 obtain⟨e1,g3⟩:∃e1,((h1.push (seqObj "list" acc.toList.toArray 0)).update h1.objs.size (Obj.mapSeq fun _=>(#[]:Array Value))).get? h1.objs.size=some (seqObj "list" #[] e1):=⟨_,get?_update_seq mine fun _=>#[]⟩
 refine wpAny_bind (seqEpoch_at g3 rfl (wpAny_bind (wpAny_newTuple (wpAny_bind (wpAny_newList (wpAny_holding ?_) (zero_le _))) (by simpa using line))))
 have Ia:Inv X pj σ H { s with heap:=h1,toks:=tk }:=I.kept (t':=tk) hk
 have hl:H h1.objs.size=none:=Ia.hok.fresh (le_refl _)
 have Ib:=Ia.laid (t':=tk) (a:=h1.objs.size) (o:=hV h1.objs.size e1) (h':=(h1.push (seqObj "list" acc.toList.toArray 0)).update h1.objs.size (Obj.mapSeq fun _=>(#[]:Array Value)))
  (fun b o e=>(Heap.get?_update_ne _ _ _ _ (ne_of_lt (Heap.lt_size e))).trans (Heap.get?_push_of_some _ e)) (le_refl _) ⟨g3,⟨_,g3⟩,fun a b z w=>w _ z⟩
 have Ic:=Ib.kept (t':=tk) (h':=((h1.push (seqObj "list" acc.toList.toArray 0)).update h1.objs.size (Obj.mapSeq fun _=>(#[]:Array Value))).push (seqObj "tuple" acc.toList.toArray 0)) fun b o e=>Heap.get?_push_of_some _ e
 have Id:=Ic.lnew (its:=[]) (t':=tk) .nil (zero_le _)
 have lk:h1.objs.size≠(((h1.push (seqObj "list" acc.toList.toArray 0)).update h1.objs.size (Obj.mapSeq fun _=>(#[]:Array Value))).push (seqObj "tuple" acc.toList.toArray 0)).objs.size:=by
  rw[size_push',Heap.size_update,size_push']
  ac_rfl
 have hk0:=Ic.fresh
 rw[aO (Ne.symm lk)] at hk0
 have S0:aK H (upd (upd H h1.objs.size (hV h1.objs.size e1)) (((h1.push (seqObj "list" acc.toList.toArray 0)).update h1.objs.size (Obj.mapSeq fun _=>(#[]:Array Value))).push (seqObj "tuple" acc.toList.toArray 0)).objs.size (.lst [])):=fun b o e=>by
  rw[aO (aM e hk0),aO (aM e hl)]
  exact e
 refine Ay (vs:=acc.toList) (g:=g) (H0:=H) Id S0 hk0 lk (by rw[aO lk,aY]) aY (by rw[la];exact hn) (fun i v H2 s2 hv S2 I2=>?_) fun p H2 s2 pm up S2 hl2 I2=>?_
 ·obtain⟨hi',t',rfl⟩:=qO hi hv
  exact turn i t' H2 s2 hi' S2 I2
 ·rw[la] at pm up
  have el:=(I2.hok _ _ hl2).1
  have ev:picked acc.toList p=p.toList.map fun i=>acc.toList.getD i Value.none:=rfl
  have rv:bF (p.toList.map fun i:Nat=>V.int (i:Int)) (picked acc.toList p):=by
   have all:∀i∈p.toList,i<n:=fun i hi=>mem_range.mp (pm.list.mem_iff.mp hi)
   unfold picked
   generalize p.toList=ps at all
   induction ps with
   |nil=>exact .nil
   |cons a r ih=>
    refine .cons ?_ (ih fun i hi=>all i (mem_cons_of_mem _ hi))
    have ha:=all a (mem_cons_self ..)
    have ga:acc.toList[a]?=some (acc.toList[a]'(by rw[la];exact ha)):=List.getElem?_eq_getElem _
    obtain⟨_,t',et⟩:=qO hi ga
    refine⟨t',?_⟩
    show acc.toList.getD a Value.none=_
    rw[getD_eq_getElem?_getD,ga,et]
    rfl
  have len2:(p.toList.map fun i:Nat=>V.int (i:Int)).length=n:=by rw[length_map];simpa using pm.size
  obtain⟨e2,g5⟩:∃e2,(s2.heap.update h1.objs.size (Obj.mapSeq fun _=>(picked acc.toList p).toArray)).get? h1.objs.size=some (seqObj "list" (picked acc.toList p).toArray e2):=⟨_,get?_update_seq el fun _=>(picked acc.toList p).toArray⟩
  have I3:=I2.write (x:=h1.objs.size) (e:=h1.objs.size) (o:=.lst (p.toList.map fun i:Nat=>V.int (i:Int))) (t':=s2.toks) (h':=s2.heap.update h1.objs.size (Obj.mapSeq fun _=>(picked acc.toList p).toArray)) (by rw[hl2];exact trivial) (.inl rfl) (fun b o hb e=>(Heap.get?_update_ne _ _ _ _ hb).trans e) ⟨_,g5⟩
   ⟨by rw[len2,sizeLine_eq];ac_rfl,_,_,rv,g5⟩
  refine⟨_,rfl,wpAny_pure ⟨_,rfl,k p h1.objs.size _ _ pm up (fun b o e=>?_) hl aY I3⟩⟩
  rw[aO (aM e hl)]
  exact S2 _ _ e
end
end L2
namespace L2
open PySem PySem.Spec PySem.W PyProof.Rows
noncomputable def BM(mg:Str->Option Value)(h:Heap):Prop:=∃bm o,mg "__builtins__" = some (.ref bm)/\bm≠builtinsNs/\h.get? bm=some o/\o.cls=.type "module" /\ o.dict=some builtinsNs/\o.data=.plain
structure OnlyL(H:Hp)(Ts:List (Addr×Str)):Prop where
 tab:∀t∈Ts,H t.1=some (.lam t.2)
 oth:∀b,(∀t∈Ts,b≠t.1)->H b=none \/ ∃o xs,H b=some (.frz o (.lst xs))
theorem kW{Ts:List (Addr×Str)}{b:Addr}{q:Str}(h:Ts.lookup b=some q):(b,q)∈Ts:=by
 induction Ts with
 |nil=>cases h
 |cons t r ih=>
  obtain⟨x,y⟩:=t
  rw[lookup_cons] at h
  split at h
  ·rename_i e
   cases h
   rw[eq_of_beq e]
   exact .head _
  ·exact .tail _ (ih h)
theorem pE{Ts:List (Addr×Str)}{b:Addr}(h:∀t∈Ts,b≠t.1):Ts.lookup b=none:=by
 cases e:Ts.lookup b with
 |none=>rfl
 |some q=>exact absurd rfl (h _ (kW e))
theorem DQ{P:Program}{w:World}{K:Frag}{mg mb:Str->Option Value}{k:Nat}{fa a:Addr}{Ts:List (Addr×Str)}{fd:FuncData}{x:Str}{sp:Sp}{s₁:Shared}{vs:List Value}{ns:List Int}
  (KX:K.In s₁.heap) (hns:s₁.heap.Ns mainGlobals mg) (hb:s₁.heap.Ns builtinsNs mb) (hbb:∀x:Str,x ≠ "__name__" -> mb x=bootBuiltins x) (hlim:s₁.heap.NoLimit) (hg:s₁.gens = #[])
  (ha:s₁.heap.get? a=some { cls:=.type "list",data:=.seq vs.toArray }) (hi:IntsAre vs ns) (hl:ns.length<=sizeLine) (hr:Room k callerA)
  (hL:∀t∈Ts,Ts.lookup t.1=some t.2) (hP:∀t∈Ts,s₁.heap.get? t.1=some (tabObj #[])) (hC:∀t∈Ts,∃c,CodeHd s₁.heap c t.1) (hK:∀t∈Ts,K.lookup t.1=none) (hbm:BM mg s₁.heap)
  (F:∀base:Heap,K.In base->base.Ns mainGlobals mg->BM mg base->FnOk P w K mg base u3 k fa fd [x] sp) (hbind:∀(s:Shared) (u:Value),BindsTo s fd ⟨[u],[]⟩ [(x,u)])
  (hsp:∀H:Hp,OnlyL H Ts->eJ K H a (ns.map V.int)->sp [.ref a] H (fun v H'=>v=.bl true /\ ∀t∈Ts,H' t.1=some (.lam t.2)) E0):
  codeAny (model P w) callerA (.call (.ref fa) ⟨[.ref a],[]⟩) (fun r s'=>r=.ok (.ret (.bool true))/\OldK s₁.heap s'.heap/\s'.os=s₁.os/\AllBare s'.gens) s₁:=by
 have rv:=u7 hi
 have lenV:=hi.length
 have aP:∀t∈Ts,a≠t.1:=fun t m z=>by rw[z,hP t m] at ha;cases ha
 have core:∀H:Hp,OnlyL H Ts->eJ K H a (ns.map V.int)->nD P w H s₁.heap->(∀b,H b≠none->b=a \/ ∃t∈Ts,b=t.1)->(H a≠none->K.lookup a=none) ->
   codeAny (model P w) callerA (.call (.ref fa) ⟨[.ref a],[]⟩) (fun r s'=>r=.ok (.ret (.bool true))/\OldK s₁.heap s'.heap/\s'.os=s₁.os/\AllBare s'.gens) s₁:=by
  intro H hO hS hok hA hKa
  have out:∀{b:Addr} {o:Obj},s₁.heap.get? b=some o->(o.cls=.type "list" -> (∃n,o.data=.seq vs.toArray n)->False)->(∀ps,o=tabObj ps->False)->H b=none:=fun {b o} e h1 h2=>by
   cases z:H b with
   |none=>rfl
   |some u=>
    rcases hA b (by rw[z];simp) with y | ⟨t,m,y⟩
    ·rw[y,ha] at e
     cases e
     exact(h1 rfl ⟨_,rfl⟩).elim
    ·rw[y,hP t m] at e
     cases e
     exact(h2 _ rfl).elim
  have nsK:∀{b:Addr} {m:Str->Option Value},s₁.heap.Ns b m->(wC s₁.heap H).Ns b m:=fun {b m} ⟨o,es,ep,e,d,r⟩=>⟨o,es,ep,sN e (out e (fun _ zq6=>by obtain⟨n,z⟩:=zq6;(rw[d] at z;cases z)) fun ps z=>by rw[z] at d;cases d),d,r⟩
  have hKb:K.In (wC s₁.heap H):=fun b o e=>sN (KX b o e) (by
   cases z:H b with
   |none=>rfl
   |some u=>
    rcases hA b (by rw[z];simp) with y | ⟨t,m,y⟩
    ·subst y
     rw[hKa (by rw[z];simp)] at e
     cases e
    ·rw[y,hK t m] at e
     cases e)
  have hM:Mod K mg (wC s₁.heap H):=⟨hKb,nsK hns,⟨mb,nsK hb,hbb⟩,let ⟨mc,h1,h2⟩:=hlim;⟨mc,nsK h1,h2⟩⟩
  have hBM:BM mg (wC s₁.heap H):=by
   obtain⟨bm,o,b1,b2,b3,b4,b5,b6⟩:=hbm
   exact⟨bm,o,b1,b2,sN b3 (out b3 (fun z=>by rw[b4] at z;exact absurd (Value.type.inj z) ∅) fun ps z=>by rw[z] at b4;cases b4),b4,b5,b6⟩
  have e0:Env0 P w K mg (wC s₁.heap H) callerA [] s₁ H:=⟨rfl,hM,fun b o e=>HS e,Nat.le_of_eq (DY _ _),trivial,fun b hb=>absurd (show b∈([]:List Addr) from hb) (by simp),hok,.of_eq hg⟩
  refine codeAny_mono ((F _ hKb (nsK hns) hBM).run callerA [] s₁ H ⟨[.ref a],[]⟩ [.ref a] [.ref a] _ _ hr e0 (hbind s₁ (.ref a)) (.cons rfl .nil) (hsp H hO hS)) fun r s' h=>?_
  cases r with
  |error e=>exact(show False from h).elim
  |ok fl=>
   cases fl with
   |next=>exact False.elim h
   |brk=>exact False.elim h
   |cont=>exact False.elim h
   |ret u=>
    obtain⟨v,H',os,bare,un,hok',r',ev,hP'⟩:=h
    subst ev
    obtain rfl:u=Value.bool true:=r'
    have keep:∀b o,(∀t∈Ts,b≠t.1)->s₁.heap.get? b=some o->s'.heap.get? b=some o:=fun b o hb e=>by
     rcases hO.oth b hb with z | ⟨ob,xs,z⟩
     ·exact un.keep b o e z (by intro y;exact absurd (show b∈([]:List Addr) from y) (by simp)) (by simp)
     ·have z2:=un.frzs b ob _ z
      obtain⟨e1,_⟩:=hok b _ z
      obtain⟨e2,_⟩:=hok' b _ z2
      rw[e] at e1;cases e1
      exact e2
    have two:∀b,(∃t∈Ts,b=t.1) \/ ∀t∈Ts,b≠t.1:=fun b=>by
     by_cases h:∃t∈Ts,b=t.1
     ·exact .inl h
     ·exact .inr fun t m z=>h ⟨t,m,z⟩
    refine⟨rfl,⟨fun b o e=>?_,fun b o e=>?_⟩,os,bare⟩
    ·rcases two b with⟨t,m,rfl⟩ | hb
     ·obtain⟨ps,eP,_⟩:=hok' t.1 _ (hP' t m)
      rw[hP t m] at e
      cases e
      obtain⟨c,hc⟩:=hC t m
      exact .inr (.inl ⟨(hc.tab (hP t m)).isCodeTable,rfl,#[],ps,rfl,by rw[Array.empty_append];exact eP⟩)
     ·exact .inl (keep b o hb e)
    ·rcases two b with⟨t,m,rfl⟩ | hb
     ·obtain⟨ps,eP,_⟩:=hok' t.1 _ (hP' t m)
      exact⟨_,eP⟩
     ·exact⟨o,keep b o hb e⟩
 have lamOk:∀(H:Hp) (t:Addr×Str),t∈Ts->cI P w H s₁.heap t.1 (.lam t.2):=fun H t m=>⟨#[],hP t m,trivial,fun p=>.inl rfl⟩
 have aL:Ts.lookup a=none:=pE aP
 cases hk:K.lookup a with
 |some o=>
  have e:=KX a o hk
  rw[ha] at e
  cases e
  refine core (fun b=>(Ts.lookup b).map HO.lam) ⟨fun t m=>by rw[hL t m];rfl,fun b hb=>.inl (by rw[pE hb];rfl)⟩ (.inr ⟨_,vs.toArray,_,hk,rfl,rfl,rfl,by rw[size_toArray,lenV];exact hl,by simpa using rv⟩) (fun b u z=>?_) (fun b z=>?_) fun z=>absurd (by rw[aL];rfl) z
  ·have z':(Ts.lookup b).map HO.lam=some u:=z
   cases eb:Ts.lookup b with
   |none=>rw[eb] at z';cases z'
   |some q=>
    rw[eb] at z'
    cases z'
    exact lamOk _ (b,q) (kW eb)
  ·cases eb:Ts.lookup b with
   |none=>exact absurd (show (Ts.lookup b).map HO.lam=none by rw[eb];rfl) z
   |some q=>exact .inr ⟨(b,q),kW eb,rfl⟩
 |none=>
  have sub:∀b q,Ts.lookup b=some q->b≠a:=fun b q h z=>by rw[z,aL] at h;cases h
  have at_:(fun b=>if b=a then some (.frz { cls:=.type "list",data:=.seq vs.toArray } (.lst (ns.map V.int))) else (Ts.lookup b).map HO.lam:Hp) a=some (.frz { cls:=.type "list",data:=.seq vs.toArray } (.lst (ns.map V.int))):=if_pos rfl
  refine core (fun b=>if b=a then some (.frz { cls:=.type "list",data:=.seq vs.toArray } (.lst (ns.map V.int))) else (Ts.lookup b).map HO.lam) ⟨fun t m=>(if_neg (Ne.symm (aP t m))).trans (by rw[hL t m];rfl),fun b hb=>?_⟩ (.inl (.inr ⟨_,at_⟩)) (fun b u z=>?_) (fun b z=>?_) fun _=>hk
  ·by_cases h:b=a
   ·exact .inr ⟨_,_,if_pos h⟩
   ·exact .inl ((if_neg h).trans (by rw[pE hb];rfl))
  ·by_cases h:b=a
   ·have z':=(if_pos h).symm.trans z
    cases z'
    subst h
    exact⟨ha,by rw[length_map];exact hl,vs,_,rv,ha⟩
   ·have z':=(if_neg h).symm.trans z
    cases eb:Ts.lookup b with
    |none=>rw[eb] at z';cases z'
    |some q=>
     rw[eb] at z'
     cases z'
     exact lamOk _ (b,q) (kW eb)
  ·by_cases h:b=a
   ·exact .inl h
   ·cases eb:Ts.lookup b with
    |none=>exact absurd ((if_neg h).trans (by rw[eb];rfl)) z
    |some q=>exact .inr ⟨(b,q),kW eb,rfl⟩
theorem Dp{l:OpenLaw}{n k:Nat}{qp:Program}{loose:List Str}{XP:(Str->Option Value)->Heap->Prop}{YP:World->Heap->Prop}{d:DefRec}{K:Params->Frag}{sp:World->Sp}{x:Str}{Ts:List (Addr×Str)}
  (hn:l.most=some n) (hn2:n<=sizeLine) (hdf:d.params.defaults=[]) (hr:Room k callerA)
  (hL:∀t∈Ts,Ts.lookup t.1=some t.2) (hY:∀(w:World) (h:Heap),YP w h->(K w.params).In h /\ ∀t∈Ts,h.get? t.1=some (tabObj #[])) (hcd:∀(w:World) (h:Heap),(K w.params).In h -> ∀t∈Ts,∃c,CodeHd h c t.1) (hK:∀w:World,∀t∈Ts,(K w.params).lookup t.1=none)
  (F:∀(w:World) (mg:Str->Option Value) (fa:Addr) (h:Heap),(K w.params).In h->h.Ns mainGlobals mg->mg d.name=some (.ref fa) ->
   ∃fd:FuncData,(∀(s:Shared) (u:Value),BindsTo s fd ⟨[u],[]⟩ [(x,u)]) /\ ∀base:Heap,(K w.params).In base->base.Ns mainGlobals mg->BM mg base->FnOk l.prog w (K w.params) mg base u3 k fa fd [x] (sp w))
  (hsp:∀(w:World) (H:Hp) (a:Addr) (ns:List Int),ns.length<=n->OnlyL H Ts->eJ (K w.params) H a (ns.map V.int)->sp w [.ref a] H (fun v H'=>v=.bl true /\ ∀t∈Ts,H' t.1=some (.lam t.2)) E0):
  WalkO qp loose XP YP l.row.toRowW d [] (fun f vs=>PySem.call f vs):=by
 refine Att.A3 hn hdf fun w s₀ s₁ mg mb fa o pm cd doc a vs ns G Y ho hd hcd' hmg hobj hints hlen hg=>?_
 obtain⟨KX,hP⟩:=hY w _ Y
 obtain⟨fd,hb,hF⟩:=F w mg fa _ KX G.T.g hmg
 exact DQ KX G.T.g G.T.b G.T.builtins G.T.nolimit hg hobj hints (le_trans hlen hn2) hr hL hP (hcd w _ KX) (hK w) G.T.bmain hF hb fun H hO hS=>hsp w H a ns hlen hO hS
end L2
namespace L2
open PySem PySem.Spec PySem.W PyProof.Rows Tim
section
variable {X:Cx} {pj:List (Addr×Obj)} {σ:St} {H H0:Hp} {s:Shared} {A:Around} {l kS f:Addr} {vs:List Value} {e1 m:Nat} {g:Nat->List Int} {E:Value->Shared->Prop} {P:PySem.Fin->Shared->Prop}
theorem Az{ts:List Addr}{its:List Value}{n:Nat}(I:Inv X pj σ H s)(S0:aK H0 H)(hk0:H0 kS=none)(lk:l≠kS)(hl:H l=some (hV l e1))(hk:H kS=some (.lst (ts.map V.ref)))(h64:vs.length<64)
  (hts:ts.length=vs.length) (at_:∀(j:Nat) (t:Addr),ts[j]?=some t->H t=some (.tup ((g j).map V.int))) (gl:∀j,j<vs.length->(g j).length=m+1) (gn:∀i j,i<vs.length->j<vs.length->i≠j->g i≠g j)
  (e:s.heap.get? kS=some { cls:=.type "list",data:=.seq its.toArray n }) (rv:bF (ts.map V.ref) its)
  (k:∀(p:Array Nat) (H2:Hp) (s2:Shared),Pm vs.length p->Up (fun i j=>dD (g i) (g j)) p vs.length->aK H0 H2->H2 l=some (hV l e1)->Inv X pj σ H2 s2->P (.done (.ret .none)) { s2 with heap:=s2.heap.update l (Obj.mapSeq fun _=>(picked vs p).toArray) }):
  wpAny (model X.prog X.w) A (ksk_end l false vs.toArray e1 (.ref kS) its.toArray) P E s:=by
 have ev:its=ts.map Value.ref:=by
  clear hk hts at_ e
  induction ts generalizing its with
  |nil=>cases rv;rfl
  |cons t r ih=>
   cases rv with
   |cons a b=>rw[map_cons,<- ih b];cases a;rfl
 subst ev
 have hlen:(ts.map Value.ref).length=vs.length:=by rw[length_map];exact hts
 have tup:∀(j:Nat) (t:Addr),ts[j]?=some t -> ∃(o:Obj) (a:List Value) (n:Nat),s.heap.get? t=some o/\o.cls=.type "tuple" /\ o.data=.seq a.toArray n/\IntsAre a (g j):=fun j t ht=>by
  obtain⟨_,its,r,o,g',cl,n,d⟩:=(show cI X.prog X.w H s.heap t (.tup _) from I.hok t _ (at_ j t ht))
  exact⟨o,its,n,g',cl,d,k3 r⟩
 unfold ksk_end
 dsimp only
 simp only[Bool.false_eq_true,if_false]
 by_cases two:vs.toArray.size<2
 ·rw[if_pos two,if_pos two]
  refine wpAny_bind (wpAny_pure ?_)
  rw[StateT.run_pure]
  refine wpAny_bind (wpAny_pure ?_)
  dsimp only
  have few:vs.length<2:=by simpa using two
  refine jZ (p:=List.toArray (List.range vs.length)) I S0 hk0 lk hl hk h64 (Array.Perm.refl _) ?_ rfl fun H2 s2=>k _ H2 s2 (Array.Perm.refl _) fun u v h1 h2=>by ac_rfl
  rw[p7]
  apply toList_inj.mp
  show (((ts.map Value.ref).toArray.zip vs.toArray).map fun x=>x.2).toList=_
  simp
  apply ext_getElem?
  intro i
  by_cases hi:i<vs.length
  ·simp[hi,hts]
  ·simp[hi,hts]
 ·have big:2<=vs.length:=by simpa using two
  rw[if_neg two,if_neg two]
  have go:∀(r:List Addr) (d:Nat),(∀i,r[i]?=ts[d+i]?)->d+r.length=vs.length -> ∃fs:List Value,KatTups s.heap (r.map Value.ref) fs/\fs.length=r.length /\ ∀v∈fs,∃x y,v=Value.int x y:=by
   intro r
   induction r with
   |nil=>intro d _ _;exact⟨[],.nil,rfl,fun v hv=>by cases hv⟩
   |cons t r ih=>
    intro d hm hd
    rw[length_cons] at hd
    obtain⟨fs,kt,e,al⟩:=ih (d+1) (fun i=>by have:=hm (i+1);rw[List.getElem?_cons_succ] at this;rw[this];congr 1;ac_rfl) ⋯
    obtain⟨o,a,n,ho,hc,hd',ia⟩:=tup d t (by have:=hm 0;rw[List.getElem?_cons_zero,Nat.add_zero] at this;exact this.symm)
    obtain⟨x,rest,ex⟩:∃x rest,g d=x::rest:=by
     have:=gl d ⋯
     cases e':g d with
     |nil=>rw[e'] at this;cases this
     |cons x rest=>exact⟨x,rest,rfl⟩
    rw[ex] at ia
    cases ia with
    |cons _ y ia'=>
     refine⟨Value.int x y::fs,KatTups.cons ho hc hd' (by simp) kt,by simp[e],fun v hv=>?_⟩
     rcases mem_cons.mp hv with rfl | hv
     ·exact⟨x,y,rfl⟩
     ·exact al v hv
  obtain⟨fs,kt,ef,al⟩:=go ts 0 (fun i=>by rw[zero_add]) ⋯
  refine wpAny_bind (wpAny_mono (kat_kind (E:=fun _ _=>False) (Q:=fun x s'=>x=tuples' true/\s'=s) (T:=.type "int") kt ⋯ (fun v hv=>?_) ∅ ⟨rfl,rfl⟩) (fun x s' e=>?_) fun _ _ z=>z.elim)
  ·obtain⟨x,y,rfl⟩:=al v hv
   exact Looks.of_pure rfl
  obtain⟨rfl,rfl⟩:=e
  have tree:(kas_sort vs.length).kasWp (kas_ask X.prog X.w A (tuples' true) (ts.map Value.ref)) (fun p s''=>(Pm vs.length p/\Up (fun i j=>dD (g i) (g j)) p vs.length)/\s''=s') s':=
   xG (lt:=fun i j=>dD (g i) (g j)) (N:=vs.length) (fun i j C hi hj hn q=>by
    have ti:ts[i]?=some (ts[i]'⋯):=List.getElem?_eq_getElem _
    have tj:ts[j]?=some (ts[j]'⋯):=List.getElem?_eq_getElem _
    obtain⟨o,a,n,ho,hc,hd',ia⟩:=tup _ _ ti
    obtain⟨o2,a2,n2,ho2,hc2,hd2,ia2⟩:=tup _ _ tj
    show wpAny (model X.prog X.w) A (keyLt' (tuples' true) ((ts.map Value.ref).getD i Value.none) ((ts.map Value.ref).getD j Value.none)) C _ s'
    rw[getD_eq_getElem?_getD,getD_eq_getElem?_getD,List.getElem?_map,List.getElem?_map,ti,tj]
    refine kat_lt ho hd' ho2 hd2 ?_
    have:=sG (prog:=X.prog) (w:=X.w) (A:=A) (s:=s') (C:=C) (fin:=decide (a.toArray.size<a2.toArray.size)) (g i) (g j) a a2 [] [] 0 ia ia2 (by rw[gl i hi,gl j hj]) (gn i j hi hj hn) q
    simpa using this) _ (rK (uJ g) ⋯ fun p a b=>⟨⟨a,b⟩,rfl⟩)
  refine wpAny_bind (wpAny_mono (kat_run (E:=E) (ks:=ts.map Value.ref) (Q:=fun st' s''=>∃p,(Pm vs.length p/\Up (fun i j=>dD (g i) (g j)) p vs.length)/\arrOf st'=p.map (kas_item ((ts.map Value.ref).toArray.zip vs.toArray))/\failedOf st'=none/\s''=s')
   hlen big h64 (fun p st' s' _ a b q=>⟨p,q.1,a,b,q.2⟩) tree) (fun r s' q=>?_) fun _ _ z=>z)
  obtain⟨⟨⟩,st'⟩:=r
  obtain⟨p,⟨pm,up⟩,e1',e2',rfl⟩:=q
  dsimp only at e1' e2' ⊢
  exact jZ I S0 hk0 lk hl hk h64 pm (kat_snds hlen e1') e2' fun H2 s2=>k p H2 s2 pm up
theorem zF(I:Inv X pj σ H s)(S0:aK H0 H)(hk0:H0 kS=none)(lk:l≠kS)(hl:H l=some (hV l e1))(hk:H kS=some (.lst []))(h64:vs.length<64)(gl:∀j,j<vs.length->(g j).length=m+1)(gn:∀i j,i<vs.length->j<vs.length->i≠j->g i≠g j)
  (turn:∀(i:Nat) (v:Value) (H2:Hp) (s2:Shared),vs[i]?=some v->aK H0 H2->Inv X pj σ H2 s2->wpAny (model X.prog X.w) A (call (.ref f) [v]) (fun u s3=>∃H3 t,u=.ref t/\H3 t=some (.tup ((g i).map V.int))/\aK H2 H3/\Inv X pj σ H3 s3) (fun _ _=>False) s2)
  (k:∀(p:Array Nat) (H2:Hp) (s2:Shared),Pm vs.length p->Up (fun i j=>dD (g i) (g j)) p vs.length->aK H0 H2->H2 l=some (hV l e1)->Inv X pj σ H2 s2->P (.done (.ret .none)) { s2 with heap:=s2.heap.update l (Obj.mapSeq fun _=>(picked vs p).toArray) }):
  wpAny (model X.prog X.w) A (ksk_rest l (.ref f) false vs.toArray e1 (.ref kS)) P E s:=by
 unfold ksk_rest
 refine wpAny_bind (wpAny_rule ?_)
 first
  |rw[List.forIn_toArray]
  | (rw[<- forIn_toList];simp only[List.toList_toArray])
  |rw[<- forIn_toList]
 refine wpAny_bind (ksk_fold (fun i s'=>∃H2 ts,aK H0 H2/\H2 l=some (hV l e1)/\H2 kS=some (.lst (ts.map V.ref))/\ts.length=i/\(∀(j:Nat) (t:Addr),ts[j]?=some t->H2 t=some (.tup ((g j).map V.int)))/\Inv X pj σ H2 s') vs 0 s ⟨H,[],S0,hl,by simpa using hk,rfl,fun j t h=>by simp at h,I⟩ ?step ?done)
 case step=>
  rintro j x s' hx ⟨H2,ts,S2,hl2,hk2,tl,at2,I2⟩
  simp only[zero_add] at tl ⊢
  have hj:j<vs.length:=(List.getElem?_eq_some_iff.mp hx).1
  refine wpAny_bind (wpAny_attempt (wpAny_mono (turn j x H2 s' hx S2 I2) (fun u s'' he=>?_) fun _ _ hF=>hF.elim))
  obtain⟨H3,t',rfl,ht',S3,I3⟩:=he
  dsimp only
  obtain⟨z,its,n,rv,ll,e⟩:=I3.lstM (S3 _ _ hk2)
  have li:its.length=j:=by rw[<- ll];simp[tl]
  have nk:∀b o,H3 b=some o->(∀xs,o ≠ .lst xs)->b≠kS:=fun b o e n z=>by
   rw[z,S3 _ _ hk2] at e
   cases e
   exact n _ rfl
  refine wpAny_bind (listUpdate_at e rfl ?_ (by rw[size_toArray,<- ll];exact z) (by rw[Array.size_push,size_toArray,li,sizeLine_eq];ac_rfl))
  refine wpAny_pure ⟨rfl,upd H3 kS (.lst (ts.map V.ref++[V.ref t'])),ts++[t'],fun b o e=>by rw[aO (aM e hk0)];exact S3 _ _ (S2 _ _ e),by rw[aO lk];exact S3 _ _ hl2,by rw[aY,map_append];rfl,by simp[tl],
   fun i t hi=>?_,I3.lset (its':=its++[.ref t']) (t':=s''.toks) (S3 _ _ hk2) e (by simp) (rv.append (.cons (show cJ (V.ref t') (Value.ref t') from rfl) .nil)) (by rw[length_append,length_map,tl,sizeLine_eq];simp;ac_rfl)⟩
  rw[List.getElem?_append] at hi
  split at hi
  ·have:=S3 _ _ (at2 i t hi)
   rw[aO (nk _ _ this fun xs z=>by cases z)]
   exact this
  ·rename_i hge
   have hi0:i-ts.length=0:=by
    cases q:i-ts.length with
    |zero=>rfl
    |succ q'=>rw[q] at hi;simp at hi
   rw[hi0] at hi
   have et:t'=t:=by simpa using hi
   have ei:i=j:=⋯
   subst et ei
   rw[aO (nk _ _ ht' fun xs z=>by cases z)]
   exact ht'
 case done=>
  rintro s' ⟨H2,ts,S2,hl2,hk2,tl,at2,I2⟩
  rw[zero_add] at tl
  obtain⟨z,its,n,rv,ll,e⟩:=I2.lstM hk2
  exact wpAny_bind (listItems_at e rfl (Az I2 S2 hk0 lk hl2 hk2 h64 tl at2 gl gn e rv k))
end
section
variable {X:Cx} {pj:List (Addr×Obj)} {σ:St} {H:Hp} {s:Shared} {A:Around} {r f:Addr} {n m:Nat} {g:Nat->List Int} {E:Value->Shared->Prop} {t u v:Tok}
theorem tV{Q:Value->Shared->Prop}(I:Inv X pj σ H s)(hh:A.handled=none)(e:IsRange s.heap r 0 n 1 t u v)(hn:n<64)(gl:∀j,j<n->(g j).length=m+1)(gn:∀i j,i<n->j<n->i≠j->g i≠g j)
  (turn:∀(i:Nat) (t':Tok) (H2:Hp) (s2:Shared),i<n->aK H H2->Inv X pj σ H2 s2->wpAny (model X.prog X.w) A.in1.in1 (call (.ref f) [.int i t']) (fun u s3=>∃H3 t,u=.ref t/\H3 t=some (.tup ((g i).map V.int))/\aK H2 H3/\Inv X pj σ H3 s3) (fun _ _=>False) s2)
  (k:∀(p:Array Nat) (l:Addr) (H':Hp) (s':Shared),Pm n p->Up (fun i j=>dD (g i) (g j)) p n->aK H H'->H l=none->H' l=some (.lst (p.toList.map fun i:Nat=>V.int (i:Int)))->Inv X pj σ H' s'->Q (.ref l) s'):
  wpAny (model X.prog X.w) A (call (.builtin "sorted") [.ref r] [(Str.ofString "key",.ref f)]) Q E s:=by
 refine call_function_entry_kw kind_sorted plain_sorted entry_sorted (ksk_s1 _ _) ?_
 unfold Builtin.«sorted»
 refine wpAny_bind (m:=checkCount "sorted" 1 1 _) (wpAny_pure ?_)
 have hs:Builtin.Range.small 0 (n:Int) 1=true:=small_one ⋯ ⋯ ⋯ ⋯
 have hz:Builtin.Range.rangeSize 0 (n:Int) 1=n:=by rw[rangeSize_one];split<;>ac_rfl
 refine wpAny_bind (qC (show A.in1.handled=none from hh) e hs hz ⋯ fun h1 tk acc hk hi=>?_)
 have la:acc.toList.length=n:=by simpa using hi.1
 have line:acc.toList.length<=sizeLine:=by rw[la,sizeLine_eq];ac_rfl
 refine wpAny_bind (wpAny_newList ?_ line)
 have mine:(h1.push (seqObj "list" acc.toList.toArray 0)).get? h1.objs.size=some (seqObj "list" acc.toList.toArray 0):=Heap.get?_push_size _ rfl
 refine wpAny_bind (wpAny_holding (wpAny_call_entry_kw slot_list_sort ⟨_,mine,rfl⟩ entry_list_sort ?_ (ksk_l1 _ _)))
 show wpAny (model X.prog X.w) A.in1.in1 (Builtin.«list.sort» ⟨[.ref h1.objs.size],[(Str.ofString "key",.ref f)]⟩) _ _ _
 rw[ksk_t1]
 unfold ksk_tree
 refine wpAny_bind (listItems_at mine rfl (wpAny_bind (listUpdate_at mine rfl ?_ (by simpa using line) (zero_le _))))
 obtain⟨e1,g3⟩:∃e1,((h1.push (seqObj "list" acc.toList.toArray 0)).update h1.objs.size (Obj.mapSeq fun _=>(#[]:Array Value))).get? h1.objs.size=some (seqObj "list" #[] e1):=⟨_,get?_update_seq mine fun _=>#[]⟩
 refine wpAny_bind (seqEpoch_at g3 rfl (wpAny_bind (wpAny_newTuple (wpAny_bind (wpAny_newList (wpAny_holding ?_) (zero_le _))) (by simpa using line))))
 have Ia:Inv X pj σ H { s with heap:=h1,toks:=tk }:=I.kept (t':=tk) hk
 have hl:H h1.objs.size=none:=Ia.hok.fresh (le_refl _)
 have Ib:=Ia.laid (t':=tk) (a:=h1.objs.size) (o:=hV h1.objs.size e1) (h':=(h1.push (seqObj "list" acc.toList.toArray 0)).update h1.objs.size (Obj.mapSeq fun _=>(#[]:Array Value)))
  (fun b o e=>(Heap.get?_update_ne _ _ _ _ (ne_of_lt (Heap.lt_size e))).trans (Heap.get?_push_of_some _ e)) (le_refl _) ⟨g3,⟨_,g3⟩,fun a b z w=>w _ z⟩
 have Ic:=Ib.kept (t':=tk) (h':=((h1.push (seqObj "list" acc.toList.toArray 0)).update h1.objs.size (Obj.mapSeq fun _=>(#[]:Array Value))).push (seqObj "tuple" acc.toList.toArray 0)) fun b o e=>Heap.get?_push_of_some _ e
 have Id:=Ic.lnew (its:=[]) (t':=tk) .nil (zero_le _)
 have lk:h1.objs.size≠(((h1.push (seqObj "list" acc.toList.toArray 0)).update h1.objs.size (Obj.mapSeq fun _=>(#[]:Array Value))).push (seqObj "tuple" acc.toList.toArray 0)).objs.size:=by
  rw[size_push',Heap.size_update,size_push']
  ac_rfl
 have hk0:=Ic.fresh
 rw[aO (Ne.symm lk)] at hk0
 have S0:aK H (upd (upd H h1.objs.size (hV h1.objs.size e1)) (((h1.push (seqObj "list" acc.toList.toArray 0)).update h1.objs.size (Obj.mapSeq fun _=>(#[]:Array Value))).push (seqObj "tuple" acc.toList.toArray 0)).objs.size (.lst [])):=fun b o e=>by
  rw[aO (aM e hk0),aO (aM e hl)]
  exact e
 refine zF (vs:=acc.toList) (g:=g) (H0:=H) (m:=m) Id S0 hk0 lk (by rw[aO lk,aY]) aY (by rw[la];exact hn) (by rw[la];exact gl) (by rw[la];exact gn) (fun i v H2 s2 hv S2 I2=>?_) fun p H2 s2 pm up S2 hl2 I2=>?_
 ·obtain⟨hi',t',rfl⟩:=qO hi hv
  exact turn i t' H2 s2 hi' S2 I2
 ·rw[la] at pm up
  have el:=(I2.hok _ _ hl2).1
  have ev:picked acc.toList p=p.toList.map fun i=>acc.toList.getD i Value.none:=rfl
  have rv:bF (p.toList.map fun i:Nat=>V.int (i:Int)) (picked acc.toList p):=by
   have all:∀i∈p.toList,i<n:=fun i hi=>mem_range.mp (pm.list.mem_iff.mp hi)
   unfold picked
   generalize p.toList=ps at all
   induction ps with
   |nil=>exact .nil
   |cons a r ih=>
    refine .cons ?_ (ih fun i hi=>all i (mem_cons_of_mem _ hi))
    have ha:=all a (mem_cons_self ..)
    have ga:acc.toList[a]?=some (acc.toList[a]'(by rw[la];exact ha)):=List.getElem?_eq_getElem _
    obtain⟨_,t',et⟩:=qO hi ga
    refine⟨t',?_⟩
    show acc.toList.getD a Value.none=_
    rw[getD_eq_getElem?_getD,ga,et]
    rfl
  have len2:(p.toList.map fun i:Nat=>V.int (i:Int)).length=n:=by rw[length_map];simpa using pm.size
  obtain⟨e2,g5⟩:∃e2,(s2.heap.update h1.objs.size (Obj.mapSeq fun _=>(picked acc.toList p).toArray)).get? h1.objs.size=some (seqObj "list" (picked acc.toList p).toArray e2):=⟨_,get?_update_seq el fun _=>(picked acc.toList p).toArray⟩
  have I3:=I2.write (x:=h1.objs.size) (e:=h1.objs.size) (o:=.lst (p.toList.map fun i:Nat=>V.int (i:Int))) (t':=s2.toks) (h':=s2.heap.update h1.objs.size (Obj.mapSeq fun _=>(picked acc.toList p).toArray)) (by rw[hl2];exact trivial) (.inl rfl) (fun b o hb e=>(Heap.get?_update_ne _ _ _ _ hb).trans e) ⟨_,g5⟩
   ⟨by rw[len2,sizeLine_eq];ac_rfl,_,_,rv,g5⟩
  refine⟨_,rfl,wpAny_pure ⟨_,rfl,k p h1.objs.size _ _ pm up (fun b o e=>?_) hl aY I3⟩⟩
  rw[aO (aM e hl)]
  exact S2 _ _ e
end
end L2
namespace Z
open L2 PySem.W
noncomputable def B8(i:Nat)(ts:lI)(tb:d3):d3:=fun ρ Q=>ts ρ fun rs=>match rs.map R.d with
 | [.int j]=>∃(g:Nat->Int) (d:Dv),(0<=j/\j<64)/\ρ[i]?=some (.v d)/\(∀b:Nat,b<j.toNat->tb [.v (.int b),.v d] fun x=>x.d=.int (g b)) /\
   ∀ms:List Nat,ms.Perm (List.range j.toNat)->ms.Pairwise (fun a b=>g a<g b \/ (g a=g b/\a<b))->Q (.nw (.lst (ms.map fun m:Nat=>Dv.int (m:Int))))
 |_=>False
section
variable {X:Cx} {a:Expr} {ts:lI} {tb:d3} {p p2 pos pos2 lpos kpos:Pos} {k i:Nat} {x y q:Str} {c P cy:Addr} {params:Arguments} {body:Expr} {scope:Scope}
theorem IK{g:Nat->Int}{n:Nat}{p:Array Nat}(P:Tim.Pm n p)(U:Tim.Up (fun i j=>decide (g i<g j)) p n):p.toList.Pairwise fun a b=>g a<g b \/ (g a=g b/\a<b):=by
 have h:=kC P U (List.range n) 0 (fun a b=>g a<g b \/ (g a=g b/\a<b)) fun i j hi hj b=>by
  rw[getD_eq_getElem?_getD,getD_eq_getElem?_getD,List.getElem?_range hi,List.getElem?_range hj]
  show g i<g j \/ (g i=g j/\i<j)
  have b1:decide (g j<g i)=false:=b.1
  rw[decide_eq_false_iff_not] at b1
  rcases b.2 with z | z
  ·exact .inl (of_decide_eq_true z)
  ·by_cases e:g i<g j
   ·exact .inl e
   ·exact .inr ⟨⋯,z⟩
 have e:(p.toList.map fun i=>(List.range n).getD i 0)=p.toList:=by
  have:p.toList.map (fun i=>(List.range n).getD i 0)=p.toList.map id:=map_congr_left fun i hi=>by
   have hi':i<n:=mem_range.mp (P.list.mem_iff.mp hi)
   rw[getD_eq_getElem?_getD,List.getElem?_range hi']
   rfl
  rw[this,map_id]
 rwa[e] at h
theorem p0{K:W.Frag}{M:Addr->Prop}{H:Hp}:∀ms:List Nat,Reps K M H (ms.map fun m:Nat=>V.int (m:Int)) (ms.map fun m:Nat=>Dv.int (m:Int))
 | []=>.nil
 |m::r=>.cons (.int m) (p0 r)
theorem Gr(hc:X.calm=true)(hg:Gl X "sorted")(hm:X.mg "sorted" = none)(hg2:Gl X "range")(hm2:X.mg "range" = none)(ha:QA X [a] ts)(hr:Room (k+1) X.A)(L:LamCx X c P)(hT:kA X.K P q)(LO:LamOk X i x y params scope cy)
  (hcl:closureFor scope X.env=pure [(y,cy)]) (hdef:defaultsOf params X.env=([],[])) (hq:X.env.qual ++ "<lambda>" = q)
  (hb:∀(f c':Addr) (A:Around) (s:Shared) (H:Hp),Room k (A.deeper (envX q scope s.heap.objs.size f (.ref c') [(y,cy)]))->QE (zY X [x,y] q scope f c' [(y,cy)] A s H) body tb)
  (h1:autoParam (starEach [.Call (.Name "range" p2) [a] [] pos2] X.env=(false,eval (.Call (.Name "range" p2) [a] [] pos2) X.env)::starEach [] X.env) cB._auto_1)
  (h3:autoParam (starEach [a] X.env=(false,eval a X.env)::starEach [] X.env) cB._auto_1) (h4:autoParam ((backTo pos2 (starEach [] X.env)).any (·.1)=false) cB._auto_1):
  QE X (.Call (.Name "sorted" p) [.Call (.Name "range" p2) [a] [] pos2] [⟨some "key",.Lambda params body scope lpos,kpos⟩] pos) (B8 i ts tb):=by
 refine⟨fun ρ Q Q' w z=>ha.mono _ _ _ (fun r z=>?_) z,fun HZ F=>fun pj s σ H Q I ⟨ρ,fr,z⟩=>?_⟩
 ·split at z
  ·obtain⟨g,d,b1,b2,b3,z⟩:=z
   exact⟨g,d,b1,b2,b3,fun ms m1 m2=>w _ (z ms m1 m2)⟩
  ·exact z
 ·refine wpAny_Call_Name_kw (iJ I hg hm boot_sorted ?_ ∅ ∅)
  refine callWith_kw (thn ((iS (jD pR hg2 hm2 boot_range (ha.run HZ F) ∅ ∅ h3 h4) mL h1) pos pj s σ H (fun xs H2=>∃(r:Addr) (j:Int),xs=[.ref r]/\H2 r=some (.rng 0 j)/\aK H H2 /\
   ∃(g:Nat->Int) (d:Dv),(0<=j/\j<64)/\ρ[i]?=some (.v d)/\(∀b:Nat,b<j.toNat->tb [.v (.int b),.v d] fun x=>x.d=.int (g b)) /\
   ∀ms:List Nat,ms.Perm (List.range j.toNat)->ms.Pairwise (fun a b=>g a<g b \/ (g a=g b/\a<b)) -> ∀x H',aK H H'->d9 X.K (MM F ρ) (tZ ρ) H x (.nw (.lst (ms.map fun m:Nat=>Dv.int (m:Int)))) H'->Q x H') I ?_) fun us s1 ⟨vs,H1,I1,rv,r,j,ev,er,S1,g,d,⟨j0,j1⟩,hi,hbody,z⟩=>?_)
  ·refine ha.step fr z fun rs xs H1 z S1 r1=>?_
   split at z
   ·rename_i j e
    have cc:=r1.c
    rw[e] at cc
    obtain⟨x,rfl,cx⟩:=dL cc
    obtain rfl:=cx.int
    exact⟨j,rfl,fun r hr=>⟨r,j,rfl,aY,S1.trans (aK.new' hr),z⟩⟩
   ·exact z.elim
  ·subst ev
   obtain⟨u,rfl,ru⟩:=i8 rv
   cases ru
   have fr1:=fr.mono S1
   show wpAny _ _ (evalAll [(do let v <- eval (.Lambda params body scope lpos) X.env;standAt pos;pure v)]) _ _ s1
   refine wpAny_evalAll_cons (wpAny_bind (GC I1 L (fr1.tab P q hT) hcl hdef hq fun f c' ctv H2 s2 S2 hcod I2=>wpAny_bind (wpAny_standAt (wpAny_pure ?_))))
   refine wpAny_evalAll_nil ?_
   show wpAny _ _ (call (.builtin "sorted") [.ref r] [(Str.ofString "key",.ref f)]) _ _ s2
   have fr2:=fr1.mono S2
   obtain⟨t1,t2,t3,e⟩:=I2.hok r _ (S2 _ _ er)
   have ej:j=(j.toNat:Int):=⋯
   rw[ej] at e
   obtain⟨vy,hvy,rd⟩:=fr2.sl i _ hi
   refine xA (g:=g) I2 (I.ok.hd hc) e ⋯ (fun b t' H3 s3 hb' S3 I3=>?_) fun p' l H' s' pm up S' hl hl' I'=>?_
   ·have fr3:=fr2.mono S3
    obtain⟨vy,hvy,rd⟩:=fr3.sl i _ hi
    have hA:X.A.in1.in1.frames=some X.stack:=I.ok.frames
    have hR:Room k (X.A.in1.in1.deeper (envX q scope s3.heap.objs.size f (.ref c') [(y,cy)])):=⟨hr.hd,by have:=hr.dp;show X.A.depth+1+3*k+5<_;ac_rfl,by have:=hr.un;show X.A.units+1+1+3+16*k+200<_;ac_rfl⟩
    have HB:=hb f c' X.A.in1.in1 s3 H3 hR
    have pinF:=(I3.pin _ (mem_append_right _ (mem_cons_self ..))).1
    have frL:Fr X.K H3 (MM F ρ) (start [x,y] [V.int b,vy]) H3 (aJ [x,y] [.int b,d]):=rF ⟨fun a m=>fr3.dom m,fr3.tab⟩ (.cons (.int _) (.cons rd .nil))
    refine wpAny_call (codeAny_mono (CD (Q:=fun v H4=>v=.int (g b)/\aK H3 H4) I3 LO hA (I.ok.hd hc) (by have:=hr.dp;show X.A.depth<_;ac_rfl) pinF (S3 _ _ hcod) (HB.run H3 (MM F ρ)) (v:=.int b) ⟨t',rfl⟩ hvy ⟨_,frL,HB.mono _ _ _ (fun rr e x H4 S4 rx=>?_) (hbody b ⋯)⟩) fun res s4 zz=>?_)
    ·have cx:=rx.c
     rw[e] at cx
     exact⟨cx.int,S4⟩
    ·cases res with
     |error e=>exact(show False from zz).elim
     |ok fl=>
      cases fl with
      |ret u=>
       obtain⟨v',H4,I4,rv',ev',S4⟩:=I3.after zz
       subst ev'
       obtain⟨t4,rfl⟩:=rv'
       exact⟨H4,t4,rfl,S4,I4⟩
      |next=>exact False.elim zz
      |brk=>exact False.elim zz
      |cont=>exact False.elim zz
   ·have hl0:H l=none:=(S1.trans S2).free hl
    exact⟨.ref l,H',I'.pins_of fun p hp=>I'.pin p (mem_append_right _ (mem_cons_of_mem _ hp)),rfl,z p'.toList pm.list (IK pm up) _ H' ((S1.trans S2).trans S') ⟨l,rfl,hl0,_,hl',p0 _⟩⟩
noncomputable def oE(i:Nat)(ts:lI)(tb:d3):d3:=fun ρ Q=>ts ρ fun rs=>match rs.map R.d with
 | [.int j]=>∃(g:Nat->List Int) (d:Dv),(0<=j/\j<64)/\ρ[i]?=some (.v d)/\(∀b:Nat,b<j.toNat->tb [.v (.int b),.v d] fun x=>x.d=.tup ((g b).map Dv.int))/\((∀b,(g b).length=2) /\ ∀a b,a<j.toNat->b<j.toNat->a≠b->g a≠g b) /\
   ∀ms:List Nat,ms.Perm (List.range j.toNat)->ms.Pairwise (fun a b=>dD (g a) (g b)=true)->Q (.nw (.lst (ms.map fun m:Nat=>Dv.int (m:Int))))
 |_=>False
theorem IL{g:Nat->List Int}{n:Nat}{p:Array Nat}(ne:∀a b,a<n->b<n->a≠b->g a≠g b)(P:Tim.Pm n p)(U:Tim.Up (fun i j=>dD (g i) (g j)) p n):p.toList.Pairwise fun a b=>dD (g a) (g b)=true:=by
 have h:=kC P U (List.range n) 0 (fun a b=>dD (g a) (g b)=true) fun i j hi hj b=>by
  rw[getD_eq_getElem?_getD,getD_eq_getElem?_getD,List.getElem?_range hi,List.getElem?_range hj]
  show dD (g i) (g j)=true
  rcases b.2 with z | z
  ·exact z
  ·rcases oA _ _ (ne i j hi hj (ne_of_lt z)) with y | y
   ·exact y
   ·have b1:dD (g j) (g i)=false:=b.1
    rw[b1] at y;cases y
 have e:(p.toList.map fun i=>(List.range n).getD i 0)=p.toList:=by
  have:p.toList.map (fun i=>(List.range n).getD i 0)=p.toList.map id:=map_congr_left fun i hi=>by
   have hi':i<n:=mem_range.mp (P.list.mem_iff.mp hi)
   rw[getD_eq_getElem?_getD,List.getElem?_range hi']
   rfl
  rw[this,map_id]
 rwa[e] at h
theorem uA{K:W.Frag}{M:Addr->Prop}{H:Hp}:∀{ns:List Int} {ys:List V},Reps K M H ys (ns.map .int)->ys=ns.map V.int
 | [],_,.nil=>rfl
 |_::_,_,.cons (.int _) r=>by rw[uA r];rfl
theorem y6(hc:X.calm=true)(hg:Gl X "sorted")(hm:X.mg "sorted" = none)(hg2:Gl X "range")(hm2:X.mg "range" = none)(ha:QA X [a] ts)(hr:Room (k+1) X.A)(L:LamCx X c P)(hT:kA X.K P q)(LO:LamOk X i x y params scope cy)
  (hcl:closureFor scope X.env=pure [(y,cy)]) (hdef:defaultsOf params X.env=([],[])) (hq:X.env.qual ++ "<lambda>" = q)
  (hb:∀(f c':Addr) (A:Around) (s:Shared) (H:Hp),Room k (A.deeper (envX q scope s.heap.objs.size f (.ref c') [(y,cy)]))->QE (zY X [x,y] q scope f c' [(y,cy)] A s H) body tb)
  (h1:autoParam (starEach [.Call (.Name "range" p2) [a] [] pos2] X.env=(false,eval (.Call (.Name "range" p2) [a] [] pos2) X.env)::starEach [] X.env) cB._auto_1)
  (h3:autoParam (starEach [a] X.env=(false,eval a X.env)::starEach [] X.env) cB._auto_1) (h4:autoParam ((backTo pos2 (starEach [] X.env)).any (·.1)=false) cB._auto_1):
  QE X (.Call (.Name "sorted" p) [.Call (.Name "range" p2) [a] [] pos2] [⟨some "key",.Lambda params body scope lpos,kpos⟩] pos) (oE i ts tb):=by
 refine⟨fun ρ Q Q' w z=>ha.mono _ _ _ (fun r z=>?_) z,fun HZ F=>fun pj s σ H Q I ⟨ρ,fr,z⟩=>?_⟩
 ·split at z
  ·obtain⟨g,d,b1,b2,b3,b4,z⟩:=z
   exact⟨g,d,b1,b2,b3,b4,fun ms m1 m2=>w _ (z ms m1 m2)⟩
  ·exact z
 ·refine wpAny_Call_Name_kw (iJ I hg hm boot_sorted ?_ ∅ ∅)
  refine callWith_kw (thn ((iS (jD pR hg2 hm2 boot_range (ha.run HZ F) ∅ ∅ h3 h4) mL h1) pos pj s σ H (fun xs H2=>∃(r:Addr) (j:Int),xs=[.ref r]/\H2 r=some (.rng 0 j)/\aK H H2 /\
   ∃(g:Nat->List Int) (d:Dv),(0<=j/\j<64)/\ρ[i]?=some (.v d)/\(∀b:Nat,b<j.toNat->tb [.v (.int b),.v d] fun x=>x.d=.tup ((g b).map Dv.int))/\((∀b,(g b).length=2) /\ ∀a b,a<j.toNat->b<j.toNat->a≠b->g a≠g b) /\
   ∀ms:List Nat,ms.Perm (List.range j.toNat)->ms.Pairwise (fun a b=>dD (g a) (g b)=true) -> ∀x H',aK H H'->d9 X.K (MM F ρ) (tZ ρ) H x (.nw (.lst (ms.map fun m:Nat=>Dv.int (m:Int)))) H'->Q x H') I ?_) fun us s1 ⟨vs,H1,I1,rv,r,j,ev,er,S1,g,d,⟨j0,j1⟩,hi,hbody,⟨gl,gne⟩,z⟩=>?_)
  ·refine ha.step fr z fun rs xs H1 z S1 r1=>?_
   split at z
   ·rename_i j e
    have cc:=r1.c
    rw[e] at cc
    obtain⟨x,rfl,cx⟩:=dL cc
    obtain rfl:=cx.int
    exact⟨j,rfl,fun r hr=>⟨r,j,rfl,aY,S1.trans (aK.new' hr),z⟩⟩
   ·exact z.elim
  ·subst ev
   obtain⟨u,rfl,ru⟩:=i8 rv
   cases ru
   have fr1:=fr.mono S1
   show wpAny _ _ (evalAll [(do let v <- eval (.Lambda params body scope lpos) X.env;standAt pos;pure v)]) _ _ s1
   refine wpAny_evalAll_cons (wpAny_bind (GC I1 L (fr1.tab P q hT) hcl hdef hq fun f c' ctv H2 s2 S2 hcod I2=>wpAny_bind (wpAny_standAt (wpAny_pure ?_))))
   refine wpAny_evalAll_nil ?_
   show wpAny _ _ (call (.builtin "sorted") [.ref r] [(Str.ofString "key",.ref f)]) _ _ s2
   have fr2:=fr1.mono S2
   obtain⟨t1,t2,t3,e⟩:=I2.hok r _ (S2 _ _ er)
   have ej:j=(j.toNat:Int):=⋯
   rw[ej] at e
   obtain⟨vy,hvy,rd⟩:=fr2.sl i _ hi
   refine tV (g:=g) (m:=1) I2 (I.ok.hd hc) e ⋯ (fun b _=>gl b) gne (fun b t' H3 s3 hb' S3 I3=>?_) fun p' l H' s' pm up S' hl hl' I'=>?_
   ·have fr3:=fr2.mono S3
    obtain⟨vy,hvy,rd⟩:=fr3.sl i _ hi
    have hA:X.A.in1.in1.frames=some X.stack:=I.ok.frames
    have hR:Room k (X.A.in1.in1.deeper (envX q scope s3.heap.objs.size f (.ref c') [(y,cy)])):=⟨hr.hd,by have:=hr.dp;show X.A.depth+1+3*k+5<_;ac_rfl,by have:=hr.un;show X.A.units+1+1+3+16*k+200<_;ac_rfl⟩
    have HB:=hb f c' X.A.in1.in1 s3 H3 hR
    have pinF:=(I3.pin _ (mem_append_right _ (mem_cons_self ..))).1
    have frL:Fr X.K H3 (MM F ρ) (start [x,y] [V.int b,vy]) H3 (aJ [x,y] [.int b,d]):=rF ⟨fun a m=>fr3.dom m,fr3.tab⟩ (.cons (.int _) (.cons rd .nil))
    refine wpAny_call (codeAny_mono (CD (Q:=fun v H4=>(∃t,v=.ref t/\H4 t=some (.tup ((g b).map V.int)))/\aK H3 H4) I3 LO hA (I.ok.hd hc) (by have:=hr.dp;show X.A.depth<_;ac_rfl) pinF (S3 _ _ hcod) (HB.run H3 (MM F ρ)) (v:=.int b) ⟨t',rfl⟩ hvy ⟨_,frL,HB.mono _ _ _ (fun rr e x H4 S4 rx=>?_) (hbody b ⋯)⟩) fun res s4 zz=>?_)
    ·have cx:=rx.c
     rw[e] at cx
     obtain⟨t,ys,ev,et,rt⟩:=cx.tup
     exact⟨⟨t,ev,by rw[et,uA rt]⟩,S4⟩
    ·cases res with
     |error e=>exact(show False from zz).elim
     |ok fl=>
      cases fl with
      |ret u=>
       obtain⟨v',H4,I4,rv',⟨t4,ev',et4⟩,S4⟩:=I3.after zz
       subst ev'
       cases rv'
       exact⟨H4,t4,rfl,et4,S4,I4⟩
      |next=>exact False.elim zz
      |brk=>exact False.elim zz
      |cont=>exact False.elim zz
   ·have hl0:H l=none:=(S1.trans S2).free hl
    exact⟨.ref l,H',I'.pins_of fun p hp=>I'.pin p (mem_append_right _ (mem_cons_of_mem _ hp)),rfl,z p'.toList pm.list (IL gne pm up) _ H' ((S1.trans S2).trans S') ⟨l,rfl,hl0,_,hl',p0 _⟩⟩
end
structure LamDef(K:W.Frag)(mg:Str->Option Value)(base:Heap)(C:Addr)(m q:Str):Prop where
 bm:BM mg base
 ex:∃(f:Addr) (o:Value) (od:Option Addr) (fd:FuncData) (sl:Array (Option Value)) (c P:Addr),Meth K C m f/\K.lookup f=some ⟨o,od,.func fd,sl⟩/\fd.code=.ref c/\CodeHd base c P/\kA K P q
theorem MAt.okL{P:Program}{w:World}{K:W.Frag}{mg:Str->Option Value}{base:Heap}{k:Nat}{C:Addr}{m qual q:Str}{st:Stmt}{ps N:List Str}{sp:Fn}{t:cD}(a:MAt K C m qual st ps)(S:FnScope N ps (aF st))(ld:LamDef K mg base C m q)
  (hq:∀(f:Addr) (cdv:Value) (A:Around) (outer:List Env) (s:Shared) (H:Hp) (E:XK),Room k (A.deeper (envOfC qual (aF st) s.heap.objs.size f cdv)) -> ∀c Pt:Addr,LamCx (n4 u3 P w K mg base N qual (aF st) f cdv A outer s H E).nox c Pt->kA K Pt q ->
   QSs (n4 u3 P w K mg base N qual (aF st) f cdv A outer s H E).nox (d7 st) t)
  (len:∀ds Q,sp ds Q->ds.length=ps.length) (hsp:∀ds Q,sp ds Q->t ↥Q (aJ N ds)):MDef P w K mg base (k+1) C m ps (low K sp):=by
 obtain⟨f,fd,hm,F,hb⟩:=a.ex
 obtain⟨f',o,od,fd',sl,c,Pt,hm',lk',ec,hC,hT⟩:=ld.ex
 have ef:f'=f:=by
  have e:=hm.at_.symm.trans hm'.at_
  cases e
  rfl
 subst ef
 obtain⟨oc,od2,kV,doc,pm,an,cdv,ct,osl,rfl,lk,hcd⟩:=F.ex
 rw[lk] at lk'
 cases lk'
 have ec':cdv=.ref c:=ec
 refine⟨f',_,hm,hb,GA lk hcd S (o9 len) fun A outer s H vs Q E hr hs=>?_⟩
 obtain⟨t',h,z⟩:=oM (hq f' cdv A outer s H E hr c Pt ⟨ec',hC,ld.bm⟩ hT) hsp hs
 exact⟨t',h.nox,z⟩
structure LamDefD(K:W.Frag)(mg:Str->Option Value)(base:Heap)(x q:Str):Prop where
 bm:BM mg base
 ex:∃(f:Addr) (o:Value) (od:Option Addr) (fd:FuncData) (sl:Array (Option Value)) (c P:Addr),mg x=some (.ref f)/\K.lookup f=some ⟨o,od,.func fd,sl⟩/\fd.code=.ref c/\CodeHd base c P/\kA K P q
theorem At.okL{P:Program}{w:World}{K:W.Frag}{mg:Str->Option Value}{base:Heap}{k:Nat}{x nm q:Str}{st:Stmt}{ps N:List Str}{sp:Fn}{t:cD}(a:At K mg x nm st ps)(S:FnScope N ps (aF st))(ld:LamDefD K mg base x q)
  (hq:∀(f:Addr) (cdv:Value) (A:Around) (outer:List Env) (s:Shared) (H:Hp) (E:XK),Room k (A.deeper (envOfC nm (aF st) s.heap.objs.size f cdv)) -> ∀c Pt:Addr,LamCx (n4 u3 P w K mg base N nm (aF st) f cdv A outer s H E).nox c Pt->kA K Pt q ->
   QSs (n4 u3 P w K mg base N nm (aF st) f cdv A outer s H E).nox (d7 st) t)
  (len:∀ds Q,sp ds Q->ds.length=ps.length) (hsp:∀ds Q,sp ds Q->t ↥Q (aJ N ds)):Def P w K mg base (k+1) x ps (low K sp):=by
 obtain⟨f,fd,hm,F,hb⟩:=a.ex
 obtain⟨f',o,od,fd',sl,c,Pt,hm',lk',ec,hC,hT⟩:=ld.ex
 have ef:f'=f:=by
  have e:=hm.symm.trans hm'
  cases e
  rfl
 subst ef
 have kp:=F.kp
 obtain⟨oc,od2,kV,doc,pm,an,cdv,ct,osl,rfl,lk,hcd⟩:=F.ex
 rw[lk] at lk'
 cases lk'
 have ec':cdv=.ref c:=ec
 refine⟨f',_,hm,kp,hb,GA lk hcd S (o9 len) fun A outer s H vs Q E hr hs=>?_⟩
 obtain⟨t',h,z⟩:=oM (hq f' cdv A outer s H E hr c Pt ⟨ec',hC,ld.bm⟩ hT) hsp hs
 exact⟨t',h.nox,z⟩
theorem AR{K:W.Frag}{H:Hp}{a:Addr}{Ts:List (Addr×Str)}{ns:List Int}{sp:Fn}(h:∀Q:R->Prop,Q (.v (.bl true))->sp [.scr ns] Q)(hO:OnlyL H Ts)(hT:∀P q,kA K P q->(P,q)∈Ts)(hS:eJ K H a (ns.map V.int)):low K sp [.ref a] H (fun v H'=>v=.bl true /\ ∀t∈Ts,H' t.1=some (.lam t.2)) E0:=by
 refine⟨fun _=>False,[.scr ns],⟨fun _ z=>z.elim,fun P q' z=>hO.tab _ (hT P q' z)⟩,.cons (.scr ?_) .nil,h _ fun x H' S r=>?_⟩
 ·rcases hS with(h | h) | h
  ·by_cases e:∃t∈Ts,a=t.1
   ·obtain⟨t,m,e⟩:=e
    rw[e,hO.tab t m] at h;cases h
   ·rcases hO.oth a (fun t m z=>e ⟨t,m,z⟩) with z | ⟨o,xs,z⟩
    ·rw[z] at h;cases h
    ·rw[z] at h;cases h
  ·exact .inl h
  ·exact .inr h
 ·have r':Rep K (fun _=>False) H' x (.bl true):=r
  cases r'
  exact⟨rfl,fun t m=>S _ _ (hO.tab t m)⟩
theorem Gh{K:W.Frag}{P1 P2 P3:Addr}(a:L9 K P1)(b:JL K "_law_hands" P2)(c:JL K "_law_round" P3)(P:Addr)(q:Str)(h:kA K P q):(P,q)∈[(P1,oB "Sides.last"),(P2,oB "_law_hands"),(P3,oB "_law_round")]:=by
 obtain⟨_,⟨z,rfl⟩ | ⟨z,rfl⟩ | ⟨z,rfl⟩⟩:=h
 ·rw[a.one z];exact .head _
 ·rw[b.one z];exact .tail _ (.head _)
 ·rw[c.one z];exact .tail _ (.tail _ (.head _))
end Z
namespace Z
open L2
noncomputable abbrev oT(k:Tk):Dv:=.tup [.int k.1,.tup (k.2.map Dv.int)]
noncomputable def uC(ks:List Tk)(k:Tk):List Tk:=if ks.any (fun x=>decide (x=k)) then ks else ks++[k]
noncomputable def hasTk(ks:List Tk)(k:Tk):Bool:=ks.any fun x=>decide (x=k)
theorem wE(xs:List (Tk×Addr))(k:Tk):hasN xs k=hasTk (xs.map (·.1)) k:=by
 unfold hasN hasTk
 rw[List.any_map]
 rfl
theorem Gw(xs:List (Tk×Addr))(k:Tk)(b:Addr):(tG xs k b).map (·.1)=uC (xs.map (·.1)) k:=by
 unfold tG uC
 rw[wE]
 unfold hasTk
 split
 ·rfl
 ·rw[map_append]
  rfl
theorem r6{K:W.Frag}{M:Addr->Prop}{H:Hp}{x:V}{k:Tk}(c:cY K M H x (oT k)):∃b,x=.ref b/\TileAt H k b:=by
 obtain⟨b,vs,rfl,e,r⟩:=c.tup
 cases r with
 |cons r1 r=>
   cases r with
   |cons r3 r=>
    cases r
    cases r1
    cases r3 with
    |tup e3 r3=>
     refine⟨b,rfl,_,e,?_⟩
     have ey:∀{ns:List Int} {ys:List V},Reps K M H ys (ns.map .int)->ys=ns.map V.int:=by
      intro ns
      induction ns with
      |nil=>intro ys r;cases r;rfl
      |cons n ns ih=>
       intro ys r
       cases r with
       |cons r1 r=>cases r1;rw[ih r];rfl
     rw[<- ey r3]
     exact e3
theorem G8{k:Nat}{A:Around}(r:Room k A):A.units+2<cLine:=by have:=r.un;ac_rfl
section
variable {X:Cx} {pos:Pos} {e:Expr} {te:d3}
noncomputable def MY:d3:=fun _ Q=>Q (.nw (.dns []))
theorem Be:QE X (.Dict [] [] pos) MY:=
 ⟨fun ρ Q Q' w q=>w _ q,fun HZ F=>cS Eh fun σ H Q ⟨ρ,fr,q⟩ p hp=>q _ _ (aK.new' hp) ⟨p,rfl,hp,0,[],aY,rfl,fun _ z=>nomatch z⟩⟩
noncomputable def rO(i:Nat)(tk tv:d3):cD:=fun E ρ=>match ρ[i]? with
 |some (.own a (.dns ks))=>tv ρ fun r=>r=.v (.bl true)/\tk ρ fun kk=>∃k:Tk,kk.d=oT k/\ks.length<xN/\E.nx (ρ.set i (.own a (.dns (uC ks k))))
 |_=>False
theorem EK{i:Nat}{x:Str}{p1 p2:Pos}{k:Expr}{tk:d3}(hu:X.A.units+2<cLine)(hv:PE X (.Name x p1) (AN i))(hk:QE X k tk)(he:QE X e te)
  (hs:autoParam (swapsWith e (some (.Subscript (.Name x p1) k p2)) pos.line X.env=pure false) cB._auto_1):QS X (.Assign [.Subscript (.Name x p1) k p2] e pos) (rO i tk te):=by
 refine⟨fun E E' ρ w h=>?_,fun HZ F=>f6 (EX hu hv (hk.run HZ F) (he.run HZ F) hs) fun D σ H ⟨ρ,E,fr,h,en⟩=>?_⟩
 ·unfold rO at *
  split at h
  ·exact he.mono _ _ _ (fun r q=>⟨q.1,hk.mono _ _ _ (fun kk zq0=>by obtain⟨k,a,b,c⟩:=zq0;exact⟨k,a,b,w.nx _ c⟩) q.2⟩) h
  ·exact h
 ·unfold rO at h
  split at h
  ·rename_i a ks hx
   refine he.step fr h fun r y H1 q S1 r1=>?_
   obtain⟨rfl,q⟩:=q
   have fr1:=fr.mono S1
   obtain⟨hs1,ep,xs,hv1,ek,t1⟩:=fr1.sl i _ hx
   refine⟨by cases r1;rfl,_,hs1,hk.step fr1 q fun kk z H2 q S2 rk=>?_⟩
   obtain⟨k,ed,ql,q2⟩:=q
   have ck:=rk.c
   rw[ed] at ck
   obtain⟨b,rfl,tb⟩:=r6 ck
   have hv2:=S2 _ _ hv1
   have t2:∀x∈xs,TileAt H2 x.1 x.2:=fun x hx=>(t1 x hx).gen fun _ _ e=>S2 _ _ e
   refine⟨a,b,ep,xs,k,rfl,rfl,hv2,t2,tb,w6 (by rw[ek,length_map] at ql;exact ql),fun ep'=>?_⟩
   have G:Gen X.K (MM F ρ) (MM F ρ) H2 (upd H2 a (.dN a ep' (tG xs k b))):=Gen.write (.inr ⟨_,mem_of_getElem? hx⟩) (by rw[hv2];trivial)
   refine en.nx _ _ _ ((fr1.mono S2).write (d':=.dns (uC ks k)) hx ⟨_,_,aY,by rw[Gw,ek],fun y hy=>?_⟩) q2
   unfold tG at hy
   split at hy
   ·exact(t2 y hy).gen G.t
   ·rcases mem_append.mp hy with z | z
    ·exact(t2 y z).gen G.t
    ·rw[mem_singleton.mp z]
     exact tb.gen G.t
  ·exact h.elim
noncomputable def yR:Dv->Dv->(R->Prop)->Prop
 | .tup ds,.dns ks,Q=>∃k:Tk,Dv.tup ds=oT k/\Q (.v (.bl (hasTk ks k)))
 |_,_,_=>False
noncomputable def lL:Dv->Dv->(R->Prop)->Prop
 | .tup ds,.dns ks,Q=>∃k:Tk,Dv.tup ds=oT k/\Q (.v (.bl (!hasTk ks k)))
 |_,_,_=>False
theorem vN{ks:List Tk}{k:Tk}{Q:R->Prop}(q:Q (.v (.bl (hasTk ks k)))):yR (oT k) (.dns ks) Q:=⟨k,rfl,q⟩
theorem uE{ks:List Tk}{k:Tk}{Q:R->Prop}(q:Q (.v (.bl (!hasTk ks k)))):lL (oT k) (.dns ks) Q:=⟨k,rfl,q⟩
theorem qQ(hu:X.A.units+2<cLine):xM X (compareOp .In) yR:=by
 refine⟨fun dx dy Q Q' w h=>?_,_,KF hu,fun M O H x y dx dy Q cx cy h=>?_⟩
 ·unfold yR at *
  split at h
  ·exact⟨h.choose,h.choose_spec.1,w _ h.choose_spec.2⟩
  ·exact h
 ·unfold yR at h
  split at h
  ·obtain⟨k,ed,q⟩:=h
   rw[ed] at cx
   obtain⟨b,rfl,tb⟩:=r6 cx
   obtain⟨a,rfl,ep,xs,e1,ek,t⟩:=cy.dns
   subst ek
   refine⟨a,b,ep,xs,k,rfl,rfl,e1,t,tb,?_⟩
   simp only[Bool.false_eq_true,if_false]
   rw[wE]
   exact q _ H (aK.refl _) (Rep.bl _)
  ·exact h.elim
theorem sA(hu:X.A.units+2<cLine):xM X (compareOp .NotIn) lL:=by
 refine⟨fun dx dy Q Q' w h=>?_,_,D1 hu,fun M O H x y dx dy Q cx cy h=>?_⟩
 ·unfold lL at *
  split at h
  ·exact⟨h.choose,h.choose_spec.1,w _ h.choose_spec.2⟩
  ·exact h
 ·unfold lL at h
  split at h
  ·obtain⟨k,ed,q⟩:=h
   rw[ed] at cx
   obtain⟨b,rfl,tb⟩:=r6 cx
   obtain⟨a,rfl,ep,xs,e1,ek,t⟩:=cy.dns
   subst ek
   refine⟨a,b,ep,xs,k,rfl,rfl,e1,t,tb,?_⟩
   simp only[if_true]
   rw[wE]
   exact q _ H (aK.refl _) (Rep.bl _)
  ·exact h.elim
end
end Z
namespace L2
section
variable {prog:Program} {w:World} {A:Around} {E:Value->Shared->Prop} {s:Shared}
theorem IA{it l:Addr}{Q:Option Value->Shared->Prop}(q:Qu A s.heap)(t:s.heap.IsRevIter it l (-1))(h:∀h',Heap.ExtBut it s.heap h'->Q none { s with heap:=h' }):
  wpAny (model prog w) A (pyNext (.ref it)) Q E s:=by
 obtain⟨o,g,c,d⟩:=id t
 unfold pyNext
 refine wpAny_bind (wpAny_attempt (wpAny_callSpecial?_slot (name:=Str.ofString "__next__") t.typeIs F.slot_lri_next (wpAny_call_entry F.slot_lri_next t.typeIs F.entry_lri_next ?_ (F.args_lri_next_1 _))))
 refine wpAny_bind (m:=field (.ref it) 1) (wpAny_field g d (x:=rawInt (-1)) rfl ?_)
 show wpAny _ _ (ite ((-1:Int)<0) _ _) _ _ s
 rw[if_pos ∅]
 refine wpAny_bind (wpAny_rule (wpAny_bind (gD q fun h' e k zz=>?_)))
 obtain⟨oe,ge,ce⟩:=zz
 exact wpAny_bind (wpAny_isInstance (T:="StopIteration") (b:=true) ⟨oe,ge,ce⟩ isSubtype_stop (wpAny_pure (h _ fun b u hb z=>k b u z)))
end
noncomputable def O7(K:W.Frag)(a:Addr)(xs:List V):It:=
 ⟨fun i H=>eJ K H a xs/\i<xs.length,fun i H x H'=>H'=H/\xs.reverse[i]?=some x,fun i _=>xs.length<=i⟩
theorem Dt{P:Program}{w:World}{K:W.Frag}{tg:Expr}(a it:Addr)(xs:List V):Turn P w K tg (O7 K a xs) [it] it (fun i h=>i<=xs.length/\h.IsRevIter it a ((xs.length:Int)-1-i)) where
 mem:=mem_singleton_self _
 obj:=fun i h st b hb=>by
  obtain rfl:=mem_singleton.mp hb
  obtain⟨_,o,e,c,d⟩:=st
  exact⟨o,e,fun v z=>by rw[d] at z;cases z⟩
 keep:=fun i h h' st k=>⟨st.1,st.2.at fun o e=>k it (mem_singleton_self _) o e⟩
 item:=by
  rintro X rfl rfl rfl hc i pj s σ H E I hf ⟨hi,st⟩ ⟨hq,hlt⟩
  obtain⟨its,rv,p,hz⟩:=I.list hq
  have hx:xs.reverse[i]?=some (xs[xs.length-1-i]'⋯):=by rw[List.getElem?_reverse hlt,List.getElem?_eq_getElem]
  obtain⟨u,hu,ru⟩:=rv.get (i:=xs.length-1-i) (List.getElem?_eq_getElem ⋯)
  obtain⟨f0,f1,f2,f3,f4,f5⟩:=hf it (mem_singleton_self _)
  rw[show ((xs.length:Int)-1-i)=((xs.length-1-i:Nat):Int) by ac_rfl] at st
  refine wpAny_pyNext_rev_item st p.isList (x:=u) (by simpa using hu) fun h' st' sb=>?_
  have I1:Inv X pj σ H { s with heap:=h' }:=I.turned (t':=s.toks) (fun b o hb e=>(sb.2 b hb).trans e) f0 f1 f3 f4 f5
  rw[show (((xs.length-1-i:Nat):Int)-1)=(xs.length:Int)-1-((i+1:Nat):Int) by ac_rfl] at st'
  obtain⟨o,e,c,d⟩:=id st'
  exact⟨u,rfl,uP (s:={ s with heap:=h' }) e c d ∅ ⟨_,H,I1,ru,⟨rfl,hx⟩,⟨⋯,st'⟩,fun b hb=>(hf b hb).1⟩⟩
 done:=by
  rintro X rfl rfl rfl hc i pj s σ H E I hf ⟨hi,st⟩ hs
  have hs':xs.length<=i:=hs
  obtain⟨f0,f1,f2,f3,f4,f5⟩:=hf it (mem_singleton_self _)
  rw[show ((xs.length:Int)-1-i) = -1 by ac_rfl] at st
  exact IA I.qu st fun h' eb=>⟨rfl,I.turned (t':=s.toks) (fun b o hb e=>eb b o hb e) f0 f1 f3 f4 f5⟩
 self:=fun _ _ _ _ _ st h=>wpAny_pyIter_revIter st.2 h
noncomputable def MG(K:W.Frag)(ta:TA):TI:=fun σ H R=>ta σ H fun vs H1=>∃a xs,vs=[.ref a]/\eJ K H1 a xs/\R (O7 K a xs) H1
theorem Jn{X:Cx}{tg a:Expr}{ta:TA}{p pos:Pos}(hg:Gl X "reversed")(hm:X.mg "reversed" = none)(ha:PA X [a] ta)(hs:autoParam (starEach [a] X.env=[(false,eval a X.env)]) cB._auto_1):PI X tg (.Call (.Name "reversed" p) [a] [] pos) (MG X.K ta):=by
 intro pj s σ H R I h
 refine Call_ (iJ I hg hm boot_reversed (PyProof.Rows.callWith_type1 (thn (ha pos pj s σ H _ I h) fun us s1 ⟨vs,H1,I1,r1,q1⟩=>?_) hs rfl))
 obtain⟨l,xs,e,hq,q⟩:=q1
 subst e
 obtain⟨u,rfl,ru⟩:=i8 r1
 cases ru
 obtain⟨its,rv,pl,hz⟩:=I1.list hq
 refine call_reversed_list pl.isList ?_
 have hl:=rv.length
 have I2:Inv X pj σ H1 { s1 with heap:=s1.heap.push (revObj l ((its.toArray.size:Int)-1)) }:=I1.kept (t':=s1.toks) fun b o e=>Heap.get?_push_of_some _ e
 have st:(s1.heap.push (revObj l ((its.toArray.size:Int)-1))).IsRevIter s1.heap.objs.size l ((xs.length:Int)-1-((0:Nat):Int)):=⟨_,Heap.get?_push_size _ rfl,rfl,by rw[hl];simp;rfl⟩
 refine wpAny_pyIter_revIter st ⟨s1.heap.objs.size,[s1.heap.objs.size],_,_,H1,rfl,I2,Dt l _ xs,⟨zero_le _,st⟩,fun b hb=>?_,q⟩
 obtain rfl:=mem_singleton.mp hb
 exact I1.fpOk (le_refl _) (I1.hok.fresh (le_refl _))
noncomputable def O9(a:Addr)(ep:Nat)(xs:List (Tk×Addr)):It:=
 ⟨fun i H=>H a=some (.dN a ep xs)/\i<xs.length,fun i H x H'=>H'=H /\ ∃p,xs[i]?=some p/\x=.ref p.2,fun i H=>H a=some (.dN a ep xs)/\xs.length<=i⟩
theorem wJ{P:Program}{w:World}{H:Hp}{h:Heap}{a:Addr}{ep:Nat}{xs:List (Tk×Addr)}(ok:cI P w H h a (.dN a ep xs)):
  ∃es:Array DictEntry,Ent h a es ep/\es.size=xs.length/\(a==sysModules)=false /\ ∀(i:Nat) (p:Tk×Addr),xs[i]?=some p -> ∃en:DictEntry,es[i]?=some en/\en.key=.ref p.2:=by
 obtain⟨⟨_,hd,o,es,g,ex,dd,he,_⟩,_⟩:=ok
 refine⟨es,⟨⟨o,g,ex,dd⟩⟩,?_,hd,fun i p hp=>?_⟩
 ·rw[<- length_toList,he,length_map]
 ·refine⟨MR p,?_,rfl⟩
  rw[<- Array.getElem?_toList,he,List.getElem?_map,hp]
  rfl
theorem AF{P:Program}{w:World}{K:W.Frag}{tg:Expr}(a it:Addr)(ep:Nat)(xs:List (Tk×Addr)):Turn P w K tg (O9 a ep xs) [it] it (fun i h=>h.IsKeyIter it a i xs.length ep) where
 mem:=mem_singleton_self _
 obj:=fun i h st b hb=>by
  obtain rfl:=mem_singleton.mp hb
  obtain⟨o,e,c,d⟩:=st
  exact⟨o,e,fun v z=>by rw[d] at z;cases z⟩
 keep:=fun i h h' st k=>st.at fun o e=>k it (mem_singleton_self _) o e
 item:=by
  rintro X rfl rfl rfl hc i pj s σ H E I hf st ⟨e,hi⟩
  obtain⟨es,g,hz,hd,at_⟩:=wJ (I.hok a _ e)
  obtain⟨en,h1,h2⟩:=at_ i _ (List.getElem?_eq_getElem hi)
  obtain⟨f0,f1,f2,f3,f4,f5⟩:=hf it (mem_singleton_self _)
  refine Hs st g hz h1 fun h' st' sb=>?_
  have I1:Inv X pj σ H { s with heap:=h' }:=I.turned (t':=s.toks) (fun c o hb e=>(sb.2 c hb).trans e) f0 f1 f3 f4 f5
  obtain⟨o,e1,c,d⟩:=id st'
  exact⟨_,rfl,uP (s:={ s with heap:=h' }) e1 c d ∅ ⟨.ref _,H,I1,h2,⟨rfl,_,List.getElem?_eq_getElem hi,rfl⟩,st',fun b hb=>(hf b hb).1⟩⟩
 done:=by
  rintro X rfl rfl rfl hc i pj s σ H E I hf st ⟨e,hi⟩
  obtain⟨es,g,hz,hd,at_⟩:=wJ (I.hok a _ e)
  obtain⟨f0,f1,f2,f3,f4,f5⟩:=hf it (mem_singleton_self _)
  exact Ka I.qu st g hz hi fun h' eb=>⟨rfl,I.turned (t':=s.toks) (fun b o hb e=>eb b o hb e) f0 f1 f3 f4 f5⟩
 self:=fun _ _ _ _ _ st h=>wpAny_pyIter_keyiter st h
noncomputable def Hz(tl:TE):TI:=fun σ H R=>tl σ H fun x H1=>∃a ep xs,x=.ref a/\H1 a=some (.dN a ep xs)/\R (O9 a ep xs) H1
theorem Ec{X:Cx}{tg l:Expr}{tl:TE}(hl:PE X l tl):PI X tg l (Hz tl):=by
 intro pj s σ H R I h
 refine thn (hl pj s σ H _ I h) fun v s1 zz=>?_
 obtain⟨x,H1,I1,r1,a,ep,xs,e,ea,q⟩:=zz
 subst e
 cases r1
 obtain⟨es,g,hz,hd,_⟩:=wJ (I1.hok a _ ea)
 refine Ht hd g ?_
 refine⟨s1.heap.objs.size,[s1.heap.objs.size],_,_,H1,rfl,I1.kept (t':=s1.toks) fun b o e=>Heap.get?_push_of_some _ e,AF a _ ep xs,⟨_,Heap.get?_push_size _ rfl,rfl,by rw[hz];rfl⟩,fun b hb=>?_,q⟩
 obtain rfl:=mem_singleton.mp hb
 exact I1.fpOk (le_refl _) (I1.hok.fresh (le_refl _))
end L2
namespace Z
open L2
theorem zG{K:W.Frag}{P:Hp}{M:Addr->Prop}{H1:Hp}{a:Addr}{xs:List V}{ds:List Dv}(hP:P a=some (.lst xs))(r:Reps K M H1 xs ds):qL K P M H1 (O7 K a xs) ds.reverse []:=by
 intro i H' M' S G _
 have h':=S _ _ hP
 have hl:=r.length
 refine⟨fun d e=>?_,fun h=>by rw[List.length_reverse] at h;show xs.length<=i;ac_rfl⟩
 obtain⟨x,hx,rx⟩:=r.reverse.get e
 have hi:i<xs.reverse.length:=(List.getElem?_eq_some_iff.mp hx).1
 rw[List.length_reverse] at hi
 refine⟨⟨eJ.of h',hi⟩,fun y H'' zz=>?_⟩
 obtain⟨e1,e2⟩:=zz
 subst e1
 rw[hx] at e2
 cases e2
 exact⟨aK.refl _,rx.gen G⟩
noncomputable def G7(tl:lI):tX:=fun ρ Q=>tl ρ fun rs=>match rs with
 | [.v (.lst ds)]=>Q ds.reverse []
 | [.nw (.lst ds)]=>Q ds.reverse []
 |_=>False
theorem D6{K:W.Frag}{P:Hp}{M:Addr->Prop}{H1:Hp}{a:Addr}{ep:Nat}{xs:List (Tk×Addr)}(hP:P a=some (.dN a ep xs))(t:∀x∈xs,TileAt H1 x.1 x.2):qL K P M H1 (O9 a ep xs) ((xs.map (·.1)).map oT) []:=by
 intro i H' M' S G _
 have h':=S _ _ hP
 refine⟨fun d e=>?_,fun h=>⟨h',by simpa using h⟩⟩
 rw[map_map,List.getElem?_map] at e
 cases ed:xs[i]? with
 |none=>rw[ed] at e;cases e
 |some q=>
  rw[ed] at e
  cases e
  refine⟨⟨h',(List.getElem?_eq_some_iff.mp ed).1⟩,fun y H'' ⟨e1,p,e2,e3⟩=>?_⟩
  subst e1 e3
  rw[ed] at e2
  cases e2
  obtain⟨c,h1,h2⟩:=(t q (mem_of_getElem? ed)).gen G.t
  exact⟨aK.refl _,.tup h1 (.cons (.int _) (.cons (.tup h2 (Reps.ints _)) .nil))⟩
noncomputable def pJ(tl:d3):tX:=fun ρ Q=>tl ρ fun r=>match r with
 | .v (.dns ks)=>Q (ks.map oT) []
 |_=>False
section
variable {X:Cx} {tg l a:Expr} {tl:d3} {ts:lI} {p pos:Pos}
theorem Ja(hg:Gl X "reversed")(hm:X.mg "reversed" = none)(h:QA X [a] ts)(hs:autoParam (starEach [a] X.env=[(false,eval a X.env)]) cB._auto_1):QI X tg (.Call (.Name "reversed" p) [a] [] pos) (G7 ts):=by
 refine⟨fun ρ Q Q' w q=>h.mono _ _ _ (fun r q=>?_) q,fun HZ F=>⟨_,Jn hg hm (h.run HZ F) hs,fun σ H ρ R fr q=>?_⟩⟩
 ·unfold G7 at *
  split at q<;>first | exact w _ _ q | exact q
 ·refine h.step fr q fun rs xs H1 q S1 r1=>?_
  have fr1:=fr.mono S1
  split at q
  ·rename_i ds
   cases r1 with
   |cons a1 t1=>
    cases t1
    cases a1 with
    |lst e m rs=>exact⟨_,_,rfl,eJ.of e,q _ H1 S1 (by intro p hp;simp at hp) (zG (by rw[bZ fun c=>m (.inr c)];exact e) rs)⟩
  ·rename_i ds
   cases r1 with
   |cons a1 t1=>
    cases t1
    obtain⟨b,rfl,n,ys,e,rs⟩:=a1
    exact⟨_,_,rfl,eJ.of e,q _ H1 S1 (by intro p hp;simp at hp) (zG (by rw[bZ fun c=>fr.fresh n (.inr c)];exact e) (rs.weak fun b z=>.inl z))⟩
  ·exact q.elim
theorem yA(h:QE X l tl):QI X tg l (pJ tl):=by
 refine⟨fun ρ Q Q' w q=>h.mono _ _ _ (fun r q=>?_) q,fun HZ F=>⟨_,Ec (h.run HZ F),fun σ H ρ R fr q=>?_⟩⟩
 ·unfold pJ at *
  split at q<;>first | exact w _ _ q | exact q
 ·refine h.step fr q fun r x H1 q S1 r1=>?_
  have fr1:=fr.mono S1
  split at q
  ·rename_i ks
   cases r1 with
   |dns e m=>
    obtain⟨ep,xs,e1,ek,t⟩:=e
    subst ek
    exact⟨_,ep,xs,rfl,e1,q _ H1 S1 (by intro p hp;simp at hp) (D6 (by rw[bZ fun c=>m (.inr c)];exact e1) t)⟩
  ·exact q.elim
end
inductive DF(K:W.Frag)(mg:Str->Option Value)(x nm:Str)(st:Stmt):Prop
 |mk {f:Addr} {od an:Option Addr} {sl:Array (Option Value)} {oc kV dc pm cd ct:Value} (a:mg x=some (.ref f))
  (l:K.lookup f=some ⟨oc,od,.func (W.fnOf nm nm (iC st) (d7 st) (aF st) .none kV dc pm an cd ct),sl⟩) (c:W.codeIn K cd nm=true) (k:W.keepIn K (.ref f)=true)
inductive MF(K:W.Frag)(C:Addr)(m qual:Str)(st:Stmt):Prop
 |mk {f:Addr} {od an:Option Addr} {sl:Array (Option Value)} {oc kV dc pm cd ct:Value} (a:W.findIn K (.ref C) m=some (some (.ref f))) (i:W.isFn K (.ref f)=true)
  (l:K.lookup f=some ⟨oc,od,.func (W.fnOf m qual (iC st) (d7 st) (aF st) .none kV dc pm an cd ct),sl⟩) (c:W.codeIn K cd qual=true) (k:W.keepIn K (.ref f)=true)
noncomputable abbrev BV(x qual:Str)(st:Stmt)(ps:List Str):Prop:=∀(kV doc pm:Value) (an:Option Addr) (cdv ct:Value) (us:List Value),us.length=ps.length->bindArgs (W.fnOf x qual (iC st) (d7 st) (aF st) .none kV doc pm an cdv ct) ⟨us,[]⟩=pure (ps.zip us)
theorem Nz{n:Nat}{p:List Value->Prop}(h:∀(a:Value) (us:List Value),us.length=n->p (a::us)):∀us:List Value,us.length=n+1->p us
 | [],e=>by cases e
 |a::us,e=>h a us (Nat.succ.inj e)
theorem O0{p:List Value->Prop}(h:p []):∀us:List Value,us.length=0->p us
 | [],_=>h
 |_::_,e=>by cases e
theorem DF.at{K:W.Frag}{mg:Str->Option Value}{x nm:Str}{st:Stmt}{ps:List Str}(d:DF K mg x nm st)(h:BV nm nm st ps:=by intro _ _ _ _ _ _;(repeat refine Z.Nz fun _=>?_);exact Z.O0 rfl):At K mg x nm st ps:=by
 obtain⟨a,l,c,k⟩:=d
 have F:=wG l c k
 exact⟨_,_,a,F,F.binds h⟩
theorem MF.at{K:W.Frag}{C:Addr}{m qual:Str}{st:Stmt}{ps:List Str}(d:MF K C m qual st)(h:BV m qual st ps:=by intro _ _ _ _ _ _;(repeat refine Z.Nz fun _=>?_);exact Z.O0 rfl):MAt K C m qual st ps:=by
 obtain⟨a,i,l,c,k⟩:=d
 have F:=wG l c k
 exact⟨_,_,⟨a,i,k⟩,F,F.binds h⟩
theorem MF.ini{K:W.Frag}{mg:Str->Option Value}{C:Addr}{x qual:Str}{st:Stmt}{ps:List Str}(d:MF K C "__init__" qual st)(e:mg x=some (.ref C))(mk:W.makesIn K C=true)(kc:W.keepIn K (.ref C)=true)
  (h:BV "__init__" qual st ps:=by intro _ _ _ _ _ _;(repeat refine Z.Nz fun _=>?_);exact Z.O0 rfl):IAt K mg x C qual st ps:=by
 obtain⟨a,i,l,c,k⟩:=d
 have F:=wG l c k
 exact⟨_,_,⟨mk,a,i,kc⟩,e,F,F.binds h⟩
theorem OW{mg:Str->Option Value}{x:Str}{n:Int}{t:Tok}(h:mg x=some (.int n t)):∃t,mg x=some (.int n t):=⟨_,h⟩
end Z
local macro_rules | `(tactic| ac_nf)=>`(tactic| simp only[↓Z.zt,Z.zo,Z.zc,Z.jQ,Nat.reduceSub,Nat.reduceAdd,↓reduceIte,Int.reduceEq,Int.reduceMul,Int.reduceAdd,Int.reduceSub,Int.reduceNeg,Z.guard,Int.reduceLT,Int.reduceLE,Int.reduceToNat,Int.reducePow,Nat.reduceLT,Nat.reduceLeDiff,Nat.reducePow,Z.xN,↓Z.MY,↓Z.rO,↓Z.G7,↓Z.pJ])
local macro_rules | `(tactic| push_cast [$xs,*])=>`(tactic| simp only[↓Z.zt,Z.zo,Z.zc,Z.jQ,Nat.reduceSub,Nat.reduceAdd,↓reduceIte,Int.reduceEq,Int.reduceMul,Int.reduceAdd,Int.reduceSub,Int.reduceNeg,Z.guard,Int.reduceLT,Int.reduceLE,Int.reduceToNat,Int.reducePow,Nat.reduceLT,Nat.reduceLeDiff,Nat.reducePow,Z.xN,↓Z.MY,↓Z.rO,↓Z.G7,↓Z.pJ,$xs,*])
namespace Lw
open L2 Z
noncomputable def top(i:Nat):Stmt:=PySem.Challenge.pw_slantfloor_k22_whole_cover.main.body.getD i (.Pass ⟨0,0,0,0⟩)
noncomputable abbrev kM:cD:=
 (cA (aQ cM (aQ cM (GI (a9 1) fU (kX (a9 2))) (gA (aA (aQ cO (a9 1) (aQ cM (a9 2) (eC (.int 1)))) (aA (aQ cO (a9 1) (a9 2)) aG)))) (GI (a9 1) (kX (aQ cM (a9 2) (eC (.int 2)))) fU)))
section
variable {P:Program} {w:World} {K:W.Frag} {mg:Str->Option Value} {base:Heap}
local macro_rules | `(tactic| norm_cast)=>`(tactic| exact⟨rfl,rfl,rfl,by decide +kernel,rfl,by decide +kernel,by decide +kernel⟩)
theorem wT(P:Program)(w:World){K:W.Frag}(mg:Str->Option Value)(base:Heap){sp:Fn}(m:At K mg "exchanged" "exchanged" (top 7) ["sides", "path", "p"])(len:∀ds Q,sp ds Q->ds.length=3)(hsp:∀ds Q,sp ds Q->kM  ↥Q (aJ ["sides", "path", "p"] ds)):Def P w K mg base 1 "exchanged" ["sides", "path", "p"] (low K sp):=by
 have sc:FnScope ["sides", "path", "p"] ["sides", "path", "p"] (aF (top 7)):=by norm_cast
 refine m.okP (k:=0) (t:=kM ) sc (fun f cdv A outer s H E hr=>?_) len hsp
 ·
  have hu1:=dR hr
  exact(aH (bD (aX bC (aX bC (jT (a7 1 (pv 1)) jS (jR (a7 2 (pv 2)))) (f9 (a8 (bN hu1 (a7 1 (pv 1)) (aX bC (a7 2 (pv 2)) aI)) (a8 (bN hu1 (a7 1 (pv 1)) (a7 2 (pv 2))) aE)))) (jT (a7 1 (pv 1)) (jR (aX bC (a7 2 (pv 2)) aI)) jS))))
noncomputable abbrev oU:cD:=
 (cA (fT (aA (aQ cO (a9 0) (a9 1)) (aA (aQ cO (a9 0) (aQ cM (a9 1) (eC (.int 1)))) (aA (dM dX (aA (dM cP (aA (GI (a9 0) fU (kX (a9 1))) aG)) aG)) aG)))))
theorem BD(P:Program)(w:World){K:W.Frag}(mg:Str->Option Value)(base:Heap){sp:Fn}(m:At K mg "tile_at" "tile_at" (top 11) ["path", "p"])(bA:mg "sorted" = none)(bK:mg "tuple" = none)(len:∀ds Q,sp ds Q->ds.length=2)(hsp:∀ds Q,sp ds Q->oU  ↥Q (aJ ["path", "p"] ds)):Def P w K mg base 1 "tile_at" ["path", "p"] (low K sp):=by
 have sc:FnScope ["path", "p"] ["path", "p"] (aF (top 11)):=by norm_cast
 refine m.okP (k:=0) (t:=oU ) sc (fun f cdv A outer s H E hr=>?_) len hsp
 ·
  have hu1:=dR hr
  exact(aH (bD (eN (a8 (bN hu1 (a7 0 (pv 0)) (a7 1 (pv 1))) (a8 (bN hu1 (a7 0 (pv 0)) (aX bC (a7 1 (pv 1)) aI)) (a8 (d4 fY rfl bK boot_tuple (a8 (aT fB rfl bA boot_sorted (a8 (jT (a7 0 (pv 0)) jS (jR (a7 1 (pv 1)))) aE)) aE)) aE))))))
noncomputable abbrev mG:cD:=
 (cA (sS (tP "int" (a9 0)) (zQ (tP "bool" (a9 0)))))
theorem zV(P:Program)(w:World){K:W.Frag}(mg:Str->Option Value)(base:Heap){sp:Fn}(m:At K mg "is_whole" "is_whole" (top 15) ["thing"])(bB:mg "isinstance" = none)(u6:mg "int" = none)(oS:mg "bool" = none)(len:∀ds Q,sp ds Q->ds.length=1)(hsp:∀ds Q,sp ds Q->mG  ↥Q (aJ ["thing"] ds)):Def P w K mg base 1 "is_whole" ["thing"] (low K sp):=by
 have sc:FnScope ["thing"] ["thing"] (aF (top 15)):=by norm_cast
 refine m.okP (k:=0) (t:=mG ) sc (fun f cdv A outer s H E hr=>?_) len hsp
 ·
  exact(aH (bD (Bg (rT (.inl rfl) rfl bB (a7 0 (pv 0)) (jV (v:=.ty "int") rfl u6 boot_int rfl)) (y7 (Ii (rT (.inr (.inl rfl)) rfl bB (a7 0 (pv 0)) (jV (v:=.ty "bool") rfl oS boot_bool rfl)))))))
noncomputable abbrev eV(gJ:Fn):cD:=
 (aS (jJ (GJ (kY (lT (tP "tuple" (a9 0)))) (bU (aQ Cv (dM e5 (aA (a9 0) aG)) (eC (.int 3))))) (cA (eC (.bl false))) c9)
 (cA (dM F5 (aA (fV 1 [] (iN (a9 0)) (gN 0) fM (bQ gJ (aA (a9 0) aG))) aG))))
theorem lU(P:Program)(w:World){K:W.Frag}(mg:Str->Option Value)(base:Heap){gJ:Fn}{sp:Fn}(m:At K mg "has_three_wholes" "has_three_wholes" (top 21) ["direction"])(bB:mg "isinstance" = none)(bK:mg "tuple" = none)(bI:mg "len" = none)(Dq:mg "all" = none)(n0:Def P w K mg base 1 "is_whole" ["thing"] (low K gJ))(zA:MonoF gJ)(len:∀ds Q,sp ds Q->ds.length=1)(hsp:∀ds Q,sp ds Q->eV gJ ↥Q (aJ ["direction"] ds)):Def P w K mg base 2 "has_three_wholes" ["direction"] (low K sp):=by
 have sc:FnScope ["direction"] ["direction"] (aF (top 21)):=by norm_cast
 refine m.okP (k:=1) (t:=eV gJ) sc (fun f cdv A outer s H E hr=>?_) len hsp
 ·
  have hu:=hr.units
  exact(aB (eH (QW.qt (pW (fN (gE (rT (.inr (.inr (.inl rfl))) rfl bB (a7 0 (pv 0)) (jV (v:=.ty "tuple") rfl bK boot_tuple rfl)))) (p5 (c7 (vP hu) (aT cR rfl bI boot_len (a8 (a7 0 (pv 0)) aE)) aI)))) (aH (bD mK)) bT)
 (aH (bD (aT (Kv rfl) rfl Dq boot_all (a8 (y8 ["part"] [] [] rfl (dW (a7 0 (pv 0))) (fun fp s H=>(hG (i:=0) (k:=1) (show List.Nodup (["part"]:List Str) by decide +kernel) rfl (.inl rfl))) (fun fp s H=>i9) (fun fp s H=>(bE n0 zA (hr.mono ∅) (a8 (a7 0 (pv 0)) aE)))) aE)))))
noncomputable abbrev fJ:cD:=
 (cA (sS (aQ L5 (dM Ak (aA (aQ cO (a9 0) (eC (.int 0))) aG)) (eC (.int 999999999999))) (aQ L5 (dM Ak (aA (aQ cO (a9 0) (eC (.int 1))) aG)) (eC (.int 999999999999)))))
theorem mT(P:Program)(w:World){K:W.Frag}(mg:Str->Option Value)(base:Heap){sp:Fn}(m:At K mg "has_few_figures" "has_few_figures" (top 22) ["direction"])(qX:mg "abs" = none)(fI:∃t,mg "LARGEST_PART" = some (.int 999999999999 t))(len:∀ds Q,sp ds Q->ds.length=1)(hsp:∀ds Q,sp ds Q->fJ  ↥Q (aJ ["direction"] ds)):Def P w K mg base 1 "has_few_figures" ["direction"] (low K sp):=by
 have sc:FnScope ["direction"] ["direction"] (aF (top 22)):=by norm_cast
 refine m.okP (k:=0) (t:=fJ ) sc (fun f cdv A outer s H E hr=>?_) len hsp
 ·
  have hu1:=dR hr
  exact(aH (bD (Bg (jB Am (aT BN rfl qX boot_abs (a8 (bN hu1 (a7 0 (pv 0)) aI) aE)) (o0 fI)) (y7 (jB Am (aT BN rfl qX boot_abs (a8 (bN hu1 (a7 0 (pv 0)) aI) aE)) (o0 fI))))))
noncomputable abbrev kE:cD:=
 (cA (IB (aQ Gb (aQ cO (a9 0) (eC (.int 1))) (eC (.int 0))) (sS (aQ tD (aQ cO (a9 0) (eC (.int 1))) (eC (.int 0))) (aQ Gb (aQ cO (a9 0) (eC (.int 0))) (eC (.int 0))))))
theorem wL(P:Program)(w:World){K:W.Frag}(mg:Str->Option Value)(base:Heap){sp:Fn}(m:At K mg "points_up" "points_up" (top 23) ["direction"])(len:∀ds Q,sp ds Q->ds.length=1)(hsp:∀ds Q,sp ds Q->kE  ↥Q (aJ ["direction"] ds)):Def P w K mg base 1 "points_up" ["direction"] (low K sp):=by
 have sc:FnScope ["direction"] ["direction"] (aF (top 23)):=by norm_cast
 refine m.okP (k:=0) (t:=kE ) sc (fun f cdv A outer s H E hr=>?_) len hsp
 ·
  have hu:=hr.units
  have hu1:=dR hr
  exact(aH (bD (Nf (jB mO (bN hu1 (a7 0 (pv 0)) aI) aI) (y7 (Bg (jB (iH hu) (bN hu1 (a7 0 (pv 0)) aI) aI) (y7 (jB mO (bN hu1 (a7 0 (pv 0)) aI) aI)))))))
noncomputable abbrev kF:cD:=
 (cA (aQ Gb (aQ fF (aQ eI (aQ cO (a9 1) (eC (.int 0))) (aQ cO (a9 0) (eC (.int 1)))) (aQ eI (aQ cO (a9 0) (eC (.int 0))) (aQ cO (a9 1) (eC (.int 1))))) (eC (.int 0))))
theorem wM(P:Program)(w:World){K:W.Frag}(mg:Str->Option Value)(base:Heap){sp:Fn}(m:At K mg "lies_left" "lies_left" (top 24) ["direction", "ahead"])(len:∀ds Q,sp ds Q->ds.length=2)(hsp:∀ds Q,sp ds Q->kF  ↥Q (aJ ["direction", "ahead"] ds)):Def P w K mg base 1 "lies_left" ["direction", "ahead"] (low K sp):=by
 have sc:FnScope ["direction", "ahead"] ["direction", "ahead"] (aF (top 24)):=by norm_cast
 refine m.okP (k:=0) (t:=kF ) sc (fun f cdv A outer s H E hr=>?_) len hsp
 ·
  have hu1:=dR hr
  exact(aH (bD (jB mO (aX cX (aX cF (bN hu1 (a7 1 (pv 1)) aI) (bN hu1 (a7 0 (pv 0)) aI)) (aX cF (bN hu1 (a7 0 (pv 0)) aI) (bN hu1 (a7 1 (pv 1)) aI))) aI)))
noncomputable abbrev fK(cH cL fC:Fn):cD:=
 (aS (jJ (kY (lT (bQ cH (aA (a9 0) aG)))) gC c9)
 (aS (jJ (kY (lT (bQ cL (aA (a9 0) aG)))) gC c9)
 (aS (jJ (kY (lT (bQ fC (aA (a9 0) aG)))) gC c9)
 (jJ (bU (aQ HQ (aQ cO (a9 0) (eC (.int 2))) (eC (.int 1)))) gC c9))))
theorem mU(P:Program)(w:World){K:W.Frag}(mg:Str->Option Value)(base:Heap){cH cL fC:Fn}{sp:Fn}(m:At K mg "check_direction" "check_direction" (top 25) ["direction"])(eY:Def P w K mg base 2 "has_three_wholes" ["direction"] (low K cH))(lR:MonoF cH)(fW:Def P w K mg base 1 "has_few_figures" ["direction"] (low K cL))(mQ:MonoF cL)(kZ:Def P w K mg base 1 "points_up" ["direction"] (low K fC))(vR:MonoF fC)(len:∀ds Q,sp ds Q->ds.length=1)(hsp:∀ds Q,sp ds Q->fK cH cL fC ↥Q (aJ ["direction"] ds)):Def P w K mg base 3 "check_direction" ["direction"] (low K sp):=by
 have sc:FnScope ["direction"] ["direction"] (aF (top 25)):=by norm_cast
 refine m.okP (k:=2) (t:=fK cH cL fC) sc (fun f cdv A outer s H E hr=>?_) len hsp
 ·
  have hu1:=dR hr
  exact(aB (eH (fN (gE (bE eY lR (hr.mono ∅) (a8 (a7 0 (pv 0)) aE)))) (aH gK) bT)
 (aB (eH (fN (gE (bE fW mQ (hr.mono ∅) (a8 (a7 0 (pv 0)) aE)))) (aH gK) bT)
 (aB (eH (fN (gE (bE kZ vR (hr.mono ∅) (a8 (a7 0 (pv 0)) aE)))) (aH gK) bT)
 (aH (eH (c7 pB (bN hu1 (a7 0 (pv 0)) aI) aI) (aH gK) bT)))))
noncomputable abbrev hW(bG cU:Fn):cD:=
 (xZ (bQ bG (aA (a9 1) aG)))
noncomputable abbrev eG(bG cU:Fn):cD:=
 (jJ (kY (lT (bQ cU (aA (a9 1) (aA (a9 2) aG))))) gC c9)
noncomputable abbrev eW(bG cU:Fn):cD:=
 (aS (jJ (kY (lT (tP "list" (a9 0)))) gC c9)
 (aS (jJ (kY (bU (pK L5 L5 (eC (.int 2)) (dM e5 (aA (a9 0) aG)) (eC (.int 6))))) gC c9)
 (aS (h9 (iN (a9 0)) (gN 1) (hW bG cU))
 (aS (jJ (bU (aQ Gb (dM Aj (aA (fV 1 [] (iN (a9 0)) (gN 0) fM (aQ cO (a9 0) (eC (.int 2)))) aG)) (eC (.int 12)))) gC c9)
 (h9 (zM (aA (a9 0) (aA (GI (a9 0) (kX (eC (.int 1))) fU) aG))) (gT [2,1]) (eG bG cU))))))
theorem lV(P:Program)(w:World){K:W.Frag}(mg:Str->Option Value)(base:Heap){bG cU:Fn}{sp:Fn}(m:At K mg "check_directions" "check_directions" (top 26) ["directions"])(bB:mg "isinstance" = none)(cK:mg "list" = none)(bI:mg "len" = none)(qW:mg "sum" = none)(u4:mg "zip" = none)(eK:∃t,mg "FEWEST_DIRECTIONS" = some (.int 2 t))(fH:∃t,mg "MOST_DIRECTIONS" = some (.int 6 t))(jL:∃t,mg "MOST_BANDS" = some (.int 12 t))(fX:Def P w K mg base 3 "check_direction" ["direction"] (low K bG))(mR:MonoF bG)(l4:Def P w K mg base 1 "lies_left" ["direction", "ahead"] (low K cU))(vS:MonoF cU)(len:∀ds Q,sp ds Q->ds.length=1)(hsp:∀ds Q,sp ds Q->eW bG cU ↥Q (aJ ["directions", "direction", "ahead"] ds)):Def P w K mg base 4 "check_directions" ["directions"] (low K sp):=by
 have sc:FnScope ["directions", "direction", "ahead"] ["directions"] (aF (top 26)):=by norm_cast
 refine m.okP (k:=3) (t:=eW bG cU) sc (fun f cdv A outer s H E hr=>?_) len hsp
 ·
  have hu1:=dR hr
  exact(aB (eH (fN (gE (rT (.inr (.inr (.inr (.inl rfl)))) rfl bB (a7 0 (pv 0)) (jV (v:=.ty "list") rfl cK boot_list rfl)))) (aH gK) bT)
 (aB (eH (fN (EJ F8 F8 (o0 eK) (aT cR rfl bI boot_len (a8 (a7 0 (pv 0)) aE)) (o0 fH))) (aH gK) bT)
 (aB (e9 PassesOwn.never rfl (dW (a7 0 (pv 0))) (hG (i:=1) (k:=3) sc.nd rfl (.inl rfl)) (aH (EN (bE fX mR (hr.mono ∅) (a8 (a7 1 (pv 1)) aE)))))
 (aB (eH (c7 mO (aT (BK rfl) rfl qW boot_sum (a8 (y8 ["direction"] [] [] rfl (dW (a7 0 (pv 0))) (fun fp s H=>(hG (i:=0) (k:=1) (show List.Nodup (["direction"]:List Str) by decide +kernel) rfl (.inl rfl))) (fun fp s H=>i9) (fun fp s H=>(bN hu1 (a7 0 (pv 0)) aI))) aE)) (o0 jL)) (aH gK) bT)
 (aH (e9 PassesOwn.never rfl (EM rfl u4 (a8 (a7 0 (pv 0)) (a8 (jT (a7 0 (pv 0)) (jR aI) jS) aE))) (tF (k:=3) (is:=[2,1]) rfl (bL (c6 (i:=2) sc.nd rfl (.inl rfl)) (bL (c6 (i:=1) sc.nd rfl (.inl rfl)) gL))) (aH (eH (fN (gE (bE l4 vS (hr.mono ∅) (a8 (a7 1 (pv 1)) (a8 (a7 2 (pv 2)) aE))))) (aH gK) bT))))))))
noncomputable abbrev oN(C:Addr)(bR:Fn):cD:=
 (Cg 2 (aQ eI (gA (aA (a9 3) aG)) (aQ cO (a9 4) (eC (.int 2)))))
noncomputable abbrev AM(C:Addr)(bR:Fn):cD:=
 (aS (xZ (bQ bR (aA (a9 1) aG)))
 (aS (kR 2 (gA aG))
 (aS (h9 (sM (aA (a9 1) aG)) (gT [3,4]) (oN C bR))
 (aS (rP C 0 "kinds" (dM dX (aA (a9 2) aG)))
 (rP C 0 "vectors" (dM dX (aA (fV 1 [] (iN (a9 1)) (gN 0) fM (fT (aA (aQ cO (a9 0) (eC (.int 0))) (aA (aQ cO (a9 0) (eC (.int 1))) aG)))) aG)))))))
theorem IH(P:Program)(w:World){K:W.Frag}(mg:Str->Option Value)(base:Heap){C:Addr}{bR:Fn}{sp:Fn}(m:IAt K mg "Sides" C "Sides.__init__" (cQ (top 27) 0) ["self", "directions"])(f7:mg "enumerate" = none)(bK:mg "tuple" = none)(cl:Cls K C)(eT:g6 K C "kinds")(iE:g6 K C "vectors")(eZ:Def P w K mg base 4 "check_directions" ["directions"] (low K bR))(lS:MonoF bR)(len:∀ds Q,sp ds Q->ds.length+1=2)(hsp:∀ds Q,sp ds Q -> ∀a,AM C bR { nx:=fun ρ=>∃d,ρ[0]?=some (.own a d)/\Q (.nw d),rt:=fun _=>False } (i5 C a ["self", "directions", "kinds", "number", "direction"] ds)):IDef P w K mg base 5 "Sides" C ["self", "directions"] sp:=by
 have sc:FnScope ["self", "directions", "kinds", "number", "direction"] ["self", "directions"] (aF (cQ (top 27) 0)):=by norm_cast
 refine m.okP (k:=4) (t:=AM C bR) sc (fun f cdv A outer s H E hr=>?_) len hsp
 ·
  have hu1:=dR hr
  exact(aB (EN (bE eZ lS (hr.mono ∅) (a8 (a7 1 (pv 1)) aE)))
 (aB (kT (i:=2) sc.nd rfl (.inl rfl) (f9 aE))
 (aB (e9 PassesOwn.never rfl (Bc rfl f7 (a8 (a7 1 (pv 1)) aE)) (tF (k:=5) (is:=[3,4]) rfl (bL (c6 (i:=3) sc.nd rfl (.inl rfl)) (bL (c6 (i:=4) sc.nd rfl (.inl rfl)) gL))) (aH (Lk (i:=2) (pv 2) (aX cF (f9 (a8 (a7 3 (pv 3)) aE)) (bN hu1 (a7 4 (pv 4)) aI)))))
 (aB (EO (i:=0) cl eT (pv 0) (d4 fY rfl bK boot_tuple (a8 (a7 2 (pv 2)) aE)))
 (aH (EO (i:=0) cl iE (pv 0) (d4 fY rfl bK boot_tuple (a8 (y8 ["direction"] [] [] rfl (dW (a7 1 (pv 1))) (fun fp s H=>(hG (i:=0) (k:=1) (show List.Nodup (["direction"]:List Str) by decide +kernel) rfl (.inl rfl))) (fun fp s H=>i9) (fun fp s H=>(eN (a8 (bN hu1 (a7 0 (pv 0)) aI) (a8 (bN hu1 (a7 0 (pv 0)) aI) aE))))) aE))))))))
noncomputable abbrev AI(C:Addr):cD:=
 (cA (dM e5 (aA (BB C "kinds" (a9 0)) aG)))
theorem ID(P:Program)(w:World){K:W.Frag}(mg:Str->Option Value)(base:Heap){C:Addr}{sp:Fn}(m:MAt K C "many" "Sides.many" (cQ (top 27) 1) ["self"])(bI:mg "len" = none)(cl:Cls K C)(eT:g6 K C "kinds")(len:∀ds Q,sp ds Q->ds.length=1)(hsp:∀ds Q,sp ds Q->AI C  ↥Q (aJ ["self"] ds)):MDef P w K mg base 1 C "many" ["self"] (low K sp):=by
 have sc:FnScope ["self"] ["self"] (aF (cQ (top 27) 1)):=by norm_cast
 refine m.okP (k:=0) (t:=AI C ) sc (fun f cdv A outer s H E hr=>?_) len hsp
 ·
  exact(aH (bD (aT cR rfl bI boot_len (a8 (Bd cl eT (a7 0 (pv 0))) aE))))
noncomputable abbrev AL(C:Addr):cD:=
 (cA (aQ cO (BB C "kinds" (a9 0)) (a9 1)))
theorem IG(P:Program)(w:World){K:W.Frag}(mg:Str->Option Value)(base:Heap){C:Addr}{sp:Fn}(m:MAt K C "kind" "Sides.kind" (cQ (top 27) 2) ["self", "band"])(cl:Cls K C)(eT:g6 K C "kinds")(len:∀ds Q,sp ds Q->ds.length=2)(hsp:∀ds Q,sp ds Q->AL C  ↥Q (aJ ["self", "band"] ds)):MDef P w K mg base 1 C "kind" ["self", "band"] (low K sp):=by
 have sc:FnScope ["self", "band"] ["self", "band"] (aF (cQ (top 27) 2)):=by norm_cast
 refine m.okP (k:=0) (t:=AL C ) sc (fun f cdv A outer s H E hr=>?_) len hsp
 ·
  have hu1:=dR hr
  exact(aH (bD (bN hu1 (Bd cl eT (a7 0 (pv 0))) (a7 1 (pv 1)))))
noncomputable abbrev E5(C:Addr)(g4:Fn):cD:=
 (aS (jJ (GJ (bU (aQ HQ (a9 2) (eC (.int 0)))) (bU (aQ Gb (a9 2) (aQ fF (dM e5 (aA (a9 1) aG)) (eC (.int 2)))))) (cA (eC (.bl false))) c9)
 (cA (aQ HQ (iU C "kind" g4 (a9 0) (aA (aQ cO (a9 1) (a9 2)) aG)) (iU C "kind" g4 (a9 0) (aA (aQ cO (a9 1) (aQ cM (a9 2) (eC (.int 1)))) aG)))))
theorem Kp(P:Program)(w:World){K:W.Frag}(mg:Str->Option Value)(base:Heap){C:Addr}{g4:Fn}{sp:Fn}(m:At K mg "can" "can" (top 6) ["sides", "path", "p"])(bI:mg "len" = none)(cl:Cls K C)(mZ:MDef P w K mg base 1 C "kind" ["self", "band"] (low K g4))(jX:MonoF g4)(len:∀ds Q,sp ds Q->ds.length=3)(hsp:∀ds Q,sp ds Q->E5 C g4 ↥Q (aJ ["sides", "path", "p"] ds)):Def P w K mg base 2 "can" ["sides", "path", "p"] (low K sp):=by
 have sc:FnScope ["sides", "path", "p"] ["sides", "path", "p"] (aF (top 6)):=by norm_cast
 refine m.okP (k:=1) (t:=E5 C g4) sc (fun f cdv A outer s H E hr=>?_) len hsp
 ·
  have hu1:=dR hr
  exact(aB (eH (QW.qt (pW (c7 pB (a7 2 (pv 2)) aI) (p5 (c7 mO (a7 2 (pv 2)) (aX cX (aT cR rfl bI boot_len (a8 (a7 1 (pv 1)) aE)) aI))))) (aH (bD mK)) bT)
 (aH (bD (jB pB (rS cl mZ jX (hr.mono ∅) (a7 0 (pv 0)) (a8 (bN hu1 (a7 1 (pv 1)) (a7 2 (pv 2))) aE)) (rS cl mZ jX (hr.mono ∅) (a7 0 (pv 0)) (a8 (bN hu1 (a7 1 (pv 1)) (aX bC (a7 2 (pv 2)) aI)) aE))))))
noncomputable abbrev r8(C:Addr):cD:=
 (cA (aQ cO (BB C "vectors" (a9 0)) (aQ cO (BB C "kinds" (a9 0)) (a9 1))))
theorem Dc(P:Program)(w:World){K:W.Frag}(mg:Str->Option Value)(base:Heap){C:Addr}{sp:Fn}(m:MAt K C "vector" "Sides.vector" (cQ (top 27) 3) ["self", "band"])(cl:Cls K C)(iE:g6 K C "vectors")(eT:g6 K C "kinds")(len:∀ds Q,sp ds Q->ds.length=2)(hsp:∀ds Q,sp ds Q->r8 C  ↥Q (aJ ["self", "band"] ds)):MDef P w K mg base 1 C "vector" ["self", "band"] (low K sp):=by
 have sc:FnScope ["self", "band"] ["self", "band"] (aF (cQ (top 27) 3)):=by norm_cast
 refine m.okP (k:=0) (t:=r8 C ) sc (fun f cdv A outer s H E hr=>?_) len hsp
 ·
  have hu1:=dR hr
  exact(aH (bD (bN hu1 (Bd cl iE (a7 0 (pv 0))) (bN hu1 (Bd cl eT (a7 0 (pv 0))) (a7 1 (pv 1))))))
noncomputable abbrev rA(C:Addr)(iL:Fn):cD:=
 (aS (bV 2 (dM Aj (aA (fV 1 [0] (iN (a9 1)) (gN 0) fM (aQ cO (iU C "vector" iL (a9 1) (aA (a9 0) aG)) (eC (.int 0)))) aG)))
 (aS (bV 3 (dM Aj (aA (fV 1 [0] (iN (a9 1)) (gN 0) fM (aQ cO (iU C "vector" iL (a9 1) (aA (a9 0) aG)) (eC (.int 1)))) aG)))
 (cA (fT (aA (a9 2) (aA (a9 3) aG))))))
theorem Dd(P:Program)(w:World){K:W.Frag}(mg:Str->Option Value)(base:Heap){C:Addr}{iL:Fn}{sp:Fn}(m:At K mg "corner" "corner" (top 10) ["sides", "below"])(qW:mg "sum" = none)(cl:Cls K C)(oJ:MDef P w K mg base 1 C "vector" ["self", "band"] (low K iL))(uI:MonoF iL)(len:∀ds Q,sp ds Q->ds.length=2)(hsp:∀ds Q,sp ds Q->rA C iL ↥Q (aJ ["sides", "below", "x", "y"] ds)):Def P w K mg base 2 "corner" ["sides", "below"] (low K sp):=by
 have sc:FnScope ["sides", "below", "x", "y"] ["sides", "below"] (aF (top 10)):=by norm_cast
 refine m.okP (k:=1) (t:=rA C iL) sc (fun f cdv A outer s H E hr=>?_) len hsp
 ·
  have hu1:=dR hr
  exact(aB (bS (i:=2) sc.nd rfl (.inl rfl) (aT (BK rfl) rfl qW boot_sum (a8 (y8 ["band"] ["sides"] [0] rfl (dW (a7 1 (pv 1))) (fun fp s H=>(hG (i:=0) (k:=1) (show List.Nodup (["band", "sides"]:List Str) by decide +kernel) rfl (.inl rfl))) (fun fp s H=>i9) (fun fp s H=>(bN hu1 (rS cl oJ uI (hr.mono ∅) (a7 1 (pv 1)) (a8 (a7 0 (pv 0)) aE)) aI))) aE)))
 (aB (bS (i:=3) sc.nd rfl (.inl rfl) (aT (BK rfl) rfl qW boot_sum (a8 (y8 ["band"] ["sides"] [0] rfl (dW (a7 1 (pv 1))) (fun fp s H=>(hG (i:=0) (k:=1) (show List.Nodup (["band", "sides"]:List Str) by decide +kernel) rfl (.inl rfl))) (fun fp s H=>i9) (fun fp s H=>(bN hu1 (rS cl oJ uI (hr.mono ∅) (a7 1 (pv 1)) (a8 (a7 0 (pv 0)) aE)) aI))) aE)))
 (aH (bD (eN (a8 (a7 2 (pv 2)) (a8 (a7 3 (pv 3)) aE)))))))
noncomputable abbrev v6(C:Addr)(gI:Fn):cD:=
 (cA (BA (aA (iU C "many" gI (a9 0) aG) aG)))
theorem GM(P:Program)(w:World){K:W.Frag}(mg:Str->Option Value)(base:Heap){C:Addr}{gI:Fn}{sp:Fn}(m:MAt K C "first" "Sides.first" (cQ (top 27) 5) ["self"])(cK:mg "list" = none)(b9:mg "range" = none)(cl:Cls K C)(pP:MDef P w K mg base 1 C "many" ["self"] (low K gI))(lM:MonoF gI)(len:∀ds Q,sp ds Q->ds.length=1)(hsp:∀ds Q,sp ds Q->v6 C gI ↥Q (aJ ["self"] ds)):MDef P w K mg base 2 C "first" ["self"] (low K sp):=by
 have sc:FnScope ["self"] ["self"] (aF (cQ (top 27) 5)):=by norm_cast
 refine m.okP (k:=1) (t:=v6 C gI) sc (fun f cdv A outer s H E hr=>?_) len hsp
 ·
  exact(aH (bD (iA rfl rfl cK rfl b9 (a8 (qP cl pP lM (hr.mono ∅) (a7 0 (pv 0))) aE))))
noncomputable abbrev AJ(C:Addr)(gI g4:Fn):cD:=
 (cA (B8 0 (aA (iU C "many" gI (a9 0) aG) aG) (B9 (iU C "kind" g4 (a9 1) (aA (a9 0) aG)))))
theorem IE(P:Program)(w:World){K:W.Frag}(mg:Str->Option Value)(base:Heap){C:Addr}{gI g4:Fn}{sp:Fn}(m:MAt K C "last" "Sides.last" (cQ (top 27) 6) ["self"])(bA:mg "sorted" = none)(b9:mg "range" = none)(cl:Cls K C)(pP:MDef P w K mg base 1 C "many" ["self"] (low K gI))(lM:MonoF gI)(mZ:MDef P w K mg base 1 C "kind" ["self", "band"] (low K g4))(jX:MonoF g4)(ld:LamDef K mg base C "last" ("Sides.last" ++ ".<locals>." ++ "<lambda>"))(len:∀ds Q,sp ds Q->ds.length=1)(hsp:∀ds Q,sp ds Q->AJ C gI g4 ↥Q (aJ ["self"] ds)):MDef P w K mg base 3 C "last" ["self"] (low K sp):=by
 have sc:FnScope ["self"] ["self"] (aF (cQ (top 27) 6)):=by norm_cast
 refine m.okL (k:=2) (t:=AJ C gI g4) sc ld (fun f cdv A outer s H E hr c Pt lcx ltab=>?_) len hsp
 ·
  exact(aH (bD (Gr (k:=1) (i:=0) (x:="band") (y:="self") rfl rfl bA rfl b9 (a8 (qP cl pP lM (hr.mono ∅) (a7 0 (pv 0))) aE) (hr.mono ∅) lcx ltab ⟨fun _ _ _ _ _ _ _=>rfl,rfl,rfl,rfl,by decide +kernel,rfl,rfl,by decide +kernel,rfl,rfl,rfl⟩ rfl rfl rfl (fun f c' A s H hr=>(Bb (rS cl mZ jX (hr.mono ∅) (a7 1 (pv 1)) (a8 (a7 0 (pv 0)) aE)))))))
noncomputable abbrev pS(C:Addr)(qD dH iX lA:Fn):cD:=
 (aS (jJ (kY (lT (bQ qD (aA (a9 0) (aA (a9 2) (aA (a9 5) aG)))))) gC c9)
 (aS (bV 2 (bQ dH (aA (a9 0) (aA (a9 2) (aA (a9 5) aG)))))
 (qG 3 (a9 2))))
noncomputable abbrev v5(C:Addr)(qD dH iX lA:Fn):cD:=
 (aS (bV 2 (iU C "first" iX (a9 0) aG))
 (aS (kR 3 (gA (aA (a9 2) aG)))
 (aS (h9 (sM (aA (a9 1) aG)) (gT [4,5]) (pS C qD dH iX lA))
 (aS (jJ (bU (aQ Cv (a9 2) (iU C "last" lA (a9 0) aG))) gC c9)
 (cA (a9 3))))))
theorem GL(P:Program)(w:World){K:W.Frag}(mg:Str->Option Value)(base:Heap){C:Addr}{qD dH iX lA:Fn}{sp:Fn}(m:At K mg "paths" "paths" (top 8) ["sides", "row"])(f7:mg "enumerate" = none)(cl:Cls K C)(GO:Def P w K mg base 2 "can" ["sides", "path", "p"] (low K qD))(As:MonoF qD)(l9:Def P w K mg base 1 "exchanged" ["sides", "path", "p"] (low K dH))(w5:MonoF dH)(wV:MDef P w K mg base 2 C "first" ["self"] (low K iX))(sE:MonoF iX)(BH:MDef P w K mg base 3 C "last" ["self"] (low K lA))(vZ:MonoF lA)(len:∀ds Q,sp ds Q->ds.length=2)(hsp:∀ds Q,sp ds Q->v5 C qD dH iX lA ↥Q (aJ ["sides", "row", "path", "told", "step", "p"] ds)):Def P w K mg base 4 "paths" ["sides", "row"] (low K sp):=by
 have sc:FnScope ["sides", "row", "path", "told", "step", "p"] ["sides", "row"] (aF (top 8)):=by norm_cast
 refine m.okP (k:=3) (t:=v5 C qD dH iX lA) sc (fun f cdv A outer s H E hr=>?_) len hsp
 ·
  have hu:=hr.units
  exact(aB (bS (i:=2) sc.nd rfl (.inl rfl) (qP cl wV sE (hr.mono ∅) (a7 0 (pv 0))))
 (aB (kT (i:=3) sc.nd rfl (.inl rfl) (f9 (a8 (a7 2 (pv 2)) aE)))
 (aB (e9 PassesOwn.never rfl (Bc rfl f7 (a8 (a7 1 (pv 1)) aE)) (tF (k:=6) (is:=[4,5]) rfl (bL (c6 (i:=4) sc.nd rfl (.inl rfl)) (bL (c6 (i:=5) sc.nd rfl (.inl rfl)) gL))) (aB (eH (fN (gE (bE GO As (hr.mono ∅) (a8 (a7 0 (pv 0)) (a8 (a7 2 (pv 2)) (a8 (a7 5 (pv 5)) aE)))))) (aH gK) bT)
 (aB (bS (i:=2) sc.nd rfl (.inl rfl) (bE l9 w5 (hr.mono ∅) (a8 (a7 0 (pv 0)) (a8 (a7 2 (pv 2)) (a8 (a7 5 (pv 5)) aE)))))
 (aH (uB (i:=3) (pv 3) (a7 2 (pv 2)))))))
 (aB (eH (c7 (vP hu) (a7 2 (pv 2)) (qP cl BH vZ (hr.mono ∅) (a7 0 (pv 0)))) (aH gK) bT)
 (aH (bD (a7 3 (pv 3))))))))
noncomputable abbrev hX(lN iF:Fn):cD:=
 (cA (fV 2 [] (zM (aA (a9 1) (aA (bQ lN (aA (a9 0) (aA (a9 1) aG))) aG))) (gT [0,1]) fM (bQ iF (aA (a9 1) (aA (a9 0) aG)))))
theorem pL(P:Program)(w:World){K:W.Frag}(mg:Str->Option Value)(base:Heap){lN iF:Fn}{sp:Fn}(m:At K mg "tiles_in_turn" "tiles_in_turn" (top 12) ["sides", "row"])(u4:mg "zip" = none)(wU:Def P w K mg base 4 "paths" ["sides", "row"] (low K lN))(sD:MonoF lN)(pN:Def P w K mg base 1 "tile_at" ["path", "p"] (low K iF))(Aq:MonoF iF)(len:∀ds Q,sp ds Q->ds.length=2)(hsp:∀ds Q,sp ds Q->hX lN iF ↥Q (aJ ["sides", "row"] ds)):Def P w K mg base 5 "tiles_in_turn" ["sides", "row"] (low K sp):=by
 have sc:FnScope ["sides", "row"] ["sides", "row"] (aF (top 12)):=by norm_cast
 refine m.okP (k:=4) (t:=hX lN iF) sc (fun f cdv A outer s H E hr=>?_) len hsp
 ·
  exact(aH (bD (y8 ["p", "path"] [] [] rfl (EM rfl u4 (a8 (a7 1 (pv 1)) (a8 (bE wU sD (hr.mono ∅) (a8 (a7 0 (pv 0)) (a8 (a7 1 (pv 1)) aE))) aE))) (fun fp s H=>(tF (k:=2) (is:=[0,1]) rfl (bL (c6 (i:=0) (show List.Nodup (["p", "path"]:List Str) by decide +kernel) rfl (.inl rfl)) (bL (c6 (i:=1) (show List.Nodup (["p", "path"]:List Str) by decide +kernel) rfl (.inl rfl)) gL)))) (fun fp s H=>i9) (fun fp s H=>(bE pN Aq (hr.mono ∅) (a8 (a7 1 (pv 1)) (a8 (a7 0 (pv 0)) aE)))))))
noncomputable abbrev AK(cZ:Fn):cD:=
 (cA (dM cP (aA (bQ cZ (aA (a9 0) (aA (a9 1) aG))) aG)))
theorem IF(P:Program)(w:World){K:W.Frag}(mg:Str->Option Value)(base:Heap){cZ:Fn}{sp:Fn}(m:At K mg "laid" "laid" (top 13) ["sides", "row"])(bA:mg "sorted" = none)(i6:Def P w K mg base 5 "tiles_in_turn" ["sides", "row"] (low K cZ))(pC:MonoF cZ)(len:∀ds Q,sp ds Q->ds.length=2)(hsp:∀ds Q,sp ds Q->AK cZ ↥Q (aJ ["sides", "row"] ds)):Def P w K mg base 6 "laid" ["sides", "row"] (low K sp):=by
 have sc:FnScope ["sides", "row"] ["sides", "row"] (aF (top 13)):=by norm_cast
 refine m.okP (k:=5) (t:=AK cZ) sc (fun f cdv A outer s H E hr=>?_) len hsp
 ·
  exact(aH (bD (aT fB rfl bA boot_sorted (a8 (bE i6 pC (hr.mono ∅) (a8 (a7 0 (pv 0)) (a8 (a7 1 (pv 1)) aE))) aE))))
noncomputable abbrev j3:cD:=
 (aS (jJ (bU (aQ HQ (a9 1) (dM e5 (aA (a9 0) aG)))) (cA (aQ cO (a9 0) (a9 1))) c9)
 (cA (eC (.int 5))))
theorem sT(P:Program)(w:World){K:W.Frag}(mg:Str->Option Value)(base:Heap){sp:Fn}(m:At K mg "_law_cell_at" "_law_cell_at" (top 29) ["_law_script", "_law_k"])(bI:mg "len" = none)(len:∀ds Q,sp ds Q->ds.length=2)(hsp:∀ds Q,sp ds Q->j3  ↥Q (aJ ["_law_script", "_law_k"] ds)):Def P w K mg base 1 "_law_cell_at" ["_law_script", "_law_k"] (low K sp):=by
 have sc:FnScope ["_law_script", "_law_k"] ["_law_script", "_law_k"] (aF (top 29)):=by norm_cast
 refine m.okP (k:=0) (t:=j3 ) sc (fun f cdv A outer s H E hr=>?_) len hsp
 ·
  have hu1:=dR hr
  exact(aB (eH (c7 pB (a7 1 (pv 1)) (aT cR rfl bI boot_len (a8 (a7 0 (pv 0)) aE))) (aH (bD (bN hu1 (a7 0 (pv 0)) (a7 1 (pv 1))))) bT)
 (aH (bD aI)))
noncomputable abbrev kG:cD:=
 (cA (sS (tP "int" (a9 0)) (zQ (tP "bool" (a9 0)))))
theorem wN(P:Program)(w:World){K:W.Frag}(mg:Str->Option Value)(base:Heap){sp:Fn}(m:At K mg "_law_whole" "_law_whole" (top 30) ["_law_found"])(bB:mg "isinstance" = none)(u6:mg "int" = none)(oS:mg "bool" = none)(len:∀ds Q,sp ds Q->ds.length=1)(hsp:∀ds Q,sp ds Q->kG  ↥Q (aJ ["_law_found"] ds)):Def P w K mg base 1 "_law_whole" ["_law_found"] (low K sp):=by
 have sc:FnScope ["_law_found"] ["_law_found"] (aF (top 30)):=by norm_cast
 refine m.okP (k:=0) (t:=kG ) sc (fun f cdv A outer s H E hr=>?_) len hsp
 ·
  exact(aH (bD (Bg (rT (.inl rfl) rfl bB (a7 0 (pv 0)) (jV (v:=.ty "int") rfl u6 boot_int rfl)) (y7 (Ii (rT (.inr (.inl rfl)) rfl bB (a7 0 (pv 0)) (jV (v:=.ty "bool") rfl oS boot_bool rfl)))))))
noncomputable abbrev mE(b7:Fn):cD:=
 (aS (jJ (IC (bU (aQ tD (a9 1) (eC (.int 0)))) (bU (aQ tD (aQ g8 (aQ g8 (aQ eI (bQ b7 (aA (a9 0) (aA (eC (.int 0)) aG))) (eC (.int 48271))) (eC (.int 2147483647))) (eC (.int 4))) (eC (.int 1))))) (cA (eC (.int 12))) c9)
 (cA (a9 2)))
theorem zT(P:Program)(w:World){K:W.Frag}(mg:Str->Option Value)(base:Heap){b7:Fn}{sp:Fn}(m:At K mg "_law_most" "_law_most" (top 32) ["_law_script", "_law_k", "_law_usual"])(cT:Def P w K mg base 1 "_law_cell_at" ["_law_script", "_law_k"] (low K b7))(eA:MonoF b7)(len:∀ds Q,sp ds Q->ds.length=3)(hsp:∀ds Q,sp ds Q->mE b7 ↥Q (aJ ["_law_script", "_law_k", "_law_usual"] ds)):Def P w K mg base 2 "_law_most" ["_law_script", "_law_k", "_law_usual"] (low K sp):=by
 have sc:FnScope ["_law_script", "_law_k", "_law_usual"] ["_law_script", "_law_k", "_law_usual"] (aF (top 32)):=by norm_cast
 refine m.okP (k:=1) (t:=mE b7) sc (fun f cdv A outer s H E hr=>?_) len hsp
 ·
  have hu:=hr.units
  exact(aB (eH (QW.qt (JY (c7 (iH hu) (a7 1 (pv 1)) aI) (Gq (c7 (iH hu) (aX d5 (aX d5 (aX cF (bE cT eA (hr.mono ∅) (a8 (a7 0 (pv 0)) (a8 aI aE))) aI) aI) aI) aI)))) (aH (bD aI)) bT)
 (aH (bD (a7 2 (pv 2)))))
noncomputable abbrev gW:cD:=
 (aS (bV 6 (aQ fF (aQ fF (a9 1) (dM e5 (aA (a9 4) aG))) (aQ fF (aQ fF (a9 2) (a9 5)) (eC (.int 1)))))
 (aS (bV 7 (aQ cM (eC (.int 1)) (aQ g8 (aQ g8 (aQ eI (aQ g8 (aQ eI (aQ cM (a9 0) (aQ eI (eC (.int 31)) (a9 5))) (eC (.int 48271))) (eC (.int 2147483647))) (aQ cM (aQ eI (a9 5) (a9 5)) (eC (.int 17)))) (eC (.int 99991))) (dM rY (aA (a9 6) (aA (eC (.int 3)) aG))))))
 (aS (jJ (bU (aQ Gb (a9 3) (eC (.int 1)))) (aS (bV 7 (aQ cM (eC (.int 1)) (aQ g8 (a9 3) (a9 6))))
 (bV 3 (aQ kU (a9 3) (a9 6)))) c9)
 (bV 4 (aQ cM (a9 4) (aQ eI (gA (aA (a9 5) aG)) (a9 7)))))))
noncomputable abbrev kL:cD:=
 (aS (bV 2 (aQ cM (eC (.int 2)) (aQ g8 (a9 0) (eC (.int 5)))))
 (aS (bV 3 (aQ kU (a9 0) (eC (.int 5))))
 (aS (bV 4 (gA aG))
 (aS (h9 (fR (aA (a9 2) aG)) (gN 5) gW)
 (cA (a9 4))))))
theorem wS(P:Program)(w:World){K:W.Frag}(mg:Str->Option Value)(base:Heap){sp:Fn}(m:At K mg "_law_bands" "_law_bands" (top 33) ["_law_cell", "_law_most_here"])(b9:mg "range" = none)(bI:mg "len" = none)(u5:mg "min" = none)(len:∀ds Q,sp ds Q->ds.length=2)(hsp:∀ds Q,sp ds Q->kL  ↥Q (aJ ["_law_cell", "_law_most_here", "_law_kinds", "_law_rest", "_law_bands_here", "_law_k", "_law_spare", "_law_count"] ds)):Def P w K mg base 1 "_law_bands" ["_law_cell", "_law_most_here"] (low K sp):=by
 have sc:FnScope ["_law_cell", "_law_most_here", "_law_kinds", "_law_rest", "_law_bands_here", "_law_k", "_law_spare", "_law_count"] ["_law_cell", "_law_most_here"] (aF (top 33)):=by norm_cast
 refine m.okP (k:=0) (t:=kL ) sc (fun f cdv A outer s H E hr=>?_) len hsp
 ·
  exact(aB (bS (i:=2) sc.nd rfl (.inl rfl) (aX bC aI (aX d5 (a7 0 (pv 0)) aI)))
 (aB (bS (i:=3) sc.nd rfl (.inl rfl) (aX iB (a7 0 (pv 0)) aI))
 (aB (bS (i:=4) sc.nd rfl (.inl rfl) (f9 aE))
 (aB (e9 PassesOwn.never rfl (gF rfl b9 (a8 (a7 2 (pv 2)) aE)) (hG (i:=5) (k:=8) sc.nd rfl (.inl rfl)) (aB (bS (i:=6) sc.nd rfl (.inl rfl) (aX cX (aX cX (a7 1 (pv 1)) (aT cR rfl bI boot_len (a8 (a7 4 (pv 4)) aE))) (aX cX (aX cX (a7 2 (pv 2)) (a7 5 (pv 5))) aI)))
 (aB (bS (i:=7) sc.nd rfl (.inl rfl) (aX bC aI (aX d5 (aX d5 (aX cF (aX d5 (aX cF (aX bC (a7 0 (pv 0)) (aX cF aI (a7 5 (pv 5)))) aI) aI) (aX bC (aX cF (a7 5 (pv 5)) (a7 5 (pv 5))) aI)) aI) (aT (CQ rfl) rfl u5 boot_min (a8 (a7 6 (pv 6)) (a8 aI aE))))))
 (aB (eH (c7 mO (a7 3 (pv 3)) aI) (aB (bS (i:=7) sc.nd rfl (.inl rfl) (aX bC aI (aX d5 (a7 3 (pv 3)) (a7 6 (pv 6)))))
 (aH (bS (i:=3) sc.nd rfl (.inl rfl) (aX iB (a7 3 (pv 3)) (a7 6 (pv 6)))))) bT)
 (aH (bS (i:=4) sc.nd rfl (.inl rfl) (aX bC (a7 4 (pv 4)) (aX cF (f9 (a8 (a7 5 (pv 5)) aE)) (a7 7 (pv 7))))))))))
 (aH (bD (a7 4 (pv 4))))))))
noncomputable abbrev mC:cD:=
 (cA (aQ g8 (aQ g8 (aQ eI (aQ g8 (aQ eI (aQ cM (a9 0) (aQ eI (eC (.int 31)) (a9 1))) (eC (.int 48271))) (eC (.int 2147483647))) (aQ cM (aQ eI (a9 1) (a9 1)) (eC (.int 17)))) (eC (.int 99991))) (a9 2)))
theorem zR(P:Program)(w:World){K:W.Frag}(mg:Str->Option Value)(base:Heap){sp:Fn}(m:At K mg "_law_pick" "_law_pick" (top 34) ["_law_cell", "_law_step", "_law_many"])(len:∀ds Q,sp ds Q->ds.length=3)(hsp:∀ds Q,sp ds Q->mC  ↥Q (aJ ["_law_cell", "_law_step", "_law_many"] ds)):Def P w K mg base 1 "_law_pick" ["_law_cell", "_law_step", "_law_many"] (low K sp):=by
 have sc:FnScope ["_law_cell", "_law_step", "_law_many"] ["_law_cell", "_law_step", "_law_many"] (aF (top 34)):=by norm_cast
 refine m.okP (k:=0) (t:=mC ) sc (fun f cdv A outer s H E hr=>?_) len hsp
 ·
  exact(aH (bD (aX d5 (aX d5 (aX cF (aX d5 (aX cF (aX bC (a7 0 (pv 0)) (aX cF aI (a7 1 (pv 1)))) aI) aI) (aX bC (aX cF (a7 1 (pv 1)) (a7 1 (pv 1))) aI)) aI) (a7 2 (pv 2)))))
noncomputable abbrev i0:cD:=
 (cA (aQ cM (aQ cM (GI (a9 0) fU (kX (a9 1))) (gA (aA (aQ cO (a9 0) (aQ cM (a9 1) (eC (.int 1)))) (aA (aQ cO (a9 0) (a9 1)) aG)))) (GI (a9 0) (kX (aQ cM (a9 1) (eC (.int 2)))) fU)))
theorem pM(P:Program)(w:World){K:W.Frag}(mg:Str->Option Value)(base:Heap){sp:Fn}(m:At K mg "_law_exchanged" "_law_exchanged" (top 35) ["_law_path", "_law_p"])(len:∀ds Q,sp ds Q->ds.length=2)(hsp:∀ds Q,sp ds Q->i0  ↥Q (aJ ["_law_path", "_law_p"] ds)):Def P w K mg base 1 "_law_exchanged" ["_law_path", "_law_p"] (low K sp):=by
 have sc:FnScope ["_law_path", "_law_p"] ["_law_path", "_law_p"] (aF (top 35)):=by norm_cast
 refine m.okP (k:=0) (t:=i0 ) sc (fun f cdv A outer s H E hr=>?_) len hsp
 ·
  have hu1:=dR hr
  exact(aH (bD (aX bC (aX bC (jT (a7 0 (pv 0)) jS (jR (a7 1 (pv 1)))) (f9 (a8 (bN hu1 (a7 0 (pv 0)) (aX bC (a7 1 (pv 1)) aI)) (a8 (bN hu1 (a7 0 (pv 0)) (a7 1 (pv 1))) aE)))) (jT (a7 0 (pv 0)) (jR (aX bC (a7 1 (pv 1)) aI)) jS))))
noncomputable abbrev iZ(eD cE:Fn):cD:=
 (aS (bV 6 (aQ fF (dM e5 (aA (a9 2) aG)) (eC (.int 1))))
 (aS (bV 7 (fV 1 [0,2] (fR (aA (a9 6) aG)) (gN 0) (bU (aQ HQ (aQ cO (a9 1) (aQ cO (a9 2) (a9 0))) (aQ cO (a9 1) (aQ cO (a9 2) (aQ cM (a9 0) (eC (.int 1))))))) (a9 0)))
 (aS (jJ (bU (aQ tD (a9 7) (gA aG))) (cA (a9 3)) c9)
 (aS (bV 8 (bQ eD (aA (a9 1) (aA (a9 5) (aA (dM e5 (aA (a9 7) aG)) aG)))))
 (aS (jJ (bU (aQ Gb (a9 4) (eC (.int 1)))) (aS (bV 8 (aQ g8 (a9 4) (dM e5 (aA (a9 7) aG))))
 (bV 4 (aQ kU (a9 4) (dM e5 (aA (a9 7) aG))))) c9)
 (aS (qG 3 (aQ cO (a9 7) (a9 8)))
 (bV 2 (bQ cE (aA (a9 2) (aA (aQ cO (a9 7) (a9 8)) aG))))))))))
noncomputable abbrev oV(eD cE:Fn):cD:=
 (aS (bV 2 (BA (aA (dM e5 (aA (a9 0) aG)) aG)))
 (aS (kR 3 (gA aG))
 (aS (bV 4 (a9 1))
 (aS (h9 (fR (aA (aQ eI (dM e5 (aA (a9 0) aG)) (dM e5 (aA (a9 0) aG))) aG)) (gN 5) (iZ eD cE))
 (cA (a9 3))))))
theorem BE(P:Program)(w:World){K:W.Frag}(mg:Str->Option Value)(base:Heap){eD cE:Fn}{sp:Fn}(m:At K mg "_law_row" "_law_row" (top 36) ["_law_bands_here", "_law_cell"])(bI:mg "len" = none)(cK:mg "list" = none)(b9:mg "range" = none)(mV:Def P w K mg base 1 "_law_pick" ["_law_cell", "_law_step", "_law_many"] (low K eD))(z6:MonoF eD)(i7:Def P w K mg base 1 "_law_exchanged" ["_law_path", "_law_p"] (low K cE))(pD:MonoF cE)(len:∀ds Q,sp ds Q->ds.length=2)(hsp:∀ds Q,sp ds Q->oV eD cE ↥Q (aJ ["_law_bands_here", "_law_cell", "_law_path", "_law_row_here", "_law_rest", "_law_step", "_law_last", "_law_spots", "_law_pick_here"] ds)):Def P w K mg base 2 "_law_row" ["_law_bands_here", "_law_cell"] (low K sp):=by
 have sc:FnScope ["_law_bands_here", "_law_cell", "_law_path", "_law_row_here", "_law_rest", "_law_step", "_law_last", "_law_spots", "_law_pick_here"] ["_law_bands_here", "_law_cell"] (aF (top 36)):=by norm_cast
 refine m.okP (k:=1) (t:=oV eD cE) sc (fun f cdv A outer s H E hr=>?_) len hsp
 ·
  have hu:=hr.units
  have hu1:=dR hr
  exact(aB (bS (i:=2) sc.nd rfl (.inr rfl) (iA rfl rfl cK rfl b9 (a8 (aT cR rfl bI boot_len (a8 (a7 0 (pv 0)) aE)) aE)))
 (aB (kT (i:=3) sc.nd rfl (.inl rfl) (f9 aE))
 (aB (bS (i:=4) sc.nd rfl (.inl rfl) (a7 1 (pv 1)))
 (aB (e9 PassesOwn.never rfl (gF rfl b9 (a8 (aX cF (aT cR rfl bI boot_len (a8 (a7 0 (pv 0)) aE)) (aT cR rfl bI boot_len (a8 (a7 0 (pv 0)) aE))) aE)) (hG (i:=5) (k:=9) sc.nd rfl (.inl rfl)) (aB (bS (i:=6) sc.nd rfl (.inl rfl) (aX cX (aT cR rfl bI boot_len (a8 (a7 2 (pv 2)) aE)) aI))
 (aB (Ac (EL (iy:=7) ["_law_p"] ["_law_bands_here", "_law_path"] [0,2] sc.nd rfl (.inl rfl) rfl (gF rfl b9 (a8 (a7 6 (pv 6)) aE)) (fun fp s H=>(hG (i:=0) (k:=1) (show List.Nodup (["_law_p", "_law_bands_here", "_law_path"]:List Str) by decide +kernel) rfl (.inl rfl))) (fun fp s H=>(Ba (c7 pB (bN hu1 (a7 1 (pv 1)) (bN hu1 (a7 2 (pv 2)) (a7 0 (pv 0)))) (bN hu1 (a7 1 (pv 1)) (bN hu1 (a7 2 (pv 2)) (aX bC (a7 0 (pv 0)) aI)))))) (fun fp s H=>(a7 0 (pv 0)))))
 (aB (eH (c7 (iH hu) (a7 7 (pv 7)) (f9 aE)) (aH (bD (a7 3 (pv 3)))) bT)
 (aB (bS (i:=8) sc.nd rfl (.inl rfl) (bE mV z6 (hr.mono ∅) (a8 (a7 1 (pv 1)) (a8 (a7 5 (pv 5)) (a8 (aT cR rfl bI boot_len (a8 (a7 7 (pv 7)) aE)) aE)))))
 (aB (eH (c7 mO (a7 4 (pv 4)) aI) (aB (bS (i:=8) sc.nd rfl (.inl rfl) (aX d5 (a7 4 (pv 4)) (aT cR rfl bI boot_len (a8 (a7 7 (pv 7)) aE))))
 (aH (bS (i:=4) sc.nd rfl (.inl rfl) (aX iB (a7 4 (pv 4)) (aT cR rfl bI boot_len (a8 (a7 7 (pv 7)) aE)))))) bT)
 (aB (uB (i:=3) (pv 3) (bN hu1 (a7 7 (pv 7)) (a7 8 (pv 8))))
 (aH (bS (i:=2) sc.nd rfl (.inr rfl) (bE i7 pD (hr.mono ∅) (a8 (a7 2 (pv 2)) (a8 (bN hu1 (a7 7 (pv 7)) (a7 8 (pv 8))) aE))))))))))))
 (aH (bD (a7 3 (pv 3))))))))
noncomputable abbrev mD:cD:=
 (aS (bV 3 (aQ cM (eC (.int 1)) (aQ g8 (a9 2) (eC (.int 9)))))
 (aS (bV 4 (aQ g8 (aQ kU (a9 2) (eC (.int 9))) (eC (.int 100))))
 (aS (jJ (bU (aQ tD (a9 1) (eC (.int 0)))) (cA (fT (aA (aQ fF (a9 4) (eC (.int 50))) (aA (a9 3) aG)))) c9)
 (cA (fT (aA (aQ fF (aQ kU (aQ fF (aQ eI (a9 0) (a9 3)) (eC (.int 1))) (a9 1)) (a9 4)) (aA (a9 3) aG)))))))
theorem zS(P:Program)(w:World){K:W.Frag}(mg:Str->Option Value)(base:Heap){sp:Fn}(m:At K mg "_law_next" "_law_next" (top 38) ["_law_x", "_law_y", "_law_rest"])(len:∀ds Q,sp ds Q->ds.length=3)(hsp:∀ds Q,sp ds Q->mD  ↥Q (aJ ["_law_x", "_law_y", "_law_rest", "_law_rise", "_law_side"] ds)):Def P w K mg base 1 "_law_next" ["_law_x", "_law_y", "_law_rest"] (low K sp):=by
 have sc:FnScope ["_law_x", "_law_y", "_law_rest", "_law_rise", "_law_side"] ["_law_x", "_law_y", "_law_rest"] (aF (top 38)):=by norm_cast
 refine m.okP (k:=0) (t:=mD ) sc (fun f cdv A outer s H E hr=>?_) len hsp
 ·
  have hu:=hr.units
  exact(aB (bS (i:=3) sc.nd rfl (.inl rfl) (aX bC aI (aX d5 (a7 2 (pv 2)) aI)))
 (aB (bS (i:=4) sc.nd rfl (.inl rfl) (aX d5 (aX iB (a7 2 (pv 2)) aI) aI))
 (aB (eH (c7 (iH hu) (a7 1 (pv 1)) aI) (aH (bD (eN (a8 (aX cX (a7 4 (pv 4)) aI) (a8 (a7 3 (pv 3)) aE))))) bT)
 (aH (bD (eN (a8 (aX cX (aX iB (aX cX (aX cF (a7 0 (pv 0)) (a7 3 (pv 3))) aI) (a7 1 (pv 1))) (a7 4 (pv 4))) (a8 (a7 3 (pv 3)) aE))))))))
noncomputable abbrev cV(eE:Fn):cD:=
 (aS (bV 7 (aQ cM (eC (.int 1)) (aQ g8 (a9 4) (eC (.int 10)))))
 (aS (qG 5 (fT (aA (aQ eI (a9 2) (a9 7)) (aA (aQ eI (a9 3) (a9 7)) (aA (dM e5 (aA (fV 1 [6] (iN (a9 0)) (gN 0) (bU (aQ tD (a9 0) (a9 1))) (a9 0)) aG)) aG)))))
 (aS (EF (bQ eE (aA (a9 2) (aA (a9 3) (aA (aQ kU (a9 4) (eC (.int 10))) aG)))) (gT [2,3]))
 (bV 4 (aQ kU (a9 4) (eC (.int 9000)))))))
noncomputable abbrev gB(eE:Fn):cD:=
 (aS (bV 2 (aQ fF (aQ g8 (a9 1) (eC (.int 200001))) (eC (.int 100000))))
 (aS (bV 3 (aQ cM (eC (.int 1)) (aQ g8 (aQ kU (a9 1) (eC (.int 200001))) (eC (.int 9)))))
 (aS (bV 4 (aQ kU (a9 1) (eC (.int 1800009))))
 (aS (jJ (bU (aQ tD (aQ g8 (a9 1) (eC (.int 4))) (eC (.int 0)))) (aS (bV 2 (aQ cM (eC (.int 1)) (dM Ak (aA (a9 2) aG))))
 (bV 3 (eC (.int 0)))) c9)
 (aS (kR 5 (gA aG))
 (aS (h9 (fR (aA (aQ cM (aQ cO (a9 0) (B9 (eC (.int 1)))) (eC (.int 1))) aG)) (gN 6) (cV eE))
 (cA (a9 5))))))))
theorem oH(P:Program)(w:World){K:W.Frag}(mg:Str->Option Value)(base:Heap){eE:Fn}{sp:Fn}(m:At K mg "_law_directions" "_law_directions" (top 39) ["_law_bands_here", "_law_cell"])(qX:mg "abs" = none)(b9:mg "range" = none)(bI:mg "len" = none)(mW:Def P w K mg base 1 "_law_next" ["_law_x", "_law_y", "_law_rest"] (low K eE))(z7:MonoF eE)(len:∀ds Q,sp ds Q->ds.length=2)(hsp:∀ds Q,sp ds Q->gB eE ↥Q (aJ ["_law_bands_here", "_law_cell", "_law_x", "_law_y", "_law_rest", "_law_made", "_law_k", "_law_times"] ds)):Def P w K mg base 2 "_law_directions" ["_law_bands_here", "_law_cell"] (low K sp):=by
 have sc:FnScope ["_law_bands_here", "_law_cell", "_law_x", "_law_y", "_law_rest", "_law_made", "_law_k", "_law_times"] ["_law_bands_here", "_law_cell"] (aF (top 39)):=by norm_cast
 refine m.okP (k:=1) (t:=gB eE) sc (fun f cdv A outer s H E hr=>?_) len hsp
 ·
  have hu:=hr.units
  have hu1:=dR hr
  exact(aB (bS (i:=2) sc.nd rfl (.inl rfl) (aX cX (aX d5 (a7 1 (pv 1)) aI) aI))
 (aB (bS (i:=3) sc.nd rfl (.inl rfl) (aX bC aI (aX d5 (aX iB (a7 1 (pv 1)) aI) aI)))
 (aB (bS (i:=4) sc.nd rfl (.inl rfl) (aX iB (a7 1 (pv 1)) aI))
 (aB (eH (c7 (iH hu) (aX d5 (a7 1 (pv 1)) aI) aI) (aB (bS (i:=2) sc.nd rfl (.inl rfl) (aX bC aI (aT BN rfl qX boot_abs (a8 (a7 2 (pv 2)) aE))))
 (aH (bS (i:=3) sc.nd rfl (.inl rfl) aI))) bT)
 (aB (kT (i:=5) sc.nd rfl (.inl rfl) (f9 aE))
 (aB (e9 PassesOwn.never rfl (gF rfl b9 (a8 (aX bC (bN hu1 (a7 0 (pv 0)) (Bb aI)) aI) aE)) (hG (i:=6) (k:=8) sc.nd rfl (.inr rfl)) (aB (bS (i:=7) sc.nd rfl (.inl rfl) (aX bC aI (aX d5 (a7 4 (pv 4)) aI)))
 (aB (uB (i:=5) (pv 5) (eN (a8 (aX cF (a7 2 (pv 2)) (a7 7 (pv 7))) (a8 (aX cF (a7 3 (pv 3)) (a7 7 (pv 7))) (a8 (aT cR rfl bI boot_len (a8 (y8 ["_law_band"] ["_law_k"] [6] rfl (dW (a7 0 (pv 0))) (fun fp s H=>(hG (i:=0) (k:=1) (show List.Nodup (["_law_band", "_law_k"]:List Str) by decide +kernel) rfl (.inl rfl))) (fun fp s H=>(Ba (c7 (iH hu) (a7 0 (pv 0)) (a7 1 (pv 1))))) (fun fp s H=>(a7 0 (pv 0)))) aE)) aE)))))
 (aB (Il (bE mW z7 (hr.mono ∅) (a8 (a7 2 (pv 2)) (a8 (a7 3 (pv 3)) (a8 (aX iB (a7 4 (pv 4)) aI) aE)))) (tF (k:=8) (is:=[2,3]) rfl (bL (c6 (i:=2) sc.nd rfl (.inl rfl)) (bL (c6 (i:=3) sc.nd rfl (.inl rfl)) gL))))
 (aH (bS (i:=4) sc.nd rfl (.inl rfl) (aX iB (a7 4 (pv 4)) aI)))))))
 (aH (bD (a7 5 (pv 5))))))))))
noncomputable abbrev eQ:cD:=
 (aS (jJ (bU (aQ yR (a9 8) (a9 1))) (cA (eC .non)) c9)
 (rO 1 (a9 8) (eC (.bl true))))
noncomputable abbrev eO:cD:=
 (aS (jJ (bU (aQ yR (a9 8) (a9 2))) (cA (eC .non)) c9)
 (rO 2 (a9 8) (eC (.bl true))))
noncomputable abbrev j6:cD:=
 (aS (bV 6 (dM dX (aA (dM cP (aA (aQ cM (dM jE (aA (a9 5) aG)) (gA (aA (a9 3) aG))) aG)) aG)))
 (aS (bV 7 (dM dX (aA (dM cP (aA (aQ cM (dM jE (aA (a9 5) aG)) (gA (aA (a9 4) aG))) aG)) aG)))
 (aS (h9 (iN (gA (aA (fT (aA (a9 4) (aA (a9 5) aG))) (aA (fT (aA (a9 3) (aA (a9 7) aG))) aG)))) (gN 8) eQ)
 (h9 (iN (gA (aA (fT (aA (a9 3) (aA (a9 5) aG))) (aA (fT (aA (a9 4) (aA (a9 6) aG))) aG)))) (gN 8) eO))))
noncomputable abbrev kK:cD:=
 (aS (kR 1 MY)
 (aS (kR 2 MY)
 (aS (h9 (iN (a9 0)) (gT [3,4,5]) j6)
 (EC 1 (EC 2 (cA (fT (aA (a9 1) (aA (a9 2) aG)))))))))
theorem wR(P:Program)(w:World){K:W.Frag}(mg:Str->Option Value)(base:Heap){sp:Fn}(m:At K mg "_law_edges" "_law_edges" (top 40) ["_law_tiles"])(cK:mg "list" = none)(bA:mg "sorted" = none)(bK:mg "tuple" = none)(len:∀ds Q,sp ds Q->ds.length=1)(hsp:∀ds Q,sp ds Q->kK  ↥Q (aJ ["_law_tiles", "_law_left", "_law_right", "_law_a", "_law_b", "_law_below", "_law_with_a", "_law_with_b", "_law_edge"] ds)):Def P w K mg base 1 "_law_edges" ["_law_tiles"] (low K sp):=by
 have sc:FnScope ["_law_tiles", "_law_left", "_law_right", "_law_a", "_law_b", "_law_below", "_law_with_a", "_law_with_b", "_law_edge"] ["_law_tiles"] (aF (top 40)):=by norm_cast
 refine m.okP (k:=0) (t:=kK ) sc (fun f cdv A outer s H E hr=>?_) len hsp
 ·
  have hu2:=G8 hr
  exact(aB (kT (i:=1) sc.nd rfl (.inl rfl) Be)
 (aB (kT (i:=2) sc.nd rfl (.inl rfl) Be)
 (aB (e9 PassesOwn.never rfl (dW (a7 0 (pv 0))) (tF (k:=9) (is:=[3,4,5]) rfl (bL (c6 (i:=3) sc.nd rfl (.inl rfl)) (bL (c6 (i:=4) sc.nd rfl (.inl rfl)) (bL (c6 (i:=5) sc.nd rfl (.inl rfl)) gL)))) (aB (bS (i:=6) sc.nd rfl (.inl rfl) (d4 fY rfl bK boot_tuple (a8 (aT fB rfl bA boot_sorted (a8 (aX bC (d4 oK rfl cK boot_list (a8 (a7 5 (pv 5)) aE)) (f9 (a8 (a7 3 (pv 3)) aE))) aE)) aE)))
 (aB (bS (i:=7) sc.nd rfl (.inl rfl) (d4 fY rfl bK boot_tuple (a8 (aT fB rfl bA boot_sorted (a8 (aX bC (d4 oK rfl cK boot_list (a8 (a7 5 (pv 5)) aE)) (f9 (a8 (a7 4 (pv 4)) aE))) aE)) aE)))
 (aB (e9 PassesOwn.never rfl (dW (f9 (a8 (eN (a8 (a7 4 (pv 4)) (a8 (a7 5 (pv 5)) aE))) (a8 (eN (a8 (a7 3 (pv 3)) (a8 (a7 7 (pv 7)) aE))) aE)))) (hG (i:=8) (k:=9) sc.nd rfl (.inl rfl)) (aB (eH (c7 (qQ hu2) (a7 8 (pv 8)) (a7 1 (pv 1))) (aH (bD pX)) bT)
 (aH (EK hu2 (i:=1) (pv 1) (a7 8 (pv 8)) mK))))
 (aH (e9 PassesOwn.never rfl (dW (f9 (a8 (eN (a8 (a7 3 (pv 3)) (a8 (a7 5 (pv 5)) aE))) (a8 (eN (a8 (a7 4 (pv 4)) (a8 (a7 6 (pv 6)) aE))) aE)))) (hG (i:=8) (k:=9) sc.nd rfl (.inl rfl)) (aB (eH (c7 (qQ hu2) (a7 8 (pv 8)) (a7 2 (pv 2))) (aH (bD pX)) bT)
 (aH (EK hu2 (i:=2) (pv 2) (a7 8 (pv 8)) mK)))))))))
 (Ij 1 (Ij 2 (aH (bD (eN (a8 (a7 1 (pv 1)) (a8 (a7 2 (pv 2)) aE))))))))))
noncomputable abbrev oW:cD:=
 (cA (fV 1 [0] (fR (aA (dM e5 (aA (a9 0) aG)) aG)) (gN 0) fM (fT (aA (aQ cO (a9 1) (a9 0)) (aA (dM dX (aA (dM cP (aA (GI (a9 1) fU (kX (a9 0))) aG)) aG)) aG)))))
theorem BF(P:Program)(w:World){K:W.Frag}(mg:Str->Option Value)(base:Heap){sp:Fn}(m:At K mg "_law_rim" "_law_rim" (top 41) ["_law_path"])(bI:mg "len" = none)(b9:mg "range" = none)(bA:mg "sorted" = none)(bK:mg "tuple" = none)(len:∀ds Q,sp ds Q->ds.length=1)(hsp:∀ds Q,sp ds Q->oW  ↥Q (aJ ["_law_path"] ds)):Def P w K mg base 1 "_law_rim" ["_law_path"] (low K sp):=by
 have sc:FnScope ["_law_path"] ["_law_path"] (aF (top 41)):=by norm_cast
 refine m.okP (k:=0) (t:=oW ) sc (fun f cdv A outer s H E hr=>?_) len hsp
 ·
  have hu1:=dR hr
  exact(aH (bD (y8 ["_law_k"] ["_law_path"] [0] rfl (gF rfl b9 (a8 (aT cR rfl bI boot_len (a8 (a7 0 (pv 0)) aE)) aE)) (fun fp s H=>(hG (i:=0) (k:=1) (show List.Nodup (["_law_k", "_law_path"]:List Str) by decide +kernel) rfl (.inl rfl))) (fun fp s H=>i9) (fun fp s H=>(eN (a8 (bN hu1 (a7 1 (pv 1)) (a7 0 (pv 0))) (a8 (d4 fY rfl bK boot_tuple (a8 (aT fB rfl bA boot_sorted (a8 (jT (a7 1 (pv 1)) jS (jR (a7 0 (pv 0)))) aE)) aE)) aE)))))))
noncomputable abbrev gU(bY aU:Fn):cD:=
 (jJ (bU (aQ tD (aQ yR (a9 7) (a9 4)) (aQ L6 (a9 7) (a9 6)))) (cA (eC (.bl false))) c9)
noncomputable abbrev gS(bY aU:Fn):cD:=
 (jJ (bU (aQ tD (aQ yR (a9 7) (a9 3)) (aQ L6 (a9 7) (a9 5)))) (cA (eC (.bl false))) c9)
noncomputable abbrev gR(bY aU:Fn):cD:=
 (jJ (bU (aQ lL (a9 7) (a9 4))) (cA (eC (.bl false))) c9)
noncomputable abbrev gQ(bY aU:Fn):cD:=
 (jJ (bU (aQ lL (a9 7) (a9 3))) (cA (eC (.bl false))) c9)
noncomputable abbrev kJ(bY aU:Fn):cD:=
 (aS (bV 2 (bQ bY (aA (a9 0) aG)))
 (aS (jJ (bU (aQ vM (a9 2) (eC .non))) (cA (eC (.bl false))) c9)
 (aS (EF (a9 2) (gT [3,4]))
 (aS (bV 5 (bQ aU (aA (BA (aA (dM e5 (aA (a9 1) aG)) aG)) aG)))
 (aS (bV 6 (bQ aU (aA (oE 1 (aA (dM e5 (aA (a9 1) aG)) aG) (fT (aA (aQ fF (eC (.int 0)) (aQ cO (a9 1) (a9 0))) (aA (a9 0) aG)))) aG)))
 (aS (h9 (pJ (a9 3)) (gN 7) (gU bY aU))
 (aS (h9 (pJ (a9 4)) (gN 7) (gS bY aU))
 (aS (h9 (iN (a9 5)) (gN 7) (gR bY aU))
 (aS (h9 (iN (a9 6)) (gN 7) (gQ bY aU))
 (cA (eC (.bl true))))))))))))
theorem wQ(P:Program)(w:World){K:W.Frag}(mg:Str->Option Value)(base:Heap){bY aU:Fn}{sp:Fn}(m:At K mg "_law_hands" "_law_hands" (top 42) ["_law_tiles", "_law_bands_here"])(bI:mg "len" = none)(cK:mg "list" = none)(b9:mg "range" = none)(bA:mg "sorted" = none)(l7:Def P w K mg base 1 "_law_edges" ["_law_tiles"] (low K bY))(vV:MonoF bY)(fA:Def P w K mg base 1 "_law_rim" ["_law_path"] (low K aU))(iI:MonoF aU)(ld:LamDefD K mg base "_law_hands" ("_law_hands" ++ ".<locals>." ++ "<lambda>"))(len:∀ds Q,sp ds Q->ds.length=2)(hsp:∀ds Q,sp ds Q->kJ bY aU ↥Q (aJ ["_law_tiles", "_law_bands_here", "_law_both", "_law_left", "_law_right", "_law_first", "_law_last", "_law_edge"] ds)):Def P w K mg base 2 "_law_hands" ["_law_tiles", "_law_bands_here"] (low K sp):=by
 have sc:FnScope ["_law_tiles", "_law_bands_here", "_law_both", "_law_left", "_law_right", "_law_first", "_law_last", "_law_edge"] ["_law_tiles", "_law_bands_here"] (aF (top 42)):=by norm_cast
 refine m.okL (k:=1) (t:=kJ bY aU) sc ld (fun f cdv A outer s H E hr c Pt lcx ltab=>?_) len hsp
 ·
  have hu:=hr.units
  have hu1:=dR hr
  have hu65:=Gf hr
  have hu2:=G8 hr
  exact(aB (bS (i:=2) sc.nd rfl (.inl rfl) (bE l7 vV (hr.mono ∅) (a8 (a7 0 (pv 0)) aE)))
 (aB (eH (c7 o5 (a7 2 (pv 2)) pX) (aH (bD mK)) bT)
 (aB (Il (a7 2 (pv 2)) (tF (k:=8) (is:=[3,4]) rfl (bL (c6 (i:=3) sc.nd rfl (.inl rfl)) (bL (c6 (i:=4) sc.nd rfl (.inl rfl)) gL))))
 (aB (bS (i:=5) sc.nd rfl (.inl rfl) (bE fA iI (hr.mono ∅) (a8 (iA rfl rfl cK rfl b9 (a8 (aT cR rfl bI boot_len (a8 (a7 1 (pv 1)) aE)) aE)) aE)))
 (aB (bS (i:=6) sc.nd rfl (.inl rfl) (bE fA iI (hr.mono ∅) (a8 (y6 (k:=0) (i:=1) (x:="_law_band") (y:="_law_bands_here") rfl rfl bA rfl b9 (a8 (aT cR rfl bI boot_len (a8 (a7 1 (pv 1)) aE)) aE) (hr.mono ∅) lcx ltab ⟨fun _ _ _ _ _ _ _=>rfl,rfl,rfl,rfl,by decide +kernel,rfl,rfl,by decide +kernel,rfl,rfl,rfl⟩ rfl rfl rfl (fun f c' A s H hr=>have hu1:=dR hr;(eN (a8 (aX cX aI (bN hu1 (a7 1 (pv 1)) (a7 0 (pv 0)))) (a8 (a7 0 (pv 0)) aE))))) aE)))
 (aB (e9 PassesOwn.never rfl (yA (a7 3 (pv 3))) (hG (i:=7) (k:=8) sc.nd rfl (.inl rfl)) (aH (eH (c7 (iH hu) (jB (qQ hu2) (a7 7 (pv 7)) (a7 4 (pv 4))) (jB (F7 hu65 hu1) (a7 7 (pv 7)) (a7 6 (pv 6)))) (aH (bD mK)) bT)))
 (aB (e9 PassesOwn.never rfl (yA (a7 4 (pv 4))) (hG (i:=7) (k:=8) sc.nd rfl (.inl rfl)) (aH (eH (c7 (iH hu) (jB (qQ hu2) (a7 7 (pv 7)) (a7 3 (pv 3))) (jB (F7 hu65 hu1) (a7 7 (pv 7)) (a7 5 (pv 5)))) (aH (bD mK)) bT)))
 (aB (e9 PassesOwn.never rfl (dW (a7 5 (pv 5))) (hG (i:=7) (k:=8) sc.nd rfl (.inl rfl)) (aH (eH (c7 (sA hu2) (a7 7 (pv 7)) (a7 4 (pv 4))) (aH (bD mK)) bT)))
 (aB (e9 PassesOwn.never rfl (dW (a7 6 (pv 6))) (hG (i:=7) (k:=8) sc.nd rfl (.inl rfl)) (aH (eH (c7 (sA hu2) (a7 7 (pv 7)) (a7 3 (pv 3))) (aH (bD mK)) bT)))
 (aH (bD mK)))))))))))
noncomputable abbrev kI(jG eB:Fn):cD:=
 (aS (bV 2 (bQ jG (aA (a9 0) (aA (a9 1) aG))))
 (aS (jJ (GJ (kY (lT (tP "tuple" (a9 2)))) (GJ (bU (aQ Cv (dM e5 (aA (a9 2) aG)) (eC (.int 2)))) (GJ (kY (lT (bQ eB (aA (aQ cO (a9 2) (eC (.int 0))) aG)))) (kY (lT (bQ eB (aA (aQ cO (a9 2) (eC (.int 1))) aG))))))) (cA (eC .non)) c9)
 (cA (a9 2))))
theorem wP(P:Program)(w:World){K:W.Frag}(mg:Str->Option Value)(base:Heap){jG eB:Fn}{sp:Fn}(m:At K mg "_law_point" "_law_point" (top 43) ["_law_sides", "_law_below"])(bB:mg "isinstance" = none)(bK:mg "tuple" = none)(bI:mg "len" = none)(sU:Def P w K mg base 2 "corner" ["sides", "below"] (low K jG))(DA:MonoF jG)(iV:Def P w K mg base 1 "_law_whole" ["_law_found"] (low K eB))(o7:MonoF eB)(len:∀ds Q,sp ds Q->ds.length=2)(hsp:∀ds Q,sp ds Q->kI jG eB ↥Q (aJ ["_law_sides", "_law_below", "_law_found"] ds)):Def P w K mg base 3 "_law_point" ["_law_sides", "_law_below"] (low K sp):=by
 have sc:FnScope ["_law_sides", "_law_below", "_law_found"] ["_law_sides", "_law_below"] (aF (top 43)):=by norm_cast
 refine m.okP (k:=2) (t:=kI jG eB) sc (fun f cdv A outer s H E hr=>?_) len hsp
 ·
  have hu:=hr.units
  have hu1:=dR hr
  exact(aB (bS (i:=2) sc.nd rfl (.inl rfl) (bE sU DA (hr.mono ∅) (a8 (a7 0 (pv 0)) (a8 (a7 1 (pv 1)) aE))))
 (aB (eH (QW.qt (pW (fN (gE (rT (.inr (.inr (.inl rfl))) rfl bB (a7 2 (pv 2)) (jV (v:=.ty "tuple") rfl bK boot_tuple rfl)))) (pW (c7 (vP hu) (aT cR rfl bI boot_len (a8 (a7 2 (pv 2)) aE)) aI) (pW (fN (gE (bE iV o7 (hr.mono ∅) (a8 (bN hu1 (a7 2 (pv 2)) aI) aE)))) (p5 (fN (gE (bE iV o7 (hr.mono ∅) (a8 (bN hu1 (a7 2 (pv 2)) aI) aE))))))))) (aH (bD pX)) bT)
 (aH (bD (a7 2 (pv 2))))))
noncomputable abbrev jM(aZ:Fn):cD:=
 (aS (bV 3 (bQ aZ (aA (a9 0) (aA (aQ cO (a9 1) (eC (.int 1))) aG))))
 (aS (bV 4 (bQ aZ (aA (a9 0) (aA (dM dX (aA (dM cP (aA (aQ cM (dM jE (aA (aQ cO (a9 1) (eC (.int 1))) aG)) (gA (aA (aQ cO (a9 1) (eC (.int 0))) aG))) aG)) aG)) aG))))
 (aS (jJ (GJ (bU (aQ vM (a9 3) (eC .non))) (bU (aQ vM (a9 4) (eC .non)))) (cA (eC (.bl false))) c9)
 (cA (aQ tD (fT (aA (aQ fF (aQ cO (a9 4) (eC (.int 0))) (aQ cO (a9 3) (eC (.int 0)))) (aA (aQ fF (aQ cO (a9 4) (eC (.int 1))) (aQ cO (a9 3) (eC (.int 1)))) aG))) (a9 2))))))
theorem tQ(P:Program)(w:World){K:W.Frag}(mg:Str->Option Value)(base:Heap){aZ:Fn}{sp:Fn}(m:At K mg "_law_walked" "_law_walked" (top 44) ["_law_sides", "_law_edge", "_law_vector"])(cK:mg "list" = none)(bA:mg "sorted" = none)(bK:mg "tuple" = none)(dF:Def P w K mg base 3 "_law_point" ["_law_sides", "_law_below"] (low K aZ))(fO:MonoF aZ)(len:∀ds Q,sp ds Q->ds.length=3)(hsp:∀ds Q,sp ds Q->jM aZ ↥Q (aJ ["_law_sides", "_law_edge", "_law_vector", "_law_start", "_law_high"] ds)):Def P w K mg base 4 "_law_walked" ["_law_sides", "_law_edge", "_law_vector"] (low K sp):=by
 have sc:FnScope ["_law_sides", "_law_edge", "_law_vector", "_law_start", "_law_high"] ["_law_sides", "_law_edge", "_law_vector"] (aF (top 44)):=by norm_cast
 refine m.okP (k:=3) (t:=jM aZ) sc (fun f cdv A outer s H E hr=>?_) len hsp
 ·
  have hu:=hr.units
  have hu1:=dR hr
  exact(aB (bS (i:=3) sc.nd rfl (.inl rfl) (bE dF fO (hr.mono ∅) (a8 (a7 0 (pv 0)) (a8 (bN hu1 (a7 1 (pv 1)) aI) aE))))
 (aB (bS (i:=4) sc.nd rfl (.inl rfl) (bE dF fO (hr.mono ∅) (a8 (a7 0 (pv 0)) (a8 (d4 fY rfl bK boot_tuple (a8 (aT fB rfl bA boot_sorted (a8 (aX bC (d4 oK rfl cK boot_list (a8 (bN hu1 (a7 1 (pv 1)) aI) aE)) (f9 (a8 (bN hu1 (a7 1 (pv 1)) aI) aE))) aE)) aE)) aE))))
 (aB (eH (QW.qt (pW (c7 o5 (a7 3 (pv 3)) pX) (p5 (c7 o5 (a7 4 (pv 4)) pX)))) (aH (bD mK)) bT)
 (aH (bD (jB (iH hu) (eN (a8 (aX cX (bN hu1 (a7 4 (pv 4)) aI) (bN hu1 (a7 3 (pv 3)) aI)) (a8 (aX cX (bN hu1 (a7 4 (pv 4)) aI) (bN hu1 (a7 3 (pv 3)) aI)) aE))) (a7 2 (pv 2))))))))
noncomputable abbrev iD:cD:=
 (aS (bV 6 (aQ fF (aQ eI (aQ cO (aQ cO (a9 1) (a9 3)) (eC (.int 0))) (aQ cO (aQ cO (a9 1) (a9 4)) (eC (.int 1)))) (aQ eI (aQ cO (aQ cO (a9 1) (a9 4)) (eC (.int 0))) (aQ cO (aQ cO (a9 1) (a9 3)) (eC (.int 1))))))
 (aS (jJ (bU (aQ L5 (a9 6) (eC (.int 0)))) (cA (B9 (eC (.int 1)))) c9)
 (AT 2 uF (a9 6))))
noncomputable abbrev mF:cD:=
 (aS (bV 2 (eC (.int 0)))
 (aS (h9 (iN (a9 0)) (gT [3,4,5]) iD)
 (cA (a9 2))))
theorem zU(P:Program)(w:World){K:W.Frag}(mg:Str->Option Value)(base:Heap){sp:Fn}(m:At K mg "_law_area" "_law_area" (top 45) ["_law_tiles", "_law_vectors"])(len:∀ds Q,sp ds Q->ds.length=2)(hsp:∀ds Q,sp ds Q->mF  ↥Q (aJ ["_law_tiles", "_law_vectors", "_law_area_here", "_law_a", "_law_b", "_law_below", "_law_one"] ds)):Def P w K mg base 1 "_law_area" ["_law_tiles", "_law_vectors"] (low K sp):=by
 have sc:FnScope ["_law_tiles", "_law_vectors", "_law_area_here", "_law_a", "_law_b", "_law_below", "_law_one"] ["_law_tiles", "_law_vectors"] (aF (top 45)):=by norm_cast
 refine m.okP (k:=0) (t:=mF ) sc (fun f cdv A outer s H E hr=>?_) len hsp
 ·
  have hu1:=dR hr
  exact(aB (bS (i:=2) sc.nd rfl (.inl rfl) aI)
 (aB (e9 PassesOwn.never rfl (dW (a7 0 (pv 0))) (tF (k:=7) (is:=[3,4,5]) rfl (bL (c6 (i:=3) sc.nd rfl (.inl rfl)) (bL (c6 (i:=4) sc.nd rfl (.inl rfl)) (bL (c6 (i:=5) sc.nd rfl (.inl rfl)) gL)))) (aB (bS (i:=6) sc.nd rfl (.inl rfl) (aX cX (aX cF (bN hu1 (bN hu1 (a7 1 (pv 1)) (a7 3 (pv 3))) aI) (bN hu1 (bN hu1 (a7 1 (pv 1)) (a7 4 (pv 4))) aI)) (aX cF (bN hu1 (bN hu1 (a7 1 (pv 1)) (a7 4 (pv 4))) aI) (bN hu1 (bN hu1 (a7 1 (pv 1)) (a7 3 (pv 3))) aI))))
 (aB (eH (c7 Am (a7 6 (pv 6)) aI) (aH (bD (Bb aI))) bT)
 (aH (Ik (i:=2) zI sc.nd rfl (.inl rfl) (a7 6 (pv 6)))))))
 (aH (bD (a7 2 (pv 2))))))
noncomputable abbrev gP(aU aZ:Fn):cD:=
 (qG 2 (bQ aZ (aA (a9 0) (aA (aQ cO (a9 3) (eC (.int 1))) aG))))
noncomputable abbrev gO(aU aZ:Fn):cD:=
 (qG 2 (bQ aZ (aA (a9 0) (aA (dM dX (aA (dM cP (aA (aQ cM (dM jE (aA (aQ cO (a9 3) (eC (.int 1))) aG)) (gA (aA (aQ cO (a9 3) (eC (.int 0))) aG))) aG)) aG)) aG))))
noncomputable abbrev gM(aU aZ:Fn):cD:=
 (aS (bV 6 (aQ cO (a9 2) (aQ fF (a9 5) (eC (.int 1)))))
 (aS (bV 7 (aQ cO (a9 2) (a9 5)))
 (aS (jJ (GJ (bU (aQ vM (a9 6) (eC .non))) (bU (aQ vM (a9 7) (eC .non)))) (cA (B9 (eC (.int 1)))) c9)
 (AT 4 uF (aQ fF (aQ eI (aQ cO (a9 6) (eC (.int 0))) (aQ cO (a9 7) (eC (.int 1)))) (aQ eI (aQ cO (a9 7) (eC (.int 0))) (aQ cO (a9 6) (eC (.int 1)))))))))
noncomputable abbrev kH(aU aZ:Fn):cD:=
 (aS (kR 2 (gA aG))
 (aS (h9 (iN (bQ aU (aA (BA (aA (dM e5 (aA (a9 1) aG)) aG)) aG))) (gN 3) (gP aU aZ))
 (aS (h9 (G7 (aA (bQ aU (aA (oE 1 (aA (dM e5 (aA (a9 1) aG)) aG) (fT (aA (aQ fF (eC (.int 0)) (aQ cO (a9 1) (a9 0))) (aA (a9 0) aG)))) aG)) aG)) (gN 3) (gO aU aZ))
 (aS (bV 4 (eC (.int 0)))
 (aS (h9 (fR (aA (dM e5 (aA (a9 2) aG)) aG)) (gN 5) (gM aU aZ))
 (cA (a9 4)))))))
theorem wO(P:Program)(w:World){K:W.Frag}(mg:Str->Option Value)(base:Heap){aU aZ:Fn}{sp:Fn}(m:At K mg "_law_round" "_law_round" (top 46) ["_law_sides", "_law_bands_here"])(bI:mg "len" = none)(cK:mg "list" = none)(b9:mg "range" = none)(bA:mg "sorted" = none)(mB:mg "reversed" = none)(bK:mg "tuple" = none)(fA:Def P w K mg base 1 "_law_rim" ["_law_path"] (low K aU))(iI:MonoF aU)(dF:Def P w K mg base 3 "_law_point" ["_law_sides", "_law_below"] (low K aZ))(fO:MonoF aZ)(ld:LamDefD K mg base "_law_round" ("_law_round" ++ ".<locals>." ++ "<lambda>"))(len:∀ds Q,sp ds Q->ds.length=2)(hsp:∀ds Q,sp ds Q->kH aU aZ ↥Q (aJ ["_law_sides", "_law_bands_here", "_law_points", "_law_edge", "_law_twice", "_law_k", "_law_one", "_law_other"] ds)):Def P w K mg base 4 "_law_round" ["_law_sides", "_law_bands_here"] (low K sp):=by
 have sc:FnScope ["_law_sides", "_law_bands_here", "_law_points", "_law_edge", "_law_twice", "_law_k", "_law_one", "_law_other"] ["_law_sides", "_law_bands_here"] (aF (top 46)):=by norm_cast
 refine m.okL (k:=3) (t:=kH aU aZ) sc ld (fun f cdv A outer s H E hr c Pt lcx ltab=>?_) len hsp
 ·
  have hu1:=dR hr
  exact(aB (kT (i:=2) sc.nd rfl (.inl rfl) (f9 aE))
 (aB (e9 PassesOwn.never rfl (dW (bE fA iI (hr.mono ∅) (a8 (iA rfl rfl cK rfl b9 (a8 (aT cR rfl bI boot_len (a8 (a7 1 (pv 1)) aE)) aE)) aE))) (hG (i:=3) (k:=8) sc.nd rfl (.inl rfl)) (aH (uB (i:=2) (pv 2) (bE dF fO (hr.mono ∅) (a8 (a7 0 (pv 0)) (a8 (bN hu1 (a7 3 (pv 3)) aI) aE))))))
 (aB (e9 PassesOwn.never rfl (Ja rfl mB (a8 (bE fA iI (hr.mono ∅) (a8 (y6 (k:=0) (i:=1) (x:="_law_band") (y:="_law_bands_here") rfl rfl bA rfl b9 (a8 (aT cR rfl bI boot_len (a8 (a7 1 (pv 1)) aE)) aE) (hr.mono ∅) lcx ltab ⟨fun _ _ _ _ _ _ _=>rfl,rfl,rfl,rfl,by decide +kernel,rfl,rfl,by decide +kernel,rfl,rfl,rfl⟩ rfl rfl rfl (fun f c' A s H hr=>have hu1:=dR hr;(eN (a8 (aX cX aI (bN hu1 (a7 1 (pv 1)) (a7 0 (pv 0)))) (a8 (a7 0 (pv 0)) aE))))) aE)) aE)) (hG (i:=3) (k:=8) sc.nd rfl (.inl rfl)) (aH (uB (i:=2) (pv 2) (bE dF fO (hr.mono ∅) (a8 (a7 0 (pv 0)) (a8 (d4 fY rfl bK boot_tuple (a8 (aT fB rfl bA boot_sorted (a8 (aX bC (d4 oK rfl cK boot_list (a8 (bN hu1 (a7 3 (pv 3)) aI) aE)) (f9 (a8 (bN hu1 (a7 3 (pv 3)) aI) aE))) aE)) aE)) aE))))))
 (aB (bS (i:=4) sc.nd rfl (.inl rfl) aI)
 (aB (e9 PassesOwn.never rfl (gF rfl b9 (a8 (aT cR rfl bI boot_len (a8 (a7 2 (pv 2)) aE)) aE)) (hG (i:=5) (k:=8) sc.nd rfl (.inl rfl)) (aB (bS (i:=6) sc.nd rfl (.inl rfl) (bN hu1 (a7 2 (pv 2)) (aX cX (a7 5 (pv 5)) aI)))
 (aB (bS (i:=7) sc.nd rfl (.inl rfl) (bN hu1 (a7 2 (pv 2)) (a7 5 (pv 5))))
 (aB (eH (QW.qt (pW (c7 o5 (a7 6 (pv 6)) pX) (p5 (c7 o5 (a7 7 (pv 7)) pX)))) (aH (bD (Bb aI))) bT)
 (aH (Ik (i:=4) zI sc.nd rfl (.inl rfl) (aX cX (aX cF (bN hu1 (a7 6 (pv 6)) aI) (bN hu1 (a7 7 (pv 7)) aI)) (aX cF (bN hu1 (a7 7 (pv 7)) aI) (bN hu1 (a7 6 (pv 6)) aI)))))))))
 (aH (bD (a7 4 (pv 4)))))))))
noncomputable abbrev lF(fZ bX bM cC bW dZ:Fn):cD:=
 (jJ (bU (aQ HQ (aQ cO (a9 0) (a9 7)) (aQ cO (a9 0) (a9 8)))) (qG 6 (fT (aA (a9 7) (aA (a9 8) aG)))) c9)
noncomputable abbrev lD(fZ bX bM cC bW dZ:Fn):cD:=
 (h9 (qU (aA (aQ cM (a9 7) (eC (.int 1))) (aA (dM e5 (aA (a9 0) aG)) aG))) (gN 8) (lF fZ bX bM cC bW dZ))
noncomputable abbrev lC(fZ bX bM cC bW dZ:Fn):cD:=
 (jJ (kY (lT (bQ bM (aA (a9 3) (aA (a9 12) (aA (aQ cO (a9 9) (aQ cO (a9 12) (eC (.int 0)))) aG)))))) (cA (eC (.bl false))) c9)
noncomputable abbrev lB(fZ bX bM cC bW dZ:Fn):cD:=
 (aS (bV 11 (dM dX (aA (dM cP (aA (aQ cM (dM jE (aA (a9 10) aG)) (gA (aA (a9 7) aG))) aG)) aG)))
 (h9 (iN (gA (aA (fT (aA (a9 7) (aA (a9 10) aG))) (aA (fT (aA (a9 8) (aA (a9 10) aG))) (aA (fT (aA (a9 8) (aA (a9 11) aG))) aG))))) (gN 12) (lC fZ bX bM cC bW dZ)))
noncomputable abbrev jN(fZ bX bM cC bW dZ:Fn):cD:=
 (aS (bV 3 (CL dZ (aA (a9 1) aG)))
 (aS (bV 4 (bQ fZ (aA (a9 3) (aA (a9 2) aG))))
 (aS (bV 5 (fV 3 [] (iN (a9 4)) (gT [0,1,2]) fM (fT (aA (a9 0) (aA (a9 1) aG)))))
 (aS (kR 6 (gA aG))
 (aS (h9 (fR (aA (dM e5 (aA (a9 0) aG)) aG)) (gN 7) (lD fZ bX bM cC bW dZ))
 (aS (jJ (GJ (bU (aQ Cv (a9 5) (a9 6))) (kY (lT (bQ bX (aA (a9 4) (aA (a9 0) aG)))))) (cA (eC (.bl false))) c9)
 (aS (bV 9 (fV 1 [1] (iN (a9 0)) (gN 0) fM (fT (aA (aQ cO (aQ cO (a9 1) (a9 0)) (eC (.int 0))) (aA (aQ cO (aQ cO (a9 1) (a9 0)) (eC (.int 1))) aG)))))
 (aS (h9 (iN (a9 4)) (gT [7,8,10]) (lB fZ bX bM cC bW dZ))
 (cA (aQ tD (aQ eI (eC (.int 2)) (bQ cC (aA (a9 4) (aA (a9 9) aG)))) (bQ bW (aA (a9 3) (aA (a9 0) aG)))))))))))))
theorem tR(P:Program)(w:World){K:W.Frag}(mg:Str->Option Value)(base:Heap){C:Addr}{fZ bX bM cC bW dZ:Fn}{sp:Fn}(m:At K mg "_law_covers" "_law_covers" (top 47) ["_law_bands_here", "_law_directions_here", "_law_row_here"])(bI:mg "len" = none)(b9:mg "range" = none)(cK:mg "list" = none)(bA:mg "sorted" = none)(bK:mg "tuple" = none)(BI:Def P w K mg base 6 "laid" ["sides", "row"] (low K fZ))(w4:MonoF fZ)(l6:Def P w K mg base 2 "_law_hands" ["_law_tiles", "_law_bands_here"] (low K bX))(vU:MonoF bX)(k4:Def P w K mg base 4 "_law_walked" ["_law_sides", "_law_edge", "_law_vector"] (low K bM))(tJ:MonoF bM)(mY:Def P w K mg base 1 "_law_area" ["_law_tiles", "_law_vectors"] (low K cC))(z9:MonoF cC)(l5:Def P w K mg base 4 "_law_round" ["_law_sides", "_law_bands_here"] (low K bW))(vT:MonoF bW)(wW:IDef P w K mg base 5 "Sides" C ["self", "directions"] dZ)(FP:MonoF dZ)(len:∀ds Q,sp ds Q->ds.length=3)(hsp:∀ds Q,sp ds Q->jN fZ bX bM cC bW dZ ↥Q (aJ ["_law_bands_here", "_law_directions_here", "_law_row_here", "_law_sides", "_law_tiles", "_law_pairs", "_law_due", "_law_a", "_law_b", "_law_vectors", "_law_below", "_law_with_a", "_law_edge"] ds)):Def P w K mg base 7 "_law_covers" ["_law_bands_here", "_law_directions_here", "_law_row_here"] (low K sp):=by
 have sc:FnScope ["_law_bands_here", "_law_directions_here", "_law_row_here", "_law_sides", "_law_tiles", "_law_pairs", "_law_due", "_law_a", "_law_b", "_law_vectors", "_law_below", "_law_with_a", "_law_edge"] ["_law_bands_here", "_law_directions_here", "_law_row_here"] (aF (top 47)):=by norm_cast
 refine m.okP (k:=6) (t:=jN fZ bX bM cC bW dZ) sc (fun f cdv A outer s H E hr=>?_) len hsp
 ·
  have hu:=hr.units
  have hu1:=dR hr
  exact(aB (bS (i:=3) sc.nd rfl (.inl rfl) (JZ wW FP (hr.mono ∅) (a8 (a7 1 (pv 1)) aE)))
 (aB (bS (i:=4) sc.nd rfl (.inl rfl) (bE BI w4 (hr.mono ∅) (a8 (a7 3 (pv 3)) (a8 (a7 2 (pv 2)) aE))))
 (aB (Ac (EL (iy:=5) ["_law_a", "_law_b", "_law_below"] [] [] sc.nd rfl (.inl rfl) rfl (dW (a7 4 (pv 4))) (fun fp s H=>(tF (k:=3) (is:=[0,1,2]) rfl (bL (c6 (i:=0) (show List.Nodup (["_law_a", "_law_b", "_law_below"]:List Str) by decide +kernel) rfl (.inl rfl)) (bL (c6 (i:=1) (show List.Nodup (["_law_a", "_law_b", "_law_below"]:List Str) by decide +kernel) rfl (.inl rfl)) (bL (c6 (i:=2) (show List.Nodup (["_law_a", "_law_b", "_law_below"]:List Str) by decide +kernel) rfl (.inl rfl)) gL))))) (fun fp s H=>i9) (fun fp s H=>(eN (a8 (a7 0 (pv 0)) (a8 (a7 1 (pv 1)) aE))))))
 (aB (kT (i:=6) sc.nd rfl (.inl rfl) (f9 aE))
 (aB (e9 PassesOwn.never rfl (gF rfl b9 (a8 (aT cR rfl bI boot_len (a8 (a7 0 (pv 0)) aE)) aE)) (hG (i:=7) (k:=13) sc.nd rfl (.inl rfl)) (aH (e9 PassesOwn.never rfl (Cj rfl b9 (a8 (aX bC (a7 7 (pv 7)) aI) (a8 (aT cR rfl bI boot_len (a8 (a7 0 (pv 0)) aE)) aE))) (hG (i:=8) (k:=13) sc.nd rfl (.inl rfl)) (aH (eH (c7 pB (bN hu1 (a7 0 (pv 0)) (a7 7 (pv 7))) (bN hu1 (a7 0 (pv 0)) (a7 8 (pv 8)))) (aH (uB (i:=6) (pv 6) (eN (a8 (a7 7 (pv 7)) (a8 (a7 8 (pv 8)) aE))))) bT)))))
 (aB (eH (QW.qt (pW (c7 (vP hu) (a7 5 (pv 5)) (a7 6 (pv 6))) (p5 (fN (gE (bE l6 vU (hr.mono ∅) (a8 (a7 4 (pv 4)) (a8 (a7 0 (pv 0)) aE)))))))) (aH (bD mK)) bT)
 (aB (Ac (EL (iy:=9) ["_law_kind"] ["_law_directions_here"] [1] sc.nd rfl (.inl rfl) rfl (dW (a7 0 (pv 0))) (fun fp s H=>(hG (i:=0) (k:=1) (show List.Nodup (["_law_kind", "_law_directions_here"]:List Str) by decide +kernel) rfl (.inl rfl))) (fun fp s H=>i9) (fun fp s H=>(eN (a8 (bN hu1 (bN hu1 (a7 1 (pv 1)) (a7 0 (pv 0))) aI) (a8 (bN hu1 (bN hu1 (a7 1 (pv 1)) (a7 0 (pv 0))) aI) aE))))))
 (aB (e9 PassesOwn.never rfl (dW (a7 4 (pv 4))) (tF (k:=13) (is:=[7,8,10]) rfl (bL (c6 (i:=7) sc.nd rfl (.inl rfl)) (bL (c6 (i:=8) sc.nd rfl (.inl rfl)) (bL (c6 (i:=10) sc.nd rfl (.inl rfl)) gL)))) (aB (bS (i:=11) sc.nd rfl (.inl rfl) (d4 fY rfl bK boot_tuple (a8 (aT fB rfl bA boot_sorted (a8 (aX bC (d4 oK rfl cK boot_list (a8 (a7 10 (pv 10)) aE)) (f9 (a8 (a7 7 (pv 7)) aE))) aE)) aE)))
 (aH (e9 PassesOwn.never rfl (dW (f9 (a8 (eN (a8 (a7 7 (pv 7)) (a8 (a7 10 (pv 10)) aE))) (a8 (eN (a8 (a7 8 (pv 8)) (a8 (a7 10 (pv 10)) aE))) (a8 (eN (a8 (a7 8 (pv 8)) (a8 (a7 11 (pv 11)) aE))) aE))))) (hG (i:=12) (k:=13) sc.nd rfl (.inl rfl)) (aH (eH (fN (gE (bE k4 tJ (hr.mono ∅) (a8 (a7 3 (pv 3)) (a8 (a7 12 (pv 12)) (a8 (bN hu1 (a7 9 (pv 9)) (bN hu1 (a7 12 (pv 12)) aI)) aE)))))) (aH (bD mK)) bT))))))
 (aH (bD (jB (iH hu) (aX cF aI (bE mY z9 (hr.mono ∅) (a8 (a7 4 (pv 4)) (a8 (a7 9 (pv 9)) aE)))) (bE l5 vT (hr.mono ∅) (a8 (a7 3 (pv 3)) (a8 (a7 0 (pv 0)) aE))))))))))))))
noncomputable abbrev CT(eF b7 dG fD c8 d8:Fn):cD:=
 (aS (bV 2 (bQ dG (aA (bQ b7 (aA (a9 0) (aA (a9 1) aG))) (aA (bQ eF (aA (a9 0) (aA (a9 1) (aA (eC (.int 10)) aG)))) aG))))
 (aS (bV 3 (bQ fD (aA (a9 2) (aA (bQ b7 (aA (a9 0) (aA (aQ cM (a9 1) (eC (.int 2))) aG))) aG))))
 (jJ (kY (lT (bQ d8 (aA (a9 2) (aA (bQ c8 (aA (a9 2) (aA (bQ b7 (aA (a9 0) (aA (aQ cM (a9 1) (eC (.int 1))) aG))) aG))) (aA (a9 3) aG)))))) (cA (eC (.bl false))) c9)))
noncomputable abbrev E4(eF b7 dG fD c8 d8:Fn):cD:=
 (aS (h9 (qT (aA (eC (.int 0)) (aA (aQ cM (dM rY (aA (eC (.int 13)) (aA (dM e5 (aA (a9 0) aG)) aG))) (eC (.int 1))) (aA (eC (.int 3)) aG)))) (gN 1) (CT eF b7 dG fD c8 d8))
 (cA (eC (.bl true))))
theorem Ko(P:Program)(w:World){K:W.Frag}(mg:Str->Option Value)(base:Heap){eF b7 dG fD c8 d8:Fn}{sp:Fn}{fL:Addr}{fdL:FuncData}(F:Fun K "law" "law" (top 48) fL fdL)(bI:mg "len" = none)(u5:mg "min" = none)(b9:mg "range" = none)(mX:Def P w K mg base 2 "_law_most" ["_law_script", "_law_k", "_law_usual"] (low K eF))(z8:MonoF eF)(cT:Def P w K mg base 1 "_law_cell_at" ["_law_script", "_law_k"] (low K b7))(eA:MonoF b7)(l8:Def P w K mg base 1 "_law_bands" ["_law_cell", "_law_most_here"] (low K dG))(vW:MonoF dG)(pQ:Def P w K mg base 2 "_law_row" ["_law_bands_here", "_law_cell"] (low K fD))(Ar:MonoF fD)(gH:Def P w K mg base 2 "_law_directions" ["_law_bands_here", "_law_cell"] (low K c8))(o8:MonoF c8)(k5:Def P w K mg base 7 "_law_covers" ["_law_bands_here", "_law_directions_here", "_law_row_here"] (low K d8))(tK:MonoF d8)(len:∀ds Q,sp ds Q->ds.length=1)(hsp:∀ds Q,sp ds Q->E4 eF b7 dG fD c8 d8 ↥Q (aJ ["_law_script", "_law_k", "_law_bands_here", "_law_row_here"] ds)):FnOk P w K mg base u3 8 fL fdL ["_law_script"] (low K sp):=by
 have sc:FnScope ["_law_script", "_law_k", "_law_bands_here", "_law_row_here"] ["_law_script"] (aF (top 48)):=by norm_cast
 refine F.ok (k:=7) sc (o9 len) fun cdv A outer s H vs Q E hr qq=>oM (N:=["_law_script", "_law_k", "_law_bands_here", "_law_row_here"]) (t:=E4 eF b7 dG fD c8 d8) ?_ hsp qq
 ·
  exact(aB (e9 PassesOwn.never rfl (Ci rfl b9 (a8 aI (a8 (aX bC (aT (CQ rfl) rfl u5 boot_min (a8 aI (a8 (aT cR rfl bI boot_len (a8 (a7 0 (pv 0)) aE)) aE))) aI) (a8 aI aE)))) (hG (i:=1) (k:=4) sc.nd rfl (.inl rfl)) (aB (bS (i:=2) sc.nd rfl (.inl rfl) (bE l8 vW (hr.mono ∅) (a8 (bE cT eA (hr.mono ∅) (a8 (a7 0 (pv 0)) (a8 (a7 1 (pv 1)) aE))) (a8 (bE mX z8 (hr.mono ∅) (a8 (a7 0 (pv 0)) (a8 (a7 1 (pv 1)) (a8 aI aE)))) aE))))
 (aB (bS (i:=3) sc.nd rfl (.inl rfl) (bE pQ Ar (hr.mono ∅) (a8 (a7 2 (pv 2)) (a8 (bE cT eA (hr.mono ∅) (a8 (a7 0 (pv 0)) (a8 (aX bC (a7 1 (pv 1)) aI) aE))) aE))))
 (aH (eH (fN (gE (bE k5 tK (hr.mono ∅) (a8 (a7 2 (pv 2)) (a8 (bE gH o8 (hr.mono ∅) (a8 (a7 2 (pv 2)) (a8 (bE cT eA (hr.mono ∅) (a8 (a7 0 (pv 0)) (a8 (aX bC (a7 1 (pv 1)) aI) aE))) aE))) (a8 (a7 3 (pv 3)) aE)))))) (aH (bD mK)) bT)))))
 (aH (bD mK)))
end
end Lw
namespace Fl
noncomputable def aR(l:List Int)(p:Nat):List Int:=l.take p++[l.getD (p+1) 0,l.getD p 0]++l.drop (p+2)
theorem j8{l:List Int}{p:Nat}(hp:p+1<l.length):(aR l p).length=l.length:=by unfold aR;simp;ac_rfl
theorem rB{l:List Int}{p k:Nat}(hp:p+1<l.length)(hk:k<l.length):(aR l p).getD k 0=if k=p+1 then l.getD p 0 else if k=p then l.getD (p+1) 0 else l.getD k 0:=by
 unfold aR
 simp only[List.getD,append_assoc]
 by_cases h1:k<p
 ·rw[List.getElem?_append_left (by simp;ac_rfl),List.getElem?_take_of_lt h1,if_neg ⋯,if_neg ⋯]
 ·rw[List.getElem?_append_right (by simp;ac_rfl),length_take,min_eq_left ⋯]
  by_cases h2:k=p
  ·subst h2
   rw[if_neg ⋯,if_pos rfl]
   simp
  ·by_cases h3:k=p+1
   ·subst h3
    rw[if_pos rfl,show p+1-p=1 by ac_rfl]
    simp
   ·rw[if_neg h3,if_neg h2,List.getElem?_append_right (by simp;ac_rfl)]
    simp only[length_cons,length_nil,List.getElem?_drop]
    rw[show p+2+(k-p-(0+1+1))=k by ac_rfl]
noncomputable def sg(p i:Nat):Nat:=if i=p then p+1 else if i=p+1 then p else i
theorem BZ(p i:Nat):sg p (sg p i)=i:=by unfold sg;split<;>split<;>first | ac_rfl | (split<;>ac_rfl)
theorem nW{n p i:Nat}(hp:p+1<n)(hi:i<n):sg p i<n:=by unfold sg;split<;>first | ac_rfl | (split<;>ac_rfl)
theorem nK{l:List Int}{p i:Nat}(hp:p+1<l.length)(hi:i<l.length):(aR l p).getD (sg p i) 0=l.getD i 0:=by
 rw[rB hp (nW hp hi)]
 unfold sg
 by_cases h:i=p
 ·rw[if_pos h,if_pos rfl,h]
 ·rw[if_neg h]
  by_cases h2:i=p+1
  ·rw[if_pos h2,if_neg ⋯,if_pos rfl,h2]
  ·rw[if_neg h2,if_neg h2,if_neg h]
structure Pt(n:Nat)(l:List Int):Prop where
 len:l.length=n
 bd:∀i,i<n->0<=l.getD i 0/\l.getD i 0<n
 inj:∀i j,i<n->j<n->l.getD i 0=l.getD j 0->i=j
 sur:∀x:Int,0<=x->x<n -> ∃i,i<n/\l.getD i 0=x
noncomputable abbrev ids(n:Nat):List Int:=(List.range n).map fun(k:Nat)=>(k:Int)
theorem fQ{n i:Nat}(h:i<n):(ids n).getD i 0=i:=by simp[ids,List.getD,h]
theorem Pt.ids(n:Nat):Pt n (ids n):=by
 refine⟨by simp[Fl.ids],fun i hi=>by rw[fQ hi];ac_rfl,fun i j hi hj e=>by rw[fQ hi,fQ hj] at e;ac_rfl,fun x h0 h1=>⟨x.toNat,⋯,by rw[fQ ⋯];ac_rfl⟩⟩
theorem Pt.swap{n p:Nat}{l:List Int}(h:Pt n l)(hp:p+1<n):Pt n (aR l p):=by
 have hl:=h.len
 have g:∀i,i<n->(aR l p).getD i 0=l.getD (sg p i) 0:=fun i hi=>by
  have:=nK (l:=l) (p:=p) (i:=sg p i) ⋯ (by rw[hl];exact nW hp hi)
  rwa[BZ] at this
 refine⟨by rw[j8 ⋯];exact hl,fun i hi=>by rw[g i hi];exact h.bd _ (nW hp hi),fun i j hi hj e=>?_,fun x h0 h1=>?_⟩
 ·rw[g i hi,g j hj] at e
  have:=h.inj _ _ (nW hp hi) (nW hp hj) e
  have:=congrArg (sg p) this
  rwa[BZ,BZ] at this
 ·obtain⟨i,hi,e⟩:=h.sur x h0 h1
  exact⟨sg p i,nW hp hi,by rw[nK ⋯ ⋯];exact e⟩
noncomputable def Bf(l:List Int)(x y:Int):Prop:=∃i j,i<j/\j<l.length/\l.getD i 0=x/\l.getD j 0=y
section
variable {n p:Nat} {l:List Int} {x y:Int}
theorem Bf.anti(P:Pt n l)(h:Bf l x y)(k:Bf l y x):False:=by
 obtain⟨i,j,a,b,c,d⟩:=h
 obtain⟨i',j',a',b',c',d'⟩:=k
 have hl:=P.len
 have:=P.inj i j' ⋯ ⋯ (c.trans d'.symm)
 have:=P.inj j i' ⋯ ⋯ (d.trans c'.symm)
 ac_rfl
theorem Bf.swap(P:Pt n l)(hp:p+1<n)(h:Bf l x y)(ne:¬(x=l.getD p 0/\y=l.getD (p+1) 0)):Bf (aR l p) x y:=by
 obtain⟨i,j,a,b,c,d⟩:=h
 have hl:=P.len
 refine⟨sg p i,sg p j,?_,by rw[j8 ⋯,hl];exact nW hp ⋯,by rw[nK ⋯ ⋯];exact c,by rw[nK ⋯ ⋯];exact d⟩
 by_cases z:i=p/\j=p+1
 ·exact absurd ⟨by rw[<- c,z.1],by rw[<- d,z.2]⟩ ne
 ·unfold sg
  split<;>split<;>first | ac_rfl | (split<;>first | ac_rfl | (split<;>ac_rfl))
theorem Bf.new(hp:p+1<l.length):Bf (aR l p) (l.getD (p+1) 0) (l.getD p 0):=
 ⟨p,p+1,⋯,by rw[j8 hp];exact hp,by rw[rB hp ⋯,if_neg ⋯,if_pos rfl],by rw[rB hp hp,if_pos rfl]⟩
theorem Bf.back(P:Pt n l)(hp:p+1<n)(h:Bf (aR l p) x y):Bf l x y \/ (x=l.getD (p+1) 0/\y=l.getD p 0):=by
 have hl:=P.len
 by_cases z:x=l.getD (p+1) 0/\y=l.getD p 0
 ·exact .inr z
 ·have P':=P.swap hp
  obtain⟨i,j,a,b,c,d⟩:=h
  rw[j8 ⋯] at b
  have g:∀i,i<n->(aR l p).getD i 0=l.getD (sg p i) 0:=fun i hi=>by
   have:=nK (l:=l) (p:=p) (i:=sg p i) ⋯ (by rw[hl];exact nW hp hi)
   rwa[BZ] at this
  rw[g i ⋯] at c
  rw[g j ⋯] at d
  refine .inl ⟨sg p i,sg p j,?_,by rw[hl];exact nW hp ⋯,c,d⟩
  by_cases w:i=p/\j=p+1
  ·exfalso
   apply z
   obtain⟨rfl,rfl⟩:=w
   refine⟨?_,?_⟩
   ·rw[<- c];unfold sg;rw[if_pos rfl]
   ·rw[<- d];unfold sg;rw[if_neg ⋯,if_pos rfl]
  ·unfold sg
   split<;>split<;>first | ac_rfl | (split<;>first | ac_rfl | (split<;>ac_rfl))
theorem Bf.near(hp:p+1<l.length):Bf l (l.getD p 0) (l.getD (p+1) 0):=⟨p,p+1,⋯,hp,rfl,rfl⟩
theorem G5{n:Nat}{x y:Int}(h0:0<=x)(h:x<y)(h1:y<n):Bf (ids n) x y:=
 ⟨x.toNat,y.toNat,⋯,by simp[ids];ac_rfl,by rw[fQ ⋯];ac_rfl,by rw[fQ ⋯];ac_rfl⟩
end
noncomputable abbrev kd(ks:List Int)(x:Int):Int:=ks.getD x.toNat 0
inductive Walk(ks:List Int):List Int->List Int->List Int->Prop
 |nil (l:List Int):Walk ks l [] l
 |cons {l e r:List Int} {p:Nat}:p+1<ks.length->kd ks (l.getD p 0)<kd ks (l.getD (p+1) 0)->Walk ks (aR l p) r e->Walk ks l ((p:Int)::r) e
noncomputable def tls:List Int->List Int->List (Int×Int×List Int)
 |_,[]=>[]
 |l,p::r=>(l.getD p.toNat 0,l.getD (p.toNat+1) 0,l.take p.toNat)::tls (aR l p.toNat) r
theorem v3:∀(r l:List Int),(tls l r).length=r.length
 | [],_=>rfl
 |p::r,l=>by rw[tls,length_cons,length_cons,v3 r]
section
variable {ks l e r:List Int} {x y:Int}
theorem Walk.snoc{p:Nat}(w:Walk ks l r e)(hp:p+1<ks.length)(h:kd ks (e.getD p 0)<kd ks (e.getD (p+1) 0)):Walk ks l (r++[(p:Int)]) (aR e p):=by
 induction w with
 |nil l=>exact .cons hp h (.nil _)
 |cons a b _ ih=>exact .cons a b (ih h)
theorem Walk.pt(w:Walk ks l r e)(P:Pt ks.length l):Pt ks.length e:=by
 induction w with
 |nil l=>exact P
 |cons a b _ ih=>exact ih (P.swap a)
theorem Walk.stay(w:Walk ks l r e)(P:Pt ks.length l)(k:kd ks x<=kd ks y)(h:Bf l y x):Bf e y x:=by
 induction w with
 |nil l=>exact h
 |cons a b w ih=>
  refine ih (P.swap a) (h.swap P a fun z=>?_)
  rw[z.1,z.2] at k
  ac_rfl
theorem Walk.key(w:Walk ks l r e)(P:Pt ks.length l){t:Int×Int×List Int}(h:t∈tls l r):Bf l t.1 t.2.1/\kd ks t.1<kd ks t.2.1/\Bf e t.2.1 t.1:=by
 induction w with
 |nil l=>cases h
 | @cons l e r p a b w ih=>
  have hl:=P.len
  rw[tls,toNat_natCast] at h
  rcases mem_cons.mp h with rfl | h
  ·exact⟨Bf.near ⋯,b,w.stay (P.swap a) (Int.le_of_lt b) (Bf.new ⋯)⟩
  ·obtain⟨h1,h2,h3⟩:=ih (P.swap a) h
   refine⟨?_,h2,h3⟩
   rcases h1.back P a with z | z
   ·exact z
   ·rw[z.1,z.2] at h2
    ac_rfl
theorem Walk.nodup(w:Walk ks l r e)(P:Pt ks.length l):((tls l r).map fun t=>(t.1,t.2.1)).Nodup:=by
 induction w with
 |nil l=>exact List.nodup_nil
 | @cons l e r p a b w ih=>
  have hl:=P.len
  rw[tls,toNat_natCast,map_cons]
  refine nodup_cons.mpr ⟨fun h=>?_,ih (P.swap a)⟩
  obtain⟨t,ht,et⟩:=mem_map.mp h
  obtain⟨h1,_,_⟩:=w.key (P.swap a) ht
  simp only[Prod.mk.injEq] at et
  rw[et.1,et.2] at h1
  exact h1.anti (P.swap a) (Bf.new ⋯)
theorem Walk.or(w:Walk ks l r e)(P:Pt ks.length l)(h:Bf l x y):(∃t∈tls l r,t.1=x/\t.2.1=y) \/ Bf e x y:=by
 induction w with
 |nil l=>exact .inr h
 | @cons l e r p a b w ih=>
  have hl:=P.len
  rw[tls,toNat_natCast]
  by_cases z:x=l.getD p 0/\y=l.getD (p+1) 0
  ·exact .inl ⟨_,mem_cons_self ..,z.1.symm,z.2.symm⟩
  ·rcases ih (P.swap a) (h.swap P a z) with⟨t,ht,et⟩ | q
   ·exact .inl ⟨t,mem_cons_of_mem _ ht,et⟩
   ·exact .inr q
noncomputable def fG(ks e:List Int):Prop:=∀p,p+1<ks.length->kd ks (e.getD (p+1) 0)<=kd ks (e.getD p 0)
theorem fG.le(d:fG ks e)(P:Pt ks.length e):∀(k i:Nat),i+k<ks.length->kd ks (e.getD (i+k) 0)<=kd ks (e.getD i 0)
 |0,i,_=>Int.le_refl _
 |k+1,i,h=>Int.le_trans (d (i+k) ⋯) (d.le P k i ⋯)
theorem Walk.all(w:Walk ks l r e)(P:Pt ks.length l)(d:fG ks e)(k:kd ks x<kd ks y)(h:Bf l x y):∃t∈tls l r,t.1=x/\t.2.1=y:=by
 rcases w.or P h with q | ⟨i,j,a,b,c,f⟩
 ·exact q
 ·have P':=w.pt P
  have hl:=P'.len
  have:=d.le P' (j-i) i ⋯
  rw[show i+(j-i)=j by ac_rfl,c,f] at this
  ac_rfl
end
noncomputable def pc:List Int->Nat
 | []=>0
 |x::r=>(r.filter fun y=>decide (x<y)).length+pc r
theorem Bi{a b:Int}(h:a<b)(v:List Int):∀u:List Int,pc (u++a::b::v)=pc (u++b::a::v)+1
 | []=>by
  have h':¬b<a:=⋯
  simp only[nil_append,pc,List.filter_cons,h,h',decide_true,decide_false,if_true,Bool.false_eq_true,if_false,length_cons]
  ac_rfl
 |x::u=>by
  have e:((u++a::b::v).filter fun y=>decide (x<y)).length=((u++b::a::v).filter fun y=>decide (x<y)).length:=by
   simp only[filter_append,List.filter_cons,length_append]
   split<;>split<;>simp
  rw[cons_append,cons_append,pc,pc,Bi h v u,e]
  ac_rfl
theorem Ip:∀l:List Int,pc l<=l.length*l.length
 | []=>le_refl _
 |x::r=>by
  have h1:=Ip r
  have h2:=List.length_filter_le (fun y=>decide (x<y)) r
  rw[pc,length_cons,add_mul,mul_add]
  ac_rfl
theorem Ls{l:List Int}(h:1<=l.length):pc l<l.length*l.length:=by
 cases l with
 |nil=>simp at h
 |cons x r=>
  have h1:=Ip r
  have h2:=List.length_filter_le (fun y=>decide (x<y)) r
  rw[pc,length_cons,add_mul,mul_add]
  ac_rfl
theorem mH{l:List Int}{p:Nat}(hp:p+1<l.length):l=l.take p++l.getD p 0::l.getD (p+1) 0::l.drop (p+2):=by
 have e1:l.drop p=l.getD p 0::l.drop (p+1):=by
  rw[drop_eq_getElem_cons (show p<l.length by ac_rfl)]
  simp[List.getD,show p<l.length by ac_rfl]
 have e2:l.drop (p+1)=l.getD (p+1) 0::l.drop (p+2):=by
  rw[drop_eq_getElem_cons hp]
  simp[List.getD,hp]
 rw[<- e2,<- e1,List.take_append_drop]
theorem Walk.count{ks l r e:List Int}(w:Walk ks l r e)(hl:l.length=ks.length):pc (l.map (kd ks))=r.length+pc (e.map (kd ks)):=by
 induction w with
 |nil l=>simp
 | @cons l e r p a b w ih=>
  have h1:=ih (by rw[j8 ⋯];exact hl)
  have h2:pc (l.map (kd ks))=pc ((aR l p).map (kd ks))+1:=by
   have e1:=congrArg (List.map (kd ks)) (mH (l:=l) (p:=p) ⋯)
   rw[map_append,map_cons,map_cons] at e1
   rw[e1,Bi b]
   congr 2
   unfold aR
   simp
  rw[h2,h1,length_cons]
  ac_rfl
theorem Kg(ks:List Int):(ids ks.length).map (kd ks)=ks:=by
 apply ext_getElem?
 intro i
 by_cases h:i<ks.length
 ·simp[ids,kd,h]
 ·simp[ids,h]
section
variable {ks l e r:List Int}
theorem Walk.at(w:Walk ks l r e):∀{k:Nat} {t:Int×Int×List Int},(tls l r)[k]?=some t -> ∃(m:List Int) (p:Nat),Walk ks l (r.take k) m/\p+1<ks.length/\t=(m.getD p 0,m.getD (p+1) 0,m.take p):=by
 induction w with
 |nil l=>intro k t h;simp[tls] at h
 | @cons l e r p a b w ih=>
  intro k t h
  rw[tls,toNat_natCast] at h
  cases k with
  |zero=>
   simp only[List.getElem?_cons_zero,Option.some.injEq] at h
   exact⟨l,p,.nil _,a,h.symm⟩
  |succ k=>
   rw[List.getElem?_cons_succ] at h
   obtain⟨m,q,w1,hq,et⟩:=ih h
   exact⟨m,q,.cons a b w1,hq,et⟩
end
end Fl
set_option maxHeartbeats 8000000
namespace Fl
section
variable {ks r e:List Int}
noncomputable def GZ(ks:List Int):Prop:=∀a b:Int,0<=a->a<=b->b<ks.length->kd ks a<=kd ks b
end
section
variable {n L:Nat} {kk:Int->Int} {T:Int->Int->Nat}
end
noncomputable def srt(l:List Int):List Int:=l.mergeSort fun a b=>decide (a<=b)
theorem dO(l:List Int):(srt l).Perm l:=List.mergeSort_perm l _
theorem E6(l:List Int):(srt l).Pairwise (· <= ·):=by
 have:=List.pairwise_mergeSort (le:=fun a b:Int=>decide (a<=b)) (fun a b c h1 h2=>by simp at *;ac_rfl) (fun a b=>by simp;ac_rfl) l
 exact this.imp fun h=>of_decide_eq_true h
theorem BX:∀{l m:List Int},l.Perm m->l.Pairwise (· <= ·)->m.Pairwise (· <= ·)->l=m
 | [],m,p,_,_=>(List.nil_perm.mp p).symm
 |x::l,[],p,_,_=>by have:=p.length_eq;simp at this
 |x::l,y::m,p,h1,h2=>by
  obtain⟨a1,a2⟩:=pairwise_cons.mp h1
  obtain⟨b1,b2⟩:=pairwise_cons.mp h2
  have e:x=y:=by
   have i1:x∈y::m:=p.mem_iff.mp (mem_cons_self ..)
   have i2:y∈x::l:=p.mem_iff.mpr (mem_cons_self ..)
   rcases mem_cons.mp i1 with z | z
   ·exact z
   ·rcases mem_cons.mp i2 with q | q
    ·exact q.symm
    ·have:=b1 x z
     have:=a1 y q
     ac_rfl
  subst e
  rw[BX (List.perm_cons _ |>.mp p) a2 b2]
theorem c5{l m:List Int}(p:m.Perm l)(h:m.Pairwise (· <= ·)):m=srt l:=BX (p.trans (dO l).symm) h (E6 l)
theorem E7{l m:List Int}(p:l.Perm m):srt l=srt m:=c5 ((dO l).trans p) (E6 l)
theorem xT(l:List Int)(x:Int):srt (srt l++[x])=srt (l++[x]):=E7 ((dO l).append_right _)
theorem v8(l:List Int):(srt l).length=l.length:=(dO l).length_eq
section
variable {ks r e:List Int}
end
section
variable {ks R S e cur:List Int}
end
noncomputable abbrev Ed:=Int×List Int
noncomputable def bO:List Int->List Int->List Ed
 |_,[]=>[]
 |h,b::l=>(b,srt h)::bO (h++[b]) l
theorem rR:∀(h u v:List Int),bO h (u++v)=bO h u++bO (h++u) v
 |h,[],v=>by simp[bO]
 |h,b::u,v=>by rw[cons_append,bO,rR,bO,cons_append,append_assoc];rfl
theorem u9:∀{h k:List Int} (l:List Int),h.Perm k->bO h l=bO k l
 |_,_,[],_=>rfl
 |_,_,b::l,p=>by rw[bO,bO,E7 p,u9 l (p.append_right [b])]
theorem iG:∀(h l:List Int),(bO h l).map (·.1)=l
 |_,[]=>rfl
 |h,b::l=>by rw[bO,map_cons,iG]
theorem nX:∀{h l:List Int} {x:Ed},x∈bO h l -> ∃u v,l=u++x.1::v/\x.2=srt (h++u)
 |_,[],_,m=>by cases m
 |h,b::l,x,m=>by
  rw[bO] at m
  rcases mem_cons.mp m with rfl | m
  ·exact⟨[],l,rfl,by simp⟩
  ·obtain⟨u,v,e,s⟩:=nX m
   exact⟨b::u,v,by rw[e];rfl,by rw[s,append_assoc];rfl⟩
noncomputable abbrev tS(t:Int×Int×List Int):Int×Int×List Int:=(t.1,t.2.1,srt t.2.2)
noncomputable def lE(t:Int×Int×List Int):List Ed:=[(t.2.1,t.2.2),(t.1,srt (t.2.2++[t.2.1]))]
noncomputable def rE(t:Int×Int×List Int):List Ed:=[(t.1,t.2.2),(t.2.1,srt (t.2.2++[t.1]))]
noncomputable def sgn(ks:List Int)(b c:Int):Int:=if kd ks b<kd ks c then 1 else if kd ks c<kd ks b then -1 else 0
noncomputable def mu(ks:List Int)(x:Ed):Int:=(x.2.map (sgn ks x.1)).sum
theorem xR{l m:List Int}(p:l.Perm m):l.sum=m.sum:=by
 induction p with
 |nil=>rfl
 |cons x _ ih=>rw[sum_cons,sum_cons,ih]
 |swap x y l=>simp only[sum_cons];ac_rfl
 |trans _ _ a b=>rw[a,b]
theorem FB(ks:List Int)(b:Int)(h:List Int):mu ks (b,srt h)=mu ks (b,h):=xR ((dO h).map _)
theorem C8(ks:List Int)(b c:Int)(h:List Int):mu ks (b,srt (h++[c]))=mu ks (b,srt h)+sgn ks b c:=by
 rw[FB,FB]
 unfold mu
 simp
noncomputable def lef(l r:List Int):List Ed:=((tls l r).map tS).flatMap lE
noncomputable def rig(l r:List Int):List Ed:=((tls l r).map tS).flatMap rE
theorem CI{E:List Ed}(n:(E.map (·.1)).Nodup){x y:Ed}(hx:x∈E)(hy:y∈E)(e:x.1=y.1):x=y:=by
 rw[nodup_iff_pairwise_ne,pairwise_map,pairwise_iff_getElem] at n
 obtain⟨i,hi,rfl⟩:=mem_iff_getElem.mp hx
 obtain⟨j,hj,rfl⟩:=mem_iff_getElem.mp hy
 rcases Nat.lt_trichotomy i j with z | z | z
 ·exact(n i j hi hj z e).elim
 ·subst z;rfl
 ·exact(n j i hj hi z e.symm).elim
theorem Pt.nodup{n:Nat}{l:List Int}(P:Pt n l):l.Nodup:=by
 rw[nodup_iff_pairwise_ne,pairwise_iff_getElem]
 intro i j hi hj hij e
 have hl:=P.len
 have:=P.inj i j ⋯ ⋯ (by simp[List.getD,hi,hj,e])
 ac_rfl
structure Eds(ks l r e:List Int):Prop where
 per:(bO [] l++lef l r).Perm (rig l r++bO [] e)
 nd:(bO [] l++lef l r).Nodup
 up:∀x∈lef l r,∀y∈bO [] l,y.1=x.1->mu ks y<mu ks x
theorem Walk.eds{ks l r e:List Int}(w:Walk ks l r e):Pt ks.length l->Eds ks l r e:=by
 induction w with
 |nil l=>
  intro P
  have nf:((bO [] l).map (·.1)).Nodup:=by rw[iG];exact P.nodup
  refine⟨by simp[lef,rig,tls],?_,fun x hx=>by simp[lef,tls] at hx⟩
  rw[show lef l []=[] from rfl,append_nil,nodup_iff_pairwise_ne]
  exact List.Pairwise.of_map _ (fun a b h z=>h (congrArg _ z)) nf
 | @cons l e r p hp hlt w ih=>
  intro P
  obtain⟨per,nd,up⟩:=ih (P.swap hp)
  have hl:=P.len
  have sp:=mH (l:=l) (p:=p) ⋯
  have nf:((bO [] l).map (·.1)).Nodup:=by rw[iG];exact P.nodup
  have nf':((bO [] (aR l p)).map (·.1)).Nodup:=by rw[iG];exact(P.swap hp).nodup
  have nl:=P.nodup
  have eL:lef l ((p:Int)::r)=lE (tS (l.getD p 0,l.getD (p+1) 0,l.take p))++lef (aR l p) r:=by
   unfold lef
   rw[tls,toNat_natCast,map_cons,List.flatMap_cons]
  have eR:rig l ((p:Int)::r)=rE (tS (l.getD p 0,l.getD (p+1) 0,l.take p))++rig (aR l p) r:=by
   unfold rig
   rw[tls,toNat_natCast,map_cons,List.flatMap_cons]
  generalize ea:l.getD p 0=a at *
  generalize eb:l.getD (p+1) 0=b at *
  generalize eu:l.take p=u at *
  generalize ev:l.drop (p+2)=v at *
  have es:aR l p=u++b::a::v:=by unfold aR;rw[ea,eb,eu,ev];simp
  have ne:a≠b:=fun z=>by rw[z] at hlt;ac_rfl
  have r1:bO [] l=bO [] u++(a,srt u)::(b,srt (u++[a]))::bO (u++[a]++[b]) v:=by
   rw[sp,rR,bO,bO]
   rfl
  have r2:bO [] (aR l p)=bO [] u++(b,srt u)::(a,srt (u++[b]))::bO (u++[a]++[b]) v:=by
   rw[es,rR,bO,bO,u9 v (show (u++[a]++[b]).Perm (u++[b]++[a]) by rw[append_assoc,append_assoc];exact List.Perm.append_left u (List.Perm.swap ..))]
   rfl
  have l1:lE (tS (a,b,u))=[(b,srt u),(a,srt (u++[b]))]:=by unfold lE tS;dsimp only;rw[xT]
  have l2:rE (tS (a,b,u))=[(a,srt u),(b,srt (u++[a]))]:=by unfold rE tS;dsimp only;rw[xT]
  have mb:mu ks (b,srt (u++[a]))<mu ks (b,srt u):=by rw[C8];unfold sgn;rw[if_neg ⋯,if_pos hlt];ac_rfl
  have ma:mu ks (a,srt u)<mu ks (a,srt (u++[b])):=by rw[C8];unfold sgn;rw[if_pos hlt];ac_rfl
  have inL:∀x∈lE (tS (a,b,u)),x∈bO [] (aR l p):=fun x hx=>by
   rw[l1] at hx
   rw[r2]
   simp only[mem_cons,not_mem_nil,or_false] at hx
   simp only[mem_append,mem_cons]
   rcases hx with hx | hx<;>simp[hx]
  have ups:∀x∈lef l ((p:Int)::r),∀y∈bO [] l,y.1=x.1->mu ks y<mu ks x:=fun x hx y hy exy=>by
   rw[eL] at hx
   rcases mem_append.mp hx with hx | hx
   ·rw[l1] at hx
    simp only[mem_cons,not_mem_nil,or_false] at hx
    rcases hx with rfl | rfl
    ·rw[CI nf hy (y:=(b,srt (u++[a]))) (by rw[r1];simp) exy]
     exact mb
    ·rw[CI nf hy (y:=(a,srt u)) (by rw[r1];simp) exy]
     exact ma
   ·rw[r1] at hy
    simp only[mem_append,mem_cons] at hy
    rcases hy with hy | rfl | rfl | hy
    ·exact up x hx y (by rw[r2];simp[hy]) exy
    ·have:=up x hx (a,srt (u++[b])) (by rw[r2];simp) exy
     ac_rfl
    ·have:=up x hx (b,srt u) (by rw[r2];simp) exy
     ac_rfl
    ·exact up x hx y (by rw[r2];exact mem_append_right _ (.tail _ (.tail _ hy))) exy
  refine⟨?_,?_,ups⟩
  ·rw[eL,eR,l1,l2]
   have s1:(bO [] l++([(b,srt u),(a,srt (u++[b]))]++lef (aR l p) r)).Perm ([(a,srt u),(b,srt (u++[a]))]++(bO [] (aR l p)++lef (aR l p) r)):=by
    rw[r1,r2]
    generalize lef (aR l p) r=L
    generalize bO (u++[a]++[b]) v=V
    generalize bO [] u=U
    generalize (a,srt u)=x1
    generalize (b,srt (u++[a]))=x2
    generalize (b,srt u)=y1
    generalize (a,srt (u++[b]))=y2
    simp only[append_assoc,cons_append,nil_append]
    refine(perm_middle (a:=x1) (l₁:=U)).trans (List.Perm.cons x1 ?_)
    refine(perm_middle (a:=x2) (l₁:=U)).trans (List.Perm.cons x2 (List.Perm.append_left U ?_))
    refine(perm_middle (a:=y1) (l₁:=V)).trans (List.Perm.cons y1 ?_)
    exact perm_middle (a:=y2) (l₁:=V)
   refine s1.trans ?_
   rw[append_assoc]
   exact List.Perm.append_left _ per
  ·rw[nodup_append]
   refine⟨List.Pairwise.of_map _ (fun a b h z=>h (congrArg _ z)) nf,?_,fun x hx y hy z=>?_⟩
   ·rw[eL,nodup_append]
    refine⟨?_,(nodup_append.mp nd).2.1,fun x hx y hy z=>?_⟩
    ·rw[l1]
     simp[Ne.symm ne]
    ·subst z
     exact absurd (up x hy x (inL x hx) rfl) ⋯
   ·subst z
    exact absurd (ups x hy x hx rfl) ⋯
theorem AX{ks row e:List Int}(w:Walk ks (ids ks.length) row e)(d:fG ks e)(m:GZ ks)(h2:0<ks.length)(k2:kd ks 0<kd ks ((ks.length:Int)-1)){x:Ed}(h1:x∈bO [] (ids ks.length))(hz:x∈bO [] e):False:=by
 have P:=w.pt (Pt.ids _)
 have hl:=P.len
 obtain⟨u,v,e1,s1⟩:=nX h1
 obtain⟨u',v',e2,s2⟩:=nX hz
 rw[nil_append] at s1 s2
 have pu:u.Perm u':=(dO u).symm.trans ((show srt u=srt u' by rw[<- s1,<- s2]) ▸ dO u')
 have lu:=pu.length_eq
 have li:=congrArg List.length e1
 simp only[length_append,length_cons,ids,length_map,length_range] at li
 have xb:x.1=(u.length:Int):=by
  have:=fQ (n:=ks.length) (i:=u.length) ⋯
  rw[e1] at this
  simpa [List.getD] using this
 have xe:e.getD u.length 0=(u.length:Int):=by
  rw[e2,<- xb,lu]
  simp[List.getD]
 have um:∀c:Int,0<=c->c<(u.length:Int)->c∈u:=fun c h0 hc=>by
  have a:=fQ (n:=ks.length) (i:=c.toNat) ⋯
  rw[e1] at a
  have hc':c.toNat<u.length:=⋯
  simp[List.getD,List.getElem?_append_left hc',hc'] at a
  rw[<- show u[c.toNat]=c by ac_rfl]
  exact List.getElem_mem hc'
 have mu':∀c∈u,c<(u.length:Int):=fun c hc=>by
  obtain⟨i,hi,ei⟩:=mem_iff_getElem.mp hc
  have a:=fQ (n:=ks.length) (i:=i) ⋯
  rw[e1] at a
  simp[List.getD,List.getElem?_append_left hi,hi] at a
  ac_rfl
 have low:kd ks (u.length:Int)<=kd ks 0:=by
  by_cases z:u.length=0
  ·rw[z];exact Int.le_refl _
  ·have m0:(0:Int)∈u':=pu.subset (um 0 ⋯ ⋯)
   obtain⟨i,hi,ei⟩:=mem_iff_getElem.mp m0
   have ge:e.getD i 0=0:=by rw[e2];simp[List.getD,List.getElem?_append_left hi,hi,ei]
   have:=d.le P (u.length-i) i ⋯
   rw[show i+(u.length-i)=u.length by ac_rfl,xe,ge] at this
   exact this
 have high:kd ks ((ks.length:Int)-1)<=kd ks (u.length:Int):=by
  by_cases z:u.length+1=ks.length
  ·rw[show (ks.length:Int)-1=(u.length:Int) by ac_rfl];exact Int.le_refl _
  ·obtain⟨i,hi,ei⟩:=P.sur ((ks.length:Int)-1) ⋯ ⋯
   have gt:u.length<i:=by
    rcases Nat.lt_trichotomy u.length i with y | y | y
    ·exact y
    ·rw[<- y,xe] at ei;ac_rfl
    ·exfalso
     have:e.getD i 0∈u':=by
      rw[e2]
      have hi':i<u'.length:=⋯
      simp[List.getD,List.getElem?_append_left hi',hi']
     have:=mu' _ (pu.symm.subset this)
     ac_rfl
   have:=d.le P (i-u.length) u.length ⋯
   rw[show u.length+(i-u.length)=i by ac_rfl,ei,xe] at this
   exact this
 ac_rfl
structure Hands(s:List (Int×Int×List Int))(f z:List Ed):Prop where
 nl:(s.flatMap lE).Nodup
 nr:(s.flatMap rE).Nodup
 le:∀x∈s.flatMap lE,x∈s.flatMap rE ↔ x ∉ z
 ri:∀x∈s.flatMap rE,x∈s.flatMap lE ↔ x ∉ f
 fi:∀x∈f,x∈s.flatMap rE
 la:∀x∈z,x∈s.flatMap lE
theorem hands{ks row e:List Int}{s:List (Int×Int×List Int)}(w:Walk ks (ids ks.length) row e)(d:fG ks e)(m:GZ ks)(h2:0<ks.length)(k2:kd ks 0<kd ks ((ks.length:Int)-1))(p:s.Perm ((tls (ids ks.length) row).map tS)):
  Hands s (bO [] (ids ks.length)) (bO [] e):=by
 obtain⟨per,nd,_⟩:=w.eds (Pt.ids _)
 have pl:(s.flatMap lE).Perm (lef (ids ks.length) row):=p.flatMap_right _
 have pr:(s.flatMap rE).Perm (rig (ids ks.length) row):=p.flatMap_right _
 have per':(bO [] (ids ks.length)++s.flatMap lE).Perm (s.flatMap rE++bO [] e):=(List.Perm.append_left _ pl).trans (per.trans (List.Perm.append_right _ pr.symm))
 have nd':(bO [] (ids ks.length)++s.flatMap lE).Nodup:=(List.Perm.append_left _ pl).symm.nodup nd
 have nd2:=per'.nodup nd'
 obtain⟨a1,a2,a3⟩:=nodup_append.mp nd'
 obtain⟨b1,b2,b3⟩:=nodup_append.mp nd2
 have ap:=fun x h1 hz=>AX w d m h2 k2 (x:=x) h1 hz
 refine⟨a2,b1,fun x hx=>⟨fun hr hz=>b3 x hr x hz rfl,fun hz=>?_⟩,fun x hx=>⟨fun hr hz=>a3 x hz x hr rfl,fun hz=>?_⟩,fun x hx=>?_,fun x hx=>?_⟩
 ·exact(mem_append.mp (per'.subset (mem_append_right _ hx))).resolve_right hz
 ·exact(mem_append.mp (per'.symm.subset (mem_append_left _ hx))).resolve_left hz
 ·exact(mem_append.mp (per'.subset (mem_append_left _ hx))).resolve_right fun hz=>ap x hx hz
 ·exact(mem_append.mp (per'.symm.subset (mem_append_right _ hx))).resolve_left fun hz=>ap x hz hx
section
variable (X Y:Int->Int)
noncomputable abbrev cr(p q:Int×Int):Int:=p.1*q.2-q.1*p.2
noncomputable def ar:Int×Int->List Int->Int
 |_,[]=>0
 |s,b::l=>cr s (X b,Y b)+ar (s.1+X b,s.2+Y b) l
noncomputable def en:Int×Int->List Int->Int×Int
 |s,[]=>s
 |s,b::l=>en (s.1+X b,s.2+Y b) l
theorem BQ:∀(s:Int×Int) (u v:List Int),ar X Y s (u++v)=ar X Y s u+ar X Y (en X Y s u) v
 |s,[],v=>by simp[ar,en]
 |s,b::u,v=>by rw[cons_append,ar,BQ,ar,en];ac_rfl
theorem B7:∀(s:Int×Int) (u v:List Int),en X Y s (u++v)=en X Y (en X Y s u) v
 |s,[],v=>rfl
 |s,b::u,v=>by rw[cons_append,en,B7,en]
theorem Walk.area{ks l r e:List Int}(w:Walk ks l r e):l.length=ks.length->ar X Y (0,0) l=ar X Y (0,0) e+2*((tls l r).map fun t=>cr (X t.1,Y t.1) (X t.2.1,Y t.2.1)).sum:=by
 induction w with
 |nil l=>intro _;simp[tls]
 | @cons l e r p hp hlt w ih=>
  intro hl
  have ih:=ih (by rw[j8 ⋯];exact hl)
  rw[tls,toNat_natCast,map_cons,sum_cons]
  have sp:=mH (l:=l) (p:=p) ⋯
  have es:aR l p=l.take p++l.getD (p+1) 0::l.getD p 0::l.drop (p+2):=by unfold aR;simp
  have e1:ar X Y (0,0) l=ar X Y (0,0) (l.take p++l.getD p 0::l.getD (p+1) 0::l.drop (p+2)):=by rw[<- sp]
  rw[e1]
  rw[es] at ih
  generalize l.getD p 0=a at *
  generalize l.getD (p+1) 0=b at *
  generalize l.drop (p+2)=v at *
  generalize l.take p=u at *
  rw[BQ,ar,ar] at ih ⊢
  generalize en X Y (0,0) u=s at *
  rw[show (s.1+X b+X a,s.2+Y b+Y a)=(s.1+X a+X b,s.2+Y a+Y b) by rw[Prod.mk.injEq];ac_rfl] at ih
  generalize ar X Y (s.1+X a+X b,s.2+Y a+Y b) v=V at *
  simp only[cr] at *
  grind
noncomputable def qs:Int×Int->List Int->List (Int×Int)
 |_,[]=>[]
 |s,b::l=>(s.1+X b,s.2+Y b)::qs (s.1+X b,s.2+Y b) l
noncomputable def ps:Int×Int->List Int->List (Int×Int)
 |_,[]=>[]
 |s,b::l=>s::ps (s.1+X b,s.2+Y b) l
noncomputable def cyc:Int×Int->List (Int×Int)->Int
 |_,[]=>0
 |z,p::r=>cr z p+cyc p r
theorem vF:∀(s:Int×Int) (l:List Int) (b:Int),qs X Y s (l++[b])=qs X Y s l++[((en X Y s l).1+X b,(en X Y s l).2+Y b)]
 |s,[],b=>rfl
 |s,c::l,b=>by rw[cons_append,qs,vF,qs,en];rfl
theorem GP:∀(l:List Int) (z s:Int×Int) (R:List (Int×Int)),cyc z (ps X Y s l++en X Y s l::R)=cr z s+ar X Y s l+cyc (en X Y s l) R
 | [],z,s,R=>by simp[ps,en,ar,cyc]
 |b::l,z,s,R=>by
  rw[ps,cons_append,cyc,en,GP l,ar]
  simp only[cr]
  grind
theorem GQ(s:Int×Int)(l:List Int):∀z:Int×Int,cyc z ((qs X Y s l).reverse++[s])=cr z (en X Y s l)-ar X Y s l:=by
 induction h:l.length generalizing l with
 |zero=>
  intro z
  have:l=[]:=List.length_eq_zero_iff.mp h
  subst this
  simp[qs,en,ar,cyc]
 |succ n ih=>
  intro z
  obtain⟨m,b,rfl⟩:∃m b,l=m++[b]:=⟨l.dropLast,l.getLast (by intro z;rw[z] at h;cases h),(dropLast_concat_getLast _).symm⟩
  rw[vF,List.reverse_append,List.reverse_singleton,List.singleton_append,cons_append,cyc,ih m (by simpa using h),BQ,B7]
  simp only[en,ar]
  generalize en X Y s m=t
  simp only[cr]
  grind
theorem zX:∀(l:List (Int×Int)) (z:Int×Int),cyc z (l++[(0,0)])=cyc z l
 | [],z=>by simp[cyc,cr]
 |p::l,z=>by rw[cons_append,cyc,cyc,zX l]
theorem AW{ks row e:List Int}(w:Walk ks (ids ks.length) row e)(h0:0<ks.length)(q:en X Y (0,0) (ids ks.length)=en X Y (0,0) e)(z:Int×Int):
  cyc z (ps X Y (0,0) (ids ks.length)++(qs X Y (0,0) e).reverse)=2*((tls (ids ks.length) row).map fun t=>cr (X t.1,Y t.1) (X t.2.1,Y t.2.1)).sum:=by
 have A:=w.area X Y (by simp[ids])
 have P:=w.pt (Pt.ids _)
 have hl:=P.len
 obtain⟨m,b,eb⟩:∃m b,e=m++[b]:=⟨e.dropLast,e.getLast (by intro z;rw[z] at hl;simp at hl;ac_rfl),(dropLast_concat_getLast _).symm⟩
 have B:=GQ X Y (0,0) e z
 rw[zX] at B
 have er:(qs X Y (0,0) e).reverse=en X Y (0,0) e::(qs X Y (0,0) m).reverse:=by
  rw[eb,vF,List.reverse_append,List.reverse_singleton,List.singleton_append,B7]
  rfl
 rw[er,cyc] at B
 rw[er,<- q,GP]
 rw[<- q] at B
 simp only[cr] at *
 ac_rfl
end
end Fl
namespace Lw
open L2 Z
open Sf (Rw crs t7 Pre Good aD aW)
noncomputable abbrev rD(r:Rw):Dv:=.tup [.int r.x,.int r.y,.int r.m]
noncomputable abbrev tB(rows:List Rw):List Dv:=rows.map rD
noncomputable abbrev bJ(r:List Int):List Dv:=r.map Dv.int
noncomputable abbrev qF(rows:List Rw):List Dv:=rows.map fun r=>.tup [.int r.x,.int r.y]
noncomputable abbrev cG(C:Addr)(rows:List Rw):Dv:=.obj C [("kinds",.tup (bJ (aD rows))),("vectors",.tup (qF rows))]
noncomputable def KM(r:Rw):Prop:=r.up /\ -999999999999<=r.x/\r.x<=999999999999/\r.y<=999999999999/\1<=r.m
noncomputable def vA:Fn:=fun ds Q=>∃n:Int,ds=[.int n]/\Q (.v (.bl true))
noncomputable def nN:Fn:=fun ds Q=>∃r:Rw,ds=[rD r]/\Q (.v (.bl true))
noncomputable def oX:Fn:=fun ds Q=>∃r:Rw,ds=[rD r]/\KM r/\Q (.v (.bl true))
noncomputable def jO:Fn:=fun ds Q=>∃r a:Rw,ds=[rD r,rD a]/\KM r/\KM a/\0<crs a r/\Q (.v (.bl true))
noncomputable def jP:Fn:=fun ds Q=>∃r:Rw,ds=[rD r]/\KM r/\Q (.v .non)
noncomputable def oY:Fn:=fun ds Q=>∃rows:List Rw,ds=[.lst (tB rows)]/\Good rows/\Q (.v .non)
noncomputable def gX(C:Addr):Fn:=fun ds Q=>∃rows:List Rw,ds=[.lst (tB rows)]/\Good rows/\Q (.nw (cG C rows))
theorem Hl:∀ds Q,vA ds Q->ds.length=1:=by rintro ds Q ⟨_,rfl,_⟩;rfl
theorem DD:∀ds Q,nN ds Q->ds.length=1:=by rintro ds Q ⟨_,rfl,_⟩;rfl
theorem CB:∀ds Q,oX ds Q->ds.length=1:=by rintro ds Q ⟨_,rfl,_⟩;rfl
theorem FW:∀ds Q,jO ds Q->ds.length=2:=by rintro ds Q ⟨_,_,rfl,_⟩;rfl
theorem Fb:∀ds Q,jP ds Q->ds.length=1:=by rintro ds Q ⟨_,rfl,_⟩;rfl
theorem Hn:∀ds Q,oY ds Q->ds.length=1:=by rintro ds Q ⟨_,rfl,_⟩;rfl
theorem DE{C:Addr}:∀ds Q,gX C ds Q->ds.length+1=2:=by rintro ds Q ⟨_,rfl,_⟩;rfl
theorem KQ:MonoF vA:=⟨fun ds Q Q' w z=>by obtain⟨r,e,h⟩:=z;exact⟨r,e,w _ h⟩⟩
theorem FC:MonoF nN:=⟨fun ds Q Q' w z=>by obtain⟨r,e,h⟩:=z;exact⟨r,e,w _ h⟩⟩
theorem FK:MonoF oX:=⟨fun ds Q Q' w z=>by obtain⟨r,e,a,h⟩:=z;exact⟨r,e,a,w _ h⟩⟩
theorem Ha:MonoF jO:=⟨fun ds Q Q' w z=>by obtain⟨r,e,a,b,c,d,h⟩:=z;exact⟨r,e,a,b,c,d,w _ h⟩⟩
theorem Hc:MonoF jP:=⟨fun ds Q Q' w z=>by obtain⟨r,e,a,h⟩:=z;exact⟨r,e,a,w _ h⟩⟩
theorem KS:MonoF oY:=⟨fun ds Q Q' w z=>by obtain⟨r,e,a,h⟩:=z;exact⟨r,e,a,w _ h⟩⟩
theorem FD{C:Addr}:MonoF (gX C):=⟨fun ds Q Q' w z=>by obtain⟨r,e,a,h⟩:=z;exact⟨r,e,a,w _ h⟩⟩
theorem Ai:∀ds Q,vA ds Q->mG ↥Q (aJ ["thing"] ds):=by
 rintro ds Q ⟨n,rfl,q⟩
 ac_nf
 exact⟨rfl,rfl,q⟩
theorem mM:∀ds Q,nN ds Q->eV vA ↥Q (aJ ["direction"] ds):=by
 rintro ds Q ⟨r,rfl,q⟩
 ac_nf
 refine⟨rfl,?_⟩
 rw[show Hx "tuple" (rD r)=true from rfl]
 ac_nf
 rw[show (!decide (((0+1+1+1:Nat):Int)=3))=false from rfl]
 ac_nf
 refine⟨_,rfl,?_⟩
 ac_nf
 refine⟨_,rfl,?_⟩
 ac_nf
 refine⟨_,rfl,?_⟩
 ac_nf
 exact⟨[true,true,true],rfl,q⟩
theorem o3:∀ds Q,oX ds Q->fJ ↥Q (aJ ["direction"] ds):=by
 rintro ds Q ⟨r,rfl,⟨hu,h1,h2,h3,_⟩,q⟩
 have hy:0<=r.y:=by rcases hu with h | h<;>ac_rfl
 ac_nf
 rw[if_pos (show (if r.x<0 then -r.x else r.x)<=999999999999 by split<;>ac_rfl),decide_eq_true (show (if r.y<0 then -r.y else r.y)<=999999999999 by split<;>ac_rfl)]
 exact q
theorem yE:∀ds Q,oX ds Q->kE ↥Q (aJ ["direction"] ds):=by
 rintro ds Q ⟨r,rfl,⟨hu,h1,h2,h3,_⟩,q⟩
 ac_nf
 rcases hu with h | ⟨h,h'⟩
 ·rw[if_pos h]
  exact q
 ·rw[if_neg ⋯,if_pos h,decide_eq_true h']
  exact q
theorem yF:∀ds Q,jO ds Q->kF ↥Q (aJ ["direction", "ahead"] ds):=by
 rintro ds Q ⟨r,a,rfl,⟨hu,h1,h2,h3,_⟩,⟨gu,g1,g2,g3,_⟩,hc,q⟩
 ac_nf
 refine⟨.inl (.inl ⟨⋯,⋯⟩),.inl (.inl ⟨⋯,⋯⟩),?_⟩
 rw[decide_eq_true (show 0<a.x*r.y-r.x*a.y from hc)]
 exact q
theorem o4:∀ds Q,jP ds Q->fK nN oX oX ↥Q (aJ ["direction"] ds):=by
 rintro ds Q ⟨r,rfl,ok,q⟩
 ac_nf
 refine⟨r,rfl,?_⟩
 ac_nf
 refine⟨r,rfl,ok,?_⟩
 ac_nf
 refine⟨r,rfl,ok,?_⟩
 ac_nf
 rw[if_neg (by have:=ok.2.2.2.2;ac_rfl)]
 exact q
theorem Mh{x:Sl}{E:En}:∀(rows:List Rw) (s t:Sl),(∀r∈rows,KM r)->(∀s,E.nx [x,s,t])->aV (gN 1) (hW jP jO) [] (tB rows) E [x,s,t]:=by
 intro rows
 induction rows with
 |nil=>
  intro s t _ h
  ac_nf
  exact h s
 |cons r rs ih=>
  intro s t ok h
  ac_nf
  refine⟨r,rfl,ok r (by simp),?_⟩
  ac_nf
  exact ih _ _ (fun r hr=>ok r (by simp[hr])) h
theorem Mf{Q:R->Prop}:∀(rows:List Rw) (acc:List Int),acc.length+rows.length<=100->Q (.nw (.lst (bJ (acc++rows.map (·.m)))))->dC [.un] (gN 0) fM (aQ cO (a9 0) (eC (.int 2))) (tB rows) (bJ acc) Q:=by
 intro rows
 induction rows with
 |nil=>
  intro acc _ h
  ac_nf
  simpa using h
 |cons r rs ih=>
  intro acc hl h
  simp only[length_cons] at hl
  push_cast [length_map]
  refine⟨⋯,?_⟩
  rw[show bJ acc++[Dv.int r.m]=bJ (acc++[r.m]) by simp]
  exact ih _ (by simp;ac_rfl) (by simpa using h)
theorem Mg{x:Sl}{E:En}:∀(rows:List Rw) (s t:Sl),t7 rows->(∀r∈rows,KM r)->(∀s t,E.nx [x,s,t])->aV (gT [2,1]) (eG jP jO) [] (qE (tB rows) (tB (rows.drop 1))) E [x,s,t]:=by
 intro rows
 induction rows with
 |nil=>
  intro s t _ _ h
  push_cast [qE,List.zipWith_nil_left]
  exact h s t
 |cons a rs ih=>
  intro s t srt ok h
  cases rs with
  |nil=>
   push_cast [qE,List.drop,List.zipWith]
   exact h s t
  |cons b rs=>
   push_cast [qE,List.drop,List.zipWith]
   refine⟨b,a,rfl,ok b (by simp),ok a (by simp),?_,?_⟩
   ·exact(pairwise_cons.mp srt).1 b (by simp)
   ·ac_nf
    exact ih _ _ (pairwise_cons.mp srt).2 (fun r hr=>ok r (by simp at hr ⊢;exact .inr hr)) h
theorem mN:∀ds Q,oY ds Q->eW jP jO ↥Q (aJ ["directions", "direction", "ahead"] ds):=by
 rintro ds Q ⟨rows,rfl,G,q⟩
 have lo:=G.lo
 have hi:=G.hi
 push_cast [length_map]
 refine⟨rfl,?_⟩
 rw[show Hx "list" (.lst (tB rows))=true from rfl]
 ac_nf
 rw[if_pos ⋯,decide_eq_true (show (rows.length:Int)<=6 by ac_rfl)]
 ac_nf
 refine Mh rows _ _ G.ok fun s=>?_
 ac_nf
 refine Mf rows [] (by simp;ac_rfl) ?_
 refine⟨rows.map (·.m),by simp,?_⟩
 ac_nf
 rw[if_neg (by have:=G.tot;unfold Sf.many at this;ac_rfl)]
 show aV (gT [2,1]) (eG jP jO) [] _ _ _
 rw[sV ∅,show (tB rows).drop (Int.toNat 1)=tB (rows.drop 1) by simp[tB]]
 exact Mg rows _ _ G.srt G.ok fun s t=>q
theorem DB{rows:List Rw}(h:∀r∈rows,1<=r.m):∀k,Sf.many (rows.take k)<=Sf.many rows:=by
 induction rows with
 |nil=>intro k;simp
 |cons r rs ih=>
  intro k
  cases k with
  |zero=>
   have:=ih (fun r hr=>h r (by simp[hr])) 0
   have hm:=h r (by simp)
   simp only[Sf.many,List.take_zero,map_nil,List.sum_nil,map_cons,sum_cons] at *
   ac_rfl
  |succ k=>
   have:=ih (fun r hr=>h r (by simp[hr])) k
   simp only[Sf.many,List.take_succ_cons,map_cons,sum_cons] at *
   ac_rfl
theorem Kf{x y:Sl}{a:Addr}{E:En}{C:Addr}:∀(rs:List Rw) (k:Nat) (ks:List Int) (s t:Sl),(∀r∈rs,1<=r.m)->(ks.length:Int)+Sf.many rs<=12->(∀s t,E.nx [x,y,.own a (.lst (bJ (ks++aW k rs))),s,t]) ->
  aV (gT [3,4]) (oN C oY) [] (((tB rs).zipIdx k).map fun q=>.tup [.int (q.2:Int),q.1]) E [x,y,.own a (.lst (bJ ks)),s,t]:=by
 intro rs
 induction rs with
 |nil=>
  intro k ks s t _ _ h
  push_cast [zipIdx_nil]
  simpa [aW] using h s t
 |cons r rs ih=>
  intro k ks s t ok hb h
  have hm:=ok r (by simp)
  have hp:0<=Sf.many rs:=by
   have:=DB (fun r hr=>ok r (by simp[hr])) (rows:=rs) 0
   simpa [Sf.many] using this
  have hb':(ks.length:Int)+(r.m+Sf.many rs)<=12:=by simpa [Sf.many] using hb
  push_cast [zipIdx_cons,oN,length_map]
  refine⟨⟨⋯,⋯,⋯⟩,?_⟩
  have e:(List.replicate r.m.toNat [Dv.int (k:Int)]).flatten=bJ (List.replicate r.m.toNat (k:Int)):=by
   rw[List.flatten_replicate_singleton];simp
  rw[e]
  refine⟨by simp;ac_rfl,?_⟩
  rw[show bJ ks++bJ (List.replicate r.m.toNat (k:Int))=bJ (ks++List.replicate r.m.toNat (k:Int)) by simp]
  refine ih (k+1) _ _ _ (fun r hr=>ok r (by simp[hr])) (by simp;ac_rfl) fun s t=>?_
  rw[append_assoc]
  exact h s t
theorem Ke{Q:R->Prop}:∀(rows:List Rw) (acc:List Rw),acc.length+rows.length<=100->Q (.nw (.lst (qF (acc++rows))))->dC [.un] (gN 0) fM (fT (aA (aQ cO (a9 0) (eC (.int 0))) (aA (aQ cO (a9 0) (eC (.int 1))) aG))) (tB rows) (qF acc) Q:=by
 intro rows
 induction rows with
 |nil=>
  intro acc _ h
  ac_nf
  simpa using h
 |cons r rs ih=>
  intro acc hl h
  simp only[length_cons] at hl
  push_cast [length_map]
  refine⟨⋯,?_⟩
  rw[show qF acc++[Dv.tup [Dv.int r.x,Dv.int r.y]]=qF (acc++[r]) by simp]
  exact ih _ (by simp;ac_rfl) (by simpa using h)
theorem K3{C:Addr}:∀ds Q,gX C ds Q -> ∀a,AM C oY { nx:=fun ρ=>∃d,ρ[0]?=some (.own a d)/\Q (.nw d),rt:=fun _=>False } (i5 C a ["self", "directions", "kinds", "number", "direction"] ds):=by
 rintro ds Q ⟨rows,rfl,G,q⟩ a
 have hi:=G.hi
 ac_nf
 refine⟨rows,rfl,G,?_⟩
 ac_nf
 intro b
 show aV (gT [3,4]) (oN C oY) [] (((tB rows).zipIdx 0).map fun q=>.tup [.int (q.2:Int),q.1]) _ [_,_,.own b (.lst (bJ [])),_,_]
 refine Kf rows 0 [] _ _ (fun r hr=>(G.ok r hr).2.2.2.2) (by simpa using G.tot) fun s t=>?_
 ac_nf
 refine Ke rows [] (by simp;ac_rfl) ?_
 ac_nf
 exact⟨(by decide:1<1000),_,rfl,q⟩
end Lw
namespace Lw
open L2 Z
open Sf (Rw crs t7 Pre Good aD aW place many)
open Fl (kd ids Walk fG tls pc aR Pt srt c5)
theorem dB{r:List Int}{k:Nat}(h:k<r.length):jH (bJ r) (k:Int)=some (.int (r.getD k 0)):=by
 rw[eU ⋯ (by simp;ac_rfl)]
 simp[List.getD,h]
theorem lG{r:List Int}{i:Int}(h0:0<=i)(h:i<r.length):jH (bJ r) i=some (.int (r.getD i.toNat 0)):=by
 obtain⟨k,rfl⟩:∃k:Nat,i=k:=⟨i.toNat,⋯⟩
 rw[dB ⋯,toNat_natCast]
theorem nZ(n:Nat):bP 0 n=bJ (ids n):=by unfold bP;simp
noncomputable def nU(C:Addr):Fn:=fun ds Q=>∃(rows:List Rw) (b:Nat),ds=[cG C rows,.int b]/\b<(aD rows).length/\Q (.v (.int ((aD rows).getD b 0)))
theorem FZ{C:Addr}:∀ds Q,nU C ds Q->ds.length=2:=by rintro ds Q ⟨_,_,rfl,_⟩;rfl
theorem jX{C:Addr}:MonoF (nU C):=⟨fun ds Q Q' w z=>by obtain⟨r,b,e,a,h⟩:=z;exact⟨r,b,e,a,w _ h⟩⟩
theorem K2{C:Addr}:∀ds Q,nU C ds Q->AL C ↥Q (aJ ["self", "band"] ds):=by
 rintro ds Q ⟨rows,b,rfl,hb,h⟩
 ac_nf
 rw[show List.lookup (Str.ofString "kinds") [(Str.ofString "kinds",Dv.tup (bJ (aD rows))),(Str.ofString "vectors",Dv.tup (qF rows))]=some (Dv.tup (bJ (aD rows))) from rfl]
 ac_nf
 rw[dB hb]
 exact h
noncomputable def nR(C:Addr):Fn:=fun ds Q=>∃rows:List Rw,ds=[cG C rows]/\Q (.v (.int (aD rows).length))
theorem FV{C:Addr}:∀ds Q,nR C ds Q->ds.length=1:=by rintro ds Q ⟨_,rfl,_⟩;rfl
theorem lM{C:Addr}:MonoF (nR C):=⟨fun ds Q Q' w z=>by obtain⟨r,e,h⟩:=z;exact⟨r,e,w _ h⟩⟩
theorem Jy{C:Addr}:∀ds Q,nR C ds Q->AI C ↥Q (aJ ["self"] ds):=by
 rintro ds Q ⟨rows,rfl,h⟩
 ac_nf
 rw[show List.lookup (Str.ofString "kinds") [(Str.ofString "kinds",Dv.tup (bJ (aD rows))),(Str.ofString "vectors",Dv.tup (qF rows))]=some (Dv.tup (bJ (aD rows))) from rfl]
 push_cast [length_map]
 exact h
noncomputable abbrev Ti:=Int×Int×List Int
noncomputable abbrev JR(t:Ti):Dv:=.tup [.int t.1,.int t.2.1,.tup (bJ t.2.2)]
noncomputable abbrev oR(l:List Ti):List Dv:=l.map JR
noncomputable def N4(l:List Ti):Prop:=l.Pairwise fun t u=>¬(t.1=u.1/\t.2.1=u.2.1)
noncomputable def GZ(ks:List Int):Prop:=∀a b:Int,0<=a->a<=b->b<ks.length->kd ks a<=kd ks b
theorem uG(n:Nat):∀l:List Int,okDs n (bJ l)=true
 | []=>rfl
 |i::r=>by
  show (dA n (.int i)&&okDs n (bJ r))=true
  rw[uG n r]
  cases n<;>rfl
theorem OX(i j:Int):PyData.eqv (.int i) (.int j)=decide (i=j):=by
 unfold PyData.eqv
 first | rfl | (by_cases h:i=j<;>simp[h])
end Lw
namespace Lw
open L2 Z
open Sf (Rw crs t7 Pre Good aD aW place many)
open Fl (kd ids Walk fG tls pc aR Pt srt c5)
theorem xW{u k:Int}(h0:-1000000<k)(hk:k<1000000):oP u k:=.inl (.inr ⟨⋯,⋯⟩)
noncomputable def lJ:Fn:=fun ds Q=>∃(ns:List Int) (k:Int),ds=[.scr ns,.int k]/\0<=k /\ ∀c:Int,Q (.v (.int c))
theorem Fc:∀ds Q,lJ ds Q->ds.length=2:=by rintro ds Q ⟨_,_,rfl,_⟩;rfl
theorem C9:MonoF lJ:=⟨fun ds Q Q' w z=>by obtain⟨r,e,a,b,h⟩:=z;exact⟨r,e,a,b,fun c=>w _ (h c)⟩⟩
theorem tH:∀ds Q,lJ ds Q->j3 ↥Q (aJ ["_law_script", "_law_k"] ds):=by
 rintro ds Q ⟨ns,k,rfl,h0,h⟩
 ac_nf
 by_cases hk:k<(ns.length:Int)
 ·rw[if_pos hk,eU h0 hk,List.getElem?_eq_getElem ⋯]
  exact h _
 ·rw[if_neg hk]
  exact h 5
noncomputable def nQ:Fn:=fun ds Q=>∃(ns:List Int) (k:Int),ds=[.scr ns,.int k,.int 10] /\ ∀m:Int,6<=m->m<=12->Q (.v (.int m))
theorem FU:∀ds Q,nQ ds Q->ds.length=3:=by rintro ds Q ⟨_,_,rfl,_⟩;rfl
theorem HY:MonoF nQ:=⟨fun ds Q Q' w z=>by obtain⟨r,e,a,h⟩:=z;exact⟨r,e,a,fun m x y=>w _ (h m x y)⟩⟩
theorem Ag:∀ds Q,nQ ds Q->mE lJ ↥Q (aJ ["_law_script", "_law_k", "_law_usual"] ds):=by
 rintro ds Q ⟨ns,k,rfl,h⟩
 ac_nf
 by_cases hk:k=0
 ·rw[if_pos hk]
  refine⟨ns,0,rfl,⋯,fun c=>?_⟩
  ac_nf
  refine⟨xW ∅ ∅,?_⟩
  split
  ·exact h 12 ⋯ ⋯
  ·exact h 10 ⋯ ⋯
 ·rw[if_neg hk]
  exact h 10 ⋯ ⋯
noncomputable def iO:Fn:=fun ds Q=>∃(c step m:Int),ds=[.int c,.int step,.int m]/\0<=step/\step<=500/\0<m /\ ∀q:Int,0<=q->q<m->Q (.v (.int q))
theorem FT:∀ds Q,iO ds Q->ds.length=3:=by rintro ds Q ⟨_,_,_,rfl,_⟩;rfl
theorem HX:MonoF iO:=⟨fun ds Q Q' w z=>by obtain⟨r,e,a,b,c,d,f,h⟩:=z;exact⟨r,e,a,b,c,d,f,fun m x y=>w _ (h m x y)⟩⟩
theorem Ae:∀ds Q,iO ds Q->mC ↥Q (aJ ["_law_cell", "_law_step", "_law_many"] ds):=by
 rintro ds Q ⟨c,k,m,rfl,h0,h1,hm,h⟩
 have hkk:0<=k*k/\k*k<=500*500:=⟨mul_nonneg h0 h0,Int.mul_le_mul h1 h1 h0 ⋯⟩
 ac_nf
 refine⟨.inl (.inl ⟨by decide,by decide⟩),xW ∅ ∅,xW ⋯ ⋯,xW ⋯ ⋯,hm,?_⟩
 exact h _ (emod_nonneg _ ⋯) (emod_lt_of_pos _ hm)
theorem IX{l:List Int}{p:Nat}:bJ (l.take p)++[.int (l.getD (p+1) 0),.int (l.getD p 0)]++bJ (l.drop (p+2))=bJ (aR l p):=by unfold aR;simp
noncomputable def iQ:Fn:=fun ds Q=>∃(path:List Int) (p:Nat),ds=[.lst (bJ path),.int p]/\path.length<=100/\p+1<path.length/\Q (.nw (.lst (bJ (aR path p))))
theorem Fa:∀ds Q,iQ ds Q->ds.length=2:=by rintro ds Q ⟨_,_,rfl,_⟩;rfl
theorem Hb:MonoF iQ:=⟨fun ds Q Q' w z=>by obtain⟨a,b,c,d,e,h⟩:=z;exact⟨a,b,c,d,e,w _ h⟩⟩
theorem qJ:∀ds Q,iQ ds Q->i0 ↥Q (aJ ["_law_path", "_law_p"] ds):=by
 rintro ds Q ⟨path,p,rfl,hn,hp,h⟩
 have e1:((p:Int)+1)=((p+1:Nat):Int):=⋯
 have e2:((p:Int)+2)=((p+2:Nat):Int):=⋯
 ac_nf
 rw[e1,e2,dB ⋯,dB ⋯,wX ⋯,sV ⋯]
 simp only[toNat_natCast,<- map_take,<- map_drop]
 push_cast [length_map,length_take,length_drop,length_append]
 refine⟨⋯,⋯,?_⟩
 have:=IX (l:=path) (p:=p)
 simp only[append_assoc,cons_append,nil_append] at this ⊢
 rw[this]
 exact h
noncomputable def aN:Nat->List Nat->List Int
 |_,[]=>[]
 |k,c::cs=>List.replicate c (k:Int)++aN (k+1) cs
theorem n6:∀(k:Nat) (cs:List Nat) (c:Nat),aN k (cs++[c])=aN k cs++List.replicate c ((k+cs.length:Nat):Int)
 |_,[],_=>by simp[aN]
 |k,a::rs,c=>by
  simp only[cons_append,aN,n6 (k+1) rs c,append_assoc,length_cons]
  congr 3
  ac_rfl
theorem lO:∀(k:Nat) (cs:List Nat),(aN k cs).length=cs.sum
 |_,[]=>rfl
 |k,c::cs=>by simp[aN,lO (k+1) cs]
structure Cnt(cs:List Nat):Prop where
 lo:2<=cs.length
 hi:cs.length<=6
 ok:∀c∈cs,1<=c
 tot:cs.sum<=12
theorem Mj{c M rest:Int}{n k:Nat}{l:List Int}{tl:cD}{E:En}{x6 x7:Sl}(hk:k<=10)(sp:Int)(hs:M-(l.length:Int)-((n:Int)-(k:Int)-1)=sp)(h1:1<=sp)(h2:sp<=12)
  (h:∀cnt:Int,1<=cnt->cnt<=sp->tl E [.v (.int c),.v (.int M),.v (.int n),.v (.int rest),.v (.lst (bJ l)),.v (.int k),.v (.int sp),.v (.int cnt)]):
  aS (bV 6 (aQ fF (aQ fF (a9 1) (dM e5 (aA (a9 4) aG))) (aQ fF (aQ fF (a9 2) (a9 5)) (eC (.int 1)))))
 (aS (bV 7 (aQ cM (eC (.int 1)) (aQ g8 (aQ g8 (aQ eI (aQ g8 (aQ eI (aQ cM (a9 0) (aQ eI (eC (.int 31)) (a9 5))) (eC (.int 48271))) (eC (.int 2147483647))) (aQ cM (aQ eI (a9 5) (a9 5)) (eC (.int 17)))) (eC (.int 99991))) (dM rY (aA (a9 6) (aA (eC (.int 3)) aG)))))) tl) E [.v (.int c),.v (.int M),.v (.int n),.v (.int rest),.v (.lst (bJ l)),.v (.int k),x6,x7]:=by
 push_cast [length_map,hs]
 generalize hm:(if 3<sp then 3 else sp)=mn
 have hmn:1<=mn/\mn<=sp:=by rw[<- hm];split<;>ac_rfl
 have kk:(k:Int)*k<=10*10:=Int.mul_le_mul ⋯ ⋯ ⋯ ⋯
 have kk0:0<=(k:Int)*k:=mul_nonneg ⋯ ⋯
 refine⟨.inl (.inl ⟨by decide,by decide⟩),xW ∅ ∅,xW ⋯ ⋯,xW ⋯ ⋯,⋯,?_⟩
 generalize (c+31*(k:Int))*48271 % 2147483647*((k:Int)*k+17) % 99991=q
 have a1:=emod_nonneg q (show mn≠0 by ac_rfl)
 have a2:=emod_lt_of_pos q (show 0<mn by ac_rfl)
 exact h _ ⋯ ⋯
theorem Mi{rest sp cnt k:Int}{l:List Int}{E:En}{x0 x1 x2:Sl}(h1:1<=sp)(h2:sp<=12)(c1:1<=cnt)(c2:cnt<=sp)(ll:l.length<=100)
  (h:∀rest cnt:Int,1<=cnt->cnt<=sp->E.nx [x0,x1,x2,.v (.int rest),.v (.lst (bJ l++(List.replicate cnt.toNat [Dv.int k]).flatten)),.v (.int k),.v (.int sp),.v (.int cnt)]):
  aS (jJ (bU (aQ Gb (a9 3) (eC (.int 1)))) (aS (bV 7 (aQ cM (eC (.int 1)) (aQ g8 (a9 3) (a9 6))))
 (bV 3 (aQ kU (a9 3) (a9 6)))) c9)
 (bV 4 (aQ cM (a9 4) (aQ eI (gA (aA (a9 5) aG)) (a9 7)))) E [x0,x1,x2,.v (.int rest),.v (.lst (bJ l)),.v (.int k),.v (.int sp),.v (.int cnt)]:=by
 have fl:∀m:Nat,(List.replicate m [Dv.int k]).flatten.length=m:=fun m=>by rw[List.flatten_replicate_singleton];simp
 push_cast [length_map,fl]
 split
 ·have a1:=emod_nonneg rest (show sp≠0 by ac_rfl)
  have a2:=emod_lt_of_pos rest (show 0<sp by ac_rfl)
  exact⟨⋯,⋯,⋯,⋯,h _ _ ⋯ ⋯⟩
 ·exact⟨⋯,⋯,h _ _ c1 c2⟩
theorem Nw{d:Dv}{x0 x1 x2 x3 x4 x5 x6 x7:Sl}{Q:List Sl->Prop}(h:Q [x0,x1,x2,x3,x4,.v d,x6,x7]):gN 5 d [x0,x1,x2,x3,x4,x5,x6,x7] Q:=by
 ac_nf
 exact h
theorem IM{c M:Int}{n:Nat}{E:En}(hn:n<=6)(hM:M<=12):∀(i k:Nat) (rest:Int) (cs:List Nat) (s5 s6 s7:Sl),k+i=n->cs.length=k->(∀x∈cs,1<=x)->(cs.sum:Int)+i<=M ->
  (∀(rest:Int) (cs:List Nat) (s5 s6 s7:Sl),cs.length=n->(∀x∈cs,1<=x)->(cs.sum:Int)<=M->E.nx [.v (.int c),.v (.int M),.v (.int n),.v (.int rest),.v (.lst (bJ (aN 0 cs))),s5,s6,s7]) ->
  aV (gN 5) gW [] (bP k i) E [.v (.int c),.v (.int M),.v (.int n),.v (.int rest),.v (.lst (bJ (aN 0 cs))),s5,s6,s7]:=by
 intro i
 induction i with
 |zero=>
  intro k rest cs s5 s6 s7 hk hl ok ht h
  rw[eX,bH]
  exact⟨fun p hp=>by simp at hp,h _ _ _ _ _ ⋯ ok ⋯⟩
 |succ i ih=>
  intro k rest cs s5 s6 s7 hk hl ok ht h
  rw[dE,b8]
  refine⟨fun p hp=>by simp at hp,?_⟩
  have next:∀(rest cnt:Int) (s5 s6 s7:Sl),1<=cnt->cnt+cs.sum+i<=M->aV (gN 5) gW [] (bP ((k:Int)+1) i) E [.v (.int c),.v (.int M),.v (.int n),.v (.int rest),.v (.lst (bJ (aN 0 cs)++(List.replicate cnt.toNat [Dv.int (k:Int)]).flatten)),s5,s6,s7]:=fun rest cnt s5 s6 s7 c1 c2=>by
   have e2:(List.replicate cnt.toNat [Dv.int (k:Int)]).flatten=bJ (List.replicate cnt.toNat (k:Int)):=by
    rw[List.flatten_replicate_singleton];simp
   have e3:bJ (aN 0 cs)++bJ (List.replicate cnt.toNat (k:Int))=bJ (aN 0 (cs++[cnt.toNat])):=by
    rw[n6,hl,zero_add];simp
   rw[e2,e3]
   exact ih (k+1) rest (cs++[cnt.toNat]) s5 s6 s7 ⋯ (by simp;ac_rfl) (fun x hx=>by
    rcases mem_append.mp hx with hx | hx
    ·exact ok x hx
    ·rw[mem_singleton.mp hx];ac_rfl) (by simp;ac_rfl) h
  generalize aV (gN 5) gW [] (bP ((k:Int)+1) i) E=nx at *
  have bl:=lO 0 cs
  exact Nw (Mj ⋯ _ rfl ⋯ ⋯ fun cnt c1 c2=>Mi ⋯ ⋯ c1 c2 ⋯ fun rest cnt d1 d2=>next rest cnt _ _ _ d1 ⋯)
noncomputable def kQ:Fn:=fun ds Q=>∃c M:Int,ds=[.int c,.int M]/\6<=M/\M<=12 /\ ∀cs,Cnt cs->Q (.v (.lst (bJ (aN 0 cs))))
theorem DP:∀ds Q,kQ ds Q->ds.length=2:=by rintro ds Q ⟨_,_,rfl,_⟩;rfl
theorem FN:MonoF kQ:=⟨fun ds Q Q' w z=>by obtain⟨c,M,e,a,b,h⟩:=z;exact⟨c,M,e,a,b,fun r g=>w _ (h r g)⟩⟩
theorem yL:∀ds Q,kQ ds Q->kL ↥Q (aJ ["_law_cell", "_law_most_here", "_law_kinds", "_law_rest", "_law_bands_here", "_law_k", "_law_spare", "_law_count"] ds):=by
 rintro ds Q ⟨c,M,rfl,M6,M12,h⟩
 ac_nf
 obtain⟨n,hn,h2,h6⟩:∃n:Nat,2+c % 5=(n:Int)/\2<=n/\n<=6:=⟨(2+c % 5).toNat,⋯,⋯,⋯⟩
 rw[hn]
 refine⟨⋯,?_⟩
 rw[toNat_natCast]
 refine IM h6 M12 n 0 _ [] _ _ _ ⋯ rfl (fun x hx=>by simp at hx) (by simp;ac_rfl) fun rest cs s5 s6 s7 l ok t=>?_
 ac_nf
 exact h cs ⟨⋯,⋯,ok,⋯⟩
theorem n8(k:Nat)(cs:List Nat):(aN k cs).Pairwise (· <= ·) /\ ∀x∈aN k cs,(k:Int)<=x:=by
 induction cs generalizing k with
 |nil=>exact⟨List.Pairwise.nil,fun x hx=>by cases hx⟩
 |cons c cs ih=>
  obtain⟨i1,i2⟩:=ih (k+1)
  rw[aN]
  refine⟨List.pairwise_append.mpr ⟨?_,i1,fun a ha b hb=>?_⟩,fun x hx=>?_⟩
  ·rw[pairwise_iff_getElem]
   intro i j hi hj _
   simp
  ·rw[eq_of_mem_replicate ha]
   have:=i2 b hb
   ac_rfl
  ·rcases mem_append.mp hx with hx | hx
   ·rw[eq_of_mem_replicate hx];exact Int.le_refl _
   ·have:=i2 x hx
    ac_rfl
theorem BO(cs:List Nat):GZ (aN 0 cs):=fun a b h0 hab hb=>by
 have pw:=pairwise_iff_getElem.mp (n8 0 cs).1
 show (aN 0 cs).getD a.toNat 0<=(aN 0 cs).getD b.toNat 0
 have e1:(aN 0 cs).getD a.toNat 0=(aN 0 cs)[a.toNat]'⋯:=by simp[List.getD,show a.toNat<(aN 0 cs).length by ac_rfl]
 have e2:(aN 0 cs).getD b.toNat 0=(aN 0 cs)[b.toNat]'⋯:=by simp[List.getD,show b.toNat<(aN 0 cs).length by ac_rfl]
 rw[e1,e2]
 rcases Nat.lt_or_ge a.toNat b.toNat with h | h
 ·exact pw _ _ _ _ h
 ·have:a.toNat=b.toNat:=⋯
  simp[this]
noncomputable def sW:List Nat->Nat
 | []=>0
 |c::cs=>c*cs.sum+sW cs
noncomputable def LP:List Nat->Nat
 | []=>0
 |c::cs=>c*c+LP cs
theorem yC:∀(k:Nat) (cs:List Nat),pc (aN k cs)=sW cs
 |_,[]=>rfl
 |k,c::cs=>by
  rw[aN,sW,<- yC (k+1) cs,<- lO (k+1) cs]
  have hi:=(n8 (k+1) cs).2
  generalize aN (k+1) cs=B at hi
  induction c with
  |zero=>simp
  |succ c ih=>
   rw[replicate_succ,cons_append,pc,ih,filter_append]
   have e1:(List.replicate c (k:Int)).filter (fun y=>decide ((k:Int)<y))=[]:=List.filter_eq_nil_iff.mpr fun x hx=>by rw[eq_of_mem_replicate hx];simp
   have e2:B.filter (fun y=>decide ((k:Int)<y))=B:=List.filter_eq_self.mpr fun x hx=>by have:=hi x hx;simp;ac_rfl
   rw[e1,e2,add_mul]
   simp
   ac_rfl
theorem A0:∀cs:List Nat,2*sW cs+LP cs=cs.sum*cs.sum
 | []=>rfl
 |c::cs=>by
  have ih:=A0 cs
  rw[sW,LP,sum_cons,add_mul,mul_add c,mul_add cs.sum,<- ih,mul_comm cs.sum c]
  ac_rfl
theorem BY:∀cs:List Nat,4*cs.sum<=LP cs+4*cs.length
 | []=>le_refl _
 |c::cs=>by
  have ih:=BY cs
  have h:4*c<=c*c+4:=by
   rcases Nat.lt_or_ge c 4 with z | z
   ·have:c=0 \/ c=1 \/ c=2 \/ c=3:=⋯
    rcases this with rfl | rfl | rfl | rfl<;>decide
   ·have:=Nat.mul_le_mul_right c z
    ac_rfl
  rw[LP,sum_cons,length_cons]
  ac_rfl
theorem Kt{cs:List Nat}(C:Cnt cs):pc (aN 0 cs)<=60:=by
 rw[yC]
 have h1:=A0 cs
 have h2:=BY cs
 have h3:=C.tot
 have h4:=C.hi
 generalize cs.sum=S at *
 have h5:S*S<=12*S:=Nat.mul_le_mul_right S h3
 ac_rfl
theorem wY{cs:List Nat}(C:Cnt cs):2<=(aN 0 cs).length/\(aN 0 cs).length<=12:=by
 rw[lO]
 have h:∀cs:List Nat,(∀c∈cs,1<=c)->cs.length<=cs.sum:=by
  intro cs
  induction cs with
  |nil=>intro _;simp
  |cons c cs ih=>
   intro h
   have h1:=h c (by simp)
   have h2:=ih fun x hx=>h x (by simp[hx])
   simp only[length_cons,sum_cons]
   ac_rfl
 have:=h cs C.ok
 have:=C.lo
 have:=C.tot
 ac_rfl
end Lw
namespace Lw
open L2 Z
open Sf (Rw crs t7 Pre Good aD aW place many)
open Fl (kd ids Walk fG tls pc aR Pt srt c5)
noncomputable def ascs(ks path:List Int):Nat->Nat->List Int
 |0,_=>[]
 |m+1,j=>(if kd ks (path.getD j 0)<kd ks (path.getD (j+1) 0) then [(j:Int)] else [])++ascs ks path m (j+1)
theorem A7(ks path:List Int):∀(m j:Nat) (x:Int),x∈ascs ks path m j -> ∃p:Nat,x=p/\p<j+m/\kd ks (path.getD p 0)<kd ks (path.getD (p+1) 0)
 |0,_,_,h=>by cases h
 |m+1,j,x,h=>by
  rw[ascs,mem_append] at h
  rcases h with h | h
  ·split at h
   ·rw[mem_singleton] at h
    exact⟨j,h,⋯,by assumption⟩
   ·cases h
  ·obtain⟨p,e,l,k⟩:=A7 ks path m (j+1) x h
   exact⟨p,e,⋯,k⟩
theorem A6(ks path:List Int):∀(m j:Nat),ascs ks path m j=[] -> ∀p,j<=p->p<j+m->kd ks (path.getD (p+1) 0)<=kd ks (path.getD p 0)
 |0,_,_,p,h1,h2=>by ac_rfl
 |m+1,j,h,p,h1,h2=>by
  rw[ascs,List.append_eq_nil_iff] at h
  by_cases e:p=j
  ·subst e
   have:=h.1
   split at this
   ·cases this
   ·ac_rfl
  ·exact A6 ks path m (j+1) h.2 p ⋯ ⋯
theorem A8(ks path:List Int):∀(m j:Nat),(ascs ks path m j).length<=m
 |0,_=>le_refl _
 |m+1,j=>by rw[ascs,length_append];have:=A8 ks path m (j+1);split<;>simp<;>ac_rfl
theorem LU{ks path:List Int}{Q:R->Prop}(hn:ks.length<=12)(P:Pt ks.length path):∀(m j:Nat) (acc:List Int),j+m+1=ks.length->acc.length+m<=100->Q (.nw (.lst (bJ (acc++ascs ks path m j)))) ->
  dC [.un,.v (.lst (bJ ks)),.v (.lst (bJ path))] (gN 0) (bU (aQ HQ (aQ cO (a9 1) (aQ cO (a9 2) (a9 0))) (aQ cO (a9 1) (aQ cO (a9 2) (aQ cM (a9 0) (eC (.int 1))))))) (a9 0) (bP j m) (bJ acc) Q:=by
 have hl:=P.len
 intro m
 induction m with
 |zero=>
  intro j acc _ ha h
  push_cast [eX]
  simpa [ascs] using h
 |succ m ih=>
  intro j acc hj ha h
  have b1:=P.bd j ⋯
  have b2:=P.bd (j+1) ⋯
  push_cast [dE,dB (show j<path.length by ac_rfl),show ((j:Int)+1)=((j+1:Nat):Int) by ac_rfl,dB (show j+1<path.length by ac_rfl),lG b1.1 (show path.getD j 0<ks.length by ac_rfl),lG b2.1 (show path.getD (j+1) 0<ks.length by ac_rfl),length_map]
  rw[ascs] at h
  by_cases e:kd ks (path.getD j 0)<kd ks (path.getD (j+1) 0)
  ·rw[if_pos e]
   rw[if_pos e] at h
   refine⟨⋯,?_⟩
   rw[show bJ acc++[Dv.int (j:Int)]=bJ (acc++[(j:Int)]) by simp]
   exact ih (j+1) _ ⋯ (by simp;ac_rfl) (by simpa using h)
  ·rw[if_neg e]
   rw[if_neg e] at h
   exact ih (j+1) _ ⋯ ⋯ (by simpa using h)
theorem Kj:∀l:List Int,eqD (.lst (bJ l)) (.lst [])=l.isEmpty
 | []=>by simp[eqD,gG,gG.pyDs,PyData.eqv,PyData.eqvAll]
 |i::l=>by simp[eqD,gG,gG.pyDs,PyData.eqv,PyData.eqvAll]
theorem okL(l:List Int):dA 8 (.lst (bJ l))=true:=uG 7 l
noncomputable def rH:Fn:=fun ds Q=>∃(ks:List Int) (c:Int),ds=[.lst (bJ ks),.int c]/\2<=ks.length/\ks.length<=12/\pc ks<=60 /\ ∀row e,Walk ks (ids ks.length) row e->fG ks e->row.length<=60->Q (.nw (.lst (bJ row)))
theorem Hg:∀ds Q,rH ds Q->ds.length=2:=by rintro ds Q ⟨_,_,rfl,_⟩;rfl
theorem KO:MonoF rH:=⟨fun ds Q Q' w z=>by obtain⟨a,b,c,d,e,f,h⟩:=z;exact⟨a,b,c,d,e,f,fun r x y z u=>w _ (h r x y z u)⟩⟩
theorem La{ks path:List Int}{tl:cD}{E:En}{x0 x1 x3 x4 x5 x6 x7 x8:Sl}(hl:path.length=ks.length)(h:tl E [x0,x1,.v (.lst (bJ path)),x3,x4,x5,.v (.int ((ks.length:Int)-1)),x7,x8]):
  aS (bV 6 (aQ fF (dM e5 (aA (a9 2) aG)) (eC (.int 1)))) tl E [x0,x1,.v (.lst (bJ path)),x3,x4,x5,x6,x7,x8]:=by
 push_cast [length_map,hl]
 exact h
theorem LZ{ks path:List Int}{tl:cD}{E:En}{x1 x3 x4 x5 x7 x8:Sl}(h2:2<=ks.length)(hn:ks.length<=12)(P:Pt ks.length path)(h:tl E [.v (.lst (bJ ks)),x1,.v (.lst (bJ path)),x3,x4,x5,.v (.int ((ks.length:Int)-1)),.v (.lst (bJ (ascs ks path (ks.length-1) 0))),x8]):
  aS (bV 7 (fV 1 [0,2] (fR (aA (a9 6) aG)) (gN 0) (bU (aQ HQ (aQ cO (a9 1) (aQ cO (a9 2) (a9 0))) (aQ cO (a9 1) (aQ cO (a9 2) (aQ cM (a9 0) (eC (.int 1))))))) (a9 0))) tl E [.v (.lst (bJ ks)),x1,.v (.lst (bJ path)),x3,x4,x5,.v (.int ((ks.length:Int)-1)),x7,x8]:=by
 ac_nf
 refine⟨⋯,?_⟩
 rw[show ((ks.length:Int)-1).toNat=ks.length-1 by ac_rfl]
 exact LU hn P (ks.length-1) 0 [] ⋯ (by simp;ac_rfl) h
theorem LY{l row:List Int}{a:Addr}{tl:cD}{E:En}{x0 x1 x2 x4 x5 x6 x8:Sl}(h0:l=[]->E.rt (.nw (.lst (bJ row))))(h1:l≠[]->tl E [x0,x1,x2,.own a (.lst (bJ row)),x4,x5,x6,.v (.lst (bJ l)),x8]):
  aS (jJ (bU (aQ tD (a9 7) (gA aG))) (cA (a9 3)) c9) tl E [x0,x1,x2,.own a (.lst (bJ row)),x4,x5,x6,.v (.lst (bJ l)),x8]:=by
 push_cast [Kj,okL]
 refine⟨rfl,?_⟩
 cases l with
 |nil=>exact h0 rfl
 |cons i l=>exact h1 (by simp)
theorem LX{l:List Int}{c k:Int}{tl:cD}{E:En}{x0 x2 x3 x4 x6 x8:Sl}(hl:l≠[])(hk:0<=k/\k<=500)(h:∀q:Int,0<=q->q<l.length->tl E [x0,.v (.int c),x2,x3,x4,.v (.int k),x6,.v (.lst (bJ l)),.v (.int q)]):
  aS (bV 8 (bQ iO (aA (a9 1) (aA (a9 5) (aA (dM e5 (aA (a9 7) aG)) aG))))) tl E [x0,.v (.int c),x2,x3,x4,.v (.int k),x6,.v (.lst (bJ l)),x8]:=by
 have hpos:(0:Int)<l.length:=by cases l with | nil=>exact absurd rfl hl | cons=>simp<;>ac_rfl
 push_cast [length_map]
 refine⟨c,k,l.length,rfl,hk.1,hk.2,hpos,fun q q0 q1=>?_⟩
 ac_nf
 exact h q q0 q1
theorem LW{l:List Int}{rest q:Int}{tl:cD}{E:En}{x0 x1 x2 x3 x5 x6:Sl}(hl:l≠[])(ll:l.length<=100)(q0:0<=q)(q1:q<l.length)(h:∀rest q:Int,0<=q->q<l.length->tl E [x0,x1,x2,x3,.v (.int rest),x5,x6,.v (.lst (bJ l)),.v (.int q)]):
  aS (jJ (bU (aQ Gb (a9 4) (eC (.int 1)))) (aS (bV 8 (aQ g8 (a9 4) (dM e5 (aA (a9 7) aG)))) (bV 4 (aQ kU (a9 4) (dM e5 (aA (a9 7) aG))))) c9) tl E [x0,x1,x2,x3,.v (.int rest),x5,x6,.v (.lst (bJ l)),.v (.int q)]:=by
 have hpos:(0:Int)<l.length:=by cases l with | nil=>exact absurd rfl hl | cons=>simp<;>ac_rfl
 push_cast [length_map]
 split
 ·exact⟨hpos,⟨hpos,⋯⟩,h _ _ (emod_nonneg rest ⋯) (emod_lt_of_pos rest hpos)⟩
 ·exact h _ _ q0 q1
theorem LV{l path row:List Int}{a:Addr}{q:Int}{p:Nat}{E:En}{x0 x1 x4 x5 x6:Sl}(q0:0<=q)(q1:q<l.length)(ep:l.getD q.toNat 0=p)(hp:p+1<path.length)(pl:path.length<=100)(rl:row.length<=200)(h:E.nx [x0,x1,.v (.lst (bJ (aR path p))),.own a (.lst (bJ row++[Dv.int (p:Int)])),x4,x5,x6,.v (.lst (bJ l)),.v (.int q)]):
  aS (qG 3 (aQ cO (a9 7) (a9 8))) (bV 2 (bQ iQ (aA (a9 2) (aA (aQ cO (a9 7) (a9 8)) aG)))) E [x0,x1,.v (.lst (bJ path)),.own a (.lst (bJ row)),x4,x5,x6,.v (.lst (bJ l)),.v (.int q)]:=by
 push_cast [lG q0 q1,ep,length_map]
 refine⟨⋯,path,p,rfl,pl,hp,?_⟩
 ac_nf
 exact h
theorem OU{d:Dv}{x0 x1 x2 x3 x4 x5 x6 x7 x8:Sl}{Q:List Sl->Prop}(h:Q [x0,x1,x2,x3,x4,.v d,x6,x7,x8]):gN 5 d [x0,x1,x2,x3,x4,x5,x6,x7,x8] Q:=by
 ac_nf
 exact h
theorem Lb{ks:List Int}{c:Int}{a:Addr}{E:En}{Q:R->Prop}(h2:2<=ks.length)(hn:ks.length<=12)(hp:pc ks<=60)(hQ:∀row e,Walk ks (ids ks.length) row e->fG ks e->row.length<=60->Q (.nw (.lst (bJ row))))(hE:E.rt=Q):
  ∀(i k:Nat) (rest:Int) (path row:List Int) (s5 s6 s7 s8:Sl),k+i=ks.length*ks.length->row.length=k->Walk ks (ids ks.length) row path ->
  aV (gN 5) (iZ iO iQ) [] (bP k i) E [.v (.lst (bJ ks)),.v (.int c),.v (.lst (bJ path)),.own a (.lst (bJ row)),.v (.int rest),s5,s6,s7,s8]:=by
 have sq:ks.length*ks.length<=12*12:=mul_le_mul hn hn
 have pl:=Fl.Ls (l:=ks) ⋯
 have cnt:∀{row path},Walk ks (ids ks.length) row path->row.length<=pc ks:=fun w=>by
  have:=w.count (by simp)
  rw[Fl.Kg] at this
  ac_rfl
 intro i
 induction i with
 |zero=>
  intro k rest path row s5 s6 s7 s8 hk rl w
  have:=cnt w
  ac_rfl
 |succ i ih=>
  intro k rest path row s5 s6 s7 s8 hk rl w
  rw[dE,b8]
  refine⟨fun p hp=>by simp at hp,?_⟩
  have P:=w.pt (Pt.ids _)
  have hl:=P.len
  have rw60:=cnt w
  have next:∀(rest:Int) (p:Nat) (s5 s6 s7 s8:Sl),p+1<ks.length->kd ks (path.getD p 0)<kd ks (path.getD (p+1) 0) ->
    aV (gN 5) (iZ iO iQ) [] (bP ((k:Int)+1) i) E [.v (.lst (bJ ks)),.v (.int c),.v (.lst (bJ (aR path p))),.own a (.lst (bJ row++[Dv.int (p:Int)])),.v (.int rest),s5,s6,s7,s8]:=fun rest p s5 s6 s7 s8 hp hk'=>by
   have:=ih (k+1) rest (aR path p) (row++[(p:Int)]) s5 s6 s7 s8 ⋯ (by simp[rl]) (w.snoc hp hk')
   rw[show (((k+1:Nat)):Int)=(k:Int)+1 by ac_rfl] at this
   simpa using this
  generalize aV (gN 5) (iZ iO iQ) [] (bP ((k:Int)+1) i) E=G at next ⊢
  have am:=A7 ks path (ks.length-1) 0
  have an:=A6 ks path (ks.length-1) 0
  have al:=A8 ks path (ks.length-1) 0
  refine OU (La hl (LZ h2 hn P ?_))
  generalize ascs ks path (ks.length-1) 0=l at am an al
  refine LY (fun le=>?_) fun le=>LX le ⋯ fun q q0 q1=>LW le ⋯ q0 q1 fun rest q q0 q1=>?_
  ·show E.rt _
   rw[hE]
   exact hQ row path w (fun p hp=>an le p ⋯ ⋯) ⋯
  ·have hin:l.getD q.toNat 0∈l:=by
    have hk:q.toNat<l.length:=⋯
    simp only[List.getD,List.getElem?_eq_getElem hk,getD_some]
    exact List.getElem_mem hk
   obtain⟨p,ep,lp,kp⟩:=am _ hin
   exact LV q0 q1 ep ⋯ ⋯ ⋯ (next rest p _ _ _ _ ⋯ kp)
theorem Cr:∀ds Q,rH ds Q->oV iO iQ ↥Q (aJ ["_law_bands_here", "_law_cell", "_law_path", "_law_row_here", "_law_rest", "_law_step", "_law_last", "_law_spots", "_law_pick_here"] ds):=by
 rintro ds Q ⟨ks,c,rfl,h2,hn,hp,h⟩
 have sq:ks.length*ks.length<=12*12:=mul_le_mul hn hn
 push_cast [length_map]
 refine⟨⋯,?_⟩
 intro a
 rw[show ((ks.length:Nat):Int).toNat=ks.length by ac_rfl,nZ ks.length]
 have e:(ks.length:Int)*(ks.length:Int)=((ks.length*ks.length:Nat):Int):=by simp
 refine⟨xW ⋯ ⋯,by rw[e];ac_rfl,?_⟩
 rw[e,toNat_natCast]
 exact Lb (Q:=Q) h2 hn hp h rfl (ks.length*ks.length) 0 c _ [] _ _ _ _ ⋯ rfl (.nil _)
end Lw
namespace Lw
open L2 Z
open Sf (Rw crs t7 Pre Good aD aW place many)
open Fl (kd ids Walk fG tls pc aR Pt srt c5)
noncomputable def Al(ts us:List Ti):Prop:=ts.length=us.length /\ ∀(i:Nat) (t u:Ti),ts[i]?=some t->us[i]?=some u->t.1=u.1/\t.2.1=u.2.1/\t.2.2=Fl.srt u.2.2
theorem Al.keys{ks row e:List Int}{ts:List Ti}(w:Walk ks (ids ks.length) row e)(h:Al ts (tls (ids ks.length) row)):N4 ts:=by
 have nd:=w.nodup (Pt.ids _)
 rw[nodup_iff_pairwise_ne,pairwise_map] at nd
 have pw:=pairwise_iff_getElem.mp nd
 refine pairwise_iff_getElem.mpr fun i j hi hj hij z=>?_
 have hi':i<(tls (ids ks.length) row).length:=by rw[<- h.1];exact hi
 have hj':j<(tls (ids ks.length) row).length:=by rw[<- h.1];exact hj
 obtain⟨a1,a2,_⟩:=h.2 i _ _ (List.getElem?_eq_getElem hi) (List.getElem?_eq_getElem hi')
 obtain⟨b1,b2,_⟩:=h.2 j _ _ (List.getElem?_eq_getElem hj) (List.getElem?_eq_getElem hj')
 exact pw i j hi' hj' hij (by rw[<- a1,<- a2,<- b1,<- b2,z.1,z.2])
noncomputable def O2(fl:List Ti):Prop:=fl.Pairwise fun t u=>dD [t.1,t.2.1] [u.1,u.2.1]=true
theorem Ki{k:Int}{Q:R->Prop}:∀(l acc:List Int),acc.length+l.length<=100->Q (.nw (.lst (bJ (acc++l.filter fun b=>decide (b=k))))) ->
  dC [.un,.v (.int k)] (gN 0) (bU (aQ tD (a9 0) (a9 1))) (a9 0) (bJ l) (bJ acc) Q:=by
 intro l
 induction l with
 |nil=>
  intro acc _ h
  ac_nf
  simpa using h
 |cons b l ih=>
  intro acc hl h
  simp only[length_cons] at hl
  push_cast [length_map]
  by_cases e:b=k
  ·rw[if_pos e]
   refine⟨⋯,?_⟩
   rw[show bJ acc++[Dv.int b]=bJ (acc++[b]) by simp]
   refine ih _ (by simp;ac_rfl) ?_
   rw[List.filter_cons_of_pos (by simpa using e)] at h
   simpa using h
  ·rw[if_neg e]
   refine ih _ ⋯ ?_
   rw[List.filter_cons_of_neg (by simpa using e)] at h
   exact h
theorem sP:∀(j:Nat) (cs:List Nat) (i:Nat),((aN j cs).filter fun b=>decide (b=((j+i:Nat):Int))).length=cs.getD i 0
 |_,[],i=>by simp[aN]
 |j,c::cs,0=>by
  have key:∀(k:Nat) (cs:List Nat),j<k->(aN k cs).filter (fun b=>decide (b=((j+0:Nat):Int)))=[]:=by
   intro k cs hk
   apply List.filter_eq_nil_iff.mpr
   intro x hx
   have:=(n8 k cs).2 x hx
   simp;ac_rfl
  rw[aN,filter_append,key (j+1) cs ⋯,append_nil,List.filter_eq_self.mpr (fun x hx=>by rw[eq_of_mem_replicate hx];simp)]
  simp
 |j,c::cs,i+1=>by
  have e:=sP (j+1) cs i
  rw[aN,filter_append,length_append]
  have z:(List.replicate c (j:Int)).filter (fun b=>decide (b=((j+(i+1):Nat):Int)))=[]:=by
   apply List.filter_eq_nil_iff.mpr
   intro x hx
   rw[eq_of_mem_replicate hx]
   simp;ac_rfl
  rw[z,show j+(i+1)=j+1+i by ac_rfl,e]
  simp
theorem t5{cs:List Nat}(C:Cnt cs):jH (bJ (aN 0 cs)) (-1)=some (.int ((cs.length:Int)-1)):=by
 have hne:cs≠[]:=by intro z;have:=C.lo;rw[z] at this;simp at this
 have e:cs=cs.dropLast++[cs.getLast hne]:=(dropLast_concat_getLast hne).symm
 have h1:=C.ok _ (List.getLast_mem hne)
 have lo:=C.lo
 generalize cs.getLast hne=c at *
 generalize cs.dropLast=ds at *
 subst e
 obtain⟨c,rfl⟩:∃k,c=k+1:=⟨c-1,⋯⟩
 rw[n6,zero_add]
 unfold jH oQ
 rw[if_neg ∅,if_pos (by simp;ac_rfl)]
 simp only[length_map,length_append,length_replicate,Option.bind_some]
 rw[show (-1+(((aN 0 ds).length+(c+1):Nat):Int)).toNat=(aN 0 ds).length+c by ac_rfl]
 simp
end Lw
namespace Lw
open L2 Z
open Sf (Rw crs t7 Pre Good aD aW place many)
open Fl (kd ids Walk fG tls pc aR Pt srt c5)
theorem p8{α:Type}{r:α->α->Prop}(anti:∀a b,r a b->r b a->a=b):∀{l m:List α},l.Perm m->l.Pairwise r->m.Pairwise r->l=m
 | [],m,p,_,_=>by rw[List.nil_perm.mp p]
 |a::l,[],p,_,_=>by cases List.perm_nil.mp p
 |a::l,b::m,p,h1,h2=>by
  have e:a=b:=by
   rcases mem_cons.mp (p.subset (mem_cons_self ..)) with z | z
   ·exact z
   ·rcases mem_cons.mp (p.symm.subset (mem_cons_self ..)) with y | y
    ·exact y.symm
    ·exact anti a b ((pairwise_cons.mp h1).1 b y) ((pairwise_cons.mp h2).1 a z)
  subst e
  rw[p8 anti (List.perm_cons a |>.mp p) (pairwise_cons.mp h1).2 (pairwise_cons.mp h2).2]
theorem Km(l m:List Int):eqD (.lst (bJ l)) (.lst (bJ m))=decide (l=m):=by
 rw[Bool.eq_iff_iff,decide_eq_true_eq]
 unfold eqD
 show PyData.eqv (.list (pyDs _)) (.list (pyDs _))=true ↔ _
 rw[PyData.eqv]
 induction l generalizing m with
 |nil=>cases m<;>simp[gG.pyDs,PyData.eqvAll]
 |cons a l ih=>
  cases m with
  |nil=>simp[gG.pyDs,PyData.eqvAll]
  |cons b m=>
   show PyData.eqvAll (.int a::pyDs (bJ l)) (.int b::pyDs (bJ m))=true ↔ _
   rw[PyData.eqvAll,Bool.and_eq_true,ih m,OX,decide_eq_true_eq,List.cons.injEq]
noncomputable def kO(C:Addr):Fn:=fun ds Q=>∃rows:List Rw,ds=[cG C rows]/\(aD rows).length<=12/\Q (.nw (.lst (bJ (ids (aD rows).length))))
theorem DM{C:Addr}:∀ds Q,kO C ds Q->ds.length=1:=by rintro ds Q ⟨_,rfl,_⟩;rfl
theorem sE{C:Addr}:MonoF (kO C):=⟨fun ds Q Q' w z=>by obtain⟨r,e,a,h⟩:=z;exact⟨r,e,a,w _ h⟩⟩
theorem HP{C:Addr}:∀ds Q,kO C ds Q->v6 C (nR C) ↥Q (aJ ["self"] ds):=by
 rintro ds Q ⟨rows,rfl,hn,h⟩
 ac_nf
 refine⟨rfl,rows,rfl,?_⟩
 ac_nf
 refine⟨⋯,?_⟩
 rw[show ((aD rows).length:Int).toNat=(aD rows).length by ac_rfl,nZ]
 exact h
structure LastOk(ks:List Int)(ms:List Int):Prop where
 ex:∃l:List Nat,ms=l.map (fun m:Nat=>(m:Int))/\l.Perm (List.range ks.length)/\l.Pairwise fun a b=>ks.getD b 0<ks.getD a 0 \/ (ks.getD a 0=ks.getD b 0/\a<b)
theorem LastOk.perm{ks ms:List Int}(h:LastOk ks ms):ms.Perm (ids ks.length):=by
 obtain⟨l,rfl,p,_⟩:=h.ex
 exact p.map _
theorem LastOk.len{ks ms:List Int}(h:LastOk ks ms):ms.length=ks.length:=by rw[h.perm.length_eq];simp
theorem LastOk.pw{ks ms:List Int}(h:LastOk ks ms):ms.Pairwise fun a b=>kd ks b<kd ks a \/ (kd ks a=kd ks b/\a<b):=by
 obtain⟨l,rfl,_,w⟩:=h.ex
 rw[pairwise_map]
 exact w.imp fun {a b} z=>by
  unfold kd
  rw[toNat_natCast,toNat_natCast]
  ac_rfl
theorem LastOk.uniq{ks ms ms':List Int}(h:LastOk ks ms)(h':LastOk ks ms'):ms=ms':=p8 (fun a b h1 h2=>by ac_rfl) (h.perm.trans h'.perm.symm) h.pw h'.pw
noncomputable def nS(C:Addr):Fn:=fun ds Q=>∃rows:List Rw,ds=[cG C rows]/\(aD rows).length<=12 /\ ∀ms,LastOk (aD rows) ms->Q (.nw (.lst (bJ ms)))
theorem FX{C:Addr}:∀ds Q,nS C ds Q->ds.length=1:=by rintro ds Q ⟨_,rfl,_⟩;rfl
theorem vZ{C:Addr}:MonoF (nS C):=⟨fun ds Q Q' w z=>by obtain⟨r,e,a,h⟩:=z;exact⟨r,e,a,fun ms z=>w _ (h ms z)⟩⟩
theorem Jz{C:Addr}:∀ds Q,nS C ds Q->AJ C (nR C) (nU C) ↥Q (aJ ["self"] ds):=by
 rintro ds Q ⟨rows,rfl,hn,h⟩
 push_cast [B8]
 refine⟨rfl,rows,rfl,?_⟩
 ac_nf
 refine⟨fun b=>-(aD rows).getD b 0,cG C rows,⋯,rfl,fun b hb=>?_,fun ms p w=>?_⟩
 ·ac_nf
  refine⟨rfl,rows,b,rfl,⋯,?_⟩
  ac_nf
 ·rw[show ((aD rows).length:Int).toNat=(aD rows).length by ac_rfl] at p
  have z:=h (ms.map fun m:Nat=>(m:Int)) ⟨ms,rfl,p,w.imp fun {a b} z=>by dsimp only at z;ac_rfl⟩
  rw[show bJ (ms.map fun m:Nat=>(m:Int))=ms.map fun m:Nat=>Dv.int (m:Int) by simp] at z
  exact z
theorem CC{ks row e:List Int}(w:Walk ks (ids ks.length) row e)(d:fG ks e):LastOk ks e:=by
 have P:Pt ks.length e:=w.pt (Pt.ids _)
 have hl:=P.len
 have at_:∀i (h:i<e.length),e[i]=e.getD i 0:=fun i h=>by simp[List.getD,h]
 have bd:∀x∈e,0<=x/\x<ks.length:=fun x hx=>by
  obtain⟨i,hi,e'⟩:=mem_iff_getElem.mp hx
  rw[<- e',at_ i hi]
  exact P.bd i ⋯
 have back:∀x∈e,((x.toNat:Nat):Int)=x:=fun x hx=>by have:=bd x hx;ac_rfl
 refine⟨e.map Int.toNat,?_,?_,?_⟩
 ·rw[map_map]
  exact(map_id e).symm.trans (map_congr_left fun x hx=>(back x hx).symm)
 ·refine(List.perm_ext_iff_of_nodup ?_ List.nodup_range).mpr fun k=>?_
  ·rw[nodup_iff_pairwise_ne,pairwise_map,pairwise_iff_getElem]
   intro i j hi hj hij z
   have b1:=bd _ (List.getElem_mem hi)
   have b2:=bd _ (List.getElem_mem hj)
   have:=P.inj i j ⋯ ⋯ (by rw[<- at_ i hi,<- at_ j hj];ac_rfl)
   ac_rfl
  ·rw[mem_map,mem_range]
   constructor
   ·rintro⟨x,hx,rfl⟩
    have:=bd x hx
    ac_rfl
   ·intro hk
    obtain⟨i,hi,ei⟩:=P.sur (k:Int) ⋯ ⋯
    exact⟨(k:Int),by rw[<- ei,<- at_ i ⋯];exact List.getElem_mem _,⋯⟩
 ·rw[pairwise_map,pairwise_iff_getElem]
  intro i j hi hj hij
  rw[at_ i hi,at_ j hj]
  have le:kd ks (e.getD j 0)<=kd ks (e.getD i 0):=by
   have:=d.le P (j-i) i ⋯
   rwa[show i+(j-i)=j by ac_rfl] at this
  rcases Int.lt_or_eq_of_le le with z | z
  ·exact .inl z
  ·refine .inr ⟨z.symm,?_⟩
   have b1:=P.bd i ⋯
   have b2:=P.bd j ⋯
   have ne:e.getD i 0≠e.getD j 0:=fun y=>by have:=P.inj i j ⋯ ⋯ y;ac_rfl
   by_cases c:e.getD i 0<e.getD j 0
   ·ac_rfl
   ·exfalso
    have bf:=w.stay (Pt.ids _) (x:=e.getD i 0) (y:=e.getD j 0) ⋯ (Fl.G5 b2.1 ⋯ b1.2)
    exact Fl.Bf.anti P ⟨i,j,hij,hj,rfl,rfl⟩ bf
theorem wH{α:Type}(f:α->Dv)(hf:∀a b,eqD (f a) (f b)=true ↔ a=b):∀l m:List α,PyData.eqvAll (pyDs (l.map f)) (pyDs (m.map f))=true ↔ l=m
 | [],[]=>by simp[gG.pyDs,PyData.eqvAll]
 | [],_::_=>by simp[gG.pyDs,PyData.eqvAll]
 |_::_,[]=>by simp[gG.pyDs,PyData.eqvAll]
 |a::l,b::m=>by
  show PyData.eqvAll (gG (f a)::pyDs (l.map f)) (gG (f b)::pyDs (m.map f))=true ↔ _
  have h:=hf a b
  unfold eqD at h
  rw[PyData.eqvAll,Bool.and_eq_true,wH f hf l m,h,List.cons.injEq]
theorem GD{α:Type}(f:α->Dv)(hf:∀a b,eqD (f a) (f b)=true ↔ a=b)(l m:List α):eqD (.lst (l.map f)) (.lst (m.map f))=true ↔ l=m:=by
 unfold eqD
 show PyData.eqv (.list (pyDs _)) (.list (pyDs _))=true ↔ _
 rw[PyData.eqv]
 exact wH f hf l m
theorem sQ{α:Type}(f:α->Dv)(hf:∀a b,eqD (f a) (f b)=true ↔ a=b)(l m:List α):eqD (.tup (l.map f)) (.tup (m.map f))=true ↔ l=m:=by
 unfold eqD
 show PyData.eqv (.tuple (pyDs _)) (.tuple (pyDs _))=true ↔ _
 rw[PyData.eqv]
 exact wH f hf l m
theorem CK(a b:Int):eqD (.int a) (.int b)=true ↔ a=b:=by rw[Z.wI,decide_eq_true_eq]
theorem vQ(n:Nat):∀l:List Dv,(∀d∈l,dA n d=true)->okDs n l=true
 | [],_=>rfl
 |d::r,h=>by
  show (dA n d&&okDs n r)=true
  rw[h d (by simp),vQ n r fun x hx=>h x (by simp[hx])]
  rfl
end Lw
namespace Lw
open L2 Z
open Sf (Rw crs t7 Pre Good aD aW place many)
open Fl (kd ids Walk fG tls pc aR Pt srt c5)
noncomputable def LB(path:List Int)(p:Nat):Ti:=(path.getD p 0,path.getD (p+1) 0,srt (path.take p))
noncomputable def kP(C:Addr):Fn:=fun ds Q=>∃(d:Dv) (path:List Int) (p:Nat),ds=[d,.lst (bJ path),.int p]/\path.length<=100/\p+1<path.length/\Q (.nw (.lst (bJ (aR path p))))
theorem DN{C:Addr}:∀ds Q,kP C ds Q->ds.length=3:=by rintro ds Q ⟨_,_,_,rfl,_⟩;rfl
theorem FL{C:Addr}:MonoF (kP C):=⟨fun ds Q Q' w z=>by obtain⟨a,b,c,d,e,f,h⟩:=z;exact⟨a,b,c,d,e,f,w _ h⟩⟩
theorem yM{C:Addr}:∀ds Q,kP C ds Q->kM ↥Q (aJ ["sides", "path", "p"] ds):=by
 rintro ds Q ⟨d,path,p,rfl,hl,hp,q⟩
 have e1:((p:Int)+1)=((p+1:Nat):Int):=⋯
 have e2:((p:Int)+2)=((p+2:Nat):Int):=⋯
 ac_nf
 rw[e1,e2,dB ⋯,dB ⋯,wX ⋯,sV ⋯]
 simp only[toNat_natCast,<- map_take,<- map_drop]
 push_cast [length_map,length_take,length_drop,length_append]
 refine⟨⋯,⋯,?_⟩
 have:=IX (l:=path) (p:=p)
 simp only[append_assoc,cons_append,nil_append] at this ⊢
 rw[this]
 exact q
noncomputable def nL:Fn:=fun ds Q=>∃(path:List Int) (p:Nat),ds=[.lst (bJ path),.int p]/\path.length<=20/\p+1<path.length/\Q (.v (JR (LB path p)))
theorem FS:∀ds Q,nL ds Q->ds.length=2:=by rintro ds Q ⟨_,_,rfl,_⟩;rfl
theorem HW:MonoF nL:=⟨fun ds Q Q' w z=>by obtain⟨a,b,c,d,e,h⟩:=z;exact⟨a,b,c,d,e,w _ h⟩⟩
theorem Cq:∀ds Q,nL ds Q->oU ↥Q (aJ ["path", "p"] ds):=by
 rintro ds Q ⟨path,p,rfl,pl,hp,q⟩
 push_cast [dB (show p<path.length by ac_rfl),show ((p:Int)+1)=((p+1:Nat):Int) by ac_rfl,dB hp,wX (show (0:Int)<=p by ac_rfl),toNat_natCast,<- map_take]
 refine pA (by rw[length_take];ac_rfl) fun ms hm hs=>?_
 ac_nf
 rw[Fl.c5 hm hs]
 exact q
noncomputable def rJ(C:Addr):Fn:=fun ds Q=>∃(rows:List Rw) (path:List Int) (p:Nat),ds=[cG C rows,.lst (bJ path),.int p]/\Pt (aD rows).length path/\p+1<(aD rows).length/\Q (.v (.bl (decide (kd (aD rows) (path.getD p 0)<kd (aD rows) (path.getD (p+1) 0)))))
theorem Ho{C:Addr}:∀ds Q,rJ C ds Q->ds.length=3:=by rintro ds Q ⟨_,_,_,rfl,_⟩;rfl
theorem As{C:Addr}:MonoF (rJ C):=⟨fun ds Q Q' w z=>by obtain⟨a,b,c,d,e,f,h⟩:=z;exact⟨a,b,c,d,e,f,w _ h⟩⟩
theorem Lv{C:Addr}:∀ds Q,rJ C ds Q->E5 C (nU C) ↥Q (aJ ["sides", "path", "p"] ds):=by
 rintro ds Q ⟨rows,path,p,rfl,P,hp,q⟩
 have hl:=P.len
 have b1:=P.bd p ⋯
 have b2:=P.bd (p+1) ⋯
 push_cast [length_map]
 rw[if_neg ⋯,if_neg ⋯]
 push_cast [dB (show p<path.length by ac_rfl),show ((p:Int)+1)=((p+1:Nat):Int) by ac_rfl,dB (show p+1<path.length by ac_rfl)]
 obtain⟨x,hx⟩:∃x:Nat,path.getD p 0=x:=⟨(path.getD p 0).toNat,⋯⟩
 obtain⟨y,hy⟩:∃y:Nat,path.getD (p+1) 0=y:=⟨(path.getD (p+1) 0).toNat,⋯⟩
 rw[hx,hy] at q ⊢
 refine⟨rfl,rows,x,rfl,⋯,?_⟩
 ac_nf
 refine⟨rfl,rows,y,rfl,⋯,?_⟩
 ac_nf
 exact q
end Lw
namespace Lw
open L2 Z
open Sf (Rw crs t7 Pre Good aD aW place many uS)
theorem k8{a b:Int}(ha:a.natAbs<=10 ^ 1000)(hb:b.natAbs<=10 ^ 1000):oP a b:=.inr ⟨Nat.lt_of_le_of_lt ha (by decide +kernel),Nat.lt_of_le_of_lt hb (by decide +kernel)⟩
theorem iY{n:Nat}(h:n<=1000000000000000000000):n<=10 ^ 1000:=le_trans h (by decide +kernel)
structure Dn(x y:Int)(B:Nat):Prop where
 y0:0<=y
 y9:y<=9
 xp:y=0->0<x
 bx:x.natAbs<=B
theorem Dn.next{x y rise side:Int}{b:Nat}(h:Dn x y b)(r1:1<=rise)(r9:rise<=9)(s0:0<=side)(s9:side<=99)(x':Int)
  (e:x'=if y=0 then side-50 else (x*rise-1) / y-side):Dn x' rise (9*b+100)/\0<x*rise-x'*y:=by
 obtain⟨y0,y9,xp,bx⟩:=h
 have ub:(x*rise).natAbs<=9*b:=by
  rw[Int.natAbs_mul,mul_comm 9 b]
  exact mul_le_mul bx ⋯
 by_cases z:y=0
 ·rw[if_pos z] at e
  refine⟨⟨⋯,r9,fun z=>by ac_rfl,⋯⟩,?_⟩
  have:=mul_pos (xp z) (show 0<rise by ac_rfl)
  rw[z,Int.mul_zero]
  ac_rfl
 ·rw[if_neg z] at e
  have q:=Int.natAbs_ediv_le_natAbs (x*rise-1) y
  have d:=Int.mul_ediv_self_le (x:=x*rise-1) (k:=y) z
  refine⟨⟨⋯,r9,fun z=>by ac_rfl,⋯⟩,?_⟩
  have s:=mul_nonneg s0 y0
  rw[e,Int.sub_mul,Int.mul_comm _ y]
  ac_rfl
noncomputable def gZ:Fn:=fun ds Q=>∃(x y c:Int) (b:Nat),ds=[.int x,.int y,.int c]/\Dn x y b/\b<=1000000000000 /\ ∀x' y',Dn x' y' (9*b+100)->1<=y'->0<x*y'-x'*y->Q (.v (.tup [.int x',.int y']))
theorem DJ:∀ds Q,gZ ds Q->ds.length=3:=by rintro ds Q ⟨_,_,_,_,rfl,_⟩;rfl
theorem FH:MonoF gZ:=⟨fun ds Q Q' w z=>by obtain⟨a,b,c,d,e,f,g,h⟩:=z;exact⟨a,b,c,d,e,f,g,fun x y u v z=>w _ (h x y u v z)⟩⟩
theorem Af:∀ds Q,gZ ds Q->mD ↥Q (aJ ["_law_x", "_law_y", "_law_rest", "_law_rise", "_law_side"] ds):=by
 rintro ds Q ⟨x,y,c,b,rfl,n,hb,h⟩
 have u1:=emod_nonneg c (show (9:Int)≠0 by decide)
 have u2:=emod_lt_of_pos c (show (0:Int)<9 by decide)
 have v1:=emod_nonneg (c / 9) (show (100:Int)≠0 by decide)
 have v2:=emod_lt_of_pos (c / 9) (show (0:Int)<100 by decide)
 ac_nf
 generalize c / 9 % 100=side at *
 have r1:1<=1+c % 9:=⋯
 have r9:1+c % 9<=9:=⋯
 generalize 1+c % 9=rise at *
 have k:=n.next r1 r9 v1 ⋯ _ rfl
 have bx:=n.bx
 have y0:=n.y0
 have y9:=n.y9
 refine G3 (fun z=>?_) fun z=>?_
 ·rw[if_pos z] at k
  exact h _ _ k.1 r1 k.2
 ·rw[if_neg z] at k
  refine⟨k8 (iY ⋯) (iY ⋯),⟨⋯,⋯⟩,h _ _ k.1 r1 k.2⟩
noncomputable def bnd:Nat->Nat
 |0=>100001
 |k+1=>9*bnd k+100
theorem GT:∀k:Nat,k<=5->bnd k<=10000000000:=by decide
theorem zE:∀(k:Nat) (rows:List Rw) (cs:List Nat),rows.map (·.m)=cs.map (fun c:Nat=>(c:Int))->aW k rows=aN k cs
 |_,[],[],_=>rfl
 |k,r::rows,c::cs,h=>by
  obtain⟨h1,h2⟩:=List.cons.inj h
  rw[aW,aN,zE (k+1) rows cs h2,show r.m=(c:Int) from h1]
  rfl
theorem CA:∀(rows:List Rw) (cs:List Nat),rows.map (·.m)=cs.map (fun c:Nat=>(c:Int))->many rows=(cs.sum:Int)
 | [],[],_=>rfl
 |r::rows,c::cs,h=>by
  obtain⟨h1,h2⟩:=List.cons.inj h
  have:=CA rows cs h2
  unfold many at this ⊢
  rw[map_cons,sum_cons,this,sum_cons]
  show r.m+_=_
  rw[show r.m=(c:Int) from h1]
  ac_rfl
structure Mk(cs:List Nat)(k:Nat)(rows:List Rw)(x y:Int):Prop where
 ms:rows.map (·.m)=(cs.take k).map (fun c:Nat=>(c:Int))
 srt:t7 rows
 ok:∀r∈rows,KM r
 lf:∀r∈rows,0<crs r ⟨x,y,1⟩
 dn:Dn x y (bnd k)
theorem Mk.next{cs:List Nat}{k:Nat}{rows:List Rw}{x y t x' y':Int}(M:Mk cs k rows x y)(hk:k<cs.length)(k6:k<=5)(c1:1<=cs.getD k 0)(t1:1<=t)(t2:t<=10)(D:Dn x' y' (9*bnd k+100))(cr:0<x*y'-x'*y)(y1:1<=y'):
  Mk cs (k+1) (rows++[⟨x*t,y*t,(cs.getD k 0:Nat)⟩]) x' y':=by
 obtain⟨y0,y9,xp,bx⟩:=M.dn
 have bl:=GT k k6
 have up:Rw.up ⟨x,y,1⟩:=by
  by_cases z:y=0
  ·exact .inr ⟨z,xp z⟩
  ·exact .inl (by show 0<y;ac_rfl)
 have xt:(x*t).natAbs<=10000000000*10:=by
  rw[Int.natAbs_mul]
  exact mul_le_mul ⋯ ⋯
 have yt:y*t<=9*10:=Int.mul_le_mul y9 t2 ⋯ ⋯
 have upr:Rw.up ⟨x*t,y*t,(cs.getD k 0:Nat)⟩:=by
  rcases up with u | ⟨u,v⟩
  ·exact .inl (mul_pos u ⋯)
  ·refine .inr ⟨?_,mul_pos v ⋯⟩
   show y*t=0
   rw[show y=0 from u,Int.zero_mul]
 have up':Rw.up ⟨x',y',1⟩:=.inl (by show 0<y';ac_rfl)
 refine⟨?_,?_,fun r hr=>?_,fun r hr=>?_,D⟩
 ·rw[map_append,M.ms,List.take_add_one,List.getElem?_eq_getElem hk,map_append]
  rw[show cs.getD k 0=cs[k] by simp[List.getD,hk]]
  rfl
 ·refine List.pairwise_append.mpr ⟨M.srt,by simp,fun a ha b hb=>?_⟩
  rw[mem_singleton.mp hb]
  have:=mul_pos (M.lf a ha) (show 0<t by ac_rfl)
  show 0<a.x*(y*t)-x*t*a.y
  have e:a.x*(y*t)-x*t*a.y=(a.x*y-x*a.y)*t:=by grind
  rw[e]
  exact this
 ·rcases mem_append.mp hr with hr | hr
  ·exact M.ok r hr
  ·rw[mem_singleton.mp hr]
   exact⟨upr,by show _<=x*t;ac_rfl,by show x*t<=_;ac_rfl,by show y*t<=_;ac_rfl,by show (1:Int)<=(cs.getD k 0:Nat);ac_rfl⟩
 ·rcases mem_append.mp hr with hr | hr
  ·exact uS (M.ok r hr).1 up up' (M.lf r hr) cr
  ·rw[mem_singleton.mp hr]
   have:=mul_pos cr (show 0<t by ac_rfl)
   show 0<x*t*y'-x'*(y*t)
   have e:x*t*y'-x'*(y*t)=(x*y'-x'*y)*t:=by grind
   rw[e]
   exact this
theorem Mk.good{cs:List Nat}{rows:List Rw}{x y:Int}(C:Cnt cs)(M:Mk cs cs.length rows x y):Good rows/\aD rows=aN 0 cs:=by
 have ms:=M.ms
 rw[List.take_length] at ms
 have l:rows.length=cs.length:=by simpa using congrArg List.length ms
 have lo:=C.lo
 have hi:=C.hi
 have tt:=C.tot
 exact⟨⟨⋯,⋯,M.srt,M.ok,by rw[CA rows cs ms];ac_rfl⟩,zE 0 rows cs ms⟩
theorem OT{d:Dv}{x0 x1 x2 x3 x4 x5 x6 x7:Sl}{Q:List Sl->Prop}(h:Q [x0,x1,x2,x3,x4,x5,.v d,x7]):gN 6 d [x0,x1,x2,x3,x4,x5,x6,x7] Q:=by
 ac_nf
 exact h
theorem Kq{cs:List Nat}{x1:Sl}{a:Addr}{E:En}(C:Cnt cs):∀(i k:Nat) (x y c:Int) (rows:List Rw) (s6 s7:Sl),k+i=cs.length->Mk cs k rows x y ->
  (∀(x y c:Int) (rows:List Rw) (s6 s7:Sl),Mk cs cs.length rows x y->E.nx [.v (.lst (bJ (aN 0 cs))),x1,.v (.int x),.v (.int y),.v (.int c),.own a (.lst (tB rows)),s6,s7]) ->
  aV (gN 6) (cV gZ) [] (bP k i) E [.v (.lst (bJ (aN 0 cs))),x1,.v (.int x),.v (.int y),.v (.int c),.own a (.lst (tB rows)),s6,s7]:=by
 intro i
 have hi:=C.hi
 have bl:=(wY C).2
 induction i with
 |zero=>
  intro k x y c rows s6 s7 hk M h
  rw[eX,bH]
  exact⟨fun p hp=>by simp at hp,h _ _ _ _ _ _ (by rw[<- hk];exact M)⟩
 |succ i ih=>
  intro k x y c rows s6 s7 hk M h
  rw[dE,b8]
  refine⟨fun p hp=>by simp at hp,OT ?_⟩
  have nx:∀(x y c:Int) (rows:List Rw) (s6 s7:Sl),Mk cs (k+1) rows x y->aV (gN 6) (cV gZ) [] (bP ((k:Int)+1) i) E [.v (.lst (bJ (aN 0 cs))),x1,.v (.int x),.v (.int y),.v (.int c),.own a (.lst (tB rows)),s6,s7]:=fun x y c rows s6 s7 M=>ih (k+1) x y c rows s6 s7 ⋯ M h
  generalize aV (gN 6) (cV gZ) [] (bP ((k:Int)+1) i) E=nn at *
  have t1:=emod_nonneg c (show (10:Int)≠0 by decide)
  have t2:=emod_lt_of_pos c (show (0:Int)<10 by decide)
  obtain⟨y0,y9,xp,bx⟩:=M.dn
  have b5:=GT k ⋯
  have c1:1<=cs.getD k 0:=by
   have hlt:k<cs.length:=⋯
   rw[show cs.getD k 0=cs[k] by simp[List.getD,hlt]]
   exact C.ok _ (List.getElem_mem hlt)
  ac_nf
  generalize c % 10=t at *
  have rl:rows.length=k:=by simpa [min_eq_left (show k<=cs.length by ac_rfl)] using congrArg List.length M.ms
  refine⟨k8 (iY ⋯) (iY ⋯),k8 (iY ⋯) (iY ⋯),Ki _ [] (by simp;ac_rfl) ?_⟩
  have fb:=sP 0 cs k
  rw[zero_add] at fb
  push_cast [fb,length_map,nil_append]
  refine⟨⋯,x,y,_,bnd k,rfl,M.dn,⋯,fun x' y' D y1 cr=>?_⟩
  ac_nf
  have:=nx x' y' (c / 9000) _ (.v (.int k)) (.v (.int (1+t))) (M.next ⋯ ⋯ c1 (show 1<=1+t by ac_rfl) ⋯ D cr y1)
  unfold tB at this ⊢
  rw[map_append] at this
  exact this
noncomputable def kN:Fn:=fun ds Q=>∃(cs:List Nat) (c:Int),ds=[.lst (bJ (aN 0 cs)),.int c]/\Cnt cs /\ ∀rows:List Rw,Good rows->aD rows=aN 0 cs->Q (.nw (.lst (tB rows)))
theorem DK:∀ds Q,kN ds Q->ds.length=2:=by rintro ds Q ⟨_,_,rfl,_⟩;rfl
theorem FI:MonoF kN:=⟨fun ds Q Q' w z=>by obtain⟨a,b,c,d,h⟩:=z;exact⟨a,b,c,d,fun x y u=>w _ (h x y u)⟩⟩
theorem p9:∀ds Q,kN ds Q->gB gZ ↥Q (aJ ["_law_bands_here", "_law_cell", "_law_x", "_law_y", "_law_rest", "_law_made", "_law_k", "_law_times"] ds):=by
 rintro ds Q ⟨cs,c,rfl,C,h⟩
 have u1:=emod_nonneg c (show (200001:Int)≠0 by decide)
 have u2:=emod_lt_of_pos c (show (0:Int)<200001 by decide)
 have v1:=emod_nonneg (c / 200001) (show (9:Int)≠0 by decide)
 have v2:=emod_lt_of_pos (c / 200001) (show (0:Int)<9 by decide)
 have hi:=C.hi
 have key:∀(x y:Int),Dn x y 100001 -> ∀a,aV (gN 6) (cV gZ) [] (bP 0 cs.length) { nx:=cA (a9 5) ↥Q,rt:=Q } [.v (.lst (bJ (aN 0 cs))),.v (.int c),.v (.int x),.v (.int y),.v (.int (c / 1800009)),.own a (.lst []),.un,.un]:=fun x y D a=>by
  refine Kq C cs.length 0 x y _ [] _ _ ⋯ ⟨rfl,List.Pairwise.nil,fun r hr=>(by cases hr),fun r hr=>(by cases hr),D⟩ fun x y c' rows s6 s7 M=>?_
  ac_nf
  exact h rows (M.good C).1 (M.good C).2
 push_cast [t5 C]
 rw[show ((cs.length:Int)-1+1).toNat=cs.length by ac_rfl]
 refine G3 (fun z=>fun a=>⟨⟨⋯,⋯⟩,key _ _ ⟨by decide,by decide,fun _=>by split<;>ac_rfl,by split<;>ac_rfl⟩ a⟩) fun z=>fun a=>⟨⟨⋯,⋯⟩,key _ _ ⟨⋯,⋯,fun _=>by ac_rfl,⋯⟩ a⟩
end Lw
namespace Lw
open L2 Z
open Sf (Rw crs t7 Pre Good aD aW place many)
open Fl (kd ids Walk fG tls pc aR Pt srt c5)
theorem LQ(l:List Int)(b:Int):bJ l++[Dv.int b]=bJ (l++[b]):=by simp
noncomputable def vec(rows:List Rw)(b:Int):Rw:=rows.getD (kd (aD rows) b).toNat ⟨0,0,0⟩
noncomputable def AB(n:Nat)(l:List Int):Prop:=∀b∈l,0<=b/\b<n
theorem CF{rows:List Rw}{b:Int}(h0:0<=b)(h1:b<(aD rows).length):0<=kd (aD rows) b/\kd (aD rows) b<rows.length:=by
 have h:b.toNat<(aD rows).length:=⋯
 have:=Sf.sH 0 rows ((aD rows)[b.toNat]) (List.getElem_mem h)
 rw[show kd (aD rows) b=(aD rows)[b.toNat] by simp[kd,List.getD,h]]
 ac_rfl
noncomputable def rG(C:Addr):Fn:=fun ds Q=>∃(rows:List Rw) (b:Int),ds=[cG C rows,.int b]/\0<=b/\b<(aD rows).length/\Q (.v (.tup [.int (vec rows b).x,.int (vec rows b).y]))
theorem Hf{C:Addr}:∀ds Q,rG C ds Q->ds.length=2:=by rintro ds Q ⟨_,_,rfl,_⟩;rfl
theorem KN{C:Addr}:MonoF (rG C):=⟨fun ds Q Q' w z=>by obtain⟨a,b,c,d,e,h⟩:=z;exact⟨a,b,c,d,e,w _ h⟩⟩
theorem Kx{rows:List Rw}{i:Int}(h0:0<=i)(h1:i<rows.length):jH (qF rows) i=some (.tup [.int (rows.getD i.toNat ⟨0,0,0⟩).x,.int (rows.getD i.toNat ⟨0,0,0⟩).y]):=by
 have h:i.toNat<rows.length:=⋯
 have e:rows.getD i.toNat ⟨0,0,0⟩=rows[i.toNat]:=by simp[List.getD,h]
 rw[e]
 have a:=L2.eU (xs:=qF rows) (j:=i.toNat) (v:=.tup [.int rows[i.toNat].x,.int rows[i.toNat].y]) (by rw[List.getElem?_map,List.getElem?_eq_getElem h];rfl)
 rw[show ((i.toNat:Nat):Int)=i by ac_rfl] at a
 exact a
theorem Ek{C:Addr}:∀ds Q,rG C ds Q->r8 C ↥Q (aJ ["self", "band"] ds):=by
 rintro ds Q ⟨rows,b,rfl,h0,h1,h⟩
 have k:=CF h0 h1
 ac_nf
 rw[show List.lookup (Str.ofString "kinds") [(Str.ofString "kinds",Dv.tup (bJ (aD rows))),(Str.ofString "vectors",Dv.tup (qF rows))]=some (Dv.tup (bJ (aD rows))) from rfl,
  show List.lookup (Str.ofString "vectors") [(Str.ofString "kinds",Dv.tup (bJ (aD rows))),(Str.ofString "vectors",Dv.tup (qF rows))]=some (Dv.tup (qF rows)) from rfl]
 push_cast [lG h0 h1]
 rw[Kx k.1 k.2]
 exact h
noncomputable def sX(rows:List Rw):List Int->Int
 | []=>0
 |b::l=>(vec rows b).x+sX rows l
noncomputable def sY(rows:List Rw):List Int->Int
 | []=>0
 |b::l=>(vec rows b).y+sY rows l
theorem EB(rows:List Rw):∀l:List Int,(l.map fun b=>(vec rows b).x).sum=sX rows l
 | []=>rfl
 |b::l=>by rw[map_cons,sum_cons,EB rows l,sX]
theorem EA(rows:List Rw):∀l:List Int,(l.map fun b=>(vec rows b).y).sum=sY rows l
 | []=>rfl
 |b::l=>by rw[map_cons,sum_cons,EA rows l,sY]
theorem AC{rows:List Rw}(G:Good rows){b:Int}(h0:0<=b)(h1:b<(aD rows).length):(vec rows b).x.natAbs<=1000000000000/\(vec rows b).y.natAbs<=1000000000000:=by
 have k:=CF h0 h1
 have h:(kd (aD rows) b).toNat<rows.length:=⋯
 obtain⟨u,a1,a2,a3,_⟩:=G.ok rows[(kd (aD rows) b).toNat] (List.getElem_mem h)
 rw[show vec rows b=rows[(kd (aD rows) b).toNat] by unfold vec;generalize (kd (aD rows) b).toNat=j at h ⊢;simp[List.getD,h]]
 refine⟨⋯,?_⟩
 rcases u with u | ⟨u,_⟩<;>ac_rfl
theorem IY{rows:List Rw}(G:Good rows):∀l:List Int,AB (aD rows).length l->(sX rows l).natAbs<=1000000000000*l.length/\(sY rows l).natAbs<=1000000000000*l.length
 | [],_=>by simp[sX,sY]
 |b::l,h=>by
  have i:=IY G l fun x hx=>h x (mem_cons_of_mem _ hx)
  have v:=AC G (h b (mem_cons_self ..)).1 (h b (mem_cons_self ..)).2
  rw[sX,sY,length_cons]
  ac_rfl
noncomputable def vB(C:Addr):Fn:=fun ds Q=>∃(rows:List Rw) (l:List Int),ds=[cG C rows,.tup (bJ l)]/\AB (aD rows).length l/\l.length<=100/\Q (.v (.tup [.int (sX rows l),.int (sY rows l)]))
theorem Hm{C:Addr}:∀ds Q,vB C ds Q->ds.length=2:=by rintro ds Q ⟨_,_,rfl,_⟩;rfl
theorem KR{C:Addr}:MonoF (vB C):=⟨fun ds Q Q' w z=>by obtain⟨a,b,c,d,e,h⟩:=z;exact⟨a,b,c,d,e,w _ h⟩⟩
theorem JE{C:Addr}{rows:List Rw}{k:Int}{f:Rw->Int}(hk:∀u:Rw,jH [Dv.int u.x,.int u.y] k=some (.int (f u))){Q:R->Prop}:∀(l acc:List Int),AB (aD rows).length l->acc.length+l.length<=200->Q (.nw (.lst (bJ (acc++l.map fun b=>f (vec rows b))))) ->
  dC [.un,.v (cG C rows)] (gN 0) fM (aQ cO (iU C "vector" (rG C) (a9 1) (aA (a9 0) aG)) (eC (.int k))) (bJ l) (bJ acc) Q:=by
 intro l
 induction l with
 |nil=>
  intro acc _ _ h
  ac_nf
  simpa using h
 |cons b l ih=>
  intro acc hb hl h
  simp only[length_cons] at hl
  push_cast [length_map]
  refine⟨rfl,rows,b,rfl,(hb b (mem_cons_self ..)).1,(hb b (mem_cons_self ..)).2,?_⟩
  push_cast [hk,length_map]
  refine⟨⋯,?_⟩
  rw[LQ]
  exact ih _ (fun x hx=>hb x (mem_cons_of_mem _ hx)) (by simp;ac_rfl) (by simpa using h)
theorem El{C:Addr}:∀ds Q,vB C ds Q->rA C (rG C) ↥Q (aJ ["sides", "below", "x", "y"] ds):=by
 rintro ds Q ⟨rows,l,rfl,hb,hl,h⟩
 ac_nf
 refine JE (f:=fun u=>u.x) (fun u=>rfl) l [] hb (by simp;ac_rfl) ?_
 ac_nf
 refine⟨_,rfl,?_⟩
 push_cast [EB]
 refine JE (f:=fun u=>u.y) (fun u=>rfl) l [] hb (by simp;ac_rfl) ?_
 ac_nf
 refine⟨_,rfl,?_⟩
 push_cast [EA]
 exact h
end Lw
namespace Lw
open L2 Z
open Sf (Rw crs t7 Pre Good aD aW place many)
open Fl (kd ids Walk fG tls pc aR Pt srt c5)
noncomputable def pths:List Int->List Int->List (List Int)
 |l,[]=>[l]
 |l,p::r=>l::pths (aR l p.toNat) r
noncomputable abbrev Im(l:List (List Int)):List Dv:=l.map fun p=>.lst (bJ p)
noncomputable def nO(C:Addr):Fn:=fun ds Q=>∃(rows:List Rw) (row e:List Int),ds=[cG C rows,.lst (bJ row)]/\(aD rows).length<=12/\row.length<=200/\Walk (aD rows) (ids (aD rows).length) row e/\fG (aD rows) e/\Q (.nw (.lst (Im (pths (ids (aD rows).length) row))))
theorem DI{C:Addr}:∀ds Q,nO C ds Q->ds.length=2:=by rintro ds Q ⟨_,_,_,rfl,_⟩;rfl
theorem sD{C:Addr}:MonoF (nO C):=⟨fun ds Q Q' w z=>by obtain⟨a,b,c,d,e,f,g,i,h⟩:=z;exact⟨a,b,c,d,e,f,g,i,w _ h⟩⟩
theorem HM{C:Addr}{rows:List Rw}{E:En}{a:Addr}{x1:Sl}(hn:(aD rows).length<=12):∀(r path e:List Int) (k:Nat) (told:List (List Int)) (s4 s5:Sl),Pt (aD rows).length path->Walk (aD rows) path r e->told.length+r.length<=1000->k+r.length<=1000 ->
  (∀s4 s5,E.nx [.v (cG C rows),x1,.v (.lst (bJ e)),.own a (.lst (Im (told++(pths path r).drop 1))),s4,s5]) ->
  aV (gT [4,5]) (pS C (rJ C) (kP C) (kO C) (nS C)) [] (((bJ r).zipIdx k).map fun q=>.tup [.int (q.2:Int),q.1]) E [.v (cG C rows),x1,.v (.lst (bJ path)),.own a (.lst (Im told)),s4,s5]:=by
 intro r
 induction r with
 |nil=>
  intro path e k told s4 s5 P w hl hk h
  cases w
  push_cast [zipIdx_nil]
  have:=h s4 s5
  simpa [pths] using this
 |cons q r ih=>
  intro path e k told s4 s5 P w hl hk h
  have hlp:=P.len
  simp only[length_cons] at hl hk
  cases w with
  |cons hp hlt w'=>
   rename_i p
   push_cast [zipIdx_cons,map_cons,pS,length_map]
   refine⟨rows,path,p,rfl,P,⋯,?_⟩
   rw[decide_eq_true hlt]
   ac_nf
   refine⟨cG C rows,path,p,rfl,⋯,⋯,?_⟩
   push_cast [length_map]
   refine⟨⋯,?_⟩
   rw[show Im told++[Dv.lst (bJ (aR path p))]=Im (told++[aR path p]) by simp]
   refine ih (aR path p) e (k+1) _ _ _ (P.swap hp) w' (by simp;ac_rfl) ⋯ fun s4 s5=>?_
   have z:=h s4 s5
   have e2:(pths path ((p:Int)::r)).drop 1=aR path p::(pths (aR path p) r).drop 1:=by
    rw[pths,List.drop_one,List.tail_cons,toNat_natCast]
    cases r<;>rfl
   rw[e2] at z
   simpa using z
theorem HN{C:Addr}:∀ds Q,nO C ds Q->v5 C (rJ C) (kP C) (kO C) (nS C) ↥Q (aJ ["sides", "row", "path", "told", "step", "p"] ds):=by
 rintro ds Q ⟨rows,row,e,rfl,hn,rl,w,d,q⟩
 ac_nf
 refine⟨rfl,rows,rfl,hn,?_⟩
 ac_nf
 intro a
 refine HM hn row (ids (aD rows).length) e 0 [ids (aD rows).length] _ _ (Pt.ids _) w (by simp;ac_rfl) ⋯ fun s4 s5=>?_
 have e2:[ids (aD rows).length]++(pths (ids (aD rows).length) row).drop 1=pths (ids (aD rows).length) row:=by cases row<;>rfl
 rw[e2]
 ac_nf
 refine⟨rfl,rows,rfl,hn,fun ms hms=>?_⟩
 rw[hms.uniq (CC w d)]
 push_cast [Km]
 refine⟨⟨okL _,okL _⟩,?_⟩
 exact q
noncomputable abbrev tS(t:Ti):Ti:=(t.1,t.2.1,srt t.2.2)
noncomputable abbrev til(n:Nat)(row:List Int):List Ti:=(tls (ids n) row).map tS
theorem E3(n:Nat)(row:List Int):Al (til n row) (tls (ids n) row):=⟨by simp,fun i t u ht hu=>by
 rw[List.getElem?_map,hu] at ht
 cases ht
 exact⟨rfl,rfl,rfl⟩⟩
theorem JO{ks e:List Int}{Q:R->Prop}(hn:ks.length<=12):∀(r path:List Int) (acc:List Ti),Pt ks.length path->Walk ks path r e->acc.length+r.length<=1000->Q (.nw (.lst (oR (acc++(tls path r).map tS)))) ->
  dC [.un,.un] (gT [0,1]) fM (bQ nL (aA (a9 1) (aA (a9 0) aG))) (qE (bJ r) (Im (pths path r))) (oR acc) Q:=by
 intro r
 induction r with
 |nil=>
  intro path acc P w hl h
  push_cast [qE,List.zipWith_nil_left,map_nil]
  simpa [tls] using h
 |cons q r ih=>
  intro path acc P w hl h
  cases w with
  |cons hp hlt w'=>
   rename_i p
   have hlp:=P.len
   simp only[length_cons] at hl
   rw[pths,show qE (bJ ((p:Int)::r)) (Im (path::pths (aR path (p:Int).toNat) r))=.tup [.int p,.lst (bJ path)]::qE (bJ r) (Im (pths (aR path (p:Int).toNat) r)) from rfl,toNat_natCast]
   push_cast [length_map]
   refine⟨path,p,rfl,⋯,⋯,?_⟩
   push_cast [LB]
   refine⟨⋯,?_⟩
   rw[show oR acc++[Dv.tup [Dv.int (path.getD p 0),Dv.int (path.getD (p+1) 0),Dv.tup (bJ (srt (path.take p)))]]=oR (acc++[(path.getD p 0,path.getD (p+1) 0,srt (path.take p))]) by simp]
   refine ih (aR path p) _ (P.swap hp) w' (by simp;ac_rfl) ?_
   rw[tls,toNat_natCast,map_cons] at h
   rw[append_assoc]
   exact h
theorem E8{f:List Ti}{Q:R->Prop}(hk:N4 f)(hl:f.length<=60)(q:∀s:List Ti,s.Perm f->O2 s->Q (.nw (.lst (oR s)))):cP [.lst (oR f)] Q:=by
 rw[show oR f=(f.map fun t=>([t.1,t.2.1],[Dv.tup (bJ t.2.2)])).map tI by rw[map_map];rfl]
 refine Cu (k:=1) (by simp;ac_rfl) (fun t ht=>?_) ?_ fun ts' hp hs=>?_
 ·obtain⟨u,_,rfl⟩:=mem_map.mp ht
  rfl
 ·rw[pairwise_map]
  exact hk.imp fun {t u} z q=>z (by simpa using q)
 ·obtain⟨fl,hf,rfl⟩:=uD hp rfl
  rw[pairwise_map] at hs
  rw[map_map]
  exact q fl hf hs
noncomputable def qN(C:Addr):Fn:=fun ds Q=>∃(rows:List Rw) (row e:List Int),ds=[cG C rows,.lst (bJ row)]/\(aD rows).length<=12/\row.length<=200/\Walk (aD rows) (ids (aD rows).length) row e/\fG (aD rows) e/\Q (.nw (.lst (oR (til (aD rows).length row))))
theorem FR{C:Addr}:∀ds Q,qN C ds Q->ds.length=2:=by rintro ds Q ⟨_,_,_,rfl,_⟩;rfl
theorem HV{C:Addr}:MonoF (qN C):=⟨fun ds Q Q' w z=>by obtain⟨a,b,c,d,e,f,g,i,h⟩:=z;exact⟨a,b,c,d,e,f,g,i,w _ h⟩⟩
theorem qI{C:Addr}:∀ds Q,qN C ds Q->hX (nO C) nL ↥Q (aJ ["sides", "row"] ds):=by
 rintro ds Q ⟨rows,row,e,rfl,hn,rl,w,d,q⟩
 ac_nf
 refine⟨rows,row,e,rfl,hn,rl,w,d,?_⟩
 ac_nf
 exact JO hn row (ids (aD rows).length) [] (Pt.ids _) w (by simp;ac_rfl) q
noncomputable def iP(C:Addr):Fn:=fun ds Q=>∃(rows:List Rw) (row e:List Int),ds=[cG C rows,.lst (bJ row)]/\(aD rows).length<=12/\row.length<=60/\Walk (aD rows) (ids (aD rows).length) row e/\fG (aD rows) e /\ ∀s,s.Perm (til (aD rows).length row)->O2 s->Q (.nw (.lst (oR s)))
theorem FY{C:Addr}:∀ds Q,iP C ds Q->ds.length=2:=by rintro ds Q ⟨_,_,_,rfl,_⟩;rfl
theorem w4{C:Addr}:MonoF (iP C):=⟨fun ds Q Q' w z=>by obtain⟨a,b,c,d,e,f,g,i,h⟩:=z;exact⟨a,b,c,d,e,f,g,i,fun s x y=>w _ (h s x y)⟩⟩
theorem K0{C:Addr}:∀ds Q,iP C ds Q->AK (qN C) ↥Q (aJ ["sides", "row"] ds):=by
 rintro ds Q ⟨rows,row,e,rfl,hn,rl,w,d,q⟩
 ac_nf
 refine⟨rows,row,e,rfl,hn,⋯,w,d,?_⟩
 ac_nf
 exact E8 ((E3 _ _).keys w) (by rw[(E3 _ _).1,Fl.v3];ac_rfl) q
end Lw
namespace Lw
open L2 Z
open Sf (Rw crs t7 Pre Good aD aW place many)
open Fl (kd ids Walk fG tls pc aR Pt srt c5 Ed bO lE rE)
noncomputable def v9:Fn:=fun ds Q=>∃n:Int,ds=[.int n]/\Q (.v (.bl true))
theorem Hj:∀ds Q,v9 ds Q->ds.length=1:=by rintro ds Q ⟨_,rfl,_⟩;rfl
theorem KP:MonoF v9:=⟨fun ds Q Q' w z=>by obtain⟨a,b,h⟩:=z;exact⟨a,b,w _ h⟩⟩
theorem yG:∀ds Q,v9 ds Q->kG ↥Q (aJ ["_law_found"] ds):=by
 rintro ds Q ⟨n,rfl,h⟩
 ac_nf
 exact⟨rfl,G3 (fun _=>⟨rfl,h⟩) fun z=>absurd rfl z⟩
noncomputable abbrev fS(l:List Ed):List Dv:=l.map oT
noncomputable def dI:Fn:=fun ds Q=>∃l:List Int,ds=[.lst (bJ l)]/\l.length<=12/\Q (.nw (.lst (fS (bO [] l))))
theorem Hh:∀ds Q,dI ds Q->ds.length=1:=by rintro ds Q ⟨_,rfl,_⟩;rfl
theorem FG:MonoF dI:=⟨fun ds Q Q' w z=>by obtain⟨a,b,c,h⟩:=z;exact⟨a,b,c,w _ h⟩⟩
theorem Lf{l:List Int}{Q:R->Prop}(hl:l.length<=12):∀(r done:List Int) (acc:List Ed),l=done++r->acc.length+r.length<=100->Q (.nw (.lst (fS (acc++bO done r)))) ->
  dC [.un,.v (.lst (bJ l))] (gN 0) fM (fT (aA (aQ cO (a9 1) (a9 0)) (aA (dM dX (aA (dM cP (aA (GI (a9 1) fU (kX (a9 0))) aG)) aG)) aG))) (bP (done.length:Int) r.length) (fS acc) Q:=by
 intro r
 induction r with
 |nil=>
  intro done acc e _ h
  rw[length_nil,eX]
  ac_nf
  simpa [bO] using h
 |cons b r ih=>
  intro done acc e ha h
  simp only[length_cons] at ha
  have le:=congrArg List.length e
  simp only[length_append,length_cons] at le
  have gb:l.getD done.length 0=b:=by rw[e];simp[List.getD]
  have gt:l.take done.length=done:=by rw[e];simp
  rw[length_cons,dE]
  push_cast [dB (show done.length<l.length by ac_rfl),gb,wX (show (0:Int)<=(done.length:Int) by ac_rfl),toNat_natCast,<- map_take,gt,length_map]
  refine pA ⋯ fun ms hm hs=>?_
  push_cast [length_map]
  refine⟨⋯,?_⟩
  have:=ih (done++[b]) (acc++[(b,ms)]) (by rw[e];simp) (by simp;ac_rfl) (by rw[Fl.bO,<- c5 hm hs] at h;simpa using h)
  simp only[length_append,length_cons,length_nil,Int.natCast_add,Int.cast_ofNat_Int,zero_add,fS,map_append,map_cons,map_nil] at this
  exact this
theorem Cs:∀ds Q,dI ds Q->oW ↥Q (aJ ["_law_path"] ds):=by
 rintro ds Q ⟨l,rfl,hl,h⟩
 push_cast [length_map]
 refine⟨⟨⋯,⋯⟩,?_⟩
 rw[show ((l.length:Int)).toNat=l.length by ac_rfl]
 exact Lf hl l [] [] rfl (by simp;ac_rfl) h
theorem wD{L:List Ed}{x:Ed}(h:x ∉ L):hasTk L x=false:=by
 unfold hasTk
 rw[List.any_eq_false]
 intro y hy z
 exact h (of_decide_eq_true z ▸ hy)
theorem wF(L:List Ed)(x:Ed):hasTk L x=decide (x∈L):=by
 by_cases h:x∈L
 ·rw[decide_eq_true h]
  exact List.any_eq_true.mpr ⟨x,h,by simp⟩
 ·rw[wD h,decide_eq_false h]
theorem EQ{L:List Ed}{x:Ed}(h:x ∉ L):uC L x=L++[x]:=by
 have:=wD h
 unfold hasTk at this
 unfold uC
 rw[this]
 rfl
theorem C7{L xs:List Ed}{x:Ed}(nd:(L++x::xs).Nodup):x ∉ L:=fun h=>(nodup_append.mp nd).2.2 x h x (by simp) rfl
theorem MV{a:Addr}{E:En}{x0 x2 x3 x4 x5 x6 x7:Sl}:∀(xs L:List Ed) (s:Sl),(L++xs).Nodup->L.length+xs.length<=1000->(∀s,E.nx [x0,.own a (.dns (L++xs)),x2,x3,x4,x5,x6,x7,s]) ->
  aV (gN 8) eQ [] (fS xs) E [x0,.own a (.dns L),x2,x3,x4,x5,x6,x7,s]:=by
 intro xs
 induction xs with
 |nil=>
  intro L s _ _ h
  rw[show fS []=[] from rfl,bH]
  exact⟨fun p hp=>by simp at hp,by simpa using h s⟩
 |cons x xs ih=>
  intro L s nd hl h
  simp only[length_cons] at hl
  rw[show fS (x::xs)=oT x::fS xs from rfl,b8]
  refine⟨fun p hp=>by simp at hp,?_⟩
  have nx:=fun s=>ih (L++[x]) s (by simpa using nd) (by simp;ac_rfl) (by simpa using h)
  generalize aV (gN 8) eQ [] (fS xs) E=G at nx ⊢
  push_cast [eQ]
  refine vN ?_
  rw[wD (C7 nd)]
  ac_nf
  refine⟨x,rfl,⋯,?_⟩
  rw[EQ (C7 nd)]
  exact nx _
theorem MU{a:Addr}{E:En}{x0 x1 x3 x4 x5 x6 x7:Sl}:∀(xs L:List Ed) (s:Sl),(L++xs).Nodup->L.length+xs.length<=1000->(∀s,E.nx [x0,x1,.own a (.dns (L++xs)),x3,x4,x5,x6,x7,s]) ->
  aV (gN 8) eO [] (fS xs) E [x0,x1,.own a (.dns L),x3,x4,x5,x6,x7,s]:=by
 intro xs
 induction xs with
 |nil=>
  intro L s _ _ h
  rw[show fS []=[] from rfl,bH]
  exact⟨fun p hp=>by simp at hp,by simpa using h s⟩
 |cons x xs ih=>
  intro L s nd hl h
  simp only[length_cons] at hl
  rw[show fS (x::xs)=oT x::fS xs from rfl,b8]
  refine⟨fun p hp=>by simp at hp,?_⟩
  have nx:=fun s=>ih (L++[x]) s (by simpa using nd) (by simp;ac_rfl) (by simpa using h)
  generalize aV (gN 8) eO [] (fS xs) E=G at nx ⊢
  push_cast [eO]
  refine vN ?_
  rw[wD (C7 nd)]
  ac_nf
  refine⟨x,rfl,⋯,?_⟩
  rw[EQ (C7 nd)]
  exact nx _
theorem jA{l:List Int}{b:Int}{Q:R->Prop}(hl:l.length<=20)(h:Q (.nw (.lst (bJ (srt (l++[b])))))):cP [.lst (bJ l++[Dv.int b])] Q:=by
 rw[show bJ l++[Dv.int b]=bJ (l++[b]) by simp]
 refine pA (by simp;ac_rfl) fun ms hm hs=>?_
 rw[c5 hm hs]
 exact h
theorem MN{t:Ti}{x0 x1 x2 x3 x4 x5 x6 x7 x8:Sl}{Q:List Sl->Prop}(h:Q [x0,x1,x2,.v (.int t.1),.v (.int t.2.1),.v (.tup (bJ t.2.2)),x6,x7,x8]):gT [3,4,5] (JR t) [x0,x1,x2,x3,x4,x5,x6,x7,x8] Q:=by
 ac_nf
 exact h
theorem MS{t:Ti}{tl:cD}{E:En}{x0 x1 x2 x6 x7 x8:Sl}(ht:t.2.2.length<=20)(h:tl E [x0,x1,x2,.v (.int t.1),.v (.int t.2.1),.v (.tup (bJ t.2.2)),.v (.tup (bJ (srt (t.2.2++[t.1])))),.v (.tup (bJ (srt (t.2.2++[t.2.1])))),x8]):
  aS (bV 6 (dM dX (aA (dM cP (aA (aQ cM (dM jE (aA (a9 5) aG)) (gA (aA (a9 3) aG))) aG)) aG))) (aS (bV 7 (dM dX (aA (dM cP (aA (aQ cM (dM jE (aA (a9 5) aG)) (gA (aA (a9 4) aG))) aG)) aG))) tl) E [x0,x1,x2,.v (.int t.1),.v (.int t.2.1),.v (.tup (bJ t.2.2)),x6,x7,x8]:=by
 ac_nf
 refine⟨by simp;ac_rfl,jA ht ?_⟩
 ac_nf
 refine⟨by simp;ac_rfl,jA ht ?_⟩
 ac_nf
 exact h
theorem MT{a b:Addr}{E:En}{x0:Sl}:∀(fl:List Ti) (L R:List Ed) (s3 s4 s5 s6 s7 s8:Sl),(L++fl.flatMap lE).Nodup->(R++fl.flatMap rE).Nodup->L.length+2*fl.length<=1000->R.length+2*fl.length<=1000->(∀t∈fl,t.2.2.length<=20) ->
  (∀s3 s4 s5 s6 s7 s8,E.nx [x0,.own a (.dns (L++fl.flatMap lE)),.own b (.dns (R++fl.flatMap rE)),s3,s4,s5,s6,s7,s8]) ->
  aV (gT [3,4,5]) j6 [] (oR fl) E [x0,.own a (.dns L),.own b (.dns R),s3,s4,s5,s6,s7,s8]:=by
 intro fl
 induction fl with
 |nil=>
  intro L R s3 s4 s5 s6 s7 s8 _ _ _ _ _ h
  rw[show oR []=[] from rfl,bH]
  exact⟨fun p hp=>by simp at hp,by simpa using h s3 s4 s5 s6 s7 s8⟩
 |cons t fl ih=>
  intro L R s3 s4 s5 s6 s7 s8 nl nr hl hr ht h
  simp only[length_cons] at hl hr
  rw[List.flatMap_cons,<- append_assoc] at nl nr
  rw[show oR (t::fl)=JR t::oR fl from rfl,b8]
  refine⟨fun p hp=>by simp at hp,?_⟩
  have nx:=fun s3 s4 s5 s6 s7 s8=>ih (L++lE t) (R++rE t) s3 s4 s5 s6 s7 s8 nl nr (by simp[Fl.lE];ac_rfl) (by simp[Fl.rE];ac_rfl) (fun u hu=>ht u (mem_cons_of_mem _ hu)) (by simpa using h)
  generalize aV (gT [3,4,5]) j6 [] (oR fl) E=G at nx ⊢
  have tl:=ht t (mem_cons_self ..)
  refine MN (MS tl ?_)
  show _/\_/\_/\_/\_/\_/\aV (gN 8) eQ [] (fS (lE t)) _ _
  refine⟨rfl,by simp,rfl,by simp,rfl,by simp,?_⟩
  refine MV (lE t) L _ (nodup_append.mp nl).1 (by simp[Fl.lE];ac_rfl) fun s=>?_
  show _/\_/\_/\_/\_/\_/\aV (gN 8) eO [] (fS (rE t)) _ _
  refine⟨rfl,by simp,rfl,by simp,rfl,by simp,?_⟩
  refine MU (rE t) R _ (nodup_append.mp nr).1 (by simp[Fl.rE];ac_rfl) fun s=>?_
  exact nx _ _ _ _ _ _
noncomputable def dP:Fn:=fun ds Q=>∃fl:List Ti,ds=[.lst (oR fl)]/\fl.length<=60/\(∀t∈fl,t.2.2.length<=20)/\(fl.flatMap lE).Nodup/\(fl.flatMap rE).Nodup/\Q (.v (.tup [.dns (fl.flatMap lE),.dns (fl.flatMap rE)]))
theorem DO:∀ds Q,dP ds Q->ds.length=1:=by rintro ds Q ⟨_,rfl,_⟩;rfl
theorem FM:MonoF dP:=⟨fun ds Q Q' w z=>by obtain⟨a,b,c,d,e,f,h⟩:=z;exact⟨a,b,c,d,e,f,w _ h⟩⟩
theorem yK:∀ds Q,dP ds Q->kK ↥Q (aJ ["_law_tiles", "_law_left", "_law_right", "_law_a", "_law_b", "_law_below", "_law_with_a", "_law_with_b", "_law_edge"] ds):=by
 rintro ds Q ⟨fl,rfl,hl,ht,nl,nr,h⟩
 ac_nf
 intro a b
 refine MT fl [] [] _ _ _ _ _ _ (by simpa using nl) (by simpa using nr) (by simp;ac_rfl) (by simp;ac_rfl) ht fun s3 s4 s5 s6 s7 s8=>?_
 ac_nf
 simpa using h
end Lw
namespace Lw
open L2 Z
open Sf (Rw crs t7 Pre Good aD aW place many)
open Fl (kd ids Walk fG tls pc aR Pt srt c5 Ed bO lE rE Hands)
theorem GE(t u:Ed):eqD (oT t) (oT u)=true ↔ t=u:=by
 have h1:=CK t.1 u.1
 have h3:=sQ Dv.int CK t.2 u.2
 unfold eqD at h1 h3 ⊢
 show PyData.eqv (.tuple [gG (.int t.1),gG (.tup (bJ t.2))]) (.tuple [gG (.int u.1),gG (.tup (bJ u.2))])=true ↔ _
 rw[PyData.eqv,PyData.eqvAll,PyData.eqvAll,PyData.eqvAll,Bool.and_eq_true,Bool.and_eq_true,h1,h3]
 exact⟨fun h=>Prod.ext h.1 h.2.1,fun h=>by rw[h];exact⟨rfl,rfl,rfl⟩⟩
theorem J0(n:Nat)(t:Ed):dA (n+2) (oT t)=true:=by
 show (dA (n+1) (.int t.1)&&(okDs n (bJ t.2)&&true))=true
 rw[uG]
 rfl
theorem JB{z:List Ed}(x:Ed)(Q:R->Prop)(h:Q (.v (.bl (decide (x∈z))))):L6 (oT x) (.lst (fS z)) Q:=by
 show (_/\_)/\Q (R.v (Dv.bl (MA (oT x) (fS z))))
 refine⟨⟨J0 6 x,vQ 8 _ fun d hd=>?_⟩,?_⟩
 ·obtain⟨t,_,rfl⟩:=mem_map.mp hd
  exact J0 6 t
 ·rw[show MA (oT x) (fS z)=decide (x∈z) from ?_]
  ·exact h
  ·rw[Bool.eq_iff_iff,decide_eq_true_eq]
   unfold MA
   rw[List.any_map,List.any_eq_true]
   exact⟨fun zq1=>by obtain⟨y,hy,e⟩:=zq1;exact(GE y x).mp e ▸ hy,fun hx=>⟨x,hx,(GE x x).mpr rfl⟩⟩
theorem xV{ks:List Int}{ρ:List Sl}{Q:R->Prop}(hn:ks.length<=12)(hi:ρ[1]?=some (.v (.lst (bJ ks))))(h:∀e,LastOk ks e->Q (.nw (.lst (bJ e)))):
  oE 1 (aA (dM e5 (aA (a9 1) aG)) aG) (fT (aA (aQ fF (eC (.int 0)) (aQ cO (a9 1) (a9 0))) (aA (a9 0) aG))) ρ Q:=by
 push_cast [oE,hi,length_map]
 refine⟨fun b=>[0-ks.getD b 0,(b:Int)],.lst (bJ ks),⋯,rfl,fun b hb=>?_,⟨fun b=>rfl,fun a b _ _ ne z=>ne (by simp at z;ac_rfl)⟩,fun ms p w=>?_⟩
 ·push_cast [dB (show b<ks.length by ac_rfl)]
 ·rw[show ((ks.length:Int)).toNat=ks.length by ac_rfl] at p
  have z:=h (ms.map fun m:Nat=>(m:Int)) ⟨ms,rfl,p,w.imp fun {a b} z=>?_⟩
  ·rw[show bJ (ms.map fun m:Nat=>(m:Int))=ms.map fun m:Nat=>Dv.int (m:Int) by simp] at z
   exact z
  ·unfold dD at z
   by_cases e:0-ks.getD a 0=0-ks.getD b 0
   ·rw[if_pos e] at z
    unfold dD at z
    by_cases e2:(a:Int)=(b:Int)
    ·rw[if_pos e2] at z
     cases z
    ·rw[if_neg e2] at z
     have:=of_decide_eq_true z
     ac_rfl
   ·rw[if_neg e] at z
    have:=of_decide_eq_true z
    ac_rfl
section
variable {E:En} {x0 x1 x2 x3 x4 x5 x6:Sl}
theorem ND{d:Dv}{x7:Sl}{Q:List Sl->Prop}(h:Q [x0,x1,x2,x3,x4,x5,x6,.v d]):gN 7 d [x0,x1,x2,x3,x4,x5,x6,x7] Q:=by
 ac_nf
 exact h
theorem ML{R z:List Ed}:∀(xs:List Ed) (s:Sl),(∀x∈xs,x∈R ↔ x ∉ z)->(∀s,E.nx [x0,x1,x2,x3,.v (.dns R),x5,.v (.lst (fS z)),s]) ->
  aV (gN 7) (gU dP dI) [] (fS xs) E [x0,x1,x2,x3,.v (.dns R),x5,.v (.lst (fS z)),s]:=by
 intro xs
 induction xs with
 |nil=>
  intro s _ h
  rw[show fS []=[] from rfl,bH]
  exact⟨fun p hp=>by simp at hp,h s⟩
 |cons x xs ih=>
  intro s hx h
  rw[show fS (x::xs)=oT x::fS xs from rfl,b8]
  refine⟨fun p hp=>by simp at hp,ND ?_⟩
  have nx:=fun s=>ih s (fun y hy=>hx y (mem_cons_of_mem _ hy)) h
  generalize aV (gN 7) (gU dP dI) [] (fS xs) E=G at nx ⊢
  have hc:=hx x (mem_cons_self ..)
  push_cast [gU]
  refine vN (JB x _ ?_)
  push_cast [wF]
  refine⟨⟨rfl,rfl⟩,?_⟩
  rw[if_neg ?_]
  ·exact nx _
  ·by_cases c:x∈R
   ·simp[c,hc.mp c]
   ·have:x∈z:=Classical.byContradiction fun q=>c (hc.mpr q)
    simp[c,this]
theorem MK{R z:List Ed}:∀(xs:List Ed) (s:Sl),(∀x∈xs,x∈R ↔ x ∉ z)->(∀s,E.nx [x0,x1,x2,.v (.dns R),x4,.v (.lst (fS z)),x6,s]) ->
  aV (gN 7) (gS dP dI) [] (fS xs) E [x0,x1,x2,.v (.dns R),x4,.v (.lst (fS z)),x6,s]:=by
 intro xs
 induction xs with
 |nil=>
  intro s _ h
  rw[show fS []=[] from rfl,bH]
  exact⟨fun p hp=>by simp at hp,h s⟩
 |cons x xs ih=>
  intro s hx h
  rw[show fS (x::xs)=oT x::fS xs from rfl,b8]
  refine⟨fun p hp=>by simp at hp,ND ?_⟩
  have nx:=fun s=>ih s (fun y hy=>hx y (mem_cons_of_mem _ hy)) h
  generalize aV (gN 7) (gS dP dI) [] (fS xs) E=G at nx ⊢
  have hc:=hx x (mem_cons_self ..)
  push_cast [gS]
  refine vN (JB x _ ?_)
  push_cast [wF]
  refine⟨⟨rfl,rfl⟩,?_⟩
  rw[if_neg ?_]
  ·exact nx _
  ·by_cases c:x∈R
   ·simp[c,hc.mp c]
   ·have:x∈z:=Classical.byContradiction fun q=>c (hc.mpr q)
    simp[c,this]
theorem MJ{R:List Ed}:∀(xs:List Ed) (s:Sl),(∀x∈xs,x∈R)->(∀s,E.nx [x0,x1,x2,x3,.v (.dns R),x5,x6,s]) ->
  aV (gN 7) (gR dP dI) [] (fS xs) E [x0,x1,x2,x3,.v (.dns R),x5,x6,s]:=by
 intro xs
 induction xs with
 |nil=>
  intro s _ h
  rw[show fS []=[] from rfl,bH]
  exact⟨fun p hp=>by simp at hp,h s⟩
 |cons x xs ih=>
  intro s hx h
  rw[show fS (x::xs)=oT x::fS xs from rfl,b8]
  refine⟨fun p hp=>by simp at hp,ND ?_⟩
  have nx:=fun s=>ih s (fun y hy=>hx y (mem_cons_of_mem _ hy)) h
  generalize aV (gN 7) (gR dP dI) [] (fS xs) E=G at nx ⊢
  push_cast [gR]
  refine uE ?_
  push_cast [wF]
  rw[decide_eq_true (hx x (mem_cons_self ..)),if_neg ∅]
  exact nx _
theorem MI{R:List Ed}:∀(xs:List Ed) (s:Sl),(∀x∈xs,x∈R)->(∀s,E.nx [x0,x1,x2,.v (.dns R),x4,x5,x6,s]) ->
  aV (gN 7) (gQ dP dI) [] (fS xs) E [x0,x1,x2,.v (.dns R),x4,x5,x6,s]:=by
 intro xs
 induction xs with
 |nil=>
  intro s _ h
  rw[show fS []=[] from rfl,bH]
  exact⟨fun p hp=>by simp at hp,h s⟩
 |cons x xs ih=>
  intro s hx h
  rw[show fS (x::xs)=oT x::fS xs from rfl,b8]
  refine⟨fun p hp=>by simp at hp,ND ?_⟩
  have nx:=fun s=>ih s (fun y hy=>hx y (mem_cons_of_mem _ hy)) h
  generalize aV (gN 7) (gQ dP dI) [] (fS xs) E=G at nx ⊢
  push_cast [gQ]
  refine uE ?_
  push_cast [wF]
  rw[decide_eq_true (hx x (mem_cons_self ..)),if_neg ∅]
  exact nx _
end
noncomputable def h7:Fn:=fun ds Q=>∃(fl:List Ti) (ks e:List Int),ds=[.lst (oR fl),.lst (bJ ks)]/\fl.length<=60/\(∀t∈fl,t.2.2.length<=20)/\ks.length<=12/\LastOk ks e/\Hands fl (bO [] (ids ks.length)) (bO [] e)/\Q (.v (.bl true))
theorem DL:∀ds Q,h7 ds Q->ds.length=2:=by rintro ds Q ⟨_,_,_,rfl,_⟩;rfl
theorem FJ:MonoF h7:=⟨fun ds Q Q' w z=>by obtain⟨a,b,c,d,e,f,g,i,j,h⟩:=z;exact⟨a,b,c,d,e,f,g,i,j,w _ h⟩⟩
theorem yJ:∀ds Q,h7 ds Q->kJ dP dI ↥Q (aJ ["_law_tiles", "_law_bands_here", "_law_both", "_law_left", "_law_right", "_law_first", "_law_last", "_law_edge"] ds):=by
 rintro ds Q ⟨fl,ks,e,rfl,hl,ht,hn,lo,H,h⟩
 ac_nf
 refine⟨fl,rfl,hl,ht,H.nl,H.nr,?_⟩
 push_cast [length_map]
 refine⟨⋯,ids ks.length,?_,by simp;ac_rfl,?_⟩
 ·rw[show ((ks.length:Int)).toNat=ks.length by ac_rfl,nZ]
 ac_nf
 refine xV hn rfl fun e' lo'=>?_
 obtain rfl:=lo'.uniq lo
 ac_nf
 refine⟨e',rfl,by rw[lo.len];exact hn,?_⟩
 ac_nf
 refine ML _ _ H.le fun s=>?_
 ac_nf
 refine MK _ _ H.ri fun s=>?_
 ac_nf
 refine MJ _ _ H.fi fun s=>?_
 ac_nf
 refine MI _ _ H.la fun s=>?_
 ac_nf
 exact h
end Lw
namespace Lw
open L2 Z
open Sf (Rw crs t7 Pre Good aD aW place many)
open Fl (kd ids Walk fG tls pc aR Pt srt c5 Ed bO lE rE Hands)
noncomputable abbrev Jf(p:Int×Int):Dv:=.tup [.int p.1,.int p.2]
noncomputable def pnt(rows:List Rw)(l:List Int):Int×Int:=(sX rows l,sY rows l)
noncomputable def e7(C:Addr):Fn:=fun ds Q=>∃(rows:List Rw) (l:List Int),ds=[cG C rows,.tup (bJ l)]/\AB (aD rows).length l/\l.length<=100/\Q (.v (Jf (pnt rows l)))
theorem DH{C:Addr}:∀ds Q,e7 C ds Q->ds.length=2:=by rintro ds Q ⟨_,_,rfl,_⟩;rfl
theorem z5{C:Addr}:MonoF (e7 C):=⟨fun ds Q Q' w z=>by obtain⟨a,b,c,d,e,h⟩:=z;exact⟨a,b,c,d,e,w _ h⟩⟩
theorem yI{C:Addr}:∀ds Q,e7 C ds Q->kI (vB C) v9 ↥Q (aJ ["_law_sides", "_law_below", "_law_found"] ds):=by
 rintro ds Q ⟨rows,l,rfl,hb,hl,h⟩
 ac_nf
 refine⟨rows,l,rfl,hb,hl,?_⟩
 ac_nf
 refine⟨rfl,G3 (fun z=>by cases z) fun _=>G3 (fun z=>absurd z ∅) fun _=>⟨_,rfl,?_⟩⟩
 ac_nf
 refine⟨_,rfl,?_⟩
 ac_nf
 exact h
noncomputable abbrev vcs(rows:List Rw)(ks:List Int):List Dv:=ks.map fun k=>Dv.tup [.int (rows.getD k.toNat ⟨0,0,0⟩).x,.int (rows.getD k.toNat ⟨0,0,0⟩).y]
theorem vD{rows:List Rw}{l m:List Int}(p:l.Perm m):sX rows l=sX rows m/\sY rows l=sY rows m:=by
 induction p with
 |nil=>exact⟨rfl,rfl⟩
 |cons x _ ih=>rw[sX,sX,sY,sY,ih.1,ih.2];exact⟨rfl,rfl⟩
 |swap x y l=>simp only[sX,sY];ac_rfl
 |trans _ _ a b=>exact⟨a.1.trans b.1,a.2.trans b.2⟩
theorem rW(rows:List Rw)(l:List Int)(b:Int):pnt rows (srt (l++[b]))=((pnt rows l).1+(vec rows b).x,(pnt rows l).2+(vec rows b).y):=by
 have h:=vD (rows:=rows) ((Fl.dO (l++[b])).trans List.perm_append_comm)
 unfold pnt
 rw[h.1,h.2,Prod.mk.injEq]
 show (vec rows b).x+sX rows l=_/\(vec rows b).y+sY rows l=_
 ac_rfl
theorem vI(rows:List Rw)(l:List Int):pnt rows (srt l)=pnt rows l:=by
 have h:=vD (rows:=rows) (Fl.dO l)
 unfold pnt
 rw[h.1,h.2]
theorem AB.snoc{n:Nat}{l:List Int}{b:Int}(h:AB n l)(h0:0<=b)(h1:b<n):AB n (srt (l++[b])):=fun x hx=>by
 rcases mem_append.mp ((Fl.dO _).subset hx) with z | z
 ·exact h x z
 ·rw[mem_singleton.mp z]
  exact⟨h0,h1⟩
theorem nV(l:List Int)(b:Int):(srt (l++[b])).length=l.length+1:=by rw[Fl.v8];simp
noncomputable def f8(C:Addr):Fn:=fun ds Q=>∃(rows:List Rw) (x:Ed),ds=[cG C rows,oT x,.tup [.int (vec rows x.1).x,.int (vec rows x.1).y]]/\AB (aD rows).length x.2/\x.2.length<=20/\0<=x.1/\x.1<(aD rows).length/\Q (.v (.bl true))
theorem Aw{C:Addr}:∀ds Q,f8 C ds Q->ds.length=3:=by rintro ds Q ⟨_,_,rfl,_⟩;rfl
theorem D8{C:Addr}:MonoF (f8 C):=⟨fun ds Q Q' w z=>by obtain⟨a,b,c,d,e,f,g,h⟩:=z;exact⟨a,b,c,d,e,f,g,w _ h⟩⟩
theorem Kk(a b c d:Int)(h1:a=c)(h2:b=d):eqD (.tup [.int a,.int b]) (.tup [.int c,.int d])=true:=by
 subst h1 h2
 exact(sQ Dv.int CK [a,b] [a,b]).mpr rfl
theorem vK{C:Addr}:∀ds Q,f8 C ds Q->jM (e7 C) ↥Q (aJ ["_law_sides", "_law_edge", "_law_vector", "_law_start", "_law_high"] ds):=by
 rintro ds Q ⟨rows,x,rfl,hb,hl,h0,h1,h⟩
 ac_nf
 refine⟨rows,x.2,rfl,hb,⋯,?_⟩
 ac_nf
 refine⟨by simp;ac_rfl,jA hl ?_⟩
 ac_nf
 refine⟨rows,srt (x.2++[x.1]),rfl,hb.snoc h0 h1,by rw[nV];ac_rfl,?_⟩
 push_cast [rW]
 refine⟨⟨uG 7 [_,_],uG 7 [_,_]⟩,?_⟩
 rw[Kk _ _ _ _ ⋯ ⋯]
 exact h
end Lw
namespace Lw
open L2 Z
open Sf (Rw crs t7 Pre Good aD aW place many)
open Fl (kd ids Walk fG tls pc aR Pt srt c5 Ed bO lE rE Hands cyc cr)
noncomputable def vX(rows:List Rw)(b:Int):Int:=(vec rows b).x
noncomputable def vY(rows:List Rw)(b:Int):Int:=(vec rows b).y
noncomputable abbrev IJ(rows:List Rw)(t:Ti):Int:=cr (vX rows t.1,vY rows t.1) (vX rows t.2.1,vY rows t.2.1)
theorem BP{rows:List Rw}{b:Int}(h0:0<=b)(h1:b<(aD rows).length):jH (vcs rows (aD rows)) b=some (.tup [.int (vX rows b),.int (vY rows b)]):=by
 have h:b.toNat<(aD rows).length:=⋯
 have a:=L2.eU (xs:=vcs rows (aD rows)) (j:=b.toNat) (v:=.tup [.int (rows.getD ((aD rows)[b.toNat]).toNat ⟨0,0,0⟩).x,.int (rows.getD ((aD rows)[b.toNat]).toNat ⟨0,0,0⟩).y]) (by rw[List.getElem?_map,List.getElem?_eq_getElem h];rfl)
 rw[show ((b.toNat:Nat):Int)=b by ac_rfl] at a
 rw[a]
 unfold vX vY vec
 rw[show kd (aD rows) b=(aD rows)[b.toNat] by simp[kd,List.getD,h]]
noncomputable def iR:Fn:=fun ds Q=>∃(rows:List Rw) (fl:List Ti),ds=[.lst (oR fl),.lst (vcs rows (aD rows))]/\Good rows/\(∀t∈fl,(0<=t.1/\t.1<(aD rows).length)/\(0<=t.2.1/\t.2.1<(aD rows).length)/\0<IJ rows t)/\Q (.v (.int (fl.map (IJ rows)).sum))
theorem Fd:∀ds Q,iR ds Q->ds.length=2:=by rintro ds Q ⟨_,_,rfl,_⟩;rfl
theorem He:MonoF iR:=⟨fun ds Q Q' w z=>by obtain⟨a,b,c,d,e,h⟩:=z;exact⟨a,b,c,d,e,w _ h⟩⟩
theorem Mn{rows:List Rw}{E:En}{x0:Sl}(G:Good rows):∀(fl:List Ti) (acc:Int) (s3 s4 s5 s6:Sl),(∀t∈fl,(0<=t.1/\t.1<(aD rows).length)/\(0<=t.2.1/\t.2.1<(aD rows).length)/\0<IJ rows t) ->
  (∀s3 s4 s5 s6,E.nx [x0,.v (.lst (vcs rows (aD rows))),.v (.int (acc+(fl.map (IJ rows)).sum)),s3,s4,s5,s6]) ->
  aV (gT [3,4,5]) iD [] (oR fl) E [x0,.v (.lst (vcs rows (aD rows))),.v (.int acc),s3,s4,s5,s6]:=by
 intro fl
 induction fl with
 |nil=>
  intro acc s3 s4 s5 s6 _ h
  rw[show oR []=[] from rfl,bH]
  exact⟨fun p hp=>by simp at hp,by simpa using h s3 s4 s5 s6⟩
 |cons t fl ih=>
  intro acc s3 s4 s5 s6 ht h
  rw[show oR (t::fl)=JR t::oR fl from rfl,b8]
  refine⟨fun p hp=>by simp at hp,?_⟩
  obtain⟨⟨a0,a1⟩,⟨b0,b1⟩,cp⟩:=ht t (mem_cons_self ..)
  have nx:=fun s3 s4 s5 s6=>ih (acc+IJ rows t) s3 s4 s5 s6 (fun u hu=>ht u (mem_cons_of_mem _ hu)) (by intro s3 s4 s5 s6;have:=h s3 s4 s5 s6;rw[map_cons,sum_cons,<- Int.add_assoc] at this;exact this)
  generalize aV (gT [3,4,5]) iD [] (oR fl) E=N at nx ⊢
  have va:=AC G a0 a1
  have vb:=AC G b0 b1
  have xa:(vX rows t.1).natAbs<=1000000000000:=va.1
  have ya:(vY rows t.1).natAbs<=1000000000000:=va.2
  have xb:(vX rows t.2.1).natAbs<=1000000000000:=vb.1
  have yb:(vY rows t.2.1).natAbs<=1000000000000:=vb.2
  push_cast [iD,BP a0 a1,BP b0 b1]
  refine⟨k8 (iY ⋯) (iY ⋯),k8 (iY ⋯) (iY ⋯),?_⟩
  rw[if_neg (by simp only[IJ,cr] at cp;ac_rfl)]
  exact nx _ _ _ _
theorem Ah:∀ds Q,iR ds Q->mF ↥Q (aJ ["_law_tiles", "_law_vectors", "_law_area_here", "_law_a", "_law_b", "_law_below", "_law_one"] ds):=by
 rintro ds Q ⟨rows,fl,rfl,G,ht,h⟩
 ac_nf
 refine Mn G fl 0 _ _ _ _ ht fun s3 s4 s5 s6=>?_
 ac_nf
 rw[Int.zero_add]
 exact h
theorem vJ(rows:List Rw):∀(l:List Int) (b:Int),pnt rows (l++[b])=((pnt rows l).1+vX rows b,(pnt rows l).2+vY rows b):=fun l b=>by
 rw[<- vI,rW]
 rfl
theorem EI(rows:List Rw):∀(l h:List Int),(bO h l).map (fun x=>pnt rows x.2)=Fl.ps (vX rows) (vY rows) (pnt rows h) l
 | [],_=>rfl
 |b::l,h=>by rw[Fl.bO,map_cons,EI rows l,vJ,vI,Fl.ps]
theorem EH(rows:List Rw):∀(l h:List Int),(bO h l).map (fun x=>pnt rows (srt (x.2++[x.1])))=Fl.qs (vX rows) (vY rows) (pnt rows h) l
 | [],_=>rfl
 |b::l,h=>by
  rw[Fl.bO,map_cons,EH rows l,vJ,Fl.qs]
  congr 1
  show pnt rows (srt (srt h++[b]))=_
  rw[rW,vI]
  rfl
theorem rQ{n:Nat}{l:List Int}(P:Pt n l){x:Ed}(h:x∈bO [] l):AB n x.2/\x.2.length<=n/\0<=x.1/\x.1<n:=by
 obtain⟨u,v,e,s⟩:=Fl.nX h
 rw[nil_append] at s
 have bd:AB n l:=fun y hy=>by
  obtain⟨i,hi,ei⟩:=mem_iff_getElem.mp hy
  have:=P.bd i (by rw[<- P.len];exact hi)
  rw[show l.getD i 0=l[i] by simp[List.getD,hi],ei] at this
  exact this
 have b1:=bd x.1 (by rw[e];simp)
 refine⟨fun y hy=>bd y ?_,?_,b1⟩
 ·rw[s] at hy
  rw[e]
  exact mem_append_left _ ((Fl.dO u).subset hy)
 ·rw[s,Fl.v8,<- P.len,e]
  simp
section
variable {C:Addr} {rows:List Rw} {E:En} {a:Addr} {x1 x4 x5 x6 x7:Sl}
theorem MP{d:Dv}{x0 x2 x3:Sl}{Q:List Sl->Prop}(h:Q [x0,x1,x2,.v d,x4,x5,x6,x7]):gN 3 d [x0,x1,x2,x3,x4,x5,x6,x7] Q:=by
 ac_nf
 exact h
noncomputable abbrev vH(l:List (Int×Int)):List Dv:=l.map Jf
theorem Le(hn:(aD rows).length<=12):∀(xs:List Ed) (acc:List (Int×Int)) (s:Sl),(∀x∈xs,AB (aD rows).length x.2/\x.2.length<=(aD rows).length)->acc.length+xs.length<=100 ->
  (∀s,E.nx [.v (cG C rows),x1,.own a (.lst (vH (acc++xs.map fun x=>pnt rows x.2))),s,x4,x5,x6,x7]) ->
  aV (gN 3) (gP dI (e7 C)) [] (fS xs) E [.v (cG C rows),x1,.own a (.lst (vH acc)),s,x4,x5,x6,x7]:=by
 intro xs
 induction xs with
 |nil=>
  intro acc s _ _ h
  rw[show fS []=[] from rfl,bH]
  exact⟨fun p hp=>by simp at hp,by simpa using h s⟩
 |cons x xs ih=>
  intro acc s hx hl h
  simp only[length_cons] at hl
  rw[show fS (x::xs)=oT x::fS xs from rfl,b8]
  refine⟨fun p hp=>by simp at hp,MP ?_⟩
  have nx:=fun s=>ih (acc++[pnt rows x.2]) s (fun y hy=>hx y (mem_cons_of_mem _ hy)) (by simp;ac_rfl) (by simpa using h)
  generalize aV (gN 3) (gP dI (e7 C)) [] (fS xs) E=G at nx ⊢
  obtain⟨i1,i2⟩:=hx x (mem_cons_self ..)
  push_cast [gP,length_map]
  refine⟨rows,x.2,rfl,i1,⋯,?_⟩
  push_cast [length_map]
  refine⟨⋯,?_⟩
  have:=nx (.v (oT x))
  simpa using this
theorem Ld(hn:(aD rows).length<=12):∀(xs:List Ed) (acc:List (Int×Int)) (s:Sl),(∀x∈xs,AB (aD rows).length x.2/\x.2.length<=(aD rows).length/\0<=x.1/\x.1<(aD rows).length)->acc.length+xs.length<=100 ->
  (∀s,E.nx [.v (cG C rows),x1,.own a (.lst (vH (acc++xs.map fun x=>pnt rows (srt (x.2++[x.1]))))),s,x4,x5,x6,x7]) ->
  aV (gN 3) (gO dI (e7 C)) [] (fS xs) E [.v (cG C rows),x1,.own a (.lst (vH acc)),s,x4,x5,x6,x7]:=by
 intro xs
 induction xs with
 |nil=>
  intro acc s _ _ h
  rw[show fS []=[] from rfl,bH]
  exact⟨fun p hp=>by simp at hp,by simpa using h s⟩
 |cons x xs ih=>
  intro acc s hx hl h
  simp only[length_cons] at hl
  rw[show fS (x::xs)=oT x::fS xs from rfl,b8]
  refine⟨fun p hp=>by simp at hp,MP ?_⟩
  have nx:=fun s=>ih (acc++[pnt rows (srt (x.2++[x.1]))]) s (fun y hy=>hx y (mem_cons_of_mem _ hy)) (by simp;ac_rfl) (by simpa using h)
  generalize aV (gN 3) (gO dI (e7 C)) [] (fS xs) E=G at nx ⊢
  obtain⟨i1,i2,i3,i4⟩:=hx x (mem_cons_self ..)
  push_cast [gO,length_map]
  refine⟨⋯,jA ⋯ ?_⟩
  push_cast [length_map]
  refine⟨rows,srt (x.2++[x.1]),rfl,i1.snoc i3 i4,by rw[nV];ac_rfl,?_⟩
  push_cast [length_map]
  refine⟨⋯,?_⟩
  have:=nx (.v (oT x))
  simpa using this
end
theorem Mm{pts:List (Int×Int)}{i:Nat}{p:Int×Int}(h:pts[i]?=some p):jH (vH pts) (i:Int)=some (Jf p):=L2.eU (by rw[List.getElem?_map,h];rfl)
theorem Lc{C:Addr}{E:En}{a:Addr}{x0 x1 x3:Sl}{pts:List (Int×Int)}(hb:∀p∈pts,p.1.natAbs<=100000000000000/\p.2.natAbs<=100000000000000):∀(r done:List (Int×Int)) (prev:Int×Int) (acc:Int) (s5 s6 s7:Sl),pts=done++r->jH (vH pts) ((done.length:Int)-1)=some (Jf prev)->prev∈pts ->
  (∀s5 s6 s7,E.nx [x0,x1,.own a (.lst (vH pts)),x3,.v (.int (acc+cyc prev r)),s5,s6,s7]) ->
  aV (gN 5) (gM dI (e7 C)) [] (bP (done.length:Int) r.length) E [x0,x1,.own a (.lst (vH pts)),x3,.v (.int acc),s5,s6,s7]:=by
 intro r
 induction r with
 |nil=>
  intro done prev acc s5 s6 s7 _ _ _ h
  rw[length_nil,eX,bH]
  have:=h s5 s6 s7
  rw[Fl.cyc,Int.add_zero] at this
  exact⟨fun p hp=>by simp at hp,this⟩
 |cons p r ih=>
  intro done prev acc s5 s6 s7 e hp pm h
  rw[length_cons,dE,b8]
  refine⟨fun p hp=>by simp at hp,?_⟩
  have ep:pts[done.length]?=some p:=by rw[e];simp
  have mp:=mem_of_getElem? ep
  have a0:=Mm ep
  have nx:=fun s5 s6 s7=>ih (done++[p]) p (acc+cr prev p) s5 s6 s7 (by rw[e];simp) (by rw[length_append];simpa using a0) mp (by intro s5 s6 s7;have:=h s5 s6 s7;rw[Fl.cyc,<- Int.add_assoc] at this;exact this)
  simp only[length_append,length_cons,length_nil,Int.natCast_add,Int.cast_ofNat_Int,zero_add] at nx
  generalize aV (gN 5) (gM dI (e7 C)) [] (bP ((done.length:Int)+1) r.length) E=G at nx ⊢
  obtain⟨b1,b2⟩:=hb prev pm
  obtain⟨b3,b4⟩:=hb p mp
  push_cast [gM,hp,a0]
  refine⟨k8 (iY ⋯) (iY ⋯),k8 (iY ⋯) (iY ⋯),?_⟩
  exact nx _ _ _
end Lw
namespace Lw
open L2 Z
open Sf (Rw crs t7 Pre Good aD aW place many)
open Fl (kd ids Walk fG tls pc aR Pt srt c5 Ed bO lE rE Hands cyc cr)
noncomputable def qH(rows:List Rw)(e:List Int):List (Int×Int):=Fl.ps (vX rows) (vY rows) (0,0) (ids (aD rows).length)++(Fl.qs (vX rows) (vY rows) (0,0) e).reverse
theorem vE(rows:List Rw)(e:List Int):(bO [] (ids (aD rows).length)).map (fun x=>pnt rows x.2)++(bO [] e).reverse.map (fun x=>pnt rows (srt (x.2++[x.1])))=qH rows e:=by
 rw[EI,List.map_reverse,EH]
 rfl
theorem EZ{rows:List Rw}(G:Good rows){l:List Int}(h:AB (aD rows).length l)(hl:l.length<=20):(pnt rows l).1.natAbs<=100000000000000/\(pnt rows l).2.natAbs<=100000000000000:=by
 have:=IY G l h
 show (sX rows l).natAbs<=_/\(sY rows l).natAbs<=_
 ac_rfl
noncomputable def gY(C:Addr):Fn:=fun ds Q=>∃(rows:List Rw) (e:List Int),ds=[cG C rows,.lst (bJ (aD rows))]/\Good rows/\1<=(aD rows).length/\(aD rows).length<=12/\LastOk (aD rows) e/\Pt (aD rows).length e /\ ∀z,Q (.v (.int (cyc z (qH rows e))))
theorem DG{C:Addr}:∀ds Q,gY C ds Q->ds.length=2:=by rintro ds Q ⟨_,_,rfl,_⟩;rfl
theorem FE{C:Addr}:MonoF (gY C):=⟨fun ds Q Q' w z=>by obtain⟨a,b,c,d,e,f,g,i,h⟩:=z;exact⟨a,b,c,d,e,f,g,i,fun z=>w _ (h z)⟩⟩
theorem yH{C:Addr}:∀ds Q,gY C ds Q->kH dI (e7 C) ↥Q (aJ ["_law_sides", "_law_bands_here", "_law_points", "_law_edge", "_law_twice", "_law_k", "_law_one", "_law_other"] ds):=by
 rintro ds Q ⟨rows,e,rfl,G,h1,hn,lo,P,h⟩
 have P0:=Pt.ids (aD rows).length
 push_cast [length_map]
 intro a
 refine⟨⋯,ids (aD rows).length,?_,by simp;ac_rfl,?_⟩
 ·rw[show (((aD rows).length:Int)).toNat=(aD rows).length by ac_rfl,nZ]
 ac_nf
 refine Le hn (bO [] (ids (aD rows).length)) [] _ (fun x hx=>⟨(rQ P0 hx).1,(rQ P0 hx).2.1⟩) ?_ fun s=>?_
 ·have:=congrArg List.length (Fl.iG [] (ids (aD rows).length))
  simp only[length_map,length_range] at this
  simp only[length_nil]
  ac_rfl
 ac_nf
 refine xV hn rfl fun e' lo'=>?_
 obtain rfl:=lo'.uniq lo
 ac_nf
 refine⟨e',rfl,by rw[lo.len];exact hn,?_⟩
 ac_nf
 rw[<- List.map_reverse]
 have le:(bO [] e').length=(aD rows).length:=by
  have:=congrArg List.length (Fl.iG [] e')
  rw[length_map,lo.len] at this
  exact this
 have li:(bO [] (ids (aD rows).length)).length=(aD rows).length:=by
  have:=congrArg List.length (Fl.iG [] (ids (aD rows).length))
  simp only[length_map,length_range] at this
  exact this
 refine Ld hn (bO [] e').reverse _ _ (fun x hx=>rQ P (List.mem_reverse.mp hx)) (by simp[le,li];ac_rfl) fun s=>?_
 rw[vE rows e']
 have hb:∀p∈qH rows e',p.1.natAbs<=100000000000000/\p.2.natAbs<=100000000000000:=fun p hp=>by
  rw[<- vE] at hp
  rcases mem_append.mp hp with hp | hp
  ·obtain⟨x,hx,rfl⟩:=mem_map.mp hp
   have:=rQ P0 hx
   exact EZ G this.1 ⋯
  ·obtain⟨x,hx,rfl⟩:=mem_map.mp hp
   have:=rQ P (List.mem_reverse.mp hx)
   exact EZ G (this.1.snoc this.2.2.1 this.2.2.2) (by rw[nV];ac_rfl)
 have ln:(qH rows e').length=2*(aD rows).length:=by
  rw[<- vE]
  simp[le,li]
  ac_rfl
 obtain⟨m,v,ev⟩:∃m v,qH rows e'=m++[v]:=⟨(qH rows e').dropLast,(qH rows e').getLast (by intro z;rw[z] at ln;simp at ln;ac_rfl),(dropLast_concat_getLast _).symm⟩
 push_cast [length_map]
 refine⟨⟨⋯,⋯⟩,?_⟩
 rw[show (((qH rows e').length:Int)).toNat=(qH rows e').length by ac_rfl]
 refine Lc hb (qH rows e') [] v 0 _ _ _ rfl ?_ (by rw[ev];simp) fun s5 s6 s7=>?_
 ·rw[ev]
  show jH (vH (m++[v])) (-1)=_
  rw[vH,map_append]
  exact A5 _ _
 ·ac_nf
  rw[Int.zero_add]
  exact h v
end Lw
namespace Lw
open L2 Z
open Sf (Rw crs t7 Pre Good aD aW place many)
open Fl (kd ids Walk fG tls pc aR Pt srt c5 Ed bO lE rE Hands cyc cr)
noncomputable def CO(ks:List Int)(a:Nat):Nat->Nat->List (Int×Int)
 |0,_=>[]
 |i+1,b=>if ks.getD a 0<ks.getD b 0 then ((a:Int),(b:Int))::CO ks a i (b+1) else CO ks a i (b+1)
noncomputable def Gc(ks:List Int):Nat->Nat->List (Int×Int)
 |0,_=>[]
 |i+1,a=>CO ks a (ks.length-(a+1)) (a+1)++Gc ks i (a+1)
theorem oG(ks:List Int)(a:Nat):∀(i b:Nat) (t:Int×Int),t∈CO ks a i b ↔ t.1=a/\(b:Int)<=t.2/\t.2<(b+i:Nat)/\ks.getD a 0<kd ks t.2
 |0,b,t=>by simp only[CO,not_mem_nil,false_iff];ac_rfl
 |i+1,b,t=>by
  unfold CO
  by_cases c:ks.getD a 0<ks.getD b 0
  ·rw[if_pos c,mem_cons,oG ks a i (b+1) t]
   constructor
   ·rintro(rfl | ⟨h1,h2,h3,h4⟩)
    ·exact⟨rfl,by dsimp only;ac_rfl,by dsimp only;ac_rfl,by unfold kd;rw[toNat_natCast];exact c⟩
    ·exact⟨h1,⋯,⋯,h4⟩
   ·rintro⟨h1,h2,h3,h4⟩
    by_cases e:t.2=b
    ·exact .inl (Prod.ext h1 e)
    ·exact .inr ⟨h1,⋯,⋯,h4⟩
  ·rw[if_neg c,oG ks a i (b+1) t]
   constructor
   ·rintro⟨h1,h2,h3,h4⟩
    exact⟨h1,⋯,⋯,h4⟩
   ·rintro⟨h1,h2,h3,h4⟩
    by_cases e:t.2=b
    ·rw[e] at h4
     unfold kd at h4
     rw[toNat_natCast] at h4
     exact(c h4).elim
    ·exact⟨h1,⋯,⋯,h4⟩
theorem wK(ks:List Int):∀(i a:Nat) (t:Int×Int),a+i=ks.length->(t∈Gc ks i a ↔ (a:Int)<=t.1/\t.1<t.2/\t.2<ks.length/\kd ks t.1<kd ks t.2)
 |0,a,t,h=>by simp only[Gc,not_mem_nil,false_iff];ac_rfl
 |i+1,a,t,h=>by
  rw[Gc,mem_append,oG,wK ks i (a+1) t ⋯]
  constructor
  ·rintro(⟨h1,h2,h3,h4⟩ | ⟨h1,h2,h3,h4⟩)
   ·exact⟨⋯,⋯,⋯,by rw[h1];unfold kd at h4 ⊢;rw[toNat_natCast];exact h4⟩
   ·exact⟨⋯,h2,h3,h4⟩
  ·rintro⟨h1,h2,h3,h4⟩
   by_cases e:t.1=a
   ·refine .inl ⟨e,⋯,⋯,?_⟩
    rw[e] at h4
    unfold kd at h4 ⊢
    rw[toNat_natCast] at h4
    exact h4
   ·exact .inr ⟨⋯,h2,h3,h4⟩
theorem No{a b c d:Int}:dD [a,b] [c,d]=true ↔ a<c \/ (a=c/\b<d):=by
 unfold dD
 by_cases e:a=c
 ·rw[if_pos e]
  unfold dD
  by_cases e2:b=d
  ·rw[if_pos e2]
   simp[dD]
   ac_rfl
  ·rw[if_neg e2,decide_eq_true_eq]
   ac_rfl
 ·rw[if_neg e,decide_eq_true_eq]
  ac_rfl
noncomputable def Lx(t u:Int×Int):Prop:=t.1<u.1 \/ (t.1=u.1/\t.2<u.2)
theorem BC(ks:List Int)(a:Nat):∀(i b:Nat),(CO ks a i b).Pairwise Lx
 |0,b=>List.Pairwise.nil
 |i+1,b=>by
  unfold CO
  split
  ·refine pairwise_cons.mpr ⟨fun t ht=>?_,BC ks a i (b+1)⟩
   have:=(oG ks a i (b+1) t).mp ht
   exact .inr ⟨by dsimp only;ac_rfl,by dsimp only;ac_rfl⟩
  ·exact BC ks a i (b+1)
theorem GK(ks:List Int):∀(i a:Nat),a+i=ks.length->(Gc ks i a).Pairwise Lx
 |0,a,_=>List.Pairwise.nil
 |i+1,a,h=>by
  unfold Gc
  refine List.pairwise_append.mpr ⟨BC ks a _ _,GK ks i (a+1) ⋯,fun t ht u hu=>?_⟩
  have h1:=(oG ks a _ _ t).mp ht
  have h2:=(wK ks i (a+1) u ⋯).mp hu
  exact .inl ⋯
theorem J1{l:List (Int×Int)}(h:l.Pairwise Lx):l.Nodup:=by
 rw[nodup_iff_pairwise_ne]
 exact h.imp fun {a b} z e=>by
  rw[e] at z
  unfold Lx at z
  ac_rfl
noncomputable abbrev prs(l:List Ti):List (Int×Int):=l.map fun t=>(t.1,t.2.1)
theorem GU{n:Nat}{x y:Int}(h:Fl.Bf (ids n) x y):0<=x/\x<y/\y<n:=by
 obtain⟨i,j,hij,hj,ei,ej⟩:=h
 simp only[length_map,length_range] at hj
 rw[Fl.fQ ⋯] at ei
 rw[Fl.fQ ⋯] at ej
 ac_rfl
theorem Kn{ks row e:List Int}{s:List Ti}(w:Walk ks (ids ks.length) row e)(d:fG ks e)(p:s.Perm (til ks.length row))(u:O2 s):prs s=Gc ks ks.length 0:=by
 have us:(prs s).Pairwise Lx:=by
  rw[pairwise_map]
  exact u.imp fun {a b} h=>No.mp h
 have ud:=GK ks ks.length 0 ⋯
 refine p8 (fun a b h1 h2=>by unfold Lx at h1 h2;ac_rfl) ((List.perm_ext_iff_of_nodup (J1 us) (J1 ud)).mpr fun t=>?_) us ud
 rw[wK ks ks.length 0 t ⋯]
 constructor
 ·intro h
  obtain⟨v,hv,rfl⟩:=mem_map.mp h
  obtain⟨q,hq,rfl⟩:=mem_map.mp (p.subset hv)
  obtain⟨b1,b2,_⟩:=w.key (Pt.ids _) hq
  have:=GU b1
  exact⟨by dsimp only;ac_rfl,this.2.1,this.2.2,b2⟩
 ·rintro⟨h1,h2,h3,h4⟩
  obtain⟨q,hq,e1,e2⟩:=w.all (Pt.ids _) d h4 (Fl.G5 ⋯ h2 h3)
  exact mem_map.mpr ⟨tS q,p.symm.subset (mem_map.mpr ⟨q,hq,rfl⟩),Prod.ext e1 e2⟩
theorem JQ{ks row e:List Int}(w:Walk ks (ids ks.length) row e){t:Ti}(h:t∈til ks.length row):((0<=t.1/\t.1<ks.length)/\(0<=t.2.1/\t.2.1<ks.length)/\kd ks t.1<kd ks t.2.1)/\AB ks.length t.2.2/\t.2.2.length<=ks.length:=by
 obtain⟨q,hq,rfl⟩:=mem_map.mp h
 obtain⟨b1,b2,_⟩:=w.key (Pt.ids _) hq
 have:=GU b1
 refine⟨⟨⟨by dsimp only;ac_rfl,by dsimp only;ac_rfl⟩,⟨by dsimp only;ac_rfl,by dsimp only;ac_rfl⟩,b2⟩,?_⟩
 obtain⟨i,hi,gi⟩:=mem_iff_getElem.mp hq
 obtain⟨m,pp,w1,hp,ee⟩:=w.at (k:=i) (t:=q) (by rw[List.getElem?_eq_getElem hi,gi])
 have P:=w1.pt (Pt.ids _)
 have hl:=P.len
 subst ee
 refine⟨fun y hy=>?_,?_⟩
 ·have hy2:=(Fl.dO _).subset hy
  obtain⟨j,hj,ej⟩:=mem_iff_getElem.mp (List.mem_of_mem_take hy2)
  have:=P.bd j ⋯
  rw[show m.getD j 0=m[j] by simp[List.getD,hj],ej] at this
  exact this
 ·show (srt (m.take pp)).length<=_
  rw[Fl.v8,length_take]
  ac_rfl
end Lw
namespace Lw
open L2 Z
open Sf (Rw crs t7 Pre Good aD aW place many)
open Fl (kd ids Walk fG tls pc aR Pt srt c5 Ed bO lE rE Hands cyc cr)
theorem Ks{rows:List Rw}(G:Good rows){t:Ti}(h:(0<=t.1/\t.1<(aD rows).length)/\(0<=t.2.1/\t.2.1<(aD rows).length)/\kd (aD rows) t.1<kd (aD rows) t.2.1):0<IJ rows t:=by
 obtain⟨⟨a0,a1⟩,⟨b0,b1⟩,k⟩:=h
 have ka:=CF a0 a1
 have kb:=CF b0 b1
 have pw:=pairwise_iff_getElem.mp G.srt (kd (aD rows) t.1).toNat (kd (aD rows) t.2.1).toNat ⋯ ⋯ ⋯
 have e:∀i:Nat,(h:i<rows.length)->rows.getD i ⟨0,0,0⟩=rows[i]:=fun i h=>by simp[List.getD,h]
 unfold IJ vX vY vec
 rw[e _ ⋯,e _ ⋯]
 exact pw
theorem B6(rows:List Rw):∀(l h:List Int),Fl.en (vX rows) (vY rows) (pnt rows h) l=pnt rows (h++l)
 | [],h=>by rw[append_nil];rfl
 |b::l,h=>by rw[Fl.en,show ((pnt rows h).1+vX rows b,(pnt rows h).2+vY rows b)=pnt rows (h++[b]) from(vJ rows h b).symm,B6 rows l,append_assoc];rfl
theorem IQ{rows:List Rw}{row e:List Int}{s:List Ti}(w:Walk (aD rows) (ids (aD rows).length) row e)(lo:LastOk (aD rows) e)(h0:0<(aD rows).length)(p:s.Perm (til (aD rows).length row))(z:Int×Int):2*(s.map (IJ rows)).sum=cyc z (qH rows e):=by
 have q:Fl.en (vX rows) (vY rows) (0,0) (ids (aD rows).length)=Fl.en (vX rows) (vY rows) (0,0) e:=by
  rw[show ((0,0):Int×Int)=pnt rows [] from rfl,B6,B6,nil_append,nil_append]
  have h:=vD (rows:=rows) lo.perm
  unfold pnt
  rw[h.1,h.2]
 unfold qH
 rw[Fl.AW (vX rows) (vY rows) w h0 q z,Fl.xR (p.map _),map_map]
 rfl
theorem Ku{cs:List Nat}(C:Cnt cs):kd (aN 0 cs) 0<kd (aN 0 cs) (((aN 0 cs).length:Int)-1):=by
 have hne:cs≠[]:=by intro z;have:=C.lo;rw[z] at this;simp at this
 have lo:=C.lo
 have e:cs=cs.dropLast++[cs.getLast hne]:=(dropLast_concat_getLast hne).symm
 have h1:=C.ok _ (List.getLast_mem hne)
 have l1:=(wY C).1
 have z0:kd (aN 0 cs) 0=0:=by
  match cs,C,hne with
  |c::r,C,_=>
   have hc:=C.ok c (by simp)
   unfold Fl.kd aN
   simp[List.getD,List.getElem?_append,List.getElem?_replicate,show 0<c by ac_rfl]
 have zl:kd (aN 0 cs) (((aN 0 cs).length:Int)-1)=(cs.length:Int)-1:=by
  have b:=t5 C
  have a:=lG (r:=aN 0 cs) (i:=((aN 0 cs).length:Int)-1) ⋯ ⋯
  obtain⟨m,v,ev⟩:∃m v,aN 0 cs=m++[v]:=⟨(aN 0 cs).dropLast,(aN 0 cs).getLast (by intro z;rw[z] at l1;simp at l1),(dropLast_concat_getLast _).symm⟩
  rw[ev] at b ⊢
  have b2:jH (bJ (m++[v])) (-1)=some (.int v):=by rw[bJ,map_append];exact A5 _ _
  rw[b2] at b
  cases b
  unfold Fl.kd
  simp[List.getD]
 ac_rfl
section
variable {C:Addr} {E:En} {x0 x1 x2 x3 x4 x5 x7 x8 x9 x10 x11 x12:Sl}
noncomputable abbrev B0(C:Addr):cD:=lF (iP C) h7 (f8 C) iR (gY C) (gX C)
noncomputable abbrev B1(C:Addr):cD:=lD (iP C) h7 (f8 C) iR (gY C) (gX C)
noncomputable abbrev B2(C:Addr):cD:=lC (iP C) h7 (f8 C) iR (gY C) (gX C)
noncomputable abbrev B3(C:Addr):cD:=lB (iP C) h7 (f8 C) iR (gY C) (gX C)
theorem Nh{Q:R->Prop}:∀(fl:List Ti) (acc:List (Int×Int)),acc.length+fl.length<=200->Q (.nw (.lst (vH (acc++prs fl)))) ->
  dC [.un,.un,.un] (gT [0,1,2]) fM (fT (aA (a9 0) (aA (a9 1) aG))) (oR fl) (vH acc) Q:=by
 intro fl
 induction fl with
 |nil=>
  intro acc _ h
  ac_nf
  simpa using h
 |cons t fl ih=>
  intro acc hl h
  simp only[length_cons] at hl
  push_cast [length_map]
  refine⟨⋯,?_⟩
  have:=ih (acc++[(t.1,t.2.1)]) (by simp;ac_rfl) (by simpa using h)
  simpa using this
theorem OS{d:Dv}{x6:Sl}{Q:List Sl->Prop}(h:Q [x0,x1,x2,x3,x4,x5,x6,x7,.v d,x9,x10,x11,x12]):gN 8 d [x0,x1,x2,x3,x4,x5,x6,x7,x8,x9,x10,x11,x12] Q:=by
 ac_nf
 exact h
theorem Me{ks:List Int}{l:Addr}{a:Nat}(hn:ks.length<=12)(ha:a<ks.length):∀(i b:Nat) (acc:List (Int×Int)) (s:Sl),b+i=ks.length->acc.length+i<=500 ->
  (∀s,E.nx [.v (.lst (bJ ks)),x1,x2,x3,x4,x5,.own l (.lst (vH (acc++CO ks a i b))),.v (.int a),s,x9,x10,x11,x12]) ->
  aV (gN 8) (B0 C) [] (bP (b:Int) i) E [.v (.lst (bJ ks)),x1,x2,x3,x4,x5,.own l (.lst (vH acc)),.v (.int a),s,x9,x10,x11,x12]:=by
 intro i
 induction i with
 |zero=>
  intro b acc s _ _ h
  rw[eX,bH]
  exact⟨fun p hp=>by simp at hp,by simpa [CO] using h s⟩
 |succ i ih=>
  intro b acc s hb hl h
  rw[dE,b8]
  refine⟨fun p hp=>by simp at hp,OS ?_⟩
  have nx:=fun acc s e2 h=>ih (b+1) acc s ⋯ e2 h
  rw[show ((b+1:Nat):Int)=(b:Int)+1 by ac_rfl] at nx
  generalize aV (gN 8) (B0 C) [] (bP ((b:Int)+1) i) E=G at nx ⊢
  unfold CO at h
  push_cast [dB ha,dB (show b<ks.length by ac_rfl),length_map]
  by_cases c:ks.getD a 0<ks.getD b 0
  ·rw[if_pos c]
   rw[if_pos c] at h
   refine⟨⋯,?_⟩
   have:=nx (acc++[((a:Int),(b:Int))]) (.v (.int b)) (by simp;ac_rfl) (by simpa using h)
   simpa using this
  ·rw[if_neg c]
   rw[if_neg c] at h
   exact nx acc _ ⋯ h
theorem Nv{d:Dv}{x6:Sl}{Q:List Sl->Prop}(h:Q [x0,x1,x2,x3,x4,x5,x6,.v d,x8,x9,x10,x11,x12]):gN 7 d [x0,x1,x2,x3,x4,x5,x6,x7,x8,x9,x10,x11,x12] Q:=by
 ac_nf
 exact h
theorem CN(ks:List Int)(a:Nat):∀i b,(CO ks a i b).length<=i
 |0,_=>le_refl _
 |i+1,b=>by
  have:=CN ks a i (b+1)
  unfold CO
  split
  ·rw[length_cons];ac_rfl
  ·ac_rfl
theorem Md{ks:List Int}{l:Addr}(hn:ks.length<=12):∀(i a:Nat) (acc:List (Int×Int)) (s7 s8:Sl),a+i=ks.length->acc.length+12*i<=200 ->
  (∀s7 s8,E.nx [.v (.lst (bJ ks)),x1,x2,x3,x4,x5,.own l (.lst (vH (acc++Gc ks i a))),s7,s8,x9,x10,x11,x12]) ->
  aV (gN 7) (B1 C) [] (bP (a:Int) i) E [.v (.lst (bJ ks)),x1,x2,x3,x4,x5,.own l (.lst (vH acc)),s7,s8,x9,x10,x11,x12]:=by
 intro i
 induction i with
 |zero=>
  intro a acc s7 s8 _ _ h
  rw[eX,bH]
  exact⟨fun p hp=>by simp at hp,by simpa [Gc] using h s7 s8⟩
 |succ i ih=>
  intro a acc s7 s8 hb hl h
  rw[dE,b8]
  refine⟨fun p hp=>by simp at hp,Nv ?_⟩
  have dl:=CN ks a (ks.length-(a+1)) (a+1)
  have nx:=fun s7 s8=>ih (a+1) (acc++CO ks a (ks.length-(a+1)) (a+1)) s7 s8 ⋯ (by simp;ac_rfl) (by intro s7 s8;have:=h s7 s8;rw[Gc,<- append_assoc] at this;exact this)
  rw[show ((a+1:Nat):Int)=(a:Int)+1 by ac_rfl] at nx
  generalize aV (gN 7) (B1 C) [] (bP ((a:Int)+1) i) E=G at nx ⊢
  push_cast [length_map]
  refine⟨⋯,?_⟩
  rw[show ((ks.length:Int)-((a:Int)+1)).toNat=ks.length-(a+1) by ac_rfl,show (a:Int)+1=((a+1:Nat):Int) by ac_rfl]
  exact Me hn ⋯ _ _ acc _ ⋯ ⋯ fun s=>nx _ _
end
end Lw
namespace Lw
open L2 Z
open Sf (Rw crs t7 Pre Good aD aW place many)
open Fl (kd ids Walk fG tls pc aR Pt srt c5 Ed bO lE rE Hands cyc cr)
theorem Ml{rows:List Rw}{i:Int}(h0:0<=i)(h1:i<rows.length):jH (tB rows) i=some (rD (rows.getD i.toNat ⟨0,0,0⟩)):=by
 have h:i.toNat<rows.length:=⋯
 have e:rows.getD i.toNat ⟨0,0,0⟩=rows[i.toNat]:=by simp[List.getD,h]
 rw[e]
 have a:=L2.eU (xs:=tB rows) (j:=i.toNat) (v:=rD rows[i.toNat]) (by rw[List.getElem?_map,List.getElem?_eq_getElem h];rfl)
 rw[show ((i.toNat:Nat):Int)=i by ac_rfl] at a
 exact a
theorem LA{rows:List Rw}{Q:R->Prop}:∀(l acc:List Int),(∀k∈l,0<=k/\k<rows.length)->acc.length+l.length<=200->Q (.nw (.lst (vcs rows (acc++l)))) ->
  dC [.un,.v (.lst (tB rows))] (gN 0) fM (fT (aA (aQ cO (aQ cO (a9 1) (a9 0)) (eC (.int 0))) (aA (aQ cO (aQ cO (a9 1) (a9 0)) (eC (.int 1))) aG))) (bJ l) (vcs rows acc) Q:=by
 intro l
 induction l with
 |nil=>
  intro acc _ _ h
  ac_nf
  simpa using h
 |cons k l ih=>
  intro acc hk hl h
  simp only[length_cons] at hl
  have kk:=hk k (mem_cons_self ..)
  push_cast [length_map,Ml kk.1 kk.2]
  refine⟨⋯,?_⟩
  have:=ih (acc++[k]) (fun x hx=>hk x (mem_cons_of_mem _ hx)) (by simp;ac_rfl) (by simpa using h)
  unfold vcs at this ⊢
  rw[map_append] at this
  exact this
section
variable {C:Addr} {E:En} {x0 x1 x2 x3 x4 x5 x6 x7 x8 x9 x10 x11:Sl} {rows:List Rw}
theorem Nx{d:Dv}{x12:Sl}{Q:List Sl->Prop}(h:Q [x0,x1,x2,x3,x4,x5,x6,x7,x8,x9,x10,x11,.v d]):gN 12 d [x0,x1,x2,x3,x4,x5,x6,x7,x8,x9,x10,x11,x12] Q:=by
 ac_nf
 exact h
theorem Mc:∀(xs:List Ed) (s:Sl),(∀x∈xs,AB (aD rows).length x.2/\x.2.length<=20/\0<=x.1/\x.1<(aD rows).length) ->
  (∀s,E.nx [x0,x1,x2,.v (cG C rows),x4,x5,x6,x7,x8,.v (.lst (vcs rows (aD rows))),x10,x11,s]) ->
  aV (gN 12) (B2 C) [] (fS xs) E [x0,x1,x2,.v (cG C rows),x4,x5,x6,x7,x8,.v (.lst (vcs rows (aD rows))),x10,x11,s]:=by
 intro xs
 induction xs with
 |nil=>
  intro s _ h
  rw[show fS []=[] from rfl,bH]
  exact⟨fun p hp=>by simp at hp,h s⟩
 |cons x xs ih=>
  intro s hx h
  rw[show fS (x::xs)=oT x::fS xs from rfl,b8]
  refine⟨fun p hp=>by simp at hp,Nx ?_⟩
  have nx:=fun s=>ih s (fun y hy=>hx y (mem_cons_of_mem _ hy)) h
  generalize aV (gN 12) (B2 C) [] (fS xs) E=G at nx ⊢
  obtain⟨i1,i2,i3,i4⟩:=hx x (mem_cons_self ..)
  push_cast [BP i3 i4]
  refine⟨rows,x,rfl,i1,i2,i3,i4,?_⟩
  ac_nf
  exact nx _
theorem OR{t:Ti}{x12:Sl}{Q:List Sl->Prop}(h:Q [x0,x1,x2,x3,x4,x5,x6,.v (.int t.1),.v (.int t.2.1),x9,.v (.tup (bJ t.2.2)),x11,x12]):gT [7,8,10] (JR t) [x0,x1,x2,x3,x4,x5,x6,x7,x8,x9,x10,x11,x12] Q:=by
 ac_nf
 exact h
theorem Ma{t:Ti}{tl:cD}{x12:Sl}(ht:t.2.2.length<=20)(h:tl E [x0,x1,x2,x3,x4,x5,x6,.v (.int t.1),.v (.int t.2.1),x9,.v (.tup (bJ t.2.2)),.v (.tup (bJ (srt (t.2.2++[t.1])))),x12]):
  aS (bV 11 (dM dX (aA (dM cP (aA (aQ cM (dM jE (aA (a9 10) aG)) (gA (aA (a9 7) aG))) aG)) aG))) tl E [x0,x1,x2,x3,x4,x5,x6,.v (.int t.1),.v (.int t.2.1),x9,.v (.tup (bJ t.2.2)),x11,x12]:=by
 ac_nf
 refine⟨by simp;ac_rfl,jA ht ?_⟩
 ac_nf
 exact h
theorem Mb:∀(fl:List Ti) (s7 s8 s10 s11 s12:Sl),(∀t∈fl,((0<=t.1/\t.1<(aD rows).length)/\(0<=t.2.1/\t.2.1<(aD rows).length))/\AB (aD rows).length t.2.2/\t.2.2.length<=12) ->
  (∀s7 s8 s10 s11 s12,E.nx [x0,x1,x2,.v (cG C rows),x4,x5,x6,s7,s8,.v (.lst (vcs rows (aD rows))),s10,s11,s12]) ->
  aV (gT [7,8,10]) (B3 C) [] (oR fl) E [x0,x1,x2,.v (cG C rows),x4,x5,x6,s7,s8,.v (.lst (vcs rows (aD rows))),s10,s11,s12]:=by
 intro fl
 induction fl with
 |nil=>
  intro s7 s8 s10 s11 s12 _ h
  rw[show oR []=[] from rfl,bH]
  exact⟨fun p hp=>by simp at hp,h _ _ _ _ _⟩
 |cons t fl ih=>
  intro s7 s8 s10 s11 s12 ht h
  rw[show oR (t::fl)=JR t::oR fl from rfl,b8]
  refine⟨fun p hp=>by simp at hp,?_⟩
  have nx:=fun s7 s8 s10 s11 s12=>ih s7 s8 s10 s11 s12 (fun u hu=>ht u (mem_cons_of_mem _ hu)) h
  generalize aV (gT [7,8,10]) (B3 C) [] (oR fl) E=G at nx ⊢
  obtain⟨⟨⟨a0,a1⟩,b0,b1⟩,ib,il⟩:=ht t (mem_cons_self ..)
  refine OR (Ma ⋯ ?_)
  show _/\_/\_/\_/\_/\_/\_/\_/\aV (gN 12) (B2 C) [] (fS [(t.1,t.2.2),(t.2.1,t.2.2),(t.2.1,srt (t.2.2++[t.1]))]) _ _
  refine⟨rfl,by simp,rfl,by simp,rfl,by simp,rfl,by simp,?_⟩
  refine Mc _ _ (fun x hx=>?_) fun s=>nx _ _ _ _ _
  simp only[mem_cons,not_mem_nil,or_false] at hx
  rcases hx with rfl | rfl | rfl
  ·exact⟨ib,by dsimp only;ac_rfl,a0,a1⟩
  ·exact⟨ib,by dsimp only;ac_rfl,b0,b1⟩
  ·exact⟨ib.snoc a0 a1,by dsimp only;rw[nV];ac_rfl,b0,b1⟩
end
theorem MQ(t u:Int×Int):eqD (Jf t) (Jf u)=true ↔ t=u:=by
 have:=sQ Dv.int CK [t.1,t.2] [u.1,u.2]
 refine Iff.trans this ?_
 simp[Prod.ext_iff]
theorem Kl(l:List (Int×Int)):eqD (.lst (vH l)) (.lst (vH l))=true:=(GD Jf MQ l l).mpr rfl
theorem Iz(l:List (Int×Int)):dA 8 (.lst (vH l))=true:=vQ 7 _ fun d hd=>by
 obtain⟨t,_,rfl⟩:=mem_map.mp hd
 exact uG 6 [t.1,t.2]
noncomputable def j9(C:Addr):Fn:=fun ds Q=>∃(rows:List Rw) (row e:List Int),ds=[.lst (bJ (aD rows)),.lst (tB rows),.lst (bJ row)]/\Good rows/\1<=(aD rows).length/\(aD rows).length<=12/\GZ (aD rows)/\kd (aD rows) 0<kd (aD rows) (((aD rows).length:Int)-1) /\
 row.length<=60/\Walk (aD rows) (ids (aD rows).length) row e/\fG (aD rows) e/\Q (.v (.bl true))
theorem Ax{C:Addr}:∀ds Q,j9 C ds Q->ds.length=3:=by rintro ds Q ⟨_,_,_,rfl,_⟩;rfl
theorem D9{C:Addr}:MonoF (j9 C):=⟨fun ds Q Q' w z=>by obtain⟨a,b,c,d,e,f,g,i,j,k,l,m,h⟩:=z;exact⟨a,b,c,d,e,f,g,i,j,k,l,m,w _ h⟩⟩
theorem vL{C:Addr}:∀ds Q,j9 C ds Q->jN (iP C) h7 (f8 C) iR (gY C) (gX C) ↥Q (aJ ["_law_bands_here", "_law_directions_here", "_law_row_here", "_law_sides", "_law_tiles", "_law_pairs", "_law_due", "_law_a", "_law_b", "_law_vectors", "_law_below", "_law_with_a", "_law_edge"] ds):=by
 rintro ds Q ⟨rows,row,e,rfl,G,h1,hn,mo,k2,rl,w,d,h⟩
 have lo:=CC w d
 have P:=w.pt (Pt.ids _)
 ac_nf
 refine⟨rows,rfl,G,?_⟩
 ac_nf
 refine⟨rows,row,e,rfl,hn,rl,w,d,fun s p u=>?_⟩
 have sl:s.length=row.length:=by rw[p.length_eq,length_map,Fl.v3]
 have si:=fun t ht=>JQ w (p.subset (a:=t) ht)
 ac_nf
 refine Nh s [] (by simp;ac_rfl) ?_
 rw[nil_append]
 push_cast [length_map]
 intro l
 refine⟨⟨⋯,⋯⟩,?_⟩
 rw[show (((aD rows).length:Int)).toNat=(aD rows).length by ac_rfl]
 refine Md hn (aD rows).length 0 [] _ _ ⋯ (by simp;ac_rfl) fun s7 s8=>?_
 rw[nil_append,<- Kn w d p u]
 push_cast [Kl]
 refine⟨⟨Iz _,Iz _⟩,s,aD rows,e,rfl,⋯,fun t ht=>by have:=(si t ht).2.2;ac_rfl,hn,lo,Fl.hands w d mo ⋯ k2 p,?_⟩
 ac_nf
 refine LA (aD rows) [] (fun k hk=>?_) (by simp;ac_rfl) ?_
 ·have:=Sf.sH 0 rows k hk
  ac_rfl
 rw[nil_append]
 ac_nf
 refine Mb s _ _ _ _ _ (fun t ht=>⟨⟨(si t ht).1.1,(si t ht).1.2.1⟩,(si t ht).2.1,by have:=(si t ht).2.2;ac_rfl⟩) fun s7 s8 s10 s11 s12=>?_
 ac_nf
 refine⟨rows,s,rfl,G,fun t ht=>⟨(si t ht).1.1,(si t ht).1.2.1,Ks G (si t ht).1⟩,?_⟩
 ac_nf
 refine⟨.inl (.inl ⟨by decide,by decide⟩),rows,e,rfl,G,h1,hn,lo,P,fun z=>?_⟩
 ac_nf
 rw[decide_eq_true (IQ w lo ⋯ p z)]
 exact h
end Lw
namespace Lw
open L2 Z
open Sf (Rw crs t7 Pre Good aD aW place many)
open Fl (kd ids Walk fG tls pc aR Pt srt c5 Ed bO lE rE Hands cyc cr)
noncomputable abbrev BL(C:Addr):cD:=CT nQ lJ kQ rH kN (j9 C)
theorem Np{C:Addr}{ns:List Int}{k:Nat}{E:En}{s2 s3:Sl}(h:∀s2 s3,E.nx [.v (.scr ns),.v (.int k),s2,s3]):BL C E [.v (.scr ns),.v (.int k),s2,s3]:=by
 ac_nf
 refine⟨ns,k,rfl,⋯,fun c=>?_⟩
 ac_nf
 refine⟨ns,k,rfl,fun m m6 m12=>?_⟩
 ac_nf
 refine⟨c,m,rfl,m6,m12,fun cs hc=>?_⟩
 have cl:=wY hc
 ac_nf
 refine⟨ns,_,rfl,⋯,fun c2=>?_⟩
 ac_nf
 refine⟨aN 0 cs,c2,rfl,cl.1,cl.2,Kt hc,fun row e w d rl=>?_⟩
 ac_nf
 refine⟨ns,_,rfl,⋯,fun c3=>?_⟩
 ac_nf
 refine⟨cs,c3,rfl,hc,fun rows G hk=>?_⟩
 rw[<- hk] at w d cl ⊢
 ac_nf
 have km:=BO cs
 have kk:=Ku hc
 rw[<- hk] at km kk
 refine⟨rows,row,e,rfl,G,⋯,cl.2,km,kk,rl,w,d,?_⟩
 ac_nf
 exact h _ _
theorem OV{d:Dv}{x0 x1 x2 x3:Sl}{Q:List Sl->Prop}(h:Q [x0,.v d,x2,x3]):gN 1 d [x0,x1,x2,x3] Q:=by
 ac_nf
 exact h
theorem M8{C:Addr}{ns:List Int}{E:En}:∀(l:List Nat) (s1 s2 s3:Sl),(∀s1 s2 s3,E.nx [.v (.scr ns),s1,s2,s3]) ->
  aV (gN 1) (BL C) [] (l.map fun(m:Nat)=>Dv.int (m:Int)) E [.v (.scr ns),s1,s2,s3]:=by
 intro l
 induction l with
 |nil=>
  intro s1 s2 s3 h
  rw[map_nil,bH]
  exact⟨fun p hp=>by simp at hp,h _ _ _⟩
 |cons k ks ih=>
  intro s1 s2 s3 h
  rw[map_cons,b8]
  refine⟨fun p hp=>by simp at hp,?_⟩
  have next:=fun s1 s2 s3=>ih s1 s2 s3 h
  generalize aV (gN 1) (BL C) [] (ks.map fun(m:Nat)=>Dv.int (m:Int)) E=G at next ⊢
  exact OV (Np (C:=C) fun s2 s3=>next _ _ _)
noncomputable def spLaw:Fn:=fun ds Q=>∃ns:List Int,ds=[.scr ns]/\ns.length<=63/\Q (.v (.bl true))
theorem Hk:∀ds Q,spLaw ds Q->ds.length=1:=by rintro ds Q ⟨d,rfl,_⟩;rfl
theorem Lu{C:Addr}:∀ds Q,spLaw ds Q->E4 nQ lJ kQ rH kN (j9 C) ↥Q (aJ ["_law_script", "_law_k", "_law_bands_here", "_law_row_here"] ds):=by
 rintro ds Q ⟨ns,rfl,hl,h⟩
 ac_nf
 obtain⟨m,hm,m22⟩:∃m:Nat,(if (ns.length:Int)<13 then (ns.length:Int) else 13)+1=m/\m<18:=⟨((if (ns.length:Int)<13 then (ns.length:Int) else 13)+1).toNat,by split<;>ac_rfl,by split<;>ac_rfl⟩
 rw[hm]
 have sm:∀m:Nat,m<18->Builtin.Range.small 0 (m:Int) 3=true/\0<=Builtin.Range.rangeSize 0 (m:Int) 3/\(Builtin.Range.rangeSize 0 (m:Int) 3).toNat<=18:=by decide +kernel
 obtain⟨q1,q2,q3⟩:=sm m m22
 refine⟨⟨by decide,by decide,q1,q2⟩,?_⟩
 have e:mJ 0 3 (Builtin.Range.rangeSize 0 (m:Int) 3).toNat=((List.range (Builtin.Range.rangeSize 0 (m:Int) 3).toNat).map fun(k:Nat)=>3*k).map fun(m:Nat)=>Dv.int (m:Int):=by
  unfold mJ
  rw[map_map]
  apply map_congr_left
  intro k _
  show Dv.int (0+(k:Int)*3)=Dv.int ((3*k:Nat):Int)
  rw[show 0+(k:Int)*3=((3*k:Nat):Int) by ac_rfl]
 rw[e]
 refine M8 _ _ _ _ fun s1 s2 s3=>?_
 ac_nf
 exact h
end Lw
namespace Z
open L2 PySem.W
inductive CodeT(K:W.Frag)(f Pt:Addr):Prop
 |mk {c:Addr} {o:Value} {od odc:Option Addr} {fd:FuncData} {sl slc:Array (Option Value)} {vs:Array Value} {file:Str} {flags text:Int} {inF:Bool} {tf tg tt:Tok} (l:K.lookup f=some ⟨o,od,.func fd,sl⟩) (ec:fd.code=.ref c) (lc:K.lookup c=some ⟨.type "code",odc,.fields vs,slc⟩)
  (v11:vs[11]?=some (.ref Pt)) (g11:vs.getD 11 .none=.ref Pt) (g18:vs.getD 18 .none=.str file tf) (g7:vs.getD 7 .none=.int flags tg) (g9:vs.getD 9 .none=.bool inF) (g10:vs.getD 10 .none=.int text tt) (ne:c≠Pt)
inductive LamM(K:W.Frag)(Pt:Addr):Prop
 |mk {C f:Addr} (c0:W.nsIn K mainGlobals "Sides" = some (some (.ref C))) (a:W.findIn K (.ref C) "last" = some (some (.ref f))) (i:W.isFn K (.ref f)=true) (k:W.keepIn K (.ref f)=true) (t:CodeT K f Pt)
inductive LamD(K:W.Frag)(x:Str)(Pt:Addr):Prop
 |mk {f:Addr} (a:W.nsIn K mainGlobals x=some (some (.ref f))) (t:CodeT K f Pt)
section
variable {K:W.Frag} {f Pt:Addr} {x:Str} {h base:Heap} {mg:Str->Option Value}
theorem CodeT.tab(t:CodeT K f Pt):uY K f Pt:=by
 obtain⟨l,ec,lc,v11,g11,g18,g7,g9,g10,ne⟩:=t
 exact⟨_,_,_,_,_,_,_,_,_,l,ec,lc,v11⟩
theorem CodeT.hd(t:CodeT K f Pt):∃c,∀h:Heap,K.In h->CodeHd h c Pt:=by
 obtain⟨l,ec,lc,v11,g11,g18,g7,g9,g10,ne⟩:=t
 exact⟨_,fun h X=>⟨_,_,_,_,_,_,_,_,_,X _ _ lc,rfl,rfl,v11,g11,g18,g7,g9,g10,ne⟩⟩
theorem CodeT.all(t:CodeT K f Pt):∃(o:Value) (od:Option Addr) (fd:FuncData) (sl:Array (Option Value)) (c:Addr),K.lookup f=some ⟨o,od,.func fd,sl⟩/\fd.code=.ref c /\ ∀h:Heap,K.In h->CodeHd h c Pt:=by
 obtain⟨l,ec,lc,v11,g11,g18,g7,g9,g10,ne⟩:=t
 exact⟨_,_,_,_,_,l,ec,fun h X=>⟨_,_,_,_,_,_,_,_,_,X _ _ lc,rfl,rfl,v11,g11,g18,g7,g9,g10,ne⟩⟩
theorem LamM.lt(m:LamM K Pt):L9 K Pt:=by
 obtain⟨c0,a,i,k,t⟩:=m
 exact⟨_,_,c0,a,t.tab⟩
theorem LamD.lt(m:LamD K x Pt):JL K x Pt:=by
 obtain⟨a,t⟩:=m
 exact⟨_,a,t.tab⟩
theorem LamM.code(m:LamM K Pt)(X:K.In h):∃c,CodeHd h c Pt:=by
 obtain⟨c0,a,i,k,t⟩:=m
 obtain⟨c,z⟩:=t.hd
 exact⟨c,z h X⟩
theorem LamD.code(m:LamD K x Pt)(X:K.In h):∃c,CodeHd h c Pt:=by
 obtain⟨a,t⟩:=m
 obtain⟨c,z⟩:=t.hd
 exact⟨c,z h X⟩
theorem LamM.dfn{C:Addr}(m:LamM K Pt)(X:K.In h)(G:h.Ns mainGlobals mg)(e:mg "Sides" = some (.ref C))(B:BM mg base)(kb:K.In base):LamDef K mg base C "last" (oB "Sides.last"):=by
 have lt:=m.lt
 obtain⟨c0,a,i,k,t⟩:=m
 have e2:=mg_of X G c0
 rw[e] at e2
 cases e2
 obtain⟨o,od,fd,sl,c,l,ec,z⟩:=t.all
 exact⟨B,_,o,od,fd,sl,c,Pt,⟨a,i,k⟩,l,ec,z _ kb,rfl,.inl ⟨lt,rfl⟩⟩
theorem LamD.dfn(m:LamD K x Pt)(hx:x = "_law_hands" \/ x = "_law_round")(X:K.In h)(G:h.Ns mainGlobals mg)(B:BM mg base)(kb:K.In base):LamDefD K mg base x (oB x):=by
 have lt:=m.lt
 obtain⟨a,t⟩:=m
 obtain⟨o,od,fd,sl,c,l,ec,z⟩:=t.all
 refine⟨B,_,o,od,fd,sl,c,Pt,mg_of X G a,l,ec,z _ kb,rfl,.inr ?_⟩
 rcases hx with rfl | rfl
 ·exact .inl ⟨lt,rfl⟩
 ·exact .inr ⟨lt,rfl⟩
end
end Z
namespace Hd
open PySem PySem.W
noncomputable def L7:List Obj->Nat->BT->Option (BT×Nat)
 | [],n,t=>some (t,n)
 |o::r,n,t=>match ((t.ins n o).get n).isSome with
  |true=>L7 r (n+1) (t.ins n o)
  |false=>none
theorem yW{life:Life}:∀(l:List Obj) (n:Nat) (t:BT) {t':BT} {n':Nat},L7 l n t=some (t',n')->absHeap t' n' life=⟨((absHeap t n life).objs.toList++l).toArray,life⟩
 | [],n,t,t',n',h=>by
  cases h
  rw[append_nil]
  rfl
 |o::r,n,t,t',n',h=>by
  rw[L7] at h
  cases g:((t.ins n o).get n).isSome with
  |false=>rw[g] at h;cases h
  |true=>
   rw[g] at h
   rw[yW r (n+1) (t.ins n o) h,absHeap_ins g]
   show Heap.mk _ _=Heap.mk _ _
   congr 1
   show (((absHeap t n life).objs.push o).toList++r).toArray=_
   simp
theorem FA{h:Heap}{t:BT}{n:Nat}(e:L7 h.objs.toList 0 .nil=some (t,n)):absHeap t n h.life=h:=by
 rw[yW (life:=h.life) _ _ _ e]
 rfl
noncomputable def qM(st:SharedT->Thread->Option (SharedT×Thread))(th:Thread->Bool)(ok:Thread->Bool):Nat->SharedT->Thread->Option SharedT
 |0,_,_=>none
 |n+1,s,t=>match th t with
  |true=>some s
  |false=>match ok t with
   |false=>none
   |true=>match Nat.ble s.toks 1000000 with
    |false=>none
    |true=>match st s t with
     |some (s',t')=>qM st th ok n s' t'
     |none=>none
theorem nH{tb:String->Option Builtin}{p:Program}{w:World}{n₀:Nat}{ann:Option Value}:∀(n:Nat) (s:SharedT) (t:Thread) {s':SharedT},qM (stepT (denote tb) p w) through (stepOk n₀ ann) n s t=some s'->topRun tb p w n₀ ann n s.abs t=some s'.abs
 |0,_,_,_,h=>by cases h
 |n+1,s,t,s',h=>by
  unfold qM at h
  unfold topRun
  cases ht:through t with
  |true=>rw[ht] at h;cases h;rfl
  |false=>
   rw[ht] at h
   cases hk:stepOk n₀ ann t with
   |false=>rw[hk] at h;cases h
   |true=>
    rw[hk] at h
    dsimp only at h ⊢
    cases hb:Nat.ble s.toks 1000000 with
    |false=>rw[hb] at h;cases h
    |true=>
     rw[hb] at h
     dsimp only at h
     cases hs:stepT (denote tb) p w s t with
     |none=>rw[hs] at h;cases h
     |some x=>
      obtain⟨s1,t1⟩:=x
      rw[hs] at h
      rw[stepT_spec hs]
      exact nH n s1 t1 h
noncomputable def AV(st:SharedT->Thread->Option (SharedT×Thread))(th:Thread->Bool)(ok:Thread->Bool)(M:Nat)(h:Heap)(gs:Array GenState)(d:Drawn)(k:Nat)(os:OsState)(t:Thread):Option SharedT:=
 match L7 h.objs.toList 0 .nil with
 |some (b,n)=>qM st th ok M ⟨b,n,h.life,gs,d,k,os⟩ t
 |none=>none
theorem y3{tb:String->Option Builtin}{p:Program}{w:World}{n₀:Nat}{ann:Option Value}{M:Nat}{h:Heap}{gs:Array GenState}{d:Drawn}{k:Nat}{os:OsState}{t:Thread}{s':SharedT}
  (e:AV (stepT (denote tb) p w) through (stepOk n₀ ann) M h gs d k os t=some s'):topRun tb p w n₀ ann M ⟨h,gs,d,k,os⟩ t=some s'.abs:=by
 unfold AV at e
 cases q:L7 h.objs.toList 0 .nil with
 |none=>rw[q] at e;cases e
 |some x=>
  obtain⟨b,n⟩:=x
  rw[q] at e
  have:=nH M _ _ e
  unfold SharedT.abs at this
  dsimp only at this
  rw[FA q] at this
  exact this
theorem Hq{p q:Program}{loose:List Str}{Xt:Shared->Bool}{α:Type}{Yf:Shared->α}{Ya:World->α}{N:Nat}{g0:Bool}{HZ:Params->Heap}{gs₀:Array GenState}{d₀:Drawn}{k₀:Nat}{m₀:Nat}{ann:Option Value}{M:Nat}
  (open_:∀w:World,(fencedOpening treeTable p w N).map (fun s=>(s.heap,s.gens,s.drawn,s.toks))=some (HZ w.params,gs₀,d₀,k₀))
  (size:∀w:World,((HZ w.params).isNs mainGlobals&&gs₀.size==0,(HZ w.params).objs.size,(HZ w.params).nsMap mainGlobals "__annotations__")=(true,m₀,ann)) (le:Nat.ble M N=true)
  (run:∀(w:World) (os:OsState),(AV (stepT (denote treeTable) p w) through (stepOk m₀ ann) M (HZ w.params) gs₀ d₀ k₀ os (topStub p)).map (fun s=>
    ((staticsOk (importedModules p.main.body) (HZ w.params) s.abs.heap&&namesBound p s.abs.heap&&gensDone s.abs&&laidKept (HZ w.params) s.abs.heap),openSeen q loose (importedModules p.main.body) Xt g0 s.abs,Yf s.abs))=some (true,openGood q loose,Ya w)):
  LeftO p q loose Xt Yf Ya N g0:=fun w=>by
 obtain⟨⟨h,gs,d,k,os⟩,e,e'⟩:=map_eq_some_iff.mp (open_ w)
 obtain⟨rfl,rfl,rfl,rfl⟩:h=HZ w.params/\gs=gs₀/\d=d₀/\k=k₀:=by simpa using e'
 obtain⟨z1,z2,z3⟩:_/\_/\_:=by simpa only[Prod.mk.injEq] using size w
 obtain⟨s',r,l⟩:=map_eq_some_iff.mp (run w os)
 obtain⟨l1,l2,l3⟩:_/\_/\_:=by simpa only[Prod.mk.injEq] using l
 have r:=topRun_mono (N-M) _ _ _ _ (y3 r)
 rw[show M+(N-M)=N by have:=Nat.le_of_ble_eq_true le;ac_rfl] at r
 have t:topFrom treeTable p w N ⟨HZ w.params,gs,d,k,os⟩=some s'.abs:=by
  unfold topFrom
  dsimp only
  rw[z1,z2,z3,r]
  show (match staticsOk (importedModules p.main.body) (HZ w.params) s'.abs.heap&&namesBound p s'.abs.heap&&gensDone s'.abs&&laidKept (HZ w.params) s'.abs.heap with | true=>_ | false=>_)=_
  rw[l1]
 unfold openEnds
 rw[e]
 show (topFrom treeTable p w N _).map _=_
 rw[t]
 exact congrArg some (Prod.ext l2 l3)
end Hd
namespace Lw
open L2 Z
noncomputable abbrev tabs(P1 P2 P3:Addr):List (Addr×Str):=[(P1,oB "Sides.last"),(P2,oB "_law_hands"),(P3,oB "_law_round")]
theorem OZ{us:List Value}(h:us.length=1):∃a0,us=[a0]:=by
 cases us with
 |nil=>cases h
 |cons a r=>obtain⟨rfl⟩:=List.length_eq_zero_iff.mp (Nat.succ.inj h);exact⟨a,rfl⟩
theorem Kz{P:Program}{w:World}{K:W.Frag}{h:Heap}{mg:Str->Option Value}{fa:Addr}(X:K.In h)(G:h.Ns mainGlobals mg)(hfa:mg "law" = some (.ref fa)){P1 P2 P3:Addr}(lm:LamM K P1)(lh:LamD K "_law_hands" P2)(lr:LamD K "_law_round" P3)
  {C:Addr}
  {od0 an0:Option Addr} {sl0:Array (Option Value)} {oc0 kV0 dc0 pm0 cd0 ct0:Value} {f0:Addr}
  (aC:mg "Sides" = some (.ref C))
  (m1:MF K C "__init__" "Sides.__init__" (cQ (top 27) 0))
  (m2:MF K C "many" "Sides.many" (cQ (top 27) 1))
  (m3:MF K C "kind" "Sides.kind" (cQ (top 27) 2))
  (m4:MF K C "vector" "Sides.vector" (cQ (top 27) 3))
  (m5:MF K C "first" "Sides.first" (cQ (top 27) 5))
  (m6:MF K C "last" "Sides.last" (cQ (top 27) 6))
  (cl:Cls K C) (mk:W.makesIn K C=true) (kc:W.keepIn K (.ref C)=true)
  (eT:W.findIn K (.ref C) "kinds" = some none)
  (iE:W.findIn K (.ref C) "vectors" = some none)
  (m7:DF K mg "can" "can" (top 6))
  (m8:DF K mg "exchanged" "exchanged" (top 7))
  (m9:DF K mg "paths" "paths" (top 8))
  (m10:DF K mg "corner" "corner" (top 10))
  (m11:DF K mg "tile_at" "tile_at" (top 11))
  (m12:DF K mg "tiles_in_turn" "tiles_in_turn" (top 12))
  (m13:DF K mg "laid" "laid" (top 13))
  (m14:DF K mg "is_whole" "is_whole" (top 15))
  (m15:DF K mg "has_three_wholes" "has_three_wholes" (top 21))
  (m16:DF K mg "has_few_figures" "has_few_figures" (top 22))
  (m17:DF K mg "points_up" "points_up" (top 23))
  (m18:DF K mg "lies_left" "lies_left" (top 24))
  (m19:DF K mg "check_direction" "check_direction" (top 25))
  (m20:DF K mg "check_directions" "check_directions" (top 26))
  (m21:DF K mg "_law_cell_at" "_law_cell_at" (top 29))
  (m22:DF K mg "_law_whole" "_law_whole" (top 30))
  (m23:DF K mg "_law_most" "_law_most" (top 32))
  (m24:DF K mg "_law_bands" "_law_bands" (top 33))
  (m25:DF K mg "_law_pick" "_law_pick" (top 34))
  (m26:DF K mg "_law_exchanged" "_law_exchanged" (top 35))
  (m27:DF K mg "_law_row" "_law_row" (top 36))
  (m28:DF K mg "_law_next" "_law_next" (top 38))
  (m29:DF K mg "_law_directions" "_law_directions" (top 39))
  (m30:DF K mg "_law_edges" "_law_edges" (top 40))
  (m31:DF K mg "_law_rim" "_law_rim" (top 41))
  (m32:DF K mg "_law_hands" "_law_hands" (top 42))
  (m33:DF K mg "_law_point" "_law_point" (top 43))
  (m34:DF K mg "_law_walked" "_law_walked" (top 44))
  (m35:DF K mg "_law_area" "_law_area" (top 45))
  (m36:DF K mg "_law_round" "_law_round" (top 46))
  (m37:DF K mg "_law_covers" "_law_covers" (top 47))
  (a0:mg "law" = some (.ref f0))
  (l0:K.lookup f0=some ⟨oc0,od0,.func (W.fnOf "law" "law" (iC (top 48)) (d7 (top 48)) (aF (top 48)) .none kV0 dc0 pm0 an0 cd0 ct0),sl0⟩) (c0:W.codeIn K cd0 "law" = true) (k0:W.keepIn K (.ref f0)=true)
  (eK:∃t,mg "FEWEST_DIRECTIONS" = some (.int 2 t))
  (fH:∃t,mg "MOST_DIRECTIONS" = some (.int 6 t))
  (jL:∃t,mg "MOST_BANDS" = some (.int 12 t))
  (fI:∃t,mg "LARGEST_PART" = some (.int 999999999999 t))
  (Ge:mg "ValueError" = none)
  (qX:mg "abs" = none)
  (Dq:mg "all" = none)
  (oS:mg "bool" = none)
  (f7:mg "enumerate" = none)
  (u6:mg "int" = none)
  (bB:mg "isinstance" = none)
  (bI:mg "len" = none)
  (cK:mg "list" = none)
  (u5:mg "min" = none)
  (b9:mg "range" = none)
  (mB:mg "reversed" = none)
  (bA:mg "sorted" = none)
  (qW:mg "sum" = none)
  (bK:mg "tuple" = none)
  (u4:mg "zip" = none):
  ∃fd:FuncData,(∀(s:Shared) (v:Value),BindsTo s fd ⟨[v],[]⟩ [("_law_script",v)]) /\ ∀base:Heap,K.In base->base.Ns mainGlobals mg->BM mg base->FnOk P w K mg base u3 8 fa fd ["_law_script"] ((low K spLaw)):=by
 have e:=hfa.symm.trans a0
 cases e
 have F0:=wG (st:=(top 48)) l0 c0 k0
 refine⟨W.fnOf "law" "law" (iC (top 48)) (d7 (top 48)) (aF (top 48)) .none kV0 dc0 pm0 an0 cd0 ct0,fun s v=>.of_eq rfl,fun base kb _ bmb=>?_⟩
 have ld:=lm.dfn X G aC bmb kb
 have ld_law_hands:=lh.dfn (.inl rfl) X G bmb kb
 have ld_law_round:=lr.dfn (.inr rfl) X G bmb kb
 have mI:IAt K mg "Sides" C "Sides.__init__" (cQ (top 27) 0) ["self", "directions"]:=m1.ini aC mk kc
 have l9:=wT P w mg base m8.at  (DN (C:=C)) (yM (C:=C))
 have pN:=BD P w mg base m11.at bA bK FS Cq
 have n0:=zV P w mg base m14.at bB u6 oS Hl Ai
 have eY:=lU P w mg base m15.at bB bK bI Dq n0 KQ DD mM
 have fW:=mT P w mg base m16.at qX fI CB o3
 have kZ:=wL P w mg base m17.at  CB yE
 have l4:=wM P w mg base m18.at  FW yF
 have fX:=mU P w mg base m19.at eY FC fW FK kZ FK Fb o4
 have eZ:=lV P w mg base m20.at bB cK bI qW u4 eK fH jL fX Hc l4 Ha Hn mN
 have wW:=IH P w mg base mI f7 bK cl eT iE eZ KS DE K3
 have pP:=ID P w mg base m2.at bI cl eT FV Jy
 have mZ:=IG P w mg base m3.at cl eT FZ K2
 have GO:=Kp P w mg base m7.at bI cl mZ jX Ho Lv
 have oJ:=Dc P w mg base m4.at cl iE eT Hf Ek
 have sU:=Dd P w mg base m10.at qW cl oJ KN Hm El
 have wV:=GM P w mg base m5.at cK b9 cl pP lM DM HP
 have BH:=IE P w mg base m6.at bA b9 cl pP lM mZ jX ld FX Jz
 have wU:=GL P w mg base m9.at f7 cl GO As l9 (FL (C:=C)) wV sE BH vZ DI HN
 have i6:=pL P w mg base m12.at u4 wU sD pN HW FR qI
 have BI:=IF P w mg base m13.at bA i6 HV FY K0
 have cT:=sT P w mg base m21.at bI Fc tH
 have iV:=wN P w mg base m22.at bB u6 oS Hj yG
 have mX:=zT P w mg base m23.at cT C9 FU Ag
 have l8:=wS P w mg base m24.at b9 bI u5 DP yL
 have mV:=zR P w mg base m25.at  FT Ae
 have i7:=pM P w mg base m26.at  Fa qJ
 have pQ:=BE P w mg base m27.at bI cK b9 mV HX i7 Hb Hg Cr
 have mW:=zS P w mg base m28.at  DJ Af
 have gH:=oH P w mg base m29.at qX b9 bI mW FH DK p9
 have l7:=wR P w mg base m30.at cK bA bK DO yK
 have fA:=BF P w mg base m31.at bI b9 bA bK Hh Cs
 have l6:=wQ P w mg base m32.at bI cK b9 bA l7 FM fA FG ld_law_hands DL yJ
 have dF:=wP P w mg base m33.at bB bK bI sU KR iV KP DH yI
 have k4:=tQ P w mg base m34.at cK bA bK dF z5 Aw vK
 have mY:=zU P w mg base m35.at  Fd Ah
 have l5:=wO P w mg base m36.at bI cK b9 bA mB bK fA FG dF z5 ld_law_round DG yH
 have k5:=tR P w mg base m37.at bI b9 cK bA bK BI w4 l6 FJ k4 D8 mY He l5 FE wW FD Ax vL
 exact Ko P w mg base F0 bI u5 b9 mX HY cT C9 l8 FN pQ KO gH FI k5 D9 Hk Lu
theorem walk{l:W.OpenLaw}{qp:Program}{loose:List Str}{XP:(Str->Option Value)->Heap->Prop}{YP:World->Heap->Prop}{d:DefRec}{K:Params->W.Frag}{P1 P2 P3:Addr}(hn:l.most=some 63)(hdf:d.params.defaults=[])
  (n1:P1≠P2) (n2:P1≠P3) (n3:P2≠P3) (hY:∀(w:World) (h:Heap),YP w h->(K w.params).In h/\h.get? P1=some (W.tabObj #[])/\h.get? P2=some (W.tabObj #[])/\h.get? P3=some (W.tabObj #[]))
  (hK:∀w:World,(K w.params).lookup P1=none/\(K w.params).lookup P2=none/\(K w.params).lookup P3=none) (lm:∀w:World,LamM (K w.params) P1) (lh:∀w:World,LamD (K w.params) "_law_hands" P2) (lr:∀w:World,LamD (K w.params) "_law_round" P3)
  (F:∀(w:World) (mg:Str->Option Value) (fa:Addr) (h:Heap),(K w.params).In h->h.Ns mainGlobals mg->mg d.name=some (.ref fa)->LamM (K w.params) P1->LamD (K w.params) "_law_hands" P2->LamD (K w.params) "_law_round" P3 ->
   ∃fd:FuncData,(∀(s:Shared) (u:Value),BindsTo s fd ⟨[u],[]⟩ [("_law_script",u)]) /\ ∀base:Heap,(K w.params).In base->base.Ns mainGlobals mg->BM mg base->FnOk l.prog w (K w.params) mg base u3 8 fa fd ["_law_script"] (low (K w.params) spLaw)):
  W.WalkO qp loose XP YP l.row.toRowW d [] (fun f vs=>PySem.call f vs):=by
 have each:∀(p:Addr×Str->Prop),p (P1,oB "Sides.last")->p (P2,oB "_law_hands")->p (P3,oB "_law_round") -> ∀t∈tabs P1 P2 P3,p t:=fun p a b c t m=>by
  cases m with
  |head=>exact a
  |tail _ m=>
   cases m with
   |head=>exact b
   |tail _ m=>
    cases m with
    |head=>exact c
    |tail _ m=>cases m
 refine L2.Dp (n:=63) (k:=8) (x:="_law_script") (Ts:=tabs P1 P2 P3) (sp:=fun w=>low (K w.params) spLaw) hn ∅ hdf ⟨rfl,by decide,by decide⟩ (each _ ?_ ?_ ?_) (fun w h Y=>?_) (fun w h X=>each _ ((lm w).code X) ((lh w).code X) ((lr w).code X)) (fun w=>each _ (hK w).1 (hK w).2.1 (hK w).2.2)
  (fun w mg fa h KX G e=>F w mg fa h KX G e (lm w) (lh w) (lr w)) fun w H a ns hl hO hS=>AR (fun Q q=>⟨ns,rfl,hl,q⟩) hO (Gh (lm w).lt (lh w).lt (lr w).lt) hS
 ·simp[List.lookup]
 ·have z:(P2==P1)=false:=beq_eq_false_iff_ne.mpr (Ne.symm n1)
  simp[List.lookup,z]
 ·have z:(P3==P1)=false:=beq_eq_false_iff_ne.mpr (Ne.symm n2)
  have z2:(P3==P2)=false:=beq_eq_false_iff_ne.mpr (Ne.symm n3)
  simp[List.lookup,z,z2]
 ·obtain⟨a,b,c,d⟩:=hY w h Y
  exact⟨a,each _ b c d⟩
end Lw
noncomputable def Hd.QV:PySem.Program:=PySem.W.view PySem.Challenge.pw_slantfloor_k22_whole_cover [0,2,3,4,6,7,8,10,11,12,13,15,17,18,19,20,21,22,23,24,25,26,27,29,30,31,32,33,34,35,36,37,38,39,40,41,42,43,44,45,46,47,48]
open PySem PySem.W PyProof.Rows
local macro_rules | `(tactic| o_head $H)=>`(tactic| refine holds_open (q:=Hd.QV) (loose:=[]) (Xt:=fun s=>xlAt Hd.QV [] s&&recOk (RowW.records (OpenRow.toRowW (OpenLaw.row PySem.Challenge.rw_slantfloor_k22_whole_cover))) s) (XP:=XL Hd.QV []) (Yf:=Hook.obs $H) (Ya:=Hook.val $H) (YP:=Hook.says $H) (N:=4538) ?hl (Hook.of $H) (Hook.keeps $H) (fun s e=>xl_of s (Bool.and_eq_true_iff.mp e).1) XL.keeps (by rfl) (by rfl) (by rfl) (fun s e=>recFacts_of (Bool.and_eq_true_iff.mp e).2) (by rfl) (by first | assumption | decide +kernel) (by decide +kernel) ⟨rfl,rfl,rfl,rfl,rfl,by decide +kernel⟩ ?hw ?hc)
set_option maxRecDepth 100000 in
noncomputable def PySem.W.Fast.tw3837886679897843403:=PySem.Challenge.rw_slantfloor_k22_whole_cover
theorem PySem.W.Fast.te3837886679897843403:PySem.Challenge.rw_slantfloor_k22_whole_cover=PySem.W.Fast.tw3837886679897843403:=rfl
set_option maxHeartbeats 0 in
theorem PySem.Challenge.cw_slantfloor_k22_whole_cover_holds : PySem.Challenge.rw_slantfloor_k22_whole_cover.Holds := by
 w_on;o_law;k_head
 (case hl=>exact Hd.Hq (HZ:=boot_heap) (gs₀:=Array.mk []) (d₀:=boot_drawn) (k₀:=boot_toks) (m₀:=11) (ann:=some (.ref 6)) (M:=4538) (boot_open (by kernel_rfl) rfl (fun s=>by kernel_rfl)) (fun w=>by kernel_rfl) rfl (fun w os=>by rw[PySem.W.Fast.te10156331382660048174,PySem.W.Fast.te11892475500146522536,PySem.W.Fast.te14364793385576792824,PySem.W.Fast.te6613529449190102663,PySem.W.Fast.te4187177175401517315];kernel_rfl))
 (case hw=>w_witness2)
 k_fill
 refine' Lw.walk (l:=PySem.Challenge.rw_slantfloor_k22_whole_cover) (P1:=204) (P2:=303) (P3:=331) rfl rfl ∅ ∅ ∅ (fun w h Y=>⟨PySem.W.km_in_of Y,PySem.W.km_tabs_of Y 204 (.tail _ (.tail _ (.head _))),PySem.W.km_tabs_of Y 303 (.tail _ (.head _)),PySem.W.km_tabs_of Y 331 (.head _)⟩) (fun w=>⟨rfl,rfl,rfl⟩) ?lm ?lh ?lr ?F
 case lm=>
  intro w
  refine' Z.LamM.mk ?c0 ?a ?i ?k (Z.CodeT.mk ?l ?ec ?lc ?v11 ?g11 ?g18 ?g7 ?g9 ?g10 ?ne)
  (case c0=>k_is)
  (case a=>k_is)
  (case i=>k_is)
  (case k=>k_is)
  (case l=>k_is)
  (case ec=>rfl)
  (case lc=>k_is)
  (case v11=>rfl)
  (case g11=>rfl)
  (case g18=>rfl)
  (case g7=>rfl)
  (case g9=>rfl)
  (case g10=>rfl)
  (case ne=>decide)
 case lh=>
  intro w
  refine' Z.LamD.mk ?a (Z.CodeT.mk ?l ?ec ?lc ?v11 ?g11 ?g18 ?g7 ?g9 ?g10 ?ne)
  (case a=>k_is)
  (case l=>k_is)
  (case ec=>rfl)
  (case lc=>k_is)
  (case v11=>rfl)
  (case g11=>rfl)
  (case g18=>rfl)
  (case g7=>rfl)
  (case g9=>rfl)
  (case g10=>rfl)
  (case ne=>decide)
 case lr=>
  intro w
  refine' Z.LamD.mk ?a (Z.CodeT.mk ?l ?ec ?lc ?v11 ?g11 ?g18 ?g7 ?g9 ?g10 ?ne)
  (case a=>k_is)
  (case l=>k_is)
  (case ec=>rfl)
  (case lc=>k_is)
  (case v11=>rfl)
  (case g11=>rfl)
  (case g18=>rfl)
  (case g7=>rfl)
  (case g9=>rfl)
  (case g10=>rfl)
  (case ne=>decide)
 case F=>
  intro w mg fa h KX G hmg lm lh lr
  apply Lw.Kz KX G hmg lm lh lr
  any_goals first | refine' Z.DF.mk (mg_of KX G ?_) ?_ ?_ ?_ | refine' Z.MF.mk ?_ ?_ ?_ ?_ ?_ | refine' mg_none_of KX G ?_ | refine' mg_of KX G ?_ | refine' Z.OW (mg_of KX G ?_) | refine' Z.exS (mg_of KX G ?_) | refine' L2.Cls.mk ?_ ?_ ?_ ?_
  any_goals k_is

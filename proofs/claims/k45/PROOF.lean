import PyProof.Rows.All
import Wide.All
import OpenK.AllK
import Wide.FinOn
import Lean
import PyProof.EqAt
import PyProof.EqKinds
import PyProof.TupleCall
import PyProof.NeKinds
import PyProof.NeData
import PyProof.EqLayable
import PyProof.ZipIter
import PyProof.EnumMake
import KE.LcSums
import PyProof.CompFree
import PyProof.ListRange
import PyProof.Rows.Range3
import PyProof.TupleOfSeq
import KE.KSortTup
import PyProof.Rows.TupAdd
import PyProof.DictWalks
import PyProof.AutoListH
import PyProof.StrWalks
import PyProof.SliceStr2
import PyProof.StrBlock2
import PyProof.StrLaws
import PyProof.StrCalls
import PyProof.CallStr
import KE.KIntText
import KE.KDictSum
import PyProof.Rows.SetFrom
import PyProof.SetRoads
import PyProof.Rows.StrInSeq3
import Open.Boot
import Open.Tree
import PySem.Challenge.RW_slantfloor_k45_flipped
local macro_rules | `(tactic| ac_rfl)=>`(tactic| first | lia | omega)
set_option Elab.async false
set_option linter.all false
set_option maxRecDepth 100000
set_option maxHeartbeats 1000000
namespace L2
open PySem PySem.Spec PyProof.Rows
def Mild (o:Obj):Prop:=∃ us:Array Value,o.data=.fields us/\us[2]?=some .none
theorem dat1 {o:Obj} {vs:Array Value} {i:Nat} {v:Value} (d:o.data=.fields vs):(Obj.mapFields (·.setIfInBounds i v) o).data=.fields (vs.setIfInBounds i v):=Obj.data_mapFields d _
section
variable {M:Model} {A:Around} {E:Value->Shared->Prop} {s:Shared} {base:Heap} {env:Env} {outer:List Env} {L e:Addr} {o:Obj}
end
end L2
namespace L2
open PySem PySem.Spec PyProof.Rows
def Qu (A:Around) (h:Heap):Prop:=A.handled=none \/ ∃ (a:Addr) (o:Obj),A.handled=some (.ref a)/\h.get? a=some o/\Mild o
theorem Qu.keeps {A:Around} {h h':Heap} (q:Qu A h) (k:∀ b o,Mild o->h.get? b=some o->h'.get? b=some o):Qu A h':=by
  rcases q with q | ⟨a,o,e,g,m⟩
  . exact .inl q
  . exact .inr ⟨a,o,e,k a o m g,m⟩
theorem entry_unchain:entryFor table "proto.unchain" = some Builtin.«proto.unchain» := entryFor_of_fast (by kernel_rfl)
section
variable {prog:Program} {w:World} {A:Around} {E:Value->Shared->Prop} {s:Shared}
theorem unchain_mild {e:Value} {a:Addr} {o:Obj} {Q:Value->Shared->Prop} (g:s.heap.get? a=some o) (m:Mild o) (q:Q .none s):wpAny (model prog w) A (runValue (.builtin "proto.unchain" ⟨[e,.ref a,.ref a,.bool false],[]⟩)) Q E s:=by
  obtain ⟨us,d,n2⟩:=m
  refine runValue_entry entry_unchain ?_
  unfold Builtin.«proto.unchain»
  dsimp only
  refine wpAny_bind (wpAny_field g d n2 ?_)
  rw [if_pos (by decide)]
  exact wpAny_pure ⟨_,rfl,q⟩
theorem raise_new {α:Type} {a:Addr} {o:Obj} {us:Array Value} {Q:α->Shared->Prop} (q:Qu A s.heap) (g:s.heap.get? a=some o) (d:o.data=.fields us) (hz:2 < us.size) (hm:∀ v,A.handled=some v->v ≠ .ref a)
    (h:∀ h' o',(∀ b u,b ≠ a->s.heap.get? b=some u->h'.get? b=some u)->h'.get? a=some o'->o'.cls=o.cls->E (.ref a) { s with heap:=h' }):wpAny (model prog w) A (raiseNew (α:=α) (.ref a)) Q E s:=by
  simp only [raiseNew]
  refine wpAny_bind (wpAny_handled ?_)
  rcases q with q | ⟨b,ob,q,gb,mb⟩
  . rw [q]
    exact wpAny_bind (wpAny_pure (wpAny_throw (h s.heap o (fun _ _ _ z=>z) g rfl)))
  . rw [q]
    have ne:b ≠ a:=fun z=>hm _ q (by rw [z])
    dsimp only
    rw [if_pos (show (Value.ref b != Value.ref a)=true by simpa using ne)]
    refine wpAny_bind (wpAny_holding (unchain_mild gb mb (wpAny_bind ?_)))
    unfold updateField
    refine wpAny_bind (wpAny_load g ?_)
    rw [d]
    dsimp only
    rw [if_pos hz]
    refine wpAny_update g (wpAny_throw (h _ (Obj.mapFields (·.setIfInBounds 2 (.ref b)) o) (fun c u hc z=>(Heap.get?_update_other _ _ (Ne.symm hc)).trans z) (Heap.get?_update_self _ g (Obj.isFreed_of_fields (dat1 d))) (Obj.cls_mapFields ..)))
theorem a4M {α:Type} {Q:α->Shared->Prop} (q:Qu A s.heap) (h:∀ h' e,(∀ b u,s.heap.get? b=some u->h'.get? b=some u)->(∃ o,h'.get? e=some o/\o.cls=.type "StopIteration")->E (.ref e) { s with heap:=h' }):
    wpAny (model prog w) A (newExc (.type "StopIteration") [] >>= fun e=>raiseNew (α:=α) e) Q E s:=by
  refine wpAny_bind ?_
  simp only [newExc,newTuple]
  refine wpAny_bind (wpAny_newObj_type (wpAny_bind (m:=firstArgMember _ _) (wpAny_of_eq (a:=Value.none) (by first | rfl | (simp only [firstArgMember]; rfl)) (wpAny_newObj_type ?_ (by size_fits)))) (by size_fits))
  refine raise_new (q.keeps fun b u _ z=>Heap.get?_push_of_some _ (Heap.get?_push_of_some _ z)) (Heap.get?_push_size _ rfl) rfl (by simp; ac_rfl) (fun v e z=>?_) fun h' o' k g c=>h h' _ (fun b u z=>k b u ?_ (Heap.get?_push_of_some _ (Heap.get?_push_of_some _ z))) ⟨o',g,c⟩
  . subst z
    rcases q with q | ⟨b,ob,q,gb,_⟩
    . rw [q] at e; cases e
    . rw [q] at e
      cases e
      exact Nat.lt_irrefl _ (Nat.lt_of_lt_of_le (Heap.lt_size gb) (by rw [Heap.size_push]; exact Nat.le_succ _))
  . intro e
    subst e
    exact Nat.lt_irrefl _ (Nat.lt_of_lt_of_le (Heap.lt_size z) (by rw [Heap.size_push]; exact Nat.le_succ _))
theorem end_list {it l:Addr} {i:Nat} {xs:Array Value} {Q:Option Value->Shared->Prop} (q:Qu A s.heap) (t:s.heap.IsListIter it l i) (il:s.heap.IsList l xs) (n:xs[i]?=none) (h:∀ h',Heap.ExtBut it s.heap h'->Q none { s with heap:=h' }):
    wpAny (model prog w) A (pyNext (.ref it)) Q E s:=by
  obtain ⟨o,g,c,d⟩:=id t
  obtain ⟨ol,gl,_,nl,dl⟩:=il
  unfold pyNext
  refine wpAny_bind (wpAny_attempt (wpAny_callSpecial?_slot (name:=Str.ofString "__next__") t.typeIs slot_listiter_next (wpAny_call_entry slot_listiter_next t.typeIs entry_listiter_next ?_ (args_listiter_next _))))
  refine wpAny_bind (m:=field (.ref it) 0) (wpAny_field g d (x:=.ref l) rfl ?_)
  rw [if_neg (show ¬ ((Value.ref l == Value.none)=true) from fun z=>nomatch z)]
  refine wpAny_bind (m:=field (.ref it) 1) (wpAny_field g d (x:=.int i 0) rfl (wpAny_bind (m:=seqItems? (.ref l)) (wpAny_seqItems gl dl ?_)))
  simp only [Int.toNat_natCast,n]
  have ne:∀ b u,Mild u->s.heap.get? b=some u->b ≠ it:=fun b u m gb z=>by
    subst z
    rw [g] at gb
    cases gb
    obtain ⟨us,du,z2⟩:=m
    rw [d] at du
    cases du
    simp at z2
  refine wpAny_bind (wpAny_rule (wpAny_bind (wpAny_setField g d (by simp) (a4M (q.keeps fun b u m z=>(Heap.get?_update_other _ _ (Ne.symm (ne b u m z))).trans z) fun h' e k ⟨oe,ge,ce⟩=>?_))))
  refine wpAny_bind (wpAny_isInstance (T:="StopIteration") (b:=true) ⟨oe,ge,ce⟩ isSubtype_stop (wpAny_pure (h _ fun b u hb z=>k b u ((Heap.get?_update_other _ _ (Ne.symm hb)).trans z))))
theorem end_tuple {it l:Addr} {i:Nat} {xs:Array Value} {Q:Option Value->Shared->Prop} (q:Qu A s.heap) (t:s.heap.IsTupleIter it l i) (il:s.heap.IsTuple l xs) (n:xs[i]?=none) (h:∀ h',Heap.ExtBut it s.heap h'->Q none { s with heap:=h' }):
    wpAny (model prog w) A (pyNext (.ref it)) Q E s:=by
  obtain ⟨o,g,c,d⟩:=id t
  obtain ⟨ol,gl,_,nl,dl⟩:=il
  unfold pyNext
  refine wpAny_bind (wpAny_attempt (wpAny_callSpecial?_slot (name:=Str.ofString "__next__") t.typeIs F.slot_tuple_iterator_next (wpAny_call_entry F.slot_tuple_iterator_next t.typeIs F.entry_tuple_iterator_next ?_ (F.args_tuple_iterator_next_1 _))))
  refine wpAny_bind (m:=field (.ref it) 0) (wpAny_field g d (x:=.ref l) rfl ?_)
  rw [if_neg (show ¬ ((Value.ref l == Value.none)=true) from fun z=>nomatch z)]
  refine wpAny_bind (m:=field (.ref it) 1) (wpAny_field g d (x:=.int i 0) rfl (wpAny_bind (m:=seqItems? (.ref l)) (wpAny_seqItems gl dl ?_)))
  simp only [Int.toNat_natCast,n]
  have ne:∀ b u,Mild u->s.heap.get? b=some u->b ≠ it:=fun b u m gb z=>by
    subst z
    rw [g] at gb
    cases gb
    obtain ⟨us,du,z2⟩:=m
    rw [d] at du
    cases du
    simp at z2
  refine wpAny_bind (wpAny_rule (wpAny_bind (wpAny_setField g d (by simp) (a4M (q.keeps fun b u m z=>(Heap.get?_update_other _ _ (Ne.symm (ne b u m z))).trans z) fun h' e k ⟨oe,ge,ce⟩=>?_))))
  refine wpAny_bind (wpAny_isInstance (T:="StopIteration") (b:=true) ⟨oe,ge,ce⟩ isSubtype_stop (wpAny_pure (h _ fun b u hb z=>k b u ((Heap.get?_update_other _ _ (Ne.symm hb)).trans z))))
theorem end_range {it:Addr} {x left step:Int} {Q:Option Value->Shared->Prop} (q:Qu A s.heap) (t:IsRangeIter s.heap it x left step) (n:left<=0) (h:∀ h',Heap.ExtBut it s.heap h'->Q none { s with heap:=h' }):
    wpAny (model prog w) A (pyNext (.ref it)) Q E s:=by
  have ty:s.TypeIs (.ref it) "range_iterator" := ⟨_,t,rfl⟩
  unfold pyNext
  refine wpAny_bind (wpAny_attempt (wpAny_callSpecial?_slot (name:=Str.ofString "__next__") ty F.slot_range_iterator_next (wpAny_call_entry F.slot_range_iterator_next ty F.entry_range_iterator_next ?_ (F.args_range_iterator_next_1 _))))
  refine wpAny_bind (m:=field (.ref it) 0) (wpAny_field t rfl (x:=rawInt x) rfl (wpAny_bind (m:=field (.ref it) 1) (wpAny_field t rfl (x:=rawInt left) rfl (wpAny_bind (m:=field (.ref it) 2) (wpAny_field t rfl (x:=rawInt step) rfl ?_)))))
  refine (show wpAny _ _ (ite (left<=0) _ _) _ _ s from ?_)
  rw [if_pos n]
  refine wpAny_bind (wpAny_rule (wpAny_bind (a4M q fun h' e k ⟨oe,ge,ce⟩=>?_)))
  refine wpAny_bind (wpAny_isInstance (T:="StopIteration") (b:=true) ⟨oe,ge,ce⟩ isSubtype_stop (wpAny_pure (h _ fun b u hb z=>k b u z)))
theorem a6l {it l:Addr} {i:Nat} {xs:Array Value} {Q:Value->Shared->Prop} (q:Qu A s.heap) (t:s.heap.IsListIter it l i) (il:s.heap.IsList l xs) (n:xs[i]?=none)
    (h:∀ h' e,Heap.ExtBut it s.heap h'->(∃ o,h'.get? e=some o/\o.cls=.type "StopIteration")->E (.ref e) { s with heap:=h' }):wpAny (model prog w) A (Builtin.SmallTypes.nextOf (.ref it)) Q E s:=by
  obtain ⟨o,g,c,d⟩:=id t
  obtain ⟨ol,gl,_,nl,dl⟩:=il
  unfold Builtin.SmallTypes.nextOf
  refine wpAny_bind (wpAny_callSpecial?_slot (name:=Str.ofString "__next__") t.typeIs slot_listiter_next (wpAny_call_entry slot_listiter_next t.typeIs entry_listiter_next ?_ (args_listiter_next _)))
  refine wpAny_bind (m:=field (.ref it) 0) (wpAny_field g d (x:=.ref l) rfl ?_)
  rw [if_neg (show ¬ ((Value.ref l == Value.none)=true) from fun z=>nomatch z)]
  refine wpAny_bind (m:=field (.ref it) 1) (wpAny_field g d (x:=.int i 0) rfl (wpAny_bind (m:=seqItems? (.ref l)) (wpAny_seqItems gl dl ?_)))
  simp only [Int.toNat_natCast,n]
  have ne:∀ b u,Mild u->s.heap.get? b=some u->b ≠ it:=fun b u m gb z=>by
    subst z
    rw [g] at gb
    cases gb
    obtain ⟨us,du,z2⟩:=m
    rw [d] at du
    cases du
    simp at z2
  exact wpAny_bind (wpAny_rule (wpAny_bind (wpAny_setField g d (by simp) (a4M (q.keeps fun b u m z=>(Heap.get?_update_other _ _ (Ne.symm (ne b u m z))).trans z) fun h' e k z=>h h' e (fun b u hb z=>k b u ((Heap.get?_update_other _ _ (Ne.symm hb)).trans z)) z))))
theorem end_enum {e it l:Addr} {i:Nat} {xs:Array Value} {old:Value} {Q:Option Value->Shared->Prop} (q:Qu A s.heap) (he:IsEnum s.heap e it i old) (t:s.heap.IsListIter it l i) (il:s.heap.IsList l xs) (n:xs[i]?=none)
    (h:∀ h',Heap.ExtBut it s.heap h'->Q none { s with heap:=h' }):wpAny (model prog w) A (pyNext (.ref e)) Q E s:=by
  have ty:s.TypeIs (.ref e) "enumerate" := ⟨_,he,rfl⟩
  unfold pyNext
  refine wpAny_bind (wpAny_attempt (wpAny_callSpecial?_slot (name:=Str.ofString "__next__") ty F.slot_enumerate_next (wpAny_call_entry F.slot_enumerate_next ty F.entry_enumerate_next ?_ (F.args_enumerate_next_1 _))))
  refine wpAny_bind (m:=field (.ref e) 2) (wpAny_field he rfl (x:=.ref it) rfl (wpAny_bind (a6l q t il n fun h' x k ⟨oe,ge,ce⟩=>?_)))
  exact wpAny_bind (wpAny_isInstance (T:="StopIteration") (b:=true) ⟨oe,ge,ce⟩ isSubtype_stop (wpAny_pure (h _ k)))
theorem end_zip {z TI TO i1 i2 l1 l2:Addr} {k1 k2:Nat} {xs ys:Array Value} {a b:Value} {Q:Option Value->Shared->Prop} (q:Qu A s.heap) (D:ZipApart z TI TO i1 i2 l1 l2) (hz:IsZip s.heap z TI TO .none) (pI:IsPair s.heap TI (.ref i1) (.ref i2)) (pO:IsPair s.heap TO a b)
    (t1:s.heap.IsListIter i1 l1 k1) (t2:s.heap.IsListIter i2 l2 k2) (il1:s.heap.IsList l1 xs) (il2:s.heap.IsList l2 ys) (n:xs[k1]?=none \/ ys[k2]?=none)
    (h:∀ h',(∀ c o,c ≠ z->c ≠ TO->c ≠ i1->c ≠ i2->s.heap.get? c=some o->h'.get? c=some o)->Q none { s with heap:=h' }):wpAny (model prog w) A (pyNext (.ref z)) Q E s:=by
  have ty:s.TypeIs (.ref z) "zip" := ⟨_,hz,rfl⟩
  have fin:∀ h' e,(∃ o,h'.get? e=some o/\o.cls=.type "StopIteration")->(∀ c o,c ≠ z->c ≠ TO->c ≠ i1->c ≠ i2->s.heap.get? c=some o->h'.get? c=some o) ->
      wpAny (model prog w) A (isInstance (.ref e) (.type "StopIteration") >>= fun y=>if y=true then pure none else throw (.ref e)) Q E { s with heap:=h' }:=fun h' e ⟨oe,ge,ce⟩ k=>
    wpAny_bind (wpAny_isInstance (T:="StopIteration") (b:=true) ⟨oe,ge,ce⟩ isSubtype_stop (wpAny_pure (h _ k)))
  have mz:∀ f0,¬ Mild { cls:=.type "zip",dict:=none,data:=.fields #[f0,.bool false,.bool false,.ref TI,.ref TO],slots:=#[] }:=fun f0 ⟨us,du,z2⟩=>by
    cases du
    simp at z2
  have mi:∀ {h1:Heap} {i l:Addr} {k:Nat},h1.IsListIter i l k -> ∀ u,Mild u->h1.get? i ≠ some u:=fun ⟨o,g,_,d⟩ u ⟨us,du,z2⟩ gu=>by
    rw [g] at gu
    cases gu
    rw [d] at du
    cases du
    simp at z2
  have mp:∀ {h1:Heap} {p:Addr} {x y:Value},IsPair h1 p x y -> ∀ u,Mild u->h1.get? p ≠ some u:=fun g u ⟨us,du,z2⟩ gu=>by
    rw [g] at gu
    cases gu
    cases du
  unfold pyNext
  refine wpAny_bind (wpAny_attempt (wpAny_callSpecial?_slot (name:=Str.ofString "__next__") ty F.slot_zip_next (wpAny_call_entry F.slot_zip_next ty F.entry_zip_next ?_ (F.args_zip_next_1 _))))
  refine wpAny_bind (m:=field (.ref z) 2) (wpAny_field hz rfl (x:=.bool false) rfl (wpAny_bind (m:=field (.ref z) 3) (wpAny_field hz rfl (x:=.ref TI) rfl (wpAny_bind (wpAny_seqItems pI rfl ?_)))))
  refine wpAny_bind (m:=Builtin.SmallTypes.ownedTupleIsFree (.ref z)) ?_
  unfold Builtin.SmallTypes.ownedTupleIsFree
  refine wpAny_bind (wpAny_field hz rfl (x:=.none) rfl (wpAny_pure ?_))
  simp only [if_true]
  refine wpAny_bind (wpAny_rule (wpAny_bind (wpAny_field hz rfl (x:=.ref TO) rfl (wpAny_bind (wpAny_setField_rec hz (by simp) fun h1 hz1 s1=>wpAny_bind ?_)))))
  replace hz1:IsZip h1 z TI TO .ellipsis:=hz1
  have q1:Qu A h1:=q.keeps fun c u m g=>s1.extBut c u (fun e=>by subst e; rw [hz] at g; cases g; exact mz _ m) g
  simp only [List.zipIdx_cons,List.zipIdx_nil,List.forIn_cons,List.forIn_nil]
  refine wpAny_bind (wpAny_bind (wpAny_onRaise (wpAny_bind (m:=Builtin.SmallTypes.nextOf (.ref i1)) ?_)))
  have t1':=t1.extBut s1.extBut D.i1z
  have il1':=il1.extBut s1.extBut D.l1z
  cases hx:xs[k1]? with
  | none=>
    refine a6l q1 t1' il1' hx fun h2 e s2 ⟨oe,ge,ce⟩=>?_
    have hz2:IsZip h2 z TI TO .ellipsis:=s2 _ _ D.i1z.symm hz1
    have ne:e ≠ z:=fun y=>by subst y; rw [hz2] at ge; cases ge; simp at ce
    exact wpAny_setField_rec hz2 (by simp) fun h3 _ s3=>fin h3 e ⟨oe,s3.extBut _ _ ne ge,ce⟩ fun c o c1 _ c3 _ g=>s3.extBut _ _ c1 (s2 _ _ c3 (s1.extBut _ _ c1 g))
  | some x=>
    have hy:ys[k2]?=none:=n.elim (fun y=>by rw [hx] at y; cases y) id
    refine wpAny_nextOf_list_item t1' il1' hx fun h2 t2' s2=>wpAny_pure ?_
    have pO2:IsPair h2 TO a b:=s2.extBut _ _ D.TOi1 (s1.extBut _ _ D.TOz pO)
    have q2:Qu A h2:=q1.keeps fun c u m g=>s2.extBut c u (fun e=>by subst e; exact mi t1' u m g) g
    refine wpAny_bind (wpAny_seqItems pO2 rfl (wpAny_bind (wpAny_updateSeq_pair pO2 fun h3 pO3 s3=>wpAny_bind (wpAny_letGo (wpAny_pure ?_)))))
    have q3:Qu A h3:=q2.keeps fun c u m g=>s3.extBut c u (fun e=>by subst e; exact mp pO2 u m g) g
    refine wpAny_bind (wpAny_bind (wpAny_onRaise (wpAny_bind (m:=Builtin.SmallTypes.nextOf (.ref i2)) ?_)))
    refine a6l q3 (((t2.extBut s1.extBut D.i2z).extBut s2.extBut D.i12.symm).extBut s3.extBut D.TOi2.symm) (((il2.extBut s1.extBut D.l2z).extBut s2.extBut D.l2i1).extBut s3.extBut D.l2TO) hy fun h4 e s4 ⟨oe,ge,ce⟩=>?_
    have hz4:IsZip h4 z TI TO .ellipsis:=s4 _ _ D.i2z.symm (s3.extBut _ _ D.TOz.symm (s2.extBut _ _ D.i1z.symm hz1))
    have ne:e ≠ z:=fun y=>by subst y; rw [hz4] at ge; cases ge; simp at ce
    exact wpAny_setField_rec hz4 (by simp) fun h5 _ s5=>fin h5 e ⟨oe,s5.extBut _ _ ne ge,ce⟩ fun c o c1 c2 c3 c4 g=>s5.extBut _ _ c1 (s4 _ _ c4 (s3.extBut _ _ c2 (s2.extBut _ _ c3 (s1.extBut _ _ c1 g))))
theorem walk_list {a:Addr} {o:Obj} (hh:A.handled=some (.ref a)) (m:Mild o) (I ax:Addr) (hne:ax ≠ I) (xs:Array Value):
    Walks prog w A I [I,ax,a] [I] xs.size (fun i v=>xs[i]?=some v) (fun i h=>(h.IsListIter I ax i/\h.IsList ax xs)/\h.get? a=some o) where
  sub:=fun b hb=>by simp at hb; simp [hb]
  frame:=fun _ _ _ st k=>⟨⟨st.1.1.at fun o e=>k I (by simp) o e,st.1.2.at fun o e=>k ax (by simp) o e⟩,k a (by simp) _ st.2⟩
  item:=fun i s Q E hi st h=>by
    have na:a ≠ I:=fun e=>by
      subst e
      obtain ⟨o',g,_,d⟩:=st.1.1
      obtain ⟨us,du,z2⟩:=m
      rw [st.2] at g
      cases g
      rw [d] at du
      cases du
      simp at z2
    exact wpAny_pyNext_list_item st.1.1 st.1.2 (x:=xs[i]) (by simp [hi]) fun h' t sb=>h _ h' s.toks (by simp [hi]) ⟨⟨t,st.1.2.extBut sb.extBut hne⟩,sb.extBut _ _ na st.2⟩ fun b o hb e=>sb.extBut b o (fun z=>hb (by simp [z])) e
  done:=fun s Q E st h=>end_list (.inr ⟨a,o,hh,st.2,m⟩) st.1.1 st.1.2 (by simp) fun h' k=>h h' s.toks fun b o hb e=>k b o (fun z=>hb (by simp [z])) e
  self:=fun _ _ _ _ st q=>wpAny_pyIter_listiter st.1.1 q
theorem sum_q {l:Addr} {xs:Array (Int × Tok)} {Q:Value->Shared->Prop} (q:Qu A s.heap) (il:s.heap.IsList l (intItems xs))
    (h:∀ h' tk t',(∀ b o,s.heap.get? b=some o->h'.get? b=some o)->Q (.int (preSum (numAt xs) xs.size) t') { s with heap:=h',toks:=tk }):wpAny (model prog w) A (call (.builtin "sum") [.ref l]) Q E s:=by
  rcases q with q | ⟨a,o,q,g,m⟩
  . exact sum_intListG q il h
  . refine call_sum_walkG (iter_intList il fun s2 e st fp ne=>?_)
    subst e
    refine ⟨_,_,_,_,_,_,numAt xs,rfl,walk_list (A:=A.in1) q m _ l ne (intItems xs),⟨st,Heap.get?_push_of_some _ g⟩,fun b hb=>?_,fun _ _=>intItems_at,fun h' tk t' k=>?_⟩
    . rcases List.mem_cons.mp hb with e | hb
      . exact fp b (by simp [e])
      . rcases List.mem_cons.mp hb with e | hb
        . exact fp b (by simp [e])
        . have e:b=a:=by simpa using hb
          subst e
          exact Heap.lt_size (Heap.get?_push_of_some _ g)
    . have:=h h' tk t' (old_kept k)
      simpa [intItems] using this
theorem a8A {it:Addr} {lo c:Int} {n i:Nat} {Q:Option Value->Shared->Prop} (hi:i < n) (t:IsRangeIter s.heap it (lo + (i:Nat) * c) ((n:Int) - (i:Nat)) c)
    (h:∀ v h' tk,(∃ t,v=.int (lo + i * c) t)->IsRangeIter h' it (lo + ((i + 1:Nat):Int) * c) ((n:Int) - ((i + 1:Nat):Int)) c->(∀ b o,b ∉ [it]->s.heap.get? b=some o->h'.get? b=some o)->Q (some v) { s with heap:=h',toks:=tk }):
    wpAny (model prog w) A (pyNext (.ref it)) Q E s:=by
  refine wpAny_pyNext_range_item t (by ac_rfl) fun h' t' sb=>h _ h' _ ⟨_,rfl⟩ ?_ fun b o hb e=>sb.extBut b o (fun z=>hb (by simp [z])) e
  rw [show ((i + 1:Nat):Int)=(i:Int) + 1 by simp,show lo + ((i:Int) + 1) * c=lo + i * c + c by rw [Int.add_mul,Int.one_mul,Int.add_assoc],show (n:Int) - ((i:Int) + 1)=n - i - 1 by ac_rfl]
  exact t'
end
end L2
namespace L2
open PySem PySem.Spec PyProof.Rows
noncomputable abbrev Key:=Sum Int Str
noncomputable def keyIs:Key->Value->Bool
  | .inl k,v=>Value.isInt k v
  | .inr x,v=>Value.isStrOf x v
noncomputable def keyH (w:World):Key->Int
  | .inl k=>hashInt k
  | .inr x=>hashStr w x
theorem a1F:∀ {k:Key} {v:Value},keyIs k v=true->(∃ i t,k=Sum.inl i/\v=Value.int i t) \/ (∃ x t,k=Sum.inr x/\v=Value.str x t)
  | .inl i,v,h=>by
    obtain ⟨t,e⟩:=Value.isInt_shape (k:=i) (v:=v) h
    exact .inl ⟨i,t,rfl,e⟩
  | .inr x,v,h=>by
    obtain ⟨t,e⟩:=Value.isStrOf_shape (x:=x) (v:=v) h
    exact .inr ⟨x,t,rfl,e⟩
theorem keyIs_int (i:Int) (t:Tok):keyIs (.inl i) (.int i t)=true:=by simp [keyIs,Value.isInt]
theorem keyIs_str (x:Str) (t:Tok):keyIs (.inr x) (.str x t)=true:=by simp [keyIs,Value.isStrOf]
theorem key_ll (a b:Int):decide ((Sum.inl a:Key)=Sum.inl b)=(a == b):=by
  by_cases e:a=b
  . subst e; simp
  . have h:¬ (Sum.inl a:Key)=Sum.inl b:=fun q=>e (Sum.inl.inj q)
    rw [decide_eq_false h]
    exact (beq_eq_false_iff_ne.mpr e).symm
theorem key_rr (a b:Str):decide ((Sum.inr a:Key)=Sum.inr b)=decide (a=b):=by
  by_cases e:a=b
  . subst e; simp
  . have h:¬ (Sum.inr a:Key)=Sum.inr b:=fun q=>e (Sum.inr.inj q)
    rw [decide_eq_false h,decide_eq_false e]
theorem key_lr (a:Int) (b:Str):decide ((Sum.inl a:Key)=Sum.inr b)=false:=decide_eq_false (fun q=>nomatch q)
theorem key_rl (a:Str) (b:Int):decide ((Sum.inr a:Key)=Sum.inl b)=false:=decide_eq_false (fun q=>nomatch q)
noncomputable def a2u (prog:Program) (w:World):PySem.KeyKind prog w Key where
  is:=keyIs
  hash:=keyH w
  inj:=fun v a b ha hb=>by
    rcases a1F ha with ⟨i,t,rfl,rfl⟩ | ⟨x,t,rfl,rfl⟩
    . rcases a1F hb with ⟨j,u,rfl,e⟩ | ⟨y,u,rfl,e⟩
      . injection e with e1 _; rw [e1]
      . exact nomatch e
    . rcases a1F hb with ⟨j,u,rfl,e⟩ | ⟨y,u,rfl,e⟩
      . exact nomatch e
      . injection e with e1 _; rw [e1]
  byValue:=fun k v h=>by
    rcases a1F h with ⟨i,t,rfl,rfl⟩ | ⟨x,t,rfl,rfl⟩ <;> rfl
  pyHash:=fun hv h=>by
    rcases a1F hv with ⟨i,t,rfl,rfl⟩ | ⟨x,t,rfl,rfl⟩
    . exact wpAny_pyHash_int h
    . exact wpAny_pyHash_str h
  eqBool:=fun hu hv h=>by
    rcases a1F hu with ⟨i,t,rfl,rfl⟩ | ⟨x,t,rfl,rfl⟩
    . rcases a1F hv with ⟨j,u,rfl,rfl⟩ | ⟨y,u,rfl,rfl⟩
      . rw [key_ll] at h; exact wpAny_eqBool_int h
      . rw [key_lr] at h; exact SeqAt.EqAt.int_str i t y u _ _ _ _ h
    . rcases a1F hv with ⟨j,u,rfl,rfl⟩ | ⟨y,u,rfl,rfl⟩
      . rw [key_rl] at h; exact SeqAt.EqAt.str_int x t j u _ _ _ _ h
      . rw [key_rr] at h; exact wpAny_eqBool_str h
  «strs» := fun k x t v h=>by
    rcases a1F h with ⟨i,u,rfl,e⟩ | ⟨y,u,rfl,e⟩
    . exact nomatch e
    . injection e with e1 _
      subst e1
      cases v <;> rfl
theorem mixKind_int (prog:Program) (w:World) (i:Int) (t:Tok):(a2u prog w).is (.inl i) (.int i t)=true:=keyIs_int i t
theorem mixKind_str (prog:Program) (w:World) (x:Str) (t:Tok):(a2u prog w).is (.inr x) (.str x t)=true:=keyIs_str x t
end L2
namespace L2
open PySem PySem.Spec PyProof.Rows
inductive V where
  | non | bl (b:Bool) | int (i:Int) | str (x:Str) | byt (b:Array UInt8) | flt (b:UInt64) | ref (a:Addr) | ty (n:String)
  deriving DecidableEq
def a2z:V->Value->Prop
  | .non,u=>u=Value.none
  | .bl b,u=>u=Value.bool b
  | .int i,u=>∃ t,u=Value.int i t
  | .str x,u=>∃ t,u=Value.str x t
  | .byt b,u=>∃ t,u=Value.bytes b t
  | .flt b,u=>∃ t,u=Value.float b t
  | .ref a,u=>u=Value.ref a
  | .ty n,u=>u=Value.type n
abbrev a1w:List V->List Value->Prop:=Paired a2z
theorem a1w.length {xs:List V} {us:List Value} (r:a1w xs us):xs.length=us.length:=Paired.length r
theorem a1w.get:∀ {xs:List V} {us:List Value} {i:Nat} {x:V},a1w xs us->xs[i]?=some x -> ∃ u,us[i]?=some u/\a2z x u
  | _,_,_,_,.nil,e=>by simp at e
  | _,_,0,_,.cons r _,e=>by simp at e; subst e; exact ⟨_,rfl,r⟩
  | _,_,i + 1,x,.cons _ t,e=>by
    obtain ⟨u,h1,h2⟩:=a1w.get (i:=i) (x:=x) t (by simpa using e)
    exact ⟨u,by simpa using h1,h2⟩
theorem a1w.append:∀ {xs ys:List V} {us ws:List Value},a1w xs us->a1w ys ws->a1w (xs ++ ys) (us ++ ws)
  | _,_,_,_,.nil,s=>s
  | _,_,_,_,.cons r t,s=>.cons r (a1w.append t s)
theorem a1w.take:∀ {xs:List V} {us:List Value} (n:Nat),a1w xs us->a1w (xs.take n) (us.take n)
  | _,_,0,_=>.nil
  | _,_,_ + 1,.nil=>.nil
  | _,_,n + 1,.cons r t=>.cons r (a1w.take n t)
theorem a1w.drop:∀ {xs:List V} {us:List Value} (n:Nat),a1w xs us->a1w (xs.drop n) (us.drop n)
  | _,_,0,r=>r
  | _,_,_ + 1,.nil=>.nil
  | _,_,n + 1,.cons _ t=>a1w.drop n t
def RelO:Option V->Option Value->Prop
  | some v,some u=>a2z v u
  | none,none=>True
  | _,_=>False
def KV {κ:Type}:List (κ × V)->List (κ × Value)->Prop:=Paired fun (p:κ × V) (q:κ × Value)=>p.1=q.1/\a2z p.2 q.2
noncomputable def kV:Key->V
  | .inl i=>.int i
  | .inr x=>.str x
inductive HO where
  /-- a list -/
  | lst (xs:List V)
  /-- a tuple (never changes) -/
  | tup (xs:List V)
  /-- a dict whose keys are ints and texts; one whose keys are tuples of ints and texts (the empty one is both) -/
  | dK (kvs:List (Key × V)) | dT (ep:Nat) (kvs:List (List Key × V))
  /-- a set of ints: its members,its size -/
  | set (S:Int->Bool) (n:Nat)
  /-- an instance of the class at C,its dict at dx,its attributes -/
  | ins (C dx:Addr) (fs:List (Str × V))
  /-- the dict of the instance at x -/
  | own (x:Addr)
  /-- the dict of an exception -/
  | xd (fs:List (Str × V))
  /-- a bound method,f of x -/
  | met (f x:Addr)
  /-- a range object lo,lo + 1,.. below hi -/
  | rng (lo hi:Int)
  /-- a thing that is known to the object (the script; a dict while a loop walks it): read,never written while it is so -/
  | frz (o:Obj) (u:HO)
  /-- a code object's table -/
  | tbl (ps:Array Value)
  /-- a code object's table whose lambdas are named q; such a lambda's code -/
  | lam (q:Str) | cod (q:Str)
  /-- any other thing,by what is true of its one object (a def of one's own: SetO a S n:=HO.ext fun h=>..) -/
  | ext (φ:Heap->Prop)
noncomputable abbrev Hp:=Addr->Option HO
noncomputable def upd (H:Hp) (a:Addr) (o:HO):Hp:=fun b=>if b=a then some o else H b
theorem a0I {H:Hp} {a:Addr} {o:HO}:upd H a o a=some o:=by unfold upd; rw [if_pos rfl]
theorem a0G {H:Hp} {a b:Addr} {o:HO} (h:b ≠ a):upd H a o b=H b:=by unfold upd; rw [if_neg h]
theorem upd_upd {H:Hp} {a:Addr} {o u:HO}:upd (upd H a o) a u=upd H a u:=by
  funext b; unfold upd; split <;> rfl
theorem ne_of {H:Hp} {a b:Addr} {o u:HO} (h:H a=some o) (h':H b=some u) (d:o ≠ u):a ≠ b:=by
  intro e; subst e; rw [h] at h'; exact d (Option.some.inj h')
theorem a0A {H:Hp} {a b:Addr} {o:HO} (h:H a=some o) (h':H b=none):a ≠ b:=by
  intro e; subst e; rw [h] at h'; cases h'
section
variable (P:Program) (w:World)
def a2a (H:Hp) (h:Heap) (a:Addr):HO->Prop
  | .lst xs=>xs.length<=sizeLine /\ ∃ (its:List Value) (n:Nat),a1w xs its/\h.get? a=some { cls:=.type "list",data:=.seq its.toArray n }
  | .tup xs=>xs.length<=sizeLine /\ ∃ its:List Value,a1w xs its/\IsTup h a its.toArray
  | .dK kvs=>kvs.length<=sizeLine/\(a == sysModules)=false /\ ∃ vs,KV kvs vs/\h.DictOf (a2u P w) a vs
  | .dT ep kvs=>kvs.length<=sizeLine/\(a == sysModules)=false /\ ∃ xs:List (List Key × Addr × Value),
      Paired (fun (p:List Key × V) (q:List Key × Addr × Value)=>p.1=q.1/\H q.2.1=some (.tup (p.1.map kV))/\a2z p.2 q.2.2) kvs xs /\
      ∃ o es,h.get? a=some o/\o.ExactDict/\o.data=.dict es ep/\es.toList=xs.map (entryOfKey (tupleKind (a2u P w)))/\(xs.map (·.1)).Nodup
  | .set S n=>h.SetOf (intKind P w) a S n
  | .ins C dx fs=>H dx=some (.own a)/\fs.length<=1000/\dx ≠ a/\h.get? a=some (W.instObj C dx) /\
      ∃ mA,h.Ns1 dx mA/\(∀ f,RelO (fs.lookup f) (mA f))/\PySem.Within mA (fs.map (·.1))
  | .own _=>∃ o,h.get? a=some o
  | .xd fs=>∃ mA,h.Ns1 a mA /\ ∀ f,RelO (fs.lookup f) (mA f)
  | .rng lo hi=>∃ t u v,h.get? a=some { cls:=.type "range",data:=.fields #[.int lo t,.int hi u,.int 1 v] }
  | .frz o u=>h.get? a=some o/\a2a H h a u
  | .tbl ps=>h.get? a=some { cls:=.none,data:=.fields ps }
  | .lam q=>∃ ps:Array Value,h.get? a=some (W.tabObj ps)/\TriplesOk ps.toList /\ ∀ p:Pos,codeAmong p ps.toList=none \/ ∃ c,codeAmong p ps.toList=some (.ref c)/\H c=some (.cod q)
  | .cod q=>h.CodeRec (.ref a) q
  | .met f x=>h.get? a=some (W.methodObj (.ref f) (.ref x))
  | .ext φ=>φ h/\(∃ o,h.get? a=some o) /\ ∀ h1 h2:Heap,φ h1->(∀ o,h1.get? a=some o->h2.get? a=some o)->φ h2
def HOk (H:Hp) (h:Heap):Prop:=∀ a o,H a=some o->a2a P w H h a o
end
section
variable {P:Program} {w:World} {H H':Hp} {h h':Heap} {a:Addr} {o:HO}
theorem a2a.lt (x:a2a P w H h a o):a < h.objs.size:=by
  cases o with
  | lst xs=>obtain ⟨_,_,_,_,e⟩:=x; exact Heap.lt_size e
  | tup xs=>obtain ⟨_,_,_,p⟩:=x; exact p.lt
  | dK kvs=>obtain ⟨_,_,_,_,o,_,_,e,_⟩:=x; exact Heap.lt_size e
  | dT ep kvs=>obtain ⟨_,_,_,_,o,_,e,_⟩:=x; exact Heap.lt_size e
  | set S n=>obtain ⟨o,_,_,_,e,_⟩:=x; exact Heap.lt_size e
  | ins C dx fs=>obtain ⟨_,_,_,e,_⟩:=x; exact Heap.lt_size e
  | own y=>obtain ⟨_,e⟩:=x; exact Heap.lt_size e
  | xd fs=>obtain ⟨_,⟨_,_,_,e,_⟩,_⟩:=x; exact Heap.lt_size e
  | rng lo hi=>obtain ⟨_,_,_,e⟩:=x; exact Heap.lt_size e
  | frz ob u=>obtain ⟨e,_⟩:=x; exact Heap.lt_size e
  | tbl ps=>exact Heap.lt_size (show h.get? a=some _ from x)
  | lam q=>obtain ⟨_,e,_⟩:=x; exact Heap.lt_size e
  | cod q=>obtain ⟨_,_,_,_,e,e2,_⟩:=x; cases e; exact Heap.lt_size e2
  | met f y=>exact Heap.lt_size (show h.get? a=some _ from x)
  | ext φ=>obtain ⟨_,⟨_,e⟩,_⟩:=x; exact Heap.lt_size e
theorem Paired.mapP {α β:Type} {F G:α->β->Prop}:∀ {l₁:List α} {l₂:List β},Paired F l₁ l₂->(∀ a b,F a b->G a b)->Paired G l₁ l₂
  | _,_,.nil,_=>.nil
  | _,_,.cons r t,f=>.cons (f _ _ r) (Paired.mapP t f)
theorem a2a.stay (x:a2a P w H h a o) (k:∀ b u,(b=a \/ H b=some (.own a))->h.get? b=some u->h'.get? b=some u)
    (ho:∀ b,H b=some (.own a)->H' b=some (.own a)) (ht:∀ b xs,H b=some (.tup xs)->H' b=some (.tup xs)) (hc:∀ b q,H b=some (.cod q)->H' b=some (.cod q)):a2a P w H' h' a o:=by
  induction o with
  | lst xs=>obtain ⟨z,its,n,r,e⟩:=x; exact ⟨z,its,n,r,k _ _ (.inl rfl) e⟩
  | tup xs=>obtain ⟨z,its,r,ob,e,c⟩:=x; exact ⟨z,its,r,ob,k _ _ (.inl rfl) e,c⟩
  | dK kvs=>obtain ⟨z,y,vs,r,ob,es,ep,e,c⟩:=x; exact ⟨z,y,vs,r,ob,es,ep,k _ _ (.inl rfl) e,c⟩
  | dT ep kvs=>
    obtain ⟨z,y,xs,r,ob,es,e,c⟩:=x
    exact ⟨z,y,xs,Paired.mapP r fun p q z=>⟨z.1,ht _ _ z.2.1,z.2.2⟩,ob,es,k _ _ (.inl rfl) e,c⟩
  | set S n=>obtain ⟨ob,es,ep,t,e,c⟩:=x; exact ⟨ob,es,ep,t,k _ _ (.inl rfl) e,c⟩
  | ins C dx fs=>
    obtain ⟨d,z,ne,e,mA,⟨od,es,ep,e2,c⟩,r⟩:=x
    exact ⟨ho _ d,z,ne,k _ _ (.inl rfl) e,mA,⟨od,es,ep,k _ _ (.inr d) e2,c⟩,r⟩
  | own y=>obtain ⟨ob,e⟩:=x; exact ⟨ob,k _ _ (.inl rfl) e⟩
  | xd fs=>obtain ⟨mA,⟨od,es,ep,e,c⟩,r⟩:=x; exact ⟨mA,⟨od,es,ep,k _ _ (.inl rfl) e,c⟩,r⟩
  | rng lo hi=>obtain ⟨t,u,v,e⟩:=x; exact ⟨t,u,v,k _ _ (.inl rfl) e⟩
  | frz ob u ih=>obtain ⟨e,q⟩:=x; exact ⟨k _ _ (.inl rfl) e,ih q⟩
  | tbl ps=>
    have e:h.get? a=some { cls:=.none,data:=.fields ps }:=x
    show h'.get? a=some { cls:=.none,data:=.fields ps }
    exact k a _ (.inl rfl) e
  | lam q=>
    obtain ⟨ps,e,t,f⟩:=x
    exact ⟨ps,k _ _ (.inl rfl) e,t,fun p=>(f p).imp_right fun ⟨c,e1,e2⟩=>⟨c,e1,hc _ _ e2⟩⟩
  | cod q=>
    obtain ⟨_,o,vs,t,e,e2,e3⟩:=x
    cases e
    exact ⟨a,o,vs,t,rfl,k _ _ (.inl rfl) e2,e3⟩
  | met f y=>
    have e:h.get? a=some (W.methodObj (.ref f) (.ref y)):=x
    show h'.get? a=some (W.methodObj (.ref f) (.ref y))
    exact k a _ (.inl rfl) e
  | ext φ=>obtain ⟨p,⟨o,e⟩,st⟩:=x; exact ⟨st _ _ p fun o q=>k _ _ (.inl rfl) q,⟨o,k _ _ (.inl rfl) e⟩,st⟩
theorem HOk.lt (x:HOk P w H h) (e:H a=some o):a < h.objs.size:=(x a o e).lt
theorem HOk.fresh (x:HOk P w H h) (e:h.objs.size<=a):H a=none:=by
  cases q:H a with
  | none=>rfl
  | some u=>exact absurd (Nat.lt_of_lt_of_le (x.lt q) e) (Nat.lt_irrefl _)
theorem HOk.kept (x:HOk P w H h) (k:∀ b u,h.get? b=some u->h'.get? b=some u):HOk P w H h':=fun a o e=>
  (x a o e).stay (fun b u _ q=>k b u q) (fun _ q=>q) (fun _ _ q=>q) fun _ _ q=>q
theorem HOk.laid (x:HOk P w H h) (k:∀ b u,h.get? b=some u->h'.get? b=some u) (hp:h.objs.size<=a) (new:a2a P w (upd H a o) h' a o):HOk P w (upd H a o) h':=fun b u e=>by
  have hn:=x.fresh hp
  by_cases hb:b=a
  . subst hb; rw [a0I] at e; cases e; exact new
  . rw [a0G hb] at e
    exact (x b u e).stay (fun c v _ q=>k c v q) (fun c q=>by rw [a0G (a0A q hn)]; exact q) (fun c xs q=>by rw [a0G (a0A q hn)]; exact q) fun c xs q=>by rw [a0G (a0A q hn)]; exact q
end
def Rd (H:Hp) (a:Addr) (u:HO):Prop:=H a=some u \/ ∃ o,H a=some (.frz o u)
theorem Rd.ok {P:Program} {w:World} {H:Hp} {h:Heap} {a:Addr} {u:HO} (r:Rd H a u) (x:HOk P w H h):a2a P w H h a u:=by
  rcases r with r | ⟨o,r⟩
  . exact x a u r
  . obtain ⟨_,q⟩:=x a _ r
    exact q
def Mut:Option HO->Prop
  | some (.lst _)=>True
  | some (.dK _)=>True
  | some (.dT _ _)=>True
  | some (.set _ _)=>True
  | some (.ins _ _ _)=>True
  | some (.ext _)=>True
  | _=>False
section
variable {P:Program} {w:World} {H:Hp} {h h':Heap} {x e:Addr} {o':HO}
theorem HOk.write (ok:HOk P w H h) (mu:Mut (H x)) (he:e=x \/ H e=some (.own x)) (k:∀ b u,b ≠ e->h.get? b=some u->h'.get? b=some u) (heo:∃ u,h'.get? e=some u)
    (new:a2a P w (upd H x o') h' x o'):HOk P w (upd H x o') h':=fun b u q=>by
  have nown:∀ c y,H c=some (.own y)->c ≠ x:=fun c y r z=>by subst z; rw [r] at mu; exact mu
  have ntup:∀ c xs,H c=some (.tup xs)->c ≠ x:=fun c xs r z=>by subst z; rw [r] at mu; exact mu
  have ncod:∀ c q,H c=some (.cod q)->c ≠ x:=fun c xs r z=>by subst z; rw [r] at mu; exact mu
  by_cases hb:b=x
  . subst hb; rw [a0I] at q; cases q; exact new
  . rw [a0G hb] at q
    by_cases hbe:b=e
    . have q':H b=some (.own x):=by
        rcases he with z | z
        . exact absurd (hbe.trans z) hb
        . rw [hbe]; exact z
      rw [q] at q'; cases q'
      obtain ⟨v,hv⟩:=heo
      exact ⟨v,by rw [hbe]; exact hv⟩
    . refine (ok b u q).stay (fun c v hc r=>k c v ?_ r) (fun c r=>by rw [a0G (nown c b r)]; exact r) (fun c xs r=>by rw [a0G (ntup c xs r)]; exact r) fun c xs r=>by rw [a0G (ncod c xs r)]; exact r
      rcases hc with rfl | hc
      . exact hbe
      . rintro rfl
        rcases he with z | z
        . exact nown c b hc z
        . rw [hc] at z; cases z; exact hb rfl
end
structure Un (fs ex:List Addr) (H H':Hp) (h h':Heap):Prop where
  keep:∀ b o,h.get? b=some o->H b=none->b ∉ fs->b ∉ ex->h'.get? b=some o
  slot:∀ b o,h.get? b=some o->H b=none->b ∈ fs->b ∉ ex -> ∃ sl,h'.get? b=some { o with slots:=sl }
  free:∀ b o,h.get? b=some o->H b=none->b ∉ ex->H' b=none
  there:∀ b o,h.get? b=some o->b ∉ ex -> ∃ o',h'.get? b=some o'
  tups:∀ b xs,H b=some (.tup xs)->H' b=some (.tup xs)
  frzs:∀ b o u,H b=some (.frz o u)->H' b=some (.frz o u)
  tbls:∀ b ps,H b=some (.tbl ps) -> ∃ more,H' b=some (.tbl (ps ++ more))
section
variable {fs fs' ex ex':List Addr} {H H1 H2:Hp} {h h1 h2 h':Heap} {a x e:Addr} {o:HO}
theorem Un.any (u:Un fs ex H H1 h h1) {b:Addr} {ob:Obj} (q:h.get? b=some ob) (n:H b=none) (hx:b ∉ ex):∃ sl,h1.get? b=some { ob with slots:=sl }:=by
  by_cases hb:b ∈ fs
  . exact u.slot b ob q n hb hx
  . exact ⟨ob.slots,u.keep b ob q n hb hx⟩
theorem Un.kept (k:∀ b u,h.get? b=some u->h'.get? b=some u):Un fs ex H H h h':=
  ⟨fun b ob q _ _ _=>k b ob q,fun b ob q _ _ _=>⟨ob.slots,k b ob q⟩,fun _ _ _ n _=>n,fun b ob q _=>⟨ob,k b ob q⟩,fun _ _ q=>q,fun _ _ _ q=>q,fun _ ps q=>⟨#[],by rw [q]; simp⟩⟩
theorem Un.refl:Un fs ex H H h h:=Un.kept fun _ _ q=>q
theorem Un.laid (k:∀ b u,h.get? b=some u->h'.get? b=some u) (hp:h.objs.size<=a) (hn:H a=none):Un fs ex H (upd H a o) h h' where
  keep:=fun b u q _ _ _=>k b u q
  slot:=fun b u q _ _ _=>⟨u.slots,k b u q⟩
  free:=fun b u q n _=>by rw [a0G (Nat.ne_of_lt (Nat.lt_of_lt_of_le (Heap.lt_size q) hp))]; exact n
  there:=fun b u q _=>⟨u,k b u q⟩
  tups:=fun b xs q=>by rw [a0G (a0A q hn)]; exact q
  frzs:=fun b u xs q=>by rw [a0G (a0A q hn)]; exact q
  tbls:=fun b ps q=>⟨#[],by rw [a0G (a0A q hn),q]; simp⟩
theorem Un.write (mu:Mut (H x)) (he:e=x \/ H e=some (.own x)) (k:∀ b u,b ≠ e->h.get? b=some u->h'.get? b=some u) (heo:∃ u,h'.get? e=some u):Un fs ex H (upd H x o) h h':=by
  have hx:∀ b,H b=none->b ≠ x:=fun b n z=>by subst z; rw [n] at mu; exact mu
  have hb:∀ b,H b=none->b ≠ e:=fun b n z=>by
    subst z
    rcases he with r | r
    . exact hx b n r
    . rw [n] at r; cases r
  have hm:∀ b u,H b=some u -> ¬ Mut (some u)->b ≠ x:=fun b u q nm z=>by subst z; rw [q] at mu; exact nm mu
  refine ⟨fun b u q n _ _=>k b u (hb b n) q,fun b u q n _ _=>⟨u.slots,k b u (hb b n) q⟩,fun b u q n _=>by rw [a0G (hx b n)]; exact n,fun b u q _=>?_,
    fun b xs q=>by rw [a0G (hm b _ q fun z=>z)]; exact q,fun b u xs q=>by rw [a0G (hm b _ q fun z=>z)]; exact q,fun b ps q=>⟨#[],by rw [a0G (hm b _ q fun z=>z),q]; simp⟩⟩
  by_cases hbe:b=e
  . subst hbe; exact heo
  . exact ⟨u,k b u hbe q⟩
end
noncomputable def trk (h:Heap) (H:Hp):List Addr:=(List.range h.objs.size).filter fun a=>(H a).isSome
noncomputable def hidT (h:Heap) (H:Hp):Heap:=W.hideAll h (trk h H)
theorem hidT_size (h:Heap) (H:Hp):(hidT h H).objs.size=h.objs.size:=W.hideAll_size _ _
theorem hidT_get {h:Heap} {H:Hp} {b:Addr} {o:Obj} (e:h.get? b=some o) (n:H b=none):(hidT h H).get? b=some o:=
  W.hideAll_get _ e fun hm=>by
    have q:(H b).isSome=true:=(List.mem_filter.mp hm).2
    rw [n] at q; simp at q
theorem of_hidT {h:Heap} {H:Hp} {b:Addr} {o:Obj} (e:(hidT h H).get? b=some o):h.get? b=some o/\H b=none:=by
  have e':h.get? b=some o:=W.of_hideAll (trk h H) e
  refine ⟨e',?_⟩
  cases q:H b with
  | none=>rfl
  | some x=>
    have hm:b ∈ trk h H:=List.mem_filter.mpr ⟨List.mem_range.mpr (Heap.lt_size e'),by simp [q]⟩
    have z:(hidT h H).get? b=none:=W.hideAll_none (trk h H) hm
    rw [z] at e; cases e
end L2
namespace L2
open PySem PySem.Spec PyProof.Rows
structure Mod (K:W.Frag) (mg:Str->Option Value) (base:Heap):Prop where
  kin:K.In base
  glob:base.Ns mainGlobals mg
  blt:∃ mb,base.Ns builtinsNs mb /\ ∀ x:Str,x ≠ "__name__" -> mb x=bootBuiltins x
  nolimit:base.NoLimit
/-- the context: a def's body (or a comprehension's block) running. base: fixed through the whole law; s₀,HZ: the entry; outer: the frames whose slots others may change (a def's callers); stack: all frames that run;
   ex: iterators that were made ahead of the entry and are walked here (a comprehension's); fn: the names whose cells were made at the entry (a def: all; a comprehension's block: its own); calm: not within an except suite; pn: pins that every state bears; xe: what is wanted of an exception that leaves the code -/
structure Cx where
  prog:Program
  w:World
  K:W.Frag
  mg:Str->Option Value
  base:Heap
  A:Around
  N:List Str
  s₀:Shared
  HZ:Hp
  env:Env
  outer:List Env
  stack:List Env
  ex:List Addr
  fn:Str->Bool
  calm:Bool
  pn:List (Addr × Obj)
  xe:Value->Shared->Prop
  hs:List Addr
noncomputable def frs (l:List Env):List Addr:=l.filterMap (·.frame)
noncomputable abbrev Cx.fs (X:Cx):List Addr:=frs X.outer
def Vis (sc:Scope) (x:Str):Prop:=sc.names.lookup x=some .local \/ sc.names.lookup x=some .cell \/ sc.names.lookup x=some .free
def Loc (sc:Scope) (x:Str):Prop:=sc.names.lookup x=some .local \/ sc.names.lookup x=some .cell
def Look (env:Env) (h:Heap) (m:Str->Option Value) (x:Str) (u:Value):Prop:=
  (env.kindOf x=some .local/\m x=some u) \/ ((env.kindOf x=some .cell \/ env.kindOf x=some .free) /\ ∃ c,env.cells.lookup x=some c/\h.IsCell c (some u))
structure Cx.Ok (X:Cx):Prop where
  mod:Mod X.K X.mg X.base
  kind:X.env.scope.kind=.function
  glob:X.env.globals=mainGlobals
  blt:X.env.builtins=builtinsNs
  above:X.s₀.heap.objs.size<=X.env.locals
  inj:∀ x y c,X.env.cells.lookup x=some c->X.env.cells.lookup y=some c->x=y
  has:∀ x,(X.env.kindOf x=some .cell \/ X.env.kindOf x=some .free) -> ∃ c,X.env.cells.lookup x=some c
  cab:∀ x c,X.fn x=true->X.env.cells.lookup x=some c->X.s₀.heap.objs.size<=c
  hd:X.calm=true->X.A.handled=none
  frames:X.A.frames=some X.stack
  stk:X.stack=X.outer \/ (X.stack=X.env :: X.outer/\X.env.frame=some X.env.locals)
  exf:∀ b ∈ X.ex,b ≠ X.env.locals /\ ∀ x c,X.env.cells.lookup x=some c->c ≠ b
  bs:∀ b o,X.base.get? b=some o->X.s₀.heap.get? b=some o/\X.HZ b=none
  bsz:X.base.objs.size<=X.s₀.heap.objs.size
  noex:∀ b o,X.base.get? b=some o->b ∉ X.ex
  exfs:∀ b ∈ X.ex,b ∉ X.fs
  funs:X.s₀.heap.FunFrames X.base X.outer
  frf:∀ b ∈ X.fs,X.HZ b=none
  hq:X.A.handled=none \/ ∃ a,a ∈ X.hs/\X.A.handled=some (.ref a)
structure Inv (X:Cx) (pins:List (Addr × Obj)) (σ:List (Option V)) (H:Hp) (s:Shared):Prop where
  ok:X.Ok
  os:s.os=X.s₀.os
  bare:AllBare s.gens
  base:Un X.fs X.ex X.HZ H X.s₀.heap s.heap
  loc:∃ m,s.heap.Ns X.env.locals m /\ ∀ (i:Nat) (x:Str) (v:V),X.N[i]?=some x->σ[i]?=some (some v)->Vis X.env.scope x -> ∃ u,a2z v u/\Look X.env s.heap m x u
  cell:∀ x c,X.env.cells.lookup x=some c -> ∃ v,s.heap.IsCell c v
  free:H X.env.locals=none
  freeC:∀ x c,X.env.cells.lookup x=some c->H c=none
  pin:∀ p ∈ X.pn ++ pins,s.heap.get? p.1=some p.2/\H p.1=none/\p.1 ≠ X.env.locals/\p.1 ∉ X.fs /\ ∀ v,p.2.data ≠ .cell v
  hok:HOk X.prog X.w H s.heap
  len:σ.length=X.N.length
  mild:∀ a ∈ X.hs,∃ o u,H a=some (.frz o u)/\Mild o
section
variable {X:Cx} {pins:List (Addr × Obj)} {σ:List (Option V)} {H H':Hp} {s:Shared} {h':Heap}
theorem Cx.Ok.nofr (ok:X.Ok) {b:Addr} {o:Obj} (e:X.base.get? b=some o):b ∉ X.fs:=fun hb=>by
  have:=(ok.funs.mem hb).1
  rw [e] at this; cases this
theorem Inv.bs (I:Inv X pins σ H s):∀ b o,X.base.get? b=some o->s.heap.get? b=some o/\H b=none:=fun b o e=>
  ⟨I.base.keep b o (I.ok.bs b o e).1 (I.ok.bs b o e).2 (I.ok.nofr e) (I.ok.noex b o e),I.base.free b o (I.ok.bs b o e).1 (I.ok.bs b o e).2 (I.ok.noex b o e)⟩
theorem Inv.qu (I:Inv X pins σ H s):Qu X.A s.heap:=by
  rcases I.ok.hq with e | ⟨a,ha,e⟩
  . exact .inl e
  . obtain ⟨o,u,g,m⟩:=I.mild a ha
    obtain ⟨ho,_⟩:=(show a2a X.prog X.w H s.heap a (.frz o u) from I.hok a _ g)
    exact .inr ⟨a,o,e,ho,m⟩
theorem Inv.bk (I:Inv X pins σ H s):∀ b o,X.base.get? b=some o->s.heap.get? b=some o:=fun b o e=>(I.bs b o e).1
theorem Inv.mod (I:Inv X pins σ H s):Mod X.K X.mg X.base:=I.ok.mod
theorem Inv.kIn (I:Inv X pins σ H s):X.K.In s.heap:=I.ok.mod.kin.keeps I.bk
theorem Inv.lt (I:Inv X pins σ H s):X.env.locals < s.heap.objs.size:=let ⟨_,hn,_⟩:=I.loc; hn.lt
theorem Inv.sz (I:Inv X pins σ H s):X.s₀.heap.objs.size<=s.heap.objs.size:=Nat.le_trans I.ok.above (Nat.le_of_lt I.lt)
theorem Inv.nofs (I:Inv X pins σ H s) {a:Addr} (h:s.heap.objs.size<=a):a ∉ X.fs:=fun hb=>by
  obtain ⟨_,o,ho,_⟩:=I.ok.funs.mem hb
  exact absurd (Nat.lt_of_lt_of_le (Heap.lt_size ho) (Nat.le_trans I.sz h)) (Nat.lt_irrefl _)
theorem Inv.cne (I:Inv X pins σ H s):∀ x c,X.env.cells.lookup x=some c->c ≠ X.env.locals:=fun x c e z=>by
  obtain ⟨v,o,ho,hd⟩:=I.cell x c e
  obtain ⟨m,⟨o',es,ep,ho',hd',_⟩,_⟩:=I.loc
  rw [z,ho'] at ho; cases ho; rw [hd'] at hd; cases hd
theorem Inv.funs (I:Inv X pins σ H s):s.heap.FunFrames X.base X.outer:=by
  have all:∀ (l:List Env),(∀ b ∈ frs l,b ∈ X.fs)->X.s₀.heap.FunFrames X.base l->s.heap.FunFrames X.base l:=by
    intro l
    induction l with
    | nil=>intro _ _; trivial
    | cons env r ih=>
      intro hs hl
      obtain ⟨hk,⟨L,o,hf,hn,ho,hd⟩,hr⟩:=hl
      have hL:L ∈ X.fs:=hs L (by unfold frs; rw [List.filterMap_cons,hf]; exact List.mem_cons_self)
      obtain ⟨sl,e⟩:=I.base.slot L o ho (I.ok.frf L hL) hL fun z=>I.ok.exfs L z hL
      exact ⟨hk,⟨L,_,hf,hn,e,hd⟩,ih (fun b hb=>hs b (by unfold frs; rw [List.filterMap_cons,hf]; exact List.mem_cons_of_mem _ hb)) hr⟩
  exact all X.outer (fun _ hb=>hb) I.ok.funs
theorem Inv.stack (I:Inv X pins σ H s):s.heap.FunFrames X.base X.stack:=by
  rcases I.ok.stk with e | ⟨e,hf⟩
  . rw [e]; exact I.funs
  . rw [e]
    obtain ⟨m,hn,_⟩:=I.loc
    refine .cons (by rw [I.ok.kind]; decide) hf hn ?_ I.funs
    exact Heap.get?_none_of_le (Nat.le_trans I.ok.bsz I.ok.above)
theorem Inv.stkSub (I:Inv X pins σ H s):∀ b ∈ frs X.stack,b ∈ X.env.locals :: X.fs:=fun b hb=>by
  rcases I.ok.stk with e | ⟨e,hf⟩
  . rw [e] at hb; exact List.mem_cons_of_mem _ hb
  . rw [e] at hb
    unfold frs at hb
    rw [List.filterMap_cons,hf] at hb
    exact hb
theorem Inv.stkFree (I:Inv X pins σ H s):∀ b ∈ frs X.stack,H b=none:=fun b hb=>by
  rcases List.mem_cons.mp (I.stkSub b hb) with e | hb
  . rw [e]; exact I.free
  . obtain ⟨_,o,ho,_⟩:=I.ok.funs.mem hb
    exact I.base.free b o ho (I.ok.frf b hb) fun z=>I.ok.exfs b z hb
theorem Inv.step {g':Array GenState} {t':Nat} {d':Drawn} {ch:List Addr} (I:Inv X pins σ H s)
    (hch:∀ b ∈ ch,(b ∈ X.ex \/ X.s₀.heap.objs.size<=b)/\b ≠ X.env.locals/\(∀ x c,X.env.cells.lookup x=some c->c ≠ b) /\ ∀ p ∈ X.pn ++ pins,p.1 ≠ b)
    (keep:∀ b o,b ≠ X.env.locals->b ∉ X.fs->b ∉ ch->s.heap.get? b=some o->H b=none->h'.get? b=some o)
    (slot:∀ b o,b ≠ X.env.locals->b ∈ X.fs->b ∉ ch->s.heap.get? b=some o->H b=none -> ∃ sl,h'.get? b=some { o with slots:=sl }) (free:∀ b o,b ∉ ch->s.heap.get? b=some o->H b=none->H' b=none)
    (there:∀ b o,b ∉ ch->s.heap.get? b=some o -> ∃ o',h'.get? b=some o')
    (tups:∀ b xs,H b=some (.tup xs)->H' b=some (.tup xs)) (frzs:∀ b o u,H b=some (.frz o u)->H' b=some (.frz o u)) (tbls:∀ b ps,H b=some (.tbl ps) -> ∃ more,H' b=some (.tbl (ps ++ more)))
    (ns:∀ m,s.heap.Ns X.env.locals m->h'.Ns X.env.locals m) (hok:HOk X.prog X.w H' h') (hg:AllBare g'):
    Inv X pins σ H' { s with heap:=h',gens:=g',drawn:=d',toks:=t' }:=by
  have neL:∀ b o,X.s₀.heap.get? b=some o->b ≠ X.env.locals:=fun b o e=>Nat.ne_of_lt (Nat.lt_of_lt_of_le (Heap.lt_size e) I.ok.above)
  have neC:∀ b o,X.s₀.heap.get? b=some o->b ∉ X.ex->b ∉ ch:=fun b o e hx hb=>by
    rcases (hch b hb).1 with z | z
    . exact hx z
    . exact absurd (Nat.lt_of_lt_of_le (Heap.lt_size e) z) (Nat.lt_irrefl _)
  have cellK:∀ x c,X.env.cells.lookup x=some c -> ∀ v,s.heap.IsCell c v->h'.IsCell c v:=fun x c e v ⟨o,ho,hd⟩=>by
    have nch:c ∉ ch:=fun z=>(hch c z).2.2.1 x c e rfl
    by_cases hc:c ∈ X.fs
    . obtain ⟨sl,q⟩:=slot c o (I.cne x c e) hc nch ho (I.freeC x c e)
      exact ⟨_,q,hd⟩
    . exact ⟨o,keep c o (I.cne x c e) hc nch ho (I.freeC x c e),hd⟩
  refine ⟨I.ok,I.os,hg,⟨fun b o e n hb hx=>?_,fun b o e n hb hx=>?_,fun b o e n hx=>?_,fun b o e hx=>?_,fun b xs e=>tups b xs (I.base.tups b xs e),fun b o xs e=>frzs b o xs (I.base.frzs b o xs e),fun b ps e=>?_⟩,?_,fun x c e=>?_,?_,fun x c e=>?_,fun p hp=>?_,hok,I.len,fun a ha=>let ⟨o,u,g,m⟩:=I.mild a ha; ⟨o,u,frzs a o u g,m⟩⟩
  . exact keep b o (neL b o e) hb (neC b o e hx) (I.base.keep b o e n hb hx) (I.base.free b o e n hx)
  . obtain ⟨sl,e1⟩:=I.base.slot b o e n hb hx
    obtain ⟨sl',e2⟩:=slot b _ (neL b o e) hb (neC b o e hx) e1 (I.base.free b o e n hx)
    exact ⟨sl',e2⟩
  . obtain ⟨o',e1⟩:=I.base.there b o e hx
    exact free b o' (neC b o e hx) e1 (I.base.free b o e n hx)
  . obtain ⟨o',e1⟩:=I.base.there b o e hx
    exact there b o' (neC b o e hx) e1
  . obtain ⟨m1,e1⟩:=I.base.tbls b ps e
    obtain ⟨m2,e2⟩:=tbls b _ e1
    exact ⟨m1 ++ m2,by rw [e2,Array.append_assoc]⟩
  . obtain ⟨m,hn,hl⟩:=I.loc
    refine ⟨m,ns m hn,fun i x v e1 e2 e3=>?_⟩
    obtain ⟨u,r,l⟩:=hl i x v e1 e2 e3
    refine ⟨u,r,?_⟩
    rcases l with l | ⟨k,c,e,z⟩
    . exact .inl l
    . exact .inr ⟨k,c,e,cellK x c e _ z⟩
  . obtain ⟨v,z⟩:=I.cell x c e
    exact ⟨v,cellK x c e v z⟩
  . obtain ⟨m,⟨o,_,_,ho,_⟩,_⟩:=I.loc
    exact free _ o (fun z=>(hch _ z).2.1 rfl) ho I.free
  . obtain ⟨v,o,ho,hd⟩:=I.cell x c e
    exact free c o (fun z=>(hch c z).2.2.1 x c e rfl) ho (I.freeC x c e)
  . obtain ⟨e,n,ne,nf,d⟩:=I.pin p hp
    have nch:p.1 ∉ ch:=fun z=>(hch p.1 z).2.2.2 p hp rfl
    exact ⟨keep p.1 p.2 ne nf nch e n,free p.1 p.2 nch e n,ne,nf,d⟩
theorem Inv.un {t':Nat} (I:Inv X pins σ H s) (u:Un X.fs [] H H' s.heap h') (hok:HOk X.prog X.w H' h'):Inv X pins σ H' { s with heap:=h',toks:=t' }:=by
  obtain ⟨m,⟨o,es,ep,ho,r⟩,_⟩:=id I.loc
  obtain ⟨sl,hL⟩:=u.any ho I.free (by simp)
  exact I.step (g':=s.gens) (d':=s.drawn) (ch:=[]) (fun _ z=>nomatch z) (fun b o _ hb _ e n=>u.keep b o e n hb (by simp)) (fun b o _ hb _ e n=>u.slot b o e n hb (by simp)) (fun b o _ e n=>u.free b o e n (by simp)) (fun b o _ e=>u.there b o e (by simp)) u.tups u.frzs u.tbls (fun m' hm=>by
    obtain ⟨o',es',ep',ho',r'⟩:=hm
    rw [ho] at ho'; cases ho'
    exact ⟨_,es',ep',hL,r'⟩) hok I.bare
theorem Inv.call {g':Array GenState} {t':Nat} {d':Drawn} {ch:List Addr} (I:Inv X pins σ H s) (u:Un (frs X.stack) ch H H' s.heap h') (hok:HOk X.prog X.w H' h') (hg:AllBare g')
    (hch:∀ b ∈ ch,(b ∈ X.ex \/ X.s₀.heap.objs.size<=b)/\b ≠ X.env.locals/\(∀ x c,X.env.cells.lookup x=some c->c ≠ b) /\ ∀ p ∈ X.pn ++ pins,p.1 ≠ b):
    Inv X pins σ H' { s with heap:=h',gens:=g',drawn:=d',toks:=t' }:=by
  obtain ⟨m,⟨o,es,ep,ho,r⟩,_⟩:=id I.loc
  obtain ⟨sl,hL⟩:=u.any ho I.free fun z=>(hch _ z).2.1 rfl
  exact I.step (ch:=ch) hch (fun b o hL hb hc e n=>u.keep b o e n (fun z=>(List.mem_cons.mp (I.stkSub b z)).elim hL hb) hc) (fun b o _ _ hc e n=>u.any e n hc) (fun b o hc e n=>u.free b o e n hc) (fun b o hc e=>u.there b o e hc) u.tups u.frzs u.tbls (fun m' hm=>by
    obtain ⟨o',es',ep',ho',r'⟩:=hm
    rw [ho] at ho'; cases ho'
    exact ⟨_,es',ep',hL,r'⟩) hok hg
theorem Inv.turned {t':Nat} {it:Addr} (I:Inv X pins σ H s) (k:∀ b o,b ≠ it->s.heap.get? b=some o->h'.get? b=some o) (hn:H it=none) (hL:it ≠ X.env.locals)
    (h1:it ∈ X.ex \/ X.s₀.heap.objs.size<=it) (h2:∀ x c,X.env.cells.lookup x=some c->c ≠ it) (h3:∀ p ∈ X.pn ++ pins,p.1 ≠ it):Inv X pins σ H { s with heap:=h',toks:=t' }:=by
  have nit:∀ b u,H b=some u->b ≠ it:=fun b u e z=>by rw [z,hn] at e; cases e
  refine I.step (g':=s.gens) (d':=s.drawn) (ch:=[it]) (fun b hb=>?_) (fun b o _ _ hc e _=>k b o (fun z=>hc (by simp [z])) e) (fun b o _ _ hc e _=>⟨o.slots,k b o (fun z=>hc (by simp [z])) e⟩) (fun _ _ _ _ n=>n)
    (fun b o hc e=>⟨o,k b o (fun z=>hc (by simp [z])) e⟩) (fun _ _ e=>e) (fun _ _ _ e=>e) (fun b ps e=>⟨#[],by rw [e]; simp⟩) (fun m hm=>?_) (fun b u e=>?_) I.bare
  . have e:b=it:=by simpa using hb
    subst e
    exact ⟨h1,hL,h2,h3⟩
  . obtain ⟨o,es,ep,ho,r⟩:=hm
    exact ⟨o,es,ep,k _ o (Ne.symm hL) ho,r⟩
  . refine (I.hok b u e).stay (fun c v hc q=>k c v ?_ q) (fun _ q=>q) (fun _ _ q=>q) fun _ _ q=>q
    rcases hc with z | z
    . rw [z]; exact nit b u e
    . exact nit c _ z
theorem Inv.tok (I:Inv X pins σ H s) (t:Nat):Inv X pins σ H { s with toks:=t }:=I.un (h':=s.heap) (t':=t) Un.refl I.hok
theorem Inv.kept {t':Nat} (I:Inv X pins σ H s) (k:∀ b u,s.heap.get? b=some u->h'.get? b=some u):Inv X pins σ H { s with heap:=h',toks:=t' }:=I.un (Un.kept k) (I.hok.kept k)
theorem Inv.laid {a:Addr} {o:HO} {t':Nat} (I:Inv X pins σ H s) (k:∀ b u,s.heap.get? b=some u->h'.get? b=some u) (hp:s.heap.objs.size<=a) (new:a2a X.prog X.w (upd H a o) h' a o):
    Inv X pins σ (upd H a o) { s with heap:=h',toks:=t' }:=I.un (Un.laid k hp (I.hok.fresh hp)) (I.hok.laid k hp new)
theorem Inv.write {x e:Addr} {o:HO} {t':Nat} (I:Inv X pins σ H s) (mu:Mut (H x)) (he:e=x \/ H e=some (.own x)) (k:∀ b u,b ≠ e->s.heap.get? b=some u->h'.get? b=some u) (heo:∃ u,h'.get? e=some u)
    (new:a2a X.prog X.w (upd H x o) h' x o):Inv X pins σ (upd H x o) { s with heap:=h',toks:=t' }:=I.un (Un.write mu he k heo) (I.hok.write mu he k heo new)
theorem Inv.pins_of {pins':List (Addr × Obj)} (I:Inv X pins σ H s) (h:∀ p ∈ pins',s.heap.get? p.1=some p.2/\H p.1=none/\p.1 ≠ X.env.locals/\p.1 ∉ X.fs /\ ∀ v,p.2.data ≠ .cell v):Inv X pins' σ H s:=
  ⟨I.ok,I.os,I.bare,I.base,I.loc,I.cell,I.free,I.freeC,fun p hp=>(List.mem_append.mp hp).elim (fun z=>I.pin p (List.mem_append_left _ z)) (h p),I.hok,I.len,I.mild⟩
theorem nodup_ix {N:List Str} (hN:N.Nodup) {i j:Nat} {x:Str} (a:N[i]?=some x) (b:N[j]?=some x):i=j:=by
  obtain ⟨h1,e1⟩:=List.getElem?_eq_some_iff.mp a
  obtain ⟨h2,e2⟩:=List.getElem?_eq_some_iff.mp b
  exact (List.getElem_inj hN).mp (e1.trans e2.symm)
theorem store_ok2 {M:Model} {A:Around} {E:Value->Shared->Prop} {i:Nat} {x:Str} {v:V} {u:Value} {Q:Unit->Shared->Prop} (I:Inv X pins σ H s) (hN:X.N.Nodup) (hi:X.N[i]?=some x) (hx:Loc X.env.scope x) (r:a2z v u)
    (h:∀ s',Inv X pins (σ.set i (some v)) H s'->(∃ a,Heap.SameBut a s.heap s'.heap/\(a=X.env.locals \/ X.env.cells.lookup x=some a))->Q () s') (hf:X.fn x=true \/ X.env.scope.names.lookup x=some .local:=by first | exact .inl rfl | exact .inr rfl | assumption):wpAny M A (storeName X.env x u) Q E s:=by
  obtain ⟨m,hn,hl⟩:=id I.loc
  have hcls:(X.env.scope.kind == .class || (X.env.scope.kind == .module && X.env.locals != X.env.globals))=false:=by rw [I.ok.kind]; rfl
  have hiσ:i < σ.length:=by rw [I.len]; exact (List.getElem?_eq_some_iff.mp hi).1
  have cne:=I.cne
  have tracked:∀ {a:Addr} {h':Heap},(∃ o,s.heap.get? a=some o/\H a=none)->Heap.SameBut a s.heap h'->HOk X.prog X.w H h':=fun {a h'} ha hs b ob e=>by
    obtain ⟨_,_,hfree⟩:=ha
    refine (I.hok b ob e).stay (fun c w' hc q=>(hs.2 c ?_).trans q) (fun _ q=>q) (fun _ _ q=>q) fun _ _ q=>q
    rintro rfl
    rcases hc with rfl | hc
    . rw [hfree] at e; cases e
    . rw [hfree] at hc; cases hc
  rcases hx with hk | hk
  . refine wpAny_storeName_local hk hn (fun h' hn' hs=>?_) hcls
    obtain ⟨oL,_,_,hoL,_⟩:=id hn
    refine h _ ⟨I.ok,I.os,I.bare,⟨fun b o e n hb hx=>?_,fun b o e n hb hx=>?_,I.base.free,fun b o e hx=>?_,I.base.tups,I.base.frzs,I.base.tbls⟩,⟨_,hn',fun j y v' e1 e2 e3=>?_⟩,fun y c e=>?_,I.free,I.freeC,fun p hp=>?_,tracked ⟨oL,hoL,I.free⟩ hs,by simpa using I.len,I.mild⟩ ⟨_,hs,.inl rfl⟩
    . exact (hs.2 b (Nat.ne_of_lt (Nat.lt_of_lt_of_le (Heap.lt_size e) I.ok.above))).trans (I.base.keep b o e n hb hx)
    . obtain ⟨sl,e1⟩:=I.base.slot b o e n hb hx
      exact ⟨sl,(hs.2 b (Nat.ne_of_lt (Nat.lt_of_lt_of_le (Heap.lt_size e) I.ok.above))).trans e1⟩
    . obtain ⟨o',e1⟩:=I.base.there b o e hx
      exact ⟨o',(hs.2 b (Nat.ne_of_lt (Nat.lt_of_lt_of_le (Heap.lt_size e) I.ok.above))).trans e1⟩
    . by_cases hj:j=i
      . subst hj
        rw [hi] at e1; cases e1
        rw [List.getElem?_set_self hiσ] at e2
        cases e2
        exact ⟨u,r,.inl ⟨hk,by simp⟩⟩
      . rw [List.getElem?_set_ne (Ne.symm hj)] at e2
        obtain ⟨u',r',q⟩:=hl j y v' e1 e2 e3
        refine ⟨u',r',?_⟩
        rcases q with ⟨k,e⟩ | ⟨k,c,e,z⟩
        . refine .inl ⟨k,?_⟩
          have:y ≠ x:=fun e=>hj (nodup_ix hN e1 (e ▸ hi))
          simp [this,e]
        . exact .inr ⟨k,c,e,z.sameBut hs (cne y c e)⟩
    . obtain ⟨w',z⟩:=I.cell y c e
      exact ⟨w',z.sameBut hs (cne y c e)⟩
    . obtain ⟨e,n,ne,nf,d⟩:=I.pin p hp
      exact ⟨(hs.2 p.1 ne).trans e,n,ne,nf,d⟩
  . have hfn:X.fn x=true:=by
      rcases hf with z | z
      . exact z
      . rw [z] at hk; cases hk
    obtain ⟨c,hc⟩:=I.ok.has x (.inl hk)
    obtain ⟨w',z⟩:=I.cell x c hc
    refine wpAny_storeName_cell I.ok.kind hk hc z (fun h' hc' hs=>?_)
    obtain ⟨oc,hoc,hocd⟩:=id z
    refine h { s with heap:=h' } ⟨I.ok,I.os,I.bare,⟨fun b o e n hb hx=>?_,fun b o e n hb hx=>?_,I.base.free,fun b o e hx=>?_,I.base.tups,I.base.frzs,I.base.tbls⟩,⟨m,hn.sameBut hs (Ne.symm (cne x c hc)),fun j y v' e1 e2 e3=>?_⟩,fun y c' e=>?_,I.free,I.freeC,fun p hp=>?_,tracked ⟨oc,hoc,I.freeC x c hc⟩ hs,by simpa using I.len,I.mild⟩ ⟨c,hs,.inr hc⟩
    . exact (hs.2 b (Nat.ne_of_lt (Nat.lt_of_lt_of_le (Heap.lt_size e) (I.ok.cab x c hfn hc)))).trans (I.base.keep b o e n hb hx)
    . obtain ⟨sl,e1⟩:=I.base.slot b o e n hb hx
      exact ⟨sl,(hs.2 b (Nat.ne_of_lt (Nat.lt_of_lt_of_le (Heap.lt_size e) (I.ok.cab x c hfn hc)))).trans e1⟩
    . obtain ⟨o',e1⟩:=I.base.there b o e hx
      exact ⟨o',(hs.2 b (Nat.ne_of_lt (Nat.lt_of_lt_of_le (Heap.lt_size e) (I.ok.cab x c hfn hc)))).trans e1⟩
    . by_cases hj:j=i
      . subst hj
        rw [hi] at e1; cases e1
        rw [List.getElem?_set_self hiσ] at e2
        cases e2
        exact ⟨u,r,.inr ⟨.inl hk,c,hc,hc'⟩⟩
      . rw [List.getElem?_set_ne (Ne.symm hj)] at e2
        obtain ⟨u',r',q⟩:=hl j y v' e1 e2 e3
        refine ⟨u',r',?_⟩
        rcases q with q | ⟨k,c',e,z'⟩
        . exact .inl q
        . refine .inr ⟨k,c',e,z'.sameBut hs ?_⟩
          rintro rfl
          exact hj (nodup_ix hN e1 (I.ok.inj _ _ _ e hc ▸ hi))
    . by_cases hcc:c'=c
      . subst hcc; exact ⟨_,hc'⟩
      . obtain ⟨w2,z2⟩:=I.cell y c' e
        exact ⟨w2,z2.sameBut hs hcc⟩
    . obtain ⟨e,n,ne,nf,d⟩:=I.pin p hp
      refine ⟨(hs.2 p.1 ?_).trans e,n,ne,nf,d⟩
      intro q
      rw [q,hoc] at e
      have q':oc=p.2:=Option.some.inj e
      exact d w' (by rw [<- q']; exact hocd)
theorem store_ok {M:Model} {A:Around} {E:Value->Shared->Prop} {i:Nat} {x:Str} {v:V} {u:Value} {Q:Unit->Shared->Prop} (I:Inv X pins σ H s) (hN:X.N.Nodup) (hi:X.N[i]?=some x) (hx:Loc X.env.scope x) (r:a2z v u)
    (h:∀ s',Inv X pins (σ.set i (some v)) H s'->Q () s') (hf:X.fn x=true \/ X.env.scope.names.lookup x=some .local:=by first | exact .inl rfl | exact .inr rfl | assumption):wpAny M A (storeName X.env x u) Q E s:=
  store_ok2 I hN hi hx r (fun s' I' _=>h s' I') hf
theorem Inv.call' {s':Shared} {ch:List Addr} (I:Inv X pins σ H s) (ho:s'.os=s.os) (u:Un (frs X.stack) ch H H' s.heap s'.heap) (hok:HOk X.prog X.w H' s'.heap) (hg:AllBare s'.gens)
    (hch:∀ b ∈ ch,(b ∈ X.ex \/ X.s₀.heap.objs.size<=b)/\b ≠ X.env.locals/\(∀ x c,X.env.cells.lookup x=some c->c ≠ b) /\ ∀ p ∈ X.pn ++ pins,p.1 ≠ b):Inv X pins σ H' s':=by
  obtain ⟨h',g',d',t',o'⟩:=s'
  have e:o'=s.os:=ho
  subst e
  exact I.call (g':=g') (t':=t') (d':=d') u hok hg hch
end
abbrev XK:=Value->Option Addr->Hp->Prop
noncomputable abbrev St:=List (Option V)
abbrev VK:=V->Hp->Prop
abbrev TE:=St->Hp->VK->Prop
abbrev TT:=St->Hp->(Bool->Hp->Prop)->Prop
abbrev TA:=St->Hp->(List V->Hp->Prop)->Prop
structure Ends where
  nx:St->Hp->Prop
  rt:VK
  bk:St->Hp->Prop:=fun _ _=>False
  ct:St->Hp->Prop:=fun _ _=>False
abbrev TS:=Ends->St->Hp->Prop
inductive EP (X:Cx) (pins:List (Addr × Obj)) (σ:St) (Q:VK) (u:Value) (s':Shared):Prop
  | mk (v:V) (H':Hp) (I:Inv X pins σ H' s') (r:a2z v u) (q:Q v H')
inductive TP (X:Cx) (pins:List (Addr × Obj)) (σ:St) (Q:Bool->Hp->Prop) (b:Bool) (s':Shared):Prop
  | mk (H':Hp) (I:Inv X pins σ H' s') (q:Q b H')
inductive AP (X:Cx) (pins:List (Addr × Obj)) (σ:St) (Q:List V->Hp->Prop) (us:List Value) (s':Shared):Prop
  | mk (vs:List V) (H':Hp) (I:Inv X pins σ H' s') (r:a1w vs us) (q:Q vs H')
inductive NP (X:Cx) (pins:List (Addr × Obj)) (P:St->Hp->Prop) (s':Shared):Prop
  | mk (σ':St) (H':Hp) (I:Inv X pins σ' H' s') (q:P σ' H')
inductive RP (X:Cx) (pins:List (Addr × Obj)) (P:VK) (u:Value) (s':Shared):Prop
  | mk (v:V) (σ':St) (H':Hp) (I:Inv X pins σ' H' s') (r:a2z v u) (q:P v H')
def SP (X:Cx) (pins:List (Addr × Obj)) (D:Ends) (f:Flow) (s':Shared):Prop:=
  match f with
  | .next=>NP X pins D.nx s'
  | .brk=>NP X pins D.bk s'
  | .cont=>NP X pins D.ct s'
  | .ret u=>RP X pins D.rt u s'
def PE (X:Cx) (e:Expr) (t:TE):Prop:=
  ∀ (pins:List (Addr × Obj)) (s:Shared) (σ:St) (H:Hp) (Q:VK),Inv X pins σ H s->t σ H Q->wpAny (model X.prog X.w) X.A (eval e X.env) (EP X pins σ Q) X.xe s
def PT (X:Cx) (e:Expr) (t:TT):Prop:=
  ∀ (pins:List (Addr × Obj)) (s:Shared) (σ:St) (H:Hp) (Q:Bool->Hp->Prop),Inv X pins σ H s->t σ H Q->wpAny (model X.prog X.w) X.A (isTrue e X.env (eval e X.env)) (TP X pins σ Q) X.xe s
def PW (X:Cx) (e:Expr) (t:TT):Prop:=
  ∀ (whole:Sem Value) (pins:List (Addr × Obj)) (s:Shared) (σ:St) (H:Hp) (Q:Bool->Hp->Prop),Inv X pins σ H s->t σ H Q->wpAny (model X.prog X.w) X.A (isTrue e X.env whole) (TP X pins σ Q) X.xe s
theorem PW.pt {X:Cx} {e:Expr} {t:TT} (h:PW X e t):PT X e t:=h _
def PA (X:Cx) (es:List Expr) (t:TA):Prop:=
  ∀ (pos:Pos) (pins:List (Addr × Obj)) (s:Shared) (σ:St) (H:Hp) (Q:List V->Hp->Prop),Inv X pins σ H s->t σ H Q->wpAny (model X.prog X.w) X.A (spliced (backTo pos (starEach es X.env))) (AP X pins σ Q) X.xe s
def PS (X:Cx) (st:Stmt) (t:TS):Prop:=
  ∀ (pins:List (Addr × Obj)) (s:Shared) (σ:St) (H:Hp) (D:Ends),Inv X pins σ H s->t D σ H->wpAny (model X.prog X.w) X.A (exec st X.env) (SP X pins D) X.xe s
def PSs (X:Cx) (st:List Stmt) (t:TS):Prop:=
  ∀ (pins:List (Addr × Obj)) (s:Shared) (σ:St) (H:Hp) (D:Ends),Inv X pins σ H s->t D σ H->wpAny (model X.prog X.w) X.A (execs st X.env) (SP X pins D) X.xe s
theorem thn {α:Type} {t:Sem α} {Q Q':α->Shared->Prop} {M:Model} {A:Around} {E:Value->Shared->Prop} {s:Shared} (h:wpAny M A t Q E s) (hQ:∀ a s,Q a s->Q' a s):wpAny M A t Q' E s:=wpAny_mono h hQ fun _ _ x=>x
end L2
namespace L2
open PySem PySem.Spec PyProof.Rows
section
variable {X:Cx}
def tVar (i:Nat):TE:=fun σ H Q=>∃ v,σ[i]?=some (some v)/\Q v H
def tC (v:V):TE:=fun _ H Q=>Q v H
theorem pe_var {i:Nat} {x:Str} {pos:Pos} (hN:X.N[i]?=some x) (hv:Vis X.env.scope x) (hd:(x == ("__debug__" : Str))=false:=by decide) (hcd:(x == ("__classdict__" : Str))=false:=by decide):PE X (.Name x pos) (tVar i):=by
  intro pins s σ H Q I h
  obtain ⟨v,e,h⟩:=h
  obtain ⟨m,hn,hl⟩:=I.loc
  obtain ⟨u,r,l⟩:=hl i x v hN e hv
  have fin:EP X pins σ Q u s:=⟨v,H,I,r,h⟩
  rcases l with ⟨hk,hm⟩ | ⟨hk,c,hc,hcell⟩
  . exact wpAny_Name (wpAny_loadName_local I.ok.kind hk hn hm fin) hd
  . rcases hk with hk | hk
    . exact wpAny_Name (wpAny_loadName_cell I.ok.kind hk hc hcell fin) hd
    . exact wpAny_Name (wpAny_loadName_free I.ok.kind hk hc hcell fin hcd) hd
theorem pe_int {i j pos}:PE X (.Constant (.int i) j pos) (tC (.int i)):=fun _ _ _ H _ I h=>wpAny_Constant_int ⟨.int i,H,I.tok _,⟨_,rfl⟩,h⟩
theorem pe_bl {b j pos}:PE X (.Constant (.bool b) j pos) (tC (.bl b)):=fun _ _ _ H _ I h=>Constant_bool ⟨.bl b,H,I,rfl,h⟩
theorem pe_non {j pos}:PE X (.Constant .none j pos) (tC .non):=fun _ _ _ H _ I h=>Constant_none ⟨.non,H,I,rfl,h⟩
def Gl (X:Cx) (x:Str):Prop:=X.env.kindOf x=some .globalImplicit
theorem ld_glob {E:Value->Shared->Prop} {pins:List (Addr × Obj)} {s:Shared} {σ:St} {H:Hp} {x:Str} {u:Value} {pos:Pos} {Q:Value->Shared->Prop} (I:Inv X pins σ H s) (hg:Gl X x) (hm:X.mg x=some u) (h:Q u s)
    (hd:(x == ("__debug__" : Str))=false:=by decide):wpAny (model X.prog X.w) X.A (eval (.Name x pos) X.env) Q E s:=
  Calls.Name_function_global I.ok.kind hg (Calls.loadGlobal_global (by rw [I.ok.glob]; exact I.mod.glob.keeps I.bk) hm h) hd
theorem a6E {E:Value->Shared->Prop} {pins:List (Addr × Obj)} {s:Shared} {σ:St} {H:Hp} {x:Str} {u:Value} {pos:Pos} {Q:Value->Shared->Prop} (I:Inv X pins σ H s) (hg:Gl X x) (hm:X.mg x=none) (hv:bootBuiltins x=some u) (h:Q u s)
    (hn:x ≠ "__name__" := by decide) (hd:(x == ("__debug__" : Str))=false:=by decide):wpAny (model X.prog X.w) X.A (eval (.Name x pos) X.env) Q E s:=by
  obtain ⟨mb,h1,h2⟩:=I.mod.blt
  exact Calls.Name_function_global I.ok.kind hg (Calls.loadGlobal_builtin (by rw [I.ok.glob]; exact I.mod.glob.keeps I.bk) hm (by rw [I.ok.blt]; exact h1.keeps I.bk) ((h2 x hn).trans hv) h) hd
theorem pe_glob {x:Str} {v:V} {u:Value} {pos:Pos} (hg:Gl X x) (hm:X.mg x=some u) (r:a2z v u) (hd:(x == ("__debug__" : Str))=false:=by decide):PE X (.Name x pos) (tC v):=
  fun _ _ _ H _ I h=>ld_glob I hg hm ⟨v,H,I,r,h⟩ hd
theorem a3Z {x:Str} {v:V} {u:Value} {pos:Pos} (hg:Gl X x) (hm:X.mg x=none) (hv:bootBuiltins x=some u) (r:a2z v u) (hn:x ≠ "__name__" := by decide) (hd:(x == ("__debug__" : Str))=false:=by decide):PE X (.Name x pos) (tC v):=
  fun _ _ _ H _ I h=>a6E I hg hm hv ⟨v,H,I,r,h⟩ hn hd
variable {a b:Expr} {ta tb:TE} {pos:Pos}
variable {tA tB':TT} {rest:List Expr}
def tAnd (t u:TT):TT:=fun σ H Q=>t σ H fun c H1=>if c=true then u σ H1 Q else Q false H1
def tOr (t u:TT):TT:=fun σ H Q=>t σ H fun c H1=>if c=true then Q true H1 else u σ H1 Q
def tNot (t:TT):TT:=fun σ H Q=>t σ H fun c H1=>Q (!c) H1
theorem pw_and1 (ha:PT X a tA):PW X (.BoolOp .And [a] pos) tA:=by
  intro wh pins s σ H Q I h
  refine isTrue_and (thn (ha pins s σ H Q I h) fun c s1 e=>?_)
  cases c with
  | true=>exact isTrue_and_nil e
  | false=>exact e
theorem pw_or1 (ha:PT X a tA):PW X (.BoolOp .Or [a] pos) tA:=by
  intro wh pins s σ H Q I h
  refine isTrue_or (thn (ha pins s σ H Q I h) fun c s1 e=>?_)
  cases c with
  | false=>exact isTrue_or_nil e
  | true=>exact e
theorem pw_and (ha:PT X a tA) (hb:PW X (.BoolOp .And (b :: rest) pos) tB'):PW X (.BoolOp .And (a :: b :: rest) pos) (tAnd tA tB'):=by
  intro wh pins s σ H Q I h
  refine isTrue_and (thn (ha pins s σ H _ I h) fun c s1 ⟨H1,I1,q1⟩=>?_)
  cases c with
  | true=>exact hb wh pins s1 σ H1 Q I1 q1
  | false=>exact ⟨H1,I1,q1⟩
theorem pw_or (ha:PT X a tA) (hb:PW X (.BoolOp .Or (b :: rest) pos) tB'):PW X (.BoolOp .Or (a :: b :: rest) pos) (tOr tA tB'):=by
  intro wh pins s σ H Q I h
  refine isTrue_or (thn (ha pins s σ H _ I h) fun c s1 ⟨H1,I1,q1⟩=>?_)
  cases c with
  | true=>exact ⟨H1,I1,q1⟩
  | false=>exact hb wh pins s1 σ H1 Q I1 q1
theorem pt_not (ha:PT X a tA):PT X (.UnaryOp .Not a pos) (tNot tA):=by
  intro pins s σ H Q I h
  exact isTrue_not (thn (ha pins s σ H (fun c H1=>Q (!c) H1) I h) fun c s' z=>by cases z; exact ⟨_,by assumption,by assumption⟩)
def tAndV (ta tb:TE):TE:=fun σ H Q=>ta σ H fun x H1=>∃ c,x=.bl c/\if c=true then tb σ H1 Q else Q (.bl false) H1
def tOrV (ta tb:TE):TE:=fun σ H Q=>ta σ H fun x H1=>∃ c,x=.bl c/\if c=true then Q (.bl true) H1 else tb σ H1 Q
def tNotV (ta:TE):TE:=fun σ H Q=>ta σ H fun x H1=>∃ c,x=.bl c/\Q (.bl (!c)) H1
theorem pe_one {op} {t:TE} (h:PE X a t):PE X (.BoolOp op [a] pos) t:=fun pins s σ H Q I hw=>BoolOp_one (h pins s σ H Q I hw)
theorem pe_and (ha:PE X a ta) (hb:PE X (.BoolOp .And (b :: rest) pos) tb):PE X (.BoolOp .And (a :: b :: rest) pos) (tAndV ta tb):=by
  intro pins s σ H Q I h
  refine BoolOp_and (thn (ha pins s σ H _ I h) fun v s1 ⟨x,H1,I1,r1,q1⟩=>?_)
  obtain ⟨c,rfl,q1⟩:=q1
  cases r1
  refine wpAny_truthy_bool ?_
  cases c with
  | true=>exact hb pins s1 σ H1 Q I1 q1
  | false=>exact ⟨.bl false,H1,I1,rfl,q1⟩
theorem pe_or (ha:PE X a ta) (hb:PE X (.BoolOp .Or (b :: rest) pos) tb):PE X (.BoolOp .Or (a :: b :: rest) pos) (tOrV ta tb):=by
  intro pins s σ H Q I h
  refine BoolOp_or (thn (ha pins s σ H _ I h) fun v s1 ⟨x,H1,I1,r1,q1⟩=>?_)
  obtain ⟨c,rfl,q1⟩:=q1
  cases r1
  refine wpAny_truthy_bool ?_
  cases c with
  | false=>exact hb pins s1 σ H1 Q I1 q1
  | true=>exact ⟨.bl true,H1,I1,rfl,q1⟩
theorem pe_not (ha:PE X a ta):PE X (.UnaryOp .Not a pos) (tNotV ta):=by
  intro pins s σ H Q I h
  refine UnaryOp_ (thn (ha pins s σ H _ I h) fun v s1 ⟨x,H1,I1,r1,q1⟩=>?_)
  obtain ⟨c,rfl,q1⟩:=q1
  cases r1
  exact not_of (wpAny_truthy_bool ⟨.bl (!c),H1,I1,rfl,q1⟩)
end
end L2
namespace L2
open PySem PySem.Spec PyProof.Rows
def SqL (K:W.Frag) (H:Hp) (a:Addr) (xs:List V):Prop:=
  Rd H a (.lst xs) \/
    ∃ (o:Obj) (its:Array Value) (n:Nat),K.lookup a=some o/\o.cls=.type "list" /\ o.dict=none/\o.data=.seq its n/\its.size<=sizeLine/\a1w xs its.toList
def SqT (K:W.Frag) (H:Hp) (a:Addr) (xs:List V):Prop:=
  Rd H a (.tup xs) \/
    ∃ (o:Obj) (its:Array Value) (n:Nat),K.lookup a=some o/\o.cls=.type "tuple" /\ o.data=.seq its n/\its.size<=sizeLine/\a1w xs its.toList
noncomputable def absV:Value->Option V
  | .none=>some .non
  | .bool b=>some (.bl b)
  | .int i _=>some (.int i)
  | .str x _=>some (.str x)
  | .bytes b _=>some (.byt b)
  | .float b _=>some (.flt b)
  | .ref a=>some (.ref a)
  | .type n=>some (.ty n)
  | _=>none
theorem a2z.abs {x:V} {u:Value} (r:a2z x u):absV u=some x:=by
  cases x with
  | non=>cases r; rfl
  | bl _=>cases r; rfl
  | int _=>obtain ⟨t,rfl⟩:=r; rfl
  | str _=>obtain ⟨t,rfl⟩:=r; rfl
  | byt _=>obtain ⟨t,rfl⟩:=r; rfl
  | flt _=>obtain ⟨t,rfl⟩:=r; rfl
  | ref _=>cases r; rfl
  | ty _=>cases r; rfl
theorem a2z.inj {x y:V} {u:Value} (r:a2z x u) (q:a2z y u):x=y:=Option.some.inj (r.abs.symm.trans q.abs)
theorem a1w.inj:∀ {xs ys:List V} {us:List Value},a1w xs us->a1w ys us->xs=ys
  | _,_,_,.nil,.nil=>rfl
  | _,_,_,.cons r t,.cons r' t'=>by rw [r.inj r',a1w.inj t t']
section
variable {X:Cx} {pins:List (Addr × Obj)} {σ:St} {H:Hp} {s:Shared} {a:Addr} {xs ys:List V}
theorem SqL.of {K:W.Frag} (h:H a=some (.lst xs)):SqL K H a xs:=.inl (.inl h)
theorem SqT.of {K:W.Frag} (h:H a=some (.tup xs)):SqT K H a xs:=.inl (.inl h)
theorem Inv.list (I:Inv X pins σ H s) (h:SqL X.K H a xs):∃ its:List Value,a1w xs its/\PlainL s.heap a its.toArray/\xs.length<=sizeLine:=by
  rcases h with h | ⟨o,its,n,hk,hc,hd,hs,hz,r⟩
  . obtain ⟨z,its,n,r,e⟩:=h.ok I.hok
    exact ⟨its,r,⟨_,n,e,rfl,rfl,rfl⟩,z⟩
  . refine ⟨its.toList,r,⟨o,n,I.kIn a o hk,hc,hd,by simpa using hs⟩,?_⟩
    have e:=r.length
    simp only [Array.length_toList] at e
    ac_rfl
theorem Inv.tuple (I:Inv X pins σ H s) (h:SqT X.K H a xs):∃ its:List Value,a1w xs its/\IsTup s.heap a its.toArray/\xs.length<=sizeLine:=by
  rcases h with h | ⟨o,its,n,hk,hc,hs,hz,r⟩
  . obtain ⟨z,its,r,p⟩:=h.ok I.hok
    exact ⟨its,r,p,z⟩
  . refine ⟨its.toList,r,⟨o,I.kIn a o hk,hc,n,by simpa using hs⟩,?_⟩
    have e:=r.length
    simp only [Array.length_toList] at e
    ac_rfl
theorem Inv.list_inj (I:Inv X pins σ H s) (h:SqL X.K H a xs) (h':SqL X.K H a ys):xs=ys:=by
  obtain ⟨its,r,⟨o,n,e,_,_,d⟩,_⟩:=I.list h
  obtain ⟨its',r',⟨o',n',e',_,_,d'⟩,_⟩:=I.list h'
  rw [e] at e'; cases e'
  rw [d] at d'
  injection d' with d1 _
  have:its=its':=by simpa using congrArg Array.toList d1
  subst this
  exact r.inj r'
theorem Inv.tuple_inj (I:Inv X pins σ H s) (h:SqT X.K H a xs) (h':SqT X.K H a ys):xs=ys:=by
  obtain ⟨its,r,⟨o,e,_,n,d⟩,_⟩:=I.tuple h
  obtain ⟨its',r',⟨o',e',_,n',d'⟩,_⟩:=I.tuple h'
  rw [e] at e'; cases e'
  rw [d] at d'
  injection d' with d1 _
  have:its=its':=by simpa using congrArg Array.toList d1
  subst this
  exact r.inj r'
end
noncomputable abbrev Cx.wish (X:Cx) (E:Value->Shared->Prop):Cx:={ X with xe:=E }
noncomputable abbrev Cx.nox (X:Cx):Cx:=X.wish fun _ _=>False
theorem Cx.Ok.wish {X:Cx} (ok:X.Ok) (E:Value->Shared->Prop):(X.wish E).Ok:=
  ⟨ok.mod,ok.kind,ok.glob,ok.blt,ok.above,ok.inj,ok.has,ok.cab,ok.hd,ok.frames,ok.stk,ok.exf,ok.bs,ok.bsz,ok.noex,ok.exfs,ok.funs,ok.frf,ok.hq⟩
theorem Cx.Ok.unwish {X:Cx} {E:Value->Shared->Prop} (ok:(X.wish E).Ok):X.Ok:=
  ⟨ok.mod,ok.kind,ok.glob,ok.blt,ok.above,ok.inj,ok.has,ok.cab,ok.hd,ok.frames,ok.stk,ok.exf,ok.bs,ok.bsz,ok.noex,ok.exfs,ok.funs,ok.frf,ok.hq⟩
section
variable {X:Cx} {pins:List (Addr × Obj)} {σ:St} {H:Hp} {s:Shared} {E:Value->Shared->Prop}
theorem Inv.wish (I:Inv X pins σ H s) (E:Value->Shared->Prop):Inv (X.wish E) pins σ H s:=⟨I.ok.wish E,I.os,I.bare,I.base,I.loc,I.cell,I.free,I.freeC,I.pin,I.hok,I.len,I.mild⟩
theorem Inv.unwish (I:Inv (X.wish E) pins σ H s):Inv X pins σ H s:=⟨I.ok.unwish,I.os,I.bare,I.base,I.loc,I.cell,I.free,I.freeC,I.pin,I.hok,I.len,I.mild⟩
theorem SP.unwish {D:Ends} {f:Flow} {s':Shared} (h:SP (X.wish E) pins D f s'):SP X pins D f s':=by
  cases f with
  | next=>obtain ⟨σ',H',I,q⟩:=h; exact ⟨σ',H',I.unwish,q⟩
  | brk=>obtain ⟨σ',H',I,q⟩:=h; exact ⟨σ',H',I.unwish,q⟩
  | cont=>obtain ⟨σ',H',I,q⟩:=h; exact ⟨σ',H',I.unwish,q⟩
  | ret u=>obtain ⟨v,σ',H',I,r,q⟩:=h; exact ⟨v,σ',H',I.unwish,r,q⟩
theorem PSs.nox {st:List Stmt} {t:TS} (h:PSs X.nox st t):PSs X st t:=fun pins s σ H D I hw=>
  wpAny_mono (h pins s σ H D (I.wish _) hw) (fun _ _ q=>q.unwish) fun _ _ z=>False.elim z
end
section
variable {X:Cx} {st:Stmt} {rest:List Stmt} {t u:TS} {e:Expr} {te:TE} {pos:Pos}
def tNext:TS:=fun D σ H=>D.nx σ H
def tSeq (t u:TS):TS:=fun D σ H=>t { D with nx:=u D } σ H
theorem pss_nil:PSs X [] tNext:=fun _ _ σ H _ I h=>wpAny_execs_nil ⟨σ,H,I,h⟩
theorem pss_cons (h1:PS X st t) (h2:PSs X rest u):PSs X (st :: rest) (tSeq t u):=by
  intro pins s σ H D I h
  refine wpAny_execs_cons (thn (h1 pins s σ H { D with nx:=u D } I h) fun f s1 q=>?_)
  cases f with
  | next=>
    obtain ⟨σ',H',I',q⟩:=q
    exact h2 pins s1 σ' H' D I' q
  | ret v=>exact q
  | brk=>exact q
  | cont=>exact q
theorem pss_one (h1:PS X st t):PSs X [st] t:=by
  intro pins s σ H D I h
  refine wpAny_execs_cons (thn (h1 pins s σ H D I h) fun f s1 q=>?_)
  cases f with
  | next=>exact wpAny_execs_nil q
  | ret v=>exact q
  | brk=>exact q
  | cont=>exact q
def tBreak:TS:=fun D σ H=>D.bk σ H
theorem ps_break:PS X (.Break pos) tBreak:=fun _ _ σ H _ I h=>wpAny_Break ⟨σ,H,I,h⟩
theorem Inv.quiet {pins:List (Addr × Obj)} {σ:St} {H:Hp} {s:Shared} (I:Inv X pins σ H s):interactive X.env=false:=by simp [interactive,I.ok.kind]
def tDrop (te:TE):TS:=fun D σ H=>te σ H fun _ H1=>D.nx σ H1
theorem a7q (he:PE X e te) (hs:swapsWith e none pos.line X.env=pure false:=by rfl):PS X (.Expr e pos) (tDrop te):=by
  intro pins s σ H D I h
  exact wpAny_Expr_any (thn (he pins s σ H _ I h) fun v s1 ⟨x,H1,I1,r1,q1⟩=>⟨σ,H1,I1,q1⟩) I.quiet hs
def tRet (te:TE):TS:=fun D σ H=>te σ H D.rt
theorem ps_ret (he:PE X e te):PS X (.Return (some e) pos) (tRet te):=by
  intro pins s σ H D I h
  exact wpAny_Return_some (thn (he pins s σ H _ I h) fun v s1 ⟨x,H1,I1,r1,q1⟩=>⟨x,σ,H1,I1,r1,q1⟩)
def tIfS (c:TT) (t u:TS):TS:=fun D σ H=>c σ H fun b H1=>if b=true then t D σ H1 else u D σ H1
theorem ps_if {c:Expr} {a b:List Stmt} {tc:TT} (hc:PT X c tc) (ha:PSs X a t) (hb:PSs X b u):PS X (.If c a b pos) (tIfS tc t u):=by
  intro pins s σ H D I h
  refine wpAny_If (thn (hc pins s σ H _ I h) fun d s1 ⟨H1,I1,q1⟩=>?_)
  cases d with
  | true=>exact ha pins s1 σ H1 D I1 q1
  | false=>exact hb pins s1 σ H1 D I1 q1
def tNever:TS:=fun _ _ _=>False
theorem ps_never:PS X st tNever:=fun _ _ _ _ _ _ h=>h.elim
end
abbrev TG:=V->St->Hp->(St->Hp->Prop)->Prop
abbrev TGs:=List V->St->Hp->(St->Hp->Prop)->Prop
def PG (X:Cx) (target:Expr) (t:TG):Prop:=
  ∀ (pins:List (Addr × Obj)) (s:Shared) (σ:St) (H:Hp) (v:V) (u:Value) (Q:St->Hp->Prop),Inv X pins σ H s->a2z v u->t v σ H Q ->
    wpAny (model X.prog X.w) X.A (assign target X.env u) (fun _ s'=>∃ σ' H',Inv X pins σ' H' s'/\Q σ' H') X.xe s
def PGs (X:Cx) (ts:List Expr) (t:TGs):Prop:=
  ∀ (pins:List (Addr × Obj)) (s:Shared) (σ:St) (H:Hp) (vs:List V) (us:List Value) (Q:St->Hp->Prop),Inv X pins σ H s->a1w vs us->t vs σ H Q ->
    wpAny (model X.prog X.w) X.A (assignInOrder ((assignEach ts X.env).map (·.2)) us) (fun _ s'=>∃ σ' H',Inv X pins σ' H' s'/\Q σ' H') X.xe s
section
variable {X:Cx} {pos:Pos}
def gName (i:Nat):TG:=fun v σ H Q=>Q (σ.set i (some v)) H
theorem a1n {i:Nat} {x:Str} (hN:X.N.Nodup) (hi:X.N[i]?=some x) (hx:Loc X.env.scope x) (hf:X.fn x=true \/ X.env.scope.names.lookup x=some .local:=by first | exact .inl rfl | exact .inr rfl | assumption):PG X (.Name x pos) (gName i):=by
  intro pins s σ H v u Q I r h
  exact wpAny_assign_Name (store_ok I hN hi hx r (fun s' I'=>⟨_,H,I',h⟩) hf)
def gNil:TGs:=fun vs σ H Q=>vs=[]/\Q σ H
def gCons (t:TG) (u:TGs):TGs:=fun vs σ H Q=>∃ v r,vs=v :: r/\t v σ H fun σ' H'=>u r σ' H' Q
theorem a4A:PGs X [] gNil:=by
  intro pins s σ H vs us Q I r h
  obtain ⟨e,h⟩:=h
  subst e
  cases r
  exact assignInOrder_nil ⟨σ,H,I,h⟩
theorem a0Z {e:Expr} {es:List Expr} {t:TG} {u:TGs} (h1:PG X e t) (h2:PGs X es u)
    (hs:(assignEach (e :: es) X.env).map (·.2)=assign e X.env :: (assignEach es X.env).map (·.2):=by rfl):PGs X (e :: es) (gCons t u):=by
  intro pins s σ H vs us Q I r h
  obtain ⟨v,vr,e1,h⟩:=h
  subst e1
  cases r with
  | cons r rr=>
    rw [hs]
    refine assignInOrder_cons (thn (h1 pins s σ H _ _ _ I r h) fun _ s1 ⟨σ1,H1,I1,q1⟩=>?_)
    exact h2 pins s1 σ1 H1 _ _ Q I1 rr q1
def gTup (K:W.Frag) (n:Nat) (t:TGs):TG:=fun v σ H Q=>∃ a xs,v=.ref a/\SqT K H a xs/\xs.length=n/\t xs σ H Q
theorem pg_tup {es:List Expr} {k:Nat} {t:TGs} {n:Nat} (hc:X.calm=true) (h:PGs X es t)
    (hn:(assignEach es X.env).length=n:=by rfl) (hst:(assignEach es X.env).findIdx? (·.1)=none:=by rfl):PG X (.Tuple es k pos) (gTup X.K n t):=by
  intro pins s σ H v u Q I r hw
  obtain ⟨a,xs,e1,hq,hl,hw⟩:=hw
  subst e1
  cases r
  obtain ⟨its,rv,ht,hz⟩:=I.tuple hq
  refine assign_Tuple_tuple (I.ok.hd hc) ht (by simp [hn,<- hl,rv.length]) hst fun h' hx=>?_
  have I1:Inv X pins σ H { s with heap:=h' }:=I.kept (t':=s.toks) fun b o e=>hx b o (Nat.ne_of_lt (Heap.lt_size e)) e
  exact h pins _ σ H xs _ Q I1 (by simpa using rv) hw
def tAsg (te:TE) (g:TG):TS:=fun D σ H=>te σ H fun x H1=>g x σ H1 D.nx
theorem ps_asg {tg e:Expr} {te:TE} {g:TG} (he:PE X e te) (hg:PG X tg g) (hs:swapsWithSole [tg] e pos.line X.env=pure false:=by rfl) (hw:swappedStores [tg] e X.env=pure none:=by rfl)
    (h1:(assignEach [tg] X.env).map (·.2)=[assign tg X.env]:=by rfl):PS X (.Assign [tg] e pos) (tAsg te g):=by
  intro pins s σ H D I h
  refine wpAny_Assign_stores (thn (he pins s σ H _ I h) fun v s1 ⟨x,H1,I1,r1,q1⟩=>?_) hs hw
  rw [h1]
  exact thn (hg pins s1 σ H1 x v _ I1 r1 q1) fun _ s2 q=>by obtain ⟨σ',H',I',q⟩:=q; exact ⟨σ',H',I',q⟩
theorem ps_set {i:Nat} {x:Str} {e:Expr} {te:TE} {pos':Pos} (hN:X.N.Nodup) (hi:X.N[i]?=some x) (hx:Loc X.env.scope x) (he:PE X e te) (hs:swapsWith e (some (.Name x pos')) pos.line X.env=pure false:=by rfl) (hf:X.fn x=true \/ X.env.scope.names.lookup x=some .local:=by first | exact .inl rfl | exact .inr rfl | assumption):
    PS X (.Assign [.Name x pos'] e pos) (tAsg te (gName i)):=by
  intro pins s σ H D I h
  refine wpAny_Assign_Name (thn (he pins s σ H _ I h) fun v s1 ⟨y,H1,I1,r1,q1⟩=>?_) hs
  exact store_ok I1 hN hi hx r1 (fun s2 I2=>⟨_,H1,I2,q1⟩) hf
end
section
variable {X:Cx} {pos:Pos}
end
structure It where
  go:Nat->Hp->Prop
  yld:Nat->Hp->V->Hp->Prop
  stop:Nat->Hp->Prop
def FpOk (X:Cx) (pins:List (Addr × Obj)) (H:Hp) (b:Addr):Prop:=
  H b=none/\b ≠ X.env.locals/\b ∉ X.fs/\(b ∈ X.ex \/ X.s₀.heap.objs.size<=b)/\(∀ x c,X.env.cells.lookup x=some c->c ≠ b) /\ ∀ p ∈ X.pn ++ pins,p.1 ≠ b
theorem Inv.fpOk {X:Cx} {pins:List (Addr × Obj)} {σ:St} {H H':Hp} {s:Shared} {b:Addr} (I:Inv X pins σ H s) (hb:s.heap.objs.size<=b) (hn:H' b=none):FpOk X pins H' b:=by
  refine ⟨hn,Nat.ne_of_gt (Nat.lt_of_lt_of_le I.lt hb),I.nofs hb,.inr (Nat.le_trans I.sz hb),fun x c e z=>?_,fun p hp z=>?_⟩
  . obtain ⟨v,q⟩:=I.cell x c e
    exact absurd (Nat.lt_of_lt_of_le q.lt (by rw [z]; exact hb)) (Nat.lt_irrefl _)
  . exact absurd (Nat.lt_of_lt_of_le (Heap.lt_size (I.pin p hp).1) (by rw [z]; exact hb)) (Nat.lt_irrefl _)
structure Turn (P:Program) (w:World) (K:W.Frag) (tg:Expr) (J:It) (fp:List Addr) (it:Addr) (tn:Nat->Heap->Prop):Prop where
  mem:it ∈ fp
  obj:∀ i h,tn i h -> ∀ b ∈ fp,∃ o,h.get? b=some o /\ ∀ v,o.data ≠ .cell v
  keep:∀ i h h',tn i h->(∀ b ∈ fp,∀ o,h.get? b=some o->h'.get? b=some o)->tn i h'
  item:∀ (X:Cx),X.prog=P->X.w=w->X.K=K->X.N=X.N -> ∀ (i:Nat) (pins:List (Addr × Obj)) (s:Shared) (σ:St) (H:Hp) (E:Value->Shared->Prop),Inv X pins σ H s->(∀ b ∈ fp,FpOk X pins H b)->tn i s.heap->J.go i H ->
    wpAny (model P w) X.A (pyNext (.ref it)) (fun r s1=>∃ u,r=some u /\
      wpAny (model P w) X.A (letOwnedTupleGo tg (.ref it) u) (fun _ s2=>∃ x H',Inv X pins σ H' s2/\a2z x u/\J.yld i H x H'/\tn (i + 1) s2.heap /\ ∀ b ∈ fp,H' b=none) E s1) E s
  done:∀ (X:Cx),X.prog=P->X.w=w->X.K=K->X.N=X.N -> ∀ (i:Nat) (pins:List (Addr × Obj)) (s:Shared) (σ:St) (H:Hp) (E:Value->Shared->Prop),Inv X pins σ H s->(∀ b ∈ fp,FpOk X pins H b)->tn i s.heap->J.stop i H ->
    wpAny (model P w) X.A (pyNext (.ref it)) (fun r s1=>r=none/\Inv X pins σ H s1) E s
  self:∀ (A:Around) (i:Nat) (s:Shared) (Q:Value->Shared->Prop) (E:Value->Shared->Prop),tn i s.heap->Q (.ref it) s->wpAny (model P w) A (pyIter (.ref it)) Q E s
abbrev TI:=St->Hp->(It->Hp->Prop)->Prop
def PIE (X:Cx) (pins:List (Addr × Obj)) (σ:St) (tg:Expr) (R:It->Hp->Prop) (itv:Value) (s2:Shared):Prop:=
  ∃ (it:Addr) (fp:List Addr) (tn:Nat->Heap->Prop) (J:It) (H':Hp),itv=.ref it/\Inv X pins σ H' s2/\Turn X.prog X.w X.K tg J fp it tn/\tn 0 s2.heap/\(∀ b ∈ fp,FpOk X pins H' b)/\R J H'
def PI (X:Cx) (tg iter:Expr) (wi:TI):Prop:=
  ∀ (pins:List (Addr × Obj)) (s:Shared) (σ:St) (H:Hp) (R:It->Hp->Prop),Inv X pins σ H s->wi σ H R ->
    wpAny (model X.prog X.w) X.A (eval iter X.env) (fun v s1=>wpAny (model X.prog X.w) X.A (pyIter v) (PIE X pins σ tg R) X.xe s1) X.xe s
theorem go_of {M:Model} {A:Around} {E:Value->Shared->Prop} {s:Shared} {tg:Expr} {it:Addr} {u:Value} {o:Obj} {n:String} {vs:Array Value} {Q:Unit->Shared->Prop} (ho:s.heap.get? it=some o) (hc:o.cls=.type n) (hd:o.data=.fields vs)
    (hn:["enumerate", "zip", "dict_itemiterator", "dict_reverseitemiterator", "odict_iterator", "itertools.zip_longest", "itertools.pairwise"].contains n=false) (hQ:Q () s):wpAny M A (letOwnedTupleGo tg (.ref it) u) Q E s:=by
  unfold letOwnedTupleGo
  cases tg <;> first
    | exact wpAny_pure hQ
    | (cases u <;> first
        | exact wpAny_pure hQ
        | (refine wpAny_bind (wpAny_load ho ?_)
           rw [hc,hd]
           show wpAny M A (if (["enumerate", "zip", "dict_itemiterator", "dict_reverseitemiterator", "odict_iterator", "itertools.zip_longest", "itertools.pairwise"].contains n && vs[0]? == some (rawInt _))=true then _ else _) Q E s
           rw [if_neg (by intro h; rw [hn,Bool.false_and] at h; cases h)]
           exact wpAny_pure hQ))
noncomputable def Itl (K:W.Frag) (a:Addr):It:=
  ⟨fun i H=>∃ xs x,SqL K H a xs/\xs[i]?=some x,fun i H x H'=>H'=H /\ ∀ xs,SqL K H a xs->xs[i]?=some x,fun i H=>∃ xs,SqL K H a xs/\xs.length<=i⟩
noncomputable def Itt (K:W.Frag) (a:Addr):It:=
  ⟨fun i H=>∃ xs x,SqT K H a xs/\xs[i]?=some x,fun i H x H'=>H'=H /\ ∀ xs,SqT K H a xs->xs[i]?=some x,fun i H=>∃ xs,SqT K H a xs/\xs.length<=i⟩
noncomputable def Itr (lo:Int) (n:Nat):It:=⟨fun i _=>i < n,fun i H x H'=>H'=H/\x=.int (lo + i),fun i _=>n<=i⟩
theorem turn_list {P:Program} {w:World} {K:W.Frag} {tg:Expr} (a it:Addr):Turn P w K tg (Itl K a) [it] it (fun i h=>h.IsListIter it a i) where
  mem:=by simp
  obj:=fun i h st b hb=>by
    have e:b=it:=by simpa using hb
    subst e
    obtain ⟨o,e,c,d⟩:=st
    exact ⟨o,e,fun v z=>by rw [d] at z; cases z⟩
  keep:=fun i h h' st k=>st.at fun o e=>k it (by simp) o e
  item:=by
    intro X hP hw hK hc i pins s σ H E I hf st hg
    subst hP hw hK
    obtain ⟨xs,x,hq,hx⟩:=hg
    obtain ⟨its,rv,p,hz⟩:=I.list hq
    obtain ⟨u,hu,ru⟩:=rv.get hx
    obtain ⟨f0,f1,f2,f3,f4,f5⟩:=hf it (by simp)
    refine wpAny_pyNext_list_item st p.isList (x:=u) (by simpa using hu) fun h' st' sb=>?_
    have I1:Inv X pins σ H { s with heap:=h' }:=I.turned (t':=s.toks) (fun b o hb e=>(sb.2 b hb).trans e) f0 f1 f3 f4 f5
    obtain ⟨o,e,c,d⟩:=id st'
    exact ⟨u,rfl,go_of (s:={ s with heap:=h' }) e c d (by decide) ⟨x,H,I1,ru,⟨rfl,fun ys hy=>by rw [I.list_inj hy hq]; exact hx⟩,st',fun b hb=>(hf b hb).1⟩⟩
  done:=by
    intro X hP hw hK hc i pins s σ H E I hf st hg
    subst hP hw hK
    obtain ⟨xs,hq,hx⟩:=hg
    obtain ⟨its,rv,p,hz⟩:=I.list hq
    obtain ⟨f0,f1,f2,f3,f4,f5⟩:=hf it (by simp)
    have hl:=rv.length
    exact end_list I.qu st p.isList (by simp; ac_rfl) fun h' eb=>⟨rfl,I.turned (t':=s.toks) (fun b o hb e=>eb b o hb e) f0 f1 f3 f4 f5⟩
  self:=fun _ _ _ _ _ st h=>wpAny_pyIter_listiter st h
theorem turn_tuple {P:Program} {w:World} {K:W.Frag} {tg:Expr} (a it:Addr):Turn P w K tg (Itt K a) [it] it (fun i h=>h.IsTupleIter it a i) where
  mem:=by simp
  obj:=fun i h st b hb=>by
    have e:b=it:=by simpa using hb
    subst e
    obtain ⟨o,e,c,d⟩:=st
    exact ⟨o,e,fun v z=>by rw [d] at z; cases z⟩
  keep:=fun i h h' st k=>st.at fun o e=>k it (by simp) o e
  item:=by
    intro X hP hw hK hc i pins s σ H E I hf st hg
    subst hP hw hK
    obtain ⟨xs,x,hq,hx⟩:=hg
    obtain ⟨its,rv,p,hz⟩:=I.tuple hq
    obtain ⟨u,hu,ru⟩:=rv.get hx
    obtain ⟨f0,f1,f2,f3,f4,f5⟩:=hf it (by simp)
    refine wpAny_pyNext_tuple_item st (show s.heap.IsTuple a its.toArray from p) (x:=u) (by simpa using hu) fun h' st' sb=>?_
    have I1:Inv X pins σ H { s with heap:=h' }:=I.turned (t':=s.toks) (fun b o hb e=>(sb.2 b hb).trans e) f0 f1 f3 f4 f5
    obtain ⟨o,e,c,d⟩:=id st'
    exact ⟨u,rfl,go_of (s:={ s with heap:=h' }) e c d (by decide) ⟨x,H,I1,ru,⟨rfl,fun ys hy=>by rw [I.tuple_inj hy hq]; exact hx⟩,st',fun b hb=>(hf b hb).1⟩⟩
  done:=by
    intro X hP hw hK hc i pins s σ H E I hf st hg
    subst hP hw hK
    obtain ⟨xs,hq,hx⟩:=hg
    obtain ⟨its,rv,p,hz⟩:=I.tuple hq
    obtain ⟨f0,f1,f2,f3,f4,f5⟩:=hf it (by simp)
    have hl:=rv.length
    exact end_tuple I.qu st (show s.heap.IsTuple a its.toArray from p) (by simp; ac_rfl) fun h' eb=>⟨rfl,I.turned (t':=s.toks) (fun b o hb e=>eb b o hb e) f0 f1 f3 f4 f5⟩
  self:=fun _ _ _ _ _ st h=>wpAny_pyIter_tupleiter st h
theorem turn_range {P:Program} {w:World} {K:W.Frag} {tg:Expr} (it:Addr) (lo:Int) (n:Nat):Turn P w K tg (Itr lo n) [it] it (fun i h=>IsRangeIter h it (lo + (i:Nat) * 1) ((n:Int) - (i:Nat)) 1) where
  mem:=by simp
  obj:=fun i h st b hb=>by
    have e:b=it:=by simpa using hb
    subst e
    exact ⟨_,st,fun v z=>by
      have z':Data.fields _=Data.cell v:=z
      cases z'⟩
  keep:=fun i h h' st k=>k it (by simp) _ st
  item:=by
    intro X hP hw hK hc i pins s σ H E I hf st hg
    subst hP hw hK
    obtain ⟨f0,f1,f2,f3,f4,f5⟩:=hf it (by simp)
    refine a8A hg st fun v h' tk hv st' kk=>?_
    obtain ⟨t,rfl⟩:=hv
    have I1:Inv X pins σ H { s with heap:=h',toks:=tk }:=I.turned (fun b o hb e=>kk b o (by simpa using hb) e) f0 f1 f3 f4 f5
    refine ⟨_,rfl,go_of (s:={ s with heap:=h',toks:=tk }) (n:="range_iterator") st' rfl rfl (by decide) ⟨.int (lo + i),H,I1,⟨t,?_⟩,⟨rfl,rfl⟩,st',fun b hb=>(hf b hb).1⟩⟩
    rw [Int.mul_one]
  done:=by
    intro X hP hw hK hc i pins s σ H E I hf st hg
    subst hP hw hK
    obtain ⟨f0,f1,f2,f3,f4,f5⟩:=hf it (by simp)
    exact end_range I.qu st (by have:n<=i:=hg; ac_rfl) fun h' eb=>⟨rfl,I.turned (t':=s.toks) (fun b o hb e=>eb b o hb e) f0 f1 f3 f4 f5⟩
  self:=fun _ _ _ _ _ st h=>wpAny_pyIter_rangeiter st h
end L2
namespace L2
open PySem PySem.Spec PyProof.Rows
section
variable {X:Cx} {tg:Expr}
theorem range_it {pins:List (Addr × Obj)} {σ:St} {H:Hp} {s:Shared} {R:It->Hp->Prop} {E:Value->Shared->Prop} {lo hi:Int} {t u v:Tok} {tk:Nat} (I:Inv X pins σ H s) (h1:-(2 ^ 62)<=lo) (h2:lo < 2 ^ 62) (h3:-(2 ^ 62)<=hi) (h4:hi < 2 ^ 62)
    (q:R (Itr lo (hi - lo).toNat) H):wpAny (model X.prog X.w) X.A (pyIter (.ref s.heap.objs.size)) (PIE X pins σ tg R) E { s with heap:=s.heap.push { cls:=.type "range",data:=.fields #[.int lo t,.int hi u,.int 1 v] },toks:=tk }:=by
  refine wpAny_pyIter_range (IsRange.new ..) (small_one h1 h2 h3 h4) ?_
  have I1:Inv X pins σ H { s with heap:=s.heap.push { cls:=.type "range",data:=.fields #[.int lo t,.int hi u,.int 1 v] },toks:=tk }:=I.kept fun b o e=>Heap.get?_push_of_some _ e
  refine ⟨(s.heap.push { cls:=.type "range",data:=.fields #[.int lo t,.int hi u,.int 1 v] }).objs.size,[(s.heap.push { cls:=.type "range",data:=.fields #[.int lo t,.int hi u,.int 1 v] }).objs.size],_,_,H,rfl,
    I1.kept (t':=tk) fun b o e=>Heap.get?_push_of_some _ e,turn_range _ lo (hi - lo).toNat,?_,fun b hb=>?_,q⟩
  . have e1:lo + ((0:Nat):Int) * 1=lo:=by simp
    have e2:(((hi - lo).toNat:Nat):Int) - ((0:Nat):Int)=Builtin.Range.rangeSize lo hi 1:=by rw [rangeSize_one]; split <;> ac_rfl
    show IsRangeIter _ _ (lo + ((0:Nat):Int) * 1) ((((hi - lo).toNat:Nat):Int) - ((0:Nat):Int)) 1
    rw [e1,e2]
    exact Heap.get?_push_size _ rfl
  . have e:b=(s.heap.push { cls:=.type "range",data:=.fields #[.int lo t,.int hi u,.int 1 v] }).objs.size:=by simpa using hb
    subst e
    exact I1.fpOk (Nat.le_refl _) (I1.hok.fresh (Nat.le_refl _))
def iRng1 (ta:TA):TI:=fun σ H R=>ta σ H fun vs H1=>∃ j:Int,vs=[.int j] /\ -(2 ^ 62)<=j/\j < 2 ^ 62/\R (Itr 0 j.toNat) H1
def iRng2 (ta:TA):TI:=fun σ H R=>ta σ H fun vs H1=>∃ i j:Int,vs=[.int i,.int j]/\(-(2 ^ 62)<=i/\i < 2 ^ 62 /\ -(2 ^ 62)<=j/\j < 2 ^ 62)/\R (Itr i (j - i).toNat) H1
theorem pi_range1 {a:Expr} {ta:TA} {p pos:Pos} (hg:Gl X "range") (hm:X.mg "range" = none) (ha:PA X [a] ta) (hs:starEach [a] X.env=[(false,eval a X.env)]:=by rfl):PI X tg (.Call (.Name "range" p) [a] [] pos) (iRng1 ta):=by
  intro pins s σ H R I h
  refine Call_ (a6E I hg hm boot_range (PyProof.Rows.callWith_type1 (thn (ha pos pins s σ H _ I h) fun us s1 ⟨vs,H1,I1,r1,q1⟩=>?_) hs rfl))
  obtain ⟨j,e,q1,q2,q⟩:=q1
  subst e
  cases r1 with
  | cons r rr=>
    cases rr
    obtain ⟨t,rfl⟩:=r
    exact call_range_1 (range_it I1 (by ac_rfl) (by ac_rfl) q1 q2 (by simpa using q))
theorem pi_range2 {a b:Expr} {ta:TA} {p pos:Pos} (hg:Gl X "range") (hm:X.mg "range" = none) (ha:PA X [a,b] ta) (hs:starEach [a,b] X.env=[(false,eval a X.env),(false,eval b X.env)]:=by rfl) (hs2:starEach [b] X.env=[(false,eval b X.env)]:=by rfl):
    PI X tg (.Call (.Name "range" p) [a,b] [] pos) (iRng2 ta):=by
  intro pins s σ H R I h
  refine Call_ (a6E I hg hm boot_range (PyProof.Rows.callWith_type1 (thn (ha pos pins s σ H _ I h) fun us s1 ⟨vs,H1,I1,r1,q1⟩=>?_) (by rw [hs,hs2]) (by rw [hs2]; rfl)))
  obtain ⟨i,j,e,⟨q1,q2,q3,q4⟩,q⟩:=q1
  subst e
  cases r1 with
  | cons r rr=>
    cases rr with
    | cons r' rr=>
      cases rr
      obtain ⟨t,rfl⟩:=r
      obtain ⟨t',rfl⟩:=r'
      exact call_range_2 (range_it I1 q1 q2 q3 q4 q)
def tFor (wi:TI) (g:TG) (tb:TS):TS:=fun D σ H=>wi σ H fun J H1=>∃ W:Nat->Nat->St->Hp->Prop,(∃ m,W 0 m σ H1) /\ ∀ i m σ H,W i m σ H ->
  (J.stop i H/\D.nx σ H) \/ (J.go i H /\ ∃ N:St->Hp->Prop,(∀ σ' H',N σ' H' -> ∃ m',m' < m/\W (i + 1) m' σ' H') /\ ∀ x H',J.yld i H x H'->g x σ H' fun σ2 H2=>tb { D with nx:=N,ct:=N,bk:=D.nx } σ2 H2)
noncomputable def pinsAt (fp:List Addr) (h:Heap):List (Addr × Obj):=fp.filterMap fun b=>(h.get? b).map fun o=>(b,o)
theorem a4Q {fp:List Addr} {h:Heap} {b:Addr} {o:Obj} (hb:b ∈ fp) (e:h.get? b=some o):(b,o) ∈ pinsAt fp h:=List.mem_filterMap.mpr ⟨b,hb,by rw [e]; rfl⟩
theorem of_pinsAt {fp:List Addr} {h:Heap} {p:Addr × Obj} (hp:p ∈ pinsAt fp h):p.1 ∈ fp/\h.get? p.1=some p.2:=by
  obtain ⟨b,hb,e⟩:=List.mem_filterMap.mp hp
  cases q:h.get? b with
  | none=>rw [q] at e; cases e
  | some o=>
    rw [q] at e
    have e':(b,o)=p:=Option.some.inj e
    subst e'
    exact ⟨hb,q⟩
theorem Inv.pinned {pins:List (Addr × Obj)} {σ:St} {H:Hp} {s:Shared} {fp:List Addr} (I:Inv X pins σ H s) (hf:∀ b ∈ fp,FpOk X pins H b) (ho:∀ b ∈ fp,∃ o,s.heap.get? b=some o /\ ∀ v,o.data ≠ .cell v):Inv X (pins ++ pinsAt fp s.heap) σ H s:=
  I.pins_of fun p hp=>(List.mem_append.mp hp).elim (fun z=>I.pin p (List.mem_append_right _ z)) fun z=>by
    obtain ⟨hb,e⟩:=of_pinsAt z
    obtain ⟨f0,f1,f2,_⟩:=hf p.1 hb
    obtain ⟨o,e',d⟩:=ho p.1 hb
    rw [e] at e'; cases e'
    exact ⟨e,f0,f1,f2,d⟩
theorem Inv.unpinned {pins pl:List (Addr × Obj)} {σ:St} {H:Hp} {s:Shared} (I:Inv X (pins ++ pl) σ H s):Inv X pins σ H s:=I.pins_of fun p hp=>I.pin p (List.mem_append_right _ (List.mem_append_left _ hp))
theorem ps_for {iter:Expr} {body:List Stmt} {wi:TI} {g:TG} {tb:TS} {pos:Pos} (hp:PassesOwn (model X.prog X.w) X.A X.env X.xe) (hc:X.N=X.N) (hi:PI X tg iter wi) (hg:PG X tg g) (hb:PSs X body tb)
    (hs:∀ x,foldedSetIterable iter X.env x=pure x:=by intro _; rfl):PS X (.For tg iter body [] pos) (tFor wi g tb):=by
  intro pins s σ H D I h
  refine wpAny_For (thn (hi pins s σ H _ I h) fun v s1 h1=>thn h1 fun itv s2 h2=>?_) hs
  obtain ⟨it,fp,tn,J,H2,e,I2,T,st2,f2,W,⟨m0,w0⟩,turn⟩:=h2
  subst e
  have stat:∀ {H':Hp},(∀ b ∈ fp,H' b=none) -> ∀ b ∈ fp,FpOk X pins H' b:=fun hn b hb=>⟨hn b hb,(f2 b hb).2⟩
  refine codeAny_forLoop_any (fun n s'=>∃ i σ' H',Inv X pins σ' H' s'/\tn i s'.heap/\(∀ b ∈ fp,H' b=none)/\W i n σ' H') ?_ m0 ⟨0,σ,H2,I2,st2,fun b hb=>(f2 b hb).1,w0⟩
  rintro n s3 ⟨i,σ3,H3,I3,st3,fr3,w3⟩
  rcases turn i n σ3 H3 w3 with ⟨stop,qn⟩ | ⟨go,N,hN,step⟩
  . refine wpAny_passesOwn hp (thn (T.done X rfl rfl rfl hc i pins s3 σ3 H3 X.xe I3 (stat fr3) st3 stop) fun r s4 ⟨hr,I4⟩=>?_)
    subst hr
    exact wpAny_execs_nil ⟨σ3,H3,I4,qn⟩
  . refine wpAny_passesOwn hp (thn (T.item X rfl rfl rfl hc i pins s3 σ3 H3 X.xe I3 (stat fr3) st3 go) fun r s4 ⟨u,hr,h4⟩=>?_)
    subst hr
    refine wpAny_passesOwn hp (thn h4 fun _ s5 ⟨x,H5,I5,r5,y5,st5,fr5⟩=>?_)
    have I5':=I5.pinned (stat fr5) (T.obj _ _ st5)
    refine wpAny_passesOwn hp (thn (hg _ s5 σ3 H5 x u _ I5' r5 (step x H5 y5)) fun _ s6 ⟨σ6,H6,I6,q6⟩=>?_)
    refine wpAny_passesOwn hp (thn (hb _ s6 σ6 H6 _ I6 q6) fun f s7 q7=>?_)
    have again:∀ {σ7:St} {H7:Hp},Inv X (pins ++ pinsAt fp s5.heap) σ7 H7 s7->N σ7 H7 -> ∃ m,m < n /\ ∃ i σ' H',Inv X pins σ' H' s7/\tn i s7.heap/\(∀ b ∈ fp,H' b=none)/\W i m σ' H':=fun {σ7 H7} I7 n7=>by
      obtain ⟨m',hm,w7⟩:=hN σ7 H7 n7
      refine ⟨m',hm,i + 1,σ7,H7,I7.unpinned,T.keep _ _ _ st5 fun b hb o e=>(I7.pin (b,o) (List.mem_append_right _ (List.mem_append_right _ (a4Q hb e)))).1,fun b hb=>?_,w7⟩
      obtain ⟨o,e,d⟩:=T.obj _ _ st5 b hb
      exact (I7.pin (b,o) (List.mem_append_right _ (List.mem_append_right _ (a4Q hb e)))).2.1
    cases f with
    | next=>obtain ⟨σ7,H7,I7,n7⟩:=q7; exact again I7 n7
    | cont=>obtain ⟨σ7,H7,I7,n7⟩:=q7; exact again I7 n7
    | brk=>obtain ⟨σ7,H7,I7,q7⟩:=q7; exact ⟨σ7,H7,I7.unpinned,q7⟩
    | ret v=>obtain ⟨x7,σ7,H7,I7,r7,q7⟩:=q7; exact ⟨x7,σ7,H7,I7.unpinned,r7,q7⟩
end
end L2
namespace L2
open PySem PySem.Spec PyProof.Rows
abbrev R2:=V->V->Hp->VK->Prop
def OpR (X:Cx) (f:Value->Value->Sem Value) (r:R2):Prop:=
  ∀ (pins:List (Addr × Obj)) (s:Shared) (σ:St) (H:Hp) (x y:V) (v u:Value) (Q:VK),Inv X pins σ H s->a2z x v->a2z y u->r x y H Q ->
    wpAny (model X.prog X.w) X.A (f v u) (EP X pins σ Q) X.xe s
def UnR (X:Cx) (f:Value->Sem Value) (r:V->Hp->VK->Prop):Prop:=
  ∀ (pins:List (Addr × Obj)) (s:Shared) (σ:St) (H:Hp) (x:V) (v:Value) (Q:VK),Inv X pins σ H s->a2z x v->r x H Q ->
    wpAny (model X.prog X.w) X.A (f v) (EP X pins σ Q) X.xe s
def a3v (X:Cx) (f:Value) (r:List V->Hp->VK->Prop):Prop:=
  ∀ (pins:List (Addr × Obj)) (s:Shared) (σ:St) (H:Hp) (xs:List V) (us:List Value) (Q:VK),Inv X pins σ H s->a1w xs us->r xs H Q ->
    wpAny (model X.prog X.w) X.A (call f us) (EP X pins σ Q) X.xe s
def TruR (X:Cx) (r:V->Hp->(Bool->Hp->Prop)->Prop):Prop:=
  ∀ (pins:List (Addr × Obj)) (s:Shared) (σ:St) (H:Hp) (x:V) (v:Value) (Q:Bool->Hp->Prop),Inv X pins σ H s->a2z x v->r x H Q ->
    wpAny (model X.prog X.w) X.A (truthy v) (TP X pins σ Q) X.xe s
def tOp (r:R2) (ta tb:TE):TE:=fun σ H Q=>ta σ H fun x H1=>tb σ H1 fun y H2=>r x y H2 Q
def tUn (r:V->Hp->VK->Prop) (ta:TE):TE:=fun σ H Q=>ta σ H fun x H1=>r x H1 Q
def rI (C:Int->Int->Prop) (g:Int->Int->V):R2:=fun x y H Q=>∃ i j,x=.int i/\y=.int j/\C i j/\Q (g i j) H
def rI0 (g:Int->Int->V):R2:=fun x y H Q=>∃ i j,x=.int i/\y=.int j/\Q (g i j) H
def rU (g:Int->V):V->Hp->VK->Prop:=fun x H Q=>∃ i,x=.int i/\Q (g i) H
section
variable {X:Cx} {a b c:Expr} {ta tb tc:TE} {pos:Pos}
theorem binT (ha:PE X a ta) (hb:PE X b tb) {pins:List (Addr × Obj)} {s:Shared} {σ:St} {H:Hp} {R:V->V->Hp->Prop} (I:Inv X pins σ H s)
    (h:ta σ H fun x H1=>tb σ H1 fun y H2=>R x y H2) {Q:Value->Shared->Prop} {f:Value->Value->Sem Value}
    (hf:∀ v u s2 x y H2,Inv X pins σ H2 s2->a2z x v->a2z y u->R x y H2->wpAny (model X.prog X.w) X.A (f v u) Q X.xe s2):
    wpAny (model X.prog X.w) X.A (eval a X.env) (fun v s₁=>wpAny (model X.prog X.w) X.A (eval b X.env) (fun u s₂=>wpAny (model X.prog X.w) X.A (f v u) Q X.xe s₂) X.xe s₁) X.xe s:=by
  refine thn (ha pins s σ H _ I h) fun v s1 ⟨x,H1,I1,r1,q1⟩=>?_
  refine thn (hb pins s1 σ H1 _ I1 q1) fun u s2 ⟨y,H2,I2,r2,q2⟩=>?_
  exact hf v u s2 x y H2 I2 r1 r2 q2
theorem pe_op {op:Operator} {r:R2} (ho:OpR X (binaryOp op) r) (ha:PE X a ta) (hb:PE X b tb):PE X (.BinOp a op b pos) (tOp r ta tb):=by
  intro pins s σ H Q I h
  exact wpAny_BinOp (binT ha hb I h fun v u s2 x y H2 I2 rx ry q=>ho pins s2 σ H2 x y v u Q I2 rx ry q)
theorem pe_un {op:UnaryOp} {r:V->Hp->VK->Prop} (ho:UnR X (unaryOp op) r) (ha:PE X a ta):PE X (.UnaryOp op a pos) (tUn r ta):=by
  intro pins s σ H Q I h
  exact UnaryOp_ (thn (ha pins s σ H _ I h) fun v s1 ⟨x,H1,I1,r1,q1⟩=>ho pins s1 σ H1 x v Q I1 r1 q1)
theorem opI {f:Value->Value->Sem Value} {C:Int->Int->Prop} {g:Int->Int->Int}
    (rule:∀ (i j:Int) (t u:Tok) (s:Shared) (Q:Value->Shared->Prop) (E:Value->Shared->Prop),C i j->Q (.int (g i j) s.toks) { s with toks:=s.toks + 1 }->wpAny (model X.prog X.w) X.A (f (.int i t) (.int j u)) Q E s):
    OpR X f (rI C fun i j=>.int (g i j)):=by
  intro pins s σ H x y v u Q I rx ry h
  obtain ⟨i,j,rfl,rfl,hc,q⟩:=h
  obtain ⟨t,rfl⟩:=rx
  obtain ⟨t',rfl⟩:=ry
  exact rule i j t t' s _ _ hc ⟨.int (g i j),H,I.tok _,⟨_,rfl⟩,q⟩
theorem opI0 {f:Value->Value->Sem Value} {g:Int->Int->Int}
    (rule:∀ (i j:Int) (t u:Tok) (s:Shared) (Q:Value->Shared->Prop) (E:Value->Shared->Prop),Q (.int (g i j) s.toks) { s with toks:=s.toks + 1 }->wpAny (model X.prog X.w) X.A (f (.int i t) (.int j u)) Q E s):
    OpR X f (rI0 fun i j=>.int (g i j)):=by
  intro pins s σ H x y v u Q I rx ry h
  obtain ⟨i,j,rfl,rfl,q⟩:=h
  obtain ⟨t,rfl⟩:=rx
  obtain ⟨t',rfl⟩:=ry
  exact rule i j t t' s _ _ ⟨.int (g i j),H,I.tok _,⟨_,rfl⟩,q⟩
theorem opB0 {f:Value->Value->Sem Value} {g:Int->Int->Bool}
    (rule:∀ (i j:Int) (t u:Tok) (s:Shared) (Q:Value->Shared->Prop) (E:Value->Shared->Prop),Q (.bool (g i j)) s->wpAny (model X.prog X.w) X.A (f (.int i t) (.int j u)) Q E s):
    OpR X f (rI0 fun i j=>.bl (g i j)):=by
  intro pins s σ H x y v u Q I rx ry h
  obtain ⟨i,j,rfl,rfl,q⟩:=h
  obtain ⟨t,rfl⟩:=rx
  obtain ⟨t',rfl⟩:=ry
  exact rule i j t t' s _ _ ⟨.bl (g i j),H,I,rfl,q⟩
def CPow (i j:Int):Prop:=0<=j/\j<=1000000/\i.natAbs < 2 ^ 64
def CMul (i j:Int):Prop:=(-(2 ^ 64) < i/\i < 2 ^ 64) \/ (-(2 ^ 64) < j/\j < 2 ^ 64)
theorem CMul.ok {i j:Int} (h:CMul i j):IntMulOk i j:=by
  rcases h with ⟨h1,h2⟩ | ⟨h1,h2⟩
  . exact .of_left (intBits_le_64 h1 h2)
  . exact .of_right (intBits_le_64 h1 h2)
theorem op_add:OpR X (binaryOp .Add) (rI0 fun i j=>.int (i + j)):=opI0 fun _ _ _ _ _ _ _ q=>add_int q
theorem op_sub:OpR X (binaryOp .Sub) (rI0 fun i j=>.int (i - j)):=opI0 fun _ _ _ _ _ _ _ q=>sub_int q
theorem op_mod:OpR X (binaryOp .Mod) (rI (fun _ j=>0 < j) fun i j=>.int (i % j)):=opI fun i j _ _ _ _ _ hc q=>by
  have h1:(0:Int) < j:=hc
  exact mod_int' (by ac_rfl) (by rw [Int.fmod_eq_emod_of_nonneg i (by ac_rfl)]; exact q)
theorem unI {f:Value->Sem Value} {g:Int->Int}
    (rule:∀ (i:Int) (t:Tok) (s:Shared) (Q:Value->Shared->Prop) (E:Value->Shared->Prop),Q (.int (g i) s.toks) { s with toks:=s.toks + 1 }->wpAny (model X.prog X.w) X.A (f (.int i t)) Q E s):
    UnR X f (rU fun i=>.int (g i)):=by
  intro pins s σ H x v Q I rx h
  obtain ⟨i,rfl,q⟩:=h
  obtain ⟨t,rfl⟩:=rx
  exact rule i t s _ _ ⟨.int (g i),H,I.tok _,⟨_,rfl⟩,q⟩
theorem un_neg:UnR X (unaryOp .USub) (rU fun i=>.int (-i)):=unI fun _ _ _ _ _ q=>neg_int q
end
section
variable {X:Cx} {a b c:Expr} {ta tb tc:TE} {pos:Pos}
theorem fin_bl {pins:List (Addr × Obj)} {σ:St} {H:Hp} {s:Shared} {Q:VK} {k k':Bool} (I:Inv X pins σ H s) (q:Q (.bl k) H) (e:k=k'):EP X pins σ Q (.bool k') s:=by
  subst e
  exact ⟨.bl k,H,I,rfl,q⟩
theorem op_lt:OpR X (compareOp .Lt) (rI0 fun i j=>.bl (decide (i < j))):=opB0 fun _ _ _ _ _ _ _ q=>lt_int q
theorem op_le:OpR X (compareOp .LtE) (rI0 fun i j=>.bl (decide (i<=j))):=opB0 fun _ _ _ _ _ _ _ q=>le_int q
theorem op_gt:OpR X (compareOp .Gt) (rI0 fun i j=>.bl (decide (j < i))):=opB0 fun _ _ _ _ _ _ _ q=>gt_int q
theorem op_isN:OpR X (compareOp .Is) (fun x y H Q=>y=.non/\Q (.bl (decide (x=.non))) H):=by
  intro pins s σ H x y v u Q I rx ry h
  obtain ⟨rfl,q⟩:=h
  cases ry
  refine is_none_gen (fin_bl I q ?_)
  cases x <;> first
    | (cases rx; rfl)
    | (obtain ⟨t,rfl⟩:=rx; rfl)
theorem op_notN:OpR X (compareOp .IsNot) (fun x y H Q=>y=.non/\Q (.bl (!decide (x=.non))) H):=by
  intro pins s σ H x y v u Q I rx ry h
  obtain ⟨rfl,q⟩:=h
  cases ry
  refine isnot_none_gen (fin_bl I q ?_)
  cases x <;> first
    | (cases rx; rfl)
    | (obtain ⟨t,rfl⟩:=rx; rfl)
theorem OpR.or {f:Value->Value->Sem Value} {r r':R2} (h:OpR X f r) (h':OpR X f r'):OpR X f (fun x y H Q=>r x y H Q \/ r' x y H Q):=by
  intro pins s σ H x y v u Q I rx ry q
  rcases q with q | q
  . exact h pins s σ H x y v u Q I rx ry q
  . exact h' pins s σ H x y v u Q I rx ry q
theorem nomark (b:Expr) {op:CmpOp} (h:op ≠ .In:=by decide) (h2:op ≠ .NotIn:=by decide):behindInMarks op b=false:=by
  have e1:(op == CmpOp.In)=false:=by cases op <;> first | rfl | exact absurd rfl h
  have e2:(op == CmpOp.NotIn)=false:=by cases op <;> first | rfl | exact absurd rfl h2
  cases b <;> simp [behindInMarks,e1,e2]
theorem pe_cmpR {op:CmpOp} {r:R2} (ho:OpR X (compareOp op) r) (ha:PE X a ta) (hb:PE X b tb) (hm:behindInMarks op b=false):PE X (.Compare a [op] [b] pos) (tOp r ta tb):=by
  intro pins s σ H Q I h
  exact wpAny_Compare1 (binT ha hb I h fun v u s2 x y H2 I2 rx ry q=>ho pins s2 σ H2 x y v u Q I2 rx ry q) hm
def tTest (t:TE):TT:=fun σ H Q=>t σ H fun x H'=>∃ k,x=.bl k/\Q k H'
theorem pt_cmpR {op:CmpOp} {r:R2} (ho:OpR X (compareOp op) r) (ha:PE X a ta) (hb:PE X b tb) (hm:behindInMarks op b=false):PT X (.Compare a [op] [b] pos) (tTest (tOp r ta tb)):=by
  intro pins s σ H Q I h
  refine wpAny_isTrue_Compare1 (thn (ha pins s σ H _ I h) fun v s1 ⟨x,H1,I1,r1,q1⟩=>thn (hb pins s1 σ H1 _ I1 q1) fun u s2 ⟨y,H2,I2,r2,q2⟩=>
    thn (ho pins s2 σ H2 x y v u _ I2 r1 r2 q2) fun c s3 ⟨z,H3,I3,r3,k,e,q3⟩=>?_) hm
  subst e
  cases r3
  exact wpAny_truthy_bool ⟨H3,I3,q3⟩
def tChain (r r':R2) (ta tb tc:TE):TE:=fun σ H Q=>ta σ H fun x H1=>tb σ H1 fun y H2=>r x y H2 fun z H3=>∃ k,z=.bl k /\
  (if k=true then tc σ H3 fun w' H4=>r' y w' H4 Q else Q (.bl false) H3)
theorem pe_chain {op op':CmpOp} {r r':R2} (ho:OpR X (compareOp op) r) (ho':OpR X (compareOp op') r') (ha:PE X a ta) (hb:PE X b tb) (hc:PE X c tc)
    (hm:lastMarks [op,op'] [b,c]=false:=by with_unfolding_all rfl):PE X (.Compare a [op,op'] [b,c] pos) (tChain r r' ta tb tc):=by
  intro pins s σ H Q I h
  refine Compare_chain (thn (ha pins s σ H _ I h) fun v s1 ⟨x,H1,I1,r1,q1⟩=>chain_link (thn (hb pins s1 σ H1 _ I1 q1) fun u s2 ⟨y,H2,I2,r2,q2⟩=>
    thn (ho pins s2 σ H2 x y v u _ I2 r1 r2 q2) fun d s3 ⟨z,H3,I3,r3,k,e,q3⟩=>?_)) hm
  subst e
  cases r3
  refine wpAny_truthy_bool ?_
  cases k with
  | false=>exact ite_ff ⟨.bl false,H3,I3,rfl,q3⟩
  | true=>exact ite_tt (chain_last (thn (hc pins s3 σ H3 _ I3 q3) fun w' s4 ⟨z',H4,I4,r4,q4⟩=>ho' pins s4 σ H4 y z' u w' Q I4 r2 r4 q4))
theorem pt_chain {op op':CmpOp} {r r':R2} (ho:OpR X (compareOp op) r) (ho':OpR X (compareOp op') r') (ha:PE X a ta) (hb:PE X b tb) (hc:PE X c tc)
    (hm:lastMarks [op,op'] [b,c]=false:=by with_unfolding_all rfl):PT X (.Compare a [op,op'] [b,c] pos) (tTest (tChain r r' ta tb tc)):=by
  intro pins s σ H Q I h
  refine isTrue_chain (thn (ha pins s σ H _ I h) fun v s1 ⟨x,H1,I1,r1,q1⟩=>test_link (thn (hb pins s1 σ H1 _ I1 q1) fun u s2 ⟨y,H2,I2,r2,q2⟩=>
    thn (ho pins s2 σ H2 x y v u _ I2 r1 r2 q2) fun d s3 ⟨z,H3,I3,r3,k,e,q3⟩=>?_)) hm
  subst e
  cases r3
  refine wpAny_truthy_bool ?_
  cases k with
  | false=>
    obtain ⟨k',e',q'⟩:=q3
    cases e'
    exact ite_ff ⟨H3,I3,q'⟩
  | true=>
    refine ite_tt (test_last (thn (hc pins s3 σ H3 _ I3 q3) fun w' s4 ⟨z',H4,I4,r4,q4⟩=>thn (ho' pins s4 σ H4 y z' u w' _ I4 r2 r4 q4) fun d' s5 ⟨z2,H5,I5,r5,k2,e2,q5⟩=>?_))
    subst e2
    cases r5
    exact wpAny_truthy_bool ⟨H5,I5,q5⟩
def TruV (K:W.Frag) (x:V) (H:Hp) (k:Bool):Prop:=
  match x with
  | .non=>k=false
  | .bl b=>k=b
  | .int i=>k=(i != 0)
  | .str y=>y.length<=sizeLine/\k=((y.length:Int) != 0)
  | .byt y=>y.size<=sizeLine/\k=((y.size:Int) != 0)
  | .ref p=>(∃ xs,SqL K H p xs/\k = !xs.isEmpty) \/ (∃ xs,SqT K H p xs/\k = !xs.isEmpty) \/ ∃ kvs,H p=some (.dK kvs)/\k = !kvs.isEmpty
  | _=>False
theorem isEmpty_kv {κ:Type} {kvs:List (κ × V)} {vs:List (κ × Value)} (r:KV kvs vs):(!vs.isEmpty) = !kvs.isEmpty:=by
  cases r <;> rfl
theorem a8B {xs:List V} {its:List Value} (r:a1w xs its):(!its.toArray.isEmpty) = !xs.isEmpty:=by
  cases r <;> simp
theorem a8x:(sizeLine:Nat) < 2 ^ 63:=by rw [sizeLine_eq]; decide
theorem tru_ok:TruR X (fun x H Q=>∃ k,TruV X.K x H k/\Q k H):=by
  intro pins s σ H x v Q I rx h
  obtain ⟨k,e,q⟩:=h
  have hl:=a8x
  have hs:sizeLine=16777216:=sizeLine_eq
  cases x with
  | non=>
    cases rx
    have e':k=false:=e
    subst e'
    exact truthy_none ⟨H,I,q⟩
  | bl b=>
    cases rx
    have e':k=b:=e
    subst e'
    exact wpAny_truthy_bool ⟨H,I,q⟩
  | int i=>
    obtain ⟨t,rfl⟩:=rx
    have e':k=(i != 0):=e
    subst e'
    exact PySem.P.truthy_int ⟨H,I,q⟩
  | str y=>
    obtain ⟨t,rfl⟩:=rx
    obtain ⟨hy,e'⟩:y.length<=sizeLine/\k=((y.length:Int) != 0):=e
    subst e'
    exact PySem.P.truthy_str (by ac_rfl) ⟨H,I.tok _,q⟩
  | byt y=>
    obtain ⟨t,rfl⟩:=rx
    obtain ⟨hy,e'⟩:y.size<=sizeLine/\k=((y.size:Int) != 0):=e
    subst e'
    exact W.truthy_bytes (by ac_rfl) ⟨H,I.tok _,q⟩
  | ref p=>
    cases rx
    have e':(∃ xs,SqL X.K H p xs/\k = !xs.isEmpty) \/ (∃ xs,SqT X.K H p xs/\k = !xs.isEmpty) \/ ∃ kvs,H p=some (.dK kvs)/\k = !kvs.isEmpty:=e
    rcases e' with ⟨xs,hx,e'⟩ | ⟨xs,hx,e'⟩ | ⟨kvs,hx,e'⟩
    . subst e'
      obtain ⟨its,r,pl,hz⟩:=I.list hx
      have hlen:=r.length
      exact wpAny_truthy_list pl.isList (by simp only [List.size_toArray]; ac_rfl) ⟨H,I.tok _,by rw [a8B r]; exact q⟩
    . subst e'
      obtain ⟨its,r,pl,hz⟩:=I.tuple hx
      have hlen:=r.length
      exact truthy_tuple pl (by simp only [List.size_toArray]; ac_rfl) ⟨H,I.tok _,by rw [a8B r]; exact q⟩
    . subst e'
      obtain ⟨hz,hS,vs,r,m⟩:kvs.length<=sizeLine/\(p == sysModules)=false /\ ∃ vs,KV kvs vs/\s.heap.DictOf (a2u X.prog X.w) p vs:=I.hok p _ hx
      have hlen:kvs.length=vs.length:=Paired.length r
      exact wpAny_truthy_dict hS m (by ac_rfl) ⟨H,I.tok _,by rw [isEmpty_kv r]; exact q⟩
  | _=>exact (show False from e).elim
theorem pt_truth (ha:PE X a ta) (he:∀ whole,isTrue a X.env whole=(do let v <- whole; standAt a.pos; holding [v] (truthy v))):
    PT X a (fun σ H Q=>ta σ H fun x H'=>∃ k,TruV X.K x H' k/\Q k H'):=by
  intro pins s σ H Q I h
  exact isTrue_plain (thn (ha pins s σ H _ I h) fun v s1 ⟨x,H1,I1,r1,q1⟩=>tru_ok pins s1 σ H1 x v Q I1 r1 q1) (he _)
theorem op_add_str:OpR X (binaryOp .Add) (fun x y H Q=>∃ i j,x=.str i/\y=.str j/\i.length + j.length<=sizeLine/\Q (.str (i ++ j)) H):=by
  intro pins s σ H x y v u Q I rx ry h
  obtain ⟨i,j,rfl,rfl,hz,q⟩:=h
  obtain ⟨t,rfl⟩:=rx
  obtain ⟨t',rfl⟩:=ry
  exact add_str (fun t' tk=>⟨.str (i ++ j),H,I.tok _,⟨_,rfl⟩,q⟩) hz
theorem a4Y {x:V} {us:List Value} (r:a1w [x] us):∃ u,us=[u]/\a2z x u:=by
  cases r with
  | cons r1 r2=>cases r2; exact ⟨_,rfl,r1⟩
theorem vals2 {x y:V} {us:List Value} (r:a1w [x,y] us):∃ u w',us=[u,w']/\a2z x u/\a2z y w':=by
  cases r with
  | cons r1 r2=>
    cases r2 with
    | cons r3 r4=>cases r4; exact ⟨_,_,rfl,r1,r3⟩
theorem call_abs:a3v X (.builtin "abs") (fun xs H Q=>∃ i,xs=[.int i]/\Q (.int (if i < 0 then -i else i)) H):=by
  intro pins s σ H xs us Q I r h
  obtain ⟨i,rfl,q⟩:=h
  obtain ⟨u,rfl,t,rfl⟩:=a4Y r
  exact call_abs_int fun u tk=>⟨.int (if i < 0 then -i else i),H,I.tok _,⟨_,rfl⟩,q⟩
theorem call_min2 (hc:X.calm=true):a3v X (.builtin "min") (fun xs H Q=>∃ i j,xs=[.int i,.int j]/\Q (.int (if j < i then j else i)) H):=by
  intro pins s σ H xs us Q I r h
  obtain ⟨i,j,rfl,q⟩:=h
  obtain ⟨u,w',rfl,⟨t,rfl⟩,⟨t',rfl⟩⟩:=vals2 r
  refine min_two_ints (I.ok.hd hc) fun h' tk k=>⟨_,H,I.kept k,?_,q⟩
  by_cases hj:j < i
  . rw [if_pos hj,if_pos hj]; exact ⟨_,rfl⟩
  . rw [if_neg hj,if_neg hj]; exact ⟨_,rfl⟩
theorem call_int1:a3v X (.type "int") (fun xs H Q=>(∃ i,xs=[.int i]/\Q (.int i) H) \/ ∃ k,xs=[.bl k]/\Q (.int (if k then 1 else 0)) H):=by
  intro pins s σ H xs us Q I r h
  rcases h with ⟨i,rfl,q⟩ | ⟨k,rfl,q⟩
  . obtain ⟨u,rfl,t,rfl⟩:=a4Y r
    exact call_int_int ⟨.int i,H,I,⟨_,rfl⟩,q⟩
  . obtain ⟨u,rfl,r1⟩:=a4Y r
    cases r1
    exact call_int_bool ⟨.int (if k then 1 else 0),H,I.tok _,⟨_,rfl⟩,q⟩
end
end L2
namespace L2
open PySem PySem.Spec PyProof.Rows
structure ObjM (h:Heap) (x dx C:Addr) (mA:Str->Option Value):Prop where
  obj:h.get? x=some (W.instObj C dx)
  ns:h.Ns1 dx mA
  ne:dx ≠ x
theorem lookIn_ns {h:Heap} {dx:Addr} {mA:Str->Option Value} (n:h.Ns1 dx mA):∃ od,h.get? dx=some od /\ ∀ name,W.lookIn name od=some (mA name):=by
  obtain ⟨o,es,ep,ho,hd,hk,_,hm⟩:=n
  refine ⟨o,ho,fun name=>?_⟩
  have e:=hm name
  unfold nsFind findBy at e
  rw [<- Array.find?_toList] at e
  unfold W.lookIn
  rw [hd]
  dsimp only
  split
  . rename_i y q
    rw [q] at e
    exact congrArg some e
  . rename_i q
    rw [q] at e
    have a:es.toList.any (·.refKey)=false:=by
      rw [List.any_eq_false]
      intro y hy
      obtain ⟨z,t,hkey⟩:=hk y (Array.mem_toList_iff.mp hy)
      simp [DictEntry.refKey,hkey]
    have a':¬ es.toList.any (·.refKey)=true:=by rw [a]; exact Bool.false_ne_true
    rw [if_neg a']
    exact congrArg some e
theorem ObjM.look {h:Heap} {x dx C:Addr} {mA:Str->Option Value} (I:ObjM h x dx C mA):∃ od,W.InstAt h x (W.instObj C dx) C (some od) /\ ∀ name,W.lookIn name od=some (mA name):=
  let ⟨od,ho,hl⟩:=lookIn_ns I.ns
  ⟨od,⟨I.obj,rfl,rfl,ho⟩,hl⟩
section
variable {prog:Program} {w:World} {A:Around} {E:Value->Shared->Prop} {s:Shared} {K:W.Frag} {x dx C f:Addr} {mA:Str->Option Value} {name:Str} {v:Value}
theorem get_map {expr:Bool} {Q:Value->Shared->Prop} (X:K.In s.heap) (I:ObjM s.heap x dx C mA) (hg:W.plainGet K C name=true) (hh:W.hasDictIn K C=true)
    (ha:W.findIn K (.ref C) name=some none) (hv:mA name=some v) (hv':W.handedIn v=true) (h:Q v { s with toks:=s.toks + 1 }):
    wpAny (model prog w) A (getAttr (.ref x) name expr) Q E s:=by
  obtain ⟨od,J,hl⟩:=I.look
  exact W.get_value X J (W.plainGet_of hg).1 (W.findObj_own hh ha rfl (by rw [hl,hv])) hv' h
theorem get_meth {pl:Sem Bool} {Q:Value × List Value->Shared->Prop} (X:K.In s.heap) (I:ObjM s.heap x dx C mA) (hg:W.plainGet K C name=true)
    (hf:W.findIn K (.ref C) name=some (some (.ref f))) (ht:W.isFn K (.ref f)=true) (hv:mA name=none) (h:Q (.ref f,[.ref x]) s):
    wpAny (model prog w) A (getMethod (.ref x) name pl) Q E s:=by
  obtain ⟨od,J,hl⟩:=I.look
  exact W.method_fn X J (W.plainGet_of hg).1 (W.plainGet_of hg).2 hf (beq_iff_eq.mp ht) (by show (W.lookIn name od).map (·.isSome)=some false; rw [hl,hv]; rfl) h
theorem set_map {ns:List Str} {Q:Unit->Shared->Prop} (X:K.In s.heap) (I:ObjM s.heap x dx C mA)
    (hs:W.findIn K (.ref C) "__setattr__" = some (some (.builtin "object.__setattr__"))) (hp:W.plainOver K C=true) (ht:W.takerIn K C name=some none) (hh:W.hasDictIn K C=true)
    (hw:PySem.Within mA ns) (hsz:ns.length<=sizeLine)
    (h:∀ h',ObjM h' x dx C (fun y=>if y=name then some v else mA y)->Heap.SameBut dx s.heap h'->Q () { s with heap:=h',toks:=s.toks + 2 }):
    wpAny (model prog w) A (setAttr (.ref x) name v) Q E s:=by
  obtain ⟨od,J,hl⟩:=I.look
  refine W.set_plain X J hs (W.osa_open (s:={ s with toks:=s.toks + 1 }) (r:=none) X J hp ht fun b=>?_)
  obtain ⟨cd,hc,hd'⟩:=W.any_some hh
  have hx:s.heap.get? x=some ⟨.ref C,some dx,.plain,#[]⟩:=I.obj
  refine wpAny_bind (wpAny_pure (wpAny_bind (wpAny_bind (wpAny_loadPart hx (wpAny_bind (W.Looks.here (s:={ s with toks:=s.toks + 1 }) (W.looks_clsIn X hc) ?_))))))
  rw [hd']
  refine wpAny_pure (a:=some dx) (wpAny_bind (wpAny_pure (wpAny_bind ?_)))
  refine wpAny_nsSet1 (s:={ s with toks:=s.toks + 1 }) I.ns fun h' hn2 hs2=>?_
  obtain ⟨oD,esD,epD,hoD,hdD,hcD⟩:=hn2.count (PySem.Within.cons name v hw)
  refine wpAny_bind (wpAny_lookBehind hoD (by rw [hdD]; exact pastItsLine_dict (Nat.le_trans hcD (by rw [List.length_cons]; ac_rfl))) ?_)
  exact wpAny_pure (h _ ⟨(hs2.2 _ (Ne.symm I.ne)).trans I.obj,hn2,I.ne⟩ hs2)
theorem make_map {R:Result->Shared->Prop} {vs:List Value} {kw:List (Str × Value)} (X:K.In s.heap) (hm:W.makesIn K C=true)
    (hi:W.findIn K (.ref C) "__init__" = some (some (.ref f))) (hf:W.typeIn K (.ref f)=some (.type "function"))
    (h:codeAny (model prog w) (A.under (.builtin "type.__call__" ⟨.ref C :: vs,kw⟩)) (.call (.ref f) ⟨.ref (s.heap.objs.size + 1) :: vs,kw⟩) (W.InitBack (s.heap.objs.size + 1) R)
      { s with heap:=(s.heap.push W.emptyDict).push (W.instObj C s.heap.objs.size) }):
    codeAny (model prog w) A (.call (.ref C) ⟨vs,kw⟩) R s:=by
  obtain ⟨hh,g,d,t,os⟩:=s
  exact W.make_core (W.makes_of X hm) (W.looks_findIn X hi) (fun self=>W.bind_fn X self hf) (.inl rfl) h
end
noncomputable def a8Z (f:Str) (v:V):List (Str × V)->List (Str × V)
  | []=>[(f,v)]
  | (g,x) :: r=>if g=f then (g,v) :: r else (g,x) :: a8Z f v r
theorem a7D (f g:Str) (v:V):∀ fs:List (Str × V),(a8Z f v fs).lookup g=if g=f then some v else fs.lookup g
  | []=>by
    show List.lookup g [(f,v)]=_
    by_cases h:g=f
    . have hb:(g == f)=true:=beq_iff_eq.mpr h
      simp only [List.lookup,hb,if_pos h]
    . have hb:(g == f)=false:=beq_eq_false_iff_ne.mpr h
      simp only [List.lookup,hb,if_neg h]
  | (k,x) :: r=>by
    have ih:=a7D f g v r
    rw [show a8Z f v ((k,x) :: r)=(if k=f then (k,v) :: r else (k,x) :: a8Z f v r) from rfl]
    by_cases hk:k=f
    . rw [if_pos hk]
      by_cases h:g=k
      . have hb:(g == k)=true:=beq_iff_eq.mpr h
        simp only [List.lookup,hb,if_pos (h.trans hk)]
      . have hb:(g == k)=false:=beq_eq_false_iff_ne.mpr h
        simp only [List.lookup,hb,if_neg (fun e:g=f=>h (e.trans hk.symm))]
    . rw [if_neg hk]
      by_cases h:g=k
      . have hb:(g == k)=true:=beq_iff_eq.mpr h
        simp only [List.lookup,hb,if_neg (fun e:g=f=>hk (h.symm.trans e))]
      . have hb:(g == k)=false:=beq_eq_false_iff_ne.mpr h
        simp only [List.lookup,hb]
        exact ih
theorem a7G (f:Str) (v:V):∀ fs:List (Str × V),f ∈ (a8Z f v fs).map (·.1) /\ ∀ g,g ∈ fs.map (·.1)->g ∈ (a8Z f v fs).map (·.1)
  | []=>⟨by simp [a8Z],fun g h=>by simp at h⟩
  | (k,x) :: r=>by
    obtain ⟨i1,i2⟩:=a7G f v r
    rw [show a8Z f v ((k,x) :: r)=(if k=f then (k,v) :: r else (k,x) :: a8Z f v r) from rfl]
    by_cases hk:k=f
    . rw [if_pos hk]
      subst hk
      exact ⟨by simp,fun g h=>by simpa using h⟩
    . rw [if_neg hk]
      refine ⟨?_,fun g h=>?_⟩
      . rw [List.map_cons]
        exact List.mem_cons_of_mem _ i1
      . rw [List.map_cons] at h ⊢
        rcases List.mem_cons.mp h with e | e
        . exact List.mem_cons.mpr (.inl e)
        . exact List.mem_cons_of_mem _ (i2 g e)
theorem a7F (f:Str) (v:V):∀ fs:List (Str × V),(a8Z f v fs).length<=fs.length + 1
  | []=>by simp [a8Z]
  | (k,x) :: r=>by
    have ih:=a7F f v r
    rw [show a8Z f v ((k,x) :: r)=(if k=f then (k,v) :: r else (k,x) :: a8Z f v r) from rfl]
    by_cases hk:k=f
    . rw [if_pos hk,List.length_cons,List.length_cons]; ac_rfl
    . rw [if_neg hk,List.length_cons,List.length_cons]; ac_rfl
theorem RelO.some_of {v:V} {o:Option Value} (r:RelO (some v) o):∃ u,o=some u/\a2z v u:=by
  cases o with
  | none=>exact (show False from r).elim
  | some u=>exact ⟨u,rfl,r⟩
theorem RelO.none_of {o:Option Value} (r:RelO none o):o=none:=by
  cases o with
  | none=>rfl
  | some u=>exact (show False from r).elim
theorem handed_of {v:V} {u:Value} (r:a2z v u):W.handedIn u=true:=by
  cases v with
  | non=>cases (show u=Value.none from r); rfl
  | bl b=>cases (show u=Value.bool b from r); rfl
  | int i=>obtain ⟨t,e⟩:=(show ∃ t,u=Value.int i t from r); cases e; rfl
  | str x=>obtain ⟨t,e⟩:=(show ∃ t,u=Value.str x t from r); cases e; rfl
  | byt b=>obtain ⟨t,e⟩:=(show ∃ t,u=Value.bytes b t from r); cases e; rfl
  | flt b=>obtain ⟨t,e⟩:=(show ∃ t,u=Value.float b t from r); cases e; rfl
  | ref a=>cases (show u=Value.ref a from r); rfl
  | ty n=>cases (show u=Value.type n from r); rfl
section
variable {P:Program} {w:World} {H H':Hp} {h h':Heap} {a C dx:Addr} {fs fs':List (Str × V)}
theorem ins_get (hok:HOk P w H h) (e:H a=some (.ins C dx fs)):∃ mA,ObjM h a dx C mA/\(∀ f,RelO (fs.lookup f) (mA f))/\PySem.Within mA (fs.map (·.1))/\fs.length<=1000/\H dx=some (.own a):=by
  obtain ⟨d,z,ne,ob,mA,n,r,q⟩:=(show a2a P w H h a (.ins C dx fs) from hok a _ e)
  exact ⟨mA,⟨ob,n,ne⟩,r,q,z,d⟩
end
structure Cls (K:W.Frag) (C:Addr):Prop where
  pg:W.plainGet K C Str.empty=true
  hd:W.hasDictIn K C=true
  po:W.plainOver K C=true
  sa:W.findIn K (.ref C) "__setattr__" = some (some (.builtin "object.__setattr__"))
theorem Cls.get {K:W.Frag} {C:Addr} (c:Cls K C) (f:Str):W.plainGet K C f=true:=c.pg
def a4n (K:W.Frag) (C:Addr) (f:Str):Prop:=W.findIn K (.ref C) f=some none
theorem a4n.taker {K:W.Frag} {C:Addr} {f:Str} (n:a4n K C f):W.takerIn K C f=some none:=by
  unfold W.takerIn
  rw [show W.findIn K (.ref C) f=some none from n]
  rfl
structure Meth (K:W.Frag) (C:Addr) (m:Str) (f:Addr):Prop where
  at_:W.findIn K (.ref C) m=some (some (.ref f))
  fn:W.isFn K (.ref f)=true
  kp:W.keepIn K (.ref f)=true
section
variable {X:Cx} {pins:List (Addr × Obj)} {σ:St} {H:Hp} {s:Shared} {a C dx:Addr} {fs:List (Str × V)} {f:Str} {v:V} {A:Around} {E:Value->Shared->Prop}
theorem getattr_ok {b:Bool} {Q:Value->Shared->Prop} (I:Inv X pins σ H s) (e:H a=some (.ins C dx fs)) (c:Cls X.K C) (n:a4n X.K C f) (l:fs.lookup f=some v)
    (h:∀ u s',Inv X pins σ H s'->a2z v u->Q u s'):wpAny (model X.prog X.w) A (getAttr (.ref a) f b) Q E s:=by
  obtain ⟨mA,O,r,_,_,_⟩:=ins_get I.hok e
  obtain ⟨u,hu,ru⟩:=RelO.some_of (v:=v) (o:=mA f) (by rw [<- l]; exact r f)
  exact get_map I.kIn O (c.get f) c.hd n hu (handed_of ru) (h u _ (I.tok _) ru)
theorem a8D {m:Str} {g:Addr} {pl:Sem Bool} {Q:Value × List Value->Shared->Prop} (I:Inv X pins σ H s) (e:H a=some (.ins C dx fs)) (c:Cls X.K C) (k:Meth X.K C m g) (l:fs.lookup m=none)
    (h:Q (.ref g,[.ref a]) s):wpAny (model X.prog X.w) A (getMethod (.ref a) m pl) Q E s:=by
  obtain ⟨mA,O,r,_,_,_⟩:=ins_get I.hok e
  have hn:mA m=none:=RelO.none_of (by rw [<- l]; exact r m)
  exact get_meth I.kIn O (c.get m) k.at_ k.fn hn h
theorem setattr_ok {y:V} {u:Value} {Q:Unit->Shared->Prop} (I:Inv X pins σ H s) (e:H a=some (.ins C dx fs)) (c:Cls X.K C) (n:a4n X.K C f) (hl:fs.length < 1000) (ry:a2z y u)
    (h:∀ s',Inv X pins σ (upd H a (.ins C dx (a8Z f y fs))) s'->Q () s'):wpAny (model X.prog X.w) A (setAttr (.ref a) f u) Q E s:=by
  obtain ⟨mA,O,r,wi,_,ho⟩:=ins_get I.hok e
  have hz:(fs.map (·.1)).length<=sizeLine:=by rw [List.length_map,sizeLine_eq]; ac_rfl
  refine set_map I.kIn O c.sa c.po n.taker c.hd wi hz fun h' O' sb=>h _ ?_
  have hd:∃ o,h'.get? dx=some o:=let ⟨o,_,_,e',_⟩:=O'.ns; ⟨o,e'⟩
  refine I.write (x:=a) (e:=dx) (by rw [e]; exact True.intro) (.inr ho) (fun b q hb z=>(sb.2 b hb).trans z) hd ?_
  refine ⟨by rw [a0G O.ne]; exact ho,?_,O.ne,O'.obj,_,O'.ns,fun g=>?_,fun g hg=>?_⟩
  . have:=a7F f y fs; ac_rfl
  . show RelO ((a8Z f y fs).lookup g) (if g=f then some u else mA g)
    rw [a7D]
    by_cases q:g=f
    . rw [if_pos q,if_pos q]; exact ry
    . rw [if_neg q,if_neg q]; exact r g
  . by_cases q:g=f
    . rw [q]; exact (a7G f y fs).1
    . refine (a7G f y fs).2 g (wi g fun z=>hg ?_)
      show (if g=f then some u else mA g)=none
      rw [if_neg q]; exact z
theorem Inv.made (I:Inv X pins σ H s):Inv X pins σ (upd (upd H s.heap.objs.size (.own (s.heap.objs.size + 1))) (s.heap.objs.size + 1) (.ins C s.heap.objs.size []))
    { s with heap:=(s.heap.push W.emptyDict).push (W.instObj C s.heap.objs.size) }:=by
  have e1:(s.heap.push W.emptyDict).get? s.heap.objs.size=some W.emptyDict:=Heap.get?_push_size s.heap rfl
  have e2:((s.heap.push W.emptyDict).push (W.instObj C s.heap.objs.size)).get? (s.heap.objs.size + 1)=some (W.instObj C s.heap.objs.size):=by
    have:=Heap.get?_push_size (s.heap.push W.emptyDict) (o:=W.instObj C s.heap.objs.size) rfl
    rwa [Heap.size_push] at this
  have e3:(s.heap.push W.emptyDict).Ns s.heap.objs.size (fun _=>none):=⟨W.emptyDict,#[],_,e1,rfl,(fun e he=>absurd he (by simp)),fun _=>rfl⟩
  have I1:=I.laid (a:=s.heap.objs.size) (o:=.own (s.heap.objs.size + 1)) (h':=s.heap.push W.emptyDict) (t':=s.toks) (fun b u q=>Heap.get?_push_of_some _ q) (Nat.le_refl _) ⟨_,e1⟩
  refine I1.laid (a:=s.heap.objs.size + 1) (o:=.ins C s.heap.objs.size []) (t':=s.toks) (fun b u q=>Heap.get?_push_of_some _ q) (Nat.le_of_eq (Heap.size_push _ _)) ?_
  have ne:s.heap.objs.size ≠ s.heap.objs.size + 1:=Nat.ne_of_lt (Nat.lt_succ_self _)
  refine ⟨by rw [a0G ne,a0I],Nat.zero_le _,ne,e2,fun _=>none,(Heap.Ns1.of_empty e3).at fun o q=>Heap.get?_push_of_some _ q,fun _=>True.intro,fun y hy=>absurd rfl hy⟩
theorem attr_of {prog:Program} {w:World} {env:Env} {e:Expr} {f:Str} {pos:Pos} {s:Shared} {Q:Value->Shared->Prop} (hb:attributeBase e f env (eval e env)=eval e env)
    (h:wpAny (model prog w) A (eval e env) (fun o s₁=>wpAny (model prog w) A (getAttr o f true) Q E s₁) E s):wpAny (model prog w) A (eval (.Attribute e f pos) env) Q E s:=
  Attribute_any_ h (by rw [arm_eval_Attribute,hb])
end
def tFld (K:W.Frag) (ta:TE) (f:Str):TE:=fun σ H Q=>ta σ H fun x H1=>∃ a C dx fs v,x=.ref a/\H1 a=some (.ins C dx fs)/\Cls K C/\a4n K C f/\fs.lookup f=some v/\Q v H1
def sFld (K:W.Frag) (ta tv:TE) (f:Str):TS:=fun D σ H=>tv σ H fun y H1=>ta σ H1 fun x H2=>∃ a C dx fs,x=.ref a/\H2 a=some (.ins C dx fs)/\Cls K C/\a4n K C f/\fs.length < 1000 /\
  D.nx σ (upd H2 a (.ins C dx (a8Z f y fs)))
section
variable {X:Cx} {o e value:Expr} {f:Str} {pos pos' tpos:Pos} {ta tv:TE}
theorem pe_fld (he:PE X e ta) (hb:attributeBase e f X.env (eval e X.env)=eval e X.env):PE X (.Attribute e f pos) (tFld X.K ta f):=by
  intro pins s σ H Q I h
  refine attr_of hb (thn (he pins s σ H _ I h) fun u s1 ⟨x,H1,I1,rx,a,C,dx,fs,v,ex,ea,c,n,l,q⟩=>?_)
  subst ex
  obtain rfl:u=Value.ref a:=rx
  exact getattr_ok I1 ea c n l fun u' s2 I2 ru=>⟨v,H1,I2,ru,q⟩
theorem ps_fld (ha:PE X o ta) (hv:PE X value tv) (hs:swapsWith value (some (.Attribute o f pos')) pos.line X.env=pure false):PS X (.Assign [.Attribute o f pos'] value pos) (sFld X.K ta tv f):=by
  intro pins s σ H D I h
  refine plainObj_wpAny_Assign_Attribute (thn (hv pins s σ H _ I h) fun u s1 ⟨y,H1,I1,ry,q⟩=>thn (ha pins s1 σ H1 _ I1 q) fun ov s2 ⟨x,H2,I2,rx,a,C,dx,fs,ex,ea,c,n,l,q2⟩=>?_) hs
  subst ex
  obtain rfl:ov=Value.ref a:=rx
  exact setattr_ok I2 ea c n l ry fun s3 I3=>⟨σ,_,I3,q2⟩
end
section
variable {X:Cx} {pins:List (Addr × Obj)} {σ:St} {H:Hp} {s:Shared} {A:Around} {E:Value->Shared->Prop} {Q:Value->Shared->Prop} {c:Value} {b:Bool}
inductive TyOf (K:W.Frag) (H:Hp):V->Value->Prop where
  | non:TyOf K H .non (.type "NoneType")
  | bl (x:Bool):TyOf K H (.bl x) (.type "bool")
  | int (i:Int):TyOf K H (.int i) (.type "int")
  | str (x:Str):TyOf K H (.str x) (.type "str")
  | flt (x:UInt64):TyOf K H (.flt x) (.type "float")
  | lst {a:Addr} {xs:List V} (e:H a=some (.lst xs)):TyOf K H (.ref a) (.type "list")
  | frz {a:Addr} {o:Obj} {xs:List V} (e:H a=some (.frz o (.lst xs))):TyOf K H (.ref a) (.type "list")
  | tup {a:Addr} {xs:List V} (e:H a=some (.tup xs)):TyOf K H (.ref a) (.type "tuple")
  | dK {a:Addr} {kvs:List (Key × V)} (e:H a=some (.dK kvs)):TyOf K H (.ref a) (.type "dict")
  | dT {a:Addr} {ep:Nat} {kvs:List (List Key × V)} (e:H a=some (.dT ep kvs)):TyOf K H (.ref a) (.type "dict")
  | ins {a C dx:Addr} {fs:List (Str × V)} (e:H a=some (.ins C dx fs)) (cl:Cls K C) (ha:W.findIn K (.ref C) "__class__" = some (some (.builtin "object.__class__")))
      (hn:W.specialIn K (.builtin "object.__class__") "__get__" = some (some (.builtin "getset_descriptor.__get__"))) (htk:W.takesIn K (.builtin "object.__class__")=some true)
      (hm:W.mroIn K C (.type "object")=some true):TyOf K H (.ref a) (.ref C)
theorem isinst_ok {x:V} {u t:Value} (I:Inv X pins σ H s) (rx:a2z x u) (ty:TyOf X.K H x t) (e:W.kitOne X.K t c=some b) (h:∀ tk,Q (.bool b) { s with toks:=tk }):
    wpAny (model X.prog X.w) A (call (.builtin "isinstance") [u,c]) Q E s:=by
  cases ty with
  | non=>cases (show u=Value.none from rx); exact W.kia_one W.kitx_none I.kIn True.intro e (fun z=>nomatch z) h
  | bl y=>cases (show u=Value.bool y from rx); exact W.kia_one W.kitx_bool I.kIn True.intro e (fun z=>nomatch z) h
  | int i=>obtain ⟨t,q⟩:=(show ∃ t,u=Value.int i t from rx); cases q; exact W.kia_one W.kitx_int I.kIn True.intro e (fun z=>nomatch z) h
  | str y=>obtain ⟨t,q⟩:=(show ∃ t,u=Value.str y t from rx); cases q; exact W.kia_one W.kitx_str I.kIn True.intro e (fun z=>nomatch z) h
  | flt y=>obtain ⟨t,q⟩:=(show ∃ t,u=Value.float y t from rx); cases q; exact W.kia_one W.kitx_float I.kIn True.intro e (fun z=>nomatch z) h
  | @lst a xs ea=>
    cases (show u=Value.ref a from rx)
    obtain ⟨_,_,n,_,h1⟩:=(show a2a X.prog X.w H s.heap a (.lst xs) from I.hok a _ ea)
    exact W.kia_one W.kitx_list I.kIn ⟨_,h1,rfl⟩ e (fun z=>nomatch z) h
  | @frz a ob xs ea=>
    cases (show u=Value.ref a from rx)
    obtain ⟨_,_,_,n,_,h1⟩:=(show a2a X.prog X.w H s.heap a (.frz ob (.lst xs)) from I.hok a _ ea)
    exact W.kia_one W.kitx_list I.kIn ⟨_,h1,rfl⟩ e (fun z=>nomatch z) h
  | @tup a xs ea=>
    cases (show u=Value.ref a from rx)
    obtain ⟨_,_,_,p⟩:=(show a2a X.prog X.w H s.heap a (.tup xs) from I.hok a _ ea)
    obtain ⟨o,h1,h2,_⟩:=p
    exact W.kia_one W.kitx_tuple I.kIn ⟨o,h1,h2⟩ e (fun z=>nomatch z) h
  | @dK a kvs ea=>
    cases (show u=Value.ref a from rx)
    obtain ⟨_,_,vs,_,p⟩:=(show a2a X.prog X.w H s.heap a (.dK kvs) from I.hok a _ ea)
    obtain ⟨o,es,ep,h1,h2,_⟩:=p
    exact W.kia_one W.kitx_dict I.kIn ⟨o,h1,h2.1⟩ e (fun z=>nomatch z) h
  | @dT a ep kvs ea=>
    cases (show u=Value.ref a from rx)
    obtain ⟨_,_,xs,_,o,es,h1,h2,_⟩:=(show a2a X.prog X.w H s.heap a (.dT ep kvs) from I.hok a _ ea)
    exact W.kia_one W.kitx_dict I.kIn ⟨o,h1,h2.1⟩ e (fun z=>nomatch z) h
  | @ins a C dx fs ea cl ha hn htk hm=>
    cases (show u=Value.ref a from rx)
    obtain ⟨mA,O,_⟩:=ins_get I.hok ea
    obtain ⟨od,J,_⟩:=O.look
    exact W.kia_one (W.kitx_own (cl.get _) cl.hd ha hn htk hm) I.kIn J e (fun z=>nomatch z) h
end
end L2
namespace L2
open PySem PySem.Spec PyProof.Rows
structure Room (k:Nat) (A:Around):Prop where
  hd:A.handled=none
  dp:A.depth + 3 * k + 5 < recursionLimit
  un:A.units + 16 * k + 200 < cLine
theorem Room.mono {j k:Nat} {A:Around} (r:Room k A) (h:j<=k):Room j A:=⟨r.hd,by have:=r.dp; ac_rfl,by have:=r.un; ac_rfl⟩
theorem Room.deeper {k:Nat} {A:Around} (r:Room (k + 1) A) (env:Env):Room k (A.deeper env):=
  ⟨r.hd,by have:=r.dp; show A.depth + 1 + 3 * k + 5 < _; ac_rfl,by have:=r.un; show A.units + 3 + 16 * k + 200 < _; ac_rfl⟩
theorem make_depth {A:Around} {C:Addr} {us:List Value} {kw:List (Str × Value)}:(A.under (.builtin "type.__call__" ⟨.ref C :: us,kw⟩)).depth=A.depth + 1:=by
  first | rfl | simp [Around.under,Code.weight,Code.isCreation,Code.isGuard,Code.isCaller,Code.frames,Code.isFrame,guardIds]
theorem make_units {A:Around} {C:Addr} {us:List Value} {kw:List (Str × Value)}:(A.under (.builtin "type.__call__" ⟨.ref C :: us,kw⟩)).units=A.units + 1:=by
  first | rfl | simp [Around.under,Code.cUnits,Code.frames,Code.isFrame]
theorem Room.make {k:Nat} {A:Around} (r:Room (k + 1) A) (C:Addr) (us:List Value) (kw:List (Str × Value)):Room k (A.under (.builtin "type.__call__" ⟨.ref C :: us,kw⟩)):=
  ⟨r.hd,by have:=r.dp; rw [make_depth]; ac_rfl,by have:=r.un; rw [make_units]; ac_rfl⟩
theorem Room.depth {k:Nat} {A:Around} (r:Room k A):A.depth < recursionLimit:=by have:=r.dp; ac_rfl
theorem Room.units {k:Nat} {A:Around} (r:Room k A):A.units + 64 < cLine:=by have:=r.un; ac_rfl
def tNil:TA:=fun _ H Q=>Q [] H
def tCons (ta:TE) (tr:TA):TA:=fun σ H Q=>ta σ H fun x H1=>tr σ H1 fun xs H2=>Q (x :: xs) H2
section
variable {X:Cx} {e:Expr} {es:List Expr} {te:TE} {t:TA} {pos:Pos}
theorem pa_nil:PA X [] tNil:=fun _ _ _ _ H Q I h=>Calls.spliced_nil ⟨[],H,I,.nil,h⟩
theorem a6f (ha:PE X e te) (hr:PA X es t) (hs:starEach (e :: es) X.env=(false,eval e X.env) :: starEach es X.env:=by rfl):PA X (e :: es) (tCons te t):=by
  intro pos pins s σ H Q I h
  rw [hs]
  show wpAny _ _ (spliced ((false,eval e X.env) :: backTo pos (starEach es X.env))) _ _ s
  refine Calls.spliced_cons (thn (ha pins s σ H _ I h) fun u s1 ⟨x,H1,I1,r1,q1⟩=>?_)
  exact thn (hr pos pins s1 σ H1 _ I1 q1) fun us s2 ⟨xs,H2,I2,r2,q2⟩=>⟨x :: xs,H2,I2,.cons r1 r2,q2⟩
def tTup (t:TA):TE:=fun σ H Q=>t σ H fun xs H1=>xs.length<=sizeLine /\ ∀ p,H1 p=none->Q (.ref p) (upd H1 p (.tup xs))
def tLst (t:TA):TE:=fun σ H Q=>t σ H fun xs H1=>xs.length<=sizeLine /\ ∀ p,H1 p=none->Q (.ref p) (upd H1 p (.lst xs))
theorem pe_tup {x1} (h:PA X es t):PE X (.Tuple es x1 pos) (tTup t):=by
  intro pins s σ H Q I hq
  refine wpAny_Tuple_spliced (thn (h pos pins s σ H _ I hq) fun us s1 ⟨xs,H1,I1,r,z,q⟩=>⟨by rw [<- r.length]; exact z,?_⟩)
  have hf:H1 s1.heap.objs.size=none:=I1.hok.fresh (Nat.le_refl _)
  refine ⟨.ref s1.heap.objs.size,upd H1 s1.heap.objs.size (.tup xs),I1.laid (t':=s1.toks) (fun b u e=>Heap.get?_push_of_some _ e) (Nat.le_refl _) ?_,rfl,q _ hf⟩
  exact ⟨z,us,r,⟨_,Heap.get?_push_size _ rfl,rfl,_,rfl⟩⟩
theorem pe_lst (h:PA X es t):PE X (.List es pos) (tLst t):=by
  intro pins s σ H Q I hq
  refine wpAny_List_spliced (thn (h pos pins s σ H _ I hq) fun us s1 ⟨xs,H1,I1,r,z,q⟩=>⟨by rw [<- r.length]; exact z,?_⟩)
  have hf:H1 s1.heap.objs.size=none:=I1.hok.fresh (Nat.le_refl _)
  refine ⟨.ref s1.heap.objs.size,upd H1 s1.heap.objs.size (.lst xs),I1.laid (t':=s1.toks) (fun b u e=>Heap.get?_push_of_some _ e) (Nat.le_refl _) ?_,rfl,q _ hf⟩
  exact ⟨z,us,0,r,Heap.get?_push_size _ rfl⟩
end
abbrev Sp:=List V->Hp->VK->XK->Prop
abbrev CXT:=List Env->Hp->Shared->XK->Value->Shared->Prop
structure Env0 (P:Program) (w:World) (K:W.Frag) (mg:Str->Option Value) (base:Heap) (A:Around) (outer:List Env) (s:Shared) (H:Hp):Prop where
  frames:A.frames=some outer
  mod:Mod K mg base
  bs:∀ b o,base.get? b=some o->s.heap.get? b=some o/\H b=none
  bsz:base.objs.size<=s.heap.objs.size
  funs:s.heap.FunFrames base outer
  frf:∀ b ∈ frs outer,H b=none
  hok:HOk P w H s.heap
  bare:AllBare s.gens
def CE (outer:List Env) (P:Program) (w:World) (H:Hp) (s:Shared) (Q:VK) (u:Value) (s':Shared):Prop:=
  ∃ v H',s'.os=s.os/\AllBare s'.gens/\Un (frs outer) [] H H' s.heap s'.heap/\HOk P w H' s'.heap/\a2z v u/\Q v H'
def CR (CX:CXT) (outer:List Env) (P:Program) (w:World) (H:Hp) (s:Shared) (Q:VK) (E:XK) (r:Result) (s':Shared):Prop:=
  match r with
  | .ok (.ret u)=>CE outer P w H s Q u s'
  | .ok _=>False
  | .error e=>CX outer H s E e s'
structure FnOk (P:Program) (w:World) (K:W.Frag) (mg:Str->Option Value) (base:Heap) (CX:CXT) (k:Nat) (f:Addr) (fd:FuncData) (ps:List Str) (sp:Sp):Prop where
  len:∀ vs H Q E,sp vs H Q E->vs.length=ps.length
  run:∀ (A:Around) (outer:List Env) (s:Shared) (H:Hp) (args:Args) (us:List Value) (vs:List V) (Q:VK) (E:XK),Room k A->Env0 P w K mg base A outer s H->BindsTo s fd args (ps.zip us)->a1w vs us->sp vs H Q E ->
    codeAny (model P w) A (.call (.ref f) args) (CR CX outer P w H s Q E) s
theorem Env0.make {P:Program} {w:World} {K:W.Frag} {mg:Str->Option Value} {base:Heap} {A:Around} {outer:List Env} {s:Shared} {H:Hp} (e:Env0 P w K mg base A outer s H) (C:Addr) (us:List Value) (kw:List (Str × Value)):
    Env0 P w K mg base (A.under (.builtin "type.__call__" ⟨.ref C :: us,kw⟩)) outer s H:=⟨by first | exact e.frames | (simpa [Around.under,Code.envs,Code.isFrame,pushEnvs] using e.frames),e.mod,e.bs,e.bsz,e.funs,e.frf,e.hok,e.bare⟩
section
variable {X:Cx} {pins:List (Addr × Obj)} {σ:St} {H:Hp} {s s':Shared}
theorem Inv.env0 (I:Inv X pins σ H s):Env0 X.prog X.w X.K X.mg X.base X.A X.stack s H:=
  ⟨I.ok.frames,I.ok.mod,I.bs,Nat.le_trans I.ok.bsz I.sz,I.stack,I.stkFree,I.hok,I.bare⟩
theorem Inv.after {Q:VK} {u:Value} (I:Inv X pins σ H s) (h:CE X.stack X.prog X.w H s Q u s'):EP X pins σ Q u s':=by
  obtain ⟨v,H',os,bare,un,hok,r,q⟩:=h
  obtain ⟨hh,g,d,t,os'⟩:=s'
  obtain rfl:os'=s.os:=os
  exact ⟨v,H',I.call (h':=hh) (g':=g) (d':=d) (t':=t) (ch:=[]) un hok bare (fun b z=>absurd z (by simp)),r,q⟩
end
def tCall (sp:Sp) (dvs:List V) (E:XK) (t:TA):TE:=fun σ H Q=>t σ H fun vs H1=>sp (vs ++ dvs) H1 Q E
def tMeth (C:Addr) (m:Str) (sp:Sp) (dvs:List V) (E:XK) (ta:TE) (t:TA):TE:=fun σ H Q=>ta σ H fun x H1=>∃ a dx fs,x=.ref a/\H1 a=some (.ins C dx fs)/\fs.lookup m=none /\
  t σ H1 fun vs H2=>sp (x :: (vs ++ dvs)) H2 Q E
def tMake (C:Addr) (sp:Sp) (dvs:List V) (E:XK) (t:TA):TE:=fun σ H Q=>t σ H fun vs H1=>∀ x dx,H1 x=none->H1 dx=none->dx ≠ x ->
  sp (.ref x :: (vs ++ dvs)) (upd (upd H1 dx (.own x)) x (.ins C dx [])) (fun v H2=>v=.non/\Q (.ref x) H2) E
def a5F (K:W.Frag) (fd:FuncData) (ps:List Str) (ds:List Value):Prop:=
  ∀ (s:Shared) (us:List Value),K.In s.heap->(us ++ ds).length=ps.length->BindsTo s fd ⟨us,[]⟩ (ps.zip (us ++ ds))
theorem a5F.all {K:W.Frag} {fd:FuncData} {ps:List Str} (h:∀ us:List Value,us.length=ps.length->bindArgs fd ⟨us,[]⟩=pure (ps.zip us)):a5F K fd ps []:=fun s us _ hl=>by
  rw [List.append_nil] at hl ⊢
  exact .of_eq (h us hl)
def a7U (CX:CXT) (X:Cx) (E:XK):Prop:=∀ (pins:List (Addr × Obj)) (σ:St) (H:Hp) (s:Shared) (e:Value) (s':Shared),Inv X pins σ H s->CX X.stack H s E e s'->X.xe e s'
section
variable {X:Cx} {CX:CXT} {k:Nat} {f C:Addr} {fd:FuncData} {ps:List Str} {sp:Sp} {dvs:List V} {ds:List Value} {E:XK} {x m:Str} {p pos apos:Pos} {e o:Expr} {es:List Expr} {ta:TE} {t:TA}
theorem run_fn {pins:List (Addr × Obj)} {σ:St} {H:Hp} {s:Shared} {Q:VK} {us:List Value} {vs:List V} (F:FnOk X.prog X.w X.K X.mg X.base CX k f fd ps sp) (hr:Room k X.A) (hb:a5F X.K fd ps ds) (hd:a1w dvs ds) (hx:a7U CX X E)
    (I:Inv X pins σ H s) (r:a1w vs us) (h:sp (vs ++ dvs) H Q E):wpAny (model X.prog X.w) X.A (call (.ref f) us) (EP X pins σ Q) X.xe s:=by
  have r2:a1w (vs ++ dvs) (us ++ ds):=r.append hd
  have hl:(us ++ ds).length=ps.length:=by rw [<- r2.length]; exact F.len _ _ _ _ h
  refine wpAny_call (codeAny_mono (F.run X.A X.stack s H ⟨us,[]⟩ (us ++ ds) (vs ++ dvs) Q E hr I.env0 (hb s us I.kIn hl) r2 h) fun r s' hq=>?_)
  cases r with
  | error e=>exact hx pins σ H s e s' I hq
  | ok fl=>
    cases fl with
    | ret u=>exact I.after hq
    | next=>exact False.elim hq
    | brk=>exact False.elim hq
    | cont=>exact False.elim hq
theorem pe_call (F:FnOk X.prog X.w X.K X.mg X.base CX k f fd ps sp) (hr:Room k X.A) (hg:Gl X x) (hm:X.mg x=some (.ref f)) (hk:W.keepIn X.K (.ref f)=true) (hb:a5F X.K fd ps ds) (hd:a1w dvs ds) (hx:a7U CX X E)
    (ha:PA X (e :: es) t) (hdb:(x == ("__debug__" : Str))=false:=by decide) (he:starEach (e :: es) X.env=(false,eval e X.env) :: starEach es X.env:=by rfl) (hpl:(backTo pos (starEach es X.env)).any (·.1)=false:=by rfl):
    PE X (.Call (.Name x p) (e :: es) [] pos) (tCall sp dvs E t):=by
  intro pins s σ H Q I h
  refine wpAny_Call_Name_kw (ld_glob I hg hm ?_ hdb)
  refine W.callWith_K (h₀:=X.base) I.ok.mod.kin hk (thn (ha pos pins s σ H _ I h) fun us s1 ⟨vs,H1,I1,r,q⟩=>⟨I1.kIn,?_⟩) he hpl
  exact run_fn F hr hb hd hx I1 r q
theorem pe_meth {pl:Sem Bool} (he:PE X o ta) (c:Cls X.K C) (hm:Meth X.K C m f) (F:FnOk X.prog X.w X.K X.mg X.base CX k f fd ps sp) (hr:Room k X.A) (hb:a5F X.K fd ps ds) (hd:a1w dvs ds) (hx:a7U CX X E) (ha:PA X (e :: es) t)
    (hst:starEach (e :: es) X.env=(false,eval e X.env) :: starEach es X.env:=by rfl) (hpl:(backTo pos (starEach es X.env)).any (·.1)=false:=by rfl)
    (ht:eval (.Call (.Attribute o m apos) (e :: es) [] pos) X.env=(do
      let ov <- eval o X.env
      standAt apos.atName
      let (f,first) <- holding [ov] (getMethod ov m pl)
      callWith pos f first (backTo pos (starEach (e :: es) X.env)) (backToKw pos (keywordEach [] X.env))):=by rfl):
    PE X (.Call (.Attribute o m apos) (e :: es) [] pos) (tMeth C m sp dvs E ta t):=by
  intro pins s σ H Q I h
  refine W.methodCall_KW (pl:=pl) (thn (he pins s σ H _ I h) fun u s1 ⟨x,H1,I1,rx,a,dx,fs,ex,ea,l,q⟩=>?_) ht
  subst ex
  obtain rfl:u=Value.ref a:=rx
  refine a8D I1 ea c hm l ?_
  refine W.callWith_K (first:=[.ref a]) (h₀:=X.base) I.ok.mod.kin hm.kp (thn (ha pos pins s1 σ H1 _ I1 q) fun us s2 ⟨vs,H2,I2,r,q2⟩=>⟨I2.kIn,?_⟩) hst hpl
  exact run_fn (us:=.ref a :: us) (vs:=.ref a :: vs) F hr hb hd hx I2 (.cons rfl r) q2
theorem pe_meth0 {pl:Sem Bool} (he:PE X o ta) (c:Cls X.K C) (hm:Meth X.K C m f) (F:FnOk X.prog X.w X.K X.mg X.base CX k f fd ps sp) (hr:Room k X.A) (hb:a5F X.K fd ps ds) (hd:a1w dvs ds) (hx:a7U CX X E)
    (ht:eval (.Call (.Attribute o m apos) [] [] pos) X.env=(do
      let ov <- eval o X.env
      standAt apos.atName
      let (f,first) <- holding [ov] (getMethod ov m pl)
      callWith pos f first (backTo pos (starEach [] X.env)) (backToKw pos (keywordEach [] X.env))):=by rfl):
    PE X (.Call (.Attribute o m apos) [] [] pos) (tMeth C m sp dvs E ta tNil):=by
  intro pins s σ H Q I h
  refine W.methodCall_KW (pl:=pl) (thn (he pins s σ H _ I h) fun u s1 ⟨x,H1,I1,rx,a,dx,fs,ex,ea,l,q⟩=>?_) ht
  subst ex
  obtain rfl:u=Value.ref a:=rx
  refine a8D I1 ea c hm l ?_
  exact W.callWith_K0 (first:=[.ref a]) I1.kIn hm.kp (run_fn (us:=[.ref a]) (vs:=[.ref a]) F hr hb hd hx I1 (.cons rfl .nil) q)
structure Mk (K:W.Frag) (C f:Addr):Prop where
  makes:W.makesIn K C=true
  init:W.findIn K (.ref C) "__init__" = some (some (.ref f))
  fn:W.isFn K (.ref f)=true
  kp:W.keepIn K (.ref C)=true
theorem run_make {pins:List (Addr × Obj)} {σ:St} {H:Hp} {s:Shared} {Q:VK} {us:List Value} {vs:List V} (M:Mk X.K C f) (F:FnOk X.prog X.w X.K X.mg X.base CX k f fd ps sp) (hr:Room (k + 1) X.A) (hb:a5F X.K fd ps ds) (hd:a1w dvs ds)
    (hx:a7U CX X E) (I:Inv X pins σ H s) (r:a1w vs us)
    (h:∀ x dx,H x=none->H dx=none->dx ≠ x->sp (.ref x :: (vs ++ dvs)) (upd (upd H dx (.own x)) x (.ins C dx [])) (fun v H2=>v=.non/\Q (.ref x) H2) E):
    wpAny (model X.prog X.w) X.A (call (.ref C) us) (EP X pins σ Q) X.xe s:=by
  have hq:=h (s.heap.objs.size + 1) s.heap.objs.size (I.hok.fresh (Nat.le_succ _)) (I.hok.fresh (Nat.le_refl _)) (Nat.ne_of_lt (Nat.lt_succ_self _))
  have I2:=Inv.made (C:=C) I
  have r2:a1w (V.ref (s.heap.objs.size + 1) :: (vs ++ dvs)) (Value.ref (s.heap.objs.size + 1) :: (us ++ ds)):=.cons rfl (r.append hd)
  have hl:(Value.ref (s.heap.objs.size + 1) :: us ++ ds).length=ps.length:=by
    have e:=r2.length
    rw [F.len _ _ _ _ hq] at e
    exact e.symm
  refine wpAny_call (make_map (f:=f) I.kIn M.makes M.init (beq_iff_eq.mp M.fn) (codeAny_mono (F.run _ X.stack _ _ ⟨Value.ref (s.heap.objs.size + 1) :: us,[]⟩ (Value.ref (s.heap.objs.size + 1) :: (us ++ ds)) _ _ E (hr.make C us [])
    (I2.env0.make C us []) (hb _ (Value.ref (s.heap.objs.size + 1) :: us) I2.kIn hl) r2 hq) fun r s' hq'=>?_))
  cases r with
  | error e=>exact hx pins σ _ _ e s' I2 hq'
  | ok fl=>
    cases fl with
    | ret u=>
      obtain ⟨v,H',I3,rv,ev,q3⟩:=I2.after hq'
      subst ev
      exact ⟨rv,⟨V.ref (s.heap.objs.size + 1),H',I3,rfl,q3⟩⟩
    | next=>exact False.elim hq'
    | brk=>exact False.elim hq'
    | cont=>exact False.elim hq'
theorem pe_make (M:Mk X.K C f) (F:FnOk X.prog X.w X.K X.mg X.base CX k f fd ps sp) (hr:Room (k + 1) X.A) (hg:Gl X x) (hm:X.mg x=some (.ref C)) (hb:a5F X.K fd ps ds) (hd:a1w dvs ds) (hx:a7U CX X E)
    (ha:PA X (e :: es) t) (hdb:(x == ("__debug__" : Str))=false:=by decide) (he:starEach (e :: es) X.env=(false,eval e X.env) :: starEach es X.env:=by rfl) (hpl:(backTo pos (starEach es X.env)).any (·.1)=false:=by rfl):
    PE X (.Call (.Name x p) (e :: es) [] pos) (tMake C sp dvs E t):=by
  intro pins s σ H Q I h
  refine wpAny_Call_Name_kw (ld_glob I hg hm ?_ hdb)
  refine W.callWith_K (h₀:=X.base) I.ok.mod.kin M.kp (thn (ha pos pins s σ H _ I h) fun us s1 ⟨vs,H1,I1,r,q⟩=>⟨I1.kIn,?_⟩) he hpl
  exact run_make M F hr hb hd hx I1 r q
end
section
variable {X:Cx} {CX:CXT} {k:Nat} {f C:Addr} {fd:FuncData} {ps ks:List Str} {sp:Sp} {E:XK} {x m:Str} {p pos apos kpos:Pos} {e o:Expr} {es:List Expr} {kws:List Keyword} {te ta:TE} {t tk:TA} {nm:Option Str}
variable {g:List Value->List Value->List Value} {gV:List V->List V->List V}
end
structure FnScope (N P:List Str) (sc:Scope):Prop where
  kind:sc.kind=.function
  co:sc.isCoroutine=false
  gen:sc.isGenerator=false
  nd:N.Nodup
  pre:N.take P.length=P
  par:∀ x ∈ P,sc.names.lookup x=some .local \/ sc.names.lookup x=some .cell
  nofree:∀ y ∈ sc.names,y.2 ≠ .free
theorem bindL_out {kindOf:Str->Option NameKind} {x:Str}:∀ {binds:List (Str × Value)} {m:Str->Option Value},(∀ v,(x,v) ∉ binds)->bindL kindOf binds m x=m x
  | [],_,_=>rfl
  | (n,v) :: r,m,h=>by
    unfold bindL
    rw [bindL_out fun w hw=>h w (List.mem_cons_of_mem _ hw)]
    split
    . have:x ≠ n:=by rintro rfl; exact h v List.mem_cons_self
      simp [this]
    . rfl
theorem bindC_out {kindOf:Str->Option NameKind} {x:Str}:∀ {binds:List (Str × Value)} {m:Str->Option Value},(∀ v,(x,v) ∉ binds)->bindC kindOf binds m x=m x
  | [],_,_=>rfl
  | (n,v) :: r,m,h=>by
    unfold bindC
    rw [bindC_out fun w hw=>h w (List.mem_cons_of_mem _ hw)]
    split
    . rfl
    . have:x ≠ n:=by rintro rfl; exact h v List.mem_cons_self
      simp [this]
theorem bindL_get {kindOf:Str->Option NameKind} {x:Str} {v:Value}:∀ {P:List Str} {vs:List Value} {i:Nat} {m:Str->Option Value},P.Nodup->P[i]?=some x->vs[i]?=some v->kindOf x=some .local ->
    bindL kindOf (P.zip vs) m x=some v
  | [],_,_,_,_,h,_,_=>by simp at h
  | _ :: _,[],_,_,_,_,h,_=>by simp at h
  | p :: P,w :: vs,0,m,nd,h1,h2,hk=>by
    simp at h1 h2; subst h1; subst h2
    show bindL kindOf ((p,w) :: P.zip vs) m p=_
    unfold bindL
    rw [bindL_out fun v hv=>(List.nodup_cons.mp nd).1 (List.of_mem_zip hv).1,if_pos hk]
    simp
  | p :: P,w :: vs,i + 1,m,nd,h1,h2,hk=>by
    show bindL kindOf ((p,w) :: P.zip vs) m x=_
    unfold bindL
    exact bindL_get (i:=i) (List.nodup_cons.mp nd).2 (by simpa using h1) (by simpa using h2) hk
theorem bindC_get {kindOf:Str->Option NameKind} {x:Str} {v:Value}:∀ {P:List Str} {vs:List Value} {i:Nat} {m:Str->Option Value},P.Nodup->P[i]?=some x->vs[i]?=some v->kindOf x ≠ some .local ->
    bindC kindOf (P.zip vs) m x=some v
  | [],_,_,_,_,h,_,_=>by simp at h
  | _ :: _,[],_,_,_,_,h,_=>by simp at h
  | p :: P,w :: vs,0,m,nd,h1,h2,hk=>by
    simp at h1 h2; subst h1; subst h2
    show bindC kindOf ((p,w) :: P.zip vs) m p=_
    unfold bindC
    rw [bindC_out fun v hv=>(List.nodup_cons.mp nd).1 (List.of_mem_zip hv).1,if_neg hk]
    simp
  | p :: P,w :: vs,i + 1,m,nd,h1,h2,hk=>by
    show bindC kindOf ((p,w) :: P.zip vs) m x=_
    unfold bindC
    exact bindC_get (i:=i) (List.nodup_cons.mp nd).2 (by simpa using h1) (by simpa using h2) hk
noncomputable def start (N:List Str) (vs:List V):St:=vs.map some ++ List.replicate (N.length - vs.length) none
noncomputable def hsOf (A:Around):List Addr:=match A.handled with
  | some (.ref a)=>[a]
  | _=>[]
theorem hsOf_none {A:Around} (h:A.handled=none):hsOf A=[]:=by
  unfold hsOf
  rw [h]
noncomputable def cxOf (CX:CXT) (P:Program) (w:World) (K:W.Frag) (mg:Str->Option Value) (base:Heap) (N:List Str) (qual:Str) (scope:Scope) (f:Addr) (cd:Value) (A:Around) (outer:List Env) (s:Shared) (H:Hp) (E:XK):Cx where
  prog:=P
  w:=w
  K:=K
  mg:=mg
  base:=base
  A:=A.deeper (envOfC qual scope s.heap.objs.size f cd)
  N:=N
  s₀:=s
  HZ:=H
  env:=envOfC qual scope s.heap.objs.size f cd
  outer:=outer
  stack:=envOfC qual scope s.heap.objs.size f cd :: outer
  ex:=[]
  calm:=true
  fn:=fun _=>true
  pn:=[]
  hs:=hsOf A
  xe:=fun e s'=>wpAny (model P w) (A.deeper (envOfC qual scope s.heap.objs.size f cd)) (leaving (envOfC qual scope s.heap.objs.size f cd) e) (fun _ s''=>CX outer H s E e s'') (fun e' s''=>CX outer H s E e' s'') s'
theorem cell_has {sc:Scope} {n:Nat} {x:Str} (h:sc.names.lookup x=some .cell):∃ c,(cellsFrom n sc.names []).lookup x=some c:=by
  have q:=W.cellsFrom_some sc.names n [] (.inl h)
  exact Option.isSome_iff_exists.mp q
theorem inv_start {CX:CXT} {P:Program} {w:World} {K:W.Frag} {mg:Str->Option Value} {base:Heap} {N ps:List Str} {qual:Str} {scope:Scope} {f:Addr} {cd:Value} {A:Around} {outer:List Env} {s s1:Shared} {H:Hp} {E:XK} {us:List Value} {vs:List V}
    (S:FnScope N ps scope) (hd:A.handled=none) (e0:Env0 P w K mg base A outer s H) (hl:vs.length=ps.length) (r:a1w vs us)
    (x:InCallC s s.heap.objs.size (bindL (envOfC qual scope s.heap.objs.size f cd).kindOf (ps.zip us) fun _=>none) (cellsFrom (s.heap.objs.size + 1) scope.names []) (bindC (envOfC qual scope s.heap.objs.size f cd).kindOf (ps.zip us) fun _=>none) s1):
    Inv (cxOf CX P w K mg base N qual scope f cd A outer s H E) [] (start N vs) H s1:=by
  have hpl:ps.length<=N.length:=by have:=congrArg List.length S.pre; rw [List.length_take] at this; ac_rfl
  obtain ⟨h1,tk,rfl,hk⟩:=x.done
  have noA:∀ b:Addr,b ∉ (cxOf CX P w K mg base N qual scope f cd A outer s H E).ex:=fun b z=>absurd (show b ∈ ([]:List Addr) from z) (by simp)
  refine ⟨⟨e0.mod,S.kind,rfl,rfl,Nat.le_refl _,fun y z c h1 h2=>?_,fun y hy=>?_,fun y c _ h=>?_,fun _=>hd,Around.frames_deeper e0.frames,.inr ⟨rfl,rfl⟩,fun b z=>absurd z (noA b),e0.bs,e0.bsz,fun b _ _=>noA b,fun b z=>absurd z (noA b),e0.funs,e0.frf,.inl hd⟩,
    rfl,e0.bare,Un.kept hk,⟨_,x.toInCall.ns,fun i y v h1 h2 h3=>?_⟩,fun y c h=>⟨_,x.cell y c h⟩,e0.hok.fresh (Nat.le_refl _),fun y c h=>?_,fun p hp=>absurd (show p ∈ ([]:List (Addr × Obj)) from hp) (by simp),e0.hok.kept hk,?_,fun a ha=>absurd (show a ∈ hsOf A from ha) (by rw [hsOf_none hd]; simp)⟩
  . exact name_of_addr x.apart (PySem.mem_of_lookup h1) (PySem.mem_of_lookup h2)
  . have hy:scope.names.lookup y=some .cell \/ scope.names.lookup y=some .free:=hy
    rcases hy with hy | hy
    . exact cell_has hy
    . exact absurd rfl (S.nofree _ (PySem.mem_of_lookup hy))
  . exact Nat.le_of_lt (x.above y c (PySem.mem_of_lookup h))
  . have hi:i < vs.length:=by
      unfold start at h2
      by_cases hi:i < vs.length
      . exact hi
      . rw [List.getElem?_append_right (by simpa using hi)] at h2
        rw [List.getElem?_replicate] at h2
        split at h2 <;> cases h2
    have ha:vs[i]?=some v:=by
      unfold start at h2
      rw [List.getElem?_append_left (by simpa using hi),List.getElem?_map] at h2
      cases e:vs[i]? with
      | none=>rw [e] at h2; cases h2
      | some a=>rw [e] at h2; cases h2; rfl
    obtain ⟨u,hu,rv⟩:=r.get ha
    have hp:ps[i]?=some y:=by
      rw [<- S.pre,List.getElem?_take_of_lt (by ac_rfl)]; exact h1
    have ndP:ps.Nodup:=by rw [<- S.pre]; exact S.nd.sublist (List.take_sublist _ _)
    refine ⟨u,rv,?_⟩
    rcases S.par y (List.mem_of_getElem? hp) with k | k
    . exact .inl ⟨k,bindL_get ndP hp hu k⟩
    . obtain ⟨c,e⟩:=cell_has (n:=s.heap.objs.size + 1) k
      refine .inr ⟨.inl k,c,e,?_⟩
      have q:=x.cell y c e
      rw [bindC_get ndP hp hu (by show scope.names.lookup y ≠ _; rw [k]; decide)] at q
      exact q
  . exact e0.hok.fresh (Nat.le_of_lt (x.above y c (PySem.mem_of_lookup h)))
  . unfold start
    show _=N.length
    rw [List.length_append,List.length_map,List.length_replicate]
    ac_rfl
theorem fn_of {CX:CXT} {P:Program} {w:World} {K:W.Frag} {mg:Str->Option Value} {base:Heap} {k:Nat} {f:Addr} {name qual:Str} {params:Arguments} {body:List Stmt} {scope:Scope} {dV kV doc pm cdv ct oc:Value} {an od:Option Addr}
    {osl:Array (Option Value)} {N ps:List Str} {sp:Sp} (lk:K.lookup f=some ⟨oc,od,.func (W.fnOf name qual params body scope dV kV doc pm an cdv ct),osl⟩) (hcd:W.codeIn K cdv qual=true) (S:FnScope N ps scope)
    (len:∀ vs H Q E,sp vs H Q E->vs.length=ps.length)
    (hbody:∀ (A:Around) (outer:List Env) (s:Shared) (H:Hp) (vs:List V) (Q:VK) (E:XK),Room k (A.deeper (envOfC qual scope s.heap.objs.size f cdv))->sp vs H Q E ->
      ∃ t,PSs (cxOf CX P w K mg base N qual scope f cdv A outer s H E) body t/\t { nx:=fun _ H'=>Q .non H',rt:=Q } (start N vs) H):
    FnOk P w K mg base CX (k + 1) f (W.fnOf name qual params body scope dV kV doc pm an cdv ct) ps sp:=by
  refine ⟨len,fun A outer s H args us vs Q E hr e0 hb r hsp=>?_⟩
  have hl:=len _ _ _ _ hsp
  have KX:K.In s.heap:=e0.mod.kin.keeps fun b o e=>(e0.bs b o e).1
  have lim:s.heap.NoLimit:=e0.mod.nolimit.keeps fun b o e=>(e0.bs b o e).1
  have hkind:∀ y ∈ ps.zip us,scope.names.lookup y.1=some .local \/ (scope.names.lookup y.1=some .cell/\((cellsFrom (s.heap.objs.size + 1) scope.names []).lookup y.1).isSome=true):=fun ⟨n,v⟩ hy=>by
    rcases S.par n (List.of_mem_zip hy).1 with q | q
    . exact .inl q
    . exact .inr ⟨q,W.cellsFrom_some _ _ _ (.inl q)⟩
  refine codeAny_call_function hr.depth (KX _ _ lk) rfl S.co S.gen rfl (W.codeRec_of KX hcd) (hb _ _ _ _ ?_)
  refine wpAny_newFunctionEnv_cells S.kind hkind fun env he s1 x=>?_
  subst he
  refine ⟨lim.keeps x.toInCall.keep,codeAny_func ?_⟩
  obtain ⟨t,ht,hq⟩:=hbody A outer s H vs Q E (hr.deeper _) hsp
  have I:Inv (cxOf CX P w K mg base N qual scope f cdv A outer s H E) [] (start N vs) H s1:=inv_start S hr.hd e0 hl r x
  refine wpAny_mono (ht [] s1 (start N vs) H _ I hq) (fun fl s' hs=>?_) fun e s' hs=>hs
  have fin:∀ {σ':St} {H':Hp} {v:V} {u:Value},Inv (cxOf CX P w K mg base N qual scope f cdv A outer s H E) [] σ' H' s'->a2z v u->Q v H'->CE outer P w H s Q u s':=
    fun {σ' H' v u} J rv q=>⟨v,H',J.os,J.bare,J.base,J.hok,rv,q⟩
  cases fl with
  | ret u=>
    obtain ⟨v,σ',H',J,rv,q⟩:=hs
    exact fin J rv q
  | next=>
    obtain ⟨σ',H',J,q⟩:=hs
    exact fin (v:=V.non) (u:=Value.none) J rfl q
  | brk=>
    obtain ⟨_,_,_,q⟩:=hs
    exact False.elim q
  | cont=>
    obtain ⟨_,_,_,q⟩:=hs
    exact False.elim q
end L2
namespace L2
open PySem PySem.Spec PyProof.Rows
section
variable {X:Cx} {x:Str} {p pos:Pos} {e:Expr} {es:List Expr} {t:TA} {id T:String} {r:List V->Hp->VK->Prop}
def tCB (r:List V->Hp->VK->Prop) (t:TA):TE:=fun σ H Q=>t σ H fun vs H1=>r vs H1 Q
theorem pe_callB (hc:a3v X (.builtin id) r) (hg:Gl X x) (hm:X.mg x=none) (hv:bootBuiltins x=some (.builtin id)) (ha:PA X (e :: es) t) (hn:x ≠ "__name__" := by decide) (hdb:(x == ("__debug__" : Str))=false:=by decide)
    (he:starEach (e :: es) X.env=(false,eval e X.env) :: starEach es X.env:=by rfl) (hpl:(backTo pos (starEach es X.env)).any (·.1)=false:=by rfl):PE X (.Call (.Name x p) (e :: es) [] pos) (tCB r t):=by
  intro pins s σ H Q I h
  refine wpAny_Call_Name_kw (a6E I hg hm hv ?_ hn hdb)
  exact PyProof.Rows.callWith_builtin1 (thn (ha pos pins s σ H _ I h) fun us s1 ⟨vs,H1,I1,r1,q1⟩=>hc pins s1 σ H1 vs us Q I1 r1 q1) he hpl
theorem a7t (hc:a3v X (.type T) r) (hg:Gl X x) (hm:X.mg x=none) (hv:bootBuiltins x=some (.type T)) (ha:PA X (e :: es) t) (hn:x ≠ "__name__" := by decide) (hdb:(x == ("__debug__" : Str))=false:=by decide)
    (he:starEach (e :: es) X.env=(false,eval e X.env) :: starEach es X.env:=by rfl) (hpl:(backTo pos (starEach es X.env)).any (·.1)=false:=by rfl):PE X (.Call (.Name x p) (e :: es) [] pos) (tCB r t):=by
  intro pins s σ H Q I h
  refine wpAny_Call_Name_kw (a6E I hg hm hv ?_ hn hdb)
  exact PyProof.Rows.callWith_type1 (thn (ha pos pins s σ H _ I h) fun us s1 ⟨vs,H1,I1,r1,q1⟩=>hc pins s1 σ H1 vs us Q I1 r1 q1) he hpl
end
end L2
namespace HT
open PySem PyProof.Rows
section
open PySem.SeqAt
open PySem.AutoSeq1 (wpAny_loadPart')
open PySem.MeetsSeq PySem.MeetsSeq2 PySem.MeetsSeq3
end
section
variable {prog:Program} {w:World} {A:Around} {E:Value->Shared->Prop} {s:Shared}
theorem cat_tup {t b:Addr} {vs ws:List Value} {Q:Value->Shared->Prop} (ht:IsTup s.heap t vs.toArray) (hb:IsTup s.heap b ws.toArray) (hv:vs ≠ [])
    (h1:ws=[]->Q (.ref t) s) (h2:ws ≠ []->Q (.ref s.heap.objs.size) { s with heap:=s.heap.push { cls:=.type "tuple",data:=.seq (vs ++ ws).toArray } })
    (hsz:vs.length + ws.length<=sizeLine):wpAny (model prog w) A (binaryOp .Add (.ref t) (.ref b)) Q E s:=by
  obtain ⟨⟨cls,dd,data,sl⟩,ho,hc,n,hd⟩:=id ht
  obtain ⟨⟨cls2,dd2,data2,sl2⟩,ho2,hc2,n2,hd2⟩:=id hb
  simp only at hc hd hc2 hd2
  subst hc hd hc2 hd2
  have e:vs.toArray ++ ws.toArray=(vs ++ ws).toArray:=by simp
  by_cases hw:ws=[]
  . exact concat_meets ⟨_,ho,rfl⟩ ⟨_,ho2,rfl⟩ noFill_tuple_add seq_tuple_add PySem.F.slot_tuple_add PySem.F.entry_tuple_add (PySem.F.args_tuple_add_2 _ _)
      (tuple_addW1 t b vs.toArray ws.toArray n n2 dd dd2 sl sl2 (by simpa using hv) (by simp [hw])) ⟨ho,ho2,h1 hw⟩
  . refine concat_meets ⟨_,ho,rfl⟩ ⟨_,ho2,rfl⟩ noFill_tuple_add seq_tuple_add PySem.F.slot_tuple_add PySem.F.entry_tuple_add (PySem.F.args_tuple_add_2 _ _)
      (tuple_addW2 t b vs.toArray ws.toArray n n2 dd dd2 sl sl2 (by simpa using hv) (by simpa using hw) (by rw [List.size_toArray,List.size_toArray]; exact hsz)) ⟨ho,ho2,?_⟩
    rw [e]
    exact h2 hw
noncomputable def sIx (n d:Nat):Option Int->Nat
  | none=>d
  | some v=>if v < 0 then (v + (n:Int)).toNat else min v.toNat n
theorem sIx_none (n d:Nat):sIx n d none=d:=rfl
theorem sIx_le (n d:Nat) (hd:d<=n) (o:Option Int):sIx n d o<=n:=by
  cases o with
  | none=>exact hd
  | some v=>
    show (if v < 0 then (v + (n:Int)).toNat else min v.toNat n)<=n
    by_cases hv:v < 0
    . rw [if_pos hv]; ac_rfl
    . rw [if_neg hv]; exact Nat.min_le_right _ _
theorem clip_eq (v:Int) (n d:Nat):(if v < 0 then max (v + (n:Int)) 0 else min v (n:Int))=((sIx n d (some v):Nat):Int):=by
  show (if v < 0 then max (v + (n:Int)) 0 else min v (n:Int))=(((if v < 0 then (v + (n:Int)).toNat else min v.toNat n):Nat):Int)
  by_cases hv:v < 0
  . simp only [if_pos hv]; ac_rfl
  . simp only [if_neg hv]; ac_rfl
theorem adjust_gen (lo hi:Option Int) (n:Nat):Builtin.Slice.sliceAdjust lo hi 1 (n:Int)=(((sIx n 0 lo:Nat):Int),((sIx n n hi:Nat):Int)):=by
  have h1:¬ ((1:Int) < 0):=by ac_rfl
  unfold Builtin.Slice.sliceAdjust
  simp only [h1,if_false]
  refine Prod.ext ?_ ?_
  . cases lo with
    | none=>rfl
    | some v=>exact clip_eq v n 0
  . cases hi with
    | none=>rfl
    | some v=>exact clip_eq v n n
theorem places_gen (i j:Nat):Builtin.Slice.slicePlaces (i:Int) (j:Int) 1=j - i:=by
  unfold Builtin.Slice.slicePlaces
  have h1:(1:Int) > 0:=by ac_rfl
  simp only [h1,if_true,Int.ediv_one]
  split <;> ac_rfl
theorem a8q {v:Value} {o:Option Int} {Q:Option Int->Shared->Prop} (p:IsPart v o) (h:Q o s):wpAny (model prog w) A (Builtin.Slice.slicePartIndex v) Q E s:=by
  cases p with
  | none=>exact slicePart_none h
  | int i t=>exact slicePart_int h
theorem a6H {sl:Addr} {vl vu:Value} {lo hi:Option Int} {n:Nat} {Q:Int × Int × Nat->Shared->Prop} (hs:s.heap.IsSliceOf sl vl vu .none) (pl:IsPart vl lo) (pu:IsPart vu hi)
    (h:Q (((sIx n 0 lo:Nat):Int),1,sIx n n hi - sIx n 0 lo) s):wpAny (model prog w) A (Builtin.Slice.sliceApplied (.ref sl) (pure (n:Int))) Q E s:=by
  obtain ⟨os,hos,hcs,hds⟩:=id hs
  unfold Builtin.Slice.sliceApplied Builtin.Slice.sliceFields
  refine wpAny_bind (wpAny_bind (wpAny_field hos hds (x:=vl) rfl (wpAny_bind (wpAny_field hos hds (x:=vu) rfl (wpAny_bind (wpAny_field hos hds (x:=.none) rfl (wpAny_pure ?_)))))))
  refine wpAny_bind (slicePart_none ?_)
  show wpAny _ _ (if ((1:Int) == 0)=true then _ else _) _ _ s
  rw [if_neg (by decide)]
  refine wpAny_bind (a8q pl (wpAny_bind (a8q pu (wpAny_bind (wpAny_pure ?_)))))
  show wpAny _ _ (match Builtin.Slice.sliceAdjust lo hi 1 (n:Int) with | (lo,hi)=>pure (lo,(1:Int),Builtin.Slice.slicePlaces lo hi 1)) _ _ s
  rw [adjust_gen lo hi n]
  show wpAny _ _ (pure (((sIx n 0 lo:Nat):Int),(1:Int),Builtin.Slice.slicePlaces ((sIx n 0 lo:Nat):Int) ((sIx n n hi:Nat):Int) 1)) _ _ s
  rw [places_gen]
  exact wpAny_pure h
theorem pick_gen (xs:Array Value) (i k:Nat):((List.range k).filterMap fun (m:Nat)=>xs[((i:Int) + (m:Int) * 1).toNat]?).toArray=((xs.toList.drop i).take k).toArray:=by
  have e:(fun (m:Nat)=>xs[((i:Int) + (m:Int) * 1).toNat]?)=fun m=>xs[i + m]?:=by
    funext m
    have:((i:Int) + (m:Int) * 1).toNat=i + m:=by ac_rfl
    rw [this]
  rw [e]
  have:=pick_run xs i k
  rw [List.filterMap_map] at this
  have e2:((fun x=>xs[x]?) ∘ fun x=>i + x)=fun m=>xs[i + m]?:=rfl
  rw [e2] at this
  rw [this]
theorem a6q {t sl:Addr} {items:Array Value} {vl vu:Value} {lo hi:Option Int} {Q:Value->Shared->Prop} (ht:IsTup s.heap t items) (hs:s.heap.IsSliceOf sl vl vu .none) (pl:IsPart vl lo) (pu:IsPart vu hi)
    (hw:¬ (sIx items.size 0 lo=0/\sIx items.size items.size hi=items.size))
    (h:Q (.ref s.heap.objs.size) { s with heap:=s.heap.push { cls:=.type "tuple",data:=.seq ((items.toList.drop (sIx items.size 0 lo)).take (sIx items.size items.size hi - sIx items.size 0 lo)).toArray } })
    (hsz:items.size<=sizeLine):wpAny (model prog w) A (getItem (.ref t) (.ref sl)) Q E s:=by
  have htake:sizeOk (.seq ((items.toList.drop (sIx items.size 0 lo)).take (sIx items.size items.size hi - sIx items.size 0 lo)).toArray):=by
    show ((items.toList.drop (sIx items.size 0 lo)).take (sIx items.size items.size hi - sIx items.size 0 lo)).toArray.size<=sizeLine
    rw [List.size_toArray,List.length_take,List.length_drop,Array.length_toList]
    ac_rfl
  have hj:sIx items.size items.size hi<=items.size:=sIx_le _ _ (Nat.le_refl _) hi
  obtain ⟨os,hos,hcs,hds⟩:=id hs
  have hTs:s.TypeIs (.ref sl) "slice" := ⟨os,hos,hcs⟩
  unfold getItem
  try with_reducible refine wpAny_holding ?_
  first | refine wpAny_bind (wpAny_pure ?_) | skip
  refine wpAny_bind (wpAny_sequenceKey ht.typeIs (by decide) ?_)
  refine wpAny_bind (wpAny_callSpecial?_slot (name:=Str.ofString "__getitem__") ht.typeIs PyProof.Rows.slot_tuple_getitem
    (wpAny_call_entry PyProof.Rows.slot_tuple_getitem ht.typeIs entry_tuple_getitem ?_ (args_tuple_getitem _ _)))
  show wpAny _ _ (Builtin.Tuple.tupleItemsOf (.ref t) >>= _) _ _ s
  refine wpAny_bind (tupleItemsOf_ ht ?_)
  refine wpAny_bind (wpAny_typeOf hTs ?_)
  rw [if_pos (by decide)]
  refine wpAny_bind (a6H hs pl pu ?_)
  have hno:¬ ((((sIx items.size 0 lo:Nat):Int) == 0 && (1:Int) == 1 && (sIx items.size items.size hi - sIx items.size 0 lo) == items.size)=true):=by
    intro q
    rw [Bool.and_eq_true,Bool.and_eq_true] at q
    have q1:((sIx items.size 0 lo:Nat):Int)=0:=eq_of_beq q.1.1
    have q2:sIx items.size items.size hi - sIx items.size 0 lo=items.size:=eq_of_beq q.2
    exact hw ⟨by ac_rfl,by ac_rfl⟩
  show wpAny _ _ (if (((sIx items.size 0 lo:Nat):Int) == 0 && (1:Int) == 1 && (sIx items.size items.size hi - sIx items.size 0 lo) == items.size)=true then _ else _) _ _ s
  rw [if_neg hno,pick_gen]
  first
    | exact wpAny_bind (m:=Builtin.Tuple.tupleExact _) (wpAny_newObj_type (wpAny_pure ⟨_,rfl,wpAny_pure h⟩) htake)
    | exact wpAny_bind (m:=Builtin.Tuple.tupleExact _) (wpAny_newObj_type (wpAny_bind (wpAny_pure (wpAny_pure ⟨_,rfl,wpAny_pure h⟩))) htake)
    | exact wpAny_bind (wpAny_bind (m:=Builtin.Tuple.tupleExact _) (wpAny_newObj_type (wpAny_pure (wpAny_pure ⟨_,rfl,wpAny_pure h⟩)) htake))
    | exact wpAny_bind (wpAny_bind (m:=Builtin.Tuple.tupleExact _) (wpAny_newObj_type (wpAny_pure ⟨_,rfl,wpAny_pure h⟩) htake))
end
end HT
namespace L2
open PySem PySem.Spec PyProof.Rows
abbrev TO:=St->Hp->(Option Int->Hp->Prop)->Prop
def PO (X:Cx) (e:Option Expr) (t:TO):Prop:=
  ∀ (pins:List (Addr × Obj)) (s:Shared) (σ:St) (H:Hp) (Q:Option Int->Hp->Prop),Inv X pins σ H s->t σ H Q ->
    wpAny (model X.prog X.w) X.A (evalPart e X.env) (fun u s'=>∃ o H',Inv X pins σ H' s'/\IsPart u o/\Q o H') X.xe s
noncomputable def tNoPart:TO:=fun _ H Q=>Q none H
noncomputable def tPart (t:TE):TO:=fun σ H Q=>t σ H fun x H1=>∃ i,x=.int i/\Q (some i) H1
theorem a6p {ns:List Int}:∀ {us:List Value},a1w (ns.map V.int) us->IntsAre us ns:=by
  induction ns with
  | nil=>intro us r; rw [List.map_nil] at r; cases r; exact .nil
  | cons n ns ih=>
    intro us r
    rw [List.map_cons] at r
    cases r with
    | cons r1 r2=>
      obtain ⟨t,e⟩:=r1
      subst e
      exact .cons n t (ih r2)
section
variable {X:Cx} {e:Expr} {te:TE} {lo hi:Option Expr} {tl th:TO} {pos p2:Pos}
theorem po_none:PO X none tNoPart:=by
  intro pins s σ H Q I h
  rw [evalPart_none]
  exact wpAny_pure ⟨none,H,I,.none,h⟩
theorem po_some (h:PE X e te):PO X (some e) (tPart te):=by
  intro pins s σ H Q I hw
  rw [evalPart_some]
  refine thn (h pins s σ H _ I hw) fun u s1 ⟨x,H1,I1,r1,q1⟩=>?_
  obtain ⟨i,rfl,q⟩:=q1
  obtain ⟨t,rfl⟩:=r1
  exact ⟨some i,H1,I1,.int i t,q⟩
def SlR (X:Cx) (r:V->Option Int->Option Int->Hp->VK->Prop):Prop:=
  ∀ (pins:List (Addr × Obj)) (s:Shared) (σ:St) (H:Hp) (x:V) (v vl vu:Value) (lo hi:Option Int) (sl:Addr) (Q:VK),Inv X pins σ H s->a2z x v->s.heap.IsSliceOf sl vl vu .none->IsPart vl lo->IsPart vu hi->r x lo hi H Q ->
    ∃ T id,typeLookup (.type T) "__getitem__" = pure (some (.builtin id))/\s.TypeIs v T/\wpAny (model X.prog X.w) X.A (getItem v (.ref sl)) (EP X pins σ Q) X.xe s
theorem SlR.or {r r':V->Option Int->Option Int->Hp->VK->Prop} (h:SlR X r) (h':SlR X r'):SlR X (fun x lo hi H Q=>r x lo hi H Q \/ r' x lo hi H Q):=by
  intro pins s σ H x v vl vu lo hi sl Q I rx hs pl pu q
  rcases q with q | q
  . exact h pins s σ H x v vl vu lo hi sl Q I rx hs pl pu q
  . exact h' pins s σ H x v vl vu lo hi sl Q I rx hs pl pu q
def tSl (r:V->Option Int->Option Int->Hp->VK->Prop) (te:TE) (tl th:TO):TE:=fun σ H Q=>te σ H fun x H1=>tl σ H1 fun l H2=>th σ H2 fun u H3=>r x l u H3 Q
theorem pe_slice {r:V->Option Int->Option Int->Hp->VK->Prop} (hr:SlR X r) (he:PE X e te) (hl:PO X lo tl) (hu:PO X hi th):PE X (.Subscript e (.Slice lo hi none p2) pos) (tSl r te tl th):=by
  intro pins s σ H Q I h
  refine Subscript_ (thn (he pins s σ H _ I h) fun v s1 ⟨x,H1,I1,r1,q1⟩=>?_)
  refine wpAny_Slice (thn (hl pins s1 σ H1 _ I1 q1) fun vl s2 ⟨l,H2,I2,pl,q2⟩=>thn (hu pins s2 σ H2 _ I2 q2) fun vu s3 ⟨u,H3,I3,pu,q3⟩=>?_)
  rw [evalPart_none]
  refine wpAny_pure ?_
  have I4:Inv X pins σ H3 { s3 with heap:=s3.heap.push { cls:=.type "slice",data:=.fields #[vl,vu,.none] } }:=I3.kept (t':=s3.toks) fun b ob q=>Heap.get?_push_of_some _ q
  obtain ⟨T,id,hT,ht,hg⟩:=hr pins { s3 with heap:=s3.heap.push { cls:=.type "slice",data:=.fields #[vl,vu,.none] } } σ H3 x v vl vu l u s3.heap.objs.size Q I4 r1 (Heap.IsSliceOf.new ..) pl pu q3
  show wpAny (model X.prog X.w) X.A (subscriptTail e (.Slice lo hi none p2) v (.ref s3.heap.objs.size)) (EP X pins σ Q) X.xe { s3 with heap:=s3.heap.push { cls:=.type "slice",data:=.fields #[vl,vu,.none] } }
  exact tail_any (ops:=[.ref s3.heap.objs.size,v]) ht hT hg (by with_unfolding_all rfl)
noncomputable def cutV (xs:List V) (lo hi:Option Int):List V:=(xs.drop (HT.sIx xs.length 0 lo)).take (HT.sIx xs.length xs.length hi - HT.sIx xs.length 0 lo)
theorem a7Q (xs:List V) (lo hi:Option Int):(cutV xs lo hi).length<=xs.length:=by
  unfold cutV
  rw [List.length_take,List.length_drop]
  ac_rfl
def rSlT (K:W.Frag):V->Option Int->Option Int->Hp->VK->Prop:=fun x lo hi H Q=>∃ a xs,x=.ref a/\SqT K H a xs /\
  ¬ (HT.sIx xs.length 0 lo=0/\HT.sIx xs.length xs.length hi=xs.length) /\ ∀ p,H p=none->Q (.ref p) (upd H p (.tup (cutV xs lo hi)))
theorem sl_tup:SlR X (rSlT X.K):=by
  intro pins s σ H x v vl vu lo hi sl Q I rx hs pl pu h
  obtain ⟨a,xs,rfl,hx,hw,q⟩:=h
  cases rx
  obtain ⟨its,r,ht,hz⟩:=I.tuple hx
  have hlen:its.toArray.size=xs.length:=by rw [List.size_toArray]; exact r.length.symm
  refine ⟨"tuple",_,PyProof.Rows.slot_tuple_getitem.lookup,ht.typeIs,?_⟩
  refine HT.a6q ht hs pl pu (by rw [hlen]; exact hw) ?_ (by rw [hlen]; exact hz)
  rw [hlen]
  refine ⟨.ref s.heap.objs.size,_,I.laid (t':=s.toks) (o:=.tup (cutV xs lo hi)) (fun b ob q=>Heap.get?_push_of_some _ q) (Nat.le_refl _) ?_,rfl,q _ (I.hok.fresh (Nat.le_refl _))⟩
  exact ⟨Nat.le_trans (a7Q xs lo hi) hz,_,(r.drop (HT.sIx xs.length 0 lo)).take (HT.sIx xs.length xs.length hi - HT.sIx xs.length 0 lo),IsTup.new _ _⟩
def rCatT (K:W.Frag):R2:=fun x y H Q=>∃ a b xs ys,x=.ref a/\y=.ref b/\SqT K H a xs/\SqT K H b ys/\xs ≠ []/\xs.length + ys.length<=sizeLine /\
  (ys=[]->Q (.ref a) H)/\(ys ≠ [] -> ∀ p,H p=none->Q (.ref p) (upd H p (.tup (xs ++ ys))))
theorem a1w.nil_iff {xs:List V} {us:List Value} (r:a1w xs us):us=[] ↔ xs=[]:=by
  cases r with
  | nil=>simp
  | cons _ _=>simp
theorem op_catT:OpR X (binaryOp .Add) (rCatT X.K):=by
  intro pins s σ H x y v u Q I rx ry h
  obtain ⟨a,b,xs,ys,rfl,rfl,ha,hb,hx,hz,q1,q2⟩:=h
  cases rx
  cases ry
  obtain ⟨its,r1,p1,_⟩:=I.tuple ha
  obtain ⟨its2,r2,p2,_⟩:=I.tuple hb
  refine HT.cat_tup p1 p2 (fun z=>hx (r1.nil_iff.mp z)) (fun z=>⟨.ref a,H,I,rfl,q1 (r2.nil_iff.mp z)⟩) (fun z=>?_) (by rw [<- r1.length,<- r2.length]; exact hz)
  refine ⟨.ref s.heap.objs.size,_,I.laid (t':=s.toks) (o:=.tup (xs ++ ys)) (fun b ob q=>Heap.get?_push_of_some _ q) (Nat.le_refl _) ?_,rfl,q2 (fun w=>z (r2.nil_iff.mpr w)) _ (I.hok.fresh (Nat.le_refl _))⟩
  exact ⟨by rw [List.length_append]; exact hz,_,r1.append r2,IsTup.new _ _⟩
end
end L2
namespace L2
open PySem PySem.Spec PyProof.Rows
noncomputable def ixN (n:Nat) (i:Int):Option Nat:=if 0<=i then (if i < n then some i.toNat else none) else if -(n:Int)<=i then some (i + n).toNat else none
noncomputable def atI {α:Type} (xs:List α) (i:Int):Option α:=(ixN xs.length i).bind fun j=>xs[j]?
theorem ixN_seq {n:Nat} {i:Int} {j:Nat} (h:ixN n i=some j):seqIndex? i n=some j/\j < n /\ -(n:Int)<=i/\i < n:=by
  unfold ixN at h
  by_cases h0:0<=i
  . rw [if_pos h0] at h
    by_cases h1:i < n
    . rw [if_pos h1] at h
      have e:i.toNat=j:=Option.some.inj h
      exact ⟨by rw [seqIndex_of h0 h1,e],by ac_rfl,by ac_rfl,h1⟩
    . rw [if_neg h1] at h; cases h
  . rw [if_neg h0] at h
    by_cases h1:-(n:Int)<=i
    . rw [if_pos h1] at h
      have e:(i + n).toNat=j:=Option.some.inj h
      exact ⟨by rw [seqIndex_neg (by ac_rfl) h1,e],by ac_rfl,h1,by ac_rfl⟩
    . rw [if_neg h1] at h; cases h
theorem atI_get {α:Type} {xs:List α} {i:Int} {v:α} (h:atI xs i=some v):∃ j,seqIndex? i xs.length=some j/\xs[j]?=some v/\j < xs.length /\ -(xs.length:Int)<=i/\i < xs.length:=by
  unfold atI at h
  cases e:ixN xs.length i with
  | none=>rw [e] at h; cases h
  | some j=>
    rw [e] at h
    obtain ⟨h1,h2,h3,h4⟩:=ixN_seq e
    exact ⟨j,h1,h,h2,h3,h4⟩
def PlainIx (b:Expr):Prop:=∀ o i,subscripted b false o i=operate [o,i] (getItem o i)
def IxR (X:Cx) (r:R2):Prop:=
  ∀ (value slice:Expr) (pins:List (Addr × Obj)) (s:Shared) (σ:St) (H:Hp) (x y:V) (v u:Value) (Q:VK),Inv X pins σ H s->a2z x v->a2z y u->r x y H Q ->
    subscripted slice false v u=operate [v,u] (getItem v u)->wpAny (model X.prog X.w) X.A (subscriptTail value slice v u) (EP X pins σ Q) X.xe s
def MtR (X:Cx) (id:String) (r:V->List V->Hp->VK->Prop):Prop:=
  ∀ (pins:List (Addr × Obj)) (s:Shared) (σ:St) (H:Hp) (x:V) (xs:List V) (v:Value) (us:List Value) (Q:VK),Inv X pins σ H s->a2z x v->a1w xs us->r x xs H Q ->
    wpAny (model X.prog X.w) X.A (call (.builtin id) (v :: us)) (EP X pins σ Q) X.xe s
section
variable {X:Cx} {a b:Expr} {ta tb:TE} {pos:Pos}
theorem IxR.or {r r':R2} (h:IxR X r) (h':IxR X r'):IxR X (fun x y H Q=>r x y H Q \/ r' x y H Q):=by
  intro value slice pins s σ H x y v u Q I rx ry q hs
  rcases q with q | q
  . exact h value slice pins s σ H x y v u Q I rx ry q hs
  . exact h' value slice pins s σ H x y v u Q I rx ry q hs
theorem pe_ix {r:R2} (hr:IxR X r) (ha:PE X a ta) (hb:PE X b tb) (hs:PlainIx b):PE X (.Subscript a b pos) (tOp r ta tb):=by
  intro pins s σ H Q I h
  exact Subscript_ (binT ha hb I h fun v u s2 x y H2 I2 rx ry q=>hr a b pins s2 σ H2 x y v u Q I2 rx ry q (hs _ _))
def rIxL (K:W.Frag):R2:=fun x y H Q=>∃ p xs i v,x=.ref p/\y=.int i/\SqL K H p xs/\atI xs i=some v/\Q v H
def rIxT (K:W.Frag):R2:=fun x y H Q=>∃ p xs i v,x=.ref p/\y=.int i/\SqT K H p xs/\atI xs i=some v/\Q v H
def rIxS:R2:=fun x y H Q=>∃ z i c,x=.str z/\y=.int i/\z.length<=sizeLine/\atI z.cps.toList i=some c/\Q (.str ⟨#[c]⟩) H
theorem ix_list:IxR X (rIxL X.K):=by
  intro value slice pins s σ H x y v u Q I rx ry h hs
  obtain ⟨p,xs,i,z,rfl,rfl,hq,he,q⟩:=h
  cases rx
  obtain ⟨t,rfl⟩:=ry
  obtain ⟨its,r,pl,hz⟩:=I.list hq
  obtain ⟨j,h1,h2,h3,h4,h5⟩:=atI_get he
  obtain ⟨w,ew,rw'⟩:=r.get h2
  have hl:=r.length
  have hn:=a8x
  have fin:EP X pins σ Q w s:=⟨z,H,I,rw',q⟩
  by_cases h0:0<=i
  . have hj:i.toNat=j:=by
      rw [seqIndex_of h0 h5] at h1
      exact Option.some.inj h1
    exact item_listR pl.isList h0 (by ac_rfl) (by rw [hj]; simpa using ew) fin hs
  . have hj:(i + (its.toArray.size:Int)).toNat=j:=by
      rw [seqIndex_neg (by ac_rfl) h4] at h1
      rw [List.size_toArray,<- hl]
      exact Option.some.inj h1
    exact subscriptTail_builtinR (x:=w) pl.isList.typeIs slot_list_getitem.lookup
      (wpAny_getItem_list_neg (Q:=fun r s'=>r=w/\EP X pins σ Q r s') pl.isList (by ac_rfl) (by rw [List.size_toArray] <;> ac_rfl) (by ac_rfl) (by rw [hj]; simpa using ew) ⟨rfl,fin⟩) hs
theorem ix_tup:IxR X (rIxT X.K):=by
  intro value slice pins s σ H x y v u Q I rx ry h hs
  obtain ⟨p,xs,i,z,rfl,rfl,hq,he,q⟩:=h
  cases rx
  obtain ⟨t,rfl⟩:=ry
  obtain ⟨its,r,pl,hz⟩:=I.tuple hq
  obtain ⟨j,h1,h2,h3,h4,h5⟩:=atI_get he
  obtain ⟨w,ew,rw'⟩:=r.get h2
  have hl:=r.length
  have hn:=a8x
  have fin:EP X pins σ Q w s:=⟨z,H,I,rw',q⟩
  exact subscriptTail_builtinR (x:=w) pl.typeIs slot_tuple_getitem.lookup
    (getItem_tuple (j:=j) (Q:=fun r s'=>r=w/\EP X pins σ Q r s') pl (by ac_rfl) (by ac_rfl) (by rw [List.size_toArray,<- hl]; exact h1) (by simpa using ew) ⟨rfl,fin⟩) hs
theorem ix_str:IxR X rIxS:=by
  intro value slice pins s σ H x y v u Q I rx ry h hs
  obtain ⟨z,i,c,rfl,rfl,hz,he,q⟩:=h
  obtain ⟨t,rfl⟩:=rx
  obtain ⟨t',rfl⟩:=ry
  obtain ⟨j,h1,h2,h3,h4,h5⟩:=atI_get he
  have hl:z.cps.toList.length=z.length:=by simp [Str.length]
  rw [hl] at h1 h4 h5
  have hn:=a8x
  exact tail_any (typeIs_str s z t) slot_str_getitem.lookup (getItem_str (c:=c) (by
    have e1:decide (i < -(2 ^ 63:Int))=false:=decide_eq_false (by ac_rfl)
    have e2:decide (i >= 2 ^ 63)=false:=decide_eq_false (by ac_rfl)
    rw [e1,e2,Bool.or_false]) (by rw [h1]; simpa using h2) ⟨.str ⟨#[c]⟩,H,I.tok _,⟨_,rfl⟩,q⟩) hs
def rIx (K:W.Frag):R2:=fun x y H Q=>rIxL K x y H Q \/ rIxT K x y H Q \/ rIxS x y H Q
theorem ix_seq:IxR X (rIx X.K):=ix_list.or (ix_tup.or ix_str)
theorem slice_bounds (lo hi:Option Int) (n:Nat):(sliceBounds lo hi none n).1=((HT.sIx n 0 lo:Nat):Int)/\(sliceBounds lo hi none n).2.1=((HT.sIx n n hi:Nat):Int)/\(sliceBounds lo hi none n).2.2=1:=by
  refine ⟨?_,?_,rfl⟩
  . cases lo with
    | none=>simp [sliceBounds,HT.sIx]
    | some i=>
      simp only [sliceBounds,HT.sIx,Option.getD_none,show (1:Int) > 0 by decide,if_true]
      by_cases h:i < 0
      . simp only [h,if_true] <;> ac_rfl
      . simp only [h,if_false] <;> ac_rfl
  . cases hi with
    | none=>simp [sliceBounds,HT.sIx]
    | some i=>
      simp only [sliceBounds,HT.sIx,Option.getD_none,show (1:Int) > 0 by decide,if_true]
      by_cases h:i < 0
      . simp only [h,if_true] <;> ac_rfl
      . simp only [h,if_false] <;> ac_rfl
theorem a8Q (its:List Value) (lo hi:Option Int):slicePick its.toArray lo hi none=((its.drop (HT.sIx its.length 0 lo)).take (HT.sIx its.length its.length hi - HT.sIx its.length 0 lo)).toArray:=by
  obtain ⟨h1,h2,h3⟩:=slice_bounds lo hi its.toArray.size
  unfold slicePick
  rw [h1,h2,h3]
  simp only [sliceRange_one,pick_run,List.size_toArray] <;> rfl
def rSlL (K:W.Frag):V->Option Int->Option Int->Hp->VK->Prop:=fun x lo hi H Q=>∃ a xs,x=.ref a/\SqL K H a xs /\ ∀ p,H p=none->Q (.ref p) (upd H p (.lst (cutV xs lo hi)))
theorem sl_list:SlR X (rSlL X.K):=by
  intro pins s σ H x v vl vu lo hi sl Q I rx hs pl pu h
  obtain ⟨a,xs,rfl,hx,q⟩:=h
  cases rx
  obtain ⟨its,r,ht,hz⟩:=I.list hx
  have hlen:=r.length
  refine ⟨"list",_,slot_list_getitem.lookup,ht.isList.typeIs,?_⟩
  refine wpAny_getItem_list_slice ht.isList hs pl pu .none (by simp) ?_ (by rw [List.size_toArray] <;> ac_rfl)
  rw [a8Q,<- hlen]
  refine ⟨.ref s.heap.objs.size,_,I.laid (t':=s.toks) (o:=.lst (cutV xs lo hi)) (fun b ob q=>Heap.get?_push_of_some _ q) (Nat.le_refl _) ?_,rfl,q _ (I.hok.fresh (Nat.le_refl _))⟩
  exact ⟨Nat.le_trans (a7Q xs lo hi) hz,_,0,(r.drop (HT.sIx xs.length 0 lo)).take (HT.sIx xs.length xs.length hi - HT.sIx xs.length 0 lo),Heap.get?_push_size _ rfl⟩
theorem call_len_seq:a3v X (.builtin "len") (fun xs H Q=>∃ p ys,xs=[.ref p]/\(SqL X.K H p ys \/ SqT X.K H p ys)/\Q (.int ys.length) H):=by
  intro pins s σ H xs us Q I r h
  obtain ⟨p,ys,rfl,hq,q⟩:=h
  obtain ⟨u,rfl,rx⟩:=a4Y r
  cases rx
  have hn:=a8x
  rcases hq with hq | hq
  . obtain ⟨its,r',pl,hz⟩:=I.list hq
    have hlen:=r'.length
    exact Calls.call_len_list pl.isList (by simp only [List.size_toArray] <;> ac_rfl) ⟨.int ys.length,H,I.tok _,⟨s.toks + 1,by rw [List.size_toArray,hlen]⟩,q⟩
  . obtain ⟨its,r',pl,hz⟩:=I.tuple hq
    have hlen:=r'.length
    exact len_tuple pl (by simp only [List.size_toArray] <;> ac_rfl) ⟨.int ys.length,H,I.tok _,⟨s.toks + 1,by rw [List.size_toArray,hlen]⟩,q⟩
theorem call_len_str:a3v X (.builtin "len") (fun xs H Q=>∃ z,xs=[.str z]/\z.length<=sizeLine/\Q (.int z.length) H):=by
  intro pins s σ H xs us Q I r h
  obtain ⟨z,rfl,hz,q⟩:=h
  obtain ⟨u,rfl,t,rfl⟩:=a4Y r
  have hn:=a8x
  exact len_str (by ac_rfl) ⟨.int z.length,H,I.tok _,⟨_,rfl⟩,q⟩
theorem a3v.or {f:Value} {r r':List V->Hp->VK->Prop} (h:a3v X f r) (h':a3v X f r'):a3v X f (fun xs H Q=>r xs H Q \/ r' xs H Q):=by
  intro pins s σ H xs us Q I rs q
  rcases q with q | q
  . exact h pins s σ H xs us Q I rs q
  . exact h' pins s σ H xs us Q I rs q
theorem call_list_of:a3v X (.type "list") (fun xs H Q=>∃ p ys,xs=[.ref p]/\(SqL X.K H p ys \/ SqT X.K H p ys) /\ ∀ l,H l=none->Q (.ref l) (upd H l (.lst ys))):=by
  intro pins s σ H xs us Q I r h
  obtain ⟨p,ys,rfl,hq,q⟩:=h
  obtain ⟨u,rfl,rx⟩:=a4Y r
  cases rx
  have fin:∀ (its:List Value),a1w ys its->ys.length<=sizeLine -> ∀ (h':Heap) (c':Nat),(∀ b o',s.heap.get? b=some o'->h'.get? b=some o') ->
      h'.get? s.heap.objs.size=some { cls:=.type "list",dict:=none,data:=.seq its.toArray c',slots:=#[] }->EP X pins σ Q (.ref s.heap.objs.size) { s with heap:=h' }:=fun its r' hz h' c' kp e=>
    ⟨.ref s.heap.objs.size,_,I.laid (t':=s.toks) kp (Nat.le_refl _) (show a2a X.prog X.w _ h' _ (.lst ys) from ⟨hz,its,c',r',e⟩),rfl,q _ (I.hok.fresh (Nat.le_refl _))⟩
  rcases hq with hq | hq
  . obtain ⟨its,r',pl,hz⟩:=I.list hq
    have hlen:=r'.length
    obtain ⟨o,ho,hc,n,hd⟩:=pl.isList
    exact call_list_seq p (.inl rfl) ho hc hd (fun h' c' kp e=>fin its r' hz h' c' kp e) (by simp only [List.size_toArray] <;> ac_rfl)
  . obtain ⟨its,r',pl,hz⟩:=I.tuple hq
    have hlen:=r'.length
    obtain ⟨o,ho,hc,n,hd⟩:=pl
    exact call_list_seq p (.inr rfl) ho hc hd (fun h' c' kp e=>fin its r' hz h' c' kp e) (by simp only [List.size_toArray] <;> ac_rfl)
theorem call_tuple_of:a3v X (.type "tuple") (fun xs H Q=>∃ p ys,xs=[.ref p]/\((SqL X.K H p ys /\ ∀ l,H l=none->Q (.ref l) (upd H l (.tup ys))) \/ (SqT X.K H p ys/\Q (.ref p) H))):=by
  intro pins s σ H xs us Q I r h
  obtain ⟨p,ys,rfl,h⟩:=h
  obtain ⟨u,rfl,rx⟩:=a4Y r
  cases rx
  rcases h with ⟨hq,q⟩ | ⟨hq,q⟩
  . obtain ⟨its,r',pl,hz⟩:=I.list hq
    have hlen:=r'.length
    refine call_tuple_list pl.isList (fun h' kp=>?_) (by simp only [List.size_toArray] <;> ac_rfl)
    have I1:Inv X pins σ H { s with heap:=h' }:=I.kept (t':=s.toks) kp
    have I2:Inv X pins σ (upd H h'.objs.size (.tup ys)) { s with heap:=h'.push { cls:=.type "tuple",data:=.seq its.toArray } }:=
      I1.laid (t':=s.toks) (fun b o e=>Heap.get?_push_of_some _ e) (Nat.le_refl _) (show a2a X.prog X.w _ _ _ (.tup ys) from ⟨hz,its,r',IsTup.new _ _⟩)
    exact ⟨.ref h'.objs.size,_,I2,rfl,q _ (I1.hok.fresh (Nat.le_refl _))⟩
  . obtain ⟨its,r',pl,hz⟩:=I.tuple hq
    exact call_tuple_same pl ⟨.ref p,H,I,rfl,q⟩
def tyV (K:W.Frag) (T:String) (x:V) (H:Hp):Prop:=match x with
  | .str _=>T = "str"
  | .int _=>T = "int"
  | .ref p=>(T = "list" /\ ∃ xs,SqL K H p xs) \/ (T = "tuple" /\ ∃ o,K.lookup p=some o/\o.cls=.type "tuple" /\ o.dict=none) \/
      (T = "dict" /\ ((∃ kvs,H p=some (.dK kvs)) \/ ∃ ep kvs,H p=some (.dT ep kvs))) \/ (T = "set" /\ ∃ S n,H p=some (.set S n))
  | _=>False
theorem tyV_is {pins:List (Addr × Obj)} {σ:St} {H:Hp} {s:Shared} {T:String} {x:V} {v:Value} (I:Inv X pins σ H s) (r:a2z x v) (ty:tyV X.K T x H):
    s.TypeIs v T /\ ∀ a,v=.ref a -> ∃ ob,s.heap.get? a=some ob/\ob.dict=none:=by
  cases x with
  | str z=>
    obtain ⟨t,rfl⟩:=r
    cases (show T = "str" from ty)
    exact ⟨typeIs_str s z t,fun _ e=>nomatch e⟩
  | int i=>
    obtain ⟨t,rfl⟩:=r
    cases (show T = "int" from ty)
    exact ⟨typeIs_int s i t,fun _ e=>nomatch e⟩
  | ref p=>
    cases r
    rcases ty with ⟨rfl,xs,hq⟩ | ⟨rfl,o,hk,hc,hd⟩ | ⟨rfl,hk⟩ | ⟨rfl,S,n,hk⟩
    . obtain ⟨its,_,pl,_⟩:=I.list hq
      refine ⟨pl.isList.typeIs,fun a e=>?_⟩
      cases e
      obtain ⟨o,n,e,c,hd,_⟩:=pl
      exact ⟨o,e,hd⟩
    . refine ⟨⟨o,I.kIn p o hk,hc⟩,fun a e=>?_⟩
      cases e
      exact ⟨o,I.kIn _ o hk,hd⟩
    . have z:∃ o,s.heap.get? p=some o/\o.ExactDict:=by
        rcases hk with ⟨kvs,hk⟩ | ⟨ep,kvs,hk⟩
        . obtain ⟨_,_,_,_,o,_,_,e,ex,_⟩:=I.hok p _ hk
          exact ⟨o,e,ex⟩
        . obtain ⟨_,_,_,_,o,_,e,ex,_⟩:=I.hok p _ hk
          exact ⟨o,e,ex⟩
      obtain ⟨o,e,ex⟩:=z
      refine ⟨⟨o,e,ex.1⟩,fun a e2=>?_⟩
      cases e2
      exact ⟨o,e,ex.2.1⟩
    . obtain ⟨o,_,_,_,e,ex,_⟩:=I.hok p _ hk
      refine ⟨⟨o,e,ex.1⟩,fun a e2=>?_⟩
      cases e2
      exact ⟨o,e,ex.2.1⟩
  | _=>exact False.elim ty
def tBM0 (K:W.Frag) (T:String) (r:V->List V->Hp->VK->Prop) (to:TE):TE:=fun σ H Q=>to σ H fun x H1=>tyV K T x H1/\r x [] H1 Q
def tBM (K:W.Frag) (T:String) (r:V->List V->Hp->VK->Prop) (to:TE) (t:TA):TE:=fun σ H Q=>to σ H fun x H1=>tyV K T x H1/\t σ H1 fun xs H2=>r x xs H2 Q
variable {o e:Expr} {es:List Expr} {to:TE} {t:TA} {name:Str} {apos cpos:Pos} {T id:String} {r:V->List V->Hp->VK->Prop}
theorem pe_bm0 (pa:PlainAttrs T) (slot:Slot T name id) (hty:typeOf (.builtin id)=pure (.type "method_descriptor")) (hm:MtR X id r) (ho:PE X o to)
    (hbase:attributeBase o name X.env (eval o X.env)=eval o X.env:=by rfl) (hline:(apos.endLine == cpos.line)=true:=by rfl):PE X (.Call (.Attribute o name apos) [] [] cpos) (tBM0 X.K T r to):=by
  intro pins s σ H Q I h
  refine wpAny_Call_method0_late hbase hline (thn (ho pins s σ H _ I h) fun v s1 ⟨x,H1,I1,r1,ty,q1⟩=>?_)
  obtain ⟨h1,h2⟩:=tyV_is I1 r1 ty
  exact ⟨T,id,pa,slot,hty,h1,h2,Calls.callWith_builtin rfl (PySem.evalArgs_none (hm pins s1 σ H1 x [] v [] Q I1 r1 .nil q1))⟩
theorem pe_bm (pa:PlainAttrs T) (slot:Slot T name id) (hty:typeOf (.builtin id)=pure (.type "method_descriptor")) (hm:MtR X id r) (ho:PE X o to) (ha:PA X (e :: es) t)
    (hbase:attributeBase o name X.env (eval o X.env)=eval o X.env:=by rfl)
    (hfew:((backTo cpos (starEach (e :: es) X.env)).all (fun x=>!x.1) && (backToKw cpos (keywordEach [] X.env)).all (fun x=>x.1.isSome)
      && decide ((e :: es).length + ([]:List Keyword).length + (if ([]:List Keyword).isEmpty then 0 else 1) < 30))=true:=by rfl)
    (hline:(apos.endLine == cpos.line)=true:=by rfl) (hs:starEach (e :: es) X.env=(false,eval e X.env) :: starEach es X.env:=by rfl) (hplain:(backTo cpos (starEach es X.env)).any (·.1)=false:=by rfl):
    PE X (.Call (.Attribute o name apos) (e :: es) [] cpos) (tBM X.K T r to t):=by
  intro pins s σ H Q I h
  refine wpAny_Call_method_late hbase hfew hline rfl (thn (ho pins s σ H _ I h) fun v s1 ⟨x,H1,I1,r1,ty,q1⟩=>?_)
  obtain ⟨h1,h2⟩:=tyV_is I1 r1 ty
  refine ⟨T,id,pa,slot,hty,h1,h2,?_⟩
  have hA:=ha cpos pins s1 σ H1 _ I1 q1
  rw [hs] at hA ⊢
  refine Calls.callWith_builtin (by show (false || (backTo cpos (starEach es X.env)).any (·.1))=false; rw [hplain] <;> rfl) (Calls.evalArgs_plain ?_)
  exact thn hA fun us s2 ⟨vs,H2,I2,r2,q2⟩=>hm pins s2 σ H2 x vs v us Q I2 r1 r2 q2
/- xs.append(e),list.index on a module's tuple .. are MtR facts of 06m -/
end
end L2
namespace L2
open PySem PySem.Spec PyProof.Rows
def MtM (X:Cx) (id:String) (r:V->List V->Hp->VK->Prop):Prop:=
  ∀ (pins:List (Addr × Obj)) (s:Shared) (σ:St) (H:Hp) (x:V) (xs:List V) (v:Value) (us:List Value) (Q:VK),Inv X pins σ H s->a2z x v->a1w xs us->r x xs H Q ->
    wpAny (model X.prog X.w) X.A (call (.builtin id) (v :: us)) (EP X pins σ Q) X.xe s
theorem a1w.one:∀ {x:V} {us:List Value},a1w [x] us -> ∃ u,us=[u]/\a2z x u
  | _,_,.cons r .nil=>⟨_,rfl,r⟩
theorem a1w.zero:∀ {us:List Value},a1w [] us->us=[]
  | _,.nil=>rfl
theorem a1w.eraseIdx:∀ {xs:List V} {us:List Value} (i:Nat),a1w xs us->a1w (xs.eraseIdx i) (us.eraseIdx i)
  | _,_,_,.nil=>.nil
  | _,_,0,.cons _ t=>t
  | _,_,i + 1,.cons r t=>.cons r (a1w.eraseIdx i t)
theorem a1w.rep {xs:List V} {us:List Value} (h:a1w xs us):∀ k:Nat,a1w (List.replicate k xs).flatten (List.replicate k us).flatten
  | 0=>.nil
  | k + 1=>by
    rw [List.replicate_succ,List.replicate_succ,List.flatten_cons,List.flatten_cons]
    exact a1w.append h (a1w.rep h k)
theorem len_erase {α:Type}:∀ (l:List α) (i:Nat),(l.eraseIdx i).length<=l.length
  | [],_=>Nat.le_refl _
  | _ :: _,0=>Nat.le_succ _
  | _ :: r,i + 1=>Nat.succ_le_succ (len_erase r i)
theorem foldl_rep (its:List Value):∀ (k:Nat) (acc:List Value),
    List.foldl (fun x1 x2=>x1 ++ x2) acc.toArray (List.replicate k its.toArray)=(acc ++ (List.replicate k its).flatten).toArray
  | 0,acc=>by simp
  | k + 1,acc=>by
    have e:acc.toArray ++ its.toArray=(acc ++ its).toArray:=by simp
    have e2:(acc ++ its) ++ (List.replicate k its).flatten=acc ++ (List.replicate (k + 1) its).flatten:=by
      rw [List.replicate_succ,List.flatten_cons,List.append_assoc]
    rw [<- e2,<- foldl_rep its k (acc ++ its),<- e,List.replicate_succ,List.foldl_cons]
section
variable {X:Cx} {pins:List (Addr × Obj)} {σ:St} {H:Hp} {s:Shared} {l b:Addr} {xs ys zs:List V}
theorem Inv.lset {its its':List Value} {n:Nat} {f:Array Value->Array Value} {t':Nat} (I:Inv X pins σ H s) (hH:H l=some (.lst xs))
    (e:s.heap.get? l=some { cls:=.type "list",data:=.seq its.toArray n }) (hf:f its.toArray=its'.toArray) (hv:a1w ys its') (hz:ys.length<=sizeLine):
    Inv X pins σ (upd H l (.lst ys)) { s with heap:=s.heap.update l (Obj.mapSeq f),toks:=t' }:=by
  have q:=PySem.IsL.update e f
  rw [hf] at q
  refine I.write (x:=l) (e:=l) (by rw [hH]; exact trivial) (.inl rfl) (fun b' u hb hu=>(Heap.get?_update_other s.heap (Obj.mapSeq f) (Ne.symm hb)).trans hu) ⟨_,q⟩ ?_
  exact ⟨hz,its',_,hv,q⟩
theorem Inv.lnew {its:List Value} {t':Nat} (I:Inv X pins σ H s) (hv:a1w ys its) (hz:ys.length<=sizeLine):
    Inv X pins σ (upd H s.heap.objs.size (.lst ys)) { s with heap:=s.heap.push { cls:=.type "list",data:=.seq its.toArray },toks:=t' }:=
  I.laid (fun _ _ q=>Heap.get?_push_of_some _ q) (Nat.le_refl _) ⟨hz,its,0,hv,Heap.get?_push_size _ rfl⟩
theorem Inv.fresh (I:Inv X pins σ H s):H s.heap.objs.size=none:=I.hok.fresh (Nat.le_refl _)
theorem Inv.lstM (I:Inv X pins σ H s) (hH:H l=some (.lst xs)):xs.length<=sizeLine /\ ∃ (its:List Value) (n:Nat),a1w xs its/\xs.length=its.length/\s.heap.get? l=some { cls:=.type "list",data:=.seq its.toArray n }:=by
  obtain ⟨z,its,n,r,e⟩:=I.hok l _ hH
  exact ⟨z,its,n,r,r.length,e⟩
theorem notLongL {n:Nat} (h:n<=sizeLine):Builtin.List.listTooLong n=false:=by
  unfold Builtin.List.listTooLong
  exact decide_eq_false (by ac_rfl)
end
section
variable {X:Cx}
def rAppend:V->List V->Hp->VK->Prop:=fun x vs H Q=>∃ l xs y,x=.ref l/\vs=[y]/\H l=some (.lst xs)/\xs.length < sizeLine/\Q .non (upd H l (.lst (xs ++ [y])))
theorem mt_append:MtM X "list.append" rAppend:=by
  intro pins s σ H x vs v us Q I rx rv h
  obtain ⟨l,xs,y,rfl,rfl,hH,hz,q⟩:=h
  cases rx
  obtain ⟨u,rfl,ru⟩:=rv.one
  obtain ⟨z,its,n,r,hl,e⟩:=I.lstM hH
  refine call_meets F.slot_list_append ⟨_,e,rfl⟩ F.entry_list_append (F.args_list_append_2 _ _) (PySem.list_append l its.toArray n u (by rw [List.size_toArray]; ac_rfl)) ⟨e,?_⟩
  refine ⟨.non,_,I.lset (its':=its ++ [u]) hH e (by simp) (r.append (.cons ru .nil)) ?_,rfl,q⟩
  rw [List.length_append,List.length_singleton]
  ac_rfl
def rExtend:V->List V->Hp->VK->Prop:=fun x vs H Q=>∃ l b xs zs,x=.ref l/\vs=[.ref b]/\H l=some (.lst xs)/\H b=some (.lst zs)/\xs.length + zs.length<=sizeLine/\Q .non (upd H l (.lst (xs ++ zs)))
theorem mt_extend:MtM X "list.extend" rExtend:=by
  intro pins s σ H x vs v us Q I rx rv h
  obtain ⟨l,b,xs,zs,rfl,rfl,hH,hB,hz,q⟩:=h
  cases rx
  obtain ⟨u,rfl,ru⟩:=rv.one
  cases ru
  obtain ⟨z,its,n,r,hl,e⟩:=I.lstM hH
  obtain ⟨z2,its2,n2,r2,hl2,e2⟩:=I.lstM hB
  have hsz:its.toArray.size + its2.toArray.size<=sizeLine:=by rw [List.size_toArray,List.size_toArray]; ac_rfl
  have hlong:¬ (!its.toArray.isEmpty && Builtin.List.listTooLong (its.toArray.size + its2.toArray.size))=true:=by
    rw [notLongL hsz,Bool.and_false]
    exact Bool.false_ne_true
  refine call_meets F.slot_list_extend ⟨_,e,rfl⟩ F.entry_list_extend (F.args_list_extend_2 _ _)
    (AutoSeq1.list_extend_list_list_0 l its.toArray n b its2.toArray n2 hlong (by rw [List.size_toArray]; ac_rfl) (by ac_rfl)) ⟨e,e2,?_⟩
  refine ⟨.non,_,I.lset (its':=its ++ its2) hH e (by simp) (r.append r2) ?_,rfl,q⟩
  rw [List.length_append]
  ac_rfl
def rClear:V->List V->Hp->VK->Prop:=fun x vs H Q=>∃ l xs,x=.ref l/\vs=[]/\H l=some (.lst xs)/\Q .non (upd H l (.lst []))
theorem mt_clear:MtM X "list.clear" rClear:=by
  intro pins s σ H x vs v us Q I rx rv h
  obtain ⟨l,xs,rfl,rfl,hH,q⟩:=h
  cases rx
  have hus:=rv.zero
  subst hus
  obtain ⟨z,its,n,r,hl,e⟩:=I.lstM hH
  refine call_meets F.slot_list_clear ⟨_,e,rfl⟩ F.entry_list_clear (F.args_list_clear_1 _) (AutoSeq1.list_clear_list_0 l its.toArray n (by rw [List.size_toArray]; ac_rfl)) ⟨e,?_⟩
  exact ⟨.non,_,I.lset (its':=[]) (ys:=[]) hH e rfl .nil (Nat.zero_le _),rfl,q⟩
def rCat:R2:=fun x y H Q=>∃ l b xs zs,x=.ref l/\y=.ref b/\H l=some (.lst xs)/\H b=some (.lst zs)/\xs.length + zs.length<=sizeLine /\ ∀ p,H p=none->Q (.ref p) (upd H p (.lst (xs ++ zs)))
theorem op_cat:OpR X (binaryOp .Add) rCat:=by
  intro pins s σ H x y v u Q I rx ry h
  obtain ⟨l,b,xs,zs,rfl,rfl,hH,hB,hz,q⟩:=h
  cases rx
  cases ry
  obtain ⟨z,its,n,r,hl,e⟩:=I.lstM hH
  obtain ⟨z2,its2,n2,r2,hl2,e2⟩:=I.lstM hB
  refine PySem.P.add_list e e2 ?_ (by rw [List.size_toArray,List.size_toArray]; ac_rfl)
  have ea:its.toArray ++ its2.toArray=(its ++ its2).toArray:=by simp
  rw [ea]
  exact ⟨.ref _,_,I.lnew (t':=s.toks) (r.append r2) (by rw [List.length_append]; ac_rfl),rfl,q _ I.fresh⟩
def rRep:R2:=fun x y H Q=>∃ l k xs,x=.ref l/\y=.int k/\H l=some (.lst xs) /\ -(2 ^ 63)<=k/\k < 2 ^ 63/\xs.length * k.toNat<=sizeLine /\
  ∀ p,H p=none->Q (.ref p) (upd H p (.lst (List.replicate k.toNat xs).flatten))
theorem len_rep {α:Type} (xs:List α) (k:Nat):(List.replicate k xs).flatten.length=k * xs.length:=by
  induction k with
  | zero=>simp
  | succ k ih=>rw [List.replicate_succ,List.flatten_cons,List.length_append,ih,Nat.succ_mul,Nat.add_comm]
theorem op_rep:OpR X (binaryOp .Mult) rRep:=by
  intro pins s σ H x y v u Q I rx ry h
  obtain ⟨l,k,xs,rfl,rfl,hH,h1,h2,hz,q⟩:=h
  cases rx
  obtain ⟨t,rfl⟩:=ry
  obtain ⟨z,its,n,r,hl,e⟩:=I.lstM hH
  have hlen:its.toArray.size * k.toNat<=sizeLine:=by rw [List.size_toArray,<- hl]; exact hz
  have hcap:¬ its.toArray.size * k.toNat > (2 ^ 63 - 1) / 8:=by
    have:(sizeLine:Nat)<=(2 ^ 63 - 1) / 8:=by decide
    ac_rfl
  have hfit:¬ (!Builtin.List.listFitsIndex k)=true:=by
    rw [fitsIndex_both h1 h2]
    exact Bool.false_ne_true
  have hlong:¬ Builtin.List.listTooLong (its.toArray.size * k.toNat)=true:=by
    rw [notLongL hlen]
    exact Bool.false_ne_true
  have hnew:List.foldl (fun x1 x2=>x1 ++ x2) #[] (List.replicate (if its.toArray.isEmpty=true then 0 else k.toNat) its.toArray)=(List.replicate k.toNat its).flatten.toArray:=by
    have f0:∀ m:Nat,List.foldl (fun x1 x2=>x1 ++ x2) #[] (List.replicate m its.toArray)=(List.replicate m its).flatten.toArray:=fun m=>by
      have:=foldl_rep its m []
      rw [List.nil_append] at this
      exact this
    rw [f0]
    cases its with
    | nil=>simp
    | cons a r'=>rw [if_neg (by simp)]
  refine wpAny_binaryOp_repeat_ref (T:="list") (U:="int") (by decide) ⟨_,e,rfl⟩ (fun s'=>typeIs_int s' k t) noFill_list_mul F.fills_int_mul F.slot_int_rmul repeat_list F.slot_int_index.lookup
    (call_meets F.slot_int_rmul (typeIs_int s k t) F.entry_int_rmul (F.args_int_rmul_2 _ _) (int___rmul___int_list k t l its.toArray n)
      ⟨e,rfl,⟨_,e,rfl⟩,call_meets F.slot_list_mul ⟨_,e,rfl⟩ F.entry_list_mul (F.args_list_mul_2 _ _) (AutoListH.list___mul___list_int_3 l its.toArray n k t hfit hcap hlong) ⟨e,?_⟩⟩)
  rw [hnew]
  exact ⟨.ref _,_,I.lnew (t':=s.toks) (r.rep k.toNat) (by rw [len_rep,Nat.mul_comm]; exact hz),rfl,q _ I.fresh⟩
end
section
variable {prog:Program} {w:World} {A:Around} {E:Value->Shared->Prop} {s:Shared}
end
section
variable {X:Cx}
end
end L2
namespace Att
open PySem PySem.W PySem.Calls PyProof.Rows
theorem a7H {P:Params} {h:Heap}:∀ (ns:List Int) (vs:List Value),WellAll P h vs (ns.map WData.int)->IntsAre vs ns:=by
  intro ns
  induction ns with
  | nil=>
    intro vs w
    rw [List.map_nil] at w
    cases w
    exact .nil
  | cons n ns ih=>
    intro vs w
    rw [List.map_cons] at w
    cases w with
    | cons a b=>
      cases a
      exact .cons _ _ (ih _ b)
theorem script_of {l:OpenLaw} {n:Nat} (hn:l.most=some n) {P:Params} {h:Heap} {args:List WData} {vals:List Value}
    (hpre:l.row.toRowW.claim.pre args=true) (hwl:WellAll P h vals args):
    ∃ a vs ns,vals=[Value.ref a]/\args=[WData.list (ns.map WData.int)]/\h.get? a=some { cls:=.type "list",data:=.seq vs.toArray }/\IntsAre vs ns/\ns.length<=n:=by
  have hsh:WShape.hasAll [] args [.list .int]=true:=(pre_splitW hpre).1
  have hc:l.pre.holds [] { args:=args }=true:=(pre_splitW hpre).2
  obtain ⟨d,r,rfl,h1,h2⟩:=hasAllW_cons hsh
  obtain rfl:=hasAllW_nil h2
  obtain ⟨xs,rfl,h3⟩:=hasW_list h1
  obtain ⟨ns,rfl⟩:=items_int h3
  have hlen:ns.length<=n:=by
    unfold OpenLaw.pre at hc
    have h4:(WTm.not (.lt (.lit (.int (n:Int))) (.len (.arg 0)))).holds [] { args:=[.list (ns.map .int)] }=true:=by
      have h4:=(holds_andW hc).1
      rw [hn] at h4
      exact h4
    have h5:=condW_of h4 (w_not (w_lt w_lit (w_len_list (w_arg rfl))))
    rw [List.length_map] at h5
    refine Nat.le_of_not_lt fun q=>?_
    have q':(n:Int) < ((ns.length:Nat):Int):=by ac_rfl
    first
      | (rw [decide_eq_true q'] at h5; exact absurd h5 (by decide))
      | (simp at h5; ac_rfl)
  cases hwl with
  | cons w1 w2=>
    cases w2
    cases w1 with
    | list ho hall=>exact ⟨_,_,ns,rfl,rfl,ho,a7H ns _ hall,hlen⟩
theorem post_true (l:OpenLaw) (args:List WData):l.row.toRowW.claim.post args (.bool true) args=true:=
  postW_of (r:=l.row.toRowW) (X:=(true == true))
    (show WShape.has [] (.bool true) .bool=true by first | rfl | decide | simp [WShape.has,WShape.arms,WShape.armsAll])
    (show (WTm.eq .res (.lit (.bool true))).value [] { args:=args,res:=some (.bool true),after:=args }=some (.bool (true == true)) from w_eq_bool (w_res rfl) w_lit) rfl
theorem attach_call {l:OpenLaw} {n:Nat} {q:Program} {loose:List Str} {XP:(Str->Option Value)->Heap->Prop} {YP:World->Heap->Prop} {d:DefRec}
    (hn:l.most=some n) (hdf:d.params.defaults=[])
    (call:∀ (w:World) (s₀ s₁:Shared) (mg mb:Str->Option Value) (fa:Addr) (o:Obj) (pm cd doc:Value) (a:Addr) (vs:List Value) (ns:List Int),
      Ground q loose [] XP w s₀ mg mb s₁.heap->YP w s₁.heap ->
      s₁.heap.get? fa=some o->o.data=.func (docDef d.name d.params d.body d.scope pm cd doc)->s₁.heap.CodeRec cd d.name->mg d.name=some (.ref fa) ->
      s₁.heap.get? a=some { cls:=.type "list",data:=.seq vs.toArray }->IntsAre vs ns->ns.length<=n->s₁.gens = #[] ->
      codeAny (model l.prog w) callerA (.call (.ref fa) ⟨[.ref a],[]⟩) (fun r s'=>r=.ok (.ret (.bool true))/\OldK s₁.heap s'.heap/\s'.os=s₁.os/\AllBare s'.gens) s₁):
    WalkO q loose XP YP l.row.toRowW d [] (fun f vs=>PySem.call f vs):=by
  intro w s₀ s₁ mg mb G Y fa o pm cd doc dV kV ho hd hcd hD hmg hg args vals as hpre hlay hrd hwl hlo
  obtain rfl:dV=.none:=Dflts.none hD hdf
  obtain rfl:kV=.none:=Dflts.noKw hD
  obtain ⟨a,vs,ns,rfl,rfl,hobj,hints,hlen⟩:=script_of hn hpre hwl
  refine enter_call (codeAny_mono (call w s₀ s₁ mg mb fa o pm cd doc a vs ns G Y ho (fd_plain hd) hcd hmg hobj hints hlen hg) fun r s' hq=>?_)
  obtain ⟨rfl,h2,h3,h4⟩:=hq
  exact ⟨.inl ⟨.bool true,.bool true,[],rfl,fun _=>rfl,.bool true,post_true l _,fun _=>⟨List.Pairwise.nil,fun _ hm=>(nomatch hm)⟩⟩,h2,h3,h4⟩
section
variable {prog:Program} {w:World} {A:Around} {E:Value->Shared->Prop} {s:Shared} {K:Frag}
end
end Att
namespace L2
open PySem PySem.Spec PyProof.Rows
theorem vals_ints:∀ {vs:List Value} {ns:List Int},IntsAre vs ns->a1w (ns.map V.int) vs
  | _,_,.nil=>.nil
  | _,_,.cons n t h=>.cons ⟨t,rfl⟩ (vals_ints h)
def Only (H:Hp):Prop:=∀ b,H b=none \/ ∃ o xs,H b=some (.frz o (.lst xs))
theorem law_call {P:Program} {w:World} {K:W.Frag} {mg mb:Str->Option Value} {CX:CXT} {k:Nat} {fa a:Addr} {fd:FuncData} {x:Str} {sp:Sp} {s₁:Shared} {vs:List Value} {ns:List Int}
    (KX:K.In s₁.heap) (hns:s₁.heap.Ns mainGlobals mg) (hb:s₁.heap.Ns builtinsNs mb) (hbb:∀ x:Str,x ≠ "__name__" -> mb x=bootBuiltins x) (hlim:s₁.heap.NoLimit) (hg:s₁.gens = #[])
    (ha:s₁.heap.get? a=some { cls:=.type "list",data:=.seq vs.toArray }) (hi:IntsAre vs ns) (hl:ns.length<=sizeLine) (hr:Room k callerA)
    (F:∀ base:Heap,K.In base->base.Ns mainGlobals mg->FnOk P w K mg base CX k fa fd [x] sp) (hbind:∀ (s:Shared) (u:Value),BindsTo s fd ⟨[u],[]⟩ [(x,u)])
    (hsp:∀ H:Hp,Only H->SqL K H a (ns.map V.int)->sp [.ref a] H (fun v _=>v=.bl true) fun _ _ _=>False)
    (hCX:∀ H e s',CX [] H s₁ (fun _ _ _=>False) e s'->False):
    codeAny (model P w) callerA (.call (.ref fa) ⟨[.ref a],[]⟩) (fun r s'=>r=.ok (.ret (.bool true))/\OldK s₁.heap s'.heap/\s'.os=s₁.os/\AllBare s'.gens) s₁:=by
  have rv:=vals_ints hi
  have lenV:=hi.length
  have core:∀ H:Hp,Only H->SqL K H a (ns.map V.int)->HOk P w H s₁.heap->(∀ b,H b ≠ none->b=a)->(H a ≠ none->K.lookup a=none) ->
      codeAny (model P w) callerA (.call (.ref fa) ⟨[.ref a],[]⟩) (fun r s'=>r=.ok (.ret (.bool true))/\OldK s₁.heap s'.heap/\s'.os=s₁.os/\AllBare s'.gens) s₁:=by
    intro H hO hS hok hA hK
    have base_of:∀ {b:Addr} {o:Obj},s₁.heap.get? b=some o->H b=none->(hidT s₁.heap H).get? b=some o:=fun e n=>hidT_get e n
    have noA:∀ {b:Addr} {o:Obj} {es:Array DictEntry} {ep:Nat},s₁.heap.get? b=some o->o.data=.dict es ep->H b=none:=fun {b o es ep} e d=>by
      cases q:H b with
      | none=>rfl
      | some u=>
        have e':b=a:=hA b (by rw [q]; simp)
        subst e'
        rw [ha] at e; cases e
        have d':Data.seq vs.toArray _=Data.dict es ep:=d
        cases d'
    have nsK:∀ {b:Addr} {m:Str->Option Value},s₁.heap.Ns b m->(hidT s₁.heap H).Ns b m:=fun {b m} ⟨o,es,ep,e,d,r⟩=>⟨o,es,ep,base_of e (noA e d),d,r⟩
    have hKb:K.In (hidT s₁.heap H):=fun b o e=>base_of (KX b o e) (by
      cases q:H b with
      | none=>rfl
      | some u=>
        have e':b=a:=hA b (by rw [q]; simp)
        subst e'
        rw [hK (by rw [q]; simp)] at e; cases e)
    have hM:Mod K mg (hidT s₁.heap H):=⟨hKb,nsK hns,⟨mb,nsK hb,hbb⟩,let ⟨mc,h1,h2⟩:=hlim; ⟨mc,nsK h1,h2⟩⟩
    have e0:Env0 P w K mg (hidT s₁.heap H) callerA [] s₁ H:=⟨rfl,hM,fun b o e=>of_hidT e,Nat.le_of_eq (hidT_size _ _),trivial,fun b hb=>absurd (show b ∈ ([]:List Addr) from hb) (by simp),hok,.of_eq hg⟩
    refine codeAny_mono ((F _ hKb (nsK hns)).run callerA [] s₁ H ⟨[.ref a],[]⟩ [.ref a] [.ref a] _ _ hr e0 (hbind s₁ (.ref a)) (.cons rfl .nil) (hsp H hO hS)) fun r s' h=>?_
    cases r with
    | error e=>exact (hCX H e s' h).elim
    | ok fl=>
      cases fl with
      | next=>exact False.elim h
      | brk=>exact False.elim h
      | cont=>exact False.elim h
      | ret u=>
        obtain ⟨v,H',os,bare,un,hok',r',q⟩:=h
        have q':v=.bl true:=q
        subst q'
        obtain rfl:u=Value.bool true:=r'
        refine ⟨rfl,OldK.of_keep fun b o e=>?_,os,bare⟩
        cases q:H b with
        | none=>exact un.keep b o e q (by intro z; exact absurd (show b ∈ ([]:List Addr) from z) (by simp)) (by simp)
        | some u=>
          rcases hO b with z | ⟨ob,xs,z⟩
          . rw [q] at z; cases z
          . have z2:=un.frzs b ob _ z
            obtain ⟨e1,_⟩:=hok b _ z
            obtain ⟨e2,_⟩:=hok' b _ z2
            rw [e] at e1; cases e1
            exact e2
  cases hk:K.lookup a with
  | some o=>
    have e:=KX a o hk
    rw [ha] at e
    cases e
    refine core (fun _=>none) (fun _=>.inl rfl) (.inr ⟨_,vs.toArray,_,hk,rfl,rfl,rfl,by rw [List.size_toArray,lenV]; exact hl,by simpa using rv⟩) (fun b u z=>by have z':(none:Option HO)=some u:=z; cases z') (fun b z=>absurd rfl z) fun z=>absurd rfl z
  | none=>
    refine core (fun b=>if b=a then some (.frz { cls:=.type "list",data:=.seq vs.toArray } (.lst (ns.map V.int))) else none) (fun b=>?_) (.inl (.inr ⟨{ cls:=.type "list",data:=.seq vs.toArray },if_pos rfl⟩)) (fun b u z=>?_) (fun b z=>?_) fun _=>hk
    . by_cases hb:b=a
      . exact .inr ⟨_,_,if_pos hb⟩
      . exact .inl (if_neg hb)
    . by_cases hb:b=a
      . have z':=(if_pos hb).symm.trans z
        cases z'
        subst hb
        exact ⟨ha,by rw [List.length_map]; exact hl,vs,_,rv,ha⟩
      . have z':=(if_neg hb).symm.trans z
        cases z'
    . by_cases hb:b=a
      . exact hb
      . exact absurd (if_neg hb) z
end L2
namespace L2
open PySem PySem.Spec PyProof.Rows
theorem walk_of {l:W.OpenLaw} {n k:Nat} {q:Program} {loose:List Str} {XP:(Str->Option Value)->Heap->Prop} {YP:World->Heap->Prop} {d:DefRec} {K:Params->W.Frag} {CX:World->CXT} {sp:World->Sp} {x:Str}
    (hn:l.most=some n) (hn2:n<=sizeLine) (hdf:d.params.defaults=[]) (hr:Room k callerA)
    (hY:∀ (w:World) (h:Heap),YP w h->(K w.params).In h)
    (F:∀ (w:World) (mg:Str->Option Value) (fa:Addr) (h:Heap),(K w.params).In h->h.Ns mainGlobals mg->mg d.name=some (.ref fa) ->
      ∃ fd:FuncData,(∀ (s:Shared) (u:Value),BindsTo s fd ⟨[u],[]⟩ [(x,u)]) /\
        ∀ base:Heap,(K w.params).In base->base.Ns mainGlobals mg->FnOk l.prog w (K w.params) mg base (CX w) k fa fd [x] (sp w))
    (hsp:∀ (w:World) (H:Hp) (a:Addr) (ns:List Int),ns.length<=n->Only H->SqL (K w.params) H a (ns.map V.int)->sp w [.ref a] H (fun v _=>v=.bl true) fun _ _ _=>False)
    (hCX:∀ (w:World) (H:Hp) (s:Shared) (e:Value) (s':Shared),CX w [] H s (fun _ _ _=>False) e s'->False):
    W.WalkO q loose XP YP l.row.toRowW d [] (fun f vs=>PySem.call f vs):=by
  refine Att.attach_call hn hdf fun w s₀ s₁ mg mb fa o pm cd doc a vs ns G Y ho hd hcd hmg hobj hints hlen hg=>?_
  have KX:=hY w _ Y
  obtain ⟨fd,hb,hF⟩:=F w mg fa _ KX G.T.g hmg
  exact law_call KX G.T.g G.T.b G.T.builtins G.T.nolimit hg hobj hints (Nat.le_trans hlen hn2) hr hF hb (fun H hO hS=>hsp w H a ns hlen hO hS) fun H e s'=>hCX w H s₁ e s'
end L2
namespace L2
open PySem PySem.Spec PyProof.Rows
noncomputable def a0P (s:Stmt) (j:Nat):Stmt:=match s with
  | .ClassDef _ _ _ body _ _ _ _ _ _ _=>body.getD j (.Pass ⟨0,0,0,0⟩)
  | _=>.Pass ⟨0,0,0,0⟩
noncomputable def a0v (s:Stmt):Arguments:=match s with
  | .FunctionDef _ a _ _ _ _ _ _ _ _=>a
  | _=>{ posonlyargs:=[],args:=[],vararg:=none,kwonlyargs:=[],kw_defaults:=[],kwarg:=none,defaults:=[] }
noncomputable def a0r (s:Stmt):List Stmt:=match s with
  | .FunctionDef _ _ b _ _ _ _ _ _ _=>b
  | _=>[]
noncomputable def a0e (s:Stmt):Scope:=match s with
  | .FunctionDef _ _ _ _ _ _ sc _ _ _=>sc
  | _=>{ kind:=.function,names:=[],isGenerator:=false,isCoroutine:=false }
noncomputable abbrev CX0:CXT:=fun _ _ _ _ _ _=>False
abbrev E0:XK:=fun _ _ _=>False
theorem pass0 {X:Cx}:a7U CX0 X E0:=fun _ _ _ _ _ _ _ h=>h.elim
structure Fun (K:W.Frag) (x qual:Str) (st:Stmt) (f:Addr) (fd:FuncData):Prop where
  ex:∃ (oc:Value) (od:Option Addr) (kV doc pm:Value) (an:Option Addr) (cdv ct:Value) (osl:Array (Option Value)),
    fd=W.fnOf x qual (a0v st) (a0r st) (a0e st) .none kV doc pm an cdv ct/\K.lookup f=some ⟨oc,od,.func fd,osl⟩/\W.codeIn K cdv qual=true
  kp:W.keepIn K (.ref f)=true
section
variable {P:Program} {w:World} {K:W.Frag} {mg:Str->Option Value} {base:Heap}
theorem Fun.ok {x qual:Str} {st:Stmt} {f:Addr} {fd:FuncData} {N ps:List Str} {k:Nat} {sp:Sp} (F:Fun K x qual st f fd) (S:FnScope N ps (a0e st)) (len:∀ vs H Q E,sp vs H Q E->vs.length=ps.length)
    (hbody:∀ (cdv:Value) (A:Around) (outer:List Env) (s:Shared) (H:Hp) (vs:List V) (Q:VK) (E:XK),Room k (A.deeper (envOfC qual (a0e st) s.heap.objs.size f cdv))->sp vs H Q E ->
      ∃ t,PSs (cxOf CX0 P w K mg base N qual (a0e st) f cdv A outer s H E).nox (a0r st) t/\t { nx:=fun _ H'=>Q .non H',rt:=Q } (start N vs) H):FnOk P w K mg base CX0 (k + 1) f fd ps sp:=by
  obtain ⟨oc,od,kV,doc,pm,an,cdv,ct,osl,rfl,lk,hcd⟩:=F.ex
  refine fn_of lk hcd S len fun A outer s H vs Q E hr hsp=>?_
  obtain ⟨t,h,q⟩:=hbody cdv A outer s H vs Q E hr hsp
  exact ⟨t,h.nox,q⟩
theorem Fun.binds {x qual:Str} {st:Stmt} {f:Addr} {fd:FuncData} {ps:List Str} (F:Fun K x qual st f fd)
    (h:∀ (kV doc pm:Value) (an:Option Addr) (cdv ct:Value) (us:List Value),us.length=ps.length->bindArgs (W.fnOf x qual (a0v st) (a0r st) (a0e st) .none kV doc pm an cdv ct) ⟨us,[]⟩=pure (ps.zip us)):a5F K fd ps []:=by
  obtain ⟨oc,od,kV,doc,pm,an,cdv,ct,osl,rfl,lk,hcd⟩:=F.ex
  exact .all (h kV doc pm an cdv ct)
theorem a0X {x qual:Str} {st:Stmt} {f:Addr} {oc:Value} {od an:Option Addr} {osl:Array (Option Value)} {kV doc pm cdv ct:Value} (l:K.lookup f=some ⟨oc,od,.func (W.fnOf x qual (a0v st) (a0r st) (a0e st) .none kV doc pm an cdv ct),osl⟩)
    (c:W.codeIn K cdv qual=true) (k:W.keepIn K (.ref f)=true):Fun K x qual st f (W.fnOf x qual (a0v st) (a0r st) (a0e st) .none kV doc pm an cdv ct):=⟨⟨oc,od,kV,doc,pm,an,cdv,ct,osl,rfl,l,c⟩,k⟩
end
theorem a3d {A:Around} {k:Nat} (hr:Room k A):A.units + 1 < cLine:=Nat.lt_of_le_of_lt (Nat.add_le_add_left (by decide:1<=64) _) hr.units
theorem small1000 {n:Nat} (h:n<=1000):n < sizeLine:=Nat.lt_of_le_of_lt h (by decide)
section
variable {X:Cx}
theorem pv (i:Nat) {x:Str} {pos:Pos} (hN:X.N[i]?=some x:=by rfl) (hv:Vis X.env.scope x:=by first | exact Or.inl rfl | exact Or.inr (Or.inl rfl) | exact Or.inr (Or.inr rfl)) (hd:(x == ("__debug__" : Str))=false:=by decide)
    (hcd:(x == ("__classdict__" : Str))=false:=by decide):PE X (.Name x pos) (tVar i):=pe_var hN hv hd hcd
end
theorem iteF {A B:Prop} (h:B):if false=true then A else B:=by
  rw [if_neg Bool.false_ne_true]
  exact h
theorem iteT {A B:Prop} (h:A):if true=true then A else B:=by
  rw [if_pos rfl]
  exact h
theorem ite2 {c A B:Prop} [Decidable c] (h1:c->A) (h2:¬ c->B):if c then A else B:=by
  by_cases h:c
  . rw [if_pos h]
    exact h1 h
  . rw [if_neg h]
    exact h2 h
def a0F (H H':Hp):Prop:=∀ b o,H b=some o->H' b=some o
theorem a0F.refl (H:Hp):a0F H H:=fun _ _ h=>h
theorem a0F.trans {H H1 H2:Hp} (a:a0F H H1) (b:a0F H1 H2):a0F H H2:=fun c o h=>b c o (a c o h)
theorem a0F.free {H H':Hp} (e:a0F H H') {l:Addr} (h:H' l=Option.none):H l=Option.none:=by
  cases q:H l with
  | none=>rfl
  | some o=>
    rw [e l o q] at h
    cases h
end L2
set_option maxHeartbeats 4000000
namespace L2
open PySem PySem.Spec PyProof.Rows
def CDivB (i j:Int):Prop:=0 < j/\j < 2 ^ 200
theorem op_fdivB {X:Cx}:OpR X (binaryOp .FloorDiv) (rI CDivB fun i j=>.int (i / j)):=opI fun i j _ _ _ _ _ hc q=>by
  have p1:(0:Int) < j:=hc.1
  have p2:j < 2 ^ 200:=hc.2
  have p3:j.natAbs < 2 ^ 200:=by ac_rfl
  have p4:j.natAbs.log2 < 200:=(Nat.log2_lt (by ac_rfl)).mpr p3
  refine floordiv_int (by ac_rfl) ?_ (.inl (PyProof.noPylong_of_log2 (by ac_rfl)))
  rw [Int.fdiv_eq_ediv_of_nonneg i (by ac_rfl)]
  exact q
theorem pe_globI {X:Cx} {x:Str} {n:Int} {pos:Pos} (hm:∃ t,X.mg x=some (.int n t)) (hg:Gl X x:=by rfl) (hd:(x == ("__debug__" : Str))=false:=by decide):PE X (.Name x pos) (tC (.int n)):=by
  obtain ⟨t,h⟩:=hm
  exact pe_glob hg h ⟨t,rfl⟩ hd
section
variable {X:Cx} {pins:List (Addr × Obj)} {σ:St} {H:Hp} {s:Shared} {h':Heap}
theorem Inv.turnedL {t':Nat} {fp:List Addr} (I:Inv X pins σ H s) (hf:∀ b ∈ fp,FpOk X pins H b) (k:∀ b o,b ∉ fp->s.heap.get? b=some o->h'.get? b=some o):Inv X pins σ H { s with heap:=h',toks:=t' }:=by
  have nf:∀ b u,H b=some u->b ∉ fp:=fun b u e z=>by have:=(hf b z).1; rw [e] at this; cases this
  refine I.step (g':=s.gens) (d':=s.drawn) (ch:=fp) (fun b hb=>?_) (fun b o _ _ hc e _=>k b o hc e) (fun b o _ _ hc e _=>⟨o.slots,k b o hc e⟩) (fun _ _ _ _ n=>n) (fun b o hc e=>⟨o,k b o hc e⟩) (fun _ _ e=>e) (fun _ _ _ e=>e)
    (fun b ps e=>⟨#[],by rw [e]; simp⟩) (fun m hm=>?_) (fun b u e=>?_) I.bare
  . obtain ⟨_,f1,_,f3,f4,f5⟩:=hf b hb
    exact ⟨f3,f1,f4,f5⟩
  . obtain ⟨o,es,ep,ho,r⟩:=hm
    exact ⟨o,es,ep,k _ o (fun z=>(hf _ z).2.1 rfl) ho,r⟩
  . refine (I.hok b u e).stay (fun c v hc q=>k c v ?_ q) (fun _ q=>q) (fun _ _ q=>q) fun _ _ q=>q
    rcases hc with z | z
    . rw [z]; exact nf b u e
    . exact nf c _ z
theorem Inv.turnedN {t':Nat} {fp:List Addr} {T:Addr} {ob:HO} (I:Inv X pins σ H s) (hf:∀ b ∈ fp,FpOk X pins H b) (k:∀ b o,b ∉ fp->s.heap.get? b=some o->h'.get? b=some o) (hT:s.heap.objs.size<=T)
    (new:a2a X.prog X.w (upd H T ob) h' T ob):Inv X pins σ (upd H T ob) { s with heap:=h',toks:=t' }:=by
  have hn:H T=none:=I.hok.fresh hT
  have nf:∀ b u,H b=some u->b ∉ fp:=fun b u e z=>by have:=(hf b z).1; rw [e] at this; cases this
  have nT:∀ b o,s.heap.get? b=some o->b ≠ T:=fun b o e=>Nat.ne_of_lt (Nat.lt_of_lt_of_le (Heap.lt_size e) hT)
  refine I.step (g':=s.gens) (d':=s.drawn) (ch:=fp) (fun b hb=>?_) (fun b o _ _ hc e _=>k b o hc e) (fun b o _ _ hc e _=>⟨o.slots,k b o hc e⟩) (fun b o _ e n=>by rw [a0G (nT b o e)]; exact n) (fun b o hc e=>⟨o,k b o hc e⟩)
    (fun b xs e=>by rw [a0G (a0A e hn)]; exact e) (fun b _ _ e=>by rw [a0G (a0A e hn)]; exact e)
    (fun b ps e=>⟨#[],by rw [a0G (a0A e hn),e]; simp⟩) (fun m hm=>?_) (fun b u e=>?_) I.bare
  . obtain ⟨_,f1,_,f3,f4,f5⟩:=hf b hb
    exact ⟨f3,f1,f4,f5⟩
  . obtain ⟨o,es,ep,ho,r⟩:=hm
    exact ⟨o,es,ep,k _ o (fun z=>(hf _ z).2.1 rfl) ho,r⟩
  . by_cases hb:b=T
    . subst hb
      rw [a0I] at e
      cases e
      exact new
    . rw [a0G hb] at e
      refine (I.hok b u e).stay (fun c v hc q=>k c v ?_ q) (fun c q=>by rw [a0G (a0A q hn)]; exact q) (fun c xs q=>by rw [a0G (a0A q hn)]; exact q) fun c xs q=>by rw [a0G (a0A q hn)]; exact q
      rcases hc with z | z
      . rw [z]; exact nf b u e
      . exact nf c _ z
end
noncomputable def ItE (K:W.Frag) (a:Addr):It:=
  ⟨fun i H=>∃ xs x,SqL K H a xs/\xs[i]?=some x,fun i H v H'=>∃ T x,H T=none/\v=.ref T/\H'=upd H T (.tup [.int i,x]) /\ ∀ xs,SqL K H a xs->xs[i]?=some x,fun i H=>∃ xs,SqL K H a xs/\xs.length<=i⟩
theorem turn_enum {P:Program} {w:World} {K:W.Frag} {elts:List Expr} {x1:Nat} {pos:Pos} (a e it:Addr) (hne:e ≠ it):
    Turn P w K (.Tuple elts x1 pos) (ItE K a) [e,it] e (fun i h=>(∃ old,IsEnum h e it (i:Nat) old)/\h.IsListIter it a i) where
  mem:=by simp
  obj:=fun i h st b hb=>by
    obtain ⟨⟨old,he⟩,o,ho,c,d⟩:=st
    rcases List.mem_cons.mp hb with rfl | hb
    . exact ⟨_,he,fun v z=>by cases z⟩
    . rw [List.mem_singleton.mp hb]
      exact ⟨o,ho,fun v z=>by rw [d] at z; cases z⟩
  keep:=fun i h h' st k=>⟨let ⟨old,he⟩:=st.1; ⟨old,k e (by simp) _ he⟩,st.2.at fun o q=>k it (by simp) o q⟩
  item:=by
    intro X hP hw hK hc i pins s σ H E I hf st hg
    subst hP hw hK
    obtain ⟨xs,x,hq,hx⟩:=hg
    obtain ⟨its,rv,p,hz⟩:=I.list hq
    obtain ⟨u,hu,ru⟩:=rv.get hx
    obtain ⟨⟨old,he⟩,hit⟩:=st
    refine wpAny_pyNext_enum_item he hit p.isList (x:=u) (by simpa using hu) hne fun h1 heo hit1 ht hsz hk=>⟨_,rfl,?_⟩
    refine wpAny_letOwnedTupleGo_enum heo fun h2 he2 hs2=>?_
    have heL:e < s.heap.objs.size:=Heap.lt_size he
    have hn:H s.heap.objs.size=none:=I.hok.fresh (Nat.le_refl _)
    have k2:∀ b o,b ∉ [e,it]->s.heap.get? b=some o->h2.get? b=some o:=fun b o hb q=>by
      have b1:b ≠ e:=fun z=>hb (by simp [z])
      have b2:b ≠ it:=fun z=>hb (by simp [z])
      exact (hs2.2 b b1).trans (hk b o b1 b2 q)
    have tt:h2.get? s.heap.objs.size=some { cls:=.type "tuple",data:=.seq #[.int i s.toks,u] }:=(hs2.2 _ (Nat.ne_of_gt heL)).trans ht
    refine ⟨.ref s.heap.objs.size,_,I.turnedN (ob:=.tup [.int i,x]) (T:=s.heap.objs.size) (t':=s.toks + 1) hf k2 (Nat.le_refl _) ?_,rfl,⟨_,x,hn,rfl,rfl,fun ys hy=>by rw [I.list_inj hy hq]; exact hx⟩,⟨⟨u,?_⟩,hit1.extBut hs2.extBut (Ne.symm hne)⟩,fun b hb=>?_⟩
    . exact ⟨(by decide:2<=sizeLine),[.int i s.toks,u],.cons ⟨_,rfl⟩ (.cons ru .nil),_,tt,rfl,_,rfl⟩
    . have:((i + 1:Nat):Int)=(i:Int) + 1:=by ac_rfl
      rw [this]
      exact he2
    . have hb1:=(hf b hb).1
      rw [a0G ?_]
      . exact hb1
      . rintro rfl
        obtain ⟨o,ho,_⟩:=id hit
        rcases List.mem_cons.mp hb with z | z
        . exact absurd heL (by rw [<- z]; exact Nat.lt_irrefl _)
        . have:=Heap.lt_size ho
          rw [<- List.mem_singleton.mp z] at this
          exact Nat.lt_irrefl _ this
  done:=by
    intro X hP hw hK hc i pins s σ H E I hf st hg
    subst hP hw hK
    obtain ⟨xs,hq,hx⟩:=hg
    obtain ⟨its,rv,p,hz⟩:=I.list hq
    obtain ⟨⟨old,he⟩,hit⟩:=st
    have hl:=rv.length
    exact end_enum I.qu he hit p.isList (by simp; ac_rfl) fun h1 eb=>⟨rfl,I.turnedL (t':=s.toks) hf fun b o hb q=>eb b o (fun z=>hb (by simp [z])) q⟩
  self:=fun _ _ _ _ _ st h=>by
    obtain ⟨⟨old,he⟩,_⟩:=st
    exact wpAny_pyIter_enum he h
section
variable {X:Cx}
def iEnum (K:W.Frag) (ta:TA):TI:=fun σ H R=>ta σ H fun vs H1=>∃ a,vs=[.ref a]/\(∃ xs,SqL K H1 a xs)/\R (ItE K a) H1
theorem pi_enum {elts:List Expr} {x1:Nat} {tp:Pos} {a:Expr} {ta:TA} {p pos:Pos} (hg:Gl X "enumerate") (hm:X.mg "enumerate" = none) (ha:PA X [a] ta) (hs:starEach [a] X.env=[(false,eval a X.env)]:=by rfl):
    PI X (.Tuple elts x1 tp) (.Call (.Name "enumerate" p) [a] [] pos) (iEnum X.K ta):=by
  intro pins s σ H R I h
  refine Call_ (a6E I hg hm boot_enumerate (PyProof.Rows.callWith_type1 (thn (ha pos pins s σ H _ I h) fun us s1 ⟨vs,H1,I1,r1,q1⟩=>?_) hs rfl))
  obtain ⟨l,e,⟨xs,hq⟩,q⟩:=q1
  subst e
  obtain ⟨u,rfl,ru⟩:=a4Y r1
  cases ru
  obtain ⟨its,rv,pl,hz⟩:=I1.list hq
  refine call_enumerate_list pl.isList fun h1 he hit hsz hk=>wpAny_pyIter_enum he ?_
  have I2:Inv X pins σ H1 { s1 with heap:=h1 }:=I1.kept (t':=s1.toks) hk
  refine ⟨s1.heap.objs.size + 1,[s1.heap.objs.size + 1,s1.heap.objs.size],_,_,H1,rfl,I2,turn_enum l _ _ (Nat.succ_ne_self _),⟨⟨_,he⟩,hit⟩,fun b hb=>?_,q⟩
  refine I1.fpOk ?_ (I1.hok.fresh ?_)
  all_goals
    rcases List.mem_cons.mp hb with z | z
    . rw [z]; exact Nat.le_succ _
    . rw [List.mem_singleton.mp z]; exact Nat.le_refl _
end
noncomputable def ItZ (a b:Addr):It:=
  ⟨fun i H=>∃ xs ys x y,H a=some (.lst xs)/\H b=some (.lst ys)/\xs[i]?=some x/\ys[i]?=some y,
   fun i H v H'=>∃ T x y,H T=none/\v=.ref T/\H'=upd H T (.tup [x,y])/\(∀ xs,H a=some (.lst xs)->xs[i]?=some x) /\ ∀ ys,H b=some (.lst ys)->ys[i]?=some y,
   fun i H=>∃ xs ys,H a=some (.lst xs)/\H b=some (.lst ys)/\(xs.length<=i \/ ys.length<=i)⟩
structure ZApart (z TI TO i1 i2:Addr):Prop where
  a:TI ≠ z
  b:TO ≠ z
  c:i1 ≠ z
  d:i2 ≠ z
  e:TI ≠ TO
  f:TI ≠ i1
  g:TI ≠ i2
  h:TO ≠ i1
  i:TO ≠ i2
  j:i1 ≠ i2
theorem turn_zip {P:Program} {w:World} {K:W.Frag} {elts:List Expr} {x1:Nat} {pos:Pos} (a b z TI TO i1 i2:Addr) (Z:ZApart z TI TO i1 i2):
    Turn P w K (.Tuple elts x1 pos) (ItZ a b) [z,TI,TO,i1,i2] z (fun i h=>IsZip h z TI TO .none/\IsPair h TI (.ref i1) (.ref i2)/\(∃ p q,IsPair h TO p q)/\h.IsListIter i1 a i/\h.IsListIter i2 b i) where
  mem:=by simp
  obj:=fun i h st c hc=>by
    obtain ⟨hz,hI,⟨p,q,hO⟩,⟨o1,h1,_,d1⟩,⟨o2,h2,_,d2⟩⟩:=st
    simp only [List.mem_cons,List.not_mem_nil,or_false] at hc
    rcases hc with rfl | rfl | rfl | rfl | rfl
    . exact ⟨_,hz,fun v y=>by cases y⟩
    . exact ⟨_,hI,fun v y=>by cases y⟩
    . exact ⟨_,hO,fun v y=>by cases y⟩
    . exact ⟨_,h1,fun v y=>by rw [d1] at y; cases y⟩
    . exact ⟨_,h2,fun v y=>by rw [d2] at y; cases y⟩
  keep:=fun i h h' st k=>by
    obtain ⟨hz,hI,⟨p,q,hO⟩,h1,h2⟩:=st
    exact ⟨k z (by simp) _ hz,k TI (by simp) _ hI,⟨p,q,k TO (by simp) _ hO⟩,h1.at fun o y=>k i1 (by simp) o y,h2.at fun o y=>k i2 (by simp) o y⟩
  item:=by
    intro X hP hw hK hc i pins s σ H E I hf st hg
    subst hP hw hK
    obtain ⟨xs,ys,x,y,ha,hb,hx,hy⟩:=hg
    obtain ⟨its,rv,pl,hz1⟩:=I.list (SqL.of ha)
    obtain ⟨its2,rv2,pl2,hz2⟩:=I.list (SqL.of hb)
    obtain ⟨u,hu,ru⟩:=rv.get hx
    obtain ⟨u2,hu2,ru2⟩:=rv2.get hy
    obtain ⟨hz,hI,⟨p,q,hO⟩,h1,h2⟩:=st
    have na:∀ c ∈ [z,TI,TO,i1,i2],a ≠ c:=fun c hc=>a0A ha (hf c hc).1
    have nb:∀ c ∈ [z,TI,TO,i1,i2],b ≠ c:=fun c hc=>a0A hb (hf c hc).1
    have D:ZipApart z TI TO i1 i2 a b:=⟨Z.a,Z.b,Z.c,Z.d,Z.e,Z.f,Z.g,Z.h,Z.i,Z.j,na z (by simp),na TO (by simp),na i1 (by simp),na i2 (by simp),nb z (by simp),nb TO (by simp),nb i1 (by simp),nb i2 (by simp)⟩
    refine wpAny_pyNext_zip_item D hz hI hO h1 h2 pl.isList pl2.isList (x:=u) (y:=u2) (by simpa using hu) (by simpa using hu2) fun g a1 a2 a3 a4 a5 a6 hk=>⟨_,rfl,?_⟩
    refine wpAny_letOwnedTupleGo_zip a1 fun g2 hz2 hs2=>?_
    have hn:H s.heap.objs.size=none:=I.hok.fresh (Nat.le_refl _)
    have zL:z < s.heap.objs.size:=Heap.lt_size hz
    have lt:∀ {c:Addr} {o:Obj},s.heap.get? c=some o->c ≠ s.heap.objs.size:=fun e=>Nat.ne_of_lt (Heap.lt_size e)
    have k2:∀ c o,c ∉ [z,TI,TO,i1,i2]->s.heap.get? c=some o->g2.get? c=some o:=fun c o hc e=>by
      simp only [List.mem_cons,List.not_mem_nil,or_false,not_or] at hc
      exact (hs2.2 c hc.1).trans (hk c o hc.1 hc.2.2.1 hc.2.2.2.1 hc.2.2.2.2 e)
    have tt:g2.get? s.heap.objs.size=some { cls:=.type "tuple",data:=.seq #[u,u2] }:=(hs2.2 _ (Nat.ne_of_gt zL)).trans a5
    refine ⟨.ref s.heap.objs.size,_,I.turnedN (ob:=.tup [x,y]) (T:=s.heap.objs.size) (t':=s.toks) hf k2 (Nat.le_refl _) ?_,rfl,
      ⟨_,x,y,hn,rfl,rfl,fun zs hzs=>by rw [ha] at hzs; cases hzs; exact hx,fun zs hzs=>by rw [hb] at hzs; cases hzs; exact hy⟩,
      ⟨hz2,hs2.extBut _ _ Z.a (hk _ _ Z.a Z.e Z.f Z.g hI),⟨_,_,hs2.extBut _ _ Z.b a2⟩,a3.extBut hs2.extBut Z.c,a4.extBut hs2.extBut Z.d⟩,fun c hc=>?_⟩
    . exact ⟨(by decide:2<=sizeLine),[u,u2],.cons ru (.cons ru2 .nil),_,tt,rfl,_,rfl⟩
    . have hc1:=(hf c hc).1
      have:c ≠ s.heap.objs.size:=by
        simp only [List.mem_cons,List.not_mem_nil,or_false] at hc
        rcases hc with rfl | rfl | rfl | rfl | rfl
        . exact lt hz
        . exact lt hI
        . exact lt hO
        . obtain ⟨o,e,_⟩:=h1; exact lt e
        . obtain ⟨o,e,_⟩:=h2; exact lt e
      rw [a0G this]
      exact hc1
  done:=by
    intro X hP hw hK hc i pins s σ H E I hf st hg
    subst hP hw hK
    obtain ⟨xs,ys,ha,hb,hor⟩:=hg
    obtain ⟨its,rv,pl,hz1⟩:=I.list (SqL.of ha)
    obtain ⟨its2,rv2,pl2,hz2⟩:=I.list (SqL.of hb)
    obtain ⟨hz,hI,⟨p,q,hO⟩,h1,h2⟩:=st
    have na:∀ c ∈ [z,TI,TO,i1,i2],a ≠ c:=fun c hc=>a0A ha (hf c hc).1
    have nb:∀ c ∈ [z,TI,TO,i1,i2],b ≠ c:=fun c hc=>a0A hb (hf c hc).1
    have D:ZipApart z TI TO i1 i2 a b:=⟨Z.a,Z.b,Z.c,Z.d,Z.e,Z.f,Z.g,Z.h,Z.i,Z.j,na z (by simp),na TO (by simp),na i1 (by simp),na i2 (by simp),nb z (by simp),nb TO (by simp),nb i1 (by simp),nb i2 (by simp)⟩
    have l1:=rv.length
    have l2:=rv2.length
    refine end_zip I.qu D hz hI hO h1 h2 pl.isList pl2.isList ?_ fun g hk=>⟨rfl,I.turnedL (t':=s.toks) hf fun c o hc e=>?_⟩
    . rcases hor with h | h
      . exact .inl (by simp; ac_rfl)
      . exact .inr (by simp; ac_rfl)
    . simp only [List.mem_cons,List.not_mem_nil,or_false,not_or] at hc
      exact hk c o hc.1 hc.2.2.1 hc.2.2.2.1 hc.2.2.2.2 e
  self:=fun _ _ _ _ _ st h=>wpAny_pyIter_zip st.1 h
theorem zapart (n:Nat):ZApart (n + 4) (n + 2) (n + 3) n (n + 1):=
  ⟨fun e=>by have e':(n + 2:Nat)=n + 4:=e; ac_rfl,fun e=>by have e':(n + 3:Nat)=n + 4:=e; ac_rfl,fun e=>by have e':(n:Nat)=n + 4:=e; ac_rfl,fun e=>by have e':(n + 1:Nat)=n + 4:=e; ac_rfl,
   fun e=>by have e':(n + 2:Nat)=n + 3:=e; ac_rfl,fun e=>by have e':(n + 2:Nat)=n:=e; ac_rfl,fun e=>by have e':(n + 2:Nat)=n + 1:=e; ac_rfl,fun e=>by have e':(n + 3:Nat)=n:=e; ac_rfl,
   fun e=>by have e':(n + 3:Nat)=n + 1:=e; ac_rfl,fun e=>by have e':(n:Nat)=n + 1:=e; ac_rfl⟩
section
variable {X:Cx}
def iZip (ta:TA):TI:=fun σ H R=>ta σ H fun vs H1=>∃ a b,vs=[.ref a,.ref b]/\(∃ xs,H1 a=some (.lst xs))/\(∃ ys,H1 b=some (.lst ys))/\R (ItZ a b) H1
theorem pi_zip {elts:List Expr} {x1:Nat} {tp:Pos} {a b:Expr} {ta:TA} {p pos:Pos} (hg:Gl X "zip") (hm:X.mg "zip" = none) (ha:PA X [a,b] ta)
    (hs:starEach [a,b] X.env=[(false,eval a X.env),(false,eval b X.env)]:=by rfl) (hs2:starEach [b] X.env=[(false,eval b X.env)]:=by rfl):
    PI X (.Tuple elts x1 tp) (.Call (.Name "zip" p) [a,b] [] pos) (iZip ta):=by
  intro pins s σ H R I h
  refine Call_ (a6E I hg hm boot_zip (PyProof.Rows.callWith_type1 (thn (ha pos pins s σ H _ I h) fun us s1 ⟨vs,H1,I1,r1,q1⟩=>?_) (by rw [hs,hs2]) (by rw [hs2]; rfl)))
  obtain ⟨l,l2,e,⟨xs,hl⟩,⟨ys,hl2⟩,q⟩:=q1
  subst e
  obtain ⟨u,u2,rfl,ru,ru2⟩:=vals2 r1
  cases ru
  cases ru2
  obtain ⟨its,rv,pl,hz⟩:=I1.list (SqL.of hl)
  obtain ⟨its2,rv2,pl2,hz2⟩:=I1.list (SqL.of hl2)
  refine call_zip_2 pl.isList pl2.isList fun h1 hz hI hO i1 i2 hsz hk=>wpAny_pyIter_zip hz ?_
  have I2:Inv X pins σ H1 { s1 with heap:=h1 }:=I1.kept (t':=s1.toks) hk
  refine ⟨s1.heap.objs.size + 4,[s1.heap.objs.size + 4,s1.heap.objs.size + 2,s1.heap.objs.size + 3,s1.heap.objs.size,s1.heap.objs.size + 1],_,_,H1,rfl,I2,
    turn_zip l l2 _ _ _ _ _ (zapart s1.heap.objs.size),⟨hz,hI,⟨_,_,hO⟩,i1,i2⟩,fun b hb=>?_,q⟩
  have hle:s1.heap.objs.size<=b:=by
    simp only [List.mem_cons,List.not_mem_nil,or_false] at hb
    rcases hb with rfl | rfl | rfl | rfl | rfl
    . exact Nat.le_add_right _ _
    . exact Nat.le_add_right _ _
    . exact Nat.le_add_right _ _
    . exact Nat.le_refl _
    . exact Nat.le_add_right _ _
  exact I1.fpOk hle (I1.hok.fresh hle)
end
end L2
namespace L2
open PySem PySem.Spec PyProof.Rows
section
variable {X:Cx}
end
end L2
namespace L2
open PySem PySem.Spec PyProof.Rows
section
variable {X:Cx}
def rIsi (K:W.Frag):List V->Hp->VK->Prop:=fun xs H Q=>∃ x T t b,xs=[x,.ty T]/\TyOf K H x t/\W.kitOne K t (.type T)=some b/\Q (.bl b) H
theorem call_isi:a3v X (.builtin "isinstance") (rIsi X.K):=by
  intro pins s σ H xs us Q I r h
  obtain ⟨x,T,t,b,rfl,ty,k,q⟩:=h
  obtain ⟨u,u2,rfl,ru,ru2⟩:=vals2 r
  cases ru2
  exact isinst_ok I ru ty k fun tk=>⟨.bl b,H,I.tok tk,rfl,q⟩
theorem a8m:∀ {bs:List Bool} {us:List Value},a1w (bs.map V.bl) us->LSm.BoolsAre us bs
  | [],_,.nil=>.nil
  | _ :: _,_,.cons r t=>by cases r; exact .cons _ (a8m t)
theorem a8l:∀ {ns:List Int} {us:List Value},a1w (ns.map V.int) us->IntsAre us ns
  | [],_,.nil=>.nil
  | _ :: _,_,.cons r t=>by obtain ⟨t',rfl⟩:=r; exact .cons _ _ (a8l t)
def rAll (K:W.Frag):List V->Hp->VK->Prop:=fun xs H Q=>∃ (a:Addr) (bs:List Bool),xs=[.ref a]/\SqL K H a (bs.map V.bl)/\Q (.bl (bs.all id)) H
theorem call_allL (hc:X.calm=true):a3v X (.builtin "all") (rAll X.K):=by
  intro pins s σ H xs us Q I r h
  obtain ⟨a,bs,rfl,hq,q⟩:=h
  obtain ⟨u,rfl,ru⟩:=a4Y r
  cases ru
  obtain ⟨its,rv,pl,hz⟩:=I.list hq
  have ba:=a8m rv
  have lt:a < s.heap.objs.size:=by obtain ⟨_,e,_⟩:=pl.isList; exact Heap.lt_size e
  refine call_all_walk (wpAny_pyIter_list pl.isList ⟨s.heap.objs.size,[s.heap.objs.size,a],[s.heap.objs.size],its.toArray.size,_,_,fun i=>(bs[i]?).getD true,rfl,
    Walks.list (A:=X.A.in1) (I.ok.hd hc) _ a (Nat.ne_of_lt lt) its.toArray,⟨⟨_,Heap.get?_push_size _ rfl,rfl,rfl⟩,pl.isList.push _⟩,fun i v s' Q' E' hP hQ=>?_,fun h' tk hk=>?_⟩)
  . obtain ⟨b,e,rfl⟩:=ba.get i v (by simpa using hP)
    have hQ':Q' ((bs[i]?).getD true) s':=hQ
    rw [e] at hQ'
    exact wpAny_truthy_bool hQ'
  . have e:((List.range its.toArray.size).all fun i=>(bs[i]?).getD true)=bs.all id:=by
      have:=LSm.range_all bs
      rw [<- ba.length] at this
      simpa using this
    rw [e]
    exact ⟨.bl _,H,I.kept (LSm.kept_iter hk),rfl,q⟩
def rSum (K:W.Frag):List V->Hp->VK->Prop:=fun xs H Q=>∃ (a:Addr) (ns:List Int),xs=[.ref a]/\SqL K H a (ns.map V.int)/\Q (.int ns.sum) H
theorem call_sumL (hc:X.N=X.N):a3v X (.builtin "sum") (rSum X.K):=by
  intro pins s σ H xs us Q I r h
  obtain ⟨a,ns,rfl,hq,q⟩:=h
  obtain ⟨u,rfl,ru⟩:=a4Y r
  cases ru
  obtain ⟨its,rv,pl,hz⟩:=I.list hq
  have ia:=a8l rv
  obtain ⟨ys,hy⟩:=ia.allInts.items
  have e1:=nums_intItems ys
  rw [<- hy,show numsOf its.toArray.toList=ns from ia.numsOf] at e1
  refine sum_q I.qu (hy ▸ pl.isList) fun h' tk t' hk=>⟨.int ns.sum,H,I.kept hk,⟨t',?_⟩,q⟩
  rw [preSum_eq,e1,List.take_of_length_le (by simp)]
end
end L2
namespace L2
open PySem PySem.Spec PyProof.Rows
noncomputable def pick (js:List Nat) (σ:St):St:=js.map fun j=>(σ[j]?).join
noncomputable def cxG (X:Cx) (scope:Scope) (cl:List (Str × Addr)) (fp:List Addr) (N:List Str) (s:Shared) (H:Hp):Cx where
  prog:=X.prog
  w:=X.w
  K:=X.K
  mg:=X.mg
  base:=X.base
  A:=X.A
  N:=N
  s₀:=s
  HZ:=H
  env:=compEnvC scope cl s.heap.objs.size X.env
  outer:=X.stack
  stack:=X.stack
  ex:=fp
  fn:=fun _=>false
  calm:=X.calm
  pn:=[]
  xe:=fun _ _=>False
  hs:=X.hs
def PTs (X:Cx) (ifs:List Expr) (t:TT):Prop:=
  ∀ (pins:List (Addr × Obj)) (s:Shared) (σ:St) (H:Hp) (Q:Bool->Hp->Prop),Inv X pins σ H s->t σ H Q ->
    wpAny (model X.prog X.w) X.A (forIn ifs true fun c r=>if r=true then do let ok <- isTrue c X.env (eval c X.env); pure (ForInStep.yield ok) else pure (ForInStep.yield r)) (TP X pins σ Q) X.xe s
theorem pts_nil {X:Cx}:PTs X [] (fun _ H Q=>Q true H):=fun pins s σ H Q I h=>wpAny_tests_nil ⟨H,I,h⟩
theorem pts_one {X:Cx} {c:Expr} {t:TT} (h:PT X c t):PTs X [c] t:=fun pins s σ H Q I q=>wpAny_tests_one (h pins s σ H Q I q)
def tCompG (wi:TI) (k:Nat) (js:List Nat) (g:TG) (tt:TT) (te:TE):TE:=fun σ H Q=>wi σ H fun J H1=>∀ D,H1 D=none -> ∃ W:Nat->Nat->List V->Hp->Prop,(∃ m,W 0 m [] (upd H1 D (.lst []))) /\ ∀ i m acc H2,W i m acc H2->H2 D=some (.lst acc) ->
  (J.stop i H2/\Q (.ref D) H2) \/ (J.go i H2 /\ ∀ y H3,J.yld i H2 y H3 -> ∀ old:St,old.length=k->g y (old ++ pick js σ) H3 fun σ4 H4=>(∃ new:St,new.length=k/\σ4=new ++ pick js σ)/\tt σ4 H4 fun b H5=>
    if b=true then te σ4 H5 fun v H6=>H6 D=some (.lst acc)/\acc.length < sizeLine /\ ∃ m',m' < m/\W (i + 1) m' (acc ++ [v]) (upd H6 D (.lst (acc ++ [v])))
    else H5 D=some (.lst acc) /\ ∃ m',m' < m/\W (i + 1) m' acc H5)
theorem compLoop_anyI {prog:Program} {w:World} {A:Around} {R:Result->Shared->Prop} {s:Shared} {elt tgt iter:Expr} {ifs:List Expr} {scope:Scope} {pos:Pos} {it acc:Value} {env:Env} (J:Nat->Shared->Prop)
    (turn:∀ n s,J n s->wpAny (model prog w) A (pyNext it) (fun r s1=>match r with
      | none=>R (.ok .next) s1
      | some v=>wpAny (model prog w) A (letOwnedTupleGo tgt it v) (fun _ s2=>wpAny (model prog w) A (assign tgt env v) (fun _ s3=>
          wpAny (model prog w) A (forIn ifs true fun c r=>if r=true then do let ok <- isTrue c env (eval c env); pure (ForInStep.yield ok) else pure (ForInStep.yield r)) (fun b s3'=>
          if b=true then wpAny (model prog w) A (eval elt env) (fun y s4=>wpAny (model prog w) A (call (.builtin "list.append") [acc,y]) (fun _ s5=>∃ m,m < n/\J m s5) (fun _ _=>False) s4) (fun _ _=>False) s3'
          else ∃ m,m < n/\J m s3') (fun _ _=>False) s3) (fun _ _=>False) s2) (fun _ _=>False) s1) (fun _ _=>False) s)
    (n:Nat) (h:J n s):codeAny (model prog w) A (.compLoop (.ListComp elt [⟨tgt,iter,ifs,0⟩] scope pos) 0 it acc env) R s:=by
  refine codeAny_loop rfl J (fun n' s' hJ=>?_) n h
  show wpAny _ _ ((compTurn (.ListComp elt [⟨tgt,iter,ifs,0⟩] scope pos) 0 it acc env).onRaise (fun z=>do noteFrame z env; theTreesLotGoes z)) _ _ s'
  refine wpAny_noted ?_
  rw [compTurn_list]
  have nope:∀ {α:Type} {t:Sem α} {Q:α->Shared->Prop} {E:Value->Shared->Prop} {q:Shared},wpAny (model prog w) A t Q (fun _ _=>False) q->wpAny (model prog w) A t Q E q:=fun h=>wpAny_mono h (fun _ _ z=>z) fun _ _ z=>z.elim
  refine wpAny_bind (wpAny_standAt (wpAny_bind (wpAny_mono (nope (turn n' s' hJ)) (fun r s1 h1=>?_) fun _ _ z=>z)))
  cases r with
  | none=>exact wpAny_pure h1
  | some v=>
    refine wpAny_bind (wpAny_mono (nope h1) (fun _ s2 h2=>?_) fun _ _ z=>z)
    refine wpAny_bind (wpAny_mono (nope h2) (fun _ s3 h3=>?_) fun _ _ z=>z)
    refine wpAny_bind (wpAny_mono (nope h3) (fun b s4 h4=>?_) fun _ _ z=>z)
    cases b with
    | true=>
      have h4':=(show wpAny _ _ _ _ _ s4 by simpa using h4)
      simp only [if_true]
      refine wpAny_bind (wpAny_bind (wpAny_mono (nope h4') (fun y s5 h5=>?_) fun _ _ z=>z))
      refine wpAny_bind (wpAny_mono (nope h5) (fun _ s6 h6=>?_) fun _ _ z=>z)
      exact wpAny_pure (wpAny_pure ⟨rfl,h6⟩)
    | false=>
      have h4':∃ m,m < n'/\J m s4:=by simpa using h4
      simp only [Bool.false_eq_true,if_false]
      exact wpAny_bind (wpAny_pure (wpAny_pure ⟨rfl,h4'⟩))
section
variable {X:Cx}
theorem pick_get {js:List Nat} {σ:St} {i:Nat} {v:V} (h:(pick js σ)[i]?=some (some v)):∃ j,js[i]?=some j/\σ[j]?=some (some v):=by
  unfold pick at h
  rw [List.getElem?_map] at h
  cases e:js[i]? with
  | none=>rw [e] at h; cases h
  | some j=>
    rw [e] at h
    have h':(σ[j]?).join=some v:=Option.some.inj h
    refine ⟨j,rfl,?_⟩
    cases q:σ[j]? with
    | none=>rw [q] at h'; cases h'
    | some o=>rw [q] at h'; exact congrArg some h'
end
end L2
namespace L2
open PySem PySem.Spec PyProof.Rows
section
variable {X:Cx}
theorem comp_core {elt iter tgt:Expr} {ifs:List Expr} {scope:Scope} {pos:Pos} {cl:List (Str × Addr)} {tgs ns:List Str} {js:List Nat} {wi:TI} {g:TG} {tt:TT} {te:TE} (hc:X.N=X.N)
    (hi:PI X tgt iter wi) (hg:∀ (fp:List Addr) (s:Shared) (H:Hp),PG (cxG X scope cl fp (tgs ++ ns) s H) tgt g) (ht:∀ (fp:List Addr) (s:Shared) (H:Hp),PTs (cxG X scope cl fp (tgs ++ ns) s H) ifs tt)
    (he:∀ (fp:List Addr) (s:Shared) (H:Hp),PE (cxG X scope cl fp (tgs ++ ns) s H) elt te)
    (hclos:closureFor scope X.env=pure cl) (hsub:∀ x c,cl.lookup x=some c->X.env.cells.lookup x=some c)
    (hhas:∀ x,((relabel scope X.env).names.lookup x=some .cell \/ (relabel scope X.env).names.lookup x=some .free) -> ∃ c,cl.lookup x=some c)
    (hjs:js.map (fun j=>X.N[j]?)=ns.map some) (hin:∀ y ∈ ns,(relabel scope X.env).names.lookup y=some .cell \/ (relabel scope X.env).names.lookup y=some .free)
    (hout:∀ y ∈ ns,X.env.kindOf y=some .cell \/ X.env.kindOf y=some .free)
    (hcell:∀ y ∈ scope.names,y.2 ≠ .cell:=by decide +kernel) (hkind:scope.kind=.function:=by rfl)
    (hnames:∀ y ∈ scope.names,y.2=.local->scope.names.lookup y.1=some .local:=by decide +kernel)
    (hs:∀ z,foldedSetIterable iter X.env z=pure z:=by intro _; rfl):
    ∀ (pos0:Pos) (pins:List (Addr × Obj)) (s:Shared) (σ:St) (H:Hp) (Q:VK) (I:Inv X pins σ H s) (h:tCompG wi tgs.length js g tt te σ H Q) (use:Option (Value->Sem Unit)) (R:Value->Shared->Prop)
      (hfin:∀ (D C:Addr) (H':Hp) (s':Shared),Q (.ref D) H'->FpOk X pins H' C->(∃ m,s'.heap.Ns C m)->(∀ h',Heap.SameBut C s'.heap h'->Inv X pins σ H' { s' with heap:=h' })->compPost (model X.prog X.w) X.A X.xe use R (.ref D) C (.ok .next) s'),
      wpAny (model X.prog X.w) X.A (comprehension (.ListComp elt [⟨tgt,iter,ifs,0⟩] scope pos) scope X.env pos0 (newList []) false (eval iter X.env) use) R X.xe s:=by
  intro pos0 pins s σ H Q I h use R hfin
  refine wpAny_comprehension_free (use:=use) rfl hs hclos hkind hnames (thn (hi pins s σ H _ I h) fun v s1 h1=>thn h1 fun itv s2 h2=>?_)
  obtain ⟨it,fp,tn,J,H2,rfl,I2,T,st2,f2,body⟩:=h2
  have hD:H2 s2.heap.objs.size=none:=I2.hok.fresh (Nat.le_refl _)
  obtain ⟨W,⟨m0,w0⟩,step⟩:=body _ hD
  refine wpAny_newObj_type (wpAny_newFunctionEnv hcell (by intro y hy; simp at hy) (fun g1 hns hsb=>?_) hkind) (by size_fits)
  dsimp only at hns hsb ⊢
  have I3:Inv X pins σ (upd H2 s2.heap.objs.size (.lst [])) { s2 with heap:=s2.heap.push { cls:=.type "list",dict:=none,data:=.seq ([]:List Value).toArray } }:=I2.lnew (t':=s2.toks) .nil (by simp)
  generalize hD':s2.heap.objs.size=D at *
  generalize hH3:upd H2 D (.lst [])=H3 at *
  generalize hS3:s2.heap.push { cls:=.type "list",dict:=none,data:=.seq ([]:List Value).toArray }=g3 at *
  have zs:g3.objs.size=D + 1:=by rw [<- hS3,Heap.size_push,hD']
  have f3:∀ b ∈ fp,FpOk X pins H3 b:=fun b hb=>by
    obtain ⟨o,ho,_⟩:=T.obj _ _ st2 b hb
    have lt:=Heap.lt_size ho
    refine ⟨?_,(f2 b hb).2⟩
    rw [<- hH3,a0G (Nat.ne_of_lt (hD' ▸ lt))]
    exact (f2 b hb).1
  have ltf:∀ b ∈ fp,b < g3.objs.size:=fun b hb=>by
    obtain ⟨o,ho,_⟩:=T.obj _ _ st2 b hb
    rw [zs]
    exact Nat.lt_succ_of_lt (hD' ▸ Heap.lt_size ho)
  have kept:∀ b o,g3.get? b=some o->g1.get? b=some o:=fun b o e=>hsb.extBut b o (Nat.ne_of_lt (Heap.lt_size e)) (Heap.get?_push_of_some _ e)
  have cne:∀ x c,cl.lookup x=some c->c ≠ g3.objs.size:=fun x c e=>by
    obtain ⟨v,q⟩:=I3.cell x c (hsub x c e)
    exact Nat.ne_of_lt q.lt
  have ok:(cxG X scope cl fp (tgs ++ ns) { s2 with heap:=g3 } H3).Ok:=by
    refine ⟨I.ok.mod,hkind,I.ok.glob,I.ok.blt,Nat.le_refl _,fun y z c e1 e2=>I.ok.inj y z c (hsub y c e1) (hsub z c e2),fun y hy=>hhas y hy,fun y c e=>(nomatch e),I.ok.hd,I.ok.frames,.inl rfl,
      fun b hb=>⟨Nat.ne_of_lt (ltf b hb),fun y c e=>(f3 b hb).2.2.2.2.1 y c (hsub y c e)⟩,I3.bs,Nat.le_trans I.ok.bsz I3.sz,fun b o e hb=>?_,fun b hb=>?_,I3.stack,I3.stkFree,I.ok.hq⟩
    . rcases (f3 b hb).2.2.2.1 with q | q
      . exact I.ok.noex b o e q
      . exact absurd (Nat.lt_of_lt_of_le (Heap.lt_size (I.ok.bs b o e).1) q) (Nat.lt_irrefl _)
    . intro z
      rcases List.mem_cons.mp (I3.stkSub b z) with q | q
      . exact (f3 b hb).2.1 q
      . exact (f3 b hb).2.2.1 q
  have cells1:∀ x c,cl.lookup x=some c -> ∃ v,g1.IsCell c v:=fun x c e=>by
    obtain ⟨v,o,ho,hd⟩:=I3.cell x c (hsub x c e)
    exact ⟨v,o,kept _ _ ho,hd⟩
  have J4:Inv (cxG X scope cl fp (tgs ++ ns) { s2 with heap:=g3 } H3) [] (List.replicate tgs.length none ++ pick js σ) H3 { s2 with heap:=g1,toks:=s2.toks + ([]:List (Str × Value)).length }:=by
    refine ⟨ok,rfl,I3.bare,Un.kept kept,⟨_,hns,fun i y v e1 e2 e3=>?_⟩,fun y c e=>cells1 y c e,I3.hok.fresh (Nat.le_refl _),fun y c e=>I3.freeC y c (hsub y c e),fun p hp=>absurd (show p ∈ ([]:List (Addr × Obj)) from hp) (by simp),I3.hok.kept kept,?_,I3.mild⟩
    . have hi2:tgs.length<=i:=by
        by_cases hlt:i < tgs.length
        . rw [List.getElem?_append_left (by simpa using hlt),List.getElem?_replicate,if_pos hlt] at e2
          cases e2
        . ac_rfl
      rw [List.getElem?_append_right (by simpa using hi2),List.length_replicate] at e2
      have e1':(tgs ++ ns)[i]?=some y:=e1
      rw [List.getElem?_append_right hi2] at e1'
      obtain ⟨j,hj,hσ⟩:=pick_get e2
      have hNj:X.N[j]?=some y:=by
        have:=congrArg (fun l=>l[i - tgs.length]?) hjs
        simp only [List.getElem?_map,hj,e1',Option.map_some] at this
        exact Option.some.inj this
      have ym:y ∈ ns:=List.mem_of_getElem? e1'
      obtain ⟨m,hm,hl⟩:=I3.loc
      have vis:Vis X.env.scope y:=by
        rcases hout y ym with q | q
        . exact .inr (.inl q)
        . exact .inr (.inr q)
      obtain ⟨u,ru,lk⟩:=hl j y v hNj hσ vis
      refine ⟨u,ru,?_⟩
      rcases lk with ⟨q,_⟩ | ⟨_,c,hc1,hc2⟩
      . rcases hout y ym with z | z
        . rw [z] at q; cases q
        . rw [z] at q; cases q
      . obtain ⟨c',hc'⟩:=hhas y (hin y ym)
        have:=hsub y c' hc'
        rw [hc1] at this
        cases this
        obtain ⟨o,ho,hd⟩:=hc2
        exact .inr ⟨hin y ym,c,hc',o,kept _ _ ho,hd⟩
    . show _=(tgs ++ ns).length
      have:=congrArg List.length hjs
      simp only [List.length_map] at this
      simp [pick,this]
  have st4:tn 0 g1:=T.keep 0 _ _ st2 fun b hb o e=>kept b o (by rw [<- hS3]; exact Heap.get?_push_of_some _ e)
  have fin:∀ (H':Hp) (σ':St) (s':Shared),Inv (cxG X scope cl fp (tgs ++ ns) { s2 with heap:=g3 } H3) [] σ' H' s'->Q (.ref D) H'->compPost (model X.prog X.w) X.A X.xe use R (.ref D) g3.objs.size (.ok .next) s':=by
    intro H' σ' s' K q
    obtain ⟨m,hm,_⟩:=K.loc
    refine hfin D g3.objs.size H' s' q (I3.fpOk (Nat.le_refl _) K.free) ⟨m,hm⟩ fun h' hsb'=>?_
    have ne:∀ b o,g3.get? b=some o->b ≠ g3.objs.size:=fun b o e=>Nat.ne_of_lt (Heap.lt_size e)
    have B:Un (frs X.stack) fp H3 H' g3 s'.heap:=K.base
    refine I3.call' (s':={ s' with heap:=h' }) (ch:=fp) K.os ⟨fun b o e n hb hx=>(hsb'.2 b (ne b o e)).trans (B.keep b o e n hb hx),fun b o e n hb hx=>?_,B.free,fun b o e hx=>?_,B.tups,B.frzs,B.tbls⟩ (fun b u e=>?_) K.bare (fun b hb=>?_)
    . obtain ⟨sl,e1⟩:=B.slot b o e n hb hx
      exact ⟨sl,(hsb'.2 b (ne b o e)).trans e1⟩
    . obtain ⟨o',e1⟩:=B.there b o e hx
      exact ⟨o',(hsb'.2 b (ne b o e)).trans e1⟩
    . have nC:∀ c v,H' c=some v->c ≠ g3.objs.size:=fun c v e z=>by
        have:H' g3.objs.size=none:=K.free
        rw [z,this] at e
        cases e
      refine (K.hok b u e).stay (fun c v hc q=>(hsb'.2 c ?_).trans q) (fun _ q=>q) (fun _ _ q=>q) fun _ _ q=>q
      rcases hc with z | z
      . rw [z]; exact nC b u e
      . exact nC c _ z
    . obtain ⟨_,q1,_,q3,q4,q5⟩:=f3 b hb
      exact ⟨q3,q1,q4,q5⟩
  have loop:codeAny (model X.prog X.w) X.A (.compLoop (.ListComp elt [⟨tgt,iter,ifs,0⟩] scope pos) 0 (.ref it) (.ref D) (compEnvC scope cl g3.objs.size X.env))
      (compPost (model X.prog X.w) X.A X.xe use R (.ref D) g3.objs.size) { s2 with heap:=g1,toks:=s2.toks + ([]:List (Str × Value)).length }:=by
    refine compLoop_anyI (fun n s'=>∃ i acc old H',Inv (cxG X scope cl fp (tgs ++ ns) { s2 with heap:=g3 } H3) [] (old ++ pick js σ) H' s'/\old.length=tgs.length/\tn i s'.heap/\(∀ b ∈ fp,H' b=none)/\H' D=some (.lst acc)/\W i n acc H') ?_ m0
      ⟨0,[],List.replicate tgs.length none,H3,J4,by simp,st4,fun b hb=>(f3 b hb).1,by rw [<- hH3]; exact a0I,w0⟩
    rintro n s' ⟨i,acc,old,H',K,lo,st,fr,hDl,w⟩
    have fpk:∀ {H'':Hp},(∀ b ∈ fp,H'' b=none) -> ∀ b ∈ fp,FpOk (cxG X scope cl fp (tgs ++ ns) { s2 with heap:=g3 } H3) [] H'' b:=fun hn b hb=>
      ⟨hn b hb,Nat.ne_of_lt (ltf b hb),fun z=>ok.exfs b hb z,.inl hb,fun y c e=>(f3 b hb).2.2.2.2.1 y c (hsub y c e),fun p hp=>absurd (show p ∈ ([]:List (Addr × Obj)) from hp) (by simp)⟩
    rcases step i n acc H' w hDl with ⟨stop,q⟩ | ⟨go,next⟩
    . refine thn (T.done (cxG X scope cl fp (tgs ++ ns) { s2 with heap:=g3 } H3) rfl rfl rfl rfl i [] s' _ H' _ K (fpk fr) st stop) fun r s1 ⟨hr,K1⟩=>?_
      subst hr
      exact fin H' _ s1 K1 q
    . refine thn (T.item (cxG X scope cl fp (tgs ++ ns) { s2 with heap:=g3 } H3) rfl rfl rfl rfl i [] s' _ H' _ K (fpk fr) st go) fun r s1 ⟨u,hr,h4⟩=>?_
      subst hr
      refine thn h4 fun _ s5 ⟨y,H5,K5,r5,y5,st5,fr5⟩=>?_
      have K5':=K5.pinned (fpk fr5) (T.obj _ _ st5)
      refine thn (hg fp { s2 with heap:=g3 } H3 _ s5 _ H5 y u _ K5' r5 (next y H5 y5 old lo)) fun _ s6 ⟨σ6,H6,K6,⟨new,hnew,e6⟩,q6⟩=>?_
      subst e6
      refine thn (ht fp { s2 with heap:=g3 } H3 _ s6 _ H6 _ K6 q6) fun b s6' ⟨H6',K6',q6'⟩=>?_
      have again:∀ {s8:Shared} {H8:Hp} {acc':List V} {m':Nat},Inv (cxG X scope cl fp (tgs ++ ns) { s2 with heap:=g3 } H3) ([] ++ pinsAt fp s5.heap) (new ++ pick js σ) H8 s8->H8 D=some (.lst acc')->m' < n->W (i + 1) m' acc' H8 ->
          ∃ m,m < n /\ ∃ i acc old H',Inv (cxG X scope cl fp (tgs ++ ns) { s2 with heap:=g3 } H3) [] (old ++ pick js σ) H' s8/\old.length=tgs.length/\tn i s8.heap/\(∀ b ∈ fp,H' b=none)/\H' D=some (.lst acc)/\W i m acc H':=by
        intro s8 H8 acc' m' K8 h8 hm' w8
        refine ⟨m',hm',i + 1,acc',new,H8,K8.unpinned,hnew,T.keep _ _ _ st5 fun b hb o e=>(K8.pin (b,o) (List.mem_append_right _ (List.mem_append_right _ (a4Q hb e)))).1,fun b hb=>?_,h8,w8⟩
        obtain ⟨o,e,d⟩:=T.obj _ _ st5 b hb
        exact (K8.pin (b,o) (List.mem_append_right _ (List.mem_append_right _ (a4Q hb e)))).2.1
      cases b with
      | true=>
        refine iteT ?_
        rw [if_pos rfl] at q6'
        refine thn (he fp { s2 with heap:=g3 } H3 _ s6' _ H6' _ K6' q6') fun vv s7 ⟨v,H7,K7,r7,hD7,hlen,m',hm',w7⟩=>?_
        refine thn (mt_append (X:=cxG X scope cl fp (tgs ++ ns) { s2 with heap:=g3 } H3) _ s7 _ H7 (.ref D) [v] (.ref D) [vv] (fun _ H8=>H8=upd H7 D (.lst (acc ++ [v]))) K7 rfl (.cons r7 .nil) ⟨D,acc,v,rfl,rfl,hD7,hlen,rfl⟩) fun _ s8 ⟨_,H8,K8,_,e8⟩=>?_
        subst e8
        exact again K8 a0I hm' w7
      | false=>
        refine iteF ?_
        have q6f:H6' D=some (.lst acc) /\ ∃ m',m' < n/\W (i + 1) m' acc H6':=by simpa using q6'
        obtain ⟨hD7,m',hm',w7⟩:=q6f
        exact again K6' hD7 hm' w7
  exact codeAny_compStart_list loop (T.self _ 0 _ _ _ st4 loop)
theorem pe_compG {elt iter tgt:Expr} {ifs:List Expr} {scope:Scope} {pos:Pos} {cl:List (Str × Addr)} {tgs ns:List Str} {js:List Nat} {wi:TI} {g:TG} {tt:TT} {te:TE} (hc:X.N=X.N)
    (hi:PI X tgt iter wi) (hg:∀ (fp:List Addr) (s:Shared) (H:Hp),PG (cxG X scope cl fp (tgs ++ ns) s H) tgt g) (ht:∀ (fp:List Addr) (s:Shared) (H:Hp),PTs (cxG X scope cl fp (tgs ++ ns) s H) ifs tt)
    (he:∀ (fp:List Addr) (s:Shared) (H:Hp),PE (cxG X scope cl fp (tgs ++ ns) s H) elt te)
    (hclos:closureFor scope X.env=pure cl) (hsub:∀ x c,cl.lookup x=some c->X.env.cells.lookup x=some c)
    (hhas:∀ x,((relabel scope X.env).names.lookup x=some .cell \/ (relabel scope X.env).names.lookup x=some .free) -> ∃ c,cl.lookup x=some c)
    (hjs:js.map (fun j=>X.N[j]?)=ns.map some) (hin:∀ y ∈ ns,(relabel scope X.env).names.lookup y=some .cell \/ (relabel scope X.env).names.lookup y=some .free)
    (hout:∀ y ∈ ns,X.env.kindOf y=some .cell \/ X.env.kindOf y=some .free)
    (hcell:∀ y ∈ scope.names,y.2 ≠ .cell:=by decide +kernel) (hkind:scope.kind=.function:=by rfl)
    (hnames:∀ y ∈ scope.names,y.2=.local->scope.names.lookup y.1=some .local:=by decide +kernel)
    (hs:∀ z,foldedSetIterable iter X.env z=pure z:=by intro _; rfl):
    PE X (.ListComp elt [⟨tgt,iter,ifs,0⟩] scope pos) (tCompG wi tgs.length js g tt te):=by
  intro pins s σ H Q I h
  rw [eval_ListComp]
  refine comp_core hc hi hg ht he hclos hsub hhas hjs hin hout hcell hkind hnames hs _ pins s σ H Q I h none _ ?_
  intro D C H' s' q fp hm inv
  obtain ⟨m,hm⟩:=hm
  exact ⟨m,hm,fun h' hs'=>⟨.ref D,H',inv h' hs',rfl,q⟩⟩
theorem ps_compG {y:Str} {py spos:Pos} {iy:Nat} {elt iter tgt:Expr} {ifs:List Expr} {scope:Scope} {pos:Pos} {cl:List (Str × Addr)} {tgs ns:List Str} {js:List Nat} {wi:TI} {g:TG} {tt:TT} {te:TE} (hN:X.N.Nodup) (hi2:X.N[iy]?=some y) (hx2:Loc X.env.scope y) (hc:X.N=X.N)
    (hi:PI X tgt iter wi) (hg:∀ (fp:List Addr) (s:Shared) (H:Hp),PG (cxG X scope cl fp (tgs ++ ns) s H) tgt g) (ht:∀ (fp:List Addr) (s:Shared) (H:Hp),PTs (cxG X scope cl fp (tgs ++ ns) s H) ifs tt)
    (he:∀ (fp:List Addr) (s:Shared) (H:Hp),PE (cxG X scope cl fp (tgs ++ ns) s H) elt te)
    (hclos:closureFor scope X.env=pure cl) (hsub:∀ x c,cl.lookup x=some c->X.env.cells.lookup x=some c)
    (hhas:∀ x,((relabel scope X.env).names.lookup x=some .cell \/ (relabel scope X.env).names.lookup x=some .free) -> ∃ c,cl.lookup x=some c)
    (hjs:js.map (fun j=>X.N[j]?)=ns.map some) (hin:∀ y ∈ ns,(relabel scope X.env).names.lookup y=some .cell \/ (relabel scope X.env).names.lookup y=some .free)
    (hout:∀ y ∈ ns,X.env.kindOf y=some .cell \/ X.env.kindOf y=some .free)
    (hcell:∀ y ∈ scope.names,y.2 ≠ .cell:=by decide +kernel) (hkind:scope.kind=.function:=by rfl)
    (hnames:∀ y ∈ scope.names,y.2=.local->scope.names.lookup y.1=some .local:=by decide +kernel)
    (hs:∀ z,foldedSetIterable iter X.env z=pure z:=by intro _; rfl)
    (hsw:swapsWith (.ListComp elt [⟨tgt,iter,ifs,0⟩] scope pos) (some (.Name y py)) spos.line X.env=pure true:=by rfl) (hf:X.fn y=true \/ X.env.scope.names.lookup y=some .local:=by first | exact .inl rfl | exact .inr rfl | assumption):
    PS X (.Assign [.Name y py] (.ListComp elt [⟨tgt,iter,ifs,0⟩] scope pos) spos) (tAsg (tCompG wi tgs.length js g tt te) (gName iy)):=by
  intro pins s σ H D I h
  rw [exec_Assign_Name_used _ _ _ _ hsw]
  refine wpAny_bind (wpAny_standAt (wpAny_bind ?_))
  show wpAny _ X.A (do let _ <- comprehension (.ListComp elt [⟨tgt,iter,ifs,0⟩] scope pos) scope X.env _ (newList []) false (eval iter X.env) (some (assign (.Name y py) X.env))) _ _ s
  refine wpAny_bind (wpAny_mono (comp_core hc hi hg ht he hclos hsub hhas hjs hin hout hcell hkind hnames hs _ pins s σ H _ I h (some (assign (.Name y py) X.env)) (fun _ s'=>SP X pins D .next s') ?_) (fun _ s' hq=>wpAny_pure (wpAny_pure hq)) fun _ _ e=>e)
  intro E C H' s' q fp ⟨m,hm⟩ inv
  have I1:Inv X pins σ H' s':=inv s'.heap ⟨rfl,fun _ _=>rfl⟩
  show wpAny _ X.A (assign (.Name y py) X.env (.ref E)) _ _ _
  refine wpAny_assign_Name (store_ok2 I1 hN hi2 hx2 (v:=.ref E) rfl (fun s2 I2 hsb=>?_) hf)
  obtain ⟨a,hsb,ha⟩:=hsb
  have aC:a ≠ C:=by
    rcases ha with ha | ha
    . rw [ha]; exact Ne.symm fp.2.1
    . exact fp.2.2.2.2.1 _ _ ha
  refine ⟨m,hm.sameBut hsb (Ne.symm aC),fun h' hs'=>⟨_,H',?_,q⟩⟩
  refine I2.call' (s':={ s2 with heap:=h' }) (ch:=[C]) rfl ⟨fun b o e n hb hx=>?_,fun b o e n hb hx=>?_,fun b o e n hx=>n,fun b o e hx=>?_,fun _ _ e=>e,fun _ _ _ e=>e,fun b ps e=>⟨#[],by simpa using e⟩⟩ ?_ I2.bare ?_
  . exact hs'.extBut b o (by simpa using hx) e
  . exact ⟨o.slots,hs'.extBut b o (by simpa using hx) e⟩
  . exact ⟨o,hs'.extBut b o (by simpa using hx) e⟩
  . have nC:∀ c v,H' c=some v->c ≠ C:=fun c v e z=>by
      rw [z,fp.1] at e
      cases e
    intro b u e
    refine (I2.hok b u e).stay (fun c v hc q=>(hs'.2 c ?_).trans q) (fun _ q=>q) (fun _ _ q=>q) fun _ _ q=>q
    rcases hc with z | z
    . rw [z]; exact nC b u e
    . exact nC c _ z
  . intro b hb
    obtain rfl:b=C:=by simpa using hb
    exact ⟨fp.2.2.2.1,fp.2.1,fp.2.2.2.2.1,fp.2.2.2.2.2⟩
end
end L2
namespace L2
open PySem PySem.Spec PyProof.Rows
section
variable {κ:Type} [DecidableEq κ]
noncomputable def a7X (kvs:List (κ × V)) (k:κ):Option V:=(kvs.find? fun kv=>decide (kv.1=k)).map (·.2)
noncomputable def putK (kvs:List (κ × V)) (k:κ) (v:V):List (κ × V):=
  if (kvs.any fun kv=>decide (kv.1=k))=true then kvs.map (fun kv=>if kv.1=k then (kv.1,v) else kv) else kvs ++ [(k,v)]
theorem a5G {p:κ × V} {r:List (κ × V)} {k:κ} (e:p.1=k):a7X (p :: r) k=some p.2:=by simp [a7X,List.find?_cons,e]
theorem a5H {p:κ × V} {r:List (κ × V)} {k:κ} (e:¬ p.1=k):a7X (p :: r) k=a7X r k:=by simp [a7X,List.find?_cons,e]
theorem valV_any (k:κ):∀ kvs:List (κ × V),(kvs.any fun kv=>decide (kv.1=k))=(a7X kvs k).isSome
  | []=>rfl
  | p :: r=>by
    rw [List.any_cons]
    by_cases e:p.1=k
    . simp only [a5G e,decide_eq_true e,Bool.true_or,Option.isSome_some]
    . rw [a5H e,decide_eq_false e,Bool.false_or]; exact valV_any k r
theorem a4d (kvs:List (κ × V)) (k:κ) (v:V):(putK kvs k v).length<=kvs.length + 1:=by
  unfold putK
  split
  . rw [List.length_map]; ac_rfl
  . rw [List.length_append,List.length_cons,List.length_nil]; ac_rfl
theorem RelO.isSome_eq {o:Option V} {u:Option Value} (r:RelO o u):o.isSome=u.isSome:=by
  cases o with
  | none=>cases u with
    | none=>rfl
    | some _=>exact (show False from r).elim
  | some _=>cases u with
    | none=>exact (show False from r).elim
    | some _=>rfl
theorem KV.val {kvs:List (κ × V)} {vs:List (κ × Value)} (r:KV kvs vs) (k:κ):RelO (a7X kvs k) (valueAt vs k):=by
  unfold KV at r
  induction r with
  | nil=>exact True.intro
  | @cons p q ps qs h t ih=>
    obtain ⟨h1,h2⟩:=h
    by_cases e:p.1=k
    . have e':q.1=k:=h1.symm.trans e
      have b:valueAt (q :: qs) k=some q.2:=by simp [valueAt,List.find?_cons,e']
      rw [a5G e,b]; exact h2
    . have e':¬ q.1=k:=fun z=>e (h1.trans z)
      have b:valueAt (q :: qs) k=valueAt qs k:=by simp [valueAt,List.find?_cons,e']
      rw [a5H e,b]; exact ih
theorem KV.any {kvs:List (κ × V)} {vs:List (κ × Value)} (r:KV kvs vs) (k:κ):(kvs.any fun kv=>decide (kv.1=k))=vs.any fun kv=>decide (kv.1=k):=by
  unfold KV at r
  induction r with
  | nil=>rfl
  | cons h t ih=>rw [List.any_cons,List.any_cons,ih,h.1]
theorem KV.repl {kvs:List (κ × V)} {vs:List (κ × Value)} (r:KV kvs vs) (k:κ) {y:V} {u:Value} (ry:a2z y u):
    KV (kvs.map fun kv=>if kv.1=k then (kv.1,y) else kv) (vs.map fun kv=>if kv.1=k then (kv.1,u) else kv):=by
  unfold KV at r ⊢
  induction r with
  | nil=>exact .nil
  | @cons p q ps qs h t ih=>
    rw [List.map_cons,List.map_cons]
    refine .cons ?_ ih
    obtain ⟨h1,h2⟩:=h
    by_cases e:p.1=k
    . rw [if_pos e,if_pos (h1.symm.trans e)]; exact ⟨h1,ry⟩
    . rw [if_neg e,if_neg (fun z=>e (h1.trans z))]; exact ⟨h1,h2⟩
theorem KV.put {kvs:List (κ × V)} {vs:List (κ × Value)} (r:KV kvs vs) (k:κ) {y:V} {u:Value} (ry:a2z y u):KV (putK kvs k y) (stored vs k u):=by
  unfold putK stored
  rw [r.any k]
  by_cases e:(vs.any fun kv=>decide (kv.1=k))=true
  . rw [if_pos e,if_pos e]; exact r.repl k ry
  . rw [if_neg e,if_neg e]; exact Paired.snoc r ⟨rfl,ry⟩
theorem KV.length {kvs:List (κ × V)} {vs:List (κ × Value)} (r:KV kvs vs):kvs.length=vs.length:=Paired.length r
end
theorem kV_is {P:Program} {w:World} {k:Key} {u:Value} (r:a2z (kV k) u):(a2u P w).is k u=true:=by
  cases k with
  | inl i=>obtain ⟨t,e⟩:=(show ∃ t,u=Value.int i t from r); subst e; exact mixKind_int P w i t
  | inr x=>obtain ⟨t,e⟩:=(show ∃ t,u=Value.str x t from r); subst e; exact mixKind_str P w x t
theorem items_are {P:Program} {w:World}:∀ {ks:List Key} {us:List Value},a1w (ks.map kV) us->ItemsAre (a2u P w) ks us
  | [],_,r=>by rw [List.map_nil] at r; cases r; exact .nil
  | k :: ks,_,r=>by
    rw [List.map_cons] at r
    cases r with
    | cons h t=>exact .cons (kV_is h) (items_are t)
abbrev KT (H:Hp):List (List Key × V)->List (List Key × Addr × Value)->Prop:=Paired fun p q=>p.1=q.1/\H q.2.1=some (.tup (p.1.map kV))/\a2z p.2 q.2.2
theorem KT.val {H:Hp} {kvs:List (List Key × V)} {xs:List (List Key × Addr × Value)} (r:KT H kvs xs) (k:List Key):RelO (a7X kvs k) ((atKey xs k).map (·.2)):=by
  induction r with
  | nil=>exact True.intro
  | @cons p q ps qs h t ih=>
    obtain ⟨h1,_,h2⟩:=h
    by_cases e:p.1=k
    . have e':q.1=k:=h1.symm.trans e
      have b:atKey (q :: qs) k=some q.2:=by simp [atKey,List.find?_cons,e']
      rw [a5G e,b]; exact h2
    . have e':¬ q.1=k:=fun z=>e (h1.trans z)
      have b:atKey (q :: qs) k=atKey qs k:=by simp [atKey,List.find?_cons,e']
      rw [a5H e,b]; exact ih
theorem KT.repl {H:Hp} {kvs:List (List Key × V)} {xs:List (List Key × Addr × Value)} (r:KT H kvs xs) (k:List Key) {y:V} {u:Value} (ry:a2z y u):
    KT H (kvs.map fun kv=>if kv.1=k then (kv.1,y) else kv) (xs.map (putAt k u)):=by
  induction r with
  | nil=>exact .nil
  | @cons p q ps qs h t ih=>
    rw [List.map_cons,List.map_cons]
    refine .cons ?_ ih
    obtain ⟨h1,h2,h3⟩:=h
    unfold putAt
    by_cases e:p.1=k
    . rw [if_pos e,if_pos (h1.symm.trans e)]; exact ⟨h1,h2,ry⟩
    . rw [if_neg e,if_neg (fun z=>e (h1.trans z))]; exact ⟨h1,h2,h3⟩
theorem KT.put {H:Hp} {kvs:List (List Key × V)} {xs:List (List Key × Addr × Value)} (r:KT H kvs xs) (k:List Key) {b:Addr} {y:V} {u:Value} (hb:H b=some (.tup (k.map kV))) (ry:a2z y u):
    KT H (putK kvs k y) (storedH xs k b u):=by
  have e:(kvs.any fun kv=>decide (kv.1=k))=(atKey xs k).isSome:=by
    rw [valV_any,(r.val k).isSome_eq,Option.isSome_map]
  unfold putK storedH
  rw [e]
  by_cases q:(atKey xs k).isSome=true
  . rw [if_pos q,if_pos q]; exact r.repl k ry
  . rw [if_neg q,if_neg q]; exact Paired.snoc r ⟨rfl,hb,ry⟩
theorem KT.keeps {H H':Hp} {kvs:List (List Key × V)} {xs:List (List Key × Addr × Value)} (r:KT H kvs xs) (ht:∀ b ys,H b=some (.tup ys)->H' b=some (.tup ys)):KT H' kvs xs:=
  Paired.mapP r fun _ _ z=>⟨z.1,ht _ _ z.2.1,z.2.2⟩
section
variable {P:Program} {w:World} {H:Hp} {h:Heap} {a:Addr}
theorem rd_of {u:HO} (ok:HOk P w H h) (e:Rd H a u):a2a P w H h a u:=e.ok ok
theorem dk_rd {kvs:List (Key × V)} (ok:HOk P w H h) (e:Rd H a (.dK kvs)):kvs.length<=sizeLine/\(a == sysModules)=false /\ ∃ vs,KV kvs vs/\h.DictOf (a2u P w) a vs:=
  show a2a P w H h a (.dK kvs) from rd_of ok e
theorem dk_of {kvs:List (Key × V)} (ok:HOk P w H h) (e:H a=some (.dK kvs)):kvs.length<=sizeLine/\(a == sysModules)=false /\ ∃ vs,KV kvs vs/\h.DictOf (a2u P w) a vs:=dk_rd ok (.inl e)
theorem key_of {ks:List Key} (ok:HOk P w H h) (e:H a=some (.tup (ks.map kV))):(tupleKind (a2u P w)).is h ks a:=by
  obtain ⟨_,its,r,o,h1,h2,n,h3⟩:=(show a2a P w H h a (.tup (ks.map kV)) from ok a _ e)
  exact ⟨o,its.toArray,n,h1,h2,h3,by simpa using items_are r⟩
theorem dt_rd {ep:Nat} {kvs:List (List Key × V)} (ok:HOk P w H h) (e:Rd H a (.dT ep kvs)):kvs.length<=sizeLine/\(a == sysModules)=false /\
    ∃ xs,KT H kvs xs/\h.DictOfH (tupleKind (a2u P w)) a xs:=by
  obtain ⟨z,y,xs,r,o,es,h1,h2,h3,h4,h5⟩:=(show a2a P w H h a (.dT ep kvs) from rd_of ok e)
  refine ⟨z,y,xs,r,o,es,ep,h1,h2,h3,h4,fun x hx=>?_,h5⟩
  have all:∀ {l:List (List Key × V)} {m:List (List Key × Addr × Value)},KT H l m -> ∀ x ∈ m,(tupleKind (a2u P w)).is h x.1 x.2.1:=by
    intro l m q
    induction q with
    | nil=>intro x hx; exact nomatch hx
    | @cons p q ps qs hq t ih=>
      intro x hx
      rcases List.mem_cons.mp hx with e | hx
      . subst e
        exact key_of ok (by rw [<- hq.1]; exact hq.2.1)
      . exact ih x hx
  exact all r x hx
theorem dt_of {ep:Nat} {kvs:List (List Key × V)} (ok:HOk P w H h) (e:H a=some (.dT ep kvs)):kvs.length<=sizeLine/\(a == sysModules)=false /\
    ∃ xs,KT H kvs xs/\h.DictOfH (tupleKind (a2u P w)) a xs:=dt_rd ok (.inl e)
end
def DGet (H:Hp) (a:Addr) (y:V) (r:Option V):Prop:=
  (∃ kvs k,Rd H a (.dK kvs)/\y=kV k/\r=a7X kvs k) \/ ∃ ep kvs k b,Rd H a (.dT ep kvs)/\y=.ref b/\H b=some (.tup (k.map kV))/\r=a7X kvs k
def DPut (H:Hp) (a:Addr) (y v:V) (R:Hp->Prop):Prop:=
  (∃ kvs k,H a=some (.dK kvs)/\y=kV k/\kvs.length < sizeLine/\R (upd H a (.dK (putK kvs k v)))) \/
  ∃ ep kvs k b,H a=some (.dT ep kvs)/\y=.ref b/\H b=some (.tup (k.map kV))/\kvs.length < sizeLine /\ ∀ ep',R (upd H a (.dT ep' (putK kvs k v)))
theorem DGet.k {H:Hp} {a:Addr} {kvs:List (Key × V)} {k:Key} (e:H a=some (.dK kvs)):DGet H a (kV k) (a7X kvs k):=.inl ⟨kvs,k,.inl e,rfl,rfl⟩
theorem DGet.t {H:Hp} {a b:Addr} {ep:Nat} {kvs:List (List Key × V)} {k:List Key} (e:H a=some (.dT ep kvs)) (eb:H b=some (.tup (k.map kV))):DGet H a (.ref b) (a7X kvs k):=.inr ⟨ep,kvs,k,b,.inl e,rfl,eb,rfl⟩
theorem DPut.t {H:Hp} {a b:Addr} {ep:Nat} {kvs:List (List Key × V)} {k:List Key} {v:V} {R:Hp->Prop} (e:H a=some (.dT ep kvs)) (eb:H b=some (.tup (k.map kV))) (hl:kvs.length < sizeLine) (r:∀ ep',R (upd H a (.dT ep' (putK kvs k v)))):DPut H a (.ref b) v R:=.inr ⟨ep,kvs,k,b,e,rfl,eb,hl,r⟩
section
variable {X:Cx} {pins:List (Addr × Obj)} {σ:St} {H:Hp} {s:Shared} {a:Addr} {y v:V} {u r:Value} {o:Option V} {A:Around} {E:Value->Shared->Prop}
theorem Inv.big (I:Inv X pins σ H s):sysModules < s.heap.objs.size:=by
  have h:mainGlobals < s.heap.objs.size:=(I.mod.glob.keeps I.bk).lt
  exact Nat.lt_trans (by decide) h
theorem d_getItem {Q:Value->Shared->Prop} (hu:A.units + 1 < cLine) (I:Inv X pins σ H s) (g:DGet H a y (some v)) (ry:a2z y u) (h:∀ w' s',Inv X pins σ H s'->a2z v w'->Q w' s'):
    wpAny (model X.prog X.w) A (getItem (.ref a) u) Q E s:=by
  rcases g with ⟨kvs,k,e,ey,l⟩ | ⟨_,kvs,k,b,e,ey,eb,l⟩
  . subst ey
    obtain ⟨z,hd,vs,rel,dd⟩:=dk_rd I.hok e
    obtain ⟨w',hw,rw'⟩:=RelO.some_of (v:=v) (o:=valueAt vs k) (by rw [l]; exact rel.val k)
    exact wpAny_getItem_of (kV_is ry) dd.mapOf hw (h w' _ (I.tok _) rw')
  . subst ey
    cases (show u=Value.ref b from ry)
    obtain ⟨z,hd,xs,rel,dd⟩:=dt_rd I.hok e
    obtain ⟨w',hw,rw'⟩:=RelO.some_of (v:=v) (o:=(atKey xs k).map (·.2)) (by rw [l]; exact rel.val k)
    obtain ⟨p,hp,hp2⟩:=Option.map_eq_some_iff.mp hw
    refine wpAny_getItem_heap (tupleKind_room_in1 hu) (key_of I.hok eb) dd hp ?_
    rw [hp2]
    exact h w' _ (I.tok _) rw'
theorem d_in {Q:Value->Shared->Prop} (hu:A.units + 1 < cLine) (I:Inv X pins σ H s) (g:DGet H a y o) (ry:a2z y u) (h:∀ s',Inv X pins σ H s'->Q (.bool o.isSome) s'):
    wpAny (model X.prog X.w) A (compareOp .In u (.ref a)) Q E s:=by
  rcases g with ⟨kvs,k,e,ey,l⟩ | ⟨_,kvs,k,b,e,ey,eb,l⟩
  . subst ey
    obtain ⟨z,hd,vs,rel,dd⟩:=dk_rd I.hok e
    refine wpAny_in_of (kV_is ry) hd dd.mapOf ?_
    rw [<- (rel.val k).isSome_eq,<- l]
    exact h _ (I.tok _)
  . subst ey
    cases (show u=Value.ref b from ry)
    obtain ⟨z,hd,xs,rel,dd⟩:=dt_rd I.hok e
    refine wpAny_in_heap (tupleKind_room_in1 hu) (key_of I.hok eb) hd dd ?_
    have q:=(rel.val k).isSome_eq
    rw [Option.isSome_map] at q
    rw [<- q,<- l]
    exact h _ (I.tok _)
theorem d_write {h':Heap} {t':Nat} {ob:HO} (I:Inv X pins σ H s) (mu:Mut (H a)) (hs:Heap.SameBut a s.heap h') (he:∃ q,h'.get? a=some q) (new:a2a X.prog X.w (upd H a ob) h' a ob):
    Inv X pins σ (upd H a ob) { s with heap:=h',toks:=t' }:=
  I.write (x:=a) (e:=a) mu (.inl rfl) (fun b q hb z=>(hs.2 b hb).trans z) he new
theorem dk_new {P:Program} {w:World} {H':Hp} {h':Heap} {kvs:List (Key × V)} {vs:List (Key × Value)} (z:kvs.length<=sizeLine) (hd:(a == sysModules)=false) (rel:KV kvs vs) (dd:h'.DictOf (a2u P w) a vs):
    a2a P w H' h' a (.dK kvs):=⟨z,hd,vs,rel,dd⟩
theorem d_setItem {R:Hp->Prop} {Q:Unit->Shared->Prop} (hu:A.units + 1 < cLine) (I:Inv X pins σ H s) (g:DPut H a y v R) (ry:a2z y u) (rv:a2z v r) (h:∀ H' s',R H'->Inv X pins σ H' s'->Q () s'):
    wpAny (model X.prog X.w) A (setItem (.ref a) u r) Q E s:=by
  rcases g with ⟨kvs,k,e,ey,l,eH⟩ | ⟨ep0,kvs,k,b,e,ey,eb,l,eH⟩
  . subst ey
    obtain ⟨z,hd,vs,rel,dd⟩:=dk_of I.hok e
    have hz:vs.length<=sizeLine:=by rw [<- rel.length]; exact z
    have hl:(putK kvs k v).length<=sizeLine:=by have:=a4d kvs k v; ac_rfl
    refine wpAny_setItem_pairs (hsz:=hz) (kV_is ry) dd fun h' dd' hs=>h _ _ eH ?_
    have he:∃ q,h'.get? a=some q:=let ⟨q,_,_,hq,_⟩:=dd'; ⟨q,hq⟩
    exact d_write I (by rw [e]; exact True.intro) hs he (dk_new hl hd (rel.put k rv) dd')
  . subst ey
    cases (show u=Value.ref b from ry)
    obtain ⟨z,hd,xs,rel,dd⟩:=dt_of I.hok e
    have hz:xs.length<=sizeLine:=by rw [<- Paired.length rel]; exact z
    have hl:(putK kvs k v).length<=sizeLine:=by have:=a4d kvs k v; ac_rfl
    refine wpAny_setItem_heap (hsz:=hz) (tupleKind_room_in1 hu) (key_of I.hok eb) dd fun h' dd' hs=>?_
    obtain ⟨q,es,ep,hq,h2,h3,h4,_,h5⟩:=dd'
    refine h _ _ (eH ep) ?_
    refine d_write I (by rw [e]; exact True.intro) hs ⟨q,hq⟩ ⟨hl,hd,_,(rel.put k eb rv).keeps fun c ys ec=>?_,q,es,hq,h2,h3,h4,h5⟩
    rw [a0G (ne_of ec e (fun z=>nomatch z))]
    exact ec
end
section
variable {X:Cx} {pins:List (Addr × Obj)} {σ:St} {H:Hp} {s:Shared} {a:Addr} {kvs:List (Key × V)} {k:Key} {u:Value} {A:Around} {E:Value->Shared->Prop}
theorem d_len {Q:Value->Shared->Prop} (I:Inv X pins σ H s) (e:Rd H a (.dK kvs)) (h:∀ t s',Inv X pins σ H s'->Q (.int kvs.length t) s'):wpAny (model X.prog X.w) A (call (.builtin "len") [.ref a]) Q E s:=by
  obtain ⟨z,hd,vs,rel,dd⟩:=dk_rd I.hok e
  refine call_len_dict hd dd (by rw [<- rel.length]; rw [sizeLine_eq] at z; ac_rfl) ?_
  rw [<- rel.length]
  exact h _ _ (I.tok _)
end
theorem dict_typeIs {X:Cx} {pins:List (Addr × Obj)} {σ:St} {H:Hp} {s:Shared} {a:Addr} {y:V} {o:Option V} (I:Inv X pins σ H s) (g:DGet H a y o):s.TypeIs (.ref a) "dict" := by
  rcases g with ⟨kvs,k,e,_,_⟩ | ⟨_,kvs,k,b,e,_,_,_⟩
  . obtain ⟨_,_,vs,_,dd⟩:=dk_rd I.hok e
    exact dd.typeIs
  . obtain ⟨_,_,xs,_,dd⟩:=dt_rd I.hok e
    exact dd.typeIs
def sDPut (td ty tv:TE):TS:=fun D σ H=>tv σ H fun v H1=>td σ H1 fun x H2=>ty σ H2 fun y H3=>∃ a,x=.ref a/\DPut H3 a y v (D.nx σ)
section
variable {X:Cx} {o i e value:Expr} {pos pos' tpos:Pos} {td ty tv:TE}
theorem ps_dput (hu:X.A.units + 1 < cLine) (ho:PE X o td) (hi:PE X i ty) (hv:PE X value tv) (hs:swapsWith value (some (.Subscript o i pos')) pos.line X.env=pure false):
    PS X (.Assign [.Subscript o i pos'] value pos) (sDPut td ty tv):=by
  intro pins s σ H D I h
  refine wpAny_Assign_Subscript (thn (hv pins s σ H _ I h) fun r s1 ⟨v,H1,I1,rv,q1⟩=>thn (ho pins s1 σ H1 _ I1 q1) fun u s2 ⟨x,H2,I2,rx,q2⟩=>thn (hi pins s2 σ H2 _ I2 q2) fun iv s3 ⟨y,H3,I3,ry,a,ex,g⟩=>?_) hs
  subst ex
  obtain rfl:u=Value.ref a:=rx
  exact d_setItem hu I3 g ry rv fun H4 s4 q3 I4=>⟨σ,H4,I4,q3⟩
end
theorem dt_empty {P:Program} {w:World} {H:Hp} (h:Heap) (hb:sysModules < h.objs.size):a2a P w H (h.push { cls:=.type "dict",data:=.dict #[] }) h.objs.size (.dT 0 []):=
  ⟨Nat.zero_le _,beq_eq_false_iff_ne.mpr (Ne.symm (Nat.ne_of_lt hb)),[],.nil,_,#[],Heap.get?_push_size _ rfl,⟨rfl,rfl,rfl⟩,rfl,rfl,List.nodup_nil⟩
def tDNewT:TE:=fun _ H Q=>∀ p,H p=none->Q (.ref p) (upd H p (.dT 0 []))
section
variable {X:Cx} {pos:Pos}
theorem pe_dnewT:PE X (.Dict [] [] pos) tDNewT:=fun pins s σ H Q I h=>
  wpAny_Dict_empty ⟨.ref s.heap.objs.size,_,I.laid (a:=s.heap.objs.size) (o:=.dT 0 []) (t':=s.toks) (fun _ _ q=>Heap.get?_push_of_some _ q) (Nat.le_refl _) (dt_empty s.heap I.big),rfl,h _ (I.hok.fresh (Nat.le_refl _))⟩
end
def tPairs:List (TE × TE)->St->Hp->(List (V × V)->Hp->Prop)->Prop
  | [],_,H,Q=>Q [] H
  | (tk,tv) :: r,σ,H,Q=>tk σ H fun x H1=>tv σ H1 fun y H2=>tPairs r σ H2 fun ps H3=>Q ((x,y) :: ps) H3
abbrev VV:List (V × V)->List (Value × Value)->Prop:=Paired fun p q=>a2z p.1 q.1/\a2z p.2 q.2
def PPs (X:Cx) (pos:Pos) (keys:List (Option Expr)) (values:List Expr) (trs:List (TE × TE)):Prop:=
  ∀ (pins:List (Addr × Obj)) (s:Shared) (σ:St) (H:Hp) (Q:List (V × V)->Hp->Prop),Inv X pins σ H s->tPairs trs σ H Q ->
    wpAny (model X.prog X.w) X.A (evalPairs (pairTrees keys values X.env pos)) (fun vs s'=>∃ ps H',Inv X pins σ H' s'/\VV ps vs/\Q ps H') X.xe s
theorem pps_nil {X:Cx} {pos:Pos}:PPs X pos [] [] []:=fun pins s σ H Q I h=>pairTrees_nil_walk ⟨[],H,I,.nil,h⟩
theorem a9b {X:Cx} {pos:Pos} {k v:Expr} {ks:List (Option Expr)} {vs:List Expr} {tk tv:TE} {trs:List (TE × TE)} (hk:PE X k tk) (hv:PE X v tv) (hr:PPs X pos ks vs trs):
    PPs X pos (some k :: ks) (v :: vs) ((tk,tv) :: trs):=fun pins s σ H Q I h=>
  pairTrees_cons_walk (thn (hk pins s σ H _ I h) fun u s1 ⟨x,H1,I1,rx,q1⟩=>thn (hv pins s1 σ H1 _ I1 q1) fun w2 s2 ⟨y,H2,I2,ry,q2⟩=>
    thn (hr pins s2 σ H2 _ I2 q2) fun ws s3 ⟨ps,H3,I3,rel,q3⟩=>⟨(x,y) :: ps,H3,I3,.cons ⟨rx,ry⟩ rel,q3⟩)
section
variable {X:Cx} {pins:List (Addr × Obj)} {σ:St} {H:Hp} {s:Shared} {a:Addr} {y d:V} {u r:Value} {o:Option V} {A:Around} {E:Value->Shared->Prop}
end
section
variable {X:Cx} {o e f:Expr} {apos cpos:Pos} {td ty tx:TE}
end
section
variable {X:Cx} {pins:List (Addr × Obj)} {σ:St} {H:Hp} {s:Shared} {a:Addr} {kvs:List (Key × V)} {A:Around} {E:Value->Shared->Prop}
end
section
variable {X:Cx} {pins:List (Addr × Obj)} {σ:St} {H:Hp} {s:Shared} {a:Addr} {y:V} {u:Value} {A:Around} {E:Value->Shared->Prop}
end
end L2
namespace L2
open PySem PySem.Spec PyProof.Rows
section
variable {X:Cx}
theorem call_lenD:a3v X (.builtin "len") (fun xs H Q=>∃ a kvs,xs=[V.ref a]/\H a=some (.dK kvs)/\Q (.int kvs.length) H):=by
  intro pins s σ H xs us Q I r h
  obtain ⟨a,kvs,rfl,ha,q⟩:=h
  obtain ⟨u,rfl,ru⟩:=a4Y r
  cases ru
  exact d_len I (.inl ha) fun t s' I'=>⟨.int kvs.length,H,I',⟨t,rfl⟩,q⟩
end
section
variable {κ:Type} [DecidableEq κ]
end
end L2
namespace L2
open PySem PySem.Spec PyProof.Rows
noncomputable abbrev Tk:=Int × Int × List Int
section
variable {prog:Program} {w:World}
noncomputable def tileHash (k:Tk):Int:=reduceHash (Builtin.Tuple.tupleHashOf [hashInt k.1,hashInt k.2.1,reduceHash (Builtin.Tuple.tupleHashOf (k.2.2.map hashInt))])
variable {A:Around} {E:Value->Shared->Prop} {s:Shared}
end
noncomputable abbrev entN (x:Tk × Addr):DictEntry:=⟨tileHash x.1,.ref x.2,.bool true⟩
def ndict (a:Addr) (xs:List (Tk × Addr)):Heap->Prop:=fun h=>xs.length<=sizeLine/\(a == sysModules)=false /\ ∃ o es ep,h.get? a=some o/\o.ExactDict/\o.data=.dict es ep/\es.toList=xs.map entN/\(xs.map (·.1)).Nodup
noncomputable abbrev HO.dN (a:Addr) (xs:List (Tk × Addr)):HO:=.ext (ndict a xs)
def TileAt (H:Hp) (k:Tk) (b:Addr):Prop:=∃ c,H b=some (.tup [.int k.1,.int k.2.1,.ref c])/\H c=some (.tup (k.2.2.map V.int))
section
variable {P:Program} {w:World} {H:Hp} {h:Heap} {a b:Addr}
end
section
variable {X:Cx} {pins:List (Addr × Obj)} {σ:St} {H:Hp} {s:Shared} {a b:Addr} {xs:List (Tk × Addr)} {k:Tk} {A:Around} {E:Value->Shared->Prop}
end
section
variable {X:Cx} {pos pos':Pos} {o i value:Expr} {td ty tv:TE}
end
end L2
namespace Z
open PySem PySem.Spec PyProof.Rows L2
noncomputable abbrev St:=L2.St
inductive Dv where
 | non
 | bl (b:Bool)
 | int (i:Int)
 | str (x:Str)
 | tup (xs:List Dv)
 | lst (xs:List Dv)
 | dik (kvs:List (Key × Dv))
 | dit (kvs:List (List Key × Dv))
 | obj (C:Addr) (fs:List (Str × Dv))
 | scr (ns:List Int)
 /-- an exception that was caught,of the class at C -/
 | exc (C:Addr) (p:Option Int)
 /-- a dict by tiles whose values are True -/
 | dns (ks:List Tk)
noncomputable def a4Z:Dv->Bool
 | .lst _=>false
 | .dik _=>false
 | .dit _=>false
 | .obj _ _=>false
 | .dns _=>false
 | .tup xs=>flatDs xs
 | _=>true
where flatDs:List Dv->Bool
 | []=>true
 | d :: r=>a4Z d && flatDs r
noncomputable abbrev flatDs:=a4Z.flatDs
def Scr (K:W.Frag) (H:Hp) (a:Addr) (ns:List Int):Prop:=
 (∃ o,H a=some (.frz o (.lst (ns.map V.int)))) \/
  ∃ (o:Obj) (its:Array Value) (n:Nat),K.lookup a=some o/\o.cls=.type "list" /\ o.dict=none/\o.data=.seq its n/\its.size<=sizeLine/\a1w (ns.map V.int) its.toList
theorem Scr.sq {K:W.Frag} {H:Hp} {a:Addr} {ns:List Int} (h:Scr K H a ns):SqL K H a (ns.map V.int):=by
 rcases h with ⟨o,h⟩ | h
 ·exact .inl (.inr ⟨o,h⟩)
 ·exact .inr h
def PayAt (H:Hp):Option Int->Option Addr->Prop
 | none,none=>True
 | some n,some d=>∃ od,H d=some (.frz od (.xd [("step",.int n)]))
 | _,_=>False
theorem PayAt.gen {H H':Hp} (h:∀ a o u,H a=some (.frz o u)->H' a=some (.frz o u)):∀ {p:Option Int} {d:Option Addr},PayAt H p d->PayAt H' p d
 | none,none,z=>z
 | some _,some _,⟨od,z⟩=>⟨od,h _ _ _ z⟩
 | none,some _,z=>z.elim
 | some _,none,z=>z.elim
def ExcAt (H:Hp) (a C:Addr) (p:Option Int):Prop:=∃ o u,H a=some (.frz o u)/\o.cls=.ref C/\PayAt H p o.dict/\Mild o
def NAt (H:Hp) (a:Addr) (ks:List Tk):Prop:=∃ xs,H a=some (.dN a xs)/\ks=xs.map (·.1) /\ ∀ x ∈ xs,TileAt H x.1 x.2
mutual
inductive Rep (K:W.Frag) (M:Addr->Prop) (H:Hp):V->Dv->Prop
 | non:Rep K M H .non .non
 | bl (b:Bool):Rep K M H (.bl b) (.bl b)
 | int (i:Int):Rep K M H (.int i) (.int i)
 | str (x:Str):Rep K M H (.str x) (.str x)
 | tup {a:Addr} {xs:List V} {ds:List Dv}:H a=some (.tup xs)->Reps K M H xs ds->Rep K M H (.ref a) (.tup ds)
 | lst {a:Addr} {xs:List V} {ds:List Dv}:H a=some (.lst xs) -> ¬ M a->Reps K M H xs ds->Rep K M H (.ref a) (.lst ds)
 | dik {a:Addr} {kvs:List (Key × V)} {ds:List (Key × Dv)}:H a=some (.dK kvs) -> ¬ M a->RepK K M H kvs ds->Rep K M H (.ref a) (.dik ds)
 | dit {a:Addr} {ep:Nat} {kvs:List (List Key × V)} {ds:List (List Key × Dv)}:H a=some (.dT ep kvs) -> ¬ M a->RepT K M H kvs ds->Rep K M H (.ref a) (.dit ds)
 | obj {a C dx:Addr} {fs:List (Str × V)} {ds:List (Str × Dv)}:H a=some (.ins C dx fs) -> ¬ M a->RepF K M H fs ds->Rep K M H (.ref a) (.obj C ds)
 | scr {a:Addr} {ns:List Int}:Scr K H a ns->Rep K M H (.ref a) (.scr ns)
 | exc {a C:Addr} {p:Option Int}:ExcAt H a C p->Rep K M H (.ref a) (.exc C p)
 | dns {a:Addr} {ks:List Tk}:NAt H a ks -> ¬ M a->Rep K M H (.ref a) (.dns ks)
inductive Reps (K:W.Frag) (M:Addr->Prop) (H:Hp):List V->List Dv->Prop
 | nil:Reps K M H [] []
 | cons {x:V} {d:Dv} {xs:List V} {ds:List Dv}:Rep K M H x d->Reps K M H xs ds->Reps K M H (x :: xs) (d :: ds)
inductive RepK (K:W.Frag) (M:Addr->Prop) (H:Hp):List (Key × V)->List (Key × Dv)->Prop
 | nil:RepK K M H [] []
 | cons {k:Key} {x:V} {d:Dv} {xs:List (Key × V)} {ds:List (Key × Dv)}:Rep K M H x d->RepK K M H xs ds->RepK K M H ((k,x) :: xs) ((k,d) :: ds)
inductive RepT (K:W.Frag) (M:Addr->Prop) (H:Hp):List (List Key × V)->List (List Key × Dv)->Prop
 | nil:RepT K M H [] []
 | cons {k:List Key} {x:V} {d:Dv} {xs:List (List Key × V)} {ds:List (List Key × Dv)}:Rep K M H x d->RepT K M H xs ds->RepT K M H ((k,x) :: xs) ((k,d) :: ds)
inductive RepF (K:W.Frag) (M:Addr->Prop) (H:Hp):List (Str × V)->List (Str × Dv)->Prop
 | nil:RepF K M H [] []
 | cons {k:Str} {x:V} {d:Dv} {xs:List (Str × V)} {ds:List (Str × Dv)}:Rep K M H x d->RepF K M H xs ds->RepF K M H ((k,x) :: xs) ((k,d) :: ds)
end
structure Gen (K:W.Frag) (M M':Addr->Prop) (H H':Hp):Prop where
 l:∀ a o,H a=some o->Mut (some o) -> ¬ M a->H' a=some o /\ ¬ M' a
 t:∀ a xs,H a=some (.tup xs)->H' a=some (.tup xs)
 s:∀ a ns,Scr K H a ns->Scr K H' a ns
 x:∀ a o u,H a=some (.frz o u)->H' a=some (.frz o u)
section
variable {K:W.Frag} {M M' M'':Addr->Prop} {H H' H'':Hp}
theorem Reps.ind {P:List V->List Dv->Prop} (h0:P [] []) (h1:∀ (x:V) (d:Dv) (xs:List V) (ds:List Dv),Rep K M H x d->Reps K M H xs ds->P xs ds->P (x :: xs) (d :: ds)) {xs:List V} {ds:List Dv} (r:Reps K M H xs ds):P xs ds:=
 Reps.rec (motive_1:=fun _ _ _=>True) (motive_2:=fun xs ds _=>P xs ds) (motive_3:=fun _ _ _=>True) (motive_4:=fun _ _ _=>True) (motive_5:=fun _ _ _=>True) trivial (fun _=>trivial) (fun _=>trivial) (fun _=>trivial) (fun _ _ _=>trivial) (fun _ _ _ _=>trivial) (fun _ _ _ _=>trivial) (fun _ _ _ _=>trivial) (fun _ _ _ _=>trivial) (fun _=>trivial) (fun _=>trivial) (fun _ _=>trivial) h0 (fun a r _ ih=>h1 _ _ _ _ a r ih) trivial (fun _ _ _ _=>trivial) trivial (fun _ _ _ _=>trivial) trivial (fun _ _ _ _=>trivial) r
theorem RepK.ind {P:List (Key × V)->List (Key × Dv)->Prop} (h0:P [] []) (h1:∀ (k:Key) (x:V) (d:Dv) (xs:List (Key × V)) (ds:List (Key × Dv)),Rep K M H x d->RepK K M H xs ds->P xs ds->P ((k,x) :: xs) ((k,d) :: ds)) {xs:List (Key × V)} {ds:List (Key × Dv)} (r:RepK K M H xs ds):P xs ds:=
 RepK.rec (motive_1:=fun _ _ _=>True) (motive_2:=fun _ _ _=>True) (motive_3:=fun xs ds _=>P xs ds) (motive_4:=fun _ _ _=>True) (motive_5:=fun _ _ _=>True) trivial (fun _=>trivial) (fun _=>trivial) (fun _=>trivial) (fun _ _ _=>trivial) (fun _ _ _ _=>trivial) (fun _ _ _ _=>trivial) (fun _ _ _ _=>trivial) (fun _ _ _ _=>trivial) (fun _=>trivial) (fun _=>trivial) (fun _ _=>trivial) trivial (fun _ _ _ _=>trivial) h0 (fun a r _ ih=>h1 _ _ _ _ _ a r ih) trivial (fun _ _ _ _=>trivial) trivial (fun _ _ _ _=>trivial) r
theorem RepT.ind {P:List (List Key × V)->List (List Key × Dv)->Prop} (h0:P [] []) (h1:∀ (k:List Key) (x:V) (d:Dv) (xs:List (List Key × V)) (ds:List (List Key × Dv)),Rep K M H x d->RepT K M H xs ds->P xs ds->P ((k,x) :: xs) ((k,d) :: ds)) {xs:List (List Key × V)} {ds:List (List Key × Dv)} (r:RepT K M H xs ds):P xs ds:=
 RepT.rec (motive_1:=fun _ _ _=>True) (motive_2:=fun _ _ _=>True) (motive_3:=fun _ _ _=>True) (motive_4:=fun xs ds _=>P xs ds) (motive_5:=fun _ _ _=>True) trivial (fun _=>trivial) (fun _=>trivial) (fun _=>trivial) (fun _ _ _=>trivial) (fun _ _ _ _=>trivial) (fun _ _ _ _=>trivial) (fun _ _ _ _=>trivial) (fun _ _ _ _=>trivial) (fun _=>trivial) (fun _=>trivial) (fun _ _=>trivial) trivial (fun _ _ _ _=>trivial) trivial (fun _ _ _ _=>trivial) h0 (fun a r _ ih=>h1 _ _ _ _ _ a r ih) trivial (fun _ _ _ _=>trivial) r
theorem RepF.ind {P:List (Str × V)->List (Str × Dv)->Prop} (h0:P [] []) (h1:∀ (k:Str) (x:V) (d:Dv) (xs:List (Str × V)) (ds:List (Str × Dv)),Rep K M H x d->RepF K M H xs ds->P xs ds->P ((k,x) :: xs) ((k,d) :: ds)) {xs:List (Str × V)} {ds:List (Str × Dv)} (r:RepF K M H xs ds):P xs ds:=
 RepF.rec (motive_1:=fun _ _ _=>True) (motive_2:=fun _ _ _=>True) (motive_3:=fun _ _ _=>True) (motive_4:=fun _ _ _=>True) (motive_5:=fun xs ds _=>P xs ds) trivial (fun _=>trivial) (fun _=>trivial) (fun _=>trivial) (fun _ _ _=>trivial) (fun _ _ _ _=>trivial) (fun _ _ _ _=>trivial) (fun _ _ _ _=>trivial) (fun _ _ _ _=>trivial) (fun _=>trivial) (fun _=>trivial) (fun _ _=>trivial) trivial (fun _ _ _ _=>trivial) trivial (fun _ _ _ _=>trivial) trivial (fun _ _ _ _=>trivial) h0 (fun a r _ ih=>h1 _ _ _ _ _ a r ih) r
theorem _root_.L2.TileAt.gen {k:Tk} {b:Addr} (t:TileAt H k b) (ht:∀ a xs,H a=some (.tup xs)->H' a=some (.tup xs)):TileAt H' k b:=let ⟨c,e1,e2⟩:=t; ⟨c,ht _ _ e1,ht _ _ e2⟩
theorem Rep.gen (G:Gen K M M' H H') {x:V} {d:Dv} (r:Rep K M H x d):Rep K M' H' x d:=
 Rep.rec (motive_1:=fun x d _=>Rep K M' H' x d) (motive_2:=fun xs ds _=>Reps K M' H' xs ds) (motive_3:=fun xs ds _=>RepK K M' H' xs ds) (motive_4:=fun xs ds _=>RepT K M' H' xs ds) (motive_5:=fun xs ds _=>RepF K M' H' xs ds)
  .non .bl .int .str (fun h _ r=>.tup (G.t _ _ h) r) (fun h m _ r=>.lst (G.l _ _ h trivial m).1 (G.l _ _ h trivial m).2 r) (fun h m _ r=>.dik (G.l _ _ h trivial m).1 (G.l _ _ h trivial m).2 r) (fun h m _ r=>.dit (G.l _ _ h trivial m).1 (G.l _ _ h trivial m).2 r)
  (fun h m _ r=>.obj (G.l _ _ h trivial m).1 (G.l _ _ h trivial m).2 r) (fun h=>.scr (G.s _ _ h)) (fun ⟨o,u,h,z,y,m⟩=>.exc ⟨o,u,G.x _ _ _ h,z,y.gen G.x,m⟩) (fun ⟨xs,h,e,t⟩ m=>.dns ⟨xs,(G.l _ _ h trivial m).1,e,fun x hx=>(t x hx).gen G.t⟩ (G.l _ _ h trivial m).2) .nil (fun _ _ a r=>.cons a r) .nil (fun _ _ a r=>.cons a r) .nil (fun _ _ a r=>.cons a r) .nil (fun _ _ a r=>.cons a r) r
theorem Reps.gen (G:Gen K M M' H H') {xs:List V} {ds:List Dv} (r:Reps K M H xs ds):Reps K M' H' xs ds:=r.ind .nil fun _ _ _ _ a _ ih=>.cons (a.gen G) ih
theorem RepK.gen (G:Gen K M M' H H') {xs:List (Key × V)} {ds:List (Key × Dv)} (r:RepK K M H xs ds):RepK K M' H' xs ds:=r.ind .nil fun _ _ _ _ _ a _ ih=>.cons (a.gen G) ih
theorem RepT.gen (G:Gen K M M' H H') {xs:List (List Key × V)} {ds:List (List Key × Dv)} (r:RepT K M H xs ds):RepT K M' H' xs ds:=r.ind .nil fun _ _ _ _ _ a _ ih=>.cons (a.gen G) ih
theorem RepF.gen (G:Gen K M M' H H') {xs:List (Str × V)} {ds:List (Str × Dv)} (r:RepF K M H xs ds):RepF K M' H' xs ds:=r.ind .nil fun _ _ _ _ _ a _ ih=>.cons (a.gen G) ih
theorem a0F.scr (S:a0F H H') {a:Addr} {ns:List Int} (h:Scr K H a ns):Scr K H' a ns:=by
 rcases h with ⟨o,h⟩ | h
 ·exact .inl ⟨o,S _ _ h⟩
 ·exact .inr h
theorem Gen.mono (S:a0F H H'):Gen K M M H H':=⟨fun a o h _ m=>⟨S _ _ h,m⟩,fun _ _ h=>S _ _ h,fun _ _ h=>a0F.scr S h,fun _ _ _ h=>S _ _ h⟩
theorem Gen.weak (h:∀ a,M' a->M a):Gen K M M' H H:=⟨fun a o e _ m=>⟨e,fun z=>m (h a z)⟩,fun _ _ h=>h,fun _ _ h=>h,fun _ _ _ h=>h⟩
theorem Gen.fresh {p:Addr} (hp:H p=none):Gen K M (fun b=>M b \/ b=p) H H:=
 ⟨fun a o e _ m=>⟨e,fun z=>z.elim m fun z=>by rw [z,hp] at e; cases e⟩,fun _ _ h=>h,fun _ _ h=>h,fun _ _ _ h=>h⟩
theorem Gen.trans (a:Gen K M M' H H') (b:Gen K M' M'' H' H''):Gen K M M'' H H'':=
 ⟨fun c o e mu m=>b.l c o (a.l c o e mu m).1 mu (a.l c o e mu m).2,fun c xs h=>b.t c xs (a.t c xs h),fun c ns h=>b.s c ns (a.s c ns h),fun c o u h=>b.x c o u (a.x c o u h)⟩
theorem mut_ne {p a:Addr} {u:HO} (mu:Mut (H p)) (e:H a=some u) (n:¬ Mut (some u)):a ≠ p:=fun z=>by
 subst z
 rw [e] at mu
 exact n mu
theorem Gen.write {p:Addr} {o:HO} (hM:M p) (mu:Mut (H p)):Gen K M M H (upd H p o):=by
 refine ⟨fun a u e _ m=>⟨?_,m⟩,fun a xs h=>?_,fun a ns h=>?_,fun a o u h=>by rw [a0G (mut_ne mu h fun z=>z)]; exact h⟩
 ·rw [a0G fun z=>m (by rw [z]; exact hM)]
  exact e
 ·rw [a0G (mut_ne mu h fun z=>z)]
  exact h
 ·rcases h with ⟨u,h⟩ | h
  ·exact .inl ⟨u,by rw [a0G (mut_ne mu h fun z=>z)]; exact h⟩
  ·exact .inr h
end
section
variable {K:W.Frag} {M M':Addr->Prop} {H H':Hp}
theorem Rep.mono {x:V} {d:Dv} (S:a0F H H') (h:Rep K M H x d):Rep K M H' x d:=h.gen (.mono S)
theorem Rep.weak {x:V} {d:Dv} (w:∀ a,M' a->M a) (h:Rep K M H x d):Rep K M' H x d:=h.gen (.weak w)
theorem Reps.mono {xs:List V} {ds:List Dv} (S:a0F H H') (h:Reps K M H xs ds):Reps K M H' xs ds:=h.gen (.mono S)
theorem Reps.weak {xs:List V} {ds:List Dv} (w:∀ a,M' a->M a) (h:Reps K M H xs ds):Reps K M' H xs ds:=h.gen (.weak w)
theorem a1X {d:Dv} {ds:List Dv} (f:flatDs (d :: ds)=true):a4Z d=true/\flatDs ds=true:=by
 have f':(a4Z d && flatDs ds)=true:=f
 rwa [Bool.and_eq_true] at f'
theorem Rep.flat {x:V} {d:Dv} (f:a4Z d=true) (r:Rep K M H x d):Rep K M' H x d:=
 Rep.rec (motive_1:=fun x d _=>a4Z d=true->Rep K M' H x d) (motive_2:=fun xs ds _=>flatDs ds=true->Reps K M' H xs ds) (motive_3:=fun _ _ _=>True) (motive_4:=fun _ _ _=>True) (motive_5:=fun _ _ _=>True)
  (fun _=>.non) (fun b _=>.bl b) (fun i _=>.int i) (fun x _=>.str x) (fun h _ ih f=>.tup h (ih (by rw [a4Z] at f; exact f))) (fun _ _ _ _ f=>by simp [a4Z] at f) (fun _ _ _ _ f=>by simp [a4Z] at f) (fun _ _ _ _ f=>by simp [a4Z] at f)
  (fun _ _ _ _ f=>by simp [a4Z] at f) (fun h _=>.scr h) (fun h _=>.exc h) (fun _ _ f=>by simp [a4Z] at f) (fun _=>.nil) (fun _ _ a r f=>.cons (a (a1X f).1) (r (a1X f).2)) trivial (fun _ _ _ _=>trivial) trivial (fun _ _ _ _=>trivial) trivial (fun _ _ _ _=>trivial) r f
theorem Reps.flat {xs:List V} {ds:List Dv} (f:flatDs ds=true) (r:Reps K M H xs ds):Reps K M' H xs ds:=
 r.ind (P:=fun xs ds=>flatDs ds=true->Reps K M' H xs ds) (fun _=>.nil) (fun _ _ _ _ a _ ih f=>.cons (a.flat (a1X f).1) (ih (a1X f).2)) f
theorem RepF.flat {xs:List (Str × V)} {ds:List (Str × Dv)} (f:flatDs (ds.map (·.2))=true) (r:RepF K M H xs ds):RepF K M' H xs ds:=
 r.ind (P:=fun xs ds=>flatDs (ds.map (·.2))=true->RepF K M' H xs ds) (fun _=>.nil) (fun _ _ _ _ _ a _ ih f=>.cons (a.flat (a1X f).1) (ih (a1X f).2)) f
theorem RepK.flat {xs:List (Key × V)} {ds:List (Key × Dv)} (f:flatDs (ds.map (·.2))=true) (r:RepK K M H xs ds):RepK K M' H xs ds:=
 r.ind (P:=fun xs ds=>flatDs (ds.map (·.2))=true->RepK K M' H xs ds) (fun _=>.nil) (fun _ _ _ _ _ a _ ih f=>.cons (a.flat (a1X f).1) (ih (a1X f).2)) f
theorem RepT.flat {xs:List (List Key × V)} {ds:List (List Key × Dv)} (f:flatDs (ds.map (·.2))=true) (r:RepT K M H xs ds):RepT K M' H xs ds:=
 r.ind (P:=fun xs ds=>flatDs (ds.map (·.2))=true->RepT K M' H xs ds) (fun _=>.nil) (fun _ _ _ _ _ a _ ih f=>.cons (a.flat (a1X f).1) (ih (a1X f).2)) f
theorem Reps.length {xs:List V} {ds:List Dv} (r:Reps K M H xs ds):xs.length=ds.length:=r.ind (P:=fun xs ds=>xs.length=ds.length) rfl fun _ _ _ _ _ _ ih=>congrArg (· + 1) ih
theorem Reps.append {xs ys:List V} {ds es:List Dv} (r:Reps K M H xs ds) (s:Reps K M H ys es):Reps K M H (xs ++ ys) (ds ++ es):=r.ind (P:=fun xs ds=>Reps K M H (xs ++ ys) (ds ++ es)) s fun _ _ _ _ a _ ih=>.cons a ih
theorem Reps.get {xs:List V} {ds:List Dv} {i:Nat} {d:Dv} (r:Reps K M H xs ds) (e:ds[i]?=some d):∃ x,xs[i]?=some x/\Rep K M H x d:=
 r.ind (P:=fun xs ds=>∀ i,ds[i]?=some d -> ∃ x,xs[i]?=some x/\Rep K M H x d) (fun i e=>by rw [List.getElem?_nil] at e; cases e) (fun x y xs ys a _ ih i e=>by
  cases i with
  | zero=>rw [List.getElem?_cons_zero] at e; cases e; exact ⟨x,rfl,a⟩
  | succ i=>exact ih i e) i e
theorem Reps.take {xs:List V} {ds:List Dv} (n:Nat) (r:Reps K M H xs ds):Reps K M H (xs.take n) (ds.take n):=
 r.ind (P:=fun xs ds=>∀ n,Reps K M H (xs.take n) (ds.take n)) (fun n=>by cases n <;> exact .nil) (fun _ _ _ _ a r ih n=>by cases n with
  | zero=>exact .nil
  | succ n=>exact .cons a (ih n)) n
theorem Reps.drop {xs:List V} {ds:List Dv} (n:Nat) (r:Reps K M H xs ds):Reps K M H (xs.drop n) (ds.drop n):=
 r.ind (P:=fun xs ds=>∀ n,Reps K M H (xs.drop n) (ds.drop n)) (fun n=>by cases n <;> exact .nil) (fun _ _ _ _ a r ih n=>by cases n with
  | zero=>exact .cons a r
  | succ n=>exact ih n) n
theorem Reps.erase:∀ {xs:List V} {ds:List Dv} (n:Nat),Reps K M H xs ds->Reps K M H (xs.eraseIdx n) (ds.eraseIdx n)
 | _,_,_,.nil=>by simpa using Reps.nil
 | _,_,0,.cons _ r=>r
 | _,_,n + 1,.cons b r=>.cons b (Reps.erase n r)
theorem Reps.repl {xs:List V} {ds:List Dv} (h:Reps K M H xs ds):∀ n:Nat,Reps K M H (List.replicate n xs).flatten (List.replicate n ds).flatten
 | 0=>.nil
 | n + 1=>by
  rw [List.replicate_succ,List.replicate_succ,List.flatten_cons,List.flatten_cons]
  exact h.append (Reps.repl h n)
theorem Reps.ints:∀ ns:List Int,Reps K M H (ns.map V.int) (ns.map Dv.int)
 | []=>.nil
 | n :: r=>.cons (.int n) (Reps.ints r)
end
def a3a (K:W.Frag) (M:Addr->Prop) (H:Hp) (a:Addr):Dv->Prop
 | .lst ds=>∃ xs,H a=some (.lst xs)/\Reps K M H xs ds
 | .dik ds=>∃ kvs,H a=some (.dK kvs)/\RepK K M H kvs ds
 | .dit ds=>∃ ep kvs,H a=some (.dT ep kvs)/\RepT K M H kvs ds
 | .obj C ds=>∃ dx fs,H a=some (.ins C dx fs)/\RepF K M H fs ds
 | .dns ks=>NAt H a ks
 | _=>False
noncomputable def flatO:Dv->Bool
 | .lst ds=>flatDs ds
 | .dik ds=>flatDs (ds.map (·.2))
 | .dit ds=>flatDs (ds.map (·.2))
 | .obj _ ds=>flatDs (ds.map (·.2))
 | .dns _=>true
 | _=>false
section
variable {K:W.Frag} {M M':Addr->Prop} {H H':Hp} {a:Addr}
theorem a3a.gen {d:Dv} (G:Gen K M M' H H') (ha:∀ o,H a=some o->H' a=some o) (h:a3a K M H a d):a3a K M' H' a d:=by
 cases d with
 | lst ds=>obtain ⟨xs,e,r⟩:=h; exact ⟨xs,ha _ e,r.gen G⟩
 | dik ds=>obtain ⟨xs,e,r⟩:=h; exact ⟨xs,ha _ e,r.gen G⟩
 | dit ds=>obtain ⟨ep,xs,e,r⟩:=h; exact ⟨ep,xs,ha _ e,r.gen G⟩
 | obj C ds=>obtain ⟨dx,fs,e,r⟩:=h; exact ⟨dx,fs,ha _ e,r.gen G⟩
 | dns ks=>obtain ⟨xs,e,k,t⟩:=h; exact ⟨xs,ha _ e,k,fun x hx=>(t x hx).gen G.t⟩
 | _=>exact h.elim
theorem a3a.mono {d:Dv} (S:a0F H H') (h:a3a K M H a d):a3a K M H' a d:=h.gen (.mono S) fun o e=>S _ _ e
theorem a3a.weak {d:Dv} (w:∀ a,M' a->M a) (h:a3a K M H a d):a3a K M' H a d:=h.gen (.weak w) fun _ e=>e
theorem a3a.flat {d:Dv} (f:flatO d=true) (h:a3a K M H a d):a3a K M' H a d:=by
 cases d with
 | lst ds=>obtain ⟨xs,e,r⟩:=h; exact ⟨xs,e,r.flat f⟩
 | dik ds=>obtain ⟨xs,e,r⟩:=h; exact ⟨xs,e,r.flat f⟩
 | dit ds=>obtain ⟨ep,xs,e,r⟩:=h; exact ⟨ep,xs,e,r.flat f⟩
 | obj C ds=>obtain ⟨dx,fs,e,r⟩:=h; exact ⟨dx,fs,e,r.flat f⟩
 | dns ks=>exact h
 | _=>exact h.elim
theorem a3a.mut {d:Dv} (h:a3a K M H a d):∃ o,H a=some o/\Mut (some o):=by
 cases d with
 | lst ds=>obtain ⟨xs,e,r⟩:=h; exact ⟨_,e,trivial⟩
 | dik ds=>obtain ⟨xs,e,r⟩:=h; exact ⟨_,e,trivial⟩
 | dit ds=>obtain ⟨ep,xs,e,r⟩:=h; exact ⟨_,e,trivial⟩
 | obj C ds=>obtain ⟨dx,fs,e,r⟩:=h; exact ⟨_,e,trivial⟩
 | dns ks=>obtain ⟨xs,e,_⟩:=h; exact ⟨_,e,trivial⟩
 | _=>exact h.elim
theorem a3a.rep {d:Dv} (h:a3a K M H a d) (m:¬ M a):Rep K M H (.ref a) d:=by
 cases d with
 | lst ds=>obtain ⟨xs,e,r⟩:=h; exact .lst e m r
 | dik ds=>obtain ⟨xs,e,r⟩:=h; exact .dik e m r
 | dit ds=>obtain ⟨ep,xs,e,r⟩:=h; exact .dit e m r
 | obj C ds=>obtain ⟨dx,fs,e,r⟩:=h; exact .obj e m r
 | dns ks=>exact .dns h m
 | _=>exact h.elim
end
inductive Sl where
 | un
 | v (d:Dv)
 | own (a:Addr) (d:Dv)
def MM (F:Addr->Prop) (ρ:List Sl):Addr->Prop:=fun a=>F a \/ ∃ d,Sl.own a d ∈ ρ
def SlOk (K:W.Frag) (M:Addr->Prop) (H:Hp) (o:Option (Option V)):Sl->Prop
 | .un=>True
 | .v d=>∃ x,o=some (some x)/\Rep K M H x d
 | .own a d=>o=some (some (.ref a))/\a3a K M H a d
noncomputable abbrev lamOn:Bool:=false
def LamTab (K:W.Frag) (P:Addr) (q:Str):Prop:=lamOn=true /\ ∃ (C f:Addr) (o:Value) (od:Option Addr) (fd:FuncData) (sl:Array (Option Value)) (c:Addr) (oc:Value) (odc:Option Addr) (vs:Array Value) (slc:Array (Option Value)),
 W.nsIn K mainGlobals "Sides" = some (some (.ref C))/\W.findIn K (.ref C) "last" = some (some (.ref f))/\K.lookup f=some ⟨o,od,.func fd,sl⟩/\fd.code=.ref c/\K.lookup c=some ⟨oc,odc,.fields vs,slc⟩/\vs[11]?=some (.ref P) /\
 q = "Sides.last" ++ ".<locals>." ++ "<lambda>"
def TabOk (K:W.Frag) (H:Hp):Prop:=∀ P q,LamTab K P q->H P=some (.lam q)
structure OldF (K:W.Frag) (F:Addr->Prop) (HZ:Hp):Prop where
 f:∀ a,F a->HZ a ≠ none
 t:TabOk K HZ
theorem TabOk.mono {K:W.Frag} {H H':Hp} (t:TabOk K H) (S:a0F H H'):TabOk K H':=fun P q z=>S _ _ (t P q z)
structure Fr (K:W.Frag) (HZ:Hp) (F:Addr->Prop) (σ:St) (H:Hp) (ρ:List Sl):Prop where
 len:σ.length=ρ.length
 sl:∀ (i:Nat) (s:Sl),ρ[i]?=some s->SlOk K (MM F ρ) H σ[i]? s
 nd:∀ (i j:Nat) (a:Addr) (d d':Dv),ρ[i]?=some (.own a d)->ρ[j]?=some (.own a d')->i=j
 new:∀ (a:Addr) (d:Dv),Sl.own a d ∈ ρ->HZ a=none
 same:a0F HZ H
 old:OldF K F HZ
section
variable {K:W.Frag} {M M':Addr->Prop} {HZ H H':Hp} {F:Addr->Prop} {σ:St} {ρ:List Sl}
theorem SlOk.mono {o:Option (Option V)} {s:Sl} (S:a0F H H') (h:SlOk K M H o s):SlOk K M H' o s:=by
 cases s with
 | un=>trivial
 | v d=>obtain ⟨x,e,r⟩:=h; exact ⟨x,e,r.mono S⟩
 | own a d=>exact ⟨h.1,h.2.mono S⟩
theorem SlOk.weak {o:Option (Option V)} {s:Sl} (w:∀ a,M' a->M a) (h:SlOk K M H o s):SlOk K M' H o s:=by
 cases s with
 | un=>trivial
 | v d=>obtain ⟨x,e,r⟩:=h; exact ⟨x,e,r.weak w⟩
 | own a d=>exact ⟨h.1,h.2.weak w⟩
theorem Fr.tab (fr:Fr K HZ F σ H ρ):TabOk K H:=fr.old.t.mono fr.same
theorem Fr.mono (fr:Fr K HZ F σ H ρ) (S:a0F H H'):Fr K HZ F σ H' ρ:=⟨fr.len,fun i s e=>(fr.sl i s e).mono S,fr.nd,fr.new,fr.same.trans S,fr.old⟩
theorem Fr.at_own (fr:Fr K HZ F σ H ρ) {a:Addr} {d:Dv} (h:Sl.own a d ∈ ρ):∃ i:Nat,ρ[i]?=some (.own a d)/\σ[i]?=some (some (.ref a))/\a3a K (MM F ρ) H a d:=by
 obtain ⟨i,e⟩:=List.mem_iff_getElem?.mp h
 have:=fr.sl i _ e
 exact ⟨i,e,this.1,this.2⟩
theorem Fr.dom (fr:Fr K HZ F σ H ρ) {a:Addr} (m:MM F ρ a):H a ≠ none:=by
 rcases m with m | ⟨d,m⟩
 ·intro e
  exact fr.old.f a m (fr.same.free e)
 ·obtain ⟨_,_,_,o⟩:=fr.at_own m
  obtain ⟨u,e,_⟩:=o.mut
  rw [e]
  simp
theorem Fr.fresh (fr:Fr K HZ F σ H ρ) {a:Addr} (e:H a=none):¬ MM F ρ a:=fun m=>fr.dom m e
end
inductive R where
 | v (d:Dv)
 | ow (a:Addr) (d:Dv)
 | nw (d:Dv)
noncomputable def R.d:R->Dv
 | .v d=>d
 | .ow _ d=>d
 | .nw d=>d
noncomputable def R.free:R->Bool
 | .ow _ _=>false
 | _=>true
def Own (ρ:List Sl):Addr->Dv->Prop:=fun a d=>Sl.own a d ∈ ρ
def NoOwn:Addr->Dv->Prop:=fun _ _=>False
def a3L (K:W.Frag) (M:Addr->Prop) (O:Addr->Dv->Prop) (H:Hp) (x:V) (r:R) (H':Hp):Prop:=match r with
 | .v d=>Rep K M H' x d
 | .ow a d=>x=.ref a/\O a d/\a3a K M H' a d
 | .nw d=>∃ a,x=.ref a/\H a=none/\a3a K (fun b=>M b \/ b=a) H' a d
def a3C (K:W.Frag) (M:Addr->Prop) (H:Hp) (x:V) (d:Dv):Prop:=Rep K M H x d \/ ∃ a,x=.ref a/\a3a K M H a d
section
variable {K:W.Frag} {M M':Addr->Prop} {O:Addr->Dv->Prop} {H H' H'':Hp} {x:V} {r:R}
theorem a3L.mono (h:a3L K M O H x r H') (S:a0F H' H''):a3L K M O H x r H'':=by
 cases r with
 | v d=>exact Rep.mono S h
 | ow a d=>exact ⟨h.1,h.2.1,h.2.2.mono S⟩
 | nw d=>obtain ⟨a,e,n,o⟩:=h; exact ⟨a,e,n,o.mono S⟩
theorem a3L.ahead {H1:Hp} (h:a3L K M O H1 x r H') (S:a0F H H1):a3L K M O H x r H':=by
 cases r with
 | v d=>exact h
 | ow a d=>exact h
 | nw d=>obtain ⟨a,e,n,o⟩:=h; exact ⟨a,e,S.free n,o⟩
theorem a3L.c (h:a3L K M O H x r H'):a3C K M H' x r.d:=by
 cases r with
 | v d=>exact .inl h
 | ow a d=>exact .inr ⟨a,h.1,h.2.2⟩
 | nw d=>obtain ⟨a,e,n,o⟩:=h; exact .inr ⟨a,e,o.weak fun b z=>.inl z⟩
theorem a3L.rep (h:a3L K M O H x r H') (hM:∀ a,M a->H a ≠ none) (f:r.free=true):Rep K M H' x r.d:=by
 cases r with
 | v d=>exact h
 | ow a d=>simp [R.free] at f
 | nw d=>
  obtain ⟨a,e,n,o⟩:=h
  subst e
  exact (o.weak fun b z=>.inl z).rep fun z=>hM a z n
theorem a3C.lst {ds:List Dv} (h:a3C K M H x (.lst ds)):∃ a xs,x=.ref a/\H a=some (.lst xs)/\Reps K M H xs ds:=by
 rcases h with h | ⟨a,e,xs,h1,h2⟩
 ·cases h with
  | lst h1 _ h2=>exact ⟨_,_,rfl,h1,h2⟩
 ·exact ⟨a,xs,e,h1,h2⟩
theorem a3C.tup {ds:List Dv} (h:a3C K M H x (.tup ds)):∃ a xs,x=.ref a/\H a=some (.tup xs)/\Reps K M H xs ds:=by
 rcases h with h | ⟨a,e,o⟩
 ·cases h with
  | tup h1 h2=>exact ⟨_,_,rfl,h1,h2⟩
 ·exact o.elim
theorem a3C.int {i:Int} (h:a3C K M H x (.int i)):x=.int i:=by
 rcases h with h | ⟨a,e,o⟩
 ·cases h; rfl
 ·exact o.elim
theorem a3C.bl {b:Bool} (h:a3C K M H x (.bl b)):x=.bl b:=by
 rcases h with h | ⟨a,e,o⟩
 ·cases h; rfl
 ·exact o.elim
theorem a3C.non (h:a3C K M H x .non):x=.non:=by
 rcases h with h | ⟨a,e,o⟩
 ·cases h; rfl
 ·exact o.elim
theorem a3C.str {s:Str} (h:a3C K M H x (.str s)):x=.str s:=by
 rcases h with h | ⟨a,e,o⟩
 ·cases h; rfl
 ·exact o.elim
theorem a3C.scr {ns:List Int} (h:a3C K M H x (.scr ns)):∃ a,x=.ref a/\Scr K H a ns:=by
 rcases h with h | ⟨a,e,o⟩
 ·cases h with
  | scr h=>exact ⟨_,rfl,h⟩
 ·exact o.elim
theorem a3C.dik {ds:List (Key × Dv)} (h:a3C K M H x (.dik ds)):∃ a kvs,x=.ref a/\H a=some (.dK kvs)/\RepK K M H kvs ds:=by
 rcases h with h | ⟨a,e,xs,h1,h2⟩
 ·cases h with
  | dik h1 _ h2=>exact ⟨_,_,rfl,h1,h2⟩
 ·exact ⟨a,xs,e,h1,h2⟩
theorem a3C.dit {ds:List (List Key × Dv)} (h:a3C K M H x (.dit ds)):∃ a ep kvs,x=.ref a/\H a=some (.dT ep kvs)/\RepT K M H kvs ds:=by
 rcases h with h | ⟨a,e,ep0,xs,h1,h2⟩
 ·cases h with
  | dit h1 _ h2=>exact ⟨_,_,_,rfl,h1,h2⟩
 ·exact ⟨a,ep0,xs,e,h1,h2⟩
theorem a3C.obj {C:Addr} {ds:List (Str × Dv)} (h:a3C K M H x (.obj C ds)):∃ a dx fs,x=.ref a/\H a=some (.ins C dx fs)/\RepF K M H fs ds:=by
 rcases h with h | ⟨a,e,dx,fs,h1,h2⟩
 ·cases h with
  | obj h1 _ h2=>exact ⟨_,_,_,rfl,h1,h2⟩
 ·exact ⟨a,dx,fs,e,h1,h2⟩
end
end Z
namespace Z
open PySem PySem.Spec PyProof.Rows L2
abbrev TEp:=List Sl->(R->Prop)->Prop
abbrev TAp:=List Sl->(List R->Prop)->Prop
abbrev TTp:=List Sl->(Bool->Prop)->Prop
def a6R (K:W.Frag) (M:Addr->Prop) (O:Addr->Dv->Prop) (H:Hp) (xs:List V) (rs:List R) (H':Hp):Prop:=Paired (fun x r=>a3L K M O H x r H') xs rs
def CReps (K:W.Frag) (M:Addr->Prop) (H:Hp):List V->List Dv->Prop:=Paired (a3C K M H)
section
variable {K:W.Frag} {M:Addr->Prop} {O:Addr->Dv->Prop} {H H1 H' H'':Hp}
theorem a6R.ahead {xs:List V} {rs:List R} (h:a6R K M O H1 xs rs H') (S:a0F H H1):a6R K M O H xs rs H':=Paired.mapP h fun _ _ q=>q.ahead S
theorem a6R.c:∀ {xs:List V} {rs:List R},a6R K M O H xs rs H'->CReps K M H' xs (rs.map R.d)
 | _,_,.nil=>.nil
 | _,_,.cons a t=>.cons a.c (a6R.c t)
theorem a6R.reps (hM:∀ a,M a->H a ≠ none):∀ {xs:List V} {rs:List R},a6R K M O H xs rs H'->rs.all R.free=true->Reps K M H' xs (rs.map R.d)
 | _,_,.nil,_=>.nil
 | _,_,.cons a t,f=>by
  rw [List.all_cons,Bool.and_eq_true] at f
  exact .cons (a.rep hM f.1) (a6R.reps hM t f.2)
end
inductive lift (K:W.Frag) (HZ:Hp) (F:Addr->Prop) (t:TEp) (σ:St) (H:Hp) (Q:VK):Prop
 | mk (ρ:List Sl) (fr:Fr K HZ F σ H ρ) (h:t ρ fun r=>∀ x H',a0F H H'->a3L K (MM F ρ) (Own ρ) H x r H'->Q x H')
inductive liftA (K:W.Frag) (HZ:Hp) (F:Addr->Prop) (t:TAp) (σ:St) (H:Hp) (Q:List V->Hp->Prop):Prop
 | mk (ρ:List Sl) (fr:Fr K HZ F σ H ρ) (h:t ρ fun rs=>∀ xs H',a0F H H'->a6R K (MM F ρ) (Own ρ) H xs rs H'->Q xs H')
inductive liftT (K:W.Frag) (HZ:Hp) (F:Addr->Prop) (t:TTp) (σ:St) (H:Hp) (Q:Bool->Hp->Prop):Prop
 | mk (ρ:List Sl) (fr:Fr K HZ F σ H ρ) (h:t ρ fun b=>∀ H',a0F H H'->Q b H')
structure QE (X:Cx) (e:Expr) (t:TEp):Prop where
 mono:∀ (ρ:List Sl) (Q Q':R->Prop),(∀ r,Q r->Q' r)->t ρ Q->t ρ Q'
 run:∀ (HZ:Hp) (F:Addr->Prop),PE X e (lift X.K HZ F t)
structure QA (X:Cx) (es:List Expr) (t:TAp):Prop where
 mono:∀ (ρ:List Sl) (Q Q':List R->Prop),(∀ r,Q r->Q' r)->t ρ Q->t ρ Q'
 run:∀ (HZ:Hp) (F:Addr->Prop),PA X es (liftA X.K HZ F t)
structure QT (X:Cx) (e:Expr) (t:TTp):Prop where
 mono:∀ (ρ:List Sl) (Q Q':Bool->Prop),(∀ r,Q r->Q' r)->t ρ Q->t ρ Q'
 run:∀ (HZ:Hp) (F:Addr->Prop),PT X e (liftT X.K HZ F t)
structure QW (X:Cx) (e:Expr) (t:TTp):Prop where
 mono:∀ (ρ:List Sl) (Q Q':Bool->Prop),(∀ r,Q r->Q' r)->t ρ Q->t ρ Q'
 run:∀ (HZ:Hp) (F:Addr->Prop),PW X e (liftT X.K HZ F t)
section
variable {X:Cx} {a b e c:Expr} {es:List Expr} {ta tb te tc:TEp} {ts:TAp} {pos:Pos}
theorem a1J {t t':TE} (h:PE X e t) (w:∀ σ H Q,t' σ H Q->t σ H Q):PE X e t':=fun pins s σ H Q I q=>h pins s σ H Q I (w σ H Q q)
theorem PA_imp {t t':TA} (h:PA X es t) (w:∀ σ H Q,t' σ H Q->t σ H Q):PA X es t':=fun pos pins s σ H Q I q=>h pos pins s σ H Q I (w σ H Q q)
theorem PT_imp {t t':TT} (h:PT X e t) (w:∀ σ H Q,t' σ H Q->t σ H Q):PT X e t':=fun pins s σ H Q I q=>h pins s σ H Q I (w σ H Q q)
theorem PW_imp {t t':TT} (h:PW X e t) (w:∀ σ H Q,t' σ H Q->t σ H Q):PW X e t':=fun wh pins s σ H Q I q=>h wh pins s σ H Q I (w σ H Q q)
theorem QW.qt {t:TTp} (h:QW X e t):QT X e t:=⟨h.mono,fun HZ F=>(h.run HZ F).pt⟩
theorem QE.step {HZ:Hp} {F:Addr->Prop} {σ:St} {H:Hp} {ρ:List Sl} {Q:R->Prop} {Q':VK} (h:QE X e te) (fr:Fr X.K HZ F σ H ρ) (q:te ρ Q)
  (k:∀ r x H',Q r->a0F H H'->a3L X.K (MM F ρ) (Own ρ) H x r H'->Q' x H'):lift X.K HZ F te σ H Q':=⟨ρ,fr,h.mono _ _ _ (fun r qr x H' S rx=>k r x H' qr S rx) q⟩
theorem QA.step {HZ:Hp} {F:Addr->Prop} {σ:St} {H:Hp} {ρ:List Sl} {Q:List R->Prop} {Q':List V->Hp->Prop} (h:QA X es ts) (fr:Fr X.K HZ F σ H ρ) (q:ts ρ Q)
  (k:∀ rs xs H',Q rs->a0F H H'->a6R X.K (MM F ρ) (Own ρ) H xs rs H'->Q' xs H'):liftA X.K HZ F ts σ H Q':=⟨ρ,fr,h.mono _ _ _ (fun r qr x H' S rx=>k r x H' qr S rx) q⟩
theorem QT.step {t:TTp} {HZ:Hp} {F:Addr->Prop} {σ:St} {H:Hp} {ρ:List Sl} {Q:Bool->Prop} {Q':Bool->Hp->Prop} (h:QT X e t) (fr:Fr X.K HZ F σ H ρ) (q:t ρ Q)
  (k:∀ b H',Q b->a0F H H'->Q' b H'):liftT X.K HZ F t σ H Q':=⟨ρ,fr,h.mono _ _ _ (fun r qr H' S=>k r H' qr S) q⟩
def a0d (i:Nat):TEp:=fun ρ Q=>match ρ[i]? with
 | some (.v d)=>Q (.v d)
 | some (.own a d)=>Q (.ow a d)
 | _=>False
theorem a0c (i:Nat) {x:Str} (h:PE X (.Name x pos) (tVar i)):QE X (.Name x pos) (a0d i):=by
 refine ⟨fun ρ Q Q' w h=>?_,fun HZ F=>a1J h fun σ H Q ⟨ρ,fr,q⟩=>?_⟩
 ·unfold a0d at *
  split at h
  ·exact w _ h
  ·exact w _ h
  ·exact h
 ·unfold a0d at q
  split at q
  ·rename_i d e
   obtain ⟨x,hx,r⟩:=fr.sl i _ e
   exact ⟨x,hx,q x H (a0F.refl _) r⟩
  ·rename_i a d e
   obtain ⟨hx,r⟩:=fr.sl i _ e
   exact ⟨.ref a,hx,q _ H (a0F.refl _) ⟨rfl,List.mem_of_getElem? e,r⟩⟩
  ·exact q.elim
def eC (d:Dv):TEp:=fun _ Q=>Q (.v d)
theorem q_c {v:V} {d:Dv} (h:PE X e (tC v)) (r:∀ M H,Rep X.K M H v d):QE X e (eC d):=
 ⟨fun _ _ _ w q=>w _ q,fun HZ F=>a1J h fun σ H Q ⟨ρ,fr,q⟩=>q v H (a0F.refl _) (r _ _)⟩
theorem a0w {i j pos}:QE X (.Constant (.int i) j pos) (eC (.int i)):=q_c pe_int fun _ _=>.int i
theorem q_bl {b j pos}:QE X (.Constant (.bool b) j pos) (eC (.bl b)):=q_c pe_bl fun _ _=>.bl b
theorem q_non {j pos}:QE X (.Constant .none j pos) (eC .non):=q_c pe_non fun _ _=>.non
theorem a7p {x:Str} {n:Int} (hm:∃ t,X.mg x=some (.int n t)) (hg:Gl X x:=by rfl) (hd:(x == ("__debug__" : Str))=false:=by decide):QE X (.Name x pos) (eC (.int n)):=q_c (pe_globI hm hg hd) fun _ _=>.int n
def a0i:TAp:=fun _ Q=>Q []
def a0a (te:TEp) (ts:TAp):TAp:=fun ρ Q=>te ρ fun r=>ts ρ fun rs=>Q (r :: rs)
theorem a0g:QA X [] a0i:=⟨fun _ _ _ w q=>w _ q,fun HZ F=>PA_imp pa_nil fun σ H Q ⟨ρ,fr,q⟩=>q [] H (a0F.refl _) .nil⟩
theorem a0b (ha:QE X e te) (hr:QA X es ts) (hs:starEach (e :: es) X.env=(false,eval e X.env) :: starEach es X.env:=by rfl):QA X (e :: es) (a0a te ts):=by
 refine ⟨fun ρ Q Q' w h=>ha.mono _ _ _ (fun r q=>hr.mono _ _ _ (fun rs q=>w _ q) q) h,fun HZ F=>PA_imp (a6f (ha.run HZ F) (hr.run HZ F) hs) fun σ H Q ⟨ρ,fr,q⟩=>?_⟩
 refine ha.step fr q fun r x H1 q1 S1 r1=>?_
 refine hr.step (fr.mono S1) q1 fun rs xs H2 q2 S2 r2=>?_
 exact q2 _ H2 (S1.trans S2) (.cons (r1.mono S2) (r2.ahead S1))
def OpD (X:Cx) (f:Value->Value->Sem Value) (p:Dv->Dv->(R->Prop)->Prop):Prop:=
 (∀ dx dy (Q Q':R->Prop),(∀ r,Q r->Q' r)->p dx dy Q->p dx dy Q') /\ ∃ r:R2,OpR X f r /\ ∀ (M:Addr->Prop) (O:Addr->Dv->Prop) (H:Hp) (x y:V) (dx dy:Dv) (Q:VK),a3C X.K M H x dx->a3C X.K M H y dy ->
  p dx dy (fun rr=>∀ z H',a0F H H'->a3L X.K M O H z rr H'->Q z H')->r x y H Q
def eOp (p:Dv->Dv->(R->Prop)->Prop) (ta tb:TEp):TEp:=fun ρ Q=>ta ρ fun x=>tb ρ fun y=>p x.d y.d Q
theorem eOp_run {p:Dv->Dv->(R->Prop)->Prop} {r:R2} (ha:QE X a ta) (hb:QE X b tb) (hr:∀ (M:Addr->Prop) (O:Addr->Dv->Prop) (H:Hp) (x y:V) (dx dy:Dv) (Q:VK),a3C X.K M H x dx->a3C X.K M H y dy ->
  p dx dy (fun rr=>∀ z H',a0F H H'->a3L X.K M O H z rr H'->Q z H')->r x y H Q) (mo:∀ dx dy (Q Q':R->Prop),(∀ r,Q r->Q' r)->p dx dy Q->p dx dy Q') (HZ:Hp) (F:Addr->Prop) (σ:St) (H:Hp) (Q:VK)
  (h:lift X.K HZ F (eOp p ta tb) σ H Q):tOp r (lift X.K HZ F ta) (lift X.K HZ F tb) σ H Q:=by
 obtain ⟨ρ,fr,q⟩:=h
 refine ha.step fr q fun rx x H1 q1 S1 r1=>?_
 refine hb.step (fr.mono S1) q1 fun ry y H2 q2 S2 r2=>?_
 refine hr (MM F ρ) (Own ρ) H2 x y _ _ Q (r1.mono S2).c r2.c (mo _ _ _ _ (fun rr k z H' S rz=>?_) q2)
 exact k z H' ((S1.trans S2).trans S) (rz.ahead (S1.trans S2))
theorem a6Z {p:Dv->Dv->(R->Prop)->Prop} (ha:QE X a ta) (hb:QE X b tb) (mo:∀ dx dy (Q Q':R->Prop),(∀ r,Q r->Q' r)->p dx dy Q->p dx dy Q') (ρ:List Sl) (Q Q':R->Prop) (w:∀ r,Q r->Q' r) (h:eOp p ta tb ρ Q):eOp p ta tb ρ Q':=
 ha.mono _ _ _ (fun rx h=>hb.mono _ _ _ (fun ry h=>mo _ _ _ _ w h) h) h
theorem a1H {op:Operator} {p:Dv->Dv->(R->Prop)->Prop} (ho:OpD X (binaryOp op) p) (ha:QE X a ta) (hb:QE X b tb):QE X (.BinOp a op b pos) (eOp p ta tb):=by
 obtain ⟨mo,r,hR,hr⟩:=ho
 exact ⟨a6Z ha hb mo,fun HZ F=>a1J (pe_op hR (ha.run HZ F) (hb.run HZ F)) (eOp_run ha hb hr mo HZ F)⟩
theorem a7Z {op:CmpOp} {p:Dv->Dv->(R->Prop)->Prop} (ho:OpD X (compareOp op) p) (ha:QE X a ta) (hb:QE X b tb) (hm:behindInMarks op b=false:=by first | exact nomark _ | rfl):QE X (.Compare a [op] [b] pos) (eOp p ta tb):=by
 obtain ⟨mo,r,hR,hr⟩:=ho
 exact ⟨a6Z ha hb mo,fun HZ F=>a1J (pe_cmpR hR (ha.run HZ F) (hb.run HZ F) hm) (eOp_run ha hb hr mo HZ F)⟩
def a0y (te:TEp):TTp:=fun ρ Q=>te ρ fun r=>match r.d with
 | .bl c=>Q c
 | _=>False
theorem a8G (mo:∀ (ρ:List Sl) (Q Q':R->Prop),(∀ r,Q r->Q' r)->te ρ Q->te ρ Q') (ρ:List Sl) (Q Q':Bool->Prop) (w:∀ r,Q r->Q' r) (h:a0y te ρ Q):a0y te ρ Q':=by
 refine mo _ _ _ (fun r q=>?_) h
 split at q
 ·exact w _ q
 ·exact q.elim
theorem eTest_of {HZ:Hp} {F:Addr->Prop} {σ:St} {H:Hp} {Q:Bool->Hp->Prop} (mo:∀ (ρ:List Sl) (Q Q':R->Prop),(∀ r,Q r->Q' r)->te ρ Q->te ρ Q') (h:liftT X.K HZ F (a0y te) σ H Q):lift X.K HZ F te σ H fun x H'=>∃ k,x=.bl k/\Q k H':=by
 obtain ⟨ρ,fr,q⟩:=h
 refine ⟨ρ,fr,mo _ _ _ (fun r q x H' S rx=>?_) q⟩
 split at q
 ·rename_i c e
  have:=rx.c
  rw [e] at this
  exact ⟨c,this.bl,q H' S⟩
 ·exact q.elim
theorem a0Y {op:CmpOp} {p:Dv->Dv->(R->Prop)->Prop} (ho:OpD X (compareOp op) p) (ha:QE X a ta) (hb:QE X b tb) (hm:behindInMarks op b=false:=by first | exact nomark _ | rfl):QT X (.Compare a [op] [b] pos) (a0y (eOp p ta tb)):=by
 obtain ⟨mo,r,hR,hr⟩:=ho
 have m1:=a6Z ha hb mo
 exact ⟨a8G m1,fun HZ F=>PT_imp (pt_cmpR hR (ha.run HZ F) (hb.run HZ F) hm) fun σ H Q h=>eOp_run ha hb hr mo HZ F σ H _ (eTest_of m1 h)⟩
def eAnd (t u:TTp):TTp:=fun ρ Q=>t ρ fun c=>if c=true then u ρ Q else Q false
def eOr (t u:TTp):TTp:=fun ρ Q=>t ρ fun c=>if c=true then Q true else u ρ Q
def a7W (t:TTp):TTp:=fun ρ Q=>t ρ fun c=>Q (!c)
theorem qw_and1 {t:TTp} (h:QT X a t):QW X (.BoolOp .And [a] pos) t:=⟨h.mono,fun HZ F=>pw_and1 (h.run HZ F)⟩
theorem qw_or1 {t:TTp} (h:QT X a t):QW X (.BoolOp .Or [a] pos) t:=⟨h.mono,fun HZ F=>pw_or1 (h.run HZ F)⟩
theorem qw_and {t u:TTp} {rest:List Expr} (h:QT X a t) (k:QW X (.BoolOp .And (b :: rest) pos) u):QW X (.BoolOp .And (a :: b :: rest) pos) (eAnd t u):=by
 refine ⟨fun ρ Q Q' w q=>h.mono _ _ _ (fun c q=>?_) q,fun HZ F=>PW_imp (pw_and (h.run HZ F) (k.run HZ F)) fun σ H Q ⟨ρ,fr,q⟩=>?_⟩
 ·split at q
  ·rw [if_pos ‹_›]; exact k.mono _ _ _ w q
  ·rw [if_neg ‹_›]; exact w _ q
 ·refine h.step fr q fun c H1 q1 S1=>?_
  cases c with
  | true=>
   simp only [if_true] at q1
   exact iteT ⟨ρ,fr.mono S1,k.mono _ _ _ (fun b q H' S=>q H' (S1.trans S)) q1⟩
  | false=>
   simp only [Bool.false_eq_true,if_false] at q1
   exact iteF (q1 H1 S1)
theorem a8U {t u:TTp} {rest:List Expr} (h:QT X a t) (k:QW X (.BoolOp .Or (b :: rest) pos) u):QW X (.BoolOp .Or (a :: b :: rest) pos) (eOr t u):=by
 refine ⟨fun ρ Q Q' w q=>h.mono _ _ _ (fun c q=>?_) q,fun HZ F=>PW_imp (pw_or (h.run HZ F) (k.run HZ F)) fun σ H Q ⟨ρ,fr,q⟩=>?_⟩
 ·split at q
  ·rw [if_pos ‹_›]; exact w _ q
  ·rw [if_neg ‹_›]; exact k.mono _ _ _ w q
 ·refine h.step fr q fun c H1 q1 S1=>?_
  cases c with
  | true=>
   simp only [if_true] at q1
   exact iteT (q1 H1 S1)
  | false=>
   simp only [Bool.false_eq_true,if_false] at q1
   exact iteF ⟨ρ,fr.mono S1,k.mono _ _ _ (fun b q H' S=>q H' (S1.trans S)) q1⟩
theorem a2T {t:TTp} (h:QT X a t):QT X (.UnaryOp .Not a pos) (a7W t):=
 ⟨fun ρ Q Q' w q=>h.mono _ _ _ (fun c q=>w _ q) q,fun HZ F=>PT_imp (pt_not (h.run HZ F)) fun σ H Q ⟨ρ,fr,q⟩=>h.step fr q fun c H1 q1 S1=>q1 H1 S1⟩
def a6N (ta tb:TEp):TEp:=fun ρ Q=>ta ρ fun r=>match r.d with
 | .bl c=>if c=true then tb ρ Q else Q (.v (.bl false))
 | _=>False
def eOrV (ta tb:TEp):TEp:=fun ρ Q=>ta ρ fun r=>match r.d with
 | .bl c=>if c=true then Q (.v (.bl true)) else tb ρ Q
 | _=>False
def eNotV (ta:TEp):TEp:=fun ρ Q=>ta ρ fun r=>match r.d with
 | .bl c=>Q (.v (.bl (!c)))
 | _=>False
theorem q_one {op} (h:QE X a ta):QE X (.BoolOp op [a] pos) ta:=⟨h.mono,fun HZ F=>pe_one (h.run HZ F)⟩
theorem q_and {rest:List Expr} (h:QE X a ta) (k:QE X (.BoolOp .And (b :: rest) pos) tb):QE X (.BoolOp .And (a :: b :: rest) pos) (a6N ta tb):=by
 refine ⟨fun ρ Q Q' w q=>h.mono _ _ _ (fun c q=>?_) q,fun HZ F=>a1J (pe_and (h.run HZ F) (k.run HZ F)) fun σ H Q ⟨ρ,fr,q⟩=>?_⟩
 ·split at q
  ·split at q
   ·rw [if_pos ‹_›]; exact k.mono _ _ _ w q
   ·rw [if_neg ‹_›]; exact w _ q
  ·exact q
 ·refine h.step fr q fun r x H1 q1 S1 r1=>?_
  split at q1
  ·rename_i c e
   have rc:=r1.c
   rw [e] at rc
   refine ⟨c,rc.bl,?_⟩
   cases c with
   | true=>
    simp only [if_true] at q1
    exact iteT ⟨ρ,fr.mono S1,k.mono _ _ _ (fun b q z H' S rz=>q z H' (S1.trans S) (rz.ahead S1)) q1⟩
   | false=>
    simp only [Bool.false_eq_true,if_false] at q1
    exact iteF (q1 _ H1 S1 (Rep.bl false))
  ·exact q1.elim
theorem q_or {rest:List Expr} (h:QE X a ta) (k:QE X (.BoolOp .Or (b :: rest) pos) tb):QE X (.BoolOp .Or (a :: b :: rest) pos) (eOrV ta tb):=by
 refine ⟨fun ρ Q Q' w q=>h.mono _ _ _ (fun c q=>?_) q,fun HZ F=>a1J (pe_or (h.run HZ F) (k.run HZ F)) fun σ H Q ⟨ρ,fr,q⟩=>?_⟩
 ·split at q
  ·split at q
   ·rw [if_pos ‹_›]; exact w _ q
   ·rw [if_neg ‹_›]; exact k.mono _ _ _ w q
  ·exact q
 ·refine h.step fr q fun r x H1 q1 S1 r1=>?_
  split at q1
  ·rename_i c e
   have rc:=r1.c
   rw [e] at rc
   refine ⟨c,rc.bl,?_⟩
   cases c with
   | true=>
    simp only [if_true] at q1
    exact iteT (q1 _ H1 S1 (Rep.bl true))
   | false=>
    simp only [Bool.false_eq_true,if_false] at q1
    exact iteF ⟨ρ,fr.mono S1,k.mono _ _ _ (fun b q z H' S rz=>q z H' (S1.trans S) (rz.ahead S1)) q1⟩
  ·exact q1.elim
theorem q_not (h:QE X a ta):QE X (.UnaryOp .Not a pos) (eNotV ta):=by
 refine ⟨fun ρ Q Q' w q=>h.mono _ _ _ (fun c q=>?_) q,fun HZ F=>a1J (pe_not (h.run HZ F)) fun σ H Q ⟨ρ,fr,q⟩=>?_⟩
 ·split at q
  ·exact w _ q
  ·exact q
 ·refine h.step fr q fun r x H1 q1 S1 r1=>?_
  split at q1
  ·rename_i c e
   have rc:=r1.c
   rw [e] at rc
   exact ⟨c,rc.bl,q1 _ H1 S1 (Rep.bl _)⟩
  ·exact q1.elim
def eIf (t:TTp) (ta tb:TEp):TEp:=fun ρ Q=>t ρ fun c=>if c=true then ta ρ Q else tb ρ Q
def a2f (ts:TAp):TEp:=fun ρ Q=>ts ρ fun rs=>rs.all R.free=true/\rs.length<=1000/\Q (.v (.tup (rs.map R.d)))
def a5a (ts:TAp):TEp:=fun ρ Q=>ts ρ fun rs=>rs.all R.free=true/\rs.length<=1000/\Q (.nw (.lst (rs.map R.d)))
theorem a7j {n:Nat} (h:n<=1000):n<=sizeLine:=Nat.le_of_lt (small1000 h)
theorem a0F.new' {H:Hp} {l:Addr} {o:HO} (hl:H l=none):a0F H (upd H l o):=fun b q e=>by rw [a0G (a0A e hl)]; exact e
theorem a1x {x1} (h:QA X es ts):QE X (.Tuple es x1 pos) (a2f ts):=by
 refine ⟨fun ρ Q Q' w q=>h.mono _ _ _ (fun rs q=>⟨q.1,q.2.1,w _ q.2.2⟩) q,fun HZ F=>a1J (pe_tup (h.run HZ F)) fun σ H Q ⟨ρ,fr,q⟩=>?_⟩
 refine h.step fr q fun rs xs H1 ⟨q1,q2,q3⟩ S1 r1=>?_
 have hl:xs.length=rs.length:=Paired.length r1
 refine ⟨a7j (by ac_rfl),fun p hp=>q3 _ _ (S1.trans (a0F.new' hp)) ?_⟩
 exact .tup a0I ((r1.reps (fun a m=>fr.dom m) q1).mono (a0F.new' hp))
theorem a3G (h:QA X es ts):QE X (.List es pos) (a5a ts):=by
 refine ⟨fun ρ Q Q' w q=>h.mono _ _ _ (fun rs q=>⟨q.1,q.2.1,w _ q.2.2⟩) q,fun HZ F=>a1J (pe_lst (h.run HZ F)) fun σ H Q ⟨ρ,fr,q⟩=>?_⟩
 refine h.step fr q fun rs xs H1 ⟨q1,q2,q3⟩ S1 r1=>?_
 have hl:xs.length=rs.length:=Paired.length r1
 refine ⟨a7j (by ac_rfl),fun p hp=>q3 _ _ (S1.trans (a0F.new' hp)) ?_⟩
 exact ⟨p,rfl,S1.free hp,xs,a0I,((r1.reps (fun a m=>fr.dom m) q1).gen (.fresh hp)).mono (a0F.new' hp)⟩
end
end Z
namespace Z
open PySem PySem.Spec PyProof.Rows L2
noncomputable abbrev LIM:Nat:=1000000
theorem a3B {n:Nat} (h:n<=LIM):n<=sizeLine:=Nat.le_trans h (by rw [sizeLine_eq]; decide)
section
variable {K:W.Frag} {M:Addr->Prop} {O:Addr->Dv->Prop} {H:Hp}
theorem a4C {p:Addr} {xs:List V} {ds:List Dv} (hp:H p=none) (r:Reps K M H xs ds):a3L K M O H (.ref p) (.nw (.lst ds)) (upd H p (.lst xs)):=⟨p,rfl,hp,xs,a0I,(r.gen (.fresh hp)).mono (a0F.new' hp)⟩
theorem v_tup {p:Addr} {xs:List V} {ds:List Dv} (hp:H p=none) (r:Reps K M H xs ds):a3L K M O H (.ref p) (.v (.tup ds)) (upd H p (.tup xs)):=Rep.tup a0I (r.mono (a0F.new' hp))
end
def a2Y:Dv->Dv->(R->Prop)->Prop
 | .int i,.int j,Q=>Q (.v (.int (i + j)))
 | .lst xs,.lst ys,Q=>xs.length + ys.length<=LIM/\Q (.nw (.lst (xs ++ ys)))
 | .str x,.str y,Q=>x.length + y.length<=LIM/\Q (.v (.str (x ++ y)))
 | _,_,_=>False
def a8b:Dv->Dv->(R->Prop)->Prop
 | .int i,.int j,Q=>Q (.v (.int (i - j)))
 | _,_,_=>False
def CMulG (i j:Int):Prop:=CMul i j \/ (i.natAbs < 2 ^ 4000/\j.natAbs < 2 ^ 4000)
def a4O:Dv->Dv->(R->Prop)->Prop
 | .int i,.int j,Q=>CMulG i j/\Q (.v (.int (i * j)))
 | .lst xs,.int k,Q=>(-(2 ^ 63)<=k/\k < 2 ^ 63/\xs.length * k.toNat<=LIM)/\Q (.nw (.lst (List.replicate k.toNat xs).flatten))
 | _,_,_=>False
def pDiv:Dv->Dv->(R->Prop)->Prop
 | .int i,.int j,Q=>(0 < j/\j < 2 ^ 200)/\Q (.v (.int (i / j)))
 | _,_,_=>False
def pDivG:Dv->Dv->(R->Prop)->Prop
 | .int i,.int j,Q=>(j ≠ 0/\j.natAbs < 2 ^ 4000)/\Q (.v (.int (i.fdiv j)))
 | _,_,_=>False
def a6a:Dv->Dv->(R->Prop)->Prop
 | .int i,.int j,Q=>0 < j/\Q (.v (.int (i % j)))
 | _,_,_=>False
def pPow:Dv->Dv->(R->Prop)->Prop
 | .int i,.int j,Q=>CPow i j/\Q (.v (.int (i ^ j.toNat)))
 | _,_,_=>False
section
variable {X:Cx}
theorem pAdd_mono:∀ dx dy (Q Q':R->Prop),(∀ r,Q r->Q' r)->a2Y dx dy Q->a2Y dx dy Q':=by
 intro dx dy Q Q' w h
 unfold a2Y at h
 split at h
 ·exact w _ h
 ·exact ⟨h.1,w _ h.2⟩
 ·exact ⟨h.1,w _ h.2⟩
 ·exact h.elim
theorem a0U:OpD X (binaryOp .Add) a2Y:=by
 refine ⟨pAdd_mono,_,op_add.or (op_cat.or op_add_str),fun M O H x y dx dy Q cx cy h=>?_⟩
 unfold a2Y at h
 split at h
 ·obtain rfl:=cx.int
  obtain rfl:=cy.int
  exact .inl ⟨_,_,rfl,rfl,h _ H (a0F.refl _) (Rep.int _)⟩
 ·obtain ⟨a,xs,rfl,ea,ra⟩:=cx.lst
  obtain ⟨b,ys,rfl,eb,rb⟩:=cy.lst
  have l1:=ra.length
  have l2:=rb.length
  exact .inr (.inl ⟨a,b,xs,ys,rfl,rfl,ea,eb,a3B (by ac_rfl),fun p hp=>h.2 _ _ (a0F.new' hp) (a4C hp (ra.append rb))⟩)
 ·obtain rfl:=cx.str
  obtain rfl:=cy.str
  exact .inr (.inr ⟨_,_,rfl,rfl,a3B h.1,h.2 _ H (a0F.refl _) (Rep.str _)⟩)
 ·exact h.elim
theorem pSub_mono:∀ dx dy (Q Q':R->Prop),(∀ r,Q r->Q' r)->a8b dx dy Q->a8b dx dy Q':=by
 intro dx dy Q Q' w h
 unfold a8b at h
 split at h
 ·exact w _ h
 ·exact h.elim
theorem a4B:OpD X (binaryOp .Sub) a8b:=by
 refine ⟨pSub_mono,_,op_sub,fun M O H x y dx dy Q cx cy h=>?_⟩
 unfold a8b at h
 split at h
 ·obtain rfl:=cx.int
  obtain rfl:=cy.int
  exact ⟨_,_,rfl,rfl,h _ H (a0F.refl _) (Rep.int _)⟩
 ·exact h.elim
theorem CMulG.ok {i j:Int} (h:CMulG i j):IntMulOk i j:=by
 rcases h with h | ⟨h1,h2⟩
 ·exact h.ok
 ·have key:∀ {z:Int},z.natAbs < 2 ^ 4000->Builtin.Int.intBits z<=2 ^ 20:=fun {z} hz=>by
   have hl:z.natAbs ≠ 0->z.natAbs.log2 < 4000:=fun h0=>(Nat.log2_lt h0).mpr hz
   clear hz h1 h2
   unfold Builtin.Int.intBits
   by_cases h0:z=0
   ·simp [h0]
   ·have:=hl (by ac_rfl)
    simp [h0]
    ac_rfl
  exact IntMulOk.of_bits (key h1) (key h2)
theorem op_mulG:OpR X (binaryOp .Mult) (rI CMulG fun i j=>.int (i * j)):=opI fun _ _ _ _ _ _ _ hc q=>mul_int q hc.ok
theorem pMul_mono:∀ dx dy (Q Q':R->Prop),(∀ r,Q r->Q' r)->a4O dx dy Q->a4O dx dy Q':=by
 intro dx dy Q Q' w h
 unfold a4O at h
 split at h
 ·exact ⟨h.1,w _ h.2⟩
 ·exact ⟨h.1,w _ h.2⟩
 ·exact h.elim
theorem a1M:OpD X (binaryOp .Mult) a4O:=by
 refine ⟨pMul_mono,_,op_mulG.or op_rep,fun M O H x y dx dy Q cx cy h=>?_⟩
 unfold a4O at h
 split at h
 ·obtain rfl:=cx.int
  obtain rfl:=cy.int
  exact .inl ⟨_,_,rfl,rfl,h.1,h.2 _ H (a0F.refl _) (Rep.int _)⟩
 ·obtain ⟨a,xs,rfl,ea,ra⟩:=cx.lst
  obtain rfl:=cy.int
  have l1:=ra.length
  exact .inr ⟨a,_,xs,rfl,rfl,ea,h.1.1,h.1.2.1,a3B (by rw [l1]; exact h.1.2.2),fun p hp=>h.2 _ _ (a0F.new' hp) (a4C hp (ra.repl _))⟩
 ·exact h.elim
theorem pDiv_mono:∀ dx dy (Q Q':R->Prop),(∀ r,Q r->Q' r)->pDiv dx dy Q->pDiv dx dy Q':=by
 intro dx dy Q Q' w h
 unfold pDiv at h
 split at h
 ·exact ⟨h.1,w _ h.2⟩
 ·exact h.elim
theorem a6i:OpD X (binaryOp .FloorDiv) pDiv:=by
 refine ⟨pDiv_mono,_,op_fdivB,fun M O H x y dx dy Q cx cy h=>?_⟩
 unfold pDiv at h
 split at h
 ·obtain rfl:=cx.int
  obtain rfl:=cy.int
  exact ⟨_,_,rfl,rfl,h.1,h.2 _ H (a0F.refl _) (Rep.int _)⟩
 ·exact h.elim
theorem pMod_mono:∀ dx dy (Q Q':R->Prop),(∀ r,Q r->Q' r)->a6a dx dy Q->a6a dx dy Q':=by
 intro dx dy Q Q' w h
 unfold a6a at h
 split at h
 ·exact ⟨h.1,w _ h.2⟩
 ·exact h.elim
theorem a2I:OpD X (binaryOp .Mod) a6a:=by
 refine ⟨pMod_mono,_,op_mod,fun M O H x y dx dy Q cx cy h=>?_⟩
 unfold a6a at h
 split at h
 ·obtain rfl:=cx.int
  obtain rfl:=cy.int
  exact ⟨_,_,rfl,rfl,h.1,h.2 _ H (a0F.refl _) (Rep.int _)⟩
 ·exact h.elim
def eNeg (ta:TEp):TEp:=fun ρ Q=>ta ρ fun r=>match r.d with
 | .int i=>Q (.v (.int (-i)))
 | _=>False
theorem q_neg {a:Expr} {pos:Pos} {ta:TEp} (h:QE X a ta):QE X (.UnaryOp .USub a pos) (eNeg ta):=by
 refine ⟨fun ρ Q Q' w q=>h.mono _ _ _ (fun c q=>?_) q,fun HZ F=>a1J (pe_un un_neg (h.run HZ F)) fun σ H Q ⟨ρ,fr,q⟩=>?_⟩
 ·split at q
  ·exact w _ q
  ·exact q
 ·refine h.step fr q fun r x H1 q1 S1 r1=>?_
  split at q1
  ·rename_i i e
   have rc:=r1.c
   rw [e] at rc
   exact ⟨i,rc.int,q1 _ H1 S1 (Rep.int _)⟩
  ·exact q1.elim
def pI2 (f:Int->Int->Bool):Dv->Dv->(R->Prop)->Prop
 | .int i,.int j,Q=>Q (.v (.bl (f i j)))
 | _,_,_=>False
theorem pI2_mono {f:Int->Int->Bool}:∀ dx dy (Q Q':R->Prop),(∀ r,Q r->Q' r)->pI2 f dx dy Q->pI2 f dx dy Q':=by
 intro dx dy Q Q' w h
 unfold pI2 at h
 split at h
 ·exact w _ h
 ·exact h.elim
theorem opd_i2 {g:Value->Value->Sem Value} {f:Int->Int->Bool} (h:OpR X g (rI0 fun i j=>.bl (f i j))):OpD X g (pI2 f):=by
 refine ⟨pI2_mono,_,h,fun M O H x y dx dy Q cx cy h=>?_⟩
 unfold pI2 at h
 split at h
 ·obtain rfl:=cx.int
  obtain rfl:=cy.int
  exact ⟨_,_,rfl,rfl,h _ H (a0F.refl _) (Rep.bl _)⟩
 ·exact h.elim
noncomputable abbrev pLt:=pI2 fun i j=>decide (i < j)
noncomputable abbrev pLe:=pI2 fun i j=>decide (i<=j)
noncomputable abbrev pGt:=pI2 fun i j=>decide (j < i)
theorem opd_lt:OpD X (compareOp .Lt) pLt:=opd_i2 op_lt
theorem opd_le:OpD X (compareOp .LtE) pLe:=opd_i2 op_le
theorem a8v:OpD X (compareOp .Gt) pGt:=opd_i2 op_gt
def a6F (p p':Dv->Dv->(R->Prop)->Prop) (ta tb tc:TEp):TEp:=fun ρ Q=>ta ρ fun x=>tb ρ fun y=>p x.d y.d fun z=>match z.d with
 | .bl k=>if k=true then tc ρ fun w=>p' y.d w.d Q else Q (.v (.bl false))
 | _=>False
noncomputable def isN:Dv->Bool
 | .non=>true
 | _=>false
def pIsN:Dv->Dv->(R->Prop)->Prop
 | d,.non,Q=>Q (.v (.bl (isN d)))
 | _,_,_=>False
def pNotN:Dv->Dv->(R->Prop)->Prop
 | d,.non,Q=>Q (.v (.bl (!isN d)))
 | _,_,_=>False
theorem a3C.non_iff {K:W.Frag} {M:Addr->Prop} {H:Hp} {x:V} {d:Dv} (h:a3C K M H x d):decide (x=.non)=isN d:=by
 rcases h with h | ⟨a,rfl,o⟩
 ·cases h <;> simp [isN]
 ·cases d <;> first | exact o.elim | simp [isN]
theorem opd_isN:OpD X (compareOp .Is) pIsN:=by
 refine ⟨fun dx dy Q Q' w h=>?_,_,op_isN,fun M O H x y dx dy Q cx cy h=>?_⟩
 ·unfold pIsN at h
  split at h
  ·exact w _ h
  ·exact h.elim
 ·unfold pIsN at h
  split at h
  ·refine ⟨cy.non,?_⟩
   rw [cx.non_iff]
   exact h _ H (a0F.refl _) (Rep.bl _)
  ·exact h.elim
theorem opd_notN:OpD X (compareOp .IsNot) pNotN:=by
 refine ⟨fun dx dy Q Q' w h=>?_,_,op_notN,fun M O H x y dx dy Q cx cy h=>?_⟩
 ·unfold pNotN at h
  split at h
  ·exact w _ h
  ·exact h.elim
 ·unfold pNotN at h
  split at h
  ·refine ⟨cy.non,?_⟩
   rw [cx.non_iff]
   exact h _ H (a0F.refl _) (Rep.bl _)
  ·exact h.elim
end
noncomputable def pyD:Dv->PyData
 | .non=>.none
 | .bl b=>.bool b
 | .int i=>.int i
 | .str x=>.str x
 | .tup xs=>.tuple (pyDs xs)
 | .lst xs=>.list (pyDs xs)
 | .scr ns=>.list (ns.map .int)
 | _=>.dict []
where pyDs:List Dv->List PyData
 | []=>[]
 | d :: r=>pyD d :: pyDs r
noncomputable abbrev pyDs:=pyD.pyDs
noncomputable def okD:Nat->Dv->Bool
 | _,.non=>true
 | _,.bl _=>true
 | _,.int _=>true
 | _,.str x=>PyData.strOk x
 | n + 1,.tup xs=>okDs n xs
 | n + 1,.lst xs=>okDs n xs
 | _ + 1,.scr _=>true
 | _,_=>false
where okDs:Nat->List Dv->Bool
 | _,[]=>true
 | n,d :: r=>okD n d && okDs n r
noncomputable abbrev okDs:=okD.okDs
noncomputable def eqD (a b:Dv):Bool:=PyData.eqv (pyD a) (pyD b)
theorem canLay_ints (ns:List Int):PyData.canLayAll0 (ns.map .int)=true:=by
 induction ns with
 | nil=>rfl
 | cons n r ih=>rw [List.map_cons,PyData.canLayAll0,ih]; rfl
theorem depth_ints (ns:List Int):PyData.depthAll (ns.map .int)=0:=by
 induction ns with
 | nil=>rfl
 | cons n r ih=>rw [List.map_cons,PyData.depthAll,ih]; rfl
mutual
theorem a6k:∀ (n:Nat) (d:Dv),okD n d=true->(pyD d).canLay0=true/\(pyD d).depth<=n
 | _,.non,_=>⟨by simp [pyD,PyData.canLay0],by simp [pyD,PyData.depth]⟩
 | _,.bl _,_=>⟨by simp [pyD,PyData.canLay0],by simp [pyD,PyData.depth]⟩
 | _,.int _,_=>⟨by simp [pyD,PyData.canLay0],by simp [pyD,PyData.depth]⟩
 | _,.str x,h=>⟨by rw [pyD,PyData.canLay0]; cases ‹Nat› <;> simpa [okD] using h,by simp [pyD,PyData.depth]⟩
 | 0,.tup _,h=>by simp [okD] at h
 | 0,.lst _,h=>by simp [okD] at h
 | 0,.scr _,h=>by simp [okD] at h
 | n + 1,.tup xs,h=>by
  have:=okDs_lay n xs (by rw [okD] at h; exact h)
  exact ⟨by rw [pyD,PyData.canLay0]; exact this.1,by rw [pyD,PyData.depth]; have h2:PyData.depthAll (pyD.pyDs xs)<=n:=this.2; ac_rfl⟩
 | n + 1,.lst xs,h=>by
  have:=okDs_lay n xs (by rw [okD] at h; exact h)
  exact ⟨by rw [pyD,PyData.canLay0]; exact this.1,by rw [pyD,PyData.depth]; have h2:PyData.depthAll (pyD.pyDs xs)<=n:=this.2; ac_rfl⟩
 | n + 1,.scr ns,_=>⟨by rw [pyD,PyData.canLay0]; exact canLay_ints ns,by rw [pyD,PyData.depth,depth_ints]; ac_rfl⟩
 | 0,.dik _,h=>by simp [okD] at h
 | 0,.dit _,h=>by simp [okD] at h
 | 0,.obj _ _,h=>by simp [okD] at h
 | 0,.exc _ _,h=>by simp [okD] at h
 | _ + 1,.exc _ _,h=>by simp [okD] at h
 | 0,.dns _,h=>by simp [okD] at h
 | _ + 1,.dns _,h=>by simp [okD] at h
 | _ + 1,.dik _,h=>by simp [okD] at h
 | _ + 1,.dit _,h=>by simp [okD] at h
 | _ + 1,.obj _ _,h=>by simp [okD] at h
theorem okDs_lay:∀ (n:Nat) (ds:List Dv),okDs n ds=true->PyData.canLayAll0 (pyDs ds)=true/\PyData.depthAll (pyDs ds)<=n
 | _,[],_=>⟨by simp [pyD.pyDs,PyData.canLayAll0],by simp [pyD.pyDs,PyData.depthAll]⟩
 | n,d :: r,h=>by
  have h':(okD n d && okDs n r)=true:=h
  rw [Bool.and_eq_true] at h'
  have h1:=a6k n d h'.1
  have h2:=okDs_lay n r h'.2
  refine ⟨by show PyData.canLayAll0 (pyD d :: pyDs r)=true; rw [PyData.canLayAll0,h1.1,h2.1]; rfl,?_⟩
  show PyData.depthAll (pyD d :: pyDs r)<=n
  rw [PyData.depthAll]
  ac_rfl
end
theorem a4P {n:Nat} {d:Dv} (h:okD n d=true) (hn:n<=64):SeqAt.shaped (pyD d)=true:=by
 obtain ⟨h1,h2⟩:=a6k n d h
 unfold SeqAt.shaped
 rw [h1,decide_eq_true (by ac_rfl)]
 rfl
section
variable {X:Cx} {M:Addr->Prop} {pins:List (Addr × Obj)} {σ:St} {H:Hp} {s:Shared}
theorem a8C {h:Heap}:∀ {ns:List Int} {us:List Value},a1w (ns.map V.int) us -> ∃ as,ReadsAll h us (ns.map PyData.int) as
 | [],_,.nil=>⟨_,.nil⟩
 | n :: r,_,.cons a t=>by
  obtain ⟨tk,rfl⟩:=a
  obtain ⟨as,q⟩:=a8C (h:=h) t
  exact ⟨_,.cons (.int n tk) q⟩
theorem ok_cons {n:Nat} {d:Dv} {ds:List Dv} (f:okDs n (d :: ds)=true):okD n d=true/\okDs n ds=true:=by
 have f':(okD n d && okDs n ds)=true:=f
 rwa [Bool.and_eq_true] at f'
theorem Rep.reads (I:Inv X pins σ H s) {n:Nat} {x:V} {d:Dv} {u:Value} (q:Rep X.K M H x d) (ok:okD n d=true) (r:a2z x u):∃ as,Reads s.heap u (pyD d) as:=by
 refine Rep.rec (motive_1:=fun x d _=>∀ n u,okD n d=true->a2z x u -> ∃ as,Reads s.heap u (pyD d) as) (motive_2:=fun xs ds _=>∀ n us,okDs n ds=true->a1w xs us -> ∃ as,ReadsAll s.heap us (pyDs ds) as) (motive_3:=fun _ _ _=>True) (motive_4:=fun _ _ _=>True) (motive_5:=fun _ _ _=>True)
  (fun n u _ r=>by cases r; exact ⟨_,.none⟩) (fun b n u _ r=>by cases r; exact ⟨_,.bool b⟩) (fun i n u _ r=>by obtain ⟨t,rfl⟩:=r; exact ⟨_,.int i t⟩) (fun y n u _ r=>by obtain ⟨t,rfl⟩:=r; exact ⟨_,.str y t⟩) ?tup ?lst ?dik ?dit ?obj ?scr ?exc ?dns ?nil ?cons
  trivial (fun _ _ _ _=>trivial) trivial (fun _ _ _ _=>trivial) trivial (fun _ _ _ _=>trivial) q n u ok r
 case tup=>
  intro a xs ds e _ ih n u ok r
  cases n with
  | zero=>simp [okD] at ok
  | succ n=>
   cases r
   obtain ⟨_,its,rv,o,ho,hc,m,hd⟩:=I.hok _ _ e
   obtain ⟨as,ra⟩:=ih n its (by rw [okD] at ok; exact ok) rv
   exact ⟨_,.tuple ho hc hd ra⟩
 case lst=>
  intro a xs ds e _ _ ih n u ok r
  cases n with
  | zero=>simp [okD] at ok
  | succ n=>
   cases r
   obtain ⟨_,its,m,rv,ho⟩:=I.hok _ _ e
   obtain ⟨as,ra⟩:=ih n its (by rw [okD] at ok; exact ok) rv
   exact ⟨_,.list ho rfl rfl ra⟩
 case dik=>intro a xs ds _ _ _ _ n u ok; cases n <;> simp [okD] at ok
 case dit=>intro a ep xs ds _ _ _ _ n u ok; cases n <;> simp [okD] at ok
 case obj=>intro a C dx xs ds _ _ _ _ n u ok; cases n <;> simp [okD] at ok
 case scr=>
  intro a ns e n u _ r
  cases r
  obtain ⟨its,rv,pl,_⟩:=I.list e.sq
  obtain ⟨o,ho,hc,m,hd⟩:=pl.isList
  obtain ⟨as,ra⟩:=a8C (h:=s.heap) rv
  exact ⟨_,.list ho hc hd (by simpa using ra)⟩
 case exc=>intro a C p _ n u ok; cases n <;> simp [okD] at ok
 case dns=>intro a ks _ _ n u ok; cases n <;> simp [okD] at ok
 case nil=>intro n us _ r; cases r; exact ⟨_,.nil⟩
 case cons=>
  intro x d xs ds _ _ i1 i2 n us ok r
  cases r with
  | cons r1 r2=>
   obtain ⟨as,ra⟩:=i1 n _ (ok_cons ok).1 r1
   obtain ⟨bs,rb⟩:=i2 n _ (ok_cons ok).2 r2
   exact ⟨_,.cons ra rb⟩
theorem Reps.reads (I:Inv X pins σ H s) {n:Nat} {xs:List V} {ds:List Dv} {us:List Value} (q:Reps X.K M H xs ds) (ok:okDs n ds=true) (r:a1w xs us):∃ as,ReadsAll s.heap us (pyDs ds) as:=
 q.ind (P:=fun xs ds=>∀ us,okDs n ds=true->a1w xs us -> ∃ as,ReadsAll s.heap us (pyDs ds) as) (fun us _ r=>by cases r; exact ⟨_,.nil⟩) (fun x d xs ds a _ ih us ok r=>by
  cases r with
  | cons r1 r2=>
   obtain ⟨as,ra⟩:=a.reads I (ok_cons ok).1 r1
   obtain ⟨bs,rb⟩:=ih _ (ok_cons ok).2 r2
   exact ⟨_,.cons ra rb⟩) us ok r
theorem a3C.reads (I:Inv X pins σ H s) {n:Nat} {x:V} {d:Dv} {u:Value} (c:a3C X.K M H x d) (ok:okD n d=true) (r:a2z x u):∃ as,Reads s.heap u (pyD d) as:=by
 rcases c with c | ⟨a,rfl,o⟩
 ·exact c.reads I ok r
 ·cases d with
  | lst ds=>
   obtain ⟨xs,e,q⟩:=o
   cases r
   cases n with
   | zero=>simp [okD] at ok
   | succ n=>
    obtain ⟨_,its,m,rv,ho⟩:=I.hok _ _ e
    obtain ⟨as,ra⟩:=Reps.reads I q (by rw [okD] at ok; exact ok) rv
    exact ⟨_,.list ho rfl rfl ra⟩
  | dik _=>cases n <;> simp [okD] at ok
  | dit _=>cases n <;> simp [okD] at ok
  | obj _ _=>cases n <;> simp [okD] at ok
  | dns _=>cases n <;> simp [okD] at ok
  | _=>exact o.elim
end
def pEq:Dv->Dv->(R->Prop)->Prop
 | .int i,.int j,Q=>Q (.v (.bl (decide (i=j))))
 | dx,dy,Q=>(okD 8 dx=true/\okD 8 dy=true)/\Q (.v (.bl (eqD dx dy)))
def pNe:Dv->Dv->(R->Prop)->Prop
 | .int i,.int j,Q=>Q (.v (.bl (!decide (i=j))))
 | dx,dy,Q=>(okD 8 dx=true/\okD 8 dy=true)/\Q (.v (.bl (!eqD dx dy)))
section
variable {X:Cx}
def rEqZ (K:W.Frag):R2:=fun x y H Q=>∃ M dx dy,a3C K M H x dx/\a3C K M H y dy/\okD 8 dx=true/\okD 8 dy=true/\Q (.bl (eqD dx dy)) H
def rNeZ (K:W.Frag):R2:=fun x y H Q=>∃ M dx dy,a3C K M H x dx/\a3C K M H y dy/\okD 8 dx=true/\okD 8 dy=true/\Q (.bl (!eqD dx dy)) H
theorem op_eqZ (hu:X.A.units + 64 < cLine):OpR X (compareOp .Eq) (rEqZ X.K):=by
 intro pins s σ H x y v u Q I rx ry h
 obtain ⟨M,dx,dy,r1,r2,o1,o2,q⟩:=h
 obtain ⟨as,ra⟩:=r1.reads I o1 rx
 obtain ⟨bs,rb⟩:=r2.reads I o2 ry
 exact SeqAt.compareEq_shaped ra rb (a4P o1 (by decide)) (a4P o2 (by decide)) hu ⟨.bl _,H,I,rfl,q⟩
theorem op_neZ (hu:X.A.units + 64 < cLine):OpR X (compareOp .NotEq) (rNeZ X.K):=by
 intro pins s σ H x y v u Q I rx ry h
 obtain ⟨M,dx,dy,r1,r2,o1,o2,q⟩:=h
 obtain ⟨as,ra⟩:=r1.reads I o1 rx
 obtain ⟨bs,rb⟩:=r2.reads I o2 ry
 exact SeqAt.compareNe_shaped ra rb (a4P o1 (by decide)) (a4P o2 (by decide)) hu ⟨.bl _,H,I,rfl,q⟩
theorem eqD_int (i j:Int):eqD (.int i) (.int j)=decide (i=j):=by
 show PyData.eqv (.int i) (.int j)=_
 rw [PyData.eqv]
 exact Bool.beq_eq_decide_eq i j
theorem a3Q (hu:X.A.units + 64 < cLine):OpD X (compareOp .Eq) pEq:=by
 refine ⟨fun dx dy Q Q' w h=>?_,_,op_eqZ hu,fun M O H x y dx dy Q cx cy h=>?_⟩
 ·unfold pEq at *
  split at h
  ·exact w _ h
  ·exact ⟨h.1,w _ h.2⟩
 ·unfold pEq at h
  split at h
  ·refine ⟨M,_,_,cx,cy,by simp [okD],by simp [okD],?_⟩
   rw [eqD_int]
   exact h _ H (a0F.refl _) (Rep.bl _)
  ·exact ⟨M,_,_,cx,cy,h.1.1,h.1.2,h.2 _ H (a0F.refl _) (Rep.bl _)⟩
theorem a5Q (hu:X.A.units + 64 < cLine):OpD X (compareOp .NotEq) pNe:=by
 refine ⟨fun dx dy Q Q' w h=>?_,_,op_neZ hu,fun M O H x y dx dy Q cx cy h=>?_⟩
 ·unfold pNe at *
  split at h
  ·exact w _ h
  ·exact ⟨h.1,w _ h.2⟩
 ·unfold pNe at h
  split at h
  ·refine ⟨M,_,_,cx,cy,by simp [okD],by simp [okD],?_⟩
   rw [eqD_int]
   exact h _ H (a0F.refl _) (Rep.bl _)
  ·exact ⟨M,_,_,cx,cy,h.1.1,h.1.2,h.2 _ H (a0F.refl _) (Rep.bl _)⟩
end
end Z
namespace Z
open PySem PySem.Spec PyProof.Rows L2
structure En where
 nx:List Sl->Prop
 rt:R->Prop
 bk:List Sl->Prop:=fun _=>False
 ct:List Sl->Prop:=fun _=>False
abbrev TSp:=En->List Sl->Prop
structure EnLe (E E':En):Prop where
 nx:∀ ρ,E.nx ρ->E'.nx ρ
 rt:∀ r,E.rt r->E'.rt r
 bk:∀ ρ,E.bk ρ->E'.bk ρ
 ct:∀ ρ,E.ct ρ->E'.ct ρ
structure Ent (K:W.Frag) (HZ:Hp) (F:Addr->Prop) (E:En) (D:Ends):Prop where
 nx:∀ ρ σ H,Fr K HZ F σ H ρ->E.nx ρ->D.nx σ H
 bk:∀ ρ σ H,Fr K HZ F σ H ρ->E.bk ρ->D.bk σ H
 ct:∀ ρ σ H,Fr K HZ F σ H ρ->E.ct ρ->D.ct σ H
 rt:∀ r x H,a0F HZ H->a3L K F NoOwn HZ x r H->E.rt r->D.rt x H
inductive liftS (K:W.Frag) (HZ:Hp) (F:Addr->Prop) (t:TSp) (D:Ends) (σ:St) (H:Hp):Prop
 | mk (ρ:List Sl) (E:En) (fr:Fr K HZ F σ H ρ) (h:t E ρ) (en:Ent K HZ F E D)
structure QS (X:Cx) (st:Stmt) (t:TSp):Prop where
 mono:∀ E E' ρ,EnLe E E'->t E ρ->t E' ρ
 run:∀ (HZ:Hp) (F:Addr->Prop),PS X st (liftS X.K HZ F t)
structure QSs (X:Cx) (sts:List Stmt) (t:TSp):Prop where
 mono:∀ E E' ρ,EnLe E E'->t E ρ->t E' ρ
 run:∀ (HZ:Hp) (F:Addr->Prop),PSs X sts (liftS X.K HZ F t)
section
variable {X:Cx} {st:Stmt} {sts:List Stmt} {t u:TSp} {e c:Expr} {te:TEp} {pos:Pos}
theorem a2X {t t':TS} (h:PS X st t) (w:∀ D σ H,t' D σ H->t D σ H):PS X st t':=fun pins s σ H D I q=>h pins s σ H D I (w D σ H q)
theorem PSs_imp {t t':TS} (h:PSs X sts t) (w:∀ D σ H,t' D σ H->t D σ H):PSs X sts t':=fun pins s σ H D I q=>h pins s σ H D I (w D σ H q)
def a1e:TSp:=fun E ρ=>E.nx ρ
def a0z (t u:TSp):TSp:=fun E ρ=>t { E with nx:=u E } ρ
theorem a1b:QSs X [] a1e:=⟨fun E E' ρ w h=>w.nx _ h,fun HZ F=>PSs_imp pss_nil fun D σ H ⟨ρ,E,fr,h,en⟩=>en.nx _ _ _ fr h⟩
theorem EnLe.with_nx {E E':En} {a b:List Sl->Prop} (w:EnLe E E') (h:∀ ρ,a ρ->b ρ):EnLe { E with nx:=a } { E' with nx:=b }:=⟨h,w.rt,w.bk,w.ct⟩
theorem a0f (h1:QS X st t) (h2:QSs X sts u):QSs X (st :: sts) (a0z t u):=by
 refine ⟨fun E E' ρ w h=>h1.mono _ _ _ (w.with_nx fun ρ h=>h2.mono _ _ _ w h) h,fun HZ F=>PSs_imp (pss_cons (h1.run HZ F) (h2.run HZ F)) fun D σ H ⟨ρ,E,fr,h,en⟩=>?_⟩
 exact ⟨ρ,_,fr,h,fun ρ' σ' H' fr' h'=>⟨ρ',E,fr',h',en⟩,en.bk,en.ct,en.rt⟩
theorem a0j (h1:QS X st t):QSs X [st] t:=⟨h1.mono,fun HZ F=>pss_one (h1.run HZ F)⟩
def sBreak:TSp:=fun E ρ=>E.bk ρ
def sCont:TSp:=fun E ρ=>E.ct ρ
theorem q_break:QS X (.Break pos) sBreak:=⟨fun E E' ρ w h=>w.bk _ h,fun HZ F=>a2X ps_break fun D σ H ⟨ρ,E,fr,h,en⟩=>en.bk _ _ _ fr h⟩
def a3N:TSp:=fun _ _=>False
theorem a3F:QS X st a3N:=⟨fun _ _ _ _ h=>h,fun HZ F=>a2X ps_never fun D σ H ⟨ρ,E,fr,h,en⟩=>h⟩
def sDrop (te:TEp):TSp:=fun E ρ=>te ρ fun _=>E.nx ρ
theorem q_expr (he:QE X e te) (hs:swapsWith e none pos.line X.env=pure false:=by rfl):QS X (.Expr e pos) (sDrop te):=
 ⟨fun E E' ρ w h=>he.mono _ _ _ (fun _ q=>w.nx _ q) h,fun HZ F=>a2X (a7q (he.run HZ F) hs) fun D σ H ⟨ρ,E,fr,h,en⟩=>he.step fr h fun r x H1 q S1 _=>en.nx _ _ _ (fr.mono S1) q⟩
noncomputable def R.out:R->R
 | .ow _ d=>.nw d
 | r=>r
theorem a3L.out {K:W.Frag} {HZ H H':Hp} {F:Addr->Prop} {σ:St} {ρ:List Sl} {x:V} {r:R} (fr:Fr K HZ F σ H ρ) (h:a3L K (MM F ρ) (Own ρ) H x r H'):a3L K F NoOwn HZ x r.out H':=by
 cases r with
 | v d=>exact Rep.weak (fun a z=>.inl z) h
 | nw d=>
  obtain ⟨a,e,n,o⟩:=h
  exact ⟨a,e,fr.same.free n,o.weak fun b z=>z.elim (fun z=>.inl (.inl z)) .inr⟩
 | ow a d=>
  obtain ⟨e,m,o⟩:=h
  refine ⟨a,e,fr.new a d m,o.weak fun b z=>?_⟩
  rcases z with z | z
  ·exact .inl z
  ·rw [z]; exact .inr ⟨d,m⟩
def a1W (te:TEp):TSp:=fun E ρ=>te ρ fun r=>E.rt r.out
def sRetN:TSp:=fun E _=>E.rt (.v .non)
theorem a1f (he:QE X e te):QS X (.Return (some e) pos) (a1W te):=
 ⟨fun E E' ρ w h=>he.mono _ _ _ (fun _ q=>w.rt _ q) h,fun HZ F=>a2X (ps_ret (he.run HZ F)) fun D σ H ⟨ρ,E,fr,h,en⟩=>he.step fr h fun r x H1 q S1 r1=>en.rt _ _ _ (fr.same.trans S1) (a3L.out fr r1) q⟩
def sIf (c:TTp) (t u:TSp):TSp:=fun E ρ=>c ρ fun b=>if b=true then t E ρ else u E ρ
theorem a4y {a b:List Stmt} {tc:TTp} (hc:QT X c tc) (ha:QSs X a t) (hb:QSs X b u):QS X (.If c a b pos) (sIf tc t u):=by
 refine ⟨fun E E' ρ w h=>hc.mono _ _ _ (fun k q=>?_) h,fun HZ F=>a2X (ps_if (hc.run HZ F) (ha.run HZ F) (hb.run HZ F)) fun D σ H ⟨ρ,E,fr,h,en⟩=>?_⟩
 ·split at q
  ·rw [if_pos ‹_›]; exact ha.mono _ _ _ w q
  ·rw [if_neg ‹_›]; exact hb.mono _ _ _ w q
 ·refine hc.step fr h fun k H1 q S1=>?_
  cases k with
  | true=>exact iteT ⟨ρ,E,fr.mono S1,by simpa using q,en⟩
  | false=>exact iteF ⟨ρ,E,fr.mono S1,by simpa using q,en⟩
end
section
variable {K:W.Frag} {HZ H H':Hp} {F:Addr->Prop} {σ:St} {ρ:List Sl}
theorem a3r {α:Type} {l:List α} {i j:Nat} {a b:α} (h:(l.set i a)[j]?=some b):(i=j/\i < l.length/\b=a) \/ (i ≠ j/\l[j]?=some b):=by
 by_cases e:i=j
 ·subst e
  by_cases hl:i < l.length
  ·rw [List.getElem?_set_self hl] at h
   exact .inl ⟨rfl,hl,(Option.some.inj h).symm⟩
  ·rw [List.getElem?_eq_none (by simp; ac_rfl)] at h
   cases h
 ·rw [List.getElem?_set_ne e] at h
  exact .inr ⟨e,h⟩
theorem MM.set {i:Nat} {s:Sl} (a:Addr) (h:MM F (ρ.set i s) a):MM F ρ a \/ ∃ d,s=.own a d:=by
 rcases h with h | ⟨d,h⟩
 ·exact .inl (.inl h)
 ·rcases List.mem_or_eq_of_mem_set h with h | h
  ·exact .inl (.inr ⟨d,h⟩)
  ·exact .inr ⟨d,h.symm⟩
theorem Fr.setv (fr:Fr K HZ F σ H ρ) {i:Nat} {x:V} {d:Dv} (r:Rep K (MM F ρ) H x d):Fr K HZ F (σ.set i (some x)) H (ρ.set i (.v d)):=by
 have wk:∀ a,MM F (ρ.set i (.v d)) a->MM F ρ a:=fun a h=>by
  rcases MM.set a h with h | ⟨_,h⟩
  ·exact h
  ·cases h
 refine ⟨by simp [fr.len],fun j s e=>?_,fun j k a d1 d2 e1 e2=>?_,fun a d1 h=>?_,fr.same,fr.old⟩
 ·rcases a3r e with ⟨rfl,hl,rfl⟩ | ⟨ne,e⟩
  ·exact ⟨x,by rw [List.getElem?_set_self (by rw [fr.len]; exact hl)],r.weak wk⟩
  ·rw [List.getElem?_set_ne ne]
   exact (fr.sl j s e).weak wk
 ·rcases a3r e1 with ⟨_,_,z⟩ | ⟨_,e1⟩
  ·cases z
  ·rcases a3r e2 with ⟨_,_,z⟩ | ⟨_,e2⟩
   ·cases z
   ·exact fr.nd j k a d1 d2 e1 e2
 ·rcases List.mem_or_eq_of_mem_set h with h | h
  ·exact fr.new a d1 h
  ·cases h
theorem SlOk.gen {M M':Addr->Prop} {o:Option (Option V)} {s:Sl} (G:Gen K M M' H H') (hs:∀ a d,s=.own a d -> ∀ u,H a=some u->H' a=some u) (h:SlOk K M H o s):SlOk K M' H' o s:=by
 cases s with
 | un=>trivial
 | v d=>obtain ⟨x,e,r⟩:=h; exact ⟨x,e,r.gen G⟩
 | own a d=>exact ⟨h.1,h.2.gen G (hs a d rfl)⟩
theorem Fr.seto (fr:Fr K HZ F σ H ρ) (S:a0F H H') {i:Nat} {a:Addr} {d:Dv} (ha:H a=none) (o:a3a K (fun b=>MM F ρ b \/ b=a) H' a d):Fr K HZ F (σ.set i (some (.ref a))) H' (ρ.set i (.own a d)):=by
 have wk:∀ b,MM F (ρ.set i (.own a d)) b->MM F ρ b \/ b=a:=fun b h=>by
  rcases MM.set b h with h | ⟨_,h⟩
  ·exact .inl h
  ·cases h; exact .inr rfl
 have G:Gen K (MM F ρ) (MM F (ρ.set i (.own a d))) H H':=((Gen.fresh ha).trans (.mono S)).trans (.weak wk)
 have ne:∀ (j:Nat) (b:Addr) (d':Dv),ρ[j]?=some (Sl.own b d')->b ≠ a:=fun j b d' e z=>by
  have:=(fr.sl j _ e).2.mut
  obtain ⟨u,hu,_⟩:=this
  rw [z,ha] at hu
  cases hu
 refine ⟨by simp [fr.len],fun j s e=>?_,fun j k b d1 d2 e1 e2=>?_,fun b d1 h=>?_,fr.same.trans S,fr.old⟩
 ·rcases a3r e with ⟨rfl,hl,rfl⟩ | ⟨hne,e⟩
  ·exact ⟨by rw [List.getElem?_set_self (by rw [fr.len]; exact hl)],o.weak wk⟩
  ·rw [List.getElem?_set_ne hne]
   exact (fr.sl j s e).gen G fun b d' _ u hu=>S _ _ hu
 ·rcases a3r e1 with ⟨h1,_,z⟩ | ⟨_,e1⟩
  ·rcases a3r e2 with ⟨h2,_,z'⟩ | ⟨_,e2⟩
   ·ac_rfl
   ·cases z
    exact absurd rfl (ne k _ _ e2)
  ·rcases a3r e2 with ⟨h2,_,z'⟩ | ⟨_,e2⟩
   ·cases z'
    exact absurd rfl (ne j _ _ e1)
   ·exact fr.nd j k b d1 d2 e1 e2
 ·rcases List.mem_or_eq_of_mem_set h with h | h
  ·exact fr.new b d1 h
  ·cases h
   exact fr.same.free ha
theorem Fr.write (fr:Fr K HZ F σ H ρ) {i:Nat} {a:Addr} {d d':Dv} {o:HO} (hi:ρ[i]?=some (.own a d)) (n:a3a K (MM F ρ) (upd H a o) a d'):Fr K HZ F σ (upd H a o) (ρ.set i (.own a d')):=by
 have mem:Sl.own a d ∈ ρ:=List.mem_of_getElem? hi
 have wk:∀ b,MM F (ρ.set i (.own a d')) b->MM F ρ b:=fun b h=>by
  rcases MM.set b h with h | ⟨_,h⟩
  ·exact h
  ·cases h; exact .inr ⟨d,mem⟩
 obtain ⟨hs,ow⟩:=fr.sl i _ hi
 obtain ⟨u,hu,mu⟩:=ow.mut
 have mu':Mut (H a):=by rw [hu]; exact mu
 have G:Gen K (MM F ρ) (MM F (ρ.set i (.own a d'))) H (upd H a o):=(Gen.write (.inr ⟨d,mem⟩) mu').trans (.weak wk)
 refine ⟨by simp [fr.len],fun j s e=>?_,fun j k b d1 d2 e1 e2=>?_,fun b d1 h=>?_,fun b q e=>?_,fr.old⟩
 ·rcases a3r e with ⟨rfl,hl,rfl⟩ | ⟨hne,ej⟩
  ·exact ⟨hs,n.weak wk⟩
  ·refine (fr.sl j s ej).gen G fun b d2 es u hu=>?_
   subst es
   rw [a0G fun z=>hne ?_]
   ·exact hu
   ·subst z; exact fr.nd i j _ d d2 hi ej
 ·rcases a3r e1 with ⟨h1,_,z⟩ | ⟨_,e1⟩
  ·cases z
   rcases a3r e2 with ⟨h2,_,z'⟩ | ⟨_,e2⟩
   ·ac_rfl
   ·rw [<- h1]; exact fr.nd i k _ d d2 hi e2
  ·rcases a3r e2 with ⟨h2,_,z'⟩ | ⟨_,e2⟩
   ·cases z'
    rw [<- h2]; exact fr.nd j i _ d1 d e1 hi
   ·exact fr.nd j k b d1 d2 e1 e2
 ·rcases List.mem_or_eq_of_mem_set h with h | h
  ·exact fr.new b d1 h
  ·cases h
   exact fr.new _ d mem
 ·rw [a0G ?_]
  ·exact fr.same b q e
  ·intro z
   subst z
   rw [fr.new _ d mem] at e
   cases e
noncomputable def freeze (i:Nat) (ρ:List Sl):List Sl:=match ρ[i]? with
 | some (.own _ d)=>ρ.set i (.v d)
 | _=>ρ
end
section
variable {X:Cx} {e:Expr} {te:TEp} {pos pos':Pos} {sts:List Stmt} {t:TSp}
def a1l (i:Nat) (te:TEp):TSp:=fun E ρ=>te ρ fun r=>match r with
 | .v d=>E.nx (ρ.set i (.v d))
 | .nw d=>E.nx (ρ.set i (.v d))
 | .ow _ _=>False
def a5r (i:Nat) (te:TEp):TSp:=fun E ρ=>te ρ fun r=>match r with
 | .v d=>E.nx (ρ.set i (.v d))
 | .nw d=>∀ a,E.nx (ρ.set i (.own a d))
 | .ow _ _=>False
def sFrz (i:Nat) (t:TSp):TSp:=fun E ρ=>t E (freeze i ρ)
theorem a1m {i:Nat} {x:Str} (hN:X.N.Nodup) (hi:X.N[i]?=some x) (hx:Loc X.env.scope x) (he:QE X e te) (hs:swapsWith e (some (.Name x pos')) pos.line X.env=pure false:=by rfl) (hf:X.fn x=true \/ X.env.scope.names.lookup x=some .local:=by first | exact .inl rfl | exact .inr rfl | assumption):
  QS X (.Assign [.Name x pos'] e pos) (a1l i te):=by
 refine ⟨fun E E' ρ w h=>he.mono _ _ _ (fun r q=>?_) h,fun HZ F=>a2X (ps_set hN hi hx (he.run HZ F) hs hf) fun D σ H ⟨ρ,E,fr,h,en⟩=>?_⟩
 ·cases r with
  | v d=>exact w.nx _ q
  | nw d=>exact w.nx _ q
  | ow a d=>exact q
 ·refine he.step fr h fun r x H1 q S1 r1=>?_
  cases r with
  | v d=>exact en.nx _ _ _ ((fr.mono S1).setv r1) q
  | nw d=>exact en.nx _ _ _ ((fr.mono S1).setv (r1.rep (fun a m=>fr.dom m) rfl)) q
  | ow a d=>exact q.elim
theorem a4w {i:Nat} {x:Str} (hN:X.N.Nodup) (hi:X.N[i]?=some x) (hx:Loc X.env.scope x) (he:QE X e te) (hs:swapsWith e (some (.Name x pos')) pos.line X.env=pure false:=by rfl) (hf:X.fn x=true \/ X.env.scope.names.lookup x=some .local:=by first | exact .inl rfl | exact .inr rfl | assumption):
  QS X (.Assign [.Name x pos'] e pos) (a5r i te):=by
 refine ⟨fun E E' ρ w h=>he.mono _ _ _ (fun r q=>?_) h,fun HZ F=>a2X (ps_set hN hi hx (he.run HZ F) hs hf) fun D σ H ⟨ρ,E,fr,h,en⟩=>?_⟩
 ·cases r with
  | v d=>exact w.nx _ q
  | nw d=>exact fun a=>w.nx _ (q a)
  | ow a d=>exact q
 ·refine he.step fr h fun r x H1 q S1 r1=>?_
  cases r with
  | v d=>exact en.nx _ _ _ ((fr.mono S1).setv r1) q
  | nw d=>
   obtain ⟨a,rfl,ha,o⟩:=r1
   exact en.nx _ _ _ (fr.seto S1 ha o) (q a)
  | ow a d=>exact q.elim
def sAug (i:Nat) (p:Dv->Dv->(R->Prop)->Prop) (te:TEp):TSp:=fun E ρ=>match ρ[i]? with
 | some (.v d)=>te ρ fun r=>p d r.d fun z=>match z with
  | .v d'=>E.nx (ρ.set i (.v d'))
  | _=>False
 | _=>False
def sApp (i:Nat) (te:TEp):TSp:=fun E ρ=>match ρ[i]? with
 | some (.own a (.lst xs))=>te ρ fun r=>(r.free=true/\xs.length < LIM)/\E.nx (ρ.set i (.own a (.lst (xs ++ [r.d]))))
 | _=>False
theorem lim_lt {n:Nat} (h:n < LIM):n < sizeLine:=Nat.lt_of_lt_of_le h (a3B (Nat.le_refl _))
theorem q_app {i:Nat} {x:Str} {p1 p2 p3:Pos} (hv:PE X (.Name x p1) (tVar i)) (he:QE X e te) (hs:swapsWith (.Call (.Attribute (.Name x p1) "append" p2) [e] [] p3) none pos.line X.env=pure false:=by rfl)
  (hbase:attributeBase (.Name x p1) "append" X.env (eval (.Name x p1) X.env)=eval (.Name x p1) X.env:=by rfl)
  (hfew:((backTo p3 (starEach [e] X.env)).all (fun x=>!x.1) && (backToKw p3 (keywordEach [] X.env)).all (fun x=>x.1.isSome)
   && decide ([e].length + ([]:List Keyword).length + (if ([]:List Keyword).isEmpty then 0 else 1) < 30))=true:=by rfl)
  (hline:(p2.endLine == p3.line)=true:=by rfl) (hst:starEach [e] X.env=(false,eval e X.env) :: starEach [] X.env:=by rfl) (hplain:(backTo p3 (starEach [] X.env)).any (·.1)=false:=by rfl):
  QS X (.Expr (.Call (.Attribute (.Name x p1) "append" p2) [e] [] p3) pos) (sApp i te):=by
 refine ⟨fun E E' ρ w h=>?_,fun HZ F=>a2X (a7q (pe_bm PySem.F.plainAttrs_list PySem.F.slot_list_append PySem.F.type_list_append mt_append hv (a6f (he.run HZ F) pa_nil hst) hbase hfew hline hst hplain) hs) fun D σ H ⟨ρ,E,fr,h,en⟩=>?_⟩
 ·unfold sApp at *
  split at h
  ·exact he.mono _ _ _ (fun r q=>⟨q.1,w.nx _ q.2⟩) h
  ·exact h
 ·unfold sApp at h
  split at h
  ·rename_i a xs hx
   obtain ⟨hs1,vs,hv1,rv1⟩:=fr.sl i _ hx
   refine ⟨_,hs1,.inl ⟨rfl,_,SqL.of hv1⟩,he.step fr h fun r y H1 q S1 r1=>?_⟩
   obtain ⟨⟨qf,ql⟩,q2⟩:=q
   have rep:=r1.rep (fun a m=>fr.dom m) qf
   have hv2:=S1 _ _ hv1
   refine ⟨a,vs,y,rfl,rfl,hv2,by rw [rv1.length]; exact lim_lt ql,?_⟩
   refine en.nx _ _ _ ((fr.mono S1).write (d':=.lst (xs ++ [r.d])) hx ⟨_,a0I,?_⟩) q2
   have G:Gen X.K (MM F ρ) (MM F ρ) H1 (upd H1 a (.lst (vs ++ [y]))):=Gen.write (.inr ⟨_,List.mem_of_getElem? hx⟩) (by rw [hv2]; trivial)
   exact ((rv1.mono S1).append (.cons rep .nil)).gen G
  ·exact h.elim
end
end Z
namespace Z
open PySem PySem.Spec PyProof.Rows L2
open Classical in
noncomputable def prot (H:Hp) (ρ:List Sl):Hp:=fun b=>if ∃ d,Sl.own b d ∈ ρ then none else H b
section
variable {K:W.Frag} {HZ H H1 H':Hp} {F:Addr->Prop} {σ σ':St} {ρ ρ':List Sl}
theorem a9a {b:Addr} {d:Dv} (h:Sl.own b d ∈ ρ):prot H ρ b=none:=by unfold prot; rw [if_pos ⟨d,h⟩]
theorem a1j {b:Addr} (h:¬ ∃ d,Sl.own b d ∈ ρ):prot H ρ b=H b:=by unfold prot; rw [if_neg h]
theorem a5L {b:Addr} {o:HO} (h:prot H ρ b=some o):H b=some o:=by
 by_cases c:∃ d,Sl.own b d ∈ ρ
 ·obtain ⟨d,c⟩:=c
  rw [a9a c] at h
  cases h
 ·rw [a1j c] at h
  exact h
theorem prot_none (h:prot H ρ b=none):(∃ d,Sl.own b d ∈ ρ) \/ H b=none:=by
 by_cases c:∃ d,Sl.own b d ∈ ρ
 ·exact .inl c
 ·rw [a1j c] at h
  exact .inr h
theorem Fr.prot (fr:Fr K HZ F σ H ρ):Fr K (prot H ρ) F σ H ρ:=by
 refine ⟨fr.len,fr.sl,fr.nd,fun a d h=>a9a h,fun b o h=>a5L h,fun a h=>?_,fun P q z=>?_⟩
 ·rw [a1j ?_]
  ·exact fr.dom (.inl h)
  ·rintro ⟨d,c⟩
   exact fr.old.f a h (fr.new a d c)
 ·have e:=fr.old.t P q z
  rw [a1j ?_]
  ·exact fr.same _ _ e
  ·rintro ⟨d,c⟩
   rw [fr.new P d c] at e
   cases e
theorem Fr.free_of (fr:Fr K HZ F σ H ρ) {b:Addr} (h:Z.prot H ρ b=none):HZ b=none:=by
 rcases prot_none h with ⟨d,c⟩ | h
 ·exact fr.new b d c
 ·exact fr.same.free h
theorem Fr.same_of (fr:Fr K HZ F σ H ρ) (S:a0F (Z.prot H ρ) H'):a0F HZ H':=fun b o e=>by
 refine S b o ?_
 rw [a1j ?_]
 ·exact fr.same b o e
 ·rintro ⟨d,c⟩
  rw [fr.new b d c] at e
  cases e
theorem Fr.unprot (fr:Fr K HZ F σ H ρ) (g:Fr K (Z.prot H ρ) F σ' H' ρ'):Fr K HZ F σ' H' ρ':=
 ⟨g.len,g.sl,g.nd,fun a d h=>fr.free_of (g.new a d h),fr.same_of g.same,fr.old⟩
theorem Fr.gen (fr:Fr K HZ F σ H ρ) (g:Fr K (Z.prot H ρ) F σ' H' ρ'):Gen K (MM F ρ) (MM F ρ') H H':=by
 have no:∀ a o,H a=some o -> ¬ MM F ρ a->Z.prot H ρ a=some o:=fun a o e m=>by
  rw [a1j fun c=>m (.inr c)]
  exact e
 have no2:∀ a o,H a=some o -> ¬ Mut (some o)->Z.prot H ρ a=some o:=fun a o e m=>by
  rw [a1j ?_]
  ·exact e
  ·rintro ⟨d,c⟩
   obtain ⟨_,_,_,ow⟩:=fr.at_own c
   obtain ⟨u,hu,mu⟩:=ow.mut
   rw [e] at hu
   cases hu
   exact m mu
 refine ⟨fun a o e mu m=>⟨g.same _ _ (no a o e m),?_⟩,fun a xs e=>g.same _ _ (no2 a _ e fun z=>z),fun a ns e=>?_,fun a o u e=>g.same _ _ (no2 a _ e fun z=>z)⟩
 ·rintro (h | ⟨d,h⟩)
  ·exact m (.inl h)
  ·have:=g.new a d h
   rw [no a o e m] at this
   cases this
 ·rcases e with ⟨o,e⟩ | e
  ·exact .inl ⟨o,g.same _ _ (no2 a _ e fun z=>z)⟩
  ·exact .inr e
theorem Ent.prot {E:En} {D:Ends} (fr:Fr K HZ F σ H ρ) (en:Ent K HZ F E D):Ent K (Z.prot H ρ) F E D:=by
 refine ⟨fun ρ' σ' H' g h=>en.nx _ _ _ (fr.unprot g) h,fun ρ' σ' H' g h=>en.bk _ _ _ (fr.unprot g) h,fun ρ' σ' H' g h=>en.ct _ _ _ (fr.unprot g) h,fun r x H' S rr h=>en.rt r x H' (fr.same_of S) ?_ h⟩
 cases r with
 | v d=>exact rr
 | ow a d=>exact rr
 | nw d=>obtain ⟨a,e,n,o⟩:=rr; exact ⟨a,e,fr.free_of n,o⟩
end
abbrev TIp:=List Sl->(List Dv->List (Addr × List Dv)->Prop)->Prop
def guard (ogs:List (Addr × List Dv)) (ρ:List Sl):Prop:=∀ p ∈ ogs,Sl.own p.1 (.lst p.2) ∈ ρ
def ItOk (K:W.Frag) (P:Hp) (M:Addr->Prop) (H1:Hp) (J:It) (ds:List Dv) (ogs:List (Addr × List Dv)):Prop:=
 ∀ (i:Nat) (H':Hp) (M':Addr->Prop),a0F P H'->Gen K M M' H1 H'->(∀ p ∈ ogs,a3a K M' H' p.1 (.lst p.2)) ->
  (∀ d,ds[i]?=some d->J.go i H' /\ ∀ y H'',J.yld i H' y H''->a0F H' H''/\Rep K M' H'' y d)/\(ds.length<=i->J.stop i H')
structure QI (X:Cx) (tg iter:Expr) (ti:TIp):Prop where
 mono:∀ (ρ:List Sl) (Q Q':List Dv->List (Addr × List Dv)->Prop),(∀ ds g,Q ds g->Q' ds g)->ti ρ Q->ti ρ Q'
 run:∀ (HZ:Hp) (F:Addr->Prop),∃ wi,PI X tg iter wi /\ ∀ (σ:St) (H:Hp) (ρ:List Sl) (R:It->Hp->Prop),Fr X.K HZ F σ H ρ ->
  ti ρ (fun ds ogs=>∀ J H1,a0F H H1->guard ogs ρ->ItOk X.K (prot H1 ρ) (MM F ρ) H1 J ds ogs->R J H1)->wi σ H R
section
variable {X:Cx} {tg l:Expr} {tl:TEp}
def iSeqL (K:W.Frag) (tl:TE):TI:=fun σ H R=>tl σ H fun x H1=>∃ a,x=.ref a/\(((∃ xs,SqL K H1 a xs)/\R (Itl K a) H1) \/ ((∃ xs,SqT K H1 a xs)/\R (Itt K a) H1))
theorem pi_seq {l:Expr} {tl:TE} (hl:PE X l tl):PI X tg l (iSeqL X.K tl):=by
 intro pins s σ H R I h
 refine thn (hl pins s σ H _ I h) fun v s1 ⟨x,H1,I1,r1,q1⟩=>?_
 obtain ⟨a,e,q1⟩:=q1
 subst e
 cases r1
 rcases q1 with ⟨⟨xs,hq⟩,q⟩ | ⟨⟨xs,hq⟩,q⟩
 ·obtain ⟨its,rv,p,hz⟩:=I1.list hq
  refine wpAny_pyIter_list p.isList ?_
  refine ⟨s1.heap.objs.size,[s1.heap.objs.size],_,_,H1,rfl,I1.kept (t':=s1.toks) fun b o e=>Heap.get?_push_of_some _ e,turn_list a _,⟨_,Heap.get?_push_size _ rfl,rfl,rfl⟩,fun b hb=>?_,q⟩
  have e:b=s1.heap.objs.size:=by simpa using hb
  subst e
  exact I1.fpOk (Nat.le_refl _) (I1.hok.fresh (Nat.le_refl _))
 ·obtain ⟨its,rv,p,hz⟩:=I1.tuple hq
  refine wpAny_pyIter_tuple (show s1.heap.IsTuple a its.toArray from p) ?_
  refine ⟨s1.heap.objs.size,[s1.heap.objs.size],_,_,H1,rfl,I1.kept (t':=s1.toks) fun b o e=>Heap.get?_push_of_some _ e,turn_tuple a _,⟨_,Heap.get?_push_size _ rfl,rfl,rfl⟩,fun b hb=>?_,q⟩
  have e:b=s1.heap.objs.size:=by simpa using hb
  subst e
  exact I1.fpOk (Nat.le_refl _) (I1.hok.fresh (Nat.le_refl _))
def a6L (tl:TEp):TIp:=fun ρ Q=>tl ρ fun r=>match r with
 | .v (.lst ds)=>Q ds []
 | .nw (.lst ds)=>Q ds []
 | .ow a (.lst ds)=>Q ds [(a,ds)]
 | .v (.tup ds)=>Q ds []
 | .v (.scr ns)=>Q (ns.map .int) []
 | _=>False
theorem itok_list {K:W.Frag} {P:Hp} {M:Addr->Prop} {H1:Hp} {a:Addr} {xs:List V} {ds:List Dv} (hP:P a=some (.lst xs)) (r:Reps K M H1 xs ds):ItOk K P M H1 (Itl K a) ds []:=by
 intro i H' M' S G _
 have h':=S _ _ hP
 refine ⟨fun d e=>?_,fun h=>⟨xs,SqL.of h',by rw [r.length]; exact h⟩⟩
 obtain ⟨x,hx,rx⟩:=r.get e
 refine ⟨⟨xs,x,SqL.of h',hx⟩,fun y H'' ⟨e1,e2⟩=>?_⟩
 subst e1
 have:=e2 xs (SqL.of h')
 rw [hx] at this
 cases this
 exact ⟨a0F.refl _,rx.gen G⟩
theorem itok_own {K:W.Frag} {P:Hp} {M:Addr->Prop} {H1:Hp} {a:Addr} {ds:List Dv}:ItOk K P M H1 (Itl K a) ds [(a,ds)]:=by
 intro i H' M' S G ow
 obtain ⟨xs,h',r⟩:=ow (a,ds) (by simp)
 refine ⟨fun d e=>?_,fun h=>⟨xs,SqL.of h',by rw [r.length]; exact h⟩⟩
 obtain ⟨x,hx,rx⟩:=r.get e
 refine ⟨⟨xs,x,SqL.of h',hx⟩,fun y H'' ⟨e1,e2⟩=>?_⟩
 subst e1
 have:=e2 xs (SqL.of h')
 rw [hx] at this
 cases this
 exact ⟨a0F.refl _,rx⟩
theorem itok_tup {K:W.Frag} {P:Hp} {M:Addr->Prop} {H1:Hp} {a:Addr} {xs:List V} {ds:List Dv} (hP:P a=some (.tup xs)) (r:Reps K M H1 xs ds):ItOk K P M H1 (Itt K a) ds []:=by
 intro i H' M' S G _
 have h':=S _ _ hP
 refine ⟨fun d e=>?_,fun h=>⟨xs,SqT.of h',by rw [r.length]; exact h⟩⟩
 obtain ⟨x,hx,rx⟩:=r.get e
 refine ⟨⟨xs,x,SqT.of h',hx⟩,fun y H'' ⟨e1,e2⟩=>?_⟩
 subst e1
 have:=e2 xs (SqT.of h')
 rw [hx] at this
 cases this
 exact ⟨a0F.refl _,rx.gen G⟩
theorem itok_scr {K:W.Frag} {P:Hp} {M:Addr->Prop} {H1:Hp} {a:Addr} {ns:List Int} (hP:Scr K P a ns):ItOk K P M H1 (Itl K a) (ns.map .int) []:=by
 intro i H' M' S G _
 have h':=(a0F.scr S hP).sq
 refine ⟨fun d e=>?_,fun h=>⟨_,h',by simpa using h⟩⟩
 have r:Reps K M' H' (ns.map V.int) (ns.map .int):=Reps.ints ns
 obtain ⟨x,hx,rx⟩:=r.get e
 refine ⟨⟨_,x,h',hx⟩,fun y H'' ⟨e1,e2⟩=>?_⟩
 subst e1
 have:=e2 _ h'
 rw [hx] at this
 cases this
 exact ⟨a0F.refl _,rx⟩
theorem not_own {K:W.Frag} {HZ:Hp} {F:Addr->Prop} {σ:St} {H:Hp} {ρ:List Sl} {a:Addr} {o:HO} (fr:Fr K HZ F σ H ρ) (e:H a=some o) (m:¬ Mut (some o)):¬ ∃ d,Sl.own a d ∈ ρ:=by
 rintro ⟨d,c⟩
 obtain ⟨_,_,_,ow⟩:=fr.at_own c
 obtain ⟨u,hu,mu⟩:=ow.mut
 rw [e] at hu
 cases hu
 exact m mu
theorem a2U (h:QE X l tl):QI X tg l (a6L tl):=by
 refine ⟨fun ρ Q Q' w q=>h.mono _ _ _ (fun r q=>?_) q,fun HZ F=>⟨_,pi_seq (h.run HZ F),fun σ H ρ R fr q=>?_⟩⟩
 ·unfold a6L at *
  split at q <;> first | exact w _ _ q | exact q
 ·refine h.step fr q fun r x H1 q S1 r1=>?_
  have fr1:=fr.mono S1
  split at q
  ·rename_i ds
   cases r1 with
   | lst e m rs=>
    exact ⟨_,rfl,.inl ⟨⟨_,SqL.of e⟩,q _ H1 S1 (by intro p hp; simp at hp) (itok_list (by rw [a1j fun c=>m (.inr c)]; exact e) rs)⟩⟩
  ·rename_i ds
   obtain ⟨a,rfl,n,xs,e,rs⟩:=r1
   exact ⟨_,rfl,.inl ⟨⟨_,SqL.of e⟩,q _ H1 S1 (by intro p hp; simp at hp) (itok_list (by rw [a1j fun c=>fr.fresh n (.inr c)]; exact e) (rs.weak fun b z=>.inl z))⟩⟩
  ·rename_i a ds
   obtain ⟨rfl,m,xs,e,rs⟩:=r1
   exact ⟨_,rfl,.inl ⟨⟨_,SqL.of e⟩,q _ H1 S1 (by intro p hp; simp at hp; subst hp; exact m) itok_own⟩⟩
  ·rename_i ds
   cases r1 with
   | tup e rs=>exact ⟨_,rfl,.inr ⟨⟨_,SqT.of e⟩,q _ H1 S1 (by intro p hp; simp at hp) (itok_tup (by rw [a1j (not_own fr1 e fun z=>z)]; exact e) rs)⟩⟩
  ·rename_i ns
   cases r1 with
   | scr e=>
    refine ⟨_,rfl,.inl ⟨⟨_,e.sq⟩,q _ H1 S1 (by intro p hp; simp at hp) (itok_scr ?_)⟩⟩
    rcases e with ⟨o,e⟩ | e
    ·exact .inl ⟨o,by rw [a1j (not_own fr1 e fun z=>z)]; exact e⟩
    ·exact .inr e
  ·exact q.elim
noncomputable def a0W (lo:Int) (n:Nat):List Dv:=(List.range n).map fun (k:Nat)=>Dv.int (lo + (k:Int))
theorem rangeD_get {lo:Int} {n i:Nat} {d:Dv} (h:(a0W lo n)[i]?=some d):i < n/\d=.int (lo + i):=by
 unfold a0W at h
 rw [List.getElem?_map] at h
 cases e:(List.range n)[i]? with
 | none=>rw [e] at h; cases h
 | some k=>
  rw [e] at h
  obtain ⟨h1,h2⟩:=List.getElem?_eq_some_iff.mp e
  simp at h1 h2
  subst h2
  exact ⟨h1,(Option.some.inj h).symm⟩
theorem a8z {K:W.Frag} {P:Hp} {M:Addr->Prop} {H1:Hp} {lo:Int} {n:Nat}:ItOk K P M H1 (Itr lo n) (a0W lo n) []:=by
 intro i H' M' S G _
 refine ⟨fun d e=>?_,fun h=>(show n<=i by simpa [a0W] using h)⟩
 obtain ⟨h1,h2⟩:=rangeD_get e
 subst h2
 refine ⟨h1,fun y H'' ⟨e1,e2⟩=>?_⟩
 subst e1 e2
 exact ⟨a0F.refl _,.int _⟩
def a2e (ts:TAp):TIp:=fun ρ Q=>ts ρ fun rs=>match rs.map R.d with
 | [.int j]=>(-(2 ^ 62)<=j/\j < 2 ^ 62)/\Q (a0W 0 j.toNat) []
 | _=>False
def a7J (ts:TAp):TIp:=fun ρ Q=>ts ρ fun rs=>match rs.map R.d with
 | [.int i,.int j]=>(-(2 ^ 62)<=i/\i < 2 ^ 62 /\ -(2 ^ 62)<=j/\j < 2 ^ 62)/\Q (a0W i (j - i).toNat) []
 | _=>False
theorem a1Y {K:W.Frag} {M:Addr->Prop} {H:Hp} {xs:List V} {d:Dv} (h:CReps K M H xs [d]):∃ x,xs=[x]/\a3C K M H x d:=by
 cases h with
 | cons a t=>cases t; exact ⟨_,rfl,a⟩
theorem creps2 {K:W.Frag} {M:Addr->Prop} {H:Hp} {xs:List V} {d d':Dv} (h:CReps K M H xs [d,d']):∃ x y,xs=[x,y]/\a3C K M H x d/\a3C K M H y d':=by
 cases h with
 | cons a t=>
  obtain ⟨y,rfl,b⟩:=a1Y t
  exact ⟨_,_,rfl,a,b⟩
theorem a2s {a:Expr} {ts:TAp} {p pos:Pos} (hg:Gl X "range") (hm:X.mg "range" = none) (ha:QA X [a] ts) (hs:starEach [a] X.env=[(false,eval a X.env)]:=by rfl):QI X tg (.Call (.Name "range" p) [a] [] pos) (a2e ts):=by
 refine ⟨fun ρ Q Q' w q=>ha.mono _ _ _ (fun r q=>?_) q,fun HZ F=>⟨_,pi_range1 hg hm (ha.run HZ F) hs,fun σ H ρ R fr q=>?_⟩⟩
 ·split at q
  ·exact ⟨q.1,w _ _ q.2⟩
  ·exact q
 ·refine ha.step fr q fun rs xs H1 q S1 r1=>?_
  split at q
  ·rename_i j e
   have c:=r1.c
   rw [e] at c
   obtain ⟨x,rfl,cx⟩:=a1Y c
   obtain rfl:=cx.int
   exact ⟨j,rfl,q.1.1,q.1.2,q.2 _ H1 S1 (by intro p hp; simp at hp) a8z⟩
  ·exact q.elim
theorem q_iRange2 {a b:Expr} {ts:TAp} {p pos:Pos} (hg:Gl X "range") (hm:X.mg "range" = none) (ha:QA X [a,b] ts) (hs:starEach [a,b] X.env=[(false,eval a X.env),(false,eval b X.env)]:=by rfl) (hs2:starEach [b] X.env=[(false,eval b X.env)]:=by rfl):
  QI X tg (.Call (.Name "range" p) [a,b] [] pos) (a7J ts):=by
 refine ⟨fun ρ Q Q' w q=>ha.mono _ _ _ (fun r q=>?_) q,fun HZ F=>⟨_,pi_range2 hg hm (ha.run HZ F) hs hs2,fun σ H ρ R fr q=>?_⟩⟩
 ·split at q
  ·exact ⟨q.1,w _ _ q.2⟩
  ·exact q
 ·refine ha.step fr q fun rs xs H1 q S1 r1=>?_
  split at q
  ·rename_i i j e
   have c:=r1.c
   rw [e] at c
   obtain ⟨x,y,rfl,cx,cy⟩:=creps2 c
   obtain rfl:=cx.int
   obtain rfl:=cy.int
   exact ⟨i,j,rfl,q.1,q.2 _ H1 S1 (by intro p hp; simp at hp) a8z⟩
  ·exact q.elim
end
abbrev TGp:=Dv->List Sl->(List Sl->Prop)->Prop
structure QG (X:Cx) (tg:Expr) (k:Nat) (g:TGp):Prop where
 mono:∀ d ρ (Q Q':List Sl->Prop),(∀ ρ,Q ρ->Q' ρ)->g d ρ Q->g d ρ Q'
 agree:∀ d ρ (Q:List Sl->Prop),g d ρ Q->g d ρ fun ρ1=>Q ρ1/\ρ1.length=ρ.length /\ ∀ j,k<=j->ρ1[j]?=ρ[j]?
 run:∃ t,PG X tg t /\ ∀ (HZ:Hp) (F:Addr->Prop) (v:V) (d:Dv) (σ:St) (H:Hp) (ρ:List Sl) (Q:St->Hp->Prop),Fr X.K HZ F σ H ρ->Rep X.K (MM F ρ) H v d ->
  g d ρ (fun ρ1=>∀ σ1,Fr X.K HZ F σ1 H ρ1->(∀ j,k<=j->σ1[j]?=σ[j]?)->Q σ1 H)->t v σ H Q
def gN (i:Nat):TGp:=fun d ρ Q=>Q (ρ.set i (.v d))
noncomputable def a5K:List Nat->List Dv->List Sl->List Sl
 | i :: is,d :: ds,ρ=>a5K is ds (ρ.set i (.v d))
 | _,_,ρ=>ρ
def gT (is:List Nat):TGp:=fun d ρ Q=>match d with
 | .tup ds=>ds.length=is.length/\Q (a5K is ds ρ)
 | _=>False
noncomputable def gsN:List Nat->TGs
 | []=>gNil
 | i :: is=>gCons (gName i) (gsN is)
theorem a8r:∀ (is:List Nat) (ds:List Dv) (ρ:List Sl),(a5K is ds ρ).length=ρ.length
 | [],_,_=>rfl
 | _ :: _,[],_=>rfl
 | i :: is,d :: ds,ρ=>by rw [a5K,a8r is ds]; simp
theorem a8s {k:Nat}:∀ (is:List Nat) (ds:List Dv) (ρ:List Sl),(∀ i ∈ is,i < k) -> ∀ j,k<=j->(a5K is ds ρ)[j]?=ρ[j]?
 | [],_,_,_,_,_=>rfl
 | _ :: _,[],_,_,_,_=>rfl
 | i :: is,d :: ds,ρ,h,j,hj=>by
  have:=h i (by simp)
  rw [a5K,a8s is ds _ (fun i hi=>h i (by simp [hi])) j hj,List.getElem?_set_ne (by ac_rfl)]
section
variable {X:Cx} {pos:Pos}
theorem a6J {i k:Nat} {x:Str} (hN:X.N.Nodup) (hi:X.N[i]?=some x) (hx:Loc X.env.scope x) (hk:i < k:=by decide) (hf:X.fn x=true \/ X.env.scope.names.lookup x=some .local:=by first | exact .inl rfl | exact .inr rfl | assumption):QG X (.Name x pos) k (gN i):=by
 refine ⟨fun d ρ Q Q' w q=>w _ q,fun d ρ Q q=>⟨q,by simp,fun j hj=>by rw [List.getElem?_set_ne (by ac_rfl)]⟩,_,a1n hN hi hx hf,fun HZ F v d σ H ρ Q fr r q=>?_⟩
 exact q _ (fr.setv r) fun j hj=>by rw [List.getElem?_set_ne (by ac_rfl)]
theorem gsN_run {K:W.Frag} {HZ:Hp} {F:Addr->Prop} {H:Hp} {k:Nat}:∀ (is:List Nat) (ds:List Dv) (vs:List V) (σ:St) (ρ:List Sl) (Q:St->Hp->Prop),(∀ i ∈ is,i < k)->ds.length=is.length->Fr K HZ F σ H ρ->Reps K (MM F ρ) H vs ds ->
  (∀ σ1,Fr K HZ F σ1 H (a5K is ds ρ)->(∀ j,k<=j->σ1[j]?=σ[j]?)->Q σ1 H)->gsN is vs σ H Q
 | [],[],_,σ,ρ,Q,_,_,fr,.nil,q=>⟨rfl,q σ fr fun _ _=>rfl⟩
 | i :: is,d :: ds,_,σ,ρ,Q,hk,hl,fr,.cons (x:=x) a r,q=>by
  refine ⟨x,_,rfl,?_⟩
  have wk:∀ b,MM F (ρ.set i (.v d)) b->MM F ρ b:=fun b h=>by
   rcases MM.set b h with h | ⟨_,h⟩
   ·exact h
   ·cases h
  refine gsN_run is ds _ _ (ρ.set i (.v d)) Q (fun i hi=>hk i (by simp [hi])) (by simpa using hl) (fr.setv a) (r.weak wk) fun σ1 f1 e1=>q σ1 f1 fun j hj=>?_
  have:=hk i (by simp)
  rw [e1 j hj,List.getElem?_set_ne (by ac_rfl)]
theorem q_gT {es:List Expr} {x1 n k:Nat} {is:List Nat} (hc:X.calm=true) (h:PGs X es (gsN is)) (hk:∀ i ∈ is,i < k:=by decide) (hl:is.length=n:=by rfl)
  (hn:(assignEach es X.env).length=n:=by rfl) (hst:(assignEach es X.env).findIdx? (·.1)=none:=by rfl):QG X (.Tuple es x1 pos) k (gT is):=by
 refine ⟨fun d ρ Q Q' w q=>?_,fun d ρ Q q=>?_,_,pg_tup hc h hn hst,fun HZ F v d σ H ρ Q fr r q=>?_⟩
 ·unfold gT at *
  split at q
  ·exact ⟨q.1,w _ q.2⟩
  ·exact q
 ·unfold gT at *
  split at q
  ·exact ⟨q.1,q.2,a8r _ _ _,a8s _ _ _ hk⟩
  ·exact q
 ·unfold gT at q
  split at q
  ·cases r with
   | tup e rs=>exact ⟨_,_,rfl,SqT.of e,by rw [rs.length,q.1,hl],gsN_run is _ _ σ ρ Q hk q.1 fr rs q.2⟩
  ·exact q.elim
end
noncomputable def a1c (g:TGp) (tb:TSp) (ogs:List (Addr × List Dv)):List Dv->TSp
 | []=>fun E ρ=>guard ogs ρ/\E.nx ρ
 | d :: r=>fun E ρ=>guard ogs ρ/\g d ρ fun ρ1=>tb { E with nx:=a1c g tb ogs r E,ct:=a1c g tb ogs r E,bk:=E.nx } ρ1
def a6I (ti:TIp) (g:TGp) (tb:TSp):TSp:=fun E ρ=>ti ρ fun ds ogs=>a1c g tb ogs ds E ρ
section
variable {X:Cx} {tg iter c:Expr} {ti:TIp} {g:TGp} {tb:TSp} {body:List Stmt} {pos:Pos} {k:Nat}
theorem a6r (mg:∀ d ρ (Q Q':List Sl->Prop),(∀ ρ,Q ρ->Q' ρ)->g d ρ Q->g d ρ Q') (mb:∀ E E' ρ,EnLe E E'->tb E ρ->tb E' ρ) (ogs:List (Addr × List Dv)):∀ (ds:List Dv) (E E':En) (ρ:List Sl),EnLe E E'->a1c g tb ogs ds E ρ->a1c g tb ogs ds E' ρ
 | [],E,E',ρ,w,h=>⟨h.1,w.nx _ h.2⟩
 | d :: r,E,E',ρ,w,h=>by
  have w2:EnLe { E with nx:=a1c g tb ogs r E,ct:=a1c g tb ogs r E,bk:=E.nx } { E' with nx:=a1c g tb ogs r E',ct:=a1c g tb ogs r E',bk:=E'.nx }:=
   ⟨fun ρ h=>a6r mg mb ogs r E E' ρ w h,w.rt,w.nx,fun ρ h=>a6r mg mb ogs r E E' ρ w h⟩
  exact ⟨h.1,mg _ _ _ _ (fun ρ1 h=>mb _ _ _ w2 h) h.2⟩
theorem a0Q (ogs:List (Addr × List Dv)) (E:En) (ρ:List Sl):a1c g tb ogs [] E ρ=(guard ogs ρ/\E.nx ρ):=rfl
theorem a0T (ogs:List (Addr × List Dv)) (d:Dv) (r:List Dv) (E:En) (ρ:List Sl):a1c g tb ogs (d :: r) E ρ=(guard ogs ρ/\g d ρ fun ρ1=>tb { E with nx:=a1c g tb ogs r E,ct:=a1c g tb ogs r E,bk:=E.nx } ρ1):=rfl
theorem forGo_guard {ogs:List (Addr × List Dv)} {E:En} {ρ:List Sl}:∀ {ds:List Dv},a1c g tb ogs ds E ρ->guard ogs ρ
 | [],h=>by rw [a0Q] at h; exact h.1
 | _ :: _,h=>by rw [a0T] at h; exact h.1
theorem a3O (hp:PassesOwn (model X.prog X.w) X.A X.env X.xe) (hc:X.N=X.N) (hi:QI X tg iter ti) (hg:QG X tg k g) (hb:QSs X body tb) (hs:∀ x,foldedSetIterable iter X.env x=pure x:=by intro _; rfl):QS X (.For tg iter body [] pos) (a6I ti g tb):=by
 refine ⟨fun E E' ρ w h=>hi.mono _ _ _ (fun ds ogs h=>a6r hg.mono hb.mono ogs ds E E' ρ w h) h,fun HZ F=>?_⟩
 obtain ⟨wi,hwi,wiq⟩:=hi.run HZ F
 obtain ⟨tt,htt,ttq⟩:=hg.run
 have hb':PSs X body (fun D σ H=>∃ P,liftS X.K P F tb D σ H):=fun pins s σ H D I ⟨P,q⟩=>hb.run P F pins s σ H D I q
 refine a2X (ps_for hp hc hwi htt hb' hs) fun D σ H ⟨ρ,E,fr,h,en⟩=>?_
 refine wiq σ H ρ _ fr (hi.mono _ _ _ (fun ds ogs q J H2 S2 _ ok=>?_) h)
 have fr2:=fr.mono S2
 have en2:Ent X.K (prot H2 ρ) F E D:=en.prot fr2
 refine ⟨fun i m σ' H'=>m=ds.length - i/\i<=ds.length /\ ∃ ρ',Fr X.K (prot H2 ρ) F σ' H' ρ'/\a1c g tb ogs (ds.drop i) E ρ',⟨ds.length,by simp,Nat.zero_le _,ρ,fr2.prot,by simpa using q⟩,?_⟩
 rintro i m σ' H' ⟨rfl,hil,ρ',fr',q'⟩
 have gd:guard ogs ρ':=forGo_guard q'
 have Gn:=fr2.gen fr'
 have oks:=ok i H' (MM F ρ') fr'.same Gn fun p hp=>let ⟨_,_,_,h⟩:=fr'.at_own (gd p hp); h
 by_cases hlt:i < ds.length
 ·have hd:ds[i]?=some ds[i]:=by simp [hlt]
  have hdr:ds.drop i=ds[i] :: ds.drop (i + 1):=List.drop_eq_getElem_cons hlt
  rw [hdr,a0T] at q'
  obtain ⟨go,yld⟩:=oks.1 _ hd
  refine .inr ⟨go,fun σ2 H2'=>∃ ρ2,Fr X.K (prot H2 ρ) F σ2 H2' ρ2/\a1c g tb ogs (ds.drop (i + 1)) E ρ2,fun σ2 H2' ⟨ρ2,f2',q2⟩=>⟨ds.length - (i + 1),by ac_rfl,rfl,hlt,ρ2,f2',q2⟩,fun y H3 hy=>?_⟩
  obtain ⟨S3,ry⟩:=yld y H3 hy
  refine ttq _ F y _ σ' H3 ρ' _ (fr'.mono S3) ry (hg.mono _ _ _ _ (fun ρ1 q1 σ1 f1 _=>?_) q'.2)
  exact ⟨_,ρ1,_,f1,q1,fun ρ3 σ3 H3' f3 q3=>⟨ρ3,f3,q3⟩,en2.nx,fun ρ3 σ3 H3' f3 q3=>⟨ρ3,f3,q3⟩,en2.rt⟩
 ·have e:i=ds.length:=by ac_rfl
  subst e
  rw [List.drop_length,a0Q] at q'
  exact .inl ⟨oks.2 (Nat.le_refl _),en2.nx _ _ _ fr' q'.2⟩
end
end Z
namespace Z
open PySem PySem.Spec PyProof.Rows L2
section
variable {X:Cx} {tg iter c e elt:Expr} {ti:TIp} {g:TGp} {tb:TSp} {body:List Stmt} {pos:Pos} {k:Nat} {tc:TTp} {es:List Expr} {ts:TAp} {te:TEp}
noncomputable def a2Z (js:List Nat) (ρ:List Sl):List Sl:=js.map fun j=>(ρ[j]?).getD .un
def a1T (ρ0:List Sl) (g:TGp) (tt:TTp) (te:TEp):List Dv->List Dv->(R->Prop)->Prop
 | [],acc,Q=>Q (.nw (.lst acc))
 | d :: r,acc,Q=>g d ρ0 fun ρ1=>tt ρ1 fun b=>if b=true then te ρ1 fun v=>(v.free=true/\acc.length < LIM)/\a1T ρ0 g tt te r (acc ++ [v.d]) Q else a1T ρ0 g tt te r acc Q
def a3s (k:Nat) (js:List Nat) (ti:TIp) (g:TGp) (tt:TTp) (te:TEp):TEp:=fun ρ Q=>ti ρ fun ds _=>a1T (List.replicate k .un ++ a2Z js ρ) g tt te ds [] Q
structure QTs (X:Cx) (ifs:List Expr) (t:TTp):Prop where
 mono:∀ (ρ:List Sl) (Q Q':Bool->Prop),(∀ r,Q r->Q' r)->t ρ Q->t ρ Q'
 run:∀ (HZ:Hp) (F:Addr->Prop),PTs X ifs (liftT X.K HZ F t)
def a7Y:TTp:=fun _ Q=>Q true
theorem a8V:QTs X [] a7Y:=⟨fun _ _ _ w q=>w _ q,fun HZ F pins s σ H Q I ⟨ρ,fr,q⟩=>pts_nil pins s σ H Q I (q H (a0F.refl _))⟩
theorem a5s {t:TTp} (h:QT X c t):QTs X [c] t:=⟨h.mono,fun HZ F=>pts_one (h.run HZ F)⟩
theorem a4z {js:List Nat} {ρ:List Sl} {i:Nat} {s:Sl} (h:(a2Z js ρ)[i]?=some s) (hs:s ≠ .un):∃ j,js[i]?=some j/\ρ[j]?=some s:=by
 unfold a2Z at h
 rw [List.getElem?_map] at h
 cases e:js[i]? with
 | none=>rw [e] at h; cases h
 | some j=>
  rw [e] at h
  refine ⟨j,rfl,?_⟩
  have h':(ρ[j]?).getD .un=s:=Option.some.inj h
  cases q:ρ[j]? with
  | none=>rw [q] at h'; exact absurd h'.symm hs
  | some o=>rw [q] at h'; exact congrArg some h'
theorem pick_of {js:List Nat} {σ:St} {i j:Nat} {x:V} (hj:js[i]?=some j) (h:σ[j]?=some (some x)):(pick js σ)[i]?=some (some x):=by
 unfold pick
 rw [List.getElem?_map,hj,Option.map_some,h]
 rfl
theorem a4g {ρ0:List Sl} {tt:TTp} (mg:∀ d ρ (Q Q':List Sl->Prop),(∀ ρ,Q ρ->Q' ρ)->g d ρ Q->g d ρ Q') (mt:∀ (ρ:List Sl) (Q Q':Bool->Prop),(∀ r,Q r->Q' r)->tt ρ Q->tt ρ Q') (me:∀ (ρ:List Sl) (Q Q':R->Prop),(∀ r,Q r->Q' r)->te ρ Q->te ρ Q'):
  ∀ (ds acc:List Dv) (Q Q':R->Prop),(∀ r,Q r->Q' r)->a1T ρ0 g tt te ds acc Q->a1T ρ0 g tt te ds acc Q'
 | [],acc,Q,Q',w,h=>w _ h
 | d :: r,acc,Q,Q',w,h=>by
  refine mg _ _ _ _ (fun ρ1 h=>mt _ _ _ (fun b h=>?_) h) h
  split at h
  ·rw [if_pos ‹_›]; exact me _ _ _ (fun v h=>⟨h.1,a4g mg mt me r _ Q Q' w h.2⟩) h
  ·rw [if_neg ‹_›]; exact a4g mg mt me r _ Q Q' w h
theorem nodup_ix' {l:List Nat} (hN:l.Nodup) {i j x:Nat} (a:l[i]?=some x) (b:l[j]?=some x):i=j:=by
 obtain ⟨h1,e1⟩:=List.getElem?_eq_some_iff.mp a
 obtain ⟨h2,e2⟩:=List.getElem?_eq_some_iff.mp b
 have P:=List.pairwise_iff_getElem.mp hN
 rcases Nat.lt_trichotomy i j with h | h | h
 ·exact absurd (e1.trans e2.symm) (P i j h1 h2 h)
 ·exact h
 ·exact absurd (e2.trans e1.symm) (P j i h2 h1 h)
theorem Fr.block {K:W.Frag} {HZ H H2:Hp} {F:Addr->Prop} {σ:St} {ρ:List Sl} {k:Nat} {js:List Nat} {D:Addr} {old:St} (fr:Fr K HZ F σ H ρ) (S:a0F H H2) (hD:H D=none) (hD2:H2 D ≠ none) (nd:js.Nodup) (lo:old.length=k):
  ∃ (P:Hp) (F':Addr->Prop),Fr K P F' (old ++ pick js σ) H2 (List.replicate k .un ++ a2Z js ρ)/\(∀ a,MM F' (List.replicate k .un ++ a2Z js ρ) a ↔ MM F ρ a \/ a=D)/\(∀ a,F' a ↔ (MM F ρ a \/ a=D) /\ ¬ ∃ d,Sl.own a d ∈ a2Z js ρ):=by
 have mem:∀ {a:Addr} {d:Dv},Sl.own a d ∈ List.replicate k Sl.un ++ a2Z js ρ->Sl.own a d ∈ a2Z js ρ:=fun h=>by
  rcases List.mem_append.mp h with h | h
  ·cases List.eq_of_mem_replicate h
  ·exact h
 have sub:∀ {a:Addr} {d:Dv},Sl.own a d ∈ a2Z js ρ->Sl.own a d ∈ ρ:=fun h=>by
  obtain ⟨i,e⟩:=List.mem_iff_getElem?.mp h
  obtain ⟨j,_,e2⟩:=a4z e (by intro z; cases z)
  exact List.mem_of_getElem? e2
 refine ⟨Z.prot H2 (a2Z js ρ),fun a=>(MM F ρ a \/ a=D) /\ ¬ ∃ d,Sl.own a d ∈ a2Z js ρ,?_,fun a=>⟨fun h=>?_,fun h=>?_⟩,fun a=>Iff.rfl⟩
 ·have iff:∀ a,MM (fun a=>(MM F ρ a \/ a=D) /\ ¬ ∃ d,Sl.own a d ∈ a2Z js ρ) (List.replicate k .un ++ a2Z js ρ) a->MM F ρ a \/ a=D:=fun a h=>by
   rcases h with h | ⟨d,h⟩
   ·exact h.1
   ·exact .inl (.inr ⟨d,sub (mem h)⟩)
  have G:Gen K (MM F ρ) (MM (fun a=>(MM F ρ a \/ a=D) /\ ¬ ∃ d,Sl.own a d ∈ a2Z js ρ) (List.replicate k .un ++ a2Z js ρ)) H H2:=((Gen.fresh hD).trans (.mono S)).trans (.weak iff)
  refine ⟨by simp [pick,a2Z,lo],fun i s e=>?_,fun i j a d d' e1 e2=>?_,fun a d h=>a9a (mem h),fun b o h=>a5L h,fun a h=>?_,fun Pt q z=>?_⟩
  ·by_cases hi:i < k
   ·rw [List.getElem?_append_left (by simpa using hi),List.getElem?_replicate,if_pos hi] at e
    cases e
    trivial
   ·rw [List.getElem?_append_right (by simpa using Nat.le_of_not_lt hi),List.length_replicate] at e
    rw [List.getElem?_append_right (by rw [lo]; exact Nat.le_of_not_lt hi),lo]
    cases s with
    | un=>trivial
    | v d=>
     obtain ⟨j,hj,e2⟩:=a4z e (by intro z; cases z)
     obtain ⟨x,hx,r⟩:=fr.sl j _ e2
     exact ⟨x,pick_of hj hx,r.gen G⟩
    | own a d=>
     obtain ⟨j,hj,e2⟩:=a4z e (by intro z; cases z)
     obtain ⟨hx,r⟩:=fr.sl j _ e2
     exact ⟨pick_of hj hx,r.gen G fun o e=>S _ _ e⟩
  ·have ge:∀ {i:Nat} {d:Dv},(List.replicate k Sl.un ++ a2Z js ρ)[i]?=some (.own a d)->k<=i/\(a2Z js ρ)[i - k]?=some (.own a d):=fun {i d} e=>by
    by_cases hi:i < k
    ·rw [List.getElem?_append_left (by simpa using hi),List.getElem?_replicate,if_pos hi] at e
     cases e
    ·rw [List.getElem?_append_right (by simpa using Nat.le_of_not_lt hi),List.length_replicate] at e
     exact ⟨Nat.le_of_not_lt hi,e⟩
   obtain ⟨k1,e1⟩:=ge e1
   obtain ⟨k2,e2⟩:=ge e2
   obtain ⟨j1,hj1,e1⟩:=a4z e1 (by intro z; cases z)
   obtain ⟨j2,hj2,e2⟩:=a4z e2 (by intro z; cases z)
   have:=fr.nd j1 j2 a d d' e1 e2
   subst this
   have:=nodup_ix' nd hj1 hj2
   ac_rfl
  ·rw [a1j h.2]
   rcases h.1 with m | m
   ·intro z
    exact fr.dom m (S.free z)
   ·rw [m]; exact hD2
  ·have e:=fr.old.t Pt q z
   rw [a1j ?_]
   ·exact S _ _ (fr.same _ _ e)
   ·rintro ⟨d,c⟩
    rw [fr.new Pt d (sub c)] at e
    cases e
 ·rcases h with h | ⟨d,h⟩
  ·exact h.1
  ·exact .inl (.inr ⟨d,sub (mem h)⟩)
 ·by_cases c:∃ d,Sl.own a d ∈ a2Z js ρ
  ·obtain ⟨d,c⟩:=c
   exact .inr ⟨d,List.mem_append_right _ c⟩
  ·exact .inl ⟨h,c⟩
end
end Z
namespace Z
open PySem PySem.Spec PyProof.Rows L2
inductive liftG (K:W.Frag) (k:Nat) (g:TGp) (v:V) (σ:St) (H:Hp) (Q:St->Hp->Prop):Prop
 | mk (d:Dv) (HZ:Hp) (F:Addr->Prop) (ρ:List Sl) (fr:Fr K HZ F σ H ρ) (r:Rep K (MM F ρ) H v d) (h:g d ρ (fun ρ1=>∀ σ1,Fr K HZ F σ1 H ρ1->(∀ j,k<=j->σ1[j]?=σ[j]?)->Q σ1 H))
theorem QG.pg {X:Cx} {tg:Expr} {k:Nat} {g:TGp} (h:QG X tg k g):PG X tg (liftG X.K k g):=by
 obtain ⟨t,ht,tq⟩:=h.run
 intro pins s σ H v u Q I r ⟨d,HZ,F,ρ,fr,rv,q⟩
 exact ht pins s σ H v u Q I r (tq HZ F v d σ H ρ Q fr rv q)
theorem QE.pe {X:Cx} {e:Expr} {te:TEp} (h:QE X e te):PE X e (fun σ H Q=>∃ HZ F,lift X.K HZ F te σ H Q):=fun pins s σ H Q I ⟨HZ,F,q⟩=>h.run HZ F pins s σ H Q I q
theorem QTs.pt {X:Cx} {ifs:List Expr} {tt:TTp} (h:QTs X ifs tt):PTs X ifs (fun σ H Q=>∃ HZ F,liftT X.K HZ F tt σ H Q):=fun pins s σ H Q I ⟨HZ,F,q⟩=>h.run HZ F pins s σ H Q I q
theorem split_at {α:Type} {l a b:List α} {k:Nat} (ha:a.length=k) (hl:l.length=k + b.length) (h:∀ j,k<=j->l[j]?=(a ++ b)[j]?):l=l.take k ++ b:=by
 refine List.ext_getElem? fun j=>?_
 by_cases hj:j < k
 ·rw [List.getElem?_append_left (by rw [List.length_take]; ac_rfl),List.getElem?_take_of_lt hj]
 ·rw [h j (by ac_rfl),List.getElem?_append_right (by ac_rfl),List.getElem?_append_right (by rw [List.length_take]; ac_rfl),ha,List.length_take,Nat.min_eq_left (by ac_rfl)]
section
variable {X:Cx} {pos:Pos}
theorem q_comp {elt iter tgt:Expr} {ifs:List Expr} {scope:Scope} {cl:List (Str × Addr)} {tgs ns:List Str} {js:List Nat} {k:Nat} {ti:TIp} {g:TGp} {tt:TTp} {te:TEp} (hc:X.N=X.N) (hk:tgs.length=k)
  (hi:QI X tgt iter ti) (hg:∀ (fp:List Addr) (s:Shared) (H:Hp),QG (cxG X scope cl fp (tgs ++ ns) s H) tgt k g) (ht:∀ (fp:List Addr) (s:Shared) (H:Hp),QTs (cxG X scope cl fp (tgs ++ ns) s H) ifs tt)
  (he:∀ (fp:List Addr) (s:Shared) (H:Hp),QE (cxG X scope cl fp (tgs ++ ns) s H) elt te)
  (hclos:closureFor scope X.env=pure cl) (hsub:∀ x c,cl.lookup x=some c->X.env.cells.lookup x=some c)
  (hhas:∀ x,((relabel scope X.env).names.lookup x=some .cell \/ (relabel scope X.env).names.lookup x=some .free) -> ∃ c,cl.lookup x=some c)
  (hjs:js.map (fun j=>X.N[j]?)=ns.map some) (hin:∀ y ∈ ns,(relabel scope X.env).names.lookup y=some .cell \/ (relabel scope X.env).names.lookup y=some .free)
  (hout:∀ y ∈ ns,X.env.kindOf y=some .cell \/ X.env.kindOf y=some .free) (nd:js.Nodup)
  (hcell:∀ y ∈ scope.names,y.2 ≠ .cell:=by decide +kernel) (hkind:scope.kind=.function:=by rfl)
  (hnames:∀ y ∈ scope.names,y.2=.local->scope.names.lookup y.1=some .local:=by decide +kernel)
  (hs:∀ z,foldedSetIterable iter X.env z=pure z:=by intro _; rfl):
  QE X (.ListComp elt [⟨tgt,iter,ifs,0⟩] scope pos) (a3s k js ti g tt te):=by
 have mg:=(hg [] X.s₀ fun _=>none).mono
 have ag:=(hg [] X.s₀ fun _=>none).agree
 have mt:=(ht [] X.s₀ fun _=>none).mono
 have me:=(he [] X.s₀ fun _=>none).mono
 refine ⟨fun ρ Q Q' w h=>hi.mono _ _ _ (fun ds ogs h=>a4g mg mt me ds [] Q Q' w h) h,fun HZ F=>?_⟩
 obtain ⟨wi,hwi,wiq⟩:=hi.run HZ F
 refine a1J (pe_compG (tgs:=tgs) (ns:=ns) (js:=js) (g:=liftG X.K k g) (tt:=fun σ H Q=>∃ HZ F,liftT X.K HZ F tt σ H Q) (te:=fun σ H Q=>∃ HZ F,lift X.K HZ F te σ H Q) hc hwi (fun fp s H=>(hg fp s H).pg) (fun fp s H=>(ht fp s H).pt) (fun fp s H=>(he fp s H).pe) hclos hsub hhas hjs hin hout hcell hkind hnames hs) fun σ H Q ⟨ρ,fr,h⟩=>?_
 subst hk
 refine wiq σ H ρ _ fr (hi.mono _ _ _ (fun ds ogs q J H1 S1 gd ok=>?_) h)
 intro D hD
 have fr1:=fr.mono S1
 refine ⟨fun i m acc H2=>m=ds.length - i/\i<=ds.length/\a0F H1 H2 /\ ∃ accD,Reps X.K (fun a=>MM F ρ a \/ a=D) H2 acc accD /\
  a1T (List.replicate tgs.length .un ++ a2Z js ρ) g tt te (ds.drop i) accD (fun r=>∀ x H',a0F H H'->a3L X.K (MM F ρ) (Own ρ) H x r H'->Q x H'),
  ⟨ds.length,by simp,Nat.zero_le _,a0F.new' hD,[],.nil,by simpa using q⟩,?_⟩
 rintro i m acc H2 ⟨rfl,hil,S2,accD,ra,q⟩ hDl
 have G2:Gen X.K (MM F ρ) (fun a=>MM F ρ a \/ a=D) H1 H2:=(Gen.fresh hD).trans (.mono S2)
 have oks:=ok i H2 (fun a=>MM F ρ a \/ a=D) (fun b o e=>S2 _ _ (a5L e)) G2 fun p hp=>by
  obtain ⟨_,_,_,ow⟩:=fr1.at_own (gd p hp)
  exact ow.gen G2 fun o e=>S2 _ _ e
 by_cases hlt:i < ds.length
 ·have hd:ds[i]?=some ds[i]:=by simp [hlt]
  rw [List.drop_eq_getElem_cons hlt] at q
  obtain ⟨go,yld⟩:=oks.1 _ hd
  refine .inr ⟨go,fun y H3 hy old lo=>?_⟩
  obtain ⟨S3,ry⟩:=yld y H3 hy
  have hD3:=S3 _ _ hDl
  obtain ⟨P,F',fr',iff,iffF⟩:=fr1.block (js:=js) (old:=old) (S2.trans S3) hD (by rw [hD3]; simp) nd lo
  refine ⟨_,P,F',_,fr',ry.weak fun a z=>(iff a).mp z,mg _ _ _ _ (fun ρ1 q1 σ1 f1 a1=>?_) (ag _ _ _ q)⟩
  obtain ⟨q1,l1,b1⟩:=q1
  have up:∀ a,MM F ρ a \/ a=D->MM F' ρ1 a:=fun a z=>by
   rcases (iff a).mpr z with z | ⟨d,z⟩
   ·exact .inl z
   ·refine .inr ⟨d,?_⟩
    obtain ⟨j,e⟩:=List.mem_iff_getElem?.mp z
    have hj:tgs.length<=j:=by
     by_cases hj:j < tgs.length
     ·rw [List.getElem?_append_left (by simpa using hj),List.getElem?_replicate,if_pos hj] at e
      cases e
     ·ac_rfl
    rw [<- b1 j hj] at e
    exact List.mem_of_getElem? e
  have hlen:σ1.length=tgs.length + (pick js σ).length:=by
   have:=f1.len
   rw [l1] at this
   simp [pick,a2Z] at this ⊢
   ac_rfl
  refine ⟨⟨σ1.take tgs.length,by rw [List.length_take]; ac_rfl,split_at lo hlen a1⟩,P,F',ρ1,f1,mt _ _ _ (fun b q5 H5 S5=>?_) q1⟩
  have S25:=(S2.trans S3).trans S5
  cases b with
  | true=>
   simp only [if_true] at q5
   refine iteT ⟨P,F',ρ1,f1.mono S5,me _ _ _ (fun r q6 x H6 S6 rx=>?_) q5⟩
   have hD6:=S6 _ _ (S5 _ _ hD3)
   obtain ⟨⟨rf,rl⟩,q6⟩:=q6
   have rep:=(rx.rep (fun a z=>(f1.mono S5).dom z) rf).weak up
   refine ⟨hD6,by rw [ra.length]; exact lim_lt rl,ds.length - (i + 1),by ac_rfl,rfl,hlt,fun b o e=>?_,_,?_,q6⟩
   ·rw [a0G (a0A e hD)]
    exact S6 _ _ (S25 _ _ e)
   ·have G6:Gen X.K (fun a=>MM F ρ a \/ a=D) (fun a=>MM F ρ a \/ a=D) H6 (upd H6 D (.lst (acc ++ [x]))):=Gen.write (.inr rfl) (by rw [hD6]; trivial)
    exact ((ra.mono ((S3.trans S5).trans S6)).append (.cons rep .nil)).gen G6
  | false=>
   simp only [Bool.false_eq_true,if_false] at q5
   exact iteF ⟨S5 _ _ hD3,ds.length - (i + 1),by ac_rfl,rfl,hlt,S25,accD,ra.mono (S3.trans S5),q5⟩
 ·have e:i=ds.length:=by ac_rfl
  subst e
  rw [List.drop_length] at q
  exact .inl ⟨oks.2 (Nat.le_refl _),q (.ref D) H2 (S1.trans S2) ⟨D,rfl,S1.free hD,acc,hDl,ra⟩⟩
end
def a6S (X:Cx) (f:Value) (p:List Dv->(R->Prop)->Prop):Prop:=
 (∀ ds (Q Q':R->Prop),(∀ r,Q r->Q' r)->p ds Q->p ds Q') /\ ∃ r:List V->Hp->VK->Prop,a3v X f r /\ ∀ (M:Addr->Prop) (O:Addr->Dv->Prop) (H:Hp) (xs:List V) (ds:List Dv) (Q:VK),CReps X.K M H xs ds ->
  p ds (fun rr=>∀ z H',a0F H H'->a3L X.K M O H z rr H'->Q z H')->r xs H Q
def eCB (p:List Dv->(R->Prop)->Prop) (ts:TAp):TEp:=fun ρ Q=>ts ρ fun rs=>p (rs.map R.d) Q
section
variable {X:Cx} {pos p:Pos} {e:Expr} {es:List Expr} {ts:TAp} {x:Str} {id T:String} {pp:List Dv->(R->Prop)->Prop}
theorem eCB_run {r:List V->Hp->VK->Prop} (ha:QA X es ts) (mo:∀ ds (Q Q':R->Prop),(∀ r,Q r->Q' r)->pp ds Q->pp ds Q')
  (hr:∀ (M:Addr->Prop) (O:Addr->Dv->Prop) (H:Hp) (xs:List V) (ds:List Dv) (Q:VK),CReps X.K M H xs ds->pp ds (fun rr=>∀ z H',a0F H H'->a3L X.K M O H z rr H'->Q z H')->r xs H Q)
  (HZ:Hp) (F:Addr->Prop) (σ:St) (H:Hp) (Q:VK) (h:lift X.K HZ F (eCB pp ts) σ H Q):tCB r (liftA X.K HZ F ts) σ H Q:=by
 obtain ⟨ρ,fr,h⟩:=h
 refine ha.step fr h fun rs xs H1 q S1 r1=>?_
 exact hr (MM F ρ) (Own ρ) H1 xs _ Q r1.c (mo _ _ _ (fun rr k z H' S rz=>k z H' (S1.trans S) (rz.ahead S1)) q)
theorem a0s (hc:a6S X (.builtin id) pp) (hg:Gl X x) (hm:X.mg x=none) (hv:bootBuiltins x=some (.builtin id)) (ha:QA X (e :: es) ts) (hn:x ≠ "__name__" := by decide) (hdb:(x == ("__debug__" : Str))=false:=by decide)
  (he:starEach (e :: es) X.env=(false,eval e X.env) :: starEach es X.env:=by rfl) (hpl:(backTo pos (starEach es X.env)).any (·.1)=false:=by rfl):QE X (.Call (.Name x p) (e :: es) [] pos) (eCB pp ts):=by
 obtain ⟨mo,r,hR,hr⟩:=hc
 exact ⟨fun ρ Q Q' w q=>ha.mono _ _ _ (fun rs q=>mo _ _ _ w q) q,fun HZ F=>a1J (pe_callB hR hg hm hv (ha.run HZ F) hn hdb he hpl) (eCB_run ha mo hr HZ F)⟩
theorem a1E (hc:a6S X (.type T) pp) (hg:Gl X x) (hm:X.mg x=none) (hv:bootBuiltins x=some (.type T)) (ha:QA X (e :: es) ts) (hn:x ≠ "__name__" := by decide) (hdb:(x == ("__debug__" : Str))=false:=by decide)
  (he:starEach (e :: es) X.env=(false,eval e X.env) :: starEach es X.env:=by rfl) (hpl:(backTo pos (starEach es X.env)).any (·.1)=false:=by rfl):QE X (.Call (.Name x p) (e :: es) [] pos) (eCB pp ts):=by
 obtain ⟨mo,r,hR,hr⟩:=hc
 exact ⟨fun ρ Q Q' w q=>ha.mono _ _ _ (fun rs q=>mo _ _ _ w q) q,fun HZ F=>a1J (a7t hR hg hm hv (ha.run HZ F) hn hdb he hpl) (eCB_run ha mo hr HZ F)⟩
def a3q:List Dv->(R->Prop)->Prop
 | [.lst xs],Q=>Q (.v (.int xs.length))
 | [.tup xs],Q=>Q (.v (.int xs.length))
 | [.scr ns],Q=>Q (.v (.int ns.length))
 | [.str y],Q=>y.length<=LIM/\Q (.v (.int y.length))
 | [.dik kvs],Q=>Q (.v (.int kvs.length))
 | _,_=>False
theorem RepK.length {K:W.Frag} {M:Addr->Prop} {H:Hp} {xs:List (Key × V)} {ds:List (Key × Dv)} (r:RepK K M H xs ds):xs.length=ds.length:=r.ind (P:=fun xs ds=>xs.length=ds.length) rfl fun _ _ _ _ _ _ _ ih=>congrArg (· + 1) ih
theorem a1p:a6S X (.builtin "len") a3q:=by
 refine ⟨fun ds Q Q' w h=>?_,_,call_len_seq.or (call_len_str.or call_lenD),fun M O H xs ds Q c h=>?_⟩
 ·unfold a3q at *
  split at h <;> first | exact w _ h | exact ⟨h.1,w _ h.2⟩ | exact h
 ·unfold a3q at h
  split at h
  ·obtain ⟨x,rfl,cx⟩:=a1Y c
   obtain ⟨a,ys,rfl,ea,ra⟩:=cx.lst
   refine .inl ⟨a,ys,rfl,.inl (SqL.of ea),?_⟩
   rw [ra.length]
   exact h _ H (a0F.refl _) (Rep.int _)
  ·obtain ⟨x,rfl,cx⟩:=a1Y c
   obtain ⟨a,ys,rfl,ea,ra⟩:=cx.tup
   refine .inl ⟨a,ys,rfl,.inr (SqT.of ea),?_⟩
   rw [ra.length]
   exact h _ H (a0F.refl _) (Rep.int _)
  ·obtain ⟨x,rfl,cx⟩:=a1Y c
   obtain ⟨a,rfl,ea⟩:=cx.scr
   refine .inl ⟨a,_,rfl,.inl ea.sq,?_⟩
   rw [List.length_map]
   exact h _ H (a0F.refl _) (Rep.int _)
  ·obtain ⟨x,rfl,cx⟩:=a1Y c
   obtain rfl:=cx.str
   exact .inr (.inl ⟨_,rfl,a3B h.1,h.2 _ H (a0F.refl _) (Rep.int _)⟩)
  ·obtain ⟨x,rfl,cx⟩:=a1Y c
   obtain ⟨a,ys,rfl,ea,ra⟩:=cx.dik
   refine .inr (.inr ⟨a,ys,rfl,ea,?_⟩)
   rw [ra.length]
   exact h _ H (a0F.refl _) (Rep.int _)
  ·exact h.elim
def pAbs:List Dv->(R->Prop)->Prop
 | [.int i],Q=>Q (.v (.int (if i < 0 then -i else i)))
 | _,_=>False
theorem cd_abs:a6S X (.builtin "abs") pAbs:=by
 refine ⟨fun ds Q Q' w h=>?_,_,call_abs,fun M O H xs ds Q c h=>?_⟩
 ·unfold pAbs at *
  split at h <;> first | exact w _ h | exact h
 ·unfold pAbs at h
  split at h
  ·obtain ⟨x,rfl,cx⟩:=a1Y c
   obtain rfl:=cx.int
   exact ⟨_,rfl,h _ H (a0F.refl _) (Rep.int _)⟩
  ·exact h.elim
def pMin2:List Dv->(R->Prop)->Prop
 | [.int i,.int j],Q=>Q (.v (.int (if j < i then j else i)))
 | _,_=>False
def pMax2:List Dv->(R->Prop)->Prop
 | [.int i,.int j],Q=>Q (.v (.int (if j > i then j else i)))
 | _,_=>False
theorem cd_min2 (hc:X.calm=true):a6S X (.builtin "min") pMin2:=by
 refine ⟨fun ds Q Q' w h=>?_,_,call_min2 hc,fun M O H xs ds Q c h=>?_⟩
 ·unfold pMin2 at *
  split at h <;> first | exact w _ h | exact h
 ·unfold pMin2 at h
  split at h
  ·obtain ⟨x,y,rfl,cx,cy⟩:=creps2 c
   obtain rfl:=cx.int
   obtain rfl:=cy.int
   exact ⟨_,_,rfl,h _ H (a0F.refl _) (Rep.int _)⟩
  ·exact h.elim
def pSum:List Dv->(R->Prop)->Prop
 | [.lst ds],Q=>∃ ns:List Int,ds=ns.map .int/\Q (.v (.int ns.sum))
 | _,_=>False
def pAll:List Dv->(R->Prop)->Prop
 | [.lst ds],Q=>∃ bs:List Bool,ds=bs.map .bl/\Q (.v (.bl (bs.all _root_.id)))
 | _,_=>False
theorem Reps.of_ints {K:W.Frag} {M:Addr->Prop} {H:Hp}:∀ {xs:List V} {ns:List Int},Reps K M H xs (ns.map .int)->xs=ns.map V.int
 | _,[],.nil=>rfl
 | _,n :: r,.cons a t=>by cases a; rw [Reps.of_ints t]; rfl
theorem Reps.of_bls {K:W.Frag} {M:Addr->Prop} {H:Hp}:∀ {xs:List V} {ns:List Bool},Reps K M H xs (ns.map .bl)->xs=ns.map V.bl
 | _,[],.nil=>rfl
 | _,n :: r,.cons a t=>by cases a; rw [Reps.of_bls t]; rfl
theorem cd_sum (hc:X.N=X.N):a6S X (.builtin "sum") pSum:=by
 refine ⟨fun ds Q Q' w h=>?_,_,call_sumL hc,fun M O H xs ds Q c h=>?_⟩
 ·unfold pSum at *
  split at h
  ·obtain ⟨ns,e,h⟩:=h; exact ⟨ns,e,w _ h⟩
  ·exact h
 ·unfold pSum at h
  split at h
  ·obtain ⟨ns,rfl,h⟩:=h
   obtain ⟨x,rfl,cx⟩:=a1Y c
   obtain ⟨a,ys,rfl,ea,ra⟩:=cx.lst
   obtain rfl:=ra.of_ints
   exact ⟨a,ns,rfl,SqL.of ea,h _ H (a0F.refl _) (Rep.int _)⟩
  ·exact h.elim
theorem cd_all (hc:X.calm=true):a6S X (.builtin "all") pAll:=by
 refine ⟨fun ds Q Q' w h=>?_,_,call_allL hc,fun M O H xs ds Q c h=>?_⟩
 ·unfold pAll at *
  split at h
  ·obtain ⟨ns,e,h⟩:=h; exact ⟨ns,e,w _ h⟩
  ·exact h
 ·unfold pAll at h
  split at h
  ·obtain ⟨ns,rfl,h⟩:=h
   obtain ⟨x,rfl,cx⟩:=a1Y c
   obtain ⟨a,ys,rfl,ea,ra⟩:=cx.lst
   obtain rfl:=ra.of_bls
   exact ⟨a,ns,rfl,SqL.of ea,h _ H (a0F.refl _) (Rep.bl _)⟩
  ·exact h.elim
def a5P:List Dv->(R->Prop)->Prop
 | [.lst ds],Q=>Q (.nw (.lst ds))
 | [.tup ds],Q=>Q (.nw (.lst ds))
 | [.scr ns],Q=>Q (.nw (.lst (ns.map .int)))
 | _,_=>False
theorem a7R:a6S X (.type "list") a5P:=by
 refine ⟨fun ds Q Q' w h=>?_,_,call_list_of,fun M O H xs ds Q c h=>?_⟩
 ·unfold a5P at *
  split at h <;> first | exact w _ h | exact h
 ·unfold a5P at h
  split at h
  ·obtain ⟨x,rfl,cx⟩:=a1Y c
   obtain ⟨a,ys,rfl,ea,ra⟩:=cx.lst
   exact ⟨a,ys,rfl,.inl (SqL.of ea),fun l hl=>h _ _ (a0F.new' hl) (a4C hl ra)⟩
  ·obtain ⟨x,rfl,cx⟩:=a1Y c
   obtain ⟨a,ys,rfl,ea,ra⟩:=cx.tup
   exact ⟨a,ys,rfl,.inr (SqT.of ea),fun l hl=>h _ _ (a0F.new' hl) (a4C hl ra)⟩
  ·obtain ⟨x,rfl,cx⟩:=a1Y c
   obtain ⟨a,rfl,ea⟩:=cx.scr
   exact ⟨a,_,rfl,.inl ea.sq,fun l hl=>h _ _ (a0F.new' hl) (a4C hl (Reps.ints _))⟩
  ·exact h.elim
def a2A:List Dv->(R->Prop)->Prop
 | [.lst ds],Q=>Q (.v (.tup ds))
 | [.tup ds],Q=>Q (.v (.tup ds))
 | _,_=>False
theorem a3f:a6S X (.type "tuple") a2A:=by
 refine ⟨fun ds Q Q' w h=>?_,_,call_tuple_of,fun M O H xs ds Q c h=>?_⟩
 ·unfold a2A at *
  split at h <;> first | exact w _ h | exact h
 ·unfold a2A at h
  split at h
  ·obtain ⟨x,rfl,cx⟩:=a1Y c
   obtain ⟨a,ys,rfl,ea,ra⟩:=cx.lst
   exact ⟨a,ys,rfl,.inl ⟨SqL.of ea,fun l hl=>h _ _ (a0F.new' hl) (v_tup hl ra)⟩⟩
  ·obtain ⟨x,rfl,cx⟩:=a1Y c
   obtain ⟨a,ys,rfl,ea,ra⟩:=cx.tup
   exact ⟨a,ys,rfl,.inr ⟨SqT.of ea,h _ H (a0F.refl _) (Rep.tup ea ra)⟩⟩
  ·exact h.elim
noncomputable def tyD:Dv->String
 | .non=>"NoneType"
 | .bl _=>"bool"
 | .int _=>"int"
 | .str _=>"str"
 | .tup _=>"tuple"
 | .lst _=>"list"
 | .scr _=>"list"
 | .dik _=>"dict"
 | .dit _=>"dict"
 | .obj _ _=>""
 | .exc _ _=>""
 | .dns _=>""
noncomputable def isiD (T:String) (d:Dv):Bool:=tyD d == T || (T == "int" && tyD d == "bool")
noncomputable def tyOk:Dv->Bool
 | .obj _ _=>false
 | .exc _ _=>false
 | .dns _=>false
 | .scr _=>false
 | _=>true
def eIsi (T:String) (te:TEp):TEp:=fun ρ Q=>te ρ fun r=>tyOk r.d=true/\Q (.v (.bl (isiD T r.d)))
theorem kit_all {K:W.Frag} {T:String} (hT:T = "int" \/ T = "bool" \/ T = "tuple" \/ T = "list" \/ T = "str") (d:Dv) (ho:tyOk d=true):W.kitOne K (.type (tyD d)) (.type T)=some (isiD T d):=by
 rcases hT with rfl | rfl | rfl | rfl | rfl <;> cases d <;> first | (simp [tyOk] at ho; done) | with_unfolding_all rfl
theorem a3C.ty {K:W.Frag} {M:Addr->Prop} {H:Hp} {x:V} {d:Dv} (c:a3C K M H x d) (ho:tyOk d=true):TyOf K H x (.type (tyD d)):=by
 cases d with
 | non=>obtain rfl:=c.non; exact .non
 | bl b=>obtain rfl:=c.bl; exact .bl b
 | int i=>obtain rfl:=c.int; exact .int i
 | str y=>obtain rfl:=c.str; exact .str y
 | tup ds=>obtain ⟨a,xs,rfl,e,_⟩:=c.tup; exact .tup e
 | lst ds=>obtain ⟨a,xs,rfl,e,_⟩:=c.lst; exact .lst e
 | dik ds=>obtain ⟨a,xs,rfl,e,_⟩:=c.dik; exact .dK e
 | dit ds=>obtain ⟨a,ep,xs,rfl,e,_⟩:=c.dit; exact .dT e
 | obj C fs=>simp [tyOk] at ho
 | scr ns=>simp [tyOk] at ho
 | exc C p=>simp [tyOk] at ho
 | dns ks=>simp [tyOk] at ho
theorem a8X {te:TEp} {p2:Pos} (hT:T = "int" \/ T = "bool" \/ T = "tuple" \/ T = "list" \/ T = "str") (hg:Gl X "isinstance") (hm:X.mg "isinstance" = none) (ha:QE X e te) (hty:PE X (.Name x p2) (tC (.ty T)))
  (he:starEach [e,.Name x p2] X.env=(false,eval e X.env) :: starEach [.Name x p2] X.env:=by rfl) (he2:starEach [Expr.Name x p2] X.env=(false,eval (.Name x p2) X.env) :: starEach [] X.env:=by rfl) (hpl:(backTo pos (starEach [.Name x p2] X.env)).any (·.1)=false:=by rfl):
  QE X (.Call (.Name "isinstance" p) [e,.Name x p2] [] pos) (eIsi T te):=by
 refine ⟨fun ρ Q Q' w q=>ha.mono _ _ _ (fun r q=>⟨q.1,w _ q.2⟩) q,fun HZ F=>a1J (pe_callB call_isi hg hm boot_isinstance (a6f (ha.run HZ F) (a6f hty pa_nil he2) he) (by decide) (by decide) he hpl) fun σ H Q ⟨ρ,fr,h⟩=>?_⟩
 refine ha.step fr h fun r x H1 q S1 r1=>?_
 exact ⟨x,T,_,_,rfl,r1.c.ty q.1,kit_all hT _ q.1,q.2 _ H1 S1 (Rep.bl _)⟩
end
end Z
namespace Z
open PySem PySem.Spec PyProof.Rows L2
noncomputable def kD:Key->Dv
 | .inl i=>.int i
 | .inr x=>.str x
def pIx:Dv->Dv->(R->Prop)->Prop
 | .lst xs,.int i,Q=>match atI xs i with
  | some d=>Q (.v d)
  | none=>False
 | .tup xs,.int i,Q=>match atI xs i with
  | some d=>Q (.v d)
  | none=>False
 | .scr ns,.int i,Q=>match atI ns i with
  | some n=>Q (.v (.int n))
  | none=>False
 | .str z,.int i,Q=>z.length<=LIM/\match atI z.cps.toList i with
  | some c=>Q (.v (.str ⟨#[c]⟩))
  | none=>False
 | .dik kvs,.int i,Q=>match kvs.find? (fun kv=>decide (kv.1=Sum.inl i)) with
  | some kv=>Q (.v kv.2)
  | none=>False
 | .dik kvs,.str x,Q=>match kvs.find? (fun kv=>decide (kv.1=Sum.inr x)) with
  | some kv=>Q (.v kv.2)
  | none=>False
 | .dit kvs,.tup ds,Q=>∃ k:List Key,ds=k.map kD/\match kvs.find? (fun kv=>decide (kv.1=k)) with
  | some kv=>Q (.v kv.2)
  | none=>False
 | _,_,_=>False
section
variable {X:Cx} {a b e:Expr} {ta tb te:TEp} {pos:Pos}
theorem Reps.at {K:W.Frag} {M:Addr->Prop} {H:Hp} {xs:List V} {ds:List Dv} {i:Int} {d:Dv} (r:Reps K M H xs ds) (h:atI ds i=some d):∃ x,atI xs i=some x/\Rep K M H x d:=by
 unfold atI at *
 rw [r.length]
 cases e:ixN ds.length i with
 | none=>rw [e] at h; cases h
 | some j=>
  rw [e] at h
  obtain ⟨x,hx,rx⟩:=r.get (i:=j) h
  exact ⟨x,hx,rx⟩
theorem atI_map {α β:Type} {f:α->β} {l:List α} {i:Int}:atI (l.map f) i=(atI l i).map f:=by
 unfold atI
 rw [List.length_map]
 cases ixN l.length i with
 | none=>rfl
 | some j=>simp
theorem RepK.val {K:W.Frag} {M:Addr->Prop} {H:Hp} {k:Key} {xs:List (Key × V)} {ds:List (Key × Dv)} (r:RepK K M H xs ds):(∀ kv,ds.find? (fun kv=>decide (kv.1=k))=some kv -> ∃ x,a7X xs k=some x/\Rep K M H x kv.2)/\(ds.find? (fun kv=>decide (kv.1=k))=none->a7X xs k=none):=
 r.ind (P:=fun xs ds=>(∀ kv,ds.find? (fun kv=>decide (kv.1=k))=some kv -> ∃ x,a7X xs k=some x/\Rep K M H x kv.2)/\(ds.find? (fun kv=>decide (kv.1=k))=none->a7X xs k=none)) ⟨fun _ h=>(by cases h),fun _=>rfl⟩ fun k' x d xs ds a _ ih=>by
  by_cases e:k'=k
  ·rw [List.find?_cons_of_pos (by simpa using e),a5G e]
   exact ⟨fun kv h=>by cases h; exact ⟨x,rfl,a⟩,fun h=>by cases h⟩
  ·rw [List.find?_cons_of_neg (by simpa using e),a5H e]
   exact ih
theorem RepT.val {K:W.Frag} {M:Addr->Prop} {H:Hp} {k:List Key} {xs:List (List Key × V)} {ds:List (List Key × Dv)} (r:RepT K M H xs ds):(∀ kv,ds.find? (fun kv=>decide (kv.1=k))=some kv -> ∃ x,a7X xs k=some x/\Rep K M H x kv.2)/\(ds.find? (fun kv=>decide (kv.1=k))=none->a7X xs k=none):=
 r.ind (P:=fun xs ds=>(∀ kv,ds.find? (fun kv=>decide (kv.1=k))=some kv -> ∃ x,a7X xs k=some x/\Rep K M H x kv.2)/\(ds.find? (fun kv=>decide (kv.1=k))=none->a7X xs k=none)) ⟨fun _ h=>(by cases h),fun _=>rfl⟩ fun k' x d xs ds a _ ih=>by
  by_cases e:k'=k
  ·rw [List.find?_cons_of_pos (by simpa using e),a5G e]
   exact ⟨fun kv h=>by cases h; exact ⟨x,rfl,a⟩,fun h=>by cases h⟩
  ·rw [List.find?_cons_of_neg (by simpa using e),a5H e]
   exact ih
theorem Reps.keys {K:W.Frag} {M:Addr->Prop} {H:Hp}:∀ {xs:List V} {k:List Key},Reps K M H xs (k.map kD)->xs=k.map kV
 | _,[],.nil=>rfl
 | _,.inl i :: r,.cons a t=>by cases a; rw [Reps.keys t]; rfl
 | _,.inr x :: r,.cons a t=>by cases a; rw [Reps.keys t]; rfl
def rIxD:R2:=fun x y H Q=>∃ a v,x=.ref a/\DGet H a y (some v)/\Q v H
theorem ix_dict (hu:X.A.units + 1 < cLine):IxR X rIxD:=by
 intro value slice pins s σ H x y v u Q I rx ry h hs
 obtain ⟨a,z,rfl,g,q⟩:=h
 cases rx
 have hT:=dict_typeIs I g
 unfold subscriptTail
 refine wpAny_bind ?_
 rw [getitemInPython_of_ne hT.not_modules]
 refine wpAny_bind (wpAny_specialOf hT PySem.F.slot_dict_getitem.lookup ?_)
 have fin:wpAny (model X.prog X.w) X.A (subscripted slice false (.ref a) u) (fun r s₃=>wpAny (model X.prog X.w) X.A (letTemporaryGo value (.ref a) r >>= fun _=>pure r) (EP X pins σ Q) X.xe s₃) X.xe s:=by
  rw [hs]
  exact wpAny_operating (wpAny_mono (d_getItem hu I g ry fun w' s' I' rw'=>show EP X pins σ Q w' s' from ⟨z,H,I',rw',q⟩) (fun r s₃ h₃=>wpAny_bind (wpAny_letTemporaryGo (wpAny_pure h₃))) fun _ _ x=>x)
 first
  | exact wpAny_pure (wpAny_bind fin)
  | exact wpAny_bind (wpAny_pure (wpAny_bind fin))
  | exact wpAny_bind fin
theorem pIx_mono:∀ dx dy (Q Q':R->Prop),(∀ r,Q r->Q' r)->pIx dx dy Q->pIx dx dy Q':=by
 intro dx dy Q Q' w h
 unfold pIx at *
 split at h
 ·split at h
  ·exact w _ h
  ·exact h
 ·split at h
  ·exact w _ h
  ·exact h
 ·split at h
  ·exact w _ h
  ·exact h
 ·refine ⟨h.1,?_⟩
  have h2:=h.2
  split at h2
  ·exact w _ h2
  ·exact h2
 ·split at h
  ·exact w _ h
  ·exact h
 ·split at h
  ·exact w _ h
  ·exact h
 ·obtain ⟨k,e,h⟩:=h
  refine ⟨k,e,?_⟩
  split at h
  ·exact w _ h
  ·exact h
 ·exact h
theorem a2r (hu:X.A.units + 1 < cLine) (ha:QE X a ta) (hb:QE X b tb) (hs:PlainIx b:=by intro _ _; rfl):QE X (.Subscript a b pos) (eOp pIx ta tb):=by
 refine ⟨a6Z ha hb pIx_mono,fun HZ F=>a1J (pe_ix (ix_seq.or (ix_dict hu)) (ha.run HZ F) (hb.run HZ F) hs) (eOp_run ha hb (fun M O H x y dx dy Q cx cy h=>?_) pIx_mono HZ F)⟩
 unfold pIx at h
 split at h
 ·rename_i xs i
  split at h
  ·rename_i d hd
   obtain ⟨p,vs,rfl,ea,ra⟩:=cx.lst
   obtain rfl:=cy.int
   obtain ⟨z,hz,rz⟩:=ra.at hd
   exact .inl (.inl ⟨p,vs,i,z,rfl,rfl,SqL.of ea,hz,h _ H (a0F.refl _) rz⟩)
  ·exact h.elim
 ·rename_i xs i
  split at h
  ·rename_i d hd
   obtain ⟨p,vs,rfl,ea,ra⟩:=cx.tup
   obtain rfl:=cy.int
   obtain ⟨z,hz,rz⟩:=ra.at hd
   exact .inl (.inr (.inl ⟨p,vs,i,z,rfl,rfl,SqT.of ea,hz,h _ H (a0F.refl _) rz⟩))
  ·exact h.elim
 ·rename_i ns i
  split at h
  ·rename_i n hn
   obtain ⟨p,rfl,ea⟩:=cx.scr
   obtain rfl:=cy.int
   refine .inl (.inl ⟨p,_,i,.int n,rfl,rfl,ea.sq,?_,h _ H (a0F.refl _) (Rep.int _)⟩)
   rw [atI_map,hn]
   rfl
  ·exact h.elim
 ·rename_i z i
  obtain ⟨hl,h⟩:=h
  split at h
  ·rename_i c hc
   obtain rfl:=cx.str
   obtain rfl:=cy.int
   exact .inl (.inr (.inr ⟨z,i,c,rfl,rfl,a3B hl,hc,h _ H (a0F.refl _) (Rep.str _)⟩))
  ·exact h.elim
 ·split at h
  ·rename_i kv hk
   obtain ⟨p,kvs,rfl,ea,ra⟩:=cx.dik
   obtain rfl:=cy.int
   obtain ⟨z,hz,rz⟩:=ra.val.1 kv hk
   exact .inr ⟨p,z,rfl,by rw [<- hz]; exact DGet.k (k:=Sum.inl _) ea,h _ H (a0F.refl _) rz⟩
  ·exact h.elim
 ·split at h
  ·rename_i kv hk
   obtain ⟨p,kvs,rfl,ea,ra⟩:=cx.dik
   obtain rfl:=cy.str
   obtain ⟨z,hz,rz⟩:=ra.val.1 kv hk
   exact .inr ⟨p,z,rfl,by rw [<- hz]; exact DGet.k (k:=Sum.inr _) ea,h _ H (a0F.refl _) rz⟩
  ·exact h.elim
 ·obtain ⟨k,rfl,h⟩:=h
  split at h
  ·rename_i kv hk
   obtain ⟨p,ep,kvs,rfl,ea,ra⟩:=cx.dit
   obtain ⟨b,ys,rfl,eb,rb⟩:=cy.tup
   obtain rfl:=rb.keys
   obtain ⟨z,hz,rz⟩:=ra.val.1 kv hk
   exact .inr ⟨p,z,rfl,by rw [<- hz]; exact DGet.t ea eb,h _ H (a0F.refl _) rz⟩
  ·exact h.elim
 ·exact h.elim
abbrev TOp:=List Sl->(Option Int->Prop)->Prop
structure QO (X:Cx) (e:Option Expr) (t:TOp):Prop where
 mono:∀ (ρ:List Sl) (Q Q':Option Int->Prop),(∀ r,Q r->Q' r)->t ρ Q->t ρ Q'
 run:∀ (HZ:Hp) (F:Addr->Prop),PO X e (fun σ H Q=>∃ ρ,Fr X.K HZ F σ H ρ/\t ρ fun o=>∀ H',a0F H H'->Q o H')
noncomputable def a4e:TOp:=fun _ Q=>Q none
noncomputable def ePart (te:TEp):TOp:=fun ρ Q=>te ρ fun r=>match r.d with
 | .int i=>Q (some i)
 | _=>False
theorem PO_imp {e:Option Expr} {t t':TO} (h:PO X e t) (w:∀ σ H Q,t' σ H Q->t σ H Q):PO X e t':=fun pins s σ H Q I q=>h pins s σ H Q I (w σ H Q q)
theorem a7n:QO X none a4e:=⟨fun _ _ _ w q=>w _ q,fun HZ F=>PO_imp po_none fun σ H Q ⟨ρ,fr,q⟩=>q H (a0F.refl _)⟩
theorem a7m (h:QE X e te):QO X (some e) (ePart te):=by
 refine ⟨fun ρ Q Q' w q=>h.mono _ _ _ (fun r q=>?_) q,fun HZ F=>PO_imp (po_some (h.run HZ F)) fun σ H Q ⟨ρ,fr,q⟩=>?_⟩
 ·split at q
  ·exact w _ q
  ·exact q
 ·refine h.step fr q fun r x H1 q S1 r1=>?_
  split at q
  ·rename_i i e
   have c:=r1.c
   rw [e] at c
   exact ⟨i,c.int,q H1 S1⟩
  ·exact q.elim
noncomputable def cut {α:Type} (xs:List α) (lo hi:Option Int):List α:=(xs.drop (HT.sIx xs.length 0 lo)).take (HT.sIx xs.length xs.length hi - HT.sIx xs.length 0 lo)
def pSl:Dv->Option Int->Option Int->(R->Prop)->Prop
 | .lst xs,lo,hi,Q=>Q (.nw (.lst (cut xs lo hi)))
 | .scr ns,lo,hi,Q=>Q (.nw (.lst ((cut ns lo hi).map .int)))
 | .tup xs,lo,hi,Q=>¬ (HT.sIx xs.length 0 lo=0/\HT.sIx xs.length xs.length hi=xs.length)/\Q (.v (.tup (cut xs lo hi)))
 | _,_,_,_=>False
def eSl (te:TEp) (tl th:TOp):TEp:=fun ρ Q=>te ρ fun r=>tl ρ fun lo=>th ρ fun hi=>pSl r.d lo hi Q
theorem pSl_mono:∀ d lo hi (Q Q':R->Prop),(∀ r,Q r->Q' r)->pSl d lo hi Q->pSl d lo hi Q':=by
 intro d lo hi Q Q' w h
 unfold pSl at *
 split at h <;> first | exact w _ h | exact ⟨h.1,w _ h.2⟩ | exact h
theorem Reps.cut {K:W.Frag} {M:Addr->Prop} {H:Hp} {xs:List V} {ds:List Dv} (r:Reps K M H xs ds) (lo hi:Option Int):Reps K M H (cutV xs lo hi) (Z.cut ds lo hi):=by
 unfold cutV Z.cut
 rw [r.length]
 exact (r.drop _).take _
theorem a7o {lo hi:Option Expr} {tl th:TOp} {p2:Pos} (he:QE X e te) (hl:QO X lo tl) (hh:QO X hi th):QE X (.Subscript e (.Slice lo hi none p2) pos) (eSl te tl th):=by
 refine ⟨fun ρ Q Q' w q=>he.mono _ _ _ (fun r q=>hl.mono _ _ _ (fun l q=>hh.mono _ _ _ (fun u q=>pSl_mono _ _ _ _ _ w q) q) q) q,fun HZ F=>a1J (pe_slice (sl_list.or sl_tup) (he.run HZ F) (hl.run HZ F) (hh.run HZ F)) fun σ H Q ⟨ρ,fr,q⟩=>?_⟩
 refine he.step fr q fun r x H1 q S1 r1=>?_
 refine ⟨ρ,fr.mono S1,hl.mono _ _ _ (fun l q H2 S2=>?_) q⟩
 refine ⟨ρ,(fr.mono S1).mono S2,hh.mono _ _ _ (fun u q H3 S3=>?_) q⟩
 have S13:=(S1.trans S2).trans S3
 have c:=(r1.mono (S2.trans S3)).c
 generalize r.d=d at q c
 unfold pSl at q
 split at q
 ·obtain ⟨a,xs,rfl,ea,ra⟩:=c.lst
  exact .inl ⟨a,xs,rfl,SqL.of ea,fun p hp=>q _ _ (S13.trans (a0F.new' hp)) ((a4C hp (ra.cut _ _)).ahead S13)⟩
 ·obtain ⟨a,rfl,ea⟩:=c.scr
  refine .inl ⟨a,_,rfl,ea.sq,fun p hp=>q _ _ (S13.trans (a0F.new' hp)) (a3L.ahead (a4C hp ?_) S13)⟩
  have:∀ (ns:List Int) l u,(Z.cut ns l u).map Dv.int=Z.cut (ns.map Dv.int) l u:=fun ns l u=>by
   unfold Z.cut
   simp [List.map_take,List.map_drop]
  rw [this]
  exact (Reps.ints _).cut _ _
 ·obtain ⟨a,xs,rfl,ea,ra⟩:=c.tup
  exact .inr ⟨a,xs,rfl,SqT.of ea,by rw [ra.length]; exact q.1,fun p hp=>q.2 _ _ (S13.trans (a0F.new' hp)) (a3L.ahead (v_tup hp (ra.cut _ _)) S13)⟩
 ·exact q.elim
end
end Z
namespace Z
open PySem PySem.Spec PyProof.Rows L2
section
variable {X:Cx} {a b c e:Expr} {ta tb tc te:TEp} {pos:Pos}
theorem q_chain {op op':CmpOp} {f f':Int->Int->Bool} (ho:OpR X (compareOp op) (rI0 fun i j=>.bl (f i j))) (ho':OpR X (compareOp op') (rI0 fun i j=>.bl (f' i j))) (ha:QE X a ta) (hb:QE X b tb) (hc:QE X c tc)
  (hm:lastMarks [op,op'] [b,c]=false:=by with_unfolding_all rfl):QE X (.Compare a [op,op'] [b,c] pos) (a6F (pI2 f) (pI2 f') ta tb tc):=by
 refine ⟨fun ρ Q Q' w q=>ha.mono _ _ _ (fun rx q=>hb.mono _ _ _ (fun ry q=>pI2_mono _ _ _ _ (fun z q=>?_) q) q) q,fun HZ F=>a1J (pe_chain ho ho' (ha.run HZ F) (hb.run HZ F) (hc.run HZ F) hm) fun σ H Q ⟨ρ,fr,q⟩=>?_⟩
 ·split at q
  ·split at q
   ·rw [if_pos ‹_›]; exact hc.mono _ _ _ (fun w' q=>pI2_mono _ _ _ _ w q) q
   ·rw [if_neg ‹_›]; exact w _ q
  ·exact q
 ·refine ha.step fr q fun rx x H1 q1 S1 r1=>?_
  refine hb.step (fr.mono S1) q1 fun ry y H2 q2 S2 r2=>?_
  have cx:=(r1.mono S2).c
  have cy:=r2.c
  generalize rx.d=dx at q2 cx
  generalize ry.d=dy at q2 cy
  unfold pI2 at q2
  split at q2
  ·rename_i Q2 i j
   obtain rfl:=cx.int
   obtain rfl:=cy.int
   refine ⟨_,_,rfl,rfl,f i j,rfl,?_⟩
   have S12:=S1.trans S2
   replace q2:=(show (if f i j=true then tc ρ (fun w=>pI2 f' (.int j) w.d (fun r=>∀ x H',a0F H H'->a3L X.K (MM F ρ) (Z.Own ρ) H x r H'->Q x H')) else (∀ x H',a0F H H'->a3L X.K (MM F ρ) (Z.Own ρ) H x (.v (.bl false)) H'->Q x H')) from q2)
   cases h:f i j with
   | true=>
    rw [h] at q2
    simp only [if_true] at q2
    refine iteT (hc.step ((fr.mono S1).mono S2) q2 fun rw' z H3 q3 S3 r3=>?_)
    have cz:=r3.c
    generalize rw'.d=dz at q3 cz
    cases dz with
    | int l=>
     obtain rfl:=cz.int
     exact ⟨_,_,rfl,rfl,q3 _ H3 (S12.trans S3) (Rep.bl _)⟩
    | _=>exact (show False from q3).elim
   | false=>
    rw [h] at q2
    simp only [Bool.false_eq_true,if_false] at q2
    exact iteF (q2 _ H2 S12 (Rep.bl _))
  ·exact q2.elim
noncomputable def truD:Dv->Option Bool
 | .non=>some false
 | .bl b=>some b
 | .int i=>some (i != 0)
 | .lst xs=>some (!xs.isEmpty)
 | .tup xs=>some (!xs.isEmpty)
 | .dik xs=>some (!xs.isEmpty)
 | .scr xs=>some (!xs.isEmpty)
 | _=>none
def a7V (te:TEp):TTp:=fun ρ Q=>te ρ fun r=>match truD r.d with
 | some k=>Q k
 | none=>False
theorem Reps.empty {K:W.Frag} {M:Addr->Prop} {H:Hp} {xs:List V} {ds:List Dv} (r:Reps K M H xs ds):xs.isEmpty=ds.isEmpty:=by cases r <;> rfl
theorem a2S (h:QE X e te) (he:∀ whole,isTrue e X.env whole=(do let v <- whole; standAt e.pos; holding [v] (truthy v)):=by intro _; rfl):QT X e (a7V te):=by
 refine ⟨fun ρ Q Q' w q=>h.mono _ _ _ (fun r q=>?_) q,fun HZ F=>PT_imp (pt_truth (h.run HZ F) he) fun σ H Q ⟨ρ,fr,q⟩=>?_⟩
 ·split at q
  ·exact w _ q
  ·exact q
 ·refine h.step fr q fun r x H1 q S1 r1=>?_
  have cx:=r1.c
  generalize r.d=d at q cx
  split at q
  ·rename_i k hk
   refine ⟨k,?_,q H1 S1⟩
   cases d with
   | non=>obtain rfl:=cx.non; simp only [truD,Option.some.injEq] at hk; subst hk; rfl
   | bl b=>obtain rfl:=cx.bl; simp only [truD,Option.some.injEq] at hk; exact hk.symm
   | int i=>obtain rfl:=cx.int; simp only [truD,Option.some.injEq] at hk; exact hk.symm
   | lst ds=>
    obtain ⟨a,xs,rfl,ea,ra⟩:=cx.lst
    simp only [truD,Option.some.injEq] at hk
    exact .inl ⟨xs,SqL.of ea,by rw [ra.empty]; exact hk.symm⟩
   | tup ds=>
    obtain ⟨a,xs,rfl,ea,ra⟩:=cx.tup
    simp only [truD,Option.some.injEq] at hk
    exact .inr (.inl ⟨xs,SqT.of ea,by rw [ra.empty]; exact hk.symm⟩)
   | dik ds=>
    obtain ⟨a,xs,rfl,ea,ra⟩:=cx.dik
    simp only [truD,Option.some.injEq] at hk
    exact .inr (.inr ⟨xs,ea,by rw [<- hk]; cases ra <;> rfl⟩)
   | scr ns=>
    obtain ⟨a,rfl,ea⟩:=cx.scr
    simp only [truD,Option.some.injEq] at hk
    exact .inl ⟨_,ea.sq,by rw [<- hk]; cases ns <;> rfl⟩
   | _=>simp [truD] at hk
  ·exact q.elim
end
abbrev Fn:=List Dv->(R->Prop)->Prop
inductive low (K:W.Frag) (sp:Fn) (vs:List V) (H:Hp) (Q:VK) (E:XK):Prop
 | mk (F:Addr->Prop) (ds:List Dv) (hF:OldF K F H) (r:Reps K F H vs ds) (q:sp ds (fun r=>∀ x H',a0F H H'->a3L K F NoOwn H x r H'->Q x H'))
structure MonoF (sp:Fn):Prop where
 mo:∀ ds (Q Q':R->Prop),(∀ r,Q r->Q' r)->sp ds Q->sp ds Q'
structure Def (P:Program) (w:World) (K:W.Frag) (mg:Str->Option Value) (base:Heap) (k:Nat) (x:Str) (ps:List Str) (sp:Sp):Prop where
 ex:∃ f fd,mg x=some (.ref f)/\W.keepIn K (.ref f)=true/\a5F K fd ps []/\FnOk P w K mg base CX0 k f fd ps sp
structure At (K:W.Frag) (mg:Str->Option Value) (x nm:Str) (st:Stmt) (ps:List Str):Prop where
 ex:∃ f fd,mg x=some (.ref f)/\Fun K nm nm st f fd/\a5F K fd ps []
structure MDef (P:Program) (w:World) (K:W.Frag) (mg:Str->Option Value) (base:Heap) (k:Nat) (C:Addr) (m:Str) (ps:List Str) (sp:Sp):Prop where
 ex:∃ f fd,Meth K C m f/\a5F K fd ps []/\FnOk P w K mg base CX0 k f fd ps sp
structure MAt (K:W.Frag) (C:Addr) (m qual:Str) (st:Stmt) (ps:List Str):Prop where
 ex:∃ f fd,Meth K C m f/\Fun K m qual st f fd/\a5F K fd ps []
theorem At.ok {P:Program} {w:World} {K:W.Frag} {mg:Str->Option Value} {base:Heap} {k:Nat} {x nm:Str} {st:Stmt} {ps N:List Str} {sp:Sp} (a:At K mg x nm st ps) (S:FnScope N ps (a0e st)) (len:∀ vs H Q E,sp vs H Q E->vs.length=ps.length)
  (hbody:∀ (f:Addr) (cdv:Value) (A:Around) (outer:List Env) (s:Shared) (H:Hp) (vs:List V) (Q:VK) (E:XK),Room k (A.deeper (envOfC nm (a0e st) s.heap.objs.size f cdv))->sp vs H Q E ->
   ∃ t,PSs (cxOf CX0 P w K mg base N nm (a0e st) f cdv A outer s H E).nox (a0r st) t/\t { nx:=fun _ H'=>Q .non H',rt:=Q } (start N vs) H):Def P w K mg base (k + 1) x ps sp:=by
 obtain ⟨f,fd,hm,F,hb⟩:=a.ex
 exact ⟨f,fd,hm,F.kp,hb,F.ok S len (hbody f)⟩
theorem MAt.ok {P:Program} {w:World} {K:W.Frag} {mg:Str->Option Value} {base:Heap} {k:Nat} {C:Addr} {m qual:Str} {st:Stmt} {ps N:List Str} {sp:Sp} (a:MAt K C m qual st ps) (S:FnScope N ps (a0e st)) (len:∀ vs H Q E,sp vs H Q E->vs.length=ps.length)
  (hbody:∀ (f:Addr) (cdv:Value) (A:Around) (outer:List Env) (s:Shared) (H:Hp) (vs:List V) (Q:VK) (E:XK),Room k (A.deeper (envOfC qual (a0e st) s.heap.objs.size f cdv))->sp vs H Q E ->
   ∃ t,PSs (cxOf CX0 P w K mg base N qual (a0e st) f cdv A outer s H E).nox (a0r st) t/\t { nx:=fun _ H'=>Q .non H',rt:=Q } (start N vs) H):MDef P w K mg base (k + 1) C m ps sp:=by
 obtain ⟨f,fd,hm,F,hb⟩:=a.ex
 exact ⟨f,fd,hm,hb,F.ok S len (hbody f)⟩
noncomputable def a0m (N:List Str) (ds:List Dv):List Sl:=ds.map .v ++ List.replicate (N.length - ds.length) .un
theorem start_fr {K:W.Frag} {F:Addr->Prop} {H:Hp} {N:List Str} {vs:List V} {ds:List Dv} (hF:OldF K F H) (r:Reps K F H vs ds):Fr K H F (start N vs) H (a0m N ds):=by
 have no:∀ {a:Addr} {d:Dv},Sl.own a d ∈ a0m N ds->False:=fun {a d} h=>by
  rcases List.mem_append.mp h with h | h
  ·obtain ⟨z,_,e⟩:=List.mem_map.mp h
   cases e
  ·cases List.eq_of_mem_replicate h
 have wk:∀ a,MM F (a0m N ds) a->F a:=fun a h=>by
  rcases h with h | ⟨d,h⟩
  ·exact h
  ·exact (no h).elim
 have hl:=r.length
 refine ⟨by simp [L2.start,a0m,hl],fun i s e=>?_,fun i j a d d' e _=>(no (List.mem_of_getElem? e)).elim,fun a d h=>(no h).elim,a0F.refl _,hF⟩
 unfold a0m at e
 by_cases hi:i < ds.length
 ·rw [List.getElem?_append_left (by simpa using hi),List.getElem?_map] at e
  cases q:ds[i]? with
  | none=>rw [q] at e; cases e
  | some d=>
   rw [q] at e
   cases e
   obtain ⟨x,hx,rx⟩:=r.get q
   refine ⟨x,?_,rx.weak wk⟩
   unfold L2.start
   rw [List.getElem?_append_left (by simpa using (List.getElem?_eq_some_iff.mp hx).1),List.getElem?_map,hx]
   rfl
 ·rw [List.getElem?_append_right (by simpa using Nat.le_of_not_lt hi)] at e
  have:=List.mem_of_getElem? e
  cases List.eq_of_mem_replicate this
  trivial
theorem body_ok {X:Cx} {sts:List Stmt} {t:TSp} {N:List Str} {H:Hp} {vs:List V} {Q:VK} {E:XK} {sp:Fn} (h:QSs X sts t) (hsp:∀ ds Q,sp ds Q->t { nx:=fun _=>Q (.v .non),rt:=Q } (a0m N ds)) (q:low X.K sp vs H Q E):
  ∃ t',PSs X sts t'/\t' { nx:=fun _ H'=>Q .non H',rt:=Q } (start N vs) H:=by
 obtain ⟨F,ds,hF,r,q⟩:=q
 exact ⟨_,h.run H F,a0m N ds,_,start_fr hF r,hsp ds _ q,fun ρ σ H' fr q=>q .non H' fr.same Rep.non,fun _ _ _ _ z=>z.elim,fun _ _ _ _ z=>z.elim,fun rr x H' S rx q=>q x H' S rx⟩
theorem low_len {K:W.Frag} {sp:Fn} {n:Nat} (h:∀ ds Q,sp ds Q->ds.length=n):∀ vs H Q E,low K sp vs H Q E->vs.length=n:=fun vs H Q E ⟨F,ds,_,r,q⟩=>by rw [r.length]; exact h _ _ q
theorem At.okP {P:Program} {w:World} {K:W.Frag} {mg:Str->Option Value} {base:Heap} {k:Nat} {x nm:Str} {st:Stmt} {ps N:List Str} {sp:Fn} {t:TSp} (a:At K mg x nm st ps) (S:FnScope N ps (a0e st))
  (hq:∀ (f:Addr) (cdv:Value) (A:Around) (outer:List Env) (s:Shared) (H:Hp) (E:XK),Room k (A.deeper (envOfC nm (a0e st) s.heap.objs.size f cdv))->QSs (cxOf CX0 P w K mg base N nm (a0e st) f cdv A outer s H E).nox (a0r st) t)
  (len:∀ ds Q,sp ds Q->ds.length=ps.length) (hsp:∀ ds Q,sp ds Q->t { nx:=fun _=>Q (.v .non),rt:=Q } (a0m N ds)):Def P w K mg base (k + 1) x ps (low K sp):=
 a.ok S (low_len len) fun f cdv A outer s H vs Q E hr q=>body_ok (hq f cdv A outer s H E hr) hsp q
theorem MAt.okP {P:Program} {w:World} {K:W.Frag} {mg:Str->Option Value} {base:Heap} {k:Nat} {C:Addr} {m qual:Str} {st:Stmt} {ps N:List Str} {sp:Fn} {t:TSp} (a:MAt K C m qual st ps) (S:FnScope N ps (a0e st))
  (hq:∀ (f:Addr) (cdv:Value) (A:Around) (outer:List Env) (s:Shared) (H:Hp) (E:XK),Room k (A.deeper (envOfC qual (a0e st) s.heap.objs.size f cdv))->QSs (cxOf CX0 P w K mg base N qual (a0e st) f cdv A outer s H E).nox (a0r st) t)
  (len:∀ ds Q,sp ds Q->ds.length=ps.length) (hsp:∀ ds Q,sp ds Q->t { nx:=fun _=>Q (.v .non),rt:=Q } (a0m N ds)):MDef P w K mg base (k + 1) C m ps (low K sp):=
 a.ok S (low_len len) fun f cdv A outer s H vs Q E hr q=>body_ok (hq f cdv A outer s H E hr) hsp q
noncomputable def R.flat:R->Bool
 | .v d=>a4Z d
 | .nw d=>flatO d
 | .ow _ _=>false
def back (rs:List R) (Q:R->Prop):R->Prop:=fun r=>(rs.all R.free=true \/ r.flat=true)/\Q r
def a0t (sp:Fn) (ts:TAp):TEp:=fun ρ Q=>ts ρ fun rs=>sp (rs.map R.d) (back rs Q)
section
variable {K:W.Frag} {HZ H H1:Hp} {F:Addr->Prop} {σ:St} {ρ:List Sl}
def lent (M:Addr->Prop) (rs:List R):Addr->Prop:=fun a=>M a /\ ∀ d,R.ow a d ∉ rs
theorem a7E (fr:Fr K HZ F σ H ρ) {all:List R}:∀ {xs:List V} {rs:List R},(∀ r ∈ rs,r ∈ all)->Paired (fun x r=>a3L K (MM F ρ) (Z.Own ρ) H x r H1) xs rs->Reps K (lent (MM F ρ) all) H1 xs (rs.map R.d)
 | _,_,_,.nil=>.nil
 | _,r :: _,hs,.cons a t=>by
  refine .cons ?_ (a7E fr (fun r hr=>hs r (by simp [hr])) t)
  have wk:∀ a,lent (MM F ρ) all a->MM F ρ a:=fun a z=>z.1
  cases r with
  | v d=>exact Rep.weak wk a
  | nw d=>exact (a3L.rep a (fun a m=>fr.dom m) rfl).weak wk
  | ow b d=>
   obtain ⟨rfl,_,o⟩:=a
   exact (o.weak wk).rep fun z=>z.2 d (hs _ (by simp))
theorem all_free {rs:List R} (h:rs.all R.free=true) (a:Addr) (d:Dv):R.ow a d ∉ rs:=fun z=>by
 have:=List.all_eq_true.mp h _ z
 simp [R.free] at this
theorem lent_back {rs:List R} {x:V} {r:R} {H':Hp} {O:Addr->Dv->Prop} (fr:Fr K HZ F σ H ρ) (S1:a0F H H1) (h:a3L K (lent (MM F ρ) rs) NoOwn H1 x r H') (f:rs.all R.free=true \/ r.flat=true):a3L K (MM F ρ) O H x r H':=by
 rcases f with f | f
 ·have wk:∀ a,MM F ρ a->lent (MM F ρ) rs a:=fun a z=>⟨z,fun d=>all_free f a d⟩
  cases r with
  | v d=>exact Rep.weak wk h
  | ow a d=>exact h.2.1.elim
  | nw d=>
   obtain ⟨a,e,n,o⟩:=h
   exact ⟨a,e,S1.free n,o.weak fun b z=>z.elim (fun z=>.inl (wk b z)) .inr⟩
 ·cases r with
  | v d=>exact Rep.flat f h
  | ow a d=>exact h.2.1.elim
  | nw d=>
   obtain ⟨a,e,n,o⟩:=h
   exact ⟨a,e,S1.free n,o.flat f⟩
end
section
variable {X:Cx} {k:Nat} {x:Str} {ps:List Str} {sp:Fn} {e o:Expr} {es:List Expr} {ts:TAp} {to:TEp} {p pos apos:Pos} {C:Addr} {m:Str}
theorem call_low {rs:List R} {xs:List V} {HZ H H1:Hp} {F:Addr->Prop} {σ:St} {ρ:List Sl} {Q:VK} {E:XK} {Q':R->Prop} (mo:MonoF sp) (fr:Fr X.K HZ F σ H ρ) (S1:a0F H H1) (r1:a6R X.K (MM F ρ) (Z.Own ρ) H xs rs H1) (q:sp (rs.map R.d) (back rs Q'))
  (w:∀ r,Q' r -> ∀ x H',a0F H H'->a3L X.K (MM F ρ) (Z.Own ρ) H x r H'->Q x H'):low X.K sp xs H1 Q E:=by
 refine ⟨lent (MM F ρ) rs,_,⟨fun a z=>(fr.mono S1).dom z.1,(fr.mono S1).tab⟩,a7E fr (fun _ h=>h) r1,mo.mo _ _ _ (fun r q x H' S rx=>?_) q⟩
 exact w r q.2 x H' (S1.trans S) (lent_back fr S1 rx q.1)
theorem a5X {rs:List R} {Q Q':R->Prop} (w:∀ r,Q r->Q' r):∀ r,back rs Q r->back rs Q' r:=fun r h=>⟨h.1,w r h.2⟩
theorem a0E (d:Def X.prog X.w X.K X.mg X.base k x ps (low X.K sp)) (mo:MonoF sp) (hr:Room k X.A) (ha:QA X (e :: es) ts) (hg:Gl X x:=by rfl)
  (hdb:(x == ("__debug__" : Str))=false:=by decide) (he:starEach (e :: es) X.env=(false,eval e X.env) :: starEach es X.env:=by rfl) (hpl:(backTo pos (starEach es X.env)).any (·.1)=false:=by rfl):
  QE X (.Call (.Name x p) (e :: es) [] pos) (a0t sp ts):=by
 obtain ⟨f,fd,hm,hk,hb,FO⟩:=d.ex
 refine ⟨fun ρ Q Q' w q=>ha.mono _ _ _ (fun rs q=>mo.mo _ _ _ (a5X w) q) q,fun HZ F=>a1J (pe_call FO hr hg hm hk hb .nil pass0 (ha.run HZ F) hdb he hpl) fun σ H Q ⟨ρ,fr,h⟩=>?_⟩
 refine ha.step fr h fun rs xs H1 q S1 r1=>?_
 rw [List.append_nil]
 exact call_low mo fr S1 r1 q fun r z=>z
def a6M (C:Addr) (m:Str) (sp:Fn) (to:TEp) (ts:TAp):TEp:=fun ρ Q=>to ρ fun ro=>match ro.d with
 | .obj C' fs=>(C'=C/\fs.lookup m=none)/\ts ρ fun rs=>sp (ro.d :: rs.map R.d) (back (ro :: rs) Q)
 | _=>False
theorem RepF.lookup {K:W.Frag} {M:Addr->Prop} {H:Hp} {f:Str} {xs:List (Str × V)} {ds:List (Str × Dv)} (r:RepF K M H xs ds):(ds.lookup f=none->xs.lookup f=none) /\ ∀ d,ds.lookup f=some d -> ∃ x,xs.lookup f=some x/\Rep K M H x d:=
 r.ind (P:=fun xs ds=>(ds.lookup f=none->xs.lookup f=none) /\ ∀ d,ds.lookup f=some d -> ∃ x,xs.lookup f=some x/\Rep K M H x d) ⟨fun _=>rfl,fun d h=>by cases h⟩ fun k x d xs ds a _ ih=>by
  rw [List.lookup_cons,List.lookup_cons]
  cases h:f == k with
  | true=>
   refine ⟨fun z=>?_,fun d' z=>?_⟩
   ·cases z
   ·cases z; exact ⟨x,rfl,a⟩
  | false=>exact ih
theorem q_meth (c:Cls X.K C) (d:MDef X.prog X.w X.K X.mg X.base k C m ps (low X.K sp)) (mo:MonoF sp) (hr:Room k X.A) (ho:QE X o to) (ha:QA X (e :: es) ts) {pl:Sem Bool}
  (hst:starEach (e :: es) X.env=(false,eval e X.env) :: starEach es X.env:=by rfl) (hpl:(backTo pos (starEach es X.env)).any (·.1)=false:=by rfl)
  (ht:eval (.Call (.Attribute o m apos) (e :: es) [] pos) X.env=(do
   let ov <- eval o X.env
   standAt apos.atName
   let (f,first) <- holding [ov] (getMethod ov m pl)
   callWith pos f first (backTo pos (starEach (e :: es) X.env)) (backToKw pos (keywordEach [] X.env))):=by rfl):
  QE X (.Call (.Attribute o m apos) (e :: es) [] pos) (a6M C m sp to ts):=by
 obtain ⟨f,fd,hm,hb,FO⟩:=d.ex
 refine ⟨fun ρ Q Q' w q=>ho.mono _ _ _ (fun ro q=>?_) q,fun HZ F=>a1J (pe_meth (pl:=pl) (ho.run HZ F) c hm FO hr hb .nil pass0 (ha.run HZ F) hst hpl ht) fun σ H Q ⟨ρ,fr,h⟩=>?_⟩
 ·split at q
  ·exact ⟨q.1,ha.mono _ _ _ (fun rs q=>mo.mo _ _ _ (a5X w) q) q.2⟩
  ·exact q
 ·refine ho.step fr h fun ro x H1 q S1 r1=>?_
  split at q
  ·rename_i C' fs e
   obtain ⟨⟨rfl,hl⟩,q⟩:=q
   have cx:=r1.c
   rw [e] at cx
   obtain ⟨a,dx,fs',rfl,ea,ra⟩:=cx.obj
   refine ⟨a,dx,fs',rfl,ea,ra.lookup.1 hl,ha.step (fr.mono S1) q fun rs xs H2 q S2 r2=>?_⟩
   rw [List.append_nil]
   exact call_low (rs:=ro :: rs) (xs:=.ref a :: xs) mo fr (S1.trans S2) (.cons (r1.mono S2) (r2.ahead S1)) q fun r z=>z
  ·exact q.elim
theorem a8W (c:Cls X.K C) (d:MDef X.prog X.w X.K X.mg X.base k C m ps (low X.K sp)) (mo:MonoF sp) (hr:Room k X.A) (ho:QE X o to) {pl:Sem Bool}
  (ht:eval (.Call (.Attribute o m apos) [] [] pos) X.env=(do
   let ov <- eval o X.env
   standAt apos.atName
   let (f,first) <- holding [ov] (getMethod ov m pl)
   callWith pos f first (backTo pos (starEach [] X.env)) (backToKw pos (keywordEach [] X.env))):=by rfl):
  QE X (.Call (.Attribute o m apos) [] [] pos) (a6M C m sp to a0i):=by
 obtain ⟨f,fd,hm,hb,FO⟩:=d.ex
 refine ⟨fun ρ Q Q' w q=>ho.mono _ _ _ (fun ro q=>?_) q,fun HZ F=>a1J (pe_meth0 (pl:=pl) (ho.run HZ F) c hm FO hr hb .nil pass0 ht) fun σ H Q ⟨ρ,fr,h⟩=>?_⟩
 ·split at q
  ·exact ⟨q.1,mo.mo _ _ _ (a5X w) q.2⟩
  ·exact q
 ·refine ho.step fr h fun ro x H1 q S1 r1=>?_
  split at q
  ·rename_i C' fs e
   obtain ⟨⟨rfl,hl⟩,q⟩:=q
   have cx:=r1.c
   rw [e] at cx
   obtain ⟨a,dx,fs',rfl,ea,ra⟩:=cx.obj
   refine ⟨a,dx,fs',rfl,ea,ra.lookup.1 hl,?_⟩
   exact call_low (rs:=[ro]) (xs:=[.ref a]) (E:=E0) mo fr S1 (.cons r1 .nil) q fun r z=>z
  ·exact q.elim
def eFld (C:Addr) (f:Str) (to:TEp):TEp:=fun ρ Q=>to ρ fun ro=>match ro.d with
 | .obj C' fs=>C'=C/\match fs.lookup f with
  | some d=>Q (.v d)
  | none=>False
 | _=>False
theorem q_fld {f:Str} (c:Cls X.K C) (n:a4n X.K C f) (ho:QE X o to) (hb:attributeBase o f X.env (eval o X.env)=eval o X.env:=by rfl):QE X (.Attribute o f pos) (eFld C f to):=by
 refine ⟨fun ρ Q Q' w q=>ho.mono _ _ _ (fun ro q=>?_) q,fun HZ F=>a1J (pe_fld (ho.run HZ F) hb) fun σ H Q ⟨ρ,fr,h⟩=>?_⟩
 ·split at q
  ·refine ⟨q.1,?_⟩
   have q2:=q.2
   split at q2
   ·exact w _ q2
   ·exact q2
  ·exact q
 ·refine ho.step fr h fun ro x H1 q S1 r1=>?_
  split at q
  ·rename_i C' fs e
   obtain ⟨rfl,q⟩:=q
   have cx:=r1.c
   rw [e] at cx
   obtain ⟨a,dx,fs',rfl,ea,ra⟩:=cx.obj
   split at q
   ·rename_i d hd
    obtain ⟨z,hz,rz⟩:=ra.lookup.2 d hd
    exact ⟨a,_,dx,fs',z,rfl,ea,c,n,hz,q _ H1 S1 rz⟩
   ·exact q.elim
  ·exact q.elim
end
end Z
namespace L2
open PySem PySem.Spec PyProof.Rows
section
variable {X:Cx} {tg:Expr}
noncomputable def ItrC (lo c:Int) (n:Nat):It:=⟨fun i _=>i < n,fun i H x H'=>H'=H/\x=.int (lo + i * c),fun i _=>n<=i⟩
theorem turn_rangeC {P:Program} {w:World} {K:W.Frag} {tg:Expr} (it:Addr) (lo c:Int) (n:Nat):Turn P w K tg (ItrC lo c n) [it] it (fun i h=>IsRangeIter h it (lo + (i:Nat) * c) ((n:Int) - (i:Nat)) c) where
 mem:=by simp
 obj:=fun i h st b hb=>by
  have e:b=it:=by simpa using hb
  subst e
  exact ⟨_,st,fun v z=>by
   have z':Data.fields _=Data.cell v:=z
   cases z'⟩
 keep:=fun i h h' st k=>k it (by simp) _ st
 item:=by
  intro X hP hw hK hc i pins s σ H E I hf st hg
  subst hP hw hK
  obtain ⟨f0,f1,f2,f3,f4,f5⟩:=hf it (by simp)
  refine a8A hg st fun v h' tk hv st' kk=>?_
  obtain ⟨t,rfl⟩:=hv
  have I1:Inv X pins σ H { s with heap:=h',toks:=tk }:=I.turned (fun b o hb e=>kk b o (by simpa using hb) e) f0 f1 f3 f4 f5
  exact ⟨_,rfl,go_of (s:={ s with heap:=h',toks:=tk }) (n:="range_iterator") st' rfl rfl (by decide) ⟨.int (lo + i * c),H,I1,⟨t,rfl⟩,⟨rfl,rfl⟩,st',fun b hb=>(hf b hb).1⟩⟩
 done:=by
  intro X hP hw hK hc i pins s σ H E I hf st hg
  subst hP hw hK
  obtain ⟨f0,f1,f2,f3,f4,f5⟩:=hf it (by simp)
  exact end_range I.qu st (by have:n<=i:=hg; ac_rfl) fun h' eb=>⟨rfl,I.turned (t':=s.toks) (fun b o hb e=>eb b o hb e) f0 f1 f3 f4 f5⟩
 self:=fun _ _ _ _ _ st h=>wpAny_pyIter_rangeiter st h
def iRng3 (ta:TA):TI:=fun σ H R=>ta σ H fun vs H1=>∃ i j c:Int,vs=[.int i,.int j,.int c]/\c ≠ 0/\c.natAbs < 1000/\Builtin.Range.small i j c=true/\0<=Builtin.Range.rangeSize i j c/\R (ItrC i c (Builtin.Range.rangeSize i j c).toNat) H1
theorem pi_range3 {a b c:Expr} {ta:TA} {p pos:Pos} (hg:Gl X "range") (hm:X.mg "range" = none) (ha:PA X [a,b,c] ta) (hs:starEach [a,b,c] X.env=[(false,eval a X.env),(false,eval b X.env),(false,eval c X.env)]:=by rfl)
  (hs2:starEach [b,c] X.env=[(false,eval b X.env),(false,eval c X.env)]:=by rfl):PI X tg (.Call (.Name "range" p) [a,b,c] [] pos) (iRng3 ta):=by
 intro pins s σ H R I h
 refine Call_ (a6E I hg hm boot_range (PyProof.Rows.callWith_type1 (thn (ha pos pins s σ H _ I h) fun us s1 ⟨vs,H1,I1,r1,q1⟩=>?_) (by rw [hs,hs2]) (by rw [hs2]; rfl)))
 obtain ⟨i,j,c,e,q0,qs,q1,q2,q⟩:=q1
 subst e
 cases r1 with
 | cons r rr=>
  cases rr with
  | cons r' rr=>
   cases rr with
   | cons r'' rr=>
    cases rr
    obtain ⟨t,rfl⟩:=r
    obtain ⟨t',rfl⟩:=r'
    obtain ⟨t'',rfl⟩:=r''
    refine call_range_3 q0 ?_ (.inl (PyProof.noPylong_small (by ac_rfl)))
    refine wpAny_pyIter_range (IsRange.new ..) q1 ?_
    have I2:Inv X pins σ H1 { s1 with heap:=s1.heap.push { cls:=.type "range",data:=.fields #[.int i t,.int j t',.int c t''] },toks:=s1.toks }:=I1.kept fun b o e=>Heap.get?_push_of_some _ e
    refine ⟨_,[_],_,_,H1,rfl,I2.kept (t':=s1.toks) fun b o e=>Heap.get?_push_of_some _ e,turn_rangeC _ i c (Builtin.Range.rangeSize i j c).toNat,?_,fun b hb=>?_,q⟩
    ·show IsRangeIter _ _ (i + ((0:Nat):Int) * c) ((((Builtin.Range.rangeSize i j c).toNat:Nat):Int) - ((0:Nat):Int)) c
     have e1:i + ((0:Nat):Int) * c=i:=by simp
     have e2:(((Builtin.Range.rangeSize i j c).toNat:Nat):Int) - ((0:Nat):Int)=Builtin.Range.rangeSize i j c:=by ac_rfl
     rw [e1,e2]
     exact Heap.get?_push_size _ rfl
    ·have e:b=_:=List.mem_singleton.mp hb
     subst e
     exact I2.fpOk (Nat.le_refl _) (I2.hok.fresh (Nat.le_refl _))
noncomputable def intsV (lo:Int) (n:Nat):List V:=(List.range n).map fun (k:Nat)=>V.int (lo + (k:Int))
theorem call_rng1:a3v X (.type "range") (fun xs H Q=>∃ j:Int,xs=[.int j] /\ ∀ p,H p=none->Q (.ref p) (upd H p (.rng 0 j))):=by
 intro pins s σ H xs us Q I r h
 obtain ⟨j,rfl,q⟩:=h
 obtain ⟨u,rfl,ru⟩:=a4Y r
 obtain ⟨t,rfl⟩:=ru
 exact call_range_1 ⟨.ref s.heap.objs.size,_,I.laid (o:=.rng 0 j) (fun b o e=>Heap.get?_push_of_some _ e) (Nat.le_refl _) ⟨_,_,_,Heap.get?_push_size _ rfl⟩,rfl,q _ (I.hok.fresh (Nat.le_refl _))⟩
theorem call_list_rng (hc:X.calm=true):a3v X (.type "list") (fun xs H Q=>∃ p lo hi,xs=[.ref p]/\H p=some (.rng lo hi)/\(-(2 ^ 62)<=lo/\lo < 2 ^ 62 /\ -(2 ^ 62)<=hi/\hi < 2 ^ 62)/\(hi - lo).toNat<=1000000 /\ ∀ l,H l=none->Q (.ref l) (upd H l (.lst (intsV lo (hi - lo).toNat)))):=by
 intro pins s σ H xs us Q I r h
 obtain ⟨p,lo,hi,rfl,hp,⟨b1,b2,b3,b4⟩,hn,q⟩:=h
 obtain ⟨u,rfl,ru⟩:=a4Y r
 cases ru
 obtain ⟨t,t2,t3,e⟩:=I.hok _ _ hp
 refine call_list_range (n:=(hi - lo).toNat) (I.ok.hd hc) e (small_one b1 b2 b3 b4) (by rw [rangeSize_one]; split <;> ac_rfl) (by ac_rfl) fun h' tk acc c' hk hS hacc=>?_
 refine ⟨.ref s.heap.objs.size,_,I.laid (o:=.lst (intsV lo (hi - lo).toNat)) hk (Nat.le_refl _) ?_,rfl,q _ (I.hok.fresh (Nat.le_refl _))⟩
 have hl:acc.size=(hi - lo).toNat:=hacc.1
 refine ⟨by simp only [intsV,List.length_map,List.length_range]; rw [sizeLine_eq]; ac_rfl,acc.toList,c',?_,by simpa using hS⟩
 have key:∀ (n:Nat) (l:List Value),l.length=n->(∀ (i:Nat) (v:Value),l[i]?=some v -> ∃ t,v=Value.int (lo + (i:Int) * 1) t)->a1w (intsV lo n) l:=by
  intro n
  induction n with
  | zero=>intro l hl _; rw [List.length_eq_zero_iff.mp hl]; exact .nil
  | succ n ih=>
   intro l hl hi
   have hne:l ≠ []:=by intro z; rw [z] at hl; cases hl
   have e1:l=l.dropLast ++ [l.getLast hne]:=(List.dropLast_concat_getLast hne).symm
   rw [e1]
   unfold intsV
   rw [List.range_succ,List.map_append]
   have l1:l.dropLast.length=n:=by simp [hl]
   refine a1w.append (ih l.dropLast l1 fun i v hv=>hi i v ?_) (.cons ?_ .nil)
   ·have hlt:i < l.dropLast.length:=(List.getElem?_eq_some_iff.mp hv).1
    rw [e1,List.getElem?_append_left hlt]
    exact hv
   ·obtain ⟨t,ht⟩:=hi n (l.getLast hne) (by simp [List.getLast_eq_getElem,hl])
    rw [ht,Int.mul_one]
    exact ⟨t,rfl⟩
 refine key _ _ (by simpa using hl) fun i v hv=>?_
 exact hacc.2 i v (by simpa using hv)
end
end L2
namespace Z
open PySem PySem.Spec PyProof.Rows L2
section
variable {X:Cx} {tg a b c e:Expr} {ta tb te:TEp} {ts:TAp} {pos p p2:Pos}
noncomputable def a7l (lo c:Int) (n:Nat):List Dv:=(List.range n).map fun (k:Nat)=>Dv.int (lo + (k:Int) * c)
def iRange3 (ts:TAp):TIp:=fun ρ Q=>ts ρ fun rs=>match rs.map R.d with
 | [.int i,.int j,.int c]=>(c ≠ 0/\c.natAbs < 1000/\Builtin.Range.small i j c=true/\0<=Builtin.Range.rangeSize i j c)/\Q (a7l i c (Builtin.Range.rangeSize i j c).toNat) []
 | _=>False
theorem rangeC_get {lo c:Int} {n i:Nat} {d:Dv} (h:(a7l lo c n)[i]?=some d):i < n/\d=.int (lo + i * c):=by
 unfold a7l at h
 rw [List.getElem?_map] at h
 cases e:(List.range n)[i]? with
 | none=>rw [e] at h; cases h
 | some k=>
  rw [e] at h
  obtain ⟨h1,h2⟩:=List.getElem?_eq_some_iff.mp e
  simp at h1 h2
  subst h2
  exact ⟨h1,(Option.some.inj h).symm⟩
theorem itok_rangeC {K:W.Frag} {P:Hp} {M:Addr->Prop} {H1:Hp} {lo c:Int} {n:Nat}:ItOk K P M H1 (ItrC lo c n) (a7l lo c n) []:=by
 intro i H' M' S G _
 refine ⟨fun d e=>?_,fun h=>(show n<=i by simpa [a7l] using h)⟩
 obtain ⟨h1,h2⟩:=rangeC_get e
 subst h2
 refine ⟨h1,fun y H'' ⟨e1,e2⟩=>?_⟩
 subst e1 e2
 exact ⟨a0F.refl _,.int _⟩
theorem creps3 {K:W.Frag} {M:Addr->Prop} {H:Hp} {xs:List V} {d d' d'':Dv} (h:CReps K M H xs [d,d',d'']):∃ x y z,xs=[x,y,z]/\a3C K M H x d/\a3C K M H y d'/\a3C K M H z d'':=by
 cases h with
 | cons a t=>
  obtain ⟨y,z,rfl,b,c⟩:=creps2 t
  exact ⟨_,_,_,rfl,a,b,c⟩
theorem q_iRange3 (hg:Gl X "range") (hm:X.mg "range" = none) (ha:QA X [a,b,c] ts) (hs:starEach [a,b,c] X.env=[(false,eval a X.env),(false,eval b X.env),(false,eval c X.env)]:=by rfl)
  (hs2:starEach [b,c] X.env=[(false,eval b X.env),(false,eval c X.env)]:=by rfl):QI X tg (.Call (.Name "range" p) [a,b,c] [] pos) (iRange3 ts):=by
 refine ⟨fun ρ Q Q' w q=>ha.mono _ _ _ (fun r q=>?_) q,fun HZ F=>⟨_,pi_range3 hg hm (ha.run HZ F) hs hs2,fun σ H ρ R fr q=>?_⟩⟩
 ·split at q
  ·exact ⟨q.1,w _ _ q.2⟩
  ·exact q
 ·refine ha.step fr q fun rs xs H1 q S1 r1=>?_
  split at q
  ·rename_i i j c e
   have cc:=r1.c
   rw [e] at cc
   obtain ⟨x,y,z,rfl,cx,cy,cz⟩:=creps3 cc
   obtain rfl:=cx.int
   obtain rfl:=cy.int
   obtain rfl:=cz.int
   exact ⟨i,j,c,rfl,q.1.1,q.1.2.1,q.1.2.2.1,q.1.2.2.2,q.2 _ H1 S1 (by intro p hp; simp at hp) itok_rangeC⟩
  ·exact q.elim
def eLR1 (ts:TAp):TEp:=fun ρ Q=>ts ρ fun rs=>match rs.map R.d with
 | [.int j]=>(-(2 ^ 62)<=j/\j < 2 ^ 62/\j.toNat<=1000000)/\Q (.nw (.lst (a0W 0 j.toNat)))
 | _=>False
def eLR2 (ts:TAp):TEp:=fun ρ Q=>ts ρ fun rs=>match rs.map R.d with
 | [.int i,.int j]=>((-(2 ^ 62)<=i/\i < 2 ^ 62 /\ -(2 ^ 62)<=j/\j < 2 ^ 62)/\(j - i).toNat<=1000000)/\Q (.nw (.lst (a0W i (j - i).toNat)))
 | _=>False
theorem reps_range {K:W.Frag} {M:Addr->Prop} {H:Hp} (lo:Int) (n:Nat):Reps K M H (intsV lo n) (a0W lo n):=by
 unfold intsV a0W
 induction (List.range n) with
 | nil=>exact .nil
 | cons k r ih=>exact .cons (.int _) ih
theorem a4x {pos2:Pos} (hc:X.calm=true) (hg:Gl X "list") (hm:X.mg "list" = none) (hg2:Gl X "range") (hm2:X.mg "range" = none) (ha:QA X [a] ts)
  (h1:starEach [.Call (.Name "range" p2) [a] [] pos2] X.env=(false,eval (.Call (.Name "range" p2) [a] [] pos2) X.env) :: starEach [] X.env:=by rfl) (h2:(backTo pos (starEach [] X.env)).any (·.1)=false:=by rfl)
  (h3:starEach [a] X.env=(false,eval a X.env) :: starEach [] X.env:=by rfl) (h4:(backTo pos2 (starEach [] X.env)).any (·.1)=false:=by rfl):
  QE X (.Call (.Name "list" p) [.Call (.Name "range" p2) [a] [] pos2] [] pos) (eLR1 ts):=by
 refine ⟨fun ρ Q Q' w q=>ha.mono _ _ _ (fun r q=>?_) q,fun HZ F=>a1J (a7t (call_list_rng hc) hg hm boot_list (a6f (a7t call_rng1 hg2 hm2 boot_range (ha.run HZ F) (by decide) (by decide) h3 h4) pa_nil h1) (by decide) (by decide) h1 h2) fun σ H Q ⟨ρ,fr,q⟩=>?_⟩
 ·split at q
  ·exact ⟨q.1,w _ q.2⟩
  ·exact q
 ·refine ha.step fr q fun rs xs H1 q S1 r1=>?_
  split at q
  ·rename_i j e
   have cc:=r1.c
   rw [e] at cc
   obtain ⟨x,rfl,cx⟩:=a1Y cc
   obtain rfl:=cx.int
   obtain ⟨⟨b1,b2,b3⟩,q⟩:=q
   refine ⟨j,rfl,fun r hr=>⟨r,0,j,rfl,a0I,⟨by ac_rfl,by ac_rfl,b1,b2⟩,by rw [Int.sub_zero]; exact b3,fun l hl=>?_⟩⟩
   have S2:a0F H (upd (upd H1 r (.rng 0 j)) l (.lst (intsV 0 (j - 0).toNat))):=(S1.trans (a0F.new' hr)).trans (a0F.new' hl)
   rw [Int.sub_zero] at S2 ⊢
   exact q _ _ S2 (a3L.ahead (a4C hl (reps_range 0 _)) (S1.trans (a0F.new' hr)))
  ·exact q.elim
noncomputable def enumD (ds:List Dv):List Dv:=(ds.zipIdx).map fun q=>.tup [.int (q.2:Int),q.1]
theorem enumD_get {ds:List Dv} {i:Nat} {d:Dv} (h:(enumD ds)[i]?=some d):∃ d0,ds[i]?=some d0/\d=.tup [.int i,d0]:=by
 unfold enumD at h
 rw [List.getElem?_map,List.getElem?_zipIdx] at h
 cases e:ds[i]? with
 | none=>rw [e] at h; cases h
 | some d0=>
  rw [e] at h
  refine ⟨d0,rfl,?_⟩
  simp at h
  exact h.symm
def iEnumP (ts:TAp):TIp:=fun ρ Q=>ts ρ fun rs=>match rs with
 | [.v (.lst ds)]=>Q (enumD ds) []
 | [.nw (.lst ds)]=>Q (enumD ds) []
 | [.ow a (.lst ds)]=>Q (enumD ds) [(a,ds)]
 | _=>False
structure Walked (K:W.Frag) (P:Hp) (M:Addr->Prop) (H1:Hp) (a:Addr) (ds:List Dv) (ogs:List (Addr × List Dv)):Prop where
 at_:∀ (H':Hp) (M':Addr->Prop),a0F P H'->Gen K M M' H1 H'->(∀ p ∈ ogs,a3a K M' H' p.1 (.lst p.2)) -> ∃ xs,H' a=some (.lst xs)/\Reps K M' H' xs ds
noncomputable def a8d:R->List (Addr × List Dv)
 | .ow a (.lst ds)=>[(a,ds)]
 | _=>[]
theorem walked {K:W.Frag} {HZ H H1:Hp} {F:Addr->Prop} {σ:St} {ρ:List Sl} {x:V} {r:R} {ds:List Dv} (fr:Fr K HZ F σ H ρ) (S1:a0F H H1) (r1:a3L K (MM F ρ) (Z.Own ρ) H x r H1) (hd:r.d=.lst ds):
  ∃ a xs,x=.ref a/\H1 a=some (.lst xs)/\guard (a8d r) ρ/\Walked K (prot H1 ρ) (MM F ρ) H1 a ds (a8d r):=by
 cases r with
 | v d=>
  have e:d=.lst ds:=hd
  subst e
  cases r1 with
  | lst e m rs=>
   refine ⟨_,_,rfl,e,by intro p hp; simp [a8d] at hp,⟨fun H' M' S G _=>⟨_,S _ _ (by rw [a1j fun c=>m (.inr c)]; exact e),rs.gen G⟩⟩⟩
 | nw d=>
  have e:d=.lst ds:=hd
  subst e
  obtain ⟨a,rfl,n,xs,e,rs⟩:=r1
  exact ⟨_,_,rfl,e,by intro p hp; simp [a8d] at hp,⟨fun H' M' S G _=>⟨_,S _ _ (by rw [a1j fun c=>fr.fresh n (.inr c)]; exact e),(rs.weak fun b z=>.inl z).gen G⟩⟩⟩
 | ow a d=>
  have e:d=.lst ds:=hd
  subst e
  obtain ⟨rfl,m,xs,e,rs⟩:=r1
  refine ⟨_,_,rfl,e,by intro p hp; simp [a8d] at hp; subst hp; exact m,⟨fun H' M' S G ow=>?_⟩⟩
  exact ow (a,ds) (by simp [a8d])
theorem itok_enum {K:W.Frag} {P:Hp} {M:Addr->Prop} {H1:Hp} {a:Addr} {ds:List Dv} {ogs:List (Addr × List Dv)} (w:Walked K P M H1 a ds ogs):ItOk K P M H1 (ItE K a) (enumD ds) ogs:=by
 intro i H' M' S G ow
 obtain ⟨xs,h',r⟩:=w.at_ H' M' S G ow
 refine ⟨fun d e=>?_,fun h=>⟨xs,SqL.of h',by rw [r.length]; simpa [enumD] using h⟩⟩
 obtain ⟨d0,e0,rfl⟩:=enumD_get e
 obtain ⟨x,hx,rx⟩:=r.get e0
 refine ⟨⟨xs,x,SqL.of h',hx⟩,fun y H'' ⟨T,z,hT,e1,e2,hz⟩=>?_⟩
 subst e1 e2
 have:=hz xs (SqL.of h')
 rw [hx] at this
 cases this
 exact ⟨a0F.new' hT,.tup a0I (.cons (.int _) (.cons (rx.mono (a0F.new' hT)) .nil))⟩
theorem q_iEnum {elts:List Expr} {x1:Nat} {tp:Pos} (hg:Gl X "enumerate") (hm:X.mg "enumerate" = none) (ha:QA X [a] ts) (hs:starEach [a] X.env=[(false,eval a X.env)]:=by rfl):QI X (.Tuple elts x1 tp) (.Call (.Name "enumerate" p) [a] [] pos) (iEnumP ts):=by
 refine ⟨fun ρ Q Q' w q=>ha.mono _ _ _ (fun r q=>?_) q,fun HZ F=>⟨_,pi_enum hg hm (ha.run HZ F) hs,fun σ H ρ R fr q=>?_⟩⟩
 ·split at q <;> first | exact w _ _ q | exact q
 ·refine ha.step fr q fun rs xs H1 q S1 r1=>?_
  have one:∀ {r:Z.R} {ds:List Dv},rs=[r]->r.d=.lst ds->(∀ J H1',a0F H H1'->guard (a8d r) ρ->ItOk X.K (prot H1' ρ) (MM F ρ) H1' J (enumD ds) (a8d r)->R J H1') -> ∃ a,xs=[V.ref a]/\(∃ xs,SqL X.K H1 a xs)/\R (ItE X.K a) H1:=by
   intro r ds e hd k
   subst e
   cases r1 with
   | cons a1 t1=>
    cases t1
    obtain ⟨a,ys,rfl,ea,gd,wk⟩:=walked fr S1 a1 hd
    exact ⟨a,rfl,⟨ys,SqL.of ea⟩,k _ H1 S1 gd (itok_enum wk)⟩
  split at q
  ·exact one rfl rfl q
  ·exact one rfl rfl q
  ·exact one rfl rfl q
  ·exact q.elim
noncomputable def zipD (xs ys:List Dv):List Dv:=List.zipWith (fun x y=>.tup [x,y]) xs ys
def iZipP (ts:TAp):TIp:=fun ρ Q=>ts ρ fun rs=>match rs with
 | [r,r']=>match r.d,r'.d with
  | .lst xs,.lst ys=>Q (zipD xs ys) (a8d r ++ a8d r')
  | _,_=>False
 | _=>False
theorem itok_zip {K:W.Frag} {P:Hp} {M:Addr->Prop} {H1:Hp} {a b:Addr} {ds es:List Dv} {o1 o2:List (Addr × List Dv)} (w1:Walked K P M H1 a ds o1) (w2:Walked K P M H1 b es o2):ItOk K P M H1 (ItZ a b) (zipD ds es) (o1 ++ o2):=by
 intro i H' M' S G ow
 obtain ⟨xs,h1,r1⟩:=w1.at_ H' M' S G fun p hp=>ow p (List.mem_append_left _ hp)
 obtain ⟨ys,h2,r2⟩:=w2.at_ H' M' S G fun p hp=>ow p (List.mem_append_right _ hp)
 refine ⟨fun d e=>?_,fun h=>⟨xs,ys,h1,h2,?_⟩⟩
 ·unfold zipD at e
  rw [List.getElem?_zipWith] at e
  cases e1:ds[i]? with
  | none=>rw [e1] at e; cases e
  | some d1=>
   cases e2:es[i]? with
   | none=>rw [e1,e2] at e; cases e
   | some d2=>
    rw [e1,e2] at e
    cases e
    obtain ⟨x,hx,rx⟩:=r1.get e1
    obtain ⟨y,hy,ry⟩:=r2.get e2
    refine ⟨⟨xs,ys,x,y,h1,h2,hx,hy⟩,fun z H'' ⟨T,z1,z2,hT,e3,e4,k1,k2⟩=>?_⟩
    subst e3 e4
    have q1:=k1 xs h1
    have q2:=k2 ys h2
    rw [hx] at q1
    rw [hy] at q2
    cases q1
    cases q2
    exact ⟨a0F.new' hT,.tup a0I (.cons (rx.mono (a0F.new' hT)) (.cons (ry.mono (a0F.new' hT)) .nil))⟩
 ·rw [r1.length,r2.length]
  simp only [zipD,List.length_zipWith] at h
  ac_rfl
theorem q_iZip {elts:List Expr} {x1:Nat} {tp:Pos} (hg:Gl X "zip") (hm:X.mg "zip" = none) (ha:QA X [a,b] ts) (hs:starEach [a,b] X.env=[(false,eval a X.env),(false,eval b X.env)]:=by rfl) (hs2:starEach [b] X.env=[(false,eval b X.env)]:=by rfl):
  QI X (.Tuple elts x1 tp) (.Call (.Name "zip" p) [a,b] [] pos) (iZipP ts):=by
 refine ⟨fun ρ Q Q' w q=>ha.mono _ _ _ (fun r q=>?_) q,fun HZ F=>⟨_,pi_zip hg hm (ha.run HZ F) hs hs2,fun σ H ρ R fr q=>?_⟩⟩
 ·split at q
  ·split at q
   ·exact w _ _ q
   ·exact q
  ·exact q
 ·refine ha.step fr q fun rs xs H1 q S1 r1=>?_
  split at q
  ·rename_i r r'
   split at q
   ·rename_i ds es h1 h2
    cases r1 with
    | cons a1 t1=>
     cases t1 with
     | cons a2 t2=>
      cases t2
      obtain ⟨a,ys,rfl,ea,gd,wk⟩:=walked fr S1 a1 h1
      obtain ⟨b,zs,rfl,eb,gd2,wk2⟩:=walked fr S1 a2 h2
      refine ⟨a,b,rfl,⟨ys,ea⟩,⟨zs,eb⟩,q _ H1 S1 (fun p hp=>?_) (itok_zip wk wk2)⟩
      rcases List.mem_append.mp hp with h | h
      ·exact gd p h
      ·exact gd2 p h
   ·exact q.elim
  ·exact q.elim
end
end Z
namespace Z
open PySem PySem.Spec PyProof.Rows L2
noncomputable def a2B (env:Env):List (Str × NameKind)->List (Str × Addr)->List (Str × Addr)
 | [],acc=>acc
 | (n,k) :: r,acc=>if (k == .free)=true then (match env.cells.lookup n with | some c=>a2B env r ((n,c) :: acc) | none=>a2B env r acc) else a2B env r acc
theorem a5V {scope:Scope} {env:Env} (h:(scope.names.all fun y=>!(y.2 == .free) || (env.cells.lookup y.1).isSome)=true):closureFor scope env=pure (a2B env scope.names []):=by
 unfold closureFor
 have key:∀ (l:List (Str × NameKind)) (acc:List (Str × Addr)),(l.all fun y=>!(y.2 == .free) || (env.cells.lookup y.1).isSome)=true ->
   (forIn (m:=Sem) l acc fun x r=>(match x with | (name,kind)=>if (kind == NameKind.free)=true then (do let c <- cellOf env name; pure (ForInStep.yield ((name,c) :: r))) else pure (ForInStep.yield r)))=pure (a2B env l acc):=by
  intro l
  induction l with
  | nil=>intro acc _; rfl
  | cons y r ih=>
   intro acc hl
   obtain ⟨n,k⟩:=y
   rw [List.all_cons,Bool.and_eq_true] at hl
   rw [List.forIn_cons]
   unfold a2B
   by_cases hk:(k == NameKind.free)=true
   ·rw [if_pos hk]
    have h1:(env.cells.lookup n).isSome=true:=by
     have:=hl.1
     simpa [hk] using this
    obtain ⟨c,hc⟩:=Option.isSome_iff_exists.mp h1
    have e:cellOf env n=pure c:=by unfold cellOf; rw [hc]
    simp only [hk,if_true,e,hc]
    exact ih _ hl.2
   ·rw [if_neg hk]
    simp only [hk]
    exact ih _ hl.2
 dsimp only
 have h2:=key scope.names [] h
 refine Eq.trans (congrArg (fun t:Sem (List (Str × Addr))=>t >>= fun r=>pure r) h2) ?_
 rfl
theorem a4I {env:Env}:∀ (l:List (Str × NameKind)) (acc:List (Str × Addr)),(∀ q ∈ acc,env.cells.lookup q.1=some q.2) -> ∀ q ∈ a2B env l acc,env.cells.lookup q.1=some q.2
 | [],acc,h,q,hq=>h q hq
 | (n,k) :: r,acc,h,q,hq=>by
  unfold a2B at hq
  split at hq
  ·split at hq
   ·rename_i c hc
    refine a4I r _ (fun q' hq'=>?_) q hq
    rcases List.mem_cons.mp hq' with e | e
    ·rw [e]; exact hc
    ·exact h q' e
   ·exact a4I r acc h q hq
  ·exact a4I r acc h q hq
theorem a4U {env:Env}:∀ (l:List (Str × NameKind)) (acc:List (Str × Addr)),∀ q ∈ acc,q ∈ a2B env l acc
 | [],acc,q,hq=>hq
 | (n,k) :: r,acc,q,hq=>by
  unfold a2B
  split
  ·split
   ·exact a4U r _ q (List.mem_cons_of_mem _ hq)
   ·exact a4U r acc q hq
  ·exact a4U r acc q hq
theorem a3S {env:Env} {x:Str}:∀ (l:List (Str × NameKind)) (acc:List (Str × Addr)),(l.all fun y=>!(y.2 == .free) || (env.cells.lookup y.1).isSome)=true->(x,NameKind.free) ∈ l -> ∃ c,(x,c) ∈ a2B env l acc
 | [],_,_,h=>by simp at h
 | (n,k) :: r,acc,hl,h=>by
  rw [List.all_cons,Bool.and_eq_true] at hl
  unfold a2B
  rcases List.mem_cons.mp h with e | e
  ·cases e
   rw [if_pos (by rfl)]
   have h1:(env.cells.lookup x).isSome=true:=by simpa using hl.1
   obtain ⟨c,hc⟩:=Option.isSome_iff_exists.mp h1
   rw [hc]
   exact ⟨c,a4U r _ _ (by simp)⟩
  ·split
   ·split
    ·exact a3S r _ hl.2 e
    ·exact a3S r _ hl.2 e
   ·exact a3S r _ hl.2 e
theorem a4b {α:Type} {x:Str} {c:α}:∀ {l:List (Str × α)},(x,c) ∈ l -> ∃ c',l.lookup x=some c'
 | (n,d) :: r,h=>by
  rw [List.lookup_cons]
  cases e:x == n with
  | true=>exact ⟨d,rfl⟩
  | false=>
   rcases List.mem_cons.mp h with z | z
   ·cases z
    simp at e
   ·exact a4b z
theorem a6D {scope:Scope} {env:Env} {x:Str} (hcell:∀ y ∈ scope.names,y.2 ≠ .cell) (h:(relabel scope env).names.lookup x=some .cell \/ (relabel scope env).names.lookup x=some .free):(x,NameKind.free) ∈ scope.names:=by
 have:(x,NameKind.cell) ∈ (relabel scope env).names \/ (x,NameKind.free) ∈ (relabel scope env).names:=h.imp PySem.mem_of_lookup PySem.mem_of_lookup
 rcases this with h | h
 ·obtain ⟨⟨n,k⟩,hm,e⟩:=List.mem_map.mp h
  dsimp only at e
  split at e
  ·rename_i hc
   rw [Bool.and_eq_true,Bool.and_eq_true,beq_iff_eq] at hc
   cases e
   rw [hc.1.1] at hm
   exact hm
  ·cases e
   exact absurd rfl (hcell _ hm)
 ·obtain ⟨⟨n,k⟩,hm,e⟩:=List.mem_map.mp h
  dsimp only at e
  split at e
  ·cases e
  ·cases e
   exact hm
section
variable {X:Cx} {pos:Pos}
theorem q_lc {elt iter tgt:Expr} {ifs:List Expr} {scope:Scope} (tgs ns:List Str) (js:List Nat) {k:Nat} {ti:TIp} {g:TGp} {tt:TTp} {te:TEp} (hc:X.N=X.N) (hi:QI X tgt iter ti)
  (hg:∀ (fp:List Addr) (s:Shared) (H:Hp),QG (cxG X scope (a2B X.env scope.names []) fp (tgs ++ ns) s H) tgt k g) (ht:∀ (fp:List Addr) (s:Shared) (H:Hp),QTs (cxG X scope (a2B X.env scope.names []) fp (tgs ++ ns) s H) ifs tt)
  (he:∀ (fp:List Addr) (s:Shared) (H:Hp),QE (cxG X scope (a2B X.env scope.names []) fp (tgs ++ ns) s H) elt te) (hk:tgs.length=k:=by rfl)
  (hall:(scope.names.all fun y=>!(y.2 == .free) || (X.env.cells.lookup y.1).isSome)=true:=by rfl) (hjs:js.map (fun j=>X.N[j]?)=ns.map some:=by rfl)
  (hin:(ns.all fun y=>(relabel scope X.env).names.lookup y == some .cell || (relabel scope X.env).names.lookup y == some .free)=true:=by rfl) (hout:(ns.all fun y=>X.env.kindOf y == some .cell || X.env.kindOf y == some .free)=true:=by rfl)
  (nd:js.Nodup:=by decide) (hcell:∀ y ∈ scope.names,y.2 ≠ .cell:=by decide +kernel) (hkind:scope.kind=.function:=by rfl)
  (hnames:∀ y ∈ scope.names,y.2=.local->scope.names.lookup y.1=some .local:=by decide +kernel) (hs:∀ z,foldedSetIterable iter X.env z=pure z:=by intro _; rfl):
  QE X (.ListComp elt [⟨tgt,iter,ifs,0⟩] scope pos) (a3s k js ti g tt te):=by
 refine q_comp hc hk hi hg ht he (a5V hall) (fun x c e=>a4I scope.names [] (by simp) (x,c) (PySem.mem_of_lookup e)) (fun x h=>?_) hjs (fun y hy=>?_) (fun y hy=>?_) nd hcell hkind hnames hs
 ·obtain ⟨c,hc⟩:=a3S scope.names [] hall (a6D hcell h)
  exact a4b hc
 ·have:=List.all_eq_true.mp hin y hy
  simpa using this
 ·have:=List.all_eq_true.mp hout y hy
  simpa using this
end
open Classical in
noncomputable def a8F (h:Heap) (db:PyData) (u:Value):Bool:=if q:∃ d as,Reads h u d as then PyData.eqv (choose q) db else false
section
variable {X:Cx} {M:Addr->Prop} {pins:List (Addr × Obj)} {σ:St} {H:Hp} {s:Shared}
theorem eqOf_eq {h:Heap} {db d:PyData} {u:Value} {as:List Addr} (ok:d.canLay0=true) (r:Reads h u d as):a8F h db u=PyData.eqv d db:=by
 unfold a8F
 have q:∃ d as,Reads h u d as:=⟨d,as,r⟩
 rw [dif_pos q]
 obtain ⟨as',r'⟩:=Classical.choose_spec q
 rw [SeqAt.Reads.unique d _ u as as' ok r r']
theorem a5Y (I:Inv X pins σ H s) {db:PyData} {dx:Dv} (hb:db=pyD dx):∀ {xs:List V} {ds:List Dv} {us:List Value},Reps X.K M H xs ds->okDs 8 ds=true->a1w xs us->us.any (a8F s.heap db)=ds.any fun d=>eqD d dx
 | _,_,_,.nil,_,r=>by cases r; rfl
 | _,_,_,.cons a q,ok,r=>by
  have ok':(okD 8 _ && okDs 8 _)=true:=ok
  rw [Bool.and_eq_true] at ok'
  cases r with
  | cons r1 r2=>
   obtain ⟨as,ra⟩:=Rep.reads I a ok'.1 r1
   rw [List.any_cons,List.any_cons,a5Y I hb q ok'.2 r2,eqOf_eq (a6k 8 _ ok'.1).1 ra,hb]
   rfl
theorem a4R (I:Inv X pins σ H s) {A:Around} {v:Value} {dx:Dv} {bs:List Addr} (rb:Reads s.heap v (pyD dx) bs) (ob:okD 8 dx=true) (hu:A.units + 64 < cLine):∀ {xs:List V} {ds:List Dv} {us:List Value},Reps X.K M H xs ds->okDs 8 ds=true->a1w xs us -> ∀ u ∈ us,SeqAt.EqAt A s u v (a8F s.heap (pyD dx) u)
 | _,_,_,.nil,_,r,u,hm=>by cases r; simp at hm
 | _,_,_,.cons a q,ok,r,u,hm=>by
  have ok':(okD 8 _ && okDs 8 _)=true:=ok
  rw [Bool.and_eq_true] at ok'
  cases r with
  | cons r1 r2=>
   rcases List.mem_cons.mp hm with e | hm
   ·subst e
    obtain ⟨as,ra⟩:=Rep.reads I a ok'.1 r1
    obtain ⟨l1,l2⟩:=a6k 8 _ ok'.1
    obtain ⟨m1,m2⟩:=a6k 8 _ ob
    rw [eqOf_eq l1 ra]
    exact SeqAt.eqAt_reads _ _ A s u v as bs ra rb l1 m1 (by ac_rfl)
   ·exact a4R I rb ob hu q ok'.2 r2 u hm
end
def rInZ (K:W.Frag) (neg:Bool):R2:=fun x y H Q=>∃ M dx ds p xs,a3C K M H x dx/\y=.ref p/\(SqL K H p xs \/ SqT K H p xs)/\Reps K M H xs ds/\okD 8 dx=true/\okDs 8 ds=true /\
 Q (.bl (if neg then !(ds.any fun d=>eqD d dx) else ds.any fun d=>eqD d dx)) H
section
variable {X:Cx}
theorem a4E {A:Around} (h:A.units + 65 < cLine):A.in1.units + 64 < cLine:=by
 have:A.in1.units<=A.units + 1:=by unfold Around.in1; simp [Around.units]
 ac_rfl
theorem op_inZ (hu:X.A.units + 65 < cLine):OpR X (compareOp .In) (rInZ X.K false):=by
 intro pins s σ H x y v u Q I rx ry h
 obtain ⟨M,dx,ds,p,xs,cx,rfl,hq,rs,o1,o2,q⟩:=h
 cases ry
 obtain ⟨bs,rb⟩:=cx.reads I o1 rx
 rcases hq with hq | hq
 ·obtain ⟨its,r,pl,hz⟩:=I.list hq
  refine SeqAt.in_listAt (a8F s.heap (pyD dx)) pl.isList (fun w hw=>a4R I rb o1 (a4E hu) rs o2 r w (by simpa using hw)) ⟨.bl _,H,I,rfl,?_⟩
  rw [show its.toArray.any (a8F s.heap (pyD dx))=its.any (a8F s.heap (pyD dx)) by simp,a5Y I rfl rs o2 r]
  exact q
 ·obtain ⟨its,r,pl,hz⟩:=I.tuple hq
  refine SeqAt.in_tupleAt (a8F s.heap (pyD dx)) pl (fun w hw=>a4R I rb o1 (a4E hu) rs o2 r w (by simpa using hw)) ⟨.bl _,H,I,rfl,?_⟩
  rw [show its.toArray.any (a8F s.heap (pyD dx))=its.any (a8F s.heap (pyD dx)) by simp,a5Y I rfl rs o2 r]
  exact q
theorem op_notInZ (hu:X.A.units + 65 < cLine):OpR X (compareOp .NotIn) (rInZ X.K true):=by
 intro pins s σ H x y v u Q I rx ry h
 obtain ⟨M,dx,ds,p,xs,cx,rfl,hq,rs,o1,o2,q⟩:=h
 cases ry
 obtain ⟨bs,rb⟩:=cx.reads I o1 rx
 rcases hq with hq | hq
 ·obtain ⟨its,r,pl,hz⟩:=I.list hq
  refine SeqAt.notIn_listAt (a8F s.heap (pyD dx)) pl.isList (fun w hw=>a4R I rb o1 (a4E hu) rs o2 r w (by simpa using hw)) ⟨.bl _,H,I,rfl,?_⟩
  rw [show its.toArray.any (a8F s.heap (pyD dx))=its.any (a8F s.heap (pyD dx)) by simp,a5Y I rfl rs o2 r]
  exact q
 ·obtain ⟨its,r,pl,hz⟩:=I.tuple hq
  refine SeqAt.notIn_tupleAt (a8F s.heap (pyD dx)) pl (fun w hw=>a4R I rb o1 (a4E hu) rs o2 r w (by simpa using hw)) ⟨.bl _,H,I,rfl,?_⟩
  rw [show its.toArray.any (a8F s.heap (pyD dx))=its.any (a8F s.heap (pyD dx)) by simp,a5Y I rfl rs o2 r]
  exact q
end
end Z
namespace Z
open PySem PySem.Spec PyProof.Rows L2
theorem a8K {k:Nat} {A:Around} (r:Room k A):A.units + 65 < cLine:=by have:=r.un; ac_rfl
def pModG:Dv->Dv->(R->Prop)->Prop
 | .int i,.int j,Q=>j ≠ 0/\Q (.v (.int (i.fmod j)))
 | _,_,_=>False
noncomputable def isB (b:Bool):Dv->Bool
 | .bl c=>c == b
 | _=>false
def pIsB:Dv->Dv->(R->Prop)->Prop
 | d,.bl b,Q=>Q (.v (.bl (isB b d)))
 | _,_,_=>False
def pNotB:Dv->Dv->(R->Prop)->Prop
 | d,.bl b,Q=>Q (.v (.bl (!isB b d)))
 | _,_,_=>False
section
variable {X:Cx}
def sSetI (i:Nat) (tk tv:TEp):TSp:=fun E ρ=>match ρ[i]? with
 | some (.own a (.lst xs))=>tv ρ fun r=>tk ρ fun k=>match k.d with
  | .int n=>match ixN xs.length n with
   | some j=>r.free=true/\E.nx (ρ.set i (.own a (.lst (xs.set j r.d))))
   | none=>False
  | _=>False
 | _=>False
noncomputable def inD (d:Dv) (ds:List Dv):Bool:=ds.any fun e=>eqD e d
def pIn:Dv->Dv->(R->Prop)->Prop
 | d,.lst ds,Q=>(okD 8 d=true/\okDs 8 ds=true)/\Q (.v (.bl (inD d ds)))
 | d,.tup ds,Q=>(okD 8 d=true/\okDs 8 ds=true)/\Q (.v (.bl (inD d ds)))
 | _,_,_=>False
def a1O:Dv->Dv->(R->Prop)->Prop
 | d,.lst ds,Q=>(okD 8 d=true/\okDs 8 ds=true)/\Q (.v (.bl (!inD d ds)))
 | d,.tup ds,Q=>(okD 8 d=true/\okDs 8 ds=true)/\Q (.v (.bl (!inD d ds)))
 | _,_,_=>False
theorem opd_in (hu:X.A.units + 65 < cLine) (_hu1:X.A.units + 1 < cLine):OpD X (compareOp .In) pIn:=by
 refine ⟨fun dx dy Q Q' w h=>?_,_,op_inZ hu,fun M O H x y dx dy Q cx cy h=>?_⟩
 ·unfold pIn at h
  split at h
  ·exact ⟨h.1,w _ h.2⟩
  ·exact ⟨h.1,w _ h.2⟩
  ·exact h.elim
 ·unfold pIn at h
  split at h
  ·obtain ⟨a,xs,rfl,ea,ra⟩:=cy.lst
   exact ⟨M,_,_,a,xs,cx,rfl,.inl (SqL.of ea),ra,h.1.1,h.1.2,h.2 _ H (a0F.refl _) (Rep.bl _)⟩
  ·obtain ⟨a,xs,rfl,ea,ra⟩:=cy.tup
   exact ⟨M,_,_,a,xs,cx,rfl,.inr (SqT.of ea),ra,h.1.1,h.1.2,h.2 _ H (a0F.refl _) (Rep.bl _)⟩
  ·exact h.elim
theorem a3P (hu:X.A.units + 65 < cLine) (_hu1:X.A.units + 1 < cLine):OpD X (compareOp .NotIn) a1O:=by
 refine ⟨fun dx dy Q Q' w h=>?_,_,op_notInZ hu,fun M O H x y dx dy Q cx cy h=>?_⟩
 ·unfold a1O at h
  split at h
  ·exact ⟨h.1,w _ h.2⟩
  ·exact ⟨h.1,w _ h.2⟩
  ·exact h.elim
 ·unfold a1O at h
  split at h
  ·obtain ⟨a,xs,rfl,ea,ra⟩:=cy.lst
   exact ⟨M,_,_,a,xs,cx,rfl,.inl (SqL.of ea),ra,h.1.1,h.1.2,h.2 _ H (a0F.refl _) (Rep.bl _)⟩
  ·obtain ⟨a,xs,rfl,ea,ra⟩:=cy.tup
   exact ⟨M,_,_,a,xs,cx,rfl,.inr (SqT.of ea),ra,h.1.1,h.1.2,h.2 _ H (a0F.refl _) (Rep.bl _)⟩
  ·exact h.elim
end
end Z
namespace Z
open PySem PySem.Spec PyProof.Rows L2
structure QX (X:Cx) (st:Stmt) (i:Nat) (te:TEp):Prop where
 mono:∀ (ρ:List Sl) (Q Q':R->Prop),(∀ r,Q r->Q' r)->te ρ Q->te ρ Q'
 run:∀ (HZ:Hp) (F:Addr->Prop),PS X st (tAsg (lift X.K HZ F te) (gName i))
section
variable {X:Cx} {pos:Pos} {st:Stmt} {te:TEp} {i:Nat}
theorem QX.step {HZ:Hp} {F:Addr->Prop} {σ:St} {H:Hp} {ρ:List Sl} {Q:R->Prop} {Q':VK} (h:QX X st i te) (fr:Fr X.K HZ F σ H ρ) (q:te ρ Q)
  (k:∀ r x H',Q r->a0F H H'->a3L X.K (MM F ρ) (Own ρ) H x r H'->Q' x H'):lift X.K HZ F te σ H Q':=⟨ρ,fr,h.mono _ _ _ (fun r qr x H' S rx=>k r x H' qr S rx) q⟩
theorem q_setX (he:QX X st i te):QS X st (a1l i te):=by
 refine ⟨fun E E' ρ w h=>he.mono _ _ _ (fun r q=>?_) h,fun HZ F=>a2X (he.run HZ F) fun D σ H ⟨ρ,E,fr,h,en⟩=>?_⟩
 ·cases r with
  | v d=>exact w.nx _ q
  | nw d=>exact w.nx _ q
  | ow a d=>exact q
 ·refine he.step fr h fun r x H1 q S1 r1=>?_
  cases r with
  | v d=>exact en.nx _ _ _ ((fr.mono S1).setv r1) q
  | nw d=>exact en.nx _ _ _ ((fr.mono S1).setv (r1.rep (fun a m=>fr.dom m) rfl)) q
  | ow a d=>exact q.elim
end
section
variable {X:Cx} {pos:Pos}
theorem q_compX {y:Str} {py spos:Pos} {iy:Nat} {elt iter tgt:Expr} {ifs:List Expr} {scope:Scope} {cl:List (Str × Addr)} {tgs ns:List Str} {js:List Nat} {k:Nat} {ti:TIp} {g:TGp} {tt:TTp} {te:TEp} (hN:X.N.Nodup) (hi2:X.N[iy]?=some y) (hx2:Loc X.env.scope y) (hc:X.N=X.N) (hk:tgs.length=k)
  (hi:QI X tgt iter ti) (hg:∀ (fp:List Addr) (s:Shared) (H:Hp),QG (cxG X scope cl fp (tgs ++ ns) s H) tgt k g) (ht:∀ (fp:List Addr) (s:Shared) (H:Hp),QTs (cxG X scope cl fp (tgs ++ ns) s H) ifs tt)
  (he:∀ (fp:List Addr) (s:Shared) (H:Hp),QE (cxG X scope cl fp (tgs ++ ns) s H) elt te)
  (hclos:closureFor scope X.env=pure cl) (hsub:∀ x c,cl.lookup x=some c->X.env.cells.lookup x=some c)
  (hhas:∀ x,((relabel scope X.env).names.lookup x=some .cell \/ (relabel scope X.env).names.lookup x=some .free) -> ∃ c,cl.lookup x=some c)
  (hjs:js.map (fun j=>X.N[j]?)=ns.map some) (hin:∀ y ∈ ns,(relabel scope X.env).names.lookup y=some .cell \/ (relabel scope X.env).names.lookup y=some .free)
  (hout:∀ y ∈ ns,X.env.kindOf y=some .cell \/ X.env.kindOf y=some .free) (nd:js.Nodup)
  (hcell:∀ y ∈ scope.names,y.2 ≠ .cell:=by decide +kernel) (hkind:scope.kind=.function:=by rfl)
  (hnames:∀ y ∈ scope.names,y.2=.local->scope.names.lookup y.1=some .local:=by decide +kernel)
  (hs:∀ z,foldedSetIterable iter X.env z=pure z:=by intro _; rfl)
  (hsw:swapsWith (.ListComp elt [⟨tgt,iter,ifs,0⟩] scope pos) (some (.Name y py)) spos.line X.env=pure true:=by rfl) (hf:X.fn y=true \/ X.env.scope.names.lookup y=some .local:=by first | exact .inl rfl | exact .inr rfl | assumption):
  QX X (.Assign [.Name y py] (.ListComp elt [⟨tgt,iter,ifs,0⟩] scope pos) spos) iy (a3s k js ti g tt te):=by
 have mg:=(hg [] X.s₀ fun _=>none).mono
 have ag:=(hg [] X.s₀ fun _=>none).agree
 have mt:=(ht [] X.s₀ fun _=>none).mono
 have me:=(he [] X.s₀ fun _=>none).mono
 refine ⟨fun ρ Q Q' w h=>hi.mono _ _ _ (fun ds ogs h=>a4g mg mt me ds [] Q Q' w h) h,fun HZ F=>?_⟩
 obtain ⟨wi,hwi,wiq⟩:=hi.run HZ F
 suffices key:∀ σ H Q,lift X.K HZ F (a3s k js ti g tt te) σ H Q->tCompG wi tgs.length js (liftG X.K k g) (fun σ H Q=>∃ HZ F,liftT X.K HZ F tt σ H Q) (fun σ H Q=>∃ HZ F,lift X.K HZ F te σ H Q) σ H Q from
  a2X (ps_compG (tgs:=tgs) (ns:=ns) (js:=js) (g:=liftG X.K k g) (tt:=fun σ H Q=>∃ HZ F,liftT X.K HZ F tt σ H Q) (te:=fun σ H Q=>∃ HZ F,lift X.K HZ F te σ H Q) hN hi2 hx2 hc hwi (fun fp s H=>(hg fp s H).pg) (fun fp s H=>(ht fp s H).pt) (fun fp s H=>(he fp s H).pe) hclos hsub hhas hjs hin hout hcell hkind hnames hs hsw hf) fun D σ H h=>key σ H _ h
 intro σ H Q ⟨ρ,fr,h⟩
 subst hk
 refine wiq σ H ρ _ fr (hi.mono _ _ _ (fun ds ogs q J H1 S1 gd ok=>?_) h)
 intro D hD
 have fr1:=fr.mono S1
 refine ⟨fun i m acc H2=>m=ds.length - i/\i<=ds.length/\a0F H1 H2 /\ ∃ accD,Reps X.K (fun a=>MM F ρ a \/ a=D) H2 acc accD /\
  a1T (List.replicate tgs.length .un ++ a2Z js ρ) g tt te (ds.drop i) accD (fun r=>∀ x H',a0F H H'->a3L X.K (MM F ρ) (Own ρ) H x r H'->Q x H'),
  ⟨ds.length,by simp,Nat.zero_le _,a0F.new' hD,[],.nil,by simpa using q⟩,?_⟩
 rintro i m acc H2 ⟨rfl,hil,S2,accD,ra,q⟩ hDl
 have G2:Gen X.K (MM F ρ) (fun a=>MM F ρ a \/ a=D) H1 H2:=(Gen.fresh hD).trans (.mono S2)
 have oks:=ok i H2 (fun a=>MM F ρ a \/ a=D) (fun b o e=>S2 _ _ (a5L e)) G2 fun p hp=>by
  obtain ⟨_,_,_,ow⟩:=fr1.at_own (gd p hp)
  exact ow.gen G2 fun o e=>S2 _ _ e
 by_cases hlt:i < ds.length
 ·have hd:ds[i]?=some ds[i]:=by simp [hlt]
  rw [List.drop_eq_getElem_cons hlt] at q
  obtain ⟨go,yld⟩:=oks.1 _ hd
  refine .inr ⟨go,fun y H3 hy old lo=>?_⟩
  obtain ⟨S3,ry⟩:=yld y H3 hy
  have hD3:=S3 _ _ hDl
  obtain ⟨P,F',fr',iff,iffF⟩:=fr1.block (js:=js) (old:=old) (S2.trans S3) hD (by rw [hD3]; simp) nd lo
  refine ⟨_,P,F',_,fr',ry.weak fun a z=>(iff a).mp z,mg _ _ _ _ (fun ρ1 q1 σ1 f1 a1=>?_) (ag _ _ _ q)⟩
  obtain ⟨q1,l1,b1⟩:=q1
  have up:∀ a,MM F ρ a \/ a=D->MM F' ρ1 a:=fun a z=>by
   rcases (iff a).mpr z with z | ⟨d,z⟩
   ·exact .inl z
   ·refine .inr ⟨d,?_⟩
    obtain ⟨j,e⟩:=List.mem_iff_getElem?.mp z
    have hj:tgs.length<=j:=by
     by_cases hj:j < tgs.length
     ·rw [List.getElem?_append_left (by simpa using hj),List.getElem?_replicate,if_pos hj] at e
      cases e
     ·ac_rfl
    rw [<- b1 j hj] at e
    exact List.mem_of_getElem? e
  have hlen:σ1.length=tgs.length + (pick js σ).length:=by
   have:=f1.len
   rw [l1] at this
   simp [pick,a2Z] at this ⊢
   ac_rfl
  refine ⟨⟨σ1.take tgs.length,by rw [List.length_take]; ac_rfl,split_at lo hlen a1⟩,P,F',ρ1,f1,mt _ _ _ (fun b q5 H5 S5=>?_) q1⟩
  have S25:=(S2.trans S3).trans S5
  cases b with
  | true=>
   simp only [if_true] at q5
   refine iteT ⟨P,F',ρ1,f1.mono S5,me _ _ _ (fun r q6 x H6 S6 rx=>?_) q5⟩
   have hD6:=S6 _ _ (S5 _ _ hD3)
   obtain ⟨⟨rf,rl⟩,q6⟩:=q6
   have rep:=(rx.rep (fun a z=>(f1.mono S5).dom z) rf).weak up
   refine ⟨hD6,by rw [ra.length]; exact lim_lt rl,ds.length - (i + 1),by ac_rfl,rfl,hlt,fun b o e=>?_,_,?_,q6⟩
   ·rw [a0G (a0A e hD)]
    exact S6 _ _ (S25 _ _ e)
   ·have G6:Gen X.K (fun a=>MM F ρ a \/ a=D) (fun a=>MM F ρ a \/ a=D) H6 (upd H6 D (.lst (acc ++ [x]))):=Gen.write (.inr rfl) (by rw [hD6]; trivial)
    exact ((ra.mono ((S3.trans S5).trans S6)).append (.cons rep .nil)).gen G6
  | false=>
   simp only [Bool.false_eq_true,if_false] at q5
   exact iteF ⟨S5 _ _ hD3,ds.length - (i + 1),by ac_rfl,rfl,hlt,S25,accD,ra.mono (S3.trans S5),q5⟩
 ·have e:i=ds.length:=by ac_rfl
  subst e
  rw [List.drop_length] at q
  exact .inl ⟨oks.2 (Nat.le_refl _),q (.ref D) H2 (S1.trans S2) ⟨D,rfl,S1.free hD,acc,hDl,ra⟩⟩
theorem q_lcX {y:Str} {py spos:Pos} {iy:Nat} {elt iter tgt:Expr} {ifs:List Expr} {scope:Scope} (tgs ns:List Str) (js:List Nat) {k:Nat} {ti:TIp} {g:TGp} {tt:TTp} {te:TEp} (hN:X.N.Nodup) (hi2:X.N[iy]?=some y) (hx2:Loc X.env.scope y) (hc:X.N=X.N) (hi:QI X tgt iter ti)
  (hg:∀ (fp:List Addr) (s:Shared) (H:Hp),QG (cxG X scope (a2B X.env scope.names []) fp (tgs ++ ns) s H) tgt k g) (ht:∀ (fp:List Addr) (s:Shared) (H:Hp),QTs (cxG X scope (a2B X.env scope.names []) fp (tgs ++ ns) s H) ifs tt)
  (he:∀ (fp:List Addr) (s:Shared) (H:Hp),QE (cxG X scope (a2B X.env scope.names []) fp (tgs ++ ns) s H) elt te) (hk:tgs.length=k:=by rfl)
  (hall:(scope.names.all fun y=>!(y.2 == .free) || (X.env.cells.lookup y.1).isSome)=true:=by rfl) (hjs:js.map (fun j=>X.N[j]?)=ns.map some:=by rfl)
  (hin:(ns.all fun y=>(relabel scope X.env).names.lookup y == some .cell || (relabel scope X.env).names.lookup y == some .free)=true:=by rfl) (hout:(ns.all fun y=>X.env.kindOf y == some .cell || X.env.kindOf y == some .free)=true:=by rfl)
  (nd:js.Nodup:=by decide) (hcell:∀ y ∈ scope.names,y.2 ≠ .cell:=by decide +kernel) (hkind:scope.kind=.function:=by rfl)
  (hnames:∀ y ∈ scope.names,y.2=.local->scope.names.lookup y.1=some .local:=by decide +kernel) (hs:∀ z,foldedSetIterable iter X.env z=pure z:=by intro _; rfl)
  (hsw:swapsWith (.ListComp elt [⟨tgt,iter,ifs,0⟩] scope pos) (some (.Name y py)) spos.line X.env=pure true:=by rfl) (hf:X.fn y=true \/ X.env.scope.names.lookup y=some .local:=by first | exact .inl rfl | exact .inr rfl | assumption):
  QX X (.Assign [.Name y py] (.ListComp elt [⟨tgt,iter,ifs,0⟩] scope pos) spos) iy (a3s k js ti g tt te):=by
 refine q_compX hN hi2 hx2 hc hk hi hg ht he (a5V hall) (fun x c e=>a4I scope.names [] (by simp) (x,c) (PySem.mem_of_lookup e)) (fun x h=>?_) hjs (fun y hy=>?_) (fun y hy=>?_) nd hcell hkind hnames hs hsw hf
 ·obtain ⟨c,hc⟩:=a3S scope.names [] hall (a6D hcell h)
  exact a4b hc
 ·have:=List.all_eq_true.mp hin y hy
  simpa using this
 ·have:=List.all_eq_true.mp hout y hy
  simpa using this
end
end Z
namespace Z
open PySem PySem.Spec PyProof.Rows L2
def pIAdd:Dv->Dv->(R->Prop)->Prop
 | .int i,.int j,Q=>Q (.v (.int (i + j)))
 | .str x,.str y,Q=>x.length + y.length<=LIM/\Q (.v (.str (x ++ y)))
 | _,_,_=>False
def pISub:Dv->Dv->(R->Prop)->Prop
 | .int i,.int j,Q=>Q (.v (.int (i - j)))
 | _,_,_=>False
def pIMul:Dv->Dv->(R->Prop)->Prop
 | .int i,.int j,Q=>CMulG i j/\Q (.v (.int (i * j)))
 | _,_,_=>False
section
variable {X:Cx}
def sAsg (te:TEp) (g:TGp):TSp:=fun E ρ=>te ρ fun r=>r.free=true/\g r.d ρ E.nx
theorem q_asg {tg e:Expr} {te:TEp} {g:TGp} {k:Nat} {pos:Pos} (he:QE X e te) (hg:QG X tg k g) (hs:swapsWithSole [tg] e pos.line X.env=pure false:=by rfl) (hw:swappedStores [tg] e X.env=pure none:=by rfl)
  (h1:(assignEach [tg] X.env).map (·.2)=[assign tg X.env]:=by rfl):QS X (.Assign [tg] e pos) (sAsg te g):=by
 obtain ⟨t,ht,hr⟩:=hg.run
 refine ⟨fun E E' ρ w h=>he.mono _ _ _ (fun r q=>⟨q.1,hg.mono _ _ _ _ (fun ρ q=>w.nx _ q) q.2⟩) h,fun HZ F=>a2X (ps_asg (he.run HZ F) ht hs hw h1) fun D σ H ⟨ρ,E,fr,h,en⟩=>?_⟩
 refine he.step fr h fun r x H1 q S1 r1=>?_
 have rep:=r1.rep (fun a m=>fr.dom m) q.1
 exact hr HZ F x r.d σ H1 ρ _ (fr.mono S1) rep (hg.mono _ _ _ _ (fun ρ1 q σ1 fr1 _=>en.nx _ _ _ fr1 q) q.2)
theorem qt_chain {a b c:Expr} {ta tb tc:TEp} {pos:Pos} {op op':CmpOp} {f f':Int->Int->Bool} (ho:OpR X (compareOp op) (rI0 fun i j=>.bl (f i j))) (ho':OpR X (compareOp op') (rI0 fun i j=>.bl (f' i j))) (ha:QE X a ta) (hb:QE X b tb) (hc:QE X c tc)
  (hm:lastMarks [op,op'] [b,c]=false:=by with_unfolding_all rfl):QT X (.Compare a [op,op'] [b,c] pos) (a0y (a6F (pI2 f) (pI2 f') ta tb tc)):=by
 have Q0:=q_chain (pos:=pos) ho ho' ha hb hc hm
 have low:∀ (HZ:Hp) (F:Addr->Prop) (σ:St) (H:Hp) (Q:VK),lift X.K HZ F (a6F (pI2 f) (pI2 f') ta tb tc) σ H Q->tChain (rI0 fun i j=>.bl (f i j)) (rI0 fun i j=>.bl (f' i j)) (lift X.K HZ F ta) (lift X.K HZ F tb) (lift X.K HZ F tc) σ H Q:=by
  rintro HZ F σ H Q ⟨ρ,fr,q⟩
  refine ha.step fr q fun rx x H1 q1 S1 r1=>?_
  refine hb.step (fr.mono S1) q1 fun ry y H2 q2 S2 r2=>?_
  have cx:=(r1.mono S2).c
  have cy:=r2.c
  generalize rx.d=dx at q2 cx
  generalize ry.d=dy at q2 cy
  unfold pI2 at q2
  split at q2
  ·rename_i Q2 i j
   obtain rfl:=cx.int
   obtain rfl:=cy.int
   refine ⟨_,_,rfl,rfl,f i j,rfl,?_⟩
   have S12:=S1.trans S2
   replace q2:=(show (if f i j=true then tc ρ (fun w=>pI2 f' (.int j) w.d (fun r=>∀ x H',a0F H H'->a3L X.K (MM F ρ) (Z.Own ρ) H x r H'->Q x H')) else (∀ x H',a0F H H'->a3L X.K (MM F ρ) (Z.Own ρ) H x (.v (.bl false)) H'->Q x H')) from q2)
   cases h:f i j with
   | true=>
    rw [h] at q2
    simp only [if_true] at q2
    refine iteT (hc.step ((fr.mono S1).mono S2) q2 fun rw' z H3 q3 S3 r3=>?_)
    have cz:=r3.c
    generalize rw'.d=dz at q3 cz
    cases dz with
    | int l=>
     obtain rfl:=cz.int
     exact ⟨_,_,rfl,rfl,q3 _ H3 (S12.trans S3) (Rep.bl _)⟩
    | _=>exact (show False from q3).elim
   | false=>
    rw [h] at q2
    simp only [Bool.false_eq_true,if_false] at q2
    exact iteF (q2 _ H2 S12 (Rep.bl _))
  ·exact q2.elim
 refine ⟨fun ρ Q Q' w q=>a8G Q0.mono ρ Q Q' w q,fun HZ F=>PT_imp (pt_chain ho ho' (ha.run HZ F) (hb.run HZ F) (hc.run HZ F) hm) fun σ H Q ⟨ρ,fr,q⟩=>?_⟩
 refine low HZ F σ H _ (Q0.step fr q fun r x H1 q S1 r1=>?_)
 have cx:=r1.c
 generalize r.d=d at q cx
 split at q
 ·obtain rfl:=cx.bl
  exact ⟨_,rfl,q H1 S1⟩
 ·exact q.elim
end
end Z
namespace Z
open PySem PySem.Spec PyProof.Rows L2
section
variable {X:Cx} {e:Expr} {te:TEp} {pos:Pos}
def sExt (i:Nat) (te:TEp):TSp:=fun E ρ=>match ρ[i]? with
 | some (.own a (.lst xs))=>te ρ fun r=>match r.d with
  | .lst ys=>xs.length + ys.length<=LIM/\E.nx (ρ.set i (.own a (.lst (xs ++ ys))))
  | _=>False
 | _=>False
theorem q_ext {i:Nat} {x:Str} {p1 p2 p3:Pos} (hv:PE X (.Name x p1) (tVar i)) (he:QE X e te) (hs:swapsWith (.Call (.Attribute (.Name x p1) "extend" p2) [e] [] p3) none pos.line X.env=pure false:=by rfl)
  (hbase:attributeBase (.Name x p1) "extend" X.env (eval (.Name x p1) X.env)=eval (.Name x p1) X.env:=by rfl)
  (hfew:((backTo p3 (starEach [e] X.env)).all (fun x=>!x.1) && (backToKw p3 (keywordEach [] X.env)).all (fun x=>x.1.isSome)
   && decide ([e].length + ([]:List Keyword).length + (if ([]:List Keyword).isEmpty then 0 else 1) < 30))=true:=by rfl)
  (hline:(p2.endLine == p3.line)=true:=by rfl) (hst:starEach [e] X.env=(false,eval e X.env) :: starEach [] X.env:=by rfl) (hplain:(backTo p3 (starEach [] X.env)).any (·.1)=false:=by rfl):
  QS X (.Expr (.Call (.Attribute (.Name x p1) "extend" p2) [e] [] p3) pos) (sExt i te):=by
 refine ⟨fun E E' ρ w h=>?_,fun HZ F=>a2X (a7q (pe_bm PySem.F.plainAttrs_list PySem.F.slot_list_extend PySem.F.type_list_extend mt_extend hv (a6f (he.run HZ F) pa_nil hst) hbase hfew hline hst hplain) hs) fun D σ H ⟨ρ,E,fr,h,en⟩=>?_⟩
 ·unfold sExt at *
  split at h
  ·refine he.mono _ _ _ (fun r q=>?_) h
   split at q
   ·exact ⟨q.1,w.nx _ q.2⟩
   ·exact q
  ·exact h
 ·unfold sExt at h
  split at h
  ·rename_i a xs hx
   obtain ⟨hs1,vs,hv1,rv1⟩:=fr.sl i _ hx
   refine ⟨_,hs1,.inl ⟨rfl,_,SqL.of hv1⟩,he.step fr h fun r y H1 q S1 r1=>?_⟩
   have cy:=r1.c
   generalize r.d=d at q cy
   split at q
   ·rename_i ys
    obtain ⟨b,zs,rfl,eb,rb⟩:=cy.lst
    obtain ⟨ql,q2⟩:=q
    have hv2:=S1 _ _ hv1
    refine ⟨a,b,vs,zs,rfl,rfl,hv2,eb,a3B (by rw [rv1.length,rb.length]; exact ql),?_⟩
    refine en.nx _ _ _ ((fr.mono S1).write (d':=.lst (xs ++ ys)) hx ⟨_,a0I,?_⟩) q2
    have G:Gen X.K (MM F ρ) (MM F ρ) H1 (upd H1 a (.lst (vs ++ zs))):=Gen.write (.inr ⟨_,List.mem_of_getElem? hx⟩) (by rw [hv2]; trivial)
    exact ((rv1.mono S1).append rb).gen G
   ·exact q.elim
  ·exact h.elim
noncomputable def putD (f:Str) (d:Dv):List (Str × Dv)->List (Str × Dv)
 | []=>[(f,d)]
 | (g,x) :: r=>if g=f then (g,d) :: r else (g,x) :: putD f d r
theorem RepF.put {K:W.Frag} {M:Addr->Prop} {H:Hp} {f:Str} {x:V} {d:Dv} (a:Rep K M H x d) {xs:List (Str × V)} {ds:List (Str × Dv)} (r:RepF K M H xs ds):RepF K M H (a8Z f x xs) (putD f d ds):=
 r.ind (P:=fun xs ds=>RepF K M H (a8Z f x xs) (putD f d ds)) (.cons a .nil) fun k _ _ _ _ b r ih=>by
  show RepF K M H (if k=f then _ else _) (if k=f then _ else _)
  split
  ·exact .cons a r
  ·exact .cons b ih
theorem RepF.length {K:W.Frag} {M:Addr->Prop} {H:Hp} {xs:List (Str × V)} {ds:List (Str × Dv)} (r:RepF K M H xs ds):xs.length=ds.length:=r.ind (P:=fun xs ds=>xs.length=ds.length) rfl fun _ _ _ _ _ _ _ ih=>congrArg (· + 1) ih
def sAttr (C:Addr) (i:Nat) (f:Str) (te:TEp):TSp:=fun E ρ=>match ρ[i]? with
 | some (.own a (.obj C' fs))=>te ρ fun r=>(C'=C/\r.free=true/\fs.length < 1000)/\E.nx (ρ.set i (.own a (.obj C' (putD f r.d fs))))
 | _=>False
theorem q_attr {C:Addr} {i:Nat} {x f:Str} {p1 p2:Pos} (c:Cls X.K C) (n:a4n X.K C f) (hv:PE X (.Name x p1) (tVar i)) (he:QE X e te)
  (hs:swapsWith e (some (.Attribute (.Name x p1) f p2)) pos.line X.env=pure false:=by rfl):QS X (.Assign [.Attribute (.Name x p1) f p2] e pos) (sAttr C i f te):=by
 refine ⟨fun E E' ρ w h=>?_,fun HZ F=>a2X (ps_fld hv he.pe hs) fun D σ H ⟨ρ,E,fr,h,en⟩=>?_⟩
 ·unfold sAttr at *
  split at h
  ·exact he.mono _ _ _ (fun r q=>⟨q.1,w.nx _ q.2⟩) h
  ·exact h
 ·unfold sAttr at h
  split at h
  ·rename_i a C' fs hx
   refine ⟨HZ,F,he.step fr h fun r y H1 q S1 r1=>?_⟩
   obtain ⟨⟨rfl,qf,ql⟩,q2⟩:=q
   have fr1:=fr.mono S1
   obtain ⟨hs1,dx,fs1,hv1,rv1⟩:=fr1.sl i _ hx
   have rep:=r1.rep (fun a m=>fr.dom m) qf
   refine ⟨_,hs1,a,C',dx,fs1,rfl,hv1,c,n,by rw [rv1.length]; exact ql,?_⟩
   refine en.nx _ _ _ (fr1.write (d':=.obj C' (putD f r.d fs)) hx ⟨dx,_,a0I,?_⟩) q2
   have G:Gen X.K (MM F ρ) (MM F ρ) H1 (upd H1 a (.ins C' dx (a8Z f y fs1))):=Gen.write (.inr ⟨_,List.mem_of_getElem? hx⟩) (by rw [hv1]; trivial)
   exact (RepF.put rep rv1).gen G
  ·exact h.elim
end
def lowI (K:W.Frag) (C:Addr) (sp:Fn):Sp:=fun vs H Q _=>∃ (x dx:Addr) (vs':List V) (H0:Hp) (F:Addr->Prop) (ds:List Dv),vs=.ref x :: vs'/\H=upd (upd H0 dx (.own x)) x (.ins C dx [])/\H0 x=none/\H0 dx=none/\dx ≠ x/\OldF K F H0/\Reps K F H0 vs' ds /\
 sp ds (fun r=>∀ H',a0F H0 H'->a3L K F NoOwn H0 (.ref x) r H'->Q .non H')
structure IDef (P:Program) (w:World) (K:W.Frag) (mg:Str->Option Value) (base:Heap) (k:Nat) (x:Str) (C:Addr) (ps:List Str) (sp:Fn):Prop where
 ex:∃ f fd,Mk K C f/\mg x=some (.ref C)/\a5F K fd ps []/\FnOk P w K mg base CX0 k f fd ps (lowI K C sp)
structure IAt (K:W.Frag) (mg:Str->Option Value) (x:Str) (C:Addr) (qual:Str) (st:Stmt) (ps:List Str):Prop where
 ex:∃ f fd,Mk K C f/\mg x=some (.ref C)/\Fun K "__init__" qual st f fd/\a5F K fd ps []
noncomputable def a4k (C a:Addr) (N:List Str) (ds:List Dv):List Sl:=.own a (.obj C []) :: (ds.map .v ++ List.replicate (N.length - (ds.length + 1)) .un)
theorem same_two {H0:Hp} {x dx:Addr} {o o':HO} (hx:H0 x=none) (hd:H0 dx=none):a0F H0 (upd (upd H0 dx o) x o'):=fun b q e=>by
 rw [a0G (a0A e hx),a0G (a0A e hd)]
 exact e
theorem startI_fr {K:W.Frag} {C x dx:Addr} {F:Addr->Prop} {H0:Hp} {N:List Str} {vs:List V} {ds:List Dv} (hx:H0 x=none) (hd:H0 dx=none) (hF:OldF K F H0) (r:Reps K F H0 vs ds):
  Fr K H0 F (start N (.ref x :: vs)) (upd (upd H0 dx (.own x)) x (.ins C dx [])) (a4k C x N ds):=by
 have S:a0F H0 (upd (upd H0 dx (.own x)) x (.ins C dx [])):=same_two hx hd
 have only:∀ {a:Addr} {d:Dv},Sl.own a d ∈ a4k C x N ds->a=x:=fun {a d} h=>by
  rcases List.mem_cons.mp h with h | h
  ·cases h; rfl
  ·rcases List.mem_append.mp h with h | h
   ·obtain ⟨z,_,e⟩:=List.mem_map.mp h
    cases e
   ·cases List.eq_of_mem_replicate h
 have wk:∀ a,MM F (a4k C x N ds) a->F a \/ a=x:=fun a h=>by
  rcases h with h | ⟨d,h⟩
  ·exact .inl h
  ·exact .inr (only h)
 have G:Gen K F (MM F (a4k C x N ds)) H0 (upd (upd H0 dx (.own x)) x (.ins C dx [])):=((Gen.fresh hx).trans (.mono S)).trans (.weak wk)
 have hl:=r.length
 have r':=r.gen G
 have zero:∀ (i:Nat) (a:Addr) (d:Dv),(a4k C x N ds)[i]?=some (.own a d)->i=0:=fun i a d e=>by
  cases i with
  | zero=>rfl
  | succ i=>
   have e':(ds.map Sl.v ++ List.replicate (N.length - (ds.length + 1)) Sl.un)[i]?=some (.own a d):=e
   have:=List.mem_of_getElem? e'
   rcases List.mem_append.mp this with h | h
   ·obtain ⟨z,_,e⟩:=List.mem_map.mp h
    cases e
   ·cases List.eq_of_mem_replicate h
 refine ⟨by simp [L2.start,a4k,hl],fun i s e=>?_,fun i j a d d' e1 e2=>?_,fun a d h=>by rw [only h]; exact hx,S,hF⟩
 ·cases i with
  | zero=>
   cases e
   exact ⟨rfl,dx,[],a0I,.nil⟩
  | succ i=>
   have e':(ds.map Sl.v ++ List.replicate (N.length - (ds.length + 1)) Sl.un)[i]?=some s:=e
   have es:(start N (.ref x :: vs))[i + 1]?=(vs.map some ++ List.replicate (N.length - (vs.length + 1)) none)[i]?:=by simp [L2.start]
   rw [es]
   by_cases hi:i < ds.length
   ·rw [List.getElem?_append_left (by simpa using hi),List.getElem?_map] at e'
    cases q:ds[i]? with
    | none=>rw [q] at e'; cases e'
    | some d=>
     rw [q] at e'
     cases e'
     obtain ⟨y,hy,ry⟩:=r'.get q
     refine ⟨y,?_,ry⟩
     rw [List.getElem?_append_left (by simpa using (List.getElem?_eq_some_iff.mp hy).1),List.getElem?_map,hy]
     rfl
   ·rw [List.getElem?_append_right (by simpa using Nat.le_of_not_lt hi)] at e'
    have:=List.mem_of_getElem? e'
    cases List.eq_of_mem_replicate this
    trivial
 ·rw [zero i a d e1,zero j a d' e2]
theorem IAt.okP {P:Program} {w:World} {K:W.Frag} {mg:Str->Option Value} {base:Heap} {k:Nat} {x qual:Str} {C:Addr} {st:Stmt} {ps N:List Str} {sp:Fn} {t:TSp} (m:IAt K mg x C qual st ps) (S:FnScope N ps (a0e st))
  (hq:∀ (f:Addr) (cdv:Value) (A:Around) (outer:List Env) (s:Shared) (H:Hp) (E:XK),Room k (A.deeper (envOfC qual (a0e st) s.heap.objs.size f cdv))->QSs (cxOf CX0 P w K mg base N qual (a0e st) f cdv A outer s H E).nox (a0r st) t)
  (len:∀ ds Q,sp ds Q->ds.length + 1=ps.length) (hsp:∀ ds Q,sp ds Q -> ∀ a,t { nx:=fun ρ=>∃ d,ρ[0]?=some (.own a d)/\Q (.nw d),rt:=fun _=>False } (a4k C a N ds)):IDef P w K mg base (k + 1) x C ps sp:=by
 obtain ⟨f,fd,M,hm,FF,hb⟩:=m.ex
 refine ⟨f,fd,M,hm,hb,FF.ok S (fun vs H Q E ⟨a,dx,vs',H0,F,ds,e,_,_,_,_,_,r,q⟩=>?_) fun cdv A outer s H vs Q E hr q=>?_⟩
 ·rw [e,List.length_cons,r.length]
  exact len _ _ q
 ·obtain ⟨a,dx,vs',H0,F,ds,rfl,rfl,hx,hd,hn,hF,r,q⟩:=q
  refine ⟨_,(hq f cdv A outer s _ E hr).run H0 F,a4k C a N ds,_,startI_fr hx hd hF r,hsp ds _ q a,?_,fun _ _ _ _ z=>z.elim,fun _ _ _ _ z=>z.elim,fun _ _ _ _ _ z=>z.elim⟩
  rintro ρ σ H' fr ⟨d,hd',q⟩
  have mem:Sl.own a d ∈ ρ:=List.mem_of_getElem? hd'
  exact q H' fr.same ⟨a,rfl,hx,(fr.sl 0 _ hd').2.weak fun b z=>z.elim .inl fun z=>.inr ⟨d,by rw [z]; exact mem⟩⟩
def eMake (sp:Fn) (ts:TAp):TEp:=fun ρ Q=>ts ρ fun rs=>sp (rs.map R.d) (back rs Q)
section
variable {X:Cx} {k:Nat} {x:Str} {ps:List Str} {sp:Fn} {e:Expr} {es:List Expr} {ts:TAp} {p pos:Pos} {C:Addr}
theorem q_make (d:IDef X.prog X.w X.K X.mg X.base k x C ps sp) (mo:MonoF sp) (hr:Room (k + 1) X.A) (ha:QA X (e :: es) ts) (hg:Gl X x:=by rfl)
  (hdb:(x == ("__debug__" : Str))=false:=by decide) (he:starEach (e :: es) X.env=(false,eval e X.env) :: starEach es X.env:=by rfl) (hpl:(backTo pos (starEach es X.env)).any (·.1)=false:=by rfl):
  QE X (.Call (.Name x p) (e :: es) [] pos) (eMake sp ts):=by
 obtain ⟨f,fd,M,hm,hb,FO⟩:=d.ex
 refine ⟨fun ρ Q Q' w q=>ha.mono _ _ _ (fun rs q=>mo.mo _ _ _ (a5X w) q) q,fun HZ F=>a1J (pe_make M FO hr hg hm hb .nil pass0 (ha.run HZ F) hdb he hpl) fun σ H Q ⟨ρ,fr,h⟩=>?_⟩
 refine ha.step fr h fun rs xs H1 q S1 r1=>?_
 intro a dx hx hd hn
 rw [List.append_nil]
 refine ⟨a,dx,xs,H1,lent (MM F ρ) rs,rs.map R.d,rfl,rfl,hx,hd,hn,⟨fun b z=>(fr.mono S1).dom z.1,(fr.mono S1).tab⟩,a7E fr (fun _ h=>h) r1,mo.mo _ _ _ (fun r q H' S rx=>?_) q⟩
 exact ⟨rfl,q.2 _ H' (S1.trans S) (lent_back fr S1 rx q.1)⟩
end
end Z
namespace Z
open PySem PySem.Spec PyProof.Rows L2
section
variable {K:W.Frag} {HZ H1 H':Hp} {F:Addr->Prop} {σ:St} {ρ:List Sl} {a b:Addr}
end
noncomputable def startM (a:Addr) (N:List Str):List Dv->List Sl
 | []=>[]
 | d :: ds=>.own a d :: (ds.map .v ++ List.replicate (N.length - (ds.length + 1)) .un)
def sMov (i:Nat) (sp:Fn) (ts:TAp):TSp:=fun E ρ=>ts ρ fun rs=>match rs with
 | .ow a d :: rest=>ρ[i]?=some (.own a d)/\rest.all R.free=true/\sp (d :: rest.map R.d) (fun r=>match r with | .nw d'=>∀ b,E.nx (ρ.set i (.own b d')) | _=>False)
 | _=>False
section
variable {X:Cx} {k i:Nat} {x y:Str} {ps:List Str} {sp:Fn} {e:Expr} {es:List Expr} {ts:TAp} {p pos pos2 py:Pos}
end
end Z
namespace Z
open PySem PySem.Spec PyProof.Rows L2
def pShl:Dv->Dv->(R->Prop)->Prop
 | .int i,.int j,Q=>CPow i j/\Q (.v (.int (i * 2 ^ j.toNat)))
 | _,_,_=>False
section
variable {X:Cx}
end
end Z
namespace L2
open PySem PySem.Spec PyProof.Rows AutoSeq1
section
variable {prog:Program} {w:World} {A:Around} {E:Value->Shared->Prop} {s:Shared} {r:Addr} {a b c:Int} {t u v:Tok} {n:Nat}
end
section
variable {prog:Program} {w:World} {A:Around} {E:Value->Shared->Prop} {s:Shared} {r:Addr} {a b c:Int} {t u v:Tok} {n:Nat}
end
end L2
namespace L2
open PySem PySem.Spec PyProof.Rows
section
variable {X:Cx}
end
end L2
namespace Z
open PySem PySem.Spec PyProof.Rows L2
section
variable {X:Cx} {a:Expr} {ts:TAp} {p p2 pos:Pos}
def eTR1 (ts:TAp):TEp:=fun ρ Q=>ts ρ fun rs=>match rs.map R.d with
 | [.int j]=>(-(2 ^ 62)<=j/\j < 2 ^ 62/\j.toNat<=1000000)/\Q (.v (.tup (a0W 0 j.toNat)))
 | _=>False
end
end Z
namespace Tim
open PySem PySem.W PyProof.Rows
def ask (lt:Nat->Nat->Bool) (N:Nat) {α:Type}:KasT α->(α->Prop)->Prop
 | .ret a,Q=>Q a
 | .ask i j k,Q=>(i < N/\j < N/\i ≠ j)/\ask lt N (k (lt i j)) Q
theorem a4X {lt:Nat->Nat->Bool} {N:Nat} {α β:Type} {f:α->KasT β} {Q:β->Prop}:∀ (t:KasT α),ask lt N t (fun a=>ask lt N (f a) Q)->ask lt N (t.bind f) Q
 | .ret _,h=>h
 | .ask i j k,h=>⟨h.1,a4X (k (lt i j)) h.2⟩
theorem ask_wp {lt:Nat->Nat->Bool} {N:Nat} {α:Type} {cmp:Nat->Nat->(Bool->Shared->Prop)->Shared->Prop} {s:Shared} (hc:∀ i j C,i < N->j < N->i ≠ j->C (lt i j) s->cmp i j C s) {Q:α->Shared->Prop}:
  ∀ (t:KasT α),ask lt N t (fun a=>Q a s)->t.kasWp cmp Q s
 | .ret _,h=>h
 | .ask i j k,h=>hc i j _ h.1.1 h.1.2.1 h.1.2.2 (ask_wp hc (k (lt i j)) h.2)
structure Weak (lt:Nat->Nat->Bool):Prop where
 irr:∀ a,lt a a=false
 tr:∀ a b c,lt a b=true->lt b c=true->lt a c=true
 nt:∀ a b c,lt a c=true->lt a b=true \/ lt b c=true
noncomputable def at' (p:Array Nat) (k:Nat):Nat:=p.getD k 0
theorem at_of {p q:Array Nat} {i j:Nat} (h:p[i]?=q[j]?):at' p i=at' q j:=by
 unfold at'
 rw [Array.getD_eq_getD_getElem?,Array.getD_eq_getD_getElem?,h]
theorem a5e {p:Array Nat} {i j:Nat} (hj:j<=p.size) (k:Nat):at' (kas_rev p i j) k=if i<=k/\k < j then at' p (i + j - 1 - k) else at' p k:=by
 have e:=getElem?_mirror_all (i:=i) hj k
 split
 ·rename_i h
  rw [if_pos h] at e
  exact at_of e
 ·rename_i h
  rw [if_neg h] at e
  exact at_of e
theorem at_bub {p:Array Nat} {k d:Nat} (hs:k < p.size) (hd:d<=k) (u:Nat):at' (bubble p k d) u=if u=k - d then at' p k else if k - d < u/\u<=k then at' p (u - 1) else at' p u:=by
 have e:=getElem?_bubble hs d hd u
 by_cases h1:u=k - d
 ·rw [if_pos h1] at e ⊢
  exact at_of e
 ·rw [if_neg h1] at e ⊢
  by_cases h2:k - d < u/\u<=k
  ·rw [if_pos h2] at e ⊢
   exact at_of e
  ·rw [if_neg h2] at e ⊢
   exact at_of e
def Pm (N:Nat) (p:Array Nat):Prop:=p.Perm (List.toArray (List.range N))
section
variable {lt:Nat->Nat->Bool} {N:Nat} {p:Array Nat}
theorem Pm.size (h:Pm N p):p.size=N:=by
 have:=Array.Perm.size_eq h
 simpa using this
theorem Pm.list (h:Pm N p):p.toList.Perm (List.range N):=by
 have:=Array.perm_iff_toList_perm.mp h
 simpa using this
theorem a7T {k:Nat} (hk:k < p.size):at' p k=p.toList[k]'(by simpa using hk):=by
 unfold at'
 simp [Array.getD,hk]
theorem Pm.ltN (h:Pm N p) {k:Nat} (hk:k < N):at' p k < N:=by
 have hs:k < p.size:=by rw [h.size]; exact hk
 rw [a7T hs]
 exact List.mem_range.mp (h.list.mem_iff.mp (List.getElem_mem _))
theorem Pm.ne (h:Pm N p) {i j:Nat} (hi:i < N) (hj:j < N) (n:i ≠ j):at' p i ≠ at' p j:=by
 have nd:p.toList.Nodup:=h.list.nodup_iff.mpr List.nodup_range
 rw [a7T (by rw [h.size]; exact hi),a7T (by rw [h.size]; exact hj)]
 intro e
 rcases Nat.lt_or_gt_of_ne n with z | z
 ·exact List.pairwise_iff_getElem.mp nd i j _ _ z e
 ·exact List.pairwise_iff_getElem.mp nd j i _ _ z e.symm
theorem Pm.rev (h:Pm N p) (i j:Nat):Pm N (kas_rev p i j):=Array.Perm.trans (mirror_perm _ _ _ _) h
theorem Pm.bub (h:Pm N p) (i j:Nat):Pm N (bubble p i j):=Array.Perm.trans (bubble_perm _ _ _) h
def Tl (N:Nat) (p:Array Nat) (k:Nat):Prop:=∀ i,k<=i->i < N->at' p i=i
theorem Tl.up {k m:Nat} (h:Tl N p k) (hm:k<=m):Tl N p m:=fun i hi hn=>h i (Nat.le_trans hm hi) hn
theorem Tl.below {k i:Nat} (h:Tl N p k) (P:Pm N p) (hk:i < k) (hn:i < N):at' p i < k:=by
 have:=P.ltN hn
 apply Nat.lt_of_not_le
 intro z
 have e:=h _ z this
 exact P.ne hn this (by ac_rfl) e.symm
theorem Tl.rev {k i j:Nat} (h:Tl N p k) (P:Pm N p) (hj:j<=k) (hN:j<=N):Tl N (kas_rev p i j) k:=fun u hu hn=>by
 rw [a5e (by rw [P.size]; exact hN),if_neg (by ac_rfl)]
 exact h u hu hn
def Bef (lt:Nat->Nat->Bool) (a b:Nat):Prop:=lt b a=false/\(lt a b=true \/ a < b)
theorem Bef.trans (W:Weak lt) {a b c:Nat} (h:Bef lt a b) (k:Bef lt b c):Bef lt a c:=by
 have n1:lt c a=false:=by
  cases e:lt c a with
  | false=>rfl
  | true=>
   rcases W.nt c b a e with z | z
   ·rw [k.1] at z; cases z
   ·rw [h.1] at z; cases z
 refine ⟨n1,?_⟩
 rcases h.2 with x | x
 ·rcases W.nt a c b x with z | z
  ·exact .inl z
  ·rw [k.1] at z; cases z
 ·rcases k.2 with y | y
  ·rcases W.nt b a c y with z | z
   ·rw [h.1] at z; cases z
   ·exact .inl z
  ·exact .inr (Nat.lt_trans x y)
theorem Weak.asym (W:Weak lt) {a b:Nat} (h:lt a b=true):lt b a=false:=by
 cases e:lt b a with
 | false=>rfl
 | true=>have:=W.tr _ _ _ h e; rw [W.irr] at this; cases this
theorem Bef.of (W:Weak lt) {a b:Nat} (h:lt a b=true):Bef lt a b:=⟨W.asym h,.inl h⟩
def Up (lt:Nat->Nat->Bool) (p:Array Nat) (k:Nat):Prop:=∀ u v,u < v->v < k->Bef lt (at' p u) (at' p v)
def Dn (lt:Nat->Nat->Bool) (p:Array Nat) (k:Nat):Prop:=∀ u v,u < v->v < k->Bef lt (at' p v) (at' p u)
theorem Up.rev {k:Nat} (h:Up lt p k) (hk:k<=p.size):Dn lt (kas_rev p 0 k) k:=fun u v huv hv=>by
 rw [a5e hk,a5e hk,if_pos (by ac_rfl),if_pos (by ac_rfl)]
 exact h _ _ (by ac_rfl) (by ac_rfl)
theorem Dn.rev {k:Nat} (h:Dn lt p k) (hk:k<=p.size):Up lt (kas_rev p 0 k) k:=fun u v huv hv=>by
 rw [a5e hk,a5e hk,if_pos (by ac_rfl),if_pos (by ac_rfl)]
 exact h _ _ (by ac_rfl) (by ac_rfl)
theorem Up.snoc (W:Weak lt) {k:Nat} (h:Up lt p k) (t:Tl N p k) (P:Pm N p) (h1:1<=k) (hk:k < N) (n:lt (at' p k) (at' p (k - 1))=false):Up lt p (k + 1):=fun u v huv hv=>by
 by_cases e:v=k
 ·subst e
  have one:Bef lt (at' p (v - 1)) (at' p v):=⟨n,.inr (by rw [t v (Nat.le_refl _) hk]; exact t.below P (by ac_rfl) (by ac_rfl))⟩
  by_cases e2:u=v - 1
  ·rw [e2]; exact one
  ·exact (h u (v - 1) (by ac_rfl) (by ac_rfl)).trans W one
 ·exact h u v huv (by ac_rfl)
theorem asc_ask (W:Weak lt) (P:Pm N p) {Q:Nat->Prop}:∀ (f n:Nat),1<=n->n + f<=N->Up lt p n->Tl N p n ->
  (∀ m,n<=m->m<=n + f->Up lt p m->(m=n + f \/ m < N/\lt (at' p m) (at' p (m - 1))=true)->Q m)->ask lt N (kas_asc p f n) Q
 | 0,n,_,hn,u,t,k=>k n (Nat.le_refl _) (Nat.le_refl _) u (.inl rfl)
 | f + 1,n,h1,hn,u,t,k=>by
  refine ⟨⟨P.ltN (by ac_rfl),P.ltN (by ac_rfl),P.ne (by ac_rfl) (by ac_rfl) (by ac_rfl)⟩,?_⟩
  show ask lt N (if lt (at' p n) (at' p (n - 1))=true then KasT.ret n else kas_asc p f (n + 1)) Q
  cases e:lt (at' p n) (at' p (n - 1)) with
  | true=>
   rw [if_pos rfl]
   exact k n (Nat.le_refl _) (by ac_rfl) u (.inr ⟨by ac_rfl,e⟩)
  | false=>
   rw [if_neg (by simp)]
   exact asc_ask W P f (n + 1) (by ac_rfl) (by ac_rfl) (u.snoc W t P h1 (by ac_rfl) e) (t.up (by ac_rfl)) fun m a b c d=>k m (by ac_rfl) (by ac_rfl) c (d.elim (fun z=>.inl (by ac_rfl)) .inr)
structure Run (lt:Nat->Nat->Bool) (N:Nat) (p:Array Nat) (n q:Nat):Prop where
 pm:Pm N p
 tl:Tl N p n
 le:q + 1<=n
 hi:n<=N
 dn:Dn lt p (n - (q + 1))
 same:∀ u v,n - (q + 1)<=u->u < v->v < n->lt (at' p u) (at' p v)=false/\lt (at' p v) (at' p u)=false/\at' p u < at' p v
 less:∀ u v,u < n - (q + 1)->n - (q + 1)<=v->v < n->lt (at' p v) (at' p u)=true
theorem Run.turn (W:Weak lt) {n q:Nat} (h:Run lt N p n q):Dn lt (kas_rev p (n - (q + 1)) n) n:=fun u v huv hv=>by
 have hs:n<=p.size:=by rw [h.pm.size]; exact h.hi
 have hl:=h.le
 rw [a5e hs,a5e hs]
 by_cases c:n - (q + 1)<=v
 ·rw [if_pos ⟨c,hv⟩]
  by_cases d:n - (q + 1)<=u
  ·rw [if_pos ⟨d,by ac_rfl⟩]
   obtain ⟨a,b,e⟩:=h.same (n - (q + 1) + n - 1 - v) (n - (q + 1) + n - 1 - u) (by ac_rfl) (by ac_rfl) (by ac_rfl)
   exact ⟨b,.inr e⟩
  ·rw [if_neg (by ac_rfl)]
   exact Bef.of W (h.less u _ (by ac_rfl) (by ac_rfl) (by ac_rfl))
 ·rw [if_neg (by ac_rfl),if_neg (by ac_rfl)]
  exact h.dn u v huv (by ac_rfl)
theorem Run.flat (W:Weak lt) {n:Nat} (h:Run lt N p n 0):Dn lt p n:=fun u v huv hv=>by
 by_cases c:n - 1<=v
 ·exact Bef.of W (h.less u v (by ac_rfl) (by ac_rfl) hv)
 ·exact h.dn u v huv (by ac_rfl)
theorem Run.done (W:Weak lt) {n q:Nat} (h:Run lt N p n q):∃ p',(if q > 0 then kas_rev p (n - (q + 1)) n else p)=p'/\Pm N p'/\Tl N p' n/\Dn lt p' n /\ ∀ u,u < n -> ∃ w,w < n/\at' p' u=at' p w:=by
 by_cases c:q > 0
 ·refine ⟨_,if_pos c,h.pm.rev _ _,h.tl.rev h.pm (Nat.le_refl _) h.hi,h.turn W,fun u hu=>?_⟩
  have hl:=h.le
  rw [a5e (by rw [h.pm.size]; exact h.hi)]
  split
  ·exact ⟨_,by ac_rfl,rfl⟩
  ·exact ⟨u,hu,rfl⟩
 ·have:q=0:=by ac_rfl
  subst this
  exact ⟨_,if_neg c,h.pm,h.tl,h.flat W,fun u hu=>⟨u,hu,rfl⟩⟩
theorem Run.next (W:Weak lt) {n q:Nat} (h:Run lt N p n q) (hn:n < N) (e:lt (at' p n) (at' p (n - 1))=true):Run lt N (if q > 0 then kas_rev p (n - (q + 1)) n else p) (n + 1) 0:=by
 have hl:=h.le
 have all:∀ w,w < n->lt (at' p n) (at' p w)=true:=fun w hw=>by
  by_cases c:w=n - 1
  ·rw [c]; exact e
  ·by_cases d:w < n - (q + 1)
   ·exact W.tr _ _ _ e (h.less w (n - 1) d (by ac_rfl) (by ac_rfl))
   ·rcases W.nt _ (at' p w) _ e with z | z
    ·exact z
    ·rw [(h.same w (n - 1) (by ac_rfl) (by ac_rfl) (by ac_rfl)).1] at z; cases z
 obtain ⟨p',ep,P,T,D,A⟩:=h.done W
 rw [ep]
 have en:at' p' n=at' p n:=by rw [T n (Nat.le_refl _) hn,h.tl n (Nat.le_refl _) hn]
 refine ⟨P,T.up (by ac_rfl),by ac_rfl,hn,by simpa using D,fun u v a b c=>by ac_rfl,fun u v a b c=>?_⟩
 have:v=n:=by ac_rfl
 subst this
 obtain ⟨w,hw,ew⟩:=A u (by ac_rfl)
 rw [en,ew]
 exact all w hw
theorem Run.more (W:Weak lt) {n q:Nat} (h:Run lt N p n q) (hn:n < N) (e:lt (at' p n) (at' p (n - 1))=false) (d:lt (at' p (n - 1)) (at' p n)=false):Run lt N p (n + 1) (q + 1):=by
 have hl:=h.le
 have en:=h.tl n (Nat.le_refl _) hn
 have sz:n + 1 - (q + 1 + 1)=n - (q + 1):=by ac_rfl
 refine ⟨h.pm,h.tl.up (by ac_rfl),by ac_rfl,hn,by rw [sz]; exact h.dn,fun u v a b c=>?_,fun u v a b c=>?_⟩
 ·rw [sz] at a
  by_cases z:v=n
  ·subst z
   have lw:at' p u < at' p v:=by rw [en]; exact h.tl.below h.pm b (by ac_rfl)
   by_cases y:u=v - 1
   ·subst y; exact ⟨d,e,lw⟩
   ·obtain ⟨s1,s2,_⟩:=h.same u (v - 1) a (by ac_rfl) (by ac_rfl)
    refine ⟨?_,?_,lw⟩
    ·cases q1:lt (at' p u) (at' p v) with
     | false=>rfl
     | true=>
      rcases W.nt _ (at' p (v - 1)) _ q1 with x | x
      ·rw [s1] at x; cases x
      ·rw [d] at x; cases x
    ·cases q1:lt (at' p v) (at' p u) with
     | false=>rfl
     | true=>
      rcases W.nt _ (at' p (v - 1)) _ q1 with x | x
      ·rw [e] at x; cases x
      ·rw [s2] at x; cases x
  ·exact h.same u v a b (by ac_rfl)
 ·rw [sz] at a b
  by_cases z:v=n
  ·subst z
   rcases W.nt _ (at' p v) _ (h.less u (v - 1) a (by ac_rfl) (by ac_rfl)) with x | x
   ·rw [d] at x; cases x
   ·exact x
  ·exact h.less u v a b (by ac_rfl)
theorem a7a (W:Weak lt) {Q:Array Nat × Nat × Nat->Prop}:∀ (f:Nat) (p:Array Nat) (n q:Nat),n + f<=N->Run lt N p n q->(∀ p' n' q',n<=n'->n'<=n + f->Run lt N p' n' q'->Q (p',n',q'))->ask lt N (kas_desc f p n q) Q
 | 0,p,n,q,hn,r,k=>k p n q (Nat.le_refl _) (Nat.le_refl _) r
 | f + 1,p,n,q,hn,r,k=>by
  have hl:=r.le
  refine ⟨⟨r.pm.ltN (by ac_rfl),r.pm.ltN (by ac_rfl),r.pm.ne (by ac_rfl) (by ac_rfl) (by ac_rfl)⟩,?_⟩
  show ask lt N (if lt (at' p n) (at' p (n - 1))=true then (if q > 0 then kas_desc f (kas_rev p (n - (q + 1)) n) (n + 1) 0 else kas_desc f p (n + 1) 0)
   else .ask (p.getD (n - 1) 0) (p.getD n 0) fun d=>if d=true then .ret (p,n,q) else kas_desc f p (n + 1) (q + 1)) Q
  cases e:lt (at' p n) (at' p (n - 1)) with
  | true=>
   rw [if_pos rfl]
   have r':=r.next W (by ac_rfl) e
   by_cases c:q > 0
   ·rw [if_pos c] at r' ⊢
    exact a7a W f _ (n + 1) 0 (by ac_rfl) r' fun p' n' q' a b c=>k p' n' q' (by ac_rfl) (by ac_rfl) c
   ·rw [if_neg c] at r' ⊢
    exact a7a W f _ (n + 1) 0 (by ac_rfl) r' fun p' n' q' a b c=>k p' n' q' (by ac_rfl) (by ac_rfl) c
  | false=>
   rw [if_neg (by simp)]
   refine ⟨⟨r.pm.ltN (by ac_rfl),r.pm.ltN (by ac_rfl),r.pm.ne (by ac_rfl) (by ac_rfl) (by ac_rfl)⟩,?_⟩
   show ask lt N (if lt (at' p (n - 1)) (at' p n)=true then .ret (p,n,q) else kas_desc f p (n + 1) (q + 1)) Q
   cases d:lt (at' p (n - 1)) (at' p n) with
   | true=>
    rw [if_pos rfl]
    exact k p n q (Nat.le_refl _) (by ac_rfl) r
   | false=>
    rw [if_neg (by simp)]
    exact a7a W f _ (n + 1) (q + 1) (by ac_rfl) (r.more W (by ac_rfl) e d) fun p' n' q' a b c=>k p' n' q' (by ac_rfl) (by ac_rfl) c
def Got (lt:Nat->Nat->Bool) (N:Nat) (r:Nat × Array Nat):Prop:=1<=r.1/\r.1<=N/\Pm N r.2/\Up lt r.2 r.1/\Tl N r.2 r.1
theorem tail_ask (W:Weak lt) {n:Nat} {Q:Nat × Array Nat->Prop} (P:Pm N p) (h1:1<=n) (hn:n<=N) (D:Dn lt p n) (T:Tl N p n) (k:∀ r,Got lt N r->Q r):ask lt N (kas_tail3 n N p) Q:=by
 unfold kas_tail3
 have P':=P.rev 0 n
 have T':Tl N (kas_rev p 0 n) n:=T.rev P (Nat.le_refl _) hn
 refine a4X _ (asc_ask W P' (N - n) n h1 (by ac_rfl) (D.rev (by rw [P.size]; exact hn)) T' fun m a b c d=>?_)
 exact k _ ⟨by show 1<=m; ac_rfl,by show m<=N; ac_rfl,P',c,T'.up a⟩
theorem part_ask (W:Weak lt) {n:Nat} {Q:Nat × Array Nat->Prop} (P:Pm N p) (h1:1<=n) (hn:n < N) (D:Dn lt p n) (T:Tl N p n) (e:∀ w,w < n->lt (at' p n) (at' p w)=true) (k:∀ r,Got lt N r->Q r):ask lt N (kas_descPart n N p) Q:=by
 unfold kas_descPart
 have r0:Run lt N p (n + 1) 0:=⟨P,T.up (by ac_rfl),by ac_rfl,hn,by simpa using D,fun u v a b c=>by ac_rfl,fun u v a b c=>by
  have:v=n:=by ac_rfl
  subst this
  exact e u (by ac_rfl)⟩
 refine a4X _ (a7a W _ p (n + 1) 0 (by ac_rfl) r0 fun p' n' q' a b r=>?_)
 obtain ⟨p2,ep,P2,T2,D2,_⟩:=r.done W
 show ask lt N (if q' > 0 then kas_tail3 n' N (kas_rev p' (n' - (q' + 1)) n') else kas_tail3 n' N p') Q
 by_cases c:q' > 0
 ·rw [if_pos c] at ep ⊢
  rw [ep]
  exact tail_ask W P2 (by ac_rfl) (by ac_rfl) D2 T2 k
 ·rw [if_neg c] at ep ⊢
  rw [ep]
  exact tail_ask W P2 (by ac_rfl) (by ac_rfl) D2 T2 k
theorem count_ask (W:Weak lt) {Q:Nat × Array Nat->Prop} (P:Pm N p) (h1:1<=N) (T:Tl N p 0) (k:∀ r,Got lt N r->Q r):ask lt N (kas_count N p) Q:=by
 unfold kas_count
 refine a4X _ (asc_ask W P (N - 1) 1 (Nat.le_refl _) (by ac_rfl) (fun u v a b=>by ac_rfl) (T.up (by ac_rfl)) fun m a b c d=>?_)
 by_cases z:m=N
 ·rw [if_pos (by simpa using z)]
  exact k _ ⟨a,by show m<=N; ac_rfl,P,c,T.up (by ac_rfl)⟩
 ·rw [if_neg (by simpa using z)]
  have hm:m < N/\lt (at' p m) (at' p (m - 1))=true:=d.resolve_left (by ac_rfl)
  by_cases y:m > 1
  ·rw [if_pos y]
   refine ⟨⟨P.ltN (by ac_rfl),P.ltN (by ac_rfl),P.ne (by ac_rfl) (by ac_rfl) (by ac_rfl)⟩,?_⟩
   show ask lt N (if lt (at' p 0) (at' p (m - 1))=true then .ret (m,p) else kas_descPart m N (kas_rev p 0 m)) Q
   cases e:lt (at' p 0) (at' p (m - 1)) with
   | true=>
    rw [if_pos rfl]
    exact k _ ⟨a,by show m<=N; ac_rfl,P,c,T.up (by ac_rfl)⟩
   | false=>
    rw [if_neg (by simp)]
    have hs:m<=p.size:=by rw [P.size]; ac_rfl
    refine part_ask W (P.rev _ _) a hm.1 (c.rev hs) ((T.up (Nat.zero_le m)).rev P (Nat.le_refl _) (by ac_rfl)) (fun w hw=>?_) k
    rw [a5e hs,a5e hs,if_neg (by ac_rfl),if_pos (by ac_rfl)]
    have m0:lt (at' p m) (at' p 0)=true:=by
     rcases W.nt _ (at' p 0) _ hm.2 with x | x
     ·exact x
     ·rw [e] at x; cases x
    by_cases w0:0 + m - 1 - w=0
    ·rw [w0]; exact m0
    ·rcases W.nt _ (at' p (0 + m - 1 - w)) _ m0 with x | x
     ·exact x
     ·rw [(c 0 (0 + m - 1 - w) (by ac_rfl) (by ac_rfl)).1] at x; cases x
  ·rw [if_neg y]
   have:m=1:=by ac_rfl
   subst this
   refine part_ask W P a hm.1 (fun u v a b=>by ac_rfl) (T.up (by ac_rfl)) (fun w hw=>?_) k
   have:w=0:=by ac_rfl
   subst this
   exact hm.2
theorem a7r (W:Weak lt) (P:Pm N p) {k:Nat} (hk:k < N) (U:Up lt p k) {Q:Nat->Prop}:∀ (f l r:Nat),l<=r->r<=k->r - l<=f->(∀ u,u < l->lt (at' p k) (at' p u)=false)->(∀ u,r<=u->u < k->lt (at' p k) (at' p u)=true) ->
  (∀ l',l'<=k->(∀ u,u < l'->lt (at' p k) (at' p u)=false)->(∀ u,l'<=u->u < k->lt (at' p k) (at' p u)=true)->Q l')->ask lt N (kas_place p k f l r) Q
 | 0,l,r,hl,hr,hf,a,b,g=>by
  have:r=l:=by ac_rfl
  subst this
  exact g r hr a b
 | f + 1,l,r,hl,hr,hf,a,b,g=>by
  unfold kas_place
  by_cases c:l >= r
  ·rw [if_pos c]
   have:r=l:=by ac_rfl
   subst this
   exact g r hr a b
  ·rw [if_neg c]
   have hm:(l + r) / 2 < r:=by ac_rfl
   have hm2:l<=(l + r) / 2:=by ac_rfl
   generalize (l + r) / 2=mid at *
   refine ⟨⟨P.ltN hk,P.ltN (by ac_rfl),P.ne hk (by ac_rfl) (by ac_rfl)⟩,?_⟩
   show ask lt N (if lt (at' p k) (at' p mid)=true then kas_place p k f l mid else kas_place p k f (mid + 1) r) Q
   cases e:lt (at' p k) (at' p mid) with
   | true=>
    rw [if_pos rfl]
    refine a7r W P hk U f l mid hm2 (by ac_rfl) (by ac_rfl) a (fun u h1 h2=>?_) g
    by_cases z:u=mid
    ·rw [z]; exact e
    ·rcases W.nt _ (at' p u) _ e with x | x
     ·exact x
     ·rw [(U mid u (by ac_rfl) h2).1] at x; cases x
   | false=>
    rw [if_neg (by simp)]
    refine a7r W P hk U f (mid + 1) r (by ac_rfl) hr (by ac_rfl) (fun u hu=>?_) b g
    by_cases z:u=mid
    ·rw [z]; exact e
    ·cases q:lt (at' p k) (at' p u) with
     | false=>rfl
     | true=>
      rcases W.nt _ (at' p mid) _ q with x | x
      ·rw [e] at x; cases x
      ·rw [(U u mid (by ac_rfl) (by ac_rfl)).1] at x; cases x
theorem bin_ask (W:Weak lt) {Q:Array Nat->Prop}:∀ (f:Nat) (p:Array Nat) (k:Nat),k + f=N->Pm N p->Up lt p k->Tl N p k->(∀ p',Pm N p'->Up lt p' N->Q p')->ask lt N (kas_bin f p k) Q
 | 0,p,k,hk,P,U,T,g=>by
  have:k=N:=by ac_rfl
  subst this
  exact g p P U
 | f + 1,p,k,hk,P,U,T,g=>by
  refine a4X _ (a7r W P (by ac_rfl) U k 0 k (Nat.zero_le _) (Nat.le_refl _) (by ac_rfl) (fun u h=>by ac_rfl) (fun u h1 h2=>by ac_rfl) fun l hl a b=>?_)
  have hs:k < p.size:=by rw [P.size]; ac_rfl
  have e:∀ u,at' (bubble p k (k - l)) u=if u=l then at' p k else if l < u/\u<=k then at' p (u - 1) else at' p u:=fun u=>by
   rw [at_bub hs (by ac_rfl) u,show k - (k - l)=l by ac_rfl]
  refine bin_ask W f _ (k + 1) (by ac_rfl) (P.bub _ _) (fun u v huv hv=>?_) (fun i hi hn=>?_) g
  ·have tk:=T k (Nat.le_refl _) (by ac_rfl)
   rw [e u,e v]
   by_cases u1:u=l
   ·rw [if_pos u1,if_neg (by ac_rfl),if_pos (by ac_rfl)]
    exact Bef.of W (b (v - 1) (by ac_rfl) (by ac_rfl))
   ·rw [if_neg u1]
    by_cases v1:v=l
    ·rw [if_pos v1,if_neg (by ac_rfl)]
     exact ⟨a u (by ac_rfl),.inr (by rw [tk]; exact T.below P (by ac_rfl) (by ac_rfl))⟩
    ·rw [if_neg v1]
     by_cases u2:l < u
     ·rw [if_pos (by ac_rfl),if_pos (by ac_rfl)]
      exact U _ _ (by ac_rfl) (by ac_rfl)
     ·rw [if_neg (by ac_rfl)]
      by_cases v2:l < v
      ·rw [if_pos (by ac_rfl)]
       exact U _ _ (by ac_rfl) (by ac_rfl)
      ·rw [if_neg (by ac_rfl)]
       exact U _ _ (by ac_rfl) (by ac_rfl)
  ·rw [e i,if_neg (by ac_rfl),if_neg (by ac_rfl)]
   exact T i (by ac_rfl) hn
theorem sort_ask (W:Weak lt) (h1:1<=N) {Q:Array Nat->Prop} (k:∀ p',Pm N p'->Up lt p' N->Q p'):ask lt N (kas_sort N) Q:=by
 unfold kas_sort
 refine a4X _ (count_ask W (Array.Perm.refl _) h1 (fun i _ hi=>by simp [at',Array.getD,hi]) fun r g=>?_)
 obtain ⟨a,b,c,d,e⟩:=g
 by_cases z:r.1 < N
 ·rw [if_pos z]
  have:max r.1 1=r.1:=by ac_rfl
  rw [this]
  exact bin_ask W _ r.2 r.1 (by ac_rfl) c d e k
 ·rw [if_neg z]
  have:r.1=N:=by ac_rfl
  rw [this] at d
  exact k _ c d
end
end Tim
namespace L2
open PySem PySem.Spec PySem.W PyProof.Rows Tim
noncomputable abbrev picked (vs:List Value) (p:Array Nat):List Value:=p.toList.map fun i=>vs.getD i Value.none
structure Cmp (prog:Program) (w:World) (s:Shared) (a:Addr) (vs:List Value) (lt:Nat->Nat->Bool) (κ:SortKind):Prop where
 wk:Weak lt
 kind:∀ (A:Around) (h:Heap) (Q:SortKind->Shared->Prop),(∀ b o,b ≠ a->s.heap.get? b=some o->h.get? b=some o)->Q κ { s with heap:=h }->wpAny (model prog w) A (keyKind' vs.toArray) Q (fun _ _=>False) { s with heap:=h }
 less:∀ (A:Around) (h:Heap) (i j:Nat) (C:Bool->Shared->Prop),(∀ b o,b ≠ a->s.heap.get? b=some o->h.get? b=some o)->i < vs.length->j < vs.length->i ≠ j->C (lt i j) { s with heap:=h } ->
  wpAny (model prog w) A (keyLt' κ (vs.getD i Value.none) (vs.getD j Value.none)) C (fun _ _=>False) { s with heap:=h }
section
variable {prog:Program} {w:World} {A:Around} {E:Value->Shared->Prop} {s:Shared}
theorem picked_id (vs:List Value):picked vs (List.toArray (List.range vs.length))=vs:=by
 apply List.ext_getElem?
 intro i
 by_cases h:i < vs.length
 ·simp [picked,h]
 ·simp [picked,h]
theorem sort_here {a:Addr} {vs:List Value} {n:Nat} {lt:Nat->Nat->Bool} {κ:SortKind} {P:Fin->Shared->Prop} (ho:s.heap.get? a=some (seqObj "list" vs.toArray n)) (h64:vs.length < 64) (c:2<=vs.length->Cmp prog w s a vs lt κ)
  (k:∀ p,Pm vs.length p->Up lt p vs.length->P (.done (.ret .none)) { s with heap:=sortedHeap s.heap a vs (picked vs p).toArray }):wpAny (model prog w) A (Builtin.«list.sort» ⟨[.ref a],[]⟩) P E s:=by
 have la:a < s.heap.objs.size:=Heap.lt_size ho
 let h1:=s.heap.update a (Obj.mapSeq fun _=>#[])
 let h2:=h1.push (seqObj "tuple" vs.toArray 0)
 let h3:=h2.push (seqObj "list" #[] 0)
 obtain ⟨m,g1⟩:∃ m,h1.get? a=some (seqObj "list" #[] m):=⟨_,get?_update_seq ho fun _=>#[]⟩
 have sz1:h1.objs.size=s.heap.objs.size:=Heap.size_update ..
 have keep:∀ b o,b ≠ a->s.heap.get? b=some o->h3.get? b=some o:=fun b o hb e=>
  Heap.get?_push_of_some _ (Heap.get?_push_of_some _ ((Heap.get?_update_ne _ _ _ _ hb).trans e))
 have g3:h3.get? a=some (seqObj "list" #[] m):=Heap.get?_push_of_some _ (Heap.get?_push_of_some _ g1)
 have line:vs.length<=sizeLine:=by rw [sizeLine_eq]; ac_rfl
 have fin:∀ p,Pm vs.length p->Up lt p vs.length->wpAny (model prog w) A (do
   let touched:=(<- seqEpoch a) != m
   Builtin.List.listUpdate (.ref a) fun _=>(picked vs p).toArray
   if touched then rule "list.sort.modified"; raiseError "ValueError" "list modified during sort"
   ret .none) P E { s with heap:=h3 }:=fun p pm up=>by
  have sz:(picked vs p).toArray.size=vs.length:=by simp [picked,pm.size]
  refine wpAny_bind (seqEpoch_at g3 rfl (wpAny_bind (listUpdate_at g3 rfl ?_ (Nat.zero_le _) (by rw [sz]; ac_rfl))))
  rw [show (m != m)=false by simp]
  exact wpAny_pure (k p pm up)
 rw [list_sort_plain]
 refine wpAny_bind (listItems_at ho rfl (wpAny_bind (listUpdate_at ho rfl ?_ (by simpa using line) (Nat.zero_le _))))
 refine wpAny_bind (seqEpoch_at g1 rfl (wpAny_bind (wpAny_newTuple (wpAny_bind (wpAny_newList (wpAny_holding ?_) (Nat.zero_le _))) (by simpa using line))))
 show wpAny (model prog w) A _ P E { s with heap:=h3 }
 dsimp only
 by_cases two:2<=vs.length
 ·have big:¬ vs.toArray.size < 2:=by simpa using two
  rw [if_neg big,if_neg big]
  have cc:=c two
  refine wpAny_bind (wpAny_mono (cc.kind A h3 (fun x s'=>x=κ/\s'={ s with heap:=h3 }) keep ⟨rfl,rfl⟩) (fun x s' e=>?_) fun _ _ z=>z.elim)
  obtain ⟨rfl,rfl⟩:=e
  have tree:(kas_sort vs.length).kasWp (kas_ask prog w A x vs) (fun p s'=>(Pm vs.length p/\Up lt p vs.length)/\s'={ s with heap:=h3 }) { s with heap:=h3 }:=
   ask_wp (lt:=lt) (N:=vs.length) (fun i j C hi hj hn q=>cc.less A h3 i j C keep hi hj hn q) _ (sort_ask cc.wk (by ac_rfl) fun p a b=>⟨⟨a,b⟩,rfl⟩)
  refine wpAny_bind (wpAny_mono (kat_run (E:=E) (Q:=fun st' s'=>∃ p,(Pm vs.length p/\Up lt p vs.length)/\arrOf st'=p.map (kas_item (vs.toArray.zip vs.toArray))/\failedOf st'=none/\s'={ s with heap:=h3 })
   rfl two h64 (fun p st' s' _ a b q=>⟨p,q.1,a,b,q.2⟩) tree) (fun r s' q=>?_) fun _ _ z=>z)
  obtain ⟨⟨⟩,st'⟩:=r
  obtain ⟨p,⟨pm,up⟩,e1,e2,rfl⟩:=q
  dsimp only at e1 e2 ⊢
  rw [kat_snds rfl e1,e2]
  exact fin p pm up
 ·have few:vs.toArray.size < 2:=by simp; ac_rfl
  rw [if_pos few,if_pos few]
  refine wpAny_bind (wpAny_pure ?_)
  rw [StateT.run_pure]
  refine wpAny_bind (wpAny_pure ?_)
  dsimp only
  have e:((arrOf (SortSt.mk' general' (vs.toArray.zip vs.toArray) #[] 7 none)).map fun x=>x.2)=(picked vs (List.toArray (List.range vs.length))).toArray:=by
   rw [picked_id]
   apply Array.toList_inj.mp
   show ((vs.toArray.zip vs.toArray).map fun x=>x.2).toList=_
   simp
   apply List.ext_getElem?
   intro i
   by_cases hi:i < vs.length
   ·simp [hi]
   ·simp [hi]
  rw [e]
  exact fin _ (Array.Perm.refl _) fun u v h1 h2=>by ac_rfl
theorem sorted_by {l:Addr} {vs:List Value} {lt:Nat->Nat->Bool} {κ:SortKind} {Q:Value->Shared->Prop} (hl:s.heap.IsList l vs.toArray) (h64:vs.length < 64) (c:2<=vs.length->Cmp prog w s s.heap.objs.size vs lt κ)
  (k:∀ p,Pm vs.length p->Up lt p vs.length->Q (.ref (s.heap.objs.size + 1)) { s with heap:=sortedAll s.heap vs (picked vs p).toArray }):wpAny (model prog w) A (call (.builtin "sorted") [.ref l]) Q E s:=by
 have line:vs.length<=sizeLine:=by rw [sizeLine_eq]; ac_rfl
 let h1:=(s.heap.push (seqObj "list" #[] 0)).update s.heap.objs.size (Obj.mapSeq (· ++ vs.toArray))
 let h2:=h1.push (seqObj "list" vs.toArray 0)
 have sz:h1.objs.size=s.heap.objs.size + 1:=(Heap.size_update ..).trans (size_push' _ _)
 have old:∀ b o,s.heap.get? b=some o->h2.get? b=some o:=fun b o e=>
  Heap.get?_push_of_some _ ((Heap.get?_update_ne _ _ _ _ (Nat.ne_of_lt (Heap.lt_size e))).trans (Heap.get?_push_of_some _ e))
 have mine:h2.get? (s.heap.objs.size + 1)=some (seqObj "list" vs.toArray 0):=sz ▸ Heap.get?_push_size h1 rfl
 refine Calls.call_function_entry kind_sorted plain_sorted entry_sorted (args_sorted1 _) ?_
 unfold Builtin.«sorted»
 refine wpAny_bind (m:=checkCount "sorted" 1 1 _) (wpAny_pure (wpAny_bind (collect_list hl (wpAny_bind (wpAny_newList ?_ line)) line)))
 show wpAny _ _ _ _ _ { s with heap:=h2 }
 rw [show ((s.heap.push (seqObj "list" #[] 0)).update s.heap.objs.size (Obj.mapSeq (· ++ vs.toArray))).objs.size=s.heap.objs.size + 1 from sz]
 refine wpAny_bind (wpAny_holding (wpAny_call_entry slot_list_sort ⟨_,mine,rfl⟩ entry_list_sort ?_ (args_list_sort _)))
 refine sort_here (s:={ s with heap:=h2 }) (lt:=lt) (κ:=κ) mine h64 (fun two=>?_) fun p a b=>⟨_,rfl,wpAny_pure ⟨_,rfl,k p a b⟩⟩
 ·have cc:=c two
  exact ⟨cc.wk,fun A h Q hk q=>cc.kind A h Q (fun b o hb e=>hk b o (fun z=>by have y:=Heap.lt_size e; rw [z] at y; exact Nat.not_succ_lt_self y) (old b o e)) q,
   fun A h i j C hk hi hj hn q=>cc.less A h i j C (fun b o hb e=>hk b o (fun z=>by have y:=Heap.lt_size e; rw [z] at y; exact Nat.not_succ_lt_self y) (old b o e)) hi hj hn q⟩
end
noncomputable def a6n:List Int->List Int->Bool
 | [],[]=>false
 | [],_ :: _=>true
 | _ :: _,[]=>false
 | a :: r,b :: t=>if a=b then a6n r t else decide (a < b)
theorem a4c:∀ a,a6n a a=false
 | []=>rfl
 | a :: r=>by rw [a6n,if_pos rfl]; exact a4c r
theorem lexB_tr:∀ a b c,a6n a b=true->a6n b c=true->a6n a c=true
 | [],[],_,h,_=>by cases h
 | [],_ :: _,[],_,k=>by cases k
 | [],_ :: _,_ :: _,_,_=>rfl
 | _ :: _,[],_,h,_=>by cases h
 | _ :: _,_ :: _,[],_,k=>by cases k
 | a :: r,b :: t,c :: u,h,k=>by
  unfold a6n at h k ⊢
  by_cases e:a=b
  ·rw [if_pos e] at h
   subst e
   by_cases e2:a=c
   ·rw [if_pos e2] at k ⊢
    exact lexB_tr r t u h k
   ·rw [if_neg e2] at k ⊢
    exact k
  ·rw [if_neg e] at h
   have h1:=of_decide_eq_true h
   by_cases e2:b=c
   ·subst e2
    rw [if_neg e]
    exact h
   ·rw [if_neg e2] at k
    have h2:=of_decide_eq_true k
    rw [if_neg (by ac_rfl)]
    exact decide_eq_true (by ac_rfl)
theorem lexB_tot:∀ a b,a ≠ b->a6n a b=true \/ a6n b a=true
 | [],[],h=>absurd rfl h
 | [],_ :: _,_=>.inl rfl
 | _ :: _,[],_=>.inr rfl
 | a :: r,b :: t,h=>by
  unfold a6n
  by_cases e:a=b
  ·subst e
   rw [if_pos rfl,if_pos rfl]
   exact lexB_tot r t fun z=>h (by rw [z])
  ·rw [if_neg e,if_neg (Ne.symm e)]
   rcases Int.lt_or_gt_of_ne e with z | z
   ·exact .inl (decide_eq_true z)
   ·exact .inr (decide_eq_true z)
theorem lexB_weak (f:Nat->List Int):Weak fun i j=>a6n (f i) (f j):=by
 refine ⟨fun a=>a4c _,fun a b c=>lexB_tr _ _ _,fun a b c h=>?_⟩
 by_cases e:f a=f b
 ·exact .inr (by rw [<- e]; exact h)
 ·rcases lexB_tot _ _ e with z | z
  ·exact .inl z
  ·exact .inr (lexB_tr _ _ _ z h)
section
variable {prog:Program} {w:World} {A:Around} {s:Shared} {C:Bool->Shared->Prop} {fin:Bool}
theorem lex_ints:∀ (ns ms:List Int) (us vs ru rv:List Value) (i:Nat),IntsAre us ns->IntsAre vs ms->ns.length=ms.length->ns ≠ ms->C (a6n ns ms) s->KatLex prog w A true fin C ((us ++ ru).zip (vs ++ rv)) i s
 | [],[],_,_,_,_,_,_,_,_,n,_=>absurd rfl n
 | [],_ :: _,_,_,_,_,_,_,_,l,_,_=>by cases l
 | _ :: _,[],_,_,_,_,_,_,_,l,_,_=>by cases l
 | a :: r,b :: t,_,_,ru,rv,i,.cons _ x hu,.cons _ y hv,l,n,q=>by
  unfold a6n at q
  refine kat_cons (wpAny_eqBool_int (kat_go (fun e=>kat_yes ?_) fun e=>kat_no ?_))
  ·have e':a=b:=by simpa using e
   rw [if_pos e'] at q
   exact lex_ints r t _ _ ru rv (i + 1) hu hv (by simpa using l) (fun z=>n (by rw [e',z])) q
  ·have e':¬ a=b:=by simpa using e
   rw [if_neg e'] at q
   by_cases z:i=0
   ·rw [show (true && i == 0)=true by simp [z]]
    exact oneLt_int q
   ·rw [show (true && i == 0)=false by simp [z]]
    exact kat_one _ _ (lt_int q)
end
section
variable {X:Cx}
noncomputable abbrev SIt:=Addr × List Int × List V
theorem perm_of {α:Type} {N:Nat} {p:Array Nat} (P:Pm N p) (xs:List α) (hl:xs.length=N) (d:α):(p.toList.map fun i=>xs.getD i d).Perm xs:=by
 have e:(List.range N).map (fun i=>xs.getD i d)=xs:=by
  apply List.ext_getElem?
  intro i
  by_cases h:i < N
  ·simp [h,hl]
  ·simp [h,hl]
 have:=P.list.map fun i=>xs.getD i d
 rwa [e] at this
theorem up_pairwise {α:Type} {N:Nat} {p:Array Nat} {lt:Nat->Nat->Bool} (P:Pm N p) (U:Up lt p N) (xs:List α) (d:α) (Rel:α->α->Prop) (hR:∀ i j,i < N->j < N->Bef lt i j->Rel (xs.getD i d) (xs.getD j d)):
  (p.toList.map fun i=>xs.getD i d).Pairwise Rel:=by
 rw [List.pairwise_map]
 rw [List.pairwise_iff_getElem]
 intro i j hi hj hij
 have si:i < p.size:=by simpa using hi
 have sj:j < p.size:=by simpa using hj
 have b:=U i j hij (by rw [<- P.size]; exact sj)
 rw [a7T si,a7T sj] at b
 have:=P.ltN (k:=i) (by rw [<- P.size]; exact si)
 have:=P.ltN (k:=j) (by rw [<- P.size]; exact sj)
 rw [a7T si] at *
 rw [a7T sj] at *
 exact hR _ _ (by assumption) (by assumption) b
theorem call_sortedT:a3v X (.builtin "sorted") (fun xs H Q=>∃ (p:Addr) (its:List SIt) (k:Nat),xs=[.ref p]/\SqL X.K H p (its.map fun t=>V.ref t.1)/\its.length < 64/\(∀ t ∈ its,SqT X.K H t.1 (t.2.1.map V.int ++ t.2.2)/\t.2.1.length=k + 1) /\
  its.Pairwise (fun t u=>t.2.1 ≠ u.2.1) /\ ∀ its':List SIt,its'.Perm its->its'.Pairwise (fun t u=>a6n t.2.1 u.2.1=true) -> ∀ l,H l=none->Q (.ref l) (upd H l (.lst (its'.map fun t=>V.ref t.1)))):=by
 intro pins s σ H xs us Q I r h
 obtain ⟨p,its,k,rfl,hl,h64,hits,hd,q⟩:=h
 obtain ⟨u,rfl,ru⟩:=a4Y r
 cases ru
 obtain ⟨vs,rv,pl,hz⟩:=I.list hl
 have ev:vs=its.map fun t=>Value.ref t.1:=by
  clear hl hz h64 hits hd q pl
  induction its generalizing vs with
  | nil=>cases rv; rfl
  | cons t r ih=>
   cases rv with
   | cons a b=>rw [List.map_cons,<- ih _ b]; cases a; rfl
 subst ev
 have len:(its.map fun t=>Value.ref t.1).length=its.length:=by simp
 let num:Nat->List Int:=fun i=>(its.getD i (0,[],[])).2.1
 have get:∀ i,i < its.length->(its.map fun t=>Value.ref t.1).getD i Value.none=Value.ref (its.getD i (0,[],[])).1:=fun i hi=>by simp [hi]
 have mem:∀ i,i < its.length->its.getD i (0,[],[]) ∈ its:=fun i hi=>by
  rw [List.getD_eq_getElem?_getD,List.getElem?_eq_getElem hi]
  exact List.getElem_mem hi
 have ne:∀ i j,i < its.length->j < its.length->i ≠ j->num i ≠ num j:=fun i j hi hj n=>by
  have e:∀ i,i < its.length->num i=(its[i]!).2.1:=fun i hi=>by simp [num,hi]
  have pw:=List.pairwise_iff_getElem.mp hd
  have ei:its.getD i (0,[],[])=its[i]:=by simp [hi]
  have ej:its.getD j (0,[],[])=its[j]:=by simp [hj]
  show (its.getD i (0,[],[])).2.1 ≠ (its.getD j (0,[],[])).2.1
  rw [ei,ej]
  rcases Nat.lt_or_gt_of_ne n with z | z
  ·exact pw i j hi hj z
  ·exact (pw j i hj hi z).symm
 have tup:∀ t ∈ its,∃ (o:Obj) (a b:List Value) (n:Nat),s.heap.get? t.1=some o/\o.cls=.type "tuple" /\ o.data=.seq (a ++ b).toArray n/\IntsAre a t.2.1:=fun t ht=>by
  obtain ⟨z,r',⟨o,ho,hc,n,hd'⟩,_⟩:=I.tuple (hits t ht).1
  obtain ⟨a,b,rfl,ra,rb⟩:∃ a b,z=a ++ b/\a1w (t.2.1.map V.int) a/\a1w t.2.2 b:=by
   clear hd' ho hc
   generalize t.2.1.map V.int=m at r'
   induction m generalizing z with
   | nil=>exact ⟨[],z,rfl,.nil,r'⟩
   | cons x y ih=>
    cases r' with
    | cons x1 x2=>
     obtain ⟨a,b,rfl,ra,rb⟩:=ih _ x2
     exact ⟨_ :: a,b,rfl,.cons x1 ra,rb⟩
  exact ⟨o,a,b,n,ho,hc,hd',a6p ra⟩
 have cmp:2<=(its.map fun t=>Value.ref t.1).length->Cmp X.prog X.w s s.heap.objs.size (its.map fun t=>Value.ref t.1) (fun i j=>a6n (num i) (num j)) (tuples' true):=fun two=>by
  have far:∀ {b o},s.heap.get? b=some o->b ≠ s.heap.objs.size:=fun e=>Nat.ne_of_lt (Heap.lt_size e)
  refine ⟨lexB_weak num,fun A h Q' hk q'=>?_,fun A h i j C hk hi hj hn q'=>?_⟩
  ·have go:∀ l:List SIt,(∀ t ∈ l,t ∈ its) -> ∃ fs:List Value,KatTups h (l.map fun t=>Value.ref t.1) fs/\fs.length=l.length /\ ∀ v ∈ fs,∃ x y,v=Value.int x y:=by
    intro l
    induction l with
    | nil=>intro _; exact ⟨[],.nil,rfl,fun v hv=>by cases hv⟩
    | cons t r ih=>
     intro hm
     obtain ⟨fs,kt,e,al⟩:=ih fun u hu=>hm u (List.mem_cons_of_mem _ hu)
     have ht:=hm t (List.mem_cons_self ..)
     obtain ⟨o,a,b,n,ho,hc,hd',ia⟩:=tup t ht
     obtain ⟨x,rest,ex⟩:∃ x rest,t.2.1=x :: rest:=by
      have:=(hits t ht).2
      cases e':t.2.1 with
      | nil=>rw [e'] at this; cases this
      | cons x rest=>exact ⟨x,rest,rfl⟩
     rw [ex] at ia
     cases ia with
     | cons _ y ia'=>
      refine ⟨Value.int x y :: fs,KatTups.cons (hk _ _ (far ho) ho) hc hd' (by simp) kt,by simp [e],fun v hv=>?_⟩
      rcases List.mem_cons.mp hv with rfl | hv
      ·exact ⟨x,y,rfl⟩
      ·exact al v hv
   obtain ⟨fs,kt,e,al⟩:=go its fun _ h=>h
   refine kat_kind (s:={ s with heap:=h }) (T:=.type "int") kt (by rw [e]; simp at two; ac_rfl) (fun v hv=>?_) (by decide) q'
   obtain ⟨x,y,rfl⟩:=al v hv
   exact Looks.of_pure rfl
  ·rw [len] at hi hj
   rw [get i hi,get j hj]
   obtain ⟨o,a,b,n,ho,hc,hd',ia⟩:=tup _ (mem i hi)
   obtain ⟨o2,a2,b2,n2,ho2,hc2,hd2,ia2⟩:=tup _ (mem j hj)
   refine kat_lt (s:={ s with heap:=h }) (hk _ _ (far ho) ho) hd' (hk _ _ (far ho2) ho2) hd2 ?_
   exact lex_ints _ _ a a2 b b2 0 ia ia2 (by rw [(hits _ (mem i hi)).2,(hits _ (mem j hj)).2]) (ne i j hi hj hn) q'
 refine sorted_by (lt:=fun i j=>a6n (num i) (num j)) (κ:=tuples' true) pl.isList (by rw [len]; exact h64) cmp fun p' pm up=>?_
 rw [len] at pm up
 let its':=p'.toList.map fun i=>its.getD i (0,[],[])
 have perm:its'.Perm its:=perm_of pm its rfl _
 have pw:its'.Pairwise (fun t u=>a6n t.2.1 u.2.1=true):=up_pairwise pm up its _ _ fun i j hi hj b=>by
  rcases b.2 with z | z
  ·exact z
  ·rcases lexB_tot _ _ (ne i j hi hj (Nat.ne_of_lt z)) with y | y
   ·exact y
   ·have b1:a6n (num j) (num i)=false:=b.1
    rw [b1] at y; cases y
 have ep:picked (its.map fun t=>Value.ref t.1) p'=its'.map fun t=>Value.ref t.1:=by
  unfold picked
  rw [List.map_map]
  apply List.map_congr_left
  intro i hi
  exact get i (List.mem_range.mp (pm.list.mem_iff.mp hi))
 rw [ep]
 obtain ⟨c,at1⟩:=sortedAll_at s.heap (its.map fun t=>Value.ref t.1) (its'.map fun t=>Value.ref t.1).toArray
 have rel:∀ l:List SIt,a1w (l.map fun t=>V.ref t.1) (l.map fun t=>Value.ref t.1):=fun l=>by
  induction l with
  | nil=>exact .nil
  | cons t r ih=>exact .cons rfl ih
 have hle:(its'.map fun t=>V.ref t.1).length<=sizeLine:=by rw [sizeLine_eq,List.length_map,perm.length_eq]; ac_rfl
 exact ⟨.ref (s.heap.objs.size + 1),_,I.laid (t':=s.toks) (fun b o e=>sortedAll_old e) (Nat.le_succ _) (show a2a X.prog X.w _ _ _ (.lst _) from ⟨hle,_,c,rel its',at1⟩),rfl,q its' perm pw _ (I.hok.fresh (Nat.le_succ _))⟩
theorem call_sortedI:a3v X (.builtin "sorted") (fun xs H Q=>∃ (p:Addr) (ns:List Int),xs=[.ref p]/\SqL X.K H p (ns.map V.int)/\ns.length < 64 /\ ∀ ms:List Int,ms.Perm ns->ms.Pairwise (· <= ·) -> ∀ l,H l=none->Q (.ref l) (upd H l (.lst (ms.map V.int)))):=by
 intro pins s σ H xs us Q I r h
 obtain ⟨p,ns,rfl,hl,h64,q⟩:=h
 obtain ⟨u,rfl,ru⟩:=a4Y r
 cases ru
 obtain ⟨vs,rv,pl,hz⟩:=I.list hl
 have ia:=a6p rv
 refine sorted_ints pl.isList ia (by rw [ia.length]; exact h64) fun out ms hi hp hs=>?_
 obtain ⟨c,at1⟩:=sortedAll_at s.heap vs out
 have back:∀ {us:List Value} {ns:List Int},IntsAre us ns->a1w (ns.map V.int) us:=fun h=>by
  induction h with
  | nil=>exact .nil
  | cons a t _ ih=>exact .cons ⟨t,rfl⟩ ih
 have ea:out.toList.toArray=out:=by cases out; rfl
 have hle:(ms.map V.int).length<=sizeLine:=by rw [sizeLine_eq,List.length_map,hp.length_eq]; ac_rfl
 exact ⟨.ref (s.heap.objs.size + 1),_,I.laid (t':=s.toks) (fun b o e=>sortedAll_old e) (Nat.le_succ _) (show a2a X.prog X.w _ _ _ (.lst _) from ⟨hle,out.toList,c,back hi,by rw [ea]; exact at1⟩),rfl,q ms hp hs _ (I.hok.fresh (Nat.le_succ _))⟩
end
end L2
namespace Z
open PySem PySem.Spec PyProof.Rows L2
section
variable {X:Cx} {e:Expr} {te:TEp} {pos:Pos}
def eDT:TEp:=fun _ Q=>Q (.nw (.dit []))
theorem q_dnewT:QE X (.Dict [] [] pos) eDT:=
 ⟨fun ρ Q Q' w q=>w _ q,fun HZ F=>a1J pe_dnewT fun σ H Q ⟨ρ,fr,q⟩ p hp=>q _ _ (a0F.new' hp) ⟨p,rfl,hp,0,[],a0I,.nil⟩⟩
noncomputable def putT (kvs:List (List Key × Dv)) (k:List Key) (d:Dv):List (List Key × Dv):=
 if kvs.any (fun kv=>decide (kv.1=k)) then kvs.map (fun kv=>if kv.1=k then (kv.1,d) else kv) else kvs ++ [(k,d)]
theorem RepT.any {K:W.Frag} {M:Addr->Prop} {H:Hp} {k:List Key} {xs:List (List Key × V)} {ds:List (List Key × Dv)} (r:RepT K M H xs ds):xs.any (fun kv=>decide (kv.1=k))=ds.any (fun kv=>decide (kv.1=k)):=
 r.ind (P:=fun xs ds=>xs.any (fun kv=>decide (kv.1=k))=ds.any (fun kv=>decide (kv.1=k))) rfl fun _ _ _ _ _ _ _ ih=>by rw [List.any_cons,List.any_cons,ih]
theorem RepT.len {K:W.Frag} {M:Addr->Prop} {H:Hp} {xs:List (List Key × V)} {ds:List (List Key × Dv)} (r:RepT K M H xs ds):xs.length=ds.length:=r.ind (P:=fun xs ds=>xs.length=ds.length) rfl fun _ _ _ _ _ _ _ ih=>congrArg (· + 1) ih
theorem RepT.snoc {K:W.Frag} {M:Addr->Prop} {H:Hp} {k:List Key} {x:V} {d:Dv} (a:Rep K M H x d) {xs:List (List Key × V)} {ds:List (List Key × Dv)} (r:RepT K M H xs ds):RepT K M H (xs ++ [(k,x)]) (ds ++ [(k,d)]):=
 r.ind (P:=fun xs ds=>RepT K M H (xs ++ [(k,x)]) (ds ++ [(k,d)])) (.cons a .nil) fun _ _ _ _ _ b _ ih=>.cons b ih
theorem RepT.repl {K:W.Frag} {M:Addr->Prop} {H:Hp} {k:List Key} {x:V} {d:Dv} (a:Rep K M H x d) {xs:List (List Key × V)} {ds:List (List Key × Dv)} (r:RepT K M H xs ds):
  RepT K M H (xs.map fun kv=>if kv.1=k then (kv.1,x) else kv) (ds.map fun kv=>if kv.1=k then (kv.1,d) else kv):=
 r.ind (P:=fun xs ds=>RepT K M H (xs.map fun kv=>if kv.1=k then (kv.1,x) else kv) (ds.map fun kv=>if kv.1=k then (kv.1,d) else kv)) .nil fun k' _ _ _ _ b _ ih=>by
  rw [List.map_cons,List.map_cons]
  by_cases e:k'=k
  ·rw [if_pos e,if_pos e]; exact .cons a ih
  ·rw [if_neg e,if_neg e]; exact .cons b ih
theorem RepT.put {K:W.Frag} {M:Addr->Prop} {H:Hp} {k:List Key} {x:V} {d:Dv} {xs:List (List Key × V)} {ds:List (List Key × Dv)} (r:RepT K M H xs ds) (a:Rep K M H x d):RepT K M H (putK xs k x) (putT ds k d):=by
 unfold putK putT
 rw [r.any (k:=k)]
 split
 ·exact r.repl a
 ·exact r.snoc a
def sPut (i:Nat) (tk tv:TEp):TSp:=fun E ρ=>match ρ[i]? with
 | some (.own a (.dit kvs))=>tv ρ fun r=>tk ρ fun kk=>∃ k:List Key,kk.d=.tup (k.map kD)/\(r.free=true/\kvs.length < LIM)/\E.nx (ρ.set i (.own a (.dit (putT kvs k r.d))))
 | _=>False
theorem q_put {i:Nat} {x:Str} {p1 p2:Pos} {k:Expr} {tk:TEp} (hu:X.A.units + 1 < cLine) (hv:PE X (.Name x p1) (tVar i)) (hk:QE X k tk) (he:QE X e te)
  (hs:swapsWith e (some (.Subscript (.Name x p1) k p2)) pos.line X.env=pure false:=by rfl):QS X (.Assign [.Subscript (.Name x p1) k p2] e pos) (sPut i tk te):=by
 refine ⟨fun E E' ρ w h=>?_,fun HZ F=>a2X (ps_dput hu hv (hk.run HZ F) (he.run HZ F) hs) fun D σ H ⟨ρ,E,fr,h,en⟩=>?_⟩
 ·unfold sPut at *
  split at h
  ·exact he.mono _ _ _ (fun r q=>hk.mono _ _ _ (fun kk ⟨k,a,b,c⟩=>⟨k,a,b,w.nx _ c⟩) q) h
  ·exact h
 ·unfold sPut at h
  split at h
  ·rename_i a kvs hx
   refine he.step fr h fun r y H1 q S1 r1=>?_
   have fr1:=fr.mono S1
   obtain ⟨hs1,ep,vs,hv1,rv1⟩:=fr1.sl i _ hx
   refine ⟨_,hs1,hk.step fr1 q fun kk z H2 q S2 rk=>?_⟩
   obtain ⟨ks,ek,⟨qf,ql⟩,q2⟩:=q
   have ck:=rk.c
   rw [ek] at ck
   obtain ⟨b,zs,rfl,eb,rb⟩:=ck.tup
   have ez:zs=ks.map kV:=rb.keys
   have rep:=(r1.rep (fun a m=>fr.dom m) qf).mono S2
   have hv2:=S2 _ _ hv1
   refine ⟨a,rfl,DPut.t hv2 (ez ▸ eb) (by rw [rv1.len]; exact lim_lt ql) fun ep2=>?_⟩
   refine en.nx _ _ _ ((fr1.mono S2).write (d':=.dit (putT kvs ks r.d)) hx ⟨_,_,a0I,?_⟩) q2
   have G:Gen X.K (MM F ρ) (MM F ρ) H2 (upd H2 a (.dT ep2 (putK vs ks y))):=Gen.write (.inr ⟨_,List.mem_of_getElem? hx⟩) (by rw [hv2]; trivial)
   exact ((rv1.gen (.mono S2)).put rep).gen G
  ·exact h.elim
def a7k (i:Nat):TSp:=fun E ρ=>match ρ[i]? with
 | some (.own a (.lst _))=>E.nx (ρ.set i (.own a (.lst [])))
 | _=>False
theorem q_clear {i:Nat} {x:Str} {p1 p2 p3:Pos} (hv:PE X (.Name x p1) (tVar i)) (hs:swapsWith (.Call (.Attribute (.Name x p1) "clear" p2) [] [] p3) none pos.line X.env=pure false:=by rfl)
  (hbase:attributeBase (.Name x p1) "clear" X.env (eval (.Name x p1) X.env)=eval (.Name x p1) X.env:=by rfl) (hline:(p2.endLine == p3.line)=true:=by rfl):
  QS X (.Expr (.Call (.Attribute (.Name x p1) "clear" p2) [] [] p3) pos) (a7k i):=by
 refine ⟨fun E E' ρ w h=>?_,fun HZ F=>a2X (a7q (pe_bm0 PySem.F.plainAttrs_list PySem.F.slot_list_clear PySem.F.type_list_clear mt_clear hv hbase hline) hs) fun D σ H ⟨ρ,E,fr,h,en⟩=>?_⟩
 ·unfold a7k at *
  split at h
  ·exact w.nx _ h
  ·exact h
 ·unfold a7k at h
  split at h
  ·rename_i a xs hx
   obtain ⟨hs1,vs,hv1,rv1⟩:=fr.sl i _ hx
   refine ⟨_,hs1,.inl ⟨rfl,_,SqL.of hv1⟩,a,vs,rfl,rfl,hv1,?_⟩
   exact en.nx _ _ _ (fr.write (d':=.lst []) hx ⟨_,a0I,.nil⟩) h
  ·exact h.elim
def sReverse (i:Nat):TSp:=fun E ρ=>match ρ[i]? with
 | some (.own a (.lst xs))=>E.nx (ρ.set i (.own a (.lst xs.reverse)))
 | _=>False
noncomputable abbrev tI (t:List Int × List Dv):Dv:=.tup (t.1.map .int ++ t.2)
def a1z:List Dv->(R->Prop)->Prop
 | [.lst xs],Q=>(∃ ns:List Int,xs=ns.map .int/\ns.length < 64 /\ ∀ ms:List Int,ms.Perm ns->ms.Pairwise (· <= ·)->Q (.nw (.lst (ms.map .int)))) \/
  ∃ (ts:List (List Int × List Dv)) (k:Nat),xs=ts.map tI/\ts.length < 64/\(∀ t ∈ ts,t.1.length=k + 1)/\ts.Pairwise (fun t u=>t.1 ≠ u.1) /\ ∀ ts':List (List Int × List Dv),ts'.Perm ts->ts'.Pairwise (fun t u=>a6n t.1 u.1=true)->Q (.nw (.lst (ts'.map tI)))
 | _,_=>False
theorem Reps.fore {K:W.Frag} {M:Addr->Prop} {H:Hp}:∀ {ns:List Int} {xs:List V} {ds:List Dv},Reps K M H xs (ns.map .int ++ ds) -> ∃ ys,xs=ns.map V.int ++ ys/\Reps K M H ys ds
 | [],xs,ds,r=>⟨xs,rfl,r⟩
 | n :: ns,_,ds,.cons a r=>by
  obtain ⟨ys,e,r'⟩:=Reps.fore (ns:=ns) r
  cases a
  exact ⟨ys,by rw [e]; rfl,r'⟩
theorem a7s {α β:Type} {f:α->β} {zs ws:List β} (hp:zs.Perm ws):∀ {its:List α},its.map f=ws -> ∃ jts:List α,jts.Perm its/\zs=jts.map f:=by
 induction hp with
 | nil=>intro its hz; exact ⟨its,.refl _,hz.symm⟩
 | cons x p ih=>
  intro its hz
  cases its with
  | nil=>cases hz
  | cons t r=>
   rw [List.map_cons] at hz
   injection hz with h1 h2
   obtain ⟨j,hj,e⟩:=ih h2
   exact ⟨t :: j,hj.cons t,by rw [List.map_cons,h1,e]⟩
 | swap x y l=>
  intro its hz
  match its,hz with
  | t :: u :: r,hz=>
   simp only [List.map_cons,List.cons.injEq] at hz
   obtain ⟨h1,h2,h3⟩:=hz
   exact ⟨u :: t :: r,.swap _ _ _,by simp only [List.map_cons,h1,h2,h3]⟩
 | trans p1 p2 ih1 ih2=>
  intro its hz
  obtain ⟨j,hj,e⟩:=ih2 hz
  obtain ⟨j2,hj2,e2⟩:=ih1 e.symm
  exact ⟨j2,hj2.trans hj,e2⟩
theorem a2V:a6S X (.builtin "sorted") a1z:=by
 refine ⟨fun ds Q Q' w h=>?_,_,call_sortedI.or call_sortedT,fun M O H xs ds Q c h=>?_⟩
 ·unfold a1z at *
  split at h
  ·rcases h with ⟨ns,a,b,q⟩ | ⟨ts,k,a,b,c,d,q⟩
   ·exact .inl ⟨ns,a,b,fun ms x y=>w _ (q ms x y)⟩
   ·exact .inr ⟨ts,k,a,b,c,d,fun ts' x y=>w _ (q ts' x y)⟩
  ·exact h
 ·unfold a1z at h
  split at h
  ·obtain ⟨x,rfl,cx⟩:=a1Y c
   obtain ⟨a,ys,rfl,ea,ra⟩:=cx.lst
   rcases h with ⟨ns,rfl,hl,q⟩ | ⟨ts,k,rfl,hl,hk,hd,q⟩
   ·have ey:ys=ns.map V.int:=by
     have ra':Reps X.K M H ys (ns.map .int ++ []):=by simpa using ra
     obtain ⟨zs,e,r'⟩:=ra'.fore
     cases r'
     simpa using e
    subst ey
    exact .inl ⟨a,ns,rfl,SqL.of ea,hl,fun ms hp hs l hl=>q ms hp hs _ _ (a0F.new' hl) (a4C hl (Reps.ints _))⟩
   ·-- what each item is,by its place
    have go:∀ {ys:List V} {ts:List (List Int × List Dv)},Reps X.K M H ys (ts.map tI) -> ∃ its:List (SIt × List Dv),ys=its.map (fun t=>V.ref t.1.1)/\ts=its.map (fun t=>(t.1.2.1,t.2)) /\
      ∀ t ∈ its,H t.1.1=some (.tup (t.1.2.1.map V.int ++ t.1.2.2))/\Reps X.K M H t.1.2.2 t.2:=by
     intro ys ts r
     induction ts generalizing ys with
     | nil=>cases r; exact ⟨[],rfl,rfl,fun t ht=>by cases ht⟩
     | cons t ts ih=>
      cases r with
      | cons u r=>
       obtain ⟨its,e1,e2,e3⟩:=ih r
       cases u with
       | tup hb rb=>
        obtain ⟨zs,e,rz⟩:=rb.fore
        subst e
        refine ⟨((_,t.1,zs),t.2) :: its,by rw [e1]; rfl,by rw [e2]; rfl,fun y hy=>?_⟩
        rcases List.mem_cons.mp hy with rfl | hy
        ·exact ⟨hb,rz⟩
        ·exact e3 y hy
    obtain ⟨its,rfl,rfl,al⟩:=go ra
    refine .inr ⟨a,its.map (·.1),k,rfl,by rw [List.map_map]; exact SqL.of ea,by simpa using hl,fun t ht=>?_,?_,fun its' hp hs l hl=>?_⟩
    ·obtain ⟨u,hu,rfl⟩:=List.mem_map.mp ht
     exact ⟨SqT.of (al u hu).1,hk _ (List.mem_map.mpr ⟨u,hu,rfl⟩)⟩
    ·rw [List.pairwise_map] at hd ⊢
     exact hd
    ·-- bring the plain parts along
     obtain ⟨jts,hj,rfl⟩:=a7s hp rfl
     have rr:∀ jts:List (SIt × List Dv),(∀ t ∈ jts,t ∈ its)->Reps X.K M H (jts.map fun t=>V.ref t.1.1) ((jts.map fun t=>(t.1.2.1,t.2)).map tI):=by
      intro jts
      induction jts with
      | nil=>intro _; exact .nil
      | cons t r ih=>
       intro hm
       have ht:=al t (hm t (List.mem_cons_self ..))
       have one:Reps X.K M H (t.1.2.1.map V.int ++ t.1.2.2) (t.1.2.1.map .int ++ t.2):=(Reps.ints _).append ht.2
       exact .cons (.tup ht.1 one) (ih fun u hu=>hm u (List.mem_cons_of_mem _ hu))
     rw [List.map_map]
     show Q _ (upd H l (.lst (jts.map fun t=>V.ref t.1.1)))
     refine q (jts.map fun t=>(t.1.2.1,t.2)) (hj.map _) ?_ _ _ (a0F.new' hl) (a4C hl (rr jts fun t ht=>hj.mem_iff.mp ht))
     rw [List.pairwise_map] at hs ⊢
     exact hs
  ·exact h.elim
end
end Z
namespace Z
open PySem PySem.Spec PyProof.Rows L2
theorem pAdd_ii {i j:Int} {Q:R->Prop}:(a2Y (.int i) (.int j) Q)=(Q (.v (.int (i + j)))):=rfl
theorem pSub_ii {i j:Int} {Q:R->Prop}:(a8b (.int i) (.int j) Q)=(Q (.v (.int (i - j)))):=rfl
theorem pMul_ii {i j:Int} {Q:R->Prop}:(a4O (.int i) (.int j) Q)=(CMulG i j/\Q (.v (.int (i * j)))):=rfl
theorem pDiv_ii {i j:Int} {Q:R->Prop}:(pDiv (.int i) (.int j) Q)=((0 < j/\j < 2 ^ 200)/\Q (.v (.int (i / j)))):=rfl
theorem pDivG_ii {i j:Int} {Q:R->Prop}:(pDivG (.int i) (.int j) Q)=((j ≠ 0/\j.natAbs < 2 ^ 4000)/\Q (.v (.int (i.fdiv j)))):=rfl
theorem pMod_ii {i j:Int} {Q:R->Prop}:(a6a (.int i) (.int j) Q)=(0 < j/\Q (.v (.int (i % j)))):=rfl
theorem pModG_ii {i j:Int} {Q:R->Prop}:(pModG (.int i) (.int j) Q)=(j ≠ 0/\Q (.v (.int (i.fmod j)))):=rfl
theorem pPow_ii {i j:Int} {Q:R->Prop}:(pPow (.int i) (.int j) Q)=(CPow i j/\Q (.v (.int (i ^ j.toNat)))):=rfl
theorem pAdd_ll {xs ys:List Dv} {Q:R->Prop}:(a2Y (.lst xs) (.lst ys) Q)=((xs.length + ys.length<=LIM/\Q (.nw (.lst (xs ++ ys))))):=rfl
theorem pAdd_ss {x y:Str} {Q:R->Prop}:(a2Y (.str x) (.str y) Q)=((x.length + y.length<=LIM/\Q (.v (.str (x ++ y))))):=rfl
theorem pMul_li {xs:List Dv} {k:Int} {Q:R->Prop}:(a4O (.lst xs) (.int k) Q)=(((-(2 ^ 63)<=k/\k < 2 ^ 63/\xs.length * k.toNat<=LIM)/\Q (.nw (.lst (List.replicate k.toNat xs).flatten)))):=rfl
theorem pI2_ii {f:Int->Int->Bool} {i j:Int} {Q:R->Prop}:(pI2 f (.int i) (.int j) Q)=(Q (.v (.bl (f i j)))):=rfl
theorem pIsN_n {d:Dv} {Q:R->Prop}:(pIsN d .non Q)=(Q (.v (.bl (isN d)))):=rfl
theorem pNotN_n {d:Dv} {Q:R->Prop}:(pNotN d .non Q)=(Q (.v (.bl (!isN d)))):=rfl
theorem pIsB_b {d:Dv} {b:Bool} {Q:R->Prop}:(pIsB d (.bl b) Q)=(Q (.v (.bl (isB b d)))):=rfl
theorem pNotB_b {d:Dv} {b:Bool} {Q:R->Prop}:(pNotB d (.bl b) Q)=(Q (.v (.bl (!isB b d)))):=rfl
theorem pEq_ii {i j:Int} {Q:R->Prop}:(pEq (.int i) (.int j) Q)=(Q (.v (.bl (decide (i=j))))):=rfl
theorem pNe_ii {i j:Int} {Q:R->Prop}:(pNe (.int i) (.int j) Q)=(Q (.v (.bl (!decide (i=j))))):=rfl
theorem pEq_bl {x:Bool} {d:Dv} {Q:R->Prop}:(pEq (.bl x) d Q)=(((okD 8 (.bl x)=true/\okD 8 d=true)/\Q (.v (.bl (eqD (.bl x) d))))):=rfl
theorem pNe_bl {x:Bool} {d:Dv} {Q:R->Prop}:(pNe (.bl x) d Q)=(((okD 8 (.bl x)=true/\okD 8 d=true)/\Q (.v (.bl (!eqD (.bl x) d))))):=rfl
theorem pEq_tup {x:List Dv} {d:Dv} {Q:R->Prop}:(pEq (.tup x) d Q)=(((okD 8 (.tup x)=true/\okD 8 d=true)/\Q (.v (.bl (eqD (.tup x) d))))):=rfl
theorem pNe_tup {x:List Dv} {d:Dv} {Q:R->Prop}:(pNe (.tup x) d Q)=(((okD 8 (.tup x)=true/\okD 8 d=true)/\Q (.v (.bl (!eqD (.tup x) d))))):=rfl
theorem pEq_lst {x:List Dv} {d:Dv} {Q:R->Prop}:(pEq (.lst x) d Q)=(((okD 8 (.lst x)=true/\okD 8 d=true)/\Q (.v (.bl (eqD (.lst x) d))))):=rfl
theorem pNe_lst {x:List Dv} {d:Dv} {Q:R->Prop}:(pNe (.lst x) d Q)=(((okD 8 (.lst x)=true/\okD 8 d=true)/\Q (.v (.bl (!eqD (.lst x) d))))):=rfl
theorem pEq_str {x:Str} {d:Dv} {Q:R->Prop}:(pEq (.str x) d Q)=(((okD 8 (.str x)=true/\okD 8 d=true)/\Q (.v (.bl (eqD (.str x) d))))):=rfl
theorem pNe_str {x:Str} {d:Dv} {Q:R->Prop}:(pNe (.str x) d Q)=(((okD 8 (.str x)=true/\okD 8 d=true)/\Q (.v (.bl (!eqD (.str x) d))))):=rfl
theorem pEq_scr {x:List Int} {d:Dv} {Q:R->Prop}:(pEq (.scr x) d Q)=(((okD 8 (.scr x)=true/\okD 8 d=true)/\Q (.v (.bl (eqD (.scr x) d))))):=rfl
theorem pNe_scr {x:List Int} {d:Dv} {Q:R->Prop}:(pNe (.scr x) d Q)=(((okD 8 (.scr x)=true/\okD 8 d=true)/\Q (.v (.bl (!eqD (.scr x) d))))):=rfl
theorem pIx_l {xs:List Dv} {i:Int} {Q:R->Prop}:(pIx (.lst xs) (.int i) Q)=((match atI xs i with | some d=>Q (.v d) | none=>False)):=rfl
theorem pIx_t {xs:List Dv} {i:Int} {Q:R->Prop}:(pIx (.tup xs) (.int i) Q)=((match atI xs i with | some d=>Q (.v d) | none=>False)):=rfl
theorem pIx_s {ns:List Int} {i:Int} {Q:R->Prop}:(pIx (.scr ns) (.int i) Q)=((match atI ns i with | some n=>Q (.v (.int n)) | none=>False)):=rfl
theorem pSl_l {xs:List Dv} {lo hi:Option Int} {Q:R->Prop}:(pSl (.lst xs) lo hi Q)=(Q (.nw (.lst (cut xs lo hi)))):=rfl
theorem pSl_s {ns:List Int} {lo hi:Option Int} {Q:R->Prop}:(pSl (.scr ns) lo hi Q)=(Q (.nw (.lst ((cut ns lo hi).map .int)))):=rfl
theorem pSl_t {xs:List Dv} {lo hi:Option Int} {Q:R->Prop}:(pSl (.tup xs) lo hi Q)=((¬ (HT.sIx xs.length 0 lo=0/\HT.sIx xs.length xs.length hi=xs.length)/\Q (.v (.tup (cut xs lo hi))))):=rfl
theorem pLen_l {xs:List Dv} {Q:R->Prop}:(a3q [(.lst xs)] Q)=(Q (.v (.int xs.length))):=rfl
theorem pLen_t {xs:List Dv} {Q:R->Prop}:(a3q [(.tup xs)] Q)=(Q (.v (.int xs.length))):=rfl
theorem pLen_s {ns:List Int} {Q:R->Prop}:(a3q [.scr ns] Q)=(Q (.v (.int ns.length))):=rfl
theorem pAbs_i {i:Int} {Q:R->Prop}:(pAbs [.int i] Q)=(Q (.v (.int (if i < 0 then -i else i)))):=rfl
theorem pMin_i {i j:Int} {Q:R->Prop}:(pMin2 [.int i,.int j] Q)=(Q (.v (.int (if j < i then j else i)))):=rfl
theorem pMax_i {i j:Int} {Q:R->Prop}:(pMax2 [.int i,.int j] Q)=(Q (.v (.int (if j > i then j else i)))):=rfl
theorem pTuple_l {xs:List Dv} {Q:R->Prop}:(a2A [.lst xs] Q)=(Q (.v (.tup xs))):=rfl
theorem pTuple_t {xs:List Dv} {Q:R->Prop}:(a2A [.tup xs] Q)=(Q (.v (.tup xs))):=rfl
theorem pList_l {xs:List Dv} {Q:R->Prop}:(a5P [.lst xs] Q)=(Q (.nw (.lst xs))):=rfl
theorem pList_t {xs:List Dv} {Q:R->Prop}:(a5P [.tup xs] Q)=(Q (.nw (.lst xs))):=rfl
theorem pAll_l {ds:List Dv} {Q:R->Prop}:(pAll [.lst ds] Q)=((∃ bs:List Bool,ds=bs.map .bl/\Q (.v (.bl (bs.all _root_.id))))):=rfl
theorem pSum_l {ds:List Dv} {Q:R->Prop}:(pSum [.lst ds] Q)=((∃ ns:List Int,ds=ns.map .int/\Q (.v (.int ns.sum)))):=rfl
theorem Rd_v {d:Dv}:(R.d (.v d))=(d):=rfl
theorem Rd_n {d:Dv}:(R.d (.nw d))=(d):=rfl
theorem Rd_o {a:Addr} {d:Dv}:(R.d (.ow a d))=(d):=rfl
theorem Ro_v {d:Dv}:(R.out (.v d))=(.v d):=rfl
theorem Ro_n {d:Dv}:(R.out (.nw d))=(.nw d):=rfl
theorem Ro_o {a:Addr} {d:Dv}:(R.out (.ow a d))=(.nw d):=rfl
theorem Rf_v {d:Dv}:(R.free (.v d))=(true):=rfl
theorem Rf_n {d:Dv}:(R.free (.nw d))=(true):=rfl
theorem Rf_o {a:Addr} {d:Dv}:(R.free (.ow a d))=(false):=rfl
theorem Rl_v {d:Dv}:(R.flat (.v d))=(a4Z d):=rfl
theorem Rl_n {d:Dv}:(R.flat (.nw d))=(flatO d):=rfl
theorem Rl_o {a:Addr} {d:Dv}:(R.flat (.ow a d))=(false):=rfl
theorem eqD_bb {a b:Bool}:(eqD (.bl a) (.bl b))=((a == b)):=by cases a <;> cases b <;> simp [eqD,pyD,PyData.eqv]
theorem a2L {ρ0:List Sl} {g:TGp} {tt:TTp} {te:TEp} {acc:List Dv} {Q:R->Prop}:(a1T ρ0 g tt te [] acc Q)=(Q (.nw (.lst acc))):=rfl
theorem a4h {ρ0:List Sl} {g:TGp} {tt:TTp} {te:TEp} {d:Dv} {r acc:List Dv} {Q:R->Prop}:(a1T ρ0 g tt te (d :: r) acc Q)=((g d ρ0 fun ρ1=>tt ρ1 fun b=>if b=true then te ρ1 fun v=>(v.free=true/\acc.length < LIM)/\a1T ρ0 g tt te r (acc ++ [v.d]) Q else a1T ρ0 g tt te r acc Q)):=rfl
theorem a4K {α:Type} {xs:List α} {i:Int} (h0:0<=i) (h1:i < xs.length):atI xs i=xs[i.toNat]?:=by
 unfold atI ixN
 rw [if_pos h0,if_pos h1]
 rfl
theorem atI_0 {α:Type} {x:α} {r:List α}:atI (x :: r) 0=some x:=by rw [a4K (by decide) (by simp <;> ac_rfl)]; rfl
theorem atI_1 {α:Type} {x y:α} {r:List α}:atI (x :: y :: r) 1=some y:=by rw [a4K (by decide) (by simp <;> ac_rfl)]; rfl
theorem atI_2 {α:Type} {x y z:α} {r:List α}:atI (x :: y :: z :: r) 2=some z:=by rw [a4K (by decide) (by simp <;> ac_rfl)]; rfl
theorem atI_3 {α:Type} {x y z w:α} {r:List α}:atI (x :: y :: z :: w :: r) 3=some w:=by rw [a4K (by decide) (by simp <;> ac_rfl)]; rfl
theorem atI_4 {α:Type} {x y z w v:α} {r:List α}:atI (x :: y :: z :: w :: v :: r) 4=some v:=by rw [a4K (by decide) (by simp <;> ac_rfl)]; rfl
theorem isB_bb {b c:Bool}:isB b (.bl c)=(c == b):=rfl
theorem isB_int {b:Bool} {i:Int}:isB b (.int i)=false:=rfl
theorem isN_n:isN .non=true:=rfl
theorem isN_b {b:Bool}:isN (.bl b)=false:=rfl
theorem isN_i {i:Int}:isN (.int i)=false:=rfl
theorem isN_s {i:Str}:isN (.str i)=false:=rfl
theorem isN_t {i:List Dv}:isN (.tup i)=false:=rfl
theorem isN_l {i:List Dv}:isN (.lst i)=false:=rfl
theorem isN_o {C:Addr} {i:List (Str × Dv)}:isN (.obj C i)=false:=rfl
theorem truD_b {b:Bool}:truD (.bl b)=some b:=rfl
theorem truD_n:truD .non=some false:=rfl
theorem truD_i {i:Int}:truD (.int i)=some (i != 0):=rfl
theorem truD_l {xs:List Dv}:truD (.lst xs)=some (!xs.isEmpty):=rfl
theorem truD_t {xs:List Dv}:truD (.tup xs)=some (!xs.isEmpty):=rfl
theorem truD_k {xs:List (Key × Dv)}:truD (.dik xs)=some (!xs.isEmpty):=rfl
theorem truD_s {xs:List Int}:truD (.scr xs)=some (!xs.isEmpty):=rfl
theorem ixN_10:ixN 1 0=some 0:=rfl
theorem ixN_20:ixN 2 0=some 0:=rfl
theorem ixN_21:ixN 2 1=some 1:=rfl
theorem ixN_30:ixN 3 0=some 0:=rfl
theorem ixN_31:ixN 3 1=some 1:=rfl
theorem ixN_32:ixN 3 2=some 2:=rfl
theorem ixN_40:ixN 4 0=some 0:=rfl
theorem ixN_41:ixN 4 1=some 1:=rfl
theorem ixN_42:ixN 4 2=some 2:=rfl
theorem ixN_43:ixN 4 3=some 3:=rfl
theorem ixN_50:ixN 5 0=some 0:=rfl
theorem ixN_51:ixN 5 1=some 1:=rfl
theorem ixN_52:ixN 5 2=some 2:=rfl
theorem ixN_53:ixN 5 3=some 3:=rfl
theorem ixN_54:ixN 5 4=some 4:=rfl
theorem a1K {lo:Int}:a0W lo 0=[]:=rfl
theorem a1i {lo:Int} {n:Nat}:a0W lo (n + 1)=.int lo :: a0W (lo + 1) n:=by
 unfold a0W
 rw [List.range_succ_eq_map,List.map_cons,List.map_map]
 congr 1
 ·simp
 ·apply List.map_congr_left
  intro k _
  show Dv.int _=Dv.int _
  congr 1
  show lo + ((k + 1:Nat):Int)=lo + 1 + k
  ac_rfl
theorem pIAdd_ii {i j:Int} {Q:R->Prop}:(pIAdd (.int i) (.int j) Q)=(Q (.v (.int (i + j)))):=rfl
theorem pISub_ii {i j:Int} {Q:R->Prop}:(pISub (.int i) (.int j) Q)=(Q (.v (.int (i - j)))):=rfl
theorem pIMul_ii {i j:Int} {Q:R->Prop}:(pIMul (.int i) (.int j) Q)=(CMulG i j/\Q (.v (.int (i * j)))):=rfl
theorem cut_from {α:Type} {xs:List α} {k:Int} (h0:0<=k):cut xs (some k) none=xs.drop k.toNat:=by
 unfold cut
 have e:HT.sIx xs.length 0 (some k)=min k.toNat xs.length:=by show (if k < 0 then _ else _)=_; rw [if_neg (by ac_rfl)]
 rw [e,HT.sIx_none]
 rcases Nat.le_total k.toNat xs.length with h | h
 ·rw [Nat.min_eq_left h]
  exact List.take_of_length_le (by rw [List.length_drop]; exact Nat.le_refl _)
 ·rw [Nat.min_eq_right h,List.drop_of_length_le (Nat.le_refl _),List.drop_of_length_le h,List.take_nil]
theorem cut_to {α:Type} {xs:List α} {k:Int} (h0:0<=k):cut xs none (some k)=xs.take k.toNat:=by
 unfold cut
 have e:HT.sIx xs.length xs.length (some k)=min k.toNat xs.length:=by show (if k < 0 then _ else _)=_; rw [if_neg (by ac_rfl)]
 rw [e,HT.sIx_none,List.drop_zero,Nat.sub_zero]
 rcases Nat.le_total k.toNat xs.length with h | h
 ·rw [Nat.min_eq_left h]
 ·rw [Nat.min_eq_right h,List.take_of_length_le (Nat.le_refl _),List.take_of_length_le h]
theorem startM_c {a:Addr} {N:List Str} {d:Dv} {ds:List Dv}:startM a N (d :: ds)=.own a d :: (ds.map .v ++ List.replicate (N.length - (ds.length + 1)) .un):=rfl
theorem pShl_ii {i j:Int} {Q:R->Prop}:(pShl (.int i) (.int j) Q)=(CPow i j/\Q (.v (.int (i * 2 ^ j.toNat)))):=rfl
theorem a7z {ns:List Int} {Q:R->Prop} (h:ns.length < 64) (q:∀ ms:List Int,ms.Perm ns->ms.Pairwise (· <= ·)->Q (.nw (.lst (ms.map .int)))):a1z [.lst (ns.map .int)] Q:=.inl ⟨ns,rfl,h,q⟩
theorem a7y {ts:List (List Int × List Dv)} {k:Nat} {Q:R->Prop} (h:ts.length < 64) (hk:∀ t ∈ ts,t.1.length=k + 1) (hd:ts.Pairwise (fun t u=>t.1 ≠ u.1))
  (q:∀ ts':List (List Int × List Dv),ts'.Perm ts->ts'.Pairwise (fun t u=>a6n t.1 u.1=true)->Q (.nw (.lst (ts'.map tI)))):a1z [.lst (ts.map tI)] Q:=.inr ⟨ts,k,rfl,h,hk,hd,q⟩
theorem kD_inj:∀ {a b:List Key},a.map kD=b.map kD->a=b
 | [],[],_=>rfl
 | [],_ :: _,h=>by cases h
 | _ :: _,[],h=>by cases h
 | a :: r,b :: t,h=>by
  rw [List.map_cons,List.map_cons] at h
  injection h with h1 h2
  have e:a=b:=by cases a <;> cases b <;> first | (injection h1 with h1; rw [h1]) | cases h1
  rw [e,kD_inj h2]
theorem pIx_d2 {kvs:List (List Key × Dv)} {a b:Int} {Q:R->Prop}:(pIx (.dit kvs) (.tup [.int a,.int b]) Q)=(match kvs.find? (fun kv=>decide (kv.1=[Sum.inl a,Sum.inl b])) with | some kv=>Q (.v kv.2) | none=>False):=by
 apply propext
 constructor
 ·rintro ⟨k,e,h⟩
  have:k=[Sum.inl a,Sum.inl b]:=kD_inj (e.symm.trans rfl)
  subst this
  exact h
 ·exact fun h=>⟨[Sum.inl a,Sum.inl b],rfl,h⟩
theorem zc:(type_of% @beq_self_eq_true.{0})/\(type_of% @List.getElem?_cons_zero.{0})/\(type_of% @List.getElem?_cons_succ.{0})/\(type_of% @List.set_cons_zero.{0})/\(type_of% @List.set_cons_succ.{0})/\(type_of% @List.map_cons.{0,0})/\(type_of% @List.map_nil.{0,0})/\(type_of% @List.cons_append.{0})/\(type_of% @List.nil_append.{0})/\(type_of% @List.append_nil.{0})/\(type_of% @List.length_cons.{0})/\(type_of% @List.length_nil.{0})/\(type_of% @List.replicate_succ.{0})/\(type_of% @List.replicate_zero.{0})/\(type_of% @List.all_cons.{0})/\(type_of% @List.all_nil.{0})/\(type_of% @Option.getD_some.{0})/\(type_of% @Bool.and_true)/\(type_of% @Bool.true_and)/\(type_of% @if_true.{1})/\(type_of% @Bool.false_eq_true)/\(type_of% @if_false.{1})/\(type_of% @true_and)/\(type_of% @and_true)/\(type_of% @true_or)/\(type_of% @decide_eq_true_eq)/\(type_of% @decide_true)/\(type_of% @decide_false)/\(type_of% @Bool.not_true)/\(type_of% @Bool.not_false)/\(type_of% @List.not_mem_nil.{0})/\(type_of% @false_imp_iff)/\(type_of% @implies_true.{1}):=
 ⟨@beq_self_eq_true.{0},@List.getElem?_cons_zero.{0},@List.getElem?_cons_succ.{0},@List.set_cons_zero.{0},@List.set_cons_succ.{0},@List.map_cons.{0,0},@List.map_nil.{0,0},@List.cons_append.{0},@List.nil_append.{0},@List.append_nil.{0},@List.length_cons.{0},@List.length_nil.{0},@List.replicate_succ.{0},@List.replicate_zero.{0},@List.all_cons.{0},@List.all_nil.{0},@Option.getD_some.{0},@Bool.and_true,@Bool.true_and,@if_true.{1},@Bool.false_eq_true,@if_false.{1},@true_and,@and_true,@true_or,@decide_eq_true_eq,@decide_true,@decide_false,@Bool.not_true,@Bool.not_false,@List.not_mem_nil.{0},@false_imp_iff,@implies_true.{1}⟩
theorem zt:(type_of% @eDT.eq_1)/\(type_of% @sPut.eq_1)/\(type_of% @a7k.eq_1)/\(type_of% @sReverse.eq_1)/\(type_of% @pIx_d2)/\(type_of% @eTR1.eq_1)/\(type_of% @pShl_ii)/\(type_of% @sExt.eq_1)/\(type_of% @sAttr.eq_1)/\(type_of% @eMake.eq_1)/\(type_of% @sMov.eq_1)/\(type_of% @a6M.eq_1)/\(type_of% @eFld.eq_1)/\(type_of% @a4k.eq_1)/\(type_of% @startM_c)/\(type_of% @sAsg.eq_1)/\(type_of% @pIAdd_ii)/\(type_of% @pISub_ii)/\(type_of% @pIMul_ii)/\(type_of% @iRange3.eq_1)/\(type_of% @iEnumP.eq_1)/\(type_of% @iZipP.eq_1)/\(type_of% @eLR1.eq_1)/\(type_of% @eLR2.eq_1)/\(type_of% @a0z.eq_1)/\(type_of% @a1e.eq_1)/\(type_of% @sBreak.eq_1)/\(type_of% @sCont.eq_1)/\(type_of% @a3N.eq_1)/\(type_of% @sDrop.eq_1)/\(type_of% @a1W.eq_1)/\(type_of% @sRetN.eq_1)/\(type_of% @sIf.eq_1)/\(type_of% @a1l.eq_1)/\(type_of% @a5r.eq_1)/\(type_of% @sFrz.eq_1)/\(type_of% @freeze.eq_1)/\(type_of% @sAug.eq_1)/\(type_of% @sApp.eq_1)/\(type_of% @sSetI.eq_1)/\(type_of% @a6I.eq_1)/\(type_of% @a0d.eq_1)/\(type_of% @eC.eq_1)/\(type_of% @a0a.eq_1)/\(type_of% @a0i.eq_1)/\(type_of% @eOp.eq_1)/\(type_of% @a0y.eq_1)/\(type_of% @eAnd.eq_1)/\(type_of% @eOr.eq_1)/\(type_of% @a7W.eq_1)/\(type_of% @a6N.eq_1)/\(type_of% @eOrV.eq_1)/\(type_of% @eNotV.eq_1)/\(type_of% @eIf.eq_1)/\(type_of% @a2f.eq_1)/\(type_of% @a5a.eq_1)/\(type_of% @eNeg.eq_1)/\(type_of% @a7V.eq_1)/\(type_of% @a0t.eq_1)/\(type_of% @back.eq_1)/\(type_of% @eCB.eq_1)/\(type_of% @eIsi.eq_1)/\(type_of% @a3s.eq_1)/\(type_of% @a7Y.eq_1)/\(type_of% @eSl.eq_1)/\(type_of% @ePart.eq_1)/\(type_of% @a4e.eq_1)/\(type_of% @a6L.eq_1)/\(type_of% @a2e.eq_1)/\(type_of% @a7J.eq_1)/\(type_of% @gN.eq_1)/\(type_of% @gT.eq_1)/\(type_of% @a0m.eq_1)/\(type_of% @a6F.eq_1)/\(type_of% @pAdd_ii)/\(type_of% @pSub_ii)/\(type_of% @pMul_ii)/\(type_of% @pDiv_ii)/\(type_of% @pDivG_ii)/\(type_of% @pMod_ii)/\(type_of% @pModG_ii)/\(type_of% @pPow_ii)/\(type_of% @pAdd_ll)/\(type_of% @pAdd_ss)/\(type_of% @pMul_li)/\(type_of% @pI2_ii)/\(type_of% @pIsN_n)/\(type_of% @pNotN_n)/\(type_of% @pIsB_b)/\(type_of% @pNotB_b)/\(type_of% @pEq_ii)/\(type_of% @pNe_ii)/\(type_of% @pEq_bl)/\(type_of% @pNe_bl)/\(type_of% @pEq_tup)/\(type_of% @pNe_tup)/\(type_of% @pEq_lst)/\(type_of% @pNe_lst)/\(type_of% @pEq_str)/\(type_of% @pNe_str)/\(type_of% @pEq_scr)/\(type_of% @pNe_scr)/\(type_of% @pIx_l)/\(type_of% @pIx_t)/\(type_of% @pIx_s)/\(type_of% @pSl_l)/\(type_of% @pSl_s)/\(type_of% @pSl_t)/\(type_of% @pLen_l)/\(type_of% @pLen_t)/\(type_of% @pLen_s)/\(type_of% @pAbs_i)/\(type_of% @pMin_i)/\(type_of% @pMax_i)/\(type_of% @pTuple_l)/\(type_of% @pTuple_t)/\(type_of% @pList_l)/\(type_of% @pList_t)/\(type_of% @pAll_l)/\(type_of% @pSum_l)/\(type_of% @a2L)/\(type_of% @a4h)/\(type_of% @a2Z.eq_1):=
 ⟨@eDT.eq_1,@sPut.eq_1,@a7k.eq_1,@sReverse.eq_1,@pIx_d2,@eTR1.eq_1,@pShl_ii,@sExt.eq_1,@sAttr.eq_1,@eMake.eq_1,@sMov.eq_1,@a6M.eq_1,@eFld.eq_1,@a4k.eq_1,@startM_c,@sAsg.eq_1,@pIAdd_ii,@pISub_ii,@pIMul_ii,@iRange3.eq_1,@iEnumP.eq_1,@iZipP.eq_1,@eLR1.eq_1,@eLR2.eq_1,@a0z.eq_1,@a1e.eq_1,@sBreak.eq_1,@sCont.eq_1,@a3N.eq_1,@sDrop.eq_1,@a1W.eq_1,@sRetN.eq_1,@sIf.eq_1,@a1l.eq_1,@a5r.eq_1,@sFrz.eq_1,@freeze.eq_1,@sAug.eq_1,@sApp.eq_1,@sSetI.eq_1,@a6I.eq_1,@a0d.eq_1,@eC.eq_1,@a0a.eq_1,@a0i.eq_1,@eOp.eq_1,@a0y.eq_1,@eAnd.eq_1,@eOr.eq_1,@a7W.eq_1,@a6N.eq_1,@eOrV.eq_1,@eNotV.eq_1,@eIf.eq_1,@a2f.eq_1,@a5a.eq_1,@eNeg.eq_1,@a7V.eq_1,@a0t.eq_1,@back.eq_1,@eCB.eq_1,@eIsi.eq_1,@a3s.eq_1,@a7Y.eq_1,@eSl.eq_1,@ePart.eq_1,@a4e.eq_1,@a6L.eq_1,@a2e.eq_1,@a7J.eq_1,@gN.eq_1,@gT.eq_1,@a0m.eq_1,@a6F.eq_1,@pAdd_ii,@pSub_ii,@pMul_ii,@pDiv_ii,@pDivG_ii,@pMod_ii,@pModG_ii,@pPow_ii,@pAdd_ll,@pAdd_ss,@pMul_li,@pI2_ii,@pIsN_n,@pNotN_n,@pIsB_b,@pNotB_b,@pEq_ii,@pNe_ii,@pEq_bl,@pNe_bl,@pEq_tup,@pNe_tup,@pEq_lst,@pNe_lst,@pEq_str,@pNe_str,@pEq_scr,@pNe_scr,@pIx_l,@pIx_t,@pIx_s,@pSl_l,@pSl_s,@pSl_t,@pLen_l,@pLen_t,@pLen_s,@pAbs_i,@pMin_i,@pMax_i,@pTuple_l,@pTuple_t,@pList_l,@pList_t,@pAll_l,@pSum_l,@a2L,@a4h,@a2Z.eq_1⟩
theorem zo:(type_of% @Rd_v)/\(type_of% @Rd_n)/\(type_of% @Rd_o)/\(type_of% @Ro_v)/\(type_of% @Ro_n)/\(type_of% @Ro_o)/\(type_of% @Rf_v)/\(type_of% @Rf_n)/\(type_of% @Rf_o)/\(type_of% @Rl_v)/\(type_of% @Rl_n)/\(type_of% @Rl_o)/\(type_of% @eqD_bb)/\(type_of% @a0Q)/\(type_of% @a0T)/\(type_of% @isB_bb)/\(type_of% @isB_int)/\(type_of% @isN_n)/\(type_of% @isN_b)/\(type_of% @isN_i)/\(type_of% @isN_s)/\(type_of% @isN_t)/\(type_of% @isN_l)/\(type_of% @isN_o)/\(type_of% @truD_b)/\(type_of% @truD_n)/\(type_of% @truD_i)/\(type_of% @truD_l)/\(type_of% @truD_t)/\(type_of% @truD_k)/\(type_of% @truD_s)/\(type_of% @atI_0)/\(type_of% @atI_1)/\(type_of% @atI_2)/\(type_of% @atI_3)/\(type_of% @atI_4)/\(type_of% @ixN_10)/\(type_of% @ixN_20)/\(type_of% @ixN_21)/\(type_of% @ixN_30)/\(type_of% @ixN_31)/\(type_of% @ixN_32)/\(type_of% @ixN_40)/\(type_of% @ixN_41)/\(type_of% @ixN_42)/\(type_of% @ixN_43)/\(type_of% @ixN_50)/\(type_of% @ixN_51)/\(type_of% @ixN_52)/\(type_of% @ixN_53)/\(type_of% @ixN_54):=
 ⟨@Rd_v,@Rd_n,@Rd_o,@Ro_v,@Ro_n,@Ro_o,@Rf_v,@Rf_n,@Rf_o,@Rl_v,@Rl_n,@Rl_o,@eqD_bb,@a0Q,@a0T,@isB_bb,@isB_int,@isN_n,@isN_b,@isN_i,@isN_s,@isN_t,@isN_l,@isN_o,@truD_b,@truD_n,@truD_i,@truD_l,@truD_t,@truD_k,@truD_s,@atI_0,@atI_1,@atI_2,@atI_3,@atI_4,@ixN_10,@ixN_20,@ixN_21,@ixN_30,@ixN_31,@ixN_32,@ixN_40,@ixN_41,@ixN_42,@ixN_43,@ixN_50,@ixN_51,@ixN_52,@ixN_53,@ixN_54⟩
end Z
namespace Sf
structure Rw where
 x:Int
 y:Int
 m:Int
def Rw.up (r:Rw):Prop:=0 < r.y \/ (r.y=0/\0 < r.x)
noncomputable def crs (a b:Rw):Int:=a.x * b.y - b.x * a.y
noncomputable def place (v:Rw) (rows:List Rw):Nat:=rows.countP fun r=>decide (0 < crs r v)
def Srt (rows:List Rw):Prop:=rows.Pairwise fun a b=>0 < crs a b
structure Pre (s:Int) (rows:List Rw):Prop where
 srt:Srt rows
 ok:∀ r ∈ rows,r.up /\ -s<=r.x/\r.x<=s/\r.y<=s/\1<=r.m
noncomputable def many (rows:List Rw):Int:=(rows.map (·.m)).sum
structure Good (rows:List Rw):Prop where
 lo:2<=rows.length
 hi:rows.length<=6
 srt:Srt rows
 ok:∀ r ∈ rows,r.up /\ -999999999999<=r.x/\r.x<=999999999999/\r.y<=999999999999/\1<=r.m
 tot:many rows<=12
noncomputable def a0K:Nat->List Rw->List Int
 | _,[]=>[]
 | k,r :: rs=>List.replicate r.m.toNat (k:Int) ++ a0K (k + 1) rs
noncomputable abbrev a0l (rows:List Rw):List Int:=a0K 0 rows
end Sf
namespace L2
open PySem PySem.Spec PyProof.Rows
section
variable {D:Ends} {σ:St} {H:Hp} {Q:VK} {t u:TS} {te ta tb tc:TE} {g:TG} {K:W.Frag}
end
end L2
namespace Z
open PySem PySem.Spec PyProof.Rows L2
theorem start_low {K:W.Frag} {H:Hp} {a:Addr} {ns:List Int} {sp:Fn} (h:∀ Q:R->Prop,Q (.v (.bl true))->sp [.scr ns] Q) (hO:Only H) (hT:TabOk K H) (hS:SqL K H a (ns.map V.int)):low K sp [.ref a] H (fun v _=>v=.bl true) (fun _ _ _=>False):=by
 refine ⟨fun _=>False,[.scr ns],⟨fun _ z=>z.elim,hT⟩,.cons (.scr ?_) .nil,h _ fun x H' S r=>?_⟩
 ·rcases hS with (h | h) | h
  ·rcases hO a with z | ⟨o,xs,z⟩
   ·rw [z] at h; cases h
   ·rw [z] at h; cases h
  ·exact .inl h
  ·exact .inr h
 ·have r':Rep K (fun _=>False) H' x (.bl true):=r
  cases r'
  rfl
end Z
namespace L2
open PySem PySem.Spec PyProof.Rows
section
variable {prog:Program} {w:World} {A:Around} {E:Value->Shared->Prop} {s:Shared}
noncomputable abbrev grown (h:Heap) (xs:List Value):Heap:=(h.push (seqObj "list" #[] 0)).update h.objs.size (Obj.mapSeq (· ++ xs.toArray))
theorem collect_tup {t:Addr} {xs:List Value} {P:List Value->Shared->Prop} (ht:IsTup s.heap t xs.toArray) (line:xs.length<=sizeLine) (k:P xs { s with heap:=grown s.heap xs }):wpAny (model prog w) A (collect (.ref t)) P E s:=by
 obtain ⟨ob,get,cl,m,dat⟩:=ht
 have new:(s.heap.push (seqObj "list" #[] 0)).get? s.heap.objs.size=some (seqObj "list" #[] 0):=Heap.get?_push_size s.heap rfl
 have old:=Heap.get?_push_of_some (seqObj "list" #[] 0) get
 have room:((#[]:Array Value) ++ xs.toArray).size<=sizeLine + 1:=by
  rw [Array.size_append,List.size_toArray]
  exact Nat.le_trans (Nat.le_of_eq (Nat.zero_add _)) (Nat.le_succ_of_le line)
 have whole:((#[]:Array Value) ++ xs.toArray).toList=xs:=by simp
 have tuple:(Value.type "tuple" == Value.type "tuple")=true:=rfl
 unfold collect
 apply wpAny_bind
 apply wpAny_runValue
 apply codeAny_builtin entry_proto_collect'
 show wpAny _ _ (newList [] >>= fun acc=>again (.builtin "list.__iadd__" ⟨[acc,.ref t],[]⟩)) _ _ s
 apply wpAny_bind
 refine wpAny_newList ?_ (Nat.zero_le _)
 apply wpAny_pure
 refine ⟨Code.quiet_builtin _ (by decide +kernel),?_⟩
 apply codeAny_builtin entry_list_iadd'
 show wpAny _ _ (Builtin.List.listExtendWith (Value.ref s.heap.objs.size) (Value.ref t) (Value.ref s.heap.objs.size)) _ _ ({ s with heap:=s.heap.push (seqObj "list" #[] 0) }:Shared)
 delta Builtin.List.listExtendWith
 apply wpAny_bind
 refine wpAny_typeOf (T:="tuple") ⟨ob,old,cl⟩ ?_
 rw [if_pos (by simp [tuple])]
 apply wpAny_bind
 refine listItems_at old dat ?_
 apply wpAny_bind
 refine listItems_at new rfl ?_
 rw [if_neg (fun z=>by simp at z)]
 apply wpAny_bind
 refine listUpdate_at new rfl ?_ (Nat.zero_le _) room
 apply wpAny_pure
 show wpAny (model prog w) A (load s.heap.objs.size >>= fun o=>match o.data with
  | .seq ys _=>pure ys.toList
  | _=>unsupported "internal:collect") P E ({ s with heap:=grown s.heap xs }:Shared)
 apply wpAny_bind
 refine wpAny_load (get?_update_seq new (· ++ xs.toArray)) ?_
 apply wpAny_pure
 rw [whole]
 exact k
theorem sorted_tupI {t:Addr} {xs:List Value} {ks:List Int} {P:Value->Shared->Prop} (ht:IsTup s.heap t xs.toArray) (num:IntsAre xs ks) (few:xs.length < 64)
  (k:∀ (ys:Array Value) (ms:List Int),IntsAre ys.toList ms->ms.Perm ks->ms.Pairwise (· <= ·)->P (.ref (s.heap.objs.size + 1)) { s with heap:=sortedAll s.heap xs ys }):
  wpAny (model prog w) A (call (Value.builtin "sorted") [Value.ref t]) P E s:=by
 have line:xs.length<=sizeLine:=Nat.le_trans (Nat.le_of_lt few) (by rw [sizeLine_eq]; decide)
 have sz:(grown s.heap xs).objs.size=s.heap.objs.size + 1:=(Heap.size_update ..).trans (size_push' _ _)
 have mine:((grown s.heap xs).push (seqObj "list" xs.toArray 0)).get? (s.heap.objs.size + 1)=some (seqObj "list" xs.toArray 0):=sz ▸ Heap.get?_push_size (grown s.heap xs) rfl
 apply Calls.call_function_entry kind_sorted plain_sorted entry_sorted (args_sorted1 _)
 delta Builtin.«sorted»
 refine wpAny_bind (m:=checkCount "sorted" 1 1 _) (wpAny_pure (wpAny_bind (collect_tup ht line (wpAny_bind (wpAny_newList ?_ line)))))
 show wpAny _ _ _ _ _ ({ s with heap:=(grown s.heap xs).push (seqObj "list" xs.toArray 0) }:Shared)
 rw [sz]
 refine wpAny_bind (wpAny_holding (wpAny_call_entry slot_list_sort ⟨_,mine,rfl⟩ entry_list_sort (list_sort_tree mine num few fun ys ms b1 b2 b3=>?_) (args_list_sort _)))
 exact ⟨_,rfl,wpAny_pure ⟨_,rfl,k ys ms b1 b2 b3⟩⟩
end
section
variable {X:Cx}
theorem call_sortedU:a3v X (.builtin "sorted") (fun xs H Q=>∃ (p:Addr) (ns:List Int),xs=[.ref p]/\SqT X.K H p (ns.map V.int)/\ns.length < 64 /\ ∀ ms:List Int,ms.Perm ns->ms.Pairwise (· <= ·) -> ∀ l,H l=none->Q (.ref l) (upd H l (.lst (ms.map V.int)))):=by
 intro pins s σ H xs us Q I r h
 obtain ⟨p,ns,rfl,hl,h64,q⟩:=h
 obtain ⟨u,rfl,ru⟩:=a4Y r
 cases ru
 obtain ⟨vs,rv,pl,hz⟩:=I.tuple hl
 have ia:=a6p rv
 refine sorted_tupI pl ia (by rw [ia.length]; exact h64) fun out ms hi hp hs=>?_
 obtain ⟨c,at1⟩:=sortedAll_at s.heap vs out
 have back:∀ {us:List Value} {ns:List Int},IntsAre us ns->a1w (ns.map V.int) us:=fun h=>by
  induction h with
  | nil=>exact .nil
  | cons a t _ ih=>exact .cons ⟨t,rfl⟩ ih
 have ea:out.toList.toArray=out:=by cases out; rfl
 have hle:(ms.map V.int).length<=sizeLine:=by rw [sizeLine_eq,List.length_map,hp.length_eq]; ac_rfl
 exact ⟨.ref (s.heap.objs.size + 1),_,I.laid (t':=s.toks) (fun b o e=>sortedAll_old e) (Nat.le_succ _) (show a2a X.prog X.w _ _ _ (.lst _) from ⟨hle,out.toList,c,back hi,by rw [ea]; exact at1⟩),rfl,q ms hp hs _ (I.hok.fresh (Nat.le_succ _))⟩
def rCatU (K:W.Frag):R2:=fun x y H Q=>∃ a b xs ys,x=.ref a/\y=.ref b/\SqT K H a xs/\SqT K H b ys/\xs.length + ys.length<=sizeLine /\
 (xs=[]->Q (.ref b) H)/\(xs ≠ []->ys=[]->Q (.ref a) H)/\(xs ≠ []->ys ≠ [] -> ∀ p,H p=none->Q (.ref p) (upd H p (.tup (xs ++ ys))))
theorem op_catU:OpR X (binaryOp .Add) (rCatU X.K):=by
 intro pins s σ H x y v u Q I rx ry h
 obtain ⟨a,b,xs,ys,rfl,rfl,ha,hb,hz,q0,q1,q2⟩:=h
 by_cases hx:xs=[]
 ·cases rx
  cases ry
  obtain ⟨its,r1,p1,_⟩:=I.tuple ha
  obtain ⟨its2,r2,p2,_⟩:=I.tuple hb
  have hv:=r1.nil_iff.mpr hx
  obtain ⟨⟨cls,dd,data,sl⟩,ho,hc,n,hd⟩:=id p1
  obtain ⟨⟨cls2,dd2,data2,sl2⟩,ho2,hc2,n2,hd2⟩:=id p2
  simp only at hc hd hc2 hd2
  subst hc hd hc2 hd2
  exact concat_meets ⟨_,ho,rfl⟩ ⟨_,ho2,rfl⟩ noFill_tuple_add seq_tuple_add PySem.F.slot_tuple_add PySem.F.entry_tuple_add (PySem.F.args_tuple_add_2 _ _)
   (tuple_addW0 a b its.toArray its2.toArray n n2 dd dd2 sl sl2 (by simp [hv])) ⟨ho,ho2,.ref b,H,I,rfl,q0 hx⟩
 ·exact op_catT pins s σ H _ _ v u Q I rx ry ⟨a,b,xs,ys,rfl,rfl,ha,hb,hx,hz,q1 hx,q2 hx⟩
end
end L2
namespace Z
open PySem PySem.Spec PyProof.Rows L2
section
variable {X:Cx}
def a4N:List Dv->(R->Prop)->Prop
 | [.tup xs],Q=>∃ ns:List Int,xs=ns.map .int/\ns.length < 64 /\ ∀ ms:List Int,ms.Perm ns->ms.Pairwise (· <= ·)->Q (.nw (.lst (ms.map .int)))
 | _,_=>False
theorem a8H:a6S X (.builtin "sorted") a4N:=by
 refine ⟨fun ds Q Q' w h=>?_,_,call_sortedU,fun M O H xs ds Q c h=>?_⟩
 ·unfold a4N at *
  split at h
  ·obtain ⟨ns,a,b,q⟩:=h
   exact ⟨ns,a,b,fun ms x y=>w _ (q ms x y)⟩
  ·exact h
 ·unfold a4N at h
  split at h
  ·obtain ⟨x,rfl,cx⟩:=a1Y c
   obtain ⟨a,ys,rfl,ea,ra⟩:=cx.tup
   obtain ⟨ns,rfl,hl,q⟩:=h
   have ey:ys=ns.map V.int:=by
    have ra':Reps X.K M H ys (ns.map .int ++ []):=by simpa using ra
    obtain ⟨zs,e,r'⟩:=ra'.fore
    cases r'
    simpa using e
   subst ey
   exact ⟨a,ns,rfl,SqT.of ea,hl,fun ms hp hs l hl=>q ms hp hs _ _ (a0F.new' hl) (a4C hl (Reps.ints _))⟩
  ·exact h.elim
theorem a8u {ns:List Int} {Q:R->Prop} (h:ns.length < 64) (q:∀ ms:List Int,ms.Perm ns->ms.Pairwise (· <= ·)->Q (.nw (.lst (ms.map .int)))):a4N [.tup (ns.map .int)] Q:=⟨ns,rfl,h,q⟩
def pCatU:Dv->Dv->(R->Prop)->Prop
 | .tup xs,.tup ys,Q=>xs.length + ys.length<=LIM/\Q (.v (.tup (xs ++ ys)))
 | _,_,_=>False
theorem pCatU_tt {xs ys:List Dv} {Q:R->Prop}:pCatU (.tup xs) (.tup ys) Q=(xs.length + ys.length<=LIM/\Q (.v (.tup (xs ++ ys)))):=rfl
theorem a6W:OpD X (binaryOp .Add) pCatU:=by
 refine ⟨fun dx dy Q Q' w h=>?_,_,op_catU,fun M O H x y dx dy Q cx cy h=>?_⟩
 ·unfold pCatU at *
  split at h
  ·exact ⟨h.1,w _ h.2⟩
  ·exact h
 ·unfold pCatU at h
  split at h
  ·obtain ⟨a,xs,rfl,ea,ra⟩:=cx.tup
   obtain ⟨b,ys,rfl,eb,rb⟩:=cy.tup
   have l1:=ra.length
   have l2:=rb.length
   refine ⟨a,b,xs,ys,rfl,rfl,SqT.of ea,SqT.of eb,a3B (by ac_rfl),fun e=>?_,fun _ e=>?_,fun _ _ p hp=>h.2 _ _ (a0F.new' hp) (v_tup hp (ra.append rb))⟩
   ·subst e
    cases ra
    exact h.2 _ H (a0F.refl _) (Rep.tup eb rb)
   ·subst e
    cases rb
    refine h.2 _ H (a0F.refl _) ?_
    rw [List.append_nil]
    exact Rep.tup ea ra
  ·exact h.elim
def pInt1:List Dv->(R->Prop)->Prop
 | [.int i],Q=>Q (.v (.int i))
 | [.bl b],Q=>Q (.v (.int (if b=true then 1 else 0)))
 | _,_=>False
theorem pInt1_b {b:Bool} {Q:R->Prop}:pInt1 [.bl b] Q=Q (.v (.int (if b=true then 1 else 0))):=rfl
theorem cd_int1:a6S X (.type "int") pInt1:=by
 refine ⟨fun ds Q Q' w h=>?_,_,call_int1,fun M O H xs ds Q c h=>?_⟩
 ·unfold pInt1 at *
  split at h <;> first | exact w _ h | exact h
 ·unfold pInt1 at h
  split at h
  ·obtain ⟨x,rfl,cx⟩:=a1Y c
   obtain rfl:=cx.int
   exact .inl ⟨_,rfl,h _ H (a0F.refl _) (Rep.int _)⟩
  ·obtain ⟨x,rfl,cx⟩:=a1Y c
   obtain rfl:=cx.bl
   exact .inr ⟨_,rfl,h _ H (a0F.refl _) (Rep.int _)⟩
  ·exact h.elim
end
end Z
namespace L2
open PySem PySem.Spec PyProof.Rows
section
variable {prog:Program} {w:World} {A:Around} {E:Value->Shared->Prop} {s:Shared}
end
end L2
namespace Z
open PySem PySem.Spec PyProof.Rows L2
section
variable {X:Cx} {tg l:Expr} {tl:TEp}
noncomputable def hasT (kvs:List (List Key × Dv)) (k:List Key):Bool:=kvs.any fun kv=>decide (kv.1=k)
def rInT (neg:Bool):R2:=fun x y H Q=>∃ a o,y=.ref a/\DGet H a x o/\Q (.bl (if neg then !o.isSome else o.isSome)) H
theorem op_inT (hu:X.A.units + 1 < cLine):OpR X (compareOp .In) (rInT false):=by
 intro pins s σ H x y v u Q I rx ry h
 obtain ⟨a,o,rfl,g,q⟩:=h
 cases ry
 exact d_in hu I g rx fun s' I'=>⟨.bl o.isSome,H,I',rfl,q⟩
def pInT:Dv->Dv->(R->Prop)->Prop
 | .tup ds,.dit kvs,Q=>∃ k:List Key,ds=k.map kD/\Q (.v (.bl (hasT kvs k)))
 | _,_,_=>False
theorem RepT.has {K:W.Frag} {M:Addr->Prop} {H:Hp} {k:List Key} {xs:List (List Key × V)} {ds:List (List Key × Dv)} (r:RepT K M H xs ds):(a7X xs k).isSome=hasT ds k:=by
 have h:=r.val (k:=k)
 unfold hasT
 cases e:ds.find? (fun kv=>decide (kv.1=k)) with
 | none=>
  rw [h.2 e]
  have:=List.find?_eq_none.mp e
  symm
  rw [Option.isSome_none,List.any_eq_false]
  exact this
 | some kv=>
  obtain ⟨x,hx,_⟩:=h.1 kv e
  rw [hx]
  symm
  rw [Option.isSome_some,List.any_eq_true]
  exact ⟨kv,List.mem_of_find?_eq_some e,by have:=List.find?_some (p:=fun kv:List Key × Dv=>decide (kv.1=k)) e; exact this⟩
theorem opd_inT (hu:X.A.units + 1 < cLine):OpD X (compareOp .In) pInT:=by
 refine ⟨fun dx dy Q Q' w h=>?_,_,op_inT hu,fun M O H x y dx dy Q cx cy h=>?_⟩
 ·unfold pInT at *
  split at h
  ·exact ⟨h.choose,h.choose_spec.1,w _ h.choose_spec.2⟩
  ·exact h
 ·unfold pInT at h
  split at h
  ·obtain ⟨k,rfl,q⟩:=h
   obtain ⟨b,ys,rfl,eb,rb⟩:=cx.tup
   obtain rfl:=rb.keys
   obtain ⟨a,ep,kvs,rfl,ea,ra⟩:=cy.dit
   refine ⟨a,_,rfl,DGet.t ea eb,?_⟩
   rw [if_neg (by decide),ra.has]
   exact q _ H (a0F.refl _) (Rep.bl _)
  ·exact h.elim
end
end Z
namespace HT
open PySem PyProof.Rows
section
open PySem.SeqAt
open PySem.AutoSeq1 (wpAny_loadPart')
open PySem.MeetsSeq PySem.MeetsSeq2 PySem.MeetsSeq3
end
section
variable {prog:Program} {w:World} {A:Around} {E:Value->Shared->Prop} {s:Shared}
end
end HT
namespace L2
open PySem PySem.Spec PyProof.Rows
section
variable {X:Cx}
end
end L2
namespace L2
open PySem PySem.Spec PyProof.Rows
section
variable {X:Cx}
end
end L2
namespace Z
open PySem PySem.Spec PyProof.Rows L2
section
variable {X:Cx} {o e:Expr} {to te:TEp} {apos cpos:Pos}
end
end Z
namespace L2
open PySem PySem.Spec PyProof.Rows
section
variable {X:Cx}
end
end L2
namespace Z
open PySem PySem.Spec PyProof.Rows L2
section
variable {X:Cx} {M:Addr->Prop}
theorem eqOf_at {pins:List (Addr × Obj)} {σ:St} {H:Hp} {s:Shared} (I:Inv X pins σ H s) {dx:Dv} {xs:List V} {ds:List Dv} {us:List Value} (r:Reps X.K M H xs ds) (ok:okDs 8 ds=true) (rv:a1w xs us) {j:Nat} {u:Value} {d:Dv} (hu:us[j]?=some u) (hd:ds[j]?=some d):a8F s.heap (pyD dx) u=eqD d dx:=by
 obtain ⟨x,hx,rx⟩:=r.get hd
 obtain ⟨u',hu',ru⟩:=rv.get hx
 rw [hu] at hu'
 cases hu'
 have okd:okD 8 d=true:=by
  have key:∀ (l:List Dv) (j:Nat),okDs 8 l=true->l[j]?=some d->okD 8 d=true:=fun l=>by
   induction l with
   | nil=>intro j _ h; simp at h
   | cons a l ih=>
    intro j ok h
    have ok':(okD 8 a && okDs 8 l)=true:=ok
    rw [Bool.and_eq_true] at ok'
    cases j with
    | zero=>simp at h; subst h; exact ok'.1
    | succ j=>exact ih j ok'.2 (by simpa using h)
  exact key ds j ok hd
 obtain ⟨as,ra⟩:=Rep.reads I rx okd ru
 rw [eqOf_eq (a6k 8 _ okd).1 ra]
 rfl
variable {o e:Expr} {to te tg tp:TEp} {apos cpos:Pos}
end
end Z
namespace L2
open PySem PySem.Spec PyProof.Rows
section
variable {P:Program} {w:World} {K:W.Frag} {H H':Hp} {h h':Heap} {a C:Addr}
end
section
variable {P:Program} {w:World} {fs:List Addr} {H H':Hp} {h0 h1 h2 B:Heap}
end
section
variable {P:Program} {w:World} {K:W.Frag} {mg:Str->Option Value} {base:Heap} {N:List Str} {qual:Str} {scope:Scope} {f:Addr} {cd:Value} {A:Around} {outer:List Env} {s0:Shared} {H0:Hp} {E:XK}
end
section
variable {X:Cx} {x:Str} {C:Addr} {e:Expr} {es:List Expr} {t:TA} {np cpos pos:Pos}
end
end L2
namespace L2
open PySem PySem.Spec PyProof.Rows
section
variable {X:Cx} {pins:List (Addr × Obj)} {σ:St} {H:Hp} {s:Shared} {a:Addr}
end
section
variable {X:Cx} {pins:List (Addr × Obj)} {σ:St} {H1:Hp} {s1 s2:Shared} {E:XK} {e:Value} {D:Ends}
end
section
variable {X:Cx} {k:Nat} {f:Addr} {fd:FuncData} {ps:List Str} {sp:Sp} {x:Str} {p cpos epos pos:Pos} {e:Expr} {es:List Expr} {t:TA}
end
end L2
namespace L2
open PySem PySem.Spec PyProof.Rows
section
open PySem.Calls PySem.Builtin PySem.Builtin.ObjectAttr PySem.Builtin.Getset_descriptor
variable {K:W.Frag} {M:Model} {h:Heap} {x C:Addr}
variable {prog:Program} {w:World} {A:Around} {E:Value->Shared->Prop} {s:Shared}
end
section
variable {X:Cx}
end
section
variable {X:Cx} {k:Nat} {f:Addr} {fd:FuncData} {ps:List Str} {sp:Sp} {E:XK} {x:Str} {p pos:Pos} {e:Expr} {es:List Expr} {t:TA}
end
end L2
namespace Z
open PySem PySem.Spec PyProof.Rows L2
section
variable {X:Cx} {HZ:Hp} {F:Addr->Prop} {st:Stmt} {sts a b:List Stmt} {t u:TSp} {c:Expr} {tc:TTp} {pos:Pos}
end
section
variable {P:Program} {w:World} {K:W.Frag} {mg:Str->Option Value} {base:Heap} {N:List Str} {qual:Str} {scope:Scope} {f:Addr} {cd:Value} {A:Around} {outer:List Env} {s0:Shared} {H0:Hp} {E:XK}
end
section
variable {X:Cx} {k:Nat} {ps:List Str} {sp:FnX} {x:Str} {p cpos epos pos:Pos} {e:Expr} {es:List Expr} {ts:TAp}
end
section
variable {X:Cx} {k:Nat} {x:Str} {ps:List Str} {sp:Fn} {e:Expr} {es:List Expr} {ts:TAp} {p pos:Pos}
end
section
variable {X:Cx}
end
end Z
namespace L2
open PySem PySem.Spec PyProof.Rows
section
variable {X:Cx}
end
end L2
namespace Z
open PySem PySem.Spec PyProof.Rows L2
section
variable {X:Cx} {tg l e o:Expr} {tl te to:TEp} {pos apos cpos:Pos}
end
end Z
namespace Z
open PySem PySem.Spec PyProof.Rows L2
end Z
namespace L2
open PySem PySem.Spec PySem.W PyProof.Rows Tim
section
variable {prog:Program} {w:World} {A:Around} {E:Value->Shared->Prop} {s:Shared}
end
section
variable {X:Cx}
end
end L2
namespace L2
open PySem PySem.Spec PyProof.Rows
section
variable {X:Cx}
end
end L2
namespace Z
open PySem PySem.Spec PyProof.Rows L2
section
variable {X:Cx} {a b c d e:Expr} {ta tb tc td te:TEp} {pos:Pos}
end
end Z
namespace L2
open PySem PySem.Spec PyProof.Rows
section
variable {X:Cx}
end
end L2
namespace Z
open PySem PySem.Spec PyProof.Rows L2
section
variable {X:Cx} {a b c d e:Expr} {ta tb tc td te:TEp} {pos:Pos}
end
end Z
namespace Z
open PySem PySem.Spec PyProof.Rows L2
section
variable {X:Cx} {pos:Pos}
end
end Z
namespace Z
open PySem PySem.Spec PyProof.Rows L2
end Z
namespace Z
open PySem PySem.Spec PyProof.Rows L2
end Z
namespace L2
open PySem PySem.Spec PyProof.Rows
section
variable {X:Cx} {pins:List (Addr × Obj)} {σ:St} {H:Hp} {s:Shared} {a:Addr} {r:Value} {E:Value->Shared->Prop}
theorem dt_set {Q:Unit->Shared->Prop} {A:Around} {ep0:Nat} {kvs:List (List Key × V)} {k:List Key} {b:Addr} {v:V} (hu:A.units + 1 < cLine) (I:Inv X pins σ H s) (e:H a=some (.dT ep0 kvs)) (eb:H b=some (.tup (k.map kV))) (l:kvs.length < sizeLine) (rv:a2z v r)
  (h:∀ ep s',Inv X pins σ (upd H a (.dT ep (putK kvs k v))) s'->Q () s'):wpAny (model X.prog X.w) A (dictSet a (.ref b) r) Q E s:=by
 obtain ⟨z,hd,xs,rel,dd⟩:=dt_of I.hok e
 have hz:xs.length<=sizeLine:=by rw [<- Paired.length rel]; exact z
 have hl:(putK kvs k v).length<=sizeLine:=by have:=a4d kvs k v; ac_rfl
 refine wpAny_dictSet_heap (hsz:=hz) (show A.units < cLine by ac_rfl) (key_of I.hok eb) dd fun h' dd' hs=>?_
 obtain ⟨q,es,ep,hq,h2,h3,h4,_,h5⟩:=dd'
 refine h ep _ ?_
 refine d_write I (by rw [e]; exact True.intro) hs ⟨q,hq⟩ ⟨hl,hd,_,(rel.put k eb rv).keeps fun c ys ec=>?_,q,es,hq,h2,h3,h4,h5⟩
 rw [a0G (ne_of ec e (fun z=>nomatch z))]
 exact ec
end
noncomputable abbrev TK:=List Key × Addr × V
noncomputable def mrgT (kvs:List (List Key × V)) (more:List TK):List (List Key × V):=more.foldl (fun acc kv=>putK acc kv.1 kv.2.2) kvs
theorem store_T {X:Cx} {pins:List (Addr × Obj)} {σ:St} {H:Hp} {p:Addr} {A:Around} {E:Value->Shared->Prop} {Q:PUnit->Shared->Prop} (hu:A.units + 1 < cLine):∀ (kvs:List TK) (vs:List (Value × Value)) (acc:List (List Key × V)) (ep:Nat) (s:Shared),VV (kvs.map fun kv=>(V.ref kv.2.1,kv.2.2)) vs ->
  (∀ kv ∈ kvs,kv.2.1 ≠ p/\H kv.2.1=some (.tup (kv.1.map kV)))->acc.length + kvs.length < sizeLine->Inv X pins σ (upd H p (.dT ep acc)) s->(∀ ep s',Inv X pins σ (upd H p (.dT ep (mrgT acc kvs))) s'->Q PUnit.unit s') ->
  wpAny (model X.prog X.w) A (forIn vs PUnit.unit fun (x:Value × Value) (_:PUnit)=>(do dictSet p x.1 x.2; pure (ForInStep.yield PUnit.unit):Sem (ForInStep PUnit))) Q E s
 | [],_,acc,ep,s,r,_,_,I,h=>by
  cases r
  rw [List.forIn_nil]
  exact wpAny_pure (h ep s I)
 | kv :: kvs,_,acc,ep,s,r,hk,hl,I,h=>by
  rw [List.map_cons] at r
  cases r with
  | @cons x y xs ys hx t=>
   obtain ⟨y1,y2⟩:=y
   obtain ⟨h1,h2⟩:=hk kv (List.mem_cons_self ..)
   rw [List.length_cons] at hl
   obtain rfl:y1=Value.ref kv.2.1:=hx.1
   rw [List.forIn_cons]
   refine wpAny_bind (wpAny_bind (dt_set hu I a0I (show (upd H p (.dT ep acc)) kv.2.1=some (.tup (kv.1.map kV)) by rw [a0G h1]; exact h2) (by ac_rfl) hx.2 fun ep' s' I'=>wpAny_pure ?_))
   rw [upd_upd] at I'
   exact store_T hu kvs ys (putK acc kv.1 kv.2.2) ep' s' t (fun z hz=>hk z (List.mem_cons_of_mem _ hz)) (by have:=a4d acc kv.1 kv.2.2; ac_rfl) I' h
def tDispT (trs:List (TE × TE)):TE:=fun σ H Q=>∀ p,H p=none->tPairs trs σ (upd H p (.dT 0 [])) fun ps H2=>H2 p=some (.dT 0 []) /\ ∃ kvs:List TK,ps=kvs.map (fun kv=>(V.ref kv.2.1,kv.2.2))/\(∀ kv ∈ kvs,H2 kv.2.1=some (.tup (kv.1.map kV)))/\kvs.length<=15 /\ ∀ ep,Q (.ref p) (upd H2 p (.dT ep (mrgT [] kvs)))
theorem pe_dispT {X:Cx} {pos:Pos} {keys:List (Option Expr)} {values:List Expr} {trs:List (TE × TE)} (hu:X.A.units + 1 < cLine) (h:PPs X pos keys values trs) (hall:keys.all (·.isSome)=true) (hl:keys.length=values.length) (h0:keys ≠ [])
  (h15:keys.length<=15):PE X (.Dict keys values pos) (tDispT trs):=by
 intro pins s σ H Q I q
 have hn:=I.hok.fresh (Nat.le_refl s.heap.objs.size)
 have I1:=I.laid (a:=s.heap.objs.size) (o:=.dT 0 []) (h':=s.heap.push { cls:=.type "dict",data:=.dict #[] }) (t':=s.toks) (fun _ _ q=>Heap.get?_push_of_some _ q) (Nat.le_refl _) (dt_empty s.heap I.big)
 have hpl:=pairTrees_length keys values X.env pos hall hl
 have hne:pairTrees keys values X.env pos ≠ []:=by
  intro he
  rw [he] at hpl
  exact h0 (List.length_eq_zero_iff.mp hpl.symm)
 rw [arm_eval_Dict,zip_pairTrees keys values X.env pos hall hl,dictDisplay_pairs _ hne (by rw [hpl]; ac_rfl)]
 refine wpAny_bind (wpAny_standAt (wpAny_bind ?_))
 unfold subDict
 refine wpAny_bind (wpAny_alloc ?_)
 refine wpAny_bind (wpAny_holding ?_)
 rw [if_pos (by rw [hpl]; exact h15)]
 refine wpAny_bind (thn (h pins _ σ _ _ I1 (q _ hn)) fun ws s2 ⟨ps,H2,I2,rel,e,kvs,ep,lk,l15,q2⟩=>?_)
 subst ep
 refine wpAny_holding ?_
 have I3:Inv X pins σ (upd H2 s.heap.objs.size (.dT 0 [])) s2:=by
  rw [show upd H2 s.heap.objs.size (.dT 0 [])=H2 by
   funext b
   by_cases hb:b=s.heap.objs.size
   ·rw [hb,a0I,e]
   ·rw [a0G hb]]
  exact I2
 refine wpAny_bind (store_T hu kvs ws [] 0 s2 rel (fun kv hk=>⟨fun z=>?_,lk kv hk⟩) (by rw [sizeLine_eq,List.length_nil]; ac_rfl) I3 fun ep s' I'=>wpAny_pure (wpAny_pure (wpAny_pure ⟨.ref s.heap.objs.size,_,I',rfl,q2 ep⟩)))
 have:=lk kv hk
 rw [z,e] at this
 cases this
end L2
namespace L2
open PySem PySem.Spec PyProof.Rows PySem.MeetsSeq PySem.SeqAt
theorem rm_walk {l:Addr} {its:Array Value} {c:Nat} {u:Value} {q:Value->Bool} {j:Nat} (lt:j < its.size) (yes:q its[j]=true) (few:its.size<=sizeLine):∀ (d i:Nat),i + d=j->(∀ (m:Nat) (z:m < its.size),i<=m->m < j->q its[m]=false) ->
  Meets (Builtin.«list.remove.loop» ⟨[.ref l,u,rawInt i],[]⟩) (fun A R s=>s.heap.get? l=some (seqObj "list" its c)/\(∀ y,y ∈ its->EqAt A.in1 s y u (q y))/\R (.ok (.ret .none)) { s with heap:=s.heap.update l (Obj.mapSeq fun b=>b.eraseIdxIfInBounds j) }):=by
 intro d
 induction d with
 | zero=>
  rintro i e0 _ prog w A R ⟨hp,g,dr,tk,os⟩ ⟨g1,g2,g3⟩
  obtain rfl:i=j:=e0
  wp_walk using wpAny_loadPart' g1
  rw [show its[((i:Nat):Int).toNat]?=some its[i] by simp [lt]]
  refine wpAny_bind (g2 _ (Array.getElem_mem lt) prog w _ _ ?_)
  rw [yes]
  have room:(its.eraseIdxIfInBounds i).size<=sizeLine + 1:=by
   have:=size_erased its i
   ac_rfl
  wp_walk using (wpAny_updateSeq g1 rfl (hz:=few) (_hz':=room)),wpAny_loadPart' g1
  rw [Int.toNat_natCast]
  exact g3
 | succ d ih=>
  rintro i e0 no prog w A R ⟨hp,g,dr,tk,os⟩ ⟨g1,g2,g3⟩
  have li:i < its.size:=by ac_rfl
  wp_walk using wpAny_loadPart' g1
  rw [show its[((i:Nat):Int).toNat]?=some its[i] by simp [li]]
  refine wpAny_bind (g2 _ (Array.getElem_mem li) prog w _ _ ?_)
  rw [no i li (Nat.le_refl i) (by ac_rfl)]
  wp_walk
  rw [show (i:Int) + 1=((i + 1:Nat):Int) by ac_rfl]
  refine ⟨plainId_quiet plain_remove_loop _,codeAny_builtin entry_remove_loop ?_⟩; rw [Around.under_plainId plain_remove_loop _]
  exact ih (i + 1) (by ac_rfl) (fun m z a b=>no m z (by ac_rfl) b) prog w A R _ ⟨g1,g2,g3⟩
theorem rm_list {l:Addr} {its:Array Value} {c:Nat} {u:Value} {q:Value->Bool} {j:Nat} (lt:j < its.size) (yes:q its[j]=true) (few:its.size<=sizeLine) (no:∀ (m:Nat) (z:m < its.size),m < j->q its[m]=false):
  Meets (Builtin.«list.remove» ⟨[.ref l,u],[]⟩) (fun A R s=>s.heap.get? l=some (seqObj "list" its c)/\(∀ y,y ∈ its->EqAt A.in1 s y u (q y))/\R (.ok (.ret .none)) { s with heap:=s.heap.update l (Obj.mapSeq fun b=>b.eraseIdxIfInBounds j) }):=by
 rintro prog w A R ⟨hp,g,dr,tk,os⟩ ⟨g1,g2,g3⟩
 wp_walk using wpAny_loadPart' g1
 refine ⟨plainId_quiet plain_remove_loop _,codeAny_builtin entry_remove_loop ?_⟩; rw [Around.under_plainId plain_remove_loop _]
 exact rm_walk lt yes few j 0 (by ac_rfl) (fun m z _ b=>no m z b) prog w A R _ ⟨g1,g2,g3⟩
end L2
namespace Z
open PySem PySem.Spec PyProof.Rows L2
section
variable {X:Cx} {M:Addr->Prop}
theorem mt_removeZ (hu:X.A.units + 65 < cLine):MtM X "list.remove" (fun x vs H Q=>∃ (M:Addr->Prop) (dx:Dv) (ds:List Dv) (l:Addr) (xs:List V) (y:V) (j:Nat) (d:Dv),x=.ref l/\vs=[y]/\a3C X.K M H y dx/\H l=some (.lst xs)/\Reps X.K M H xs ds/\okD 8 dx=true/\okDs 8 ds=true /\
  ds[j]?=some d/\eqD d dx=true/\(∀ m e,m < j->ds[m]?=some e->eqD e dx=false)/\Q .non (upd H l (.lst (xs.eraseIdx j)))):=by
 intro pins s σ H x vs v us Q I rx rv h
 obtain ⟨M,dx,ds,l,xs,y,j,d,rfl,rfl,cy,hH,rs,o1,o2,hj,hit,hno,q⟩:=h
 cases rx
 obtain ⟨u,rfl,ru⟩:=rv.one
 obtain ⟨bs,rb⟩:=cy.reads I o1 ru
 obtain ⟨z,its,n,r,hl,e⟩:=I.lstM hH
 have li:its.length=ds.length:=by rw [<- hl,rs.length]
 have hj':j < its.length:=by rw [li]; exact (List.getElem?_eq_some_iff.mp hj).1
 have hz:its.length<=sizeLine:=by rw [<- hl]; exact z
 refine call_meets F.slot_list_remove ⟨_,e,rfl⟩ F.entry_list_remove (F.args_list_remove_2 _ _)
  (rm_list (q:=a8F s.heap (pyD dx)) (by simpa using hj') ?_ (by rw [List.size_toArray]; exact hz) fun m hm hlt=>?_) ⟨e,fun w hw=>a4R I rb o1 (a4E hu) rs o2 r w (by simpa using hw),?_⟩
 ·show a8F s.heap (pyD dx) its[j]=true
  rw [eqOf_at I rs o2 r (List.getElem?_eq_getElem hj') hj]
  exact hit
 ·have hm':m < its.length:=by simpa using hm
  have hm2:m < ds.length:=by ac_rfl
  show a8F s.heap (pyD dx) its[m]=false
  rw [eqOf_at I rs o2 r (List.getElem?_eq_getElem hm') (List.getElem?_eq_getElem hm2)]
  exact hno m _ hlt (List.getElem?_eq_getElem hm2)
 ·refine ⟨.non,_,I.lset (its':=its.eraseIdx j) hH e ?_ (r.eraseIdx j) ?_,rfl,q⟩
  ·show its.toArray.eraseIdxIfInBounds j=(its.eraseIdx j).toArray
   rw [List.eraseIdxIfInBounds_toArray]
  ·have:=len_erase xs j
   ac_rfl
variable {e:Expr} {te:TEp}
def sRem (i:Nat) (te:TEp):TSp:=fun E ρ=>match ρ[i]? with
 | some (.own a (.lst ds))=>te ρ fun v=>∃ (j:Nat) (d:Dv),(okD 8 v.d=true/\okDs 8 ds=true)/\ds[j]?=some d/\eqD d v.d=true/\(∀ m e,m < j->ds[m]?=some e->eqD e v.d=false)/\E.nx (ρ.set i (.own a (.lst (ds.eraseIdx j))))
 | _=>False
theorem q_rem {i:Nat} {x:Str} {p1 p2 p3 pos:Pos} (hu:X.A.units + 65 < cLine) (hv:PE X (.Name x p1) (tVar i)) (he:QE X e te)
  (hs:swapsWith (.Call (.Attribute (.Name x p1) "remove" p2) [e] [] p3) none pos.line X.env=pure false:=by rfl)
  (hbase:attributeBase (.Name x p1) "remove" X.env (eval (.Name x p1) X.env)=eval (.Name x p1) X.env:=by rfl)
  (hfew:((backTo p3 (starEach (e :: []) X.env)).all (fun x=>!x.1) && (backToKw p3 (keywordEach [] X.env)).all (fun x=>x.1.isSome)
   && decide ((e :: []).length + ([]:List Keyword).length + (if ([]:List Keyword).isEmpty then 0 else 1) < 30))=true:=by rfl)
  (hline:(p2.endLine == p3.line)=true:=by rfl) (hst:starEach (e :: []) X.env=(false,eval e X.env) :: starEach [] X.env:=by rfl) (hplain:(backTo p3 (starEach [] X.env)).any (·.1)=false:=by rfl):
  QS X (.Expr (.Call (.Attribute (.Name x p1) "remove" p2) [e] [] p3) pos) (sRem i te):=by
 have hA:QA X [e] (a0a te a0i):=a0b he a0g hst
 refine ⟨fun E E' ρ w h=>?_,fun HZ F=>a2X (a7q (pe_bm PySem.F.plainAttrs_list PySem.F.slot_list_remove PySem.F.type_list_remove (mt_removeZ hu) hv (hA.run HZ F) hbase hfew hline hst hplain) hs) fun D σ H ⟨ρ,E,fr,h,en⟩=>?_⟩
 ·unfold sRem at *
  split at h
  ·exact he.mono _ _ _ (fun v ⟨j,d,a,b,c,f,q⟩=>⟨j,d,a,b,c,f,w.nx _ q⟩) h
  ·exact h
 ·unfold sRem at h
  split at h
  ·rename_i a ds hx
   obtain ⟨hs1,vs,hv1,rv1⟩:=fr.sl i _ hx
   refine ⟨_,hs1,.inl ⟨rfl,_,SqL.of hv1⟩,?_⟩
   have h':a0a te a0i ρ fun rs=>∃ v,rs=[v] /\ ∃ (j:Nat) (d:Dv),(okD 8 v.d=true/\okDs 8 ds=true)/\ds[j]?=some d/\eqD d v.d=true/\(∀ m e,m < j->ds[m]?=some e->eqD e v.d=false)/\E.nx (ρ.set i (.own a (.lst (ds.eraseIdx j)))):=
    he.mono _ _ _ (fun v z=>⟨v,rfl,z⟩) h
   refine hA.step fr h' fun rs xs' H2 ⟨v,erv,j,d,⟨o1,o2⟩,hj,hit,hno,q⟩ S2 r2=>?_
   subst erv
   have cc:=r2.c
   obtain ⟨y,rfl,cy⟩:=a1Y cc
   have hv2:=S2 _ _ hv1
   have rv2:=rv1.mono S2
   have G:Gen X.K (MM F ρ) (MM F ρ) H2 (upd H2 a (.lst (vs.eraseIdx j))):=Gen.write (.inr ⟨_,List.mem_of_getElem? hx⟩) (by rw [hv2]; trivial)
   refine ⟨_,_,ds,a,vs,y,j,d,rfl,rfl,cy,hv2,rv2,o1,o2,hj,hit,hno,?_⟩
   exact en.nx _ _ _ ((fr.mono S2).write (d':=.lst (ds.eraseIdx j)) hx ⟨_,a0I,(rv2.erase j).gen G⟩) q
  ·exact h.elim
def eD3 (k1 v1 k2 v2 k3 v3:TEp):TEp:=fun ρ Q=>k1 ρ fun a1=>v1 ρ fun b1=>k2 ρ fun a2=>v2 ρ fun b2=>k3 ρ fun a3=>v3 ρ fun b3=>∃ (K1 K2 K3:List Key) (L1 L2 L3:List Int),(a1.d=.tup (K1.map kD)/\a2.d=.tup (K2.map kD)/\a3.d=.tup (K3.map kD))/\(b1.d=.tup (L1.map .int)/\b2.d=.tup (L2.map .int)/\b3.d=.tup (L3.map .int)) /\
 Q (.nw (.dit (putT (putT (putT [] K1 (.tup (L1.map .int))) K2 (.tup (L2.map .int))) K3 (.tup (L3.map .int)))))
theorem q_d3 {pos:Pos} {e1 e2 e3 f1 f2 f3:Expr} {k1 v1 k2 v2 k3 v3:TEp} (hu:X.A.units + 1 < cLine) (h1:QE X e1 k1) (g1:QE X f1 v1) (h2:QE X e2 k2) (g2:QE X f2 v2) (h3:QE X e3 k3) (g3:QE X f3 v3):QE X (.Dict [some e1,some e2,some e3] [f1,f2,f3] pos) (eD3 k1 v1 k2 v2 k3 v3):=by
 refine ⟨fun ρ Q Q' w q=>h1.mono _ _ _ (fun a1 q=>g1.mono _ _ _ (fun b1 q=>h2.mono _ _ _ (fun a2 q=>g2.mono _ _ _ (fun b2 q=>h3.mono _ _ _ (fun a3 q=>g3.mono _ _ _ (fun b3 q=>?_) q) q) q) q) q) q,
  fun HZ F=>a1J (pe_dispT hu (a9b (h1.run HZ F) (g1.run HZ F) (a9b (h2.run HZ F) (g2.run HZ F) (a9b (h3.run HZ F) (g3.run HZ F) pps_nil))) rfl rfl (by simp) (by simp)) fun σ H Q ⟨ρ,fr,q⟩=>?_⟩
 ·obtain ⟨K1,K2,K3,L1,L2,L3,a,b,q⟩:=q
  exact ⟨K1,K2,K3,L1,L2,L3,a,b,w _ q⟩
 ·intro p hp
  have S0:a0F H (upd H p (.dT 0 [])):=a0F.new' hp
  have fr0:=fr.mono S0
  refine h1.step fr0 q fun a1 x1 H1 q S1 r1=>?_
  have fr1:=fr0.mono S1
  refine g1.step fr1 q fun b1 y1 H2 q S2 s1=>?_
  have fr2:=fr1.mono S2
  refine h2.step fr2 q fun a2 x2 H3 q S3 r2=>?_
  have fr3:=fr2.mono S3
  refine g2.step fr3 q fun b2 y2 H4 q S4 s2=>?_
  have fr4:=fr3.mono S4
  refine h3.step fr4 q fun a3 x3 H5 q S5 r3=>?_
  have fr5:=fr4.mono S5
  refine g3.step fr5 q fun b3 y3 H6 q S6 s3=>?_
  obtain ⟨K1,K2,K3,L1,L2,L3,⟨e1,e2,e3⟩,⟨l1,l2,l3⟩,q⟩:=q
  have c1:=r1.c
  have c2:=r2.c
  have c3:=r3.c
  rw [e1] at c1
  rw [e2] at c2
  rw [e3] at c3
  obtain ⟨m1,z1,rfl,n1,o1⟩:=c1.tup
  obtain ⟨m2,z2,rfl,n2,o2⟩:=c2.tup
  obtain ⟨m3,z3,rfl,n3,o3⟩:=c3.tup
  have t1:z1=K1.map kV:=o1.keys
  have t2:z2=K2.map kV:=o2.keys
  have t3:z3=K3.map kV:=o3.keys
  subst t1 t2 t3
  have T2:=S2.trans (S3.trans (S4.trans (S5.trans S6)))
  have T4:=S4.trans (S5.trans S6)
  have S16:a0F (upd H p (.dT 0 [])) H6:=S1.trans T2
  refine ⟨S16 _ _ a0I,[(K1,m1,y1),(K2,m2,y2),(K3,m3,y3)],rfl,fun kv hk=>?_,by simp,fun ep=>?_⟩
  ·rcases List.mem_cons.mp hk with rfl | hk
   ·exact T2 _ _ n1
   ·rcases List.mem_cons.mp hk with rfl | hk
    ·exact T4 _ _ n2
    ·rw [List.mem_singleton.mp hk]
     exact S6 _ _ n3
  ·have d1:=s1.c
   have d2:=s2.c
   have d3:=s3.c
   rw [l1] at d1
   rw [l2] at d2
   rw [l3] at d3
   obtain ⟨u1,w1,rfl,i1,j1⟩:=d1.tup
   obtain ⟨u2,w2,rfl,i2,j2⟩:=d2.tup
   obtain ⟨u3,w3,rfl,i3,j3⟩:=d3.tup
   have P6:=S16 _ _ (a0I (H:=H) (a:=p) (o:=.dT 0 []))
   have k1:=(S3.trans (S4.trans (S5.trans S6))) _ _ i1
   have k2:=(S5.trans S6) _ _ i2
   have mk:∀ {u:Addr} {ws:List V} {L:List Int} {M:Addr->Prop} {o:HO} {HH:Hp},Reps X.K M HH ws (L.map .int)->H6 u=some (.tup ws)->Rep X.K (fun b=>MM F ρ b \/ b=p) (upd H6 p o) (.ref u) (.tup (L.map .int)):=fun {u ws L M o HH} r h=>by
    have ew:ws=L.map V.int:=r.of_ints
    subst ew
    refine .tup (show (upd H6 p o) u=some (.tup (L.map V.int)) by rw [a0G (fun z=>by rw [z,P6] at h; cases h)]; exact h) (Reps.ints _)
   refine q _ _ (fun b o e=>?_) ⟨p,rfl,hp,ep,_,a0I,?_⟩
   ·by_cases hb:b=p
    ·rw [hb,hp] at e; cases e
    ·rw [a0G hb]
     exact S16 _ _ (S0 _ _ e)
   ·exact ((RepT.nil.put (mk j1 k1)).put (mk j2 k2)).put (mk j3 i3)
end
end Z
local macro_rules | `(tactic| ac_nf)=>`(tactic| simp only [↓Z.zt,Z.zo,Z.zc,Z.a5K,Nat.reduceSub,Nat.reduceAdd,↓reduceIte,Int.reduceEq,Int.reduceMul,Int.reduceAdd,Int.reduceSub,Int.reduceNeg,Z.guard,Int.reduceLT,Int.reduceLE,Int.reduceToNat,Int.reducePow,Nat.reduceLT,Nat.reduceLeDiff,Nat.reducePow,Z.LIM])
local macro_rules | `(tactic| push_cast [$xs,*])=>`(tactic| simp only [↓Z.zt,Z.zo,Z.zc,Z.a5K,Nat.reduceSub,Nat.reduceAdd,↓reduceIte,Int.reduceEq,Int.reduceMul,Int.reduceAdd,Int.reduceSub,Int.reduceNeg,Z.guard,Int.reduceLT,Int.reduceLE,Int.reduceToNat,Int.reducePow,Nat.reduceLT,Nat.reduceLeDiff,Nat.reducePow,Z.LIM,$xs,*])
namespace Lw
open PySem PySem.Spec PyProof.Rows L2 Z
noncomputable def top (i:Nat):Stmt:=PySem.Challenge.pw_slantfloor_k45_flipped.main.body.getD i (.Pass ⟨0,0,0,0⟩)
abbrev a5g:TSp:=
 (a1W (eCB a2A (a0a (eCB a4N (a0a (eOp pCatU (a0d 0) (a2f (a0a (a0d 1) a0i))) a0i)) a0i)))
section
variable {P:Program} {w:World} {K:W.Frag} {mg:Str->Option Value} {base:Heap}
local macro_rules | `(tactic| norm_cast)=>`(tactic| exact ⟨rfl,rfl,rfl,by decide +kernel,rfl,by decide +kernel,by decide +kernel⟩)
theorem dq_with_band {sp:Fn} (m:At K mg "with_band" "with_band" (top 6) ["below", "band"]) (a0N:mg "sorted" = none) (a0O:mg "tuple" = none) (len:∀ ds Q,sp ds Q->ds.length=2) (hsp:∀ ds Q,sp ds Q->a5g  { nx:=fun _=>Q (.v .non),rt:=Q } (a0m ["below", "band"] ds)):Def P w K mg base 1 "with_band" ["below", "band"] (low K sp):=by
 have sc:FnScope ["below", "band"] ["below", "band"] (a0e (top 6)):=by norm_cast
 refine m.okP (k:=0) (t:=a5g ) sc (fun f cdv A outer s H E hr=>?_) len hsp
 ·
  exact (a0j (a1f (a1E a3f rfl a0O boot_tuple (a0b (a0s a8H rfl a0N boot_sorted (a0b (a1H a6W (a0c 0 (pv 0)) (a1x (a0b (a0c 1 (pv 1)) a0g))) a0g)) a0g))))
abbrev a6A:TSp:=
 (sPut 1 (a2f (a0a (a0d 2) (a0a (a0d 3) a0i))) (a0d 4))
abbrev a8P:TSp:=
 (a0z (a5r 1 eDT)
 (a0z (a6I (a6L (a0d 0)) (gT [2,3,4]) a6A)
 (a1W (a0d 1))))
theorem dq_belows {sp:Fn} (m:At K mg "belows" "belows" (top 7) ["floor"])  (len:∀ ds Q,sp ds Q->ds.length=1) (hsp:∀ ds Q,sp ds Q->a8P  { nx:=fun _=>Q (.v .non),rt:=Q } (a0m ["floor", "told", "a", "b", "below"] ds)):Def P w K mg base 1 "belows" ["floor"] (low K sp):=by
 have sc:FnScope ["floor", "told", "a", "b", "below"] ["floor"] (a0e (top 7)):=by norm_cast
 refine m.okP (k:=0) (t:=a8P ) sc (fun f cdv A outer s H E hr=>?_) len hsp
 ·
  have hu1:=a3d hr
  exact (a0f (a4w (i:=1) sc.nd rfl (Or.inl rfl) q_dnewT)
 (a0f (a3O PassesOwn.never rfl (a2U (a0c 0 (pv 0))) (q_gT (k:=5) (is:=[2,3,4]) rfl (a0Z (a1n (i:=2) sc.nd rfl (Or.inl rfl)) (a0Z (a1n (i:=3) sc.nd rfl (Or.inl rfl)) (a0Z (a1n (i:=4) sc.nd rfl (Or.inl rfl)) a4A)))) (a0j (q_put hu1 (i:=1) (pv 1) (a1x (a0b (a0c 2 (pv 2)) (a0b (a0c 3 (pv 3)) a0g))) (a0c 4 (pv 4)))))
 (a0j (a1f (a0c 1 (pv 1))))))
abbrev a3V (a0S:Fn):TSp:=
 (a1W (a5a (a0a (a2f (a0a (a0d 0) (a0a (a0d 1) (a0a (a0d 3) a0i)))) (a0a (a2f (a0a (a0d 0) (a0a (a0d 2) (a0a (a0t a0S (a0a (a0d 3) (a0a (a0d 1) a0i))) a0i)))) (a0a (a2f (a0a (a0d 1) (a0a (a0d 2) (a0a (a0d 3) a0i)))) a0i)))))
theorem a8f {a0S:Fn} {sp:Fn} (m:At K mg "standing_up" "standing_up" (top 11) ["a", "b", "c", "some"]) (a2g:Def P w K mg base 1 "with_band" ["below", "band"] (low K a0S)) (a3y:MonoF a0S) (len:∀ ds Q,sp ds Q->ds.length=4) (hsp:∀ ds Q,sp ds Q->a3V a0S { nx:=fun _=>Q (.v .non),rt:=Q } (a0m ["a", "b", "c", "some"] ds)):Def P w K mg base 2 "standing_up" ["a", "b", "c", "some"] (low K sp):=by
 have sc:FnScope ["a", "b", "c", "some"] ["a", "b", "c", "some"] (a0e (top 11)):=by norm_cast
 refine m.okP (k:=1) (t:=a3V a0S) sc (fun f cdv A outer s H E hr=>?_) len hsp
 ·
  exact (a0j (a1f (a3G (a0b (a1x (a0b (a0c 0 (pv 0)) (a0b (a0c 1 (pv 1)) (a0b (a0c 3 (pv 3)) a0g)))) (a0b (a1x (a0b (a0c 0 (pv 0)) (a0b (a0c 2 (pv 2)) (a0b (a0E a2g a3y (hr.mono (by decide)) (a0b (a0c 3 (pv 3)) (a0b (a0c 1 (pv 1)) a0g))) a0g)))) (a0b (a1x (a0b (a0c 1 (pv 1)) (a0b (a0c 2 (pv 2)) (a0b (a0c 3 (pv 3)) a0g)))) a0g))))))
abbrev a3n (a0S:Fn):TSp:=
 (a1W (a5a (a0a (a2f (a0a (a0d 0) (a0a (a0d 1) (a0a (a0t a0S (a0a (a0d 3) (a0a (a0d 2) a0i))) a0i)))) (a0a (a2f (a0a (a0d 0) (a0a (a0d 2) (a0a (a0d 3) a0i)))) (a0a (a2f (a0a (a0d 1) (a0a (a0d 2) (a0a (a0t a0S (a0a (a0d 3) (a0a (a0d 0) a0i))) a0i)))) a0i)))))
theorem a6P {a0S:Fn} {sp:Fn} (m:At K mg "standing_down" "standing_down" (top 12) ["a", "b", "c", "some"]) (a2g:Def P w K mg base 1 "with_band" ["below", "band"] (low K a0S)) (a3y:MonoF a0S) (len:∀ ds Q,sp ds Q->ds.length=4) (hsp:∀ ds Q,sp ds Q->a3n a0S { nx:=fun _=>Q (.v .non),rt:=Q } (a0m ["a", "b", "c", "some"] ds)):Def P w K mg base 2 "standing_down" ["a", "b", "c", "some"] (low K sp):=by
 have sc:FnScope ["a", "b", "c", "some"] ["a", "b", "c", "some"] (a0e (top 12)):=by norm_cast
 refine m.okP (k:=1) (t:=a3n a0S) sc (fun f cdv A outer s H E hr=>?_) len hsp
 ·
  exact (a0j (a1f (a3G (a0b (a1x (a0b (a0c 0 (pv 0)) (a0b (a0c 1 (pv 1)) (a0b (a0E a2g a3y (hr.mono (by decide)) (a0b (a0c 3 (pv 3)) (a0b (a0c 2 (pv 2)) a0g))) a0g)))) (a0b (a1x (a0b (a0c 0 (pv 0)) (a0b (a0c 2 (pv 2)) (a0b (a0c 3 (pv 3)) a0g)))) (a0b (a1x (a0b (a0c 1 (pv 1)) (a0b (a0c 2 (pv 2)) (a0b (a0E a2g a3y (hr.mono (by decide)) (a0b (a0c 3 (pv 3)) (a0b (a0c 0 (pv 0)) a0g))) a0g)))) a0g))))))
abbrev a3m (a1G a1k:Fn):TSp:=
 (a0z (a1l 2 (eOp pIx (a0d 1) (eC (.int 0))))
 (a0z (a1l 3 (eOp pIx (a0d 1) (eC (.int 1))))
 (a0z (a1l 4 (eOp pIx (a0d 1) (eC (.int 2))))
 (a0z (a1l 5 (a5a (a0a (a2f (a0a (a0d 2) (a0a (a0d 3) (a0a (eOp pIx (a0d 0) (a2f (a0a (a0d 2) (a0a (a0d 3) a0i)))) a0i)))) (a0a (a2f (a0a (a0d 2) (a0a (a0d 4) (a0a (eOp pIx (a0d 0) (a2f (a0a (a0d 2) (a0a (a0d 4) a0i)))) a0i)))) (a0a (a2f (a0a (a0d 3) (a0a (a0d 4) (a0a (eOp pIx (a0d 0) (a2f (a0a (a0d 3) (a0a (a0d 4) a0i)))) a0i)))) a0i)))))
 (a0z (sIf (a0y (eOp pEq (a0d 5) (a0t a1G (a0a (a0d 2) (a0a (a0d 3) (a0a (a0d 4) (a0a (eOp pIx (a0d 0) (a2f (a0a (a0d 2) (a0a (a0d 3) a0i)))) a0i))))))) (a1W (a0t a1k (a0a (a0d 2) (a0a (a0d 3) (a0a (a0d 4) (a0a (eOp pIx (a0d 0) (a2f (a0a (a0d 2) (a0a (a0d 3) a0i)))) a0i)))))) a1e)
 (a0z (sIf (a0y (eOp pEq (a0d 5) (a0t a1k (a0a (a0d 2) (a0a (a0d 3) (a0a (a0d 4) (a0a (eOp pIx (a0d 0) (a2f (a0a (a0d 2) (a0a (a0d 4) a0i)))) a0i))))))) (a1W (a0t a1G (a0a (a0d 2) (a0a (a0d 3) (a0a (a0d 4) (a0a (eOp pIx (a0d 0) (a2f (a0a (a0d 2) (a0a (a0d 4) a0i)))) a0i)))))) a1e)
 (a1W (eC .non))))))))
theorem a6O {a1G a1k:Fn} {sp:Fn} (m:At K mg "tiles_by_flip" "tiles_by_flip" (top 13) ["below", "three"]) (a3e:Def P w K mg base 2 "standing_up" ["a", "b", "c", "some"] (low K a1G)) (a5b:MonoF a1G) (a2v:Def P w K mg base 2 "standing_down" ["a", "b", "c", "some"] (low K a1k)) (a4m:MonoF a1k) (len:∀ ds Q,sp ds Q->ds.length=2) (hsp:∀ ds Q,sp ds Q->a3m a1G a1k { nx:=fun _=>Q (.v .non),rt:=Q } (a0m ["below", "three", "a", "b", "c", "tiles"] ds)):Def P w K mg base 3 "tiles_by_flip" ["below", "three"] (low K sp):=by
 have sc:FnScope ["below", "three", "a", "b", "c", "tiles"] ["below", "three"] (a0e (top 13)):=by norm_cast
 refine m.okP (k:=2) (t:=a3m a1G a1k) sc (fun f cdv A outer s H E hr=>?_) len hsp
 ·
  have hu:=hr.units
  have hu1:=a3d hr
  exact (a0f (a1m (i:=2) sc.nd rfl (Or.inl rfl) (a2r hu1 (a0c 1 (pv 1)) a0w))
 (a0f (a1m (i:=3) sc.nd rfl (Or.inl rfl) (a2r hu1 (a0c 1 (pv 1)) a0w))
 (a0f (a1m (i:=4) sc.nd rfl (Or.inl rfl) (a2r hu1 (a0c 1 (pv 1)) a0w))
 (a0f (a1m (i:=5) sc.nd rfl (Or.inl rfl) (a3G (a0b (a1x (a0b (a0c 2 (pv 2)) (a0b (a0c 3 (pv 3)) (a0b (a2r hu1 (a0c 0 (pv 0)) (a1x (a0b (a0c 2 (pv 2)) (a0b (a0c 3 (pv 3)) a0g)))) a0g)))) (a0b (a1x (a0b (a0c 2 (pv 2)) (a0b (a0c 4 (pv 4)) (a0b (a2r hu1 (a0c 0 (pv 0)) (a1x (a0b (a0c 2 (pv 2)) (a0b (a0c 4 (pv 4)) a0g)))) a0g)))) (a0b (a1x (a0b (a0c 3 (pv 3)) (a0b (a0c 4 (pv 4)) (a0b (a2r hu1 (a0c 0 (pv 0)) (a1x (a0b (a0c 3 (pv 3)) (a0b (a0c 4 (pv 4)) a0g)))) a0g)))) a0g)))))
 (a0f (a4y (a0Y (a3Q hu) (a0c 5 (pv 5)) (a0E a3e a5b (hr.mono (by decide)) (a0b (a0c 2 (pv 2)) (a0b (a0c 3 (pv 3)) (a0b (a0c 4 (pv 4)) (a0b (a2r hu1 (a0c 0 (pv 0)) (a1x (a0b (a0c 2 (pv 2)) (a0b (a0c 3 (pv 3)) a0g)))) a0g)))))) (a0j (a1f (a0E a2v a4m (hr.mono (by decide)) (a0b (a0c 2 (pv 2)) (a0b (a0c 3 (pv 3)) (a0b (a0c 4 (pv 4)) (a0b (a2r hu1 (a0c 0 (pv 0)) (a1x (a0b (a0c 2 (pv 2)) (a0b (a0c 3 (pv 3)) a0g)))) a0g))))))) a1b)
 (a0f (a4y (a0Y (a3Q hu) (a0c 5 (pv 5)) (a0E a2v a4m (hr.mono (by decide)) (a0b (a0c 2 (pv 2)) (a0b (a0c 3 (pv 3)) (a0b (a0c 4 (pv 4)) (a0b (a2r hu1 (a0c 0 (pv 0)) (a1x (a0b (a0c 2 (pv 2)) (a0b (a0c 4 (pv 4)) a0g)))) a0g)))))) (a0j (a1f (a0E a3e a5b (hr.mono (by decide)) (a0b (a0c 2 (pv 2)) (a0b (a0c 3 (pv 3)) (a0b (a0c 4 (pv 4)) (a0b (a2r hu1 (a0c 0 (pv 0)) (a1x (a0b (a0c 2 (pv 2)) (a0b (a0c 4 (pv 4)) a0g)))) a0g))))))) a1b)
 (a0j (a1f q_non))))))))
abbrev a6d:TSp:=
 (a1W (a6N (eIsi "int" (a0d 0)) (eNotV (eIsi "bool" (a0d 0)))))
theorem dq_is_whole {sp:Fn} (m:At K mg "is_whole" "is_whole" (top 16) ["thing"]) (a0q:mg "isinstance" = none) (a8J:mg "int" = none) (a8k:mg "bool" = none) (len:∀ ds Q,sp ds Q->ds.length=1) (hsp:∀ ds Q,sp ds Q->a6d  { nx:=fun _=>Q (.v .non),rt:=Q } (a0m ["thing"] ds)):Def P w K mg base 1 "is_whole" ["thing"] (low K sp):=by
 have sc:FnScope ["thing"] ["thing"] (a0e (top 16)):=by norm_cast
 refine m.okP (k:=0) (t:=a6d ) sc (fun f cdv A outer s H E hr=>?_) len hsp
 ·
  exact (a0j (a1f (q_and (a8X (.inl rfl) rfl a0q (a0c 0 (pv 0)) (a3Z (v:=.ty "int") rfl a8J boot_int rfl)) (q_one (q_not (a8X (.inr (.inl rfl)) rfl a0q (a0c 0 (pv 0)) (a3Z (v:=.ty "bool") rfl a8k boot_bool rfl)))))))
abbrev a2m (a3k:Fn):TSp:=
 (a0z (sIf (eOr (a7W (a7V (eIsi "tuple" (a0d 0)))) (a0y (eOp pNe (eCB a3q (a0a (a0d 0) a0i)) (eC (.int 3))))) (a1W (eC (.bl false))) a1e)
 (a1W (eCB pAll (a0a (a3s 1 [] (a6L (a0d 0)) (gN 0) a7Y (a0t a3k (a0a (a0d 0) a0i))) a0i))))
theorem a5x {a3k:Fn} {sp:Fn} (m:At K mg "has_three_wholes" "has_three_wholes" (top 22) ["direction"]) (a0q:mg "isinstance" = none) (a0O:mg "tuple" = none) (a1a:mg "len" = none) (w_all:mg "all" = none) (a6w:Def P w K mg base 1 "is_whole" ["thing"] (low K a3k)) (mo_is_whole:MonoF a3k) (len:∀ ds Q,sp ds Q->ds.length=1) (hsp:∀ ds Q,sp ds Q->a2m a3k { nx:=fun _=>Q (.v .non),rt:=Q } (a0m ["direction"] ds)):Def P w K mg base 2 "has_three_wholes" ["direction"] (low K sp):=by
 have sc:FnScope ["direction"] ["direction"] (a0e (top 22)):=by norm_cast
 refine m.okP (k:=1) (t:=a2m a3k) sc (fun f cdv A outer s H E hr=>?_) len hsp
 ·
  have hu:=hr.units
  exact (a0f (a4y (QW.qt (a8U (a2T (a2S (a8X (.inr (.inr (.inl rfl))) rfl a0q (a0c 0 (pv 0)) (a3Z (v:=.ty "tuple") rfl a0O boot_tuple rfl)))) (qw_or1 (a0Y (a5Q hu) (a0s a1p rfl a1a boot_len (a0b (a0c 0 (pv 0)) a0g)) a0w)))) (a0j (a1f q_bl)) a1b)
 (a0j (a1f (a0s (cd_all rfl) rfl w_all boot_all (a0b (q_lc ["part"] [] [] rfl (a2U (a0c 0 (pv 0))) (fun fp s H=>(a6J (i:=0) (k:=1) (show List.Nodup (["part"]:List Str) by decide +kernel) rfl (Or.inl rfl))) (fun fp s H=>a8V) (fun fp s H=>(a0E a6w mo_is_whole (hr.mono (by decide)) (a0b (a0c 0 (pv 0)) a0g)))) a0g)))))
abbrev a2D:TSp:=
 (a1W (a6N (eOp pLe (eCB pAbs (a0a (eOp pIx (a0d 0) (eC (.int 0))) a0i)) (eC (.int 999999999999))) (eOp pLe (eCB pAbs (a0a (eOp pIx (a0d 0) (eC (.int 1))) a0i)) (eC (.int 999999999999)))))
theorem a5T {sp:Fn} (m:At K mg "has_few_figures" "has_few_figures" (top 23) ["direction"]) (w_abs:mg "abs" = none) (a2O:∃ t,mg "LARGEST_PART" = some (.int 999999999999 t)) (len:∀ ds Q,sp ds Q->ds.length=1) (hsp:∀ ds Q,sp ds Q->a2D  { nx:=fun _=>Q (.v .non),rt:=Q } (a0m ["direction"] ds)):Def P w K mg base 1 "has_few_figures" ["direction"] (low K sp):=by
 have sc:FnScope ["direction"] ["direction"] (a0e (top 23)):=by norm_cast
 refine m.okP (k:=0) (t:=a2D ) sc (fun f cdv A outer s H E hr=>?_) len hsp
 ·
  have hu1:=a3d hr
  exact (a0j (a1f (q_and (a7Z opd_le (a0s cd_abs rfl w_abs boot_abs (a0b (a2r hu1 (a0c 0 (pv 0)) a0w) a0g)) (a7p a2O)) (q_one (a7Z opd_le (a0s cd_abs rfl w_abs boot_abs (a0b (a2r hu1 (a0c 0 (pv 0)) a0w) a0g)) (a7p a2O))))))
abbrev a5h:TSp:=
 (a1W (eOrV (eOp pGt (eOp pIx (a0d 0) (eC (.int 1))) (eC (.int 0))) (a6N (eOp pEq (eOp pIx (a0d 0) (eC (.int 1))) (eC (.int 0))) (eOp pGt (eOp pIx (a0d 0) (eC (.int 0))) (eC (.int 0))))))
theorem dq_points_up {sp:Fn} (m:At K mg "points_up" "points_up" (top 24) ["direction"])  (len:∀ ds Q,sp ds Q->ds.length=1) (hsp:∀ ds Q,sp ds Q->a5h  { nx:=fun _=>Q (.v .non),rt:=Q } (a0m ["direction"] ds)):Def P w K mg base 1 "points_up" ["direction"] (low K sp):=by
 have sc:FnScope ["direction"] ["direction"] (a0e (top 24)):=by norm_cast
 refine m.okP (k:=0) (t:=a5h ) sc (fun f cdv A outer s H E hr=>?_) len hsp
 ·
  have hu:=hr.units
  have hu1:=a3d hr
  exact (a0j (a1f (q_or (a7Z a8v (a2r hu1 (a0c 0 (pv 0)) a0w) a0w) (q_one (q_and (a7Z (a3Q hu) (a2r hu1 (a0c 0 (pv 0)) a0w) a0w) (q_one (a7Z a8v (a2r hu1 (a0c 0 (pv 0)) a0w) a0w)))))))
abbrev a5i:TSp:=
 (a1W (eOp pGt (eOp a8b (eOp a4O (eOp pIx (a0d 1) (eC (.int 0))) (eOp pIx (a0d 0) (eC (.int 1)))) (eOp a4O (eOp pIx (a0d 0) (eC (.int 0))) (eOp pIx (a0d 1) (eC (.int 1))))) (eC (.int 0))))
theorem dq_lies_left {sp:Fn} (m:At K mg "lies_left" "lies_left" (top 25) ["direction", "ahead"])  (len:∀ ds Q,sp ds Q->ds.length=2) (hsp:∀ ds Q,sp ds Q->a5i  { nx:=fun _=>Q (.v .non),rt:=Q } (a0m ["direction", "ahead"] ds)):Def P w K mg base 1 "lies_left" ["direction", "ahead"] (low K sp):=by
 have sc:FnScope ["direction", "ahead"] ["direction", "ahead"] (a0e (top 25)):=by norm_cast
 refine m.okP (k:=0) (t:=a5i ) sc (fun f cdv A outer s H E hr=>?_) len hsp
 ·
  have hu1:=a3d hr
  exact (a0j (a1f (a7Z a8v (a1H a4B (a1H a1M (a2r hu1 (a0c 1 (pv 1)) a0w) (a2r hu1 (a0c 0 (pv 0)) a0w)) (a1H a1M (a2r hu1 (a0c 0 (pv 0)) a0w) (a2r hu1 (a0c 1 (pv 1)) a0w))) a0w)))
abbrev a2E (a1d a1h a2M:Fn):TSp:=
 (a0z (sIf (a7W (a7V (a0t a1d (a0a (a0d 0) a0i)))) a3N a1e)
 (a0z (sIf (a7W (a7V (a0t a1h (a0a (a0d 0) a0i)))) a3N a1e)
 (a0z (sIf (a7W (a7V (a0t a2M (a0a (a0d 0) a0i)))) a3N a1e)
 (sIf (a0y (eOp pLt (eOp pIx (a0d 0) (eC (.int 2))) (eC (.int 1)))) a3N a1e))))
theorem a5U {a1d a1h a2M:Fn} {sp:Fn} (m:At K mg "check_direction" "check_direction" (top 26) ["direction"]) (a2x:Def P w K mg base 2 "has_three_wholes" ["direction"] (low K a1d)) (a5u:MonoF a1d) (a2J:Def P w K mg base 1 "has_few_figures" ["direction"] (low K a1h)) (a5R:MonoF a1h) (a5z:Def P w K mg base 1 "points_up" ["direction"] (low K a2M)) (mo_points_up:MonoF a2M) (len:∀ ds Q,sp ds Q->ds.length=1) (hsp:∀ ds Q,sp ds Q->a2E a1d a1h a2M { nx:=fun _=>Q (.v .non),rt:=Q } (a0m ["direction"] ds)):Def P w K mg base 3 "check_direction" ["direction"] (low K sp):=by
 have sc:FnScope ["direction"] ["direction"] (a0e (top 26)):=by norm_cast
 refine m.okP (k:=2) (t:=a2E a1d a1h a2M) sc (fun f cdv A outer s H E hr=>?_) len hsp
 ·
  have hu1:=a3d hr
  exact (a0f (a4y (a2T (a2S (a0E a2x a5u (hr.mono (by decide)) (a0b (a0c 0 (pv 0)) a0g)))) (a0j a3F) a1b)
 (a0f (a4y (a2T (a2S (a0E a2J a5R (hr.mono (by decide)) (a0b (a0c 0 (pv 0)) a0g)))) (a0j a3F) a1b)
 (a0f (a4y (a2T (a2S (a0E a5z mo_points_up (hr.mono (by decide)) (a0b (a0c 0 (pv 0)) a0g)))) (a0j a3F) a1b)
 (a0j (a4y (a0Y opd_lt (a2r hu1 (a0c 0 (pv 0)) a0w) a0w) (a0j a3F) a1b)))))
abbrev a3b (a0B a1r:Fn):TSp:=
 (sDrop (a0t a0B (a0a (a0d 1) a0i)))
abbrev a1V (a0B a1r:Fn):TSp:=
 (sIf (a7W (a7V (a0t a1r (a0a (a0d 1) (a0a (a0d 2) a0i))))) a3N a1e)
abbrev a2n (a0B a1r:Fn):TSp:=
 (a0z (sIf (a7W (a7V (eIsi "list" (a0d 0)))) a3N a1e)
 (a0z (sIf (a7W (a0y (a6F pLe pLe (eC (.int 2)) (eCB a3q (a0a (a0d 0) a0i)) (eC (.int 6))))) a3N a1e)
 (a0z (a6I (a6L (a0d 0)) (gN 1) (a3b a0B a1r))
 (a0z (sIf (a0y (eOp pGt (eCB pSum (a0a (a3s 1 [] (a6L (a0d 0)) (gN 0) a7Y (eOp pIx (a0d 0) (eC (.int 2)))) a0i)) (eC (.int 12)))) a3N a1e)
 (a6I (iZipP (a0a (a0d 0) (a0a (eSl (a0d 0) (ePart (eC (.int 1))) a4e) a0i))) (gT [2,1]) (a1V a0B a1r))))))
theorem a5y {a0B a1r:Fn} {sp:Fn} (m:At K mg "check_directions" "check_directions" (top 27) ["directions"]) (a0q:mg "isinstance" = none) (a1N:mg "list" = none) (a1a:mg "len" = none) (w_sum:mg "sum" = none) (w_zip:mg "zip" = none) (a2d:∃ t,mg "FEWEST_DIRECTIONS" = some (.int 2 t)) (a2C:∃ t,mg "MOST_DIRECTIONS" = some (.int 6 t)) (a4o:∃ t,mg "MOST_BANDS" = some (.int 12 t)) (a2K:Def P w K mg base 3 "check_direction" ["direction"] (low K a0B)) (a5S:MonoF a0B) (a5A:Def P w K mg base 1 "lies_left" ["direction", "ahead"] (low K a1r)) (mo_lies_left:MonoF a1r) (len:∀ ds Q,sp ds Q->ds.length=1) (hsp:∀ ds Q,sp ds Q->a2n a0B a1r { nx:=fun _=>Q (.v .non),rt:=Q } (a0m ["directions", "direction", "ahead"] ds)):Def P w K mg base 4 "check_directions" ["directions"] (low K sp):=by
 have sc:FnScope ["directions", "direction", "ahead"] ["directions"] (a0e (top 27)):=by norm_cast
 refine m.okP (k:=3) (t:=a2n a0B a1r) sc (fun f cdv A outer s H E hr=>?_) len hsp
 ·
  have hu1:=a3d hr
  exact (a0f (a4y (a2T (a2S (a8X (.inr (.inr (.inr (.inl rfl)))) rfl a0q (a0c 0 (pv 0)) (a3Z (v:=.ty "list") rfl a1N boot_list rfl)))) (a0j a3F) a1b)
 (a0f (a4y (a2T (qt_chain op_le op_le (a7p a2d) (a0s a1p rfl a1a boot_len (a0b (a0c 0 (pv 0)) a0g)) (a7p a2C))) (a0j a3F) a1b)
 (a0f (a3O PassesOwn.never rfl (a2U (a0c 0 (pv 0))) (a6J (i:=1) (k:=3) sc.nd rfl (Or.inl rfl)) (a0j (q_expr (a0E a2K a5S (hr.mono (by decide)) (a0b (a0c 1 (pv 1)) a0g)))))
 (a0f (a4y (a0Y a8v (a0s (cd_sum rfl) rfl w_sum boot_sum (a0b (q_lc ["direction"] [] [] rfl (a2U (a0c 0 (pv 0))) (fun fp s H=>(a6J (i:=0) (k:=1) (show List.Nodup (["direction"]:List Str) by decide +kernel) rfl (Or.inl rfl))) (fun fp s H=>a8V) (fun fp s H=>(a2r hu1 (a0c 0 (pv 0)) a0w))) a0g)) (a7p a4o)) (a0j a3F) a1b)
 (a0j (a3O PassesOwn.never rfl (q_iZip rfl w_zip (a0b (a0c 0 (pv 0)) (a0b (a7o (a0c 0 (pv 0)) (a7m a0w) a7n) a0g))) (q_gT (k:=3) (is:=[2,1]) rfl (a0Z (a1n (i:=2) sc.nd rfl (Or.inl rfl)) (a0Z (a1n (i:=1) sc.nd rfl (Or.inl rfl)) a4A))) (a0j (a4y (a2T (a2S (a0E a5A mo_lies_left (hr.mono (by decide)) (a0b (a0c 1 (pv 1)) (a0b (a0c 2 (pv 2)) a0g))))) (a0j a3F) a1b))))))))
abbrev a7c (C:Addr) (a0J:Fn):TSp:=
 (sExt 2 (eOp a4O (a5a (a0a (a0d 3) a0i)) (eOp pIx (a0d 4) (eC (.int 2)))))
abbrev t_init (C:Addr) (a0J:Fn):TSp:=
 (a0z (sDrop (a0t a0J (a0a (a0d 1) a0i)))
 (a0z (a5r 2 (a5a a0i))
 (a0z (a6I (iEnumP (a0a (a0d 1) a0i)) (gT [3,4]) (a7c C a0J))
 (a0z (sAttr C 0 "kinds" (eCB a2A (a0a (a0d 2) a0i)))
 (sAttr C 0 "vectors" (eCB a2A (a0a (a3s 1 [] (a6L (a0d 1)) (gN 0) a7Y (a2f (a0a (eOp pIx (a0d 0) (eC (.int 0))) (a0a (eOp pIx (a0d 0) (eC (.int 1))) a0i)))) a0i)))))))
theorem dq_init {C:Addr} {a0J:Fn} {sp:Fn} (m:IAt K mg "Sides" C "Sides.__init__" (a0P (top 28) 0) ["self", "directions"]) (a5f:mg "enumerate" = none) (a0O:mg "tuple" = none) (cl:Cls K C) (n_kinds:a4n K C "kinds") (n_vectors:a4n K C "vectors") (a2y:Def P w K mg base 4 "check_directions" ["directions"] (low K a0J)) (a5v:MonoF a0J) (len:∀ ds Q,sp ds Q->ds.length + 1=2) (hsp:∀ ds Q,sp ds Q -> ∀ a,t_init C a0J { nx:=fun ρ=>∃ d,ρ[0]?=some (.own a d)/\Q (.nw d),rt:=fun _=>False } (a4k C a ["self", "directions", "kinds", "number", "direction"] ds)):IDef P w K mg base 5 "Sides" C ["self", "directions"] sp:=by
 have sc:FnScope ["self", "directions", "kinds", "number", "direction"] ["self", "directions"] (a0e (a0P (top 28) 0)):=by norm_cast
 refine m.okP (k:=4) (t:=t_init C a0J) sc (fun f cdv A outer s H E hr=>?_) len hsp
 ·
  have hu1:=a3d hr
  exact (a0f (q_expr (a0E a2y a5v (hr.mono (by decide)) (a0b (a0c 1 (pv 1)) a0g)))
 (a0f (a4w (i:=2) sc.nd rfl (Or.inl rfl) (a3G a0g))
 (a0f (a3O PassesOwn.never rfl (q_iEnum rfl a5f (a0b (a0c 1 (pv 1)) a0g)) (q_gT (k:=5) (is:=[3,4]) rfl (a0Z (a1n (i:=3) sc.nd rfl (Or.inl rfl)) (a0Z (a1n (i:=4) sc.nd rfl (Or.inl rfl)) a4A))) (a0j (q_ext (i:=2) (pv 2) (a1H a1M (a3G (a0b (a0c 3 (pv 3)) a0g)) (a2r hu1 (a0c 4 (pv 4)) a0w)))))
 (a0f (q_attr (i:=0) cl n_kinds (pv 0) (a1E a3f rfl a0O boot_tuple (a0b (a0c 2 (pv 2)) a0g)))
 (a0j (q_attr (i:=0) cl n_vectors (pv 0) (a1E a3f rfl a0O boot_tuple (a0b (q_lc ["direction"] [] [] rfl (a2U (a0c 1 (pv 1))) (fun fp s H=>(a6J (i:=0) (k:=1) (show List.Nodup (["direction"]:List Str) by decide +kernel) rfl (Or.inl rfl))) (fun fp s H=>a8V) (fun fp s H=>(a1x (a0b (a2r hu1 (a0c 0 (pv 0)) a0w) (a0b (a2r hu1 (a0c 0 (pv 0)) a0w) a0g))))) a0g))))))))
abbrev t_many (C:Addr):TSp:=
 (a1W (eCB a3q (a0a (eFld C "kinds" (a0d 0)) a0i)))
theorem dq_many {C:Addr} {sp:Fn} (m:MAt K C "many" "Sides.many" (a0P (top 28) 1) ["self"]) (a1a:mg "len" = none) (cl:Cls K C) (n_kinds:a4n K C "kinds") (len:∀ ds Q,sp ds Q->ds.length=1) (hsp:∀ ds Q,sp ds Q->t_many C  { nx:=fun _=>Q (.v .non),rt:=Q } (a0m ["self"] ds)):MDef P w K mg base 1 C "many" ["self"] (low K sp):=by
 have sc:FnScope ["self"] ["self"] (a0e (a0P (top 28) 1)):=by norm_cast
 refine m.okP (k:=0) (t:=t_many C ) sc (fun f cdv A outer s H E hr=>?_) len hsp
 ·
  exact (a0j (a1f (a0s a1p rfl a1a boot_len (a0b (q_fld cl n_kinds (a0c 0 (pv 0))) a0g))))
abbrev t_kind (C:Addr):TSp:=
 (a1W (eOp pIx (eFld C "kinds" (a0d 0)) (a0d 1)))
theorem dq_kind {C:Addr} {sp:Fn} (m:MAt K C "kind" "Sides.kind" (a0P (top 28) 2) ["self", "band"]) (cl:Cls K C) (n_kinds:a4n K C "kinds") (len:∀ ds Q,sp ds Q->ds.length=2) (hsp:∀ ds Q,sp ds Q->t_kind C  { nx:=fun _=>Q (.v .non),rt:=Q } (a0m ["self", "band"] ds)):MDef P w K mg base 1 C "kind" ["self", "band"] (low K sp):=by
 have sc:FnScope ["self", "band"] ["self", "band"] (a0e (a0P (top 28) 2)):=by norm_cast
 refine m.okP (k:=0) (t:=t_kind C ) sc (fun f cdv A outer s H E hr=>?_) len hsp
 ·
  have hu1:=a3d hr
  exact (a0j (a1f (a2r hu1 (q_fld cl n_kinds (a0c 0 (pv 0))) (a0c 1 (pv 1)))))
abbrev b_pairs_0 (C:Addr) (a1U a1P:Fn):TSp:=
 (sIf (a0y (eOp pNe (a6M C "kind" a1P (a0d 0) (a0a (a0d 2) a0i)) (a6M C "kind" a1P (a0d 0) (a0a (a0d 3) a0i)))) (sApp 1 (a2f (a0a (a0d 2) (a0a (a0d 3) a0i)))) a1e)
abbrev a4J (C:Addr) (a1U a1P:Fn):TSp:=
 (a6I (a7J (a0a (eOp a2Y (a0d 2) (eC (.int 1))) (a0a (a6M C "many" a1U (a0d 0) a0i) a0i))) (gN 3) (b_pairs_0 C a1U a1P))
abbrev t_pairs (C:Addr) (a1U a1P:Fn):TSp:=
 (a0z (a5r 1 (a5a a0i))
 (a0z (a6I (a2e (a0a (a6M C "many" a1U (a0d 0) a0i) a0i)) (gN 2) (a4J C a1U a1P))
 (a1W (a0d 1))))
theorem dq_pairs {C:Addr} {a1U a1P:Fn} {sp:Fn} (m:MAt K C "pairs" "Sides.pairs" (a0P (top 28) 4) ["self"]) (a0H:mg "range" = none) (cl:Cls K C) (a7O:MDef P w K mg base 1 C "many" ["self"] (low K a1U)) (a5t:MonoF a1U) (a6G:MDef P w K mg base 1 C "kind" ["self", "band"] (low K a1P)) (a4D:MonoF a1P) (len:∀ ds Q,sp ds Q->ds.length=1) (hsp:∀ ds Q,sp ds Q->t_pairs C a1U a1P { nx:=fun _=>Q (.v .non),rt:=Q } (a0m ["self", "found", "a", "b"] ds)):MDef P w K mg base 2 C "pairs" ["self"] (low K sp):=by
 have sc:FnScope ["self", "found", "a", "b"] ["self"] (a0e (a0P (top 28) 4)):=by norm_cast
 refine m.okP (k:=1) (t:=t_pairs C a1U a1P) sc (fun f cdv A outer s H E hr=>?_) len hsp
 ·
  have hu:=hr.units
  exact (a0f (a4w (i:=1) sc.nd rfl (Or.inl rfl) (a3G a0g))
 (a0f (a3O PassesOwn.never rfl (a2s rfl a0H (a0b (a8W cl a7O a5t (hr.mono (by decide)) (a0c 0 (pv 0))) a0g)) (a6J (i:=2) (k:=4) sc.nd rfl (Or.inl rfl)) (a0j (a3O PassesOwn.never rfl (q_iRange2 rfl a0H (a0b (a1H a0U (a0c 2 (pv 2)) a0w) (a0b (a8W cl a7O a5t (hr.mono (by decide)) (a0c 0 (pv 0))) a0g))) (a6J (i:=3) (k:=4) sc.nd rfl (Or.inl rfl)) (a0j (a4y (a0Y (a5Q hu) (q_meth cl a6G a4D (hr.mono (by decide)) (a0c 0 (pv 0)) (a0b (a0c 2 (pv 2)) a0g)) (q_meth cl a6G a4D (hr.mono (by decide)) (a0c 0 (pv 0)) (a0b (a0c 3 (pv 3)) a0g))) (a0j (q_app (i:=1) (pv 1) (a1x (a0b (a0c 2 (pv 2)) (a0b (a0c 3 (pv 3)) a0g))))) a1b)))))
 (a0j (a1f (a0c 1 (pv 1))))))
abbrev a8I (C:Addr) (a3K a1U a1P:Fn):TSp:=
 (sIf (a0y (eOp pNe (a6M C "kind" a1P (a0d 0) (a0a (a0d 4) a0i)) (a6M C "kind" a1P (a0d 0) (a0a (a0d 3) a0i)))) (sApp 1 (a2f (a0a (a0d 2) (a0a (a0d 3) (a0a (a0d 4) a0i))))) a1e)
abbrev a3T (C:Addr) (a3K a1U a1P:Fn):TSp:=
 (a6I (a7J (a0a (eOp a2Y (a0d 3) (eC (.int 1))) (a0a (a6M C "many" a1U (a0d 0) a0i) a0i))) (gN 4) (a8I C a3K a1U a1P))
abbrev a8N (C:Addr) (a3K a1U a1P:Fn):TSp:=
 (a0z (a5r 1 (a5a a0i))
 (a0z (a6I (a6L (a6M C "pairs" a3K (a0d 0) a0i)) (gT [2,3]) (a3T C a3K a1U a1P))
 (a1W (a0d 1))))
theorem dq_threes {C:Addr} {a3K a1U a1P:Fn} {sp:Fn} (m:At K mg "threes" "threes" (top 9) ["sides"]) (a0H:mg "range" = none) (cl:Cls K C) (d_pairs:MDef P w K mg base 2 C "pairs" ["self"] (low K a3K)) (mo_pairs:MonoF a3K) (a7O:MDef P w K mg base 1 C "many" ["self"] (low K a1U)) (a5t:MonoF a1U) (a6G:MDef P w K mg base 1 C "kind" ["self", "band"] (low K a1P)) (a4D:MonoF a1P) (len:∀ ds Q,sp ds Q->ds.length=1) (hsp:∀ ds Q,sp ds Q->a8N C a3K a1U a1P { nx:=fun _=>Q (.v .non),rt:=Q } (a0m ["sides", "told", "a", "b", "c"] ds)):Def P w K mg base 3 "threes" ["sides"] (low K sp):=by
 have sc:FnScope ["sides", "told", "a", "b", "c"] ["sides"] (a0e (top 9)):=by norm_cast
 refine m.okP (k:=2) (t:=a8N C a3K a1U a1P) sc (fun f cdv A outer s H E hr=>?_) len hsp
 ·
  have hu:=hr.units
  exact (a0f (a4w (i:=1) sc.nd rfl (Or.inl rfl) (a3G a0g))
 (a0f (a3O PassesOwn.never rfl (a2U (a8W cl d_pairs mo_pairs (hr.mono (by decide)) (a0c 0 (pv 0)))) (q_gT (k:=5) (is:=[2,3]) rfl (a0Z (a1n (i:=2) sc.nd rfl (Or.inl rfl)) (a0Z (a1n (i:=3) sc.nd rfl (Or.inl rfl)) a4A))) (a0j (a3O PassesOwn.never rfl (q_iRange2 rfl a0H (a0b (a1H a0U (a0c 3 (pv 3)) a0w) (a0b (a8W cl a7O a5t (hr.mono (by decide)) (a0c 0 (pv 0))) a0g))) (a6J (i:=4) (k:=5) sc.nd rfl (Or.inl rfl)) (a0j (a4y (a0Y (a5Q hu) (q_meth cl a6G a4D (hr.mono (by decide)) (a0c 0 (pv 0)) (a0b (a0c 4 (pv 4)) a0g)) (q_meth cl a6G a4D (hr.mono (by decide)) (a0c 0 (pv 0)) (a0b (a0c 3 (pv 3)) a0g))) (a0j (q_app (i:=1) (pv 1) (a1x (a0b (a0c 2 (pv 2)) (a0b (a0c 3 (pv 3)) (a0b (a0c 4 (pv 4)) a0g)))))) a1b)))))
 (a0j (a1f (a0c 1 (pv 1))))))
abbrev a7g (a4V a4W a1A:Fn):TSp:=
 (a0z (sIf (a0y (eOp a1O (a0d 2) (a0t a4V (a0a (a0d 0) a0i)))) a3N a1e)
 (a0z (a1l 3 (a0t a1A (a0a (a0t a4W (a0a (a0d 1) a0i)) (a0a (a0d 2) a0i))))
 (a0z (sIf (a0y (eOp pIsN (a0d 3) (eC .non))) a3N a1e)
 (a0z (a1l 4 (a3s 1 [2] (a6L (a0d 1)) (gN 0) (eOr (a0y (eOp a1O (eOp pIx (a0d 0) (eC (.int 0))) (a0d 1))) (a0y (eOp a1O (eOp pIx (a0d 0) (eC (.int 1))) (a0d 1)))) (a0d 0)))
 (a1W (eCB a1z (a0a (eOp a2Y (a0d 4) (a0d 3)) a0i)))))))
theorem dq_flipped {a4V a4W a1A:Fn} {sp:Fn} (m:At K mg "flipped" "flipped" (top 14) ["sides", "floor", "three"]) (a0N:mg "sorted" = none) (d_threes:Def P w K mg base 3 "threes" ["sides"] (low K a4V)) (a7A:MonoF a4V) (d_belows:Def P w K mg base 1 "belows" ["floor"] (low K a4W)) (a3R:MonoF a4W) (a3t:Def P w K mg base 3 "tiles_by_flip" ["below", "three"] (low K a1A)) (a6K:MonoF a1A) (len:∀ ds Q,sp ds Q->ds.length=3) (hsp:∀ ds Q,sp ds Q->a7g a4V a4W a1A { nx:=fun _=>Q (.v .non),rt:=Q } (a0m ["sides", "floor", "three", "tiles", "others"] ds)):Def P w K mg base 4 "flipped" ["sides", "floor", "three"] (low K sp):=by
 have sc:FnScope ["sides", "floor", "three", "tiles", "others"] ["sides", "floor", "three"] (a0e (top 14)):=by norm_cast
 refine m.okP (k:=3) (t:=a7g a4V a4W a1A) sc (fun f cdv A outer s H E hr=>?_) len hsp
 ·
  have hu1:=a3d hr
  have hu65:=a8K hr
  exact (a0f (a4y (a0Y (a3P hu65 hu1) (a0c 2 (pv 2)) (a0E d_threes a7A (hr.mono (by decide)) (a0b (a0c 0 (pv 0)) a0g))) (a0j a3F) a1b)
 (a0f (a1m (i:=3) sc.nd rfl (Or.inl rfl) (a0E a3t a6K (hr.mono (by decide)) (a0b (a0E d_belows a3R (hr.mono (by decide)) (a0b (a0c 1 (pv 1)) a0g)) (a0b (a0c 2 (pv 2)) a0g))))
 (a0f (a4y (a0Y opd_isN (a0c 3 (pv 3)) q_non) (a0j a3F) a1b)
 (a0f (q_setX (q_lcX (iy:=4) ["tile"] ["three"] [2] sc.nd rfl (Or.inl rfl) rfl (a2U (a0c 1 (pv 1))) (fun fp s H=>(a6J (i:=0) (k:=1) (show List.Nodup (["tile", "three"]:List Str) by decide +kernel) rfl (Or.inl rfl))) (fun fp s H=>(a5s (QW.qt (a8U (a0Y (a3P hu65 hu1) (a2r hu1 (a0c 0 (pv 0)) a0w) (a0c 1 (pv 1))) (qw_or1 (a0Y (a3P hu65 hu1) (a2r hu1 (a0c 0 (pv 0)) a0w) (a0c 1 (pv 1)))))))) (fun fp s H=>(a0c 0 (pv 0)))))
 (a0j (a1f (a0s a2V rfl a0N boot_sorted (a0b (a1H a0U (a0c 4 (pv 4)) (a0c 3 (pv 3))) a0g))))))))
abbrev a3Y:TSp:=
 (a0z (sIf (a0y (eOp pLt (a0d 1) (eCB a3q (a0a (a0d 0) a0i)))) (a1W (eOp pIx (a0d 0) (a0d 1))) a1e)
 (a1W (eC (.int 5))))
theorem a8i {sp:Fn} (m:At K mg "_law_cell_at" "_law_cell_at" (top 30) ["_law_script", "_law_k"]) (a1a:mg "len" = none) (len:∀ ds Q,sp ds Q->ds.length=2) (hsp:∀ ds Q,sp ds Q->a3Y  { nx:=fun _=>Q (.v .non),rt:=Q } (a0m ["_law_script", "_law_k"] ds)):Def P w K mg base 1 "_law_cell_at" ["_law_script", "_law_k"] (low K sp):=by
 have sc:FnScope ["_law_script", "_law_k"] ["_law_script", "_law_k"] (a0e (top 30)):=by norm_cast
 refine m.okP (k:=0) (t:=a3Y ) sc (fun f cdv A outer s H E hr=>?_) len hsp
 ·
  have hu1:=a3d hr
  exact (a0f (a4y (a0Y opd_lt (a0c 1 (pv 1)) (a0s a1p rfl a1a boot_len (a0b (a0c 0 (pv 0)) a0g))) (a0j (a1f (a2r hu1 (a0c 0 (pv 0)) (a0c 1 (pv 1))))) a1b)
 (a0j (a1f a0w)))
abbrev a5j:TSp:=
 (a1W (a6N (eIsi "int" (a0d 0)) (eNotV (eIsi "bool" (a0d 0)))))
theorem dq_law_whole {sp:Fn} (m:At K mg "_law_whole" "_law_whole" (top 31) ["_law_found"]) (a0q:mg "isinstance" = none) (a8J:mg "int" = none) (a8k:mg "bool" = none) (len:∀ ds Q,sp ds Q->ds.length=1) (hsp:∀ ds Q,sp ds Q->a5j  { nx:=fun _=>Q (.v .non),rt:=Q } (a0m ["_law_found"] ds)):Def P w K mg base 1 "_law_whole" ["_law_found"] (low K sp):=by
 have sc:FnScope ["_law_found"] ["_law_found"] (a0e (top 31)):=by norm_cast
 refine m.okP (k:=0) (t:=a5j ) sc (fun f cdv A outer s H E hr=>?_) len hsp
 ·
  exact (a0j (a1f (q_and (a8X (.inl rfl) rfl a0q (a0c 0 (pv 0)) (a3Z (v:=.ty "int") rfl a8J boot_int rfl)) (q_one (q_not (a8X (.inr (.inl rfl)) rfl a0q (a0c 0 (pv 0)) (a3Z (v:=.ty "bool") rfl a8k boot_bool rfl)))))))
abbrev a5c (a0C:Fn):TSp:=
 (sIf (a7W (a7V (a0t a0C (a0a (a0d 1) a0i)))) (a1W (eC (.bl false))) a1e)
abbrev a4p (a0C:Fn):TSp:=
 (a0z (sIf (a7W (a7V (eIsi "tuple" (a0d 0)))) (a1W (eC (.bl false))) a1e)
 (a0z (a6I (a6L (a0d 0)) (gN 1) (a5c a0C))
 (a1W (eC (.bl true)))))
theorem dq_law_wholes {a0C:Fn} {sp:Fn} (m:At K mg "_law_wholes" "_law_wholes" (top 32) ["_law_found"]) (a0q:mg "isinstance" = none) (a0O:mg "tuple" = none) (a2h:Def P w K mg base 1 "_law_whole" ["_law_found"] (low K a0C)) (a3z:MonoF a0C) (len:∀ ds Q,sp ds Q->ds.length=1) (hsp:∀ ds Q,sp ds Q->a4p a0C { nx:=fun _=>Q (.v .non),rt:=Q } (a0m ["_law_found", "_law_number"] ds)):Def P w K mg base 2 "_law_wholes" ["_law_found"] (low K sp):=by
 have sc:FnScope ["_law_found", "_law_number"] ["_law_found"] (a0e (top 32)):=by norm_cast
 refine m.okP (k:=1) (t:=a4p a0C) sc (fun f cdv A outer s H E hr=>?_) len hsp
 ·
  exact (a0f (a4y (a2T (a2S (a8X (.inr (.inr (.inl rfl))) rfl a0q (a0c 0 (pv 0)) (a3Z (v:=.ty "tuple") rfl a0O boot_tuple rfl)))) (a0j (a1f q_bl)) a1b)
 (a0f (a3O PassesOwn.never rfl (a2U (a0c 0 (pv 0))) (a6J (i:=1) (k:=2) sc.nd rfl (Or.inl rfl)) (a0j (a4y (a2T (a2S (a0E a2h a3z (hr.mono (by decide)) (a0b (a0c 1 (pv 1)) a0g)))) (a0j (a1f q_bl)) a1b)))
 (a0j (a1f q_bl))))
abbrev a3h:TSp:=
 (a0z (a1l 6 (eOp a8b (eOp a8b (a0d 1) (eCB a3q (a0a (a0d 4) a0i))) (eOp a8b (eOp a8b (a0d 2) (a0d 5)) (eC (.int 1)))))
 (a0z (a1l 7 (eOp a2Y (eC (.int 1)) (eOp a6a (eOp a6a (eOp a4O (eOp a6a (eOp a4O (eOp a2Y (a0d 0) (eOp a4O (eC (.int 31)) (a0d 5))) (eC (.int 48271))) (eC (.int 2147483647))) (eOp a2Y (eOp a4O (a0d 5) (a0d 5)) (eC (.int 17)))) (eC (.int 99991))) (eCB pMin2 (a0a (a0d 6) (a0a (eC (.int 3)) a0i))))))
 (a0z (sIf (a0y (eOp pGt (a0d 3) (eC (.int 1)))) (a0z (a1l 7 (eOp a2Y (eC (.int 1)) (eOp a6a (a0d 3) (a0d 6))))
 (a1l 3 (eOp pDiv (a0d 3) (a0d 6)))) a1e)
 (a1l 4 (eOp a2Y (a0d 4) (eOp a4O (a5a (a0a (a0d 5) a0i)) (a0d 7)))))))
abbrev a5n:TSp:=
 (a0z (a1l 2 (eOp a2Y (eC (.int 2)) (eOp a6a (a0d 0) (eC (.int 5)))))
 (a0z (a1l 3 (eOp pDiv (a0d 0) (eC (.int 5))))
 (a0z (a1l 4 (a5a a0i))
 (a0z (a6I (a2e (a0a (a0d 2) a0i)) (gN 5) a3h)
 (a1W (a0d 4))))))
theorem dq_law_bands {sp:Fn} (m:At K mg "_law_bands" "_law_bands" (top 33) ["_law_cell", "_law_most"]) (a0H:mg "range" = none) (a1a:mg "len" = none) (w_min:mg "min" = none) (len:∀ ds Q,sp ds Q->ds.length=2) (hsp:∀ ds Q,sp ds Q->a5n  { nx:=fun _=>Q (.v .non),rt:=Q } (a0m ["_law_cell", "_law_most", "_law_kinds", "_law_rest", "_law_bands_here", "_law_k", "_law_spare", "_law_count"] ds)):Def P w K mg base 1 "_law_bands" ["_law_cell", "_law_most"] (low K sp):=by
 have sc:FnScope ["_law_cell", "_law_most", "_law_kinds", "_law_rest", "_law_bands_here", "_law_k", "_law_spare", "_law_count"] ["_law_cell", "_law_most"] (a0e (top 33)):=by norm_cast
 refine m.okP (k:=0) (t:=a5n ) sc (fun f cdv A outer s H E hr=>?_) len hsp
 ·
  exact (a0f (a1m (i:=2) sc.nd rfl (Or.inl rfl) (a1H a0U a0w (a1H a2I (a0c 0 (pv 0)) a0w)))
 (a0f (a1m (i:=3) sc.nd rfl (Or.inl rfl) (a1H a6i (a0c 0 (pv 0)) a0w))
 (a0f (a1m (i:=4) sc.nd rfl (Or.inl rfl) (a3G a0g))
 (a0f (a3O PassesOwn.never rfl (a2s rfl a0H (a0b (a0c 2 (pv 2)) a0g)) (a6J (i:=5) (k:=8) sc.nd rfl (Or.inl rfl)) (a0f (a1m (i:=6) sc.nd rfl (Or.inl rfl) (a1H a4B (a1H a4B (a0c 1 (pv 1)) (a0s a1p rfl a1a boot_len (a0b (a0c 4 (pv 4)) a0g))) (a1H a4B (a1H a4B (a0c 2 (pv 2)) (a0c 5 (pv 5))) a0w)))
 (a0f (a1m (i:=7) sc.nd rfl (Or.inl rfl) (a1H a0U a0w (a1H a2I (a1H a2I (a1H a1M (a1H a2I (a1H a1M (a1H a0U (a0c 0 (pv 0)) (a1H a1M a0w (a0c 5 (pv 5)))) a0w) a0w) (a1H a0U (a1H a1M (a0c 5 (pv 5)) (a0c 5 (pv 5))) a0w)) a0w) (a0s (cd_min2 rfl) rfl w_min boot_min (a0b (a0c 6 (pv 6)) (a0b a0w a0g))))))
 (a0f (a4y (a0Y a8v (a0c 3 (pv 3)) a0w) (a0f (a1m (i:=7) sc.nd rfl (Or.inl rfl) (a1H a0U a0w (a1H a2I (a0c 3 (pv 3)) (a0c 6 (pv 6)))))
 (a0j (a1m (i:=3) sc.nd rfl (Or.inl rfl) (a1H a6i (a0c 3 (pv 3)) (a0c 6 (pv 6)))))) a1b)
 (a0j (a1m (i:=4) sc.nd rfl (Or.inl rfl) (a1H a0U (a0c 4 (pv 4)) (a1H a1M (a3G (a0b (a0c 5 (pv 5)) a0g)) (a0c 7 (pv 7))))))))))
 (a0j (a1f (a0c 4 (pv 4))))))))
abbrev a6b:TSp:=
 (a1W (eOp a6a (eOp a6a (eOp a4O (eOp a6a (eOp a4O (eOp a2Y (a0d 0) (eOp a4O (eC (.int 31)) (a0d 1))) (eC (.int 48271))) (eC (.int 2147483647))) (eOp a2Y (eOp a4O (a0d 1) (a0d 1)) (eC (.int 17)))) (eC (.int 99991))) (a0d 2)))
theorem dq_law_pick {sp:Fn} (m:At K mg "_law_pick" "_law_pick" (top 34) ["_law_cell", "_law_step", "_law_many_here"])  (len:∀ ds Q,sp ds Q->ds.length=3) (hsp:∀ ds Q,sp ds Q->a6b  { nx:=fun _=>Q (.v .non),rt:=Q } (a0m ["_law_cell", "_law_step", "_law_many_here"] ds)):Def P w K mg base 1 "_law_pick" ["_law_cell", "_law_step", "_law_many_here"] (low K sp):=by
 have sc:FnScope ["_law_cell", "_law_step", "_law_many_here"] ["_law_cell", "_law_step", "_law_many_here"] (a0e (top 34)):=by norm_cast
 refine m.okP (k:=0) (t:=a6b ) sc (fun f cdv A outer s H E hr=>?_) len hsp
 ·
  exact (a0j (a1f (a1H a2I (a1H a2I (a1H a1M (a1H a2I (a1H a1M (a1H a0U (a0c 0 (pv 0)) (a1H a1M a0w (a0c 1 (pv 1)))) a0w) a0w) (a1H a0U (a1H a1M (a0c 1 (pv 1)) (a0c 1 (pv 1))) a0w)) a0w) (a0c 2 (pv 2)))))
abbrev a3o:TSp:=
 (a1W (eOp a2Y (eOp a2Y (eSl (a0d 0) a4e (ePart (a0d 1))) (a5a (a0a (eOp pIx (a0d 0) (eOp a2Y (a0d 1) (eC (.int 1)))) (a0a (eOp pIx (a0d 0) (a0d 1)) a0i)))) (eSl (a0d 0) (ePart (eOp a2Y (a0d 1) (eC (.int 2)))) a4e)))
theorem a6Q {sp:Fn} (m:At K mg "_law_exchanged" "_law_exchanged" (top 35) ["_law_path", "_law_p"])  (len:∀ ds Q,sp ds Q->ds.length=2) (hsp:∀ ds Q,sp ds Q->a3o  { nx:=fun _=>Q (.v .non),rt:=Q } (a0m ["_law_path", "_law_p"] ds)):Def P w K mg base 1 "_law_exchanged" ["_law_path", "_law_p"] (low K sp):=by
 have sc:FnScope ["_law_path", "_law_p"] ["_law_path", "_law_p"] (a0e (top 35)):=by norm_cast
 refine m.okP (k:=0) (t:=a3o ) sc (fun f cdv A outer s H E hr=>?_) len hsp
 ·
  have hu1:=a3d hr
  exact (a0j (a1f (a1H a0U (a1H a0U (a7o (a0c 0 (pv 0)) a7n (a7m (a0c 1 (pv 1)))) (a3G (a0b (a2r hu1 (a0c 0 (pv 0)) (a1H a0U (a0c 1 (pv 1)) a0w)) (a0b (a2r hu1 (a0c 0 (pv 0)) (a0c 1 (pv 1))) a0g)))) (a7o (a0c 0 (pv 0)) (a7m (a1H a0U (a0c 1 (pv 1)) a0w)) a7n))))
abbrev a4j (a2j a0h:Fn):TSp:=
 (a0z (a1l 6 (eOp a8b (eCB a3q (a0a (a0d 2) a0i)) (eC (.int 1))))
 (a0z (a1l 7 (a3s 1 [0,2] (a2e (a0a (a0d 6) a0i)) (gN 0) (a0y (eOp pLt (eOp pIx (a0d 1) (eOp pIx (a0d 2) (a0d 0))) (eOp pIx (a0d 1) (eOp pIx (a0d 2) (eOp a2Y (a0d 0) (eC (.int 1))))))) (a0d 0)))
 (a0z (sIf (a0y (eOp pEq (a0d 7) (a5a a0i))) (a1W (a0d 3)) a1e)
 (a0z (a1l 8 (a0t a2j (a0a (a0d 1) (a0a (a0d 5) (a0a (eCB a3q (a0a (a0d 7) a0i)) a0i)))))
 (a0z (sIf (a0y (eOp pGt (a0d 4) (eC (.int 1)))) (a0z (a1l 8 (eOp a6a (a0d 4) (eCB a3q (a0a (a0d 7) a0i))))
 (a1l 4 (eOp pDiv (a0d 4) (eCB a3q (a0a (a0d 7) a0i))))) a1e)
 (a0z (sApp 3 (eOp pIx (a0d 7) (a0d 8)))
 (a1l 2 (a0t a0h (a0a (a0d 2) (a0a (eOp pIx (a0d 7) (a0d 8)) a0i))))))))))
abbrev a7f (a2j a0h:Fn):TSp:=
 (a0z (a1l 2 (eLR1 (a0a (eCB a3q (a0a (a0d 0) a0i)) a0i)))
 (a0z (a5r 3 (a5a a0i))
 (a0z (a1l 4 (a0d 1))
 (a0z (a6I (a2e (a0a (eOp a4O (eCB a3q (a0a (a0d 0) a0i)) (eCB a3q (a0a (a0d 0) a0i))) a0i)) (gN 5) (a4j a2j a0h))
 (a1W (a0d 3))))))
theorem dq_law_row {a2j a0h:Fn} {sp:Fn} (m:At K mg "_law_row" "_law_row" (top 36) ["_law_bands_here", "_law_cell"]) (a1a:mg "len" = none) (a1N:mg "list" = none) (a0H:mg "range" = none) (a6u:Def P w K mg base 1 "_law_pick" ["_law_cell", "_law_step", "_law_many_here"] (low K a2j)) (mo_law_pick:MonoF a2j) (a0R:Def P w K mg base 1 "_law_exchanged" ["_law_path", "_law_p"] (low K a0h)) (a1I:MonoF a0h) (len:∀ ds Q,sp ds Q->ds.length=2) (hsp:∀ ds Q,sp ds Q->a7f a2j a0h { nx:=fun _=>Q (.v .non),rt:=Q } (a0m ["_law_bands_here", "_law_cell", "_law_path", "_law_row_here", "_law_rest", "_law_step", "_law_last", "_law_spots", "_law_pick_here"] ds)):Def P w K mg base 2 "_law_row" ["_law_bands_here", "_law_cell"] (low K sp):=by
 have sc:FnScope ["_law_bands_here", "_law_cell", "_law_path", "_law_row_here", "_law_rest", "_law_step", "_law_last", "_law_spots", "_law_pick_here"] ["_law_bands_here", "_law_cell"] (a0e (top 36)):=by norm_cast
 refine m.okP (k:=1) (t:=a7f a2j a0h) sc (fun f cdv A outer s H E hr=>?_) len hsp
 ·
  have hu:=hr.units
  have hu1:=a3d hr
  exact (a0f (a1m (i:=2) sc.nd rfl (Or.inr rfl) (a4x rfl rfl a1N rfl a0H (a0b (a0s a1p rfl a1a boot_len (a0b (a0c 0 (pv 0)) a0g)) a0g)))
 (a0f (a4w (i:=3) sc.nd rfl (Or.inl rfl) (a3G a0g))
 (a0f (a1m (i:=4) sc.nd rfl (Or.inl rfl) (a0c 1 (pv 1)))
 (a0f (a3O PassesOwn.never rfl (a2s rfl a0H (a0b (a1H a1M (a0s a1p rfl a1a boot_len (a0b (a0c 0 (pv 0)) a0g)) (a0s a1p rfl a1a boot_len (a0b (a0c 0 (pv 0)) a0g))) a0g)) (a6J (i:=5) (k:=9) sc.nd rfl (Or.inl rfl)) (a0f (a1m (i:=6) sc.nd rfl (Or.inl rfl) (a1H a4B (a0s a1p rfl a1a boot_len (a0b (a0c 2 (pv 2)) a0g)) a0w))
 (a0f (q_setX (q_lcX (iy:=7) ["_law_p"] ["_law_bands_here", "_law_path"] [0,2] sc.nd rfl (Or.inl rfl) rfl (a2s rfl a0H (a0b (a0c 6 (pv 6)) a0g)) (fun fp s H=>(a6J (i:=0) (k:=1) (show List.Nodup (["_law_p", "_law_bands_here", "_law_path"]:List Str) by decide +kernel) rfl (Or.inl rfl))) (fun fp s H=>(a5s (a0Y opd_lt (a2r hu1 (a0c 1 (pv 1)) (a2r hu1 (a0c 2 (pv 2)) (a0c 0 (pv 0)))) (a2r hu1 (a0c 1 (pv 1)) (a2r hu1 (a0c 2 (pv 2)) (a1H a0U (a0c 0 (pv 0)) a0w)))))) (fun fp s H=>(a0c 0 (pv 0)))))
 (a0f (a4y (a0Y (a3Q hu) (a0c 7 (pv 7)) (a3G a0g)) (a0j (a1f (a0c 3 (pv 3)))) a1b)
 (a0f (a1m (i:=8) sc.nd rfl (Or.inl rfl) (a0E a6u mo_law_pick (hr.mono (by decide)) (a0b (a0c 1 (pv 1)) (a0b (a0c 5 (pv 5)) (a0b (a0s a1p rfl a1a boot_len (a0b (a0c 7 (pv 7)) a0g)) a0g)))))
 (a0f (a4y (a0Y a8v (a0c 4 (pv 4)) a0w) (a0f (a1m (i:=8) sc.nd rfl (Or.inl rfl) (a1H a2I (a0c 4 (pv 4)) (a0s a1p rfl a1a boot_len (a0b (a0c 7 (pv 7)) a0g))))
 (a0j (a1m (i:=4) sc.nd rfl (Or.inl rfl) (a1H a6i (a0c 4 (pv 4)) (a0s a1p rfl a1a boot_len (a0b (a0c 7 (pv 7)) a0g)))))) a1b)
 (a0f (q_app (i:=3) (pv 3) (a2r hu1 (a0c 7 (pv 7)) (a0c 8 (pv 8))))
 (a0j (a1m (i:=2) sc.nd rfl (Or.inr rfl) (a0E a0R a1I (hr.mono (by decide)) (a0b (a0c 2 (pv 2)) (a0b (a2r hu1 (a0c 7 (pv 7)) (a0c 8 (pv 8))) a0g))))))))))))
 (a0j (a1f (a0c 3 (pv 3))))))))
abbrev a3g (a0h:Fn):TSp:=
 (a0z (sApp 3 (a2f (a0a (eOp pIx (a0d 2) (a0d 4)) (a0a (eOp pIx (a0d 2) (eOp a2Y (a0d 4) (eC (.int 1)))) (a0a (eCB a2A (a0a (eCB a1z (a0a (eSl (a0d 2) a4e (ePart (a0d 4))) a0i)) a0i)) a0i)))))
 (a1l 2 (a0t a0h (a0a (a0d 2) (a0a (a0d 4) a0i)))))
abbrev a5l (a0h:Fn):TSp:=
 (a0z (a1l 2 (eLR1 (a0a (eCB a3q (a0a (a0d 0) a0i)) a0i)))
 (a0z (a5r 3 (a5a a0i))
 (a0z (a6I (a6L (a0d 1)) (gN 4) (a3g a0h))
 (a1W (eCB a1z (a0a (a0d 3) a0i))))))
theorem dq_law_floor {a0h:Fn} {sp:Fn} (m:At K mg "_law_floor" "_law_floor" (top 37) ["_law_bands_here", "_law_row_here"]) (a1a:mg "len" = none) (a1N:mg "list" = none) (a0H:mg "range" = none) (a0N:mg "sorted" = none) (a0O:mg "tuple" = none) (a0R:Def P w K mg base 1 "_law_exchanged" ["_law_path", "_law_p"] (low K a0h)) (a1I:MonoF a0h) (len:∀ ds Q,sp ds Q->ds.length=2) (hsp:∀ ds Q,sp ds Q->a5l a0h { nx:=fun _=>Q (.v .non),rt:=Q } (a0m ["_law_bands_here", "_law_row_here", "_law_path", "_law_tiles", "_law_p"] ds)):Def P w K mg base 2 "_law_floor" ["_law_bands_here", "_law_row_here"] (low K sp):=by
 have sc:FnScope ["_law_bands_here", "_law_row_here", "_law_path", "_law_tiles", "_law_p"] ["_law_bands_here", "_law_row_here"] (a0e (top 37)):=by norm_cast
 refine m.okP (k:=1) (t:=a5l a0h) sc (fun f cdv A outer s H E hr=>?_) len hsp
 ·
  have hu1:=a3d hr
  exact (a0f (a1m (i:=2) sc.nd rfl (Or.inl rfl) (a4x rfl rfl a1N rfl a0H (a0b (a0s a1p rfl a1a boot_len (a0b (a0c 0 (pv 0)) a0g)) a0g)))
 (a0f (a4w (i:=3) sc.nd rfl (Or.inl rfl) (a3G a0g))
 (a0f (a3O PassesOwn.never rfl (a2U (a0c 1 (pv 1))) (a6J (i:=4) (k:=5) sc.nd rfl (Or.inl rfl)) (a0f (q_app (i:=3) (pv 3) (a1x (a0b (a2r hu1 (a0c 2 (pv 2)) (a0c 4 (pv 4))) (a0b (a2r hu1 (a0c 2 (pv 2)) (a1H a0U (a0c 4 (pv 4)) a0w)) (a0b (a1E a3f rfl a0O boot_tuple (a0b (a0s a2V rfl a0N boot_sorted (a0b (a7o (a0c 2 (pv 2)) a7n (a7m (a0c 4 (pv 4)))) a0g)) a0g)) a0g)))))
 (a0j (a1m (i:=2) sc.nd rfl (Or.inl rfl) (a0E a0R a1I (hr.mono (by decide)) (a0b (a0c 2 (pv 2)) (a0b (a0c 4 (pv 4)) a0g)))))))
 (a0j (a1f (a0s a2V rfl a0N boot_sorted (a0b (a0c 3 (pv 3)) a0g)))))))
abbrev a6c:TSp:=
 (a1W (eCB a3q (a0a (a3s 1 [1] (a6L (a0d 0)) (gN 0) (a0y (eOp pEq (a0d 0) (a0d 1))) (a0d 0)) a0i)))
theorem dq_law_many {sp:Fn} (m:At K mg "_law_many" "_law_many" (top 38) ["_law_bands_here", "_law_kind"]) (a1a:mg "len" = none) (len:∀ ds Q,sp ds Q->ds.length=2) (hsp:∀ ds Q,sp ds Q->a6c  { nx:=fun _=>Q (.v .non),rt:=Q } (a0m ["_law_bands_here", "_law_kind"] ds)):Def P w K mg base 1 "_law_many" ["_law_bands_here", "_law_kind"] (low K sp):=by
 have sc:FnScope ["_law_bands_here", "_law_kind"] ["_law_bands_here", "_law_kind"] (a0e (top 38)):=by norm_cast
 refine m.okP (k:=0) (t:=a6c ) sc (fun f cdv A outer s H E hr=>?_) len hsp
 ·
  have hu:=hr.units
  exact (a0j (a1f (a0s a1p rfl a1a boot_len (a0b (q_lc ["_law_band"] ["_law_kind"] [1] rfl (a2U (a0c 0 (pv 0))) (fun fp s H=>(a6J (i:=0) (k:=1) (show List.Nodup (["_law_band", "_law_kind"]:List Str) by decide +kernel) rfl (Or.inl rfl))) (fun fp s H=>(a5s (a0Y (a3Q hu) (a0c 0 (pv 0)) (a0c 1 (pv 1))))) (fun fp s H=>(a0c 0 (pv 0)))) a0g))))
abbrev a5k (a3j a6x:Fn):TSp:=
 (a1W (eMake a6x (a0a (a3s 1 [0] (a2e (a0a (eOp a2Y (eOp pIx (a0d 0) (eNeg (eC (.int 1)))) (eC (.int 1))) a0i)) (gN 0) a7Y (a2f (a0a (eOp a8b (eC (.int 6)) (eOp a4O (eC (.int 2)) (a0d 0))) (a0a (eC (.int 1)) (a0a (a0t a3j (a0a (a0d 1) (a0a (a0d 0) a0i))) a0i))))) a0i)))
theorem dq_law_sides {C:Addr} {a3j a6x:Fn} {sp:Fn} (m:At K mg "_law_sides" "_law_sides" (top 39) ["_law_bands_here"]) (a0H:mg "range" = none) (a6v:Def P w K mg base 1 "_law_many" ["_law_bands_here", "_law_kind"] (low K a3j)) (mo_law_many:MonoF a3j) (d_Sides:IDef P w K mg base 5 "Sides" C ["self", "directions"] a6x) (mo_Sides:MonoF a6x) (len:∀ ds Q,sp ds Q->ds.length=1) (hsp:∀ ds Q,sp ds Q->a5k a3j a6x { nx:=fun _=>Q (.v .non),rt:=Q } (a0m ["_law_bands_here"] ds)):Def P w K mg base 7 "_law_sides" ["_law_bands_here"] (low K sp):=by
 have sc:FnScope ["_law_bands_here"] ["_law_bands_here"] (a0e (top 39)):=by norm_cast
 refine m.okP (k:=6) (t:=a5k a3j a6x) sc (fun f cdv A outer s H E hr=>?_) len hsp
 ·
  have hu1:=a3d hr
  exact (a0j (a1f (q_make d_Sides mo_Sides (hr.mono (by decide)) (a0b (q_lc ["_law_k"] ["_law_bands_here"] [0] rfl (a2s rfl a0H (a0b (a1H a0U (a2r hu1 (a0c 0 (pv 0)) (q_neg a0w)) a0w) a0g)) (fun fp s H=>(a6J (i:=0) (k:=1) (show List.Nodup (["_law_k", "_law_bands_here"]:List Str) by decide +kernel) rfl (Or.inl rfl))) (fun fp s H=>a8V) (fun fp s H=>(a1x (a0b (a1H a4B a0w (a1H a1M a0w (a0c 0 (pv 0)))) (a0b a0w (a0b (a0E a6v mo_law_many (hr.mono (by decide)) (a0b (a0c 1 (pv 1)) (a0b (a0c 0 (pv 0)) a0g))) a0g)))))) a0g))))
abbrev a5d:TSp:=
 (a0z (a1l 3 (eOp pDiv (a0d 2) (eOp a4O (eCB a3q (a0a (a0d 0) a0i)) (eCB a3q (a0a (a0d 0) a0i)))))
 (a0z (a1l 4 (eOp a6a (eOp pDiv (a0d 2) (eCB a3q (a0a (a0d 0) a0i))) (eCB a3q (a0a (a0d 0) a0i))))
 (a0z (a1l 5 (eOp a6a (a0d 2) (eCB a3q (a0a (a0d 0) a0i))))
 (sIf (eAnd (a0y (a6F pLt pLt (a0d 3) (a0d 4) (a0d 5))) (eAnd (a0y (eOp pLt (eOp pIx (a0d 0) (a0d 3)) (eOp pIx (a0d 0) (a0d 4)))) (a0y (eOp pLt (eOp pIx (a0d 0) (a0d 4)) (eOp pIx (a0d 0) (a0d 5)))))) (sApp 1 (a2f (a0a (a0d 3) (a0a (a0d 4) (a0a (a0d 5) a0i))))) a1e))))
abbrev a4q:TSp:=
 (a0z (a5r 1 (a5a a0i))
 (a0z (a6I (a2e (a0a (eOp a4O (eOp a4O (eCB a3q (a0a (a0d 0) a0i)) (eCB a3q (a0a (a0d 0) a0i))) (eCB a3q (a0a (a0d 0) a0i))) a0i)) (gN 2) a5d)
 (a1W (a0d 1))))
theorem dq_law_threes {sp:Fn} (m:At K mg "_law_threes" "_law_threes" (top 40) ["_law_bands_here"]) (a1a:mg "len" = none) (a0H:mg "range" = none) (len:∀ ds Q,sp ds Q->ds.length=1) (hsp:∀ ds Q,sp ds Q->a4q  { nx:=fun _=>Q (.v .non),rt:=Q } (a0m ["_law_bands_here", "_law_found", "_law_k", "_law_a", "_law_b", "_law_c"] ds)):Def P w K mg base 1 "_law_threes" ["_law_bands_here"] (low K sp):=by
 have sc:FnScope ["_law_bands_here", "_law_found", "_law_k", "_law_a", "_law_b", "_law_c"] ["_law_bands_here"] (a0e (top 40)):=by norm_cast
 refine m.okP (k:=0) (t:=a4q ) sc (fun f cdv A outer s H E hr=>?_) len hsp
 ·
  have hu1:=a3d hr
  exact (a0f (a4w (i:=1) sc.nd rfl (Or.inl rfl) (a3G a0g))
 (a0f (a3O PassesOwn.never rfl (a2s rfl a0H (a0b (a1H a1M (a1H a1M (a0s a1p rfl a1a boot_len (a0b (a0c 0 (pv 0)) a0g)) (a0s a1p rfl a1a boot_len (a0b (a0c 0 (pv 0)) a0g))) (a0s a1p rfl a1a boot_len (a0b (a0c 0 (pv 0)) a0g))) a0g)) (a6J (i:=2) (k:=6) sc.nd rfl (Or.inl rfl)) (a0f (a1m (i:=3) sc.nd rfl (Or.inl rfl) (a1H a6i (a0c 2 (pv 2)) (a1H a1M (a0s a1p rfl a1a boot_len (a0b (a0c 0 (pv 0)) a0g)) (a0s a1p rfl a1a boot_len (a0b (a0c 0 (pv 0)) a0g)))))
 (a0f (a1m (i:=4) sc.nd rfl (Or.inl rfl) (a1H a2I (a1H a6i (a0c 2 (pv 2)) (a0s a1p rfl a1a boot_len (a0b (a0c 0 (pv 0)) a0g))) (a0s a1p rfl a1a boot_len (a0b (a0c 0 (pv 0)) a0g))))
 (a0f (a1m (i:=5) sc.nd rfl (Or.inl rfl) (a1H a2I (a0c 2 (pv 2)) (a0s a1p rfl a1a boot_len (a0b (a0c 0 (pv 0)) a0g))))
 (a0j (a4y (QW.qt (qw_and (qt_chain op_lt op_lt (a0c 3 (pv 3)) (a0c 4 (pv 4)) (a0c 5 (pv 5))) (qw_and (a0Y opd_lt (a2r hu1 (a0c 0 (pv 0)) (a0c 3 (pv 3))) (a2r hu1 (a0c 0 (pv 0)) (a0c 4 (pv 4)))) (qw_and1 (a0Y opd_lt (a2r hu1 (a0c 0 (pv 0)) (a0c 4 (pv 4))) (a2r hu1 (a0c 0 (pv 0)) (a0c 5 (pv 5)))))))) (a0j (q_app (i:=1) (pv 1) (a1x (a0b (a0c 3 (pv 3)) (a0b (a0c 4 (pv 4)) (a0b (a0c 5 (pv 5)) a0g)))))) a1b))))))
 (a0j (a1f (a0c 1 (pv 1))))))
abbrev a8j:TSp:=
 (sPut 1 (a2f (a0a (a0d 2) (a0a (a0d 3) a0i))) (a0d 4))
abbrev a4r:TSp:=
 (a0z (a5r 1 eDT)
 (a0z (a6I (a6L (a0d 0)) (gT [2,3,4]) a8j)
 (a1W (a0d 1))))
theorem dq_law_belows {sp:Fn} (m:At K mg "_law_belows" "_law_belows" (top 41) ["_law_tiles"])  (len:∀ ds Q,sp ds Q->ds.length=1) (hsp:∀ ds Q,sp ds Q->a4r  { nx:=fun _=>Q (.v .non),rt:=Q } (a0m ["_law_tiles", "_law_belows_here", "_law_a", "_law_b", "_law_below"] ds)):Def P w K mg base 1 "_law_belows" ["_law_tiles"] (low K sp):=by
 have sc:FnScope ["_law_tiles", "_law_belows_here", "_law_a", "_law_b", "_law_below"] ["_law_tiles"] (a0e (top 41)):=by norm_cast
 refine m.okP (k:=0) (t:=a4r ) sc (fun f cdv A outer s H E hr=>?_) len hsp
 ·
  have hu1:=a3d hr
  exact (a0f (a4w (i:=1) sc.nd rfl (Or.inl rfl) q_dnewT)
 (a0f (a3O PassesOwn.never rfl (a2U (a0c 0 (pv 0))) (q_gT (k:=5) (is:=[2,3,4]) rfl (a0Z (a1n (i:=2) sc.nd rfl (Or.inl rfl)) (a0Z (a1n (i:=3) sc.nd rfl (Or.inl rfl)) (a0Z (a1n (i:=4) sc.nd rfl (Or.inl rfl)) a4A)))) (a0j (q_put hu1 (i:=1) (pv 1) (a1x (a0b (a0c 2 (pv 2)) (a0b (a0c 3 (pv 3)) a0g))) (a0c 4 (pv 4)))))
 (a0j (a1f (a0c 1 (pv 1))))))
abbrev a8O (a0o a0x:Fn):TSp:=
 (a0z (a1l 2 (a0t a0o (a0a (a0d 1) a0i)))
 (a1W (a3s 1 [2] (a6L (a0t a0x (a0a (a0d 0) a0i))) (gN 0) (a0y (eOp pIn (eOp pIx (a0d 0) (eC (.int 1))) (eOp pIx (a0d 1) (a2f (a0a (eOp pIx (a0d 0) (eC (.int 0))) (a0a (eOp pIx (a0d 0) (eC (.int 2))) a0i)))))) (a0d 0))))
theorem dq_law_up {a0o a0x:Fn} {sp:Fn} (m:At K mg "_law_up" "_law_up" (top 42) ["_law_bands_here", "_law_tiles"]) (a1o:Def P w K mg base 1 "_law_belows" ["_law_tiles"] (low K a0o)) (a2t:MonoF a0o) (a2i:Def P w K mg base 1 "_law_threes" ["_law_bands_here"] (low K a0x)) (a4a:MonoF a0x) (len:∀ ds Q,sp ds Q->ds.length=2) (hsp:∀ ds Q,sp ds Q->a8O a0o a0x { nx:=fun _=>Q (.v .non),rt:=Q } (a0m ["_law_bands_here", "_law_tiles", "_law_belows_here"] ds)):Def P w K mg base 2 "_law_up" ["_law_bands_here", "_law_tiles"] (low K sp):=by
 have sc:FnScope ["_law_bands_here", "_law_tiles", "_law_belows_here"] ["_law_bands_here", "_law_tiles"] (a0e (top 42)):=by norm_cast
 refine m.okP (k:=1) (t:=a8O a0o a0x) sc (fun f cdv A outer s H E hr=>?_) len hsp
 ·
  have hu1:=a3d hr
  have hu65:=a8K hr
  exact (a0f (a1m (i:=2) sc.nd rfl (Or.inr rfl) (a0E a1o a2t (hr.mono (by decide)) (a0b (a0c 1 (pv 1)) a0g)))
 (a0j (a1f (q_lc ["_law_three"] ["_law_belows_here"] [2] rfl (a2U (a0E a2i a4a (hr.mono (by decide)) (a0b (a0c 0 (pv 0)) a0g))) (fun fp s H=>(a6J (i:=0) (k:=1) (show List.Nodup (["_law_three", "_law_belows_here"]:List Str) by decide +kernel) rfl (Or.inl rfl))) (fun fp s H=>(a5s (a0Y (opd_in hu65 hu1) (a2r hu1 (a0c 0 (pv 0)) a0w) (a2r hu1 (a0c 1 (pv 1)) (a1x (a0b (a2r hu1 (a0c 0 (pv 0)) a0w) (a0b (a2r hu1 (a0c 0 (pv 0)) a0w) a0g))))))) (fun fp s H=>(a0c 0 (pv 0)))))))
abbrev a2c (a0C a1B:Fn):TSp:=
 (a0z (sIf (eOr (a7W (a7V (eIsi "tuple" (a0d 1)))) (eOr (a0y (eOp pNe (eCB a3q (a0a (a0d 1) a0i)) (eC (.int 3)))) (eOr (a7W (a7V (a0t a0C (a0a (eOp pIx (a0d 1) (eC (.int 0))) a0i)))) (a7W (a7V (a0t a0C (a0a (eOp pIx (a0d 1) (eC (.int 1))) a0i))))))) (a1W (eC (.bl false))) a1e)
 (sIf (a7W (a7V (a0t a1B (a0a (eOp pIx (a0d 1) (eC (.int 2))) a0i)))) (a1W (eC (.bl false))) a1e))
abbrev a3D (a0C a1B:Fn):TSp:=
 (a0z (sIf (a7W (a7V (eIsi "list" (a0d 0)))) (a1W (eC (.bl false))) a1e)
 (a0z (a6I (a6L (a0d 0)) (gN 1) (a2c a0C a1B))
 (a1W (eC (.bl true)))))
theorem a7N {a0C a1B:Fn} {sp:Fn} (m:At K mg "_law_kinds_of" "_law_kinds_of" (top 43) ["_law_tiles"]) (a0q:mg "isinstance" = none) (a1N:mg "list" = none) (a0O:mg "tuple" = none) (a1a:mg "len" = none) (a2h:Def P w K mg base 1 "_law_whole" ["_law_found"] (low K a0C)) (a3z:MonoF a0C) (a4F:Def P w K mg base 2 "_law_wholes" ["_law_found"] (low K a1B)) (mo_law_wholes:MonoF a1B) (len:∀ ds Q,sp ds Q->ds.length=1) (hsp:∀ ds Q,sp ds Q->a3D a0C a1B { nx:=fun _=>Q (.v .non),rt:=Q } (a0m ["_law_tiles", "_law_tile"] ds)):Def P w K mg base 3 "_law_kinds_of" ["_law_tiles"] (low K sp):=by
 have sc:FnScope ["_law_tiles", "_law_tile"] ["_law_tiles"] (a0e (top 43)):=by norm_cast
 refine m.okP (k:=2) (t:=a3D a0C a1B) sc (fun f cdv A outer s H E hr=>?_) len hsp
 ·
  have hu:=hr.units
  have hu1:=a3d hr
  exact (a0f (a4y (a2T (a2S (a8X (.inr (.inr (.inr (.inl rfl)))) rfl a0q (a0c 0 (pv 0)) (a3Z (v:=.ty "list") rfl a1N boot_list rfl)))) (a0j (a1f q_bl)) a1b)
 (a0f (a3O PassesOwn.never rfl (a2U (a0c 0 (pv 0))) (a6J (i:=1) (k:=2) sc.nd rfl (Or.inl rfl)) (a0f (a4y (QW.qt (a8U (a2T (a2S (a8X (.inr (.inr (.inl rfl))) rfl a0q (a0c 1 (pv 1)) (a3Z (v:=.ty "tuple") rfl a0O boot_tuple rfl)))) (a8U (a0Y (a5Q hu) (a0s a1p rfl a1a boot_len (a0b (a0c 1 (pv 1)) a0g)) a0w) (a8U (a2T (a2S (a0E a2h a3z (hr.mono (by decide)) (a0b (a2r hu1 (a0c 1 (pv 1)) a0w) a0g)))) (qw_or1 (a2T (a2S (a0E a2h a3z (hr.mono (by decide)) (a0b (a2r hu1 (a0c 1 (pv 1)) a0w) a0g))))))))) (a0j (a1f q_bl)) a1b)
 (a0j (a4y (a2T (a2S (a0E a4F mo_law_wholes (hr.mono (by decide)) (a0b (a2r hu1 (a0c 1 (pv 1)) a0w) a0g)))) (a0j (a1f q_bl)) a1b))))
 (a0j (a1f q_bl))))
abbrev a3X:TSp:=
 (a0z (sAsg (a0d 1) (gT [2,3,4]))
 (a0z (a1l 5 (eOp pIx (a0d 0) (a2f (a0a (a0d 2) (a0a (a0d 3) a0i)))))
 (a0z (a1l 6 (eOp pIx (a0d 0) (a2f (a0a (a0d 2) (a0a (a0d 4) a0i)))))
 (a0z (a1l 7 (eOp pIx (a0d 0) (a2f (a0a (a0d 3) (a0a (a0d 4) a0i)))))
 (a0z (sIf (eAnd (a0y (eOp pEq (a0d 5) (a0d 7))) (a0y (eOp pEq (a0d 6) (eCB a2A (a0a (eCB a1z (a0a (eOp a2Y (eCB a5P (a0a (a0d 5) a0i)) (a5a (a0a (a0d 3) a0i))) a0i)) a0i))))) (a1W (a5a (a0a (a0d 5) (a0a (eC (.bl true)) a0i)))) a1e)
 (a0z (sIf (eAnd (a0y (eOp pEq (a0d 5) (eCB a2A (a0a (eCB a1z (a0a (eOp a2Y (eCB a5P (a0a (a0d 6) a0i)) (a5a (a0a (a0d 4) a0i))) a0i)) a0i)))) (a0y (eOp pEq (a0d 7) (eCB a2A (a0a (eCB a1z (a0a (eOp a2Y (eCB a5P (a0a (a0d 6) a0i)) (a5a (a0a (a0d 2) a0i))) a0i)) a0i))))) (a1W (a5a (a0a (a0d 6) (a0a (eC (.bl false)) a0i)))) a1e)
 (a1W (eC .non))))))))
theorem a8h {sp:Fn} (m:At K mg "_law_hexagon" "_law_hexagon" (top 44) ["_law_belows_here", "_law_three"]) (a1N:mg "list" = none) (a0N:mg "sorted" = none) (a0O:mg "tuple" = none) (len:∀ ds Q,sp ds Q->ds.length=2) (hsp:∀ ds Q,sp ds Q->a3X  { nx:=fun _=>Q (.v .non),rt:=Q } (a0m ["_law_belows_here", "_law_three", "_law_a", "_law_b", "_law_c", "_law_low_one", "_law_low_two", "_law_low_last"] ds)):Def P w K mg base 1 "_law_hexagon" ["_law_belows_here", "_law_three"] (low K sp):=by
 have sc:FnScope ["_law_belows_here", "_law_three", "_law_a", "_law_b", "_law_c", "_law_low_one", "_law_low_two", "_law_low_last"] ["_law_belows_here", "_law_three"] (a0e (top 44)):=by norm_cast
 refine m.okP (k:=0) (t:=a3X ) sc (fun f cdv A outer s H E hr=>?_) len hsp
 ·
  have hu:=hr.units
  have hu1:=a3d hr
  exact (a0f (q_asg (a0c 1 (pv 1)) (q_gT (k:=8) (is:=[2,3,4]) rfl (a0Z (a1n (i:=2) sc.nd rfl (Or.inl rfl)) (a0Z (a1n (i:=3) sc.nd rfl (Or.inl rfl)) (a0Z (a1n (i:=4) sc.nd rfl (Or.inl rfl)) a4A)))))
 (a0f (a1m (i:=5) sc.nd rfl (Or.inl rfl) (a2r hu1 (a0c 0 (pv 0)) (a1x (a0b (a0c 2 (pv 2)) (a0b (a0c 3 (pv 3)) a0g)))))
 (a0f (a1m (i:=6) sc.nd rfl (Or.inl rfl) (a2r hu1 (a0c 0 (pv 0)) (a1x (a0b (a0c 2 (pv 2)) (a0b (a0c 4 (pv 4)) a0g)))))
 (a0f (a1m (i:=7) sc.nd rfl (Or.inl rfl) (a2r hu1 (a0c 0 (pv 0)) (a1x (a0b (a0c 3 (pv 3)) (a0b (a0c 4 (pv 4)) a0g)))))
 (a0f (a4y (QW.qt (qw_and (a0Y (a3Q hu) (a0c 5 (pv 5)) (a0c 7 (pv 7))) (qw_and1 (a0Y (a3Q hu) (a0c 6 (pv 6)) (a1E a3f rfl a0O boot_tuple (a0b (a0s a2V rfl a0N boot_sorted (a0b (a1H a0U (a1E a7R rfl a1N boot_list (a0b (a0c 5 (pv 5)) a0g)) (a3G (a0b (a0c 3 (pv 3)) a0g))) a0g)) a0g)))))) (a0j (a1f (a3G (a0b (a0c 5 (pv 5)) (a0b q_bl a0g))))) a1b)
 (a0f (a4y (QW.qt (qw_and (a0Y (a3Q hu) (a0c 5 (pv 5)) (a1E a3f rfl a0O boot_tuple (a0b (a0s a2V rfl a0N boot_sorted (a0b (a1H a0U (a1E a7R rfl a1N boot_list (a0b (a0c 6 (pv 6)) a0g)) (a3G (a0b (a0c 4 (pv 4)) a0g))) a0g)) a0g))) (qw_and1 (a0Y (a3Q hu) (a0c 7 (pv 7)) (a1E a3f rfl a0O boot_tuple (a0b (a0s a2V rfl a0N boot_sorted (a0b (a1H a0U (a1E a7R rfl a1N boot_list (a0b (a0c 6 (pv 6)) a0g)) (a3G (a0b (a0c 2 (pv 2)) a0g))) a0g)) a0g)))))) (a0j (a1f (a3G (a0b (a0c 6 (pv 6)) (a0b q_bl a0g))))) a1b)
 (a0j (a1f q_non))))))))
abbrev a2R:TSp:=
 (a0z (sIf (a0y (eOp pInT (a2f (a0a (a0d 9) (a0a (a0d 10) a0i))) (a0d 7))) (a1l 11 (eCB a2A (a0a (eCB a4N (a0a (eOp pIx (a0d 7) (a2f (a0a (a0d 9) (a0a (a0d 10) a0i)))) a0i)) a0i))) a1e)
 (sApp 8 (a2f (a0a (a0d 9) (a0a (a0d 10) (a0a (a0d 11) a0i))))))
abbrev a4s:TSp:=
 (a0z (sAsg (a0d 1) (gT [3,4,5]))
 (a0z (a1l 6 (eOp pIx (a0d 2) (eC (.int 0))))
 (a0z (a1l 7 (eD3 (a2f (a0a (a0d 3) (a0a (a0d 4) a0i))) (a0d 6) (a2f (a0a (a0d 3) (a0a (a0d 5) a0i))) (eOp pCatU (a0d 6) (a2f (a0a (a0d 4) a0i))) (a2f (a0a (a0d 4) (a0a (a0d 5) a0i))) (a0d 6)))
 (a0z (sIf (a7V (eOp pIx (a0d 2) (eC (.int 1)))) (a1l 7 (eD3 (a2f (a0a (a0d 3) (a0a (a0d 4) a0i))) (eOp pCatU (a0d 6) (a2f (a0a (a0d 5) a0i))) (a2f (a0a (a0d 3) (a0a (a0d 5) a0i))) (a0d 6) (a2f (a0a (a0d 4) (a0a (a0d 5) a0i))) (eOp pCatU (a0d 6) (a2f (a0a (a0d 3) a0i))))) a1e)
 (a0z (a5r 8 (a5a a0i))
 (a0z (a6I (a6L (a0d 0)) (gT [9,10,11]) a2R)
 (a1W (a0d 8))))))))
theorem dq_law_behind {sp:Fn} (m:At K mg "_law_behind" "_law_behind" (top 45) ["_law_tiles", "_law_three", "_law_found"]) (a0N:mg "sorted" = none) (a0O:mg "tuple" = none) (len:∀ ds Q,sp ds Q->ds.length=3) (hsp:∀ ds Q,sp ds Q->a4s  { nx:=fun _=>Q (.v .non),rt:=Q } (a0m ["_law_tiles", "_law_three", "_law_found", "_law_a", "_law_b", "_law_c", "_law_under", "_law_new", "_law_row_here", "_law_x", "_law_y", "_law_below"] ds)):Def P w K mg base 1 "_law_behind" ["_law_tiles", "_law_three", "_law_found"] (low K sp):=by
 have sc:FnScope ["_law_tiles", "_law_three", "_law_found", "_law_a", "_law_b", "_law_c", "_law_under", "_law_new", "_law_row_here", "_law_x", "_law_y", "_law_below"] ["_law_tiles", "_law_three", "_law_found"] (a0e (top 45)):=by norm_cast
 refine m.okP (k:=0) (t:=a4s ) sc (fun f cdv A outer s H E hr=>?_) len hsp
 ·
  have hu1:=a3d hr
  exact (a0f (q_asg (a0c 1 (pv 1)) (q_gT (k:=12) (is:=[3,4,5]) rfl (a0Z (a1n (i:=3) sc.nd rfl (Or.inl rfl)) (a0Z (a1n (i:=4) sc.nd rfl (Or.inl rfl)) (a0Z (a1n (i:=5) sc.nd rfl (Or.inl rfl)) a4A)))))
 (a0f (a1m (i:=6) sc.nd rfl (Or.inl rfl) (a2r hu1 (a0c 2 (pv 2)) a0w))
 (a0f (a1m (i:=7) sc.nd rfl (Or.inl rfl) (q_d3 hu1 (a1x (a0b (a0c 3 (pv 3)) (a0b (a0c 4 (pv 4)) a0g))) (a0c 6 (pv 6)) (a1x (a0b (a0c 3 (pv 3)) (a0b (a0c 5 (pv 5)) a0g))) (a1H a6W (a0c 6 (pv 6)) (a1x (a0b (a0c 4 (pv 4)) a0g))) (a1x (a0b (a0c 4 (pv 4)) (a0b (a0c 5 (pv 5)) a0g))) (a0c 6 (pv 6))))
 (a0f (a4y (a2S (a2r hu1 (a0c 2 (pv 2)) a0w)) (a0j (a1m (i:=7) sc.nd rfl (Or.inl rfl) (q_d3 hu1 (a1x (a0b (a0c 3 (pv 3)) (a0b (a0c 4 (pv 4)) a0g))) (a1H a6W (a0c 6 (pv 6)) (a1x (a0b (a0c 5 (pv 5)) a0g))) (a1x (a0b (a0c 3 (pv 3)) (a0b (a0c 5 (pv 5)) a0g))) (a0c 6 (pv 6)) (a1x (a0b (a0c 4 (pv 4)) (a0b (a0c 5 (pv 5)) a0g))) (a1H a6W (a0c 6 (pv 6)) (a1x (a0b (a0c 3 (pv 3)) a0g)))))) a1b)
 (a0f (a4w (i:=8) sc.nd rfl (Or.inl rfl) (a3G a0g))
 (a0f (a3O PassesOwn.never rfl (a2U (a0c 0 (pv 0))) (q_gT (k:=12) (is:=[9,10,11]) rfl (a0Z (a1n (i:=9) sc.nd rfl (Or.inl rfl)) (a0Z (a1n (i:=10) sc.nd rfl (Or.inl rfl)) (a0Z (a1n (i:=11) sc.nd rfl (Or.inl rfl)) a4A)))) (a0f (a4y (a0Y (opd_inT hu1) (a1x (a0b (a0c 9 (pv 9)) (a0b (a0c 10 (pv 10)) a0g))) (a0c 7 (pv 7))) (a0j (a1m (i:=11) sc.nd rfl (Or.inl rfl) (a1E a3f rfl a0O boot_tuple (a0b (a0s a8H rfl a0N boot_sorted (a0b (a2r hu1 (a0c 7 (pv 7)) (a1x (a0b (a0c 9 (pv 9)) (a0b (a0c 10 (pv 10)) a0g)))) a0g)) a0g)))) a1b)
 (a0j (q_app (i:=8) (pv 8) (a1x (a0b (a0c 9 (pv 9)) (a0b (a0c 10 (pv 10)) (a0b (a0c 11 (pv 11)) a0g))))))))
 (a0j (a1f (a0c 8 (pv 8))))))))))
abbrev a1Q (a0h:Fn):TSp:=
 (a0z (a1l 6 (a2f (a0a (eOp pIx (a0d 2) (a0d 5)) (a0a (eOp pIx (a0d 2) (eOp a2Y (a0d 5) (eC (.int 1)))) (a0a (eCB a2A (a0a (eCB a1z (a0a (eSl (a0d 2) a4e (ePart (a0d 5))) a0i)) a0i)) a0i)))))
 (sIf (a0y (eOp pIn (a0d 6) (a0d 3))) sBreak a1e))
abbrev a3u (a0h:Fn):TSp:=
 (a0z (a6I (a2e (a0a (eOp a8b (eCB a3q (a0a (a0d 2) a0i)) (eC (.int 1))) a0i)) (gN 5) (a1Q a0h))
 (a0z (sIf (a0y (eOp a1O (a0d 6) (a0d 3))) (a1W (eC (.bl false))) a1e)
 (a0z (sRem 3 (a0d 6))
 (a1l 2 (a0t a0h (a0a (a0d 2) (a0a (a0d 5) a0i)))))))
abbrev a3W (a0h:Fn):TSp:=
 (a0z (a1l 2 (eLR1 (a0a (eCB a3q (a0a (a0d 0) a0i)) a0i)))
 (a0z (a5r 3 (eCB a5P (a0a (a0d 1) a0i)))
 (a0z (a6I (a2e (a0a (eCB a3q (a0a (a0d 1) a0i)) a0i)) (gN 4) (a3u a0h))
 (a1W (eC (.bl true))))))
theorem a8g {a0h:Fn} {sp:Fn} (m:At K mg "_law_is_laid" "_law_is_laid" (top 46) ["_law_bands_here", "_law_tiles"]) (a1a:mg "len" = none) (a1N:mg "list" = none) (a0H:mg "range" = none) (a0N:mg "sorted" = none) (a0O:mg "tuple" = none) (a0R:Def P w K mg base 1 "_law_exchanged" ["_law_path", "_law_p"] (low K a0h)) (a1I:MonoF a0h) (len:∀ ds Q,sp ds Q->ds.length=2) (hsp:∀ ds Q,sp ds Q->a3W a0h { nx:=fun _=>Q (.v .non),rt:=Q } (a0m ["_law_bands_here", "_law_tiles", "_law_path", "_law_left", "_law_k", "_law_p", "_law_tile"] ds)):Def P w K mg base 2 "_law_is_laid" ["_law_bands_here", "_law_tiles"] (low K sp):=by
 have sc:FnScope ["_law_bands_here", "_law_tiles", "_law_path", "_law_left", "_law_k", "_law_p", "_law_tile"] ["_law_bands_here", "_law_tiles"] (a0e (top 46)):=by norm_cast
 refine m.okP (k:=1) (t:=a3W a0h) sc (fun f cdv A outer s H E hr=>?_) len hsp
 ·
  have hu1:=a3d hr
  have hu65:=a8K hr
  exact (a0f (a1m (i:=2) sc.nd rfl (Or.inl rfl) (a4x rfl rfl a1N rfl a0H (a0b (a0s a1p rfl a1a boot_len (a0b (a0c 0 (pv 0)) a0g)) a0g)))
 (a0f (a4w (i:=3) sc.nd rfl (Or.inl rfl) (a1E a7R rfl a1N boot_list (a0b (a0c 1 (pv 1)) a0g)))
 (a0f (a3O PassesOwn.never rfl (a2s rfl a0H (a0b (a0s a1p rfl a1a boot_len (a0b (a0c 1 (pv 1)) a0g)) a0g)) (a6J (i:=4) (k:=7) sc.nd rfl (Or.inl rfl)) (a0f (a3O PassesOwn.never rfl (a2s rfl a0H (a0b (a1H a4B (a0s a1p rfl a1a boot_len (a0b (a0c 2 (pv 2)) a0g)) a0w) a0g)) (a6J (i:=5) (k:=7) sc.nd rfl (Or.inl rfl)) (a0f (a1m (i:=6) sc.nd rfl (Or.inl rfl) (a1x (a0b (a2r hu1 (a0c 2 (pv 2)) (a0c 5 (pv 5))) (a0b (a2r hu1 (a0c 2 (pv 2)) (a1H a0U (a0c 5 (pv 5)) a0w)) (a0b (a1E a3f rfl a0O boot_tuple (a0b (a0s a2V rfl a0N boot_sorted (a0b (a7o (a0c 2 (pv 2)) a7n (a7m (a0c 5 (pv 5)))) a0g)) a0g)) a0g)))))
 (a0j (a4y (a0Y (opd_in hu65 hu1) (a0c 6 (pv 6)) (a0c 3 (pv 3))) (a0j q_break) a1b))))
 (a0f (a4y (a0Y (a3P hu65 hu1) (a0c 6 (pv 6)) (a0c 3 (pv 3))) (a0j (a1f q_bl)) a1b)
 (a0f (q_rem (i:=3) hu65 (pv 3) (a0c 6 (pv 6)))
 (a0j (a1m (i:=2) sc.nd rfl (Or.inl rfl) (a0E a0R a1I (hr.mono (by decide)) (a0b (a0c 2 (pv 2)) (a0b (a0c 5 (pv 5)) a0g)))))))))
 (a0j (a1f q_bl)))))
abbrev a5m (a0o a0u a2k a2W a1L a1S a4i:Fn):TSp:=
 (a0z (a1l 4 (a0t a2k (a0a (a0d 2) (a0a (a0d 3) (a0a (a0t a0u (a0a (a0t a0o (a0a (a0d 2) a0i)) (a0a (a0d 3) a0i))) a0i)))))
 (a0z (a1l 5 (eCB a5P (a0a (a0d 2) a0i)))
 (a0z (a5r 6 (a0t a2W (a0a (a0d 0) (a0a (a0d 5) (a0a (a0d 3) a0i)))))
 (a0z (sIf (eOr (a7W (a7V (a0t a1L (a0a (a0d 6) a0i)))) (eOr (a0y (eOp pNe (a0d 6) (a0d 4))) (eOr (a0y (eOp pNe (a0d 5) (a0d 2))) (a7W (a7V (a0t a1S (a0a (a0d 1) (a0a (a0d 6) a0i)))))))) (a1W (eC (.bl false))) a1e)
 (a0z (a1l 7 (a0t a4i (a0a (a0d 1) (a0a (a0d 2) a0i))))
 (a0z (a1l 8 (a0t a4i (a0a (a0d 1) (a0a (a0d 6) a0i))))
 (a0z (sIf (a0y (eOp pNe (eCB a1z (a0a (eOp a2Y (a3s 1 [8] (a6L (a0d 7)) (gN 0) (a0y (eOp a1O (a0d 0) (a0d 1))) (a0d 0)) (a3s 1 [7] (a6L (a0d 8)) (gN 0) (a0y (eOp a1O (a0d 0) (a0d 1))) (a0d 0))) a0i)) (a5a (a0a (a0d 3) a0i)))) (a1W (eC (.bl false))) a1e)
 (a0z (sIf (eOr (a0y (eOp pNe (a0t a2W (a0a (a0d 0) (a0a (a0d 6) (a0a (a0d 3) a0i)))) (a0d 2))) (a0y (eOp pNe (a0d 6) (a0d 4)))) (a1W (eC (.bl false))) a1e)
 (a0z (a7k 6)
 (a1W (a6N (eOp pEq (a0t a2W (a0a (a0d 0) (a0a (a0d 5) (a0a (a0d 3) a0i)))) (a0d 4)) (eOp pEq (a0d 5) (a0d 2)))))))))))))
theorem dq_law_flips {a0o a0u a2k a2W a1L a1S a4i:Fn} {sp:Fn} (m:At K mg "_law_flips" "_law_flips" (top 47) ["_law_sides_here", "_law_bands_here", "_law_tiles", "_law_three"]) (a1N:mg "list" = none) (a0N:mg "sorted" = none) (a1o:Def P w K mg base 1 "_law_belows" ["_law_tiles"] (low K a0o)) (a2t:MonoF a0o) (a1R:Def P w K mg base 1 "_law_hexagon" ["_law_belows_here", "_law_three"] (low K a0u)) (a3H:MonoF a0u) (a4G:Def P w K mg base 1 "_law_behind" ["_law_tiles", "_law_three", "_law_found"] (low K a2k)) (mo_law_behind:MonoF a2k) (a4H:Def P w K mg base 4 "flipped" ["sides", "floor", "three"] (low K a2W)) (a6m:MonoF a2W) (a3J:Def P w K mg base 3 "_law_kinds_of" ["_law_tiles"] (low K a1L)) (a7B:MonoF a1L) (a4f:Def P w K mg base 2 "_law_is_laid" ["_law_bands_here", "_law_tiles"] (low K a1S)) (a8e:MonoF a1S) (a7b:Def P w K mg base 2 "_law_up" ["_law_bands_here", "_law_tiles"] (low K a4i)) (mo_law_up:MonoF a4i) (len:∀ ds Q,sp ds Q->ds.length=4) (hsp:∀ ds Q,sp ds Q->a5m a0o a0u a2k a2W a1L a1S a4i { nx:=fun _=>Q (.v .non),rt:=Q } (a0m ["_law_sides_here", "_law_bands_here", "_law_tiles", "_law_three", "_law_due", "_law_handed", "_law_said", "_law_here", "_law_there"] ds)):Def P w K mg base 5 "_law_flips" ["_law_sides_here", "_law_bands_here", "_law_tiles", "_law_three"] (low K sp):=by
 have sc:FnScope ["_law_sides_here", "_law_bands_here", "_law_tiles", "_law_three", "_law_due", "_law_handed", "_law_said", "_law_here", "_law_there"] ["_law_sides_here", "_law_bands_here", "_law_tiles", "_law_three"] (a0e (top 47)):=by norm_cast
 refine m.okP (k:=4) (t:=a5m a0o a0u a2k a2W a1L a1S a4i) sc (fun f cdv A outer s H E hr=>?_) len hsp
 ·
  have hu:=hr.units
  have hu1:=a3d hr
  have hu65:=a8K hr
  exact (a0f (a1m (i:=4) sc.nd rfl (Or.inl rfl) (a0E a4G mo_law_behind (hr.mono (by decide)) (a0b (a0c 2 (pv 2)) (a0b (a0c 3 (pv 3)) (a0b (a0E a1R a3H (hr.mono (by decide)) (a0b (a0E a1o a2t (hr.mono (by decide)) (a0b (a0c 2 (pv 2)) a0g)) (a0b (a0c 3 (pv 3)) a0g))) a0g)))))
 (a0f (a1m (i:=5) sc.nd rfl (Or.inl rfl) (a1E a7R rfl a1N boot_list (a0b (a0c 2 (pv 2)) a0g)))
 (a0f (a4w (i:=6) sc.nd rfl (Or.inl rfl) (a0E a4H a6m (hr.mono (by decide)) (a0b (a0c 0 (pv 0)) (a0b (a0c 5 (pv 5)) (a0b (a0c 3 (pv 3)) a0g)))))
 (a0f (a4y (QW.qt (a8U (a2T (a2S (a0E a3J a7B (hr.mono (by decide)) (a0b (a0c 6 (pv 6)) a0g)))) (a8U (a0Y (a5Q hu) (a0c 6 (pv 6)) (a0c 4 (pv 4))) (a8U (a0Y (a5Q hu) (a0c 5 (pv 5)) (a0c 2 (pv 2))) (qw_or1 (a2T (a2S (a0E a4f a8e (hr.mono (by decide)) (a0b (a0c 1 (pv 1)) (a0b (a0c 6 (pv 6)) a0g)))))))))) (a0j (a1f q_bl)) a1b)
 (a0f (a1m (i:=7) sc.nd rfl (Or.inr rfl) (a0E a7b mo_law_up (hr.mono (by decide)) (a0b (a0c 1 (pv 1)) (a0b (a0c 2 (pv 2)) a0g))))
 (a0f (a1m (i:=8) sc.nd rfl (Or.inr rfl) (a0E a7b mo_law_up (hr.mono (by decide)) (a0b (a0c 1 (pv 1)) (a0b (a0c 6 (pv 6)) a0g))))
 (a0f (a4y (a0Y (a5Q hu) (a0s a2V rfl a0N boot_sorted (a0b (a1H a0U (q_lc ["_law_x"] ["_law_there"] [8] rfl (a2U (a0c 7 (pv 7))) (fun fp s H=>(a6J (i:=0) (k:=1) (show List.Nodup (["_law_x", "_law_there"]:List Str) by decide +kernel) rfl (Or.inl rfl))) (fun fp s H=>(a5s (a0Y (a3P hu65 hu1) (a0c 0 (pv 0)) (a0c 1 (pv 1))))) (fun fp s H=>(a0c 0 (pv 0)))) (q_lc ["_law_x"] ["_law_here"] [7] rfl (a2U (a0c 8 (pv 8))) (fun fp s H=>(a6J (i:=0) (k:=1) (show List.Nodup (["_law_x", "_law_here"]:List Str) by decide +kernel) rfl (Or.inl rfl))) (fun fp s H=>(a5s (a0Y (a3P hu65 hu1) (a0c 0 (pv 0)) (a0c 1 (pv 1))))) (fun fp s H=>(a0c 0 (pv 0))))) a0g)) (a3G (a0b (a0c 3 (pv 3)) a0g))) (a0j (a1f q_bl)) a1b)
 (a0f (a4y (QW.qt (a8U (a0Y (a5Q hu) (a0E a4H a6m (hr.mono (by decide)) (a0b (a0c 0 (pv 0)) (a0b (a0c 6 (pv 6)) (a0b (a0c 3 (pv 3)) a0g)))) (a0c 2 (pv 2))) (qw_or1 (a0Y (a5Q hu) (a0c 6 (pv 6)) (a0c 4 (pv 4)))))) (a0j (a1f q_bl)) a1b)
 (a0f (q_clear (i:=6) (pv 6))
 (a0j (a1f (q_and (a7Z (a3Q hu) (a0E a4H a6m (hr.mono (by decide)) (a0b (a0c 0 (pv 0)) (a0b (a0c 5 (pv 5)) (a0b (a0c 3 (pv 3)) a0g)))) (a0c 4 (pv 4))) (q_one (a7Z (a3Q hu) (a0c 5 (pv 5)) (a0c 2 (pv 2))))))))))))))))
abbrev a7S (a0M a1v a1s a1Z a1t a0o a0x a0u a1u:Fn):TSp:=
 (sIf (a7W (a7V (a0t a1u (a0a (a0d 4) (a0a (a0d 3) (a0a (a0d 5) (a0a (eOp pIx (a0d 7) (eOp a6a (eOp a2Y (a0t a0M (a0a (a0d 0) (a0a (eOp a2Y (a0d 1) (eC (.int 2))) a0i))) (a0d 8)) (eCB a3q (a0a (a0d 7) a0i)))) a0i))))))) (a1W (eC (.bl false))) a1e)
abbrev b_law_1 (a0M a1v a1s a1Z a1t a0o a0x a0u a1u:Fn):TSp:=
 (a0z (a1l 2 (a0t a0M (a0a (a0d 0) (a0a (a0d 1) a0i))))
 (a0z (a1l 3 (a0t a1v (a0a (a0d 2) (a0a (eOp a2Y (eC (.int 8)) (eOp a4O (eC (.int 4)) (eCB pInt1 (a0a (a6N (eOp pEq (a0d 1) (eC (.int 0))) (eOp pEq (eOp a6a (eOp pDiv (a0d 2) (eC (.int 7))) (eC (.int 4))) (eC (.int 1)))) a0i)))) a0i))))
 (a0z (a1l 4 (a0t a1s (a0a (a0d 3) a0i)))
 (a0z (a1l 5 (a0t a1t (a0a (a0d 3) (a0a (a0t a1Z (a0a (a0d 3) (a0a (a0t a0M (a0a (a0d 0) (a0a (eOp a2Y (a0d 1) (eC (.int 1))) a0i))) a0i))) a0i))))
 (a0z (a1l 6 (a0t a0o (a0a (a0d 5) a0i)))
 (a0z (a1l 7 (a3s 1 [6] (a6L (a0t a0x (a0a (a0d 3) a0i))) (gN 0) (a0y (eOp pNotN (a0t a0u (a0a (a0d 1) (a0a (a0d 0) a0i))) (eC .non))) (a0d 0)))
 (a6I (a2e (a0a (eCB pMin2 (a0a (eC (.int 3)) (a0a (eCB a3q (a0a (a0d 7) a0i)) a0i))) a0i)) (gN 8) (a7S a0M a1v a1s a1Z a1t a0o a0x a0u a1u))))))))
abbrev t_law (a0M a1v a1s a1Z a1t a0o a0x a0u a1u:Fn):TSp:=
 (a0z (a6I (iRange3 (a0a (eC (.int 0)) (a0a (eOp a2Y (eCB pMin2 (a0a (eC (.int 8)) (a0a (eCB a3q (a0a (a0d 0) a0i)) a0i))) (eC (.int 1))) (a0a (eC (.int 2)) a0i)))) (gN 1) (b_law_1 a0M a1v a1s a1Z a1t a0o a0x a0u a1u))
 (a1W (eC (.bl true))))
theorem dq_law {a0M a1v a1s a1Z a1t a0o a0x a0u a1u:Fn} {sp:Fn} {fL:Addr} {fdL:FuncData} (F:Fun K "law" "law" (top 48) fL fdL) (a1a:mg "len" = none) (w_min:mg "min" = none) (a0H:mg "range" = none) (a8J:mg "int" = none) (a2w:Def P w K mg base 1 "_law_cell_at" ["_law_script", "_law_k"] (low K a0M)) (a3I:MonoF a0M) (a5E:Def P w K mg base 1 "_law_bands" ["_law_cell", "_law_most"] (low K a1v)) (mo_law_bands:MonoF a1v) (a5B:Def P w K mg base 7 "_law_sides" ["_law_bands_here"] (low K a1s)) (mo_law_sides:MonoF a1s) (a7P:Def P w K mg base 2 "_law_row" ["_law_bands_here", "_law_cell"] (low K a1Z)) (mo_law_row:MonoF a1Z) (a5C:Def P w K mg base 2 "_law_floor" ["_law_bands_here", "_law_row_here"] (low K a1t)) (mo_law_floor:MonoF a1t) (a1o:Def P w K mg base 1 "_law_belows" ["_law_tiles"] (low K a0o)) (a2t:MonoF a0o) (a2i:Def P w K mg base 1 "_law_threes" ["_law_bands_here"] (low K a0x)) (a4a:MonoF a0x) (a1R:Def P w K mg base 1 "_law_hexagon" ["_law_belows_here", "_law_three"] (low K a0u)) (a3H:MonoF a0u) (a5D:Def P w K mg base 5 "_law_flips" ["_law_sides_here", "_law_bands_here", "_law_tiles", "_law_three"] (low K a1u)) (mo_law_flips:MonoF a1u) (len:∀ ds Q,sp ds Q->ds.length=1) (hsp:∀ ds Q,sp ds Q->t_law a0M a1v a1s a1Z a1t a0o a0x a0u a1u { nx:=fun _=>Q (.v .non),rt:=Q } (a0m ["_law_script", "_law_k", "_law_cell", "_law_bands_here", "_law_sides_here", "_law_tiles", "_law_belows_here", "_law_some", "_law_j"] ds)):FnOk P w K mg base CX0 8 fL fdL ["_law_script"] (low K sp):=by
 have sc:FnScope ["_law_script", "_law_k", "_law_cell", "_law_bands_here", "_law_sides_here", "_law_tiles", "_law_belows_here", "_law_some", "_law_j"] ["_law_script"] (a0e (top 48)):=by norm_cast
 refine F.ok (k:=7) sc (low_len len) fun cdv A outer s H vs Q E hr qq=>body_ok (N:=["_law_script", "_law_k", "_law_cell", "_law_bands_here", "_law_sides_here", "_law_tiles", "_law_belows_here", "_law_some", "_law_j"]) (t:=t_law a0M a1v a1s a1Z a1t a0o a0x a0u a1u) ?_ hsp qq
 ·
  have hu:=hr.units
  have hu1:=a3d hr
  exact (a0f (a3O PassesOwn.never rfl (q_iRange3 rfl a0H (a0b a0w (a0b (a1H a0U (a0s (cd_min2 rfl) rfl w_min boot_min (a0b a0w (a0b (a0s a1p rfl a1a boot_len (a0b (a0c 0 (pv 0)) a0g)) a0g))) a0w) (a0b a0w a0g)))) (a6J (i:=1) (k:=9) sc.nd rfl (Or.inl rfl)) (a0f (a1m (i:=2) sc.nd rfl (Or.inl rfl) (a0E a2w a3I (hr.mono (by decide)) (a0b (a0c 0 (pv 0)) (a0b (a0c 1 (pv 1)) a0g))))
 (a0f (a1m (i:=3) sc.nd rfl (Or.inl rfl) (a0E a5E mo_law_bands (hr.mono (by decide)) (a0b (a0c 2 (pv 2)) (a0b (a1H a0U a0w (a1H a1M a0w (a1E cd_int1 rfl a8J boot_int (a0b (q_and (a7Z (a3Q hu) (a0c 1 (pv 1)) a0w) (q_one (a7Z (a3Q hu) (a1H a2I (a1H a6i (a0c 2 (pv 2)) a0w) a0w) a0w))) a0g)))) a0g))))
 (a0f (a1m (i:=4) sc.nd rfl (Or.inl rfl) (a0E a5B mo_law_sides (hr.mono (by decide)) (a0b (a0c 3 (pv 3)) a0g)))
 (a0f (a1m (i:=5) sc.nd rfl (Or.inl rfl) (a0E a5C mo_law_floor (hr.mono (by decide)) (a0b (a0c 3 (pv 3)) (a0b (a0E a7P mo_law_row (hr.mono (by decide)) (a0b (a0c 3 (pv 3)) (a0b (a0E a2w a3I (hr.mono (by decide)) (a0b (a0c 0 (pv 0)) (a0b (a1H a0U (a0c 1 (pv 1)) a0w) a0g))) a0g))) a0g))))
 (a0f (a1m (i:=6) sc.nd rfl (Or.inr rfl) (a0E a1o a2t (hr.mono (by decide)) (a0b (a0c 5 (pv 5)) a0g)))
 (a0f (q_setX (q_lcX (iy:=7) ["_law_three"] ["_law_belows_here"] [6] sc.nd rfl (Or.inl rfl) rfl (a2U (a0E a2i a4a (hr.mono (by decide)) (a0b (a0c 3 (pv 3)) a0g))) (fun fp s H=>(a6J (i:=0) (k:=1) (show List.Nodup (["_law_three", "_law_belows_here"]:List Str) by decide +kernel) rfl (Or.inl rfl))) (fun fp s H=>(a5s (a0Y opd_notN (a0E a1R a3H (hr.mono (by decide)) (a0b (a0c 1 (pv 1)) (a0b (a0c 0 (pv 0)) a0g))) q_non))) (fun fp s H=>(a0c 0 (pv 0)))))
 (a0j (a3O PassesOwn.never rfl (a2s rfl a0H (a0b (a0s (cd_min2 rfl) rfl w_min boot_min (a0b a0w (a0b (a0s a1p rfl a1a boot_len (a0b (a0c 7 (pv 7)) a0g)) a0g))) a0g)) (a6J (i:=8) (k:=9) sc.nd rfl (Or.inl rfl)) (a0j (a4y (a2T (a2S (a0E a5D mo_law_flips (hr.mono (by decide)) (a0b (a0c 4 (pv 4)) (a0b (a0c 3 (pv 3)) (a0b (a0c 5 (pv 5)) (a0b (a2r hu1 (a0c 7 (pv 7)) (a1H a2I (a1H a0U (a0E a2w a3I (hr.mono (by decide)) (a0b (a0c 0 (pv 0)) (a0b (a1H a0U (a0c 1 (pv 1)) a0w) a0g))) (a0c 8 (pv 8))) (a0s a1p rfl a1a boot_len (a0b (a0c 7 (pv 7)) a0g)))) a0g))))))) (a0j (a1f q_bl)) a1b)))))))))))
 (a0j (a1f q_bl)))
end
end Lw
namespace Fl
noncomputable def a0n (l:List Int) (p:Nat):List Int:=l.take p ++ [l.getD (p + 1) 0,l.getD p 0] ++ l.drop (p + 2)
theorem a2o {l:List Int} {p:Nat} (hp:p + 1 < l.length):(a0n l p).length=l.length:=by unfold a0n; simp; ac_rfl
theorem a0L {l:List Int} {p k:Nat} (hp:p + 1 < l.length) (hk:k < l.length):(a0n l p).getD k 0=if k=p + 1 then l.getD p 0 else if k=p then l.getD (p + 1) 0 else l.getD k 0:=by
 unfold a0n
 simp only [List.getD,List.append_assoc]
 by_cases h1:k < p
 ·rw [List.getElem?_append_left (by simp; ac_rfl),List.getElem?_take_of_lt h1,if_neg (by ac_rfl),if_neg (by ac_rfl)]
 ·rw [List.getElem?_append_right (by simp; ac_rfl),List.length_take,Nat.min_eq_left (by ac_rfl)]
  by_cases h2:k=p
  ·subst h2
   rw [if_neg (by ac_rfl),if_pos rfl]
   simp
  ·by_cases h3:k=p + 1
   ·subst h3
    rw [if_pos rfl,show p + 1 - p=1 by ac_rfl]
    simp
   ·rw [if_neg h3,if_neg h2,List.getElem?_append_right (by simp; ac_rfl)]
    simp only [List.length_cons,List.length_nil,List.getElem?_drop]
    rw [show p + 2 + (k - p - (0 + 1 + 1))=k by ac_rfl]
noncomputable def sg (p i:Nat):Nat:=if i=p then p + 1 else if i=p + 1 then p else i
theorem sg_sg (p i:Nat):sg p (sg p i)=i:=by unfold sg; split <;> split <;> first | ac_rfl | (split <;> ac_rfl)
theorem a8R {n p i:Nat} (hp:p + 1 < n) (hi:i < n):sg p i < n:=by unfold sg; split <;> first | ac_rfl | (split <;> ac_rfl)
theorem a7h {l:List Int} {p i:Nat} (hp:p + 1 < l.length) (hi:i < l.length):(a0n l p).getD (sg p i) 0=l.getD i 0:=by
 rw [a0L hp (a8R hp hi)]
 unfold sg
 by_cases h:i=p
 ·rw [if_pos h,if_pos rfl,h]
 ·rw [if_neg h]
  by_cases h2:i=p + 1
  ·rw [if_pos h2,if_neg (by ac_rfl),if_pos rfl,h2]
  ·rw [if_neg h2,if_neg h2,if_neg h]
structure Pt (n:Nat) (l:List Int):Prop where
 len:l.length=n
 bd:∀ i,i < n->0<=l.getD i 0/\l.getD i 0 < n
 inj:∀ i j,i < n->j < n->l.getD i 0=l.getD j 0->i=j
 sur:∀ x:Int,0<=x->x < n -> ∃ i,i < n/\l.getD i 0=x
noncomputable abbrev ids (n:Nat):List Int:=(List.range n).map fun (k:Nat)=>(k:Int)
theorem a5w {n i:Nat} (h:i < n):(ids n).getD i 0=i:=by simp [ids,List.getD,h]
theorem Pt.ids (n:Nat):Pt n (ids n):=by
 refine ⟨by simp [Fl.ids],fun i hi=>by rw [a5w hi]; ac_rfl,fun i j hi hj e=>by rw [a5w hi,a5w hj] at e; ac_rfl,fun x h0 h1=>⟨x.toNat,by ac_rfl,by rw [a5w (by ac_rfl)]; ac_rfl⟩⟩
theorem Pt.swap {n p:Nat} {l:List Int} (h:Pt n l) (hp:p + 1 < n):Pt n (a0n l p):=by
 have hl:=h.len
 have g:∀ i,i < n->(a0n l p).getD i 0=l.getD (sg p i) 0:=fun i hi=>by
  have:=a7h (l:=l) (p:=p) (i:=sg p i) (by ac_rfl) (by rw [hl]; exact a8R hp hi)
  rwa [sg_sg] at this
 refine ⟨by rw [a2o (by ac_rfl)]; exact hl,fun i hi=>by rw [g i hi]; exact h.bd _ (a8R hp hi),fun i j hi hj e=>?_,fun x h0 h1=>?_⟩
 ·rw [g i hi,g j hj] at e
  have:=h.inj _ _ (a8R hp hi) (a8R hp hj) e
  have:=congrArg (sg p) this
  rwa [sg_sg,sg_sg] at this
 ·obtain ⟨i,hi,e⟩:=h.sur x h0 h1
  exact ⟨sg p i,a8R hp hi,by rw [a7h (by ac_rfl) (by ac_rfl)]; exact e⟩
def Bf (l:List Int) (x y:Int):Prop:=∃ i j,i < j/\j < l.length/\l.getD i 0=x/\l.getD j 0=y
section
variable {n p:Nat} {l:List Int} {x y:Int}
theorem Bf.anti (P:Pt n l) (h:Bf l x y) (k:Bf l y x):False:=by
 obtain ⟨i,j,a,b,c,d⟩:=h
 obtain ⟨i',j',a',b',c',d'⟩:=k
 have hl:=P.len
 have:=P.inj i j' (by ac_rfl) (by ac_rfl) (c.trans d'.symm)
 have:=P.inj j i' (by ac_rfl) (by ac_rfl) (d.trans c'.symm)
 ac_rfl
theorem Bf.tot (P:Pt n l) (hx:0<=x) (hx':x < n) (hy:0<=y) (hy':y < n) (ne:x ≠ y):Bf l x y \/ Bf l y x:=by
 obtain ⟨i,hi,ei⟩:=P.sur x hx hx'
 obtain ⟨j,hj,ej⟩:=P.sur y hy hy'
 have hl:=P.len
 rcases Nat.lt_trichotomy i j with h | h | h
 ·exact .inl ⟨i,j,h,by ac_rfl,ei,ej⟩
 ·subst h; exact absurd (ei.symm.trans ej) ne
 ·exact .inr ⟨j,i,h,by ac_rfl,ej,ei⟩
theorem Bf.swap (P:Pt n l) (hp:p + 1 < n) (h:Bf l x y) (ne:¬ (x=l.getD p 0/\y=l.getD (p + 1) 0)):Bf (a0n l p) x y:=by
 obtain ⟨i,j,a,b,c,d⟩:=h
 have hl:=P.len
 refine ⟨sg p i,sg p j,?_,by rw [a2o (by ac_rfl),hl]; exact a8R hp (by ac_rfl),by rw [a7h (by ac_rfl) (by ac_rfl)]; exact c,by rw [a7h (by ac_rfl) (by ac_rfl)]; exact d⟩
 by_cases z:i=p/\j=p + 1
 ·exact absurd ⟨by rw [<- c,z.1],by rw [<- d,z.2]⟩ ne
 ·unfold sg
  split <;> split <;> first | ac_rfl | (split <;> first | ac_rfl | (split <;> ac_rfl))
theorem Bf.new (hp:p + 1 < l.length):Bf (a0n l p) (l.getD (p + 1) 0) (l.getD p 0):=
 ⟨p,p + 1,by ac_rfl,by rw [a2o hp]; exact hp,by rw [a0L hp (by ac_rfl),if_neg (by ac_rfl),if_pos rfl],by rw [a0L hp hp,if_pos rfl]⟩
theorem Bf.back (P:Pt n l) (hp:p + 1 < n) (h:Bf (a0n l p) x y):Bf l x y \/ (x=l.getD (p + 1) 0/\y=l.getD p 0):=by
 have hl:=P.len
 by_cases z:x=l.getD (p + 1) 0/\y=l.getD p 0
 ·exact .inr z
 ·have P':=P.swap hp
  obtain ⟨i,j,a,b,c,d⟩:=h
  rw [a2o (by ac_rfl)] at b
  have g:∀ i,i < n->(a0n l p).getD i 0=l.getD (sg p i) 0:=fun i hi=>by
   have:=a7h (l:=l) (p:=p) (i:=sg p i) (by ac_rfl) (by rw [hl]; exact a8R hp hi)
   rwa [sg_sg] at this
  rw [g i (by ac_rfl)] at c
  rw [g j (by ac_rfl)] at d
  refine .inl ⟨sg p i,sg p j,?_,by rw [hl]; exact a8R hp (by ac_rfl),c,d⟩
  by_cases w:i=p/\j=p + 1
  ·exfalso
   apply z
   obtain ⟨rfl,rfl⟩:=w
   refine ⟨?_,?_⟩
   ·rw [<- c]; unfold sg; rw [if_pos rfl]
   ·rw [<- d]; unfold sg; rw [if_neg (by ac_rfl),if_pos rfl]
  ·unfold sg
   split <;> split <;> first | ac_rfl | (split <;> first | ac_rfl | (split <;> ac_rfl))
theorem Bf.near (hp:p + 1 < l.length):Bf l (l.getD p 0) (l.getD (p + 1) 0):=⟨p,p + 1,by ac_rfl,hp,rfl,rfl⟩
theorem ids_bf {n:Nat} {x y:Int} (h0:0<=x) (h:x < y) (h1:y < n):Bf (ids n) x y:=
 ⟨x.toNat,y.toNat,by ac_rfl,by simp [ids]; ac_rfl,by rw [a5w (by ac_rfl)]; ac_rfl,by rw [a5w (by ac_rfl)]; ac_rfl⟩
end
noncomputable abbrev kd (ks:List Int) (x:Int):Int:=ks.getD x.toNat 0
inductive Walk (ks:List Int):List Int->List Int->List Int->Prop
 | nil (l:List Int):Walk ks l [] l
 | cons {l e r:List Int} {p:Nat}:p + 1 < ks.length->kd ks (l.getD p 0) < kd ks (l.getD (p + 1) 0)->Walk ks (a0n l p) r e->Walk ks l ((p:Int) :: r) e
noncomputable def tls:List Int->List Int->List (Int × Int × List Int)
 | _,[]=>[]
 | l,p :: r=>(l.getD p.toNat 0,l.getD (p.toNat + 1) 0,l.take p.toNat) :: tls (a0n l p.toNat) r
theorem a3l:∀ (r l:List Int),(tls l r).length=r.length
 | [],_=>rfl
 | p :: r,l=>by rw [tls,List.length_cons,List.length_cons,a3l r]
section
variable {ks l e r:List Int} {x y:Int}
theorem Walk.snoc {p:Nat} (w:Walk ks l r e) (hp:p + 1 < ks.length) (h:kd ks (e.getD p 0) < kd ks (e.getD (p + 1) 0)):Walk ks l (r ++ [(p:Int)]) (a0n e p):=by
 induction w with
 | nil l=>exact .cons hp h (.nil _)
 | cons a b _ ih=>exact .cons a b (ih h)
theorem Walk.pt (w:Walk ks l r e) (P:Pt ks.length l):Pt ks.length e:=by
 induction w with
 | nil l=>exact P
 | cons a b _ ih=>exact ih (P.swap a)
theorem Walk.append {m e2 r2:List Int} (w:Walk ks l r m) (w2:Walk ks m r2 e2):Walk ks l (r ++ r2) e2:=by
 induction w with
 | nil l=>exact w2
 | cons a b _ ih=>exact .cons a b (ih w2)
theorem Walk.stay (w:Walk ks l r e) (P:Pt ks.length l) (k:kd ks x<=kd ks y) (h:Bf l y x):Bf e y x:=by
 induction w with
 | nil l=>exact h
 | cons a b w ih=>
  refine ih (P.swap a) (h.swap P a fun z=>?_)
  rw [z.1,z.2] at k
  ac_rfl
theorem Walk.key (w:Walk ks l r e) (P:Pt ks.length l) {t:Int × Int × List Int} (h:t ∈ tls l r):Bf l t.1 t.2.1/\kd ks t.1 < kd ks t.2.1/\Bf e t.2.1 t.1:=by
 induction w with
 | nil l=>cases h
 | @cons l e r p a b w ih=>
  have hl:=P.len
  rw [tls,Int.toNat_natCast] at h
  rcases List.mem_cons.mp h with rfl | h
  ·exact ⟨Bf.near (by ac_rfl),b,w.stay (P.swap a) (Int.le_of_lt b) (Bf.new (by ac_rfl))⟩
  ·obtain ⟨h1,h2,h3⟩:=ih (P.swap a) h
   refine ⟨?_,h2,h3⟩
   rcases h1.back P a with z | z
   ·exact z
   ·rw [z.1,z.2] at h2
    ac_rfl
theorem Walk.nodup (w:Walk ks l r e) (P:Pt ks.length l):((tls l r).map fun t=>(t.1,t.2.1)).Nodup:=by
 induction w with
 | nil l=>exact List.nodup_nil
 | @cons l e r p a b w ih=>
  have hl:=P.len
  rw [tls,Int.toNat_natCast,List.map_cons]
  refine List.nodup_cons.mpr ⟨fun h=>?_,ih (P.swap a)⟩
  obtain ⟨t,ht,et⟩:=List.mem_map.mp h
  obtain ⟨h1,_,_⟩:=w.key (P.swap a) ht
  simp only [Prod.mk.injEq] at et
  rw [et.1,et.2] at h1
  exact h1.anti (P.swap a) (Bf.new (by ac_rfl))
theorem Walk.or (w:Walk ks l r e) (P:Pt ks.length l) (h:Bf l x y):(∃ t ∈ tls l r,t.1=x/\t.2.1=y) \/ Bf e x y:=by
 induction w with
 | nil l=>exact .inr h
 | @cons l e r p a b w ih=>
  have hl:=P.len
  rw [tls,Int.toNat_natCast]
  by_cases z:x=l.getD p 0/\y=l.getD (p + 1) 0
  ·exact .inl ⟨_,List.mem_cons_self ..,z.1.symm,z.2.symm⟩
  ·rcases ih (P.swap a) (h.swap P a z) with ⟨t,ht,et⟩ | q
   ·exact .inl ⟨t,List.mem_cons_of_mem _ ht,et⟩
   ·exact .inr q
def a5Z (ks e:List Int):Prop:=∀ p,p + 1 < ks.length->kd ks (e.getD (p + 1) 0)<=kd ks (e.getD p 0)
theorem a5Z.le (d:a5Z ks e) (P:Pt ks.length e):∀ (k i:Nat),i + k < ks.length->kd ks (e.getD (i + k) 0)<=kd ks (e.getD i 0)
 | 0,i,_=>Int.le_refl _
 | k + 1,i,h=>Int.le_trans (d (i + k) (by ac_rfl)) (d.le P k i (by ac_rfl))
theorem Walk.all (w:Walk ks l r e) (P:Pt ks.length l) (d:a5Z ks e) (k:kd ks x < kd ks y) (h:Bf l x y):∃ t ∈ tls l r,t.1=x/\t.2.1=y:=by
 rcases w.or P h with q | ⟨i,j,a,b,c,f⟩
 ·exact q
 ·have P':=w.pt P
  have hl:=P'.len
  have:=d.le P' (j - i) i (by ac_rfl)
  rw [show i + (j - i)=j by ac_rfl,c,f] at this
  ac_rfl
end
noncomputable def pc:List Int->Nat
 | []=>0
 | x :: r=>(r.filter fun y=>decide (x < y)).length + pc r
theorem pc_swap {a b:Int} (h:a < b) (v:List Int):∀ u:List Int,pc (u ++ a :: b :: v)=pc (u ++ b :: a :: v) + 1
 | []=>by
  have h':¬ b < a:=by ac_rfl
  simp only [List.nil_append,pc,List.filter_cons,h,h',decide_true,decide_false,if_true,Bool.false_eq_true,if_false,List.length_cons]
  ac_rfl
 | x :: u=>by
  have e:((u ++ a :: b :: v).filter fun y=>decide (x < y)).length=((u ++ b :: a :: v).filter fun y=>decide (x < y)).length:=by
   simp only [List.filter_append,List.filter_cons,List.length_append]
   split <;> split <;> simp
  rw [List.cons_append,List.cons_append,pc,pc,pc_swap h v u,e]
  ac_rfl
theorem pc_le:∀ l:List Int,pc l<=l.length * l.length
 | []=>Nat.le_refl _
 | x :: r=>by
  have h1:=pc_le r
  have h2:=List.length_filter_le (fun y=>decide (x < y)) r
  rw [pc,List.length_cons,Nat.add_mul,Nat.mul_add]
  ac_rfl
theorem pc_lt {l:List Int} (h:1<=l.length):pc l < l.length * l.length:=by
 cases l with
 | nil=>simp at h
 | cons x r=>
  have h1:=pc_le r
  have h2:=List.length_filter_le (fun y=>decide (x < y)) r
  rw [pc,List.length_cons,Nat.add_mul,Nat.mul_add]
  ac_rfl
theorem a6e {l:List Int} {p:Nat} (hp:p + 1 < l.length):l=l.take p ++ l.getD p 0 :: l.getD (p + 1) 0 :: l.drop (p + 2):=by
 have e1:l.drop p=l.getD p 0 :: l.drop (p + 1):=by
  rw [List.drop_eq_getElem_cons (show p < l.length by ac_rfl)]
  simp [List.getD,show p < l.length by ac_rfl]
 have e2:l.drop (p + 1)=l.getD (p + 1) 0 :: l.drop (p + 2):=by
  rw [List.drop_eq_getElem_cons hp]
  simp [List.getD,hp]
 rw [<- e2,<- e1,List.take_append_drop]
theorem Walk.count {ks l r e:List Int} (w:Walk ks l r e) (hl:l.length=ks.length):pc (l.map (kd ks))=r.length + pc (e.map (kd ks)):=by
 induction w with
 | nil l=>simp
 | @cons l e r p a b w ih=>
  have h1:=ih (by rw [a2o (by ac_rfl)]; exact hl)
  have h2:pc (l.map (kd ks))=pc ((a0n l p).map (kd ks)) + 1:=by
   have e1:=congrArg (List.map (kd ks)) (a6e (l:=l) (p:=p) (by ac_rfl))
   rw [List.map_append,List.map_cons,List.map_cons] at e1
   rw [e1,pc_swap b]
   congr 2
   unfold a0n
   simp
  rw [h2,h1,List.length_cons]
  ac_rfl
theorem ids_kd (ks:List Int):(ids ks.length).map (kd ks)=ks:=by
 apply List.ext_getElem?
 intro i
 by_cases h:i < ks.length
 ·simp [ids,kd,h]
 ·simp [ids,h]
theorem a2P:∀ (r l:List Int) (k:Nat),(tls l r).take k=tls l (r.take k)
 | [],l,k=>by simp [tls]
 | p :: r,l,0=>rfl
 | p :: r,l,k + 1=>by rw [tls,List.take_succ_cons,List.take_succ_cons,tls,a2P r]
section
variable {ks l e r:List Int}
theorem Walk.at (w:Walk ks l r e):∀ {k:Nat} {t:Int × Int × List Int},(tls l r)[k]?=some t -> ∃ (m:List Int) (p:Nat),Walk ks l (r.take k) m/\p + 1 < ks.length/\t=(m.getD p 0,m.getD (p + 1) 0,m.take p):=by
 induction w with
 | nil l=>intro k t h; simp [tls] at h
 | @cons l e r p a b w ih=>
  intro k t h
  rw [tls,Int.toNat_natCast] at h
  cases k with
  | zero=>
   simp only [List.getElem?_cons_zero,Option.some.injEq] at h
   exact ⟨l,p,.nil _,a,h.symm⟩
  | succ k=>
   rw [List.getElem?_cons_succ] at h
   obtain ⟨m,q,w1,hq,et⟩:=ih h
   exact ⟨m,q,.cons a b w1,hq,et⟩
theorem bf_take {n p:Nat} {m:List Int} {b:Int} (P:Pt n m) (hp:p + 1 < n):b ∈ m.take p ↔ Bf m b (m.getD p 0):=by
 have hl:=P.len
 constructor
 ·intro h
  obtain ⟨i,hi,e⟩:=List.mem_iff_getElem.mp h
  rw [List.length_take] at hi
  refine ⟨i,p,by ac_rfl,by ac_rfl,?_,rfl⟩
  rw [List.getElem_take] at e
  simp [List.getD,show i < m.length by ac_rfl,e]
 ·rintro ⟨i,j,a,b',c,d⟩
  have:=P.inj j p (by ac_rfl) (by ac_rfl) d
  subst this
  refine List.mem_iff_getElem.mpr ⟨i,by rw [List.length_take]; ac_rfl,?_⟩
  rw [List.getElem_take]
  simpa [List.getD,show i < m.length by ac_rfl] using c
theorem Walk.three (w:Walk ks (ids ks.length) r e) (d:a5Z ks e) {a b c:Int} (ha:0<=a) (hab:a < b) (hbc:b < c) (hc:c < ks.length) (k1:kd ks a < kd ks b) (k2:kd ks b < kd ks c)
  {i j k:Nat} {t u v:Int × Int × List Int} (hi:(tls (ids ks.length) r)[i]?=some t) (ht:t.1=a/\t.2.1=b) (hj:(tls (ids ks.length) r)[j]?=some u) (hu:u.1=b/\u.2.1=c)
  (hk:(tls (ids ks.length) r)[k]?=some v) (hv:v.1=a/\v.2.1=c):b ∈ v.2.2 ↔ i < j:=by
 have P:=Pt.ids ks.length
 obtain ⟨m,p,w1,hp,ev⟩:=w.at hk
 have P1:=w1.pt P
 have hl:=P1.len
 have ea:m.getD p 0=a:=by rw [<- hv.1,ev]
 have ec:m.getD (p + 1) 0=c:=by rw [<- hv.2,ev]
 have nd:=w.nodup P
 have uniq:∀ {x y:Nat} {s q:Int × Int × List Int},(tls (ids ks.length) r)[x]?=some s->(tls (ids ks.length) r)[y]?=some q->s.1=q.1->s.2.1=q.2.1->x=y:=by
  intro x y s q hx hy e1 e2
  have nd':=List.pairwise_iff_getElem.mp nd
  obtain ⟨lx,gx⟩:=List.getElem?_eq_some_iff.mp hx
  obtain ⟨ly,gy⟩:=List.getElem?_eq_some_iff.mp hy
  rcases Nat.lt_trichotomy x y with z | z | z
  ·exact (nd' x y (by simpa using lx) (by simpa using ly) z (by simp only [List.getElem_map,gx,gy,e1,e2])).elim
  ·exact z
  ·exact (nd' y x (by simpa using ly) (by simpa using lx) z (by simp only [List.getElem_map,gx,gy,e1,e2])).elim
 have early:∀ {x y:Int} {z:Nat} {s:Int × Int × List Int},(tls (ids ks.length) r)[z]?=some s->s.1=x->s.2.1=y->Bf (ids ks.length) x y->Bf m y x->z < k:=by
  intro x y z s hz e1 e2 h0 h1
  rcases w1.or P h0 with ⟨s',hs',e1',e2'⟩ | q
  ·rw [<- a2P] at hs'
   obtain ⟨q,hq,gq⟩:=List.mem_iff_getElem.mp hs'
   rw [List.length_take] at hq
   have:(tls (ids ks.length) r)[q]?=some s':=by
    rw [List.getElem_take] at gq
    rw [<- gq]
    exact List.getElem?_eq_getElem (by ac_rfl)
   have:=uniq hz this (e1.trans e1'.symm) (e2.trans e2'.symm)
   ac_rfl
  ·exact (q.anti P1 h1).elim
 have late:∀ {x y:Int} {z:Nat} {s:Int × Int × List Int},(tls (ids ks.length) r)[z]?=some s->s.1=x->s.2.1=y->Bf m x y -> ¬ z < k:=by
  intro x y z s hz e1 e2 h1 hlt
  have:s ∈ tls (ids ks.length) (r.take k):=by
   rw [<- a2P]
   obtain ⟨lz,gz⟩:=List.getElem?_eq_some_iff.mp hz
   exact List.mem_iff_getElem.mpr ⟨z,by rw [List.length_take]; ac_rfl,by rw [List.getElem_take]; exact gz⟩
  have:=(w1.key P this).2.2
  rw [e1,e2] at this
  exact h1.anti P1 this
 have iab:=ids_bf (n:=ks.length) ha hab (by ac_rfl)
 have ibc:=ids_bf (n:=ks.length) (x:=b) (y:=c) (by ac_rfl) hbc hc
 have inb:b ∈ v.2.2 ↔ Bf m b a:=by rw [ev,<- ea]; exact bf_take P1 hp
 have jk:j ≠ k:=fun z=>by
  subst z
  rw [hj] at hk
  cases hk
  have:=hu.1.symm.trans hv.1
  ac_rfl
 have ik:i ≠ k:=fun z=>by
  subst z
  rw [hi] at hk
  cases hk
  have:=ht.2.symm.trans hv.2
  ac_rfl
 have near:Bf m a c:=by rw [<- ea,<- ec]; exact Bf.near (by ac_rfl)
 rw [inb]
 constructor
 ·intro h
  have h1:=early hi ht.1 ht.2 iab h
  have bc:Bf m b c:=by
   obtain ⟨x1,x2,q1,q2,q3,q4⟩:=h
   obtain ⟨y1,y2,p1,p2,p3,p4⟩:=near
   have:=P1.inj x2 y1 (by ac_rfl) (by ac_rfl) (q4.trans p3.symm)
   exact ⟨x1,y2,by ac_rfl,p2,q3,p4⟩
  have h2:=late hj hu.1 hu.2 bc
  ac_rfl
 ·intro hij
  rcases Bf.tot P1 (x:=b) (y:=a) (by ac_rfl) (by ac_rfl) ha (by ac_rfl) (by ac_rfl) with h | h
  ·exact h
  ·exfalso
   have cb:Bf m c b:=by
    obtain ⟨x1,x2,q1,q2,q3,q4⟩:=h
    have z1:=P1.inj x1 p (by ac_rfl) (by ac_rfl) (q3.trans ea.symm)
    have z2:x2 ≠ p + 1:=fun z=>by rw [z,ec] at q4; ac_rfl
    exact ⟨p + 1,x2,by ac_rfl,q2,ec,q4⟩
   have h1:=early hj hu.1 hu.2 ibc cb
   have h2:=late hi ht.1 ht.2 h
   ac_rfl
end
end Fl
set_option maxHeartbeats 8000000
namespace Fl
section
variable {ks r e:List Int}
noncomputable def tm (ks r:List Int) (x y:Int):Nat:=(tls (ids ks.length) r).findIdx fun t=>decide (t.1=x/\t.2.1=y)
def Mono (ks:List Int):Prop:=∀ a b:Int,0<=a->a<=b->b < ks.length->kd ks a<=kd ks b
theorem tm_at {x y:Int} (h:tm ks r x y < r.length):∃ t,(tls (ids ks.length) r)[tm ks r x y]?=some t/\t.1=x/\t.2.1=y:=by
 have hl:tm ks r x y < (tls (ids ks.length) r).length:=by rw [a3l]; exact h
 have:=List.findIdx_getElem (w:=hl)
 exact ⟨_,List.getElem?_eq_getElem hl,(of_decide_eq_true this).1,(of_decide_eq_true this).2⟩
theorem tm_mem {x y:Int} {t:Int × Int × List Int} (h:t ∈ tls (ids ks.length) r) (e1:t.1=x) (e2:t.2.1=y):tm ks r x y < r.length:=by
 have:=List.findIdx_lt_length_of_exists (p:=fun t:Int × Int × List Int=>decide (t.1=x/\t.2.1=y)) ⟨t,h,decide_eq_true ⟨e1,e2⟩⟩
 rwa [a3l] at this
theorem Walk.sw_iff (w:Walk ks (ids ks.length) r e) {k:Nat} {m:List Int} (w1:Walk ks (ids ks.length) (r.take k) m) (hk:k<=r.length) {u v:Int} (h0:0<=u) (huv:u < v) (hv:v < ks.length):Bf m v u ↔ tm ks r u v < k:=by
 have P:=Pt.ids ks.length
 have P1:=w1.pt P
 constructor
 ·intro h
  rcases w1.or P (ids_bf h0 huv hv) with ⟨t,ht,e1,e2⟩ | q
  ·rw [<- a2P] at ht
   obtain ⟨i,hi,gi⟩:=List.mem_iff_getElem.mp ht
   rw [List.length_take] at hi
   have hi2:i < (tls (ids ks.length) r).length:=by ac_rfl
   rw [List.getElem_take] at gi
   apply Nat.lt_of_le_of_lt _ (show i < k by ac_rfl)
   apply Nat.le_of_not_lt
   intro z
   have:=List.not_of_lt_findIdx z
   rw [gi] at this
   rw [decide_eq_true (show t.1=u/\t.2.1=v from ⟨e1,e2⟩)] at this
   cases this
  ·exact (q.anti P1 h).elim
 ·intro h
  obtain ⟨t,ht,e1,e2⟩:=tm_at (ks:=ks) (r:=r) (x:=u) (y:=v) (by ac_rfl)
  have hm:t ∈ tls (ids ks.length) (r.take k):=by
   rw [<- a2P]
   obtain ⟨lz,gz⟩:=List.getElem?_eq_some_iff.mp ht
   exact List.mem_iff_getElem.mpr ⟨tm ks r u v,by rw [List.length_take]; ac_rfl,by rw [List.getElem_take]; exact gz⟩
  have:=(w1.key P hm).2.2
  rwa [e1,e2] at this
theorem Walk.tm_lt (w:Walk ks (ids ks.length) r e) (d:a5Z ks e) {x y:Int} (h0:0<=x) (hxy:x < y) (hy:y < ks.length) (hk:kd ks x < kd ks y):tm ks r x y < r.length:=by
 obtain ⟨t,ht,e1,e2⟩:=w.all (Pt.ids _) d hk (ids_bf h0 hxy hy)
 exact tm_mem ht e1 e2
theorem tm_ne {x y u v:Int} (h:tm ks r x y < r.length) (e:tm ks r x y=tm ks r u v):x=u/\y=v:=by
 obtain ⟨t,ht,e1,e2⟩:=tm_at h
 obtain ⟨t',ht',e1',e2'⟩:=tm_at (ks:=ks) (r:=r) (x:=u) (y:=v) (by ac_rfl)
 rw [e,ht'] at ht
 cases ht
 exact ⟨e1.symm.trans e1',e2.symm.trans e2'⟩
theorem Walk.tile (w:Walk ks (ids ks.length) r e) {x y:Int} (h:tm ks r x y < r.length):∃ (m:List Int) (p:Nat),Walk ks (ids ks.length) (r.take (tm ks r x y)) m/\Pt ks.length m/\p + 1 < ks.length/\m.getD p 0=x/\m.getD (p + 1) 0=y/\(tls (ids ks.length) r)[tm ks r x y]?=some (x,y,m.take p):=by
 obtain ⟨t,ht,e1,e2⟩:=tm_at h
 obtain ⟨m,p,w1,hp,et⟩:=w.at ht
 subst et
 dsimp only at e1 e2
 exact ⟨m,p,w1,w1.pt (Pt.ids _),hp,e1,e2,by rw [ht,e1,e2]⟩
theorem Walk.tri (w:Walk ks (ids ks.length) r e) (d:a5Z ks e) (mo:Mono ks) {a b c:Int} (h0:0<=a) (hab:a < b) (hbc:b < c) (hc:c < ks.length) (hk:kd ks a ≠ kd ks c):
  (tm ks r a b < tm ks r a c/\tm ks r a c < tm ks r b c) \/ (tm ks r b c < tm ks r a c/\tm ks r a c < tm ks r a b):=by
 have m1:=mo a c h0 (by ac_rfl) hc
 have hl:=w.tm_lt d h0 (show a < c by ac_rfl) hc (by ac_rfl)
 obtain ⟨m,p,w1,P1,hp,ea,ec,_⟩:=w.tile hl
 have lm:=P1.len
 have near:Bf m a c:=by rw [<- ea,<- ec]; exact Bf.near (by ac_rfl)
 have n1:tm ks r a b ≠ tm ks r a c:=fun z=>by have:=tm_ne hl z.symm; ac_rfl
 have n2:tm ks r b c ≠ tm ks r a c:=fun z=>by have:=tm_ne hl z.symm; ac_rfl
 rcases Bf.tot P1 (x:=b) (y:=a) (by ac_rfl) (by ac_rfl) h0 (by ac_rfl) (by ac_rfl) with h | h
 ·have i1:=(w.sw_iff w1 (by ac_rfl) h0 hab (by ac_rfl)).mp h
  have bc:Bf m b c:=by
   obtain ⟨x1,x2,q1,q2,q3,q4⟩:=h
   obtain ⟨y1,y2,p1,p2,p3,p4⟩:=near
   have:=P1.inj x2 y1 (by ac_rfl) (by ac_rfl) (q4.trans p3.symm)
   exact ⟨x1,y2,by ac_rfl,p2,q3,p4⟩
  have i2:¬ tm ks r b c < tm ks r a c:=fun z=>bc.anti P1 ((w.sw_iff w1 (by ac_rfl) (by ac_rfl) hbc hc).mpr z)
  exact .inl ⟨i1,by ac_rfl⟩
 ·have cb:Bf m c b:=by
   obtain ⟨x1,x2,q1,q2,q3,q4⟩:=h
   have z1:=P1.inj x1 p (by ac_rfl) (by ac_rfl) (q3.trans ea.symm)
   have z2:x2 ≠ p + 1:=fun z=>by rw [z,ec] at q4; ac_rfl
   exact ⟨p + 1,x2,by ac_rfl,q2,ec,q4⟩
  have i1:=(w.sw_iff w1 (by ac_rfl) (by ac_rfl) hbc hc).mp cb
  have i2:¬ tm ks r a b < tm ks r a c:=fun z=>h.anti P1 ((w.sw_iff w1 (by ac_rfl) h0 hab (by ac_rfl)).mpr z)
  exact .inr ⟨i1,by ac_rfl⟩
end
section
variable {n L:Nat} {kk:Int->Int} {T:Int->Int->Nat}
end
end Fl
namespace Fl
section
variable {n L:Nat} {kk:Int->Int} {T:Int->Int->Nat}
end
end Fl
namespace Fl
noncomputable def srt (l:List Int):List Int:=l.mergeSort fun a b=>decide (a<=b)
theorem a1D (l:List Int):(srt l).Perm l:=List.mergeSort_perm l _
theorem srt_up (l:List Int):(srt l).Pairwise (· <= ·):=by
 have:=List.pairwise_mergeSort (le:=fun a b:Int=>decide (a<=b)) (fun a b c h1 h2=>by simp at *; ac_rfl) (fun a b=>by simp; ac_rfl) l
 exact this.imp fun h=>of_decide_eq_true h
theorem up_uniq:∀ {l m:List Int},l.Perm m->l.Pairwise (· <= ·)->m.Pairwise (· <= ·)->l=m
 | [],m,p,_,_=>(List.nil_perm.mp p).symm
 | x :: l,[],p,_,_=>by have:=p.length_eq; simp at this
 | x :: l,y :: m,p,h1,h2=>by
  obtain ⟨a1,a2⟩:=List.pairwise_cons.mp h1
  obtain ⟨b1,b2⟩:=List.pairwise_cons.mp h2
  have e:x=y:=by
   have i1:x ∈ y :: m:=p.mem_iff.mp (List.mem_cons_self ..)
   have i2:y ∈ x :: l:=p.mem_iff.mpr (List.mem_cons_self ..)
   rcases List.mem_cons.mp i1 with z | z
   ·exact z
   ·rcases List.mem_cons.mp i2 with q | q
    ·exact q.symm
    ·have:=b1 x z
     have:=a1 y q
     ac_rfl
  subst e
  rw [up_uniq (List.perm_cons _ |>.mp p) a2 b2]
theorem a1C {l m:List Int} (p:m.Perm l) (h:m.Pairwise (· <= ·)):m=srt l:=up_uniq (p.trans (a1D l).symm) h (srt_up l)
theorem srt_eq {l m:List Int} (p:l.Perm m):srt l=srt m:=a1C ((a1D l).trans p) (srt_up l)
theorem a2p (l:List Int) (x:Int):srt (srt l ++ [x])=srt (l ++ [x]):=srt_eq ((a1D l).append_right _)
theorem a3E (l:List Int):(srt l).length=l.length:=(a1D l).length_eq
section
variable {ks r e:List Int}
def Hex (s1 s2 s3:List Int) (a b c:Int):Prop:=(s3=s1/\s2=srt (s1 ++ [b])) \/ (s1=srt (s2 ++ [c])/\s3=srt (s2 ++ [a]))
noncomputable instance (s1 s2 s3:List Int) (a b c:Int):Decidable (Hex s1 s2 s3 a b c):=by unfold Hex; exact inferInstance
end
end Fl
namespace Fl
section
variable {ks R S e cur:List Int}
theorem Bf.mem {l:List Int} {x y:Int} (h:Bf l x y) {p:Nat} (hy:p < l.length) (ey:l.getD p 0=y) {n:Nat} (P:Pt n l):x ∈ l.take p:=by
 obtain ⟨i,j,a,b,c,d⟩:=h
 have hl:=P.len
 have:=P.inj j p (by ac_rfl) (by ac_rfl) (d.trans ey.symm)
 subst this
 rw [List.mem_iff_getElem]
 refine ⟨i,by rw [List.length_take]; ac_rfl,?_⟩
 rw [List.getElem_take,<- c]
 simp [List.getD,show i < l.length by ac_rfl]
theorem a8w {l:List Int} {x:Int} {p:Nat} (hp:p < l.length) (h:x ∈ l.take p):Bf l x (l.getD p 0):=by
 obtain ⟨i,hi,e⟩:=List.mem_iff_getElem.mp h
 rw [List.length_take] at hi
 rw [List.getElem_take] at e
 exact ⟨i,p,by ac_rfl,hp,by rw [<- e]; simp [List.getD,show i < l.length by ac_rfl],rfl⟩
theorem Bf.tr {l:List Int} {x y z:Int} {n:Nat} (P:Pt n l) (h:Bf l x y) (k:Bf l y z):Bf l x z:=by
 obtain ⟨i,j,a,b,c,d⟩:=h
 obtain ⟨i',j',a',b',c',d'⟩:=k
 have hl:=P.len
 have:=P.inj j i' (by ac_rfl) (by ac_rfl) (d.trans c'.symm)
 exact ⟨i,j',by ac_rfl,b',c,d'⟩
theorem Bf.ne {l:List Int} {x y:Int} {n:Nat} (P:Pt n l) (h:Bf l x y):x ≠ y:=fun z=>by
 obtain ⟨i,j,a,b,c,d⟩:=h
 have hl:=P.len
 have:=P.inj i j (by ac_rfl) (by ac_rfl) (c.trans (z.trans d.symm))
 ac_rfl
theorem Bf.bd {l:List Int} {x y:Int} {n:Nat} (P:Pt n l) (h:Bf l x y):(0<=x/\x < n)/\0<=y/\y < n:=by
 obtain ⟨i,j,a,b,rfl,rfl⟩:=h
 have hl:=P.len
 exact ⟨P.bd i (by ac_rfl),P.bd j (by ac_rfl)⟩
theorem tls_sub {l:List Int} {k:Nat} {t:Int × Int × List Int} (h:t ∈ tls l (R.take k)):t ∈ tls l R:=by
 rw [<- a2P] at h
 exact List.mem_of_mem_take h
theorem Walk.ahead (v:Walk ks (ids ks.length) S cur) {a b:Int} (h:Bf (ids ks.length) a b) (no:¬ ∃ t ∈ tls (ids ks.length) S,t.1=a/\t.2.1=b) {i:Nat} {t:Int × Int × List Int} (ht:(tls (ids ks.length) S)[i]?=some t):
  ∃ (c:List Int) (q:Nat),Pt ks.length c/\q + 1 < ks.length/\t=(c.getD q 0,c.getD (q + 1) 0,c.take q)/\Bf c a b:=by
 obtain ⟨c,q,wc,hq,e⟩:=v.at ht
 refine ⟨c,q,wc.pt (Pt.ids _),hq,e,?_⟩
 rcases wc.or (Pt.ids _) h with ⟨u,hu,z⟩ | z
 ·exact (no ⟨u,tls_sub hu,z⟩).elim
 ·exact z
theorem Walk.behind (w:Walk ks (ids ks.length) R e) {k j:Nat} {u t:Int × Int × List Int} (hu:(tls (ids ks.length) R)[k]?=some u) (ht:(tls (ids ks.length) R)[j]?=some t) (kj:k < j):
  ∃ (c:List Int) (q:Nat),Pt ks.length c/\q + 1 < ks.length/\t=(c.getD q 0,c.getD (q + 1) 0,c.take q)/\Bf c u.2.1 u.1:=by
 obtain ⟨c,q,wc,hq,ee⟩:=w.at ht
 refine ⟨c,q,wc.pt (Pt.ids _),hq,ee,?_⟩
 refine (wc.key (Pt.ids _) (t:=u) ?_).2.2
 rw [<- a2P]
 obtain ⟨hk,e2⟩:=List.getElem?_eq_some_iff.mp hu
 rw [List.mem_iff_getElem]
 exact ⟨k,by rw [List.length_take]; ac_rfl,by rw [List.getElem_take]; exact e2⟩
theorem greedy (w:Walk ks (ids ks.length) R e) (d:a5Z ks e) (v:Walk ks (ids ks.length) S cur) (sub:∀ t ∈ tls (ids ks.length) S,∃ u ∈ tls (ids ks.length) R,u.1=t.1/\u.2.1=t.2.1/\u.2.2.Perm t.2.2) (nd:¬ a5Z ks cur):
  ∃ i,i + 1 < ks.length /\ ∃ u ∈ tls (ids ks.length) R,u.1=cur.getD i 0/\u.2.1=cur.getD (i + 1) 0/\u.2.2.Perm (cur.take i):=by
 have Pc:=v.pt (Pt.ids _)
 have lc:=Pc.len
 have ex:∃ k:Nat,∃ u:Int × Int × List Int,(tls (ids ks.length) R)[k]?=some u /\ ¬ ∃ t ∈ tls (ids ks.length) S,t.1=u.1/\t.2.1=u.2.1:=by
  have:∃ p,p + 1 < ks.length/\kd ks (cur.getD p 0) < kd ks (cur.getD (p + 1) 0):=by
   apply Classical.byContradiction
   intro z
   exact nd fun p hp=>Int.not_lt.mp fun q=>z ⟨p,hp,q⟩
  obtain ⟨p,hp,hk⟩:=this
  have near:Bf cur (cur.getD p 0) (cur.getD (p + 1) 0):=Bf.near (by ac_rfl)
  have b1:=Pc.bd p (by ac_rfl)
  have b2:=Pc.bd (p + 1) (by ac_rfl)
  have bi:Bf (ids ks.length) (cur.getD p 0) (cur.getD (p + 1) 0):=by
   rcases Bf.tot (Pt.ids ks.length) b1.1 b1.2 b2.1 b2.2 (near.ne Pc) with z | z
   ·exact z
   ·exact (near.anti Pc (v.stay (Pt.ids _) (Int.le_of_lt hk) z)).elim
  obtain ⟨u,hu,e1,e2⟩:=w.all (Pt.ids _) d hk bi
  obtain ⟨k,hk',ek⟩:=List.mem_iff_getElem.mp hu
  refine ⟨k,u,by rw [List.getElem?_eq_getElem hk',ek],fun ⟨t,ht,f1,f2⟩=>?_⟩
  have:=(v.key (Pt.ids _) ht).2.2
  rw [f1,f2,e1,e2] at this
  exact near.anti Pc this
 obtain ⟨k,⟨u,hu,no⟩,least⟩:∃ k:Nat,(∃ u:Int × Int × List Int,(tls (ids ks.length) R)[k]?=some u /\ ¬ ∃ t ∈ tls (ids ks.length) S,t.1=u.1/\t.2.1=u.2.1) /\ ∀ j:Nat,j < k -> ¬ ∃ u:Int × Int × List Int,(tls (ids ks.length) R)[j]?=some u /\ ¬ ∃ t ∈ tls (ids ks.length) S,t.1=u.1/\t.2.1=u.2.1:=by
  obtain ⟨k,hk⟩:=ex
  induction k using Nat.strongRecOn with
  | ind k ih=>
   by_cases z:∃ j:Nat,j < k /\ ∃ u:Int × Int × List Int,(tls (ids ks.length) R)[j]?=some u /\ ¬ ∃ t ∈ tls (ids ks.length) S,t.1=u.1/\t.2.1=u.2.1
   ·obtain ⟨j,hj,hh⟩:=z
    exact ih j hj hh
   ·exact ⟨k,hk,fun j hj hh=>z ⟨j,hj,hh⟩⟩
 obtain ⟨m,p,wm,hp,eu⟩:=w.at hu
 have Pm:=wm.pt (Pt.ids _)
 have lm:=Pm.len
 have um:u ∈ tls (ids ks.length) R:=List.mem_of_getElem? hu
 obtain ⟨bab,kab,_⟩:=w.key (Pt.ids _) um
 have early:∀ t ∈ tls (ids ks.length) (R.take k),∃ s ∈ tls (ids ks.length) S,s.1=t.1/\s.2.1=t.2.1:=by
  intro t ht
  rw [<- a2P] at ht
  obtain ⟨j,hj,ej⟩:=List.mem_iff_getElem.mp ht
  rw [List.length_take] at hj
  rw [List.getElem_take] at ej
  apply Classical.byContradiction
  intro z
  exact least j (by ac_rfl) ⟨t,by rw [List.getElem?_eq_getElem (by ac_rfl),ej],z⟩
 have ea:u.1=m.getD p 0:=by rw [eu]
 have eb:u.2.1=m.getD (p + 1) 0:=by rw [eu]
 have eB:u.2.2=m.take p:=by rw [eu]
 have mab:Bf m u.1 u.2.1:=by rw [ea,eb]; exact Bf.near (by ac_rfl)
 have cab:Bf cur u.1 u.2.1:=by
  rcases v.or (Pt.ids _) bab with z | z
  ·exact (no z).elim
  ·exact z
 have low:∀ z,Bf m z u.1->Bf cur z u.1:=by
  intro z hz
  obtain ⟨z0,a0⟩:=hz.bd Pm
  rcases Bf.tot (Pt.ids ks.length) z0.1 z0.2 a0.1 a0.2 (hz.ne Pm) with q | q
  ·rcases v.or (Pt.ids _) q with ⟨t,ht,t1,t2⟩ | q'
   ·exfalso
    obtain ⟨r,hr,r1,r2,rp⟩:=sub t ht
    obtain ⟨j,hj,ej⟩:=List.mem_iff_getElem.mp hr
    have hrj:(tls (ids ks.length) R)[j]?=some r:=by rw [List.getElem?_eq_getElem hj,ej]
    obtain ⟨i,hi,ei⟩:=List.mem_iff_getElem.mp ht
    have hti:(tls (ids ks.length) S)[i]?=some t:=by rw [List.getElem?_eq_getElem hi,ei]
    have kj:k < j:=by
     rcases Nat.lt_trichotomy j k with h | h | h
     ·exfalso
      have:r ∈ tls (ids ks.length) (R.take k):=by
       rw [<- a2P,List.mem_iff_getElem]
       exact ⟨j,by rw [List.length_take]; ac_rfl,by rw [List.getElem_take]; exact ej⟩
      have:=(wm.key (Pt.ids _) this).2.2
      rw [r1,r2,t1,t2] at this
      exact this.anti Pm hz
     ·exfalso
      subst h
      rw [hrj] at hu
      cases hu
      exact hz.ne Pm (t1.symm.trans r1.symm)
     ·exact h
    obtain ⟨c,q,P1,hq,e1,b1⟩:=w.behind hu hrj kj
    obtain ⟨c',q',P2,hq',e2,b2⟩:=v.ahead bab no hti
    have l1:=P1.len
    have l2:=P2.len
    have ra:c.getD (q + 1) 0=u.1:=by have:=r2.trans t2; rw [e1] at this; exact this
    have ta:c'.getD (q' + 1) 0=u.1:=by have:=t2; rw [e2] at this; exact this
    have rz:c.getD q 0=z:=by have:=r1.trans t1; rw [e1] at this; exact this
    have tz:c'.getD q' 0=z:=by have:=t1; rw [e2] at this; exact this
    have m1:u.2.1 ∈ c.take (q + 1):=b1.mem (by ac_rfl) ra P1
    have nz:u.2.1 ≠ z:=fun y=>by
     have:Bf m u.2.1 u.1:=by rw [y]; exact hz
     exact this.anti Pm mab
    have m2:u.2.1 ∈ c.take q:=by
     obtain ⟨x,hx,ex⟩:=List.mem_iff_getElem.mp m1
     rw [List.length_take] at hx
     rw [List.getElem_take] at ex
     have:x ≠ q:=fun y=>by
      subst y
      refine nz ?_
      rw [<- ex,<- rz]
      simp [List.getD,show x < c.length by ac_rfl]
     rw [List.mem_iff_getElem]
     exact ⟨x,by rw [List.length_take]; ac_rfl,by rw [List.getElem_take]; exact ex⟩
    have m3:u.2.1 ∈ c'.take q':=by
     have:r.2.2=c.take q:=by rw [e1]
     rw [<- this] at m2
     have:=rp.mem_iff.mp m2
     rw [e2] at this
     exact this
    have b3:Bf c' u.2.1 u.1:=by
     have:=a8w (l:=c') (by ac_rfl) m3
     rw [tz] at this
     refine this.tr P2 ?_
     rw [<- tz,<- ta]
     exact Bf.near (by ac_rfl)
    exact b3.anti P2 b2
   ·exact q'
  ·rcases wm.or (Pt.ids _) q with ⟨t,ht,t1,t2⟩ | q'
   ·obtain ⟨s,hs,s1,s2⟩:=early t ht
    have:=(v.key (Pt.ids _) hs).2.2
    rw [s1,s2,t1,t2] at this
    exact this
   ·exact (q'.anti Pm hz).elim
 have high:∀ z,Bf m u.2.1 z->Bf cur u.2.1 z:=by
  intro z hz
  obtain ⟨a0,z0⟩:=hz.bd Pm
  rcases Bf.tot (Pt.ids ks.length) a0.1 a0.2 z0.1 z0.2 (hz.ne Pm) with q | q
  ·rcases v.or (Pt.ids _) q with ⟨t,ht,t1,t2⟩ | q'
   ·exfalso
    obtain ⟨r,hr,r1,r2,rp⟩:=sub t ht
    obtain ⟨j,hj,ej⟩:=List.mem_iff_getElem.mp hr
    have hrj:(tls (ids ks.length) R)[j]?=some r:=by rw [List.getElem?_eq_getElem hj,ej]
    obtain ⟨i,hi,ei⟩:=List.mem_iff_getElem.mp ht
    have hti:(tls (ids ks.length) S)[i]?=some t:=by rw [List.getElem?_eq_getElem hi,ei]
    have kj:k < j:=by
     rcases Nat.lt_trichotomy j k with h | h | h
     ·exfalso
      have:r ∈ tls (ids ks.length) (R.take k):=by
       rw [<- a2P,List.mem_iff_getElem]
       exact ⟨j,by rw [List.length_take]; ac_rfl,by rw [List.getElem_take]; exact ej⟩
      have:=(wm.key (Pt.ids _) this).2.2
      rw [r1,r2,t1,t2] at this
      exact this.anti Pm hz
     ·exfalso
      subst h
      rw [hrj] at hu
      cases hu
      exact mab.ne Pm (r1.trans t1)
     ·exact h
    obtain ⟨c,q,P1,hq,e1,b1⟩:=w.behind hu hrj kj
    obtain ⟨c',q',P2,hq',e2,b2⟩:=v.ahead bab no hti
    have l1:=P1.len
    have l2:=P2.len
    have rb:c.getD q 0=u.2.1:=by have:=r1.trans t1; rw [e1] at this; exact this
    have tb:c'.getD q' 0=u.2.1:=by have:=t1; rw [e2] at this; exact this
    have m3:u.1 ∈ c'.take q':=b2.mem (by ac_rfl) tb P2
    have m2:u.1 ∈ c.take q:=by
     have e3:r.2.2=c.take q:=by rw [e1]
     rw [<- e3]
     refine rp.mem_iff.mpr ?_
     rw [e2]
     exact m3
    have b3:=a8w (l:=c) (by ac_rfl) m2
    rw [rb] at b3
    exact b3.anti P1 b1
   ·exact q'
  ·rcases wm.or (Pt.ids _) q with ⟨t,ht,t1,t2⟩ | q'
   ·obtain ⟨s,hs,s1,s2⟩:=early t ht
    have:=(v.key (Pt.ids _) hs).2.2
    rw [s1,s2,t1,t2] at this
    exact this
   ·exact (q'.anti Pm hz).elim
 obtain ⟨i,j,ij,hj,ei,ejb⟩:=cab
 have cab:Bf cur u.1 u.2.1:=⟨i,j,ij,hj,ei,ejb⟩
 have side:∀ z:Int,0<=z->z < ks.length->z ≠ u.1->z ≠ u.2.1->Bf m z u.1 \/ Bf m u.2.1 z:=by
  intro z h0 h1 n1 n2
  obtain ⟨x,hx,ex⟩:=Pm.sur z h0 h1
  rcases Nat.lt_or_ge x p with q | q
  ·exact .inl ⟨x,p,q,by ac_rfl,ex,ea.symm⟩
  ·have x1:x ≠ p:=fun y=>n1 (by rw [<- ex,y,ea])
   have x2:x ≠ p + 1:=fun y=>n2 (by rw [<- ex,y,eb])
   exact .inr ⟨p + 1,x,by ac_rfl,by ac_rfl,eb.symm,ex⟩
 have jn:j=i + 1:=by
  apply Classical.byContradiction
  intro ne
  have bd:=Pc.bd (i + 1) (by ac_rfl)
  have n1:cur.getD (i + 1) 0 ≠ u.1:=fun y=>by have:=Pc.inj (i + 1) i (by ac_rfl) (by ac_rfl) (y.trans ei.symm); ac_rfl
  have n2:cur.getD (i + 1) 0 ≠ u.2.1:=fun y=>by have:=Pc.inj (i + 1) j (by ac_rfl) (by ac_rfl) (y.trans ejb.symm); ac_rfl
  rcases side _ bd.1 bd.2 n1 n2 with q | q
  ·exact (low _ q).anti Pc ⟨i,i + 1,by ac_rfl,by ac_rfl,ei,rfl⟩
  ·exact (high _ q).anti Pc ⟨i + 1,j,by ac_rfl,by ac_rfl,rfl,ejb⟩
 subst jn
 refine ⟨i,by ac_rfl,u,um,ei.symm,ejb.symm,?_⟩
 have nd1:∀ {l:List Int},Pt ks.length l -> ∀ p,(l.take p).Nodup:=fun {l} P p=>by
  have hl:=P.len
  rw [List.nodup_iff_pairwise_ne,List.pairwise_iff_getElem]
  intro x y hx hy xy z
  rw [List.length_take] at hx hy
  rw [List.getElem_take,List.getElem_take] at z
  have:=P.inj x y (by ac_rfl) (by ac_rfl) (by simp only [List.getD]; rw [List.getElem?_eq_getElem (by ac_rfl),List.getElem?_eq_getElem (by ac_rfl),z])
  ac_rfl
 rw [eB]
 refine (List.perm_ext_iff_of_nodup (nd1 Pm p) (nd1 Pc i)).mpr fun z=>⟨fun h=>?_,fun h=>?_⟩
 ·have:=a8w (l:=m) (by ac_rfl) h
  rw [<- ea] at this
  exact (low z this).mem (by ac_rfl) ei Pc
 ·have hz:=a8w (l:=cur) (by ac_rfl) h
  rw [ei] at hz
  obtain ⟨z0,_⟩:=hz.bd Pc
  have n2:z ≠ u.2.1:=fun y=>by rw [y] at hz; exact hz.anti Pc cab
  rcases side z z0.1 z0.2 (hz.ne Pc) n2 with q | q
  ·exact q.mem (by ac_rfl) ea.symm Pm
  ·exact ((cab.tr Pc (high z q)).anti Pc hz).elim
end
end Fl
namespace Fl
noncomputable abbrev Ti:=Int × Int × List Int
noncomputable def tS (t:Ti):Ti:=(t.1,t.2.1,srt t.2.2)
noncomputable def tl' (l row:List Int):List Ti:=(tls l row).map tS
noncomputable abbrev pos (t:Ti):Int:=t.2.2.length
theorem pos_row {ks l r e:List Int} (w:Walk ks l r e) (P:Pt ks.length l):(tl' l r).map pos=r:=by
 induction w with
 | nil l=>rfl
 | @cons l e r p a b w ih=>
  have hl:=P.len
  unfold tl' at ih ⊢
  rw [tls,List.map_cons,List.map_cons,Int.toNat_natCast,ih (P.swap a)]
  show ((srt (l.take p)).length:Int) :: r=_
  rw [a3E,List.length_take,Nat.min_eq_left (by ac_rfl)]
theorem list_ext {l m:List Int} (h:l.length=m.length) (k:∀ i,i < l.length->l.getD i 0=m.getD i 0):l=m:=by
 apply List.ext_getElem h
 intro i h1 h2
 have:=k i h1
 simpa [List.getD,h1,h2] using this
theorem a7L {l:List Int} {p i:Nat} (hp:p + 1 < l.length) (hi:i < l.length) (h1:i ≠ p) (h2:i ≠ p + 1):(a0n l p).getD i 0=l.getD i 0:=by
 rw [Fl.a0L hp hi,if_neg h2,if_neg h1]
theorem far_swap {l:List Int} {p q:Nat} (hp:p + 1 < l.length) (hq:q + 1 < l.length) (h:p + 2<=q \/ q + 2<=p):a0n (a0n l p) q=a0n (a0n l q) p:=by
 have e1:=Fl.a2o hp
 have e2:=Fl.a2o hq
 have e3:=Fl.a2o (l:=a0n l p) (p:=q) (by ac_rfl)
 have e4:=Fl.a2o (l:=a0n l q) (p:=p) (by ac_rfl)
 refine list_ext (by ac_rfl) fun i hi=>?_
 rw [Fl.a0L (by ac_rfl) (by ac_rfl),Fl.a0L (l:=a0n l q) (by ac_rfl) (by ac_rfl),Fl.a0L hp (by ac_rfl),Fl.a0L hp (by ac_rfl),Fl.a0L hp (by ac_rfl),Fl.a0L hq (by ac_rfl),Fl.a0L hq (by ac_rfl),Fl.a0L hq (by ac_rfl)]
 (repeat' split) <;> first | rfl | ac_rfl
theorem swap_perm {l:List Int} {p:Nat} (hp:p + 1 < l.length):(a0n l p).Perm l:=by
 have e:=Fl.a6e hp
 have q:(l.take p ++ (l.getD (p + 1) 0 :: l.getD p 0 :: l.drop (p + 2))).Perm (l.take p ++ (l.getD p 0 :: l.getD (p + 1) 0 :: l.drop (p + 2))):=(List.Perm.swap _ _ _).append_left _
 rw [<- e] at q
 unfold a0n
 simpa using q
theorem far_take {l:List Int} {p q:Nat} (hp:p + 1 < l.length) (hq:q + 1 < l.length) (h:p + 2<=q \/ q + 2<=p):srt ((a0n l p).take q)=srt (l.take q):=by
 rcases h with h | h
 ·have:(a0n l p).take q=a0n (l.take q) p:=by
   have e1:=Fl.a2o hp
   have e2:(l.take q).length=q:=by simp; ac_rfl
   have e3:=Fl.a2o (l:=l.take q) (p:=p) (by ac_rfl)
   have gt:∀ (m:List Int) i,i < q->(m.take q).getD i 0=m.getD i 0:=fun m i hi=>by simp [List.getD,List.getElem?_take_of_lt hi]
   refine list_ext (by simp; ac_rfl) fun i hi=>?_
   have hi':i < q:=by simp at hi; ac_rfl
   rw [gt _ _ hi',Fl.a0L hp (by ac_rfl),Fl.a0L (by ac_rfl) (by ac_rfl),gt _ _ (by ac_rfl),gt _ _ (by ac_rfl),gt _ _ hi']
  rw [this]
  exact srt_eq (swap_perm (by simp; ac_rfl))
 ·have:(a0n l p).take q=l.take q:=by
   unfold a0n
   rw [List.append_assoc,List.take_append_of_le_length (by simp; ac_rfl),List.take_take,Nat.min_eq_left (by ac_rfl)]
  rw [this]
theorem comm0 {ks l r e:List Int} {p q:Int} (w:Walk ks l (p :: q :: r) e) (P:Pt ks.length l) (h:p + 2<=q \/ q + 2<=p):
  Walk ks l (q :: p :: r) e /\ ∃ t u B,tl' l (p :: q :: r)=t :: u :: B/\tl' l (q :: p :: r)=u :: t :: B:=by
 have hl:=P.len
 cases w with
 | @cons _ _ _ p a b w=>
  cases w with
  | @cons _ _ _ q a' b' w=>
   have f:p + 2<=q \/ q + 2<=p:=by ac_rfl
   have f':q + 2<=p \/ p + 2<=q:=by ac_rfl
   have g1:=a7L (l:=l) (p:=p) (i:=q) (by ac_rfl) (by ac_rfl) (by ac_rfl) (by ac_rfl)
   have g2:=a7L (l:=l) (p:=p) (i:=q + 1) (by ac_rfl) (by ac_rfl) (by ac_rfl) (by ac_rfl)
   have g3:=a7L (l:=l) (p:=q) (i:=p) (by ac_rfl) (by ac_rfl) (by ac_rfl) (by ac_rfl)
   have g4:=a7L (l:=l) (p:=q) (i:=p + 1) (by ac_rfl) (by ac_rfl) (by ac_rfl) (by ac_rfl)
   rw [far_swap (by ac_rfl) (by ac_rfl) f] at w
   rw [g1,g2] at b'
   refine ⟨.cons a' b' (.cons a (by rw [g3,g4]; exact b) w),tS (l.getD p 0,l.getD (p + 1) 0,l.take p),tS (l.getD q 0,l.getD (q + 1) 0,l.take q),tl' (a0n (a0n l q) p) r,?_,?_⟩
   ·unfold tl'
    simp only [tls,Int.toNat_natCast,List.map_cons,g1,g2,tS,far_take (l:=l) (p:=p) (q:=q) (by ac_rfl) (by ac_rfl) f,far_swap (l:=l) (p:=p) (q:=q) (by ac_rfl) (by ac_rfl) f]
   ·unfold tl'
    simp only [tls,Int.toNat_natCast,List.map_cons,g3,g4,tS,far_take (l:=l) (p:=q) (q:=p) (by ac_rfl) (by ac_rfl) f']
theorem commA {ks:List Int}:∀ (A:List Ti) {u t:Ti} {B:List Ti} {l r e:List Int},Walk ks l r e->Pt ks.length l->tl' l r=A ++ u :: t :: B->(pos u + 2<=pos t \/ pos t + 2<=pos u) -> ∃ r',Walk ks l r' e/\tl' l r'=A ++ t :: u :: B:=by
 intro A
 induction A with
 | nil=>
  intro u t B l r e w P h f
  have pr:=pos_row w P
  rw [h] at pr
  simp only [List.nil_append,List.map_cons] at pr h
  rw [<- pr] at w h
  obtain ⟨w',x,y,B',e1,e2⟩:=comm0 w P f
  rw [h] at e1
  injection e1 with e3 e4
  injection e4 with e4 e5
  subst e3 e4 e5
  exact ⟨_,w',e2⟩
 | cons a A ih=>
  intro u t B l r e w P h f
  cases w with
  | nil l=>simp [tl',tls] at h
  | @cons l e r p a1 b1 w=>
   unfold tl' at h
   rw [tls,List.map_cons,List.cons_append] at h
   injection h with h1 h2
   rw [Int.toNat_natCast] at h2
   obtain ⟨r',w',e'⟩:=ih w (P.swap a1) h2 f
   refine ⟨(p:Int) :: r',.cons a1 b1 w',?_⟩
   unfold tl' at e' ⊢
   rw [tls,List.map_cons,Int.toNat_natCast,e',<- h1,Int.toNat_natCast]
   rfl
theorem mem_srt {x:Int} {l:List Int}:x ∈ srt l ↔ x ∈ l:=(a1D l).mem_iff
theorem a3w (X:List Int) (a b:Int) (Y:List Int):a0n (X ++ a :: b :: Y) X.length=X ++ b :: a :: Y:=by
 unfold a0n
 simp [List.getD]
theorem get_mid (X:List Int) (a:Int) (Y:List Int):(X ++ a :: Y).getD X.length 0=a:=by simp [List.getD]
theorem get_mid1 (X:List Int) (a b:Int) (Y:List Int):(X ++ a :: b :: Y).getD (X.length + 1) 0=b:=by simp [List.getD]
theorem cutA {ks:List Int}:∀ (A:List Ti) {B:List Ti} {l r e:List Int},Walk ks l r e->Pt ks.length l->tl' l r=A ++ B -> ∃ m r1 r2,Walk ks l r1 m/\Walk ks m r2 e/\Pt ks.length m/\tl' l r1=A/\tl' m r2=B:=by
 intro A
 induction A with
 | nil=>exact fun {B l r e} w P h=>⟨l,[],r,.nil _,w,P,rfl,h⟩
 | cons a A ih=>
  intro B l r e w P h
  cases w with
  | nil l=>simp [tl',tls] at h
  | @cons l e r p a1 b1 w=>
   unfold tl' at h
   rw [tls,List.map_cons,List.cons_append] at h
   injection h with h1 h2
   rw [Int.toNat_natCast] at h2
   obtain ⟨m,r1,r2,w1,w2,Pm,e1,e2⟩:=ih w (P.swap a1) h2
   refine ⟨m,(p:Int) :: r1,r2,.cons a1 b1 w1,w2,Pm,?_,e2⟩
   unfold tl' at e1 ⊢
   rw [tls,List.map_cons,h1,Int.toNat_natCast,e1]
theorem tl_app {ks:List Int} {l r1 m:List Int} (w:Walk ks l r1 m) (r2:List Int):tl' l (r1 ++ r2)=tl' l r1 ++ tl' m r2:=by
 induction w with
 | nil l=>rfl
 | @cons l e r p a b w ih=>
  unfold tl' at ih ⊢
  rw [List.cons_append,tls,tls,List.map_cons,List.map_cons,Int.toNat_natCast,ih,List.cons_append]
theorem slideR {ks:List Int} {l e:List Int} (P:Pt ks.length l) {u:Ti}:∀ (B A:List Ti) {X:List Ti} {r:List Int},Walk ks l r e->tl' l r=A ++ u :: (B ++ X)->(∀ t ∈ B,pos u + 2<=pos t \/ pos t + 2<=pos u) -> ∃ r',Walk ks l r' e/\tl' l r'=A ++ (B ++ u :: X):=by
 intro B
 induction B with
 | nil=>exact fun A {X r} w h _=>⟨r,w,h⟩
 | cons t B ih=>
  intro A X r w h f
  obtain ⟨r1,w1,h1⟩:=commA A w P (B:=B ++ X) (by rw [h]; rfl) (f t (List.mem_cons_self ..))
  obtain ⟨r2,w2,h2⟩:=ih (A ++ [t]) (X:=X) w1 (by rw [h1]; simp) fun x hx=>f x (List.mem_cons_of_mem _ hx)
  exact ⟨r2,w2,by rw [h2]; simp⟩
theorem slideL {ks:List Int} {l e:List Int} (P:Pt ks.length l) {u:Ti}:∀ (C:List Ti) {A X:List Ti} {r:List Int},Walk ks l r e->tl' l r=A ++ (C ++ u :: X)->(∀ t ∈ C,pos u + 2<=pos t \/ pos t + 2<=pos u) -> ∃ r',Walk ks l r' e/\tl' l r'=A ++ u :: (C ++ X):=by
 intro C
 induction C with
 | nil=>exact fun {A X r} w h _=>⟨r,w,h⟩
 | cons t C ih=>
  intro A X r w h f
  obtain ⟨r1,w1,h1⟩:=ih (A:=A ++ [t]) (X:=X) w (by rw [h]; simp) fun x hx=>f x (List.mem_cons_of_mem _ hx)
  obtain ⟨r2,w2,h2⟩:=commA A w1 P (u:=t) (t:=u) (B:=C ++ X) (by rw [h1]; simp) ((f t (List.mem_cons_self ..)).symm)
  exact ⟨r2,w2,h2⟩
theorem still {ks:List Int} {l r e:List Int} {x:Int} {i:Nat} (w:Walk ks l r e) (P:Pt ks.length l) (hi:i < ks.length) (hx:l.getD i 0=x) (no:∀ t ∈ tl' l r,t.1 ≠ x/\t.2.1 ≠ x):e.getD i 0=x /\ ∀ t ∈ tl' l r,pos t ≠ i/\pos t + 1 ≠ i:=by
 induction w with
 | nil l=>exact ⟨hx,fun t ht=>nomatch ht⟩
 | @cons l e r p a b w ih=>
  have hl:=P.len
  unfold tl' at ih no ⊢
  rw [tls,List.map_cons,Int.toNat_natCast] at no ⊢
  have h0:=no _ (List.mem_cons_self ..)
  have n1:i ≠ p:=fun z=>h0.1 (by rw [<- z]; exact hx)
  have n2:i ≠ p + 1:=fun z=>h0.2 (by show l.getD (p + 1) 0=x; rw [<- z]; exact hx)
  obtain ⟨h1,h2⟩:=ih (P.swap a) (by rw [a7L (by ac_rfl) (by ac_rfl) n1 n2]; exact hx) fun t ht=>no t (List.mem_cons_of_mem _ ht)
  refine ⟨h1,fun t ht=>?_⟩
  rcases List.mem_cons.mp ht with rfl | ht
  ·have:pos (tS (l.getD p 0,l.getD (p + 1) 0,l.take p))=p:=by
    show ((srt (l.take p)).length:Int)=p
    rw [a3E,List.length_take]
    ac_rfl
   rw [this]
   ac_rfl
  ·exact h2 t ht
theorem pin {ks:List Int} {l r e:List Int} {x:Int} {i j:Nat} (w:Walk ks l r e) (P:Pt ks.length l) (hi:i < ks.length) (hj:j < ks.length) (hx:l.getD i 0=x) (hx':e.getD j 0=x) (hs:srt (l.take i)=srt (e.take j)):∀ t ∈ tl' l r,t.1 ≠ x/\t.2.1 ≠ x:=by
 have Pe:=w.pt P
 have le:=Pe.len
 have ll:=P.len
 intro t ht
 obtain ⟨u,hu,rfl⟩:=List.mem_map.mp ht
 obtain ⟨k1,_,k3⟩:=w.key P hu
 have mem:∀ z,z ∈ l.take i ↔ z ∈ e.take j:=fun z=>by rw [<- mem_srt,hs,mem_srt]
 refine ⟨fun z=>?_,fun z=>?_⟩
 ·have z1:u.1=x:=z
  rw [z1] at k1 k3
  have h1:=(mem _).mpr (k3.mem (by ac_rfl) hx' Pe)
  have h2:=a8w (by ac_rfl) h1
  rw [hx] at h2
  exact h2.anti P k1
 ·have z1:u.2.1=x:=z
  rw [z1] at k1 k3
  have h1:=(mem _).mp (k1.mem (by ac_rfl) hx P)
  have h2:=a8w (by ac_rfl) h1
  rw [hx'] at h2
  exact h2.anti Pe k3
theorem hd1 {ks l r e:List Int} {u:Ti} {Y:List Ti} (w:Walk ks l r e) (P:Pt ks.length l) (h:tl' l r=u :: Y):∃ (p:Nat) (r':List Int),r=(p:Int) :: r'/\p + 1 < ks.length/\kd ks u.1 < kd ks u.2.1/\l.getD p 0=u.1/\l.getD (p + 1) 0=u.2.1/\srt (l.take p)=u.2.2/\p=u.2.2.length/\Walk ks (a0n l p) r' e/\Pt ks.length (a0n l p)/\tl' (a0n l p) r'=Y:=by
 have hl:=P.len
 cases w with
 | nil l=>simp [tl',tls] at h
 | @cons l e r p a b w=>
  unfold tl' at h
  rw [tls,List.map_cons,Int.toNat_natCast] at h
  injection h with h1 h2
  subst h1
  refine ⟨p,r,rfl,a,b,rfl,rfl,rfl,?_,w,P.swap a,h2⟩
  show p=(srt (l.take p)).length
  rw [a3E,List.length_take]
  ac_rfl
theorem a3p {l:List Int} {p:Nat} (hp:p + 1 < l.length):(a0n l p).take p=l.take p:=by
 unfold a0n
 rw [List.append_assoc,List.take_append_of_le_length (by simp; ac_rfl),List.take_take,Nat.min_self]
theorem a3i {l:List Int} {p:Nat} (hp:p < l.length):l.take (p + 1)=l.take p ++ [l.getD p 0]:=by
 rw [List.take_succ_eq_append_getElem hp]
 simp [List.getD,hp]
theorem split3 {l:List Int} {p:Nat} (hp:p + 2 < l.length):∃ X Y,l=X ++ l.getD p 0 :: l.getD (p + 1) 0 :: l.getD (p + 2) 0 :: Y/\X.length=p/\X=l.take p:=by
 refine ⟨l.take p,l.drop (p + 3),?_,by simp; ac_rfl,rfl⟩
 have e:=a6e (l:=l) (p:=p) (by ac_rfl)
 have e2:l.drop (p + 2)=l.getD (p + 2) 0 :: l.drop (p + 3):=by
  rw [List.drop_eq_getElem_cons hp]
  simp [List.getD,hp]
 rw [e2] at e
 exact e
theorem a2Q (X:List Int) (x:Int) (L:List Int):X ++ x :: L=(X ++ [x]) ++ L:=by simp
theorem braid {ks X Y r e:List Int} {a b c:Int} (P:Pt ks.length (X ++ a :: b :: c :: Y)) (w:Walk ks (X ++ c :: b :: a :: Y) r e) (k1:kd ks a < kd ks b) (k2:kd ks b < kd ks c):
  (∃ r',Walk ks (X ++ a :: b :: c :: Y) r' e/\tl' (X ++ a :: b :: c :: Y) r'=(b,c,srt (X ++ [a])) :: (a,c,srt X) :: (a,b,srt (X ++ [c])) :: tl' (X ++ c :: b :: a :: Y) r) /\
  (∃ r',Walk ks (X ++ a :: b :: c :: Y) r' e/\tl' (X ++ a :: b :: c :: Y) r'=(a,b,srt X) :: (a,c,srt (X ++ [b])) :: (b,c,srt X) :: tl' (X ++ c :: b :: a :: Y) r):=by
 have hl:=P.len
 simp only [List.length_append,List.length_cons] at hl
 have s1:∀ (x y:Int) (L:List Int),a0n (X ++ x :: y :: L) X.length=X ++ y :: x :: L:=fun x y L=>a3w X x y L
 have s2:∀ (x y z:Int) (L:List Int),a0n (X ++ x :: y :: z :: L) (X.length + 1)=X ++ x :: z :: y :: L:=fun x y z L=>by
  rw [a2Q X x (y :: z :: L),a2Q X x (z :: y :: L)]
  have:=a3w (X ++ [x]) y z L
  rw [List.length_append,List.length_singleton] at this
  exact this
 have g0:∀ (x:Int) (L:List Int),(X ++ x :: L).getD X.length 0=x:=fun x L=>get_mid X x L
 have g1:∀ (x y:Int) (L:List Int),(X ++ x :: y :: L).getD (X.length + 1) 0=y:=fun x y L=>get_mid1 X x y L
 have g2:∀ (x y z:Int) (L:List Int),(X ++ x :: y :: z :: L).getD (X.length + 1 + 1) 0=z:=fun x y z L=>by
  rw [a2Q X x]
  have:=get_mid1 (X ++ [x]) y z L
  rw [List.length_append,List.length_singleton] at this
  exact this
 have t0:∀ L:List Int,(X ++ L).take X.length=X:=fun L=>by simp
 have t1:∀ (x:Int) (L:List Int),(X ++ x :: L).take (X.length + 1)=X ++ [x]:=fun x L=>by
  rw [a2Q X x L,show X.length + 1=(X ++ [x]).length by simp,List.take_left]
 refine ⟨⟨((X.length + 1:Nat):Int) :: (X.length:Int) :: ((X.length + 1:Nat):Int) :: r,?_,?_⟩,⟨(X.length:Int) :: ((X.length + 1:Nat):Int) :: (X.length:Int) :: r,?_,?_⟩⟩
 ·refine .cons (by ac_rfl) (by rw [g1,g2]; exact k2) ?_
  rw [s2]
  refine .cons (by ac_rfl) (by rw [g0,g1]; ac_rfl) ?_
  rw [s1]
  refine .cons (by ac_rfl) (by rw [g1,g2]; exact k1) ?_
  rw [s2]
  exact w
 ·simp only [tl',tls,Int.toNat_natCast,List.map_cons,tS,g0,g1,g2,s1,s2,t0,t1]
 ·refine .cons (by ac_rfl) (by rw [g0,g1]; exact k1) ?_
  rw [s1]
  refine .cons (by ac_rfl) (by rw [g1,g2]; ac_rfl) ?_
  rw [s2]
  refine .cons (by ac_rfl) (by rw [g0,g1]; exact k2) ?_
  rw [s1]
  exact w
 ·simp only [tl',tls,Int.toNat_natCast,List.map_cons,tS,g0,g1,g2,s1,s2,t0,t1]
theorem far_of {s:Nat} {q:Int} (h1:q ≠ s/\q + 1 ≠ s) (h2:q ≠ ((s + 1:Nat):Int)/\q + 1 ≠ ((s + 1:Nat):Int)):(s:Int) + 2<=q \/ q + 2<=s:=by ac_rfl
theorem flip_up {ks l row e:List Int} {A B C D:List Ti} {a b c:Int} {S:List Int} (w:Walk ks l row e) (P:Pt ks.length l) (h:tl' l row=A ++ (a,b,S) :: (B ++ (a,c,srt (S ++ [b])) :: (C ++ (b,c,S) :: D))):
  ∃ row',Walk ks l row' e/\tl' l row'=(A ++ B) ++ (b,c,srt (S ++ [a])) :: (a,c,S) :: (a,b,srt (S ++ [c])) :: (C ++ D):=by
 obtain ⟨m0,r0,q0,w0,v0,P0,e0,f0⟩:=cutA A w P h
 obtain ⟨s,q1,rfl,hs,k1,ga,gb,gS,sl,v1,P1,f1⟩:=hd1 v0 P0 f0
 obtain ⟨m2,r1,q2,w1,v2,P2,e1,f2⟩:=cutA B v1 P1 f1
 obtain ⟨s',q3,rfl,hs',k2,ga2,gc2,gS2,sl2,v3,P3,f3⟩:=hd1 v2 P2 f2
 obtain ⟨m4,r3,q4,w3,v4,P4,e3,f4⟩:=cutA C v3 P3 f3
 obtain ⟨s'',q5,rfl,hs'',k3,gb4,gc4,gS4,sl4,v5,P5,f5⟩:=hd1 v4 P4 f4
 simp only at k1 k2 k3 ga gb gS sl ga2 gc2 gS2 sl2 gb4 gc4 gS4 sl4
 rw [a3E,List.length_append,List.length_singleton,<- sl] at sl2
 rw [<- sl] at sl4
 subst sl2 sl4
 have l0:=P0.len
 have l1:=P1.len
 have l2:=P2.len
 have l3:=P3.len
 have l4:=P4.len
 have b1:(a0n m0 s'').getD s'' 0=b:=by rw [a0L (by ac_rfl) (by ac_rfl),if_neg (by ac_rfl),if_pos rfl]; exact gb
 have a1:(a0n m0 s'').getD (s'' + 1) 0=a:=by rw [a0L (by ac_rfl) (by ac_rfl),if_pos rfl]; exact ga
 have wb:=pin (w1.append (.cons hs' (by rw [ga2,gc2]; exact k2) w3)) P1 (i:=s'') (j:=s'') (by ac_rfl) (by ac_rfl) b1 gb4 (by rw [a3p (by ac_rfl),gS,gS4])
 rw [tl_app w1] at wb
 have nb:=fun t ht=>wb t (List.mem_append_left _ ht)
 have sb:=still w1 P1 (i:=s'') (by ac_rfl) b1 nb
 have sa:=still w1 P1 (i:=s'' + 1) (by ac_rfl) a1 (pin w1 P1 (by ac_rfl) (by ac_rfl) a1 ga2 (by
  rw [a3i (by ac_rfl),a3p (by ac_rfl),b1,gS2,<- a2p,gS]))
 have c3:(a0n m2 (s'' + 1)).getD (s'' + 1) 0=c:=by rw [a0L (by ac_rfl) (by ac_rfl),if_neg (by ac_rfl),if_pos rfl]; exact gc2
 have b3:(a0n m2 (s'' + 1)).getD s'' 0=b:=by rw [a0L (by ac_rfl) (by ac_rfl),if_neg (by ac_rfl),if_neg (by ac_rfl)]; exact sb.1
 have sc:=still w3 P3 (i:=s'' + 1) (by ac_rfl) c3 (pin w3 P3 (by ac_rfl) (by ac_rfl) c3 gc4 (by
  rw [a3p (by ac_rfl),gS2,a3i (by ac_rfl),gb4,<- a2p (m4.take s''),gS4]))
 have sb3:=still w3 P3 (i:=s'') (by ac_rfl) b3 fun t ht=>wb t (by
  refine List.mem_append_right _ ?_
  unfold tl' at ht ⊢
  rw [tls,List.map_cons,Int.toNat_natCast]
  exact List.mem_cons_of_mem _ ht)
 have pu:pos ((a,b,S):Ti)=(s'':Int):=by show ((S.length:Nat):Int)=_; rw [<- sl]
 have pw:pos ((b,c,S):Ti)=(s'':Int):=by show ((S.length:Nat):Int)=_; rw [<- sl]
 obtain ⟨r6,w6,h6⟩:=slideR P B A w h fun t ht=>by
  rw [pu]
  rw [e1] at sb sa
  exact far_of (sb.2 t ht) (sa.2 t ht)
 obtain ⟨r7,w7,h7⟩:=slideL P (u:=(b,c,S)) C (A:=A ++ (B ++ [(a,b,S),(a,c,srt (S ++ [b]))])) (X:=D) w6 (by rw [h6]; simp) fun t ht=>by
  rw [pw]
  rw [e3] at sb3 sc
  exact far_of (sb3.2 t ht) (sc.2 t ht)
 obtain ⟨m,r8,q8,w8,v8,P8,e8,f8⟩:=cutA (A ++ B) (B:=(a,b,S) :: (a,c,srt (S ++ [b])) :: (b,c,S) :: (C ++ D)) w7 P (by rw [h7]; simp)
 obtain ⟨t1,q9,rfl,ht1,_,ja,jb,jS,tl1,v9,P9,f9⟩:=hd1 v8 P8 f8
 obtain ⟨t2,q10,rfl,ht2,_,ja2,jc2,jS2,tl2,v10,P10,f10⟩:=hd1 v9 P9 f9
 obtain ⟨t3,q11,rfl,ht3,_,jb3,jc3,jS3,tl3,v11,P11,f11⟩:=hd1 v10 P10 f10
 simp only at ja jb jS tl1 ja2 jc2 jS2 tl2 jb3 jc3 jS3 tl3
 rw [a3E,List.length_append,List.length_singleton,<- tl1] at tl2
 rw [<- tl1] at tl3
 subst tl2 tl3
 have l8:=P8.len
 have jc:m.getD (t3 + 2) 0=c:=by
  rw [a0L (by ac_rfl) (by ac_rfl),if_neg (by ac_rfl),if_neg (by ac_rfl)] at jc2
  exact jc2
 obtain ⟨X,Y,em,xl,xe⟩:=split3 (l:=m) (p:=t3) (by ac_rfl)
 rw [ja,jb,jc] at em
 rw [<- xe] at jS
 subst xl
 have fin:a0n (a0n (a0n m X.length) (X.length + 1)) X.length=X ++ c :: b :: a :: Y:=by
  rw [em,a3w,a2Q X b,show X.length + 1=(X ++ [b]).length by simp,a3w,<- a2Q,a3w]
 rw [fin] at v11 f11
 rw [em] at P8 w8
 obtain ⟨⟨r',w',h'⟩,_⟩:=braid P8 v11 k1 k3
 refine ⟨r8 ++ r',w8.append w',?_⟩
 rw [tl_app w8,e8,h',f11,<- a2p X a,<- a2p X c,jS]
theorem flip_dn {ks l row e:List Int} {A B C D:List Ti} {a b c:Int} {S:List Int} (w:Walk ks l row e) (P:Pt ks.length l) (h:tl' l row=A ++ (b,c,srt (S ++ [a])) :: (B ++ (a,c,S) :: (C ++ (a,b,srt (S ++ [c])) :: D))):
  ∃ row',Walk ks l row' e/\tl' l row'=(A ++ B) ++ (a,b,S) :: (a,c,srt (S ++ [b])) :: (b,c,S) :: (C ++ D):=by
 obtain ⟨m0,r0,q0,w0,v0,P0,e0,f0⟩:=cutA A w P h
 obtain ⟨s,q1,rfl,hs,k1,gb,gc,gS,sl,v1,P1,f1⟩:=hd1 v0 P0 f0
 obtain ⟨m2,r1,q2,w1,v2,P2,e1,f2⟩:=cutA B v1 P1 f1
 obtain ⟨s',q3,rfl,hs',k2,ga2,gc2,gS2,sl2,v3,P3,f3⟩:=hd1 v2 P2 f2
 obtain ⟨m4,r3,q4,w3,v4,P4,e3,f4⟩:=cutA C v3 P3 f3
 obtain ⟨s'',q5,rfl,hs'',k3,ga4,gb4,gS4,sl4,v5,P5,f5⟩:=hd1 v4 P4 f4
 simp only at k1 k2 k3 gb gc gS sl ga2 gc2 gS2 sl2 ga4 gb4 gS4 sl4
 rw [a3E,List.length_append,List.length_singleton,<- sl2] at sl sl4
 subst sl sl4
 have l0:=P0.len
 have l1:=P1.len
 have l2:=P2.len
 have l3:=P3.len
 have l4:=P4.len
 have c1:(a0n m0 (s' + 1)).getD (s' + 1) 0=c:=by rw [a0L (by ac_rfl) (by ac_rfl),if_neg (by ac_rfl),if_pos rfl]; exact gc
 have b1:(a0n m0 (s' + 1)).getD (s' + 2) 0=b:=by rw [a0L (by ac_rfl) (by ac_rfl),if_pos rfl]; exact gb
 have wb:=pin (w1.append (.cons hs' (by rw [ga2,gc2]; exact k2) w3)) P1 (i:=s' + 2) (j:=s' + 2) (by ac_rfl) (by ac_rfl) b1 gb4 (by
  rw [a3i (by ac_rfl),a3p (by ac_rfl),c1,a3i (l:=m4) (by ac_rfl),ga4,<- a2p (m0.take (s' + 1)),<- a2p (m4.take (s' + 1)),gS,gS4,a2p,a2p]
  refine srt_eq ?_
  rw [List.append_assoc,List.append_assoc]
  exact (List.Perm.swap _ _ _).append_left _)
 rw [tl_app w1] at wb
 have nb:=fun t ht=>wb t (List.mem_append_left _ ht)
 have sb:=still w1 P1 (i:=s' + 2) (by ac_rfl) b1 nb
 have sc:=still w1 P1 (i:=s' + 1) (by ac_rfl) c1 (pin w1 P1 (by ac_rfl) (by ac_rfl) c1 gc2 (by
  rw [a3p (by ac_rfl),gS,a3i (by ac_rfl),ga2,<- a2p (m2.take s'),gS2]))
 have a3:(a0n m2 s').getD (s' + 1) 0=a:=by rw [a0L (by ac_rfl) (by ac_rfl),if_pos rfl]; exact ga2
 have c3:(a0n m2 s').getD s' 0=c:=by rw [a0L (by ac_rfl) (by ac_rfl),if_neg (by ac_rfl),if_pos rfl]; exact gc2
 have b3:(a0n m2 s').getD (s' + 2) 0=b:=by rw [a0L (by ac_rfl) (by ac_rfl),if_neg (by ac_rfl),if_neg (by ac_rfl)]; exact sb.1
 have sa:=still w3 P3 (i:=s' + 1) (by ac_rfl) a3 (pin w3 P3 (by ac_rfl) (by ac_rfl) a3 ga4 (by
  rw [a3i (by ac_rfl),a3p (by ac_rfl),c3,gS4,<- a2p (m2.take s'),gS2]))
 have sb3:=still w3 P3 (i:=s' + 2) (by ac_rfl) b3 fun t ht=>wb t (by
  refine List.mem_append_right _ ?_
  unfold tl' at ht ⊢
  rw [tls,List.map_cons,Int.toNat_natCast]
  exact List.mem_cons_of_mem _ ht)
 have pu:pos ((b,c,srt (S ++ [a])):Ti)=((s' + 1:Nat):Int):=by show (((srt (S ++ [a])).length:Nat):Int)=_; rw [a3E,List.length_append,List.length_singleton,<- sl2]
 have pw:pos ((a,b,srt (S ++ [c])):Ti)=((s' + 1:Nat):Int):=by show (((srt (S ++ [c])).length:Nat):Int)=_; rw [a3E,List.length_append,List.length_singleton,<- sl2]
 obtain ⟨r6,w6,h6⟩:=slideR P B A w h fun t ht=>by
  rw [pu]
  rw [e1] at sb sc
  exact far_of (sc.2 t ht) (sb.2 t ht)
 obtain ⟨r7,w7,h7⟩:=slideL P (u:=(a,b,srt (S ++ [c]))) C (A:=A ++ (B ++ [(b,c,srt (S ++ [a])),(a,c,S)])) (X:=D) w6 (by rw [h6]; simp) fun t ht=>by
  rw [pw]
  rw [e3] at sb3 sa
  exact far_of (sa.2 t ht) (sb3.2 t ht)
 obtain ⟨m,r8,q8,w8,v8,P8,e8,f8⟩:=cutA (A ++ B) (B:=(b,c,srt (S ++ [a])) :: (a,c,S) :: (a,b,srt (S ++ [c])) :: (C ++ D)) w7 P (by rw [h7]; simp)
 obtain ⟨t1,q9,rfl,ht1,_,jb,jc,jS,tl1,v9,P9,f9⟩:=hd1 v8 P8 f8
 obtain ⟨t2,q10,rfl,ht2,_,ja2,jc2,jS2,tl2,v10,P10,f10⟩:=hd1 v9 P9 f9
 obtain ⟨t3,q11,rfl,ht3,_,ja3,jb3,jS3,tl3,v11,P11,f11⟩:=hd1 v10 P10 f10
 simp only at jb jc jS tl1 ja2 jc2 jS2 tl2 ja3 jb3 jS3 tl3
 rw [a3E,List.length_append,List.length_singleton,<- tl2] at tl1 tl3
 subst tl1 tl3
 have l8:=P8.len
 have ja:m.getD t2 0=a:=by
  rw [a0L (by ac_rfl) (by ac_rfl),if_neg (by ac_rfl),if_neg (by ac_rfl)] at ja2
  exact ja2
 have tk:(a0n m (t2 + 1)).take t2=m.take t2:=by
  have:=a3p (l:=m) (p:=t2 + 1) (by ac_rfl)
  have:=congrArg (List.take t2) this
  rw [List.take_take,List.take_take,Nat.min_eq_left (by ac_rfl)] at this
  exact this
 rw [tk] at jS2
 obtain ⟨X,Y,em,xl,xe⟩:=split3 (l:=m) (p:=t2) (by ac_rfl)
 rw [ja,jb,jc] at em
 rw [<- xe] at jS2
 subst xl
 have fin:a0n (a0n (a0n m (X.length + 1)) X.length) (X.length + 1)=X ++ c :: b :: a :: Y:=by
  rw [em,a2Q X a,show X.length + 1=(X ++ [a]).length by simp,a3w,<- a2Q,a3w,a2Q X c,show (X ++ [a]).length=(X ++ [c]).length by simp,a3w,<- a2Q]
 rw [fin] at v11 f11
 rw [em] at P8 w8
 obtain ⟨_,⟨r',w',h'⟩⟩:=braid P8 v11 k3 k1
 refine ⟨r8 ++ r',w8.append w',?_⟩
 rw [tl_app w8,e8,h',f11,<- a2p X b,jS2]
end Fl
namespace Lw
open PySem PySem.Spec PyProof.Rows L2 Z
open Sf (Rw crs Srt Pre Good a0l a0K)
noncomputable abbrev rD (r:Rw):Dv:=.tup [.int r.x,.int r.y,.int r.m]
noncomputable abbrev rwD (rows:List Rw):List Dv:=rows.map rD
noncomputable abbrev nsD (r:List Int):List Dv:=r.map Dv.int
noncomputable abbrev vecD (rows:List Rw):List Dv:=rows.map fun r=>.tup [.int r.x,.int r.y]
noncomputable abbrev a0V (C:Addr) (rows:List Rw):Dv:=.obj C [("kinds",.tup (nsD (a0l rows))),("vectors",.tup (vecD rows))]
noncomputable abbrev L12:Int:=999999999999
def ok1 (r:Rw):Prop:=r.up /\ -999999999999<=r.x/\r.x<=999999999999/\r.y<=999999999999/\1<=r.m
def sp_isw:Fn:=fun ds Q=>∃ n:Int,ds=[.int n]/\Q (.v (.bl true))
def a6T:Fn:=fun ds Q=>∃ r:Rw,ds=[rD r]/\Q (.v (.bl true))
def a8o:Fn:=fun ds Q=>∃ r:Rw,ds=[rD r]/\ok1 r/\Q (.v (.bl true))
def a5o:Fn:=fun ds Q=>∃ r a:Rw,ds=[rD r,rD a]/\ok1 r/\ok1 a/\0 < crs a r/\Q (.v (.bl true))
def a5q:Fn:=fun ds Q=>∃ r:Rw,ds=[rD r]/\ok1 r/\Q (.v .non)
def a8p:Fn:=fun ds Q=>∃ rows:List Rw,ds=[.lst (rwD rows)]/\Good rows/\Q (.v .non)
def a6U (C:Addr):Fn:=fun ds Q=>∃ rows:List Rw,ds=[.lst (rwD rows)]/\Good rows/\Q (.nw (a0V C rows))
theorem len_isw:∀ ds Q,sp_isw ds Q->ds.length=1:=by rintro ds Q ⟨_,rfl,_⟩; rfl
theorem len_three:∀ ds Q,a6T ds Q->ds.length=1:=by rintro ds Q ⟨_,rfl,_⟩; rfl
theorem len_few:∀ ds Q,a8o ds Q->ds.length=1:=by rintro ds Q ⟨_,rfl,_⟩; rfl
theorem len_left:∀ ds Q,a5o ds Q->ds.length=2:=by rintro ds Q ⟨_,_,rfl,_⟩; rfl
theorem len_chk1:∀ ds Q,a5q ds Q->ds.length=1:=by rintro ds Q ⟨_,rfl,_⟩; rfl
theorem len_chk:∀ ds Q,a8p ds Q->ds.length=1:=by rintro ds Q ⟨_,rfl,_⟩; rfl
theorem len_sides {C:Addr}:∀ ds Q,a6U C ds Q->ds.length + 1=2:=by rintro ds Q ⟨_,rfl,_⟩; rfl
theorem mo_isw:MonoF sp_isw:=⟨fun ds Q Q' w z=>by obtain ⟨r,e,h⟩:=z; exact ⟨r,e,w _ h⟩⟩
theorem mo_three:MonoF a6T:=⟨fun ds Q Q' w z=>by obtain ⟨r,e,h⟩:=z; exact ⟨r,e,w _ h⟩⟩
theorem mo_few:MonoF a8o:=⟨fun ds Q Q' w z=>by obtain ⟨r,e,a,h⟩:=z; exact ⟨r,e,a,w _ h⟩⟩
theorem mo_left:MonoF a5o:=⟨fun ds Q Q' w z=>by obtain ⟨r,e,a,b,c,d,h⟩:=z; exact ⟨r,e,a,b,c,d,w _ h⟩⟩
theorem mo_chk1:MonoF a5q:=⟨fun ds Q Q' w z=>by obtain ⟨r,e,a,h⟩:=z; exact ⟨r,e,a,w _ h⟩⟩
theorem mo_chk:MonoF a8p:=⟨fun ds Q Q' w z=>by obtain ⟨r,e,a,h⟩:=z; exact ⟨r,e,a,w _ h⟩⟩
theorem mo_sides {C:Addr}:MonoF (a6U C):=⟨fun ds Q Q' w z=>by obtain ⟨r,e,a,h⟩:=z; exact ⟨r,e,a,w _ h⟩⟩
theorem p_is_whole:∀ ds Q,sp_isw ds Q->a6d { nx:=fun _=>Q (.v .non),rt:=Q } (a0m ["thing"] ds):=by
 rintro ds Q ⟨n,rfl,q⟩
 ac_nf
 exact ⟨rfl,rfl,q⟩
theorem a5N:∀ ds Q,a6T ds Q->a2m sp_isw { nx:=fun _=>Q (.v .non),rt:=Q } (a0m ["direction"] ds):=by
 rintro ds Q ⟨r,rfl,q⟩
 ac_nf
 refine ⟨rfl,?_⟩
 rw [show isiD "tuple" (rD r)=true from rfl]
 ac_nf
 rw [show (!decide (((0 + 1 + 1 + 1:Nat):Int)=3))=false from rfl]
 ac_nf
 refine ⟨_,rfl,?_⟩
 ac_nf
 refine ⟨_,rfl,?_⟩
 ac_nf
 refine ⟨_,rfl,?_⟩
 ac_nf
 exact ⟨[true,true,true],rfl,q⟩
theorem a6g:∀ ds Q,a8o ds Q->a2D { nx:=fun _=>Q (.v .non),rt:=Q } (a0m ["direction"] ds):=by
 rintro ds Q ⟨r,rfl,⟨hu,h1,h2,h3,_⟩,q⟩
 have hy:0<=r.y:=by rcases hu with h | h <;> ac_rfl
 ac_nf
 rw [if_pos (show (if r.x < 0 then -r.x else r.x)<=999999999999 by split <;> ac_rfl),decide_eq_true (show (if r.y < 0 then -r.y else r.y)<=999999999999 by split <;> ac_rfl)]
 exact q
theorem p_points_up:∀ ds Q,a8o ds Q->a5h { nx:=fun _=>Q (.v .non),rt:=Q } (a0m ["direction"] ds):=by
 rintro ds Q ⟨r,rfl,⟨hu,h1,h2,h3,_⟩,q⟩
 ac_nf
 rcases hu with h | ⟨h,h'⟩
 ·rw [if_pos h]
  exact q
 ·rw [if_neg (by ac_rfl),if_pos h,decide_eq_true h']
  exact q
theorem p_lies_left:∀ ds Q,a5o ds Q->a5i { nx:=fun _=>Q (.v .non),rt:=Q } (a0m ["direction", "ahead"] ds):=by
 rintro ds Q ⟨r,a,rfl,⟨hu,h1,h2,h3,_⟩,⟨gu,g1,g2,g3,_⟩,hc,q⟩
 ac_nf
 refine ⟨.inl (.inl ⟨by ac_rfl,by ac_rfl⟩),.inl (.inl ⟨by ac_rfl,by ac_rfl⟩),?_⟩
 rw [decide_eq_true (show 0 < a.x * r.y - r.x * a.y from hc)]
 exact q
theorem a6h:∀ ds Q,a5q ds Q->a2E a6T a8o a8o { nx:=fun _=>Q (.v .non),rt:=Q } (a0m ["direction"] ds):=by
 rintro ds Q ⟨r,rfl,ok,q⟩
 ac_nf
 refine ⟨r,rfl,?_⟩
 ac_nf
 refine ⟨r,rfl,ok,?_⟩
 ac_nf
 refine ⟨r,rfl,ok,?_⟩
 ac_nf
 rw [if_neg (by have:=ok.2.2.2.2; ac_rfl)]
 exact q
theorem chk_0 {x:Sl} {E:En}:∀ (rows:List Rw) (s t:Sl),(∀ r ∈ rows,ok1 r)->(∀ s,E.nx [x,s,t])->a1c (gN 1) (a3b a5q a5o) [] (rwD rows) E [x,s,t]:=by
 intro rows
 induction rows with
 | nil=>
  intro s t _ h
  ac_nf
  exact h s
 | cons r rs ih=>
  intro s t ok h
  ac_nf
  refine ⟨r,rfl,ok r (by simp),?_⟩
  ac_nf
  exact ih _ _ (fun r hr=>ok r (by simp [hr])) h
theorem chk_c {Q:R->Prop}:∀ (rows:List Rw) (acc:List Int),acc.length + rows.length<=100->Q (.nw (.lst (nsD (acc ++ rows.map (·.m)))))->a1T [.un] (gN 0) a7Y (eOp pIx (a0d 0) (eC (.int 2))) (rwD rows) (nsD acc) Q:=by
 intro rows
 induction rows with
 | nil=>
  intro acc _ h
  ac_nf
  simpa using h
 | cons r rs ih=>
  intro acc hl h
  simp only [List.length_cons] at hl
  push_cast [List.length_map]
  refine ⟨by ac_rfl,?_⟩
  rw [show nsD acc ++ [Dv.int r.m]=nsD (acc ++ [r.m]) by simp]
  exact ih _ (by simp; ac_rfl) (by simpa using h)
theorem chk_1 {x:Sl} {E:En}:∀ (rows:List Rw) (s t:Sl),Srt rows->(∀ r ∈ rows,ok1 r)->(∀ s t,E.nx [x,s,t])->a1c (gT [2,1]) (a1V a5q a5o) [] (zipD (rwD rows) (rwD (rows.drop 1))) E [x,s,t]:=by
 intro rows
 induction rows with
 | nil=>
  intro s t _ _ h
  push_cast [zipD,List.zipWith_nil_left]
  exact h s t
 | cons a rs ih=>
  intro s t srt ok h
  cases rs with
  | nil=>
   push_cast [zipD,List.drop,List.zipWith]
   exact h s t
  | cons b rs=>
   push_cast [zipD,List.drop,List.zipWith]
   refine ⟨b,a,rfl,ok b (by simp),ok a (by simp),?_,?_⟩
   ·exact (List.pairwise_cons.mp srt).1 b (by simp)
   ·ac_nf
    exact ih _ _ (List.pairwise_cons.mp srt).2 (fun r hr=>ok r (by simp at hr ⊢; exact .inr hr)) h
theorem a5O:∀ ds Q,a8p ds Q->a2n a5q a5o { nx:=fun _=>Q (.v .non),rt:=Q } (a0m ["directions", "direction", "ahead"] ds):=by
 rintro ds Q ⟨rows,rfl,G,q⟩
 have lo:=G.lo
 have hi:=G.hi
 push_cast [List.length_map]
 refine ⟨rfl,?_⟩
 rw [show isiD "list" (.lst (rwD rows))=true from rfl]
 ac_nf
 rw [if_pos (by ac_rfl),decide_eq_true (show (rows.length:Int)<=6 by ac_rfl)]
 ac_nf
 refine chk_0 rows _ _ G.ok fun s=>?_
 ac_nf
 refine chk_c rows [] (by simp; ac_rfl) ?_
 refine ⟨rows.map (·.m),by simp,?_⟩
 ac_nf
 rw [if_neg (by have:=G.tot; unfold Sf.many at this; ac_rfl)]
 show a1c (gT [2,1]) (a1V a5q a5o) [] _ _ _
 rw [cut_from (by decide),show (rwD rows).drop (Int.toNat 1)=rwD (rows.drop 1) by simp [rwD]]
 exact chk_1 rows _ _ G.srt G.ok fun s t=>q
theorem many_take {rows:List Rw} (h:∀ r ∈ rows,1<=r.m):∀ k,Sf.many (rows.take k)<=Sf.many rows:=by
 induction rows with
 | nil=>intro k; simp
 | cons r rs ih=>
  intro k
  cases k with
  | zero=>
   have:=ih (fun r hr=>h r (by simp [hr])) 0
   have hm:=h r (by simp)
   simp only [Sf.many,List.take_zero,List.map_nil,List.sum_nil,List.map_cons,List.sum_cons] at *
   ac_rfl
  | succ k=>
   have:=ih (fun r hr=>h r (by simp [hr])) k
   simp only [Sf.many,List.take_succ_cons,List.map_cons,List.sum_cons] at *
   ac_rfl
theorem init_0 {x y:Sl} {a:Addr} {E:En} {C:Addr}:∀ (rs:List Rw) (k:Nat) (ks:List Int) (s t:Sl),(∀ r ∈ rs,1<=r.m)->(ks.length:Int) + Sf.many rs<=12->(∀ s t,E.nx [x,y,.own a (.lst (nsD (ks ++ a0K k rs))),s,t]) ->
  a1c (gT [3,4]) (a7c C a8p) [] (((rwD rs).zipIdx k).map fun q=>.tup [.int (q.2:Int),q.1]) E [x,y,.own a (.lst (nsD ks)),s,t]:=by
 intro rs
 induction rs with
 | nil=>
  intro k ks s t _ _ h
  push_cast [List.zipIdx_nil]
  simpa [a0K] using h s t
 | cons r rs ih=>
  intro k ks s t ok hb h
  have hm:=ok r (by simp)
  have hp:0<=Sf.many rs:=by
   have:=many_take (fun r hr=>ok r (by simp [hr])) (rows:=rs) 0
   simpa [Sf.many] using this
  have hb':(ks.length:Int) + (r.m + Sf.many rs)<=12:=by simpa [Sf.many] using hb
  push_cast [List.zipIdx_cons,a7c,List.length_map]
  refine ⟨⟨by ac_rfl,by ac_rfl,by ac_rfl⟩,?_⟩
  have e:(List.replicate r.m.toNat [Dv.int (k:Int)]).flatten=nsD (List.replicate r.m.toNat (k:Int)):=by
   rw [List.flatten_replicate_singleton]; simp
  rw [e]
  refine ⟨by simp; ac_rfl,?_⟩
  rw [show nsD ks ++ nsD (List.replicate r.m.toNat (k:Int))=nsD (ks ++ List.replicate r.m.toNat (k:Int)) by simp]
  refine ih (k + 1) _ _ _ (fun r hr=>ok r (by simp [hr])) (by simp; ac_rfl) fun s t=>?_
  rw [List.append_assoc]
  exact h s t
theorem init_c {Q:R->Prop}:∀ (rows:List Rw) (acc:List Rw),acc.length + rows.length<=100->Q (.nw (.lst (vecD (acc ++ rows))))->a1T [.un] (gN 0) a7Y (a2f (a0a (eOp pIx (a0d 0) (eC (.int 0))) (a0a (eOp pIx (a0d 0) (eC (.int 1))) a0i))) (rwD rows) (vecD acc) Q:=by
 intro rows
 induction rows with
 | nil=>
  intro acc _ h
  ac_nf
  simpa using h
 | cons r rs ih=>
  intro acc hl h
  simp only [List.length_cons] at hl
  push_cast [List.length_map]
  refine ⟨by ac_rfl,?_⟩
  rw [show vecD acc ++ [Dv.tup [Dv.int r.x,Dv.int r.y]]=vecD (acc ++ [r]) by simp]
  exact ih _ (by simp; ac_rfl) (by simpa using h)
theorem p_init {C:Addr}:∀ ds Q,a6U C ds Q -> ∀ a,t_init C a8p { nx:=fun ρ=>∃ d,ρ[0]?=some (.own a d)/\Q (.nw d),rt:=fun _=>False } (a4k C a ["self", "directions", "kinds", "number", "direction"] ds):=by
 rintro ds Q ⟨rows,rfl,G,q⟩ a
 have hi:=G.hi
 ac_nf
 refine ⟨rows,rfl,G,?_⟩
 ac_nf
 intro b
 show a1c (gT [3,4]) (a7c C a8p) [] (((rwD rows).zipIdx 0).map fun q=>.tup [.int (q.2:Int),q.1]) _ [_,_,.own b (.lst (nsD [])),_,_]
 refine init_0 rows 0 [] _ _ (fun r hr=>(G.ok r hr).2.2.2.2) (by simpa using G.tot) fun s t=>?_
 ac_nf
 refine init_c rows [] (by simp; ac_rfl) ?_
 ac_nf
 exact ⟨(by decide:1 < 1000),_,rfl,q⟩
end Lw
namespace Lw
open PySem PySem.Spec PyProof.Rows L2 Z
open Sf (Rw crs Srt Pre Good a0l a0K place many)
open Fl (kd ids)
theorem a2N {r:List Int} {k:Nat} (h:k < r.length):atI (nsD r) (k:Int)=some (.int (r.getD k 0)):=by
 rw [a4K (by ac_rfl) (by simp; ac_rfl)]
 simp [List.getD,h]
theorem at_intsI {r:List Int} {i:Int} (h0:0<=i) (h:i < r.length):atI (nsD r) i=some (.int (r.getD i.toNat 0)):=by
 obtain ⟨k,rfl⟩:∃ k:Nat,i=k:=⟨i.toNat,by ac_rfl⟩
 rw [a2N (by ac_rfl),Int.toNat_natCast]
theorem a8T (n:Nat):a0W 0 n=nsD (ids n):=by unfold a0W; simp
def a2G (C:Addr):Fn:=fun ds Q=>∃ (rows:List Rw) (b:Nat),ds=[a0V C rows,.int b]/\b < (a0l rows).length/\Q (.v (.int ((a0l rows).getD b 0)))
theorem len_kind {C:Addr}:∀ ds Q,a2G C ds Q->ds.length=2:=by rintro ds Q ⟨_,_,rfl,_⟩; rfl
theorem a4D {C:Addr}:MonoF (a2G C):=⟨fun ds Q Q' w z=>by obtain ⟨r,b,e,a,h⟩:=z; exact ⟨r,b,e,a,w _ h⟩⟩
theorem p_kind {C:Addr}:∀ ds Q,a2G C ds Q->t_kind C { nx:=fun _=>Q (.v .non),rt:=Q } (a0m ["self", "band"] ds):=by
 rintro ds Q ⟨rows,b,rfl,hb,h⟩
 ac_nf
 rw [show List.lookup (Str.ofString "kinds") [(Str.ofString "kinds",Dv.tup (nsD (a0l rows))),(Str.ofString "vectors",Dv.tup (vecD rows))]=some (Dv.tup (nsD (a0l rows))) from rfl]
 ac_nf
 rw [a2N hb]
 exact h
def a2F (C:Addr):Fn:=fun ds Q=>∃ rows:List Rw,ds=[a0V C rows]/\Q (.v (.int (a0l rows).length))
theorem len_many {C:Addr}:∀ ds Q,a2F C ds Q->ds.length=1:=by rintro ds Q ⟨_,rfl,_⟩; rfl
theorem a5t {C:Addr}:MonoF (a2F C):=⟨fun ds Q Q' w z=>by obtain ⟨r,e,h⟩:=z; exact ⟨r,e,w _ h⟩⟩
theorem p_many {C:Addr}:∀ ds Q,a2F C ds Q->t_many C { nx:=fun _=>Q (.v .non),rt:=Q } (a0m ["self"] ds):=by
 rintro ds Q ⟨rows,rfl,h⟩
 ac_nf
 rw [show List.lookup (Str.ofString "kinds") [(Str.ofString "kinds",Dv.tup (nsD (a0l rows))),(Str.ofString "vectors",Dv.tup (vecD rows))]=some (Dv.tup (nsD (a0l rows))) from rfl]
 push_cast [List.length_map]
 exact h
noncomputable abbrev prD (l:List (Int × Int)):List Dv:=l.map fun t=>.tup [.int t.1,.int t.2]
noncomputable abbrev thD (l:List (Int × Int × Int)):List Dv:=l.map fun t=>.tup [.int t.1,.int t.2.1,.int t.2.2]
noncomputable def inP (ks:List Int) (a:Int):Nat->Nat->List (Int × Int)
 | 0,_=>[]
 | i + 1,b=>(if kd ks a=kd ks b then [] else [(a,(b:Int))]) ++ inP ks a i (b + 1)
noncomputable def outP (ks:List Int):Nat->Nat->List (Int × Int)
 | 0,_=>[]
 | i + 1,a=>inP ks a (ks.length - (a + 1)) (a + 1) ++ outP ks i (a + 1)
noncomputable def a5M (ks:List Int):List (Int × Int):=outP ks ks.length 0
noncomputable def inT (ks:List Int) (a b:Int):Nat->Nat->List (Int × Int × Int)
 | 0,_=>[]
 | i + 1,c=>(if kd ks c=kd ks b then [] else [(a,b,(c:Int))]) ++ inT ks a b i (c + 1)
noncomputable def a2l (ks:List Int) (l:List (Int × Int)):List (Int × Int × Int):=l.flatMap fun t=>inT ks t.1 t.2 (ks.length - (t.2.toNat + 1)) (t.2.toNat + 1)
noncomputable def a0k (ks:List Int):List (Int × Int × Int):=a2l ks (a5M ks)
theorem inP_len (ks:List Int) (a:Int):∀ i b,(inP ks a i b).length<=i
 | 0,_=>Nat.le_refl _
 | i + 1,b=>by rw [inP,List.length_append]; have:=inP_len ks a i (b + 1); split <;> simp <;> ac_rfl
theorem outP_len (ks:List Int):∀ i a,(outP ks i a).length<=i * ks.length
 | 0,_=>Nat.zero_le _
 | i + 1,a=>by rw [outP,List.length_append,Nat.add_mul]; have:=outP_len ks i (a + 1); have:=inP_len ks a (ks.length - (a + 1)) (a + 1); ac_rfl
theorem inT_len (ks:List Int) (a b:Int):∀ i c,(inT ks a b i c).length<=i
 | 0,_=>Nat.le_refl _
 | i + 1,c=>by rw [inT,List.length_append]; have:=inT_len ks a b i (c + 1); split <;> simp <;> ac_rfl
theorem a6C (ks:List Int):∀ l,(a2l ks l).length<=l.length * ks.length
 | []=>Nat.zero_le _
 | t :: l=>by
  have h1:=a6C ks l
  have h2:=inT_len ks t.1 t.2 (ks.length - (t.2.toNat + 1)) (t.2.toNat + 1)
  unfold a2l at h1 ⊢
  rw [List.flatMap_cons,List.length_append,List.length_cons,Nat.add_mul]
  ac_rfl
theorem inP_mem (ks:List Int) (a:Int):∀ (i b:Nat) (t:Int × Int),t ∈ inP ks a i b ↔ t.1=a/\(b:Int)<=t.2/\t.2 < (b + i:Nat)/\kd ks a ≠ kd ks t.2
 | 0,b,t=>by simp [inP]; intro _ h1 h2; ac_rfl
 | i + 1,b,t=>by
  rw [inP,List.mem_append,inP_mem ks a i (b + 1) t]
  obtain ⟨x,y⟩:=t
  by_cases e:kd ks a=kd ks (b:Int)
  ·rw [if_pos e]
   constructor
   ·rintro (h | ⟨h1,h2,h3,h4⟩)
    ·cases h
    ·exact ⟨h1,by ac_rfl,by ac_rfl,h4⟩
   ·rintro ⟨h1,h2,h3,h4⟩
    have:y ≠ (b:Int):=fun z=>h4 (by rw [z]; exact e)
    exact .inr ⟨h1,by dsimp only at *; ac_rfl,by dsimp only at *; ac_rfl,h4⟩
  ·rw [if_neg e]
   constructor
   ·rintro (h | ⟨h1,h2,h3,h4⟩)
    ·rw [List.mem_singleton] at h
     cases h
     exact ⟨rfl,Int.le_refl _,by dsimp only; ac_rfl,e⟩
    ·exact ⟨h1,by ac_rfl,by ac_rfl,h4⟩
   ·rintro ⟨h1,h2,h3,h4⟩
    by_cases z:y=(b:Int)
    ·exact .inl (by rw [List.mem_singleton,z]; dsimp only at h1; rw [h1])
    ·exact .inr ⟨h1,by dsimp only at *; ac_rfl,by dsimp only at *; ac_rfl,h4⟩
theorem outP_mem (ks:List Int):∀ (i a:Nat) (t:Int × Int),a + i=ks.length->(t ∈ outP ks i a ↔ (a:Int)<=t.1/\t.1 < t.2/\t.2 < ks.length/\kd ks t.1 ≠ kd ks t.2)
 | 0,a,t,h=>by simp [outP]; intro h1 h2 h3; ac_rfl
 | i + 1,a,t,h=>by
  rw [outP,List.mem_append,inP_mem,outP_mem ks i (a + 1) t (by ac_rfl)]
  constructor
  ·rintro (⟨h1,h2,h3,h4⟩ | ⟨h1,h2,h3,h4⟩)
   ·exact ⟨by ac_rfl,by ac_rfl,by ac_rfl,by rw [h1]; exact h4⟩
   ·exact ⟨by ac_rfl,h2,h3,h4⟩
  ·rintro ⟨h1,h2,h3,h4⟩
   by_cases z:t.1=(a:Int)
   ·exact .inl ⟨z,by ac_rfl,by ac_rfl,by rw [<- z]; exact h4⟩
   ·exact .inr ⟨by ac_rfl,h2,h3,h4⟩
theorem a7u {ks:List Int} {t:Int × Int}:t ∈ a5M ks ↔ 0<=t.1/\t.1 < t.2/\t.2 < ks.length/\kd ks t.1 ≠ kd ks t.2:=outP_mem ks ks.length 0 t (by ac_rfl)
theorem a7I (ks:List Int) (a b:Int):∀ (i c:Nat) (t:Int × Int × Int),t ∈ inT ks a b i c->t.1=a/\t.2.1=b/\(c:Int)<=t.2.2/\t.2.2 < (c + i:Nat)/\kd ks t.2.2 ≠ kd ks b
 | 0,c,t,h=>by cases h
 | i + 1,c,t,h=>by
  rw [inT,List.mem_append] at h
  rcases h with h | h
  ·split at h
   ·cases h
   ·rename_i e
    rw [List.mem_singleton] at h
    cases h
    exact ⟨rfl,rfl,Int.le_refl _,by dsimp only; ac_rfl,e⟩
  ·obtain ⟨h1,h2,h3,h4,h5⟩:=a7I ks a b i (c + 1) t h
   exact ⟨h1,h2,by ac_rfl,by ac_rfl,h5⟩
theorem a4L {ks:List Int} {t:Int × Int × Int} (h:t ∈ a0k ks):0<=t.1/\t.1 < t.2.1/\t.2.1 < t.2.2/\t.2.2 < ks.length/\kd ks t.1 ≠ kd ks t.2.1/\kd ks t.2.1 ≠ kd ks t.2.2:=by
 obtain ⟨u,hu,ht⟩:=List.mem_flatMap.mp h
 obtain ⟨a1,a2,a3,a4⟩:=a7u.mp hu
 obtain ⟨h1,h2,h3,h4,h5⟩:=a7I ks u.1 u.2 _ _ t ht
 exact ⟨by ac_rfl,by ac_rfl,by ac_rfl,by ac_rfl,by rw [h1,h2]; exact a4,by rw [h2]; exact fun z=>h5 z.symm⟩
def a3x (C:Addr):Fn:=fun ds Q=>∃ rows:List Rw,ds=[a0V C rows]/\(a0l rows).length<=12/\Q (.nw (.lst (prD (a5M (a0l rows)))))
theorem len_pairs {C:Addr}:∀ ds Q,a3x C ds Q->ds.length=1:=by rintro ds Q ⟨_,rfl,_⟩; rfl
theorem mo_pairs {C:Addr}:MonoF (a3x C):=⟨fun ds Q Q' w z=>by obtain ⟨r,e,a,h⟩:=z; exact ⟨r,e,a,w _ h⟩⟩
theorem pairs_0 {C:Addr} {rows:List Rw} {l:Addr} {a:Nat} {E:En} (ha:a < (a0l rows).length):∀ (i b:Nat) (acc:List (Int × Int)) (s:Sl),b + i=(a0l rows).length->acc.length + i<=1000 ->
  (∀ s,E.nx [.v (a0V C rows),.own l (.lst (prD (acc ++ inP (a0l rows) a i b))),.v (.int a),s]) ->
  a1c (gN 3) (b_pairs_0 C (a2F C) (a2G C)) [] (a0W b i) E [.v (a0V C rows),.own l (.lst (prD acc)),.v (.int a),s]:=by
 intro i
 induction i with
 | zero=>
  intro b acc s _ _ h
  rw [a1K,a0Q]
  exact ⟨fun p hp=>by simp at hp,by simpa [inP] using h s⟩
 | succ i ih=>
  intro b acc s hb hl h
  push_cast [a1i,List.length_map]
  refine ⟨rfl,rows,a,rfl,ha,?_⟩
  ac_nf
  refine ⟨rfl,rows,b,rfl,by ac_rfl,?_⟩
  ac_nf
  rw [show ((b:Int) + 1)=((b + 1:Nat):Int) by ac_rfl]
  by_cases e:(a0l rows).getD a 0=(a0l rows).getD b 0
  ·rw [decide_eq_true e]
   ac_nf
   refine ih (b + 1) acc _ (by ac_rfl) (by ac_rfl) fun s=>?_
   have:=h s
   rw [inP,if_pos (by simpa [kd] using e)] at this
   exact this
  ·rw [decide_eq_false e]
   ac_nf
   refine ⟨by ac_rfl,?_⟩
   rw [show prD acc ++ [Dv.tup [Dv.int a,Dv.int b]]=prD (acc ++ [((a:Int),(b:Int))]) by simp]
   refine ih (b + 1) _ _ (by ac_rfl) (by simp; ac_rfl) fun s=>?_
   have:=h s
   rw [inP,if_neg (by simpa [kd] using e)] at this
   simpa using this
theorem pairs_1 {C:Addr} {rows:List Rw} {l:Addr} {E:En} (hn:(a0l rows).length<=12):∀ (i a:Nat) (acc:List (Int × Int)) (s t:Sl),a + i=(a0l rows).length->acc.length + i * 12<=500 ->
  (∀ s t,E.nx [.v (a0V C rows),.own l (.lst (prD (acc ++ outP (a0l rows) i a))),s,t]) ->
  a1c (gN 2) (a4J C (a2F C) (a2G C)) [] (a0W a i) E [.v (a0V C rows),.own l (.lst (prD acc)),s,t]:=by
 intro i
 induction i with
 | zero=>
  intro a acc s t _ _ h
  rw [a1K,a0Q]
  exact ⟨fun p hp=>by simp at hp,by simpa [outP] using h s t⟩
 | succ i ih=>
  intro a acc s t ha hl h
  rw [a1i,a0T]
  refine ⟨fun p hp=>by simp at hp,?_⟩
  have nx:∀ s t,a1c (gN 2) (a4J C (a2F C) (a2G C)) [] (a0W ((a:Int) + 1) i) E [.v (a0V C rows),.own l (.lst (prD (acc ++ inP (a0l rows) a ((a0l rows).length - (a + 1)) (a + 1)))),s,t]:=fun s t=>by
   have il:=inP_len (a0l rows) a ((a0l rows).length - (a + 1)) (a + 1)
   refine ih (a + 1) _ s t (by ac_rfl) (by simp; ac_rfl) fun s t=>?_
   have:=h s t
   rw [outP] at this
   simpa using this
  generalize a1c (gN 2) (a4J C (a2F C) (a2G C)) [] (a0W ((a:Int) + 1) i) E=G at nx ⊢
  push_cast [a4J]
  refine ⟨rfl,rows,rfl,?_⟩
  ac_nf
  refine ⟨⟨by ac_rfl,by ac_rfl,by ac_rfl⟩,?_⟩
  rw [show ((a0l rows).length - ((a:Int) + 1)).toNat=(a0l rows).length - (a + 1) by ac_rfl,show ((a:Int) + 1)=((a + 1:Nat):Int) by ac_rfl]
  exact pairs_0 (by ac_rfl) _ (a + 1) acc _ (by ac_rfl) (by ac_rfl) fun s=>nx _ s
theorem p_pairs {C:Addr}:∀ ds Q,a3x C ds Q->t_pairs C (a2F C) (a2G C) { nx:=fun _=>Q (.v .non),rt:=Q } (a0m ["self", "found", "a", "b"] ds):=by
 rintro ds Q ⟨rows,rfl,hn,h⟩
 ac_nf
 intro l
 refine ⟨rfl,rows,rfl,?_⟩
 ac_nf
 refine ⟨by ac_rfl,?_⟩
 rw [show ((a0l rows).length:Int).toNat=(a0l rows).length by ac_rfl]
 refine pairs_1 hn _ 0 [] _ _ (by ac_rfl) (by simp; ac_rfl) fun s t=>?_
 ac_nf
 exact h
end Lw
namespace Lw
open PySem PySem.Spec PyProof.Rows L2 Z
open Sf (Rw crs Srt Pre Good a0l a0K place many)
open Fl (kd ids)
def a5I (C:Addr):Fn:=fun ds Q=>∃ rows:List Rw,ds=[a0V C rows]/\(a0l rows).length<=12/\Q (.nw (.lst (thD (a0k (a0l rows)))))
theorem len_threes {C:Addr}:∀ ds Q,a5I C ds Q->ds.length=1:=by rintro ds Q ⟨_,rfl,_⟩; rfl
theorem a7A {C:Addr}:MonoF (a5I C):=⟨fun ds Q Q' w z=>by obtain ⟨r,e,a,h⟩:=z; exact ⟨r,e,a,w _ h⟩⟩
theorem threes_0 {C:Addr} {rows:List Rw} {l:Addr} {a b:Int} {E:En} (hb:0<=b/\b < (a0l rows).length):∀ (i c:Nat) (acc:List (Int × Int × Int)) (s:Sl),c + i=(a0l rows).length->acc.length + i<=10000 ->
  (∀ s,E.nx [.v (a0V C rows),.own l (.lst (thD (acc ++ inT (a0l rows) a b i c))),.v (.int a),.v (.int b),s]) ->
  a1c (gN 4) (a8I C (a3x C) (a2F C) (a2G C)) [] (a0W c i) E [.v (a0V C rows),.own l (.lst (thD acc)),.v (.int a),.v (.int b),s]:=by
 intro i
 induction i with
 | zero=>
  intro c acc s _ _ h
  rw [a1K,a0Q]
  exact ⟨fun p hp=>by simp at hp,by simpa [inT] using h s⟩
 | succ i ih=>
  intro c acc s hc hl h
  push_cast [a1i,List.length_map]
  refine ⟨rfl,rows,c,rfl,by ac_rfl,?_⟩
  ac_nf
  refine ⟨rfl,rows,b.toNat,by rw [Int.toNat_of_nonneg hb.1],by ac_rfl,?_⟩
  ac_nf
  rw [show ((c:Int) + 1)=((c + 1:Nat):Int) by ac_rfl]
  by_cases e:(a0l rows).getD c 0=(a0l rows).getD b.toNat 0
  ·rw [decide_eq_true e]
   ac_nf
   refine ih (c + 1) acc _ (by ac_rfl) (by ac_rfl) fun s=>?_
   have:=h s
   rw [inT,if_pos (by simpa [kd] using e)] at this
   exact this
  ·rw [decide_eq_false e]
   ac_nf
   refine ⟨by ac_rfl,?_⟩
   rw [show thD acc ++ [Dv.tup [Dv.int a,Dv.int b,Dv.int c]]=thD (acc ++ [(a,b,(c:Int))]) by simp]
   refine ih (c + 1) _ _ (by ac_rfl) (by simp; ac_rfl) fun s=>?_
   have:=h s
   rw [inT,if_neg (by simpa [kd] using e)] at this
   simpa using this
theorem threes_1 {C:Addr} {rows:List Rw} {l:Addr} {E:En} (hn:(a0l rows).length<=12):∀ (ps:List (Int × Int)) (acc:List (Int × Int × Int)) (s t u:Sl),(∀ t ∈ ps,0<=t.2/\t.2 < (a0l rows).length)->acc.length + ps.length * 12<=5000 ->
  (∀ s t u,E.nx [.v (a0V C rows),.own l (.lst (thD (acc ++ a2l (a0l rows) ps))),s,t,u]) ->
  a1c (gT [2,3]) (a3T C (a3x C) (a2F C) (a2G C)) [] (prD ps) E [.v (a0V C rows),.own l (.lst (thD acc)),s,t,u]:=by
 intro ps
 induction ps with
 | nil=>
  intro acc s t u _ _ h
  rw [show prD []=[] from rfl,a0Q]
  exact ⟨fun p hp=>by simp at hp,by simpa [a2l] using h s t u⟩
 | cons p ps ih=>
  intro acc s t u hp hl h
  have h0:=hp p (by simp)
  rw [show prD (p :: ps)=.tup [.int p.1,.int p.2] :: prD ps from rfl,a0T]
  refine ⟨fun p hp=>by simp at hp,?_⟩
  have il:=inT_len (a0l rows) p.1 p.2 ((a0l rows).length - (p.2.toNat + 1)) (p.2.toNat + 1)
  have nx:∀ s t u,a1c (gT [2,3]) (a3T C (a3x C) (a2F C) (a2G C)) [] (prD ps) E [.v (a0V C rows),.own l (.lst (thD (acc ++ inT (a0l rows) p.1 p.2 ((a0l rows).length - (p.2.toNat + 1)) (p.2.toNat + 1)))),s,t,u]:=fun s t u=>by
   simp only [List.length_cons] at hl
   refine ih _ s t u (fun t ht=>hp t (List.mem_cons_of_mem _ ht)) (by simp; ac_rfl) fun s t u=>?_
   have:=h s t u
   unfold a2l at this ⊢
   rw [List.flatMap_cons] at this
   simpa using this
  generalize a1c (gT [2,3]) (a3T C (a3x C) (a2F C) (a2G C)) [] (prD ps) E=G at nx ⊢
  push_cast [a3T]
  refine ⟨rfl,rows,rfl,?_⟩
  ac_nf
  refine ⟨⟨by ac_rfl,by ac_rfl,by ac_rfl⟩,?_⟩
  rw [show ((a0l rows).length - (p.2 + 1)).toNat=(a0l rows).length - (p.2.toNat + 1) by ac_rfl,show (p.2 + 1)=((p.2.toNat + 1:Nat):Int) by ac_rfl]
  simp only [List.length_cons] at hl
  exact threes_0 h0 _ (p.2.toNat + 1) acc _ (by ac_rfl) (by ac_rfl) fun s=>nx _ _ s
theorem p_threes {C:Addr}:∀ ds Q,a5I C ds Q->a8N C (a3x C) (a2F C) (a2G C) { nx:=fun _=>Q (.v .non),rt:=Q } (a0m ["sides", "told", "a", "b", "c"] ds):=by
 rintro ds Q ⟨rows,rfl,hn,h⟩
 have pl:=outP_len (a0l rows) (a0l rows).length 0
 have sq:(a0l rows).length * (a0l rows).length<=12 * 12:=Nat.mul_le_mul hn hn
 ac_nf
 intro l
 refine ⟨rfl,rows,rfl,hn,?_⟩
 ac_nf
 refine threes_1 hn (a5M (a0l rows)) [] _ _ _ (fun t ht=>?_) (by unfold a5M; simp; ac_rfl) fun s t u=>?_
 ·obtain ⟨a1,a2,a3,a4⟩:=a7u.mp ht
  exact ⟨by ac_rfl,a3⟩
 ac_nf
 exact h
noncomputable abbrev Ti:=Int × Int × List Int
noncomputable abbrev tiD (t:Ti):Dv:=.tup [.int t.1,.int t.2.1,.tup (nsD t.2.2)]
noncomputable abbrev flD (l:List Ti):List Dv:=l.map tiD
noncomputable abbrev keyT (t:Ti):List Key:=[Sum.inl t.1,Sum.inl t.2.1]
noncomputable abbrev dcD (l:List Ti):List (List Key × Dv):=l.map fun t=>(keyT t,.tup (nsD t.2.2))
def Keys (l:List Ti):Prop:=l.Pairwise fun t u=>¬ (t.1=u.1/\t.2.1=u.2.1)
def a1g:Fn:=fun ds Q=>∃ fl:List Ti,ds=[.lst (flD fl)]/\fl.length<=1000/\Keys fl/\Q (.nw (.dit (dcD fl)))
theorem a8y:∀ ds Q,a1g ds Q->ds.length=1:=by rintro ds Q ⟨_,rfl,_⟩; rfl
theorem a3R:MonoF a1g:=⟨fun ds Q Q' w z=>by obtain ⟨r,e,a,b,h⟩:=z; exact ⟨r,e,a,b,w _ h⟩⟩
theorem a8Y {l:List Ti} {t:Ti} (h:∀ u ∈ l,¬ (u.1=t.1/\u.2.1=t.2.1)):putT (dcD l) (keyT t) (.tup (nsD t.2.2))=dcD (l ++ [t]):=by
 unfold putT
 have e:(dcD l).any (fun kv=>decide (kv.1=keyT t))=false:=by
  rw [List.any_eq_false]
  intro kv hkv
  obtain ⟨u,hu,rfl⟩:=List.mem_map.mp hkv
  have:=h u hu
  simp only [decide_eq_true_eq]
  intro z
  apply this
  simp only [keyT,List.cons.injEq,Sum.inl.injEq,and_true] at z
  exact z
 rw [e]
 simp
theorem belows_0 {x:Sl} {a:Addr} {E:En}:∀ (fl acc:List Ti) (s t u:Sl),Keys (acc ++ fl)->acc.length + fl.length<=1000->(∀ s t u,E.nx [x,.own a (.dit (dcD (acc ++ fl))),s,t,u]) ->
  a1c (gT [2,3,4]) a6A [] (flD fl) E [x,.own a (.dit (dcD acc)),s,t,u]:=by
 intro fl
 induction fl with
 | nil=>
  intro acc s t u _ _ h
  rw [show flD []=[] from rfl,a0Q]
  exact ⟨fun p hp=>by simp at hp,by simpa using h s t u⟩
 | cons p fl ih=>
  intro acc s t u hk hl h
  simp only [List.length_cons] at hl
  rw [show flD (p :: fl)=.tup [.int p.1,.int p.2.1,.tup (nsD p.2.2)] :: flD fl from rfl]
  push_cast [a6A,List.length_map]
  refine ⟨keyT p,rfl,by ac_rfl,?_⟩
  rw [a8Y fun u hu=>(List.pairwise_append.mp hk).2.2 u hu p (by simp)]
  exact ih _ _ _ _ (by simpa using hk) (by simp; ac_rfl) (by simpa using h)
theorem p_belows:∀ ds Q,a1g ds Q->a8P { nx:=fun _=>Q (.v .non),rt:=Q } (a0m ["floor", "told", "a", "b", "below"] ds):=by
 rintro ds Q ⟨fl,rfl,hl,hk,h⟩
 ac_nf
 intro a
 refine belows_0 fl [] _ _ _ (by simpa using hk) (by simp; ac_rfl) fun s t u=>?_
 ac_nf
 exact h
noncomputable def mOf (l:List Ti) (a c:Int):List Int:=((l.find? fun t=>decide (t.1=a/\t.2.1=c)).map fun t=>t.2.2).getD []
def Cov (ks:List Int) (l:List Ti):Prop:=∀ a c:Int,0<=a->a < c->c < ks.length->kd ks a ≠ kd ks c -> ∃ t ∈ l,t.1=a/\t.2.1=c
theorem a6s (l:List Ti) (a c:Int):(dcD l).find? (fun kv=>decide (kv.1=[Sum.inl a,Sum.inl c]))=(l.find? fun t=>decide (t.1=a/\t.2.1=c)).map fun t=>(keyT t,.tup (nsD t.2.2)):=by
 induction l with
 | nil=>rfl
 | cons t l ih=>
  rw [show dcD (t :: l)=(keyT t,.tup (nsD t.2.2)) :: dcD l from rfl]
  by_cases e:t.1=a/\t.2.1=c
  ·rw [List.find?_cons_of_pos (by simpa using e),List.find?_cons_of_pos (by simpa using e)]
   rfl
  ·rw [List.find?_cons_of_neg (by simpa using e),List.find?_cons_of_neg (by simpa using e)]
   exact ih
theorem a6Y {l:List Ti} {a c:Int} (h:∃ t ∈ l,t.1=a/\t.2.1=c):∃ t,(l.find? fun t=>decide (t.1=a/\t.2.1=c))=some t/\t ∈ l/\t.1=a/\t.2.1=c/\mOf l a c=t.2.2:=by
 obtain ⟨t,ht,e⟩:=h
 cases q:l.find? fun t=>decide (t.1=a/\t.2.1=c) with
 | none=>exact absurd (decide_eq_true e) (List.find?_eq_none.mp q t ht)
 | some u=>
  have:=List.find?_some q
  refine ⟨u,rfl,List.mem_of_find?_eq_some q,(of_decide_eq_true this).1,(of_decide_eq_true this).2,?_⟩
  unfold mOf
  rw [q]
  rfl
def Mono (ks:List Int):Prop:=∀ a b:Int,0<=a->a<=b->b < ks.length->kd ks a<=kd ks b
theorem ok_i (n:Nat) (i:Int):okD n (.int i)=true:=by cases n <;> rfl
theorem a8c (n:Nat):∀ l:List Int,okDs n (nsD l)=true
 | []=>rfl
 | i :: r=>by
  show (okD n (.int i) && okDs n (nsD r))=true
  rw [a8c n r]
  cases n <;> rfl
theorem a3U {ks:List Int} (hn:ks.length<=12):(a0k ks).length<=1728:=by
 have h1:=outP_len ks ks.length 0
 have h2:=a6C ks (a5M ks)
 have sq:ks.length * ks.length<=12 * 12:=Nat.mul_le_mul hn hn
 have h3:(a5M ks).length * ks.length<=144 * 12:=Nat.mul_le_mul (by unfold a5M; ac_rfl) hn
 unfold a0k
 ac_rfl
end Lw
namespace Lw
open PySem PySem.Spec PyProof.Rows L2 Z
open Sf (Rw crs Srt Pre Good a0l a0K place many)
open Fl (kd ids Walk a5Z tls pc a0n Pt)
theorem sm_d {u k:Int} (h0:-1000000 < k) (hk:k < 1000000):CMulG u k:=.inl (.inr ⟨by ac_rfl,by ac_rfl⟩)
def a2H:Fn:=fun ds Q=>∃ (ns:List Int) (k:Int),ds=[.scr ns,.int k]/\0<=k /\ ∀ c:Int,Q (.v (.int c))
theorem len_cell:∀ ds Q,a2H ds Q->ds.length=2:=by rintro ds Q ⟨_,_,rfl,_⟩; rfl
theorem mo_cell:MonoF a2H:=⟨fun ds Q Q' w z=>by obtain ⟨r,e,a,b,h⟩:=z; exact ⟨r,e,a,b,fun c=>w _ (h c)⟩⟩
theorem p_law_cell_at:∀ ds Q,a2H ds Q->a3Y { nx:=fun _=>Q (.v .non),rt:=Q } (a0m ["_law_script", "_law_k"] ds):=by
 rintro ds Q ⟨ns,k,rfl,h0,h⟩
 ac_nf
 by_cases hk:k < (ns.length:Int)
 ·rw [if_pos hk,a4K h0 hk,List.getElem?_eq_getElem (by ac_rfl)]
  exact h _
 ·rw [if_neg hk]
  exact h 5
def sp_lw:Fn:=fun ds Q=>∃ n:Int,ds=[.int n]/\Q (.v (.bl true))
theorem len_lw:∀ ds Q,sp_lw ds Q->ds.length=1:=by rintro ds Q ⟨_,rfl,_⟩; rfl
theorem mo_lw:MonoF sp_lw:=⟨fun ds Q Q' w z=>by obtain ⟨r,e,h⟩:=z; exact ⟨r,e,w _ h⟩⟩
theorem p_law_whole:∀ ds Q,sp_lw ds Q->a5j { nx:=fun _=>Q (.v .non),rt:=Q } (a0m ["_law_found"] ds):=by
 rintro ds Q ⟨n,rfl,q⟩
 ac_nf
 exact ⟨rfl,rfl,q⟩
def a3M:Fn:=fun ds Q=>∃ l:List Int,ds=[.tup (nsD l)]/\Q (.v (.bl true))
theorem len_wholes:∀ ds Q,a3M ds Q->ds.length=1:=by rintro ds Q ⟨_,rfl,_⟩; rfl
theorem mo_wholes:MonoF a3M:=⟨fun ds Q Q' w z=>by obtain ⟨r,e,h⟩:=z; exact ⟨r,e,w _ h⟩⟩
theorem wholes_0 {x:Sl} {E:En}:∀ (l:List Int) (s:Sl),(∀ s,E.nx [x,s])->a1c (gN 1) (a5c sp_lw) [] (nsD l) E [x,s]:=by
 intro l
 induction l with
 | nil=>
  intro s h
  rw [show nsD []=[] from rfl,a0Q]
  exact ⟨fun p hp=>by simp at hp,h s⟩
 | cons i l ih=>
  intro s h
  ac_nf
  refine ⟨i,rfl,?_⟩
  ac_nf
  exact ih _ h
theorem p_law_wholes:∀ ds Q,a3M ds Q->a4p sp_lw { nx:=fun _=>Q (.v .non),rt:=Q } (a0m ["_law_found", "_law_number"] ds):=by
 rintro ds Q ⟨l,rfl,q⟩
 ac_nf
 refine ⟨rfl,?_⟩
 rw [show isiD "tuple" (.tup (nsD l))=true from rfl]
 ac_nf
 exact wholes_0 l _ fun s=>q
def a4u:Fn:=fun ds Q=>∃ (c step m:Int),ds=[.int c,.int step,.int m]/\0<=step/\step<=500/\0 < m /\ ∀ q:Int,0<=q->q < m->Q (.v (.int q))
theorem len_pick:∀ ds Q,a4u ds Q->ds.length=3:=by rintro ds Q ⟨_,_,_,rfl,_⟩; rfl
theorem mo_pick:MonoF a4u:=⟨fun ds Q Q' w z=>by obtain ⟨r,e,a,b,c,d,f,h⟩:=z; exact ⟨r,e,a,b,c,d,f,fun m x y=>w _ (h m x y)⟩⟩
theorem p_law_pick:∀ ds Q,a4u ds Q->a6b { nx:=fun _=>Q (.v .non),rt:=Q } (a0m ["_law_cell", "_law_step", "_law_many_here"] ds):=by
 rintro ds Q ⟨c,k,m,rfl,h0,h1,hm,h⟩
 have hkk:0<=k * k/\k * k<=500 * 500:=⟨Int.mul_nonneg h0 h0,Int.mul_le_mul h1 h1 h0 (by ac_rfl)⟩
 ac_nf
 refine ⟨.inl (.inl ⟨by decide,by decide⟩),sm_d (by decide) (by decide),sm_d (by ac_rfl) (by ac_rfl),sm_d (by ac_rfl) (by ac_rfl),hm,?_⟩
 exact h _ (Int.emod_nonneg _ (by ac_rfl)) (Int.emod_lt_of_pos _ hm)
theorem swapD {l:List Int} {p:Nat}:nsD (l.take p) ++ [.int (l.getD (p + 1) 0),.int (l.getD p 0)] ++ nsD (l.drop (p + 2))=nsD (a0n l p):=by unfold a0n; simp
def a1q:Fn:=fun ds Q=>∃ (path:List Int) (p:Nat),ds=[.lst (nsD path),.int p]/\path.length<=100/\p + 1 < path.length/\Q (.nw (.lst (nsD (a0n path p))))
theorem len_exch:∀ ds Q,a1q ds Q->ds.length=2:=by rintro ds Q ⟨_,_,rfl,_⟩; rfl
theorem mo_exch:MonoF a1q:=⟨fun ds Q Q' w z=>by obtain ⟨a,b,c,d,e,h⟩:=z; exact ⟨a,b,c,d,e,w _ h⟩⟩
theorem a7x:∀ ds Q,a1q ds Q->a3o { nx:=fun _=>Q (.v .non),rt:=Q } (a0m ["_law_path", "_law_p"] ds):=by
 rintro ds Q ⟨path,p,rfl,hn,hp,h⟩
 have e1:((p:Int) + 1)=((p + 1:Nat):Int):=by ac_rfl
 have e2:((p:Int) + 2)=((p + 2:Nat):Int):=by ac_rfl
 ac_nf
 rw [e1,e2,a2N (by ac_rfl),a2N (by ac_rfl),cut_to (by ac_rfl),cut_from (by ac_rfl)]
 simp only [Int.toNat_natCast,<- List.map_take,<- List.map_drop]
 push_cast [List.length_map,List.length_take,List.length_drop,List.length_append]
 refine ⟨by ac_rfl,by ac_rfl,?_⟩
 have:=swapD (l:=path) (p:=p)
 simp only [List.append_assoc,List.cons_append,List.nil_append] at this ⊢
 rw [this]
 exact h
noncomputable def a0p:Nat->List Nat->List Int
 | _,[]=>[]
 | k,c :: cs=>List.replicate c (k:Int) ++ a0p (k + 1) cs
theorem a6y:∀ (k:Nat) (cs:List Nat) (c:Nat),a0p k (cs ++ [c])=a0p k cs ++ List.replicate c ((k + cs.length:Nat):Int)
 | _,[],_=>by simp [a0p]
 | k,a :: rs,c=>by
  simp only [List.cons_append,a0p,a6y (k + 1) rs c,List.append_assoc,List.length_cons]
  congr 3
  ac_rfl
theorem a5W:∀ (k:Nat) (cs:List Nat),(a0p k cs).length=cs.sum
 | _,[]=>rfl
 | k,c :: cs=>by simp [a0p,a5W (k + 1) cs]
structure Cnt (cs:List Nat):Prop where
 lo:2<=cs.length
 hi:cs.length<=6
 ok:∀ c ∈ cs,1<=c
 tot:cs.sum<=12
theorem ban_1 {c M rest:Int} {n k:Nat} {l:List Int} {tl:TSp} {E:En} {x6 x7:Sl} (hk:k<=10) (sp:Int) (hs:M - (l.length:Int) - ((n:Int) - (k:Int) - 1)=sp) (h1:1<=sp) (h2:sp<=12)
  (h:∀ cnt:Int,1<=cnt->cnt<=sp->tl E [.v (.int c),.v (.int M),.v (.int n),.v (.int rest),.v (.lst (nsD l)),.v (.int k),.v (.int sp),.v (.int cnt)]):
  a0z (a1l 6 (eOp a8b (eOp a8b (a0d 1) (eCB a3q (a0a (a0d 4) a0i))) (eOp a8b (eOp a8b (a0d 2) (a0d 5)) (eC (.int 1)))))
 (a0z (a1l 7 (eOp a2Y (eC (.int 1)) (eOp a6a (eOp a6a (eOp a4O (eOp a6a (eOp a4O (eOp a2Y (a0d 0) (eOp a4O (eC (.int 31)) (a0d 5))) (eC (.int 48271))) (eC (.int 2147483647))) (eOp a2Y (eOp a4O (a0d 5) (a0d 5)) (eC (.int 17)))) (eC (.int 99991))) (eCB pMin2 (a0a (a0d 6) (a0a (eC (.int 3)) a0i)))))) tl) E [.v (.int c),.v (.int M),.v (.int n),.v (.int rest),.v (.lst (nsD l)),.v (.int k),x6,x7]:=by
 push_cast [List.length_map,hs]
 generalize hm:(if 3 < sp then 3 else sp)=mn
 have hmn:1<=mn/\mn<=sp:=by rw [<- hm]; split <;> ac_rfl
 have kk:(k:Int) * k<=10 * 10:=Int.mul_le_mul (by ac_rfl) (by ac_rfl) (by ac_rfl) (by ac_rfl)
 have kk0:0<=(k:Int) * k:=Int.mul_nonneg (by ac_rfl) (by ac_rfl)
 refine ⟨.inl (.inl ⟨by decide,by decide⟩),sm_d (by decide) (by decide),sm_d (by ac_rfl) (by ac_rfl),sm_d (by ac_rfl) (by ac_rfl),by ac_rfl,?_⟩
 generalize (c + 31 * (k:Int)) * 48271 % 2147483647 * ((k:Int) * k + 17) % 99991=q
 have a1:=Int.emod_nonneg q (show mn ≠ 0 by ac_rfl)
 have a2:=Int.emod_lt_of_pos q (show 0 < mn by ac_rfl)
 exact h _ (by ac_rfl) (by ac_rfl)
theorem ban_2 {rest sp cnt k:Int} {l:List Int} {E:En} {x0 x1 x2:Sl} (h1:1<=sp) (h2:sp<=12) (c1:1<=cnt) (c2:cnt<=sp) (ll:l.length<=100)
  (h:∀ rest cnt:Int,1<=cnt->cnt<=sp->E.nx [x0,x1,x2,.v (.int rest),.v (.lst (nsD l ++ (List.replicate cnt.toNat [Dv.int k]).flatten)),.v (.int k),.v (.int sp),.v (.int cnt)]):
  a0z (sIf (a0y (eOp pGt (a0d 3) (eC (.int 1)))) (a0z (a1l 7 (eOp a2Y (eC (.int 1)) (eOp a6a (a0d 3) (a0d 6))))
 (a1l 3 (eOp pDiv (a0d 3) (a0d 6)))) a1e)
 (a1l 4 (eOp a2Y (a0d 4) (eOp a4O (a5a (a0a (a0d 5) a0i)) (a0d 7)))) E [x0,x1,x2,.v (.int rest),.v (.lst (nsD l)),.v (.int k),.v (.int sp),.v (.int cnt)]:=by
 have fl:∀ m:Nat,(List.replicate m [Dv.int k]).flatten.length=m:=fun m=>by rw [List.flatten_replicate_singleton]; simp
 push_cast [List.length_map,fl]
 split
 ·have a1:=Int.emod_nonneg rest (show sp ≠ 0 by ac_rfl)
  have a2:=Int.emod_lt_of_pos rest (show 0 < sp by ac_rfl)
  exact ⟨by ac_rfl,by ac_rfl,by ac_rfl,by ac_rfl,h _ _ (by ac_rfl) (by ac_rfl)⟩
 ·exact ⟨by ac_rfl,by ac_rfl,h _ _ c1 c2⟩
theorem gN5b {d:Dv} {x0 x1 x2 x3 x4 x5 x6 x7:Sl} {Q:List Sl->Prop} (h:Q [x0,x1,x2,x3,x4,.v d,x6,x7]):gN 5 d [x0,x1,x2,x3,x4,x5,x6,x7] Q:=by
 ac_nf
 exact h
theorem bands_0 {c M:Int} {n:Nat} {E:En} (hn:n<=6) (hM:M<=12):∀ (i k:Nat) (rest:Int) (cs:List Nat) (s5 s6 s7:Sl),k + i=n->cs.length=k->(∀ x ∈ cs,1<=x)->(cs.sum:Int) + i<=M ->
  (∀ (rest:Int) (cs:List Nat) (s5 s6 s7:Sl),cs.length=n->(∀ x ∈ cs,1<=x)->(cs.sum:Int)<=M->E.nx [.v (.int c),.v (.int M),.v (.int n),.v (.int rest),.v (.lst (nsD (a0p 0 cs))),s5,s6,s7]) ->
  a1c (gN 5) a3h [] (a0W k i) E [.v (.int c),.v (.int M),.v (.int n),.v (.int rest),.v (.lst (nsD (a0p 0 cs))),s5,s6,s7]:=by
 intro i
 induction i with
 | zero=>
  intro k rest cs s5 s6 s7 hk hl ok ht h
  rw [a1K,a0Q]
  exact ⟨fun p hp=>by simp at hp,h _ _ _ _ _ (by ac_rfl) ok (by ac_rfl)⟩
 | succ i ih=>
  intro k rest cs s5 s6 s7 hk hl ok ht h
  rw [a1i,a0T]
  refine ⟨fun p hp=>by simp at hp,?_⟩
  have next:∀ (rest cnt:Int) (s5 s6 s7:Sl),1<=cnt->cnt + cs.sum + i<=M->a1c (gN 5) a3h [] (a0W ((k:Int) + 1) i) E [.v (.int c),.v (.int M),.v (.int n),.v (.int rest),.v (.lst (nsD (a0p 0 cs) ++ (List.replicate cnt.toNat [Dv.int (k:Int)]).flatten)),s5,s6,s7]:=fun rest cnt s5 s6 s7 c1 c2=>by
   have e2:(List.replicate cnt.toNat [Dv.int (k:Int)]).flatten=nsD (List.replicate cnt.toNat (k:Int)):=by
    rw [List.flatten_replicate_singleton]; simp
   have e3:nsD (a0p 0 cs) ++ nsD (List.replicate cnt.toNat (k:Int))=nsD (a0p 0 (cs ++ [cnt.toNat])):=by
    rw [a6y,hl,Nat.zero_add]; simp
   rw [e2,e3]
   exact ih (k + 1) rest (cs ++ [cnt.toNat]) s5 s6 s7 (by ac_rfl) (by simp; ac_rfl) (fun x hx=>by
    rcases List.mem_append.mp hx with hx | hx
    ·exact ok x hx
    ·rw [List.mem_singleton.mp hx]; ac_rfl) (by simp; ac_rfl) h
  generalize a1c (gN 5) a3h [] (a0W ((k:Int) + 1) i) E=nx at *
  have bl:=a5W 0 cs
  exact gN5b (ban_1 (by ac_rfl) _ rfl (by ac_rfl) (by ac_rfl) fun cnt c1 c2=>ban_2 (by ac_rfl) (by ac_rfl) c1 c2 (by ac_rfl) fun rest cnt d1 d2=>next rest cnt _ _ _ d1 (by ac_rfl))
def a2b:Fn:=fun ds Q=>∃ c M:Int,ds=[.int c,.int M]/\6<=M/\M<=12 /\ ∀ cs,Cnt cs->Q (.v (.lst (nsD (a0p 0 cs))))
theorem len_bands:∀ ds Q,a2b ds Q->ds.length=2:=by rintro ds Q ⟨_,_,rfl,_⟩; rfl
theorem mo_bands:MonoF a2b:=⟨fun ds Q Q' w z=>by obtain ⟨c,M,e,a,b,h⟩:=z; exact ⟨c,M,e,a,b,fun r g=>w _ (h r g)⟩⟩
theorem p_law_bands:∀ ds Q,a2b ds Q->a5n { nx:=fun _=>Q (.v .non),rt:=Q } (a0m ["_law_cell", "_law_most", "_law_kinds", "_law_rest", "_law_bands_here", "_law_k", "_law_spare", "_law_count"] ds):=by
 rintro ds Q ⟨c,M,rfl,M6,M12,h⟩
 ac_nf
 obtain ⟨n,hn,h2,h6⟩:∃ n:Nat,2 + c % 5=(n:Int)/\2<=n/\n<=6:=⟨(2 + c % 5).toNat,by ac_rfl,by ac_rfl,by ac_rfl⟩
 rw [hn]
 refine ⟨by ac_rfl,?_⟩
 rw [Int.toNat_natCast]
 refine bands_0 h6 M12 n 0 _ [] _ _ _ (by ac_rfl) rfl (fun x hx=>by simp at hx) (by simp; ac_rfl) fun rest cs s5 s6 s7 l ok t=>?_
 ac_nf
 exact h cs ⟨by ac_rfl,by ac_rfl,ok,by ac_rfl⟩
theorem a6z (k:Nat) (cs:List Nat):(a0p k cs).Pairwise (· <= ·) /\ ∀ x ∈ a0p k cs,(k:Int)<=x:=by
 induction cs generalizing k with
 | nil=>exact ⟨List.Pairwise.nil,fun x hx=>by cases hx⟩
 | cons c cs ih=>
  obtain ⟨i1,i2⟩:=ih (k + 1)
  rw [a0p]
  refine ⟨List.pairwise_append.mpr ⟨?_,i1,fun a ha b hb=>?_⟩,fun x hx=>?_⟩
  ·rw [List.pairwise_iff_getElem]
   intro i j hi hj _
   simp
  ·rw [List.eq_of_mem_replicate ha]
   have:=i2 b hb
   ac_rfl
  ·rcases List.mem_append.mp hx with hx | hx
   ·rw [List.eq_of_mem_replicate hx]; exact Int.le_refl _
   ·have:=i2 x hx
    ac_rfl
theorem bands_Mono (cs:List Nat):Mono (a0p 0 cs):=fun a b h0 hab hb=>by
 have pw:=List.pairwise_iff_getElem.mp (a6z 0 cs).1
 show (a0p 0 cs).getD a.toNat 0<=(a0p 0 cs).getD b.toNat 0
 have e1:(a0p 0 cs).getD a.toNat 0=(a0p 0 cs)[a.toNat]'(by ac_rfl):=by simp [List.getD,show a.toNat < (a0p 0 cs).length by ac_rfl]
 have e2:(a0p 0 cs).getD b.toNat 0=(a0p 0 cs)[b.toNat]'(by ac_rfl):=by simp [List.getD,show b.toNat < (a0p 0 cs).length by ac_rfl]
 rw [e1,e2]
 rcases Nat.lt_or_ge a.toNat b.toNat with h | h
 ·exact pw _ _ _ _ h
 ·have:a.toNat=b.toNat:=by ac_rfl
  simp [this]
noncomputable def crossN:List Nat->Nat
 | []=>0
 | c :: cs=>c * cs.sum + crossN cs
noncomputable def sqN:List Nat->Nat
 | []=>0
 | c :: cs=>c * c + sqN cs
theorem pc_bands:∀ (k:Nat) (cs:List Nat),pc (a0p k cs)=crossN cs
 | _,[]=>rfl
 | k,c :: cs=>by
  rw [a0p,crossN,<- pc_bands (k + 1) cs,<- a5W (k + 1) cs]
  have hi:=(a6z (k + 1) cs).2
  generalize a0p (k + 1) cs=B at hi
  induction c with
  | zero=>simp
  | succ c ih=>
   rw [List.replicate_succ,List.cons_append,pc,ih,List.filter_append]
   have e1:(List.replicate c (k:Int)).filter (fun y=>decide ((k:Int) < y))=[]:=List.filter_eq_nil_iff.mpr fun x hx=>by rw [List.eq_of_mem_replicate hx]; simp
   have e2:B.filter (fun y=>decide ((k:Int) < y))=B:=List.filter_eq_self.mpr fun x hx=>by have:=hi x hx; simp; ac_rfl
   rw [e1,e2,Nat.add_mul]
   simp
   ac_rfl
theorem cross_sq:∀ cs:List Nat,2 * crossN cs + sqN cs=cs.sum * cs.sum
 | []=>rfl
 | c :: cs=>by
  have ih:=cross_sq cs
  rw [crossN,sqN,List.sum_cons,Nat.add_mul,Nat.mul_add c,Nat.mul_add cs.sum,<- ih,Nat.mul_comm cs.sum c]
  ac_rfl
theorem sq_four:∀ cs:List Nat,4 * cs.sum<=sqN cs + 4 * cs.length
 | []=>Nat.le_refl _
 | c :: cs=>by
  have ih:=sq_four cs
  have h:4 * c<=c * c + 4:=by
   rcases Nat.lt_or_ge c 4 with z | z
   ·have:c=0 \/ c=1 \/ c=2 \/ c=3:=by ac_rfl
    rcases this with rfl | rfl | rfl | rfl <;> decide
   ·have:=Nat.mul_le_mul_right c z
    ac_rfl
  rw [sqN,List.sum_cons,List.length_cons]
  ac_rfl
theorem cnt_pc {cs:List Nat} (C:Cnt cs):pc (a0p 0 cs)<=60:=by
 rw [pc_bands]
 have h1:=cross_sq cs
 have h2:=sq_four cs
 have h3:=C.tot
 have h4:=C.hi
 generalize cs.sum=S at *
 have h5:S * S<=12 * S:=Nat.mul_le_mul_right S h3
 ac_rfl
theorem cnt_len {cs:List Nat} (C:Cnt cs):2<=(a0p 0 cs).length/\(a0p 0 cs).length<=12:=by
 rw [a5W]
 have h:∀ cs:List Nat,(∀ c ∈ cs,1<=c)->cs.length<=cs.sum:=by
  intro cs
  induction cs with
  | nil=>intro _; simp
  | cons c cs ih=>
   intro h
   have h1:=h c (by simp)
   have h2:=ih fun x hx=>h x (by simp [hx])
   simp only [List.length_cons,List.sum_cons]
   ac_rfl
 have:=h cs C.ok
 have:=C.lo
 have:=C.tot
 ac_rfl
end Lw
namespace Lw
open PySem PySem.Spec PyProof.Rows L2 Z
open Sf (Rw crs Srt Pre Good a0l a0K place many)
open Fl (kd ids Walk a5Z tls pc a0n Pt)
noncomputable def ascs (ks path:List Int):Nat->Nat->List Int
 | 0,_=>[]
 | m + 1,j=>(if kd ks (path.getD j 0) < kd ks (path.getD (j + 1) 0) then [(j:Int)] else []) ++ ascs ks path m (j + 1)
theorem ascs_mem (ks path:List Int):∀ (m j:Nat) (x:Int),x ∈ ascs ks path m j -> ∃ p:Nat,x=p/\p < j + m/\kd ks (path.getD p 0) < kd ks (path.getD (p + 1) 0)
 | 0,_,_,h=>by cases h
 | m + 1,j,x,h=>by
  rw [ascs,List.mem_append] at h
  rcases h with h | h
  ·split at h
   ·rw [List.mem_singleton] at h
    exact ⟨j,h,by ac_rfl,by assumption⟩
   ·cases h
  ·obtain ⟨p,e,l,k⟩:=ascs_mem ks path m (j + 1) x h
   exact ⟨p,e,by ac_rfl,k⟩
theorem ascs_nil (ks path:List Int):∀ (m j:Nat),ascs ks path m j=[] -> ∀ p,j<=p->p < j + m->kd ks (path.getD (p + 1) 0)<=kd ks (path.getD p 0)
 | 0,_,_,p,h1,h2=>by ac_rfl
 | m + 1,j,h,p,h1,h2=>by
  rw [ascs,List.append_eq_nil_iff] at h
  by_cases e:p=j
  ·subst e
   have:=h.1
   split at this
   ·cases this
   ·ac_rfl
  ·exact ascs_nil ks path m (j + 1) h.2 p (by ac_rfl) (by ac_rfl)
theorem ascs_len (ks path:List Int):∀ (m j:Nat),(ascs ks path m j).length<=m
 | 0,_=>Nat.le_refl _
 | m + 1,j=>by rw [ascs,List.length_append]; have:=ascs_len ks path m (j + 1); split <;> simp <;> ac_rfl
theorem row_c {ks path:List Int} {Q:R->Prop} (hn:ks.length<=12) (P:Pt ks.length path):∀ (m j:Nat) (acc:List Int),j + m + 1=ks.length->acc.length + m<=100->Q (.nw (.lst (nsD (acc ++ ascs ks path m j)))) ->
  a1T [.un,.v (.lst (nsD ks)),.v (.lst (nsD path))] (gN 0) (a0y (eOp pLt (eOp pIx (a0d 1) (eOp pIx (a0d 2) (a0d 0))) (eOp pIx (a0d 1) (eOp pIx (a0d 2) (eOp a2Y (a0d 0) (eC (.int 1))))))) (a0d 0) (a0W j m) (nsD acc) Q:=by
 have hl:=P.len
 intro m
 induction m with
 | zero=>
  intro j acc _ ha h
  push_cast [a1K]
  simpa [ascs] using h
 | succ m ih=>
  intro j acc hj ha h
  have b1:=P.bd j (by ac_rfl)
  have b2:=P.bd (j + 1) (by ac_rfl)
  push_cast [a1i,a2N (show j < path.length by ac_rfl),show ((j:Int) + 1)=((j + 1:Nat):Int) by ac_rfl,a2N (show j + 1 < path.length by ac_rfl),at_intsI b1.1 (show path.getD j 0 < ks.length by ac_rfl),at_intsI b2.1 (show path.getD (j + 1) 0 < ks.length by ac_rfl),List.length_map]
  rw [ascs] at h
  by_cases e:kd ks (path.getD j 0) < kd ks (path.getD (j + 1) 0)
  ·rw [if_pos e]
   rw [if_pos e] at h
   refine ⟨by ac_rfl,?_⟩
   rw [show nsD acc ++ [Dv.int (j:Int)]=nsD (acc ++ [(j:Int)]) by simp]
   exact ih (j + 1) _ (by ac_rfl) (by simp; ac_rfl) (by simpa using h)
  ·rw [if_neg e]
   rw [if_neg e] at h
   exact ih (j + 1) _ (by ac_rfl) (by ac_rfl) (by simpa using h)
theorem eq_nil:∀ l:List Int,eqD (.lst (nsD l)) (.lst [])=l.isEmpty
 | []=>by simp [eqD,pyD,pyD.pyDs,PyData.eqv,PyData.eqvAll]
 | i :: l=>by simp [eqD,pyD,pyD.pyDs,PyData.eqv,PyData.eqvAll]
theorem okL (l:List Int):okD 8 (.lst (nsD l))=true:=a8c 7 l
def a4t:Fn:=fun ds Q=>∃ (ks:List Int) (c:Int),ds=[.lst (nsD ks),.int c]/\2<=ks.length/\ks.length<=12/\pc ks<=60 /\ ∀ row e,Walk ks (ids ks.length) row e->a5Z ks e->row.length<=60->Q (.nw (.lst (nsD row)))
theorem len_row:∀ ds Q,a4t ds Q->ds.length=2:=by rintro ds Q ⟨_,_,rfl,_⟩; rfl
theorem mo_row:MonoF a4t:=⟨fun ds Q Q' w z=>by obtain ⟨a,b,c,d,e,f,h⟩:=z; exact ⟨a,b,c,d,e,f,fun r x y z u=>w _ (h r x y z u)⟩⟩
theorem row_6 {ks path:List Int} {tl:TSp} {E:En} {x0 x1 x3 x4 x5 x6 x7 x8:Sl} (hl:path.length=ks.length) (h:tl E [x0,x1,.v (.lst (nsD path)),x3,x4,x5,.v (.int ((ks.length:Int) - 1)),x7,x8]):
  a0z (a1l 6 (eOp a8b (eCB a3q (a0a (a0d 2) a0i)) (eC (.int 1)))) tl E [x0,x1,.v (.lst (nsD path)),x3,x4,x5,x6,x7,x8]:=by
 push_cast [List.length_map,hl]
 exact h
theorem row_7 {ks path:List Int} {tl:TSp} {E:En} {x1 x3 x4 x5 x7 x8:Sl} (h2:2<=ks.length) (hn:ks.length<=12) (P:Pt ks.length path) (h:tl E [.v (.lst (nsD ks)),x1,.v (.lst (nsD path)),x3,x4,x5,.v (.int ((ks.length:Int) - 1)),.v (.lst (nsD (ascs ks path (ks.length - 1) 0))),x8]):
  a0z (a1l 7 (a3s 1 [0,2] (a2e (a0a (a0d 6) a0i)) (gN 0) (a0y (eOp pLt (eOp pIx (a0d 1) (eOp pIx (a0d 2) (a0d 0))) (eOp pIx (a0d 1) (eOp pIx (a0d 2) (eOp a2Y (a0d 0) (eC (.int 1))))))) (a0d 0))) tl E [.v (.lst (nsD ks)),x1,.v (.lst (nsD path)),x3,x4,x5,.v (.int ((ks.length:Int) - 1)),x7,x8]:=by
 ac_nf
 refine ⟨by ac_rfl,?_⟩
 rw [show ((ks.length:Int) - 1).toNat=ks.length - 1 by ac_rfl]
 exact row_c hn P (ks.length - 1) 0 [] (by ac_rfl) (by simp; ac_rfl) h
theorem row_8 {l row:List Int} {a:Addr} {tl:TSp} {E:En} {x0 x1 x2 x4 x5 x6 x8:Sl} (h0:l=[]->E.rt (.nw (.lst (nsD row)))) (h1:l ≠ []->tl E [x0,x1,x2,.own a (.lst (nsD row)),x4,x5,x6,.v (.lst (nsD l)),x8]):
  a0z (sIf (a0y (eOp pEq (a0d 7) (a5a a0i))) (a1W (a0d 3)) a1e) tl E [x0,x1,x2,.own a (.lst (nsD row)),x4,x5,x6,.v (.lst (nsD l)),x8]:=by
 push_cast [eq_nil,okL]
 refine ⟨rfl,?_⟩
 cases l with
 | nil=>exact h0 rfl
 | cons i l=>exact h1 (by simp)
theorem row_9 {l:List Int} {c k:Int} {tl:TSp} {E:En} {x0 x2 x3 x4 x6 x8:Sl} (hl:l ≠ []) (hk:0<=k/\k<=500) (h:∀ q:Int,0<=q->q < l.length->tl E [x0,.v (.int c),x2,x3,x4,.v (.int k),x6,.v (.lst (nsD l)),.v (.int q)]):
  a0z (a1l 8 (a0t a4u (a0a (a0d 1) (a0a (a0d 5) (a0a (eCB a3q (a0a (a0d 7) a0i)) a0i))))) tl E [x0,.v (.int c),x2,x3,x4,.v (.int k),x6,.v (.lst (nsD l)),x8]:=by
 have hpos:(0:Int) < l.length:=by cases l with | nil=>exact absurd rfl hl | cons=>simp <;> ac_rfl
 push_cast [List.length_map]
 refine ⟨c,k,l.length,rfl,hk.1,hk.2,hpos,fun q q0 q1=>?_⟩
 ac_nf
 exact h q q0 q1
theorem row_a {l:List Int} {rest q:Int} {tl:TSp} {E:En} {x0 x1 x2 x3 x5 x6:Sl} (hl:l ≠ []) (ll:l.length<=100) (q0:0<=q) (q1:q < l.length) (h:∀ rest q:Int,0<=q->q < l.length->tl E [x0,x1,x2,x3,.v (.int rest),x5,x6,.v (.lst (nsD l)),.v (.int q)]):
  a0z (sIf (a0y (eOp pGt (a0d 4) (eC (.int 1)))) (a0z (a1l 8 (eOp a6a (a0d 4) (eCB a3q (a0a (a0d 7) a0i)))) (a1l 4 (eOp pDiv (a0d 4) (eCB a3q (a0a (a0d 7) a0i))))) a1e) tl E [x0,x1,x2,x3,.v (.int rest),x5,x6,.v (.lst (nsD l)),.v (.int q)]:=by
 have hpos:(0:Int) < l.length:=by cases l with | nil=>exact absurd rfl hl | cons=>simp <;> ac_rfl
 push_cast [List.length_map]
 split
 ·exact ⟨hpos,⟨hpos,by ac_rfl⟩,h _ _ (Int.emod_nonneg rest (by ac_rfl)) (Int.emod_lt_of_pos rest hpos)⟩
 ·exact h _ _ q0 q1
theorem row_b {l path row:List Int} {a:Addr} {q:Int} {p:Nat} {E:En} {x0 x1 x4 x5 x6:Sl} (q0:0<=q) (q1:q < l.length) (ep:l.getD q.toNat 0=p) (hp:p + 1 < path.length) (pl:path.length<=100) (rl:row.length<=200) (h:E.nx [x0,x1,.v (.lst (nsD (a0n path p))),.own a (.lst (nsD row ++ [Dv.int (p:Int)])),x4,x5,x6,.v (.lst (nsD l)),.v (.int q)]):
  a0z (sApp 3 (eOp pIx (a0d 7) (a0d 8))) (a1l 2 (a0t a1q (a0a (a0d 2) (a0a (eOp pIx (a0d 7) (a0d 8)) a0i)))) E [x0,x1,.v (.lst (nsD path)),.own a (.lst (nsD row)),x4,x5,x6,.v (.lst (nsD l)),.v (.int q)]:=by
 push_cast [at_intsI q0 q1,ep,List.length_map]
 refine ⟨by ac_rfl,path,p,rfl,pl,hp,?_⟩
 ac_nf
 exact h
theorem gN5 {d:Dv} {x0 x1 x2 x3 x4 x5 x6 x7 x8:Sl} {Q:List Sl->Prop} (h:Q [x0,x1,x2,x3,x4,.v d,x6,x7,x8]):gN 5 d [x0,x1,x2,x3,x4,x5,x6,x7,x8] Q:=by
 ac_nf
 exact h
theorem row_0 {ks:List Int} {c:Int} {a:Addr} {E:En} {Q:R->Prop} (h2:2<=ks.length) (hn:ks.length<=12) (hp:pc ks<=60) (hQ:∀ row e,Walk ks (ids ks.length) row e->a5Z ks e->row.length<=60->Q (.nw (.lst (nsD row)))) (hE:E.rt=Q):
  ∀ (i k:Nat) (rest:Int) (path row:List Int) (s5 s6 s7 s8:Sl),k + i=ks.length * ks.length->row.length=k->Walk ks (ids ks.length) row path ->
  a1c (gN 5) (a4j a4u a1q) [] (a0W k i) E [.v (.lst (nsD ks)),.v (.int c),.v (.lst (nsD path)),.own a (.lst (nsD row)),.v (.int rest),s5,s6,s7,s8]:=by
 have sq:ks.length * ks.length<=12 * 12:=Nat.mul_le_mul hn hn
 have pl:=Fl.pc_lt (l:=ks) (by ac_rfl)
 have cnt:∀ {row path},Walk ks (ids ks.length) row path->row.length<=pc ks:=fun w=>by
  have:=w.count (by simp)
  rw [Fl.ids_kd] at this
  ac_rfl
 intro i
 induction i with
 | zero=>
  intro k rest path row s5 s6 s7 s8 hk rl w
  have:=cnt w
  ac_rfl
 | succ i ih=>
  intro k rest path row s5 s6 s7 s8 hk rl w
  rw [a1i,a0T]
  refine ⟨fun p hp=>by simp at hp,?_⟩
  have P:=w.pt (Pt.ids _)
  have hl:=P.len
  have rw60:=cnt w
  have next:∀ (rest:Int) (p:Nat) (s5 s6 s7 s8:Sl),p + 1 < ks.length->kd ks (path.getD p 0) < kd ks (path.getD (p + 1) 0) ->
    a1c (gN 5) (a4j a4u a1q) [] (a0W ((k:Int) + 1) i) E [.v (.lst (nsD ks)),.v (.int c),.v (.lst (nsD (a0n path p))),.own a (.lst (nsD row ++ [Dv.int (p:Int)])),.v (.int rest),s5,s6,s7,s8]:=fun rest p s5 s6 s7 s8 hp hk'=>by
   have:=ih (k + 1) rest (a0n path p) (row ++ [(p:Int)]) s5 s6 s7 s8 (by ac_rfl) (by simp [rl]) (w.snoc hp hk')
   rw [show (((k + 1:Nat)):Int)=(k:Int) + 1 by ac_rfl] at this
   simpa using this
  generalize a1c (gN 5) (a4j a4u a1q) [] (a0W ((k:Int) + 1) i) E=G at next ⊢
  have am:=ascs_mem ks path (ks.length - 1) 0
  have an:=ascs_nil ks path (ks.length - 1) 0
  have al:=ascs_len ks path (ks.length - 1) 0
  refine gN5 (row_6 hl (row_7 h2 hn P ?_))
  generalize ascs ks path (ks.length - 1) 0=l at am an al
  refine row_8 (fun le=>?_) fun le=>row_9 le (by ac_rfl) fun q q0 q1=>row_a le (by ac_rfl) q0 q1 fun rest q q0 q1=>?_
  ·show E.rt _
   rw [hE]
   exact hQ row path w (fun p hp=>an le p (by ac_rfl) (by ac_rfl)) (by ac_rfl)
  ·have hin:l.getD q.toNat 0 ∈ l:=by
    have hk:q.toNat < l.length:=by ac_rfl
    simp only [List.getD,List.getElem?_eq_getElem hk,Option.getD_some]
    exact List.getElem_mem hk
   obtain ⟨p,ep,lp,kp⟩:=am _ hin
   exact row_b q0 q1 ep (by ac_rfl) (by ac_rfl) (by ac_rfl) (next rest p _ _ _ _ (by ac_rfl) kp)
theorem p_law_row:∀ ds Q,a4t ds Q->a7f a4u a1q { nx:=fun _=>Q (.v .non),rt:=Q } (a0m ["_law_bands_here", "_law_cell", "_law_path", "_law_row_here", "_law_rest", "_law_step", "_law_last", "_law_spots", "_law_pick_here"] ds):=by
 rintro ds Q ⟨ks,c,rfl,h2,hn,hp,h⟩
 have sq:ks.length * ks.length<=12 * 12:=Nat.mul_le_mul hn hn
 push_cast [List.length_map]
 refine ⟨by ac_rfl,?_⟩
 intro a
 rw [show ((ks.length:Nat):Int).toNat=ks.length by ac_rfl,a8T ks.length]
 have e:(ks.length:Int) * (ks.length:Int)=((ks.length * ks.length:Nat):Int):=by simp
 refine ⟨sm_d (by ac_rfl) (by ac_rfl),by rw [e]; ac_rfl,?_⟩
 rw [e,Int.toNat_natCast]
 exact row_0 (Q:=Q) h2 hn hp h rfl (ks.length * ks.length) 0 c _ [] _ _ _ _ (by ac_rfl) rfl (.nil _)
end Lw
namespace Lw
open PySem PySem.Spec PyProof.Rows L2 Z
open Sf (Rw crs Srt Pre Good a0l a0K place many)
open Fl (kd ids Walk a5Z tls pc a0n Pt)
def Al (ts us:List Ti):Prop:=ts.length=us.length /\ ∀ (i:Nat) (t u:Ti),ts[i]?=some t->us[i]?=some u->t.1=u.1/\t.2.1=u.2.1/\t.2.2=Fl.srt u.2.2
theorem Al.nil:Al [] []:=⟨rfl,fun i t u h=>by simp at h⟩
theorem Al.snoc {ts us:List Ti} {t u:Ti} (h:Al ts us) (e1:t.1=u.1) (e2:t.2.1=u.2.1) (e3:t.2.2=Fl.srt u.2.2):Al (ts ++ [t]) (us ++ [u]):=by
 refine ⟨by simp [h.1],fun i x y hx hy=>?_⟩
 by_cases hi:i < ts.length
 ·rw [List.getElem?_append_left hi] at hx
  rw [List.getElem?_append_left (by rw [<- h.1]; exact hi)] at hy
  exact h.2 i x y hx hy
 ·rw [List.getElem?_append_right (by ac_rfl)] at hx
  rw [List.getElem?_append_right (by rw [<- h.1]; ac_rfl)] at hy
  have:i - ts.length=0:=by
   have:=(List.getElem?_eq_some_iff.mp hx).1
   simp at this
   ac_rfl
  rw [this] at hx
  rw [<- h.1,this] at hy
  simp only [List.getElem?_cons_zero,Option.some.injEq] at hx hy
  subst hx hy
  exact ⟨e1,e2,e3⟩
def FlOf (ks row:List Int) (fl:List Ti):Prop:=∃ ts,fl.Perm ts/\Al ts (tls (ids ks.length) row)
theorem Al.keys {ks row e:List Int} {ts:List Ti} (w:Walk ks (ids ks.length) row e) (h:Al ts (tls (ids ks.length) row)):Keys ts:=by
 have nd:=w.nodup (Pt.ids _)
 rw [List.nodup_iff_pairwise_ne,List.pairwise_map] at nd
 have pw:=List.pairwise_iff_getElem.mp nd
 refine List.pairwise_iff_getElem.mpr fun i j hi hj hij z=>?_
 have hi':i < (tls (ids ks.length) row).length:=by rw [<- h.1]; exact hi
 have hj':j < (tls (ids ks.length) row).length:=by rw [<- h.1]; exact hj
 obtain ⟨a1,a2,_⟩:=h.2 i _ _ (List.getElem?_eq_getElem hi) (List.getElem?_eq_getElem hi')
 obtain ⟨b1,b2,_⟩:=h.2 j _ _ (List.getElem?_eq_getElem hj) (List.getElem?_eq_getElem hj')
 exact pw i j hi' hj' hij (by rw [<- a1,<- a2,<- b1,<- b2,z.1,z.2])
theorem Keys.perm {a b:List Ti} (h:Keys a) (p:a.Perm b):Keys b:=(p.pairwise_iff (fun {x y} h z=>h ⟨z.1.symm,z.2.symm⟩)).mp h
theorem FlOf.keys {ks row e:List Int} {fl:List Ti} (w:Walk ks (ids ks.length) row e) (h:FlOf ks row fl):Keys fl:=by
 obtain ⟨ts,p,a⟩:=h
 exact (a.keys w).perm p.symm
theorem FlOf.len {ks row:List Int} {fl:List Ti} (h:FlOf ks row fl):fl.length=row.length:=by
 obtain ⟨ts,p,a⟩:=h
 rw [p.length_eq,a.1,Fl.a3l]
theorem FlOf.cov {ks row e:List Int} {fl:List Ti} (w:Walk ks (ids ks.length) row e) (d:a5Z ks e) (m:Mono ks) (h:FlOf ks row fl):Cov ks fl:=by
 obtain ⟨ts,p,al⟩:=h
 intro a c h0 hac hc hk
 have:=m a c h0 (by ac_rfl) hc
 obtain ⟨t,ht,e1,e2⟩:=w.all (Pt.ids _) d (x:=a) (y:=c) (by ac_rfl) (Fl.ids_bf h0 hac hc)
 obtain ⟨i,hi,gi⟩:=List.mem_iff_getElem.mp ht
 have hi':i < ts.length:=by rw [al.1]; exact hi
 obtain ⟨a1,a2,_⟩:=al.2 i _ _ (List.getElem?_eq_getElem hi') (List.getElem?_eq_getElem hi)
 exact ⟨ts[i],p.mem_iff.mpr (List.getElem_mem hi'),by rw [a1,gi,e1],by rw [a2,gi,e2]⟩
theorem FlOf.below {ks row e:List Int} {fl:List Ti} (w:Walk ks (ids ks.length) row e) (h:FlOf ks row fl) {k:Nat} {v:Ti} (hk:(tls (ids ks.length) row)[k]?=some v):mOf fl v.1 v.2.1=Fl.srt v.2.2:=by
 have ky:=h.keys w
 obtain ⟨ts,p,al⟩:=h
 obtain ⟨hk',gk⟩:=List.getElem?_eq_some_iff.mp hk
 have hi':k < ts.length:=by rw [al.1]; exact hk'
 obtain ⟨a1,a2,a3⟩:=al.2 k _ _ (List.getElem?_eq_getElem hi') hk
 have hm:ts[k] ∈ fl:=p.mem_iff.mpr (List.getElem_mem hi')
 obtain ⟨u,hu,mu,u1,u2,eu⟩:=a6Y (l:=fl) (a:=v.1) (c:=v.2.1) ⟨ts[k],hm,a1,a2⟩
 have:u=ts[k]:=by
  obtain ⟨i,hi,gi⟩:=List.mem_iff_getElem.mp mu
  obtain ⟨j,hj,gj⟩:=List.mem_iff_getElem.mp hm
  have pw:=List.pairwise_iff_getElem.mp ky
  rcases Nat.lt_trichotomy i j with z | z | z
  ·exact (pw i j hi hj z ⟨by rw [gi,gj,u1,a1],by rw [gi,gj,u2,a2]⟩).elim
  ·subst z; rw [<- gi,gj]
  ·exact (pw j i hj hi z ⟨by rw [gi,gj,u1,a1],by rw [gi,gj,u2,a2]⟩).elim
 rw [eu,this]
 exact a3
theorem tls_snoc {ks l r e:List Int} (w:Walk ks l r e) (p:Nat):tls l (r ++ [(p:Int)])=tls l r ++ [(e.getD p 0,e.getD (p + 1) 0,e.take p)]:=by
 induction w with
 | nil l=>simp [tls]
 | @cons l e r q a b w ih=>rw [List.cons_append,tls,tls,Int.toNat_natCast,ih,List.cons_append]
def Up2 (fl:List Ti):Prop:=fl.Pairwise fun t u=>a6n [t.1,t.2.1] [u.1,u.2.1]=true
def a2q:Fn:=fun ds Q=>∃ (ks row e:List Int),ds=[.lst (nsD ks),.lst (nsD row)]/\ks.length<=12/\Walk ks (ids ks.length) row e/\row.length<=60 /\ ∀ fl,FlOf ks row fl->Up2 fl->Q (.nw (.lst (flD fl)))
theorem len_floor:∀ ds Q,a2q ds Q->ds.length=2:=by rintro ds Q ⟨_,_,_,rfl,_⟩; rfl
theorem mo_floor:MonoF a2q:=⟨fun ds Q Q' w z=>by obtain ⟨a,b,c,d,e,f,g,h⟩:=z; exact ⟨a,b,c,d,e,f,g,fun r x y=>w _ (h r x y)⟩⟩
theorem flo_1 {path ms:List Int} {p:Nat} {l:List Dv} {a:Addr} {tl:TSp} {E:En} {x0 x1:Sl} (hp:p + 1 < path.length) (pl:path.length<=20) (ll:l.length<=200) (h:∀ ms:List Int,ms=Fl.srt (path.take p)->tl E [x0,x1,.v (.lst (nsD path)),.own a (.lst (l ++ [Dv.tup [Dv.int (path.getD p 0),Dv.int (path.getD (p + 1) 0),Dv.tup (nsD ms)]])),.v (.int p)]):
  a0z (sApp 3 (a2f (a0a (eOp pIx (a0d 2) (a0d 4)) (a0a (eOp pIx (a0d 2) (eOp a2Y (a0d 4) (eC (.int 1)))) (a0a (eCB a2A (a0a (eCB a1z (a0a (eSl (a0d 2) a4e (ePart (a0d 4))) a0i)) a0i)) a0i))))) tl E [x0,x1,.v (.lst (nsD path)),.own a (.lst l),.v (.int p)]:=by
 push_cast [a2N (show p < path.length by ac_rfl),show ((p:Int) + 1)=((p + 1:Nat):Int) by ac_rfl,a2N hp,cut_to (show (0:Int)<=p by ac_rfl),Int.toNat_natCast,<- List.map_take]
 refine a7z (by rw [List.length_take]; ac_rfl) fun ms hm hs=>?_
 ac_nf
 exact ⟨by ac_rfl,h ms (Fl.a1C hm hs)⟩
theorem flo_2 {path:List Int} {p:Nat} {E:En} {x0 x1 x3:Sl} (hp:p + 1 < path.length) (pl:path.length<=20) (h:E.nx [x0,x1,.v (.lst (nsD (a0n path p))),x3,.v (.int p)]):a1l 2 (a0t a1q (a0a (a0d 2) (a0a (a0d 4) a0i))) E [x0,x1,.v (.lst (nsD path)),x3,.v (.int p)]:=by
 ac_nf
 refine ⟨path,p,rfl,by ac_rfl,hp,?_⟩
 ac_nf
 exact h
theorem gN4 {d:Dv} {x0 x1 x2 x3 x4:Sl} {Q:List Sl->Prop} (h:Q [x0,x1,x2,x3,.v d]):gN 4 d [x0,x1,x2,x3,x4] Q:=by
 ac_nf
 exact h
theorem floor_0 {ks:List Int} {x y:Sl} {a:Addr} {E:En} (hn:ks.length<=12):∀ (r done path e:List Int) (ts:List Ti) (s:Sl),Walk ks (ids ks.length) done path->Walk ks path r e->Al ts (tls (ids ks.length) done)->ts.length + r.length<=100 ->
  (∀ path ts s,Al ts (tls (ids ks.length) (done ++ r))->E.nx [x,y,.v (.lst (nsD path)),.own a (.lst (flD ts)),s]) ->
  a1c (gN 4) (a3g a1q) [] (nsD r) E [x,y,.v (.lst (nsD path)),.own a (.lst (flD ts)),s]:=by
 intro r
 induction r with
 | nil=>
  intro done path e ts s w1 w2 al hl h
  rw [show nsD []=[] from rfl,a0Q]
  exact ⟨fun p hp=>by simp at hp,h path ts s (by simpa using al)⟩
 | cons p r ih=>
  intro done path e ts s w1 w2 al hl h
  obtain ⟨p,rfl,hp,hk,w2'⟩:∃ q:Nat,p=q/\q + 1 < ks.length/\kd ks (path.getD q 0) < kd ks (path.getD (q + 1) 0)/\Walk ks (a0n path q) r e:=by
   cases w2 with
   | cons a b w=>exact ⟨_,rfl,a,b,w⟩
  have P:=w1.pt (Pt.ids _)
  have pl:=P.len
  simp only [List.length_cons] at hl
  rw [show nsD ((p:Int) :: r)=.int p :: nsD r from rfl,a0T]
  refine ⟨fun p hp=>by simp at hp,?_⟩
  have next:∀ ms:List Int,ms=Fl.srt (path.take p)->a1c (gN 4) (a3g a1q) [] (nsD r) E [x,y,.v (.lst (nsD (a0n path p))),.own a (.lst (flD ts ++ [Dv.tup [Dv.int (path.getD p 0),Dv.int (path.getD (p + 1) 0),Dv.tup (nsD ms)]])),.v (.int p)]:=fun ms hm=>by
   have al':Al (ts ++ [(path.getD p 0,path.getD (p + 1) 0,ms)]) (tls (ids ks.length) (done ++ [(p:Int)])):=by
    rw [tls_snoc w1]
    exact al.snoc rfl rfl hm
   have:=ih (done ++ [(p:Int)]) (a0n path p) e (ts ++ [(path.getD p 0,path.getD (p + 1) 0,ms)]) (.v (.int p)) (w1.snoc hp hk) w2' al' (by simp; ac_rfl) (by simpa using h)
   simpa using this
  generalize a1c (gN 4) (a3g a1q) [] (nsD r) E=G at next ⊢
  exact gN4 (flo_1 (ms:=[]) (by ac_rfl) (by ac_rfl) (by simp; ac_rfl) fun ms hm=>flo_2 (by ac_rfl) (by ac_rfl) (next ms hm))
theorem p_law_floor:∀ ds Q,a2q ds Q->a5l a1q { nx:=fun _=>Q (.v .non),rt:=Q } (a0m ["_law_bands_here", "_law_row_here", "_law_path", "_law_tiles", "_law_p"] ds):=by
 rintro ds Q ⟨ks,row,e,rfl,hn,w,rl,h⟩
 push_cast [List.length_map]
 refine ⟨by ac_rfl,?_⟩
 intro a
 rw [show ((ks.length:Nat):Int).toNat=ks.length by ac_rfl,a8T ks.length]
 refine floor_0 hn row [] (ids ks.length) e [] _ (.nil _) w Al.nil (by simp; ac_rfl) fun path ts s al=>?_
 ac_nf
 rw [List.nil_append] at al
 have tl:ts.length=row.length:=by rw [al.1,Fl.a3l]
 rw [show flD ts=(ts.map fun t=>([t.1,t.2.1],[Dv.tup (nsD t.2.2)])).map tI by rw [List.map_map]; rfl]
 refine a7y (k:=1) (by simp; ac_rfl) (fun t ht=>?_) ?_ fun ts' hp hs=>?_
 ·obtain ⟨u,_,rfl⟩:=List.mem_map.mp ht
  rfl
 ·rw [List.pairwise_map]
  exact (al.keys w).imp fun {t u} z q=>z (by simpa using q)
 ·obtain ⟨fl,hf,rfl⟩:=a7s hp rfl
  rw [List.map_map]
  rw [List.pairwise_map] at hs
  ac_nf
  exact h fl ⟨ts,hf,al⟩ hs
def a5J:Fn:=fun ds Q=>∃ (l:List Int) (k:Int),ds=[.lst (nsD l),.int k]/\l.length<=100/\Q (.v (.int ((l.filter fun b=>decide (b=k)).length)))
theorem len_lmany:∀ ds Q,a5J ds Q->ds.length=2:=by rintro ds Q ⟨_,_,rfl,_⟩; rfl
theorem mo_lmany:MonoF a5J:=⟨fun ds Q Q' w z=>by obtain ⟨a,b,c,d,h⟩:=z; exact ⟨a,b,c,d,w _ h⟩⟩
theorem filt_c {k:Int} {Q:R->Prop}:∀ (l acc:List Int),acc.length + l.length<=100->Q (.nw (.lst (nsD (acc ++ l.filter fun b=>decide (b=k))))) ->
  a1T [.un,.v (.int k)] (gN 0) (a0y (eOp pEq (a0d 0) (a0d 1))) (a0d 0) (nsD l) (nsD acc) Q:=by
 intro l
 induction l with
 | nil=>
  intro acc _ h
  ac_nf
  simpa using h
 | cons b l ih=>
  intro acc hl h
  simp only [List.length_cons] at hl
  push_cast [List.length_map]
  by_cases e:b=k
  ·rw [if_pos e]
   refine ⟨by ac_rfl,?_⟩
   rw [show nsD acc ++ [Dv.int b]=nsD (acc ++ [b]) by simp]
   refine ih _ (by simp; ac_rfl) ?_
   rw [List.filter_cons_of_pos (by simpa using e)] at h
   simpa using h
  ·rw [if_neg e]
   refine ih _ (by ac_rfl) ?_
   rw [List.filter_cons_of_neg (by simpa using e)] at h
   exact h
theorem p_law_many:∀ ds Q,a5J ds Q->a6c { nx:=fun _=>Q (.v .non),rt:=Q } (a0m ["_law_bands_here", "_law_kind"] ds):=by
 rintro ds Q ⟨l,k,rfl,hl,h⟩
 ac_nf
 refine filt_c l [] (by simp; ac_rfl) ?_
 push_cast [List.length_map]
 exact h
theorem a8E:∀ (j:Nat) (cs:List Nat) (i:Nat),((a0p j cs).filter fun b=>decide (b=((j + i:Nat):Int))).length=cs.getD i 0
 | _,[],i=>by simp [a0p]
 | j,c :: cs,0=>by
  have key:∀ (k:Nat) (cs:List Nat),j < k->(a0p k cs).filter (fun b=>decide (b=((j + 0:Nat):Int)))=[]:=by
   intro k cs hk
   apply List.filter_eq_nil_iff.mpr
   intro x hx
   have:=(a6z k cs).2 x hx
   simp; ac_rfl
  rw [a0p,List.filter_append,key (j + 1) cs (by ac_rfl),List.append_nil,List.filter_eq_self.mpr (fun x hx=>by rw [List.eq_of_mem_replicate hx]; simp)]
  simp
 | j,c :: cs,i + 1=>by
  have e:=a8E (j + 1) cs i
  rw [a0p,List.filter_append,List.length_append]
  have z:(List.replicate c (j:Int)).filter (fun b=>decide (b=((j + (i + 1):Nat):Int)))=[]:=by
   apply List.filter_eq_nil_iff.mpr
   intro x hx
   rw [List.eq_of_mem_replicate hx]
   simp; ac_rfl
  rw [z,show j + (i + 1)=j + 1 + i by ac_rfl,e]
  simp
theorem bands_last {cs:List Nat} (C:Cnt cs):atI (nsD (a0p 0 cs)) (-1)=some (.int ((cs.length:Int) - 1)):=by
 have hne:cs ≠ []:=by intro z; have:=C.lo; rw [z] at this; simp at this
 have e:cs=cs.dropLast ++ [cs.getLast hne]:=(List.dropLast_concat_getLast hne).symm
 have h1:=C.ok _ (List.getLast_mem hne)
 have lo:=C.lo
 generalize cs.getLast hne=c at *
 generalize cs.dropLast=ds at *
 subst e
 obtain ⟨c,rfl⟩:∃ k,c=k + 1:=⟨c - 1,by ac_rfl⟩
 rw [a6y,Nat.zero_add]
 unfold atI ixN
 rw [if_neg (by decide),if_pos (by simp; ac_rfl)]
 simp only [List.length_map,List.length_append,List.length_replicate,Option.bind_some]
 rw [show (-1 + (((a0p 0 ds).length + (c + 1):Nat):Int)).toNat=(a0p 0 ds).length + c by ac_rfl]
 simp
noncomputable def rowOf (k:Nat) (c:Nat):Rw:=⟨6 - 2 * (k:Int),1,(c:Int)⟩
noncomputable def a0D:Nat->List Nat->List Rw
 | _,[]=>[]
 | k,c :: cs=>rowOf k c :: a0D (k + 1) cs
theorem a6V:∀ (k:Nat) (cs:List Nat),(a0D k cs).length=cs.length
 | _,[]=>rfl
 | k,c :: cs=>by rw [a0D,List.length_cons,List.length_cons,a6V]
theorem a8t:∀ (k:Nat) (cs:List Nat),a0K k (a0D k cs)=a0p k cs
 | _,[]=>rfl
 | k,c :: cs=>by
  rw [a0D,a0K,a0p,a8t (k + 1) cs]
  rfl
theorem a8S:∀ (k:Nat) (cs:List Nat) (r:Rw),r ∈ a0D k cs -> ∃ (j c:Nat),r=rowOf j c/\k<=j/\j < k + cs.length/\c ∈ cs
 | _,[],r,h=>by cases h
 | k,c :: cs,r,h=>by
  rcases List.mem_cons.mp h with rfl | h
  ·exact ⟨k,c,rfl,Nat.le_refl _,by simp,by simp⟩
  ·obtain ⟨j,d,e,h1,h2,h3⟩:=a8S (k + 1) cs r h
   exact ⟨j,d,e,by ac_rfl,by simp; ac_rfl,by simp [h3]⟩
theorem rows_srt:∀ (k:Nat) (cs:List Nat),Srt (a0D k cs)
 | _,[]=>List.Pairwise.nil
 | k,c :: cs=>by
  refine List.pairwise_cons.mpr ⟨fun r hr=>?_,rows_srt (k + 1) cs⟩
  obtain ⟨j,d,rfl,h1,_,_⟩:=a8S (k + 1) cs r hr
  show 0 < (6 - 2 * (k:Int)) * 1 - (6 - 2 * (j:Int)) * 1
  ac_rfl
theorem rows_many:∀ (k:Nat) (cs:List Nat),many (a0D k cs)=(cs.sum:Int)
 | _,[]=>rfl
 | k,c :: cs=>by
  have:=rows_many (k + 1) cs
  unfold many at this ⊢
  rw [a0D,List.map_cons,List.sum_cons,this,List.sum_cons]
  show (c:Int) + _=_
  ac_rfl
theorem rows_good {cs:List Nat} (C:Cnt cs):Good (a0D 0 cs):=by
 have lo:=C.lo
 have hi:=C.hi
 have tt:=C.tot
 refine ⟨by rw [a6V]; ac_rfl,by rw [a6V]; ac_rfl,rows_srt 0 cs,fun r hr=>?_,by rw [rows_many]; ac_rfl⟩
 obtain ⟨j,c,rfl,_,h2,h3⟩:=a8S 0 cs r hr
 have:=C.ok c h3
 refine ⟨.inl (by show (0:Int) < 1; decide),?_,?_,?_,?_⟩
 ·show -999999999999<=6 - 2 * (j:Int); ac_rfl
 ·show 6 - 2 * (j:Int)<=999999999999; ac_rfl
 ·show (1:Int)<=999999999999; decide
 ·show (1:Int)<=(c:Int); ac_rfl
def a1y (C:Addr):Fn:=fun ds Q=>∃ cs:List Nat,ds=[.lst (nsD (a0p 0 cs))]/\Cnt cs/\Q (.nw (a0V C (a0D 0 cs)))
theorem len_lsides {C:Addr}:∀ ds Q,a1y C ds Q->ds.length=1:=by rintro ds Q ⟨_,rfl,_⟩; rfl
theorem mo_lsides {C:Addr}:MonoF (a1y C):=⟨fun ds Q Q' w z=>by obtain ⟨a,b,c,h⟩:=z; exact ⟨a,b,c,w _ h⟩⟩
theorem rows_snoc:∀ (k:Nat) (cs:List Nat) (c:Nat),a0D k (cs ++ [c])=a0D k cs ++ [rowOf (k + cs.length) c]
 | _,[],_=>by simp [a0D]
 | k,a :: cs,c=>by
  rw [List.cons_append,a0D,a0D,rows_snoc (k + 1) cs c,List.cons_append,List.length_cons,show k + 1 + cs.length=k + (cs.length + 1) by ac_rfl]
theorem sides_c {cs:List Nat} {Q:R->Prop} (C:Cnt cs):∀ (m k:Nat),k + m=cs.length->Q (.nw (.lst (rwD (a0D 0 cs)))) ->
  a1T [.un,.v (.lst (nsD (a0p 0 cs)))] (gN 0) a7Y (a2f (a0a (eOp a8b (eC (.int 6)) (eOp a4O (eC (.int 2)) (a0d 0))) (a0a (eC (.int 1)) (a0a (a0t a5J (a0a (a0d 1) (a0a (a0d 0) a0i))) a0i)))) (a0W k m) (rwD (a0D 0 (cs.take k))) Q:=by
 intro m
 have hi:=C.hi
 have bl:=(cnt_len C).2
 induction m with
 | zero=>
  intro k hk h
  rw [a1K,a2L,List.take_of_length_le (by ac_rfl)]
  exact h
 | succ m ih=>
  intro k hk h
  have hlt:k < cs.length:=by ac_rfl
  have rl:=a6V 0 (cs.take k)
  rw [List.length_take] at rl
  push_cast [a1i]
  refine ⟨sm_d (by ac_rfl) (by ac_rfl),a0p 0 cs,k,rfl,by ac_rfl,?_⟩
  have fb:=a8E 0 cs k
  rw [Nat.zero_add] at fb
  push_cast [fb,List.length_map]
  refine ⟨by ac_rfl,?_⟩
  have:=ih (k + 1) (by ac_rfl) h
  rw [List.take_add_one,List.getElem?_eq_getElem hlt] at this
  simp only [Option.toList_some] at this
  rw [rows_snoc,Nat.zero_add,List.length_take,Nat.min_eq_left (by ac_rfl),show (((k + 1:Nat)):Int)=(k:Int) + 1 by ac_rfl] at this
  unfold rwD at this ⊢
  rw [List.map_append] at this
  have ec:cs.getD k 0=cs[k]:=by simp [List.getD,hlt]
  rw [ec]
  exact this
theorem p_law_sides {C:Addr}:∀ ds Q,a1y C ds Q->a5k a5J (a6U C) { nx:=fun _=>Q (.v .non),rt:=Q } (a0m ["_law_bands_here"] ds):=by
 rintro ds Q ⟨cs,rfl,C',h⟩
 have hi:=C'.hi
 have lo:=C'.lo
 push_cast [bands_last C']
 refine ⟨by ac_rfl,?_⟩
 rw [show ((cs.length:Int) - 1 + 1).toNat=cs.length by ac_rfl]
 refine sides_c C' cs.length 0 (by ac_rfl) ?_
 refine ⟨a0D 0 cs,rfl,rows_good C',?_⟩
 ac_nf
 exact h
theorem a6o (cs:List Nat):a0l (a0D 0 cs)=a0p 0 cs:=a8t 0 cs
end Lw
namespace Lw
open PySem PySem.Spec PyProof.Rows L2 Z
open Sf (Rw crs Srt Pre Good a0l a0K place many)
open Fl (kd ids Walk a5Z tls pc a0n Pt srt a1C Hex)
theorem eqv_map {α:Type} (f:α->Dv) (hf:∀ a b,eqD (f a) (f b)=true ↔ a=b):∀ l m:List α,PyData.eqvAll (pyDs (l.map f)) (pyDs (m.map f))=true ↔ l=m
 | [],[]=>by simp [pyD.pyDs,PyData.eqvAll]
 | [],_ :: _=>by simp [pyD.pyDs,PyData.eqvAll]
 | _ :: _,[]=>by simp [pyD.pyDs,PyData.eqvAll]
 | a :: l,b :: m=>by
  show PyData.eqvAll (pyD (f a) :: pyDs (l.map f)) (pyD (f b) :: pyDs (m.map f))=true ↔ _
  have h:=hf a b
  unfold eqD at h
  rw [PyData.eqvAll,Bool.and_eq_true,eqv_map f hf l m,h,List.cons.injEq]
theorem eqD_lstm {α:Type} (f:α->Dv) (hf:∀ a b,eqD (f a) (f b)=true ↔ a=b) (l m:List α):eqD (.lst (l.map f)) (.lst (m.map f))=true ↔ l=m:=by
 unfold eqD
 show PyData.eqv (.list (pyDs _)) (.list (pyDs _))=true ↔ _
 rw [PyData.eqv]
 exact eqv_map f hf l m
theorem eqD_tupm {α:Type} (f:α->Dv) (hf:∀ a b,eqD (f a) (f b)=true ↔ a=b) (l m:List α):eqD (.tup (l.map f)) (.tup (m.map f))=true ↔ l=m:=by
 unfold eqD
 show PyData.eqv (.tuple (pyDs _)) (.tuple (pyDs _))=true ↔ _
 rw [PyData.eqv]
 exact eqv_map f hf l m
theorem eqD_i (a b:Int):eqD (.int a) (.int b)=true ↔ a=b:=by rw [Z.eqD_int,decide_eq_true_eq]
theorem a6t (l m:List Int):eqD (.tup (nsD l)) (.tup (nsD m))=decide (l=m):=by
 rw [Bool.eq_iff_iff,decide_eq_true_eq]
 exact eqD_tupm _ eqD_i l m
theorem eqD_ti (t u:Ti):eqD (tiD t) (tiD u)=true ↔ t=u:=by
 have h1:=eqD_i t.1 u.1
 have h2:=eqD_i t.2.1 u.2.1
 have h3:=eqD_tupm Dv.int eqD_i t.2.2 u.2.2
 unfold eqD at h1 h2 h3 ⊢
 show PyData.eqv (.tuple [pyD (.int t.1),pyD (.int t.2.1),pyD (.tup (nsD t.2.2))]) (.tuple [pyD (.int u.1),pyD (.int u.2.1),pyD (.tup (nsD u.2.2))])=true ↔ _
 rw [PyData.eqv,PyData.eqvAll,PyData.eqvAll,PyData.eqvAll,PyData.eqvAll,Bool.and_eq_true,Bool.and_eq_true,Bool.and_eq_true,h1,h2,h3]
 obtain ⟨a,b,c⟩:=t
 obtain ⟨x,y,z⟩:=u
 simp
theorem a7M (l m:List Ti):eqD (.lst (flD l)) (.lst (flD m))=decide (l=m):=by
 rw [Bool.eq_iff_iff,decide_eq_true_eq]
 exact eqD_lstm _ eqD_ti l m
theorem eqD_thm (l m:List (Int × Int × Int)):eqD (.lst (thD l)) (.lst (thD m))=decide (l=m):=by
 rw [Bool.eq_iff_iff,decide_eq_true_eq]
 refine eqD_lstm _ (fun t u=>?_) l m
 rw [show Dv.tup [Dv.int t.1,Dv.int t.2.1,Dv.int t.2.2]=.tup (nsD [t.1,t.2.1,t.2.2]) from rfl,show Dv.tup [Dv.int u.1,Dv.int u.2.1,Dv.int u.2.2]=.tup (nsD [u.1,u.2.1,u.2.2]) from rfl,a6t,decide_eq_true_eq]
 obtain ⟨a,b,c⟩:=t
 obtain ⟨x,y,z⟩:=u
 simp
theorem a6j (n:Nat):∀ l:List Dv,(∀ d ∈ l,okD n d=true)->okDs n l=true
 | [],_=>rfl
 | d :: r,h=>by
  show (okD n d && okDs n r)=true
  rw [h d (by simp),a6j n r fun x hx=>h x (by simp [hx])]
  rfl
theorem ok_th (l:List (Int × Int × Int)):okD 8 (.lst (thD l))=true:=a6j 7 _ fun d hd=>by
 obtain ⟨t,_,rfl⟩:=List.mem_map.mp hd
 exact a8c 6 [t.1,t.2.1,t.2.2]
theorem ok_fl (l:List Ti):okD 8 (.lst (flD l))=true:=a6j 7 _ fun d hd=>by
 obtain ⟨t,_,rfl⟩:=List.mem_map.mp hd
 refine a6j 6 _ fun d hd=>?_
 simp only [List.mem_cons,List.not_mem_nil,or_false] at hd
 rcases hd with rfl | rfl | rfl
 ·rfl
 ·rfl
 ·exact a8c 5 _
theorem ok_nst (l:List Int):okD 8 (.tup (nsD l))=true:=a8c 7 l
theorem snocD (l:List Int) (b:Int):nsD l ++ [Dv.int b]=nsD (l ++ [b]):=by simp
def sp_wb:Fn:=fun ds Q=>∃ (l:List Int) (b:Int),ds=[.tup (nsD l),.int b]/\l.length<=30/\Q (.v (.tup (nsD (srt (l ++ [b])))))
theorem len_wb:∀ ds Q,sp_wb ds Q->ds.length=2:=by rintro ds Q ⟨_,_,rfl,_⟩; rfl
theorem mo_wb:MonoF sp_wb:=⟨fun ds Q Q' w z=>by obtain ⟨a,b,c,d,h⟩:=z; exact ⟨a,b,c,d,w _ h⟩⟩
theorem p_with_band:∀ ds Q,sp_wb ds Q->a5g { nx:=fun _=>Q (.v .non),rt:=Q } (a0m ["below", "band"] ds):=by
 rintro ds Q ⟨l,b,rfl,hl,h⟩
 push_cast [pCatU_tt,List.length_map]
 refine ⟨by ac_rfl,?_⟩
 rw [snocD]
 refine a8u (by simp; ac_rfl) fun ms hm hs=>?_
 obtain rfl:=a1C hm hs
 ac_nf
 exact h
noncomputable def upT (a b c:Int) (l:List Int):List Ti:=[(a,b,l),(a,c,srt (l ++ [b])),(b,c,l)]
noncomputable def dnT (a b c:Int) (l:List Int):List Ti:=[(a,b,srt (l ++ [c])),(a,c,l),(b,c,srt (l ++ [a]))]
def sp_su:Fn:=fun ds Q=>∃ (a b c:Int) (l:List Int),ds=[.int a,.int b,.int c,.tup (nsD l)]/\l.length<=30/\Q (.nw (.lst (flD (upT a b c l))))
theorem len_su:∀ ds Q,sp_su ds Q->ds.length=4:=by rintro ds Q ⟨_,_,_,_,rfl,_⟩; rfl
theorem mo_su:MonoF sp_su:=⟨fun ds Q Q' w z=>by obtain ⟨a,b,c,d,e,f,h⟩:=z; exact ⟨a,b,c,d,e,f,w _ h⟩⟩
theorem a9c:∀ ds Q,sp_su ds Q->a3V sp_wb { nx:=fun _=>Q (.v .non),rt:=Q } (a0m ["a", "b", "c", "some"] ds):=by
 rintro ds Q ⟨a,b,c,l,rfl,hl,h⟩
 ac_nf
 refine ⟨l,b,rfl,hl,?_⟩
 ac_nf
 exact h
def sp_sd:Fn:=fun ds Q=>∃ (a b c:Int) (l:List Int),ds=[.int a,.int b,.int c,.tup (nsD l)]/\l.length<=30/\Q (.nw (.lst (flD (dnT a b c l))))
theorem len_sd:∀ ds Q,sp_sd ds Q->ds.length=4:=by rintro ds Q ⟨_,_,_,_,rfl,_⟩; rfl
theorem mo_sd:MonoF sp_sd:=⟨fun ds Q Q' w z=>by obtain ⟨a,b,c,d,e,f,h⟩:=z; exact ⟨a,b,c,d,e,f,w _ h⟩⟩
theorem a7w:∀ ds Q,sp_sd ds Q->a3n sp_wb { nx:=fun _=>Q (.v .non),rt:=Q } (a0m ["a", "b", "c", "some"] ds):=by
 rintro ds Q ⟨a,b,c,l,rfl,hl,h⟩
 ac_nf
 refine ⟨l,c,rfl,hl,?_⟩
 ac_nf
 refine ⟨l,a,rfl,hl,?_⟩
 ac_nf
 exact h
def Has (fl:List Ti) (a c:Int):Prop:=∃ u,(fl.find? fun t=>decide (t.1=a/\t.2.1=c))=some u/\u.2.2=mOf fl a c/\u.2.2.length<=30
def a7d (fl:List Ti) (t:Int × Int × Int):Prop:=Hex (mOf fl t.1 t.2.1) (mOf fl t.1 t.2.2) (mOf fl t.2.1 t.2.2) t.1 t.2.1 t.2.2
noncomputable instance (fl:List Ti) (t:Int × Int × Int):Decidable (a7d fl t):=by unfold a7d; exact inferInstance
def UpH (fl:List Ti) (t:Int × Int × Int):Prop:=mOf fl t.2.1 t.2.2=mOf fl t.1 t.2.1/\mOf fl t.1 t.2.2=srt (mOf fl t.1 t.2.1 ++ [t.2.1])
def DnH (fl:List Ti) (t:Int × Int × Int):Prop:=mOf fl t.1 t.2.1=srt (mOf fl t.1 t.2.2 ++ [t.2.2])/\mOf fl t.2.1 t.2.2=srt (mOf fl t.1 t.2.2 ++ [t.1])
noncomputable instance (fl:List Ti) (t:Int × Int × Int):Decidable (UpH fl t):=by unfold UpH; exact inferInstance
noncomputable def nwT (fl:List Ti) (t:Int × Int × Int):List Ti:=if UpH fl t then dnT t.1 t.2.1 t.2.2 (mOf fl t.1 t.2.1) else upT t.1 t.2.1 t.2.2 (mOf fl t.1 t.2.2)
def sp_tf:Fn:=fun ds Q=>∃ (fl:List Ti) (a b c:Int),ds=[.dit (dcD fl),.tup [.int a,.int b,.int c]]/\Has fl a b/\Has fl a c/\Has fl b c/\a7d fl (a,b,c)/\Q (.nw (.lst (flD (nwT fl (a,b,c)))))
theorem len_tf:∀ ds Q,sp_tf ds Q->ds.length=2:=by rintro ds Q ⟨_,_,_,_,rfl,_⟩; rfl
theorem mo_tf:MonoF sp_tf:=⟨fun ds Q Q' w z=>by obtain ⟨a,b,c,d,e,f,g,h,i,j⟩:=z; exact ⟨a,b,c,d,e,f,g,h,i,w _ j⟩⟩
theorem tf_1 {a b c:Int} {tl:TSp} {E:En} {x0 x2 x3 x4 x5:Sl} (h:tl E [x0,.v (.tup [.int a,.int b,.int c]),.v (.int a),.v (.int b),.v (.int c),x5]):
  a0z (a1l 2 (eOp pIx (a0d 1) (eC (.int 0)))) (a0z (a1l 3 (eOp pIx (a0d 1) (eC (.int 1)))) (a0z (a1l 4 (eOp pIx (a0d 1) (eC (.int 2)))) tl)) E [x0,.v (.tup [.int a,.int b,.int c]),x2,x3,x4,x5]:=by
 ac_nf
 exact h
theorem tf_2 {fl:List Ti} {a b c:Int} {u1 u2 u3:Ti} (h1:(fl.find? fun t=>decide (t.1=a/\t.2.1=b))=some u1) (h2:(fl.find? fun t=>decide (t.1=a/\t.2.1=c))=some u2) (h3:(fl.find? fun t=>decide (t.1=b/\t.2.1=c))=some u3)
  {tl:TSp} {E:En} {x1 x5:Sl} (h:tl E [.v (.dit (dcD fl)),x1,.v (.int a),.v (.int b),.v (.int c),.v (.lst (flD [(a,b,u1.2.2),(a,c,u2.2.2),(b,c,u3.2.2)]))]):
  a0z (a1l 5 (a5a (a0a (a2f (a0a (a0d 2) (a0a (a0d 3) (a0a (eOp pIx (a0d 0) (a2f (a0a (a0d 2) (a0a (a0d 3) a0i)))) a0i)))) (a0a (a2f (a0a (a0d 2) (a0a (a0d 4) (a0a (eOp pIx (a0d 0) (a2f (a0a (a0d 2) (a0a (a0d 4) a0i)))) a0i)))) (a0a (a2f (a0a (a0d 3) (a0a (a0d 4) (a0a (eOp pIx (a0d 0) (a2f (a0a (a0d 3) (a0a (a0d 4) a0i)))) a0i)))) a0i))))) tl E [.v (.dit (dcD fl)),x1,.v (.int a),.v (.int b),.v (.int c),x5]:=by
 push_cast [a6s,h1,h2,h3,Option.map_some]
 exact h
theorem tf_3 {fl:List Ti} {a b c:Int} {u1:Ti} {ts:List Ti} (h1:(fl.find? fun t=>decide (t.1=a/\t.2.1=b))=some u1) (l1:u1.2.2.length<=30) {tl:TSp} {E:En} {x1:Sl}
  (y:ts=upT a b c u1.2.2->E.rt (.nw (.lst (flD (dnT a b c u1.2.2))))) (n:ts ≠ upT a b c u1.2.2->tl E [.v (.dit (dcD fl)),x1,.v (.int a),.v (.int b),.v (.int c),.v (.lst (flD ts))]):
  a0z (sIf (a0y (eOp pEq (a0d 5) (a0t sp_su (a0a (a0d 2) (a0a (a0d 3) (a0a (a0d 4) (a0a (eOp pIx (a0d 0) (a2f (a0a (a0d 2) (a0a (a0d 3) a0i)))) a0i))))))) (a1W (a0t sp_sd (a0a (a0d 2) (a0a (a0d 3) (a0a (a0d 4) (a0a (eOp pIx (a0d 0) (a2f (a0a (a0d 2) (a0a (a0d 3) a0i)))) a0i)))))) a1e) tl E [.v (.dit (dcD fl)),x1,.v (.int a),.v (.int b),.v (.int c),.v (.lst (flD ts))]:=by
 push_cast [a6s,h1,Option.map_some]
 refine ⟨a,b,c,u1.2.2,rfl,l1,?_⟩
 push_cast [a7M,ok_fl,and_self,true_and,decide_eq_true_eq]
 by_cases q1:ts=upT a b c u1.2.2
 ·rw [if_pos q1]
  refine ⟨a,b,c,u1.2.2,rfl,l1,?_⟩
  ac_nf
  exact y q1
 ·rw [if_neg q1]
  exact n q1
theorem tf_4 {fl:List Ti} {a b c:Int} {u2:Ti} {ts:List Ti} (h2:(fl.find? fun t=>decide (t.1=a/\t.2.1=c))=some u2) (l2:u2.2.2.length<=30) {tl:TSp} {E:En} {x1:Sl}
  (y:ts=dnT a b c u2.2.2->E.rt (.nw (.lst (flD (upT a b c u2.2.2))))) (n:ts ≠ dnT a b c u2.2.2->tl E [.v (.dit (dcD fl)),x1,.v (.int a),.v (.int b),.v (.int c),.v (.lst (flD ts))]):
  a0z (sIf (a0y (eOp pEq (a0d 5) (a0t sp_sd (a0a (a0d 2) (a0a (a0d 3) (a0a (a0d 4) (a0a (eOp pIx (a0d 0) (a2f (a0a (a0d 2) (a0a (a0d 4) a0i)))) a0i))))))) (a1W (a0t sp_su (a0a (a0d 2) (a0a (a0d 3) (a0a (a0d 4) (a0a (eOp pIx (a0d 0) (a2f (a0a (a0d 2) (a0a (a0d 4) a0i)))) a0i)))))) a1e) tl E [.v (.dit (dcD fl)),x1,.v (.int a),.v (.int b),.v (.int c),.v (.lst (flD ts))]:=by
 push_cast [a6s,h2,Option.map_some]
 refine ⟨a,b,c,u2.2.2,rfl,l2,?_⟩
 push_cast [a7M,ok_fl,and_self,true_and,decide_eq_true_eq]
 by_cases q1:ts=dnT a b c u2.2.2
 ·rw [if_pos q1]
  refine ⟨a,b,c,u2.2.2,rfl,l2,?_⟩
  ac_nf
  exact y q1
 ·rw [if_neg q1]
  exact n q1
theorem a7v:∀ ds Q,sp_tf ds Q->a3m sp_su sp_sd { nx:=fun _=>Q (.v .non),rt:=Q } (a0m ["below", "three", "a", "b", "c", "tiles"] ds):=by
 rintro ds Q ⟨fl,a,b,c,rfl,⟨u1,h1,e1,l1⟩,⟨u2,h2,e2,l2⟩,⟨u3,h3,e3,l3⟩,hx,y⟩
 have hx':UpH fl (a,b,c) \/ DnH fl (a,b,c):=hx
 unfold nwT at y
 refine tf_1 (tf_2 h1 h2 h3 (tf_3 h1 l1 (fun q=>?_) fun q1=>tf_4 h2 l2 (fun q=>?_) fun q2=>?_))
 ·simp only [upT,List.cons.injEq,Prod.mk.injEq,true_and,and_true] at q
  rw [e1,e2,e3] at q
  rw [if_pos (show UpH fl (a,b,c) from ⟨q.2,q.1⟩)] at y
  rw [e1]
  exact y
 ·rw [if_neg (show ¬ UpH fl (a,b,c) from fun z=>q1 (by rw [e1,e2,e3]; have z1:=z.1; have z2:=z.2; simp only at z1 z2; rw [z1,z2]; rfl))] at y
  rw [e2]
  exact y
 ·exfalso
  rcases hx' with z | z
  ·exact q1 (by rw [e1,e2,e3]; have z1:=z.1; have z2:=z.2; simp only at z1 z2; rw [z1,z2]; rfl)
  ·exact q2 (by rw [e1,e2,e3]; have z1:=z.1; have z2:=z.2; simp only at z1 z2; rw [z1,z2]; rfl)
end Lw
namespace Lw
open PySem PySem.Spec PyProof.Rows L2 Z
open Sf (Rw crs Srt Pre Good a0l a0K place many)
open Fl (kd ids Walk a5Z tls pc a0n Pt srt a1C Hex)
noncomputable def aC (ks:List Int) (a b:Int):Nat->Nat->List (Int × Int × Int)
 | 0,_=>[]
 | i + 1,c=>(if kd ks a < kd ks b/\kd ks b < kd ks c then [(a,b,(c:Int))] else []) ++ aC ks a b i (c + 1)
noncomputable def aB (ks:List Int) (a:Int):Nat->Nat->List (Int × Int × Int)
 | 0,_=>[]
 | i + 1,b=>aC ks a b (ks.length - (b + 1)) (b + 1) ++ aB ks a i (b + 1)
noncomputable def aA (ks:List Int):Nat->Nat->List (Int × Int × Int)
 | 0,_=>[]
 | i + 1,a=>aB ks a (ks.length - (a + 1)) (a + 1) ++ aA ks i (a + 1)
theorem aC_eq {ks:List Int} (m:Mono ks) {a b:Int} (h0:0<=a) (hab:a < b) (hb:b < ks.length):∀ (i c:Nat),b < c->c + i<=ks.length->aC ks a b i c=if kd ks a=kd ks b then [] else inT ks a b i c
 | 0,c,_,_=>by simp [aC,inT]
 | i + 1,c,h1,h2=>by
  have m1:=m a b h0 (by ac_rfl) (by ac_rfl)
  have m2:=m b c (by ac_rfl) (by ac_rfl) (by ac_rfl)
  rw [aC,aC_eq m h0 hab hb i (c + 1) (by ac_rfl) (by ac_rfl)]
  by_cases e:kd ks a=kd ks b
  ·rw [if_pos e,if_pos e,if_neg (by ac_rfl)]
   rfl
  ·rw [if_neg e,if_neg e,inT]
   by_cases e2:kd ks (c:Int)=kd ks b
   ·rw [if_pos e2,if_neg (by ac_rfl)]
   ·rw [if_neg e2,if_pos (by ac_rfl)]
theorem aB_eq {ks:List Int} (m:Mono ks) {a:Nat}:∀ (i b:Nat),a < b->b + i=ks.length->aB ks a i b=a2l ks (inP ks a i b)
 | 0,b,_,_=>rfl
 | i + 1,b,h1,h2=>by
  rw [aB,aC_eq m (by ac_rfl) (by ac_rfl) (by ac_rfl) _ _ (by ac_rfl) (by ac_rfl),aB_eq m i (b + 1) (by ac_rfl) (by ac_rfl),inP]
  unfold a2l
  rw [List.flatMap_append]
  by_cases e:kd ks (a:Int)=kd ks (b:Int)
  ·rw [if_pos e,if_pos e]
   rfl
  ·rw [if_neg e,if_neg e]
   simp
theorem aA_eq {ks:List Int} (m:Mono ks):∀ (i a:Nat),a + i=ks.length->aA ks i a=a2l ks (outP ks i a)
 | 0,a,_=>rfl
 | i + 1,a,h=>by
  rw [aA,aB_eq m _ _ (by ac_rfl) (by ac_rfl),aA_eq m i (a + 1) (by ac_rfl),outP]
  unfold a2l
  rw [List.flatMap_append]
noncomputable def thI (ks:List Int):Nat->Nat->List (Int × Int × Int)
 | 0,_=>[]
 | i + 1,k=>(if k / (ks.length * ks.length) < k / ks.length % ks.length/\k / ks.length % ks.length < k % ks.length/\kd ks (k / (ks.length * ks.length):Nat) < kd ks (k / ks.length % ks.length:Nat)/\kd ks (k / ks.length % ks.length:Nat) < kd ks (k % ks.length:Nat) then [(((k / (ks.length * ks.length):Nat):Int),((k / ks.length % ks.length:Nat):Int),((k % ks.length:Nat):Int))] else []) ++ thI ks i (k + 1)
theorem thI_len (ks:List Int):∀ i k,(thI ks i k).length<=i
 | 0,_=>Nat.le_refl _
 | i + 1,k=>by rw [thI,List.length_append]; have:=thI_len ks i (k + 1); split <;> simp <;> ac_rfl
theorem a7e (ks:List Int):∀ i j k,thI ks (i + j) k=thI ks i k ++ thI ks j (k + i)
 | 0,j,k=>by rw [Nat.zero_add,Nat.add_zero]; rfl
 | i + 1,j,k=>by
  rw [show i + 1 + j=(i + j) + 1 by ac_rfl,thI,a7e ks i j (k + 1),thI,List.append_assoc,show k + 1 + i=k + (i + 1) by ac_rfl]
noncomputable def fC (ks:List Int) (a b:Nat):Nat->Nat->List (Int × Int × Int)
 | 0,_=>[]
 | i + 1,c=>(if a < b/\b < c/\kd ks (a:Nat) < kd ks (b:Nat)/\kd ks (b:Nat) < kd ks (c:Nat) then [((a:Int),(b:Int),(c:Int))] else []) ++ fC ks a b i (c + 1)
theorem digits {n a b c:Nat} (hb:b < n) (hc:c < n):((a * n + b) * n + c) / (n * n)=a/\((a * n + b) * n + c) / n % n=b/\((a * n + b) * n + c) % n=c:=by
 have hn:0 < n:=by ac_rfl
 have e1:((a * n + b) * n + c) / n=a * n + b:=by
  rw [Nat.add_comm,Nat.add_mul_div_right _ _ hn,Nat.div_eq_of_lt hc,Nat.zero_add]
 refine ⟨?_,?_,?_⟩
 ·rw [<- Nat.div_div_eq_div_mul,e1,Nat.add_comm,Nat.add_mul_div_right _ _ hn,Nat.div_eq_of_lt hb,Nat.zero_add]
 ·rw [e1,Nat.add_comm,Nat.add_mul_mod_self_right,Nat.mod_eq_of_lt hb]
 ·rw [Nat.add_comm,Nat.add_mul_mod_self_right,Nat.mod_eq_of_lt hc]
theorem thI_C {ks:List Int} {a b:Nat} (hb:b < ks.length):∀ (i c:Nat),c + i<=ks.length->thI ks i ((a * ks.length + b) * ks.length + c)=fC ks a b i c
 | 0,_,_=>rfl
 | i + 1,c,h=>by
  obtain ⟨d1,d2,d3⟩:=digits (a:=a) hb (show c < ks.length by ac_rfl)
  rw [thI,fC,d1,d2,d3,Nat.add_assoc,thI_C hb i (c + 1) (by ac_rfl)]
theorem fC_lo {ks:List Int} {a b:Nat}:∀ (i c:Nat),c + i<=b + 1->fC ks a b i c=[]
 | 0,_,_=>rfl
 | i + 1,c,h=>by
  rw [fC,if_neg (by ac_rfl),fC_lo i (c + 1) (by ac_rfl)]
  rfl
theorem fC_add (ks:List Int) (a b:Nat):∀ i j c,fC ks a b (i + j) c=fC ks a b i c ++ fC ks a b j (c + i)
 | 0,j,c=>by rw [Nat.zero_add,Nat.add_zero]; rfl
 | i + 1,j,c=>by
  rw [show i + 1 + j=(i + j) + 1 by ac_rfl,fC,fC_add ks a b i j (c + 1),fC,List.append_assoc,show c + 1 + i=c + (i + 1) by ac_rfl]
theorem fC_hi {ks:List Int} {a b:Nat} (hab:a < b):∀ (i c:Nat),b < c->fC ks a b i c=aC ks a b i c
 | 0,_,_=>rfl
 | i + 1,c,h=>by
  rw [fC,aC,fC_hi hab i (c + 1) (by ac_rfl)]
  congr 1
  by_cases e:kd ks (a:Nat) < kd ks (b:Nat)/\kd ks (b:Nat) < kd ks (c:Nat)
  ·rw [if_pos e,if_pos ⟨hab,h,e⟩]
  ·rw [if_neg e,if_neg fun z=>e z.2.2]
theorem fC_no {ks:List Int} {a b:Nat} (hab:¬ a < b):∀ (i c:Nat),fC ks a b i c=[]
 | 0,_=>rfl
 | i + 1,c=>by
  rw [fC,if_neg fun z=>hab z.1,fC_no hab i (c + 1)]
  rfl
theorem thI_one {ks:List Int} {a b:Nat} (hb:b < ks.length):thI ks ks.length ((a * ks.length + b) * ks.length)=if a < b then aC ks a b (ks.length - (b + 1)) (b + 1) else []:=by
 have h:=thI_C (ks:=ks) (a:=a) hb ks.length 0 (by ac_rfl)
 rw [Nat.add_zero] at h
 rw [h]
 by_cases hab:a < b
 ·rw [if_pos hab,show ks.length=(b + 1) + (ks.length - (b + 1)) by ac_rfl,fC_add,fC_lo _ _ (by ac_rfl),List.nil_append,Nat.zero_add,show b + 1 + (ks.length - (b + 1)) - (b + 1)=ks.length - (b + 1) by ac_rfl,fC_hi hab _ _ (by ac_rfl)]
 ·rw [if_neg hab,fC_no hab]
theorem thI_lo {ks:List Int} {a:Nat}:∀ (j b:Nat),b + j<=a + 1->b + j<=ks.length->thI ks (j * ks.length) ((a * ks.length + b) * ks.length)=[]
 | 0,b,_,_=>by rw [Nat.zero_mul]; rfl
 | j + 1,b,h,h2=>by
  rw [Nat.succ_mul,Nat.add_comm,a7e,thI_one (by ac_rfl),if_neg (by ac_rfl),List.nil_append,show (a * ks.length + b) * ks.length + ks.length=(a * ks.length + (b + 1)) * ks.length by rw [<- Nat.succ_mul]; rfl]
  exact thI_lo j (b + 1) (by ac_rfl) (by ac_rfl)
theorem thI_hi {ks:List Int} {a:Nat}:∀ (j b:Nat),a < b->b + j<=ks.length->thI ks (j * ks.length) ((a * ks.length + b) * ks.length)=aB ks a j b
 | 0,b,_,_=>by rw [Nat.zero_mul]; rfl
 | j + 1,b,h,h2=>by
  rw [Nat.succ_mul,Nat.add_comm,a7e,thI_one (by ac_rfl),if_pos h,show (a * ks.length + b) * ks.length + ks.length=(a * ks.length + (b + 1)) * ks.length by rw [<- Nat.succ_mul]; rfl,thI_hi j (b + 1) (by ac_rfl) (by ac_rfl)]
  rfl
theorem thI_two {ks:List Int} {a:Nat} (ha:a < ks.length):thI ks (ks.length * ks.length) (a * (ks.length * ks.length))=aB ks a (ks.length - (a + 1)) (a + 1):=by
 have l:=thI_lo (ks:=ks) (a:=a) (a + 1) 0 (by ac_rfl) (by ac_rfl)
 have h:=thI_hi (ks:=ks) (a:=a) (ks.length - (a + 1)) (a + 1) (by ac_rfl) (by ac_rfl)
 rw [show (a * ks.length + 0) * ks.length=a * (ks.length * ks.length) by rw [Nat.add_zero,Nat.mul_assoc]] at l
 have e:ks.length * ks.length=(a + 1) * ks.length + (ks.length - (a + 1)) * ks.length:=by
  rw [<- Nat.add_mul,show a + 1 + (ks.length - (a + 1))=ks.length by ac_rfl]
 rw [show thI ks (ks.length * ks.length) (a * (ks.length * ks.length))=thI ks ((a + 1) * ks.length + (ks.length - (a + 1)) * ks.length) (a * (ks.length * ks.length)) by rw [<- e],a7e,l,List.nil_append,<- h]
 congr 1
 rw [Nat.add_mul (a * ks.length),Nat.mul_assoc]
theorem thI_A {ks:List Int}:∀ (j a:Nat),a + j=ks.length->thI ks (j * (ks.length * ks.length)) (a * (ks.length * ks.length))=aA ks j a
 | 0,a,_=>by rw [Nat.zero_mul]; rfl
 | j + 1,a,h=>by
  rw [Nat.succ_mul,Nat.add_comm,a7e,thI_two (by ac_rfl),<- Nat.succ_mul,thI_A j (a + 1) (by ac_rfl)]
  rfl
theorem thI_all {ks:List Int} (m:Mono ks):thI ks (ks.length * ks.length * ks.length) 0=a0k ks:=by
 have h:=thI_A (ks:=ks) ks.length 0 (by ac_rfl)
 rw [Nat.zero_mul,<- Nat.mul_assoc] at h
 rw [h,aA_eq m _ _ (by ac_rfl)]
 rfl
def a4l:Fn:=fun ds Q=>∃ ks:List Int,ds=[.lst (nsD ks)]/\1<=ks.length/\ks.length<=12/\Mono ks/\Q (.nw (.lst (thD (a0k ks))))
theorem len_lt3:∀ ds Q,a4l ds Q->ds.length=1:=by rintro ds Q ⟨_,rfl,_⟩; rfl
theorem mo_lt3:MonoF a4l:=⟨fun ds Q Q' w z=>by obtain ⟨a,b,c,d,e,h⟩:=z; exact ⟨a,b,c,d,e,w _ h⟩⟩
theorem lt_1 {ks:List Int} {k:Nat} (h1:1<=ks.length) (hn:ks.length<=12) {tl:TSp} {E:En} {x1 x3 x4 x5:Sl}
  (h:tl E [.v (.lst (nsD ks)),x1,.v (.int k),.v (.int (k / (ks.length * ks.length):Nat)),.v (.int (k / ks.length % ks.length:Nat)),.v (.int (k % ks.length:Nat))]):
  a0z (a1l 3 (eOp pDiv (a0d 2) (eOp a4O (eCB a3q (a0a (a0d 0) a0i)) (eCB a3q (a0a (a0d 0) a0i))))) (a0z (a1l 4 (eOp a6a (eOp pDiv (a0d 2) (eCB a3q (a0a (a0d 0) a0i))) (eCB a3q (a0a (a0d 0) a0i)))) (a0z (a1l 5 (eOp a6a (a0d 2) (eCB a3q (a0a (a0d 0) a0i)))) tl)) E [.v (.lst (nsD ks)),x1,.v (.int k),x3,x4,x5]:=by
 have sq:ks.length * ks.length<=12 * 12:=Nat.mul_le_mul hn hn
 have sq1:1 * 1<=ks.length * ks.length:=Nat.mul_le_mul h1 h1
 have nn:(ks.length:Int) * (ks.length:Int)=((ks.length * ks.length:Nat):Int):=by norm_cast
 have ea:(k:Int) / ((ks.length * ks.length:Nat):Int)=((k / (ks.length * ks.length):Nat):Int):=by norm_cast
 have eb:(k:Int) / (ks.length:Int) % (ks.length:Int)=((k / ks.length % ks.length:Nat):Int):=by norm_cast
 have ec:(k:Int) % (ks.length:Int)=((k % ks.length:Nat):Int):=by norm_cast
 push_cast [List.length_map,nn,ea,eb,ec]
 exact ⟨sm_d (by ac_rfl) (by ac_rfl),⟨by ac_rfl,by ac_rfl⟩,⟨by ac_rfl,by ac_rfl⟩,by ac_rfl,by ac_rfl,h⟩
theorem lt_2 {ks:List Int} {a b c:Nat} (ha:a < ks.length) (hb:b < ks.length) (hc:c < ks.length) {l:Addr} {acc:List (Int × Int × Int)} (hl:acc.length<=10000) {E:En} {x2:Sl}
  (h:E.nx [.v (.lst (nsD ks)),.own l (.lst (thD (acc ++ (if a < b/\b < c/\kd ks (a:Nat) < kd ks (b:Nat)/\kd ks (b:Nat) < kd ks (c:Nat) then [((a:Int),(b:Int),(c:Int))] else [])))),x2,.v (.int a),.v (.int b),.v (.int c)]):
  sIf (eAnd (a0y (a6F pLt pLt (a0d 3) (a0d 4) (a0d 5))) (eAnd (a0y (eOp pLt (eOp pIx (a0d 0) (a0d 3)) (eOp pIx (a0d 0) (a0d 4)))) (a0y (eOp pLt (eOp pIx (a0d 0) (a0d 4)) (eOp pIx (a0d 0) (a0d 5)))))) (sApp 1 (a2f (a0a (a0d 3) (a0a (a0d 4) (a0a (a0d 5) a0i))))) a1e E [.v (.lst (nsD ks)),.own l (.lst (thD acc)),x2,.v (.int a),.v (.int b),.v (.int c)]:=by
 have no:¬ (a < b/\b < c/\kd ks (a:Nat) < kd ks (b:Nat)/\kd ks (b:Nat) < kd ks (c:Nat))->E.nx [.v (.lst (nsD ks)),.own l (.lst (thD acc)),x2,.v (.int a),.v (.int b),.v (.int c)]:=fun z=>by
  rw [if_neg z,List.append_nil] at h
  exact h
 have ka:kd ks (a:Nat)=ks.getD a 0:=by unfold kd; rw [Int.toNat_natCast]
 have kb:kd ks (b:Nat)=ks.getD b 0:=by unfold kd; rw [Int.toNat_natCast]
 have kc:kd ks (c:Nat)=ks.getD c 0:=by unfold kd; rw [Int.toNat_natCast]
 rw [ka,kb,kc] at no h
 push_cast [List.length_map,a2N ha,a2N hb,a2N hc]
 by_cases e1:a < b
 ·rw [if_pos (Int.ofNat_lt.mpr e1)]
  by_cases e2:b < c
  ·rw [if_pos (Int.ofNat_lt.mpr e2)]
   by_cases e3:ks.getD a 0 < ks.getD b 0
   ·rw [if_pos e3]
    by_cases e4:ks.getD b 0 < ks.getD c 0
    ·rw [if_pos e4]
     refine ⟨by ac_rfl,?_⟩
     rw [if_pos ⟨e1,e2,e3,e4⟩,show thD (acc ++ [((a:Int),(b:Int),(c:Int))])=thD acc ++ [Dv.tup [Dv.int a,Dv.int b,Dv.int c]] from List.map_append] at h
     exact h
    ·rw [if_neg e4]
     exact no fun z=>e4 z.2.2.2
   ·rw [if_neg e3]
    exact no fun z=>e3 z.2.2.1
  ·rw [if_neg fun z=>e2 (Int.ofNat_lt.mp z)]
   exact no fun z=>e2 z.2.1
 ·rw [if_neg fun z=>e1 (Int.ofNat_lt.mp z)]
  exact no fun z=>e1 z.1
theorem gN2t {d:Dv} {x0 x1 x2 x3 x4 x5:Sl} {Q:List Sl->Prop} (h:Q [x0,x1,.v d,x3,x4,x5]):gN 2 d [x0,x1,x2,x3,x4,x5] Q:=by
 ac_nf
 exact h
theorem lt3_0 {ks:List Int} {l:Addr} {E:En} (h1:1<=ks.length) (hn:ks.length<=12):∀ (i k:Nat) (acc:List (Int × Int × Int)) (s t u v:Sl),k + i=ks.length * ks.length * ks.length->acc.length + i<=10000 ->
  (∀ s t u v,E.nx [.v (.lst (nsD ks)),.own l (.lst (thD (acc ++ thI ks i k))),s,t,u,v]) ->
  a1c (gN 2) a5d [] (a0W k i) E [.v (.lst (nsD ks)),.own l (.lst (thD acc)),s,t,u,v]:=by
 intro i
 induction i with
 | zero=>
  intro k acc s t u v _ _ h
  rw [a1K,a0Q]
  exact ⟨fun p hp=>by simp at hp,by simpa [thI] using h s t u v⟩
 | succ i ih=>
  intro k acc s t u v hk hl h
  have sq1:1 * 1<=ks.length * ks.length:=Nat.mul_le_mul h1 h1
  have ha:k / (ks.length * ks.length) < ks.length:=by rw [Nat.div_lt_iff_lt_mul (by ac_rfl),<- Nat.mul_assoc]; ac_rfl
  rw [a1i,a0T]
  refine ⟨fun p hp=>by simp at hp,?_⟩
  rw [show ((k:Int) + 1)=((k + 1:Nat):Int) by ac_rfl]
  refine gN2t (lt_1 h1 hn (lt_2 ha (Nat.mod_lt _ (by ac_rfl)) (Nat.mod_lt _ (by ac_rfl)) (by ac_rfl) ?_))
  refine ih (k + 1) _ _ _ _ _ (by ac_rfl) (by rw [List.length_append]; split <;> simp <;> ac_rfl) fun s t u v=>?_
  have:=h s t u v
  rw [thI,<- List.append_assoc] at this
  exact this
theorem p_law_threes:∀ ds Q,a4l ds Q->a4q { nx:=fun _=>Q (.v .non),rt:=Q } (a0m ["_law_bands_here", "_law_found", "_law_k", "_law_a", "_law_b", "_law_c"] ds):=by
 rintro ds Q ⟨ks,rfl,h1,hn,m,h⟩
 have sq:ks.length * ks.length<=12 * 12:=Nat.mul_le_mul hn hn
 have cb:ks.length * ks.length * ks.length<=144 * 12:=Nat.mul_le_mul sq hn
 have nn:(ks.length:Int) * (ks.length:Int)=((ks.length * ks.length:Nat):Int):=by norm_cast
 have nnn:((ks.length * ks.length:Nat):Int) * (ks.length:Int)=((ks.length * ks.length * ks.length:Nat):Int):=by norm_cast
 push_cast [List.length_map,nn,nnn]
 intro l
 refine ⟨sm_d (by ac_rfl) (by ac_rfl),sm_d (by ac_rfl) (by ac_rfl),by ac_rfl,?_⟩
 rw [Int.toNat_natCast]
 refine lt3_0 h1 hn _ 0 [] _ _ _ _ (by ac_rfl) (by simp; ac_rfl) fun s t u v=>?_
 ac_nf
 rw [thI_all m]
 exact h
theorem p_law_belows:∀ ds Q,a1g ds Q->a4r { nx:=fun _=>Q (.v .non),rt:=Q } (a0m ["_law_tiles", "_law_belows_here", "_law_a", "_law_b", "_law_below"] ds):=p_belows
theorem hx_1 {l:List Int} {b:Int} {Q:R->Prop} (hl:l.length<=30) (q:Q (.nw (.lst (nsD (srt (l ++ [b])))))):a1z [.lst (nsD l ++ [Dv.int b])] Q:=by
 rw [snocD]
 refine a7z (by simp; ac_rfl) fun ms hm hs=>?_
 obtain rfl:=a1C hm hs
 exact q
theorem hx_0 {fl:List Ti} {a b c:Int} {u1 u2 u3:Ti} (h1:(fl.find? fun t=>decide (t.1=a/\t.2.1=b))=some u1) (h2:(fl.find? fun t=>decide (t.1=a/\t.2.1=c))=some u2) (h3:(fl.find? fun t=>decide (t.1=b/\t.2.1=c))=some u3)
  {tl:TSp} {E:En} {x2 x3 x4 x5 x6 x7:Sl} (h:∀ x0 x1,tl E [x0,x1,.v (.int a),.v (.int b),.v (.int c),.v (.tup (nsD u1.2.2)),.v (.tup (nsD u2.2.2)),.v (.tup (nsD u3.2.2))]):
  a0z (sAsg (a0d 1) (gT [2,3,4])) (a0z (a1l 5 (eOp pIx (a0d 0) (a2f (a0a (a0d 2) (a0a (a0d 3) a0i))))) (a0z (a1l 6 (eOp pIx (a0d 0) (a2f (a0a (a0d 2) (a0a (a0d 4) a0i))))) (a0z (a1l 7 (eOp pIx (a0d 0) (a2f (a0a (a0d 3) (a0a (a0d 4) a0i))))) tl))) E [.v (.dit (dcD fl)),.v (.tup [.int a,.int b,.int c]),x2,x3,x4,x5,x6,x7]:=by
 push_cast [a6s,h1,h2,h3,Option.map_some]
 exact h _ _
theorem hx_2 {s1 s2 s3:List Int} {b:Int} (l1:s1.length<=30) {tl:TSp} {E:En} {x0 x1 x2 x4:Sl} (y:s3=s1/\s2=srt (s1 ++ [b])->E.rt (.nw (.lst [.tup (nsD s1),.bl true])))
  (n:¬ (s3=s1/\s2=srt (s1 ++ [b]))->tl E [x0,x1,x2,.v (.int b),x4,.v (.tup (nsD s1)),.v (.tup (nsD s2)),.v (.tup (nsD s3))]):
  a0z (sIf (eAnd (a0y (eOp pEq (a0d 5) (a0d 7))) (a0y (eOp pEq (a0d 6) (eCB a2A (a0a (eCB a1z (a0a (eOp a2Y (eCB a5P (a0a (a0d 5) a0i)) (a5a (a0a (a0d 3) a0i))) a0i)) a0i))))) (a1W (a5a (a0a (a0d 5) (a0a (eC (.bl true)) a0i)))) a1e) tl E [x0,x1,x2,.v (.int b),x4,.v (.tup (nsD s1)),.v (.tup (nsD s2)),.v (.tup (nsD s3))]:=by
 push_cast [a6t,ok_nst,and_self,true_and,decide_eq_true_eq,List.length_map]
 by_cases q1:s1=s3
 ·rw [if_pos q1]
  refine ⟨by ac_rfl,hx_1 l1 ?_⟩
  push_cast [a6t,ok_nst,true_and,decide_eq_true_eq]
  by_cases q2:s2=srt (s1 ++ [b])
  ·rw [if_pos q2]
   exact y ⟨q1.symm,q2⟩
  ·rw [if_neg q2]
   exact n fun z=>q2 z.2
 ·rw [if_neg q1]
  exact n fun z=>q1 z.1.symm
theorem hx_3 {s1 s2 s3:List Int} {a c:Int} (l2:s2.length<=30) {tl:TSp} {E:En} {x0 x1 x3:Sl} (y:s1=srt (s2 ++ [c])/\s3=srt (s2 ++ [a])->E.rt (.nw (.lst [.tup (nsD s2),.bl false])))
  (n:¬ (s1=srt (s2 ++ [c])/\s3=srt (s2 ++ [a]))->tl E [x0,x1,.v (.int a),x3,.v (.int c),.v (.tup (nsD s1)),.v (.tup (nsD s2)),.v (.tup (nsD s3))]):
  a0z (sIf (eAnd (a0y (eOp pEq (a0d 5) (eCB a2A (a0a (eCB a1z (a0a (eOp a2Y (eCB a5P (a0a (a0d 6) a0i)) (a5a (a0a (a0d 4) a0i))) a0i)) a0i)))) (a0y (eOp pEq (a0d 7) (eCB a2A (a0a (eCB a1z (a0a (eOp a2Y (eCB a5P (a0a (a0d 6) a0i)) (a5a (a0a (a0d 2) a0i))) a0i)) a0i))))) (a1W (a5a (a0a (a0d 6) (a0a (eC (.bl false)) a0i)))) a1e) tl E [x0,x1,.v (.int a),x3,.v (.int c),.v (.tup (nsD s1)),.v (.tup (nsD s2)),.v (.tup (nsD s3))]:=by
 push_cast [ok_nst,true_and,List.length_map]
 refine ⟨by ac_rfl,hx_1 l2 ?_⟩
 push_cast [a6t,ok_nst,true_and,decide_eq_true_eq]
 by_cases q1:s1=srt (s2 ++ [c])
 ·rw [if_pos q1]
  refine ⟨by ac_rfl,hx_1 l2 ?_⟩
  push_cast [a6t,ok_nst,true_and,decide_eq_true_eq]
  by_cases q2:s3=srt (s2 ++ [a])
  ·rw [if_pos q2]
   exact y ⟨q1,q2⟩
  ·rw [if_neg q2]
   exact n fun z=>q2 z.2
 ·rw [if_neg q1]
  exact n fun z=>q1 z.1
noncomputable def hxD (fl:List Ti) (t:Int × Int × Int):Dv:=.lst [.tup (nsD (if UpH fl t then mOf fl t.1 t.2.1 else mOf fl t.1 t.2.2)),.bl (decide (UpH fl t))]
def a5p:Fn:=fun ds Q=>∃ (fl:List Ti) (a b c:Int),ds=[.dit (dcD fl),.tup [.int a,.int b,.int c]]/\Has fl a b/\Has fl a c/\Has fl b c/\(a7d fl (a,b,c)->Q (.nw (hxD fl (a,b,c))))/\(¬ a7d fl (a,b,c)->Q (.v .non))
theorem len_hx:∀ ds Q,a5p ds Q->ds.length=2:=by rintro ds Q ⟨_,_,_,_,rfl,_⟩; rfl
theorem mo_hx:MonoF a5p:=⟨fun ds Q Q' w z=>by obtain ⟨a,b,c,d,e,f,g,h,i,j⟩:=z; exact ⟨a,b,c,d,e,f,g,h,fun x=>w _ (i x),fun x=>w _ (j x)⟩⟩
theorem p_law_hexagon:∀ ds Q,a5p ds Q->a3X { nx:=fun _=>Q (.v .non),rt:=Q } (a0m ["_law_belows_here", "_law_three", "_law_a", "_law_b", "_law_c", "_law_low_one", "_law_low_two", "_law_low_last"] ds):=by
 rintro ds Q ⟨fl,a,b,c,rfl,⟨u1,h1,e1,l1⟩,⟨u2,h2,e2,l2⟩,⟨u3,h3,e3,l3⟩,y,n⟩
 unfold hxD at y
 refine hx_0 h1 h2 h3 fun x0 x1=>hx_2 l1 (fun q=>?_) fun q1=>hx_3 l2 (fun q=>?_) fun q2=>?_
 ·rw [e1,e2,e3] at q
  have z:UpH fl (a,b,c):=q
  rw [if_pos z,decide_eq_true z] at y
  rw [e1]
  exact y (.inl q)
 ·rw [e1,e2,e3] at q1 q
  have z:¬ UpH fl (a,b,c):=q1
  rw [if_neg z,decide_eq_false z] at y
  rw [e2]
  exact y (.inr q)
 ·rw [e1,e2,e3] at q1 q2
  ac_nf
  exact n fun z=>z.elim q1 q2
end Lw
namespace Lw
open PySem PySem.Spec PyProof.Rows L2 Z
open Sf (Rw crs Srt Pre Good a0l a0K place many)
open Fl (kd ids Walk a5Z tls pc a0n Pt srt a1C Hex tS)
theorem in_ns (i:Int):∀ l:List Int,inD (.int i) (nsD l)=decide (i ∈ l)
 | []=>rfl
 | j :: l=>by
  have ih:=in_ns i l
  unfold inD at ih ⊢
  rw [show nsD (j :: l)=.int j :: nsD l from rfl,List.any_cons,ih]
  by_cases e:i=j
  ·subst e
   simp [eqD,pyD,PyData.eqv]
  ·have:eqD (.int i) (.int j)=false:=by simp [eqD,pyD,PyData.eqv,e]
   have:eqD (.int j) (.int i)=false:=by simp [eqD,pyD,PyData.eqv,Ne.symm e]
   simp [*]
theorem in_th (t:Int × Int × Int):∀ l:List (Int × Int × Int),inD (.tup [.int t.1,.int t.2.1,.int t.2.2]) (thD l)=decide (t ∈ l)
 | []=>rfl
 | u :: l=>by
  have ih:=in_th t l
  unfold inD at ih ⊢
  have e:=a6t [u.1,u.2.1,u.2.2] [t.1,t.2.1,t.2.2]
  rw [show thD (u :: l)=.tup (nsD [u.1,u.2.1,u.2.2]) :: thD l from rfl,List.any_cons,ih,show Dv.tup [Dv.int t.1,Dv.int t.2.1,Dv.int t.2.2]=.tup (nsD [t.1,t.2.1,t.2.2]) from rfl,e,<- Bool.decide_or]
  refine decide_eq_decide.mpr ?_
  obtain ⟨a,b,c⟩:=t
  obtain ⟨x,y,z⟩:=u
  simp only [List.cons.injEq,and_true,List.mem_cons,Prod.mk.injEq]
  constructor
  ·rintro (⟨p,q,r⟩ | h)
   ·exact .inl ⟨p.symm,q.symm,r.symm⟩
   ·exact .inr h
  ·rintro (⟨p,q,r⟩ | h)
   ·exact .inl ⟨p.symm,q.symm,r.symm⟩
   ·exact .inr h
theorem okDs_th (l:List (Int × Int × Int)):okDs 8 (thD l)=true:=a6j 8 _ fun d hd=>by
 obtain ⟨t,_,rfl⟩:=List.mem_map.mp hd
 exact a8c 7 [t.1,t.2.1,t.2.2]
noncomputable abbrev kyB (x t:Ti):Bool:=decide (t.1=x.1/\t.2.1=x.2.1)
noncomputable def rp (ts:List Ti) (x:Ti):Ti:=(ts.find? (kyB x)).getD x
noncomputable def flF (fl:List Ti) (t:Int × Int × Int):List Ti:=fl.map (rp (nwT fl t))
theorem rp_tS (us:List Ti) (x:Ti):rp (us.map tS) x=match us.find? (kyB x) with | some u=>(x.1,x.2.1,srt u.2.2) | none=>x:=by
 unfold rp
 rw [List.find?_map,show (kyB x ∘ tS)=kyB x from rfl]
 cases h:us.find? (kyB x) with
 | none=>rfl
 | some u=>
  have:=List.find?_some h
  have e:=of_decide_eq_true this
  show tS u=_
  unfold tS
  rw [e.1,e.2]
theorem has_dc (us:List Ti) (x y:Int):hasT (dcD us) [Sum.inl x,Sum.inl y]=(us.find? fun t=>decide (t.1=x/\t.2.1=y)).isSome:=by
 unfold hasT
 induction us with
 | nil=>rfl
 | cons u us ih=>
  rw [show dcD (u :: us)=(keyT u,.tup (nsD u.2.2)) :: dcD us from rfl,List.any_cons,ih,List.find?_cons]
  have e:decide (keyT u=[Sum.inl x,Sum.inl y])=decide (u.1=x/\u.2.1=y):=decide_eq_decide.mpr (by simp)
  rw [show decide ((keyT u,Dv.tup (nsD u.2.2)).1=[Sum.inl x,Sum.inl y])=decide (keyT u=[Sum.inl x,Sum.inl y]) from rfl,e]
  cases h:decide (u.1=x/\u.2.1=y) <;> simp
theorem beh_0 {us:List Ti} (hu:∀ u ∈ us,u.2.2.length<=31) {x0 x1 x2 x3 x4 x5 x6:Sl} {ad:Addr} {E:En}:∀ (fl acc:List Ti) (s t u:Sl),acc.length + fl.length<=1000->(∀ s t u,E.nx [x0,x1,x2,x3,x4,x5,x6,.v (.dit (dcD us)),.own ad (.lst (flD (acc ++ fl.map (rp (us.map tS))))),s,t,u]) ->
  a1c (gT [9,10,11]) a2R [] (flD fl) E [x0,x1,x2,x3,x4,x5,x6,.v (.dit (dcD us)),.own ad (.lst (flD acc)),s,t,u]:=by
 intro fl
 induction fl with
 | nil=>
  intro acc s t u _ h
  rw [show flD []=[] from rfl,a0Q]
  rw [List.map_nil,List.append_nil] at h
  exact ⟨fun p hp=>by simp at hp,h _ _ _⟩
 | cons x fl ih=>
  intro acc s t u hl h
  rw [List.length_cons] at hl
  rw [show flD (x :: fl)=tiD x :: flD fl from rfl,a0T]
  refine ⟨fun p hp=>by simp at hp,?_⟩
  have nx:=fun acc s t u=>ih acc s t u
  generalize a1c (gT [9,10,11]) a2R [] (flD fl) E=G at nx ⊢
  have go:G [x0,x1,x2,x3,x4,x5,x6,.v (.dit (dcD us)),.own ad (.lst (flD acc ++ [tiD (rp (us.map tS) x)])),.v (.int x.1),.v (.int x.2.1),.v (.tup (nsD (rp (us.map tS) x).2.2))]:=by
   rw [show flD acc ++ [tiD (rp (us.map tS) x)]=flD (acc ++ [rp (us.map tS) x]) by simp]
   refine nx _ _ _ _ (by simp; ac_rfl) fun s t u=>?_
   have:=h s t u
   rw [List.map_cons] at this
   rw [List.append_assoc]
   exact this
  rw [rp_tS] at go
  push_cast [a2R]
  refine ⟨[Sum.inl x.1,Sum.inl x.2.1],rfl,?_⟩
  rw [has_dc]
  cases f:us.find? (kyB x) with
  | none=>
   rw [f] at go
   push_cast [List.length_map]
   exact ⟨by ac_rfl,go⟩
  | some v=>
   rw [f] at go
   have hv:=hu v (List.mem_of_find?_eq_some f)
   push_cast [a6s,show (us.find? fun t=>decide (t.1=x.1/\t.2.1=x.2.1))=some v from f,Option.map_some,Option.isSome_some]
   refine a8u (ns:=v.2.2) (by ac_rfl) fun ms hm hs=>?_
   obtain rfl:=a1C hm hs
   push_cast [List.length_map]
   exact ⟨by ac_rfl,go⟩
noncomputable def lowB (fl:List Ti) (t:Int × Int × Int):List Int:=if UpH fl t then mOf fl t.1 t.2.1 else mOf fl t.1 t.2.2
def sp_beh:Fn:=fun ds Q=>∃ (fl:List Ti) (a b c:Int),ds=[.lst (flD fl),.tup [.int a,.int b,.int c],hxD fl (a,b,c)]/\fl.length<=1000/\a < b/\b < c/\srt (lowB fl (a,b,c))=lowB fl (a,b,c)/\(lowB fl (a,b,c)).length<=30/\Q (.nw (.lst (flD (flF fl (a,b,c)))))
theorem len_beh:∀ ds Q,sp_beh ds Q->ds.length=3:=by rintro ds Q ⟨_,_,_,_,rfl,_⟩; rfl
theorem mo_beh:MonoF sp_beh:=⟨fun ds Q Q' w z=>by obtain ⟨a,b,c,d,e,f,g,h,i,j,k⟩:=z; exact ⟨a,b,c,d,e,f,g,h,i,j,w _ k⟩⟩
theorem dc3 {a b c:Int} (h1:a < b) (h2:b < c) (l1 l2 l3:List Int):putT (putT (putT [] [Sum.inl a,Sum.inl b] (.tup (nsD l1))) [Sum.inl a,Sum.inl c] (.tup (nsD l2))) [Sum.inl b,Sum.inl c] (.tup (nsD l3))=dcD [(a,b,l1),(a,c,l2),(b,c,l3)]:=by
 have e1:putT [] [Sum.inl a,Sum.inl b] (.tup (nsD l1))=dcD [(a,b,l1)]:=a8Y (l:=[]) (t:=(a,b,l1)) fun u hu=>nomatch hu
 have e2:putT (dcD [(a,b,l1)]) [Sum.inl a,Sum.inl c] (.tup (nsD l2))=dcD [(a,b,l1),(a,c,l2)]:=a8Y (l:=[(a,b,l1)]) (t:=(a,c,l2)) fun u hu=>by
  rw [List.mem_singleton.mp hu]
  exact fun z=>by have:=z.2; simp only at this; ac_rfl
 have e3:putT (dcD [(a,b,l1),(a,c,l2)]) [Sum.inl b,Sum.inl c] (.tup (nsD l3))=dcD [(a,b,l1),(a,c,l2),(b,c,l3)]:=a8Y (l:=[(a,b,l1),(a,c,l2)]) (t:=(b,c,l3)) fun u hu=>by
  simp only [List.mem_cons,List.not_mem_nil,or_false] at hu
  rcases hu with rfl | rfl <;> exact fun z=>by have:=z.1; simp only at this; ac_rfl
 rw [e1,e2,e3]
theorem p_law_behind:∀ ds Q,sp_beh ds Q->a4s { nx:=fun _=>Q (.v .non),rt:=Q } (a0m ["_law_tiles", "_law_three", "_law_found", "_law_a", "_law_b", "_law_c", "_law_under", "_law_new", "_law_row_here", "_law_x", "_law_y", "_law_below"] ds):=by
 rintro ds Q ⟨fl,a,b,c,rfl,hl,h1,h2,ss,sl,h⟩
 unfold lowB at ss sl
 unfold hxD
 unfold flF nwT at h
 dsimp only at ss sl h ⊢
 generalize eS:(if UpH fl (a,b,c) then mOf fl a b else mOf fl a c)=S at ss sl ⊢
 push_cast [eD3.eq_1,pCatU_tt,List.length_map]
 refine ⟨by ac_rfl,[Sum.inl a,Sum.inl b],[Sum.inl a,Sum.inl c],[Sum.inl b,Sum.inl c],S,S ++ [b],S,⟨rfl,rfl,rfl⟩,⟨rfl,by simp,rfl⟩,?_⟩
 by_cases u:UpH fl (a,b,c)
 ·rw [if_pos u] at eS h ⊢
  refine ⟨by ac_rfl,by ac_rfl,[Sum.inl a,Sum.inl b],[Sum.inl a,Sum.inl c],[Sum.inl b,Sum.inl c],S ++ [c],S,S ++ [a],⟨rfl,rfl,rfl⟩,⟨by simp,rfl,by simp⟩,fun ad=>?_⟩
  rw [dc3 h1 h2]
  refine beh_0 (us:=[(a,b,S ++ [c]),(a,c,S),(b,c,S ++ [a])]) (fun v hv=>?_) fl [] _ _ _ (by simp; ac_rfl) fun s t v=>?_
  ·simp only [List.mem_cons,List.not_mem_nil,or_false] at hv
   rcases hv with rfl | rfl | rfl <;> simp <;> ac_rfl
  ·ac_nf
   rw [show ([tS (a,b,S ++ [c]),tS (a,c,S),tS (b,c,S ++ [a])]:List Ti)=dnT a b c S by simp only [tS,ss,dnT]]
   rw [eS] at h
   exact h
 ·rw [if_neg u] at eS h ⊢
  intro ad
  rw [dc3 h1 h2]
  refine beh_0 (us:=[(a,b,S),(a,c,S ++ [b]),(b,c,S)]) (fun v hv=>?_) fl [] _ _ _ (by simp; ac_rfl) fun s t v=>?_
  ·simp only [List.mem_cons,List.not_mem_nil,or_false] at hv
   rcases hv with rfl | rfl | rfl <;> simp <;> ac_rfl
  ·ac_nf
   rw [show ([tS (a,b,S),tS (a,c,S ++ [b]),tS (b,c,S)]:List Ti)=upT a b c S by simp only [tS,ss,upT]]
   rw [eS] at h
   exact h
end Lw
namespace Lw
open PySem PySem.Spec PyProof.Rows L2 Z
open Sf (Rw crs Srt Pre Good a0l a0K place many)
open Fl (kd ids Walk a5Z tls pc a0n Pt srt a1C Hex tS)
def lt2 (t u:Ti):Prop:=a6n [t.1,t.2.1] [u.1,u.2.1]=true
theorem uniq_2:∀ {l m:List Ti},l.Perm m->l.Pairwise lt2->m.Pairwise lt2->l=m
 | [],m,p,_,_=>(List.nil_perm.mp p).symm
 | t :: l,[],p,_,_=>nomatch p.length_eq
 | t :: l,u :: m,p,h1,h2=>by
  have e:t=u:=by
   rcases List.mem_cons.mp (p.mem_iff.mp (List.mem_cons_self ..)) with h | h
   ·exact h
   ·rcases List.mem_cons.mp (p.mem_iff.mpr (List.mem_cons_self (a:=u))) with h' | h'
    ·exact h'.symm
    ·have a:=(List.pairwise_cons.mp h1).1 u h'
     have b:=(List.pairwise_cons.mp h2).1 t h
     have c:=lexB_tr _ _ _ a b
     rw [a4c] at c
     cases c
  subst e
  rw [uniq_2 (List.perm_cons t |>.mp p) (List.pairwise_cons.mp h1).2 (List.pairwise_cons.mp h2).2]
theorem lt2_ne {t u:Ti} (h:lt2 t u):t ≠ u:=fun z=>by
 subst z
 unfold lt2 at h
 rw [a4c] at h
 cases h
theorem ext_2 {l m:List Ti} (h1:l.Pairwise lt2) (h2:m.Pairwise lt2) (h:∀ x,x ∈ l ↔ x ∈ m):l=m:=
 uniq_2 ((List.perm_ext_iff_of_nodup (h1.imp lt2_ne) (h2.imp lt2_ne)).mpr h) h1 h2
theorem lt2_of {a b c d:Int} {x y:List Int} (h:a < c \/ a=c/\b < d):lt2 (a,b,x) (c,d,y):=by
 unfold lt2
 simp only [a6n]
 rcases h with h | ⟨h,h2⟩
 ·rw [if_neg (by ac_rfl)]
  exact decide_eq_true h
 ·rw [if_pos h,if_neg (by ac_rfl)]
  exact decide_eq_true h2
structure Fl5 (ks:List Int) (fl:List Ti):Prop where
 n12:ks.length<=12
 len:fl.length<=60
 key:Keys fl
 up:fl.Pairwise lt2
 ord:∀ x ∈ fl,x.1 < x.2.1
 has:∀ t ∈ a0k ks,Has fl t.1 t.2.1/\Has fl t.1 t.2.2/\Has fl t.2.1 t.2.2
 so:∀ x ∈ fl,srt x.2.2=x.2.2
theorem Has.mem {fl:List Ti} {a c:Int} (h:Has fl a c):(a,c,mOf fl a c) ∈ fl/\(mOf fl a c).length<=30:=by
 obtain ⟨u,f,e,l⟩:=h
 have m:=List.mem_of_find?_eq_some f
 have k:u.1=a/\u.2.1=c:=by
  have:=List.find?_some f
  exact of_decide_eq_true this
 rw [<- e]
 refine ⟨?_,l⟩
 rw [<- k.1,<- k.2]
 exact m
theorem Keys.one {fl:List Ti} (h:Keys fl) {x y:Ti} (hx:x ∈ fl) (hy:y ∈ fl) (e:x.1=y.1/\x.2.1=y.2.1):x=y:=by
 induction fl with
 | nil=>cases hx
 | cons z fl ih=>
  obtain ⟨h1,h2⟩:=List.pairwise_cons.mp h
  rcases List.mem_cons.mp hx with ex | mx
  ·rcases List.mem_cons.mp hy with ey | my
   ·rw [ex,ey]
   ·rw [ex] at e
    exact absurd e (h1 y my)
  ·rcases List.mem_cons.mp hy with ey | my
   ·rw [ey] at e
    exact absurd ⟨e.1.symm,e.2.symm⟩ (h1 x mx)
   ·exact ih h2 mx my
noncomputable def othB (t:Int × Int × Int) (x:Ti):Bool:=decide (x.1 ∉ [t.1,t.2.1,t.2.2]) || decide (x.2.1 ∉ [t.1,t.2.1,t.2.2])
theorem nw_len (fl:List Ti) (t:Int × Int × Int):(nwT fl t).length=3:=by unfold nwT; split <;> rfl
theorem nw_keys (fl:List Ti) (t:Int × Int × Int):(nwT fl t).map (fun x=>(x.1,x.2.1))=[(t.1,t.2.1),(t.1,t.2.2),(t.2.1,t.2.2)]:=by unfold nwT; split <;> rfl
theorem rp_key (ts:List Ti) (x:Ti):(rp ts x).1=x.1/\(rp ts x).2.1=x.2.1:=by
 unfold rp
 cases h:ts.find? (kyB x) with
 | none=>exact ⟨rfl,rfl⟩
 | some u=>
  have:=List.find?_some h
  exact of_decide_eq_true this
theorem flF_up {fl:List Ti} {t:Int × Int × Int} (h:fl.Pairwise lt2):(flF fl t).Pairwise lt2:=by
 unfold flF
 rw [List.pairwise_map]
 refine h.imp fun {x y} z=>?_
 unfold lt2 at z ⊢
 rw [(rp_key _ x).1,(rp_key _ x).2,(rp_key _ y).1,(rp_key _ y).2]
 exact z
theorem rp_oth {fl:List Ti} {t:Int × Int × Int} {x:Ti} (h:othB t x=true):rp (nwT fl t) x=x:=by
 unfold rp
 rw [show (nwT fl t).find? (kyB x)=none by
  rw [List.find?_eq_none]
  intro u hu z
  have k:=of_decide_eq_true z
  have m:(u.1,u.2.1) ∈ (nwT fl t).map (fun x=>(x.1,x.2.1)):=List.mem_map_of_mem hu
  rw [nw_keys,k.1,k.2] at m
  simp only [List.mem_cons,List.not_mem_nil,or_false,Prod.mk.injEq] at m
  unfold othB at h
  simp only [Bool.or_eq_true,decide_eq_true_eq,List.mem_cons,List.not_mem_nil,or_false,not_or] at h
  ac_rfl]
 rfl
theorem a8M {ks:List Int} {fl:List Ti} (F:Fl5 ks fl) {a b c:Int} (hab:a < b) (hbc:b < c) (h:(a,b,c) ∈ a0k ks):fl.filter (fun x=>!othB (a,b,c) x)=[(a,b,mOf fl a b),(a,c,mOf fl a c),(b,c,mOf fl b c)]:=by
 obtain ⟨h1,h2,h3⟩:=F.has _ h
 have m1:=h1.mem.1
 have m2:=h2.mem.1
 have m3:=h3.mem.1
 simp only at m1 m2 m3
 refine ext_2 (F.up.filter _) ?_ fun x=>?_
 ·refine List.pairwise_cons.mpr ⟨fun y hy=>?_,List.pairwise_cons.mpr ⟨fun y hy=>?_,List.pairwise_singleton _ _⟩⟩
  ·simp only [List.mem_cons,List.not_mem_nil,or_false] at hy
   rcases hy with rfl | rfl
   ·exact lt2_of (.inr ⟨rfl,hbc⟩)
   ·exact lt2_of (.inl hab)
  ·rw [List.mem_singleton.mp hy]
   exact lt2_of (.inl hab)
 ·rw [List.mem_filter]
  constructor
  ·rintro ⟨hx,z⟩
   have o:=F.ord x hx
   unfold othB at z
   simp only [Bool.not_eq_true',Bool.or_eq_false_iff,decide_eq_false_iff_not,List.mem_cons,List.not_mem_nil,or_false,Classical.not_not] at z
   have k:(x.1=a/\x.2.1=b) \/ (x.1=a/\x.2.1=c) \/ (x.1=b/\x.2.1=c):=by ac_rfl
   rcases k with k | k | k
   ·rw [F.key.one hx m1 k]; simp
   ·rw [F.key.one hx m2 k]; simp
   ·rw [F.key.one hx m3 k]; simp
  ·intro hx
   simp only [List.mem_cons,List.not_mem_nil,or_false] at hx
   rcases hx with rfl | rfl | rfl
   ·exact ⟨m1,by simp [othB]⟩
   ·exact ⟨m2,by simp [othB]⟩
   ·exact ⟨m3,by simp [othB]⟩
theorem a4T {α:Type} (p:α->Bool):∀ l:List α,(l.filter p ++ l.filter fun x=>!p x).Perm l
 | []=>.nil
 | x :: l=>by
  have ih:=a4T p l
  cases h:p x
  ·simp only [List.filter_cons,h,Bool.not_false,if_true,Bool.false_eq_true,if_false]
   exact List.perm_middle.trans (.cons _ ih)
  ·simp only [List.filter_cons,h,Bool.not_true,if_true,Bool.false_eq_true,if_false]
   exact .cons _ ih
theorem rp_nw {fl:List Ti} {a b c:Int} (hab:a < b) (hbc:b < c) (x y z:List Int):[(a,b,x),(a,c,y),(b,c,z)].map (rp (nwT fl (a,b,c)))=nwT fl (a,b,c):=by
 have k:=nw_keys fl (a,b,c)
 have l:=nw_len fl (a,b,c)
 generalize nwT fl (a,b,c)=ts at k l
 match ts,l with
 | [u,v,w],_=>
  simp only [List.map_cons,List.map_nil,List.cons.injEq,Prod.mk.injEq,and_true] at k
  obtain ⟨⟨k1,k2⟩,⟨k3,k4⟩,k5,k6⟩:=k
  simp only [List.map_cons,List.map_nil,rp,kyB,List.find?_cons,k1,k2,k3,k4,k5,k6]
  have e1:decide (b=c)=false:=decide_eq_false (by ac_rfl)
  have e2:decide (a=b)=false:=decide_eq_false (by ac_rfl)
  simp [show ¬ b=c by ac_rfl,show ¬ a=b by ac_rfl]
theorem a4S {ks:List Int} {fl:List Ti} (F:Fl5 ks fl) {a b c:Int} (hab:a < b) (hbc:b < c) (h:(a,b,c) ∈ a0k ks):(flF fl (a,b,c)).Perm (fl.filter (othB (a,b,c)) ++ nwT fl (a,b,c)):=by
 have p:=(a4T (othB (a,b,c)) fl).map (rp (nwT fl (a,b,c)))
 rw [List.map_append,a8M F hab hbc h,rp_nw hab hbc] at p
 rw [show (fl.filter (othB (a,b,c))).map (rp (nwT fl (a,b,c)))=fl.filter (othB (a,b,c)) by
  conv=>rhs; rw [<- List.map_id (fl.filter (othB (a,b,c)))]
  refine List.map_congr_left fun x hx=>?_
  exact rp_oth (List.mem_filter.mp hx).2] at p
 exact p.symm
theorem oth_c {a b c:Int} {Q:R->Prop}:∀ (l acc:List Ti),acc.length + l.length<=1000->Q (.nw (.lst (flD (acc ++ l.filter (othB (a,b,c)))))) ->
  a1T [.un,.v (.tup [.int a,.int b,.int c])] (gN 0) (eOr (a0y (eOp a1O (eOp pIx (a0d 0) (eC (.int 0))) (a0d 1))) (a0y (eOp a1O (eOp pIx (a0d 0) (eC (.int 1))) (a0d 1)))) (a0d 0) (flD l) (flD acc) Q:=by
 intro l
 induction l with
 | nil=>
  intro acc _ h
  rw [show flD []=[] from rfl,a2L]
  rw [List.filter_nil,List.append_nil] at h
  exact h
 | cons x l ih=>
  intro acc hl h
  rw [List.length_cons] at hl
  rw [show flD (x :: l)=tiD x :: flD l from rfl,a4h]
  have nx:=fun acc=>ih acc
  generalize a1T [.un,.v (.tup [.int a,.int b,.int c])] (gN 0) (eOr (a0y (eOp a1O (eOp pIx (a0d 0) (eC (.int 0))) (a0d 1))) (a0y (eOp a1O (eOp pIx (a0d 0) (eC (.int 1))) (a0d 1)))) (a0d 0) (flD l)=G at nx ⊢
  ac_nf
  have n1:inD (.int x.1) [.int a,.int b,.int c]=decide (x.1 ∈ [a,b,c]):=in_ns x.1 [a,b,c]
  have n2:inD (.int x.2.1) [.int a,.int b,.int c]=decide (x.2.1 ∈ [a,b,c]):=in_ns x.2.1 [a,b,c]
  have o3:okDs 8 [.int a,.int b,.int c]=true:=a8c 8 [a,b,c]
  have yes:othB (a,b,c) x=true->(flD acc).length < 1000000/\G (flD acc ++ [tiD x]) Q:=fun z=>by
   refine ⟨by rw [List.length_map]; ac_rfl,?_⟩
   rw [show flD acc ++ [tiD x]=flD (acc ++ [x]) by simp]
   refine nx _ (by simp; ac_rfl) ?_
   rw [List.filter_cons,if_pos z] at h
   rw [List.append_assoc]
   exact h
  refine (show a1O _ (.tup _) _ from ⟨⟨rfl,o3⟩,?_⟩)
  rw [n1]
  by_cases m1:x.1 ∈ [a,b,c]
  ·rw [decide_eq_true m1]
   refine iteF (show a1O _ (.tup _) _ from ⟨⟨rfl,o3⟩,?_⟩)
   rw [n2]
   by_cases m2:x.2.1 ∈ [a,b,c]
   ·rw [decide_eq_true m2]
    refine iteF (nx acc (by ac_rfl) ?_)
    rw [List.filter_cons,if_neg (by unfold othB; simp only [m1,m2,not_true,decide_false,Bool.or_self]; decide)] at h
    exact h
   ·rw [decide_eq_false m2]
    exact iteT (yes (by unfold othB; simp only [m2,not_false_iff,decide_true,Bool.or_true]))
  ·rw [decide_eq_false m1]
   exact iteT (yes (by unfold othB; simp only [m1,not_false_iff,decide_true,Bool.true_or]))
def a4v (C:Addr):Fn:=fun ds Q=>∃ (rows:List Rw) (fl:List Ti) (a b c:Int),ds=[a0V C rows,.lst (flD fl),.tup [.int a,.int b,.int c]]/\Fl5 (a0l rows) fl/\a < b/\b < c/\(a,b,c) ∈ a0k (a0l rows)/\a7d fl (a,b,c)/\Q (.nw (.lst (flD (flF fl (a,b,c)))))
theorem len_flip {C:Addr}:∀ ds Q,a4v C ds Q->ds.length=3:=by rintro ds Q ⟨_,_,_,_,_,rfl,_⟩; rfl
theorem mo_flip {C:Addr}:MonoF (a4v C):=⟨fun ds Q Q' w z=>by obtain ⟨a,b,c,d,e,f,g,h,i,j,k,l⟩:=z; exact ⟨a,b,c,d,e,f,g,h,i,j,k,w _ l⟩⟩
theorem flip_s {ks:List Int} {fl:List Ti} (F:Fl5 ks fl) {a b c:Int} (hab:a < b) (hbc:b < c) (h:(a,b,c) ∈ a0k ks) {Q:R->Prop} (q:Q (.nw (.lst (flD (flF fl (a,b,c)))))):a1z [.lst (flD (fl.filter (othB (a,b,c)) ++ nwT fl (a,b,c)))] Q:=by
 have P:=a4S F hab hbc h
 have U:=flF_up (t:=(a,b,c)) F.up
 have L:(fl.filter (othB (a,b,c)) ++ nwT fl (a,b,c)).length<=60:=by rw [<- P.length_eq,flF,List.length_map]; exact F.len
 generalize fl.filter (othB (a,b,c)) ++ nwT fl (a,b,c)=l at P L
 rw [show flD l=(l.map fun t:Ti=>(([t.1,t.2.1],[Dv.tup (nsD t.2.2)]):List Int × List Dv)).map tI by rw [List.map_map]; rfl]
 refine a7y (k:=1) (by simp; ac_rfl) (fun t ht=>?_) ?_ fun ts' hp hs=>?_
 ·obtain ⟨u,_,rfl⟩:=List.mem_map.mp ht
  rfl
 ·rw [List.pairwise_map]
  have nd:l.Pairwise fun t u=>lt2 t u \/ lt2 u t:=by
   have:(flF fl (a,b,c)).Pairwise fun t u=>lt2 t u \/ lt2 u t:=U.imp fun h=>.inl h
   exact (P.pairwise_iff fun {x y} h=>h.symm).mp this
  refine nd.imp fun {x y} z e=>?_
  simp only at e
  rcases z with z | z <;>
  ·unfold lt2 at z
   first | rw [e,a4c] at z | rw [<- e,a4c] at z
   cases z
 ·obtain ⟨ps,pp,rfl⟩:=a7s hp (its:=l) rfl
  rw [List.pairwise_map] at hs
  rw [uniq_2 (P.trans pp.symm) U hs] at q
  rw [List.map_map]
  exact q
theorem p_flipped {C:Addr}:∀ ds Q,a4v C ds Q->a7g (a5I C) a1g sp_tf { nx:=fun _=>Q (.v .non),rt:=Q } (a0m ["sides", "floor", "three", "tiles", "others"] ds):=by
 rintro ds Q ⟨rows,fl,a,b,c,rfl,F,hab,hbc,h3,hx,q⟩
 obtain ⟨g1,g2,g3⟩:=F.has _ h3
 have fl60:=F.len
 ac_nf
 refine ⟨rows,rfl,F.n12,?_⟩
 ac_nf
 refine (show a1O _ (.lst _) _ from ⟨⟨a8c 7 [a,b,c],okDs_th _⟩,?_⟩)
 rw [show inD (.tup [.int a,.int b,.int c]) (thD (a0k (a0l rows)))=decide ((a,b,c) ∈ a0k (a0l rows)) from in_th (a,b,c) _,decide_eq_true h3]
 refine iteF ?_
 refine ⟨fl,rfl,by ac_rfl,F.key,?_⟩
 ac_nf
 refine ⟨fl,a,b,c,rfl,g1,g2,g3,hx,?_⟩
 ac_nf
 refine oth_c fl [] (by simp; ac_rfl) ?_
 ac_nf
 have nl:=nw_len fl (a,b,c)
 have fll:=List.length_filter_le (othB (a,b,c)) fl
 refine ⟨by rw [List.length_map,List.length_map,nl]; ac_rfl,?_⟩
 rw [<- List.map_append]
 exact flip_s F hab hbc h3 q
end Lw
namespace Lw
open PySem PySem.Spec PyProof.Rows L2 Z
open Sf (Rw crs Srt Pre Good a0l a0K place many)
open Fl (kd ids Walk a5Z tls pc a0n Pt Bf srt a1C Hex tS tl')
theorem in_fl (t:Ti):∀ l:List Ti,inD (tiD t) (flD l)=decide (t ∈ l)
 | []=>rfl
 | u :: l=>by
  have ih:=in_fl t l
  unfold inD at ih ⊢
  have e:eqD (tiD u) (tiD t)=decide (u=t):=by
   rw [Bool.eq_iff_iff,decide_eq_true_eq]
   exact eqD_ti u t
  rw [show flD (u :: l)=tiD u :: flD l from rfl,List.any_cons,ih,e,<- Bool.decide_or]
  refine decide_eq_decide.mpr ?_
  rw [List.mem_cons]
  exact ⟨fun z=>z.imp Eq.symm _root_.id,fun z=>z.imp Eq.symm _root_.id⟩
theorem ok_ti (n:Nat) (t:Ti):okD (n + 2) (tiD t)=true:=by
 show (okD (n + 1) (.int t.1) && (okD (n + 1) (.int t.2.1) && (okD (n + 1) (.tup (nsD t.2.2)) && true)))=true
 rw [show okD (n + 1) (.tup (nsD t.2.2))=true from a8c n _]
 rfl
theorem okDs_fl (l:List Ti):okDs 8 (flD l)=true:=a6j 8 _ fun d hd=>by
 obtain ⟨t,_,rfl⟩:=List.mem_map.mp hd
 exact ok_ti 6 t
noncomputable def tAt (l:List Int) (p:Nat):Ti:=(l.getD p 0,l.getD (p + 1) 0,srt (l.take p))
theorem laid_0 {cur:List Int} {lf:List Ti} {a:Addr} {x0 x1 x4:Sl} {E:En} (hn:cur.length<=12) (h:∀ q,q + 1 < cur.length->tAt cur q ∈ lf->E.nx [x0,x1,.v (.lst (nsD cur)),.own a (.lst (flD lf)),x4,.v (.int (q:Nat)),.v (tiD (tAt cur q))]):∀ (i p:Nat) (s5 s6:Sl),p + i + 1=cur.length->(∃ q,p<=q/\q + 1 < cur.length/\tAt cur q ∈ lf) ->
  a1c (gN 5) (a1Q a1q) [] (a0W p i) E [x0,x1,.v (.lst (nsD cur)),.own a (.lst (flD lf)),x4,s5,s6]:=by
 intro i
 induction i with
 | zero=>
  intro p s5 s6 hp ⟨q,h1,h2,_⟩
  ac_rfl
 | succ i ih=>
  intro p s5 s6 hp ⟨q,h1,h2,h3⟩
  rw [a1i,a0T]
  refine ⟨fun p hp=>by simp at hp,?_⟩
  rw [show ((p:Int) + 1)=((p + 1:Nat):Int) by ac_rfl]
  have nx:=fun s5 s6=>ih (p + 1) s5 s6 (by ac_rfl)
  generalize a1c (gN 5) (a1Q a1q) [] (a0W ((p + 1:Nat):Int) i) E=G at nx ⊢
  push_cast [a1Q]
  rw [a2N (show p < cur.length by ac_rfl),show ((p:Int) + 1)=((p + 1:Nat):Int) by ac_rfl,a2N (show p + 1 < cur.length by ac_rfl),cut_to (by ac_rfl),Int.toNat_natCast,<- List.map_take]
  ac_nf
  refine a7z (by simp; ac_rfl) fun ms hm hs=>?_
  obtain rfl:=a1C hm hs
  ac_nf
  refine (show pIn _ (.lst _) _ from ⟨⟨ok_ti 6 (tAt cur p),okDs_fl _⟩,?_⟩)
  rw [show inD (Dv.tup [Dv.int (cur.getD p 0),Dv.int (cur.getD (p + 1) 0),Dv.tup (nsD (srt (cur.take p)))]) (flD lf)=decide (tAt cur p ∈ lf) from in_fl (tAt cur p) lf]
  by_cases m:tAt cur p ∈ lf
  ·rw [decide_eq_true m]
   exact iteT (h p (by ac_rfl) m)
  ·rw [decide_eq_false m]
   refine iteF (nx _ _ ⟨q,?_,h2,h3⟩)
   rcases Nat.lt_or_ge p q with z | z
   ·ac_rfl
   ·exact absurd ((show p=q by ac_rfl) ▸ h3) m
theorem first_at {t:Ti}:∀ lf:List Ti,t ∈ lf -> ∃ j,lf[j]?=some t/\(∀ m e,m < j->lf[m]?=some e->e ≠ t)/\(t :: lf.eraseIdx j).Perm lf
 | u :: lf,h=>by
  by_cases e:u=t
  ·subst e
   exact ⟨0,rfl,fun m e h=>by ac_rfl,.refl _⟩
  ·have h':t ∈ lf:=(List.mem_cons.mp h).resolve_left fun z=>e z.symm
   obtain ⟨j,h1,h2,h3⟩:=first_at lf h'
   refine ⟨j + 1,h1,fun m v hm hv=>?_,(List.Perm.swap _ _ _).trans (.cons _ h3)⟩
   cases m with
   | zero=>cases hv; exact e
   | succ m=>exact h2 m v (by ac_rfl) hv
theorem er_map {α β:Type} (f:α->β):∀ (l:List α) (j:Nat),(l.map f).eraseIdx j=(l.eraseIdx j).map f
 | [],_=>rfl
 | x :: l,0=>rfl
 | x :: l,j + 1=>by
  show f x :: (l.map f).eraseIdx j=f x :: (l.eraseIdx j).map f
  rw [er_map f l j]
theorem wmore {ks R e S cur:List Int} (w:Walk ks (ids ks.length) R e) (v:Walk ks (ids ks.length) S cur) (h:S.length < R.length):¬ a5Z ks cur:=fun d=>by
 have P:=Pt.ids ks.length
 have nd:=w.nodup P
 have:=nd.length_le_of_subset (l₂:=(tls (ids ks.length) S).map fun t=>(t.1,t.2.1)) fun k hk=>by
  obtain ⟨t,ht,rfl⟩:=List.mem_map.mp hk
  obtain ⟨h1,h2,_⟩:=w.key P ht
  obtain ⟨u,hu,e1,e2⟩:=v.all P d h2 h1
  exact List.mem_map.mpr ⟨u,hu,by rw [e1,e2]⟩
 rw [List.length_map,List.length_map,Fl.a3l,Fl.a3l] at this
 ac_rfl
theorem laid_1 {ks row e:List Int} {fl:List Ti} {a:Addr} {E:En} (h2:2<=ks.length) (hn:ks.length<=12) (w:Walk ks (ids ks.length) row e) (d:a5Z ks e) (h:∀ s2 s3 s4 s5 s6,E.nx [.v (.lst (nsD ks)),.v (.lst (flD fl)),s2,s3,s4,s5,s6]):∀ (i k:Nat) (S cur:List Int) (lf:List Ti) (s4 s5 s6:Sl),k + i=row.length->S.length=k->Walk ks (ids ks.length) S cur->(lf ++ tl' (ids ks.length) S).Perm (tl' (ids ks.length) row) ->
  a1c (gN 4) (a3u a1q) [] (a0W k i) E [.v (.lst (nsD ks)),.v (.lst (flD fl)),.v (.lst (nsD cur)),.own a (.lst (flD lf)),s4,s5,s6]:=by
 have P:=Pt.ids ks.length
 intro i
 induction i with
 | zero=>
  intro k S cur lf s4 s5 s6 _ _ _ _
  rw [a1K,a0Q]
  exact ⟨fun p hp=>by simp at hp,h _ _ _ _ _⟩
 | succ i ih=>
  intro k S cur lf s4 s5 s6 hk hS v pm
  have Pc:=v.pt P
  have lc:=Pc.len
  rw [a1i,a0T]
  refine ⟨fun p hp=>by simp at hp,?_⟩
  rw [show ((k:Int) + 1)=((k + 1:Nat):Int) by ac_rfl]
  have nx:=fun S cur lf s4 s5 s6=>ih (k + 1) S cur lf s4 s5 s6 (by ac_rfl)
  generalize a1c (gN 4) (a3u a1q) [] (a0W ((k + 1:Nat):Int) i) E=G at nx ⊢
  have lfl:lf.length<=row.length:=by
   have:=pm.length_eq
   rw [List.length_append,tl',List.length_map,tl',List.length_map,Fl.a3l,Fl.a3l] at this
   ac_rfl
  obtain ⟨q,hq,u,hu,e1,e2,e3⟩:=Fl.greedy w d v (fun t ht=>by
   have m:tS t ∈ tl' (ids ks.length) row:=pm.mem_iff.mp (List.mem_append_right _ (List.mem_map_of_mem ht))
   obtain ⟨u,hu,e⟩:=List.mem_map.mp m
   have e':(u.1,u.2.1,srt u.2.2)=(t.1,t.2.1,srt t.2.2):=e
   injection e' with a b
   injection b with b c
   exact ⟨u,hu,a,b,(Fl.a1D _).symm.trans (c ▸ Fl.a1D _)⟩) (wmore w v (by ac_rfl))
  have old:∀ p,p + 1 < ks.length->tAt cur p ∈ tl' (ids ks.length) row->tAt cur p ∈ lf:=fun p hp m=>by
   rcases List.mem_append.mp (pm.mem_iff.mpr m) with z | z
   ·exact z
   ·obtain ⟨t,ht,et⟩:=List.mem_map.mp z
    have b:=(v.key P ht).2.2
    have et':(t.1,t.2.1,srt t.2.2)=(cur.getD p 0,cur.getD (p + 1) 0,srt (cur.take p)):=et
    injection et' with c1 c2
    injection c2 with c2 _
    rw [c1,c2] at b
    exact absurd (Bf.near (l:=cur) (p:=p) (by ac_rfl)) fun z=>z.anti Pc b
  have mq:tAt cur q ∈ lf:=old q hq (by
   refine List.mem_map.mpr ⟨u,hu,?_⟩
   unfold tS tAt
   rw [e1,e2,Fl.srt_eq e3])
  show a0z (a6I (a2e (a0a (eOp a8b (eCB a3q (a0a (a0d 2) a0i)) (eC (.int 1))) a0i)) (gN 5) (a1Q a1q)) (a0z (sIf (a0y (eOp a1O (a0d 6) (a0d 3))) (a1W (eC (.bl false))) a1e) (a0z (sRem 3 (a0d 6)) (a1l 2 (a0t a1q (a0a (a0d 2) (a0a (a0d 5) a0i)))))) _ _
  have en:∀ p,p + 1 < cur.length->tAt cur p ∈ lf->(a0z (sIf (a0y (eOp a1O (a0d 6) (a0d 3))) (a1W (eC (.bl false))) a1e) (a0z (sRem 3 (a0d 6)) (a1l 2 (a0t a1q (a0a (a0d 2) (a0a (a0d 5) a0i)))))) { nx:=G,rt:=E.rt,bk:=E.nx,ct:=G } [.v (.lst (nsD ks)),.v (.lst (flD fl)),.v (.lst (nsD cur)),.own a (.lst (flD lf)),.v (.int k),.v (.int (p:Nat)),.v (tiD (tAt cur p))]:=by
   intro p hp m
   obtain ⟨j,j1,j2,j3⟩:=first_at lf m
   have mem:tAt cur p ∈ tl' (ids ks.length) row:=pm.mem_iff.mp (List.mem_append_left _ m)
   obtain ⟨t,ht,et⟩:=List.mem_map.mp mem
   have et':(t.1,t.2.1,srt t.2.2)=(cur.getD p 0,cur.getD (p + 1) 0,srt (cur.take p)):=et
   injection et' with c1 c2
   injection c2 with c2 _
   have kk:=(w.key P ht).2.1
   rw [c1,c2] at kk
   push_cast [sRem.eq_1]
   refine (show a1O _ (.lst _) _ from ⟨⟨ok_ti 6 (tAt cur p),okDs_fl _⟩,?_⟩)
   rw [in_fl,decide_eq_true m]
   refine iteF ?_
   refine ⟨j,tiD (tAt cur p),⟨ok_ti 6 _,okDs_fl _⟩,by rw [List.getElem?_map,j1]; rfl,(eqD_ti _ _).mpr rfl,fun m' e' hm' he'=>?_,?_⟩
   ·rw [List.getElem?_map] at he'
    cases hx:lf[m']? with
    | none=>rw [hx] at he'; cases he'
    | some y=>
     rw [hx] at he'
     cases he'
     rw [Bool.eq_false_iff]
     exact fun z=>j2 m' y hm' hx ((eqD_ti _ _).mp z)
   ·refine ⟨cur,p,rfl,by ac_rfl,hp,?_⟩
    ac_nf
    rw [show (flD lf).eraseIdx j=flD (lf.eraseIdx j) from er_map tiD lf j]
    refine nx (S ++ [(p:Int)]) (a0n cur p) (lf.eraseIdx j) _ _ _ (by rw [List.length_append,hS]; rfl) (v.snoc (by ac_rfl) kk) ?_
    rw [Fl.tl_app v]
    rw [show tl' cur [(p:Int)]=[tAt cur p] by unfold tl'; rw [tls,tls,Int.toNat_natCast]; rfl]
    refine List.Perm.trans ?_ pm
    rw [<- List.append_assoc]
    refine List.perm_append_comm.trans ?_
    rw [List.singleton_append]
    exact j3.append_right _
  push_cast [List.length_map]
  refine ⟨by ac_rfl,?_⟩
  rw [show ((cur.length:Int) - 1).toNat=cur.length - 1 by ac_rfl]
  exact laid_0 (by ac_rfl) en (cur.length - 1) 0 _ _ (by ac_rfl) ⟨q,by ac_rfl,by ac_rfl,mq⟩
def a7i:Fn:=fun ds Q=>∃ (ks row e:List Int) (fl:List Ti),ds=[.lst (nsD ks),.lst (flD fl)]/\2<=ks.length/\ks.length<=12/\Walk ks (ids ks.length) row e/\a5Z ks e/\row.length<=60/\fl.Perm (tl' (ids ks.length) row)/\Q (.v (.bl true))
theorem len_laid:∀ ds Q,a7i ds Q->ds.length=2:=by rintro ds Q ⟨_,_,_,_,rfl,_⟩; rfl
theorem mo_laid:MonoF a7i:=⟨fun ds Q Q' w z=>by obtain ⟨a,b,c,d,e,f,g,h,i,j,k,l⟩:=z; exact ⟨a,b,c,d,e,f,g,h,i,j,k,w _ l⟩⟩
theorem a9d:∀ ds Q,a7i ds Q->a3W a1q { nx:=fun _=>Q (.v .non),rt:=Q } (a0m ["_law_bands_here", "_law_tiles", "_law_path", "_law_left", "_law_k", "_law_p", "_law_tile"] ds):=by
 rintro ds Q ⟨ks,row,e,fl,rfl,h2,hn,w,d,rl,pm,q⟩
 have L:fl.length=row.length:=by rw [pm.length_eq,tl',List.length_map,Fl.a3l]
 push_cast [List.length_map]
 refine ⟨by ac_rfl,fun a=>⟨by ac_rfl,?_⟩⟩
 rw [show ((ks.length:Nat):Int).toNat=ks.length by ac_rfl,a8T ks.length,Int.toNat_natCast]
 refine laid_1 h2 hn w d (fun s2 s3 s4 s5 s6=>?_) fl.length 0 [] (ids ks.length) fl _ _ _ (by ac_rfl) rfl (.nil _) (by rw [show tl' (ids ks.length) []=[] from rfl,List.append_nil]; exact pm)
 ac_nf
 exact q
end Lw
namespace Lw
open PySem PySem.Spec PyProof.Rows L2 Z
open Sf (Rw crs Srt Pre Good a0l a0K place many)
open Fl (kd ids Walk a5Z tls pc a0n Pt Bf srt a1C Hex tS tl' tm)
theorem inT_in (ks:List Int) (a b:Int):∀ (i c:Nat) (z:Int),(c:Int)<=z->z < (c + i:Nat)->kd ks z ≠ kd ks b->(a,b,z) ∈ inT ks a b i c
 | 0,c,z,h1,h2,_=>by ac_rfl
 | i + 1,c,z,h1,h2,h3=>by
  rw [inT,List.mem_append]
  by_cases e:z=(c:Int)
  ·left
   rw [if_neg (by rw [<- e]; exact h3),e]
   exact List.mem_singleton.mpr rfl
  ·exact .inr (inT_in ks a b i (c + 1) z (by ac_rfl) (by ac_rfl) h3)
theorem threes_in {ks:List Int} {a b c:Int} (h0:0<=a) (hab:a < b) (hbc:b < c) (hc:c < ks.length) (k1:kd ks a ≠ kd ks b) (k2:kd ks b ≠ kd ks c):(a,b,c) ∈ a0k ks:=
 List.mem_flatMap.mpr ⟨(a,b),a7u.mpr ⟨h0,hab,by show b < _; ac_rfl,k1⟩,inT_in ks a b _ _ c (by dsimp only; ac_rfl) (by dsimp only; ac_rfl) (Ne.symm k2)⟩
theorem FlOf.has {ks row e:List Int} {fl:List Ti} (w:Walk ks (ids ks.length) row e) (d:a5Z ks e) (m:Mono ks) (hn:ks.length<=12) (F:FlOf ks row fl) {a c:Int} (h0:0<=a) (hac:a < c) (hc:c < ks.length) (hk:kd ks a ≠ kd ks c):Has fl a c:=by
 obtain ⟨u,hu,_,_,_,eu⟩:=a6Y (F.cov w d m a c h0 hac hc hk)
 have k1:=m a c h0 (by ac_rfl) hc
 obtain ⟨p,q,_,P1,_,_,_,g⟩:=w.tile (w.tm_lt d h0 hac hc (by ac_rfl))
 have b:=F.below w g
 refine ⟨u,hu,eu.symm,?_⟩
 rw [<- eu,b,Fl.a3E]
 have:=P1.len
 show (p.take q).length<=30
 rw [List.length_take]
 ac_rfl
structure IsF (ks:List Int) (fl:List Ti):Prop where
 n2:2<=ks.length
 n12:ks.length<=12
 mo:Mono ks
 up:fl.Pairwise lt2
 row:∃ row e,Walk ks (ids ks.length) row e/\a5Z ks e/\row.length<=60/\fl.Perm (tl' (ids ks.length) row)
theorem al_tl (us:List Ti):Al (us.map tS) us:=⟨by rw [List.length_map],fun i t u h1 h2=>by
 rw [List.getElem?_map,h2] at h1
 cases h1
 exact ⟨rfl,rfl,rfl⟩⟩
theorem tl_al {ts us:List Ti} (h:Al ts us):ts=us.map tS:=by
 apply List.ext_getElem?
 intro i
 rw [List.getElem?_map]
 by_cases hi:i < us.length
 ·have hi':i < ts.length:=by rw [h.1]; exact hi
  obtain ⟨a,b,c⟩:=h.2 i _ _ (List.getElem?_eq_getElem hi') (List.getElem?_eq_getElem hi)
  rw [List.getElem?_eq_getElem hi',List.getElem?_eq_getElem hi]
  show some ts[i]=some (us[i].1,us[i].2.1,srt us[i].2.2)
  rw [<- a,<- b,<- c]
 ·rw [List.getElem?_eq_none (by rw [h.1]; ac_rfl),List.getElem?_eq_none (by ac_rfl)]
  rfl
theorem a7K {ks row:List Int} {fl:List Ti} (h:fl.Perm (tl' (ids ks.length) row)):FlOf ks row fl:=⟨_,h,al_tl _⟩
theorem of_flOf {ks row:List Int} {fl:List Ti} (h:FlOf ks row fl):fl.Perm (tl' (ids ks.length) row):=by
 obtain ⟨ts,p,a⟩:=h
 rw [tl_al a] at p
 exact p
theorem srt_srt (l:List Int):srt (srt l)=srt l:=Fl.srt_eq (Fl.a1D l)
theorem IsF.key {ks:List Int} {fl:List Ti} (F:IsF ks fl):Keys fl:=by
 obtain ⟨row,e,w,d,rl,p⟩:=F.row
 exact (a7K p).keys w
theorem IsF.len {ks:List Int} {fl:List Ti} (F:IsF ks fl):fl.length<=60:=by
 obtain ⟨row,e,w,d,rl,p⟩:=F.row
 rw [(a7K p).len]
 exact rl
theorem ids_lt {n:Nat} {x y:Int} (h:Bf (ids n) x y):x < y:=by
 obtain ⟨i,j,h1,h2,h3,h4⟩:=h
 have ln:(ids n).length=n:=by simp
 rw [Fl.a5w (by ac_rfl)] at h3 h4
 ac_rfl
theorem IsF.fl5 {ks:List Int} {fl:List Ti} (F:IsF ks fl):Fl5 ks fl:=by
 have m:=F.mo
 have n12:=F.n12
 have kf:=F.key
 have lf:=F.len
 obtain ⟨row,e,w,d,rl,p⟩:=F.row
 have FO:=a7K p
 refine ⟨n12,lf,kf,F.up,fun x hx=>?_,fun t ht=>?_,fun x hx=>?_⟩
 ·obtain ⟨u,hu,rfl⟩:=List.mem_map.mp (p.mem_iff.mp hx)
  exact ids_lt (w.key (Pt.ids _) hu).1
 ·obtain ⟨m1,m2,m3,m4,m5,m6⟩:=a4L ht
  have k1:=m t.1 t.2.1 m1 (by ac_rfl) (by ac_rfl)
  have k2:=m t.2.1 t.2.2 (by ac_rfl) (by ac_rfl) m4
  exact ⟨FO.has w d m n12 m1 m2 (by ac_rfl) m5,FO.has w d m n12 m1 (by ac_rfl) m4 (by ac_rfl),FO.has w d m n12 (by ac_rfl) m3 m4 m6⟩
 ·obtain ⟨u,hu,rfl⟩:=List.mem_map.mp (p.mem_iff.mp hx)
  exact srt_srt u.2.2
theorem dec3 {α:Type} {L:List α} {i j k:Nat} {u v w:α} (hi:L[i]?=some u) (hj:L[j]?=some v) (hk:L[k]?=some w) (ij:i < j) (jk:j < k):∃ A B C D,L=A ++ u :: (B ++ v :: (C ++ w :: D)):=by
 obtain ⟨h1,e1⟩:=List.getElem?_eq_some_iff.mp hi
 obtain ⟨h2,e2⟩:=List.getElem?_eq_some_iff.mp hj
 obtain ⟨h3,e3⟩:=List.getElem?_eq_some_iff.mp hk
 refine ⟨L.take i,(L.drop (i + 1)).take (j - i - 1),(L.drop (j + 1)).take (k - j - 1),L.drop (k + 1),?_⟩
 have s1:L=L.take i ++ u :: L.drop (i + 1):=by rw [<- e1,<- List.drop_eq_getElem_cons h1,List.take_append_drop]
 have s2:L.drop (i + 1)=(L.drop (i + 1)).take (j - i - 1) ++ v :: L.drop (j + 1):=by
  conv=>lhs; rw [<- List.take_append_drop (j - i - 1) (L.drop (i + 1))]
  rw [List.drop_drop,show i + 1 + (j - i - 1)=j by ac_rfl,List.drop_eq_getElem_cons h2,e2]
 have s3:L.drop (j + 1)=(L.drop (j + 1)).take (k - j - 1) ++ w :: L.drop (k + 1):=by
  conv=>lhs; rw [<- List.take_append_drop (k - j - 1) (L.drop (j + 1))]
  rw [List.drop_drop,show j + 1 + (k - j - 1)=k by ac_rfl,List.drop_eq_getElem_cons h3,e3]
 rw [<- s3,<- s2,<- s1]
theorem tl_at {ks row e:List Int} {fl:List Ti} (w:Walk ks (ids ks.length) row e) (FO:FlOf ks row fl) {x y:Int} (h:tm ks row x y < row.length):∃ pre,(tls (ids ks.length) row)[tm ks row x y]?=some (x,y,pre)/\mOf fl x y=srt pre/\x ∉ mOf fl x y/\y ∉ mOf fl x y:=by
 obtain ⟨m,p,w1,P1,hp,ea,ec,g⟩:=w.tile h
 have lm:=P1.len
 have b:=FO.below w g
 have no:∀ (i:Nat) (z:Int),i < ks.length->p<=i->m.getD i 0=z->z ∉ m.take p:=fun i z hi hpi hz hm=>by
  obtain ⟨q,hq,eq⟩:=List.mem_iff_getElem.mp hm
  rw [List.length_take] at hq
  rw [List.getElem_take] at eq
  have:=P1.inj q i (by ac_rfl) hi (by rw [hz,<- eq]; simp [List.getD,show q < m.length by ac_rfl])
  ac_rfl
 have eb:mOf fl x y=srt (m.take p):=b
 refine ⟨m.take p,g,eb,fun z=>?_,fun z=>?_⟩
 ·rw [eb] at z
  exact no p x (by ac_rfl) (Nat.le_refl _) ea ((Fl.a1D _).mem_iff.mp z)
 ·rw [eb] at z
  exact no (p + 1) y hp (by ac_rfl) ec ((Fl.a1D _).mem_iff.mp z)
theorem perm3 {α:Type} (A B C D:List α) (u v w:α):(A ++ u :: (B ++ v :: (C ++ w :: D))).Perm ((A ++ B) ++ (C ++ D) ++ [u,v,w]):=by
 rw [List.append_assoc (A ++ B)]
 have e1:(A ++ u :: (B ++ v :: (C ++ w :: D))).Perm (u :: (A ++ (B ++ v :: (C ++ w :: D)))):=List.perm_middle
 have e2:(A ++ (B ++ v :: (C ++ w :: D))).Perm (v :: (A ++ B ++ (C ++ w :: D))):=by rw [<- List.append_assoc]; exact List.perm_middle
 have e3:(A ++ B ++ (C ++ w :: D)).Perm (w :: (A ++ B ++ C ++ D)):=by rw [<- List.append_assoc]; exact List.perm_middle
 have e4:(u :: v :: w :: (A ++ B ++ C ++ D)).Perm ((A ++ B ++ C ++ D) ++ [u,v,w]):=(List.perm_append_comm (l₁:=[u,v,w]))
 refine e1.trans ((List.Perm.cons _ (e2.trans (.cons _ e3))).trans (e4.trans ?_))
 simp
structure Three (ks:List Int) (fl:List Ti) (a b c:Int):Prop where
 t:(a,b,c) ∈ a0k ks
 ab:a < b
 bc:b < c
 a1:a ∉ mOf fl a b
 b1:b ∉ mOf fl a b
 a2:a ∉ mOf fl a c
 c2:c ∉ mOf fl a c
 b3:b ∉ mOf fl b c
 c3:c ∉ mOf fl b c
theorem IsF.flip {ks:List Int} {fl:List Ti} (F:IsF ks fl) {a b c:Int} (t3:(a,b,c) ∈ a0k ks) (hx:a7d fl (a,b,c)):IsF ks (flF fl (a,b,c))/\Three ks fl a b c:=by
 have m:=F.mo
 have n12:=F.n12
 have F5:=F.fl5
 obtain ⟨row,e,w,d,rl,p⟩:=F.row
 have FO:=a7K p
 obtain ⟨m1,m2,m3,m4,m5,m6⟩:=a4L t3
 simp only at m1 m2 m3 m4 m5 m6
 have k1:=m a b m1 (by ac_rfl) (by ac_rfl)
 have k2:=m b c (by ac_rfl) (by ac_rfl) m4
 have i1:=w.tm_lt d m1 m2 (by ac_rfl) (by ac_rfl)
 have i2:=w.tm_lt d m1 (show a < c by ac_rfl) m4 (by ac_rfl)
 have i3:=w.tm_lt d (show 0<=b by ac_rfl) m3 m4 (by ac_rfl)
 obtain ⟨p1,g1,e1,n1,n1'⟩:=tl_at w FO i1
 obtain ⟨p2,g2,e2,n2,n2'⟩:=tl_at w FO i2
 obtain ⟨p3,g3,e3,n3,n3'⟩:=tl_at w FO i3
 have T:Three ks fl a b c:=⟨t3,m2,m3,n1,n1',n2,n2',n3,n3'⟩
 refine ⟨?_,T⟩
 have tr:=w.tri d m m1 m2 m3 m4 (by ac_rfl)
 have th:=w.three d m1 m2 m3 m4 (by ac_rfl) (by ac_rfl) g1 ⟨rfl,rfl⟩ g3 ⟨rfl,rfl⟩ g2 ⟨rfl,rfl⟩
 have G:∀ {i:Nat} {x y:Int} {pre:List Int},(tls (ids ks.length) row)[i]?=some (x,y,pre)->mOf fl x y=srt pre->(tl' (ids ks.length) row)[i]?=some (x,y,mOf fl x y):=fun h he=>by
  unfold tl'
  rw [List.getElem?_map,h,he]
  rfl
 have L1:=G g1 e1
 have L2:=G g2 e2
 have L3:=G g3 e3
 have pf:=a4S F5 m2 m3 t3
 have po:∀ {A B C D:List Ti} {u v x:Ti},tl' (ids ks.length) row=A ++ u :: (B ++ v :: (C ++ x :: D))->([u,v,x].Perm [(a,b,mOf fl a b),(a,c,mOf fl a c),(b,c,mOf fl b c)])->(fl.filter (othB (a,b,c))).Perm ((A ++ B) ++ (C ++ D)):=fun {A B C D u v x} h hp=>by
  have q1:=a4T (othB (a,b,c)) fl
  rw [a8M F5 m2 m3 t3] at q1
  have q2:=(q1.trans p)
  rw [h] at q2
  have q3:=q2.trans ((perm3 A B C D u v x).trans (hp.append_left _))
  exact (List.perm_append_right_iff _).mp q3
 have fin:∀ {row':List Int} {A B C D:List Ti},Walk ks (ids ks.length) row' e->(fl.filter (othB (a,b,c))).Perm ((A ++ B) ++ (C ++ D))->(tl' (ids ks.length) row').Perm ((A ++ B) ++ (C ++ D) ++ nwT fl (a,b,c))->IsF ks (flF fl (a,b,c)):=fun {row' A B C D} w' h1 h2=>by
  have P:=pf.trans ((h1.append_right _).trans h2.symm)
  refine ⟨F.n2,n12,m,flF_up F.up,row',e,w',d,?_,P⟩
  have:=P.length_eq
  rw [flF,List.length_map,tl',List.length_map,Fl.a3l] at this
  have:=F.len
  ac_rfl
 by_cases u:UpH fl (a,b,c)
 ·have u1:mOf fl b c=mOf fl a b:=u.1
  have u2:mOf fl a c=srt (mOf fl a b ++ [b]):=u.2
  have hb:b ∈ p2:=by
   have:b ∈ mOf fl a c:=by rw [u2]; exact (Fl.a1D _).mem_iff.mpr (by simp)
   rw [e2] at this
   exact (Fl.a1D _).mem_iff.mp this
  have o13:=th.mp hb
  have o:tm ks row a b < tm ks row a c/\tm ks row a c < tm ks row b c:=by ac_rfl
  obtain ⟨A,B,C,D,hd⟩:=dec3 L1 L2 L3 o.1 o.2
  have hd':=hd
  rw [u1,u2] at hd'
  obtain ⟨row',w',h'⟩:=Fl.flip_up w (Pt.ids _) hd'
  refine fin (A:=A) (B:=B) (C:=C) (D:=D) w' (po hd (.refl _)) ?_
  rw [h',nwT,if_pos u]
  show ((A ++ B) ++ ([(b,c,srt (mOf fl a b ++ [a])),(a,c,mOf fl a b),(a,b,srt (mOf fl a b ++ [c]))] ++ (C ++ D))).Perm _
  rw [List.append_assoc (A ++ B) (C ++ D)]
  refine List.Perm.append_left _ (List.perm_append_comm.trans (List.Perm.append_left _ ?_))
  show ([(b,c,srt (mOf fl a b ++ [a])),(a,c,mOf fl a b),(a,b,srt (mOf fl a b ++ [c]))]:List Ti).Perm [(a,b,srt (mOf fl a b ++ [c])),(a,c,mOf fl a b),(b,c,srt (mOf fl a b ++ [a]))]
  exact List.reverse_perm [(a,b,srt (mOf fl a b ++ [c])),(a,c,mOf fl a b),(b,c,srt (mOf fl a b ++ [a]))]
 ·have dn:DnH fl (a,b,c):=(show UpH fl (a,b,c) \/ DnH fl (a,b,c) from hx).resolve_left u
  have u1:mOf fl a b=srt (mOf fl a c ++ [c]):=dn.1
  have u3:mOf fl b c=srt (mOf fl a c ++ [a]):=dn.2
  have hb:b ∉ p2:=fun z=>n1' (by
   rw [u1]
   refine (Fl.a1D _).mem_iff.mpr (List.mem_append_left _ ?_)
   rw [e2]
   exact (Fl.a1D _).mem_iff.mpr z)
  have o13:¬ tm ks row a b < tm ks row b c:=fun z=>hb (th.mpr z)
  have o:tm ks row b c < tm ks row a c/\tm ks row a c < tm ks row a b:=by ac_rfl
  obtain ⟨A,B,C,D,hd⟩:=dec3 L3 L2 L1 o.1 o.2
  have hd':=hd
  rw [u1,u3] at hd'
  obtain ⟨row',w',h'⟩:=Fl.flip_dn w (Pt.ids _) hd'
  refine fin (A:=A) (B:=B) (C:=C) (D:=D) w' (po hd (List.reverse_perm [(a,b,mOf fl a b),(a,c,mOf fl a c),(b,c,mOf fl b c)])) ?_
  rw [h',nwT,if_neg u]
  show ((A ++ B) ++ ([(a,b,mOf fl a c),(a,c,srt (mOf fl a c ++ [b])),(b,c,mOf fl a c)] ++ (C ++ D))).Perm _
  rw [List.append_assoc (A ++ B) (C ++ D)]
  exact List.Perm.append_left _ (List.perm_append_comm.trans (List.Perm.append_left _ (.refl _)))
end Lw
namespace Lw
open PySem PySem.Spec PyProof.Rows L2 Z
open Sf (Rw crs Srt Pre Good a0l a0K place many)
open Fl (kd ids Walk a5Z tls pc a0n Pt Bf srt a1C Hex tS tl' tm)
def ltP (t u:Int × Int):Prop:=t.1 < u.1 \/ (t.1=u.1/\t.2 < u.2)
theorem inP_up (ks:List Int) (a:Int):∀ i b,(inP ks a i b).Pairwise ltP
 | 0,_=>.nil
 | i + 1,b=>by
  rw [inP]
  refine List.pairwise_append.mpr ⟨?_,inP_up ks a i (b + 1),fun t ht u hu=>?_⟩
  ·split
   ·exact .nil
   ·exact List.pairwise_singleton _ _
  ·have h2:=(inP_mem ks a i (b + 1) u).mp hu
   split at ht
   ·cases ht
   ·rw [List.mem_singleton] at ht
    subst ht
    exact .inr ⟨h2.1.symm,by have:=h2.2.1; dsimp only; ac_rfl⟩
theorem outP_up (ks:List Int):∀ i a,a + i=ks.length->(outP ks i a).Pairwise ltP
 | 0,_,_=>.nil
 | i + 1,a,h=>by
  rw [outP]
  refine List.pairwise_append.mpr ⟨inP_up ..,outP_up ks i (a + 1) (by ac_rfl),fun t ht u hu=>.inl ?_⟩
  have h1:=((inP_mem ks a _ _ t).mp ht).1
  have h2:=((outP_mem ks i (a + 1) u (by ac_rfl)).mp hu).1
  ac_rfl
theorem pairs_up (ks:List Int):(a5M ks).Pairwise ltP:=outP_up ks ks.length 0 (by ac_rfl)
noncomputable abbrev Th:=Int × Int × Int
noncomputable abbrev k3 (t:Th):List Int:=[t.1,t.2.1,t.2.2]
theorem inT_up (ks:List Int) (a b:Int):∀ (i c:Nat),(inT ks a b i c).Pairwise fun t u=>a6n (k3 t) (k3 u)=true
 | 0,c=>.nil
 | i + 1,c=>by
  rw [inT]
  refine List.pairwise_append.mpr ⟨by split <;> simp,inT_up ks a b i (c + 1),fun t ht u hu=>?_⟩
  obtain ⟨e1,e2,e3,_⟩:=a7I _ _ _ _ _ _ hu
  split at ht
  ·cases ht
  ·rw [List.mem_singleton.mp ht]
   simp [a6n,e1,e2]
   ac_rfl
theorem threes_up (ks:List Int):(a0k ks).Pairwise fun t u=>a6n (k3 t) (k3 u)=true:=by
 unfold a0k a2l
 rw [List.pairwise_flatMap]
 refine ⟨fun t _=>inT_up _ _ _ _ _,(pairs_up ks).imp fun {a b} h x hx y hy=>?_⟩
 obtain ⟨e1,e2,_⟩:=a7I _ _ _ _ _ _ hx
 obtain ⟨f1,f2,_⟩:=a7I _ _ _ _ _ _ hy
 unfold ltP at h
 simp only [a6n,e1,e2,f1,f2]
 rcases h with h | ⟨h,h2⟩
 ·rw [if_neg (by ac_rfl)]
  exact decide_eq_true h
 ·rw [if_pos h,if_neg (by ac_rfl)]
  exact decide_eq_true h2
theorem not_c {B:List Th} {Q:R->Prop}:∀ (l acc:List Th),acc.length + l.length<=10000->Q (.nw (.lst (thD (acc ++ l.filter fun t=>!decide (t ∈ B))))) ->
  a1T [.un,.v (.lst (thD B))] (gN 0) (a0y (eOp a1O (a0d 0) (a0d 1))) (a0d 0) (thD l) (thD acc) Q:=by
 intro l
 induction l with
 | nil=>
  intro acc _ h
  rw [show thD []=[] from rfl,a2L]
  simpa using h
 | cons t l ih=>
  intro acc hl h
  simp only [List.length_cons] at hl
  rw [show thD (t :: l)=.tup [.int t.1,.int t.2.1,.int t.2.2] :: thD l from rfl]
  push_cast [a1O,in_th,List.length_map]
  refine ⟨⟨rfl,okDs_th B⟩,?_⟩
  by_cases z:t ∈ B
  ·rw [decide_eq_true z,if_neg (by decide)]
   rw [List.filter_cons_of_neg (by simpa using z)] at h
   exact ih _ (by ac_rfl) h
  ·rw [decide_eq_false z,if_pos (by decide)]
   refine ⟨by ac_rfl,?_⟩
   rw [show thD acc ++ [Dv.tup [Dv.int t.1,Dv.int t.2.1,Dv.int t.2.2]]=thD (acc ++ [t]) by simp]
   rw [List.filter_cons_of_pos (by simpa using z)] at h
   exact ih _ (by simp; ac_rfl) (by simpa using h)
theorem thD_tI (l:List Th):thD l=(l.map fun t=>(k3 t,([]:List Dv))).map tI:=by rw [List.map_map]; rfl
noncomputable def upB (l:List Ti) (t:Int × Int × Int):Bool:=decide (t.2.1 ∈ mOf l t.1 t.2.2)
theorem up_c {ks:List Int} {fl:List Ti} {Q:R->Prop} (cov:Cov ks fl) (mono:Mono ks):∀ (l acc:List (Int × Int × Int)),(∀ t ∈ l,t ∈ a0k ks)->acc.length + l.length<=10000->Q (.nw (.lst (thD (acc ++ l.filter (upB fl))))) ->
  a1T [.un,.v (.dit (dcD fl))] (gN 0) (a0y (eOp pIn (eOp pIx (a0d 0) (eC (.int 1))) (eOp pIx (a0d 1) (a2f (a0a (eOp pIx (a0d 0) (eC (.int 0))) (a0a (eOp pIx (a0d 0) (eC (.int 2))) a0i)))))) (a0d 0) (thD l) (thD acc) Q:=by
 intro l
 induction l with
 | nil=>
  intro acc _ _ h
  rw [show thD []=[] from rfl,a2L]
  simpa using h
 | cons t l ih=>
  intro acc hm hl h
  simp only [List.length_cons] at hl
  obtain ⟨m1,m2,m3,m4,m5,m6⟩:=a4L (hm t (by simp))
  have k1:=mono t.1 t.2.1 m1 (by ac_rfl) (by ac_rfl)
  have k2:=mono t.2.1 t.2.2 (by ac_rfl) (by ac_rfl) m4
  obtain ⟨u,hu,_,_,_,eu⟩:=a6Y (cov t.1 t.2.2 m1 (by ac_rfl) m4 (by ac_rfl))
  rw [show thD (t :: l)=.tup [.int t.1,.int t.2.1,.int t.2.2] :: thD l from rfl]
  push_cast [a6s,hu,Option.map_some,pIn,in_ns,List.length_map]
  refine ⟨⟨ok_i _ _,a8c _ _⟩,?_⟩
  rw [<- eu]
  have e:upB fl t=decide (t.2.1 ∈ mOf fl t.1 t.2.2):=rfl
  by_cases z:t.2.1 ∈ mOf fl t.1 t.2.2
  ·rw [if_pos z]
   refine ⟨by ac_rfl,?_⟩
   rw [show thD acc ++ [Dv.tup [Dv.int t.1,Dv.int t.2.1,Dv.int t.2.2]]=thD (acc ++ [t]) by simp]
   rw [List.filter_cons_of_pos (by rw [e]; simpa using z)] at h
   exact ih _ (fun t ht=>hm t (List.mem_cons_of_mem _ ht)) (by simp; ac_rfl) (by simpa using h)
  ·rw [if_neg z]
   rw [List.filter_cons_of_neg (by rw [e]; simpa using z)] at h
   exact ih _ (fun t ht=>hm t (List.mem_cons_of_mem _ ht)) (by ac_rfl) h
theorem a7C {l:List Ti} (k:Keys l) {x y:Int} {z:List Int} (h:(x,y,z) ∈ l):mOf l x y=z:=by
 obtain ⟨t,_,ht,e1,e2,e3⟩:=a6Y (l:=l) (a:=x) (c:=y) ⟨_,h,rfl,rfl⟩
 have:=k.one ht h ⟨e1,e2⟩
 rw [e3,this]
theorem nw_oth {fl:List Ti} {t:Int × Int × Int}:(nwT fl t).filter (othB t)=[]:=by
 rw [List.filter_eq_nil_iff]
 intro u hu
 have m:(u.1,u.2.1) ∈ (nwT fl t).map (fun x=>(x.1,x.2.1)):=List.mem_map_of_mem hu
 rw [nw_keys] at m
 simp only [List.mem_cons,List.not_mem_nil,or_false,Prod.mk.injEq] at m
 unfold othB
 simp only [Bool.or_eq_true,decide_eq_true_eq,List.mem_cons,List.not_mem_nil,or_false,not_or]
 ac_rfl
theorem a3A {x:Int} {l:List Int}:x ∈ srt l ↔ x ∈ l:=(Fl.a1D l).mem_iff
structure Nw (fl:List Ti) (a b c:Int) (S:List Int) (u:Bool):Prop where
 o1:mOf fl a b=if u then S else srt (S ++ [c])
 o2:mOf fl a c=if u then srt (S ++ [b]) else S
 o3:mOf fl b c=if u then S else srt (S ++ [a])
 n1:mOf (flF fl (a,b,c)) a b=if u then srt (S ++ [c]) else S
 n2:mOf (flF fl (a,b,c)) a c=if u then S else srt (S ++ [b])
 n3:mOf (flF fl (a,b,c)) b c=if u then srt (S ++ [a]) else S
 na:a ∉ S
 nb:b ∉ S
 nc:c ∉ S
theorem nw_of {ks:List Int} {fl:List Ti} (F:IsF ks fl) {a b c:Int} (t3:(a,b,c) ∈ a0k ks) (hx:a7d fl (a,b,c)):∃ S u,Nw fl a b c S u:=by
 obtain ⟨F',T⟩:=F.flip t3 hx
 have K:=F'.key
 have P:=a4S F.fl5 T.ab T.bc t3
 have mem:∀ x ∈ nwT fl (a,b,c),x ∈ flF fl (a,b,c):=fun x hx=>P.mem_iff.mpr (List.mem_append_right _ hx)
 by_cases u:UpH fl (a,b,c)
 ·have u1:mOf fl b c=mOf fl a b:=u.1
  have u2:mOf fl a c=srt (mOf fl a b ++ [b]):=u.2
  rw [nwT,if_pos u] at mem
  refine ⟨mOf fl a b,true,rfl,u2,u1,?_,?_,?_,T.a1,T.b1,u1 ▸ T.c3⟩
  ·exact a7C K (mem (a,b,srt (mOf fl a b ++ [c])) (by simp [dnT]))
  ·exact a7C K (mem (a,c,mOf fl a b) (by simp [dnT]))
  ·exact a7C K (mem (b,c,srt (mOf fl a b ++ [a])) (by simp [dnT]))
 ·have dn:DnH fl (a,b,c):=(show UpH fl (a,b,c) \/ DnH fl (a,b,c) from hx).resolve_left u
  have u1:mOf fl a b=srt (mOf fl a c ++ [c]):=dn.1
  have u3:mOf fl b c=srt (mOf fl a c ++ [a]):=dn.2
  rw [nwT,if_neg u] at mem
  refine ⟨mOf fl a c,false,u1,rfl,u3,?_,?_,?_,T.a2,fun z=>T.b1 (by rw [u1,a3A]; exact List.mem_append_left _ z),T.c2⟩
  ·exact a7C K (mem (a,b,mOf fl a c) (by simp [upT]))
  ·exact a7C K (mem (a,c,srt (mOf fl a c ++ [b])) (by simp [upT]))
  ·exact a7C K (mem (b,c,mOf fl a c) (by simp [upT]))
theorem IsF.back {ks:List Int} {fl:List Ti} (F:IsF ks fl) {a b c:Int} (t3:(a,b,c) ∈ a0k ks) (hx:a7d fl (a,b,c)):a7d (flF fl (a,b,c)) (a,b,c)/\flF (flF fl (a,b,c)) (a,b,c)=fl:=by
 obtain ⟨F',T⟩:=F.flip t3 hx
 obtain ⟨S,u,N⟩:=nw_of F t3 hx
 have fo:((flF fl (a,b,c)).filter (othB (a,b,c))).Perm (fl.filter (othB (a,b,c))):=by
  have:=(a4S F.fl5 T.ab T.bc t3).filter (othB (a,b,c))
  rw [List.filter_append,nw_oth,List.append_nil,List.filter_filter] at this
  simpa using this
 have bk:nwT (flF fl (a,b,c)) (a,b,c)=[(a,b,mOf fl a b),(a,c,mOf fl a c),(b,c,mOf fl b c)]->flF (flF fl (a,b,c)) (a,b,c)=fl:=fun h=>by
  have p1:=a4S F'.fl5 T.ab T.bc t3
  rw [h] at p1
  have p2:=a4T (othB (a,b,c)) fl
  rw [a8M F.fl5 T.ab T.bc t3] at p2
  exact uniq_2 (p1.trans ((fo.append_right _).trans p2)) (flF_up F'.up) F.up
 cases u with
 | true=>
  have o1:mOf fl a b=S:=N.o1
  have o2:mOf fl a c=srt (S ++ [b]):=N.o2
  have o3:mOf fl b c=S:=N.o3
  have n1:mOf (flF fl (a,b,c)) a b=srt (S ++ [c]):=N.n1
  have n2:mOf (flF fl (a,b,c)) a c=S:=N.n2
  have n3:mOf (flF fl (a,b,c)) b c=srt (S ++ [a]):=N.n3
  have no:¬ UpH (flF fl (a,b,c)) (a,b,c):=fun z=>by
   have z1:mOf (flF fl (a,b,c)) b c=mOf (flF fl (a,b,c)) a b:=z.1
   rw [n3,n1] at z1
   have:c ∈ srt (S ++ [a]):=by rw [z1,a3A]; simp
   rw [a3A,List.mem_append,List.mem_singleton] at this
   have hab:=T.ab
   have hbc:=T.bc
   rcases this with h | h
   ·exact N.nc h
   ·ac_rfl
  refine ⟨.inr ⟨?_,?_⟩,bk ?_⟩
  ·show mOf (flF fl (a,b,c)) a b=srt (mOf (flF fl (a,b,c)) a c ++ [c])
   rw [n1,n2]
  ·show mOf (flF fl (a,b,c)) b c=srt (mOf (flF fl (a,b,c)) a c ++ [a])
   rw [n3,n2]
  ·rw [nwT,if_neg no,o1,o2,o3]
   show upT a b c (mOf (flF fl (a,b,c)) a c)=_
   rw [n2]
   rfl
 | false=>
  have o1:mOf fl a b=srt (S ++ [c]):=N.o1
  have o2:mOf fl a c=S:=N.o2
  have o3:mOf fl b c=srt (S ++ [a]):=N.o3
  have n1:mOf (flF fl (a,b,c)) a b=S:=N.n1
  have n2:mOf (flF fl (a,b,c)) a c=srt (S ++ [b]):=N.n2
  have n3:mOf (flF fl (a,b,c)) b c=S:=N.n3
  have yes:UpH (flF fl (a,b,c)) (a,b,c):=by
   refine ⟨?_,?_⟩
   ·show mOf (flF fl (a,b,c)) b c=mOf (flF fl (a,b,c)) a b
    rw [n3,n1]
   ·show mOf (flF fl (a,b,c)) a c=srt (mOf (flF fl (a,b,c)) a b ++ [b])
    rw [n2,n1]
  refine ⟨.inl yes,bk ?_⟩
  rw [nwT,if_pos yes,o1,o2,o3]
  show dnT a b c (mOf (flF fl (a,b,c)) a b)=_
  rw [n1]
  rfl
theorem up_dif {ks:List Int} {fl:List Ti} (F:IsF ks fl) {a b c:Int} (t3:(a,b,c) ∈ a0k ks) (hx:a7d fl (a,b,c)):upB (flF fl (a,b,c)) (a,b,c) = !upB fl (a,b,c):=by
 obtain ⟨S,u,N⟩:=nw_of F t3 hx
 have nb:=N.nb
 show decide (b ∈ mOf (flF fl (a,b,c)) a c) = !decide (b ∈ mOf fl a c)
 rw [N.n2,N.o2]
 cases u with
 | true=>simp [a3A,nb]
 | false=>simp [a3A,nb]
theorem up_sam {ks:List Int} {fl:List Ti} (F:IsF ks fl) {a b c:Int} (t3:(a,b,c) ∈ a0k ks) (hx:a7d fl (a,b,c)) {t:Int × Int × Int} (ht:t ∈ a0k ks) (ne:t ≠ (a,b,c)):upB (flF fl (a,b,c)) t=upB fl t:=by
 obtain ⟨F',T⟩:=F.flip t3 hx
 obtain ⟨S,u,N⟩:=nw_of F t3 hx
 obtain ⟨x,y,z⟩:=t
 obtain ⟨m1,m2,m3,m4,m5,m6⟩:=a4L ht
 simp only at m1 m2 m3 m4 m5 m6
 have hab:=T.ab
 have hbc:=T.bc
 have h2:=(F.fl5.has _ ht).2.1.mem.1
 simp only at h2
 show decide (y ∈ mOf (flF fl (a,b,c)) x z)=decide (y ∈ mOf fl x z)
 refine decide_eq_decide.mpr ?_
 cases o:othB (a,b,c) (x,z,mOf fl x z) with
 | true=>
  have:(x,z,mOf fl x z) ∈ flF fl (a,b,c):=(a4S F.fl5 T.ab T.bc t3).mem_iff.mpr (List.mem_append_left _ (List.mem_filter.mpr ⟨h2,o⟩))
  rw [a7C F'.key this]
 | false=>
  unfold othB at o
  simp only [Bool.or_eq_false_iff,decide_eq_false_iff_not,List.mem_cons,List.not_mem_nil,or_false,Classical.not_not] at o
  have k:(x=a/\z=b) \/ (x=a/\z=c) \/ (x=b/\z=c):=by ac_rfl
  have yb:¬ (x=a/\y=b/\z=c):=fun q=>ne (by rw [q.1,q.2.1,q.2.2])
  rcases k with ⟨rfl,rfl⟩ | ⟨rfl,rfl⟩ | ⟨rfl,rfl⟩
  ·rw [N.n1,N.o1]
   cases u <;> simp [a3A] <;> ac_rfl
  ·rw [N.n2,N.o2]
   cases u <;> simp [a3A] <;> ac_rfl
  ·rw [N.n3,N.o3]
   cases u <;> simp [a3A] <;> ac_rfl
theorem thr_nd (ks:List Int):(a0k ks).Nodup:=(threes_up ks).imp fun {t u} h z=>by
 rw [z,a4c] at h
 cases h
theorem filt_one {α:Type} {f:α->Bool} {t:α}:∀ {l:List α},l.Nodup->t ∈ l->(∀ x ∈ l,x ≠ t->f x=false)->f t=true->l.filter f=[t]
 | x :: l,nd,h,a,b=>by
  obtain ⟨n1,n2⟩:=List.nodup_cons.mp nd
  by_cases e:x=t
  ·subst e
   rw [List.filter_cons,if_pos b,show l.filter f=[] by
    rw [List.filter_eq_nil_iff]
    intro y hy z
    rw [a y (List.mem_cons_of_mem _ hy) fun q=>n1 (q ▸ hy)] at z
    cases z]
  ·rw [List.filter_cons,if_neg (by rw [a x (List.mem_cons_self ..) e]; decide)]
   exact filt_one n2 ((List.mem_cons.mp h).resolve_left fun z=>e z.symm) (fun y hy=>a y (List.mem_cons_of_mem _ hy)) b
theorem dif_list {ks:List Int} {p q:Int × Int × Int->Bool} {t:Int × Int × Int} (ht:t ∈ a0k ks) (h1:q t = !p t) (h2:∀ x ∈ a0k ks,x ≠ t->q x=p x):
  (((a0k ks).filter p).filter fun x=>!decide (x ∈ (a0k ks).filter q)) ++ (((a0k ks).filter q).filter fun x=>!decide (x ∈ (a0k ks).filter p))=[t]:=by
 have f:∀ (p q:Int × Int × Int->Bool),((a0k ks).filter p).filter (fun x=>!decide (x ∈ (a0k ks).filter q))=(a0k ks).filter fun x=>p x && !q x:=fun p q=>by
  rw [List.filter_filter]
  refine List.filter_congr fun x hx=>?_
  rw [show decide (x ∈ (a0k ks).filter q)=q x by rw [Bool.eq_iff_iff,decide_eq_true_eq,List.mem_filter]; exact ⟨fun z=>z.2,fun z=>⟨hx,z⟩⟩,Bool.and_comm]
 rw [f,f]
 have no:∀ (p q:Int × Int × Int->Bool),(p t && !q t)=false->(∀ x ∈ a0k ks,x ≠ t->q x=p x)->(a0k ks).filter (fun x=>p x && !q x)=[]:=fun p q a b=>by
  rw [List.filter_eq_nil_iff]
  intro x hx z
  by_cases e:x=t
  ·rw [e,a] at z
   cases z
  ·rw [b x hx e] at z
   cases h:p x <;> rw [h] at z <;> cases z
 cases hp:p t with
 | true=>
  rw [hp] at h1
  rw [filt_one (f:=fun x=>p x && !q x) (thr_nd ks) ht (fun x hx e=>by show (p x && !q x)=false; rw [h2 x hx e]; cases p x <;> rfl) (by show (p t && !q t)=true; rw [hp,h1]; rfl),no q p (by rw [h1]; rfl) fun x hx e=>(h2 x hx e).symm]
  rfl
 | false=>
  rw [hp] at h1
  rw [no p q (by rw [hp]; rfl) h2,filt_one (f:=fun x=>q x && !p x) (thr_nd ks) ht (fun x hx e=>by show (q x && !p x)=false; rw [h2 x hx e]; cases p x <;> rfl) (by show (q t && !p t)=true; rw [hp,h1]; rfl)]
  rfl
end Lw
namespace Lw
open PySem PySem.Spec PyProof.Rows L2 Z
open Sf (Rw crs Srt Pre Good a0l a0K place many)
open Fl (kd ids Walk a5Z tls pc a0n Pt Bf srt a1C Hex tS tl' tm)
def sp_kof:Fn:=fun ds Q=>∃ fl:List Ti,ds=[.lst (flD fl)]/\Q (.v (.bl true))
theorem len_kof:∀ ds Q,sp_kof ds Q->ds.length=1:=by rintro ds Q ⟨_,rfl,_⟩; rfl
theorem mo_kof:MonoF sp_kof:=⟨fun ds Q Q' w z=>by obtain ⟨a,b,c⟩:=z; exact ⟨a,b,w _ c⟩⟩
theorem kof_0 {x0:Sl} {E:En} (h:∀ s,E.nx [x0,s]):∀ (fl:List Ti) (s:Sl),a1c (gN 1) (a2c sp_lw a3M) [] (flD fl) E [x0,s]:=by
 intro fl
 induction fl with
 | nil=>
  intro s
  rw [show flD []=[] from rfl,a0Q]
  exact ⟨fun p hp=>by simp at hp,h _⟩
 | cons t fl ih=>
  intro s
  rw [show flD (t :: fl)=tiD t :: flD fl from rfl,a0T]
  refine ⟨fun p hp=>by simp at hp,?_⟩
  have nx:=fun s=>ih s
  generalize a1c (gN 1) (a2c sp_lw a3M) [] (flD fl) E=G at nx ⊢
  push_cast [a2c]
  refine ⟨rfl,?_⟩
  refine ⟨t.1,rfl,?_⟩
  ac_nf
  refine ⟨t.2.1,rfl,?_⟩
  ac_nf
  refine ⟨t.2.2,rfl,?_⟩
  ac_nf
  exact nx _
theorem a8a:∀ ds Q,sp_kof ds Q->a3D sp_lw a3M { nx:=fun _=>Q (.v .non),rt:=Q } (a0m ["_law_tiles", "_law_tile"] ds):=by
 rintro ds Q ⟨fl,rfl,q⟩
 ac_nf
 refine ⟨rfl,kof_0 (fun s=>?_) fl _⟩
 ac_nf
 exact q
def a8n:Fn:=fun ds Q=>∃ (ks:List Int) (fl:List Ti),ds=[.lst (nsD ks),.lst (flD fl)]/\IsF ks fl/\Q (.nw (.lst (thD ((a0k ks).filter (upB fl)))))
theorem len_lup:∀ ds Q,a8n ds Q->ds.length=2:=by rintro ds Q ⟨_,_,rfl,_⟩; rfl
theorem mo_lup:MonoF a8n:=⟨fun ds Q Q' w z=>by obtain ⟨a,b,c,d,e⟩:=z; exact ⟨a,b,c,d,w _ e⟩⟩
theorem IsF.cov {ks:List Int} {fl:List Ti} (F:IsF ks fl):Cov ks fl:=by
 obtain ⟨row,e,w,d,rl,p⟩:=F.row
 exact (a7K p).cov w d F.mo
theorem p_law_up:∀ ds Q,a8n ds Q->a8O a1g a4l { nx:=fun _=>Q (.v .non),rt:=Q } (a0m ["_law_bands_here", "_law_tiles", "_law_belows_here"] ds):=by
 rintro ds Q ⟨ks,fl,rfl,F,q⟩
 have tl:=a3U F.n12
 have fl6:=F.len
 have n2:=F.n2
 ac_nf
 refine ⟨fl,rfl,by ac_rfl,F.key,?_⟩
 ac_nf
 refine ⟨ks,rfl,by ac_rfl,F.n12,F.mo,?_⟩
 ac_nf
 exact up_c F.cov F.mo (a0k ks) [] (fun t ht=>ht) (by simp; ac_rfl) q
theorem flp {C:Addr} {rows:List Rw} {fl:List Ti} {a b c:Int} (F:IsF (a0l rows) fl) (t3:(a,b,c) ∈ a0k (a0l rows)) (hx:a7d fl (a,b,c)) {Q:R->Prop} (q:Q (.nw (.lst (flD (flF fl (a,b,c)))))):a4v C [a0V C rows,.lst (flD fl),.tup [.int a,.int b,.int c]] Q:=
 ⟨rows,fl,a,b,c,rfl,F.fl5,(F.flip t3 hx).2.ab,(F.flip t3 hx).2.bc,t3,hx,q⟩
theorem a6X:∀ l:List Dv,(∀ d ∈ l,a4Z d=true)->flatDs l=true
 | [],_=>rfl
 | d :: r,h=>by
  show (a4Z d && flatDs r)=true
  rw [h d (List.mem_cons_self ..),a6X r fun x hx=>h x (List.mem_cons_of_mem _ hx)]
  rfl
theorem flat_ns (l:List Int):flatDs (nsD l)=true:=a6X _ fun d hd=>by
 obtain ⟨x,_,rfl⟩:=List.mem_map.mp hd
 rfl
theorem flO_th (l:List (Int × Int × Int)):flatO (.lst (thD l))=true:=a6X _ fun d hd=>by
 obtain ⟨x,_,rfl⟩:=List.mem_map.mp hd
 rfl
theorem flO_fl (l:List Ti):flatO (.lst (flD l))=true:=a6X _ fun d hd=>by
 obtain ⟨x,_,rfl⟩:=List.mem_map.mp hd
 show (true && (true && (flatDs (nsD x.2.2) && true)))=true
 rw [flat_ns]
 rfl
theorem fs_1 {C:Addr} {rows:List Rw} {fl:List Ti} {a b c:Int} (F:IsF (a0l rows) fl) (t3:(a,b,c) ∈ a0k (a0l rows)) (hx:a7d fl (a,b,c)) {tl:TSp} {E:En} {x6 x7 x8:Sl} (h:tl E [.v (a0V C rows),.v (.lst (nsD (a0l rows))),.v (.lst (flD fl)),.v (.tup [.int a,.int b,.int c]),.v (.lst (flD (flF fl (a,b,c)))),.v (.lst (flD fl)),x6,x7,x8]):
  (a0z (a1l 4 (a0t sp_beh (a0a (a0d 2) (a0a (a0d 3) (a0a (a0t a5p (a0a (a0t a1g (a0a (a0d 2) a0i)) (a0a (a0d 3) a0i))) a0i))))) (a0z (a1l 5 (eCB a5P (a0a (a0d 2) a0i))) tl)) E [.v (a0V C rows),.v (.lst (nsD (a0l rows))),.v (.lst (flD fl)),.v (.tup [.int a,.int b,.int c]),.un,.un,x6,x7,x8]:=by
 have T:=(F.flip t3 hx).2
 have fl6:=F.len
 obtain ⟨g1,g2,g3⟩:=F.fl5.has _ t3
 simp only at g1 g2 g3
 ac_nf
 refine ⟨fl,rfl,by ac_rfl,F.key,?_⟩
 ac_nf
 refine ⟨fl,a,b,c,rfl,g1,g2,g3,fun _=>?_,fun z=>absurd hx z⟩
 ac_nf
 have lw:(a,b,mOf fl a b) ∈ fl/\(a,c,mOf fl a c) ∈ fl:=⟨g1.mem.1,g2.mem.1⟩
 refine ⟨fl,a,b,c,rfl,by ac_rfl,T.ab,T.bc,?_,?_,?_⟩
 ·unfold lowB
  split
  ·exact F.fl5.so _ lw.1
  ·exact F.fl5.so _ lw.2
 ·unfold lowB
  split
  ·exact g1.mem.2
  ·exact g2.mem.2
 ·ac_nf
  exact h
theorem fs_2 {C:Addr} {rows:List Rw} {fl:List Ti} {a b c:Int} (F:IsF (a0l rows) fl) (t3:(a,b,c) ∈ a0k (a0l rows)) (hx:a7d fl (a,b,c)) {tl:TSp} {E:En} {x7 x8:Sl} (h:∀ ad,tl E [.v (a0V C rows),.v (.lst (nsD (a0l rows))),.v (.lst (flD fl)),.v (.tup [.int a,.int b,.int c]),.v (.lst (flD (flF fl (a,b,c)))),.v (.lst (flD fl)),.own ad (.lst (flD (flF fl (a,b,c)))),x7,x8]):
  (a0z (a5r 6 (a0t (a4v C) (a0a (a0d 0) (a0a (a0d 5) (a0a (a0d 3) a0i))))) tl) E [.v (a0V C rows),.v (.lst (nsD (a0l rows))),.v (.lst (flD fl)),.v (.tup [.int a,.int b,.int c]),.v (.lst (flD (flF fl (a,b,c)))),.v (.lst (flD fl)),.un,x7,x8]:=by
 ac_nf
 refine flp F t3 hx ?_
 ac_nf
 exact h
theorem fs_3 {C:Addr} {rows:List Rw} {fl:List Ti} {a b c:Int} (F:IsF (a0l rows) fl) (t3:(a,b,c) ∈ a0k (a0l rows)) (hx:a7d fl (a,b,c)) {tl:TSp} {E:En} {ad:Addr} {x7 x8:Sl} (h:tl E [.v (a0V C rows),.v (.lst (nsD (a0l rows))),.v (.lst (flD fl)),.v (.tup [.int a,.int b,.int c]),.v (.lst (flD (flF fl (a,b,c)))),.v (.lst (flD fl)),.own ad (.lst (flD (flF fl (a,b,c)))),x7,x8]):
  (a0z (sIf (eOr (a7W (a7V (a0t sp_kof (a0a (a0d 6) a0i)))) (eOr (a0y (eOp pNe (a0d 6) (a0d 4))) (eOr (a0y (eOp pNe (a0d 5) (a0d 2))) (a7W (a7V (a0t a7i (a0a (a0d 1) (a0a (a0d 6) a0i)))))))) (a1W (eC (.bl false))) a1e) tl) E [.v (a0V C rows),.v (.lst (nsD (a0l rows))),.v (.lst (flD fl)),.v (.tup [.int a,.int b,.int c]),.v (.lst (flD (flF fl (a,b,c)))),.v (.lst (flD fl)),.own ad (.lst (flD (flF fl (a,b,c)))),x7,x8]:=by
 obtain ⟨row,e,w,d,rl,p⟩:=(F.flip t3 hx).1.row
 ac_nf
 refine ⟨_,rfl,?_⟩
 push_cast [a7M,ok_fl,and_self,true_and,decide_true]
 refine ⟨.inr rfl,a0l rows,row,e,flF fl (a,b,c),rfl,F.n2,F.n12,w,d,rl,p,?_⟩
 ac_nf
 exact ⟨.inr rfl,h⟩
theorem fs_4 {C:Addr} {rows:List Rw} {fl:List Ti} {a b c:Int} (F:IsF (a0l rows) fl) (t3:(a,b,c) ∈ a0k (a0l rows)) (hx:a7d fl (a,b,c)) {tl:TSp} {E:En} {ad:Addr}  (h:tl E [.v (a0V C rows),.v (.lst (nsD (a0l rows))),.v (.lst (flD fl)),.v (.tup [.int a,.int b,.int c]),.v (.lst (flD (flF fl (a,b,c)))),.v (.lst (flD fl)),.own ad (.lst (flD (flF fl (a,b,c)))),.v (.lst (thD ((a0k (a0l rows)).filter (upB fl)))),.v (.lst (thD ((a0k (a0l rows)).filter (upB (flF fl (a,b,c))))))]):
  (a0z (a1l 7 (a0t a8n (a0a (a0d 1) (a0a (a0d 2) a0i)))) (a0z (a1l 8 (a0t a8n (a0a (a0d 1) (a0a (a0d 6) a0i)))) tl)) E [.v (a0V C rows),.v (.lst (nsD (a0l rows))),.v (.lst (flD fl)),.v (.tup [.int a,.int b,.int c]),.v (.lst (flD (flF fl (a,b,c)))),.v (.lst (flD fl)),.own ad (.lst (flD (flF fl (a,b,c)))),.un,.un]:=by
 have F':=(F.flip t3 hx).1
 ac_nf
 refine ⟨a0l rows,fl,rfl,F,?_⟩
 ac_nf
 refine ⟨a0l rows,_,rfl,F',?_⟩
 ac_nf
 exact ⟨.inr (flO_th _),h⟩
theorem fs_5 {C:Addr} {rows:List Rw} {fl:List Ti} {a b c:Int} (F:IsF (a0l rows) fl) (t3:(a,b,c) ∈ a0k (a0l rows)) (hx:a7d fl (a,b,c)) {tl:TSp} {E:En} {ad:Addr} (h:tl E [.v (a0V C rows),.v (.lst (nsD (a0l rows))),.v (.lst (flD fl)),.v (.tup [.int a,.int b,.int c]),.v (.lst (flD (flF fl (a,b,c)))),.v (.lst (flD fl)),.own ad (.lst (flD (flF fl (a,b,c)))),.v (.lst (thD ((a0k (a0l rows)).filter (upB fl)))),.v (.lst (thD ((a0k (a0l rows)).filter (upB (flF fl (a,b,c))))))]):
  (a0z (sIf (a0y (eOp pNe (eCB a1z (a0a (eOp a2Y (a3s 1 [8] (a6L (a0d 7)) (gN 0) (a0y (eOp a1O (a0d 0) (a0d 1))) (a0d 0)) (a3s 1 [7] (a6L (a0d 8)) (gN 0) (a0y (eOp a1O (a0d 0) (a0d 1))) (a0d 0))) a0i)) (a5a (a0a (a0d 3) a0i)))) (a1W (eC (.bl false))) a1e) tl) E [.v (a0V C rows),.v (.lst (nsD (a0l rows))),.v (.lst (flD fl)),.v (.tup [.int a,.int b,.int c]),.v (.lst (flD (flF fl (a,b,c)))),.v (.lst (flD fl)),.own ad (.lst (flD (flF fl (a,b,c)))),.v (.lst (thD ((a0k (a0l rows)).filter (upB fl)))),.v (.lst (thD ((a0k (a0l rows)).filter (upB (flF fl (a,b,c))))))]:=by
 have T:=a3U F.n12
 have l1:=List.length_filter_le (upB fl) (a0k (a0l rows))
 have l2:=List.length_filter_le (upB (flF fl (a,b,c))) (a0k (a0l rows))
 have dl:=dif_list (p:=upB fl) (q:=upB (flF fl (a,b,c))) t3 (up_dif F t3 hx) fun x hx' e=>up_sam F t3 hx hx' e
 ac_nf
 refine not_c _ [] (by simp; ac_rfl) ?_
 ac_nf
 refine not_c _ [] (by simp; ac_rfl) ?_
 ac_nf
 rw [<- List.length_append,<- List.map_append,dl]
 refine ⟨show (1:Nat)<=1000000 by decide,?_⟩
 rw [show ([(a,b,c)].map fun t:Int × Int × Int=>Dv.tup [Dv.int t.1,Dv.int t.2.1,Dv.int t.2.2])=([(k3 (a,b,c),([]:List Dv))]:List (List Int × List Dv)).map tI from rfl]
 refine a7y (k:=2) (show (1:Nat) < 64 by decide) (fun t ht=>?_) (List.pairwise_singleton _ _) fun ts' hp _=>?_
 ·rw [List.mem_singleton.mp ht]
  rfl
 ·rw [show ts'=[(k3 (a,b,c),([]:List Dv))] from List.perm_singleton.mp hp,show ([(k3 (a,b,c),([]:List Dv))]:List (List Int × List Dv)).map tI=thD [(a,b,c)] from rfl]
  ac_nf
  refine ⟨⟨ok_th [(a,b,c)],ok_th [(a,b,c)]⟩,?_⟩
  rw [show eqD (Dv.lst [Dv.tup [Dv.int a,Dv.int b,Dv.int c]]) (Dv.lst [Dv.tup [Dv.int a,Dv.int b,Dv.int c]])=decide ([(a,b,c)]=[(a,b,c)]) from eqD_thm [(a,b,c)] [(a,b,c)],decide_eq_true rfl]
  exact iteF h
theorem fs_6 {C:Addr} {rows:List Rw} {fl:List Ti} {a b c:Int} (F:IsF (a0l rows) fl) (t3:(a,b,c) ∈ a0k (a0l rows)) (hx:a7d fl (a,b,c)) {tl:TSp} {E:En} {ad:Addr} (h:tl E [.v (a0V C rows),.v (.lst (nsD (a0l rows))),.v (.lst (flD fl)),.v (.tup [.int a,.int b,.int c]),.v (.lst (flD (flF fl (a,b,c)))),.v (.lst (flD fl)),.own ad (.lst (flD (flF fl (a,b,c)))),.v (.lst (thD ((a0k (a0l rows)).filter (upB fl)))),.v (.lst (thD ((a0k (a0l rows)).filter (upB (flF fl (a,b,c))))))]):
  (a0z (sIf (eOr (a0y (eOp pNe (a0t (a4v C) (a0a (a0d 0) (a0a (a0d 6) (a0a (a0d 3) a0i)))) (a0d 2))) (a0y (eOp pNe (a0d 6) (a0d 4)))) (a1W (eC (.bl false))) a1e) tl) E [.v (a0V C rows),.v (.lst (nsD (a0l rows))),.v (.lst (flD fl)),.v (.tup [.int a,.int b,.int c]),.v (.lst (flD (flF fl (a,b,c)))),.v (.lst (flD fl)),.own ad (.lst (flD (flF fl (a,b,c)))),.v (.lst (thD ((a0k (a0l rows)).filter (upB fl)))),.v (.lst (thD ((a0k (a0l rows)).filter (upB (flF fl (a,b,c))))))]:=by
 have F':=(F.flip t3 hx).1
 obtain ⟨hx',bk⟩:=F.back t3 hx
 ac_nf
 refine flp F' t3 hx' ?_
 rw [bk]
 push_cast [a7M,ok_fl,and_self,true_and,decide_true]
 exact ⟨.inr (flO_fl _),h⟩
theorem fs_7 {C:Addr} {rows:List Rw} {fl:List Ti} {a b c:Int} (F:IsF (a0l rows) fl) (t3:(a,b,c) ∈ a0k (a0l rows)) (hx:a7d fl (a,b,c)) {E:En} {ad:Addr} (h:E.rt (.v (.bl true))):
  (a0z (a7k 6) (a1W (a6N (eOp pEq (a0t (a4v C) (a0a (a0d 0) (a0a (a0d 5) (a0a (a0d 3) a0i)))) (a0d 4)) (eOp pEq (a0d 5) (a0d 2))))) E [.v (a0V C rows),.v (.lst (nsD (a0l rows))),.v (.lst (flD fl)),.v (.tup [.int a,.int b,.int c]),.v (.lst (flD (flF fl (a,b,c)))),.v (.lst (flD fl)),.own ad (.lst (flD (flF fl (a,b,c)))),.v (.lst (thD ((a0k (a0l rows)).filter (upB fl)))),.v (.lst (thD ((a0k (a0l rows)).filter (upB (flF fl (a,b,c))))))]:=by
 ac_nf
 refine flp F t3 hx ?_
 push_cast [a7M,ok_fl,and_self,true_and,decide_true]
 exact h
def a3c (C:Addr):Fn:=fun ds Q=>∃ (rows:List Rw) (fl:List Ti) (a b c:Int),ds=[a0V C rows,.lst (nsD (a0l rows)),.lst (flD fl),.tup [.int a,.int b,.int c]]/\IsF (a0l rows) fl/\(a,b,c) ∈ a0k (a0l rows)/\a7d fl (a,b,c)/\Q (.v (.bl true))
theorem len_flips {C:Addr}:∀ ds Q,a3c C ds Q->ds.length=4:=by rintro ds Q ⟨_,_,_,_,_,rfl,_⟩; rfl
theorem mo_flips {C:Addr}:MonoF (a3c C):=⟨fun ds Q Q' w z=>by obtain ⟨a,b,c,d,e,f,g,h,i,j⟩:=z; exact ⟨a,b,c,d,e,f,g,h,i,w _ j⟩⟩
theorem p_law_flips {C:Addr}:∀ ds Q,a3c C ds Q->a5m a1g a5p sp_beh (a4v C) sp_kof a7i a8n { nx:=fun _=>Q (.v .non),rt:=Q } (a0m ["_law_sides_here", "_law_bands_here", "_law_tiles", "_law_three", "_law_due", "_law_handed", "_law_said", "_law_here", "_law_there"] ds):=by
 rintro ds Q ⟨rows,fl,a,b,c,rfl,F,t3,hx,q⟩
 exact fs_1 (C:=C) F t3 hx (fs_2 F t3 hx fun ad=>fs_3 F t3 hx (fs_4 F t3 hx (fs_5 F t3 hx (fs_6 F t3 hx (fs_7 F t3 hx q)))))
end Lw
namespace Lw
open PySem PySem.Spec PyProof.Rows L2 Z
open Sf (Rw crs Srt Pre Good a0l a0K place many)
open Fl (kd ids Walk a5Z tls pc a0n Pt Bf srt a1C Hex tS tl' tm)
theorem hex_c {fl:List Ti} {Q:R->Prop}:∀ (l acc:List (Int × Int × Int)),(∀ t ∈ l,Has fl t.1 t.2.1/\Has fl t.1 t.2.2/\Has fl t.2.1 t.2.2)->acc.length + l.length<=10000->Q (.nw (.lst (thD (acc ++ l.filter fun t=>decide (a7d fl t))))) ->
  a1T [.un,.v (.dit (dcD fl))] (gN 0) (a0y (eOp pNotN (a0t a5p (a0a (a0d 1) (a0a (a0d 0) a0i))) (eC .non))) (a0d 0) (thD l) (thD acc) Q:=by
 intro l
 induction l with
 | nil=>
  intro acc _ _ h
  rw [show thD []=[] from rfl,a2L]
  rw [List.filter_nil,List.append_nil] at h
  exact h
 | cons t l ih=>
  intro acc hm hl h
  rw [List.length_cons] at hl
  rw [show thD (t :: l)=.tup [.int t.1,.int t.2.1,.int t.2.2] :: thD l from rfl,a4h]
  have nx:=fun acc=>ih acc fun x hx=>hm x (List.mem_cons_of_mem _ hx)
  generalize a1T [.un,.v (.dit (dcD fl))] (gN 0) (a0y (eOp pNotN (a0t a5p (a0a (a0d 1) (a0a (a0d 0) a0i))) (eC .non))) (a0d 0) (thD l)=G at nx ⊢
  obtain ⟨g1,g2,g3⟩:=hm t (List.mem_cons_self ..)
  ac_nf
  refine ⟨fl,t.1,t.2.1,t.2.2,rfl,g1,g2,g3,fun hx=>?_,fun hx=>?_⟩
  ·unfold hxD
   push_cast [List.length_map]
   refine ⟨by ac_rfl,?_⟩
   rw [show thD acc ++ [Dv.tup [Dv.int t.1,Dv.int t.2.1,Dv.int t.2.2]]=thD (acc ++ [t]) by simp]
   rw [List.filter_cons,if_pos (decide_eq_true hx)] at h
   refine nx _ (by simp; ac_rfl) ?_
   rw [List.append_assoc]
   exact h
  ·ac_nf
   rw [List.filter_cons,if_neg (by rw [decide_eq_false hx]; decide)] at h
   exact nx _ (by ac_rfl) h
theorem isF_of {cs:List Nat} (C:Cnt cs) {row e:List Int} {fl:List Ti} (w:Walk (a0p 0 cs) (ids (a0p 0 cs).length) row e) (d:a5Z (a0p 0 cs) e) (rl:row.length<=60) (F:FlOf (a0p 0 cs) row fl) (u:Up2 fl):IsF (a0l (a0D 0 cs)) fl:=by
 rw [a6o]
 exact ⟨(cnt_len C).1,(cnt_len C).2,bands_Mono cs,u,row,e,w,d,rl,of_flOf F⟩
theorem la_1 {C:Addr} {ns:List Int} {k:Nat} {tl:TSp} {E:En} {x2 x3 x4 x5 x6 x7 x8:Sl} (h:∀ x2 cs,Cnt cs->tl E [.v (.scr ns),.v (.int k),x2,.v (.lst (nsD (a0l (a0D 0 cs)))),.v (a0V C (a0D 0 cs)),x5,x6,x7,x8]):
  (a0z (a1l 2 (a0t a2H (a0a (a0d 0) (a0a (a0d 1) a0i)))) (a0z (a1l 3 (a0t a2b (a0a (a0d 2) (a0a (eOp a2Y (eC (.int 8)) (eOp a4O (eC (.int 4)) (eCB pInt1 (a0a (a6N (eOp pEq (a0d 1) (eC (.int 0))) (eOp pEq (eOp a6a (eOp pDiv (a0d 2) (eC (.int 7))) (eC (.int 4))) (eC (.int 1)))) a0i)))) a0i)))) (a0z (a1l 4 (a0t (a1y C) (a0a (a0d 3) a0i))) tl))) E [.v (.scr ns),.v (.int k),x2,x3,x4,x5,x6,x7,x8]:=by
 ac_nf
 refine ⟨ns,k,rfl,by ac_rfl,fun c=>?_⟩
 have nx:∀ M:Int,6<=M->M<=12->a2b [.int c,.int M] (back [.v (.int c),.v (.int M)] fun r=>match r with | .v d=>a1y C [d] (back [.v d] fun r=>match r with | .v e=>tl E [.v (.scr ns),.v (.int k),.v (.int c),.v d,.v e,x5,x6,x7,x8] | .nw e=>tl E [.v (.scr ns),.v (.int k),.v (.int c),.v d,.v e,x5,x6,x7,x8] | .ow _ _=>False) | .nw d=>a1y C [d] (back [.v d] fun r=>match r with | .v e=>tl E [.v (.scr ns),.v (.int k),.v (.int c),.v d,.v e,x5,x6,x7,x8] | .nw e=>tl E [.v (.scr ns),.v (.int k),.v (.int c),.v d,.v e,x5,x6,x7,x8] | .ow _ _=>False) | .ow _ _=>False):=by
  intro M h6 h12
  refine ⟨c,M,rfl,h6,h12,fun cs hc=>?_⟩
  ac_nf
  refine ⟨cs,rfl,hc,?_⟩
  ac_nf
  have:=h (.v (.int c)) cs hc
  rw [a6o] at this
  exact this
 push_cast [pInt1_b]
 refine ite2 (fun _=>⟨sm_d (by split <;> decide) (by split <;> decide),nx _ (by split <;> decide) (by split <;> decide)⟩) fun _=>⟨sm_d (by decide) (by decide),nx 8 (by decide) (by decide)⟩
noncomputable abbrev dueL (rows:List Rw) (fl:List Ti):List (Int × Int × Int):=(a0k (a0l rows)).filter fun t=>decide (a7d fl t)
theorem la_2 {C:Addr} {ns:List Int} {k:Nat} {cs:List Nat} (hc:Cnt cs) {tl:TSp} {E:En} {x2 x8:Sl} {x5 x6 x7:Sl} (h:∀ fl x6,IsF (a0l (a0D 0 cs)) fl->tl E [.v (.scr ns),.v (.int k),x2,.v (.lst (nsD (a0l (a0D 0 cs)))),.v (a0V C (a0D 0 cs)),.v (.lst (flD fl)),x6,.v (.lst (thD (dueL (a0D 0 cs) fl))),x8]):
  (a0z (a1l 5 (a0t a2q (a0a (a0d 3) (a0a (a0t a4t (a0a (a0d 3) (a0a (a0t a2H (a0a (a0d 0) (a0a (eOp a2Y (a0d 1) (eC (.int 1))) a0i))) a0i))) a0i)))) (a0z (a1l 6 (a0t a1g (a0a (a0d 5) a0i))) (a0z (a1l 7 (a3s 1 [6] (a6L (a0t a4l (a0a (a0d 3) a0i))) (gN 0) (a0y (eOp pNotN (a0t a5p (a0a (a0d 1) (a0a (a0d 0) a0i))) (eC .non))) (a0d 0))) tl))) E [.v (.scr ns),.v (.int k),x2,.v (.lst (nsD (a0l (a0D 0 cs)))),.v (a0V C (a0D 0 cs)),x5,x6,x7,x8]:=by
 obtain ⟨n2,n12⟩:=cnt_len hc
 have kr:=a6o cs
 ac_nf
 refine ⟨ns,(k:Int) + 1,rfl,by ac_rfl,fun c=>?_⟩
 ac_nf
 refine ⟨a0p 0 cs,c,by rw [kr],n2,n12,cnt_pc hc,fun row e w d rl=>?_⟩
 ac_nf
 refine ⟨a0p 0 cs,row,e,by rw [kr],n12,w,rl,fun fl F u=>?_⟩
 have I:=isF_of hc w d rl F u
 have il:=I.len
 have tll:=a3U I.n12
 ac_nf
 refine ⟨fl,rfl,by ac_rfl,I.key,?_⟩
 ac_nf
 refine ⟨a0l (a0D 0 cs),rfl,by rw [kr]; ac_rfl,I.n12,I.mo,?_⟩
 ac_nf
 refine hex_c (a0k (a0l (a0D 0 cs))) [] I.fl5.has (by simp; ac_rfl) ?_
 exact h fl _ I
theorem la_3 {C:Addr} {ns:List Int} {k:Nat} {cs:List Nat} {fl:List Ti} (I:IsF (a0l (a0D 0 cs)) fl) {E:En} {x2 x6:Sl} (h:∀ x8,E.nx [.v (.scr ns),.v (.int k),x2,.v (.lst (nsD (a0l (a0D 0 cs)))),.v (a0V C (a0D 0 cs)),.v (.lst (flD fl)),x6,.v (.lst (thD (dueL (a0D 0 cs) fl))),x8]) (hp:0 < (dueL (a0D 0 cs) fl).length):∀ (i j:Nat) (x8:Sl),
  a1c (gN 8) (a7S a2H a2b (a1y C) a4t a2q a1g a4l a5p (a3c C)) [] (a0W j i) E [.v (.scr ns),.v (.int k),x2,.v (.lst (nsD (a0l (a0D 0 cs)))),.v (a0V C (a0D 0 cs)),.v (.lst (flD fl)),x6,.v (.lst (thD (dueL (a0D 0 cs) fl))),x8]:=by
 intro i
 induction i with
 | zero=>
  intro j x8
  rw [a1K,a0Q]
  exact ⟨fun p hp=>by simp at hp,h _⟩
 | succ i ih=>
  intro j x8
  rw [a1i,a0T]
  refine ⟨fun p hp=>by simp at hp,?_⟩
  rw [show ((j:Int) + 1)=((j + 1:Nat):Int) by ac_rfl]
  have nx:=fun x8=>ih (j + 1) x8
  generalize a1c (gN 8) (a7S a2H a2b (a1y C) a4t a2q a1g a4l a5p (a3c C)) [] (a0W ((j + 1:Nat):Int) i) E=G at nx ⊢
  push_cast [a7S,List.length_map]
  refine ⟨ns,(k:Int) + 2,rfl,by ac_rfl,fun c=>?_⟩
  push_cast [List.length_map]
  obtain ⟨q,eq,hq⟩:∃ q:Nat,(c + (j:Int)) % ((dueL (a0D 0 cs) fl).length:Int)=q/\q < (dueL (a0D 0 cs) fl).length:=⟨((c + (j:Int)) % ((dueL (a0D 0 cs) fl).length:Int)).toNat,by rw [Int.toNat_of_nonneg (Int.emod_nonneg _ (by ac_rfl))],by have:=Int.emod_lt_of_pos (c + (j:Int)) (show (0:Int) < ((dueL (a0D 0 cs) fl).length:Int) by ac_rfl); ac_rfl⟩
  have m:=List.getElem_mem hq
  have m':=List.mem_filter.mp m
  rw [eq,a4K (by ac_rfl) (by rw [List.length_map]; ac_rfl),Int.toNat_natCast,List.getElem?_map,List.getElem?_eq_getElem hq]
  generalize (dueL (a0D 0 cs) fl)[q]=t at m'
  obtain ⟨a,b,c⟩:=t
  refine ⟨by ac_rfl,a0D 0 cs,fl,a,b,c,rfl,I,m'.1,of_decide_eq_true m'.2,?_⟩
  ac_nf
  exact nx _
theorem law_0 {C:Addr} {ns:List Int} {E:En}:∀ (ks:List Nat) (x1 x2 x3 x4 x5 x6 x7 x8:Sl),(∀ x1 x2 x3 x4 x5 x6 x7 x8,E.nx [.v (.scr ns),x1,x2,x3,x4,x5,x6,x7,x8]) ->
  a1c (gN 1) (b_law_1 a2H a2b (a1y C) a4t a2q a1g a4l a5p (a3c C)) [] (ks.map fun (m:Nat)=>Dv.int (m:Int)) E [.v (.scr ns),x1,x2,x3,x4,x5,x6,x7,x8]:=by
 intro ks
 induction ks with
 | nil=>
  intro x1 x2 x3 x4 x5 x6 x7 x8 h
  rw [List.map_nil,a0Q]
  exact ⟨fun p hp=>by simp at hp,h _ _ _ _ _ _ _ _⟩
 | cons k ks ih=>
  intro x1 x2 x3 x4 x5 x6 x7 x8 h
  rw [List.map_cons,a0T]
  refine ⟨fun p hp=>by simp at hp,?_⟩
  have nx:=fun x1 x2 x3 x4 x5 x6 x7 x8=>ih x1 x2 x3 x4 x5 x6 x7 x8 h
  generalize a1c (gN 1) (b_law_1 a2H a2b (a1y C) a4t a2q a1g a4l a5p (a3c C)) [] (ks.map fun (m:Nat)=>Dv.int (m:Int)) E=G at nx ⊢
  show (a0z (a1l 2 (a0t a2H (a0a (a0d 0) (a0a (a0d 1) a0i)))) (a0z (a1l 3 (a0t a2b (a0a (a0d 2) (a0a (eOp a2Y (eC (.int 8)) (eOp a4O (eC (.int 4)) (eCB pInt1 (a0a (a6N (eOp pEq (a0d 1) (eC (.int 0))) (eOp pEq (eOp a6a (eOp pDiv (a0d 2) (eC (.int 7))) (eC (.int 4))) (eC (.int 1)))) a0i)))) a0i)))) (a0z (a1l 4 (a0t (a1y C) (a0a (a0d 3) a0i))) (a0z (a1l 5 (a0t a2q (a0a (a0d 3) (a0a (a0t a4t (a0a (a0d 3) (a0a (a0t a2H (a0a (a0d 0) (a0a (eOp a2Y (a0d 1) (eC (.int 1))) a0i))) a0i))) a0i)))) (a0z (a1l 6 (a0t a1g (a0a (a0d 5) a0i))) (a0z (a1l 7 (a3s 1 [6] (a6L (a0t a4l (a0a (a0d 3) a0i))) (gN 0) (a0y (eOp pNotN (a0t a5p (a0a (a0d 1) (a0a (a0d 0) a0i))) (eC .non))) (a0d 0))) (a6I (a2e (a0a (eCB pMin2 (a0a (eC (.int 3)) (a0a (eCB a3q (a0a (a0d 7) a0i)) a0i))) a0i)) (gN 8) (a7S a2H a2b (a1y C) a4t a2q a1g a4l a5p (a3c C))))))))) _ [.v (.scr ns),.v (.int k),x2,x3,x4,x5,x6,x7,x8]
  refine la_1 (C:=C) fun x2 cs hc=>la_2 hc fun fl x6 I=>?_
  have T:=a3U I.n12
  have dl:=List.length_filter_le (fun t=>decide (a7d fl t)) (a0k (a0l (a0D 0 cs)))
  push_cast [List.length_map]
  refine ⟨⟨by split <;> ac_rfl,by split <;> ac_rfl⟩,?_⟩
  by_cases hp:0 < (dueL (a0D 0 cs) fl).length
  ·exact la_3 I (fun x8=>nx _ _ _ _ _ _ _ _) hp _ 0 _
  ·rw [show (if ((dueL (a0D 0 cs) fl).length:Int) < 3 then ((dueL (a0D 0 cs) fl).length:Int) else 3).toNat=0 by split <;> ac_rfl,a1K,a0Q]
   exact ⟨fun p hp=>by simp at hp,nx _ _ _ _ _ _ _ _⟩
def spLaw:Fn:=fun ds Q=>∃ ns:List Int,ds=[.scr ns]/\ns.length<=63/\Q (.v (.bl true))
theorem len_law:∀ ds Q,spLaw ds Q->ds.length=1:=by rintro ds Q ⟨d,rfl,_⟩; rfl
theorem p_law {C:Addr}:∀ ds Q,spLaw ds Q->t_law a2H a2b (a1y C) a4t a2q a1g a4l a5p (a3c C) { nx:=fun _=>Q (.v .non),rt:=Q } (a0m ["_law_script", "_law_k", "_law_cell", "_law_bands_here", "_law_sides_here", "_law_tiles", "_law_belows_here", "_law_some", "_law_j"] ds):=by
 rintro ds Q ⟨ns,rfl,hl,h⟩
 ac_nf
 obtain ⟨m,hm,m22⟩:∃ m:Nat,(if (ns.length:Int) < 8 then (ns.length:Int) else 8) + 1=m/\m < 22:=⟨((if (ns.length:Int) < 8 then (ns.length:Int) else 8) + 1).toNat,by split <;> ac_rfl,by split <;> ac_rfl⟩
 rw [hm]
 have sm:∀ m:Nat,m < 22->Builtin.Range.small 0 (m:Int) 2=true/\0<=Builtin.Range.rangeSize 0 (m:Int) 2/\(Builtin.Range.rangeSize 0 (m:Int) 2).toNat<=22:=by decide +kernel
 obtain ⟨q1,q2,q3⟩:=sm m m22
 refine ⟨⟨by decide,by decide,q1,q2⟩,?_⟩
 have e:a7l 0 2 (Builtin.Range.rangeSize 0 (m:Int) 2).toNat=((List.range (Builtin.Range.rangeSize 0 (m:Int) 2).toNat).map fun (k:Nat)=>2 * k).map fun (m:Nat)=>Dv.int (m:Int):=by
  unfold a7l
  rw [List.map_map]
  apply List.map_congr_left
  intro k _
  show Dv.int (0 + (k:Int) * 2)=Dv.int ((2 * k:Nat):Int)
  rw [show 0 + (k:Int) * 2=((2 * k:Nat):Int) by ac_rfl]
 rw [e]
 refine law_0 _ _ _ _ _ _ _ _ _ fun x1 x2 x3 x4 x5 x6 x7 x8=>?_
 ac_nf
 exact h
end Lw
namespace Hd
open PySem PySem.W
noncomputable def ofL:List Obj->Nat->BT->Option (BT × Nat)
 | [],n,t=>some (t,n)
 | o :: r,n,t=>match ((t.ins n o).get n).isSome with
  | true=>ofL r (n + 1) (t.ins n o)
  | false=>none
theorem ofL_spec {life:Life}:∀ (l:List Obj) (n:Nat) (t:BT) {t':BT} {n':Nat},ofL l n t=some (t',n')->absHeap t' n' life=⟨((absHeap t n life).objs.toList ++ l).toArray,life⟩
 | [],n,t,t',n',h=>by
  cases h
  rw [List.append_nil]
  rfl
 | o :: r,n,t,t',n',h=>by
  rw [ofL] at h
  cases g:((t.ins n o).get n).isSome with
  | false=>rw [g] at h; cases h
  | true=>
   rw [g] at h
   rw [ofL_spec r (n + 1) (t.ins n o) h,absHeap_ins g]
   show Heap.mk _ _=Heap.mk _ _
   congr 1
   show (((absHeap t n life).objs.push o).toList ++ r).toArray=_
   simp
theorem ofL_heap {h:Heap} {t:BT} {n:Nat} (e:ofL h.objs.toList 0 .nil=some (t,n)):absHeap t n h.life=h:=by
 rw [ofL_spec (life:=h.life) _ _ _ e]
 rfl
noncomputable def a8L (st:SharedT->Thread->Option (SharedT × Thread)) (th:Thread->Bool) (ok:Thread->Bool):Nat->SharedT->Thread->Option SharedT
 | 0,_,_=>none
 | n + 1,s,t=>match th t with
  | true=>some s
  | false=>match ok t with
   | false=>none
   | true=>match Nat.ble s.toks 1000000 with
    | false=>none
    | true=>match st s t with
     | some (s',t')=>a8L st th ok n s' t'
     | none=>none
theorem a6B {tb:String->Option Builtin} {p:Program} {w:World} {n₀:Nat} {ann:Option Value}:∀ (n:Nat) (s:SharedT) (t:Thread) {s':SharedT},a8L (stepT (denote tb) p w) through (stepOk n₀ ann) n s t=some s'->topRun tb p w n₀ ann n s.abs t=some s'.abs
 | 0,_,_,_,h=>by cases h
 | n + 1,s,t,s',h=>by
  unfold a8L at h
  unfold topRun
  cases ht:through t with
  | true=>rw [ht] at h; cases h; rfl
  | false=>
   rw [ht] at h
   cases hk:stepOk n₀ ann t with
   | false=>rw [hk] at h; cases h
   | true=>
    rw [hk] at h
    dsimp only at h ⊢
    cases hb:Nat.ble s.toks 1000000 with
    | false=>rw [hb] at h; cases h
    | true=>
     rw [hb] at h
     dsimp only at h
     cases hs:stepT (denote tb) p w s t with
     | none=>rw [hs] at h; cases h
     | some x=>
      obtain ⟨s1,t1⟩:=x
      rw [hs] at h
      rw [stepT_spec hs]
      exact a6B n s1 t1 h
noncomputable def runAll (st:SharedT->Thread->Option (SharedT × Thread)) (th:Thread->Bool) (ok:Thread->Bool) (M:Nat) (h:Heap) (gs:Array GenState) (d:Drawn) (k:Nat) (os:OsState) (t:Thread):Option SharedT:=
 match ofL h.objs.toList 0 .nil with
 | some (b,n)=>a8L st th ok M ⟨b,n,h.life,gs,d,k,os⟩ t
 | none=>none
theorem runAll_spec {tb:String->Option Builtin} {p:Program} {w:World} {n₀:Nat} {ann:Option Value} {M:Nat} {h:Heap} {gs:Array GenState} {d:Drawn} {k:Nat} {os:OsState} {t:Thread} {s':SharedT}
  (e:runAll (stepT (denote tb) p w) through (stepOk n₀ ann) M h gs d k os t=some s'):topRun tb p w n₀ ann M ⟨h,gs,d,k,os⟩ t=some s'.abs:=by
 unfold runAll at e
 cases q:ofL h.objs.toList 0 .nil with
 | none=>rw [q] at e; cases e
 | some x=>
  obtain ⟨b,n⟩:=x
  rw [q] at e
  have:=a6B M _ _ e
  unfold SharedT.abs at this
  dsimp only at this
  rw [ofL_heap q] at this
  exact this
theorem left_of {p q:Program} {loose:List Str} {Xt:Shared->Bool} {α:Type} {Yf:Shared->α} {Ya:World->α} {N:Nat} {g0:Bool} {HZ:Params->Heap} {gs₀:Array GenState} {d₀:Drawn} {k₀:Nat} {m₀:Nat} {ann:Option Value} {M:Nat}
  (open_:∀ w:World,(fencedOpening treeTable p w N).map (fun s=>(s.heap,s.gens,s.drawn,s.toks))=some (HZ w.params,gs₀,d₀,k₀))
  (size:∀ w:World,((HZ w.params).isNs mainGlobals && gs₀.size == 0,(HZ w.params).objs.size,(HZ w.params).nsMap mainGlobals "__annotations__")=(true,m₀,ann)) (le:Nat.ble M N=true)
  (run:∀ (w:World) (os:OsState),(runAll (stepT (denote treeTable) p w) through (stepOk m₀ ann) M (HZ w.params) gs₀ d₀ k₀ os (topStub p)).map (fun s=>
    ((staticsOk (importedModules p.main.body) (HZ w.params) s.abs.heap && namesBound p s.abs.heap && gensDone s.abs && laidKept (HZ w.params) s.abs.heap),openSeen q loose (importedModules p.main.body) Xt g0 s.abs,Yf s.abs))=some (true,openGood q loose,Ya w)):
  LeftO p q loose Xt Yf Ya N g0:=fun w=>by
 obtain ⟨⟨h,gs,d,k,os⟩,e,e'⟩:=Option.map_eq_some_iff.mp (open_ w)
 obtain ⟨rfl,rfl,rfl,rfl⟩:h=HZ w.params/\gs=gs₀/\d=d₀/\k=k₀:=by simpa using e'
 obtain ⟨z1,z2,z3⟩:_/\_/\_:=by simpa only [Prod.mk.injEq] using size w
 obtain ⟨s',r,l⟩:=Option.map_eq_some_iff.mp (run w os)
 obtain ⟨l1,l2,l3⟩:_/\_/\_:=by simpa only [Prod.mk.injEq] using l
 have r:=topRun_mono (N - M) _ _ _ _ (runAll_spec r)
 rw [show M + (N - M)=N by have:=Nat.le_of_ble_eq_true le; ac_rfl] at r
 have t:topFrom treeTable p w N ⟨HZ w.params,gs,d,k,os⟩=some s'.abs:=by
  unfold topFrom
  dsimp only
  rw [z1,z2,z3,r]
  show (match staticsOk (importedModules p.main.body) (HZ w.params) s'.abs.heap && namesBound p s'.abs.heap && gensDone s'.abs && laidKept (HZ w.params) s'.abs.heap with | true=>_ | false=>_)=_
  rw [l1]
 unfold openEnds
 rw [e]
 show (topFrom treeTable p w N _).map _=_
 rw [t]
 exact congrArg some (Prod.ext l2 l3)
end Hd
namespace Lw
open PySem PySem.Spec PyProof.Rows L2 Z
theorem law_start {K:W.Frag} {H:Hp} {a:Addr} {ns:List Int} (hl:ns.length<=63) (hO:Only H) (hS:SqL K H a (ns.map V.int)):low K spLaw [.ref a] H (fun v _=>v=.bl true) (fun _ _ _=>False):=
 start_low (fun Q q=>⟨ns,rfl,hl,q⟩) hO (fun P q z=>nomatch z.1) hS
theorem us1 {us:List Value} (h:us.length=1):∃ a0,us=[a0]:=by
 cases us with
 | nil=>cases h
 | cons a r=>obtain ⟨rfl⟩:=List.length_eq_zero_iff.mp (Nat.succ.inj h); exact ⟨a,rfl⟩
theorem us2 {us:List Value} (h:us.length=2):∃ a0 a1,us=[a0,a1]:=by
 cases us with
 | nil=>cases h
 | cons a r=>obtain ⟨a1,rfl⟩:=us1 (Nat.succ.inj h); exact ⟨a,a1,rfl⟩
theorem us3 {us:List Value} (h:us.length=3):∃ a0 a1 a2,us=[a0,a1,a2]:=by
 cases us with
 | nil=>cases h
 | cons a r=>obtain ⟨a1,a2,rfl⟩:=us2 (Nat.succ.inj h); exact ⟨a,a1,a2,rfl⟩
theorem us4 {us:List Value} (h:us.length=4):∃ a0 a1 a2 a3,us=[a0,a1,a2,a3]:=by
 cases us with
 | nil=>cases h
 | cons a r=>obtain ⟨a1,a2,a3,rfl⟩:=us3 (Nat.succ.inj h); exact ⟨a,a1,a2,a3,rfl⟩
theorem all_mk {l:W.OpenLaw} {w:World} {K:W.Frag} {h:Heap} {mg:Str->Option Value} {fa:Addr} (X:K.In h) (G:h.Ns mainGlobals mg) (hfa:mg "law" = some (.ref fa))
  {C:Addr}
  {f0:Addr} {od0 an0:Option Addr} {sl0:Array (Option Value)} {oc0 kV0 dc0 pm0 cd0 ct0:Value}
  {f1:Addr} {od1 an1:Option Addr} {sl1:Array (Option Value)} {oc1 kV1 dc1 pm1 cd1 ct1:Value}
  {f2:Addr} {od2 an2:Option Addr} {sl2:Array (Option Value)} {oc2 kV2 dc2 pm2 cd2 ct2:Value}
  {f3:Addr} {od3 an3:Option Addr} {sl3:Array (Option Value)} {oc3 kV3 dc3 pm3 cd3 ct3:Value}
  {f4:Addr} {od4 an4:Option Addr} {sl4:Array (Option Value)} {oc4 kV4 dc4 pm4 cd4 ct4:Value}
  {f5:Addr} {od5 an5:Option Addr} {sl5:Array (Option Value)} {oc5 kV5 dc5 pm5 cd5 ct5:Value}
  {f6:Addr} {od6 an6:Option Addr} {sl6:Array (Option Value)} {oc6 kV6 dc6 pm6 cd6 ct6:Value}
  {f7:Addr} {od7 an7:Option Addr} {sl7:Array (Option Value)} {oc7 kV7 dc7 pm7 cd7 ct7:Value}
  {f8:Addr} {od8 an8:Option Addr} {sl8:Array (Option Value)} {oc8 kV8 dc8 pm8 cd8 ct8:Value}
  {f9:Addr} {od9 an9:Option Addr} {sl9:Array (Option Value)} {oc9 kV9 dc9 pm9 cd9 ct9:Value}
  {f10:Addr} {od10 an10:Option Addr} {sl10:Array (Option Value)} {oc10 kV10 dc10 pm10 cd10 ct10:Value}
  {f11:Addr} {od11 an11:Option Addr} {sl11:Array (Option Value)} {oc11 kV11 dc11 pm11 cd11 ct11:Value}
  {f12:Addr} {od12 an12:Option Addr} {sl12:Array (Option Value)} {oc12 kV12 dc12 pm12 cd12 ct12:Value}
  {f13:Addr} {od13 an13:Option Addr} {sl13:Array (Option Value)} {oc13 kV13 dc13 pm13 cd13 ct13:Value}
  {f14:Addr} {od14 an14:Option Addr} {sl14:Array (Option Value)} {oc14 kV14 dc14 pm14 cd14 ct14:Value}
  {f15:Addr} {od15 an15:Option Addr} {sl15:Array (Option Value)} {oc15 kV15 dc15 pm15 cd15 ct15:Value}
  {f16:Addr} {od16 an16:Option Addr} {sl16:Array (Option Value)} {oc16 kV16 dc16 pm16 cd16 ct16:Value}
  {f17:Addr} {od17 an17:Option Addr} {sl17:Array (Option Value)} {oc17 kV17 dc17 pm17 cd17 ct17:Value}
  {f18:Addr} {od18 an18:Option Addr} {sl18:Array (Option Value)} {oc18 kV18 dc18 pm18 cd18 ct18:Value}
  {f19:Addr} {od19 an19:Option Addr} {sl19:Array (Option Value)} {oc19 kV19 dc19 pm19 cd19 ct19:Value}
  {f20:Addr} {od20 an20:Option Addr} {sl20:Array (Option Value)} {oc20 kV20 dc20 pm20 cd20 ct20:Value}
  {f21:Addr} {od21 an21:Option Addr} {sl21:Array (Option Value)} {oc21 kV21 dc21 pm21 cd21 ct21:Value}
  {f22:Addr} {od22 an22:Option Addr} {sl22:Array (Option Value)} {oc22 kV22 dc22 pm22 cd22 ct22:Value}
  {f23:Addr} {od23 an23:Option Addr} {sl23:Array (Option Value)} {oc23 kV23 dc23 pm23 cd23 ct23:Value}
  {f24:Addr} {od24 an24:Option Addr} {sl24:Array (Option Value)} {oc24 kV24 dc24 pm24 cd24 ct24:Value}
  {f25:Addr} {od25 an25:Option Addr} {sl25:Array (Option Value)} {oc25 kV25 dc25 pm25 cd25 ct25:Value}
  {f26:Addr} {od26 an26:Option Addr} {sl26:Array (Option Value)} {oc26 kV26 dc26 pm26 cd26 ct26:Value}
  {f27:Addr} {od27 an27:Option Addr} {sl27:Array (Option Value)} {oc27 kV27 dc27 pm27 cd27 ct27:Value}
  {f28:Addr} {od28 an28:Option Addr} {sl28:Array (Option Value)} {oc28 kV28 dc28 pm28 cd28 ct28:Value}
  {f29:Addr} {od29 an29:Option Addr} {sl29:Array (Option Value)} {oc29 kV29 dc29 pm29 cd29 ct29:Value}
  {f30:Addr} {od30 an30:Option Addr} {sl30:Array (Option Value)} {oc30 kV30 dc30 pm30 cd30 ct30:Value}
  {f31:Addr} {od31 an31:Option Addr} {sl31:Array (Option Value)} {oc31 kV31 dc31 pm31 cd31 ct31:Value}
  {f32:Addr} {od32 an32:Option Addr} {sl32:Array (Option Value)} {oc32 kV32 dc32 pm32 cd32 ct32:Value}
  {f33:Addr} {od33 an33:Option Addr} {sl33:Array (Option Value)} {oc33 kV33 dc33 pm33 cd33 ct33:Value}
  {f34:Addr} {od34 an34:Option Addr} {sl34:Array (Option Value)} {oc34 kV34 dc34 pm34 cd34 ct34:Value}
  {f35:Addr} {od35 an35:Option Addr} {sl35:Array (Option Value)} {oc35 kV35 dc35 pm35 cd35 ct35:Value}
  {f36:Addr} {od36 an36:Option Addr} {sl36:Array (Option Value)} {oc36 kV36 dc36 pm36 cd36 ct36:Value}
  {t_FEWEST_DIRECTIONS:Tok}
  {t_MOST_DIRECTIONS:Tok}
  {t_MOST_BANDS:Tok}
  {t_LARGEST_PART:Tok}
  (aC:W.nsIn K mainGlobals "Sides" = some (some (.ref C)))
  (a0:W.findIn K (.ref C) "__init__" = some (some (.ref f0))) (i0:W.isFn K (.ref f0)=true)
  (l0:K.lookup f0=some ⟨oc0,od0,.func (W.fnOf "__init__" "Sides.__init__" (a0v (a0P (top 28) 0)) (a0r (a0P (top 28) 0)) (a0e (a0P (top 28) 0)) .none kV0 dc0 pm0 an0 cd0 ct0),sl0⟩) (c0:W.codeIn K cd0 "Sides.__init__" = true) (k0:W.keepIn K (.ref f0)=true)
  (a1:W.findIn K (.ref C) "many" = some (some (.ref f1))) (i1:W.isFn K (.ref f1)=true)
  (l1:K.lookup f1=some ⟨oc1,od1,.func (W.fnOf "many" "Sides.many" (a0v (a0P (top 28) 1)) (a0r (a0P (top 28) 1)) (a0e (a0P (top 28) 1)) .none kV1 dc1 pm1 an1 cd1 ct1),sl1⟩) (c1:W.codeIn K cd1 "Sides.many" = true) (k1:W.keepIn K (.ref f1)=true)
  (a2:W.findIn K (.ref C) "kind" = some (some (.ref f2))) (i2:W.isFn K (.ref f2)=true)
  (l2:K.lookup f2=some ⟨oc2,od2,.func (W.fnOf "kind" "Sides.kind" (a0v (a0P (top 28) 2)) (a0r (a0P (top 28) 2)) (a0e (a0P (top 28) 2)) .none kV2 dc2 pm2 an2 cd2 ct2),sl2⟩) (c2:W.codeIn K cd2 "Sides.kind" = true) (k2:W.keepIn K (.ref f2)=true)
  (a3:W.findIn K (.ref C) "pairs" = some (some (.ref f3))) (i3:W.isFn K (.ref f3)=true)
  (l3:K.lookup f3=some ⟨oc3,od3,.func (W.fnOf "pairs" "Sides.pairs" (a0v (a0P (top 28) 4)) (a0r (a0P (top 28) 4)) (a0e (a0P (top 28) 4)) .none kV3 dc3 pm3 an3 cd3 ct3),sl3⟩) (c3:W.codeIn K cd3 "Sides.pairs" = true) (k3:W.keepIn K (.ref f3)=true)
  (pg:W.plainGet K C Str.empty=true) (hd:W.hasDictIn K C=true) (po:W.plainOver K C=true) (sa:W.findIn K (.ref C) "__setattr__" = some (some (.builtin "object.__setattr__"))) (mk:W.makesIn K C=true) (kc:W.keepIn K (.ref C)=true)
  (n_kinds:W.findIn K (.ref C) "kinds" = some none)
  (n_vectors:W.findIn K (.ref C) "vectors" = some none)
  (a4:W.nsIn K mainGlobals "with_band" = some (some (.ref f4)))
  (l4:K.lookup f4=some ⟨oc4,od4,.func (W.fnOf "with_band" "with_band" (a0v (top 6)) (a0r (top 6)) (a0e (top 6)) .none kV4 dc4 pm4 an4 cd4 ct4),sl4⟩) (c4:W.codeIn K cd4 "with_band" = true) (k4:W.keepIn K (.ref f4)=true)
  (a5:W.nsIn K mainGlobals "belows" = some (some (.ref f5)))
  (l5:K.lookup f5=some ⟨oc5,od5,.func (W.fnOf "belows" "belows" (a0v (top 7)) (a0r (top 7)) (a0e (top 7)) .none kV5 dc5 pm5 an5 cd5 ct5),sl5⟩) (c5:W.codeIn K cd5 "belows" = true) (k5:W.keepIn K (.ref f5)=true)
  (a6:W.nsIn K mainGlobals "threes" = some (some (.ref f6)))
  (l6:K.lookup f6=some ⟨oc6,od6,.func (W.fnOf "threes" "threes" (a0v (top 9)) (a0r (top 9)) (a0e (top 9)) .none kV6 dc6 pm6 an6 cd6 ct6),sl6⟩) (c6:W.codeIn K cd6 "threes" = true) (k6:W.keepIn K (.ref f6)=true)
  (a7:W.nsIn K mainGlobals "standing_up" = some (some (.ref f7)))
  (l7:K.lookup f7=some ⟨oc7,od7,.func (W.fnOf "standing_up" "standing_up" (a0v (top 11)) (a0r (top 11)) (a0e (top 11)) .none kV7 dc7 pm7 an7 cd7 ct7),sl7⟩) (c7:W.codeIn K cd7 "standing_up" = true) (k7:W.keepIn K (.ref f7)=true)
  (a8:W.nsIn K mainGlobals "standing_down" = some (some (.ref f8)))
  (l8:K.lookup f8=some ⟨oc8,od8,.func (W.fnOf "standing_down" "standing_down" (a0v (top 12)) (a0r (top 12)) (a0e (top 12)) .none kV8 dc8 pm8 an8 cd8 ct8),sl8⟩) (c8:W.codeIn K cd8 "standing_down" = true) (k8:W.keepIn K (.ref f8)=true)
  (a9:W.nsIn K mainGlobals "tiles_by_flip" = some (some (.ref f9)))
  (l9:K.lookup f9=some ⟨oc9,od9,.func (W.fnOf "tiles_by_flip" "tiles_by_flip" (a0v (top 13)) (a0r (top 13)) (a0e (top 13)) .none kV9 dc9 pm9 an9 cd9 ct9),sl9⟩) (c9:W.codeIn K cd9 "tiles_by_flip" = true) (k9:W.keepIn K (.ref f9)=true)
  (a10:W.nsIn K mainGlobals "flipped" = some (some (.ref f10)))
  (l10:K.lookup f10=some ⟨oc10,od10,.func (W.fnOf "flipped" "flipped" (a0v (top 14)) (a0r (top 14)) (a0e (top 14)) .none kV10 dc10 pm10 an10 cd10 ct10),sl10⟩) (c10:W.codeIn K cd10 "flipped" = true) (k10:W.keepIn K (.ref f10)=true)
  (a11:W.nsIn K mainGlobals "is_whole" = some (some (.ref f11)))
  (l11:K.lookup f11=some ⟨oc11,od11,.func (W.fnOf "is_whole" "is_whole" (a0v (top 16)) (a0r (top 16)) (a0e (top 16)) .none kV11 dc11 pm11 an11 cd11 ct11),sl11⟩) (c11:W.codeIn K cd11 "is_whole" = true) (k11:W.keepIn K (.ref f11)=true)
  (a12:W.nsIn K mainGlobals "has_three_wholes" = some (some (.ref f12)))
  (l12:K.lookup f12=some ⟨oc12,od12,.func (W.fnOf "has_three_wholes" "has_three_wholes" (a0v (top 22)) (a0r (top 22)) (a0e (top 22)) .none kV12 dc12 pm12 an12 cd12 ct12),sl12⟩) (c12:W.codeIn K cd12 "has_three_wholes" = true) (k12:W.keepIn K (.ref f12)=true)
  (a13:W.nsIn K mainGlobals "has_few_figures" = some (some (.ref f13)))
  (l13:K.lookup f13=some ⟨oc13,od13,.func (W.fnOf "has_few_figures" "has_few_figures" (a0v (top 23)) (a0r (top 23)) (a0e (top 23)) .none kV13 dc13 pm13 an13 cd13 ct13),sl13⟩) (c13:W.codeIn K cd13 "has_few_figures" = true) (k13:W.keepIn K (.ref f13)=true)
  (a14:W.nsIn K mainGlobals "points_up" = some (some (.ref f14)))
  (l14:K.lookup f14=some ⟨oc14,od14,.func (W.fnOf "points_up" "points_up" (a0v (top 24)) (a0r (top 24)) (a0e (top 24)) .none kV14 dc14 pm14 an14 cd14 ct14),sl14⟩) (c14:W.codeIn K cd14 "points_up" = true) (k14:W.keepIn K (.ref f14)=true)
  (a15:W.nsIn K mainGlobals "lies_left" = some (some (.ref f15)))
  (l15:K.lookup f15=some ⟨oc15,od15,.func (W.fnOf "lies_left" "lies_left" (a0v (top 25)) (a0r (top 25)) (a0e (top 25)) .none kV15 dc15 pm15 an15 cd15 ct15),sl15⟩) (c15:W.codeIn K cd15 "lies_left" = true) (k15:W.keepIn K (.ref f15)=true)
  (a16:W.nsIn K mainGlobals "check_direction" = some (some (.ref f16)))
  (l16:K.lookup f16=some ⟨oc16,od16,.func (W.fnOf "check_direction" "check_direction" (a0v (top 26)) (a0r (top 26)) (a0e (top 26)) .none kV16 dc16 pm16 an16 cd16 ct16),sl16⟩) (c16:W.codeIn K cd16 "check_direction" = true) (k16:W.keepIn K (.ref f16)=true)
  (a17:W.nsIn K mainGlobals "check_directions" = some (some (.ref f17)))
  (l17:K.lookup f17=some ⟨oc17,od17,.func (W.fnOf "check_directions" "check_directions" (a0v (top 27)) (a0r (top 27)) (a0e (top 27)) .none kV17 dc17 pm17 an17 cd17 ct17),sl17⟩) (c17:W.codeIn K cd17 "check_directions" = true) (k17:W.keepIn K (.ref f17)=true)
  (a18:W.nsIn K mainGlobals "_law_cell_at" = some (some (.ref f18)))
  (l18:K.lookup f18=some ⟨oc18,od18,.func (W.fnOf "_law_cell_at" "_law_cell_at" (a0v (top 30)) (a0r (top 30)) (a0e (top 30)) .none kV18 dc18 pm18 an18 cd18 ct18),sl18⟩) (c18:W.codeIn K cd18 "_law_cell_at" = true) (k18:W.keepIn K (.ref f18)=true)
  (a19:W.nsIn K mainGlobals "_law_whole" = some (some (.ref f19)))
  (l19:K.lookup f19=some ⟨oc19,od19,.func (W.fnOf "_law_whole" "_law_whole" (a0v (top 31)) (a0r (top 31)) (a0e (top 31)) .none kV19 dc19 pm19 an19 cd19 ct19),sl19⟩) (c19:W.codeIn K cd19 "_law_whole" = true) (k19:W.keepIn K (.ref f19)=true)
  (a20:W.nsIn K mainGlobals "_law_wholes" = some (some (.ref f20)))
  (l20:K.lookup f20=some ⟨oc20,od20,.func (W.fnOf "_law_wholes" "_law_wholes" (a0v (top 32)) (a0r (top 32)) (a0e (top 32)) .none kV20 dc20 pm20 an20 cd20 ct20),sl20⟩) (c20:W.codeIn K cd20 "_law_wholes" = true) (k20:W.keepIn K (.ref f20)=true)
  (a21:W.nsIn K mainGlobals "_law_bands" = some (some (.ref f21)))
  (l21:K.lookup f21=some ⟨oc21,od21,.func (W.fnOf "_law_bands" "_law_bands" (a0v (top 33)) (a0r (top 33)) (a0e (top 33)) .none kV21 dc21 pm21 an21 cd21 ct21),sl21⟩) (c21:W.codeIn K cd21 "_law_bands" = true) (k21:W.keepIn K (.ref f21)=true)
  (a22:W.nsIn K mainGlobals "_law_pick" = some (some (.ref f22)))
  (l22:K.lookup f22=some ⟨oc22,od22,.func (W.fnOf "_law_pick" "_law_pick" (a0v (top 34)) (a0r (top 34)) (a0e (top 34)) .none kV22 dc22 pm22 an22 cd22 ct22),sl22⟩) (c22:W.codeIn K cd22 "_law_pick" = true) (k22:W.keepIn K (.ref f22)=true)
  (a23:W.nsIn K mainGlobals "_law_exchanged" = some (some (.ref f23)))
  (l23:K.lookup f23=some ⟨oc23,od23,.func (W.fnOf "_law_exchanged" "_law_exchanged" (a0v (top 35)) (a0r (top 35)) (a0e (top 35)) .none kV23 dc23 pm23 an23 cd23 ct23),sl23⟩) (c23:W.codeIn K cd23 "_law_exchanged" = true) (k23:W.keepIn K (.ref f23)=true)
  (a24:W.nsIn K mainGlobals "_law_row" = some (some (.ref f24)))
  (l24:K.lookup f24=some ⟨oc24,od24,.func (W.fnOf "_law_row" "_law_row" (a0v (top 36)) (a0r (top 36)) (a0e (top 36)) .none kV24 dc24 pm24 an24 cd24 ct24),sl24⟩) (c24:W.codeIn K cd24 "_law_row" = true) (k24:W.keepIn K (.ref f24)=true)
  (a25:W.nsIn K mainGlobals "_law_floor" = some (some (.ref f25)))
  (l25:K.lookup f25=some ⟨oc25,od25,.func (W.fnOf "_law_floor" "_law_floor" (a0v (top 37)) (a0r (top 37)) (a0e (top 37)) .none kV25 dc25 pm25 an25 cd25 ct25),sl25⟩) (c25:W.codeIn K cd25 "_law_floor" = true) (k25:W.keepIn K (.ref f25)=true)
  (a26:W.nsIn K mainGlobals "_law_many" = some (some (.ref f26)))
  (l26:K.lookup f26=some ⟨oc26,od26,.func (W.fnOf "_law_many" "_law_many" (a0v (top 38)) (a0r (top 38)) (a0e (top 38)) .none kV26 dc26 pm26 an26 cd26 ct26),sl26⟩) (c26:W.codeIn K cd26 "_law_many" = true) (k26:W.keepIn K (.ref f26)=true)
  (a27:W.nsIn K mainGlobals "_law_sides" = some (some (.ref f27)))
  (l27:K.lookup f27=some ⟨oc27,od27,.func (W.fnOf "_law_sides" "_law_sides" (a0v (top 39)) (a0r (top 39)) (a0e (top 39)) .none kV27 dc27 pm27 an27 cd27 ct27),sl27⟩) (c27:W.codeIn K cd27 "_law_sides" = true) (k27:W.keepIn K (.ref f27)=true)
  (a28:W.nsIn K mainGlobals "_law_threes" = some (some (.ref f28)))
  (l28:K.lookup f28=some ⟨oc28,od28,.func (W.fnOf "_law_threes" "_law_threes" (a0v (top 40)) (a0r (top 40)) (a0e (top 40)) .none kV28 dc28 pm28 an28 cd28 ct28),sl28⟩) (c28:W.codeIn K cd28 "_law_threes" = true) (k28:W.keepIn K (.ref f28)=true)
  (a29:W.nsIn K mainGlobals "_law_belows" = some (some (.ref f29)))
  (l29:K.lookup f29=some ⟨oc29,od29,.func (W.fnOf "_law_belows" "_law_belows" (a0v (top 41)) (a0r (top 41)) (a0e (top 41)) .none kV29 dc29 pm29 an29 cd29 ct29),sl29⟩) (c29:W.codeIn K cd29 "_law_belows" = true) (k29:W.keepIn K (.ref f29)=true)
  (a30:W.nsIn K mainGlobals "_law_up" = some (some (.ref f30)))
  (l30:K.lookup f30=some ⟨oc30,od30,.func (W.fnOf "_law_up" "_law_up" (a0v (top 42)) (a0r (top 42)) (a0e (top 42)) .none kV30 dc30 pm30 an30 cd30 ct30),sl30⟩) (c30:W.codeIn K cd30 "_law_up" = true) (k30:W.keepIn K (.ref f30)=true)
  (a31:W.nsIn K mainGlobals "_law_kinds_of" = some (some (.ref f31)))
  (l31:K.lookup f31=some ⟨oc31,od31,.func (W.fnOf "_law_kinds_of" "_law_kinds_of" (a0v (top 43)) (a0r (top 43)) (a0e (top 43)) .none kV31 dc31 pm31 an31 cd31 ct31),sl31⟩) (c31:W.codeIn K cd31 "_law_kinds_of" = true) (k31:W.keepIn K (.ref f31)=true)
  (a32:W.nsIn K mainGlobals "_law_hexagon" = some (some (.ref f32)))
  (l32:K.lookup f32=some ⟨oc32,od32,.func (W.fnOf "_law_hexagon" "_law_hexagon" (a0v (top 44)) (a0r (top 44)) (a0e (top 44)) .none kV32 dc32 pm32 an32 cd32 ct32),sl32⟩) (c32:W.codeIn K cd32 "_law_hexagon" = true) (k32:W.keepIn K (.ref f32)=true)
  (a33:W.nsIn K mainGlobals "_law_behind" = some (some (.ref f33)))
  (l33:K.lookup f33=some ⟨oc33,od33,.func (W.fnOf "_law_behind" "_law_behind" (a0v (top 45)) (a0r (top 45)) (a0e (top 45)) .none kV33 dc33 pm33 an33 cd33 ct33),sl33⟩) (c33:W.codeIn K cd33 "_law_behind" = true) (k33:W.keepIn K (.ref f33)=true)
  (a34:W.nsIn K mainGlobals "_law_is_laid" = some (some (.ref f34)))
  (l34:K.lookup f34=some ⟨oc34,od34,.func (W.fnOf "_law_is_laid" "_law_is_laid" (a0v (top 46)) (a0r (top 46)) (a0e (top 46)) .none kV34 dc34 pm34 an34 cd34 ct34),sl34⟩) (c34:W.codeIn K cd34 "_law_is_laid" = true) (k34:W.keepIn K (.ref f34)=true)
  (a35:W.nsIn K mainGlobals "_law_flips" = some (some (.ref f35)))
  (l35:K.lookup f35=some ⟨oc35,od35,.func (W.fnOf "_law_flips" "_law_flips" (a0v (top 47)) (a0r (top 47)) (a0e (top 47)) .none kV35 dc35 pm35 an35 cd35 ct35),sl35⟩) (c35:W.codeIn K cd35 "_law_flips" = true) (k35:W.keepIn K (.ref f35)=true)
  (a36:W.nsIn K mainGlobals "law" = some (some (.ref f36)))
  (l36:K.lookup f36=some ⟨oc36,od36,.func (W.fnOf "law" "law" (a0v (top 48)) (a0r (top 48)) (a0e (top 48)) .none kV36 dc36 pm36 an36 cd36 ct36),sl36⟩) (c36:W.codeIn K cd36 "law" = true) (k36:W.keepIn K (.ref f36)=true)
  (z_FEWEST_DIRECTIONS:W.nsIn K mainGlobals "FEWEST_DIRECTIONS" = some (some (.int 2 t_FEWEST_DIRECTIONS)))
  (z_MOST_DIRECTIONS:W.nsIn K mainGlobals "MOST_DIRECTIONS" = some (some (.int 6 t_MOST_DIRECTIONS)))
  (z_MOST_BANDS:W.nsIn K mainGlobals "MOST_BANDS" = some (some (.int 12 t_MOST_BANDS)))
  (z_LARGEST_PART:W.nsIn K mainGlobals "LARGEST_PART" = some (some (.int 999999999999 t_LARGEST_PART)))
  (o_ValueError:W.nsIn K mainGlobals "ValueError" = some none)
  (o_abs:W.nsIn K mainGlobals "abs" = some none)
  (o_all:W.nsIn K mainGlobals "all" = some none)
  (o_bool:W.nsIn K mainGlobals "bool" = some none)
  (o_enumerate:W.nsIn K mainGlobals "enumerate" = some none)
  (o_int:W.nsIn K mainGlobals "int" = some none)
  (o_isinstance:W.nsIn K mainGlobals "isinstance" = some none)
  (o_len:W.nsIn K mainGlobals "len" = some none)
  (o_list:W.nsIn K mainGlobals "list" = some none)
  (o_min:W.nsIn K mainGlobals "min" = some none)
  (o_range:W.nsIn K mainGlobals "range" = some none)
  (o_sorted:W.nsIn K mainGlobals "sorted" = some none)
  (o_sum:W.nsIn K mainGlobals "sum" = some none)
  (o_tuple:W.nsIn K mainGlobals "tuple" = some none)
  (o_zip:W.nsIn K mainGlobals "zip" = some none):
  ∃ fd:FuncData,(∀ (s:Shared) (v:Value),BindsTo s fd ⟨[v],[]⟩ [("_law_script",v)]) /\ ∀ base:Heap,K.In base->base.Ns mainGlobals mg->FnOk l.prog w K mg base CX0 8 fa fd ["_law_script"] ((low K spLaw)):=by
 have e:=hfa.symm.trans (W.mg_of X G a36)
 cases e
 have F0:=a0X (st:=(a0P (top 28) 0)) l0 c0 k0
 have b0:=F0.binds (ps:=["self", "directions"]) fun _ _ _ _ _ _ us hl=>by obtain ⟨_,_,rfl⟩:=us2 hl; rfl
 have m0:MAt K C "__init__" "Sides.__init__" (a0P (top 28) 0) ["self", "directions"]:=⟨_,_,⟨a0,i0,k0⟩,F0,b0⟩
 have F1:=a0X (st:=(a0P (top 28) 1)) l1 c1 k1
 have b1:=F1.binds (ps:=["self"]) fun _ _ _ _ _ _ us hl=>by obtain ⟨_,rfl⟩:=us1 hl; rfl
 have m1:MAt K C "many" "Sides.many" (a0P (top 28) 1) ["self"]:=⟨_,_,⟨a1,i1,k1⟩,F1,b1⟩
 have F2:=a0X (st:=(a0P (top 28) 2)) l2 c2 k2
 have b2:=F2.binds (ps:=["self", "band"]) fun _ _ _ _ _ _ us hl=>by obtain ⟨_,_,rfl⟩:=us2 hl; rfl
 have m2:MAt K C "kind" "Sides.kind" (a0P (top 28) 2) ["self", "band"]:=⟨_,_,⟨a2,i2,k2⟩,F2,b2⟩
 have F3:=a0X (st:=(a0P (top 28) 4)) l3 c3 k3
 have b3:=F3.binds (ps:=["self"]) fun _ _ _ _ _ _ us hl=>by obtain ⟨_,rfl⟩:=us1 hl; rfl
 have m3:MAt K C "pairs" "Sides.pairs" (a0P (top 28) 4) ["self"]:=⟨_,_,⟨a3,i3,k3⟩,F3,b3⟩
 have F4:=a0X (st:=(top 6)) l4 c4 k4
 have b4:=F4.binds (ps:=["below", "band"]) fun _ _ _ _ _ _ us hl=>by obtain ⟨_,_,rfl⟩:=us2 hl; rfl
 have m4:At K mg "with_band" "with_band" (top 6) ["below", "band"]:=⟨_,_,W.mg_of X G a4,F4,b4⟩
 have F5:=a0X (st:=(top 7)) l5 c5 k5
 have b5:=F5.binds (ps:=["floor"]) fun _ _ _ _ _ _ us hl=>by obtain ⟨_,rfl⟩:=us1 hl; rfl
 have m5:At K mg "belows" "belows" (top 7) ["floor"]:=⟨_,_,W.mg_of X G a5,F5,b5⟩
 have F6:=a0X (st:=(top 9)) l6 c6 k6
 have b6:=F6.binds (ps:=["sides"]) fun _ _ _ _ _ _ us hl=>by obtain ⟨_,rfl⟩:=us1 hl; rfl
 have m6:At K mg "threes" "threes" (top 9) ["sides"]:=⟨_,_,W.mg_of X G a6,F6,b6⟩
 have F7:=a0X (st:=(top 11)) l7 c7 k7
 have b7:=F7.binds (ps:=["a", "b", "c", "some"]) fun _ _ _ _ _ _ us hl=>by obtain ⟨_,_,_,_,rfl⟩:=us4 hl; rfl
 have m7:At K mg "standing_up" "standing_up" (top 11) ["a", "b", "c", "some"]:=⟨_,_,W.mg_of X G a7,F7,b7⟩
 have F8:=a0X (st:=(top 12)) l8 c8 k8
 have b8:=F8.binds (ps:=["a", "b", "c", "some"]) fun _ _ _ _ _ _ us hl=>by obtain ⟨_,_,_,_,rfl⟩:=us4 hl; rfl
 have m8:At K mg "standing_down" "standing_down" (top 12) ["a", "b", "c", "some"]:=⟨_,_,W.mg_of X G a8,F8,b8⟩
 have F9:=a0X (st:=(top 13)) l9 c9 k9
 have b9:=F9.binds (ps:=["below", "three"]) fun _ _ _ _ _ _ us hl=>by obtain ⟨_,_,rfl⟩:=us2 hl; rfl
 have m9:At K mg "tiles_by_flip" "tiles_by_flip" (top 13) ["below", "three"]:=⟨_,_,W.mg_of X G a9,F9,b9⟩
 have F10:=a0X (st:=(top 14)) l10 c10 k10
 have b10:=F10.binds (ps:=["sides", "floor", "three"]) fun _ _ _ _ _ _ us hl=>by obtain ⟨_,_,_,rfl⟩:=us3 hl; rfl
 have m10:At K mg "flipped" "flipped" (top 14) ["sides", "floor", "three"]:=⟨_,_,W.mg_of X G a10,F10,b10⟩
 have F11:=a0X (st:=(top 16)) l11 c11 k11
 have b11:=F11.binds (ps:=["thing"]) fun _ _ _ _ _ _ us hl=>by obtain ⟨_,rfl⟩:=us1 hl; rfl
 have m11:At K mg "is_whole" "is_whole" (top 16) ["thing"]:=⟨_,_,W.mg_of X G a11,F11,b11⟩
 have F12:=a0X (st:=(top 22)) l12 c12 k12
 have b12:=F12.binds (ps:=["direction"]) fun _ _ _ _ _ _ us hl=>by obtain ⟨_,rfl⟩:=us1 hl; rfl
 have m12:At K mg "has_three_wholes" "has_three_wholes" (top 22) ["direction"]:=⟨_,_,W.mg_of X G a12,F12,b12⟩
 have F13:=a0X (st:=(top 23)) l13 c13 k13
 have b13:=F13.binds (ps:=["direction"]) fun _ _ _ _ _ _ us hl=>by obtain ⟨_,rfl⟩:=us1 hl; rfl
 have m13:At K mg "has_few_figures" "has_few_figures" (top 23) ["direction"]:=⟨_,_,W.mg_of X G a13,F13,b13⟩
 have F14:=a0X (st:=(top 24)) l14 c14 k14
 have b14:=F14.binds (ps:=["direction"]) fun _ _ _ _ _ _ us hl=>by obtain ⟨_,rfl⟩:=us1 hl; rfl
 have m14:At K mg "points_up" "points_up" (top 24) ["direction"]:=⟨_,_,W.mg_of X G a14,F14,b14⟩
 have F15:=a0X (st:=(top 25)) l15 c15 k15
 have b15:=F15.binds (ps:=["direction", "ahead"]) fun _ _ _ _ _ _ us hl=>by obtain ⟨_,_,rfl⟩:=us2 hl; rfl
 have m15:At K mg "lies_left" "lies_left" (top 25) ["direction", "ahead"]:=⟨_,_,W.mg_of X G a15,F15,b15⟩
 have F16:=a0X (st:=(top 26)) l16 c16 k16
 have b16:=F16.binds (ps:=["direction"]) fun _ _ _ _ _ _ us hl=>by obtain ⟨_,rfl⟩:=us1 hl; rfl
 have m16:At K mg "check_direction" "check_direction" (top 26) ["direction"]:=⟨_,_,W.mg_of X G a16,F16,b16⟩
 have F17:=a0X (st:=(top 27)) l17 c17 k17
 have b17:=F17.binds (ps:=["directions"]) fun _ _ _ _ _ _ us hl=>by obtain ⟨_,rfl⟩:=us1 hl; rfl
 have m17:At K mg "check_directions" "check_directions" (top 27) ["directions"]:=⟨_,_,W.mg_of X G a17,F17,b17⟩
 have F18:=a0X (st:=(top 30)) l18 c18 k18
 have b18:=F18.binds (ps:=["_law_script", "_law_k"]) fun _ _ _ _ _ _ us hl=>by obtain ⟨_,_,rfl⟩:=us2 hl; rfl
 have m18:At K mg "_law_cell_at" "_law_cell_at" (top 30) ["_law_script", "_law_k"]:=⟨_,_,W.mg_of X G a18,F18,b18⟩
 have F19:=a0X (st:=(top 31)) l19 c19 k19
 have b19:=F19.binds (ps:=["_law_found"]) fun _ _ _ _ _ _ us hl=>by obtain ⟨_,rfl⟩:=us1 hl; rfl
 have m19:At K mg "_law_whole" "_law_whole" (top 31) ["_law_found"]:=⟨_,_,W.mg_of X G a19,F19,b19⟩
 have F20:=a0X (st:=(top 32)) l20 c20 k20
 have b20:=F20.binds (ps:=["_law_found"]) fun _ _ _ _ _ _ us hl=>by obtain ⟨_,rfl⟩:=us1 hl; rfl
 have m20:At K mg "_law_wholes" "_law_wholes" (top 32) ["_law_found"]:=⟨_,_,W.mg_of X G a20,F20,b20⟩
 have F21:=a0X (st:=(top 33)) l21 c21 k21
 have b21:=F21.binds (ps:=["_law_cell", "_law_most"]) fun _ _ _ _ _ _ us hl=>by obtain ⟨_,_,rfl⟩:=us2 hl; rfl
 have m21:At K mg "_law_bands" "_law_bands" (top 33) ["_law_cell", "_law_most"]:=⟨_,_,W.mg_of X G a21,F21,b21⟩
 have F22:=a0X (st:=(top 34)) l22 c22 k22
 have b22:=F22.binds (ps:=["_law_cell", "_law_step", "_law_many_here"]) fun _ _ _ _ _ _ us hl=>by obtain ⟨_,_,_,rfl⟩:=us3 hl; rfl
 have m22:At K mg "_law_pick" "_law_pick" (top 34) ["_law_cell", "_law_step", "_law_many_here"]:=⟨_,_,W.mg_of X G a22,F22,b22⟩
 have F23:=a0X (st:=(top 35)) l23 c23 k23
 have b23:=F23.binds (ps:=["_law_path", "_law_p"]) fun _ _ _ _ _ _ us hl=>by obtain ⟨_,_,rfl⟩:=us2 hl; rfl
 have m23:At K mg "_law_exchanged" "_law_exchanged" (top 35) ["_law_path", "_law_p"]:=⟨_,_,W.mg_of X G a23,F23,b23⟩
 have F24:=a0X (st:=(top 36)) l24 c24 k24
 have b24:=F24.binds (ps:=["_law_bands_here", "_law_cell"]) fun _ _ _ _ _ _ us hl=>by obtain ⟨_,_,rfl⟩:=us2 hl; rfl
 have m24:At K mg "_law_row" "_law_row" (top 36) ["_law_bands_here", "_law_cell"]:=⟨_,_,W.mg_of X G a24,F24,b24⟩
 have F25:=a0X (st:=(top 37)) l25 c25 k25
 have b25:=F25.binds (ps:=["_law_bands_here", "_law_row_here"]) fun _ _ _ _ _ _ us hl=>by obtain ⟨_,_,rfl⟩:=us2 hl; rfl
 have m25:At K mg "_law_floor" "_law_floor" (top 37) ["_law_bands_here", "_law_row_here"]:=⟨_,_,W.mg_of X G a25,F25,b25⟩
 have F26:=a0X (st:=(top 38)) l26 c26 k26
 have b26:=F26.binds (ps:=["_law_bands_here", "_law_kind"]) fun _ _ _ _ _ _ us hl=>by obtain ⟨_,_,rfl⟩:=us2 hl; rfl
 have m26:At K mg "_law_many" "_law_many" (top 38) ["_law_bands_here", "_law_kind"]:=⟨_,_,W.mg_of X G a26,F26,b26⟩
 have F27:=a0X (st:=(top 39)) l27 c27 k27
 have b27:=F27.binds (ps:=["_law_bands_here"]) fun _ _ _ _ _ _ us hl=>by obtain ⟨_,rfl⟩:=us1 hl; rfl
 have m27:At K mg "_law_sides" "_law_sides" (top 39) ["_law_bands_here"]:=⟨_,_,W.mg_of X G a27,F27,b27⟩
 have F28:=a0X (st:=(top 40)) l28 c28 k28
 have b28:=F28.binds (ps:=["_law_bands_here"]) fun _ _ _ _ _ _ us hl=>by obtain ⟨_,rfl⟩:=us1 hl; rfl
 have m28:At K mg "_law_threes" "_law_threes" (top 40) ["_law_bands_here"]:=⟨_,_,W.mg_of X G a28,F28,b28⟩
 have F29:=a0X (st:=(top 41)) l29 c29 k29
 have b29:=F29.binds (ps:=["_law_tiles"]) fun _ _ _ _ _ _ us hl=>by obtain ⟨_,rfl⟩:=us1 hl; rfl
 have m29:At K mg "_law_belows" "_law_belows" (top 41) ["_law_tiles"]:=⟨_,_,W.mg_of X G a29,F29,b29⟩
 have F30:=a0X (st:=(top 42)) l30 c30 k30
 have b30:=F30.binds (ps:=["_law_bands_here", "_law_tiles"]) fun _ _ _ _ _ _ us hl=>by obtain ⟨_,_,rfl⟩:=us2 hl; rfl
 have m30:At K mg "_law_up" "_law_up" (top 42) ["_law_bands_here", "_law_tiles"]:=⟨_,_,W.mg_of X G a30,F30,b30⟩
 have F31:=a0X (st:=(top 43)) l31 c31 k31
 have b31:=F31.binds (ps:=["_law_tiles"]) fun _ _ _ _ _ _ us hl=>by obtain ⟨_,rfl⟩:=us1 hl; rfl
 have m31:At K mg "_law_kinds_of" "_law_kinds_of" (top 43) ["_law_tiles"]:=⟨_,_,W.mg_of X G a31,F31,b31⟩
 have F32:=a0X (st:=(top 44)) l32 c32 k32
 have b32:=F32.binds (ps:=["_law_belows_here", "_law_three"]) fun _ _ _ _ _ _ us hl=>by obtain ⟨_,_,rfl⟩:=us2 hl; rfl
 have m32:At K mg "_law_hexagon" "_law_hexagon" (top 44) ["_law_belows_here", "_law_three"]:=⟨_,_,W.mg_of X G a32,F32,b32⟩
 have F33:=a0X (st:=(top 45)) l33 c33 k33
 have b33:=F33.binds (ps:=["_law_tiles", "_law_three", "_law_found"]) fun _ _ _ _ _ _ us hl=>by obtain ⟨_,_,_,rfl⟩:=us3 hl; rfl
 have m33:At K mg "_law_behind" "_law_behind" (top 45) ["_law_tiles", "_law_three", "_law_found"]:=⟨_,_,W.mg_of X G a33,F33,b33⟩
 have F34:=a0X (st:=(top 46)) l34 c34 k34
 have b34:=F34.binds (ps:=["_law_bands_here", "_law_tiles"]) fun _ _ _ _ _ _ us hl=>by obtain ⟨_,_,rfl⟩:=us2 hl; rfl
 have m34:At K mg "_law_is_laid" "_law_is_laid" (top 46) ["_law_bands_here", "_law_tiles"]:=⟨_,_,W.mg_of X G a34,F34,b34⟩
 have F35:=a0X (st:=(top 47)) l35 c35 k35
 have b35:=F35.binds (ps:=["_law_sides_here", "_law_bands_here", "_law_tiles", "_law_three"]) fun _ _ _ _ _ _ us hl=>by obtain ⟨_,_,_,_,rfl⟩:=us4 hl; rfl
 have m35:At K mg "_law_flips" "_law_flips" (top 47) ["_law_sides_here", "_law_bands_here", "_law_tiles", "_law_three"]:=⟨_,_,W.mg_of X G a35,F35,b35⟩
 have F36:=a0X (st:=(top 48)) l36 c36 k36
 have b36:=F36.binds (ps:=["_law_script"]) fun _ _ _ _ _ _ us hl=>by obtain ⟨_,rfl⟩:=us1 hl; rfl
 have m36:At K mg "law" "law" (top 48) ["_law_script"]:=⟨_,_,W.mg_of X G a36,F36,b36⟩
 have a2d:∃ t,mg "FEWEST_DIRECTIONS" = some (.int 2 t):=⟨_,W.mg_of X G z_FEWEST_DIRECTIONS⟩
 have a2C:∃ t,mg "MOST_DIRECTIONS" = some (.int 6 t):=⟨_,W.mg_of X G z_MOST_DIRECTIONS⟩
 have a4o:∃ t,mg "MOST_BANDS" = some (.int 12 t):=⟨_,W.mg_of X G z_MOST_BANDS⟩
 have a2O:∃ t,mg "LARGEST_PART" = some (.int 999999999999 t):=⟨_,W.mg_of X G z_LARGEST_PART⟩
 have w_ValueError:mg "ValueError" = none:=W.mg_none_of X G o_ValueError
 have w_abs:mg "abs" = none:=W.mg_none_of X G o_abs
 have w_all:mg "all" = none:=W.mg_none_of X G o_all
 have a8k:mg "bool" = none:=W.mg_none_of X G o_bool
 have a5f:mg "enumerate" = none:=W.mg_none_of X G o_enumerate
 have a8J:mg "int" = none:=W.mg_none_of X G o_int
 have a0q:mg "isinstance" = none:=W.mg_none_of X G o_isinstance
 have a1a:mg "len" = none:=W.mg_none_of X G o_len
 have a1N:mg "list" = none:=W.mg_none_of X G o_list
 have w_min:mg "min" = none:=W.mg_none_of X G o_min
 have a0H:mg "range" = none:=W.mg_none_of X G o_range
 have a0N:mg "sorted" = none:=W.mg_none_of X G o_sorted
 have w_sum:mg "sum" = none:=W.mg_none_of X G o_sum
 have a0O:mg "tuple" = none:=W.mg_none_of X G o_tuple
 have w_zip:mg "zip" = none:=W.mg_none_of X G o_zip
 refine ⟨W.fnOf "law" "law" (a0v (top 48)) (a0r (top 48)) (a0e (top 48)) .none kV36 dc36 pm36 an36 cd36 ct36,fun s v=>.of_eq rfl,fun base _ _=>?_⟩
 have cl:Cls K C:=⟨pg,hd,po,sa⟩
 have mI:IAt K mg "Sides" C "Sides.__init__" (a0P (top 28) 0) ["self", "directions"]:=⟨_,_,⟨mk,a0,i0,kc⟩,W.mg_of X G aC,F0,b0⟩
 have a2g:=dq_with_band (P:=l.prog) (w:=w) (base:=base) m4 a0N a0O len_wb p_with_band
 have d_belows:=dq_belows (P:=l.prog) (w:=w) (base:=base) m5  a8y p_belows
 have a3e:=a8f (P:=l.prog) (w:=w) (base:=base) m7 a2g mo_wb len_su a9c
 have a2v:=a6P (P:=l.prog) (w:=w) (base:=base) m8 a2g mo_wb len_sd a7w
 have a3t:=a6O (P:=l.prog) (w:=w) (base:=base) m9 a3e mo_su a2v mo_sd len_tf a7v
 have a6w:=dq_is_whole (P:=l.prog) (w:=w) (base:=base) m11 a0q a8J a8k len_isw p_is_whole
 have a2x:=a5x (P:=l.prog) (w:=w) (base:=base) m12 a0q a0O a1a w_all a6w mo_isw len_three a5N
 have a2J:=a5T (P:=l.prog) (w:=w) (base:=base) m13 w_abs a2O len_few a6g
 have a5z:=dq_points_up (P:=l.prog) (w:=w) (base:=base) m14  len_few p_points_up
 have a5A:=dq_lies_left (P:=l.prog) (w:=w) (base:=base) m15  len_left p_lies_left
 have a2K:=a5U (P:=l.prog) (w:=w) (base:=base) m16 a2x mo_three a2J mo_few a5z mo_few len_chk1 a6h
 have a2y:=a5y (P:=l.prog) (w:=w) (base:=base) m17 a0q a1N a1a w_sum w_zip a2d a2C a4o a2K mo_chk1 a5A mo_left len_chk a5O
 have d_Sides:=dq_init (P:=l.prog) (w:=w) (base:=base) mI a5f a0O cl n_kinds n_vectors a2y mo_chk len_sides p_init
 have a7O:=dq_many (P:=l.prog) (w:=w) (mg:=mg) (base:=base) m1 a1a cl n_kinds len_many p_many
 have a6G:=dq_kind (P:=l.prog) (w:=w) (mg:=mg) (base:=base) m2 cl n_kinds len_kind p_kind
 have d_pairs:=dq_pairs (P:=l.prog) (w:=w) (mg:=mg) (base:=base) m3 a0H cl a7O a5t a6G a4D len_pairs p_pairs
 have d_threes:=dq_threes (P:=l.prog) (w:=w) (base:=base) m6 a0H cl d_pairs mo_pairs a7O a5t a6G a4D len_threes p_threes
 have a4H:=dq_flipped (P:=l.prog) (w:=w) (base:=base) m10 a0N d_threes a7A d_belows a3R a3t mo_tf len_flip p_flipped
 have a2w:=a8i (P:=l.prog) (w:=w) (base:=base) m18 a1a len_cell p_law_cell_at
 have a2h:=dq_law_whole (P:=l.prog) (w:=w) (base:=base) m19 a0q a8J a8k len_lw p_law_whole
 have a4F:=dq_law_wholes (P:=l.prog) (w:=w) (base:=base) m20 a0q a0O a2h mo_lw len_wholes p_law_wholes
 have a5E:=dq_law_bands (P:=l.prog) (w:=w) (base:=base) m21 a0H a1a w_min len_bands p_law_bands
 have a6u:=dq_law_pick (P:=l.prog) (w:=w) (base:=base) m22  len_pick p_law_pick
 have a0R:=a6Q (P:=l.prog) (w:=w) (base:=base) m23  len_exch a7x
 have a7P:=dq_law_row (P:=l.prog) (w:=w) (base:=base) m24 a1a a1N a0H a6u mo_pick a0R mo_exch len_row p_law_row
 have a5C:=dq_law_floor (P:=l.prog) (w:=w) (base:=base) m25 a1a a1N a0H a0N a0O a0R mo_exch len_floor p_law_floor
 have a6v:=dq_law_many (P:=l.prog) (w:=w) (base:=base) m26 a1a len_lmany p_law_many
 have a5B:=dq_law_sides (P:=l.prog) (w:=w) (base:=base) m27 a0H a6v mo_lmany d_Sides mo_sides len_lsides p_law_sides
 have a2i:=dq_law_threes (P:=l.prog) (w:=w) (base:=base) m28 a1a a0H len_lt3 p_law_threes
 have a1o:=dq_law_belows (P:=l.prog) (w:=w) (base:=base) m29  a8y p_law_belows
 have a7b:=dq_law_up (P:=l.prog) (w:=w) (base:=base) m30 a1o a3R a2i mo_lt3 len_lup p_law_up
 have a3J:=a7N (P:=l.prog) (w:=w) (base:=base) m31 a0q a1N a0O a1a a2h mo_lw a4F mo_wholes len_kof a8a
 have a1R:=a8h (P:=l.prog) (w:=w) (base:=base) m32 a1N a0N a0O len_hx p_law_hexagon
 have a4G:=dq_law_behind (P:=l.prog) (w:=w) (base:=base) m33 a0N a0O len_beh p_law_behind
 have a4f:=a8g (P:=l.prog) (w:=w) (base:=base) m34 a1a a1N a0H a0N a0O a0R mo_exch len_laid a9d
 have a5D:=dq_law_flips (P:=l.prog) (w:=w) (base:=base) m35 a1N a0N a1o a3R a1R mo_hx a4G mo_beh a4H mo_flip a3J mo_kof a4f mo_laid a7b mo_lup len_flips p_law_flips
 exact dq_law F36 a1a w_min a0H a8J a2w mo_cell a5E mo_bands a5B mo_lsides a7P mo_row a5C mo_floor a1o a3R a2i mo_lt3 a1R mo_hx a5D mo_flips len_law p_law
theorem walk {l:W.OpenLaw} {q:Program} {loose:List Str} {XP:(Str->Option Value)->Heap->Prop} {YP:World->Heap->Prop} {d:DefRec} {K:Params->W.Frag} (hn:l.most=some 63) (hdf:d.params.defaults=[])
  (hY:∀ (w:World) (h:Heap),YP w h->(K w.params).In h)
  (F:∀ (w:World) (mg:Str->Option Value) (fa:Addr) (h:Heap),(K w.params).In h->h.Ns mainGlobals mg->mg d.name=some (.ref fa) ->
   ∃ fd:FuncData,(∀ (s:Shared) (u:Value),BindsTo s fd ⟨[u],[]⟩ [("_law_script",u)]) /\ ∀ base:Heap,(K w.params).In base->base.Ns mainGlobals mg->FnOk l.prog w (K w.params) mg base CX0 8 fa fd ["_law_script"] ((low (K w.params) spLaw))):
  W.WalkO q loose XP YP l.row.toRowW d [] (fun f vs=>PySem.call f vs):=
 L2.walk_of (n:=63) (k:=8) (x:="_law_script") (CX:=fun _=>CX0) (sp:=fun w=>(low (K w.params) spLaw)) hn (by decide) hdf ⟨rfl,by decide,by decide⟩ hY F (fun _ H a ns hl hO hS=>law_start hl hO hS) fun _ _ _ _ _ z=>z
end Lw
noncomputable def Hd.QV:PySem.Program:=PySem.W.view PySem.Challenge.pw_slantfloor_k45_flipped [0,2,3,4,6,7,9,11,12,13,14,16,18,19,20,21,22,23,24,25,26,27,28,30,31,32,33,34,35,36,37,38,39,40,41,42,43,44,45,46,47,48]
open PySem PySem.W PyProof.Rows
local macro_rules | `(tactic| o_head $H)=>`(tactic| refine holds_open (q:=Hd.QV) (loose:=[]) (Xt:=fun s=>xlAt Hd.QV [] s && recOk (RowW.records (OpenRow.toRowW (OpenLaw.row PySem.Challenge.rw_slantfloor_k45_flipped))) s) (XP:=XL Hd.QV []) (Yf:=Hook.obs $H) (Ya:=Hook.val $H) (YP:=Hook.says $H) (N:=4428) ?hl (Hook.of $H) (Hook.keeps $H) (fun s e=>xl_of s (Bool.and_eq_true_iff.mp e).1) XL.keeps (by rfl) (by rfl) (by rfl) (fun s e=>recFacts_of (Bool.and_eq_true_iff.mp e).2) (by rfl) (by first | assumption | decide +kernel) (by decide +kernel) ⟨rfl,rfl,rfl,rfl,rfl,by decide +kernel⟩ ?hw ?hc)
set_option maxRecDepth 100000 in
set_option maxHeartbeats 0 in
theorem PySem.Challenge.cw_slantfloor_k45_flipped_holds : PySem.Challenge.rw_slantfloor_k45_flipped.Holds := by
 w_on; o_law; k_head
 (case hl=>exact Hd.left_of (HZ:=boot_heap) (gs₀:=Array.mk []) (d₀:=boot_drawn) (k₀:=boot_toks) (m₀:=11) (ann:=some (.ref 6)) (M:=4428) (boot_open (by kernel_rfl) rfl (fun s=>by kernel_rfl)) (fun w=>by kernel_rfl) rfl (fun w os=>by rw [PySem.W.Fast.te10156331382660048174,PySem.W.Fast.te11892475500146522536,PySem.W.Fast.te14364793385576792824,PySem.W.Fast.te6613529449190102663,PySem.W.Fast.te4187177175401517315]; kernel_rfl))
 (case hw=>w_witness2)
 k_fill
 refine Lw.walk (l:=PySem.Challenge.rw_slantfloor_k45_flipped) rfl rfl (fun w h Y=>by first | exact PySem.W.kIn_of Y | exact PySem.W.km_in_of Y) ?F
 case F=>
  intro w mg fa h KX G hmg
  refine' Lw.all_mk KX G hmg ?aC ?a0 ?i0 ?l0 ?c0 ?k0 ?a1 ?i1 ?l1 ?c1 ?k1 ?a2 ?i2 ?l2 ?c2 ?k2 ?a3 ?i3 ?l3 ?c3 ?k3 ?pg ?hd ?po ?sa ?mk ?kc ?n_kinds ?n_vectors ?a4 ?l4 ?c4 ?k4 ?a5 ?l5 ?c5 ?k5 ?a6 ?l6 ?c6 ?k6 ?a7 ?l7 ?c7 ?k7 ?a8 ?l8 ?c8 ?k8 ?a9 ?l9 ?c9 ?k9 ?a10 ?l10 ?c10 ?k10 ?a11 ?l11 ?c11 ?k11 ?a12 ?l12 ?c12 ?k12 ?a13 ?l13 ?c13 ?k13 ?a14 ?l14 ?c14 ?k14 ?a15 ?l15 ?c15 ?k15 ?a16 ?l16 ?c16 ?k16 ?a17 ?l17 ?c17 ?k17 ?a18 ?l18 ?c18 ?k18 ?a19 ?l19 ?c19 ?k19 ?a20 ?l20 ?c20 ?k20 ?a21 ?l21 ?c21 ?k21 ?a22 ?l22 ?c22 ?k22 ?a23 ?l23 ?c23 ?k23 ?a24 ?l24 ?c24 ?k24 ?a25 ?l25 ?c25 ?k25 ?a26 ?l26 ?c26 ?k26 ?a27 ?l27 ?c27 ?k27 ?a28 ?l28 ?c28 ?k28 ?a29 ?l29 ?c29 ?k29 ?a30 ?l30 ?c30 ?k30 ?a31 ?l31 ?c31 ?k31 ?a32 ?l32 ?c32 ?k32 ?a33 ?l33 ?c33 ?k33 ?a34 ?l34 ?c34 ?k34 ?a35 ?l35 ?c35 ?k35 ?a36 ?l36 ?c36 ?k36 ?z_FEWEST_DIRECTIONS ?z_MOST_DIRECTIONS ?z_MOST_BANDS ?z_LARGEST_PART ?o_ValueError ?o_abs ?o_all ?o_bool ?o_enumerate ?o_int ?o_isinstance ?o_len ?o_list ?o_min ?o_range ?o_sorted ?o_sum ?o_tuple ?o_zip
  any_goals k_is

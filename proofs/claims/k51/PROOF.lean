import PyProof.Rows.All
import Wide.All
import OpenK.AllK
import Wide.FinOn
import Lean
import PyProof.EqAt
import PyProof.EqKinds
import PyProof.TupleCall
import PyProof.NeKinds
import PyProof.NeData
import PyProof.EqLayable
import PyProof.ZipIter
import PyProof.EnumMake
import KE.LcSums
import PyProof.CompFree
import PyProof.ListRange
import PyProof.Rows.Range3
import PyProof.TupleOfSeq
import KE.KSortTup
import PyProof.Rows.TupAdd
import PyProof.DictWalks
import Open.Boot
import Open.Tree
import PySem.Challenge.RW_slantfloor_k51_unlike_threes
local macro_rules | `(tactic| ac_rfl) => `(tactic| first | lia | omega)
set_option Elab.async false
set_option linter.all false
set_option maxRecDepth 100000
set_option maxHeartbeats 1000000
namespace L2
open PySem PySem.Spec PyProof.Rows
def Mild (o:Obj):Prop:=∃ us:Array Value,o.data = .fields us /\ us[2]? = some .none
theorem dat1 {o:Obj} {vs:Array Value} {i:Nat} {v:Value} (d:o.data = .fields vs):(Obj.mapFields (·.setIfInBounds i v) o).data = .fields (vs.setIfInBounds i v):=Obj.data_mapFields d _
section
variable {M:Model} {A:Around} {E:Value -> Shared -> Prop} {s:Shared} {base:Heap} {env:Env} {outer:List Env} {L e:Addr} {o:Obj}
end
end L2
namespace L2
open PySem PySem.Spec PyProof.Rows
def Qu (A:Around) (h:Heap):Prop:=A.handled = none \/ ∃ (a:Addr) (o:Obj),A.handled = some (.ref a) /\ h.get? a = some o /\ Mild o
theorem Qu.keeps {A:Around} {h h':Heap} (q:Qu A h) (k:∀ b o,Mild o -> h.get? b = some o -> h'.get? b = some o):Qu A h':=by
  rcases q with q | ⟨a,o,e,g,m⟩
  . exact .inl q
  . exact .inr ⟨a,o,e,k a o m g,m⟩
theorem entry_unchain:entryFor table "proto.unchain" = some Builtin.«proto.unchain» := entryFor_of_fast (by kernel_rfl)
section
variable {prog:Program} {w:World} {A:Around} {E:Value -> Shared -> Prop} {s:Shared}
theorem unchain_mild {e:Value} {a:Addr} {o:Obj} {Q:Value -> Shared -> Prop} (g:s.heap.get? a = some o) (m:Mild o) (q:Q .none s):wpAny (model prog w) A (runValue (.builtin "proto.unchain" ⟨[e,.ref a,.ref a,.bool false],[]⟩)) Q E s:=by
  obtain ⟨us,d,n2⟩:=m
  refine runValue_entry entry_unchain ?_
  unfold Builtin.«proto.unchain»
  dsimp only
  refine wpAny_bind (wpAny_field g d n2 ?_)
  rw [if_pos (by decide)]
  exact wpAny_pure ⟨_,rfl,q⟩
theorem raise_new {α:Type} {a:Addr} {o:Obj} {us:Array Value} {Q:α -> Shared -> Prop} (q:Qu A s.heap) (g:s.heap.get? a = some o) (d:o.data = .fields us) (hz:2 < us.size) (hm:∀ v,A.handled = some v -> v ≠ .ref a)
    (h:∀ h' o',(∀ b u,b ≠ a -> s.heap.get? b = some u -> h'.get? b = some u) -> h'.get? a = some o' -> o'.cls = o.cls -> E (.ref a) { s with heap:=h' }):wpAny (model prog w) A (raiseNew (α:=α) (.ref a)) Q E s:=by
  simp only [raiseNew]
  refine wpAny_bind (wpAny_handled ?_)
  rcases q with q | ⟨b,ob,q,gb,mb⟩
  . rw [q]
    exact wpAny_bind (wpAny_pure (wpAny_throw (h s.heap o (fun _ _ _ z => z) g rfl)))
  . rw [q]
    have ne:b ≠ a:=fun z => hm _ q (by rw [z])
    dsimp only
    rw [if_pos (show (Value.ref b != Value.ref a) = true by simpa using ne)]
    refine wpAny_bind (wpAny_holding (unchain_mild gb mb (wpAny_bind ?_)))
    unfold updateField
    refine wpAny_bind (wpAny_load g ?_)
    rw [d]
    dsimp only
    rw [if_pos hz]
    refine wpAny_update g (wpAny_throw (h _ (Obj.mapFields (·.setIfInBounds 2 (.ref b)) o) (fun c u hc z => (Heap.get?_update_other _ _ (Ne.symm hc)).trans z) (Heap.get?_update_self _ g (Obj.isFreed_of_fields (dat1 d))) (Obj.cls_mapFields ..)))
theorem raise_stop {α:Type} {Q:α -> Shared -> Prop} (q:Qu A s.heap) (h:∀ h' e,(∀ b u,s.heap.get? b = some u -> h'.get? b = some u) -> (∃ o,h'.get? e = some o /\ o.cls = .type "StopIteration") -> E (.ref e) { s with heap:=h' }):
    wpAny (model prog w) A (newExc (.type "StopIteration") [] >>= fun e => raiseNew (α:=α) e) Q E s:=by
  refine wpAny_bind ?_
  simp only [newExc,newTuple]
  refine wpAny_bind (wpAny_newObj_type (wpAny_bind (m:=firstArgMember _ _) (wpAny_of_eq (a:=Value.none) (by first | rfl | (simp only [firstArgMember]; rfl)) (wpAny_newObj_type ?_ (by size_fits)))) (by size_fits))
  refine raise_new (q.keeps fun b u _ z => Heap.get?_push_of_some _ (Heap.get?_push_of_some _ z)) (Heap.get?_push_size _ rfl) rfl (by simp; ac_rfl) (fun v e z => ?_) fun h' o' k g c => h h' _ (fun b u z => k b u ?_ (Heap.get?_push_of_some _ (Heap.get?_push_of_some _ z))) ⟨o',g,c⟩
  . subst z
    rcases q with q | ⟨b,ob,q,gb,_⟩
    . rw [q] at e; cases e
    . rw [q] at e
      cases e
      exact Nat.lt_irrefl _ (Nat.lt_of_lt_of_le (Heap.lt_size gb) (by rw [Heap.size_push]; exact Nat.le_succ _))
  . intro e
    subst e
    exact Nat.lt_irrefl _ (Nat.lt_of_lt_of_le (Heap.lt_size z) (by rw [Heap.size_push]; exact Nat.le_succ _))
theorem end_list {it l:Addr} {i:Nat} {xs:Array Value} {Q:Option Value -> Shared -> Prop} (q:Qu A s.heap) (t:s.heap.IsListIter it l i) (il:s.heap.IsList l xs) (n:xs[i]? = none) (h:∀ h',Heap.ExtBut it s.heap h' -> Q none { s with heap:=h' }):
    wpAny (model prog w) A (pyNext (.ref it)) Q E s:=by
  obtain ⟨o,g,c,d⟩:=id t
  obtain ⟨ol,gl,_,nl,dl⟩:=il
  unfold pyNext
  refine wpAny_bind (wpAny_attempt (wpAny_callSpecial?_slot (name:=Str.ofString "__next__") t.typeIs slot_listiter_next (wpAny_call_entry slot_listiter_next t.typeIs entry_listiter_next ?_ (args_listiter_next _))))
  refine wpAny_bind (m:=field (.ref it) 0) (wpAny_field g d (x:=.ref l) rfl ?_)
  rw [if_neg (show ¬ ((Value.ref l == Value.none) = true) from fun z => nomatch z)]
  refine wpAny_bind (m:=field (.ref it) 1) (wpAny_field g d (x:=.int i 0) rfl (wpAny_bind (m:=seqItems? (.ref l)) (wpAny_seqItems gl dl ?_)))
  simp only [Int.toNat_natCast,n]
  have ne:∀ b u,Mild u -> s.heap.get? b = some u -> b ≠ it:=fun b u m gb z => by
    subst z
    rw [g] at gb
    cases gb
    obtain ⟨us,du,z2⟩:=m
    rw [d] at du
    cases du
    simp at z2
  refine wpAny_bind (wpAny_rule (wpAny_bind (wpAny_setField g d (by simp) (raise_stop (q.keeps fun b u m z => (Heap.get?_update_other _ _ (Ne.symm (ne b u m z))).trans z) fun h' e k ⟨oe,ge,ce⟩ => ?_))))
  refine wpAny_bind (wpAny_isInstance (T:="StopIteration") (b:=true) ⟨oe,ge,ce⟩ isSubtype_stop (wpAny_pure (h _ fun b u hb z => k b u ((Heap.get?_update_other _ _ (Ne.symm hb)).trans z))))
theorem end_tuple {it l:Addr} {i:Nat} {xs:Array Value} {Q:Option Value -> Shared -> Prop} (q:Qu A s.heap) (t:s.heap.IsTupleIter it l i) (il:s.heap.IsTuple l xs) (n:xs[i]? = none) (h:∀ h',Heap.ExtBut it s.heap h' -> Q none { s with heap:=h' }):
    wpAny (model prog w) A (pyNext (.ref it)) Q E s:=by
  obtain ⟨o,g,c,d⟩:=id t
  obtain ⟨ol,gl,_,nl,dl⟩:=il
  unfold pyNext
  refine wpAny_bind (wpAny_attempt (wpAny_callSpecial?_slot (name:=Str.ofString "__next__") t.typeIs F.slot_tuple_iterator_next (wpAny_call_entry F.slot_tuple_iterator_next t.typeIs F.entry_tuple_iterator_next ?_ (F.args_tuple_iterator_next_1 _))))
  refine wpAny_bind (m:=field (.ref it) 0) (wpAny_field g d (x:=.ref l) rfl ?_)
  rw [if_neg (show ¬ ((Value.ref l == Value.none) = true) from fun z => nomatch z)]
  refine wpAny_bind (m:=field (.ref it) 1) (wpAny_field g d (x:=.int i 0) rfl (wpAny_bind (m:=seqItems? (.ref l)) (wpAny_seqItems gl dl ?_)))
  simp only [Int.toNat_natCast,n]
  have ne:∀ b u,Mild u -> s.heap.get? b = some u -> b ≠ it:=fun b u m gb z => by
    subst z
    rw [g] at gb
    cases gb
    obtain ⟨us,du,z2⟩:=m
    rw [d] at du
    cases du
    simp at z2
  refine wpAny_bind (wpAny_rule (wpAny_bind (wpAny_setField g d (by simp) (raise_stop (q.keeps fun b u m z => (Heap.get?_update_other _ _ (Ne.symm (ne b u m z))).trans z) fun h' e k ⟨oe,ge,ce⟩ => ?_))))
  refine wpAny_bind (wpAny_isInstance (T:="StopIteration") (b:=true) ⟨oe,ge,ce⟩ isSubtype_stop (wpAny_pure (h _ fun b u hb z => k b u ((Heap.get?_update_other _ _ (Ne.symm hb)).trans z))))
theorem end_range {it:Addr} {x left step:Int} {Q:Option Value -> Shared -> Prop} (q:Qu A s.heap) (t:IsRangeIter s.heap it x left step) (n:left <= 0) (h:∀ h',Heap.ExtBut it s.heap h' -> Q none { s with heap:=h' }):
    wpAny (model prog w) A (pyNext (.ref it)) Q E s:=by
  have ty:s.TypeIs (.ref it) "range_iterator" := ⟨_,t,rfl⟩
  unfold pyNext
  refine wpAny_bind (wpAny_attempt (wpAny_callSpecial?_slot (name:=Str.ofString "__next__") ty F.slot_range_iterator_next (wpAny_call_entry F.slot_range_iterator_next ty F.entry_range_iterator_next ?_ (F.args_range_iterator_next_1 _))))
  refine wpAny_bind (m:=field (.ref it) 0) (wpAny_field t rfl (x:=rawInt x) rfl (wpAny_bind (m:=field (.ref it) 1) (wpAny_field t rfl (x:=rawInt left) rfl (wpAny_bind (m:=field (.ref it) 2) (wpAny_field t rfl (x:=rawInt step) rfl ?_)))))
  refine (show wpAny _ _ (ite (left <= 0) _ _) _ _ s from ?_)
  rw [if_pos n]
  refine wpAny_bind (wpAny_rule (wpAny_bind (raise_stop q fun h' e k ⟨oe,ge,ce⟩ => ?_)))
  refine wpAny_bind (wpAny_isInstance (T:="StopIteration") (b:=true) ⟨oe,ge,ce⟩ isSubtype_stop (wpAny_pure (h _ fun b u hb z => k b u z)))
theorem nextOf_end {it l:Addr} {i:Nat} {xs:Array Value} {Q:Value -> Shared -> Prop} (q:Qu A s.heap) (t:s.heap.IsListIter it l i) (il:s.heap.IsList l xs) (n:xs[i]? = none)
    (h:∀ h' e,Heap.ExtBut it s.heap h' -> (∃ o,h'.get? e = some o /\ o.cls = .type "StopIteration") -> E (.ref e) { s with heap:=h' }):wpAny (model prog w) A (Builtin.SmallTypes.nextOf (.ref it)) Q E s:=by
  obtain ⟨o,g,c,d⟩:=id t
  obtain ⟨ol,gl,_,nl,dl⟩:=il
  unfold Builtin.SmallTypes.nextOf
  refine wpAny_bind (wpAny_callSpecial?_slot (name:=Str.ofString "__next__") t.typeIs slot_listiter_next (wpAny_call_entry slot_listiter_next t.typeIs entry_listiter_next ?_ (args_listiter_next _)))
  refine wpAny_bind (m:=field (.ref it) 0) (wpAny_field g d (x:=.ref l) rfl ?_)
  rw [if_neg (show ¬ ((Value.ref l == Value.none) = true) from fun z => nomatch z)]
  refine wpAny_bind (m:=field (.ref it) 1) (wpAny_field g d (x:=.int i 0) rfl (wpAny_bind (m:=seqItems? (.ref l)) (wpAny_seqItems gl dl ?_)))
  simp only [Int.toNat_natCast,n]
  have ne:∀ b u,Mild u -> s.heap.get? b = some u -> b ≠ it:=fun b u m gb z => by
    subst z
    rw [g] at gb
    cases gb
    obtain ⟨us,du,z2⟩:=m
    rw [d] at du
    cases du
    simp at z2
  exact wpAny_bind (wpAny_rule (wpAny_bind (wpAny_setField g d (by simp) (raise_stop (q.keeps fun b u m z => (Heap.get?_update_other _ _ (Ne.symm (ne b u m z))).trans z) fun h' e k z => h h' e (fun b u hb z => k b u ((Heap.get?_update_other _ _ (Ne.symm hb)).trans z)) z))))
theorem end_enum {e it l:Addr} {i:Nat} {xs:Array Value} {old:Value} {Q:Option Value -> Shared -> Prop} (q:Qu A s.heap) (he:IsEnum s.heap e it i old) (t:s.heap.IsListIter it l i) (il:s.heap.IsList l xs) (n:xs[i]? = none)
    (h:∀ h',Heap.ExtBut it s.heap h' -> Q none { s with heap:=h' }):wpAny (model prog w) A (pyNext (.ref e)) Q E s:=by
  have ty:s.TypeIs (.ref e) "enumerate" := ⟨_,he,rfl⟩
  unfold pyNext
  refine wpAny_bind (wpAny_attempt (wpAny_callSpecial?_slot (name:=Str.ofString "__next__") ty F.slot_enumerate_next (wpAny_call_entry F.slot_enumerate_next ty F.entry_enumerate_next ?_ (F.args_enumerate_next_1 _))))
  refine wpAny_bind (m:=field (.ref e) 2) (wpAny_field he rfl (x:=.ref it) rfl (wpAny_bind (nextOf_end q t il n fun h' x k ⟨oe,ge,ce⟩ => ?_)))
  exact wpAny_bind (wpAny_isInstance (T:="StopIteration") (b:=true) ⟨oe,ge,ce⟩ isSubtype_stop (wpAny_pure (h _ k)))
theorem end_zip {z TI TO i1 i2 l1 l2:Addr} {k1 k2:Nat} {xs ys:Array Value} {a b:Value} {Q:Option Value -> Shared -> Prop} (q:Qu A s.heap) (D:ZipApart z TI TO i1 i2 l1 l2) (hz:IsZip s.heap z TI TO .none) (pI:IsPair s.heap TI (.ref i1) (.ref i2)) (pO:IsPair s.heap TO a b)
    (t1:s.heap.IsListIter i1 l1 k1) (t2:s.heap.IsListIter i2 l2 k2) (il1:s.heap.IsList l1 xs) (il2:s.heap.IsList l2 ys) (n:xs[k1]? = none \/ ys[k2]? = none)
    (h:∀ h',(∀ c o,c ≠ z -> c ≠ TO -> c ≠ i1 -> c ≠ i2 -> s.heap.get? c = some o -> h'.get? c = some o) -> Q none { s with heap:=h' }):wpAny (model prog w) A (pyNext (.ref z)) Q E s:=by
  have ty:s.TypeIs (.ref z) "zip" := ⟨_,hz,rfl⟩
  have fin:∀ h' e,(∃ o,h'.get? e = some o /\ o.cls = .type "StopIteration") -> (∀ c o,c ≠ z -> c ≠ TO -> c ≠ i1 -> c ≠ i2 -> s.heap.get? c = some o -> h'.get? c = some o) ->
      wpAny (model prog w) A (isInstance (.ref e) (.type "StopIteration") >>= fun y => if y = true then pure none else throw (.ref e)) Q E { s with heap:=h' }:=fun h' e ⟨oe,ge,ce⟩ k =>
    wpAny_bind (wpAny_isInstance (T:="StopIteration") (b:=true) ⟨oe,ge,ce⟩ isSubtype_stop (wpAny_pure (h _ k)))
  have mz:∀ f0,¬ Mild { cls:=.type "zip",dict:=none,data:=.fields #[f0,.bool false,.bool false,.ref TI,.ref TO],slots:=#[] }:=fun f0 ⟨us,du,z2⟩ => by
    cases du
    simp at z2
  have mi:∀ {h1:Heap} {i l:Addr} {k:Nat},h1.IsListIter i l k -> ∀ u,Mild u -> h1.get? i ≠ some u:=fun ⟨o,g,_,d⟩ u ⟨us,du,z2⟩ gu => by
    rw [g] at gu
    cases gu
    rw [d] at du
    cases du
    simp at z2
  have mp:∀ {h1:Heap} {p:Addr} {x y:Value},IsPair h1 p x y -> ∀ u,Mild u -> h1.get? p ≠ some u:=fun g u ⟨us,du,z2⟩ gu => by
    rw [g] at gu
    cases gu
    cases du
  unfold pyNext
  refine wpAny_bind (wpAny_attempt (wpAny_callSpecial?_slot (name:=Str.ofString "__next__") ty F.slot_zip_next (wpAny_call_entry F.slot_zip_next ty F.entry_zip_next ?_ (F.args_zip_next_1 _))))
  refine wpAny_bind (m:=field (.ref z) 2) (wpAny_field hz rfl (x:=.bool false) rfl (wpAny_bind (m:=field (.ref z) 3) (wpAny_field hz rfl (x:=.ref TI) rfl (wpAny_bind (wpAny_seqItems pI rfl ?_)))))
  refine wpAny_bind (m:=Builtin.SmallTypes.ownedTupleIsFree (.ref z)) ?_
  unfold Builtin.SmallTypes.ownedTupleIsFree
  refine wpAny_bind (wpAny_field hz rfl (x:=.none) rfl (wpAny_pure ?_))
  simp only [if_true]
  refine wpAny_bind (wpAny_rule (wpAny_bind (wpAny_field hz rfl (x:=.ref TO) rfl (wpAny_bind (wpAny_setField_rec hz (by simp) fun h1 hz1 s1 => wpAny_bind ?_)))))
  replace hz1:IsZip h1 z TI TO .ellipsis:=hz1
  have q1:Qu A h1:=q.keeps fun c u m g => s1.extBut c u (fun e => by subst e; rw [hz] at g; cases g; exact mz _ m) g
  simp only [List.zipIdx_cons,List.zipIdx_nil,List.forIn_cons,List.forIn_nil]
  refine wpAny_bind (wpAny_bind (wpAny_onRaise (wpAny_bind (m:=Builtin.SmallTypes.nextOf (.ref i1)) ?_)))
  have t1':=t1.extBut s1.extBut D.i1z
  have il1':=il1.extBut s1.extBut D.l1z
  cases hx:xs[k1]? with
  | none =>
    refine nextOf_end q1 t1' il1' hx fun h2 e s2 ⟨oe,ge,ce⟩ => ?_
    have hz2:IsZip h2 z TI TO .ellipsis:=s2 _ _ D.i1z.symm hz1
    have ne:e ≠ z:=fun y => by subst y; rw [hz2] at ge; cases ge; simp at ce
    exact wpAny_setField_rec hz2 (by simp) fun h3 _ s3 => fin h3 e ⟨oe,s3.extBut _ _ ne ge,ce⟩ fun c o c1 _ c3 _ g => s3.extBut _ _ c1 (s2 _ _ c3 (s1.extBut _ _ c1 g))
  | some x =>
    have hy:ys[k2]? = none:=n.elim (fun y => by rw [hx] at y; cases y) id
    refine wpAny_nextOf_list_item t1' il1' hx fun h2 t2' s2 => wpAny_pure ?_
    have pO2:IsPair h2 TO a b:=s2.extBut _ _ D.TOi1 (s1.extBut _ _ D.TOz pO)
    have q2:Qu A h2:=q1.keeps fun c u m g => s2.extBut c u (fun e => by subst e; exact mi t1' u m g) g
    refine wpAny_bind (wpAny_seqItems pO2 rfl (wpAny_bind (wpAny_updateSeq_pair pO2 fun h3 pO3 s3 => wpAny_bind (wpAny_letGo (wpAny_pure ?_)))))
    have q3:Qu A h3:=q2.keeps fun c u m g => s3.extBut c u (fun e => by subst e; exact mp pO2 u m g) g
    refine wpAny_bind (wpAny_bind (wpAny_onRaise (wpAny_bind (m:=Builtin.SmallTypes.nextOf (.ref i2)) ?_)))
    refine nextOf_end q3 (((t2.extBut s1.extBut D.i2z).extBut s2.extBut D.i12.symm).extBut s3.extBut D.TOi2.symm) (((il2.extBut s1.extBut D.l2z).extBut s2.extBut D.l2i1).extBut s3.extBut D.l2TO) hy fun h4 e s4 ⟨oe,ge,ce⟩ => ?_
    have hz4:IsZip h4 z TI TO .ellipsis:=s4 _ _ D.i2z.symm (s3.extBut _ _ D.TOz.symm (s2.extBut _ _ D.i1z.symm hz1))
    have ne:e ≠ z:=fun y => by subst y; rw [hz4] at ge; cases ge; simp at ce
    exact wpAny_setField_rec hz4 (by simp) fun h5 _ s5 => fin h5 e ⟨oe,s5.extBut _ _ ne ge,ce⟩ fun c o c1 c2 c3 c4 g => s5.extBut _ _ c1 (s4 _ _ c4 (s3.extBut _ _ c2 (s2.extBut _ _ c3 (s1.extBut _ _ c1 g))))
theorem walk_list {a:Addr} {o:Obj} (hh:A.handled = some (.ref a)) (m:Mild o) (I ax:Addr) (hne:ax ≠ I) (xs:Array Value):
    Walks prog w A I [I,ax,a] [I] xs.size (fun i v => xs[i]? = some v) (fun i h => (h.IsListIter I ax i /\ h.IsList ax xs) /\ h.get? a = some o) where
  sub:=fun b hb => by simp at hb; simp [hb]
  frame:=fun _ _ _ st k => ⟨⟨st.1.1.at fun o e => k I (by simp) o e,st.1.2.at fun o e => k ax (by simp) o e⟩,k a (by simp) _ st.2⟩
  item:=fun i s Q E hi st h => by
    have na:a ≠ I:=fun e => by
      subst e
      obtain ⟨o',g,_,d⟩:=st.1.1
      obtain ⟨us,du,z2⟩:=m
      rw [st.2] at g
      cases g
      rw [d] at du
      cases du
      simp at z2
    exact wpAny_pyNext_list_item st.1.1 st.1.2 (x:=xs[i]) (by simp [hi]) fun h' t sb => h _ h' s.toks (by simp [hi]) ⟨⟨t,st.1.2.extBut sb.extBut hne⟩,sb.extBut _ _ na st.2⟩ fun b o hb e => sb.extBut b o (fun z => hb (by simp [z])) e
  done:=fun s Q E st h => end_list (.inr ⟨a,o,hh,st.2,m⟩) st.1.1 st.1.2 (by simp) fun h' k => h h' s.toks fun b o hb e => k b o (fun z => hb (by simp [z])) e
  self:=fun _ _ _ _ st q => wpAny_pyIter_listiter st.1.1 q
theorem sum_q {l:Addr} {xs:Array (Int × Tok)} {Q:Value -> Shared -> Prop} (q:Qu A s.heap) (il:s.heap.IsList l (intItems xs))
    (h:∀ h' tk t',(∀ b o,s.heap.get? b = some o -> h'.get? b = some o) -> Q (.int (preSum (numAt xs) xs.size) t') { s with heap:=h',toks:=tk }):wpAny (model prog w) A (call (.builtin "sum") [.ref l]) Q E s:=by
  rcases q with q | ⟨a,o,q,g,m⟩
  . exact sum_intListG q il h
  . refine call_sum_walkG (iter_intList il fun s2 e st fp ne => ?_)
    subst e
    refine ⟨_,_,_,_,_,_,numAt xs,rfl,walk_list (A:=A.in1) q m _ l ne (intItems xs),⟨st,Heap.get?_push_of_some _ g⟩,fun b hb => ?_,fun _ _ => intItems_at,fun h' tk t' k => ?_⟩
    . rcases List.mem_cons.mp hb with e | hb
      . exact fp b (by simp [e])
      . rcases List.mem_cons.mp hb with e | hb
        . exact fp b (by simp [e])
        . have e:b = a:=by simpa using hb
          subst e
          exact Heap.lt_size (Heap.get?_push_of_some _ g)
    . have:=h h' tk t' (old_kept k)
      simpa [intItems] using this
theorem item_range {it:Addr} {lo c:Int} {n i:Nat} {Q:Option Value -> Shared -> Prop} (hi:i < n) (t:IsRangeIter s.heap it (lo + (i:Nat) * c) ((n:Int) - (i:Nat)) c)
    (h:∀ v h' tk,(∃ t,v = .int (lo + i * c) t) -> IsRangeIter h' it (lo + ((i + 1:Nat):Int) * c) ((n:Int) - ((i + 1:Nat):Int)) c -> (∀ b o,b ∉ [it] -> s.heap.get? b = some o -> h'.get? b = some o) -> Q (some v) { s with heap:=h',toks:=tk }):
    wpAny (model prog w) A (pyNext (.ref it)) Q E s:=by
  refine wpAny_pyNext_range_item t (by ac_rfl) fun h' t' sb => h _ h' _ ⟨_,rfl⟩ ?_ fun b o hb e => sb.extBut b o (fun z => hb (by simp [z])) e
  rw [show ((i + 1:Nat):Int) = (i:Int) + 1 by simp,show lo + ((i:Int) + 1) * c = lo + i * c + c by rw [Int.add_mul,Int.one_mul,Int.add_assoc],show (n:Int) - ((i:Int) + 1) = n - i - 1 by ac_rfl]
  exact t'
end
end L2
namespace L2
open PySem PySem.Spec PyProof.Rows
noncomputable abbrev Key:=Sum Int Str
noncomputable def keyIs:Key -> Value -> Bool
  | .inl k,v => Value.isInt k v
  | .inr x,v => Value.isStrOf x v
noncomputable def keyH (w:World):Key -> Int
  | .inl k => hashInt k
  | .inr x => hashStr w x
theorem keyIs_shape:∀ {k:Key} {v:Value},keyIs k v = true -> (∃ i t,k = Sum.inl i /\ v = Value.int i t) \/ (∃ x t,k = Sum.inr x /\ v = Value.str x t)
  | .inl i,v,h => by
    obtain ⟨t,e⟩:=Value.isInt_shape (k:=i) (v:=v) h
    exact .inl ⟨i,t,rfl,e⟩
  | .inr x,v,h => by
    obtain ⟨t,e⟩:=Value.isStrOf_shape (x:=x) (v:=v) h
    exact .inr ⟨x,t,rfl,e⟩
theorem keyIs_int (i:Int) (t:Tok):keyIs (.inl i) (.int i t) = true:=by simp [keyIs,Value.isInt]
theorem keyIs_str (x:Str) (t:Tok):keyIs (.inr x) (.str x t) = true:=by simp [keyIs,Value.isStrOf]
theorem key_ll (a b:Int):decide ((Sum.inl a:Key) = Sum.inl b) = (a == b):=by
  by_cases e:a = b
  . subst e; simp
  . have h:¬ (Sum.inl a:Key) = Sum.inl b:=fun q => e (Sum.inl.inj q)
    rw [decide_eq_false h]
    exact (beq_eq_false_iff_ne.mpr e).symm
theorem key_rr (a b:Str):decide ((Sum.inr a:Key) = Sum.inr b) = decide (a = b):=by
  by_cases e:a = b
  . subst e; simp
  . have h:¬ (Sum.inr a:Key) = Sum.inr b:=fun q => e (Sum.inr.inj q)
    rw [decide_eq_false h,decide_eq_false e]
theorem key_lr (a:Int) (b:Str):decide ((Sum.inl a:Key) = Sum.inr b) = false:=decide_eq_false (fun q => nomatch q)
theorem key_rl (a:Str) (b:Int):decide ((Sum.inr a:Key) = Sum.inl b) = false:=decide_eq_false (fun q => nomatch q)
noncomputable def mixKind (prog:Program) (w:World):PySem.KeyKind prog w Key where
  is:=keyIs
  hash:=keyH w
  inj:=fun v a b ha hb => by
    rcases keyIs_shape ha with ⟨i,t,rfl,rfl⟩ | ⟨x,t,rfl,rfl⟩
    . rcases keyIs_shape hb with ⟨j,u,rfl,e⟩ | ⟨y,u,rfl,e⟩
      . injection e with e1 _; rw [e1]
      . exact nomatch e
    . rcases keyIs_shape hb with ⟨j,u,rfl,e⟩ | ⟨y,u,rfl,e⟩
      . exact nomatch e
      . injection e with e1 _; rw [e1]
  byValue:=fun k v h => by
    rcases keyIs_shape h with ⟨i,t,rfl,rfl⟩ | ⟨x,t,rfl,rfl⟩ <;> rfl
  pyHash:=fun hv h => by
    rcases keyIs_shape hv with ⟨i,t,rfl,rfl⟩ | ⟨x,t,rfl,rfl⟩
    . exact wpAny_pyHash_int h
    . exact wpAny_pyHash_str h
  eqBool:=fun hu hv h => by
    rcases keyIs_shape hu with ⟨i,t,rfl,rfl⟩ | ⟨x,t,rfl,rfl⟩
    . rcases keyIs_shape hv with ⟨j,u,rfl,rfl⟩ | ⟨y,u,rfl,rfl⟩
      . rw [key_ll] at h; exact wpAny_eqBool_int h
      . rw [key_lr] at h; exact SeqAt.EqAt.int_str i t y u _ _ _ _ h
    . rcases keyIs_shape hv with ⟨j,u,rfl,rfl⟩ | ⟨y,u,rfl,rfl⟩
      . rw [key_rl] at h; exact SeqAt.EqAt.str_int x t j u _ _ _ _ h
      . rw [key_rr] at h; exact wpAny_eqBool_str h
  «strs» := fun k x t v h => by
    rcases keyIs_shape h with ⟨i,u,rfl,e⟩ | ⟨y,u,rfl,e⟩
    . exact nomatch e
    . injection e with e1 _
      subst e1
      cases v <;> rfl
theorem mixKind_int (prog:Program) (w:World) (i:Int) (t:Tok):(mixKind prog w).is (.inl i) (.int i t) = true:=keyIs_int i t
theorem mixKind_str (prog:Program) (w:World) (x:Str) (t:Tok):(mixKind prog w).is (.inr x) (.str x t) = true:=keyIs_str x t
end L2
namespace L2
open PySem PySem.Spec PyProof.Rows
inductive V where
  | non | bl (b:Bool) | int (i:Int) | str (x:Str) | byt (b:Array UInt8) | flt (b:UInt64) | ref (a:Addr) | ty (n:String)
  deriving DecidableEq
def RelV:V -> Value -> Prop
  | .non,u => u = Value.none
  | .bl b,u => u = Value.bool b
  | .int i,u => ∃ t,u = Value.int i t
  | .str x,u => ∃ t,u = Value.str x t
  | .byt b,u => ∃ t,u = Value.bytes b t
  | .flt b,u => ∃ t,u = Value.float b t
  | .ref a,u => u = Value.ref a
  | .ty n,u => u = Value.type n
abbrev Vals:List V -> List Value -> Prop:=Paired RelV
theorem Vals.length {xs:List V} {us:List Value} (r:Vals xs us):xs.length = us.length:=Paired.length r
theorem Vals.get:∀ {xs:List V} {us:List Value} {i:Nat} {x:V},Vals xs us -> xs[i]? = some x -> ∃ u,us[i]? = some u /\ RelV x u
  | _,_,_,_,.nil,e => by simp at e
  | _,_,0,_,.cons r _,e => by simp at e; subst e; exact ⟨_,rfl,r⟩
  | _,_,i + 1,x,.cons _ t,e => by
    obtain ⟨u,h1,h2⟩:=Vals.get (i:=i) (x:=x) t (by simpa using e)
    exact ⟨u,by simpa using h1,h2⟩
theorem Vals.append:∀ {xs ys:List V} {us ws:List Value},Vals xs us -> Vals ys ws -> Vals (xs ++ ys) (us ++ ws)
  | _,_,_,_,.nil,s => s
  | _,_,_,_,.cons r t,s => .cons r (Vals.append t s)
theorem Vals.take:∀ {xs:List V} {us:List Value} (n:Nat),Vals xs us -> Vals (xs.take n) (us.take n)
  | _,_,0,_ => .nil
  | _,_,_ + 1,.nil => .nil
  | _,_,n + 1,.cons r t => .cons r (Vals.take n t)
theorem Vals.drop:∀ {xs:List V} {us:List Value} (n:Nat),Vals xs us -> Vals (xs.drop n) (us.drop n)
  | _,_,0,r => r
  | _,_,_ + 1,.nil => .nil
  | _,_,n + 1,.cons _ t => Vals.drop n t
def RelO:Option V -> Option Value -> Prop
  | some v,some u => RelV v u
  | none,none => True
  | _,_ => False
def KV {κ:Type}:List (κ × V) -> List (κ × Value) -> Prop:=Paired fun (p:κ × V) (q:κ × Value) => p.1 = q.1 /\ RelV p.2 q.2
noncomputable def kV:Key -> V
  | .inl i => .int i
  | .inr x => .str x
inductive HO where
  /-- a list -/
  | lst (xs:List V)
  /-- a tuple (never changes) -/
  | tup (xs:List V)
  /-- a dict whose keys are ints and texts; one whose keys are tuples of ints and texts (the empty one is both) -/
  | dK (kvs:List (Key × V)) | dT (ep:Nat) (kvs:List (List Key × V))
  /-- a set of ints: its members,its size -/
  | set (S:Int -> Bool) (n:Nat)
  /-- an instance of the class at C,its dict at dx,its attributes -/
  | ins (C dx:Addr) (fs:List (Str × V))
  /-- the dict of the instance at x -/
  | own (x:Addr)
  /-- the dict of an exception -/
  | xd (fs:List (Str × V))
  /-- a bound method,f of x -/
  | met (f x:Addr)
  /-- a range object lo,lo + 1,.. below hi -/
  | rng (lo hi:Int)
  /-- a thing that is known to the object (the script; a dict while a loop walks it): read,never written while it is so -/
  | frz (o:Obj) (u:HO)
  /-- a code object's table -/
  | tbl (ps:Array Value)
  /-- a code object's table whose lambdas are named q; such a lambda's code -/
  | lam (q:Str) | cod (q:Str)
  /-- any other thing,by what is true of its one object (a def of one's own: SetO a S n:=HO.ext fun h => ..) -/
  | ext (φ:Heap -> Prop)
noncomputable abbrev Hp:=Addr -> Option HO
noncomputable def upd (H:Hp) (a:Addr) (o:HO):Hp:=fun b => if b = a then some o else H b
theorem upd_same {H:Hp} {a:Addr} {o:HO}:upd H a o a = some o:=by unfold upd; rw [if_pos rfl]
theorem upd_ne {H:Hp} {a b:Addr} {o:HO} (h:b ≠ a):upd H a o b = H b:=by unfold upd; rw [if_neg h]
theorem ne_of {H:Hp} {a b:Addr} {o u:HO} (h:H a = some o) (h':H b = some u) (d:o ≠ u):a ≠ b:=by
  intro e; subst e; rw [h] at h'; exact d (Option.some.inj h')
theorem ne_of_none {H:Hp} {a b:Addr} {o:HO} (h:H a = some o) (h':H b = none):a ≠ b:=by
  intro e; subst e; rw [h] at h'; cases h'
section
variable (P:Program) (w:World)
def ObjOk (H:Hp) (h:Heap) (a:Addr):HO -> Prop
  | .lst xs => xs.length <= sizeLine /\ ∃ (its:List Value) (n:Nat),Vals xs its /\ h.get? a = some { cls:=.type "list",data:=.seq its.toArray n }
  | .tup xs => xs.length <= sizeLine /\ ∃ its:List Value,Vals xs its /\ IsTup h a its.toArray
  | .dK kvs => kvs.length <= sizeLine /\ (a == sysModules) = false /\ ∃ vs,KV kvs vs /\ h.DictOf (mixKind P w) a vs
  | .dT ep kvs => kvs.length <= sizeLine /\ (a == sysModules) = false /\ ∃ xs:List (List Key × Addr × Value),
      Paired (fun (p:List Key × V) (q:List Key × Addr × Value) => p.1 = q.1 /\ H q.2.1 = some (.tup (p.1.map kV)) /\ RelV p.2 q.2.2) kvs xs /\
      ∃ o es,h.get? a = some o /\ o.ExactDict /\ o.data = .dict es ep /\ es.toList = xs.map (entryOfKey (tupleKind (mixKind P w))) /\ (xs.map (·.1)).Nodup
  | .set S n => h.SetOf (intKind P w) a S n
  | .ins C dx fs => H dx = some (.own a) /\ fs.length <= 1000 /\ dx ≠ a /\ h.get? a = some (W.instObj C dx) /\
      ∃ mA,h.Ns1 dx mA /\ (∀ f,RelO (fs.lookup f) (mA f)) /\ PySem.Within mA (fs.map (·.1))
  | .own _ => ∃ o,h.get? a = some o
  | .xd fs => ∃ mA,h.Ns1 a mA /\ ∀ f,RelO (fs.lookup f) (mA f)
  | .rng lo hi => ∃ t u v,h.get? a = some { cls:=.type "range",data:=.fields #[.int lo t,.int hi u,.int 1 v] }
  | .frz o u => h.get? a = some o /\ ObjOk H h a u
  | .tbl ps => h.get? a = some { cls:=.none,data:=.fields ps }
  | .lam q => ∃ ps:Array Value,h.get? a = some (W.tabObj ps) /\ TriplesOk ps.toList /\ ∀ p:Pos,codeAmong p ps.toList = none \/ ∃ c,codeAmong p ps.toList = some (.ref c) /\ H c = some (.cod q)
  | .cod q => h.CodeRec (.ref a) q
  | .met f x => h.get? a = some (W.methodObj (.ref f) (.ref x))
  | .ext φ => φ h /\ (∃ o,h.get? a = some o) /\ ∀ h1 h2:Heap,φ h1 -> (∀ o,h1.get? a = some o -> h2.get? a = some o) -> φ h2
def HOk (H:Hp) (h:Heap):Prop:=∀ a o,H a = some o -> ObjOk P w H h a o
end
section
variable {P:Program} {w:World} {H H':Hp} {h h':Heap} {a:Addr} {o:HO}
theorem ObjOk.lt (x:ObjOk P w H h a o):a < h.objs.size:=by
  cases o with
  | lst xs => obtain ⟨_,_,_,_,e⟩:=x; exact Heap.lt_size e
  | tup xs => obtain ⟨_,_,_,p⟩:=x; exact p.lt
  | dK kvs => obtain ⟨_,_,_,_,o,_,_,e,_⟩:=x; exact Heap.lt_size e
  | dT ep kvs => obtain ⟨_,_,_,_,o,_,e,_⟩:=x; exact Heap.lt_size e
  | set S n => obtain ⟨o,_,_,_,e,_⟩:=x; exact Heap.lt_size e
  | ins C dx fs => obtain ⟨_,_,_,e,_⟩:=x; exact Heap.lt_size e
  | own y => obtain ⟨_,e⟩:=x; exact Heap.lt_size e
  | xd fs => obtain ⟨_,⟨_,_,_,e,_⟩,_⟩:=x; exact Heap.lt_size e
  | rng lo hi => obtain ⟨_,_,_,e⟩:=x; exact Heap.lt_size e
  | frz ob u => obtain ⟨e,_⟩:=x; exact Heap.lt_size e
  | tbl ps => exact Heap.lt_size (show h.get? a = some _ from x)
  | lam q => obtain ⟨_,e,_⟩:=x; exact Heap.lt_size e
  | cod q => obtain ⟨_,_,_,_,e,e2,_⟩:=x; cases e; exact Heap.lt_size e2
  | met f y => exact Heap.lt_size (show h.get? a = some _ from x)
  | ext φ => obtain ⟨_,⟨_,e⟩,_⟩:=x; exact Heap.lt_size e
theorem Paired.mapP {α β:Type} {F G:α -> β -> Prop}:∀ {l₁:List α} {l₂:List β},Paired F l₁ l₂ -> (∀ a b,F a b -> G a b) -> Paired G l₁ l₂
  | _,_,.nil,_ => .nil
  | _,_,.cons r t,f => .cons (f _ _ r) (Paired.mapP t f)
theorem ObjOk.stay (x:ObjOk P w H h a o) (k:∀ b u,(b = a \/ H b = some (.own a)) -> h.get? b = some u -> h'.get? b = some u)
    (ho:∀ b,H b = some (.own a) -> H' b = some (.own a)) (ht:∀ b xs,H b = some (.tup xs) -> H' b = some (.tup xs)) (hc:∀ b q,H b = some (.cod q) -> H' b = some (.cod q)):ObjOk P w H' h' a o:=by
  induction o with
  | lst xs => obtain ⟨z,its,n,r,e⟩:=x; exact ⟨z,its,n,r,k _ _ (.inl rfl) e⟩
  | tup xs => obtain ⟨z,its,r,ob,e,c⟩:=x; exact ⟨z,its,r,ob,k _ _ (.inl rfl) e,c⟩
  | dK kvs => obtain ⟨z,y,vs,r,ob,es,ep,e,c⟩:=x; exact ⟨z,y,vs,r,ob,es,ep,k _ _ (.inl rfl) e,c⟩
  | dT ep kvs =>
    obtain ⟨z,y,xs,r,ob,es,e,c⟩:=x
    exact ⟨z,y,xs,Paired.mapP r fun p q z => ⟨z.1,ht _ _ z.2.1,z.2.2⟩,ob,es,k _ _ (.inl rfl) e,c⟩
  | set S n => obtain ⟨ob,es,ep,t,e,c⟩:=x; exact ⟨ob,es,ep,t,k _ _ (.inl rfl) e,c⟩
  | ins C dx fs =>
    obtain ⟨d,z,ne,e,mA,⟨od,es,ep,e2,c⟩,r⟩:=x
    exact ⟨ho _ d,z,ne,k _ _ (.inl rfl) e,mA,⟨od,es,ep,k _ _ (.inr d) e2,c⟩,r⟩
  | own y => obtain ⟨ob,e⟩:=x; exact ⟨ob,k _ _ (.inl rfl) e⟩
  | xd fs => obtain ⟨mA,⟨od,es,ep,e,c⟩,r⟩:=x; exact ⟨mA,⟨od,es,ep,k _ _ (.inl rfl) e,c⟩,r⟩
  | rng lo hi => obtain ⟨t,u,v,e⟩:=x; exact ⟨t,u,v,k _ _ (.inl rfl) e⟩
  | frz ob u ih => obtain ⟨e,q⟩:=x; exact ⟨k _ _ (.inl rfl) e,ih q⟩
  | tbl ps =>
    have e:h.get? a = some { cls:=.none,data:=.fields ps }:=x
    show h'.get? a = some { cls:=.none,data:=.fields ps }
    exact k a _ (.inl rfl) e
  | lam q =>
    obtain ⟨ps,e,t,f⟩:=x
    exact ⟨ps,k _ _ (.inl rfl) e,t,fun p => (f p).imp_right fun ⟨c,e1,e2⟩ => ⟨c,e1,hc _ _ e2⟩⟩
  | cod q =>
    obtain ⟨_,o,vs,t,e,e2,e3⟩:=x
    cases e
    exact ⟨a,o,vs,t,rfl,k _ _ (.inl rfl) e2,e3⟩
  | met f y =>
    have e:h.get? a = some (W.methodObj (.ref f) (.ref y)):=x
    show h'.get? a = some (W.methodObj (.ref f) (.ref y))
    exact k a _ (.inl rfl) e
  | ext φ => obtain ⟨p,⟨o,e⟩,st⟩:=x; exact ⟨st _ _ p fun o q => k _ _ (.inl rfl) q,⟨o,k _ _ (.inl rfl) e⟩,st⟩
theorem HOk.lt (x:HOk P w H h) (e:H a = some o):a < h.objs.size:=(x a o e).lt
theorem HOk.fresh (x:HOk P w H h) (e:h.objs.size <= a):H a = none:=by
  cases q:H a with
  | none => rfl
  | some u => exact absurd (Nat.lt_of_lt_of_le (x.lt q) e) (Nat.lt_irrefl _)
theorem HOk.kept (x:HOk P w H h) (k:∀ b u,h.get? b = some u -> h'.get? b = some u):HOk P w H h':=fun a o e =>
  (x a o e).stay (fun b u _ q => k b u q) (fun _ q => q) (fun _ _ q => q) fun _ _ q => q
theorem HOk.laid (x:HOk P w H h) (k:∀ b u,h.get? b = some u -> h'.get? b = some u) (hp:h.objs.size <= a) (new:ObjOk P w (upd H a o) h' a o):HOk P w (upd H a o) h':=fun b u e => by
  have hn:=x.fresh hp
  by_cases hb:b = a
  . subst hb; rw [upd_same] at e; cases e; exact new
  . rw [upd_ne hb] at e
    exact (x b u e).stay (fun c v _ q => k c v q) (fun c q => by rw [upd_ne (ne_of_none q hn)]; exact q) (fun c xs q => by rw [upd_ne (ne_of_none q hn)]; exact q) fun c xs q => by rw [upd_ne (ne_of_none q hn)]; exact q
end
def Rd (H:Hp) (a:Addr) (u:HO):Prop:=H a = some u \/ ∃ o,H a = some (.frz o u)
theorem Rd.ok {P:Program} {w:World} {H:Hp} {h:Heap} {a:Addr} {u:HO} (r:Rd H a u) (x:HOk P w H h):ObjOk P w H h a u:=by
  rcases r with r | ⟨o,r⟩
  . exact x a u r
  . obtain ⟨_,q⟩:=x a _ r
    exact q
def Mut:Option HO -> Prop
  | some (.lst _) => True
  | some (.dK _) => True
  | some (.dT _ _) => True
  | some (.set _ _) => True
  | some (.ins _ _ _) => True
  | some (.ext _) => True
  | _ => False
section
variable {P:Program} {w:World} {H:Hp} {h h':Heap} {x e:Addr} {o':HO}
theorem HOk.write (ok:HOk P w H h) (mu:Mut (H x)) (he:e = x \/ H e = some (.own x)) (k:∀ b u,b ≠ e -> h.get? b = some u -> h'.get? b = some u) (heo:∃ u,h'.get? e = some u)
    (new:ObjOk P w (upd H x o') h' x o'):HOk P w (upd H x o') h':=fun b u q => by
  have nown:∀ c y,H c = some (.own y) -> c ≠ x:=fun c y r z => by subst z; rw [r] at mu; exact mu
  have ntup:∀ c xs,H c = some (.tup xs) -> c ≠ x:=fun c xs r z => by subst z; rw [r] at mu; exact mu
  have ncod:∀ c q,H c = some (.cod q) -> c ≠ x:=fun c xs r z => by subst z; rw [r] at mu; exact mu
  by_cases hb:b = x
  . subst hb; rw [upd_same] at q; cases q; exact new
  . rw [upd_ne hb] at q
    by_cases hbe:b = e
    . have q':H b = some (.own x):=by
        rcases he with z | z
        . exact absurd (hbe.trans z) hb
        . rw [hbe]; exact z
      rw [q] at q'; cases q'
      obtain ⟨v,hv⟩:=heo
      exact ⟨v,by rw [hbe]; exact hv⟩
    . refine (ok b u q).stay (fun c v hc r => k c v ?_ r) (fun c r => by rw [upd_ne (nown c b r)]; exact r) (fun c xs r => by rw [upd_ne (ntup c xs r)]; exact r) fun c xs r => by rw [upd_ne (ncod c xs r)]; exact r
      rcases hc with rfl | hc
      . exact hbe
      . rintro rfl
        rcases he with z | z
        . exact nown c b hc z
        . rw [hc] at z; cases z; exact hb rfl
end
structure Un (fs ex:List Addr) (H H':Hp) (h h':Heap):Prop where
  keep:∀ b o,h.get? b = some o -> H b = none -> b ∉ fs -> b ∉ ex -> h'.get? b = some o
  slot:∀ b o,h.get? b = some o -> H b = none -> b ∈ fs -> b ∉ ex -> ∃ sl,h'.get? b = some { o with slots:=sl }
  free:∀ b o,h.get? b = some o -> H b = none -> b ∉ ex -> H' b = none
  there:∀ b o,h.get? b = some o -> b ∉ ex -> ∃ o',h'.get? b = some o'
  tups:∀ b xs,H b = some (.tup xs) -> H' b = some (.tup xs)
  frzs:∀ b o u,H b = some (.frz o u) -> H' b = some (.frz o u)
  tbls:∀ b ps,H b = some (.tbl ps) -> ∃ more,H' b = some (.tbl (ps ++ more))
section
variable {fs fs' ex ex':List Addr} {H H1 H2:Hp} {h h1 h2 h':Heap} {a x e:Addr} {o:HO}
theorem Un.any (u:Un fs ex H H1 h h1) {b:Addr} {ob:Obj} (q:h.get? b = some ob) (n:H b = none) (hx:b ∉ ex):∃ sl,h1.get? b = some { ob with slots:=sl }:=by
  by_cases hb:b ∈ fs
  . exact u.slot b ob q n hb hx
  . exact ⟨ob.slots,u.keep b ob q n hb hx⟩
theorem Un.kept (k:∀ b u,h.get? b = some u -> h'.get? b = some u):Un fs ex H H h h':=
  ⟨fun b ob q _ _ _ => k b ob q,fun b ob q _ _ _ => ⟨ob.slots,k b ob q⟩,fun _ _ _ n _ => n,fun b ob q _ => ⟨ob,k b ob q⟩,fun _ _ q => q,fun _ _ _ q => q,fun _ ps q => ⟨#[],by rw [q]; simp⟩⟩
theorem Un.refl:Un fs ex H H h h:=Un.kept fun _ _ q => q
theorem Un.laid (k:∀ b u,h.get? b = some u -> h'.get? b = some u) (hp:h.objs.size <= a) (hn:H a = none):Un fs ex H (upd H a o) h h' where
  keep:=fun b u q _ _ _ => k b u q
  slot:=fun b u q _ _ _ => ⟨u.slots,k b u q⟩
  free:=fun b u q n _ => by rw [upd_ne (Nat.ne_of_lt (Nat.lt_of_lt_of_le (Heap.lt_size q) hp))]; exact n
  there:=fun b u q _ => ⟨u,k b u q⟩
  tups:=fun b xs q => by rw [upd_ne (ne_of_none q hn)]; exact q
  frzs:=fun b u xs q => by rw [upd_ne (ne_of_none q hn)]; exact q
  tbls:=fun b ps q => ⟨#[],by rw [upd_ne (ne_of_none q hn),q]; simp⟩
theorem Un.write (mu:Mut (H x)) (he:e = x \/ H e = some (.own x)) (k:∀ b u,b ≠ e -> h.get? b = some u -> h'.get? b = some u) (heo:∃ u,h'.get? e = some u):Un fs ex H (upd H x o) h h':=by
  have hx:∀ b,H b = none -> b ≠ x:=fun b n z => by subst z; rw [n] at mu; exact mu
  have hb:∀ b,H b = none -> b ≠ e:=fun b n z => by
    subst z
    rcases he with r | r
    . exact hx b n r
    . rw [n] at r; cases r
  have hm:∀ b u,H b = some u -> ¬ Mut (some u) -> b ≠ x:=fun b u q nm z => by subst z; rw [q] at mu; exact nm mu
  refine ⟨fun b u q n _ _ => k b u (hb b n) q,fun b u q n _ _ => ⟨u.slots,k b u (hb b n) q⟩,fun b u q n _ => by rw [upd_ne (hx b n)]; exact n,fun b u q _ => ?_,
    fun b xs q => by rw [upd_ne (hm b _ q fun z => z)]; exact q,fun b u xs q => by rw [upd_ne (hm b _ q fun z => z)]; exact q,fun b ps q => ⟨#[],by rw [upd_ne (hm b _ q fun z => z),q]; simp⟩⟩
  by_cases hbe:b = e
  . subst hbe; exact heo
  . exact ⟨u,k b u hbe q⟩
end
noncomputable def trk (h:Heap) (H:Hp):List Addr:=(List.range h.objs.size).filter fun a => (H a).isSome
noncomputable def hidT (h:Heap) (H:Hp):Heap:=W.hideAll h (trk h H)
theorem hidT_size (h:Heap) (H:Hp):(hidT h H).objs.size = h.objs.size:=W.hideAll_size _ _
theorem hidT_get {h:Heap} {H:Hp} {b:Addr} {o:Obj} (e:h.get? b = some o) (n:H b = none):(hidT h H).get? b = some o:=
  W.hideAll_get _ e fun hm => by
    have q:(H b).isSome = true:=(List.mem_filter.mp hm).2
    rw [n] at q; simp at q
theorem of_hidT {h:Heap} {H:Hp} {b:Addr} {o:Obj} (e:(hidT h H).get? b = some o):h.get? b = some o /\ H b = none:=by
  have e':h.get? b = some o:=W.of_hideAll (trk h H) e
  refine ⟨e',?_⟩
  cases q:H b with
  | none => rfl
  | some x =>
    have hm:b ∈ trk h H:=List.mem_filter.mpr ⟨List.mem_range.mpr (Heap.lt_size e'),by simp [q]⟩
    have z:(hidT h H).get? b = none:=W.hideAll_none (trk h H) hm
    rw [z] at e; cases e
end L2
namespace L2
open PySem PySem.Spec PyProof.Rows
structure Mod (K:W.Frag) (mg:Str -> Option Value) (base:Heap):Prop where
  kin:K.In base
  glob:base.Ns mainGlobals mg
  blt:∃ mb,base.Ns builtinsNs mb /\ ∀ x:Str,x ≠ "__name__" -> mb x = bootBuiltins x
  nolimit:base.NoLimit
/-- the context: a def's body (or a comprehension's block) running. base: fixed through the whole law; s₀,HZ: the entry; outer: the frames whose slots others may change (a def's callers); stack: all frames that run;
   ex: iterators that were made ahead of the entry and are walked here (a comprehension's); fn: the names whose cells were made at the entry (a def: all; a comprehension's block: its own); calm: not within an except suite; pn: pins that every state bears; xe: what is wanted of an exception that leaves the code -/
structure Cx where
  prog:Program
  w:World
  K:W.Frag
  mg:Str -> Option Value
  base:Heap
  A:Around
  N:List Str
  s₀:Shared
  HZ:Hp
  env:Env
  outer:List Env
  stack:List Env
  ex:List Addr
  fn:Str -> Bool
  calm:Bool
  pn:List (Addr × Obj)
  xe:Value -> Shared -> Prop
  hs:List Addr
noncomputable def frs (l:List Env):List Addr:=l.filterMap (·.frame)
noncomputable abbrev Cx.fs (X:Cx):List Addr:=frs X.outer
def Vis (sc:Scope) (x:Str):Prop:=sc.names.lookup x = some .local \/ sc.names.lookup x = some .cell \/ sc.names.lookup x = some .free
def Loc (sc:Scope) (x:Str):Prop:=sc.names.lookup x = some .local \/ sc.names.lookup x = some .cell
def Look (env:Env) (h:Heap) (m:Str -> Option Value) (x:Str) (u:Value):Prop:=
  (env.kindOf x = some .local /\ m x = some u) \/ ((env.kindOf x = some .cell \/ env.kindOf x = some .free) /\ ∃ c,env.cells.lookup x = some c /\ h.IsCell c (some u))
structure Cx.Ok (X:Cx):Prop where
  mod:Mod X.K X.mg X.base
  kind:X.env.scope.kind = .function
  glob:X.env.globals = mainGlobals
  blt:X.env.builtins = builtinsNs
  above:X.s₀.heap.objs.size <= X.env.locals
  inj:∀ x y c,X.env.cells.lookup x = some c -> X.env.cells.lookup y = some c -> x = y
  has:∀ x,(X.env.kindOf x = some .cell \/ X.env.kindOf x = some .free) -> ∃ c,X.env.cells.lookup x = some c
  cab:∀ x c,X.fn x = true -> X.env.cells.lookup x = some c -> X.s₀.heap.objs.size <= c
  hd:X.calm = true -> X.A.handled = none
  frames:X.A.frames = some X.stack
  stk:X.stack = X.outer \/ (X.stack = X.env :: X.outer /\ X.env.frame = some X.env.locals)
  exf:∀ b ∈ X.ex,b ≠ X.env.locals /\ ∀ x c,X.env.cells.lookup x = some c -> c ≠ b
  bs:∀ b o,X.base.get? b = some o -> X.s₀.heap.get? b = some o /\ X.HZ b = none
  bsz:X.base.objs.size <= X.s₀.heap.objs.size
  noex:∀ b o,X.base.get? b = some o -> b ∉ X.ex
  exfs:∀ b ∈ X.ex,b ∉ X.fs
  funs:X.s₀.heap.FunFrames X.base X.outer
  frf:∀ b ∈ X.fs,X.HZ b = none
  hq:X.A.handled = none \/ ∃ a,a ∈ X.hs /\ X.A.handled = some (.ref a)
structure Inv (X:Cx) (pins:List (Addr × Obj)) (σ:List (Option V)) (H:Hp) (s:Shared):Prop where
  ok:X.Ok
  os:s.os = X.s₀.os
  bare:AllBare s.gens
  base:Un X.fs X.ex X.HZ H X.s₀.heap s.heap
  loc:∃ m,s.heap.Ns X.env.locals m /\ ∀ (i:Nat) (x:Str) (v:V),X.N[i]? = some x -> σ[i]? = some (some v) -> Vis X.env.scope x -> ∃ u,RelV v u /\ Look X.env s.heap m x u
  cell:∀ x c,X.env.cells.lookup x = some c -> ∃ v,s.heap.IsCell c v
  free:H X.env.locals = none
  freeC:∀ x c,X.env.cells.lookup x = some c -> H c = none
  pin:∀ p ∈ X.pn ++ pins,s.heap.get? p.1 = some p.2 /\ H p.1 = none /\ p.1 ≠ X.env.locals /\ p.1 ∉ X.fs /\ ∀ v,p.2.data ≠ .cell v
  hok:HOk X.prog X.w H s.heap
  len:σ.length = X.N.length
  mild:∀ a ∈ X.hs,∃ o u,H a = some (.frz o u) /\ Mild o
section
variable {X:Cx} {pins:List (Addr × Obj)} {σ:List (Option V)} {H H':Hp} {s:Shared} {h':Heap}
theorem Cx.Ok.nofr (ok:X.Ok) {b:Addr} {o:Obj} (e:X.base.get? b = some o):b ∉ X.fs:=fun hb => by
  have:=(ok.funs.mem hb).1
  rw [e] at this; cases this
theorem Inv.bs (I:Inv X pins σ H s):∀ b o,X.base.get? b = some o -> s.heap.get? b = some o /\ H b = none:=fun b o e =>
  ⟨I.base.keep b o (I.ok.bs b o e).1 (I.ok.bs b o e).2 (I.ok.nofr e) (I.ok.noex b o e),I.base.free b o (I.ok.bs b o e).1 (I.ok.bs b o e).2 (I.ok.noex b o e)⟩
theorem Inv.qu (I:Inv X pins σ H s):Qu X.A s.heap:=by
  rcases I.ok.hq with e | ⟨a,ha,e⟩
  . exact .inl e
  . obtain ⟨o,u,g,m⟩:=I.mild a ha
    obtain ⟨ho,_⟩:=(show ObjOk X.prog X.w H s.heap a (.frz o u) from I.hok a _ g)
    exact .inr ⟨a,o,e,ho,m⟩
theorem Inv.bk (I:Inv X pins σ H s):∀ b o,X.base.get? b = some o -> s.heap.get? b = some o:=fun b o e => (I.bs b o e).1
theorem Inv.mod (I:Inv X pins σ H s):Mod X.K X.mg X.base:=I.ok.mod
theorem Inv.kIn (I:Inv X pins σ H s):X.K.In s.heap:=I.ok.mod.kin.keeps I.bk
theorem Inv.lt (I:Inv X pins σ H s):X.env.locals < s.heap.objs.size:=let ⟨_,hn,_⟩:=I.loc; hn.lt
theorem Inv.sz (I:Inv X pins σ H s):X.s₀.heap.objs.size <= s.heap.objs.size:=Nat.le_trans I.ok.above (Nat.le_of_lt I.lt)
theorem Inv.nofs (I:Inv X pins σ H s) {a:Addr} (h:s.heap.objs.size <= a):a ∉ X.fs:=fun hb => by
  obtain ⟨_,o,ho,_⟩:=I.ok.funs.mem hb
  exact absurd (Nat.lt_of_lt_of_le (Heap.lt_size ho) (Nat.le_trans I.sz h)) (Nat.lt_irrefl _)
theorem Inv.cne (I:Inv X pins σ H s):∀ x c,X.env.cells.lookup x = some c -> c ≠ X.env.locals:=fun x c e z => by
  obtain ⟨v,o,ho,hd⟩:=I.cell x c e
  obtain ⟨m,⟨o',es,ep,ho',hd',_⟩,_⟩:=I.loc
  rw [z,ho'] at ho; cases ho; rw [hd'] at hd; cases hd
theorem Inv.funs (I:Inv X pins σ H s):s.heap.FunFrames X.base X.outer:=by
  have all:∀ (l:List Env),(∀ b ∈ frs l,b ∈ X.fs) -> X.s₀.heap.FunFrames X.base l -> s.heap.FunFrames X.base l:=by
    intro l
    induction l with
    | nil => intro _ _; trivial
    | cons env r ih =>
      intro hs hl
      obtain ⟨hk,⟨L,o,hf,hn,ho,hd⟩,hr⟩:=hl
      have hL:L ∈ X.fs:=hs L (by unfold frs; rw [List.filterMap_cons,hf]; exact List.mem_cons_self)
      obtain ⟨sl,e⟩:=I.base.slot L o ho (I.ok.frf L hL) hL fun z => I.ok.exfs L z hL
      exact ⟨hk,⟨L,_,hf,hn,e,hd⟩,ih (fun b hb => hs b (by unfold frs; rw [List.filterMap_cons,hf]; exact List.mem_cons_of_mem _ hb)) hr⟩
  exact all X.outer (fun _ hb => hb) I.ok.funs
theorem Inv.stack (I:Inv X pins σ H s):s.heap.FunFrames X.base X.stack:=by
  rcases I.ok.stk with e | ⟨e,hf⟩
  . rw [e]; exact I.funs
  . rw [e]
    obtain ⟨m,hn,_⟩:=I.loc
    refine .cons (by rw [I.ok.kind]; decide) hf hn ?_ I.funs
    exact Heap.get?_none_of_le (Nat.le_trans I.ok.bsz I.ok.above)
theorem Inv.stkSub (I:Inv X pins σ H s):∀ b ∈ frs X.stack,b ∈ X.env.locals :: X.fs:=fun b hb => by
  rcases I.ok.stk with e | ⟨e,hf⟩
  . rw [e] at hb; exact List.mem_cons_of_mem _ hb
  . rw [e] at hb
    unfold frs at hb
    rw [List.filterMap_cons,hf] at hb
    exact hb
theorem Inv.stkFree (I:Inv X pins σ H s):∀ b ∈ frs X.stack,H b = none:=fun b hb => by
  rcases List.mem_cons.mp (I.stkSub b hb) with e | hb
  . rw [e]; exact I.free
  . obtain ⟨_,o,ho,_⟩:=I.ok.funs.mem hb
    exact I.base.free b o ho (I.ok.frf b hb) fun z => I.ok.exfs b z hb
theorem Inv.step {g':Array GenState} {t':Nat} {d':Drawn} {ch:List Addr} (I:Inv X pins σ H s)
    (hch:∀ b ∈ ch,(b ∈ X.ex \/ X.s₀.heap.objs.size <= b) /\ b ≠ X.env.locals /\ (∀ x c,X.env.cells.lookup x = some c -> c ≠ b) /\ ∀ p ∈ X.pn ++ pins,p.1 ≠ b)
    (keep:∀ b o,b ≠ X.env.locals -> b ∉ X.fs -> b ∉ ch -> s.heap.get? b = some o -> H b = none -> h'.get? b = some o)
    (slot:∀ b o,b ≠ X.env.locals -> b ∈ X.fs -> b ∉ ch -> s.heap.get? b = some o -> H b = none -> ∃ sl,h'.get? b = some { o with slots:=sl }) (free:∀ b o,b ∉ ch -> s.heap.get? b = some o -> H b = none -> H' b = none)
    (there:∀ b o,b ∉ ch -> s.heap.get? b = some o -> ∃ o',h'.get? b = some o')
    (tups:∀ b xs,H b = some (.tup xs) -> H' b = some (.tup xs)) (frzs:∀ b o u,H b = some (.frz o u) -> H' b = some (.frz o u)) (tbls:∀ b ps,H b = some (.tbl ps) -> ∃ more,H' b = some (.tbl (ps ++ more)))
    (ns:∀ m,s.heap.Ns X.env.locals m -> h'.Ns X.env.locals m) (hok:HOk X.prog X.w H' h') (hg:AllBare g'):
    Inv X pins σ H' { s with heap:=h',gens:=g',drawn:=d',toks:=t' }:=by
  have neL:∀ b o,X.s₀.heap.get? b = some o -> b ≠ X.env.locals:=fun b o e => Nat.ne_of_lt (Nat.lt_of_lt_of_le (Heap.lt_size e) I.ok.above)
  have neC:∀ b o,X.s₀.heap.get? b = some o -> b ∉ X.ex -> b ∉ ch:=fun b o e hx hb => by
    rcases (hch b hb).1 with z | z
    . exact hx z
    . exact absurd (Nat.lt_of_lt_of_le (Heap.lt_size e) z) (Nat.lt_irrefl _)
  have cellK:∀ x c,X.env.cells.lookup x = some c -> ∀ v,s.heap.IsCell c v -> h'.IsCell c v:=fun x c e v ⟨o,ho,hd⟩ => by
    have nch:c ∉ ch:=fun z => (hch c z).2.2.1 x c e rfl
    by_cases hc:c ∈ X.fs
    . obtain ⟨sl,q⟩:=slot c o (I.cne x c e) hc nch ho (I.freeC x c e)
      exact ⟨_,q,hd⟩
    . exact ⟨o,keep c o (I.cne x c e) hc nch ho (I.freeC x c e),hd⟩
  refine ⟨I.ok,I.os,hg,⟨fun b o e n hb hx => ?_,fun b o e n hb hx => ?_,fun b o e n hx => ?_,fun b o e hx => ?_,fun b xs e => tups b xs (I.base.tups b xs e),fun b o xs e => frzs b o xs (I.base.frzs b o xs e),fun b ps e => ?_⟩,?_,fun x c e => ?_,?_,fun x c e => ?_,fun p hp => ?_,hok,I.len,fun a ha => let ⟨o,u,g,m⟩:=I.mild a ha; ⟨o,u,frzs a o u g,m⟩⟩
  . exact keep b o (neL b o e) hb (neC b o e hx) (I.base.keep b o e n hb hx) (I.base.free b o e n hx)
  . obtain ⟨sl,e1⟩:=I.base.slot b o e n hb hx
    obtain ⟨sl',e2⟩:=slot b _ (neL b o e) hb (neC b o e hx) e1 (I.base.free b o e n hx)
    exact ⟨sl',e2⟩
  . obtain ⟨o',e1⟩:=I.base.there b o e hx
    exact free b o' (neC b o e hx) e1 (I.base.free b o e n hx)
  . obtain ⟨o',e1⟩:=I.base.there b o e hx
    exact there b o' (neC b o e hx) e1
  . obtain ⟨m1,e1⟩:=I.base.tbls b ps e
    obtain ⟨m2,e2⟩:=tbls b _ e1
    exact ⟨m1 ++ m2,by rw [e2,Array.append_assoc]⟩
  . obtain ⟨m,hn,hl⟩:=I.loc
    refine ⟨m,ns m hn,fun i x v e1 e2 e3 => ?_⟩
    obtain ⟨u,r,l⟩:=hl i x v e1 e2 e3
    refine ⟨u,r,?_⟩
    rcases l with l | ⟨k,c,e,z⟩
    . exact .inl l
    . exact .inr ⟨k,c,e,cellK x c e _ z⟩
  . obtain ⟨v,z⟩:=I.cell x c e
    exact ⟨v,cellK x c e v z⟩
  . obtain ⟨m,⟨o,_,_,ho,_⟩,_⟩:=I.loc
    exact free _ o (fun z => (hch _ z).2.1 rfl) ho I.free
  . obtain ⟨v,o,ho,hd⟩:=I.cell x c e
    exact free c o (fun z => (hch c z).2.2.1 x c e rfl) ho (I.freeC x c e)
  . obtain ⟨e,n,ne,nf,d⟩:=I.pin p hp
    have nch:p.1 ∉ ch:=fun z => (hch p.1 z).2.2.2 p hp rfl
    exact ⟨keep p.1 p.2 ne nf nch e n,free p.1 p.2 nch e n,ne,nf,d⟩
theorem Inv.un {t':Nat} (I:Inv X pins σ H s) (u:Un X.fs [] H H' s.heap h') (hok:HOk X.prog X.w H' h'):Inv X pins σ H' { s with heap:=h',toks:=t' }:=by
  obtain ⟨m,⟨o,es,ep,ho,r⟩,_⟩:=id I.loc
  obtain ⟨sl,hL⟩:=u.any ho I.free (by simp)
  exact I.step (g':=s.gens) (d':=s.drawn) (ch:=[]) (fun _ z => nomatch z) (fun b o _ hb _ e n => u.keep b o e n hb (by simp)) (fun b o _ hb _ e n => u.slot b o e n hb (by simp)) (fun b o _ e n => u.free b o e n (by simp)) (fun b o _ e => u.there b o e (by simp)) u.tups u.frzs u.tbls (fun m' hm => by
    obtain ⟨o',es',ep',ho',r'⟩:=hm
    rw [ho] at ho'; cases ho'
    exact ⟨_,es',ep',hL,r'⟩) hok I.bare
theorem Inv.call {g':Array GenState} {t':Nat} {d':Drawn} {ch:List Addr} (I:Inv X pins σ H s) (u:Un (frs X.stack) ch H H' s.heap h') (hok:HOk X.prog X.w H' h') (hg:AllBare g')
    (hch:∀ b ∈ ch,(b ∈ X.ex \/ X.s₀.heap.objs.size <= b) /\ b ≠ X.env.locals /\ (∀ x c,X.env.cells.lookup x = some c -> c ≠ b) /\ ∀ p ∈ X.pn ++ pins,p.1 ≠ b):
    Inv X pins σ H' { s with heap:=h',gens:=g',drawn:=d',toks:=t' }:=by
  obtain ⟨m,⟨o,es,ep,ho,r⟩,_⟩:=id I.loc
  obtain ⟨sl,hL⟩:=u.any ho I.free fun z => (hch _ z).2.1 rfl
  exact I.step (ch:=ch) hch (fun b o hL hb hc e n => u.keep b o e n (fun z => (List.mem_cons.mp (I.stkSub b z)).elim hL hb) hc) (fun b o _ _ hc e n => u.any e n hc) (fun b o hc e n => u.free b o e n hc) (fun b o hc e => u.there b o e hc) u.tups u.frzs u.tbls (fun m' hm => by
    obtain ⟨o',es',ep',ho',r'⟩:=hm
    rw [ho] at ho'; cases ho'
    exact ⟨_,es',ep',hL,r'⟩) hok hg
theorem Inv.turned {t':Nat} {it:Addr} (I:Inv X pins σ H s) (k:∀ b o,b ≠ it -> s.heap.get? b = some o -> h'.get? b = some o) (hn:H it = none) (hL:it ≠ X.env.locals)
    (h1:it ∈ X.ex \/ X.s₀.heap.objs.size <= it) (h2:∀ x c,X.env.cells.lookup x = some c -> c ≠ it) (h3:∀ p ∈ X.pn ++ pins,p.1 ≠ it):Inv X pins σ H { s with heap:=h',toks:=t' }:=by
  have nit:∀ b u,H b = some u -> b ≠ it:=fun b u e z => by rw [z,hn] at e; cases e
  refine I.step (g':=s.gens) (d':=s.drawn) (ch:=[it]) (fun b hb => ?_) (fun b o _ _ hc e _ => k b o (fun z => hc (by simp [z])) e) (fun b o _ _ hc e _ => ⟨o.slots,k b o (fun z => hc (by simp [z])) e⟩) (fun _ _ _ _ n => n)
    (fun b o hc e => ⟨o,k b o (fun z => hc (by simp [z])) e⟩) (fun _ _ e => e) (fun _ _ _ e => e) (fun b ps e => ⟨#[],by rw [e]; simp⟩) (fun m hm => ?_) (fun b u e => ?_) I.bare
  . have e:b = it:=by simpa using hb
    subst e
    exact ⟨h1,hL,h2,h3⟩
  . obtain ⟨o,es,ep,ho,r⟩:=hm
    exact ⟨o,es,ep,k _ o (Ne.symm hL) ho,r⟩
  . refine (I.hok b u e).stay (fun c v hc q => k c v ?_ q) (fun _ q => q) (fun _ _ q => q) fun _ _ q => q
    rcases hc with z | z
    . rw [z]; exact nit b u e
    . exact nit c _ z
theorem Inv.tok (I:Inv X pins σ H s) (t:Nat):Inv X pins σ H { s with toks:=t }:=I.un (h':=s.heap) (t':=t) Un.refl I.hok
theorem Inv.kept {t':Nat} (I:Inv X pins σ H s) (k:∀ b u,s.heap.get? b = some u -> h'.get? b = some u):Inv X pins σ H { s with heap:=h',toks:=t' }:=I.un (Un.kept k) (I.hok.kept k)
theorem Inv.laid {a:Addr} {o:HO} {t':Nat} (I:Inv X pins σ H s) (k:∀ b u,s.heap.get? b = some u -> h'.get? b = some u) (hp:s.heap.objs.size <= a) (new:ObjOk X.prog X.w (upd H a o) h' a o):
    Inv X pins σ (upd H a o) { s with heap:=h',toks:=t' }:=I.un (Un.laid k hp (I.hok.fresh hp)) (I.hok.laid k hp new)
theorem Inv.write {x e:Addr} {o:HO} {t':Nat} (I:Inv X pins σ H s) (mu:Mut (H x)) (he:e = x \/ H e = some (.own x)) (k:∀ b u,b ≠ e -> s.heap.get? b = some u -> h'.get? b = some u) (heo:∃ u,h'.get? e = some u)
    (new:ObjOk X.prog X.w (upd H x o) h' x o):Inv X pins σ (upd H x o) { s with heap:=h',toks:=t' }:=I.un (Un.write mu he k heo) (I.hok.write mu he k heo new)
theorem Inv.pins_of {pins':List (Addr × Obj)} (I:Inv X pins σ H s) (h:∀ p ∈ pins',s.heap.get? p.1 = some p.2 /\ H p.1 = none /\ p.1 ≠ X.env.locals /\ p.1 ∉ X.fs /\ ∀ v,p.2.data ≠ .cell v):Inv X pins' σ H s:=
  ⟨I.ok,I.os,I.bare,I.base,I.loc,I.cell,I.free,I.freeC,fun p hp => (List.mem_append.mp hp).elim (fun z => I.pin p (List.mem_append_left _ z)) (h p),I.hok,I.len,I.mild⟩
theorem nodup_ix {N:List Str} (hN:N.Nodup) {i j:Nat} {x:Str} (a:N[i]? = some x) (b:N[j]? = some x):i = j:=by
  obtain ⟨h1,e1⟩:=List.getElem?_eq_some_iff.mp a
  obtain ⟨h2,e2⟩:=List.getElem?_eq_some_iff.mp b
  exact (List.getElem_inj hN).mp (e1.trans e2.symm)
theorem store_ok2 {M:Model} {A:Around} {E:Value -> Shared -> Prop} {i:Nat} {x:Str} {v:V} {u:Value} {Q:Unit -> Shared -> Prop} (I:Inv X pins σ H s) (hN:X.N.Nodup) (hi:X.N[i]? = some x) (hx:Loc X.env.scope x) (r:RelV v u)
    (h:∀ s',Inv X pins (σ.set i (some v)) H s' -> (∃ a,Heap.SameBut a s.heap s'.heap /\ (a = X.env.locals \/ X.env.cells.lookup x = some a)) -> Q () s') (hf:X.fn x = true \/ X.env.scope.names.lookup x = some .local:=by first | exact .inl rfl | exact .inr rfl | assumption):wpAny M A (storeName X.env x u) Q E s:=by
  obtain ⟨m,hn,hl⟩:=id I.loc
  have hcls:(X.env.scope.kind == .class || (X.env.scope.kind == .module && X.env.locals != X.env.globals)) = false:=by rw [I.ok.kind]; rfl
  have hiσ:i < σ.length:=by rw [I.len]; exact (List.getElem?_eq_some_iff.mp hi).1
  have cne:=I.cne
  have tracked:∀ {a:Addr} {h':Heap},(∃ o,s.heap.get? a = some o /\ H a = none) -> Heap.SameBut a s.heap h' -> HOk X.prog X.w H h':=fun {a h'} ha hs b ob e => by
    obtain ⟨_,_,hfree⟩:=ha
    refine (I.hok b ob e).stay (fun c w' hc q => (hs.2 c ?_).trans q) (fun _ q => q) (fun _ _ q => q) fun _ _ q => q
    rintro rfl
    rcases hc with rfl | hc
    . rw [hfree] at e; cases e
    . rw [hfree] at hc; cases hc
  rcases hx with hk | hk
  . refine wpAny_storeName_local hk hn (fun h' hn' hs => ?_) hcls
    obtain ⟨oL,_,_,hoL,_⟩:=id hn
    refine h _ ⟨I.ok,I.os,I.bare,⟨fun b o e n hb hx => ?_,fun b o e n hb hx => ?_,I.base.free,fun b o e hx => ?_,I.base.tups,I.base.frzs,I.base.tbls⟩,⟨_,hn',fun j y v' e1 e2 e3 => ?_⟩,fun y c e => ?_,I.free,I.freeC,fun p hp => ?_,tracked ⟨oL,hoL,I.free⟩ hs,by simpa using I.len,I.mild⟩ ⟨_,hs,.inl rfl⟩
    . exact (hs.2 b (Nat.ne_of_lt (Nat.lt_of_lt_of_le (Heap.lt_size e) I.ok.above))).trans (I.base.keep b o e n hb hx)
    . obtain ⟨sl,e1⟩:=I.base.slot b o e n hb hx
      exact ⟨sl,(hs.2 b (Nat.ne_of_lt (Nat.lt_of_lt_of_le (Heap.lt_size e) I.ok.above))).trans e1⟩
    . obtain ⟨o',e1⟩:=I.base.there b o e hx
      exact ⟨o',(hs.2 b (Nat.ne_of_lt (Nat.lt_of_lt_of_le (Heap.lt_size e) I.ok.above))).trans e1⟩
    . by_cases hj:j = i
      . subst hj
        rw [hi] at e1; cases e1
        rw [List.getElem?_set_self hiσ] at e2
        cases e2
        exact ⟨u,r,.inl ⟨hk,by simp⟩⟩
      . rw [List.getElem?_set_ne (Ne.symm hj)] at e2
        obtain ⟨u',r',q⟩:=hl j y v' e1 e2 e3
        refine ⟨u',r',?_⟩
        rcases q with ⟨k,e⟩ | ⟨k,c,e,z⟩
        . refine .inl ⟨k,?_⟩
          have:y ≠ x:=fun e => hj (nodup_ix hN e1 (e ▸ hi))
          simp [this,e]
        . exact .inr ⟨k,c,e,z.sameBut hs (cne y c e)⟩
    . obtain ⟨w',z⟩:=I.cell y c e
      exact ⟨w',z.sameBut hs (cne y c e)⟩
    . obtain ⟨e,n,ne,nf,d⟩:=I.pin p hp
      exact ⟨(hs.2 p.1 ne).trans e,n,ne,nf,d⟩
  . have hfn:X.fn x = true:=by
      rcases hf with z | z
      . exact z
      . rw [z] at hk; cases hk
    obtain ⟨c,hc⟩:=I.ok.has x (.inl hk)
    obtain ⟨w',z⟩:=I.cell x c hc
    refine wpAny_storeName_cell I.ok.kind hk hc z (fun h' hc' hs => ?_)
    obtain ⟨oc,hoc,hocd⟩:=id z
    refine h { s with heap:=h' } ⟨I.ok,I.os,I.bare,⟨fun b o e n hb hx => ?_,fun b o e n hb hx => ?_,I.base.free,fun b o e hx => ?_,I.base.tups,I.base.frzs,I.base.tbls⟩,⟨m,hn.sameBut hs (Ne.symm (cne x c hc)),fun j y v' e1 e2 e3 => ?_⟩,fun y c' e => ?_,I.free,I.freeC,fun p hp => ?_,tracked ⟨oc,hoc,I.freeC x c hc⟩ hs,by simpa using I.len,I.mild⟩ ⟨c,hs,.inr hc⟩
    . exact (hs.2 b (Nat.ne_of_lt (Nat.lt_of_lt_of_le (Heap.lt_size e) (I.ok.cab x c hfn hc)))).trans (I.base.keep b o e n hb hx)
    . obtain ⟨sl,e1⟩:=I.base.slot b o e n hb hx
      exact ⟨sl,(hs.2 b (Nat.ne_of_lt (Nat.lt_of_lt_of_le (Heap.lt_size e) (I.ok.cab x c hfn hc)))).trans e1⟩
    . obtain ⟨o',e1⟩:=I.base.there b o e hx
      exact ⟨o',(hs.2 b (Nat.ne_of_lt (Nat.lt_of_lt_of_le (Heap.lt_size e) (I.ok.cab x c hfn hc)))).trans e1⟩
    . by_cases hj:j = i
      . subst hj
        rw [hi] at e1; cases e1
        rw [List.getElem?_set_self hiσ] at e2
        cases e2
        exact ⟨u,r,.inr ⟨.inl hk,c,hc,hc'⟩⟩
      . rw [List.getElem?_set_ne (Ne.symm hj)] at e2
        obtain ⟨u',r',q⟩:=hl j y v' e1 e2 e3
        refine ⟨u',r',?_⟩
        rcases q with q | ⟨k,c',e,z'⟩
        . exact .inl q
        . refine .inr ⟨k,c',e,z'.sameBut hs ?_⟩
          rintro rfl
          exact hj (nodup_ix hN e1 (I.ok.inj _ _ _ e hc ▸ hi))
    . by_cases hcc:c' = c
      . subst hcc; exact ⟨_,hc'⟩
      . obtain ⟨w2,z2⟩:=I.cell y c' e
        exact ⟨w2,z2.sameBut hs hcc⟩
    . obtain ⟨e,n,ne,nf,d⟩:=I.pin p hp
      refine ⟨(hs.2 p.1 ?_).trans e,n,ne,nf,d⟩
      intro q
      rw [q,hoc] at e
      have q':oc = p.2:=Option.some.inj e
      exact d w' (by rw [<- q']; exact hocd)
theorem store_ok {M:Model} {A:Around} {E:Value -> Shared -> Prop} {i:Nat} {x:Str} {v:V} {u:Value} {Q:Unit -> Shared -> Prop} (I:Inv X pins σ H s) (hN:X.N.Nodup) (hi:X.N[i]? = some x) (hx:Loc X.env.scope x) (r:RelV v u)
    (h:∀ s',Inv X pins (σ.set i (some v)) H s' -> Q () s') (hf:X.fn x = true \/ X.env.scope.names.lookup x = some .local:=by first | exact .inl rfl | exact .inr rfl | assumption):wpAny M A (storeName X.env x u) Q E s:=
  store_ok2 I hN hi hx r (fun s' I' _ => h s' I') hf
theorem Inv.call' {s':Shared} {ch:List Addr} (I:Inv X pins σ H s) (ho:s'.os = s.os) (u:Un (frs X.stack) ch H H' s.heap s'.heap) (hok:HOk X.prog X.w H' s'.heap) (hg:AllBare s'.gens)
    (hch:∀ b ∈ ch,(b ∈ X.ex \/ X.s₀.heap.objs.size <= b) /\ b ≠ X.env.locals /\ (∀ x c,X.env.cells.lookup x = some c -> c ≠ b) /\ ∀ p ∈ X.pn ++ pins,p.1 ≠ b):Inv X pins σ H' s':=by
  obtain ⟨h',g',d',t',o'⟩:=s'
  have e:o' = s.os:=ho
  subst e
  exact I.call (g':=g') (t':=t') (d':=d') u hok hg hch
end
abbrev XK:=Value -> Option Addr -> Hp -> Prop
noncomputable abbrev St:=List (Option V)
abbrev VK:=V -> Hp -> Prop
abbrev TE:=St -> Hp -> VK -> Prop
abbrev TT:=St -> Hp -> (Bool -> Hp -> Prop) -> Prop
abbrev TA:=St -> Hp -> (List V -> Hp -> Prop) -> Prop
structure Ends where
  nx:St -> Hp -> Prop
  rt:VK
  bk:St -> Hp -> Prop:=fun _ _ => False
  ct:St -> Hp -> Prop:=fun _ _ => False
abbrev TS:=Ends -> St -> Hp -> Prop
inductive EP (X:Cx) (pins:List (Addr × Obj)) (σ:St) (Q:VK) (u:Value) (s':Shared):Prop
  | mk (v:V) (H':Hp) (I:Inv X pins σ H' s') (r:RelV v u) (q:Q v H')
inductive TP (X:Cx) (pins:List (Addr × Obj)) (σ:St) (Q:Bool -> Hp -> Prop) (b:Bool) (s':Shared):Prop
  | mk (H':Hp) (I:Inv X pins σ H' s') (q:Q b H')
inductive AP (X:Cx) (pins:List (Addr × Obj)) (σ:St) (Q:List V -> Hp -> Prop) (us:List Value) (s':Shared):Prop
  | mk (vs:List V) (H':Hp) (I:Inv X pins σ H' s') (r:Vals vs us) (q:Q vs H')
inductive NP (X:Cx) (pins:List (Addr × Obj)) (P:St -> Hp -> Prop) (s':Shared):Prop
  | mk (σ':St) (H':Hp) (I:Inv X pins σ' H' s') (q:P σ' H')
inductive RP (X:Cx) (pins:List (Addr × Obj)) (P:VK) (u:Value) (s':Shared):Prop
  | mk (v:V) (σ':St) (H':Hp) (I:Inv X pins σ' H' s') (r:RelV v u) (q:P v H')
def SP (X:Cx) (pins:List (Addr × Obj)) (D:Ends) (f:Flow) (s':Shared):Prop:=
  match f with
  | .next => NP X pins D.nx s'
  | .brk => NP X pins D.bk s'
  | .cont => NP X pins D.ct s'
  | .ret u => RP X pins D.rt u s'
def PE (X:Cx) (e:Expr) (t:TE):Prop:=
  ∀ (pins:List (Addr × Obj)) (s:Shared) (σ:St) (H:Hp) (Q:VK),Inv X pins σ H s -> t σ H Q -> wpAny (model X.prog X.w) X.A (eval e X.env) (EP X pins σ Q) X.xe s
def PT (X:Cx) (e:Expr) (t:TT):Prop:=
  ∀ (pins:List (Addr × Obj)) (s:Shared) (σ:St) (H:Hp) (Q:Bool -> Hp -> Prop),Inv X pins σ H s -> t σ H Q -> wpAny (model X.prog X.w) X.A (isTrue e X.env (eval e X.env)) (TP X pins σ Q) X.xe s
def PW (X:Cx) (e:Expr) (t:TT):Prop:=
  ∀ (whole:Sem Value) (pins:List (Addr × Obj)) (s:Shared) (σ:St) (H:Hp) (Q:Bool -> Hp -> Prop),Inv X pins σ H s -> t σ H Q -> wpAny (model X.prog X.w) X.A (isTrue e X.env whole) (TP X pins σ Q) X.xe s
theorem PW.pt {X:Cx} {e:Expr} {t:TT} (h:PW X e t):PT X e t:=h _
def PA (X:Cx) (es:List Expr) (t:TA):Prop:=
  ∀ (pos:Pos) (pins:List (Addr × Obj)) (s:Shared) (σ:St) (H:Hp) (Q:List V -> Hp -> Prop),Inv X pins σ H s -> t σ H Q -> wpAny (model X.prog X.w) X.A (spliced (backTo pos (starEach es X.env))) (AP X pins σ Q) X.xe s
def PS (X:Cx) (st:Stmt) (t:TS):Prop:=
  ∀ (pins:List (Addr × Obj)) (s:Shared) (σ:St) (H:Hp) (D:Ends),Inv X pins σ H s -> t D σ H -> wpAny (model X.prog X.w) X.A (exec st X.env) (SP X pins D) X.xe s
def PSs (X:Cx) (st:List Stmt) (t:TS):Prop:=
  ∀ (pins:List (Addr × Obj)) (s:Shared) (σ:St) (H:Hp) (D:Ends),Inv X pins σ H s -> t D σ H -> wpAny (model X.prog X.w) X.A (execs st X.env) (SP X pins D) X.xe s
theorem thn {α:Type} {t:Sem α} {Q Q':α -> Shared -> Prop} {M:Model} {A:Around} {E:Value -> Shared -> Prop} {s:Shared} (h:wpAny M A t Q E s) (hQ:∀ a s,Q a s -> Q' a s):wpAny M A t Q' E s:=wpAny_mono h hQ fun _ _ x => x
end L2
namespace L2
open PySem PySem.Spec PyProof.Rows
section
variable {X:Cx}
def tVar (i:Nat):TE:=fun σ H Q => ∃ v,σ[i]? = some (some v) /\ Q v H
def tC (v:V):TE:=fun _ H Q => Q v H
theorem pe_var {i:Nat} {x:Str} {pos:Pos} (hN:X.N[i]? = some x) (hv:Vis X.env.scope x) (hd:(x == ("__debug__" : Str)) = false:=by decide) (hcd:(x == ("__classdict__" : Str)) = false:=by decide):PE X (.Name x pos) (tVar i):=by
  intro pins s σ H Q I h
  obtain ⟨v,e,h⟩:=h
  obtain ⟨m,hn,hl⟩:=I.loc
  obtain ⟨u,r,l⟩:=hl i x v hN e hv
  have fin:EP X pins σ Q u s:=⟨v,H,I,r,h⟩
  rcases l with ⟨hk,hm⟩ | ⟨hk,c,hc,hcell⟩
  . exact wpAny_Name (wpAny_loadName_local I.ok.kind hk hn hm fin) hd
  . rcases hk with hk | hk
    . exact wpAny_Name (wpAny_loadName_cell I.ok.kind hk hc hcell fin) hd
    . exact wpAny_Name (wpAny_loadName_free I.ok.kind hk hc hcell fin hcd) hd
theorem pe_int {i j pos}:PE X (.Constant (.int i) j pos) (tC (.int i)):=fun _ _ _ H _ I h => wpAny_Constant_int ⟨.int i,H,I.tok _,⟨_,rfl⟩,h⟩
theorem pe_bl {b j pos}:PE X (.Constant (.bool b) j pos) (tC (.bl b)):=fun _ _ _ H _ I h => Constant_bool ⟨.bl b,H,I,rfl,h⟩
def Gl (X:Cx) (x:Str):Prop:=X.env.kindOf x = some .globalImplicit
theorem ld_glob {E:Value -> Shared -> Prop} {pins:List (Addr × Obj)} {s:Shared} {σ:St} {H:Hp} {x:Str} {u:Value} {pos:Pos} {Q:Value -> Shared -> Prop} (I:Inv X pins σ H s) (hg:Gl X x) (hm:X.mg x = some u) (h:Q u s)
    (hd:(x == ("__debug__" : Str)) = false:=by decide):wpAny (model X.prog X.w) X.A (eval (.Name x pos) X.env) Q E s:=
  Calls.Name_function_global I.ok.kind hg (Calls.loadGlobal_global (by rw [I.ok.glob]; exact I.mod.glob.keeps I.bk) hm h) hd
theorem ld_blt {E:Value -> Shared -> Prop} {pins:List (Addr × Obj)} {s:Shared} {σ:St} {H:Hp} {x:Str} {u:Value} {pos:Pos} {Q:Value -> Shared -> Prop} (I:Inv X pins σ H s) (hg:Gl X x) (hm:X.mg x = none) (hv:bootBuiltins x = some u) (h:Q u s)
    (hn:x ≠ "__name__" := by decide) (hd:(x == ("__debug__" : Str)) = false:=by decide):wpAny (model X.prog X.w) X.A (eval (.Name x pos) X.env) Q E s:=by
  obtain ⟨mb,h1,h2⟩:=I.mod.blt
  exact Calls.Name_function_global I.ok.kind hg (Calls.loadGlobal_builtin (by rw [I.ok.glob]; exact I.mod.glob.keeps I.bk) hm (by rw [I.ok.blt]; exact h1.keeps I.bk) ((h2 x hn).trans hv) h) hd
theorem pe_glob {x:Str} {v:V} {u:Value} {pos:Pos} (hg:Gl X x) (hm:X.mg x = some u) (r:RelV v u) (hd:(x == ("__debug__" : Str)) = false:=by decide):PE X (.Name x pos) (tC v):=
  fun _ _ _ H _ I h => ld_glob I hg hm ⟨v,H,I,r,h⟩ hd
theorem pe_bltn {x:Str} {v:V} {u:Value} {pos:Pos} (hg:Gl X x) (hm:X.mg x = none) (hv:bootBuiltins x = some u) (r:RelV v u) (hn:x ≠ "__name__" := by decide) (hd:(x == ("__debug__" : Str)) = false:=by decide):PE X (.Name x pos) (tC v):=
  fun _ _ _ H _ I h => ld_blt I hg hm hv ⟨v,H,I,r,h⟩ hn hd
variable {a b:Expr} {ta tb:TE} {pos:Pos}
variable {tA tB':TT} {rest:List Expr}
def tAnd (t u:TT):TT:=fun σ H Q => t σ H fun c H1 => if c = true then u σ H1 Q else Q false H1
def tOr (t u:TT):TT:=fun σ H Q => t σ H fun c H1 => if c = true then Q true H1 else u σ H1 Q
def tNot (t:TT):TT:=fun σ H Q => t σ H fun c H1 => Q (!c) H1
theorem pw_and1 (ha:PT X a tA):PW X (.BoolOp .And [a] pos) tA:=by
  intro wh pins s σ H Q I h
  refine isTrue_and (thn (ha pins s σ H Q I h) fun c s1 e => ?_)
  cases c with
  | true => exact isTrue_and_nil e
  | false => exact e
theorem pw_or1 (ha:PT X a tA):PW X (.BoolOp .Or [a] pos) tA:=by
  intro wh pins s σ H Q I h
  refine isTrue_or (thn (ha pins s σ H Q I h) fun c s1 e => ?_)
  cases c with
  | false => exact isTrue_or_nil e
  | true => exact e
theorem pw_and (ha:PT X a tA) (hb:PW X (.BoolOp .And (b :: rest) pos) tB'):PW X (.BoolOp .And (a :: b :: rest) pos) (tAnd tA tB'):=by
  intro wh pins s σ H Q I h
  refine isTrue_and (thn (ha pins s σ H _ I h) fun c s1 ⟨H1,I1,q1⟩ => ?_)
  cases c with
  | true => exact hb wh pins s1 σ H1 Q I1 q1
  | false => exact ⟨H1,I1,q1⟩
theorem pw_or (ha:PT X a tA) (hb:PW X (.BoolOp .Or (b :: rest) pos) tB'):PW X (.BoolOp .Or (a :: b :: rest) pos) (tOr tA tB'):=by
  intro wh pins s σ H Q I h
  refine isTrue_or (thn (ha pins s σ H _ I h) fun c s1 ⟨H1,I1,q1⟩ => ?_)
  cases c with
  | true => exact ⟨H1,I1,q1⟩
  | false => exact hb wh pins s1 σ H1 Q I1 q1
theorem pt_not (ha:PT X a tA):PT X (.UnaryOp .Not a pos) (tNot tA):=by
  intro pins s σ H Q I h
  exact isTrue_not (thn (ha pins s σ H (fun c H1 => Q (!c) H1) I h) fun c s' z => by cases z; exact ⟨_,by assumption,by assumption⟩)
def tAndV (ta tb:TE):TE:=fun σ H Q => ta σ H fun x H1 => ∃ c,x = .bl c /\ if c = true then tb σ H1 Q else Q (.bl false) H1
def tOrV (ta tb:TE):TE:=fun σ H Q => ta σ H fun x H1 => ∃ c,x = .bl c /\ if c = true then Q (.bl true) H1 else tb σ H1 Q
def tNotV (ta:TE):TE:=fun σ H Q => ta σ H fun x H1 => ∃ c,x = .bl c /\ Q (.bl (!c)) H1
theorem pe_one {op} {t:TE} (h:PE X a t):PE X (.BoolOp op [a] pos) t:=fun pins s σ H Q I hw => BoolOp_one (h pins s σ H Q I hw)
theorem pe_and (ha:PE X a ta) (hb:PE X (.BoolOp .And (b :: rest) pos) tb):PE X (.BoolOp .And (a :: b :: rest) pos) (tAndV ta tb):=by
  intro pins s σ H Q I h
  refine BoolOp_and (thn (ha pins s σ H _ I h) fun v s1 ⟨x,H1,I1,r1,q1⟩ => ?_)
  obtain ⟨c,rfl,q1⟩:=q1
  cases r1
  refine wpAny_truthy_bool ?_
  cases c with
  | true => exact hb pins s1 σ H1 Q I1 q1
  | false => exact ⟨.bl false,H1,I1,rfl,q1⟩
theorem pe_or (ha:PE X a ta) (hb:PE X (.BoolOp .Or (b :: rest) pos) tb):PE X (.BoolOp .Or (a :: b :: rest) pos) (tOrV ta tb):=by
  intro pins s σ H Q I h
  refine BoolOp_or (thn (ha pins s σ H _ I h) fun v s1 ⟨x,H1,I1,r1,q1⟩ => ?_)
  obtain ⟨c,rfl,q1⟩:=q1
  cases r1
  refine wpAny_truthy_bool ?_
  cases c with
  | false => exact hb pins s1 σ H1 Q I1 q1
  | true => exact ⟨.bl true,H1,I1,rfl,q1⟩
theorem pe_not (ha:PE X a ta):PE X (.UnaryOp .Not a pos) (tNotV ta):=by
  intro pins s σ H Q I h
  refine UnaryOp_ (thn (ha pins s σ H _ I h) fun v s1 ⟨x,H1,I1,r1,q1⟩ => ?_)
  obtain ⟨c,rfl,q1⟩:=q1
  cases r1
  exact not_of (wpAny_truthy_bool ⟨.bl (!c),H1,I1,rfl,q1⟩)
end
end L2
namespace L2
open PySem PySem.Spec PyProof.Rows
def SqL (K:W.Frag) (H:Hp) (a:Addr) (xs:List V):Prop:=
  Rd H a (.lst xs) \/
    ∃ (o:Obj) (its:Array Value) (n:Nat),K.lookup a = some o /\ o.cls = .type "list" /\ o.dict = none /\ o.data = .seq its n /\ its.size <= sizeLine /\ Vals xs its.toList
def SqT (K:W.Frag) (H:Hp) (a:Addr) (xs:List V):Prop:=
  Rd H a (.tup xs) \/
    ∃ (o:Obj) (its:Array Value) (n:Nat),K.lookup a = some o /\ o.cls = .type "tuple" /\ o.data = .seq its n /\ its.size <= sizeLine /\ Vals xs its.toList
noncomputable def absV:Value -> Option V
  | .none => some .non
  | .bool b => some (.bl b)
  | .int i _ => some (.int i)
  | .str x _ => some (.str x)
  | .bytes b _ => some (.byt b)
  | .float b _ => some (.flt b)
  | .ref a => some (.ref a)
  | .type n => some (.ty n)
  | _ => none
theorem RelV.abs {x:V} {u:Value} (r:RelV x u):absV u = some x:=by
  cases x with
  | non => cases r; rfl
  | bl _ => cases r; rfl
  | int _ => obtain ⟨t,rfl⟩:=r; rfl
  | str _ => obtain ⟨t,rfl⟩:=r; rfl
  | byt _ => obtain ⟨t,rfl⟩:=r; rfl
  | flt _ => obtain ⟨t,rfl⟩:=r; rfl
  | ref _ => cases r; rfl
  | ty _ => cases r; rfl
theorem RelV.inj {x y:V} {u:Value} (r:RelV x u) (q:RelV y u):x = y:=Option.some.inj (r.abs.symm.trans q.abs)
theorem Vals.inj:∀ {xs ys:List V} {us:List Value},Vals xs us -> Vals ys us -> xs = ys
  | _,_,_,.nil,.nil => rfl
  | _,_,_,.cons r t,.cons r' t' => by rw [r.inj r',Vals.inj t t']
section
variable {X:Cx} {pins:List (Addr × Obj)} {σ:St} {H:Hp} {s:Shared} {a:Addr} {xs ys:List V}
theorem SqL.of {K:W.Frag} (h:H a = some (.lst xs)):SqL K H a xs:=.inl (.inl h)
theorem SqT.of {K:W.Frag} (h:H a = some (.tup xs)):SqT K H a xs:=.inl (.inl h)
theorem Inv.list (I:Inv X pins σ H s) (h:SqL X.K H a xs):∃ its:List Value,Vals xs its /\ PlainL s.heap a its.toArray /\ xs.length <= sizeLine:=by
  rcases h with h | ⟨o,its,n,hk,hc,hd,hs,hz,r⟩
  . obtain ⟨z,its,n,r,e⟩:=h.ok I.hok
    exact ⟨its,r,⟨_,n,e,rfl,rfl,rfl⟩,z⟩
  . refine ⟨its.toList,r,⟨o,n,I.kIn a o hk,hc,hd,by simpa using hs⟩,?_⟩
    have e:=r.length
    simp only [Array.length_toList] at e
    ac_rfl
theorem Inv.tuple (I:Inv X pins σ H s) (h:SqT X.K H a xs):∃ its:List Value,Vals xs its /\ IsTup s.heap a its.toArray /\ xs.length <= sizeLine:=by
  rcases h with h | ⟨o,its,n,hk,hc,hs,hz,r⟩
  . obtain ⟨z,its,r,p⟩:=h.ok I.hok
    exact ⟨its,r,p,z⟩
  . refine ⟨its.toList,r,⟨o,I.kIn a o hk,hc,n,by simpa using hs⟩,?_⟩
    have e:=r.length
    simp only [Array.length_toList] at e
    ac_rfl
theorem Inv.list_inj (I:Inv X pins σ H s) (h:SqL X.K H a xs) (h':SqL X.K H a ys):xs = ys:=by
  obtain ⟨its,r,⟨o,n,e,_,_,d⟩,_⟩:=I.list h
  obtain ⟨its',r',⟨o',n',e',_,_,d'⟩,_⟩:=I.list h'
  rw [e] at e'; cases e'
  rw [d] at d'
  injection d' with d1 _
  have:its = its':=by simpa using congrArg Array.toList d1
  subst this
  exact r.inj r'
theorem Inv.tuple_inj (I:Inv X pins σ H s) (h:SqT X.K H a xs) (h':SqT X.K H a ys):xs = ys:=by
  obtain ⟨its,r,⟨o,e,_,n,d⟩,_⟩:=I.tuple h
  obtain ⟨its',r',⟨o',e',_,n',d'⟩,_⟩:=I.tuple h'
  rw [e] at e'; cases e'
  rw [d] at d'
  injection d' with d1 _
  have:its = its':=by simpa using congrArg Array.toList d1
  subst this
  exact r.inj r'
end
noncomputable abbrev Cx.wish (X:Cx) (E:Value -> Shared -> Prop):Cx:={ X with xe:=E }
noncomputable abbrev Cx.nox (X:Cx):Cx:=X.wish fun _ _ => False
theorem Cx.Ok.wish {X:Cx} (ok:X.Ok) (E:Value -> Shared -> Prop):(X.wish E).Ok:=
  ⟨ok.mod,ok.kind,ok.glob,ok.blt,ok.above,ok.inj,ok.has,ok.cab,ok.hd,ok.frames,ok.stk,ok.exf,ok.bs,ok.bsz,ok.noex,ok.exfs,ok.funs,ok.frf,ok.hq⟩
theorem Cx.Ok.unwish {X:Cx} {E:Value -> Shared -> Prop} (ok:(X.wish E).Ok):X.Ok:=
  ⟨ok.mod,ok.kind,ok.glob,ok.blt,ok.above,ok.inj,ok.has,ok.cab,ok.hd,ok.frames,ok.stk,ok.exf,ok.bs,ok.bsz,ok.noex,ok.exfs,ok.funs,ok.frf,ok.hq⟩
section
variable {X:Cx} {pins:List (Addr × Obj)} {σ:St} {H:Hp} {s:Shared} {E:Value -> Shared -> Prop}
theorem Inv.wish (I:Inv X pins σ H s) (E:Value -> Shared -> Prop):Inv (X.wish E) pins σ H s:=⟨I.ok.wish E,I.os,I.bare,I.base,I.loc,I.cell,I.free,I.freeC,I.pin,I.hok,I.len,I.mild⟩
theorem Inv.unwish (I:Inv (X.wish E) pins σ H s):Inv X pins σ H s:=⟨I.ok.unwish,I.os,I.bare,I.base,I.loc,I.cell,I.free,I.freeC,I.pin,I.hok,I.len,I.mild⟩
theorem SP.unwish {D:Ends} {f:Flow} {s':Shared} (h:SP (X.wish E) pins D f s'):SP X pins D f s':=by
  cases f with
  | next => obtain ⟨σ',H',I,q⟩:=h; exact ⟨σ',H',I.unwish,q⟩
  | brk => obtain ⟨σ',H',I,q⟩:=h; exact ⟨σ',H',I.unwish,q⟩
  | cont => obtain ⟨σ',H',I,q⟩:=h; exact ⟨σ',H',I.unwish,q⟩
  | ret u => obtain ⟨v,σ',H',I,r,q⟩:=h; exact ⟨v,σ',H',I.unwish,r,q⟩
theorem PSs.nox {st:List Stmt} {t:TS} (h:PSs X.nox st t):PSs X st t:=fun pins s σ H D I hw =>
  wpAny_mono (h pins s σ H D (I.wish _) hw) (fun _ _ q => q.unwish) fun _ _ z => False.elim z
end
section
variable {X:Cx} {st:Stmt} {rest:List Stmt} {t u:TS} {e:Expr} {te:TE} {pos:Pos}
def tNext:TS:=fun D σ H => D.nx σ H
def tSeq (t u:TS):TS:=fun D σ H => t { D with nx:=u D } σ H
theorem pss_nil:PSs X [] tNext:=fun _ _ σ H _ I h => wpAny_execs_nil ⟨σ,H,I,h⟩
theorem pss_cons (h1:PS X st t) (h2:PSs X rest u):PSs X (st :: rest) (tSeq t u):=by
  intro pins s σ H D I h
  refine wpAny_execs_cons (thn (h1 pins s σ H { D with nx:=u D } I h) fun f s1 q => ?_)
  cases f with
  | next =>
    obtain ⟨σ',H',I',q⟩:=q
    exact h2 pins s1 σ' H' D I' q
  | ret v => exact q
  | brk => exact q
  | cont => exact q
theorem pss_one (h1:PS X st t):PSs X [st] t:=by
  intro pins s σ H D I h
  refine wpAny_execs_cons (thn (h1 pins s σ H D I h) fun f s1 q => ?_)
  cases f with
  | next => exact wpAny_execs_nil q
  | ret v => exact q
  | brk => exact q
  | cont => exact q
theorem Inv.quiet {pins:List (Addr × Obj)} {σ:St} {H:Hp} {s:Shared} (I:Inv X pins σ H s):interactive X.env = false:=by simp [interactive,I.ok.kind]
def tDrop (te:TE):TS:=fun D σ H => te σ H fun _ H1 => D.nx σ H1
theorem ps_expr (he:PE X e te) (hs:swapsWith e none pos.line X.env = pure false:=by rfl):PS X (.Expr e pos) (tDrop te):=by
  intro pins s σ H D I h
  exact wpAny_Expr_any (thn (he pins s σ H _ I h) fun v s1 ⟨x,H1,I1,r1,q1⟩ => ⟨σ,H1,I1,q1⟩) I.quiet hs
def tRet (te:TE):TS:=fun D σ H => te σ H D.rt
theorem ps_ret (he:PE X e te):PS X (.Return (some e) pos) (tRet te):=by
  intro pins s σ H D I h
  exact wpAny_Return_some (thn (he pins s σ H _ I h) fun v s1 ⟨x,H1,I1,r1,q1⟩ => ⟨x,σ,H1,I1,r1,q1⟩)
def tIfS (c:TT) (t u:TS):TS:=fun D σ H => c σ H fun b H1 => if b = true then t D σ H1 else u D σ H1
theorem ps_if {c:Expr} {a b:List Stmt} {tc:TT} (hc:PT X c tc) (ha:PSs X a t) (hb:PSs X b u):PS X (.If c a b pos) (tIfS tc t u):=by
  intro pins s σ H D I h
  refine wpAny_If (thn (hc pins s σ H _ I h) fun d s1 ⟨H1,I1,q1⟩ => ?_)
  cases d with
  | true => exact ha pins s1 σ H1 D I1 q1
  | false => exact hb pins s1 σ H1 D I1 q1
def tNever:TS:=fun _ _ _ => False
theorem ps_never:PS X st tNever:=fun _ _ _ _ _ _ h => h.elim
end
abbrev TG:=V -> St -> Hp -> (St -> Hp -> Prop) -> Prop
abbrev TGs:=List V -> St -> Hp -> (St -> Hp -> Prop) -> Prop
def PG (X:Cx) (target:Expr) (t:TG):Prop:=
  ∀ (pins:List (Addr × Obj)) (s:Shared) (σ:St) (H:Hp) (v:V) (u:Value) (Q:St -> Hp -> Prop),Inv X pins σ H s -> RelV v u -> t v σ H Q ->
    wpAny (model X.prog X.w) X.A (assign target X.env u) (fun _ s' => ∃ σ' H',Inv X pins σ' H' s' /\ Q σ' H') X.xe s
def PGs (X:Cx) (ts:List Expr) (t:TGs):Prop:=
  ∀ (pins:List (Addr × Obj)) (s:Shared) (σ:St) (H:Hp) (vs:List V) (us:List Value) (Q:St -> Hp -> Prop),Inv X pins σ H s -> Vals vs us -> t vs σ H Q ->
    wpAny (model X.prog X.w) X.A (assignInOrder ((assignEach ts X.env).map (·.2)) us) (fun _ s' => ∃ σ' H',Inv X pins σ' H' s' /\ Q σ' H') X.xe s
section
variable {X:Cx} {pos:Pos}
def gName (i:Nat):TG:=fun v σ H Q => Q (σ.set i (some v)) H
theorem pg_name {i:Nat} {x:Str} (hN:X.N.Nodup) (hi:X.N[i]? = some x) (hx:Loc X.env.scope x) (hf:X.fn x = true \/ X.env.scope.names.lookup x = some .local:=by first | exact .inl rfl | exact .inr rfl | assumption):PG X (.Name x pos) (gName i):=by
  intro pins s σ H v u Q I r h
  exact wpAny_assign_Name (store_ok I hN hi hx r (fun s' I' => ⟨_,H,I',h⟩) hf)
def gNil:TGs:=fun vs σ H Q => vs = [] /\ Q σ H
def gCons (t:TG) (u:TGs):TGs:=fun vs σ H Q => ∃ v r,vs = v :: r /\ t v σ H fun σ' H' => u r σ' H' Q
theorem pgs_nil:PGs X [] gNil:=by
  intro pins s σ H vs us Q I r h
  obtain ⟨e,h⟩:=h
  subst e
  cases r
  exact assignInOrder_nil ⟨σ,H,I,h⟩
theorem pgs_cons {e:Expr} {es:List Expr} {t:TG} {u:TGs} (h1:PG X e t) (h2:PGs X es u)
    (hs:(assignEach (e :: es) X.env).map (·.2) = assign e X.env :: (assignEach es X.env).map (·.2):=by rfl):PGs X (e :: es) (gCons t u):=by
  intro pins s σ H vs us Q I r h
  obtain ⟨v,vr,e1,h⟩:=h
  subst e1
  cases r with
  | cons r rr =>
    rw [hs]
    refine assignInOrder_cons (thn (h1 pins s σ H _ _ _ I r h) fun _ s1 ⟨σ1,H1,I1,q1⟩ => ?_)
    exact h2 pins s1 σ1 H1 _ _ Q I1 rr q1
def gTup (K:W.Frag) (n:Nat) (t:TGs):TG:=fun v σ H Q => ∃ a xs,v = .ref a /\ SqT K H a xs /\ xs.length = n /\ t xs σ H Q
theorem pg_tup {es:List Expr} {k:Nat} {t:TGs} {n:Nat} (hc:X.calm = true) (h:PGs X es t)
    (hn:(assignEach es X.env).length = n:=by rfl) (hst:(assignEach es X.env).findIdx? (·.1) = none:=by rfl):PG X (.Tuple es k pos) (gTup X.K n t):=by
  intro pins s σ H v u Q I r hw
  obtain ⟨a,xs,e1,hq,hl,hw⟩:=hw
  subst e1
  cases r
  obtain ⟨its,rv,ht,hz⟩:=I.tuple hq
  refine assign_Tuple_tuple (I.ok.hd hc) ht (by simp [hn,<- hl,rv.length]) hst fun h' hx => ?_
  have I1:Inv X pins σ H { s with heap:=h' }:=I.kept (t':=s.toks) fun b o e => hx b o (Nat.ne_of_lt (Heap.lt_size e)) e
  exact h pins _ σ H xs _ Q I1 (by simpa using rv) hw
def tAsg (te:TE) (g:TG):TS:=fun D σ H => te σ H fun x H1 => g x σ H1 D.nx
theorem ps_set {i:Nat} {x:Str} {e:Expr} {te:TE} {pos':Pos} (hN:X.N.Nodup) (hi:X.N[i]? = some x) (hx:Loc X.env.scope x) (he:PE X e te) (hs:swapsWith e (some (.Name x pos')) pos.line X.env = pure false:=by rfl) (hf:X.fn x = true \/ X.env.scope.names.lookup x = some .local:=by first | exact .inl rfl | exact .inr rfl | assumption):
    PS X (.Assign [.Name x pos'] e pos) (tAsg te (gName i)):=by
  intro pins s σ H D I h
  refine wpAny_Assign_Name (thn (he pins s σ H _ I h) fun v s1 ⟨y,H1,I1,r1,q1⟩ => ?_) hs
  exact store_ok I1 hN hi hx r1 (fun s2 I2 => ⟨_,H1,I2,q1⟩) hf
end
section
variable {X:Cx} {pos:Pos}
end
structure It where
  go:Nat -> Hp -> Prop
  yld:Nat -> Hp -> V -> Hp -> Prop
  stop:Nat -> Hp -> Prop
def FpOk (X:Cx) (pins:List (Addr × Obj)) (H:Hp) (b:Addr):Prop:=
  H b = none /\ b ≠ X.env.locals /\ b ∉ X.fs /\ (b ∈ X.ex \/ X.s₀.heap.objs.size <= b) /\ (∀ x c,X.env.cells.lookup x = some c -> c ≠ b) /\ ∀ p ∈ X.pn ++ pins,p.1 ≠ b
theorem Inv.fpOk {X:Cx} {pins:List (Addr × Obj)} {σ:St} {H H':Hp} {s:Shared} {b:Addr} (I:Inv X pins σ H s) (hb:s.heap.objs.size <= b) (hn:H' b = none):FpOk X pins H' b:=by
  refine ⟨hn,Nat.ne_of_gt (Nat.lt_of_lt_of_le I.lt hb),I.nofs hb,.inr (Nat.le_trans I.sz hb),fun x c e z => ?_,fun p hp z => ?_⟩
  . obtain ⟨v,q⟩:=I.cell x c e
    exact absurd (Nat.lt_of_lt_of_le q.lt (by rw [z]; exact hb)) (Nat.lt_irrefl _)
  . exact absurd (Nat.lt_of_lt_of_le (Heap.lt_size (I.pin p hp).1) (by rw [z]; exact hb)) (Nat.lt_irrefl _)
structure Turn (P:Program) (w:World) (K:W.Frag) (tg:Expr) (J:It) (fp:List Addr) (it:Addr) (tn:Nat -> Heap -> Prop):Prop where
  mem:it ∈ fp
  obj:∀ i h,tn i h -> ∀ b ∈ fp,∃ o,h.get? b = some o /\ ∀ v,o.data ≠ .cell v
  keep:∀ i h h',tn i h -> (∀ b ∈ fp,∀ o,h.get? b = some o -> h'.get? b = some o) -> tn i h'
  item:∀ (X:Cx),X.prog = P -> X.w = w -> X.K = K -> X.N = X.N -> ∀ (i:Nat) (pins:List (Addr × Obj)) (s:Shared) (σ:St) (H:Hp) (E:Value -> Shared -> Prop),Inv X pins σ H s -> (∀ b ∈ fp,FpOk X pins H b) -> tn i s.heap -> J.go i H ->
    wpAny (model P w) X.A (pyNext (.ref it)) (fun r s1 => ∃ u,r = some u /\
      wpAny (model P w) X.A (letOwnedTupleGo tg (.ref it) u) (fun _ s2 => ∃ x H',Inv X pins σ H' s2 /\ RelV x u /\ J.yld i H x H' /\ tn (i + 1) s2.heap /\ ∀ b ∈ fp,H' b = none) E s1) E s
  done:∀ (X:Cx),X.prog = P -> X.w = w -> X.K = K -> X.N = X.N -> ∀ (i:Nat) (pins:List (Addr × Obj)) (s:Shared) (σ:St) (H:Hp) (E:Value -> Shared -> Prop),Inv X pins σ H s -> (∀ b ∈ fp,FpOk X pins H b) -> tn i s.heap -> J.stop i H ->
    wpAny (model P w) X.A (pyNext (.ref it)) (fun r s1 => r = none /\ Inv X pins σ H s1) E s
  self:∀ (A:Around) (i:Nat) (s:Shared) (Q:Value -> Shared -> Prop) (E:Value -> Shared -> Prop),tn i s.heap -> Q (.ref it) s -> wpAny (model P w) A (pyIter (.ref it)) Q E s
abbrev TI:=St -> Hp -> (It -> Hp -> Prop) -> Prop
def PIE (X:Cx) (pins:List (Addr × Obj)) (σ:St) (tg:Expr) (R:It -> Hp -> Prop) (itv:Value) (s2:Shared):Prop:=
  ∃ (it:Addr) (fp:List Addr) (tn:Nat -> Heap -> Prop) (J:It) (H':Hp),itv = .ref it /\ Inv X pins σ H' s2 /\ Turn X.prog X.w X.K tg J fp it tn /\ tn 0 s2.heap /\ (∀ b ∈ fp,FpOk X pins H' b) /\ R J H'
def PI (X:Cx) (tg iter:Expr) (wi:TI):Prop:=
  ∀ (pins:List (Addr × Obj)) (s:Shared) (σ:St) (H:Hp) (R:It -> Hp -> Prop),Inv X pins σ H s -> wi σ H R ->
    wpAny (model X.prog X.w) X.A (eval iter X.env) (fun v s1 => wpAny (model X.prog X.w) X.A (pyIter v) (PIE X pins σ tg R) X.xe s1) X.xe s
theorem go_of {M:Model} {A:Around} {E:Value -> Shared -> Prop} {s:Shared} {tg:Expr} {it:Addr} {u:Value} {o:Obj} {n:String} {vs:Array Value} {Q:Unit -> Shared -> Prop} (ho:s.heap.get? it = some o) (hc:o.cls = .type n) (hd:o.data = .fields vs)
    (hn:["enumerate", "zip", "dict_itemiterator", "dict_reverseitemiterator", "odict_iterator", "itertools.zip_longest", "itertools.pairwise"].contains n = false) (hQ:Q () s):wpAny M A (letOwnedTupleGo tg (.ref it) u) Q E s:=by
  unfold letOwnedTupleGo
  cases tg <;> first
    | exact wpAny_pure hQ
    | (cases u <;> first
        | exact wpAny_pure hQ
        | (refine wpAny_bind (wpAny_load ho ?_)
           rw [hc,hd]
           show wpAny M A (if (["enumerate", "zip", "dict_itemiterator", "dict_reverseitemiterator", "odict_iterator", "itertools.zip_longest", "itertools.pairwise"].contains n && vs[0]? == some (rawInt _)) = true then _ else _) Q E s
           rw [if_neg (by intro h; rw [hn,Bool.false_and] at h; cases h)]
           exact wpAny_pure hQ))
noncomputable def Itl (K:W.Frag) (a:Addr):It:=
  ⟨fun i H => ∃ xs x,SqL K H a xs /\ xs[i]? = some x,fun i H x H' => H' = H /\ ∀ xs,SqL K H a xs -> xs[i]? = some x,fun i H => ∃ xs,SqL K H a xs /\ xs.length <= i⟩
noncomputable def Itt (K:W.Frag) (a:Addr):It:=
  ⟨fun i H => ∃ xs x,SqT K H a xs /\ xs[i]? = some x,fun i H x H' => H' = H /\ ∀ xs,SqT K H a xs -> xs[i]? = some x,fun i H => ∃ xs,SqT K H a xs /\ xs.length <= i⟩
noncomputable def Itr (lo:Int) (n:Nat):It:=⟨fun i _ => i < n,fun i H x H' => H' = H /\ x = .int (lo + i),fun i _ => n <= i⟩
theorem turn_list {P:Program} {w:World} {K:W.Frag} {tg:Expr} (a it:Addr):Turn P w K tg (Itl K a) [it] it (fun i h => h.IsListIter it a i) where
  mem:=by simp
  obj:=fun i h st b hb => by
    have e:b = it:=by simpa using hb
    subst e
    obtain ⟨o,e,c,d⟩:=st
    exact ⟨o,e,fun v z => by rw [d] at z; cases z⟩
  keep:=fun i h h' st k => st.at fun o e => k it (by simp) o e
  item:=by
    intro X hP hw hK hc i pins s σ H E I hf st hg
    subst hP hw hK
    obtain ⟨xs,x,hq,hx⟩:=hg
    obtain ⟨its,rv,p,hz⟩:=I.list hq
    obtain ⟨u,hu,ru⟩:=rv.get hx
    obtain ⟨f0,f1,f2,f3,f4,f5⟩:=hf it (by simp)
    refine wpAny_pyNext_list_item st p.isList (x:=u) (by simpa using hu) fun h' st' sb => ?_
    have I1:Inv X pins σ H { s with heap:=h' }:=I.turned (t':=s.toks) (fun b o hb e => (sb.2 b hb).trans e) f0 f1 f3 f4 f5
    obtain ⟨o,e,c,d⟩:=id st'
    exact ⟨u,rfl,go_of (s:={ s with heap:=h' }) e c d (by decide) ⟨x,H,I1,ru,⟨rfl,fun ys hy => by rw [I.list_inj hy hq]; exact hx⟩,st',fun b hb => (hf b hb).1⟩⟩
  done:=by
    intro X hP hw hK hc i pins s σ H E I hf st hg
    subst hP hw hK
    obtain ⟨xs,hq,hx⟩:=hg
    obtain ⟨its,rv,p,hz⟩:=I.list hq
    obtain ⟨f0,f1,f2,f3,f4,f5⟩:=hf it (by simp)
    have hl:=rv.length
    exact end_list I.qu st p.isList (by simp; ac_rfl) fun h' eb => ⟨rfl,I.turned (t':=s.toks) (fun b o hb e => eb b o hb e) f0 f1 f3 f4 f5⟩
  self:=fun _ _ _ _ _ st h => wpAny_pyIter_listiter st h
theorem turn_tuple {P:Program} {w:World} {K:W.Frag} {tg:Expr} (a it:Addr):Turn P w K tg (Itt K a) [it] it (fun i h => h.IsTupleIter it a i) where
  mem:=by simp
  obj:=fun i h st b hb => by
    have e:b = it:=by simpa using hb
    subst e
    obtain ⟨o,e,c,d⟩:=st
    exact ⟨o,e,fun v z => by rw [d] at z; cases z⟩
  keep:=fun i h h' st k => st.at fun o e => k it (by simp) o e
  item:=by
    intro X hP hw hK hc i pins s σ H E I hf st hg
    subst hP hw hK
    obtain ⟨xs,x,hq,hx⟩:=hg
    obtain ⟨its,rv,p,hz⟩:=I.tuple hq
    obtain ⟨u,hu,ru⟩:=rv.get hx
    obtain ⟨f0,f1,f2,f3,f4,f5⟩:=hf it (by simp)
    refine wpAny_pyNext_tuple_item st (show s.heap.IsTuple a its.toArray from p) (x:=u) (by simpa using hu) fun h' st' sb => ?_
    have I1:Inv X pins σ H { s with heap:=h' }:=I.turned (t':=s.toks) (fun b o hb e => (sb.2 b hb).trans e) f0 f1 f3 f4 f5
    obtain ⟨o,e,c,d⟩:=id st'
    exact ⟨u,rfl,go_of (s:={ s with heap:=h' }) e c d (by decide) ⟨x,H,I1,ru,⟨rfl,fun ys hy => by rw [I.tuple_inj hy hq]; exact hx⟩,st',fun b hb => (hf b hb).1⟩⟩
  done:=by
    intro X hP hw hK hc i pins s σ H E I hf st hg
    subst hP hw hK
    obtain ⟨xs,hq,hx⟩:=hg
    obtain ⟨its,rv,p,hz⟩:=I.tuple hq
    obtain ⟨f0,f1,f2,f3,f4,f5⟩:=hf it (by simp)
    have hl:=rv.length
    exact end_tuple I.qu st (show s.heap.IsTuple a its.toArray from p) (by simp; ac_rfl) fun h' eb => ⟨rfl,I.turned (t':=s.toks) (fun b o hb e => eb b o hb e) f0 f1 f3 f4 f5⟩
  self:=fun _ _ _ _ _ st h => wpAny_pyIter_tupleiter st h
theorem turn_range {P:Program} {w:World} {K:W.Frag} {tg:Expr} (it:Addr) (lo:Int) (n:Nat):Turn P w K tg (Itr lo n) [it] it (fun i h => IsRangeIter h it (lo + (i:Nat) * 1) ((n:Int) - (i:Nat)) 1) where
  mem:=by simp
  obj:=fun i h st b hb => by
    have e:b = it:=by simpa using hb
    subst e
    exact ⟨_,st,fun v z => by
      have z':Data.fields _ = Data.cell v:=z
      cases z'⟩
  keep:=fun i h h' st k => k it (by simp) _ st
  item:=by
    intro X hP hw hK hc i pins s σ H E I hf st hg
    subst hP hw hK
    obtain ⟨f0,f1,f2,f3,f4,f5⟩:=hf it (by simp)
    refine item_range hg st fun v h' tk hv st' kk => ?_
    obtain ⟨t,rfl⟩:=hv
    have I1:Inv X pins σ H { s with heap:=h',toks:=tk }:=I.turned (fun b o hb e => kk b o (by simpa using hb) e) f0 f1 f3 f4 f5
    refine ⟨_,rfl,go_of (s:={ s with heap:=h',toks:=tk }) (n:="range_iterator") st' rfl rfl (by decide) ⟨.int (lo + i),H,I1,⟨t,?_⟩,⟨rfl,rfl⟩,st',fun b hb => (hf b hb).1⟩⟩
    rw [Int.mul_one]
  done:=by
    intro X hP hw hK hc i pins s σ H E I hf st hg
    subst hP hw hK
    obtain ⟨f0,f1,f2,f3,f4,f5⟩:=hf it (by simp)
    exact end_range I.qu st (by have:n <= i:=hg; ac_rfl) fun h' eb => ⟨rfl,I.turned (t':=s.toks) (fun b o hb e => eb b o hb e) f0 f1 f3 f4 f5⟩
  self:=fun _ _ _ _ _ st h => wpAny_pyIter_rangeiter st h
end L2
namespace L2
open PySem PySem.Spec PyProof.Rows
section
variable {X:Cx} {tg:Expr}
theorem range_it {pins:List (Addr × Obj)} {σ:St} {H:Hp} {s:Shared} {R:It -> Hp -> Prop} {E:Value -> Shared -> Prop} {lo hi:Int} {t u v:Tok} {tk:Nat} (I:Inv X pins σ H s) (h1:-(2 ^ 62) <= lo) (h2:lo < 2 ^ 62) (h3:-(2 ^ 62) <= hi) (h4:hi < 2 ^ 62)
    (q:R (Itr lo (hi - lo).toNat) H):wpAny (model X.prog X.w) X.A (pyIter (.ref s.heap.objs.size)) (PIE X pins σ tg R) E { s with heap:=s.heap.push { cls:=.type "range",data:=.fields #[.int lo t,.int hi u,.int 1 v] },toks:=tk }:=by
  refine wpAny_pyIter_range (IsRange.new ..) (small_one h1 h2 h3 h4) ?_
  have I1:Inv X pins σ H { s with heap:=s.heap.push { cls:=.type "range",data:=.fields #[.int lo t,.int hi u,.int 1 v] },toks:=tk }:=I.kept fun b o e => Heap.get?_push_of_some _ e
  refine ⟨(s.heap.push { cls:=.type "range",data:=.fields #[.int lo t,.int hi u,.int 1 v] }).objs.size,[(s.heap.push { cls:=.type "range",data:=.fields #[.int lo t,.int hi u,.int 1 v] }).objs.size],_,_,H,rfl,
    I1.kept (t':=tk) fun b o e => Heap.get?_push_of_some _ e,turn_range _ lo (hi - lo).toNat,?_,fun b hb => ?_,q⟩
  . have e1:lo + ((0:Nat):Int) * 1 = lo:=by simp
    have e2:(((hi - lo).toNat:Nat):Int) - ((0:Nat):Int) = Builtin.Range.rangeSize lo hi 1:=by rw [rangeSize_one]; split <;> ac_rfl
    show IsRangeIter _ _ (lo + ((0:Nat):Int) * 1) ((((hi - lo).toNat:Nat):Int) - ((0:Nat):Int)) 1
    rw [e1,e2]
    exact Heap.get?_push_size _ rfl
  . have e:b = (s.heap.push { cls:=.type "range",data:=.fields #[.int lo t,.int hi u,.int 1 v] }).objs.size:=by simpa using hb
    subst e
    exact I1.fpOk (Nat.le_refl _) (I1.hok.fresh (Nat.le_refl _))
def iRng1 (ta:TA):TI:=fun σ H R => ta σ H fun vs H1 => ∃ j:Int,vs = [.int j] /\ -(2 ^ 62) <= j /\ j < 2 ^ 62 /\ R (Itr 0 j.toNat) H1
def iRng2 (ta:TA):TI:=fun σ H R => ta σ H fun vs H1 => ∃ i j:Int,vs = [.int i,.int j] /\ (-(2 ^ 62) <= i /\ i < 2 ^ 62 /\ -(2 ^ 62) <= j /\ j < 2 ^ 62) /\ R (Itr i (j - i).toNat) H1
theorem pi_range1 {a:Expr} {ta:TA} {p pos:Pos} (hg:Gl X "range") (hm:X.mg "range" = none) (ha:PA X [a] ta) (hs:starEach [a] X.env = [(false,eval a X.env)]:=by rfl):PI X tg (.Call (.Name "range" p) [a] [] pos) (iRng1 ta):=by
  intro pins s σ H R I h
  refine Call_ (ld_blt I hg hm boot_range (PyProof.Rows.callWith_type1 (thn (ha pos pins s σ H _ I h) fun us s1 ⟨vs,H1,I1,r1,q1⟩ => ?_) hs rfl))
  obtain ⟨j,e,q1,q2,q⟩:=q1
  subst e
  cases r1 with
  | cons r rr =>
    cases rr
    obtain ⟨t,rfl⟩:=r
    exact call_range_1 (range_it I1 (by ac_rfl) (by ac_rfl) q1 q2 (by simpa using q))
theorem pi_range2 {a b:Expr} {ta:TA} {p pos:Pos} (hg:Gl X "range") (hm:X.mg "range" = none) (ha:PA X [a,b] ta) (hs:starEach [a,b] X.env = [(false,eval a X.env),(false,eval b X.env)]:=by rfl) (hs2:starEach [b] X.env = [(false,eval b X.env)]:=by rfl):
    PI X tg (.Call (.Name "range" p) [a,b] [] pos) (iRng2 ta):=by
  intro pins s σ H R I h
  refine Call_ (ld_blt I hg hm boot_range (PyProof.Rows.callWith_type1 (thn (ha pos pins s σ H _ I h) fun us s1 ⟨vs,H1,I1,r1,q1⟩ => ?_) (by rw [hs,hs2]) (by rw [hs2]; rfl)))
  obtain ⟨i,j,e,⟨q1,q2,q3,q4⟩,q⟩:=q1
  subst e
  cases r1 with
  | cons r rr =>
    cases rr with
    | cons r' rr =>
      cases rr
      obtain ⟨t,rfl⟩:=r
      obtain ⟨t',rfl⟩:=r'
      exact call_range_2 (range_it I1 q1 q2 q3 q4 q)
def tFor (wi:TI) (g:TG) (tb:TS):TS:=fun D σ H => wi σ H fun J H1 => ∃ W:Nat -> Nat -> St -> Hp -> Prop,(∃ m,W 0 m σ H1) /\ ∀ i m σ H,W i m σ H ->
  (J.stop i H /\ D.nx σ H) \/ (J.go i H /\ ∃ N:St -> Hp -> Prop,(∀ σ' H',N σ' H' -> ∃ m',m' < m /\ W (i + 1) m' σ' H') /\ ∀ x H',J.yld i H x H' -> g x σ H' fun σ2 H2 => tb { D with nx:=N,ct:=N,bk:=D.nx } σ2 H2)
noncomputable def pinsAt (fp:List Addr) (h:Heap):List (Addr × Obj):=fp.filterMap fun b => (h.get? b).map fun o => (b,o)
theorem mem_pinsAt {fp:List Addr} {h:Heap} {b:Addr} {o:Obj} (hb:b ∈ fp) (e:h.get? b = some o):(b,o) ∈ pinsAt fp h:=List.mem_filterMap.mpr ⟨b,hb,by rw [e]; rfl⟩
theorem of_pinsAt {fp:List Addr} {h:Heap} {p:Addr × Obj} (hp:p ∈ pinsAt fp h):p.1 ∈ fp /\ h.get? p.1 = some p.2:=by
  obtain ⟨b,hb,e⟩:=List.mem_filterMap.mp hp
  cases q:h.get? b with
  | none => rw [q] at e; cases e
  | some o =>
    rw [q] at e
    have e':(b,o) = p:=Option.some.inj e
    subst e'
    exact ⟨hb,q⟩
theorem Inv.pinned {pins:List (Addr × Obj)} {σ:St} {H:Hp} {s:Shared} {fp:List Addr} (I:Inv X pins σ H s) (hf:∀ b ∈ fp,FpOk X pins H b) (ho:∀ b ∈ fp,∃ o,s.heap.get? b = some o /\ ∀ v,o.data ≠ .cell v):Inv X (pins ++ pinsAt fp s.heap) σ H s:=
  I.pins_of fun p hp => (List.mem_append.mp hp).elim (fun z => I.pin p (List.mem_append_right _ z)) fun z => by
    obtain ⟨hb,e⟩:=of_pinsAt z
    obtain ⟨f0,f1,f2,_⟩:=hf p.1 hb
    obtain ⟨o,e',d⟩:=ho p.1 hb
    rw [e] at e'; cases e'
    exact ⟨e,f0,f1,f2,d⟩
theorem Inv.unpinned {pins pl:List (Addr × Obj)} {σ:St} {H:Hp} {s:Shared} (I:Inv X (pins ++ pl) σ H s):Inv X pins σ H s:=I.pins_of fun p hp => I.pin p (List.mem_append_right _ (List.mem_append_left _ hp))
theorem ps_for {iter:Expr} {body:List Stmt} {wi:TI} {g:TG} {tb:TS} {pos:Pos} (hp:PassesOwn (model X.prog X.w) X.A X.env X.xe) (hc:X.N = X.N) (hi:PI X tg iter wi) (hg:PG X tg g) (hb:PSs X body tb)
    (hs:∀ x,foldedSetIterable iter X.env x = pure x:=by intro _; rfl):PS X (.For tg iter body [] pos) (tFor wi g tb):=by
  intro pins s σ H D I h
  refine wpAny_For (thn (hi pins s σ H _ I h) fun v s1 h1 => thn h1 fun itv s2 h2 => ?_) hs
  obtain ⟨it,fp,tn,J,H2,e,I2,T,st2,f2,W,⟨m0,w0⟩,turn⟩:=h2
  subst e
  have stat:∀ {H':Hp},(∀ b ∈ fp,H' b = none) -> ∀ b ∈ fp,FpOk X pins H' b:=fun hn b hb => ⟨hn b hb,(f2 b hb).2⟩
  refine codeAny_forLoop_any (fun n s' => ∃ i σ' H',Inv X pins σ' H' s' /\ tn i s'.heap /\ (∀ b ∈ fp,H' b = none) /\ W i n σ' H') ?_ m0 ⟨0,σ,H2,I2,st2,fun b hb => (f2 b hb).1,w0⟩
  rintro n s3 ⟨i,σ3,H3,I3,st3,fr3,w3⟩
  rcases turn i n σ3 H3 w3 with ⟨stop,qn⟩ | ⟨go,N,hN,step⟩
  . refine wpAny_passesOwn hp (thn (T.done X rfl rfl rfl hc i pins s3 σ3 H3 X.xe I3 (stat fr3) st3 stop) fun r s4 ⟨hr,I4⟩ => ?_)
    subst hr
    exact wpAny_execs_nil ⟨σ3,H3,I4,qn⟩
  . refine wpAny_passesOwn hp (thn (T.item X rfl rfl rfl hc i pins s3 σ3 H3 X.xe I3 (stat fr3) st3 go) fun r s4 ⟨u,hr,h4⟩ => ?_)
    subst hr
    refine wpAny_passesOwn hp (thn h4 fun _ s5 ⟨x,H5,I5,r5,y5,st5,fr5⟩ => ?_)
    have I5':=I5.pinned (stat fr5) (T.obj _ _ st5)
    refine wpAny_passesOwn hp (thn (hg _ s5 σ3 H5 x u _ I5' r5 (step x H5 y5)) fun _ s6 ⟨σ6,H6,I6,q6⟩ => ?_)
    refine wpAny_passesOwn hp (thn (hb _ s6 σ6 H6 _ I6 q6) fun f s7 q7 => ?_)
    have again:∀ {σ7:St} {H7:Hp},Inv X (pins ++ pinsAt fp s5.heap) σ7 H7 s7 -> N σ7 H7 -> ∃ m,m < n /\ ∃ i σ' H',Inv X pins σ' H' s7 /\ tn i s7.heap /\ (∀ b ∈ fp,H' b = none) /\ W i m σ' H':=fun {σ7 H7} I7 n7 => by
      obtain ⟨m',hm,w7⟩:=hN σ7 H7 n7
      refine ⟨m',hm,i + 1,σ7,H7,I7.unpinned,T.keep _ _ _ st5 fun b hb o e => (I7.pin (b,o) (List.mem_append_right _ (List.mem_append_right _ (mem_pinsAt hb e)))).1,fun b hb => ?_,w7⟩
      obtain ⟨o,e,d⟩:=T.obj _ _ st5 b hb
      exact (I7.pin (b,o) (List.mem_append_right _ (List.mem_append_right _ (mem_pinsAt hb e)))).2.1
    cases f with
    | next => obtain ⟨σ7,H7,I7,n7⟩:=q7; exact again I7 n7
    | cont => obtain ⟨σ7,H7,I7,n7⟩:=q7; exact again I7 n7
    | brk => obtain ⟨σ7,H7,I7,q7⟩:=q7; exact ⟨σ7,H7,I7.unpinned,q7⟩
    | ret v => obtain ⟨x7,σ7,H7,I7,r7,q7⟩:=q7; exact ⟨x7,σ7,H7,I7.unpinned,r7,q7⟩
end
end L2
namespace L2
open PySem PySem.Spec PyProof.Rows
abbrev R2:=V -> V -> Hp -> VK -> Prop
def OpR (X:Cx) (f:Value -> Value -> Sem Value) (r:R2):Prop:=
  ∀ (pins:List (Addr × Obj)) (s:Shared) (σ:St) (H:Hp) (x y:V) (v u:Value) (Q:VK),Inv X pins σ H s -> RelV x v -> RelV y u -> r x y H Q ->
    wpAny (model X.prog X.w) X.A (f v u) (EP X pins σ Q) X.xe s
def UnR (X:Cx) (f:Value -> Sem Value) (r:V -> Hp -> VK -> Prop):Prop:=
  ∀ (pins:List (Addr × Obj)) (s:Shared) (σ:St) (H:Hp) (x:V) (v:Value) (Q:VK),Inv X pins σ H s -> RelV x v -> r x H Q ->
    wpAny (model X.prog X.w) X.A (f v) (EP X pins σ Q) X.xe s
def CallR (X:Cx) (f:Value) (r:List V -> Hp -> VK -> Prop):Prop:=
  ∀ (pins:List (Addr × Obj)) (s:Shared) (σ:St) (H:Hp) (xs:List V) (us:List Value) (Q:VK),Inv X pins σ H s -> Vals xs us -> r xs H Q ->
    wpAny (model X.prog X.w) X.A (call f us) (EP X pins σ Q) X.xe s
def TruR (X:Cx) (r:V -> Hp -> (Bool -> Hp -> Prop) -> Prop):Prop:=
  ∀ (pins:List (Addr × Obj)) (s:Shared) (σ:St) (H:Hp) (x:V) (v:Value) (Q:Bool -> Hp -> Prop),Inv X pins σ H s -> RelV x v -> r x H Q ->
    wpAny (model X.prog X.w) X.A (truthy v) (TP X pins σ Q) X.xe s
def tOp (r:R2) (ta tb:TE):TE:=fun σ H Q => ta σ H fun x H1 => tb σ H1 fun y H2 => r x y H2 Q
def tUn (r:V -> Hp -> VK -> Prop) (ta:TE):TE:=fun σ H Q => ta σ H fun x H1 => r x H1 Q
def rI (C:Int -> Int -> Prop) (g:Int -> Int -> V):R2:=fun x y H Q => ∃ i j,x = .int i /\ y = .int j /\ C i j /\ Q (g i j) H
def rI0 (g:Int -> Int -> V):R2:=fun x y H Q => ∃ i j,x = .int i /\ y = .int j /\ Q (g i j) H
def rU (g:Int -> V):V -> Hp -> VK -> Prop:=fun x H Q => ∃ i,x = .int i /\ Q (g i) H
section
variable {X:Cx} {a b c:Expr} {ta tb tc:TE} {pos:Pos}
theorem binT (ha:PE X a ta) (hb:PE X b tb) {pins:List (Addr × Obj)} {s:Shared} {σ:St} {H:Hp} {R:V -> V -> Hp -> Prop} (I:Inv X pins σ H s)
    (h:ta σ H fun x H1 => tb σ H1 fun y H2 => R x y H2) {Q:Value -> Shared -> Prop} {f:Value -> Value -> Sem Value}
    (hf:∀ v u s2 x y H2,Inv X pins σ H2 s2 -> RelV x v -> RelV y u -> R x y H2 -> wpAny (model X.prog X.w) X.A (f v u) Q X.xe s2):
    wpAny (model X.prog X.w) X.A (eval a X.env) (fun v s₁ => wpAny (model X.prog X.w) X.A (eval b X.env) (fun u s₂ => wpAny (model X.prog X.w) X.A (f v u) Q X.xe s₂) X.xe s₁) X.xe s:=by
  refine thn (ha pins s σ H _ I h) fun v s1 ⟨x,H1,I1,r1,q1⟩ => ?_
  refine thn (hb pins s1 σ H1 _ I1 q1) fun u s2 ⟨y,H2,I2,r2,q2⟩ => ?_
  exact hf v u s2 x y H2 I2 r1 r2 q2
theorem pe_op {op:Operator} {r:R2} (ho:OpR X (binaryOp op) r) (ha:PE X a ta) (hb:PE X b tb):PE X (.BinOp a op b pos) (tOp r ta tb):=by
  intro pins s σ H Q I h
  exact wpAny_BinOp (binT ha hb I h fun v u s2 x y H2 I2 rx ry q => ho pins s2 σ H2 x y v u Q I2 rx ry q)
theorem pe_un {op:UnaryOp} {r:V -> Hp -> VK -> Prop} (ho:UnR X (unaryOp op) r) (ha:PE X a ta):PE X (.UnaryOp op a pos) (tUn r ta):=by
  intro pins s σ H Q I h
  exact UnaryOp_ (thn (ha pins s σ H _ I h) fun v s1 ⟨x,H1,I1,r1,q1⟩ => ho pins s1 σ H1 x v Q I1 r1 q1)
theorem opI {f:Value -> Value -> Sem Value} {C:Int -> Int -> Prop} {g:Int -> Int -> Int}
    (rule:∀ (i j:Int) (t u:Tok) (s:Shared) (Q:Value -> Shared -> Prop) (E:Value -> Shared -> Prop),C i j -> Q (.int (g i j) s.toks) { s with toks:=s.toks + 1 } -> wpAny (model X.prog X.w) X.A (f (.int i t) (.int j u)) Q E s):
    OpR X f (rI C fun i j => .int (g i j)):=by
  intro pins s σ H x y v u Q I rx ry h
  obtain ⟨i,j,rfl,rfl,hc,q⟩:=h
  obtain ⟨t,rfl⟩:=rx
  obtain ⟨t',rfl⟩:=ry
  exact rule i j t t' s _ _ hc ⟨.int (g i j),H,I.tok _,⟨_,rfl⟩,q⟩
theorem opI0 {f:Value -> Value -> Sem Value} {g:Int -> Int -> Int}
    (rule:∀ (i j:Int) (t u:Tok) (s:Shared) (Q:Value -> Shared -> Prop) (E:Value -> Shared -> Prop),Q (.int (g i j) s.toks) { s with toks:=s.toks + 1 } -> wpAny (model X.prog X.w) X.A (f (.int i t) (.int j u)) Q E s):
    OpR X f (rI0 fun i j => .int (g i j)):=by
  intro pins s σ H x y v u Q I rx ry h
  obtain ⟨i,j,rfl,rfl,q⟩:=h
  obtain ⟨t,rfl⟩:=rx
  obtain ⟨t',rfl⟩:=ry
  exact rule i j t t' s _ _ ⟨.int (g i j),H,I.tok _,⟨_,rfl⟩,q⟩
theorem opB0 {f:Value -> Value -> Sem Value} {g:Int -> Int -> Bool}
    (rule:∀ (i j:Int) (t u:Tok) (s:Shared) (Q:Value -> Shared -> Prop) (E:Value -> Shared -> Prop),Q (.bool (g i j)) s -> wpAny (model X.prog X.w) X.A (f (.int i t) (.int j u)) Q E s):
    OpR X f (rI0 fun i j => .bl (g i j)):=by
  intro pins s σ H x y v u Q I rx ry h
  obtain ⟨i,j,rfl,rfl,q⟩:=h
  obtain ⟨t,rfl⟩:=rx
  obtain ⟨t',rfl⟩:=ry
  exact rule i j t t' s _ _ ⟨.bl (g i j),H,I,rfl,q⟩
def CPow (i j:Int):Prop:=0 <= j /\ j <= 1000000 /\ i.natAbs < 2 ^ 64
def CMul (i j:Int):Prop:=(-(2 ^ 64) < i /\ i < 2 ^ 64) \/ (-(2 ^ 64) < j /\ j < 2 ^ 64)
theorem CMul.ok {i j:Int} (h:CMul i j):IntMulOk i j:=by
  rcases h with ⟨h1,h2⟩ | ⟨h1,h2⟩
  . exact .of_left (intBits_le_64 h1 h2)
  . exact .of_right (intBits_le_64 h1 h2)
theorem op_add:OpR X (binaryOp .Add) (rI0 fun i j => .int (i + j)):=opI0 fun _ _ _ _ _ _ _ q => add_int q
theorem op_sub:OpR X (binaryOp .Sub) (rI0 fun i j => .int (i - j)):=opI0 fun _ _ _ _ _ _ _ q => sub_int q
theorem op_mod:OpR X (binaryOp .Mod) (rI (fun _ j => 0 < j) fun i j => .int (i % j)):=opI fun i j _ _ _ _ _ hc q => by
  have h1:(0:Int) < j:=hc
  exact mod_int' (by ac_rfl) (by rw [Int.fmod_eq_emod_of_nonneg i (by ac_rfl)]; exact q)
theorem unI {f:Value -> Sem Value} {g:Int -> Int}
    (rule:∀ (i:Int) (t:Tok) (s:Shared) (Q:Value -> Shared -> Prop) (E:Value -> Shared -> Prop),Q (.int (g i) s.toks) { s with toks:=s.toks + 1 } -> wpAny (model X.prog X.w) X.A (f (.int i t)) Q E s):
    UnR X f (rU fun i => .int (g i)):=by
  intro pins s σ H x v Q I rx h
  obtain ⟨i,rfl,q⟩:=h
  obtain ⟨t,rfl⟩:=rx
  exact rule i t s _ _ ⟨.int (g i),H,I.tok _,⟨_,rfl⟩,q⟩
theorem un_neg:UnR X (unaryOp .USub) (rU fun i => .int (-i)):=unI fun _ _ _ _ _ q => neg_int q
end
section
variable {X:Cx} {a b c:Expr} {ta tb tc:TE} {pos:Pos}
theorem op_lt:OpR X (compareOp .Lt) (rI0 fun i j => .bl (decide (i < j))):=opB0 fun _ _ _ _ _ _ _ q => lt_int q
theorem op_le:OpR X (compareOp .LtE) (rI0 fun i j => .bl (decide (i <= j))):=opB0 fun _ _ _ _ _ _ _ q => le_int q
theorem op_gt:OpR X (compareOp .Gt) (rI0 fun i j => .bl (decide (j < i))):=opB0 fun _ _ _ _ _ _ _ q => gt_int q
theorem OpR.or {f:Value -> Value -> Sem Value} {r r':R2} (h:OpR X f r) (h':OpR X f r'):OpR X f (fun x y H Q => r x y H Q \/ r' x y H Q):=by
  intro pins s σ H x y v u Q I rx ry q
  rcases q with q | q
  . exact h pins s σ H x y v u Q I rx ry q
  . exact h' pins s σ H x y v u Q I rx ry q
theorem nomark (b:Expr) {op:CmpOp} (h:op ≠ .In:=by decide) (h2:op ≠ .NotIn:=by decide):behindInMarks op b = false:=by
  have e1:(op == CmpOp.In) = false:=by cases op <;> first | rfl | exact absurd rfl h
  have e2:(op == CmpOp.NotIn) = false:=by cases op <;> first | rfl | exact absurd rfl h2
  cases b <;> simp [behindInMarks,e1,e2]
theorem pe_cmpR {op:CmpOp} {r:R2} (ho:OpR X (compareOp op) r) (ha:PE X a ta) (hb:PE X b tb) (hm:behindInMarks op b = false):PE X (.Compare a [op] [b] pos) (tOp r ta tb):=by
  intro pins s σ H Q I h
  exact wpAny_Compare1 (binT ha hb I h fun v u s2 x y H2 I2 rx ry q => ho pins s2 σ H2 x y v u Q I2 rx ry q) hm
def tTest (t:TE):TT:=fun σ H Q => t σ H fun x H' => ∃ k,x = .bl k /\ Q k H'
theorem pt_cmpR {op:CmpOp} {r:R2} (ho:OpR X (compareOp op) r) (ha:PE X a ta) (hb:PE X b tb) (hm:behindInMarks op b = false):PT X (.Compare a [op] [b] pos) (tTest (tOp r ta tb)):=by
  intro pins s σ H Q I h
  refine wpAny_isTrue_Compare1 (thn (ha pins s σ H _ I h) fun v s1 ⟨x,H1,I1,r1,q1⟩ => thn (hb pins s1 σ H1 _ I1 q1) fun u s2 ⟨y,H2,I2,r2,q2⟩ =>
    thn (ho pins s2 σ H2 x y v u _ I2 r1 r2 q2) fun c s3 ⟨z,H3,I3,r3,k,e,q3⟩ => ?_) hm
  subst e
  cases r3
  exact wpAny_truthy_bool ⟨H3,I3,q3⟩
def tChain (r r':R2) (ta tb tc:TE):TE:=fun σ H Q => ta σ H fun x H1 => tb σ H1 fun y H2 => r x y H2 fun z H3 => ∃ k,z = .bl k /\
  (if k = true then tc σ H3 fun w' H4 => r' y w' H4 Q else Q (.bl false) H3)
theorem pe_chain {op op':CmpOp} {r r':R2} (ho:OpR X (compareOp op) r) (ho':OpR X (compareOp op') r') (ha:PE X a ta) (hb:PE X b tb) (hc:PE X c tc)
    (hm:lastMarks [op,op'] [b,c] = false:=by with_unfolding_all rfl):PE X (.Compare a [op,op'] [b,c] pos) (tChain r r' ta tb tc):=by
  intro pins s σ H Q I h
  refine Compare_chain (thn (ha pins s σ H _ I h) fun v s1 ⟨x,H1,I1,r1,q1⟩ => chain_link (thn (hb pins s1 σ H1 _ I1 q1) fun u s2 ⟨y,H2,I2,r2,q2⟩ =>
    thn (ho pins s2 σ H2 x y v u _ I2 r1 r2 q2) fun d s3 ⟨z,H3,I3,r3,k,e,q3⟩ => ?_)) hm
  subst e
  cases r3
  refine wpAny_truthy_bool ?_
  cases k with
  | false => exact ite_ff ⟨.bl false,H3,I3,rfl,q3⟩
  | true => exact ite_tt (chain_last (thn (hc pins s3 σ H3 _ I3 q3) fun w' s4 ⟨z',H4,I4,r4,q4⟩ => ho' pins s4 σ H4 y z' u w' Q I4 r2 r4 q4))
theorem pt_chain {op op':CmpOp} {r r':R2} (ho:OpR X (compareOp op) r) (ho':OpR X (compareOp op') r') (ha:PE X a ta) (hb:PE X b tb) (hc:PE X c tc)
    (hm:lastMarks [op,op'] [b,c] = false:=by with_unfolding_all rfl):PT X (.Compare a [op,op'] [b,c] pos) (tTest (tChain r r' ta tb tc)):=by
  intro pins s σ H Q I h
  refine isTrue_chain (thn (ha pins s σ H _ I h) fun v s1 ⟨x,H1,I1,r1,q1⟩ => test_link (thn (hb pins s1 σ H1 _ I1 q1) fun u s2 ⟨y,H2,I2,r2,q2⟩ =>
    thn (ho pins s2 σ H2 x y v u _ I2 r1 r2 q2) fun d s3 ⟨z,H3,I3,r3,k,e,q3⟩ => ?_)) hm
  subst e
  cases r3
  refine wpAny_truthy_bool ?_
  cases k with
  | false =>
    obtain ⟨k',e',q'⟩:=q3
    cases e'
    exact ite_ff ⟨H3,I3,q'⟩
  | true =>
    refine ite_tt (test_last (thn (hc pins s3 σ H3 _ I3 q3) fun w' s4 ⟨z',H4,I4,r4,q4⟩ => thn (ho' pins s4 σ H4 y z' u w' _ I4 r2 r4 q4) fun d' s5 ⟨z2,H5,I5,r5,k2,e2,q5⟩ => ?_))
    subst e2
    cases r5
    exact wpAny_truthy_bool ⟨H5,I5,q5⟩
def TruV (K:W.Frag) (x:V) (H:Hp) (k:Bool):Prop:=
  match x with
  | .non => k = false
  | .bl b => k = b
  | .int i => k = (i != 0)
  | .str y => y.length <= sizeLine /\ k = ((y.length:Int) != 0)
  | .byt y => y.size <= sizeLine /\ k = ((y.size:Int) != 0)
  | .ref p => (∃ xs,SqL K H p xs /\ k = !xs.isEmpty) \/ (∃ xs,SqT K H p xs /\ k = !xs.isEmpty) \/ ∃ kvs,H p = some (.dK kvs) /\ k = !kvs.isEmpty
  | _ => False
theorem isEmpty_kv {κ:Type} {kvs:List (κ × V)} {vs:List (κ × Value)} (r:KV kvs vs):(!vs.isEmpty) = !kvs.isEmpty:=by
  cases r <;> rfl
theorem isEmpty_of {xs:List V} {its:List Value} (r:Vals xs its):(!its.toArray.isEmpty) = !xs.isEmpty:=by
  cases r <;> simp
theorem line63:(sizeLine:Nat) < 2 ^ 63:=by rw [sizeLine_eq]; decide
theorem tru_ok:TruR X (fun x H Q => ∃ k,TruV X.K x H k /\ Q k H):=by
  intro pins s σ H x v Q I rx h
  obtain ⟨k,e,q⟩:=h
  have hl:=line63
  have hs:sizeLine = 16777216:=sizeLine_eq
  cases x with
  | non =>
    cases rx
    have e':k = false:=e
    subst e'
    exact truthy_none ⟨H,I,q⟩
  | bl b =>
    cases rx
    have e':k = b:=e
    subst e'
    exact wpAny_truthy_bool ⟨H,I,q⟩
  | int i =>
    obtain ⟨t,rfl⟩:=rx
    have e':k = (i != 0):=e
    subst e'
    exact PySem.P.truthy_int ⟨H,I,q⟩
  | str y =>
    obtain ⟨t,rfl⟩:=rx
    obtain ⟨hy,e'⟩:y.length <= sizeLine /\ k = ((y.length:Int) != 0):=e
    subst e'
    exact PySem.P.truthy_str (by ac_rfl) ⟨H,I.tok _,q⟩
  | byt y =>
    obtain ⟨t,rfl⟩:=rx
    obtain ⟨hy,e'⟩:y.size <= sizeLine /\ k = ((y.size:Int) != 0):=e
    subst e'
    exact W.truthy_bytes (by ac_rfl) ⟨H,I.tok _,q⟩
  | ref p =>
    cases rx
    have e':(∃ xs,SqL X.K H p xs /\ k = !xs.isEmpty) \/ (∃ xs,SqT X.K H p xs /\ k = !xs.isEmpty) \/ ∃ kvs,H p = some (.dK kvs) /\ k = !kvs.isEmpty:=e
    rcases e' with ⟨xs,hx,e'⟩ | ⟨xs,hx,e'⟩ | ⟨kvs,hx,e'⟩
    . subst e'
      obtain ⟨its,r,pl,hz⟩:=I.list hx
      have hlen:=r.length
      exact wpAny_truthy_list pl.isList (by simp only [List.size_toArray]; ac_rfl) ⟨H,I.tok _,by rw [isEmpty_of r]; exact q⟩
    . subst e'
      obtain ⟨its,r,pl,hz⟩:=I.tuple hx
      have hlen:=r.length
      exact truthy_tuple pl (by simp only [List.size_toArray]; ac_rfl) ⟨H,I.tok _,by rw [isEmpty_of r]; exact q⟩
    . subst e'
      obtain ⟨hz,hS,vs,r,m⟩:kvs.length <= sizeLine /\ (p == sysModules) = false /\ ∃ vs,KV kvs vs /\ s.heap.DictOf (mixKind X.prog X.w) p vs:=I.hok p _ hx
      have hlen:kvs.length = vs.length:=Paired.length r
      exact wpAny_truthy_dict hS m (by ac_rfl) ⟨H,I.tok _,by rw [isEmpty_kv r]; exact q⟩
  | _ => exact (show False from e).elim
theorem pt_truth (ha:PE X a ta) (he:∀ whole,isTrue a X.env whole = (do let v <- whole; standAt a.pos; holding [v] (truthy v))):
    PT X a (fun σ H Q => ta σ H fun x H' => ∃ k,TruV X.K x H' k /\ Q k H'):=by
  intro pins s σ H Q I h
  exact isTrue_plain (thn (ha pins s σ H _ I h) fun v s1 ⟨x,H1,I1,r1,q1⟩ => tru_ok pins s1 σ H1 x v Q I1 r1 q1) (he _)
theorem op_add_str:OpR X (binaryOp .Add) (fun x y H Q => ∃ i j,x = .str i /\ y = .str j /\ i.length + j.length <= sizeLine /\ Q (.str (i ++ j)) H):=by
  intro pins s σ H x y v u Q I rx ry h
  obtain ⟨i,j,rfl,rfl,hz,q⟩:=h
  obtain ⟨t,rfl⟩:=rx
  obtain ⟨t',rfl⟩:=ry
  exact add_str (fun t' tk => ⟨.str (i ++ j),H,I.tok _,⟨_,rfl⟩,q⟩) hz
theorem vals1 {x:V} {us:List Value} (r:Vals [x] us):∃ u,us = [u] /\ RelV x u:=by
  cases r with
  | cons r1 r2 => cases r2; exact ⟨_,rfl,r1⟩
theorem vals2 {x y:V} {us:List Value} (r:Vals [x,y] us):∃ u w',us = [u,w'] /\ RelV x u /\ RelV y w':=by
  cases r with
  | cons r1 r2 =>
    cases r2 with
    | cons r3 r4 => cases r4; exact ⟨_,_,rfl,r1,r3⟩
theorem call_abs:CallR X (.builtin "abs") (fun xs H Q => ∃ i,xs = [.int i] /\ Q (.int (if i < 0 then -i else i)) H):=by
  intro pins s σ H xs us Q I r h
  obtain ⟨i,rfl,q⟩:=h
  obtain ⟨u,rfl,t,rfl⟩:=vals1 r
  exact call_abs_int fun u tk => ⟨.int (if i < 0 then -i else i),H,I.tok _,⟨_,rfl⟩,q⟩
theorem call_min2 (hc:X.calm = true):CallR X (.builtin "min") (fun xs H Q => ∃ i j,xs = [.int i,.int j] /\ Q (.int (if j < i then j else i)) H):=by
  intro pins s σ H xs us Q I r h
  obtain ⟨i,j,rfl,q⟩:=h
  obtain ⟨u,w',rfl,⟨t,rfl⟩,⟨t',rfl⟩⟩:=vals2 r
  refine min_two_ints (I.ok.hd hc) fun h' tk k => ⟨_,H,I.kept k,?_,q⟩
  by_cases hj:j < i
  . rw [if_pos hj,if_pos hj]; exact ⟨_,rfl⟩
  . rw [if_neg hj,if_neg hj]; exact ⟨_,rfl⟩
end
end L2
namespace L2
open PySem PySem.Spec PyProof.Rows
structure ObjM (h:Heap) (x dx C:Addr) (mA:Str -> Option Value):Prop where
  obj:h.get? x = some (W.instObj C dx)
  ns:h.Ns1 dx mA
  ne:dx ≠ x
theorem lookIn_ns {h:Heap} {dx:Addr} {mA:Str -> Option Value} (n:h.Ns1 dx mA):∃ od,h.get? dx = some od /\ ∀ name,W.lookIn name od = some (mA name):=by
  obtain ⟨o,es,ep,ho,hd,hk,_,hm⟩:=n
  refine ⟨o,ho,fun name => ?_⟩
  have e:=hm name
  unfold nsFind findBy at e
  rw [<- Array.find?_toList] at e
  unfold W.lookIn
  rw [hd]
  dsimp only
  split
  . rename_i y q
    rw [q] at e
    exact congrArg some e
  . rename_i q
    rw [q] at e
    have a:es.toList.any (·.refKey) = false:=by
      rw [List.any_eq_false]
      intro y hy
      obtain ⟨z,t,hkey⟩:=hk y (Array.mem_toList_iff.mp hy)
      simp [DictEntry.refKey,hkey]
    have a':¬ es.toList.any (·.refKey) = true:=by rw [a]; exact Bool.false_ne_true
    rw [if_neg a']
    exact congrArg some e
theorem ObjM.look {h:Heap} {x dx C:Addr} {mA:Str -> Option Value} (I:ObjM h x dx C mA):∃ od,W.InstAt h x (W.instObj C dx) C (some od) /\ ∀ name,W.lookIn name od = some (mA name):=
  let ⟨od,ho,hl⟩:=lookIn_ns I.ns
  ⟨od,⟨I.obj,rfl,rfl,ho⟩,hl⟩
section
variable {prog:Program} {w:World} {A:Around} {E:Value -> Shared -> Prop} {s:Shared} {K:W.Frag} {x dx C f:Addr} {mA:Str -> Option Value} {name:Str} {v:Value}
theorem get_map {expr:Bool} {Q:Value -> Shared -> Prop} (X:K.In s.heap) (I:ObjM s.heap x dx C mA) (hg:W.plainGet K C name = true) (hh:W.hasDictIn K C = true)
    (ha:W.findIn K (.ref C) name = some none) (hv:mA name = some v) (hv':W.handedIn v = true) (h:Q v { s with toks:=s.toks + 1 }):
    wpAny (model prog w) A (getAttr (.ref x) name expr) Q E s:=by
  obtain ⟨od,J,hl⟩:=I.look
  exact W.get_value X J (W.plainGet_of hg).1 (W.findObj_own hh ha rfl (by rw [hl,hv])) hv' h
theorem get_meth {pl:Sem Bool} {Q:Value × List Value -> Shared -> Prop} (X:K.In s.heap) (I:ObjM s.heap x dx C mA) (hg:W.plainGet K C name = true)
    (hf:W.findIn K (.ref C) name = some (some (.ref f))) (ht:W.isFn K (.ref f) = true) (hv:mA name = none) (h:Q (.ref f,[.ref x]) s):
    wpAny (model prog w) A (getMethod (.ref x) name pl) Q E s:=by
  obtain ⟨od,J,hl⟩:=I.look
  exact W.method_fn X J (W.plainGet_of hg).1 (W.plainGet_of hg).2 hf (beq_iff_eq.mp ht) (by show (W.lookIn name od).map (·.isSome) = some false; rw [hl,hv]; rfl) h
theorem set_map {ns:List Str} {Q:Unit -> Shared -> Prop} (X:K.In s.heap) (I:ObjM s.heap x dx C mA)
    (hs:W.findIn K (.ref C) "__setattr__" = some (some (.builtin "object.__setattr__"))) (hp:W.plainOver K C = true) (ht:W.takerIn K C name = some none) (hh:W.hasDictIn K C = true)
    (hw:PySem.Within mA ns) (hsz:ns.length <= sizeLine)
    (h:∀ h',ObjM h' x dx C (fun y => if y = name then some v else mA y) -> Heap.SameBut dx s.heap h' -> Q () { s with heap:=h',toks:=s.toks + 2 }):
    wpAny (model prog w) A (setAttr (.ref x) name v) Q E s:=by
  obtain ⟨od,J,hl⟩:=I.look
  refine W.set_plain X J hs (W.osa_open (s:={ s with toks:=s.toks + 1 }) (r:=none) X J hp ht fun b => ?_)
  obtain ⟨cd,hc,hd'⟩:=W.any_some hh
  have hx:s.heap.get? x = some ⟨.ref C,some dx,.plain,#[]⟩:=I.obj
  refine wpAny_bind (wpAny_pure (wpAny_bind (wpAny_bind (wpAny_loadPart hx (wpAny_bind (W.Looks.here (s:={ s with toks:=s.toks + 1 }) (W.looks_clsIn X hc) ?_))))))
  rw [hd']
  refine wpAny_pure (a:=some dx) (wpAny_bind (wpAny_pure (wpAny_bind ?_)))
  refine wpAny_nsSet1 (s:={ s with toks:=s.toks + 1 }) I.ns fun h' hn2 hs2 => ?_
  obtain ⟨oD,esD,epD,hoD,hdD,hcD⟩:=hn2.count (PySem.Within.cons name v hw)
  refine wpAny_bind (wpAny_lookBehind hoD (by rw [hdD]; exact pastItsLine_dict (Nat.le_trans hcD (by rw [List.length_cons]; ac_rfl))) ?_)
  exact wpAny_pure (h _ ⟨(hs2.2 _ (Ne.symm I.ne)).trans I.obj,hn2,I.ne⟩ hs2)
theorem make_map {R:Result -> Shared -> Prop} {vs:List Value} {kw:List (Str × Value)} (X:K.In s.heap) (hm:W.makesIn K C = true)
    (hi:W.findIn K (.ref C) "__init__" = some (some (.ref f))) (hf:W.typeIn K (.ref f) = some (.type "function"))
    (h:codeAny (model prog w) (A.under (.builtin "type.__call__" ⟨.ref C :: vs,kw⟩)) (.call (.ref f) ⟨.ref (s.heap.objs.size + 1) :: vs,kw⟩) (W.InitBack (s.heap.objs.size + 1) R)
      { s with heap:=(s.heap.push W.emptyDict).push (W.instObj C s.heap.objs.size) }):
    codeAny (model prog w) A (.call (.ref C) ⟨vs,kw⟩) R s:=by
  obtain ⟨hh,g,d,t,os⟩:=s
  exact W.make_core (W.makes_of X hm) (W.looks_findIn X hi) (fun self => W.bind_fn X self hf) (.inl rfl) h
end
noncomputable def putF (f:Str) (v:V):List (Str × V) -> List (Str × V)
  | [] => [(f,v)]
  | (g,x) :: r => if g = f then (g,v) :: r else (g,x) :: putF f v r
theorem lookup_putF (f g:Str) (v:V):∀ fs:List (Str × V),(putF f v fs).lookup g = if g = f then some v else fs.lookup g
  | [] => by
    show List.lookup g [(f,v)] = _
    by_cases h:g = f
    . have hb:(g == f) = true:=beq_iff_eq.mpr h
      simp only [List.lookup,hb,if_pos h]
    . have hb:(g == f) = false:=beq_eq_false_iff_ne.mpr h
      simp only [List.lookup,hb,if_neg h]
  | (k,x) :: r => by
    have ih:=lookup_putF f g v r
    rw [show putF f v ((k,x) :: r) = (if k = f then (k,v) :: r else (k,x) :: putF f v r) from rfl]
    by_cases hk:k = f
    . rw [if_pos hk]
      by_cases h:g = k
      . have hb:(g == k) = true:=beq_iff_eq.mpr h
        simp only [List.lookup,hb,if_pos (h.trans hk)]
      . have hb:(g == k) = false:=beq_eq_false_iff_ne.mpr h
        simp only [List.lookup,hb,if_neg (fun e:g = f => h (e.trans hk.symm))]
    . rw [if_neg hk]
      by_cases h:g = k
      . have hb:(g == k) = true:=beq_iff_eq.mpr h
        simp only [List.lookup,hb,if_neg (fun e:g = f => hk (h.symm.trans e))]
      . have hb:(g == k) = false:=beq_eq_false_iff_ne.mpr h
        simp only [List.lookup,hb]
        exact ih
theorem keys_putF (f:Str) (v:V):∀ fs:List (Str × V),f ∈ (putF f v fs).map (·.1) /\ ∀ g,g ∈ fs.map (·.1) -> g ∈ (putF f v fs).map (·.1)
  | [] => ⟨by simp [putF],fun g h => by simp at h⟩
  | (k,x) :: r => by
    obtain ⟨i1,i2⟩:=keys_putF f v r
    rw [show putF f v ((k,x) :: r) = (if k = f then (k,v) :: r else (k,x) :: putF f v r) from rfl]
    by_cases hk:k = f
    . rw [if_pos hk]
      subst hk
      exact ⟨by simp,fun g h => by simpa using h⟩
    . rw [if_neg hk]
      refine ⟨?_,fun g h => ?_⟩
      . rw [List.map_cons]
        exact List.mem_cons_of_mem _ i1
      . rw [List.map_cons] at h ⊢
        rcases List.mem_cons.mp h with e | e
        . exact List.mem_cons.mpr (.inl e)
        . exact List.mem_cons_of_mem _ (i2 g e)
theorem length_putF (f:Str) (v:V):∀ fs:List (Str × V),(putF f v fs).length <= fs.length + 1
  | [] => by simp [putF]
  | (k,x) :: r => by
    have ih:=length_putF f v r
    rw [show putF f v ((k,x) :: r) = (if k = f then (k,v) :: r else (k,x) :: putF f v r) from rfl]
    by_cases hk:k = f
    . rw [if_pos hk,List.length_cons,List.length_cons]; ac_rfl
    . rw [if_neg hk,List.length_cons,List.length_cons]; ac_rfl
theorem RelO.some_of {v:V} {o:Option Value} (r:RelO (some v) o):∃ u,o = some u /\ RelV v u:=by
  cases o with
  | none => exact (show False from r).elim
  | some u => exact ⟨u,rfl,r⟩
theorem RelO.none_of {o:Option Value} (r:RelO none o):o = none:=by
  cases o with
  | none => rfl
  | some u => exact (show False from r).elim
theorem handed_of {v:V} {u:Value} (r:RelV v u):W.handedIn u = true:=by
  cases v with
  | non => cases (show u = Value.none from r); rfl
  | bl b => cases (show u = Value.bool b from r); rfl
  | int i => obtain ⟨t,e⟩:=(show ∃ t,u = Value.int i t from r); cases e; rfl
  | str x => obtain ⟨t,e⟩:=(show ∃ t,u = Value.str x t from r); cases e; rfl
  | byt b => obtain ⟨t,e⟩:=(show ∃ t,u = Value.bytes b t from r); cases e; rfl
  | flt b => obtain ⟨t,e⟩:=(show ∃ t,u = Value.float b t from r); cases e; rfl
  | ref a => cases (show u = Value.ref a from r); rfl
  | ty n => cases (show u = Value.type n from r); rfl
section
variable {P:Program} {w:World} {H H':Hp} {h h':Heap} {a C dx:Addr} {fs fs':List (Str × V)}
theorem ins_get (hok:HOk P w H h) (e:H a = some (.ins C dx fs)):∃ mA,ObjM h a dx C mA /\ (∀ f,RelO (fs.lookup f) (mA f)) /\ PySem.Within mA (fs.map (·.1)) /\ fs.length <= 1000 /\ H dx = some (.own a):=by
  obtain ⟨d,z,ne,ob,mA,n,r,q⟩:=(show ObjOk P w H h a (.ins C dx fs) from hok a _ e)
  exact ⟨mA,⟨ob,n,ne⟩,r,q,z,d⟩
end
structure Cls (K:W.Frag) (C:Addr):Prop where
  pg:W.plainGet K C Str.empty = true
  hd:W.hasDictIn K C = true
  po:W.plainOver K C = true
  sa:W.findIn K (.ref C) "__setattr__" = some (some (.builtin "object.__setattr__"))
theorem Cls.get {K:W.Frag} {C:Addr} (c:Cls K C) (f:Str):W.plainGet K C f = true:=c.pg
def NoAttr (K:W.Frag) (C:Addr) (f:Str):Prop:=W.findIn K (.ref C) f = some none
theorem NoAttr.taker {K:W.Frag} {C:Addr} {f:Str} (n:NoAttr K C f):W.takerIn K C f = some none:=by
  unfold W.takerIn
  rw [show W.findIn K (.ref C) f = some none from n]
  rfl
structure Meth (K:W.Frag) (C:Addr) (m:Str) (f:Addr):Prop where
  at_:W.findIn K (.ref C) m = some (some (.ref f))
  fn:W.isFn K (.ref f) = true
  kp:W.keepIn K (.ref f) = true
section
variable {X:Cx} {pins:List (Addr × Obj)} {σ:St} {H:Hp} {s:Shared} {a C dx:Addr} {fs:List (Str × V)} {f:Str} {v:V} {A:Around} {E:Value -> Shared -> Prop}
theorem getattr_ok {b:Bool} {Q:Value -> Shared -> Prop} (I:Inv X pins σ H s) (e:H a = some (.ins C dx fs)) (c:Cls X.K C) (n:NoAttr X.K C f) (l:fs.lookup f = some v)
    (h:∀ u s',Inv X pins σ H s' -> RelV v u -> Q u s'):wpAny (model X.prog X.w) A (getAttr (.ref a) f b) Q E s:=by
  obtain ⟨mA,O,r,_,_,_⟩:=ins_get I.hok e
  obtain ⟨u,hu,ru⟩:=RelO.some_of (v:=v) (o:=mA f) (by rw [<- l]; exact r f)
  exact get_map I.kIn O (c.get f) c.hd n hu (handed_of ru) (h u _ (I.tok _) ru)
theorem getmeth_ok {m:Str} {g:Addr} {pl:Sem Bool} {Q:Value × List Value -> Shared -> Prop} (I:Inv X pins σ H s) (e:H a = some (.ins C dx fs)) (c:Cls X.K C) (k:Meth X.K C m g) (l:fs.lookup m = none)
    (h:Q (.ref g,[.ref a]) s):wpAny (model X.prog X.w) A (getMethod (.ref a) m pl) Q E s:=by
  obtain ⟨mA,O,r,_,_,_⟩:=ins_get I.hok e
  have hn:mA m = none:=RelO.none_of (by rw [<- l]; exact r m)
  exact get_meth I.kIn O (c.get m) k.at_ k.fn hn h
theorem setattr_ok {y:V} {u:Value} {Q:Unit -> Shared -> Prop} (I:Inv X pins σ H s) (e:H a = some (.ins C dx fs)) (c:Cls X.K C) (n:NoAttr X.K C f) (hl:fs.length < 1000) (ry:RelV y u)
    (h:∀ s',Inv X pins σ (upd H a (.ins C dx (putF f y fs))) s' -> Q () s'):wpAny (model X.prog X.w) A (setAttr (.ref a) f u) Q E s:=by
  obtain ⟨mA,O,r,wi,_,ho⟩:=ins_get I.hok e
  have hz:(fs.map (·.1)).length <= sizeLine:=by rw [List.length_map,sizeLine_eq]; ac_rfl
  refine set_map I.kIn O c.sa c.po n.taker c.hd wi hz fun h' O' sb => h _ ?_
  have hd:∃ o,h'.get? dx = some o:=let ⟨o,_,_,e',_⟩:=O'.ns; ⟨o,e'⟩
  refine I.write (x:=a) (e:=dx) (by rw [e]; exact True.intro) (.inr ho) (fun b q hb z => (sb.2 b hb).trans z) hd ?_
  refine ⟨by rw [upd_ne O.ne]; exact ho,?_,O.ne,O'.obj,_,O'.ns,fun g => ?_,fun g hg => ?_⟩
  . have:=length_putF f y fs; ac_rfl
  . show RelO ((putF f y fs).lookup g) (if g = f then some u else mA g)
    rw [lookup_putF]
    by_cases q:g = f
    . rw [if_pos q,if_pos q]; exact ry
    . rw [if_neg q,if_neg q]; exact r g
  . by_cases q:g = f
    . rw [q]; exact (keys_putF f y fs).1
    . refine (keys_putF f y fs).2 g (wi g fun z => hg ?_)
      show (if g = f then some u else mA g) = none
      rw [if_neg q]; exact z
theorem Inv.made (I:Inv X pins σ H s):Inv X pins σ (upd (upd H s.heap.objs.size (.own (s.heap.objs.size + 1))) (s.heap.objs.size + 1) (.ins C s.heap.objs.size []))
    { s with heap:=(s.heap.push W.emptyDict).push (W.instObj C s.heap.objs.size) }:=by
  have e1:(s.heap.push W.emptyDict).get? s.heap.objs.size = some W.emptyDict:=Heap.get?_push_size s.heap rfl
  have e2:((s.heap.push W.emptyDict).push (W.instObj C s.heap.objs.size)).get? (s.heap.objs.size + 1) = some (W.instObj C s.heap.objs.size):=by
    have:=Heap.get?_push_size (s.heap.push W.emptyDict) (o:=W.instObj C s.heap.objs.size) rfl
    rwa [Heap.size_push] at this
  have e3:(s.heap.push W.emptyDict).Ns s.heap.objs.size (fun _ => none):=⟨W.emptyDict,#[],_,e1,rfl,(fun e he => absurd he (by simp)),fun _ => rfl⟩
  have I1:=I.laid (a:=s.heap.objs.size) (o:=.own (s.heap.objs.size + 1)) (h':=s.heap.push W.emptyDict) (t':=s.toks) (fun b u q => Heap.get?_push_of_some _ q) (Nat.le_refl _) ⟨_,e1⟩
  refine I1.laid (a:=s.heap.objs.size + 1) (o:=.ins C s.heap.objs.size []) (t':=s.toks) (fun b u q => Heap.get?_push_of_some _ q) (Nat.le_of_eq (Heap.size_push _ _)) ?_
  have ne:s.heap.objs.size ≠ s.heap.objs.size + 1:=Nat.ne_of_lt (Nat.lt_succ_self _)
  refine ⟨by rw [upd_ne ne,upd_same],Nat.zero_le _,ne,e2,fun _ => none,(Heap.Ns1.of_empty e3).at fun o q => Heap.get?_push_of_some _ q,fun _ => True.intro,fun y hy => absurd rfl hy⟩
theorem attr_of {prog:Program} {w:World} {env:Env} {e:Expr} {f:Str} {pos:Pos} {s:Shared} {Q:Value -> Shared -> Prop} (hb:attributeBase e f env (eval e env) = eval e env)
    (h:wpAny (model prog w) A (eval e env) (fun o s₁ => wpAny (model prog w) A (getAttr o f true) Q E s₁) E s):wpAny (model prog w) A (eval (.Attribute e f pos) env) Q E s:=
  Attribute_any_ h (by rw [arm_eval_Attribute,hb])
end
def tFld (K:W.Frag) (ta:TE) (f:Str):TE:=fun σ H Q => ta σ H fun x H1 => ∃ a C dx fs v,x = .ref a /\ H1 a = some (.ins C dx fs) /\ Cls K C /\ NoAttr K C f /\ fs.lookup f = some v /\ Q v H1
def sFld (K:W.Frag) (ta tv:TE) (f:Str):TS:=fun D σ H => tv σ H fun y H1 => ta σ H1 fun x H2 => ∃ a C dx fs,x = .ref a /\ H2 a = some (.ins C dx fs) /\ Cls K C /\ NoAttr K C f /\ fs.length < 1000 /\
  D.nx σ (upd H2 a (.ins C dx (putF f y fs)))
section
variable {X:Cx} {o e value:Expr} {f:Str} {pos pos' tpos:Pos} {ta tv:TE}
theorem pe_fld (he:PE X e ta) (hb:attributeBase e f X.env (eval e X.env) = eval e X.env):PE X (.Attribute e f pos) (tFld X.K ta f):=by
  intro pins s σ H Q I h
  refine attr_of hb (thn (he pins s σ H _ I h) fun u s1 ⟨x,H1,I1,rx,a,C,dx,fs,v,ex,ea,c,n,l,q⟩ => ?_)
  subst ex
  obtain rfl:u = Value.ref a:=rx
  exact getattr_ok I1 ea c n l fun u' s2 I2 ru => ⟨v,H1,I2,ru,q⟩
theorem ps_fld (ha:PE X o ta) (hv:PE X value tv) (hs:swapsWith value (some (.Attribute o f pos')) pos.line X.env = pure false):PS X (.Assign [.Attribute o f pos'] value pos) (sFld X.K ta tv f):=by
  intro pins s σ H D I h
  refine plainObj_wpAny_Assign_Attribute (thn (hv pins s σ H _ I h) fun u s1 ⟨y,H1,I1,ry,q⟩ => thn (ha pins s1 σ H1 _ I1 q) fun ov s2 ⟨x,H2,I2,rx,a,C,dx,fs,ex,ea,c,n,l,q2⟩ => ?_) hs
  subst ex
  obtain rfl:ov = Value.ref a:=rx
  exact setattr_ok I2 ea c n l ry fun s3 I3 => ⟨σ,_,I3,q2⟩
end
section
variable {X:Cx} {pins:List (Addr × Obj)} {σ:St} {H:Hp} {s:Shared} {A:Around} {E:Value -> Shared -> Prop} {Q:Value -> Shared -> Prop} {c:Value} {b:Bool}
inductive TyOf (K:W.Frag) (H:Hp):V -> Value -> Prop where
  | non:TyOf K H .non (.type "NoneType")
  | bl (x:Bool):TyOf K H (.bl x) (.type "bool")
  | int (i:Int):TyOf K H (.int i) (.type "int")
  | str (x:Str):TyOf K H (.str x) (.type "str")
  | flt (x:UInt64):TyOf K H (.flt x) (.type "float")
  | lst {a:Addr} {xs:List V} (e:H a = some (.lst xs)):TyOf K H (.ref a) (.type "list")
  | frz {a:Addr} {o:Obj} {xs:List V} (e:H a = some (.frz o (.lst xs))):TyOf K H (.ref a) (.type "list")
  | tup {a:Addr} {xs:List V} (e:H a = some (.tup xs)):TyOf K H (.ref a) (.type "tuple")
  | dK {a:Addr} {kvs:List (Key × V)} (e:H a = some (.dK kvs)):TyOf K H (.ref a) (.type "dict")
  | dT {a:Addr} {ep:Nat} {kvs:List (List Key × V)} (e:H a = some (.dT ep kvs)):TyOf K H (.ref a) (.type "dict")
  | ins {a C dx:Addr} {fs:List (Str × V)} (e:H a = some (.ins C dx fs)) (cl:Cls K C) (ha:W.findIn K (.ref C) "__class__" = some (some (.builtin "object.__class__")))
      (hn:W.specialIn K (.builtin "object.__class__") "__get__" = some (some (.builtin "getset_descriptor.__get__"))) (htk:W.takesIn K (.builtin "object.__class__") = some true)
      (hm:W.mroIn K C (.type "object") = some true):TyOf K H (.ref a) (.ref C)
theorem isinst_ok {x:V} {u t:Value} (I:Inv X pins σ H s) (rx:RelV x u) (ty:TyOf X.K H x t) (e:W.kitOne X.K t c = some b) (h:∀ tk,Q (.bool b) { s with toks:=tk }):
    wpAny (model X.prog X.w) A (call (.builtin "isinstance") [u,c]) Q E s:=by
  cases ty with
  | non => cases (show u = Value.none from rx); exact W.kia_one W.kitx_none I.kIn True.intro e (fun z => nomatch z) h
  | bl y => cases (show u = Value.bool y from rx); exact W.kia_one W.kitx_bool I.kIn True.intro e (fun z => nomatch z) h
  | int i => obtain ⟨t,q⟩:=(show ∃ t,u = Value.int i t from rx); cases q; exact W.kia_one W.kitx_int I.kIn True.intro e (fun z => nomatch z) h
  | str y => obtain ⟨t,q⟩:=(show ∃ t,u = Value.str y t from rx); cases q; exact W.kia_one W.kitx_str I.kIn True.intro e (fun z => nomatch z) h
  | flt y => obtain ⟨t,q⟩:=(show ∃ t,u = Value.float y t from rx); cases q; exact W.kia_one W.kitx_float I.kIn True.intro e (fun z => nomatch z) h
  | @lst a xs ea =>
    cases (show u = Value.ref a from rx)
    obtain ⟨_,_,n,_,h1⟩:=(show ObjOk X.prog X.w H s.heap a (.lst xs) from I.hok a _ ea)
    exact W.kia_one W.kitx_list I.kIn ⟨_,h1,rfl⟩ e (fun z => nomatch z) h
  | @frz a ob xs ea =>
    cases (show u = Value.ref a from rx)
    obtain ⟨_,_,_,n,_,h1⟩:=(show ObjOk X.prog X.w H s.heap a (.frz ob (.lst xs)) from I.hok a _ ea)
    exact W.kia_one W.kitx_list I.kIn ⟨_,h1,rfl⟩ e (fun z => nomatch z) h
  | @tup a xs ea =>
    cases (show u = Value.ref a from rx)
    obtain ⟨_,_,_,p⟩:=(show ObjOk X.prog X.w H s.heap a (.tup xs) from I.hok a _ ea)
    obtain ⟨o,h1,h2,_⟩:=p
    exact W.kia_one W.kitx_tuple I.kIn ⟨o,h1,h2⟩ e (fun z => nomatch z) h
  | @dK a kvs ea =>
    cases (show u = Value.ref a from rx)
    obtain ⟨_,_,vs,_,p⟩:=(show ObjOk X.prog X.w H s.heap a (.dK kvs) from I.hok a _ ea)
    obtain ⟨o,es,ep,h1,h2,_⟩:=p
    exact W.kia_one W.kitx_dict I.kIn ⟨o,h1,h2.1⟩ e (fun z => nomatch z) h
  | @dT a ep kvs ea =>
    cases (show u = Value.ref a from rx)
    obtain ⟨_,_,xs,_,o,es,h1,h2,_⟩:=(show ObjOk X.prog X.w H s.heap a (.dT ep kvs) from I.hok a _ ea)
    exact W.kia_one W.kitx_dict I.kIn ⟨o,h1,h2.1⟩ e (fun z => nomatch z) h
  | @ins a C dx fs ea cl ha hn htk hm =>
    cases (show u = Value.ref a from rx)
    obtain ⟨mA,O,_⟩:=ins_get I.hok ea
    obtain ⟨od,J,_⟩:=O.look
    exact W.kia_one (W.kitx_own (cl.get _) cl.hd ha hn htk hm) I.kIn J e (fun z => nomatch z) h
end
end L2
namespace L2
open PySem PySem.Spec PyProof.Rows
structure Room (k:Nat) (A:Around):Prop where
  hd:A.handled = none
  dp:A.depth + 3 * k + 5 < recursionLimit
  un:A.units + 16 * k + 200 < cLine
theorem Room.mono {j k:Nat} {A:Around} (r:Room k A) (h:j <= k):Room j A:=⟨r.hd,by have:=r.dp; ac_rfl,by have:=r.un; ac_rfl⟩
theorem Room.deeper {k:Nat} {A:Around} (r:Room (k + 1) A) (env:Env):Room k (A.deeper env):=
  ⟨r.hd,by have:=r.dp; show A.depth + 1 + 3 * k + 5 < _; ac_rfl,by have:=r.un; show A.units + 3 + 16 * k + 200 < _; ac_rfl⟩
theorem make_depth {A:Around} {C:Addr} {us:List Value} {kw:List (Str × Value)}:(A.under (.builtin "type.__call__" ⟨.ref C :: us,kw⟩)).depth = A.depth + 1:=by
  first | rfl | simp [Around.under,Code.weight,Code.isCreation,Code.isGuard,Code.isCaller,Code.frames,Code.isFrame,guardIds]
theorem make_units {A:Around} {C:Addr} {us:List Value} {kw:List (Str × Value)}:(A.under (.builtin "type.__call__" ⟨.ref C :: us,kw⟩)).units = A.units + 1:=by
  first | rfl | simp [Around.under,Code.cUnits,Code.frames,Code.isFrame]
theorem Room.make {k:Nat} {A:Around} (r:Room (k + 1) A) (C:Addr) (us:List Value) (kw:List (Str × Value)):Room k (A.under (.builtin "type.__call__" ⟨.ref C :: us,kw⟩)):=
  ⟨r.hd,by have:=r.dp; rw [make_depth]; ac_rfl,by have:=r.un; rw [make_units]; ac_rfl⟩
theorem Room.depth {k:Nat} {A:Around} (r:Room k A):A.depth < recursionLimit:=by have:=r.dp; ac_rfl
theorem Room.units {k:Nat} {A:Around} (r:Room k A):A.units + 64 < cLine:=by have:=r.un; ac_rfl
def tNil:TA:=fun _ H Q => Q [] H
def tCons (ta:TE) (tr:TA):TA:=fun σ H Q => ta σ H fun x H1 => tr σ H1 fun xs H2 => Q (x :: xs) H2
section
variable {X:Cx} {e:Expr} {es:List Expr} {te:TE} {t:TA} {pos:Pos}
theorem pa_nil:PA X [] tNil:=fun _ _ _ _ H Q I h => Calls.spliced_nil ⟨[],H,I,.nil,h⟩
theorem pa_cons (ha:PE X e te) (hr:PA X es t) (hs:starEach (e :: es) X.env = (false,eval e X.env) :: starEach es X.env:=by rfl):PA X (e :: es) (tCons te t):=by
  intro pos pins s σ H Q I h
  rw [hs]
  show wpAny _ _ (spliced ((false,eval e X.env) :: backTo pos (starEach es X.env))) _ _ s
  refine Calls.spliced_cons (thn (ha pins s σ H _ I h) fun u s1 ⟨x,H1,I1,r1,q1⟩ => ?_)
  exact thn (hr pos pins s1 σ H1 _ I1 q1) fun us s2 ⟨xs,H2,I2,r2,q2⟩ => ⟨x :: xs,H2,I2,.cons r1 r2,q2⟩
def tTup (t:TA):TE:=fun σ H Q => t σ H fun xs H1 => xs.length <= sizeLine /\ ∀ p,H1 p = none -> Q (.ref p) (upd H1 p (.tup xs))
def tLst (t:TA):TE:=fun σ H Q => t σ H fun xs H1 => xs.length <= sizeLine /\ ∀ p,H1 p = none -> Q (.ref p) (upd H1 p (.lst xs))
theorem pe_tup {x1} (h:PA X es t):PE X (.Tuple es x1 pos) (tTup t):=by
  intro pins s σ H Q I hq
  refine wpAny_Tuple_spliced (thn (h pos pins s σ H _ I hq) fun us s1 ⟨xs,H1,I1,r,z,q⟩ => ⟨by rw [<- r.length]; exact z,?_⟩)
  have hf:H1 s1.heap.objs.size = none:=I1.hok.fresh (Nat.le_refl _)
  refine ⟨.ref s1.heap.objs.size,upd H1 s1.heap.objs.size (.tup xs),I1.laid (t':=s1.toks) (fun b u e => Heap.get?_push_of_some _ e) (Nat.le_refl _) ?_,rfl,q _ hf⟩
  exact ⟨z,us,r,⟨_,Heap.get?_push_size _ rfl,rfl,_,rfl⟩⟩
theorem pe_lst (h:PA X es t):PE X (.List es pos) (tLst t):=by
  intro pins s σ H Q I hq
  refine wpAny_List_spliced (thn (h pos pins s σ H _ I hq) fun us s1 ⟨xs,H1,I1,r,z,q⟩ => ⟨by rw [<- r.length]; exact z,?_⟩)
  have hf:H1 s1.heap.objs.size = none:=I1.hok.fresh (Nat.le_refl _)
  refine ⟨.ref s1.heap.objs.size,upd H1 s1.heap.objs.size (.lst xs),I1.laid (t':=s1.toks) (fun b u e => Heap.get?_push_of_some _ e) (Nat.le_refl _) ?_,rfl,q _ hf⟩
  exact ⟨z,us,0,r,Heap.get?_push_size _ rfl⟩
end
abbrev Sp:=List V -> Hp -> VK -> XK -> Prop
abbrev CXT:=List Env -> Hp -> Shared -> XK -> Value -> Shared -> Prop
structure Env0 (P:Program) (w:World) (K:W.Frag) (mg:Str -> Option Value) (base:Heap) (A:Around) (outer:List Env) (s:Shared) (H:Hp):Prop where
  frames:A.frames = some outer
  mod:Mod K mg base
  bs:∀ b o,base.get? b = some o -> s.heap.get? b = some o /\ H b = none
  bsz:base.objs.size <= s.heap.objs.size
  funs:s.heap.FunFrames base outer
  frf:∀ b ∈ frs outer,H b = none
  hok:HOk P w H s.heap
  bare:AllBare s.gens
def CE (outer:List Env) (P:Program) (w:World) (H:Hp) (s:Shared) (Q:VK) (u:Value) (s':Shared):Prop:=
  ∃ v H',s'.os = s.os /\ AllBare s'.gens /\ Un (frs outer) [] H H' s.heap s'.heap /\ HOk P w H' s'.heap /\ RelV v u /\ Q v H'
def CR (CX:CXT) (outer:List Env) (P:Program) (w:World) (H:Hp) (s:Shared) (Q:VK) (E:XK) (r:Result) (s':Shared):Prop:=
  match r with
  | .ok (.ret u) => CE outer P w H s Q u s'
  | .ok _ => False
  | .error e => CX outer H s E e s'
structure FnOk (P:Program) (w:World) (K:W.Frag) (mg:Str -> Option Value) (base:Heap) (CX:CXT) (k:Nat) (f:Addr) (fd:FuncData) (ps:List Str) (sp:Sp):Prop where
  len:∀ vs H Q E,sp vs H Q E -> vs.length = ps.length
  run:∀ (A:Around) (outer:List Env) (s:Shared) (H:Hp) (args:Args) (us:List Value) (vs:List V) (Q:VK) (E:XK),Room k A -> Env0 P w K mg base A outer s H -> BindsTo s fd args (ps.zip us) -> Vals vs us -> sp vs H Q E ->
    codeAny (model P w) A (.call (.ref f) args) (CR CX outer P w H s Q E) s
theorem Env0.make {P:Program} {w:World} {K:W.Frag} {mg:Str -> Option Value} {base:Heap} {A:Around} {outer:List Env} {s:Shared} {H:Hp} (e:Env0 P w K mg base A outer s H) (C:Addr) (us:List Value) (kw:List (Str × Value)):
    Env0 P w K mg base (A.under (.builtin "type.__call__" ⟨.ref C :: us,kw⟩)) outer s H:=⟨by first | exact e.frames | (simpa [Around.under,Code.envs,Code.isFrame,pushEnvs] using e.frames),e.mod,e.bs,e.bsz,e.funs,e.frf,e.hok,e.bare⟩
section
variable {X:Cx} {pins:List (Addr × Obj)} {σ:St} {H:Hp} {s s':Shared}
theorem Inv.env0 (I:Inv X pins σ H s):Env0 X.prog X.w X.K X.mg X.base X.A X.stack s H:=
  ⟨I.ok.frames,I.ok.mod,I.bs,Nat.le_trans I.ok.bsz I.sz,I.stack,I.stkFree,I.hok,I.bare⟩
theorem Inv.after {Q:VK} {u:Value} (I:Inv X pins σ H s) (h:CE X.stack X.prog X.w H s Q u s'):EP X pins σ Q u s':=by
  obtain ⟨v,H',os,bare,un,hok,r,q⟩:=h
  obtain ⟨hh,g,d,t,os'⟩:=s'
  obtain rfl:os' = s.os:=os
  exact ⟨v,H',I.call (h':=hh) (g':=g) (d':=d) (t':=t) (ch:=[]) un hok bare (fun b z => absurd z (by simp)),r,q⟩
end
def tCall (sp:Sp) (dvs:List V) (E:XK) (t:TA):TE:=fun σ H Q => t σ H fun vs H1 => sp (vs ++ dvs) H1 Q E
def tMeth (C:Addr) (m:Str) (sp:Sp) (dvs:List V) (E:XK) (ta:TE) (t:TA):TE:=fun σ H Q => ta σ H fun x H1 => ∃ a dx fs,x = .ref a /\ H1 a = some (.ins C dx fs) /\ fs.lookup m = none /\
  t σ H1 fun vs H2 => sp (x :: (vs ++ dvs)) H2 Q E
def tMake (C:Addr) (sp:Sp) (dvs:List V) (E:XK) (t:TA):TE:=fun σ H Q => t σ H fun vs H1 => ∀ x dx,H1 x = none -> H1 dx = none -> dx ≠ x ->
  sp (.ref x :: (vs ++ dvs)) (upd (upd H1 dx (.own x)) x (.ins C dx [])) (fun v H2 => v = .non /\ Q (.ref x) H2) E
def Binds (K:W.Frag) (fd:FuncData) (ps:List Str) (ds:List Value):Prop:=
  ∀ (s:Shared) (us:List Value),K.In s.heap -> (us ++ ds).length = ps.length -> BindsTo s fd ⟨us,[]⟩ (ps.zip (us ++ ds))
theorem Binds.all {K:W.Frag} {fd:FuncData} {ps:List Str} (h:∀ us:List Value,us.length = ps.length -> bindArgs fd ⟨us,[]⟩ = pure (ps.zip us)):Binds K fd ps []:=fun s us _ hl => by
  rw [List.append_nil] at hl ⊢
  exact .of_eq (h us hl)
def Passes (CX:CXT) (X:Cx) (E:XK):Prop:=∀ (pins:List (Addr × Obj)) (σ:St) (H:Hp) (s:Shared) (e:Value) (s':Shared),Inv X pins σ H s -> CX X.stack H s E e s' -> X.xe e s'
section
variable {X:Cx} {CX:CXT} {k:Nat} {f C:Addr} {fd:FuncData} {ps:List Str} {sp:Sp} {dvs:List V} {ds:List Value} {E:XK} {x m:Str} {p pos apos:Pos} {e o:Expr} {es:List Expr} {ta:TE} {t:TA}
theorem run_fn {pins:List (Addr × Obj)} {σ:St} {H:Hp} {s:Shared} {Q:VK} {us:List Value} {vs:List V} (F:FnOk X.prog X.w X.K X.mg X.base CX k f fd ps sp) (hr:Room k X.A) (hb:Binds X.K fd ps ds) (hd:Vals dvs ds) (hx:Passes CX X E)
    (I:Inv X pins σ H s) (r:Vals vs us) (h:sp (vs ++ dvs) H Q E):wpAny (model X.prog X.w) X.A (call (.ref f) us) (EP X pins σ Q) X.xe s:=by
  have r2:Vals (vs ++ dvs) (us ++ ds):=r.append hd
  have hl:(us ++ ds).length = ps.length:=by rw [<- r2.length]; exact F.len _ _ _ _ h
  refine wpAny_call (codeAny_mono (F.run X.A X.stack s H ⟨us,[]⟩ (us ++ ds) (vs ++ dvs) Q E hr I.env0 (hb s us I.kIn hl) r2 h) fun r s' hq => ?_)
  cases r with
  | error e => exact hx pins σ H s e s' I hq
  | ok fl =>
    cases fl with
    | ret u => exact I.after hq
    | next => exact False.elim hq
    | brk => exact False.elim hq
    | cont => exact False.elim hq
theorem pe_call (F:FnOk X.prog X.w X.K X.mg X.base CX k f fd ps sp) (hr:Room k X.A) (hg:Gl X x) (hm:X.mg x = some (.ref f)) (hk:W.keepIn X.K (.ref f) = true) (hb:Binds X.K fd ps ds) (hd:Vals dvs ds) (hx:Passes CX X E)
    (ha:PA X (e :: es) t) (hdb:(x == ("__debug__" : Str)) = false:=by decide) (he:starEach (e :: es) X.env = (false,eval e X.env) :: starEach es X.env:=by rfl) (hpl:(backTo pos (starEach es X.env)).any (·.1) = false:=by rfl):
    PE X (.Call (.Name x p) (e :: es) [] pos) (tCall sp dvs E t):=by
  intro pins s σ H Q I h
  refine wpAny_Call_Name_kw (ld_glob I hg hm ?_ hdb)
  refine W.callWith_K (h₀:=X.base) I.ok.mod.kin hk (thn (ha pos pins s σ H _ I h) fun us s1 ⟨vs,H1,I1,r,q⟩ => ⟨I1.kIn,?_⟩) he hpl
  exact run_fn F hr hb hd hx I1 r q
theorem pe_meth {pl:Sem Bool} (he:PE X o ta) (c:Cls X.K C) (hm:Meth X.K C m f) (F:FnOk X.prog X.w X.K X.mg X.base CX k f fd ps sp) (hr:Room k X.A) (hb:Binds X.K fd ps ds) (hd:Vals dvs ds) (hx:Passes CX X E) (ha:PA X (e :: es) t)
    (hst:starEach (e :: es) X.env = (false,eval e X.env) :: starEach es X.env:=by rfl) (hpl:(backTo pos (starEach es X.env)).any (·.1) = false:=by rfl)
    (ht:eval (.Call (.Attribute o m apos) (e :: es) [] pos) X.env = (do
      let ov <- eval o X.env
      standAt apos.atName
      let (f,first) <- holding [ov] (getMethod ov m pl)
      callWith pos f first (backTo pos (starEach (e :: es) X.env)) (backToKw pos (keywordEach [] X.env))):=by rfl):
    PE X (.Call (.Attribute o m apos) (e :: es) [] pos) (tMeth C m sp dvs E ta t):=by
  intro pins s σ H Q I h
  refine W.methodCall_KW (pl:=pl) (thn (he pins s σ H _ I h) fun u s1 ⟨x,H1,I1,rx,a,dx,fs,ex,ea,l,q⟩ => ?_) ht
  subst ex
  obtain rfl:u = Value.ref a:=rx
  refine getmeth_ok I1 ea c hm l ?_
  refine W.callWith_K (first:=[.ref a]) (h₀:=X.base) I.ok.mod.kin hm.kp (thn (ha pos pins s1 σ H1 _ I1 q) fun us s2 ⟨vs,H2,I2,r,q2⟩ => ⟨I2.kIn,?_⟩) hst hpl
  exact run_fn (us:=.ref a :: us) (vs:=.ref a :: vs) F hr hb hd hx I2 (.cons rfl r) q2
theorem pe_meth0 {pl:Sem Bool} (he:PE X o ta) (c:Cls X.K C) (hm:Meth X.K C m f) (F:FnOk X.prog X.w X.K X.mg X.base CX k f fd ps sp) (hr:Room k X.A) (hb:Binds X.K fd ps ds) (hd:Vals dvs ds) (hx:Passes CX X E)
    (ht:eval (.Call (.Attribute o m apos) [] [] pos) X.env = (do
      let ov <- eval o X.env
      standAt apos.atName
      let (f,first) <- holding [ov] (getMethod ov m pl)
      callWith pos f first (backTo pos (starEach [] X.env)) (backToKw pos (keywordEach [] X.env))):=by rfl):
    PE X (.Call (.Attribute o m apos) [] [] pos) (tMeth C m sp dvs E ta tNil):=by
  intro pins s σ H Q I h
  refine W.methodCall_KW (pl:=pl) (thn (he pins s σ H _ I h) fun u s1 ⟨x,H1,I1,rx,a,dx,fs,ex,ea,l,q⟩ => ?_) ht
  subst ex
  obtain rfl:u = Value.ref a:=rx
  refine getmeth_ok I1 ea c hm l ?_
  exact W.callWith_K0 (first:=[.ref a]) I1.kIn hm.kp (run_fn (us:=[.ref a]) (vs:=[.ref a]) F hr hb hd hx I1 (.cons rfl .nil) q)
structure Mk (K:W.Frag) (C f:Addr):Prop where
  makes:W.makesIn K C = true
  init:W.findIn K (.ref C) "__init__" = some (some (.ref f))
  fn:W.isFn K (.ref f) = true
  kp:W.keepIn K (.ref C) = true
theorem run_make {pins:List (Addr × Obj)} {σ:St} {H:Hp} {s:Shared} {Q:VK} {us:List Value} {vs:List V} (M:Mk X.K C f) (F:FnOk X.prog X.w X.K X.mg X.base CX k f fd ps sp) (hr:Room (k + 1) X.A) (hb:Binds X.K fd ps ds) (hd:Vals dvs ds)
    (hx:Passes CX X E) (I:Inv X pins σ H s) (r:Vals vs us)
    (h:∀ x dx,H x = none -> H dx = none -> dx ≠ x -> sp (.ref x :: (vs ++ dvs)) (upd (upd H dx (.own x)) x (.ins C dx [])) (fun v H2 => v = .non /\ Q (.ref x) H2) E):
    wpAny (model X.prog X.w) X.A (call (.ref C) us) (EP X pins σ Q) X.xe s:=by
  have hq:=h (s.heap.objs.size + 1) s.heap.objs.size (I.hok.fresh (Nat.le_succ _)) (I.hok.fresh (Nat.le_refl _)) (Nat.ne_of_lt (Nat.lt_succ_self _))
  have I2:=Inv.made (C:=C) I
  have r2:Vals (V.ref (s.heap.objs.size + 1) :: (vs ++ dvs)) (Value.ref (s.heap.objs.size + 1) :: (us ++ ds)):=.cons rfl (r.append hd)
  have hl:(Value.ref (s.heap.objs.size + 1) :: us ++ ds).length = ps.length:=by
    have e:=r2.length
    rw [F.len _ _ _ _ hq] at e
    exact e.symm
  refine wpAny_call (make_map (f:=f) I.kIn M.makes M.init (beq_iff_eq.mp M.fn) (codeAny_mono (F.run _ X.stack _ _ ⟨Value.ref (s.heap.objs.size + 1) :: us,[]⟩ (Value.ref (s.heap.objs.size + 1) :: (us ++ ds)) _ _ E (hr.make C us [])
    (I2.env0.make C us []) (hb _ (Value.ref (s.heap.objs.size + 1) :: us) I2.kIn hl) r2 hq) fun r s' hq' => ?_))
  cases r with
  | error e => exact hx pins σ _ _ e s' I2 hq'
  | ok fl =>
    cases fl with
    | ret u =>
      obtain ⟨v,H',I3,rv,ev,q3⟩:=I2.after hq'
      subst ev
      exact ⟨rv,⟨V.ref (s.heap.objs.size + 1),H',I3,rfl,q3⟩⟩
    | next => exact False.elim hq'
    | brk => exact False.elim hq'
    | cont => exact False.elim hq'
theorem pe_make (M:Mk X.K C f) (F:FnOk X.prog X.w X.K X.mg X.base CX k f fd ps sp) (hr:Room (k + 1) X.A) (hg:Gl X x) (hm:X.mg x = some (.ref C)) (hb:Binds X.K fd ps ds) (hd:Vals dvs ds) (hx:Passes CX X E)
    (ha:PA X (e :: es) t) (hdb:(x == ("__debug__" : Str)) = false:=by decide) (he:starEach (e :: es) X.env = (false,eval e X.env) :: starEach es X.env:=by rfl) (hpl:(backTo pos (starEach es X.env)).any (·.1) = false:=by rfl):
    PE X (.Call (.Name x p) (e :: es) [] pos) (tMake C sp dvs E t):=by
  intro pins s σ H Q I h
  refine wpAny_Call_Name_kw (ld_glob I hg hm ?_ hdb)
  refine W.callWith_K (h₀:=X.base) I.ok.mod.kin M.kp (thn (ha pos pins s σ H _ I h) fun us s1 ⟨vs,H1,I1,r,q⟩ => ⟨I1.kIn,?_⟩) he hpl
  exact run_make M F hr hb hd hx I1 r q
end
section
variable {X:Cx} {CX:CXT} {k:Nat} {f C:Addr} {fd:FuncData} {ps ks:List Str} {sp:Sp} {E:XK} {x m:Str} {p pos apos kpos:Pos} {e o:Expr} {es:List Expr} {kws:List Keyword} {te ta:TE} {t tk:TA} {nm:Option Str}
variable {g:List Value -> List Value -> List Value} {gV:List V -> List V -> List V}
end
structure FnScope (N P:List Str) (sc:Scope):Prop where
  kind:sc.kind = .function
  co:sc.isCoroutine = false
  gen:sc.isGenerator = false
  nd:N.Nodup
  pre:N.take P.length = P
  par:∀ x ∈ P,sc.names.lookup x = some .local \/ sc.names.lookup x = some .cell
  nofree:∀ y ∈ sc.names,y.2 ≠ .free
theorem bindL_out {kindOf:Str -> Option NameKind} {x:Str}:∀ {binds:List (Str × Value)} {m:Str -> Option Value},(∀ v,(x,v) ∉ binds) -> bindL kindOf binds m x = m x
  | [],_,_ => rfl
  | (n,v) :: r,m,h => by
    unfold bindL
    rw [bindL_out fun w hw => h w (List.mem_cons_of_mem _ hw)]
    split
    . have:x ≠ n:=by rintro rfl; exact h v List.mem_cons_self
      simp [this]
    . rfl
theorem bindC_out {kindOf:Str -> Option NameKind} {x:Str}:∀ {binds:List (Str × Value)} {m:Str -> Option Value},(∀ v,(x,v) ∉ binds) -> bindC kindOf binds m x = m x
  | [],_,_ => rfl
  | (n,v) :: r,m,h => by
    unfold bindC
    rw [bindC_out fun w hw => h w (List.mem_cons_of_mem _ hw)]
    split
    . rfl
    . have:x ≠ n:=by rintro rfl; exact h v List.mem_cons_self
      simp [this]
theorem bindL_get {kindOf:Str -> Option NameKind} {x:Str} {v:Value}:∀ {P:List Str} {vs:List Value} {i:Nat} {m:Str -> Option Value},P.Nodup -> P[i]? = some x -> vs[i]? = some v -> kindOf x = some .local ->
    bindL kindOf (P.zip vs) m x = some v
  | [],_,_,_,_,h,_,_ => by simp at h
  | _ :: _,[],_,_,_,_,h,_ => by simp at h
  | p :: P,w :: vs,0,m,nd,h1,h2,hk => by
    simp at h1 h2; subst h1; subst h2
    show bindL kindOf ((p,w) :: P.zip vs) m p = _
    unfold bindL
    rw [bindL_out fun v hv => (List.nodup_cons.mp nd).1 (List.of_mem_zip hv).1,if_pos hk]
    simp
  | p :: P,w :: vs,i + 1,m,nd,h1,h2,hk => by
    show bindL kindOf ((p,w) :: P.zip vs) m x = _
    unfold bindL
    exact bindL_get (i:=i) (List.nodup_cons.mp nd).2 (by simpa using h1) (by simpa using h2) hk
theorem bindC_get {kindOf:Str -> Option NameKind} {x:Str} {v:Value}:∀ {P:List Str} {vs:List Value} {i:Nat} {m:Str -> Option Value},P.Nodup -> P[i]? = some x -> vs[i]? = some v -> kindOf x ≠ some .local ->
    bindC kindOf (P.zip vs) m x = some v
  | [],_,_,_,_,h,_,_ => by simp at h
  | _ :: _,[],_,_,_,_,h,_ => by simp at h
  | p :: P,w :: vs,0,m,nd,h1,h2,hk => by
    simp at h1 h2; subst h1; subst h2
    show bindC kindOf ((p,w) :: P.zip vs) m p = _
    unfold bindC
    rw [bindC_out fun v hv => (List.nodup_cons.mp nd).1 (List.of_mem_zip hv).1,if_neg hk]
    simp
  | p :: P,w :: vs,i + 1,m,nd,h1,h2,hk => by
    show bindC kindOf ((p,w) :: P.zip vs) m x = _
    unfold bindC
    exact bindC_get (i:=i) (List.nodup_cons.mp nd).2 (by simpa using h1) (by simpa using h2) hk
noncomputable def start (N:List Str) (vs:List V):St:=vs.map some ++ List.replicate (N.length - vs.length) none
noncomputable def hsOf (A:Around):List Addr:=match A.handled with
  | some (.ref a) => [a]
  | _ => []
theorem hsOf_none {A:Around} (h:A.handled = none):hsOf A = []:=by
  unfold hsOf
  rw [h]
noncomputable def cxOf (CX:CXT) (P:Program) (w:World) (K:W.Frag) (mg:Str -> Option Value) (base:Heap) (N:List Str) (qual:Str) (scope:Scope) (f:Addr) (cd:Value) (A:Around) (outer:List Env) (s:Shared) (H:Hp) (E:XK):Cx where
  prog:=P
  w:=w
  K:=K
  mg:=mg
  base:=base
  A:=A.deeper (envOfC qual scope s.heap.objs.size f cd)
  N:=N
  s₀:=s
  HZ:=H
  env:=envOfC qual scope s.heap.objs.size f cd
  outer:=outer
  stack:=envOfC qual scope s.heap.objs.size f cd :: outer
  ex:=[]
  calm:=true
  fn:=fun _ => true
  pn:=[]
  hs:=hsOf A
  xe:=fun e s' => wpAny (model P w) (A.deeper (envOfC qual scope s.heap.objs.size f cd)) (leaving (envOfC qual scope s.heap.objs.size f cd) e) (fun _ s'' => CX outer H s E e s'') (fun e' s'' => CX outer H s E e' s'') s'
theorem cell_has {sc:Scope} {n:Nat} {x:Str} (h:sc.names.lookup x = some .cell):∃ c,(cellsFrom n sc.names []).lookup x = some c:=by
  have q:=W.cellsFrom_some sc.names n [] (.inl h)
  exact Option.isSome_iff_exists.mp q
theorem inv_start {CX:CXT} {P:Program} {w:World} {K:W.Frag} {mg:Str -> Option Value} {base:Heap} {N ps:List Str} {qual:Str} {scope:Scope} {f:Addr} {cd:Value} {A:Around} {outer:List Env} {s s1:Shared} {H:Hp} {E:XK} {us:List Value} {vs:List V}
    (S:FnScope N ps scope) (hd:A.handled = none) (e0:Env0 P w K mg base A outer s H) (hl:vs.length = ps.length) (r:Vals vs us)
    (x:InCallC s s.heap.objs.size (bindL (envOfC qual scope s.heap.objs.size f cd).kindOf (ps.zip us) fun _ => none) (cellsFrom (s.heap.objs.size + 1) scope.names []) (bindC (envOfC qual scope s.heap.objs.size f cd).kindOf (ps.zip us) fun _ => none) s1):
    Inv (cxOf CX P w K mg base N qual scope f cd A outer s H E) [] (start N vs) H s1:=by
  have hpl:ps.length <= N.length:=by have:=congrArg List.length S.pre; rw [List.length_take] at this; ac_rfl
  obtain ⟨h1,tk,rfl,hk⟩:=x.done
  have noA:∀ b:Addr,b ∉ (cxOf CX P w K mg base N qual scope f cd A outer s H E).ex:=fun b z => absurd (show b ∈ ([]:List Addr) from z) (by simp)
  refine ⟨⟨e0.mod,S.kind,rfl,rfl,Nat.le_refl _,fun y z c h1 h2 => ?_,fun y hy => ?_,fun y c _ h => ?_,fun _ => hd,Around.frames_deeper e0.frames,.inr ⟨rfl,rfl⟩,fun b z => absurd z (noA b),e0.bs,e0.bsz,fun b _ _ => noA b,fun b z => absurd z (noA b),e0.funs,e0.frf,.inl hd⟩,
    rfl,e0.bare,Un.kept hk,⟨_,x.toInCall.ns,fun i y v h1 h2 h3 => ?_⟩,fun y c h => ⟨_,x.cell y c h⟩,e0.hok.fresh (Nat.le_refl _),fun y c h => ?_,fun p hp => absurd (show p ∈ ([]:List (Addr × Obj)) from hp) (by simp),e0.hok.kept hk,?_,fun a ha => absurd (show a ∈ hsOf A from ha) (by rw [hsOf_none hd]; simp)⟩
  . exact name_of_addr x.apart (PySem.mem_of_lookup h1) (PySem.mem_of_lookup h2)
  . have hy:scope.names.lookup y = some .cell \/ scope.names.lookup y = some .free:=hy
    rcases hy with hy | hy
    . exact cell_has hy
    . exact absurd rfl (S.nofree _ (PySem.mem_of_lookup hy))
  . exact Nat.le_of_lt (x.above y c (PySem.mem_of_lookup h))
  . have hi:i < vs.length:=by
      unfold start at h2
      by_cases hi:i < vs.length
      . exact hi
      . rw [List.getElem?_append_right (by simpa using hi)] at h2
        rw [List.getElem?_replicate] at h2
        split at h2 <;> cases h2
    have ha:vs[i]? = some v:=by
      unfold start at h2
      rw [List.getElem?_append_left (by simpa using hi),List.getElem?_map] at h2
      cases e:vs[i]? with
      | none => rw [e] at h2; cases h2
      | some a => rw [e] at h2; cases h2; rfl
    obtain ⟨u,hu,rv⟩:=r.get ha
    have hp:ps[i]? = some y:=by
      rw [<- S.pre,List.getElem?_take_of_lt (by ac_rfl)]; exact h1
    have ndP:ps.Nodup:=by rw [<- S.pre]; exact S.nd.sublist (List.take_sublist _ _)
    refine ⟨u,rv,?_⟩
    rcases S.par y (List.mem_of_getElem? hp) with k | k
    . exact .inl ⟨k,bindL_get ndP hp hu k⟩
    . obtain ⟨c,e⟩:=cell_has (n:=s.heap.objs.size + 1) k
      refine .inr ⟨.inl k,c,e,?_⟩
      have q:=x.cell y c e
      rw [bindC_get ndP hp hu (by show scope.names.lookup y ≠ _; rw [k]; decide)] at q
      exact q
  . exact e0.hok.fresh (Nat.le_of_lt (x.above y c (PySem.mem_of_lookup h)))
  . unfold start
    show _ = N.length
    rw [List.length_append,List.length_map,List.length_replicate]
    ac_rfl
theorem fn_of {CX:CXT} {P:Program} {w:World} {K:W.Frag} {mg:Str -> Option Value} {base:Heap} {k:Nat} {f:Addr} {name qual:Str} {params:Arguments} {body:List Stmt} {scope:Scope} {dV kV doc pm cdv ct oc:Value} {an od:Option Addr}
    {osl:Array (Option Value)} {N ps:List Str} {sp:Sp} (lk:K.lookup f = some ⟨oc,od,.func (W.fnOf name qual params body scope dV kV doc pm an cdv ct),osl⟩) (hcd:W.codeIn K cdv qual = true) (S:FnScope N ps scope)
    (len:∀ vs H Q E,sp vs H Q E -> vs.length = ps.length)
    (hbody:∀ (A:Around) (outer:List Env) (s:Shared) (H:Hp) (vs:List V) (Q:VK) (E:XK),Room k (A.deeper (envOfC qual scope s.heap.objs.size f cdv)) -> sp vs H Q E ->
      ∃ t,PSs (cxOf CX P w K mg base N qual scope f cdv A outer s H E) body t /\ t { nx:=fun _ H' => Q .non H',rt:=Q } (start N vs) H):
    FnOk P w K mg base CX (k + 1) f (W.fnOf name qual params body scope dV kV doc pm an cdv ct) ps sp:=by
  refine ⟨len,fun A outer s H args us vs Q E hr e0 hb r hsp => ?_⟩
  have hl:=len _ _ _ _ hsp
  have KX:K.In s.heap:=e0.mod.kin.keeps fun b o e => (e0.bs b o e).1
  have lim:s.heap.NoLimit:=e0.mod.nolimit.keeps fun b o e => (e0.bs b o e).1
  have hkind:∀ y ∈ ps.zip us,scope.names.lookup y.1 = some .local \/ (scope.names.lookup y.1 = some .cell /\ ((cellsFrom (s.heap.objs.size + 1) scope.names []).lookup y.1).isSome = true):=fun ⟨n,v⟩ hy => by
    rcases S.par n (List.of_mem_zip hy).1 with q | q
    . exact .inl q
    . exact .inr ⟨q,W.cellsFrom_some _ _ _ (.inl q)⟩
  refine codeAny_call_function hr.depth (KX _ _ lk) rfl S.co S.gen rfl (W.codeRec_of KX hcd) (hb _ _ _ _ ?_)
  refine wpAny_newFunctionEnv_cells S.kind hkind fun env he s1 x => ?_
  subst he
  refine ⟨lim.keeps x.toInCall.keep,codeAny_func ?_⟩
  obtain ⟨t,ht,hq⟩:=hbody A outer s H vs Q E (hr.deeper _) hsp
  have I:Inv (cxOf CX P w K mg base N qual scope f cdv A outer s H E) [] (start N vs) H s1:=inv_start S hr.hd e0 hl r x
  refine wpAny_mono (ht [] s1 (start N vs) H _ I hq) (fun fl s' hs => ?_) fun e s' hs => hs
  have fin:∀ {σ':St} {H':Hp} {v:V} {u:Value},Inv (cxOf CX P w K mg base N qual scope f cdv A outer s H E) [] σ' H' s' -> RelV v u -> Q v H' -> CE outer P w H s Q u s':=
    fun {σ' H' v u} J rv q => ⟨v,H',J.os,J.bare,J.base,J.hok,rv,q⟩
  cases fl with
  | ret u =>
    obtain ⟨v,σ',H',J,rv,q⟩:=hs
    exact fin J rv q
  | next =>
    obtain ⟨σ',H',J,q⟩:=hs
    exact fin (v:=V.non) (u:=Value.none) J rfl q
  | brk =>
    obtain ⟨_,_,_,q⟩:=hs
    exact False.elim q
  | cont =>
    obtain ⟨_,_,_,q⟩:=hs
    exact False.elim q
end L2
namespace L2
open PySem PySem.Spec PyProof.Rows
section
variable {X:Cx} {x:Str} {p pos:Pos} {e:Expr} {es:List Expr} {t:TA} {id T:String} {r:List V -> Hp -> VK -> Prop}
def tCB (r:List V -> Hp -> VK -> Prop) (t:TA):TE:=fun σ H Q => t σ H fun vs H1 => r vs H1 Q
theorem pe_callB (hc:CallR X (.builtin id) r) (hg:Gl X x) (hm:X.mg x = none) (hv:bootBuiltins x = some (.builtin id)) (ha:PA X (e :: es) t) (hn:x ≠ "__name__" := by decide) (hdb:(x == ("__debug__" : Str)) = false:=by decide)
    (he:starEach (e :: es) X.env = (false,eval e X.env) :: starEach es X.env:=by rfl) (hpl:(backTo pos (starEach es X.env)).any (·.1) = false:=by rfl):PE X (.Call (.Name x p) (e :: es) [] pos) (tCB r t):=by
  intro pins s σ H Q I h
  refine wpAny_Call_Name_kw (ld_blt I hg hm hv ?_ hn hdb)
  exact PyProof.Rows.callWith_builtin1 (thn (ha pos pins s σ H _ I h) fun us s1 ⟨vs,H1,I1,r1,q1⟩ => hc pins s1 σ H1 vs us Q I1 r1 q1) he hpl
theorem pe_callTy (hc:CallR X (.type T) r) (hg:Gl X x) (hm:X.mg x = none) (hv:bootBuiltins x = some (.type T)) (ha:PA X (e :: es) t) (hn:x ≠ "__name__" := by decide) (hdb:(x == ("__debug__" : Str)) = false:=by decide)
    (he:starEach (e :: es) X.env = (false,eval e X.env) :: starEach es X.env:=by rfl) (hpl:(backTo pos (starEach es X.env)).any (·.1) = false:=by rfl):PE X (.Call (.Name x p) (e :: es) [] pos) (tCB r t):=by
  intro pins s σ H Q I h
  refine wpAny_Call_Name_kw (ld_blt I hg hm hv ?_ hn hdb)
  exact PyProof.Rows.callWith_type1 (thn (ha pos pins s σ H _ I h) fun us s1 ⟨vs,H1,I1,r1,q1⟩ => hc pins s1 σ H1 vs us Q I1 r1 q1) he hpl
end
end L2
namespace HT
open PySem PyProof.Rows
section
open PySem.SeqAt
open PySem.AutoSeq1 (wpAny_loadPart')
open PySem.MeetsSeq PySem.MeetsSeq2 PySem.MeetsSeq3
end
section
variable {prog:Program} {w:World} {A:Around} {E:Value -> Shared -> Prop} {s:Shared}
noncomputable def sIx (n d:Nat):Option Int -> Nat
  | none => d
  | some v => if v < 0 then (v + (n:Int)).toNat else min v.toNat n
theorem sIx_none (n d:Nat):sIx n d none = d:=rfl
theorem sIx_le (n d:Nat) (hd:d <= n) (o:Option Int):sIx n d o <= n:=by
  cases o with
  | none => exact hd
  | some v =>
    show (if v < 0 then (v + (n:Int)).toNat else min v.toNat n) <= n
    by_cases hv:v < 0
    . rw [if_pos hv]; ac_rfl
    . rw [if_neg hv]; exact Nat.min_le_right _ _
theorem clip_eq (v:Int) (n d:Nat):(if v < 0 then max (v + (n:Int)) 0 else min v (n:Int)) = ((sIx n d (some v):Nat):Int):=by
  show (if v < 0 then max (v + (n:Int)) 0 else min v (n:Int)) = (((if v < 0 then (v + (n:Int)).toNat else min v.toNat n):Nat):Int)
  by_cases hv:v < 0
  . simp only [if_pos hv]; ac_rfl
  . simp only [if_neg hv]; ac_rfl
theorem adjust_gen (lo hi:Option Int) (n:Nat):Builtin.Slice.sliceAdjust lo hi 1 (n:Int) = (((sIx n 0 lo:Nat):Int),((sIx n n hi:Nat):Int)):=by
  have h1:¬ ((1:Int) < 0):=by ac_rfl
  unfold Builtin.Slice.sliceAdjust
  simp only [h1,if_false]
  refine Prod.ext ?_ ?_
  . cases lo with
    | none => rfl
    | some v => exact clip_eq v n 0
  . cases hi with
    | none => rfl
    | some v => exact clip_eq v n n
theorem places_gen (i j:Nat):Builtin.Slice.slicePlaces (i:Int) (j:Int) 1 = j - i:=by
  unfold Builtin.Slice.slicePlaces
  have h1:(1:Int) > 0:=by ac_rfl
  simp only [h1,if_true,Int.ediv_one]
  split <;> ac_rfl
theorem slicePart_ {v:Value} {o:Option Int} {Q:Option Int -> Shared -> Prop} (p:IsPart v o) (h:Q o s):wpAny (model prog w) A (Builtin.Slice.slicePartIndex v) Q E s:=by
  cases p with
  | none => exact slicePart_none h
  | int i t => exact slicePart_int h
theorem sliceApplied_gen {sl:Addr} {vl vu:Value} {lo hi:Option Int} {n:Nat} {Q:Int × Int × Nat -> Shared -> Prop} (hs:s.heap.IsSliceOf sl vl vu .none) (pl:IsPart vl lo) (pu:IsPart vu hi)
    (h:Q (((sIx n 0 lo:Nat):Int),1,sIx n n hi - sIx n 0 lo) s):wpAny (model prog w) A (Builtin.Slice.sliceApplied (.ref sl) (pure (n:Int))) Q E s:=by
  obtain ⟨os,hos,hcs,hds⟩:=id hs
  unfold Builtin.Slice.sliceApplied Builtin.Slice.sliceFields
  refine wpAny_bind (wpAny_bind (wpAny_field hos hds (x:=vl) rfl (wpAny_bind (wpAny_field hos hds (x:=vu) rfl (wpAny_bind (wpAny_field hos hds (x:=.none) rfl (wpAny_pure ?_)))))))
  refine wpAny_bind (slicePart_none ?_)
  show wpAny _ _ (if ((1:Int) == 0) = true then _ else _) _ _ s
  rw [if_neg (by decide)]
  refine wpAny_bind (slicePart_ pl (wpAny_bind (slicePart_ pu (wpAny_bind (wpAny_pure ?_)))))
  show wpAny _ _ (match Builtin.Slice.sliceAdjust lo hi 1 (n:Int) with | (lo,hi) => pure (lo,(1:Int),Builtin.Slice.slicePlaces lo hi 1)) _ _ s
  rw [adjust_gen lo hi n]
  show wpAny _ _ (pure (((sIx n 0 lo:Nat):Int),(1:Int),Builtin.Slice.slicePlaces ((sIx n 0 lo:Nat):Int) ((sIx n n hi:Nat):Int) 1)) _ _ s
  rw [places_gen]
  exact wpAny_pure h
theorem pick_gen (xs:Array Value) (i k:Nat):((List.range k).filterMap fun (m:Nat) => xs[((i:Int) + (m:Int) * 1).toNat]?).toArray = ((xs.toList.drop i).take k).toArray:=by
  have e:(fun (m:Nat) => xs[((i:Int) + (m:Int) * 1).toNat]?) = fun m => xs[i + m]?:=by
    funext m
    have:((i:Int) + (m:Int) * 1).toNat = i + m:=by ac_rfl
    rw [this]
  rw [e]
  have:=pick_run xs i k
  rw [List.filterMap_map] at this
  have e2:((fun x => xs[x]?) ∘ fun x => i + x) = fun m => xs[i + m]?:=rfl
  rw [e2] at this
  rw [this]
theorem getItem_tuple_cut {t sl:Addr} {items:Array Value} {vl vu:Value} {lo hi:Option Int} {Q:Value -> Shared -> Prop} (ht:IsTup s.heap t items) (hs:s.heap.IsSliceOf sl vl vu .none) (pl:IsPart vl lo) (pu:IsPart vu hi)
    (hw:¬ (sIx items.size 0 lo = 0 /\ sIx items.size items.size hi = items.size))
    (h:Q (.ref s.heap.objs.size) { s with heap:=s.heap.push { cls:=.type "tuple",data:=.seq ((items.toList.drop (sIx items.size 0 lo)).take (sIx items.size items.size hi - sIx items.size 0 lo)).toArray } })
    (hsz:items.size <= sizeLine):wpAny (model prog w) A (getItem (.ref t) (.ref sl)) Q E s:=by
  have htake:sizeOk (.seq ((items.toList.drop (sIx items.size 0 lo)).take (sIx items.size items.size hi - sIx items.size 0 lo)).toArray):=by
    show ((items.toList.drop (sIx items.size 0 lo)).take (sIx items.size items.size hi - sIx items.size 0 lo)).toArray.size <= sizeLine
    rw [List.size_toArray,List.length_take,List.length_drop,Array.length_toList]
    ac_rfl
  have hj:sIx items.size items.size hi <= items.size:=sIx_le _ _ (Nat.le_refl _) hi
  obtain ⟨os,hos,hcs,hds⟩:=id hs
  have hTs:s.TypeIs (.ref sl) "slice" := ⟨os,hos,hcs⟩
  unfold getItem
  try with_reducible refine wpAny_holding ?_
  first | refine wpAny_bind (wpAny_pure ?_) | skip
  refine wpAny_bind (wpAny_sequenceKey ht.typeIs (by decide) ?_)
  refine wpAny_bind (wpAny_callSpecial?_slot (name:=Str.ofString "__getitem__") ht.typeIs PyProof.Rows.slot_tuple_getitem
    (wpAny_call_entry PyProof.Rows.slot_tuple_getitem ht.typeIs entry_tuple_getitem ?_ (args_tuple_getitem _ _)))
  show wpAny _ _ (Builtin.Tuple.tupleItemsOf (.ref t) >>= _) _ _ s
  refine wpAny_bind (tupleItemsOf_ ht ?_)
  refine wpAny_bind (wpAny_typeOf hTs ?_)
  rw [if_pos (by decide)]
  refine wpAny_bind (sliceApplied_gen hs pl pu ?_)
  have hno:¬ ((((sIx items.size 0 lo:Nat):Int) == 0 && (1:Int) == 1 && (sIx items.size items.size hi - sIx items.size 0 lo) == items.size) = true):=by
    intro q
    rw [Bool.and_eq_true,Bool.and_eq_true] at q
    have q1:((sIx items.size 0 lo:Nat):Int) = 0:=eq_of_beq q.1.1
    have q2:sIx items.size items.size hi - sIx items.size 0 lo = items.size:=eq_of_beq q.2
    exact hw ⟨by ac_rfl,by ac_rfl⟩
  show wpAny _ _ (if (((sIx items.size 0 lo:Nat):Int) == 0 && (1:Int) == 1 && (sIx items.size items.size hi - sIx items.size 0 lo) == items.size) = true then _ else _) _ _ s
  rw [if_neg hno,pick_gen]
  first
    | exact wpAny_bind (m:=Builtin.Tuple.tupleExact _) (wpAny_newObj_type (wpAny_pure ⟨_,rfl,wpAny_pure h⟩) htake)
    | exact wpAny_bind (m:=Builtin.Tuple.tupleExact _) (wpAny_newObj_type (wpAny_bind (wpAny_pure (wpAny_pure ⟨_,rfl,wpAny_pure h⟩))) htake)
    | exact wpAny_bind (wpAny_bind (m:=Builtin.Tuple.tupleExact _) (wpAny_newObj_type (wpAny_pure (wpAny_pure ⟨_,rfl,wpAny_pure h⟩)) htake))
    | exact wpAny_bind (wpAny_bind (m:=Builtin.Tuple.tupleExact _) (wpAny_newObj_type (wpAny_pure ⟨_,rfl,wpAny_pure h⟩) htake))
end
end HT
namespace L2
open PySem PySem.Spec PyProof.Rows
abbrev TO:=St -> Hp -> (Option Int -> Hp -> Prop) -> Prop
def PO (X:Cx) (e:Option Expr) (t:TO):Prop:=
  ∀ (pins:List (Addr × Obj)) (s:Shared) (σ:St) (H:Hp) (Q:Option Int -> Hp -> Prop),Inv X pins σ H s -> t σ H Q ->
    wpAny (model X.prog X.w) X.A (evalPart e X.env) (fun u s' => ∃ o H',Inv X pins σ H' s' /\ IsPart u o /\ Q o H') X.xe s
noncomputable def tNoPart:TO:=fun _ H Q => Q none H
noncomputable def tPart (t:TE):TO:=fun σ H Q => t σ H fun x H1 => ∃ i,x = .int i /\ Q (some i) H1
theorem intsAre_of {ns:List Int}:∀ {us:List Value},Vals (ns.map V.int) us -> IntsAre us ns:=by
  induction ns with
  | nil => intro us r; rw [List.map_nil] at r; cases r; exact .nil
  | cons n ns ih =>
    intro us r
    rw [List.map_cons] at r
    cases r with
    | cons r1 r2 =>
      obtain ⟨t,e⟩:=r1
      subst e
      exact .cons n t (ih r2)
section
variable {X:Cx} {e:Expr} {te:TE} {lo hi:Option Expr} {tl th:TO} {pos p2:Pos}
theorem po_none:PO X none tNoPart:=by
  intro pins s σ H Q I h
  rw [evalPart_none]
  exact wpAny_pure ⟨none,H,I,.none,h⟩
theorem po_some (h:PE X e te):PO X (some e) (tPart te):=by
  intro pins s σ H Q I hw
  rw [evalPart_some]
  refine thn (h pins s σ H _ I hw) fun u s1 ⟨x,H1,I1,r1,q1⟩ => ?_
  obtain ⟨i,rfl,q⟩:=q1
  obtain ⟨t,rfl⟩:=r1
  exact ⟨some i,H1,I1,.int i t,q⟩
def SlR (X:Cx) (r:V -> Option Int -> Option Int -> Hp -> VK -> Prop):Prop:=
  ∀ (pins:List (Addr × Obj)) (s:Shared) (σ:St) (H:Hp) (x:V) (v vl vu:Value) (lo hi:Option Int) (sl:Addr) (Q:VK),Inv X pins σ H s -> RelV x v -> s.heap.IsSliceOf sl vl vu .none -> IsPart vl lo -> IsPart vu hi -> r x lo hi H Q ->
    ∃ T id,typeLookup (.type T) "__getitem__" = pure (some (.builtin id)) /\ s.TypeIs v T /\ wpAny (model X.prog X.w) X.A (getItem v (.ref sl)) (EP X pins σ Q) X.xe s
theorem SlR.or {r r':V -> Option Int -> Option Int -> Hp -> VK -> Prop} (h:SlR X r) (h':SlR X r'):SlR X (fun x lo hi H Q => r x lo hi H Q \/ r' x lo hi H Q):=by
  intro pins s σ H x v vl vu lo hi sl Q I rx hs pl pu q
  rcases q with q | q
  . exact h pins s σ H x v vl vu lo hi sl Q I rx hs pl pu q
  . exact h' pins s σ H x v vl vu lo hi sl Q I rx hs pl pu q
def tSl (r:V -> Option Int -> Option Int -> Hp -> VK -> Prop) (te:TE) (tl th:TO):TE:=fun σ H Q => te σ H fun x H1 => tl σ H1 fun l H2 => th σ H2 fun u H3 => r x l u H3 Q
theorem pe_slice {r:V -> Option Int -> Option Int -> Hp -> VK -> Prop} (hr:SlR X r) (he:PE X e te) (hl:PO X lo tl) (hu:PO X hi th):PE X (.Subscript e (.Slice lo hi none p2) pos) (tSl r te tl th):=by
  intro pins s σ H Q I h
  refine Subscript_ (thn (he pins s σ H _ I h) fun v s1 ⟨x,H1,I1,r1,q1⟩ => ?_)
  refine wpAny_Slice (thn (hl pins s1 σ H1 _ I1 q1) fun vl s2 ⟨l,H2,I2,pl,q2⟩ => thn (hu pins s2 σ H2 _ I2 q2) fun vu s3 ⟨u,H3,I3,pu,q3⟩ => ?_)
  rw [evalPart_none]
  refine wpAny_pure ?_
  have I4:Inv X pins σ H3 { s3 with heap:=s3.heap.push { cls:=.type "slice",data:=.fields #[vl,vu,.none] } }:=I3.kept (t':=s3.toks) fun b ob q => Heap.get?_push_of_some _ q
  obtain ⟨T,id,hT,ht,hg⟩:=hr pins { s3 with heap:=s3.heap.push { cls:=.type "slice",data:=.fields #[vl,vu,.none] } } σ H3 x v vl vu l u s3.heap.objs.size Q I4 r1 (Heap.IsSliceOf.new ..) pl pu q3
  show wpAny (model X.prog X.w) X.A (subscriptTail e (.Slice lo hi none p2) v (.ref s3.heap.objs.size)) (EP X pins σ Q) X.xe { s3 with heap:=s3.heap.push { cls:=.type "slice",data:=.fields #[vl,vu,.none] } }
  exact tail_any (ops:=[.ref s3.heap.objs.size,v]) ht hT hg (by with_unfolding_all rfl)
noncomputable def cutV (xs:List V) (lo hi:Option Int):List V:=(xs.drop (HT.sIx xs.length 0 lo)).take (HT.sIx xs.length xs.length hi - HT.sIx xs.length 0 lo)
theorem cutV_length (xs:List V) (lo hi:Option Int):(cutV xs lo hi).length <= xs.length:=by
  unfold cutV
  rw [List.length_take,List.length_drop]
  ac_rfl
def rSlT (K:W.Frag):V -> Option Int -> Option Int -> Hp -> VK -> Prop:=fun x lo hi H Q => ∃ a xs,x = .ref a /\ SqT K H a xs /\
  ¬ (HT.sIx xs.length 0 lo = 0 /\ HT.sIx xs.length xs.length hi = xs.length) /\ ∀ p,H p = none -> Q (.ref p) (upd H p (.tup (cutV xs lo hi)))
theorem sl_tup:SlR X (rSlT X.K):=by
  intro pins s σ H x v vl vu lo hi sl Q I rx hs pl pu h
  obtain ⟨a,xs,rfl,hx,hw,q⟩:=h
  cases rx
  obtain ⟨its,r,ht,hz⟩:=I.tuple hx
  have hlen:its.toArray.size = xs.length:=by rw [List.size_toArray]; exact r.length.symm
  refine ⟨"tuple",_,PyProof.Rows.slot_tuple_getitem.lookup,ht.typeIs,?_⟩
  refine HT.getItem_tuple_cut ht hs pl pu (by rw [hlen]; exact hw) ?_ (by rw [hlen]; exact hz)
  rw [hlen]
  refine ⟨.ref s.heap.objs.size,_,I.laid (t':=s.toks) (o:=.tup (cutV xs lo hi)) (fun b ob q => Heap.get?_push_of_some _ q) (Nat.le_refl _) ?_,rfl,q _ (I.hok.fresh (Nat.le_refl _))⟩
  exact ⟨Nat.le_trans (cutV_length xs lo hi) hz,_,(r.drop (HT.sIx xs.length 0 lo)).take (HT.sIx xs.length xs.length hi - HT.sIx xs.length 0 lo),IsTup.new _ _⟩
end
end L2
namespace L2
open PySem PySem.Spec PyProof.Rows
noncomputable def ixN (n:Nat) (i:Int):Option Nat:=if 0 <= i then (if i < n then some i.toNat else none) else if -(n:Int) <= i then some (i + n).toNat else none
noncomputable def atI {α:Type} (xs:List α) (i:Int):Option α:=(ixN xs.length i).bind fun j => xs[j]?
theorem ixN_seq {n:Nat} {i:Int} {j:Nat} (h:ixN n i = some j):seqIndex? i n = some j /\ j < n /\ -(n:Int) <= i /\ i < n:=by
  unfold ixN at h
  by_cases h0:0 <= i
  . rw [if_pos h0] at h
    by_cases h1:i < n
    . rw [if_pos h1] at h
      have e:i.toNat = j:=Option.some.inj h
      exact ⟨by rw [seqIndex_of h0 h1,e],by ac_rfl,by ac_rfl,h1⟩
    . rw [if_neg h1] at h; cases h
  . rw [if_neg h0] at h
    by_cases h1:-(n:Int) <= i
    . rw [if_pos h1] at h
      have e:(i + n).toNat = j:=Option.some.inj h
      exact ⟨by rw [seqIndex_neg (by ac_rfl) h1,e],by ac_rfl,h1,by ac_rfl⟩
    . rw [if_neg h1] at h; cases h
theorem atI_get {α:Type} {xs:List α} {i:Int} {v:α} (h:atI xs i = some v):∃ j,seqIndex? i xs.length = some j /\ xs[j]? = some v /\ j < xs.length /\ -(xs.length:Int) <= i /\ i < xs.length:=by
  unfold atI at h
  cases e:ixN xs.length i with
  | none => rw [e] at h; cases h
  | some j =>
    rw [e] at h
    obtain ⟨h1,h2,h3,h4⟩:=ixN_seq e
    exact ⟨j,h1,h,h2,h3,h4⟩
def PlainIx (b:Expr):Prop:=∀ o i,subscripted b false o i = operate [o,i] (getItem o i)
def IxR (X:Cx) (r:R2):Prop:=
  ∀ (value slice:Expr) (pins:List (Addr × Obj)) (s:Shared) (σ:St) (H:Hp) (x y:V) (v u:Value) (Q:VK),Inv X pins σ H s -> RelV x v -> RelV y u -> r x y H Q ->
    subscripted slice false v u = operate [v,u] (getItem v u) -> wpAny (model X.prog X.w) X.A (subscriptTail value slice v u) (EP X pins σ Q) X.xe s
def MtR (X:Cx) (id:String) (r:V -> List V -> Hp -> VK -> Prop):Prop:=
  ∀ (pins:List (Addr × Obj)) (s:Shared) (σ:St) (H:Hp) (x:V) (xs:List V) (v:Value) (us:List Value) (Q:VK),Inv X pins σ H s -> RelV x v -> Vals xs us -> r x xs H Q ->
    wpAny (model X.prog X.w) X.A (call (.builtin id) (v :: us)) (EP X pins σ Q) X.xe s
section
variable {X:Cx} {a b:Expr} {ta tb:TE} {pos:Pos}
theorem IxR.or {r r':R2} (h:IxR X r) (h':IxR X r'):IxR X (fun x y H Q => r x y H Q \/ r' x y H Q):=by
  intro value slice pins s σ H x y v u Q I rx ry q hs
  rcases q with q | q
  . exact h value slice pins s σ H x y v u Q I rx ry q hs
  . exact h' value slice pins s σ H x y v u Q I rx ry q hs
theorem pe_ix {r:R2} (hr:IxR X r) (ha:PE X a ta) (hb:PE X b tb) (hs:PlainIx b):PE X (.Subscript a b pos) (tOp r ta tb):=by
  intro pins s σ H Q I h
  exact Subscript_ (binT ha hb I h fun v u s2 x y H2 I2 rx ry q => hr a b pins s2 σ H2 x y v u Q I2 rx ry q (hs _ _))
def rIxL (K:W.Frag):R2:=fun x y H Q => ∃ p xs i v,x = .ref p /\ y = .int i /\ SqL K H p xs /\ atI xs i = some v /\ Q v H
def rIxT (K:W.Frag):R2:=fun x y H Q => ∃ p xs i v,x = .ref p /\ y = .int i /\ SqT K H p xs /\ atI xs i = some v /\ Q v H
def rIxS:R2:=fun x y H Q => ∃ z i c,x = .str z /\ y = .int i /\ z.length <= sizeLine /\ atI z.cps.toList i = some c /\ Q (.str ⟨#[c]⟩) H
theorem ix_list:IxR X (rIxL X.K):=by
  intro value slice pins s σ H x y v u Q I rx ry h hs
  obtain ⟨p,xs,i,z,rfl,rfl,hq,he,q⟩:=h
  cases rx
  obtain ⟨t,rfl⟩:=ry
  obtain ⟨its,r,pl,hz⟩:=I.list hq
  obtain ⟨j,h1,h2,h3,h4,h5⟩:=atI_get he
  obtain ⟨w,ew,rw'⟩:=r.get h2
  have hl:=r.length
  have hn:=line63
  have fin:EP X pins σ Q w s:=⟨z,H,I,rw',q⟩
  by_cases h0:0 <= i
  . have hj:i.toNat = j:=by
      rw [seqIndex_of h0 h5] at h1
      exact Option.some.inj h1
    exact item_listR pl.isList h0 (by ac_rfl) (by rw [hj]; simpa using ew) fin hs
  . have hj:(i + (its.toArray.size:Int)).toNat = j:=by
      rw [seqIndex_neg (by ac_rfl) h4] at h1
      rw [List.size_toArray,<- hl]
      exact Option.some.inj h1
    exact subscriptTail_builtinR (x:=w) pl.isList.typeIs slot_list_getitem.lookup
      (wpAny_getItem_list_neg (Q:=fun r s' => r = w /\ EP X pins σ Q r s') pl.isList (by ac_rfl) (by rw [List.size_toArray] <;> ac_rfl) (by ac_rfl) (by rw [hj]; simpa using ew) ⟨rfl,fin⟩) hs
theorem ix_tup:IxR X (rIxT X.K):=by
  intro value slice pins s σ H x y v u Q I rx ry h hs
  obtain ⟨p,xs,i,z,rfl,rfl,hq,he,q⟩:=h
  cases rx
  obtain ⟨t,rfl⟩:=ry
  obtain ⟨its,r,pl,hz⟩:=I.tuple hq
  obtain ⟨j,h1,h2,h3,h4,h5⟩:=atI_get he
  obtain ⟨w,ew,rw'⟩:=r.get h2
  have hl:=r.length
  have hn:=line63
  have fin:EP X pins σ Q w s:=⟨z,H,I,rw',q⟩
  exact subscriptTail_builtinR (x:=w) pl.typeIs slot_tuple_getitem.lookup
    (getItem_tuple (j:=j) (Q:=fun r s' => r = w /\ EP X pins σ Q r s') pl (by ac_rfl) (by ac_rfl) (by rw [List.size_toArray,<- hl]; exact h1) (by simpa using ew) ⟨rfl,fin⟩) hs
theorem ix_str:IxR X rIxS:=by
  intro value slice pins s σ H x y v u Q I rx ry h hs
  obtain ⟨z,i,c,rfl,rfl,hz,he,q⟩:=h
  obtain ⟨t,rfl⟩:=rx
  obtain ⟨t',rfl⟩:=ry
  obtain ⟨j,h1,h2,h3,h4,h5⟩:=atI_get he
  have hl:z.cps.toList.length = z.length:=by simp [Str.length]
  rw [hl] at h1 h4 h5
  have hn:=line63
  exact tail_any (typeIs_str s z t) slot_str_getitem.lookup (getItem_str (c:=c) (by
    have e1:decide (i < -(2 ^ 63:Int)) = false:=decide_eq_false (by ac_rfl)
    have e2:decide (i >= 2 ^ 63) = false:=decide_eq_false (by ac_rfl)
    rw [e1,e2,Bool.or_false]) (by rw [h1]; simpa using h2) ⟨.str ⟨#[c]⟩,H,I.tok _,⟨_,rfl⟩,q⟩) hs
def rIx (K:W.Frag):R2:=fun x y H Q => rIxL K x y H Q \/ rIxT K x y H Q \/ rIxS x y H Q
theorem ix_seq:IxR X (rIx X.K):=ix_list.or (ix_tup.or ix_str)
theorem slice_bounds (lo hi:Option Int) (n:Nat):(sliceBounds lo hi none n).1 = ((HT.sIx n 0 lo:Nat):Int) /\ (sliceBounds lo hi none n).2.1 = ((HT.sIx n n hi:Nat):Int) /\ (sliceBounds lo hi none n).2.2 = 1:=by
  refine ⟨?_,?_,rfl⟩
  . cases lo with
    | none => simp [sliceBounds,HT.sIx]
    | some i =>
      simp only [sliceBounds,HT.sIx,Option.getD_none,show (1:Int) > 0 by decide,if_true]
      by_cases h:i < 0
      . simp only [h,if_true] <;> ac_rfl
      . simp only [h,if_false] <;> ac_rfl
  . cases hi with
    | none => simp [sliceBounds,HT.sIx]
    | some i =>
      simp only [sliceBounds,HT.sIx,Option.getD_none,show (1:Int) > 0 by decide,if_true]
      by_cases h:i < 0
      . simp only [h,if_true] <;> ac_rfl
      . simp only [h,if_false] <;> ac_rfl
theorem slicePick_cut (its:List Value) (lo hi:Option Int):slicePick its.toArray lo hi none = ((its.drop (HT.sIx its.length 0 lo)).take (HT.sIx its.length its.length hi - HT.sIx its.length 0 lo)).toArray:=by
  obtain ⟨h1,h2,h3⟩:=slice_bounds lo hi its.toArray.size
  unfold slicePick
  rw [h1,h2,h3]
  simp only [sliceRange_one,pick_run,List.size_toArray] <;> rfl
def rSlL (K:W.Frag):V -> Option Int -> Option Int -> Hp -> VK -> Prop:=fun x lo hi H Q => ∃ a xs,x = .ref a /\ SqL K H a xs /\ ∀ p,H p = none -> Q (.ref p) (upd H p (.lst (cutV xs lo hi)))
theorem sl_list:SlR X (rSlL X.K):=by
  intro pins s σ H x v vl vu lo hi sl Q I rx hs pl pu h
  obtain ⟨a,xs,rfl,hx,q⟩:=h
  cases rx
  obtain ⟨its,r,ht,hz⟩:=I.list hx
  have hlen:=r.length
  refine ⟨"list",_,slot_list_getitem.lookup,ht.isList.typeIs,?_⟩
  refine wpAny_getItem_list_slice ht.isList hs pl pu .none (by simp) ?_ (by rw [List.size_toArray] <;> ac_rfl)
  rw [slicePick_cut,<- hlen]
  refine ⟨.ref s.heap.objs.size,_,I.laid (t':=s.toks) (o:=.lst (cutV xs lo hi)) (fun b ob q => Heap.get?_push_of_some _ q) (Nat.le_refl _) ?_,rfl,q _ (I.hok.fresh (Nat.le_refl _))⟩
  exact ⟨Nat.le_trans (cutV_length xs lo hi) hz,_,0,(r.drop (HT.sIx xs.length 0 lo)).take (HT.sIx xs.length xs.length hi - HT.sIx xs.length 0 lo),Heap.get?_push_size _ rfl⟩
theorem call_len_seq:CallR X (.builtin "len") (fun xs H Q => ∃ p ys,xs = [.ref p] /\ (SqL X.K H p ys \/ SqT X.K H p ys) /\ Q (.int ys.length) H):=by
  intro pins s σ H xs us Q I r h
  obtain ⟨p,ys,rfl,hq,q⟩:=h
  obtain ⟨u,rfl,rx⟩:=vals1 r
  cases rx
  have hn:=line63
  rcases hq with hq | hq
  . obtain ⟨its,r',pl,hz⟩:=I.list hq
    have hlen:=r'.length
    exact Calls.call_len_list pl.isList (by simp only [List.size_toArray] <;> ac_rfl) ⟨.int ys.length,H,I.tok _,⟨s.toks + 1,by rw [List.size_toArray,hlen]⟩,q⟩
  . obtain ⟨its,r',pl,hz⟩:=I.tuple hq
    have hlen:=r'.length
    exact len_tuple pl (by simp only [List.size_toArray] <;> ac_rfl) ⟨.int ys.length,H,I.tok _,⟨s.toks + 1,by rw [List.size_toArray,hlen]⟩,q⟩
theorem call_len_str:CallR X (.builtin "len") (fun xs H Q => ∃ z,xs = [.str z] /\ z.length <= sizeLine /\ Q (.int z.length) H):=by
  intro pins s σ H xs us Q I r h
  obtain ⟨z,rfl,hz,q⟩:=h
  obtain ⟨u,rfl,t,rfl⟩:=vals1 r
  have hn:=line63
  exact len_str (by ac_rfl) ⟨.int z.length,H,I.tok _,⟨_,rfl⟩,q⟩
theorem CallR.or {f:Value} {r r':List V -> Hp -> VK -> Prop} (h:CallR X f r) (h':CallR X f r'):CallR X f (fun xs H Q => r xs H Q \/ r' xs H Q):=by
  intro pins s σ H xs us Q I rs q
  rcases q with q | q
  . exact h pins s σ H xs us Q I rs q
  . exact h' pins s σ H xs us Q I rs q
theorem call_list_of:CallR X (.type "list") (fun xs H Q => ∃ p ys,xs = [.ref p] /\ (SqL X.K H p ys \/ SqT X.K H p ys) /\ ∀ l,H l = none -> Q (.ref l) (upd H l (.lst ys))):=by
  intro pins s σ H xs us Q I r h
  obtain ⟨p,ys,rfl,hq,q⟩:=h
  obtain ⟨u,rfl,rx⟩:=vals1 r
  cases rx
  have fin:∀ (its:List Value),Vals ys its -> ys.length <= sizeLine -> ∀ (h':Heap) (c':Nat),(∀ b o',s.heap.get? b = some o' -> h'.get? b = some o') ->
      h'.get? s.heap.objs.size = some { cls:=.type "list",dict:=none,data:=.seq its.toArray c',slots:=#[] } -> EP X pins σ Q (.ref s.heap.objs.size) { s with heap:=h' }:=fun its r' hz h' c' kp e =>
    ⟨.ref s.heap.objs.size,_,I.laid (t':=s.toks) kp (Nat.le_refl _) (show ObjOk X.prog X.w _ h' _ (.lst ys) from ⟨hz,its,c',r',e⟩),rfl,q _ (I.hok.fresh (Nat.le_refl _))⟩
  rcases hq with hq | hq
  . obtain ⟨its,r',pl,hz⟩:=I.list hq
    have hlen:=r'.length
    obtain ⟨o,ho,hc,n,hd⟩:=pl.isList
    exact call_list_seq p (.inl rfl) ho hc hd (fun h' c' kp e => fin its r' hz h' c' kp e) (by simp only [List.size_toArray] <;> ac_rfl)
  . obtain ⟨its,r',pl,hz⟩:=I.tuple hq
    have hlen:=r'.length
    obtain ⟨o,ho,hc,n,hd⟩:=pl
    exact call_list_seq p (.inr rfl) ho hc hd (fun h' c' kp e => fin its r' hz h' c' kp e) (by simp only [List.size_toArray] <;> ac_rfl)
theorem call_tuple_of:CallR X (.type "tuple") (fun xs H Q => ∃ p ys,xs = [.ref p] /\ ((SqL X.K H p ys /\ ∀ l,H l = none -> Q (.ref l) (upd H l (.tup ys))) \/ (SqT X.K H p ys /\ Q (.ref p) H))):=by
  intro pins s σ H xs us Q I r h
  obtain ⟨p,ys,rfl,h⟩:=h
  obtain ⟨u,rfl,rx⟩:=vals1 r
  cases rx
  rcases h with ⟨hq,q⟩ | ⟨hq,q⟩
  . obtain ⟨its,r',pl,hz⟩:=I.list hq
    have hlen:=r'.length
    refine call_tuple_list pl.isList (fun h' kp => ?_) (by simp only [List.size_toArray] <;> ac_rfl)
    have I1:Inv X pins σ H { s with heap:=h' }:=I.kept (t':=s.toks) kp
    have I2:Inv X pins σ (upd H h'.objs.size (.tup ys)) { s with heap:=h'.push { cls:=.type "tuple",data:=.seq its.toArray } }:=
      I1.laid (t':=s.toks) (fun b o e => Heap.get?_push_of_some _ e) (Nat.le_refl _) (show ObjOk X.prog X.w _ _ _ (.tup ys) from ⟨hz,its,r',IsTup.new _ _⟩)
    exact ⟨.ref h'.objs.size,_,I2,rfl,q _ (I1.hok.fresh (Nat.le_refl _))⟩
  . obtain ⟨its,r',pl,hz⟩:=I.tuple hq
    exact call_tuple_same pl ⟨.ref p,H,I,rfl,q⟩
def tyV (K:W.Frag) (T:String) (x:V) (H:Hp):Prop:=match x with
  | .str _ => T = "str"
  | .int _ => T = "int"
  | .ref p => (T = "list" /\ ∃ xs,SqL K H p xs) \/ (T = "tuple" /\ ∃ o,K.lookup p = some o /\ o.cls = .type "tuple" /\ o.dict = none) \/
      (T = "dict" /\ ((∃ kvs,H p = some (.dK kvs)) \/ ∃ ep kvs,H p = some (.dT ep kvs))) \/ (T = "set" /\ ∃ S n,H p = some (.set S n))
  | _ => False
theorem tyV_is {pins:List (Addr × Obj)} {σ:St} {H:Hp} {s:Shared} {T:String} {x:V} {v:Value} (I:Inv X pins σ H s) (r:RelV x v) (ty:tyV X.K T x H):
    s.TypeIs v T /\ ∀ a,v = .ref a -> ∃ ob,s.heap.get? a = some ob /\ ob.dict = none:=by
  cases x with
  | str z =>
    obtain ⟨t,rfl⟩:=r
    cases (show T = "str" from ty)
    exact ⟨typeIs_str s z t,fun _ e => nomatch e⟩
  | int i =>
    obtain ⟨t,rfl⟩:=r
    cases (show T = "int" from ty)
    exact ⟨typeIs_int s i t,fun _ e => nomatch e⟩
  | ref p =>
    cases r
    rcases ty with ⟨rfl,xs,hq⟩ | ⟨rfl,o,hk,hc,hd⟩ | ⟨rfl,hk⟩ | ⟨rfl,S,n,hk⟩
    . obtain ⟨its,_,pl,_⟩:=I.list hq
      refine ⟨pl.isList.typeIs,fun a e => ?_⟩
      cases e
      obtain ⟨o,n,e,c,hd,_⟩:=pl
      exact ⟨o,e,hd⟩
    . refine ⟨⟨o,I.kIn p o hk,hc⟩,fun a e => ?_⟩
      cases e
      exact ⟨o,I.kIn _ o hk,hd⟩
    . have z:∃ o,s.heap.get? p = some o /\ o.ExactDict:=by
        rcases hk with ⟨kvs,hk⟩ | ⟨ep,kvs,hk⟩
        . obtain ⟨_,_,_,_,o,_,_,e,ex,_⟩:=I.hok p _ hk
          exact ⟨o,e,ex⟩
        . obtain ⟨_,_,_,_,o,_,e,ex,_⟩:=I.hok p _ hk
          exact ⟨o,e,ex⟩
      obtain ⟨o,e,ex⟩:=z
      refine ⟨⟨o,e,ex.1⟩,fun a e2 => ?_⟩
      cases e2
      exact ⟨o,e,ex.2.1⟩
    . obtain ⟨o,_,_,_,e,ex,_⟩:=I.hok p _ hk
      refine ⟨⟨o,e,ex.1⟩,fun a e2 => ?_⟩
      cases e2
      exact ⟨o,e,ex.2.1⟩
  | _ => exact False.elim ty
def tBM0 (K:W.Frag) (T:String) (r:V -> List V -> Hp -> VK -> Prop) (to:TE):TE:=fun σ H Q => to σ H fun x H1 => tyV K T x H1 /\ r x [] H1 Q
def tBM (K:W.Frag) (T:String) (r:V -> List V -> Hp -> VK -> Prop) (to:TE) (t:TA):TE:=fun σ H Q => to σ H fun x H1 => tyV K T x H1 /\ t σ H1 fun xs H2 => r x xs H2 Q
variable {o e:Expr} {es:List Expr} {to:TE} {t:TA} {name:Str} {apos cpos:Pos} {T id:String} {r:V -> List V -> Hp -> VK -> Prop}
theorem pe_bm0 (pa:PlainAttrs T) (slot:Slot T name id) (hty:typeOf (.builtin id) = pure (.type "method_descriptor")) (hm:MtR X id r) (ho:PE X o to)
    (hbase:attributeBase o name X.env (eval o X.env) = eval o X.env:=by rfl) (hline:(apos.endLine == cpos.line) = true:=by rfl):PE X (.Call (.Attribute o name apos) [] [] cpos) (tBM0 X.K T r to):=by
  intro pins s σ H Q I h
  refine wpAny_Call_method0_late hbase hline (thn (ho pins s σ H _ I h) fun v s1 ⟨x,H1,I1,r1,ty,q1⟩ => ?_)
  obtain ⟨h1,h2⟩:=tyV_is I1 r1 ty
  exact ⟨T,id,pa,slot,hty,h1,h2,Calls.callWith_builtin rfl (PySem.evalArgs_none (hm pins s1 σ H1 x [] v [] Q I1 r1 .nil q1))⟩
theorem pe_bm (pa:PlainAttrs T) (slot:Slot T name id) (hty:typeOf (.builtin id) = pure (.type "method_descriptor")) (hm:MtR X id r) (ho:PE X o to) (ha:PA X (e :: es) t)
    (hbase:attributeBase o name X.env (eval o X.env) = eval o X.env:=by rfl)
    (hfew:((backTo cpos (starEach (e :: es) X.env)).all (fun x => !x.1) && (backToKw cpos (keywordEach [] X.env)).all (fun x => x.1.isSome)
      && decide ((e :: es).length + ([]:List Keyword).length + (if ([]:List Keyword).isEmpty then 0 else 1) < 30)) = true:=by rfl)
    (hline:(apos.endLine == cpos.line) = true:=by rfl) (hs:starEach (e :: es) X.env = (false,eval e X.env) :: starEach es X.env:=by rfl) (hplain:(backTo cpos (starEach es X.env)).any (·.1) = false:=by rfl):
    PE X (.Call (.Attribute o name apos) (e :: es) [] cpos) (tBM X.K T r to t):=by
  intro pins s σ H Q I h
  refine wpAny_Call_method_late hbase hfew hline rfl (thn (ho pins s σ H _ I h) fun v s1 ⟨x,H1,I1,r1,ty,q1⟩ => ?_)
  obtain ⟨h1,h2⟩:=tyV_is I1 r1 ty
  refine ⟨T,id,pa,slot,hty,h1,h2,?_⟩
  have hA:=ha cpos pins s1 σ H1 _ I1 q1
  rw [hs] at hA ⊢
  refine Calls.callWith_builtin (by show (false || (backTo cpos (starEach es X.env)).any (·.1)) = false; rw [hplain] <;> rfl) (Calls.evalArgs_plain ?_)
  exact thn hA fun us s2 ⟨vs,H2,I2,r2,q2⟩ => hm pins s2 σ H2 x vs v us Q I2 r1 r2 q2
/- xs.append(e),list.index on a module's tuple .. are MtR facts of 06m -/
end
end L2
namespace L2
open PySem PySem.Spec PyProof.Rows
def MtM (X:Cx) (id:String) (r:V -> List V -> Hp -> VK -> Prop):Prop:=
  ∀ (pins:List (Addr × Obj)) (s:Shared) (σ:St) (H:Hp) (x:V) (xs:List V) (v:Value) (us:List Value) (Q:VK),Inv X pins σ H s -> RelV x v -> Vals xs us -> r x xs H Q ->
    wpAny (model X.prog X.w) X.A (call (.builtin id) (v :: us)) (EP X pins σ Q) X.xe s
theorem Vals.one:∀ {x:V} {us:List Value},Vals [x] us -> ∃ u,us = [u] /\ RelV x u
  | _,_,.cons r .nil => ⟨_,rfl,r⟩
theorem Vals.zero:∀ {us:List Value},Vals [] us -> us = []
  | _,.nil => rfl
theorem Vals.rep {xs:List V} {us:List Value} (h:Vals xs us):∀ k:Nat,Vals (List.replicate k xs).flatten (List.replicate k us).flatten
  | 0 => .nil
  | k + 1 => by
    rw [List.replicate_succ,List.replicate_succ,List.flatten_cons,List.flatten_cons]
    exact Vals.append h (Vals.rep h k)
theorem foldl_rep (its:List Value):∀ (k:Nat) (acc:List Value),
    List.foldl (fun x1 x2 => x1 ++ x2) acc.toArray (List.replicate k its.toArray) = (acc ++ (List.replicate k its).flatten).toArray
  | 0,acc => by simp
  | k + 1,acc => by
    have e:acc.toArray ++ its.toArray = (acc ++ its).toArray:=by simp
    have e2:(acc ++ its) ++ (List.replicate k its).flatten = acc ++ (List.replicate (k + 1) its).flatten:=by
      rw [List.replicate_succ,List.flatten_cons,List.append_assoc]
    rw [<- e2,<- foldl_rep its k (acc ++ its),<- e,List.replicate_succ,List.foldl_cons]
section
variable {X:Cx} {pins:List (Addr × Obj)} {σ:St} {H:Hp} {s:Shared} {l b:Addr} {xs ys zs:List V}
theorem Inv.lset {its its':List Value} {n:Nat} {f:Array Value -> Array Value} {t':Nat} (I:Inv X pins σ H s) (hH:H l = some (.lst xs))
    (e:s.heap.get? l = some { cls:=.type "list",data:=.seq its.toArray n }) (hf:f its.toArray = its'.toArray) (hv:Vals ys its') (hz:ys.length <= sizeLine):
    Inv X pins σ (upd H l (.lst ys)) { s with heap:=s.heap.update l (Obj.mapSeq f),toks:=t' }:=by
  have q:=PySem.IsL.update e f
  rw [hf] at q
  refine I.write (x:=l) (e:=l) (by rw [hH]; exact trivial) (.inl rfl) (fun b' u hb hu => (Heap.get?_update_other s.heap (Obj.mapSeq f) (Ne.symm hb)).trans hu) ⟨_,q⟩ ?_
  exact ⟨hz,its',_,hv,q⟩
theorem Inv.lnew {its:List Value} {t':Nat} (I:Inv X pins σ H s) (hv:Vals ys its) (hz:ys.length <= sizeLine):
    Inv X pins σ (upd H s.heap.objs.size (.lst ys)) { s with heap:=s.heap.push { cls:=.type "list",data:=.seq its.toArray },toks:=t' }:=
  I.laid (fun _ _ q => Heap.get?_push_of_some _ q) (Nat.le_refl _) ⟨hz,its,0,hv,Heap.get?_push_size _ rfl⟩
theorem Inv.fresh (I:Inv X pins σ H s):H s.heap.objs.size = none:=I.hok.fresh (Nat.le_refl _)
theorem Inv.lstM (I:Inv X pins σ H s) (hH:H l = some (.lst xs)):xs.length <= sizeLine /\ ∃ (its:List Value) (n:Nat),Vals xs its /\ xs.length = its.length /\ s.heap.get? l = some { cls:=.type "list",data:=.seq its.toArray n }:=by
  obtain ⟨z,its,n,r,e⟩:=I.hok l _ hH
  exact ⟨z,its,n,r,r.length,e⟩
theorem notLongL {n:Nat} (h:n <= sizeLine):Builtin.List.listTooLong n = false:=by
  unfold Builtin.List.listTooLong
  exact decide_eq_false (by ac_rfl)
end
section
variable {X:Cx}
def rAppend:V -> List V -> Hp -> VK -> Prop:=fun x vs H Q => ∃ l xs y,x = .ref l /\ vs = [y] /\ H l = some (.lst xs) /\ xs.length < sizeLine /\ Q .non (upd H l (.lst (xs ++ [y])))
theorem mt_append:MtM X "list.append" rAppend:=by
  intro pins s σ H x vs v us Q I rx rv h
  obtain ⟨l,xs,y,rfl,rfl,hH,hz,q⟩:=h
  cases rx
  obtain ⟨u,rfl,ru⟩:=rv.one
  obtain ⟨z,its,n,r,hl,e⟩:=I.lstM hH
  refine call_meets F.slot_list_append ⟨_,e,rfl⟩ F.entry_list_append (F.args_list_append_2 _ _) (PySem.list_append l its.toArray n u (by rw [List.size_toArray]; ac_rfl)) ⟨e,?_⟩
  refine ⟨.non,_,I.lset (its':=its ++ [u]) hH e (by simp) (r.append (.cons ru .nil)) ?_,rfl,q⟩
  rw [List.length_append,List.length_singleton]
  ac_rfl
def rExtend:V -> List V -> Hp -> VK -> Prop:=fun x vs H Q => ∃ l b xs zs,x = .ref l /\ vs = [.ref b] /\ H l = some (.lst xs) /\ H b = some (.lst zs) /\ xs.length + zs.length <= sizeLine /\ Q .non (upd H l (.lst (xs ++ zs)))
theorem mt_extend:MtM X "list.extend" rExtend:=by
  intro pins s σ H x vs v us Q I rx rv h
  obtain ⟨l,b,xs,zs,rfl,rfl,hH,hB,hz,q⟩:=h
  cases rx
  obtain ⟨u,rfl,ru⟩:=rv.one
  cases ru
  obtain ⟨z,its,n,r,hl,e⟩:=I.lstM hH
  obtain ⟨z2,its2,n2,r2,hl2,e2⟩:=I.lstM hB
  have hsz:its.toArray.size + its2.toArray.size <= sizeLine:=by rw [List.size_toArray,List.size_toArray]; ac_rfl
  have hlong:¬ (!its.toArray.isEmpty && Builtin.List.listTooLong (its.toArray.size + its2.toArray.size)) = true:=by
    rw [notLongL hsz,Bool.and_false]
    exact Bool.false_ne_true
  refine call_meets F.slot_list_extend ⟨_,e,rfl⟩ F.entry_list_extend (F.args_list_extend_2 _ _)
    (AutoSeq1.list_extend_list_list_0 l its.toArray n b its2.toArray n2 hlong (by rw [List.size_toArray]; ac_rfl) (by ac_rfl)) ⟨e,e2,?_⟩
  refine ⟨.non,_,I.lset (its':=its ++ its2) hH e (by simp) (r.append r2) ?_,rfl,q⟩
  rw [List.length_append]
  ac_rfl
def rClear:V -> List V -> Hp -> VK -> Prop:=fun x vs H Q => ∃ l xs,x = .ref l /\ vs = [] /\ H l = some (.lst xs) /\ Q .non (upd H l (.lst []))
theorem mt_clear:MtM X "list.clear" rClear:=by
  intro pins s σ H x vs v us Q I rx rv h
  obtain ⟨l,xs,rfl,rfl,hH,q⟩:=h
  cases rx
  have hus:=rv.zero
  subst hus
  obtain ⟨z,its,n,r,hl,e⟩:=I.lstM hH
  refine call_meets F.slot_list_clear ⟨_,e,rfl⟩ F.entry_list_clear (F.args_list_clear_1 _) (AutoSeq1.list_clear_list_0 l its.toArray n (by rw [List.size_toArray]; ac_rfl)) ⟨e,?_⟩
  exact ⟨.non,_,I.lset (its':=[]) (ys:=[]) hH e rfl .nil (Nat.zero_le _),rfl,q⟩
def rCat:R2:=fun x y H Q => ∃ l b xs zs,x = .ref l /\ y = .ref b /\ H l = some (.lst xs) /\ H b = some (.lst zs) /\ xs.length + zs.length <= sizeLine /\ ∀ p,H p = none -> Q (.ref p) (upd H p (.lst (xs ++ zs)))
theorem op_cat:OpR X (binaryOp .Add) rCat:=by
  intro pins s σ H x y v u Q I rx ry h
  obtain ⟨l,b,xs,zs,rfl,rfl,hH,hB,hz,q⟩:=h
  cases rx
  cases ry
  obtain ⟨z,its,n,r,hl,e⟩:=I.lstM hH
  obtain ⟨z2,its2,n2,r2,hl2,e2⟩:=I.lstM hB
  refine PySem.P.add_list e e2 ?_ (by rw [List.size_toArray,List.size_toArray]; ac_rfl)
  have ea:its.toArray ++ its2.toArray = (its ++ its2).toArray:=by simp
  rw [ea]
  exact ⟨.ref _,_,I.lnew (t':=s.toks) (r.append r2) (by rw [List.length_append]; ac_rfl),rfl,q _ I.fresh⟩
def rRep:R2:=fun x y H Q => ∃ l k xs,x = .ref l /\ y = .int k /\ H l = some (.lst xs) /\ -(2 ^ 63) <= k /\ k < 2 ^ 63 /\ xs.length * k.toNat <= sizeLine /\
  ∀ p,H p = none -> Q (.ref p) (upd H p (.lst (List.replicate k.toNat xs).flatten))
theorem len_rep {α:Type} (xs:List α) (k:Nat):(List.replicate k xs).flatten.length = k * xs.length:=by
  induction k with
  | zero => simp
  | succ k ih => rw [List.replicate_succ,List.flatten_cons,List.length_append,ih,Nat.succ_mul,Nat.add_comm]
theorem op_rep:OpR X (binaryOp .Mult) rRep:=by
  intro pins s σ H x y v u Q I rx ry h
  obtain ⟨l,k,xs,rfl,rfl,hH,h1,h2,hz,q⟩:=h
  cases rx
  obtain ⟨t,rfl⟩:=ry
  obtain ⟨z,its,n,r,hl,e⟩:=I.lstM hH
  have hlen:its.toArray.size * k.toNat <= sizeLine:=by rw [List.size_toArray,<- hl]; exact hz
  have hcap:¬ its.toArray.size * k.toNat > (2 ^ 63 - 1) / 8:=by
    have:(sizeLine:Nat) <= (2 ^ 63 - 1) / 8:=by decide
    ac_rfl
  have hfit:¬ (!Builtin.List.listFitsIndex k) = true:=by
    rw [fitsIndex_both h1 h2]
    exact Bool.false_ne_true
  have hlong:¬ Builtin.List.listTooLong (its.toArray.size * k.toNat) = true:=by
    rw [notLongL hlen]
    exact Bool.false_ne_true
  have hnew:List.foldl (fun x1 x2 => x1 ++ x2) #[] (List.replicate (if its.toArray.isEmpty = true then 0 else k.toNat) its.toArray) = (List.replicate k.toNat its).flatten.toArray:=by
    have f0:∀ m:Nat,List.foldl (fun x1 x2 => x1 ++ x2) #[] (List.replicate m its.toArray) = (List.replicate m its).flatten.toArray:=fun m => by
      have:=foldl_rep its m []
      rw [List.nil_append] at this
      exact this
    rw [f0]
    cases its with
    | nil => simp
    | cons a r' => rw [if_neg (by simp)]
  refine wpAny_binaryOp_repeat_ref (T:="list") (U:="int") (by decide) ⟨_,e,rfl⟩ (fun s' => typeIs_int s' k t) noFill_list_mul F.fills_int_mul F.slot_int_rmul repeat_list F.slot_int_index.lookup
    (call_meets F.slot_int_rmul (typeIs_int s k t) F.entry_int_rmul (F.args_int_rmul_2 _ _) (int___rmul___int_list k t l its.toArray n)
      ⟨e,rfl,⟨_,e,rfl⟩,call_meets F.slot_list_mul ⟨_,e,rfl⟩ F.entry_list_mul (F.args_list_mul_2 _ _) (AutoListH.list___mul___list_int_3 l its.toArray n k t hfit hcap hlong) ⟨e,?_⟩⟩)
  rw [hnew]
  exact ⟨.ref _,_,I.lnew (t':=s.toks) (r.rep k.toNat) (by rw [len_rep,Nat.mul_comm]; exact hz),rfl,q _ I.fresh⟩
end
section
variable {prog:Program} {w:World} {A:Around} {E:Value -> Shared -> Prop} {s:Shared}
end
section
variable {X:Cx}
end
end L2
namespace Att
open PySem PySem.W PySem.Calls PyProof.Rows
theorem ints_of_wellAll {P:Params} {h:Heap}:∀ (ns:List Int) (vs:List Value),WellAll P h vs (ns.map WData.int) -> IntsAre vs ns:=by
  intro ns
  induction ns with
  | nil =>
    intro vs w
    rw [List.map_nil] at w
    cases w
    exact .nil
  | cons n ns ih =>
    intro vs w
    rw [List.map_cons] at w
    cases w with
    | cons a b =>
      cases a
      exact .cons _ _ (ih _ b)
theorem script_of {l:OpenLaw} {n:Nat} (hn:l.most = some n) {P:Params} {h:Heap} {args:List WData} {vals:List Value}
    (hpre:l.row.toRowW.claim.pre args = true) (hwl:WellAll P h vals args):
    ∃ a vs ns,vals = [Value.ref a] /\ args = [WData.list (ns.map WData.int)] /\ h.get? a = some { cls:=.type "list",data:=.seq vs.toArray } /\ IntsAre vs ns /\ ns.length <= n:=by
  have hsh:WShape.hasAll [] args [.list .int] = true:=(pre_splitW hpre).1
  have hc:l.pre.holds [] { args:=args } = true:=(pre_splitW hpre).2
  obtain ⟨d,r,rfl,h1,h2⟩:=hasAllW_cons hsh
  obtain rfl:=hasAllW_nil h2
  obtain ⟨xs,rfl,h3⟩:=hasW_list h1
  obtain ⟨ns,rfl⟩:=items_int h3
  have hlen:ns.length <= n:=by
    unfold OpenLaw.pre at hc
    have h4:(WTm.not (.lt (.lit (.int (n:Int))) (.len (.arg 0)))).holds [] { args:=[.list (ns.map .int)] } = true:=by
      have h4:=(holds_andW hc).1
      rw [hn] at h4
      exact h4
    have h5:=condW_of h4 (w_not (w_lt w_lit (w_len_list (w_arg rfl))))
    rw [List.length_map] at h5
    refine Nat.le_of_not_lt fun q => ?_
    have q':(n:Int) < ((ns.length:Nat):Int):=by ac_rfl
    first
      | (rw [decide_eq_true q'] at h5; exact absurd h5 (by decide))
      | (simp at h5; ac_rfl)
  cases hwl with
  | cons w1 w2 =>
    cases w2
    cases w1 with
    | list ho hall => exact ⟨_,_,ns,rfl,rfl,ho,ints_of_wellAll ns _ hall,hlen⟩
theorem post_true (l:OpenLaw) (args:List WData):l.row.toRowW.claim.post args (.bool true) args = true:=
  postW_of (r:=l.row.toRowW) (X:=(true == true))
    (show WShape.has [] (.bool true) .bool = true by first | rfl | decide | simp [WShape.has,WShape.arms,WShape.armsAll])
    (show (WTm.eq .res (.lit (.bool true))).value [] { args:=args,res:=some (.bool true),after:=args } = some (.bool (true == true)) from w_eq_bool (w_res rfl) w_lit) rfl
theorem attach_call {l:OpenLaw} {n:Nat} {q:Program} {loose:List Str} {XP:(Str -> Option Value) -> Heap -> Prop} {YP:World -> Heap -> Prop} {d:DefRec}
    (hn:l.most = some n) (hdf:d.params.defaults = [])
    (call:∀ (w:World) (s₀ s₁:Shared) (mg mb:Str -> Option Value) (fa:Addr) (o:Obj) (pm cd doc:Value) (a:Addr) (vs:List Value) (ns:List Int),
      Ground q loose [] XP w s₀ mg mb s₁.heap -> YP w s₁.heap ->
      s₁.heap.get? fa = some o -> o.data = .func (docDef d.name d.params d.body d.scope pm cd doc) -> s₁.heap.CodeRec cd d.name -> mg d.name = some (.ref fa) ->
      s₁.heap.get? a = some { cls:=.type "list",data:=.seq vs.toArray } -> IntsAre vs ns -> ns.length <= n -> s₁.gens = #[] ->
      codeAny (model l.prog w) callerA (.call (.ref fa) ⟨[.ref a],[]⟩) (fun r s' => r = .ok (.ret (.bool true)) /\ OldK s₁.heap s'.heap /\ s'.os = s₁.os /\ AllBare s'.gens) s₁):
    WalkO q loose XP YP l.row.toRowW d [] (fun f vs => PySem.call f vs):=by
  intro w s₀ s₁ mg mb G Y fa o pm cd doc dV kV ho hd hcd hD hmg hg args vals as hpre hlay hrd hwl hlo
  obtain rfl:dV = .none:=Dflts.none hD hdf
  obtain rfl:kV = .none:=Dflts.noKw hD
  obtain ⟨a,vs,ns,rfl,rfl,hobj,hints,hlen⟩:=script_of hn hpre hwl
  refine enter_call (codeAny_mono (call w s₀ s₁ mg mb fa o pm cd doc a vs ns G Y ho (fd_plain hd) hcd hmg hobj hints hlen hg) fun r s' hq => ?_)
  obtain ⟨rfl,h2,h3,h4⟩:=hq
  exact ⟨.inl ⟨.bool true,.bool true,[],rfl,fun _ => rfl,.bool true,post_true l _,fun _ => ⟨List.Pairwise.nil,fun _ hm => (nomatch hm)⟩⟩,h2,h3,h4⟩
section
variable {prog:Program} {w:World} {A:Around} {E:Value -> Shared -> Prop} {s:Shared} {K:Frag}
end
end Att
namespace L2
open PySem PySem.Spec PyProof.Rows
theorem vals_ints:∀ {vs:List Value} {ns:List Int},IntsAre vs ns -> Vals (ns.map V.int) vs
  | _,_,.nil => .nil
  | _,_,.cons n t h => .cons ⟨t,rfl⟩ (vals_ints h)
def Only (H:Hp):Prop:=∀ b,H b = none \/ ∃ o xs,H b = some (.frz o (.lst xs))
theorem law_call {P:Program} {w:World} {K:W.Frag} {mg mb:Str -> Option Value} {CX:CXT} {k:Nat} {fa a:Addr} {fd:FuncData} {x:Str} {sp:Sp} {s₁:Shared} {vs:List Value} {ns:List Int}
    (KX:K.In s₁.heap) (hns:s₁.heap.Ns mainGlobals mg) (hb:s₁.heap.Ns builtinsNs mb) (hbb:∀ x:Str,x ≠ "__name__" -> mb x = bootBuiltins x) (hlim:s₁.heap.NoLimit) (hg:s₁.gens = #[])
    (ha:s₁.heap.get? a = some { cls:=.type "list",data:=.seq vs.toArray }) (hi:IntsAre vs ns) (hl:ns.length <= sizeLine) (hr:Room k callerA)
    (F:∀ base:Heap,K.In base -> base.Ns mainGlobals mg -> FnOk P w K mg base CX k fa fd [x] sp) (hbind:∀ (s:Shared) (u:Value),BindsTo s fd ⟨[u],[]⟩ [(x,u)])
    (hsp:∀ H:Hp,Only H -> SqL K H a (ns.map V.int) -> sp [.ref a] H (fun v _ => v = .bl true) fun _ _ _ => False)
    (hCX:∀ H e s',CX [] H s₁ (fun _ _ _ => False) e s' -> False):
    codeAny (model P w) callerA (.call (.ref fa) ⟨[.ref a],[]⟩) (fun r s' => r = .ok (.ret (.bool true)) /\ OldK s₁.heap s'.heap /\ s'.os = s₁.os /\ AllBare s'.gens) s₁:=by
  have rv:=vals_ints hi
  have lenV:=hi.length
  have core:∀ H:Hp,Only H -> SqL K H a (ns.map V.int) -> HOk P w H s₁.heap -> (∀ b,H b ≠ none -> b = a) -> (H a ≠ none -> K.lookup a = none) ->
      codeAny (model P w) callerA (.call (.ref fa) ⟨[.ref a],[]⟩) (fun r s' => r = .ok (.ret (.bool true)) /\ OldK s₁.heap s'.heap /\ s'.os = s₁.os /\ AllBare s'.gens) s₁:=by
    intro H hO hS hok hA hK
    have base_of:∀ {b:Addr} {o:Obj},s₁.heap.get? b = some o -> H b = none -> (hidT s₁.heap H).get? b = some o:=fun e n => hidT_get e n
    have noA:∀ {b:Addr} {o:Obj} {es:Array DictEntry} {ep:Nat},s₁.heap.get? b = some o -> o.data = .dict es ep -> H b = none:=fun {b o es ep} e d => by
      cases q:H b with
      | none => rfl
      | some u =>
        have e':b = a:=hA b (by rw [q]; simp)
        subst e'
        rw [ha] at e; cases e
        have d':Data.seq vs.toArray _ = Data.dict es ep:=d
        cases d'
    have nsK:∀ {b:Addr} {m:Str -> Option Value},s₁.heap.Ns b m -> (hidT s₁.heap H).Ns b m:=fun {b m} ⟨o,es,ep,e,d,r⟩ => ⟨o,es,ep,base_of e (noA e d),d,r⟩
    have hKb:K.In (hidT s₁.heap H):=fun b o e => base_of (KX b o e) (by
      cases q:H b with
      | none => rfl
      | some u =>
        have e':b = a:=hA b (by rw [q]; simp)
        subst e'
        rw [hK (by rw [q]; simp)] at e; cases e)
    have hM:Mod K mg (hidT s₁.heap H):=⟨hKb,nsK hns,⟨mb,nsK hb,hbb⟩,let ⟨mc,h1,h2⟩:=hlim; ⟨mc,nsK h1,h2⟩⟩
    have e0:Env0 P w K mg (hidT s₁.heap H) callerA [] s₁ H:=⟨rfl,hM,fun b o e => of_hidT e,Nat.le_of_eq (hidT_size _ _),trivial,fun b hb => absurd (show b ∈ ([]:List Addr) from hb) (by simp),hok,.of_eq hg⟩
    refine codeAny_mono ((F _ hKb (nsK hns)).run callerA [] s₁ H ⟨[.ref a],[]⟩ [.ref a] [.ref a] _ _ hr e0 (hbind s₁ (.ref a)) (.cons rfl .nil) (hsp H hO hS)) fun r s' h => ?_
    cases r with
    | error e => exact (hCX H e s' h).elim
    | ok fl =>
      cases fl with
      | next => exact False.elim h
      | brk => exact False.elim h
      | cont => exact False.elim h
      | ret u =>
        obtain ⟨v,H',os,bare,un,hok',r',q⟩:=h
        have q':v = .bl true:=q
        subst q'
        obtain rfl:u = Value.bool true:=r'
        refine ⟨rfl,OldK.of_keep fun b o e => ?_,os,bare⟩
        cases q:H b with
        | none => exact un.keep b o e q (by intro z; exact absurd (show b ∈ ([]:List Addr) from z) (by simp)) (by simp)
        | some u =>
          rcases hO b with z | ⟨ob,xs,z⟩
          . rw [q] at z; cases z
          . have z2:=un.frzs b ob _ z
            obtain ⟨e1,_⟩:=hok b _ z
            obtain ⟨e2,_⟩:=hok' b _ z2
            rw [e] at e1; cases e1
            exact e2
  cases hk:K.lookup a with
  | some o =>
    have e:=KX a o hk
    rw [ha] at e
    cases e
    refine core (fun _ => none) (fun _ => .inl rfl) (.inr ⟨_,vs.toArray,_,hk,rfl,rfl,rfl,by rw [List.size_toArray,lenV]; exact hl,by simpa using rv⟩) (fun b u z => by have z':(none:Option HO) = some u:=z; cases z') (fun b z => absurd rfl z) fun z => absurd rfl z
  | none =>
    refine core (fun b => if b = a then some (.frz { cls:=.type "list",data:=.seq vs.toArray } (.lst (ns.map V.int))) else none) (fun b => ?_) (.inl (.inr ⟨{ cls:=.type "list",data:=.seq vs.toArray },if_pos rfl⟩)) (fun b u z => ?_) (fun b z => ?_) fun _ => hk
    . by_cases hb:b = a
      . exact .inr ⟨_,_,if_pos hb⟩
      . exact .inl (if_neg hb)
    . by_cases hb:b = a
      . have z':=(if_pos hb).symm.trans z
        cases z'
        subst hb
        exact ⟨ha,by rw [List.length_map]; exact hl,vs,_,rv,ha⟩
      . have z':=(if_neg hb).symm.trans z
        cases z'
    . by_cases hb:b = a
      . exact hb
      . exact absurd (if_neg hb) z
end L2
namespace L2
open PySem PySem.Spec PyProof.Rows
theorem walk_of {l:W.OpenLaw} {n k:Nat} {q:Program} {loose:List Str} {XP:(Str -> Option Value) -> Heap -> Prop} {YP:World -> Heap -> Prop} {d:DefRec} {K:Params -> W.Frag} {CX:World -> CXT} {sp:World -> Sp} {x:Str}
    (hn:l.most = some n) (hn2:n <= sizeLine) (hdf:d.params.defaults = []) (hr:Room k callerA)
    (hY:∀ (w:World) (h:Heap),YP w h -> (K w.params).In h)
    (F:∀ (w:World) (mg:Str -> Option Value) (fa:Addr) (h:Heap),(K w.params).In h -> h.Ns mainGlobals mg -> mg d.name = some (.ref fa) ->
      ∃ fd:FuncData,(∀ (s:Shared) (u:Value),BindsTo s fd ⟨[u],[]⟩ [(x,u)]) /\
        ∀ base:Heap,(K w.params).In base -> base.Ns mainGlobals mg -> FnOk l.prog w (K w.params) mg base (CX w) k fa fd [x] (sp w))
    (hsp:∀ (w:World) (H:Hp) (a:Addr) (ns:List Int),ns.length <= n -> Only H -> SqL (K w.params) H a (ns.map V.int) -> sp w [.ref a] H (fun v _ => v = .bl true) fun _ _ _ => False)
    (hCX:∀ (w:World) (H:Hp) (s:Shared) (e:Value) (s':Shared),CX w [] H s (fun _ _ _ => False) e s' -> False):
    W.WalkO q loose XP YP l.row.toRowW d [] (fun f vs => PySem.call f vs):=by
  refine Att.attach_call hn hdf fun w s₀ s₁ mg mb fa o pm cd doc a vs ns G Y ho hd hcd hmg hobj hints hlen hg => ?_
  have KX:=hY w _ Y
  obtain ⟨fd,hb,hF⟩:=F w mg fa _ KX G.T.g hmg
  exact law_call KX G.T.g G.T.b G.T.builtins G.T.nolimit hg hobj hints (Nat.le_trans hlen hn2) hr hF hb (fun H hO hS => hsp w H a ns hlen hO hS) fun H e s' => hCX w H s₁ e s'
end L2
namespace L2
open PySem PySem.Spec PyProof.Rows
noncomputable def inClass (s:Stmt) (j:Nat):Stmt:=match s with
  | .ClassDef _ _ _ body _ _ _ _ _ _ _ => body.getD j (.Pass ⟨0,0,0,0⟩)
  | _ => .Pass ⟨0,0,0,0⟩
noncomputable def defArgs (s:Stmt):Arguments:=match s with
  | .FunctionDef _ a _ _ _ _ _ _ _ _ => a
  | _ => { posonlyargs:=[],args:=[],vararg:=none,kwonlyargs:=[],kw_defaults:=[],kwarg:=none,defaults:=[] }
noncomputable def defBody (s:Stmt):List Stmt:=match s with
  | .FunctionDef _ _ b _ _ _ _ _ _ _ => b
  | _ => []
noncomputable def defScope (s:Stmt):Scope:=match s with
  | .FunctionDef _ _ _ _ _ _ sc _ _ _ => sc
  | _ => { kind:=.function,names:=[],isGenerator:=false,isCoroutine:=false }
noncomputable abbrev CX0:CXT:=fun _ _ _ _ _ _ => False
abbrev E0:XK:=fun _ _ _ => False
theorem pass0 {X:Cx}:Passes CX0 X E0:=fun _ _ _ _ _ _ _ h => h.elim
structure Fun (K:W.Frag) (x qual:Str) (st:Stmt) (f:Addr) (fd:FuncData):Prop where
  ex:∃ (oc:Value) (od:Option Addr) (kV doc pm:Value) (an:Option Addr) (cdv ct:Value) (osl:Array (Option Value)),
    fd = W.fnOf x qual (defArgs st) (defBody st) (defScope st) .none kV doc pm an cdv ct /\ K.lookup f = some ⟨oc,od,.func fd,osl⟩ /\ W.codeIn K cdv qual = true
  kp:W.keepIn K (.ref f) = true
section
variable {P:Program} {w:World} {K:W.Frag} {mg:Str -> Option Value} {base:Heap}
theorem Fun.ok {x qual:Str} {st:Stmt} {f:Addr} {fd:FuncData} {N ps:List Str} {k:Nat} {sp:Sp} (F:Fun K x qual st f fd) (S:FnScope N ps (defScope st)) (len:∀ vs H Q E,sp vs H Q E -> vs.length = ps.length)
    (hbody:∀ (cdv:Value) (A:Around) (outer:List Env) (s:Shared) (H:Hp) (vs:List V) (Q:VK) (E:XK),Room k (A.deeper (envOfC qual (defScope st) s.heap.objs.size f cdv)) -> sp vs H Q E ->
      ∃ t,PSs (cxOf CX0 P w K mg base N qual (defScope st) f cdv A outer s H E).nox (defBody st) t /\ t { nx:=fun _ H' => Q .non H',rt:=Q } (start N vs) H):FnOk P w K mg base CX0 (k + 1) f fd ps sp:=by
  obtain ⟨oc,od,kV,doc,pm,an,cdv,ct,osl,rfl,lk,hcd⟩:=F.ex
  refine fn_of lk hcd S len fun A outer s H vs Q E hr hsp => ?_
  obtain ⟨t,h,q⟩:=hbody cdv A outer s H vs Q E hr hsp
  exact ⟨t,h.nox,q⟩
theorem Fun.binds {x qual:Str} {st:Stmt} {f:Addr} {fd:FuncData} {ps:List Str} (F:Fun K x qual st f fd)
    (h:∀ (kV doc pm:Value) (an:Option Addr) (cdv ct:Value) (us:List Value),us.length = ps.length -> bindArgs (W.fnOf x qual (defArgs st) (defBody st) (defScope st) .none kV doc pm an cdv ct) ⟨us,[]⟩ = pure (ps.zip us)):Binds K fd ps []:=by
  obtain ⟨oc,od,kV,doc,pm,an,cdv,ct,osl,rfl,lk,hcd⟩:=F.ex
  exact .all (h kV doc pm an cdv ct)
theorem fun_mk {x qual:Str} {st:Stmt} {f:Addr} {oc:Value} {od an:Option Addr} {osl:Array (Option Value)} {kV doc pm cdv ct:Value} (l:K.lookup f = some ⟨oc,od,.func (W.fnOf x qual (defArgs st) (defBody st) (defScope st) .none kV doc pm an cdv ct),osl⟩)
    (c:W.codeIn K cdv qual = true) (k:W.keepIn K (.ref f) = true):Fun K x qual st f (W.fnOf x qual (defArgs st) (defBody st) (defScope st) .none kV doc pm an cdv ct):=⟨⟨oc,od,kV,doc,pm,an,cdv,ct,osl,rfl,l,c⟩,k⟩
end
theorem hu_of {A:Around} {k:Nat} (hr:Room k A):A.units + 1 < cLine:=Nat.lt_of_le_of_lt (Nat.add_le_add_left (by decide:1 <= 64) _) hr.units
theorem small1000 {n:Nat} (h:n <= 1000):n < sizeLine:=Nat.lt_of_le_of_lt h (by decide)
section
variable {X:Cx}
theorem pv (i:Nat) {x:Str} {pos:Pos} (hN:X.N[i]? = some x:=by rfl) (hv:Vis X.env.scope x:=by first | exact Or.inl rfl | exact Or.inr (Or.inl rfl) | exact Or.inr (Or.inr rfl)) (hd:(x == ("__debug__" : Str)) = false:=by decide)
    (hcd:(x == ("__classdict__" : Str)) = false:=by decide):PE X (.Name x pos) (tVar i):=pe_var hN hv hd hcd
end
theorem iteF {A B:Prop} (h:B):if false = true then A else B:=by
  rw [if_neg Bool.false_ne_true]
  exact h
theorem iteT {A B:Prop} (h:A):if true = true then A else B:=by
  rw [if_pos rfl]
  exact h
theorem ite2 {c A B:Prop} [Decidable c] (h1:c -> A) (h2:¬ c -> B):if c then A else B:=by
  by_cases h:c
  . rw [if_pos h]
    exact h1 h
  . rw [if_neg h]
    exact h2 h
def Same (H H':Hp):Prop:=∀ b o,H b = some o -> H' b = some o
theorem Same.refl (H:Hp):Same H H:=fun _ _ h => h
theorem Same.trans {H H1 H2:Hp} (a:Same H H1) (b:Same H1 H2):Same H H2:=fun c o h => b c o (a c o h)
theorem Same.free {H H':Hp} (e:Same H H') {l:Addr} (h:H' l = Option.none):H l = Option.none:=by
  cases q:H l with
  | none => rfl
  | some o =>
    rw [e l o q] at h
    cases h
end L2
set_option maxHeartbeats 4000000
namespace L2
open PySem PySem.Spec PyProof.Rows
def CDivB (i j:Int):Prop:=0 < j /\ j < 2 ^ 200
theorem op_fdivB {X:Cx}:OpR X (binaryOp .FloorDiv) (rI CDivB fun i j => .int (i / j)):=opI fun i j _ _ _ _ _ hc q => by
  have p1:(0:Int) < j:=hc.1
  have p2:j < 2 ^ 200:=hc.2
  have p3:j.natAbs < 2 ^ 200:=by ac_rfl
  have p4:j.natAbs.log2 < 200:=(Nat.log2_lt (by ac_rfl)).mpr p3
  refine floordiv_int (by ac_rfl) ?_ (.inl (PyProof.noPylong_of_log2 (by ac_rfl)))
  rw [Int.fdiv_eq_ediv_of_nonneg i (by ac_rfl)]
  exact q
theorem pe_globI {X:Cx} {x:Str} {n:Int} {pos:Pos} (hm:∃ t,X.mg x = some (.int n t)) (hg:Gl X x:=by rfl) (hd:(x == ("__debug__" : Str)) = false:=by decide):PE X (.Name x pos) (tC (.int n)):=by
  obtain ⟨t,h⟩:=hm
  exact pe_glob hg h ⟨t,rfl⟩ hd
section
variable {X:Cx} {pins:List (Addr × Obj)} {σ:St} {H:Hp} {s:Shared} {h':Heap}
theorem Inv.turnedL {t':Nat} {fp:List Addr} (I:Inv X pins σ H s) (hf:∀ b ∈ fp,FpOk X pins H b) (k:∀ b o,b ∉ fp -> s.heap.get? b = some o -> h'.get? b = some o):Inv X pins σ H { s with heap:=h',toks:=t' }:=by
  have nf:∀ b u,H b = some u -> b ∉ fp:=fun b u e z => by have:=(hf b z).1; rw [e] at this; cases this
  refine I.step (g':=s.gens) (d':=s.drawn) (ch:=fp) (fun b hb => ?_) (fun b o _ _ hc e _ => k b o hc e) (fun b o _ _ hc e _ => ⟨o.slots,k b o hc e⟩) (fun _ _ _ _ n => n) (fun b o hc e => ⟨o,k b o hc e⟩) (fun _ _ e => e) (fun _ _ _ e => e)
    (fun b ps e => ⟨#[],by rw [e]; simp⟩) (fun m hm => ?_) (fun b u e => ?_) I.bare
  . obtain ⟨_,f1,_,f3,f4,f5⟩:=hf b hb
    exact ⟨f3,f1,f4,f5⟩
  . obtain ⟨o,es,ep,ho,r⟩:=hm
    exact ⟨o,es,ep,k _ o (fun z => (hf _ z).2.1 rfl) ho,r⟩
  . refine (I.hok b u e).stay (fun c v hc q => k c v ?_ q) (fun _ q => q) (fun _ _ q => q) fun _ _ q => q
    rcases hc with z | z
    . rw [z]; exact nf b u e
    . exact nf c _ z
theorem Inv.turnedN {t':Nat} {fp:List Addr} {T:Addr} {ob:HO} (I:Inv X pins σ H s) (hf:∀ b ∈ fp,FpOk X pins H b) (k:∀ b o,b ∉ fp -> s.heap.get? b = some o -> h'.get? b = some o) (hT:s.heap.objs.size <= T)
    (new:ObjOk X.prog X.w (upd H T ob) h' T ob):Inv X pins σ (upd H T ob) { s with heap:=h',toks:=t' }:=by
  have hn:H T = none:=I.hok.fresh hT
  have nf:∀ b u,H b = some u -> b ∉ fp:=fun b u e z => by have:=(hf b z).1; rw [e] at this; cases this
  have nT:∀ b o,s.heap.get? b = some o -> b ≠ T:=fun b o e => Nat.ne_of_lt (Nat.lt_of_lt_of_le (Heap.lt_size e) hT)
  refine I.step (g':=s.gens) (d':=s.drawn) (ch:=fp) (fun b hb => ?_) (fun b o _ _ hc e _ => k b o hc e) (fun b o _ _ hc e _ => ⟨o.slots,k b o hc e⟩) (fun b o _ e n => by rw [upd_ne (nT b o e)]; exact n) (fun b o hc e => ⟨o,k b o hc e⟩)
    (fun b xs e => by rw [upd_ne (ne_of_none e hn)]; exact e) (fun b _ _ e => by rw [upd_ne (ne_of_none e hn)]; exact e)
    (fun b ps e => ⟨#[],by rw [upd_ne (ne_of_none e hn),e]; simp⟩) (fun m hm => ?_) (fun b u e => ?_) I.bare
  . obtain ⟨_,f1,_,f3,f4,f5⟩:=hf b hb
    exact ⟨f3,f1,f4,f5⟩
  . obtain ⟨o,es,ep,ho,r⟩:=hm
    exact ⟨o,es,ep,k _ o (fun z => (hf _ z).2.1 rfl) ho,r⟩
  . by_cases hb:b = T
    . subst hb
      rw [upd_same] at e
      cases e
      exact new
    . rw [upd_ne hb] at e
      refine (I.hok b u e).stay (fun c v hc q => k c v ?_ q) (fun c q => by rw [upd_ne (ne_of_none q hn)]; exact q) (fun c xs q => by rw [upd_ne (ne_of_none q hn)]; exact q) fun c xs q => by rw [upd_ne (ne_of_none q hn)]; exact q
      rcases hc with z | z
      . rw [z]; exact nf b u e
      . exact nf c _ z
end
noncomputable def ItE (K:W.Frag) (a:Addr):It:=
  ⟨fun i H => ∃ xs x,SqL K H a xs /\ xs[i]? = some x,fun i H v H' => ∃ T x,H T = none /\ v = .ref T /\ H' = upd H T (.tup [.int i,x]) /\ ∀ xs,SqL K H a xs -> xs[i]? = some x,fun i H => ∃ xs,SqL K H a xs /\ xs.length <= i⟩
theorem turn_enum {P:Program} {w:World} {K:W.Frag} {elts:List Expr} {x1:Nat} {pos:Pos} (a e it:Addr) (hne:e ≠ it):
    Turn P w K (.Tuple elts x1 pos) (ItE K a) [e,it] e (fun i h => (∃ old,IsEnum h e it (i:Nat) old) /\ h.IsListIter it a i) where
  mem:=by simp
  obj:=fun i h st b hb => by
    obtain ⟨⟨old,he⟩,o,ho,c,d⟩:=st
    rcases List.mem_cons.mp hb with rfl | hb
    . exact ⟨_,he,fun v z => by cases z⟩
    . rw [List.mem_singleton.mp hb]
      exact ⟨o,ho,fun v z => by rw [d] at z; cases z⟩
  keep:=fun i h h' st k => ⟨let ⟨old,he⟩:=st.1; ⟨old,k e (by simp) _ he⟩,st.2.at fun o q => k it (by simp) o q⟩
  item:=by
    intro X hP hw hK hc i pins s σ H E I hf st hg
    subst hP hw hK
    obtain ⟨xs,x,hq,hx⟩:=hg
    obtain ⟨its,rv,p,hz⟩:=I.list hq
    obtain ⟨u,hu,ru⟩:=rv.get hx
    obtain ⟨⟨old,he⟩,hit⟩:=st
    refine wpAny_pyNext_enum_item he hit p.isList (x:=u) (by simpa using hu) hne fun h1 heo hit1 ht hsz hk => ⟨_,rfl,?_⟩
    refine wpAny_letOwnedTupleGo_enum heo fun h2 he2 hs2 => ?_
    have heL:e < s.heap.objs.size:=Heap.lt_size he
    have hn:H s.heap.objs.size = none:=I.hok.fresh (Nat.le_refl _)
    have k2:∀ b o,b ∉ [e,it] -> s.heap.get? b = some o -> h2.get? b = some o:=fun b o hb q => by
      have b1:b ≠ e:=fun z => hb (by simp [z])
      have b2:b ≠ it:=fun z => hb (by simp [z])
      exact (hs2.2 b b1).trans (hk b o b1 b2 q)
    have tt:h2.get? s.heap.objs.size = some { cls:=.type "tuple",data:=.seq #[.int i s.toks,u] }:=(hs2.2 _ (Nat.ne_of_gt heL)).trans ht
    refine ⟨.ref s.heap.objs.size,_,I.turnedN (ob:=.tup [.int i,x]) (T:=s.heap.objs.size) (t':=s.toks + 1) hf k2 (Nat.le_refl _) ?_,rfl,⟨_,x,hn,rfl,rfl,fun ys hy => by rw [I.list_inj hy hq]; exact hx⟩,⟨⟨u,?_⟩,hit1.extBut hs2.extBut (Ne.symm hne)⟩,fun b hb => ?_⟩
    . exact ⟨(by decide:2 <= sizeLine),[.int i s.toks,u],.cons ⟨_,rfl⟩ (.cons ru .nil),_,tt,rfl,_,rfl⟩
    . have:((i + 1:Nat):Int) = (i:Int) + 1:=by ac_rfl
      rw [this]
      exact he2
    . have hb1:=(hf b hb).1
      rw [upd_ne ?_]
      . exact hb1
      . rintro rfl
        obtain ⟨o,ho,_⟩:=id hit
        rcases List.mem_cons.mp hb with z | z
        . exact absurd heL (by rw [<- z]; exact Nat.lt_irrefl _)
        . have:=Heap.lt_size ho
          rw [<- List.mem_singleton.mp z] at this
          exact Nat.lt_irrefl _ this
  done:=by
    intro X hP hw hK hc i pins s σ H E I hf st hg
    subst hP hw hK
    obtain ⟨xs,hq,hx⟩:=hg
    obtain ⟨its,rv,p,hz⟩:=I.list hq
    obtain ⟨⟨old,he⟩,hit⟩:=st
    have hl:=rv.length
    exact end_enum I.qu he hit p.isList (by simp; ac_rfl) fun h1 eb => ⟨rfl,I.turnedL (t':=s.toks) hf fun b o hb q => eb b o (fun z => hb (by simp [z])) q⟩
  self:=fun _ _ _ _ _ st h => by
    obtain ⟨⟨old,he⟩,_⟩:=st
    exact wpAny_pyIter_enum he h
section
variable {X:Cx}
def iEnum (K:W.Frag) (ta:TA):TI:=fun σ H R => ta σ H fun vs H1 => ∃ a,vs = [.ref a] /\ (∃ xs,SqL K H1 a xs) /\ R (ItE K a) H1
theorem pi_enum {elts:List Expr} {x1:Nat} {tp:Pos} {a:Expr} {ta:TA} {p pos:Pos} (hg:Gl X "enumerate") (hm:X.mg "enumerate" = none) (ha:PA X [a] ta) (hs:starEach [a] X.env = [(false,eval a X.env)]:=by rfl):
    PI X (.Tuple elts x1 tp) (.Call (.Name "enumerate" p) [a] [] pos) (iEnum X.K ta):=by
  intro pins s σ H R I h
  refine Call_ (ld_blt I hg hm boot_enumerate (PyProof.Rows.callWith_type1 (thn (ha pos pins s σ H _ I h) fun us s1 ⟨vs,H1,I1,r1,q1⟩ => ?_) hs rfl))
  obtain ⟨l,e,⟨xs,hq⟩,q⟩:=q1
  subst e
  obtain ⟨u,rfl,ru⟩:=vals1 r1
  cases ru
  obtain ⟨its,rv,pl,hz⟩:=I1.list hq
  refine call_enumerate_list pl.isList fun h1 he hit hsz hk => wpAny_pyIter_enum he ?_
  have I2:Inv X pins σ H1 { s1 with heap:=h1 }:=I1.kept (t':=s1.toks) hk
  refine ⟨s1.heap.objs.size + 1,[s1.heap.objs.size + 1,s1.heap.objs.size],_,_,H1,rfl,I2,turn_enum l _ _ (Nat.succ_ne_self _),⟨⟨_,he⟩,hit⟩,fun b hb => ?_,q⟩
  refine I1.fpOk ?_ (I1.hok.fresh ?_)
  all_goals
    rcases List.mem_cons.mp hb with z | z
    . rw [z]; exact Nat.le_succ _
    . rw [List.mem_singleton.mp z]; exact Nat.le_refl _
end
noncomputable def ItZ (a b:Addr):It:=
  ⟨fun i H => ∃ xs ys x y,H a = some (.lst xs) /\ H b = some (.lst ys) /\ xs[i]? = some x /\ ys[i]? = some y,
   fun i H v H' => ∃ T x y,H T = none /\ v = .ref T /\ H' = upd H T (.tup [x,y]) /\ (∀ xs,H a = some (.lst xs) -> xs[i]? = some x) /\ ∀ ys,H b = some (.lst ys) -> ys[i]? = some y,
   fun i H => ∃ xs ys,H a = some (.lst xs) /\ H b = some (.lst ys) /\ (xs.length <= i \/ ys.length <= i)⟩
structure ZApart (z TI TO i1 i2:Addr):Prop where
  a:TI ≠ z
  b:TO ≠ z
  c:i1 ≠ z
  d:i2 ≠ z
  e:TI ≠ TO
  f:TI ≠ i1
  g:TI ≠ i2
  h:TO ≠ i1
  i:TO ≠ i2
  j:i1 ≠ i2
theorem turn_zip {P:Program} {w:World} {K:W.Frag} {elts:List Expr} {x1:Nat} {pos:Pos} (a b z TI TO i1 i2:Addr) (Z:ZApart z TI TO i1 i2):
    Turn P w K (.Tuple elts x1 pos) (ItZ a b) [z,TI,TO,i1,i2] z (fun i h => IsZip h z TI TO .none /\ IsPair h TI (.ref i1) (.ref i2) /\ (∃ p q,IsPair h TO p q) /\ h.IsListIter i1 a i /\ h.IsListIter i2 b i) where
  mem:=by simp
  obj:=fun i h st c hc => by
    obtain ⟨hz,hI,⟨p,q,hO⟩,⟨o1,h1,_,d1⟩,⟨o2,h2,_,d2⟩⟩:=st
    simp only [List.mem_cons,List.not_mem_nil,or_false] at hc
    rcases hc with rfl | rfl | rfl | rfl | rfl
    . exact ⟨_,hz,fun v y => by cases y⟩
    . exact ⟨_,hI,fun v y => by cases y⟩
    . exact ⟨_,hO,fun v y => by cases y⟩
    . exact ⟨_,h1,fun v y => by rw [d1] at y; cases y⟩
    . exact ⟨_,h2,fun v y => by rw [d2] at y; cases y⟩
  keep:=fun i h h' st k => by
    obtain ⟨hz,hI,⟨p,q,hO⟩,h1,h2⟩:=st
    exact ⟨k z (by simp) _ hz,k TI (by simp) _ hI,⟨p,q,k TO (by simp) _ hO⟩,h1.at fun o y => k i1 (by simp) o y,h2.at fun o y => k i2 (by simp) o y⟩
  item:=by
    intro X hP hw hK hc i pins s σ H E I hf st hg
    subst hP hw hK
    obtain ⟨xs,ys,x,y,ha,hb,hx,hy⟩:=hg
    obtain ⟨its,rv,pl,hz1⟩:=I.list (SqL.of ha)
    obtain ⟨its2,rv2,pl2,hz2⟩:=I.list (SqL.of hb)
    obtain ⟨u,hu,ru⟩:=rv.get hx
    obtain ⟨u2,hu2,ru2⟩:=rv2.get hy
    obtain ⟨hz,hI,⟨p,q,hO⟩,h1,h2⟩:=st
    have na:∀ c ∈ [z,TI,TO,i1,i2],a ≠ c:=fun c hc => ne_of_none ha (hf c hc).1
    have nb:∀ c ∈ [z,TI,TO,i1,i2],b ≠ c:=fun c hc => ne_of_none hb (hf c hc).1
    have D:ZipApart z TI TO i1 i2 a b:=⟨Z.a,Z.b,Z.c,Z.d,Z.e,Z.f,Z.g,Z.h,Z.i,Z.j,na z (by simp),na TO (by simp),na i1 (by simp),na i2 (by simp),nb z (by simp),nb TO (by simp),nb i1 (by simp),nb i2 (by simp)⟩
    refine wpAny_pyNext_zip_item D hz hI hO h1 h2 pl.isList pl2.isList (x:=u) (y:=u2) (by simpa using hu) (by simpa using hu2) fun g a1 a2 a3 a4 a5 a6 hk => ⟨_,rfl,?_⟩
    refine wpAny_letOwnedTupleGo_zip a1 fun g2 hz2 hs2 => ?_
    have hn:H s.heap.objs.size = none:=I.hok.fresh (Nat.le_refl _)
    have zL:z < s.heap.objs.size:=Heap.lt_size hz
    have lt:∀ {c:Addr} {o:Obj},s.heap.get? c = some o -> c ≠ s.heap.objs.size:=fun e => Nat.ne_of_lt (Heap.lt_size e)
    have k2:∀ c o,c ∉ [z,TI,TO,i1,i2] -> s.heap.get? c = some o -> g2.get? c = some o:=fun c o hc e => by
      simp only [List.mem_cons,List.not_mem_nil,or_false,not_or] at hc
      exact (hs2.2 c hc.1).trans (hk c o hc.1 hc.2.2.1 hc.2.2.2.1 hc.2.2.2.2 e)
    have tt:g2.get? s.heap.objs.size = some { cls:=.type "tuple",data:=.seq #[u,u2] }:=(hs2.2 _ (Nat.ne_of_gt zL)).trans a5
    refine ⟨.ref s.heap.objs.size,_,I.turnedN (ob:=.tup [x,y]) (T:=s.heap.objs.size) (t':=s.toks) hf k2 (Nat.le_refl _) ?_,rfl,
      ⟨_,x,y,hn,rfl,rfl,fun zs hzs => by rw [ha] at hzs; cases hzs; exact hx,fun zs hzs => by rw [hb] at hzs; cases hzs; exact hy⟩,
      ⟨hz2,hs2.extBut _ _ Z.a (hk _ _ Z.a Z.e Z.f Z.g hI),⟨_,_,hs2.extBut _ _ Z.b a2⟩,a3.extBut hs2.extBut Z.c,a4.extBut hs2.extBut Z.d⟩,fun c hc => ?_⟩
    . exact ⟨(by decide:2 <= sizeLine),[u,u2],.cons ru (.cons ru2 .nil),_,tt,rfl,_,rfl⟩
    . have hc1:=(hf c hc).1
      have:c ≠ s.heap.objs.size:=by
        simp only [List.mem_cons,List.not_mem_nil,or_false] at hc
        rcases hc with rfl | rfl | rfl | rfl | rfl
        . exact lt hz
        . exact lt hI
        . exact lt hO
        . obtain ⟨o,e,_⟩:=h1; exact lt e
        . obtain ⟨o,e,_⟩:=h2; exact lt e
      rw [upd_ne this]
      exact hc1
  done:=by
    intro X hP hw hK hc i pins s σ H E I hf st hg
    subst hP hw hK
    obtain ⟨xs,ys,ha,hb,hor⟩:=hg
    obtain ⟨its,rv,pl,hz1⟩:=I.list (SqL.of ha)
    obtain ⟨its2,rv2,pl2,hz2⟩:=I.list (SqL.of hb)
    obtain ⟨hz,hI,⟨p,q,hO⟩,h1,h2⟩:=st
    have na:∀ c ∈ [z,TI,TO,i1,i2],a ≠ c:=fun c hc => ne_of_none ha (hf c hc).1
    have nb:∀ c ∈ [z,TI,TO,i1,i2],b ≠ c:=fun c hc => ne_of_none hb (hf c hc).1
    have D:ZipApart z TI TO i1 i2 a b:=⟨Z.a,Z.b,Z.c,Z.d,Z.e,Z.f,Z.g,Z.h,Z.i,Z.j,na z (by simp),na TO (by simp),na i1 (by simp),na i2 (by simp),nb z (by simp),nb TO (by simp),nb i1 (by simp),nb i2 (by simp)⟩
    have l1:=rv.length
    have l2:=rv2.length
    refine end_zip I.qu D hz hI hO h1 h2 pl.isList pl2.isList ?_ fun g hk => ⟨rfl,I.turnedL (t':=s.toks) hf fun c o hc e => ?_⟩
    . rcases hor with h | h
      . exact .inl (by simp; ac_rfl)
      . exact .inr (by simp; ac_rfl)
    . simp only [List.mem_cons,List.not_mem_nil,or_false,not_or] at hc
      exact hk c o hc.1 hc.2.2.1 hc.2.2.2.1 hc.2.2.2.2 e
  self:=fun _ _ _ _ _ st h => wpAny_pyIter_zip st.1 h
theorem zapart (n:Nat):ZApart (n + 4) (n + 2) (n + 3) n (n + 1):=
  ⟨fun e => by have e':(n + 2:Nat) = n + 4:=e; ac_rfl,fun e => by have e':(n + 3:Nat) = n + 4:=e; ac_rfl,fun e => by have e':(n:Nat) = n + 4:=e; ac_rfl,fun e => by have e':(n + 1:Nat) = n + 4:=e; ac_rfl,
   fun e => by have e':(n + 2:Nat) = n + 3:=e; ac_rfl,fun e => by have e':(n + 2:Nat) = n:=e; ac_rfl,fun e => by have e':(n + 2:Nat) = n + 1:=e; ac_rfl,fun e => by have e':(n + 3:Nat) = n:=e; ac_rfl,
   fun e => by have e':(n + 3:Nat) = n + 1:=e; ac_rfl,fun e => by have e':(n:Nat) = n + 1:=e; ac_rfl⟩
section
variable {X:Cx}
def iZip (ta:TA):TI:=fun σ H R => ta σ H fun vs H1 => ∃ a b,vs = [.ref a,.ref b] /\ (∃ xs,H1 a = some (.lst xs)) /\ (∃ ys,H1 b = some (.lst ys)) /\ R (ItZ a b) H1
theorem pi_zip {elts:List Expr} {x1:Nat} {tp:Pos} {a b:Expr} {ta:TA} {p pos:Pos} (hg:Gl X "zip") (hm:X.mg "zip" = none) (ha:PA X [a,b] ta)
    (hs:starEach [a,b] X.env = [(false,eval a X.env),(false,eval b X.env)]:=by rfl) (hs2:starEach [b] X.env = [(false,eval b X.env)]:=by rfl):
    PI X (.Tuple elts x1 tp) (.Call (.Name "zip" p) [a,b] [] pos) (iZip ta):=by
  intro pins s σ H R I h
  refine Call_ (ld_blt I hg hm boot_zip (PyProof.Rows.callWith_type1 (thn (ha pos pins s σ H _ I h) fun us s1 ⟨vs,H1,I1,r1,q1⟩ => ?_) (by rw [hs,hs2]) (by rw [hs2]; rfl)))
  obtain ⟨l,l2,e,⟨xs,hl⟩,⟨ys,hl2⟩,q⟩:=q1
  subst e
  obtain ⟨u,u2,rfl,ru,ru2⟩:=vals2 r1
  cases ru
  cases ru2
  obtain ⟨its,rv,pl,hz⟩:=I1.list (SqL.of hl)
  obtain ⟨its2,rv2,pl2,hz2⟩:=I1.list (SqL.of hl2)
  refine call_zip_2 pl.isList pl2.isList fun h1 hz hI hO i1 i2 hsz hk => wpAny_pyIter_zip hz ?_
  have I2:Inv X pins σ H1 { s1 with heap:=h1 }:=I1.kept (t':=s1.toks) hk
  refine ⟨s1.heap.objs.size + 4,[s1.heap.objs.size + 4,s1.heap.objs.size + 2,s1.heap.objs.size + 3,s1.heap.objs.size,s1.heap.objs.size + 1],_,_,H1,rfl,I2,
    turn_zip l l2 _ _ _ _ _ (zapart s1.heap.objs.size),⟨hz,hI,⟨_,_,hO⟩,i1,i2⟩,fun b hb => ?_,q⟩
  have hle:s1.heap.objs.size <= b:=by
    simp only [List.mem_cons,List.not_mem_nil,or_false] at hb
    rcases hb with rfl | rfl | rfl | rfl | rfl
    . exact Nat.le_add_right _ _
    . exact Nat.le_add_right _ _
    . exact Nat.le_add_right _ _
    . exact Nat.le_refl _
    . exact Nat.le_add_right _ _
  exact I1.fpOk hle (I1.hok.fresh hle)
end
end L2
namespace L2
open PySem PySem.Spec PyProof.Rows
section
variable {X:Cx}
end
end L2
namespace L2
open PySem PySem.Spec PyProof.Rows
section
variable {X:Cx}
def rIsi (K:W.Frag):List V -> Hp -> VK -> Prop:=fun xs H Q => ∃ x T t b,xs = [x,.ty T] /\ TyOf K H x t /\ W.kitOne K t (.type T) = some b /\ Q (.bl b) H
theorem call_isi:CallR X (.builtin "isinstance") (rIsi X.K):=by
  intro pins s σ H xs us Q I r h
  obtain ⟨x,T,t,b,rfl,ty,k,q⟩:=h
  obtain ⟨u,u2,rfl,ru,ru2⟩:=vals2 r
  cases ru2
  exact isinst_ok I ru ty k fun tk => ⟨.bl b,H,I.tok tk,rfl,q⟩
theorem vals_bools:∀ {bs:List Bool} {us:List Value},Vals (bs.map V.bl) us -> LSm.BoolsAre us bs
  | [],_,.nil => .nil
  | _ :: _,_,.cons r t => by cases r; exact .cons _ (vals_bools t)
theorem vals_intsL:∀ {ns:List Int} {us:List Value},Vals (ns.map V.int) us -> IntsAre us ns
  | [],_,.nil => .nil
  | _ :: _,_,.cons r t => by obtain ⟨t',rfl⟩:=r; exact .cons _ _ (vals_intsL t)
def rAll (K:W.Frag):List V -> Hp -> VK -> Prop:=fun xs H Q => ∃ (a:Addr) (bs:List Bool),xs = [.ref a] /\ SqL K H a (bs.map V.bl) /\ Q (.bl (bs.all id)) H
theorem call_allL (hc:X.calm = true):CallR X (.builtin "all") (rAll X.K):=by
  intro pins s σ H xs us Q I r h
  obtain ⟨a,bs,rfl,hq,q⟩:=h
  obtain ⟨u,rfl,ru⟩:=vals1 r
  cases ru
  obtain ⟨its,rv,pl,hz⟩:=I.list hq
  have ba:=vals_bools rv
  have lt:a < s.heap.objs.size:=by obtain ⟨_,e,_⟩:=pl.isList; exact Heap.lt_size e
  refine call_all_walk (wpAny_pyIter_list pl.isList ⟨s.heap.objs.size,[s.heap.objs.size,a],[s.heap.objs.size],its.toArray.size,_,_,fun i => (bs[i]?).getD true,rfl,
    Walks.list (A:=X.A.in1) (I.ok.hd hc) _ a (Nat.ne_of_lt lt) its.toArray,⟨⟨_,Heap.get?_push_size _ rfl,rfl,rfl⟩,pl.isList.push _⟩,fun i v s' Q' E' hP hQ => ?_,fun h' tk hk => ?_⟩)
  . obtain ⟨b,e,rfl⟩:=ba.get i v (by simpa using hP)
    have hQ':Q' ((bs[i]?).getD true) s':=hQ
    rw [e] at hQ'
    exact wpAny_truthy_bool hQ'
  . have e:((List.range its.toArray.size).all fun i => (bs[i]?).getD true) = bs.all id:=by
      have:=LSm.range_all bs
      rw [<- ba.length] at this
      simpa using this
    rw [e]
    exact ⟨.bl _,H,I.kept (LSm.kept_iter hk),rfl,q⟩
def rSum (K:W.Frag):List V -> Hp -> VK -> Prop:=fun xs H Q => ∃ (a:Addr) (ns:List Int),xs = [.ref a] /\ SqL K H a (ns.map V.int) /\ Q (.int ns.sum) H
theorem call_sumL (hc:X.N = X.N):CallR X (.builtin "sum") (rSum X.K):=by
  intro pins s σ H xs us Q I r h
  obtain ⟨a,ns,rfl,hq,q⟩:=h
  obtain ⟨u,rfl,ru⟩:=vals1 r
  cases ru
  obtain ⟨its,rv,pl,hz⟩:=I.list hq
  have ia:=vals_intsL rv
  obtain ⟨ys,hy⟩:=ia.allInts.items
  have e1:=nums_intItems ys
  rw [<- hy,show numsOf its.toArray.toList = ns from ia.numsOf] at e1
  refine sum_q I.qu (hy ▸ pl.isList) fun h' tk t' hk => ⟨.int ns.sum,H,I.kept hk,⟨t',?_⟩,q⟩
  rw [preSum_eq,e1,List.take_of_length_le (by simp)]
end
end L2
namespace L2
open PySem PySem.Spec PyProof.Rows
noncomputable def pick (js:List Nat) (σ:St):St:=js.map fun j => (σ[j]?).join
noncomputable def cxG (X:Cx) (scope:Scope) (cl:List (Str × Addr)) (fp:List Addr) (N:List Str) (s:Shared) (H:Hp):Cx where
  prog:=X.prog
  w:=X.w
  K:=X.K
  mg:=X.mg
  base:=X.base
  A:=X.A
  N:=N
  s₀:=s
  HZ:=H
  env:=compEnvC scope cl s.heap.objs.size X.env
  outer:=X.stack
  stack:=X.stack
  ex:=fp
  fn:=fun _ => false
  calm:=X.calm
  pn:=[]
  xe:=fun _ _ => False
  hs:=X.hs
def PTs (X:Cx) (ifs:List Expr) (t:TT):Prop:=
  ∀ (pins:List (Addr × Obj)) (s:Shared) (σ:St) (H:Hp) (Q:Bool -> Hp -> Prop),Inv X pins σ H s -> t σ H Q ->
    wpAny (model X.prog X.w) X.A (forIn ifs true fun c r => if r = true then do let ok <- isTrue c X.env (eval c X.env); pure (ForInStep.yield ok) else pure (ForInStep.yield r)) (TP X pins σ Q) X.xe s
theorem pts_nil {X:Cx}:PTs X [] (fun _ H Q => Q true H):=fun pins s σ H Q I h => wpAny_tests_nil ⟨H,I,h⟩
theorem pts_one {X:Cx} {c:Expr} {t:TT} (h:PT X c t):PTs X [c] t:=fun pins s σ H Q I q => wpAny_tests_one (h pins s σ H Q I q)
def tCompG (wi:TI) (k:Nat) (js:List Nat) (g:TG) (tt:TT) (te:TE):TE:=fun σ H Q => wi σ H fun J H1 => ∀ D,H1 D = none -> ∃ W:Nat -> Nat -> List V -> Hp -> Prop,(∃ m,W 0 m [] (upd H1 D (.lst []))) /\ ∀ i m acc H2,W i m acc H2 -> H2 D = some (.lst acc) ->
  (J.stop i H2 /\ Q (.ref D) H2) \/ (J.go i H2 /\ ∀ y H3,J.yld i H2 y H3 -> ∀ old:St,old.length = k -> g y (old ++ pick js σ) H3 fun σ4 H4 => (∃ new:St,new.length = k /\ σ4 = new ++ pick js σ) /\ tt σ4 H4 fun b H5 =>
    if b = true then te σ4 H5 fun v H6 => H6 D = some (.lst acc) /\ acc.length < sizeLine /\ ∃ m',m' < m /\ W (i + 1) m' (acc ++ [v]) (upd H6 D (.lst (acc ++ [v])))
    else H5 D = some (.lst acc) /\ ∃ m',m' < m /\ W (i + 1) m' acc H5)
theorem compLoop_anyI {prog:Program} {w:World} {A:Around} {R:Result -> Shared -> Prop} {s:Shared} {elt tgt iter:Expr} {ifs:List Expr} {scope:Scope} {pos:Pos} {it acc:Value} {env:Env} (J:Nat -> Shared -> Prop)
    (turn:∀ n s,J n s -> wpAny (model prog w) A (pyNext it) (fun r s1 => match r with
      | none => R (.ok .next) s1
      | some v => wpAny (model prog w) A (letOwnedTupleGo tgt it v) (fun _ s2 => wpAny (model prog w) A (assign tgt env v) (fun _ s3 =>
          wpAny (model prog w) A (forIn ifs true fun c r => if r = true then do let ok <- isTrue c env (eval c env); pure (ForInStep.yield ok) else pure (ForInStep.yield r)) (fun b s3' =>
          if b = true then wpAny (model prog w) A (eval elt env) (fun y s4 => wpAny (model prog w) A (call (.builtin "list.append") [acc,y]) (fun _ s5 => ∃ m,m < n /\ J m s5) (fun _ _ => False) s4) (fun _ _ => False) s3'
          else ∃ m,m < n /\ J m s3') (fun _ _ => False) s3) (fun _ _ => False) s2) (fun _ _ => False) s1) (fun _ _ => False) s)
    (n:Nat) (h:J n s):codeAny (model prog w) A (.compLoop (.ListComp elt [⟨tgt,iter,ifs,0⟩] scope pos) 0 it acc env) R s:=by
  refine codeAny_loop rfl J (fun n' s' hJ => ?_) n h
  show wpAny _ _ ((compTurn (.ListComp elt [⟨tgt,iter,ifs,0⟩] scope pos) 0 it acc env).onRaise (fun z => do noteFrame z env; theTreesLotGoes z)) _ _ s'
  refine wpAny_noted ?_
  rw [compTurn_list]
  have nope:∀ {α:Type} {t:Sem α} {Q:α -> Shared -> Prop} {E:Value -> Shared -> Prop} {q:Shared},wpAny (model prog w) A t Q (fun _ _ => False) q -> wpAny (model prog w) A t Q E q:=fun h => wpAny_mono h (fun _ _ z => z) fun _ _ z => z.elim
  refine wpAny_bind (wpAny_standAt (wpAny_bind (wpAny_mono (nope (turn n' s' hJ)) (fun r s1 h1 => ?_) fun _ _ z => z)))
  cases r with
  | none => exact wpAny_pure h1
  | some v =>
    refine wpAny_bind (wpAny_mono (nope h1) (fun _ s2 h2 => ?_) fun _ _ z => z)
    refine wpAny_bind (wpAny_mono (nope h2) (fun _ s3 h3 => ?_) fun _ _ z => z)
    refine wpAny_bind (wpAny_mono (nope h3) (fun b s4 h4 => ?_) fun _ _ z => z)
    cases b with
    | true =>
      have h4':=(show wpAny _ _ _ _ _ s4 by simpa using h4)
      simp only [if_true]
      refine wpAny_bind (wpAny_bind (wpAny_mono (nope h4') (fun y s5 h5 => ?_) fun _ _ z => z))
      refine wpAny_bind (wpAny_mono (nope h5) (fun _ s6 h6 => ?_) fun _ _ z => z)
      exact wpAny_pure (wpAny_pure ⟨rfl,h6⟩)
    | false =>
      have h4':∃ m,m < n' /\ J m s4:=by simpa using h4
      simp only [Bool.false_eq_true,if_false]
      exact wpAny_bind (wpAny_pure (wpAny_pure ⟨rfl,h4'⟩))
section
variable {X:Cx}
theorem pick_get {js:List Nat} {σ:St} {i:Nat} {v:V} (h:(pick js σ)[i]? = some (some v)):∃ j,js[i]? = some j /\ σ[j]? = some (some v):=by
  unfold pick at h
  rw [List.getElem?_map] at h
  cases e:js[i]? with
  | none => rw [e] at h; cases h
  | some j =>
    rw [e] at h
    have h':(σ[j]?).join = some v:=Option.some.inj h
    refine ⟨j,rfl,?_⟩
    cases q:σ[j]? with
    | none => rw [q] at h'; cases h'
    | some o => rw [q] at h'; exact congrArg some h'
end
end L2
namespace L2
open PySem PySem.Spec PyProof.Rows
section
variable {X:Cx}
theorem comp_core {elt iter tgt:Expr} {ifs:List Expr} {scope:Scope} {pos:Pos} {cl:List (Str × Addr)} {tgs ns:List Str} {js:List Nat} {wi:TI} {g:TG} {tt:TT} {te:TE} (hc:X.N = X.N)
    (hi:PI X tgt iter wi) (hg:∀ (fp:List Addr) (s:Shared) (H:Hp),PG (cxG X scope cl fp (tgs ++ ns) s H) tgt g) (ht:∀ (fp:List Addr) (s:Shared) (H:Hp),PTs (cxG X scope cl fp (tgs ++ ns) s H) ifs tt)
    (he:∀ (fp:List Addr) (s:Shared) (H:Hp),PE (cxG X scope cl fp (tgs ++ ns) s H) elt te)
    (hclos:closureFor scope X.env = pure cl) (hsub:∀ x c,cl.lookup x = some c -> X.env.cells.lookup x = some c)
    (hhas:∀ x,((relabel scope X.env).names.lookup x = some .cell \/ (relabel scope X.env).names.lookup x = some .free) -> ∃ c,cl.lookup x = some c)
    (hjs:js.map (fun j => X.N[j]?) = ns.map some) (hin:∀ y ∈ ns,(relabel scope X.env).names.lookup y = some .cell \/ (relabel scope X.env).names.lookup y = some .free)
    (hout:∀ y ∈ ns,X.env.kindOf y = some .cell \/ X.env.kindOf y = some .free)
    (hcell:∀ y ∈ scope.names,y.2 ≠ .cell:=by decide +kernel) (hkind:scope.kind = .function:=by rfl)
    (hnames:∀ y ∈ scope.names,y.2 = .local -> scope.names.lookup y.1 = some .local:=by decide +kernel)
    (hs:∀ z,foldedSetIterable iter X.env z = pure z:=by intro _; rfl):
    ∀ (pos0:Pos) (pins:List (Addr × Obj)) (s:Shared) (σ:St) (H:Hp) (Q:VK) (I:Inv X pins σ H s) (h:tCompG wi tgs.length js g tt te σ H Q) (use:Option (Value -> Sem Unit)) (R:Value -> Shared -> Prop)
      (hfin:∀ (D C:Addr) (H':Hp) (s':Shared),Q (.ref D) H' -> FpOk X pins H' C -> (∃ m,s'.heap.Ns C m) -> (∀ h',Heap.SameBut C s'.heap h' -> Inv X pins σ H' { s' with heap:=h' }) -> compPost (model X.prog X.w) X.A X.xe use R (.ref D) C (.ok .next) s'),
      wpAny (model X.prog X.w) X.A (comprehension (.ListComp elt [⟨tgt,iter,ifs,0⟩] scope pos) scope X.env pos0 (newList []) false (eval iter X.env) use) R X.xe s:=by
  intro pos0 pins s σ H Q I h use R hfin
  refine wpAny_comprehension_free (use:=use) rfl hs hclos hkind hnames (thn (hi pins s σ H _ I h) fun v s1 h1 => thn h1 fun itv s2 h2 => ?_)
  obtain ⟨it,fp,tn,J,H2,rfl,I2,T,st2,f2,body⟩:=h2
  have hD:H2 s2.heap.objs.size = none:=I2.hok.fresh (Nat.le_refl _)
  obtain ⟨W,⟨m0,w0⟩,step⟩:=body _ hD
  refine wpAny_newObj_type (wpAny_newFunctionEnv hcell (by intro y hy; simp at hy) (fun g1 hns hsb => ?_) hkind) (by size_fits)
  dsimp only at hns hsb ⊢
  have I3:Inv X pins σ (upd H2 s2.heap.objs.size (.lst [])) { s2 with heap:=s2.heap.push { cls:=.type "list",dict:=none,data:=.seq ([]:List Value).toArray } }:=I2.lnew (t':=s2.toks) .nil (by simp)
  generalize hD':s2.heap.objs.size = D at *
  generalize hH3:upd H2 D (.lst []) = H3 at *
  generalize hS3:s2.heap.push { cls:=.type "list",dict:=none,data:=.seq ([]:List Value).toArray } = g3 at *
  have zs:g3.objs.size = D + 1:=by rw [<- hS3,Heap.size_push,hD']
  have f3:∀ b ∈ fp,FpOk X pins H3 b:=fun b hb => by
    obtain ⟨o,ho,_⟩:=T.obj _ _ st2 b hb
    have lt:=Heap.lt_size ho
    refine ⟨?_,(f2 b hb).2⟩
    rw [<- hH3,upd_ne (Nat.ne_of_lt (hD' ▸ lt))]
    exact (f2 b hb).1
  have ltf:∀ b ∈ fp,b < g3.objs.size:=fun b hb => by
    obtain ⟨o,ho,_⟩:=T.obj _ _ st2 b hb
    rw [zs]
    exact Nat.lt_succ_of_lt (hD' ▸ Heap.lt_size ho)
  have kept:∀ b o,g3.get? b = some o -> g1.get? b = some o:=fun b o e => hsb.extBut b o (Nat.ne_of_lt (Heap.lt_size e)) (Heap.get?_push_of_some _ e)
  have cne:∀ x c,cl.lookup x = some c -> c ≠ g3.objs.size:=fun x c e => by
    obtain ⟨v,q⟩:=I3.cell x c (hsub x c e)
    exact Nat.ne_of_lt q.lt
  have ok:(cxG X scope cl fp (tgs ++ ns) { s2 with heap:=g3 } H3).Ok:=by
    refine ⟨I.ok.mod,hkind,I.ok.glob,I.ok.blt,Nat.le_refl _,fun y z c e1 e2 => I.ok.inj y z c (hsub y c e1) (hsub z c e2),fun y hy => hhas y hy,fun y c e => (nomatch e),I.ok.hd,I.ok.frames,.inl rfl,
      fun b hb => ⟨Nat.ne_of_lt (ltf b hb),fun y c e => (f3 b hb).2.2.2.2.1 y c (hsub y c e)⟩,I3.bs,Nat.le_trans I.ok.bsz I3.sz,fun b o e hb => ?_,fun b hb => ?_,I3.stack,I3.stkFree,I.ok.hq⟩
    . rcases (f3 b hb).2.2.2.1 with q | q
      . exact I.ok.noex b o e q
      . exact absurd (Nat.lt_of_lt_of_le (Heap.lt_size (I.ok.bs b o e).1) q) (Nat.lt_irrefl _)
    . intro z
      rcases List.mem_cons.mp (I3.stkSub b z) with q | q
      . exact (f3 b hb).2.1 q
      . exact (f3 b hb).2.2.1 q
  have cells1:∀ x c,cl.lookup x = some c -> ∃ v,g1.IsCell c v:=fun x c e => by
    obtain ⟨v,o,ho,hd⟩:=I3.cell x c (hsub x c e)
    exact ⟨v,o,kept _ _ ho,hd⟩
  have J4:Inv (cxG X scope cl fp (tgs ++ ns) { s2 with heap:=g3 } H3) [] (List.replicate tgs.length none ++ pick js σ) H3 { s2 with heap:=g1,toks:=s2.toks + ([]:List (Str × Value)).length }:=by
    refine ⟨ok,rfl,I3.bare,Un.kept kept,⟨_,hns,fun i y v e1 e2 e3 => ?_⟩,fun y c e => cells1 y c e,I3.hok.fresh (Nat.le_refl _),fun y c e => I3.freeC y c (hsub y c e),fun p hp => absurd (show p ∈ ([]:List (Addr × Obj)) from hp) (by simp),I3.hok.kept kept,?_,I3.mild⟩
    . have hi2:tgs.length <= i:=by
        by_cases hlt:i < tgs.length
        . rw [List.getElem?_append_left (by simpa using hlt),List.getElem?_replicate,if_pos hlt] at e2
          cases e2
        . ac_rfl
      rw [List.getElem?_append_right (by simpa using hi2),List.length_replicate] at e2
      have e1':(tgs ++ ns)[i]? = some y:=e1
      rw [List.getElem?_append_right hi2] at e1'
      obtain ⟨j,hj,hσ⟩:=pick_get e2
      have hNj:X.N[j]? = some y:=by
        have:=congrArg (fun l => l[i - tgs.length]?) hjs
        simp only [List.getElem?_map,hj,e1',Option.map_some] at this
        exact Option.some.inj this
      have ym:y ∈ ns:=List.mem_of_getElem? e1'
      obtain ⟨m,hm,hl⟩:=I3.loc
      have vis:Vis X.env.scope y:=by
        rcases hout y ym with q | q
        . exact .inr (.inl q)
        . exact .inr (.inr q)
      obtain ⟨u,ru,lk⟩:=hl j y v hNj hσ vis
      refine ⟨u,ru,?_⟩
      rcases lk with ⟨q,_⟩ | ⟨_,c,hc1,hc2⟩
      . rcases hout y ym with z | z
        . rw [z] at q; cases q
        . rw [z] at q; cases q
      . obtain ⟨c',hc'⟩:=hhas y (hin y ym)
        have:=hsub y c' hc'
        rw [hc1] at this
        cases this
        obtain ⟨o,ho,hd⟩:=hc2
        exact .inr ⟨hin y ym,c,hc',o,kept _ _ ho,hd⟩
    . show _ = (tgs ++ ns).length
      have:=congrArg List.length hjs
      simp only [List.length_map] at this
      simp [pick,this]
  have st4:tn 0 g1:=T.keep 0 _ _ st2 fun b hb o e => kept b o (by rw [<- hS3]; exact Heap.get?_push_of_some _ e)
  have fin:∀ (H':Hp) (σ':St) (s':Shared),Inv (cxG X scope cl fp (tgs ++ ns) { s2 with heap:=g3 } H3) [] σ' H' s' -> Q (.ref D) H' -> compPost (model X.prog X.w) X.A X.xe use R (.ref D) g3.objs.size (.ok .next) s':=by
    intro H' σ' s' K q
    obtain ⟨m,hm,_⟩:=K.loc
    refine hfin D g3.objs.size H' s' q (I3.fpOk (Nat.le_refl _) K.free) ⟨m,hm⟩ fun h' hsb' => ?_
    have ne:∀ b o,g3.get? b = some o -> b ≠ g3.objs.size:=fun b o e => Nat.ne_of_lt (Heap.lt_size e)
    have B:Un (frs X.stack) fp H3 H' g3 s'.heap:=K.base
    refine I3.call' (s':={ s' with heap:=h' }) (ch:=fp) K.os ⟨fun b o e n hb hx => (hsb'.2 b (ne b o e)).trans (B.keep b o e n hb hx),fun b o e n hb hx => ?_,B.free,fun b o e hx => ?_,B.tups,B.frzs,B.tbls⟩ (fun b u e => ?_) K.bare (fun b hb => ?_)
    . obtain ⟨sl,e1⟩:=B.slot b o e n hb hx
      exact ⟨sl,(hsb'.2 b (ne b o e)).trans e1⟩
    . obtain ⟨o',e1⟩:=B.there b o e hx
      exact ⟨o',(hsb'.2 b (ne b o e)).trans e1⟩
    . have nC:∀ c v,H' c = some v -> c ≠ g3.objs.size:=fun c v e z => by
        have:H' g3.objs.size = none:=K.free
        rw [z,this] at e
        cases e
      refine (K.hok b u e).stay (fun c v hc q => (hsb'.2 c ?_).trans q) (fun _ q => q) (fun _ _ q => q) fun _ _ q => q
      rcases hc with z | z
      . rw [z]; exact nC b u e
      . exact nC c _ z
    . obtain ⟨_,q1,_,q3,q4,q5⟩:=f3 b hb
      exact ⟨q3,q1,q4,q5⟩
  have loop:codeAny (model X.prog X.w) X.A (.compLoop (.ListComp elt [⟨tgt,iter,ifs,0⟩] scope pos) 0 (.ref it) (.ref D) (compEnvC scope cl g3.objs.size X.env))
      (compPost (model X.prog X.w) X.A X.xe use R (.ref D) g3.objs.size) { s2 with heap:=g1,toks:=s2.toks + ([]:List (Str × Value)).length }:=by
    refine compLoop_anyI (fun n s' => ∃ i acc old H',Inv (cxG X scope cl fp (tgs ++ ns) { s2 with heap:=g3 } H3) [] (old ++ pick js σ) H' s' /\ old.length = tgs.length /\ tn i s'.heap /\ (∀ b ∈ fp,H' b = none) /\ H' D = some (.lst acc) /\ W i n acc H') ?_ m0
      ⟨0,[],List.replicate tgs.length none,H3,J4,by simp,st4,fun b hb => (f3 b hb).1,by rw [<- hH3]; exact upd_same,w0⟩
    rintro n s' ⟨i,acc,old,H',K,lo,st,fr,hDl,w⟩
    have fpk:∀ {H'':Hp},(∀ b ∈ fp,H'' b = none) -> ∀ b ∈ fp,FpOk (cxG X scope cl fp (tgs ++ ns) { s2 with heap:=g3 } H3) [] H'' b:=fun hn b hb =>
      ⟨hn b hb,Nat.ne_of_lt (ltf b hb),fun z => ok.exfs b hb z,.inl hb,fun y c e => (f3 b hb).2.2.2.2.1 y c (hsub y c e),fun p hp => absurd (show p ∈ ([]:List (Addr × Obj)) from hp) (by simp)⟩
    rcases step i n acc H' w hDl with ⟨stop,q⟩ | ⟨go,next⟩
    . refine thn (T.done (cxG X scope cl fp (tgs ++ ns) { s2 with heap:=g3 } H3) rfl rfl rfl rfl i [] s' _ H' _ K (fpk fr) st stop) fun r s1 ⟨hr,K1⟩ => ?_
      subst hr
      exact fin H' _ s1 K1 q
    . refine thn (T.item (cxG X scope cl fp (tgs ++ ns) { s2 with heap:=g3 } H3) rfl rfl rfl rfl i [] s' _ H' _ K (fpk fr) st go) fun r s1 ⟨u,hr,h4⟩ => ?_
      subst hr
      refine thn h4 fun _ s5 ⟨y,H5,K5,r5,y5,st5,fr5⟩ => ?_
      have K5':=K5.pinned (fpk fr5) (T.obj _ _ st5)
      refine thn (hg fp { s2 with heap:=g3 } H3 _ s5 _ H5 y u _ K5' r5 (next y H5 y5 old lo)) fun _ s6 ⟨σ6,H6,K6,⟨new,hnew,e6⟩,q6⟩ => ?_
      subst e6
      refine thn (ht fp { s2 with heap:=g3 } H3 _ s6 _ H6 _ K6 q6) fun b s6' ⟨H6',K6',q6'⟩ => ?_
      have again:∀ {s8:Shared} {H8:Hp} {acc':List V} {m':Nat},Inv (cxG X scope cl fp (tgs ++ ns) { s2 with heap:=g3 } H3) ([] ++ pinsAt fp s5.heap) (new ++ pick js σ) H8 s8 -> H8 D = some (.lst acc') -> m' < n -> W (i + 1) m' acc' H8 ->
          ∃ m,m < n /\ ∃ i acc old H',Inv (cxG X scope cl fp (tgs ++ ns) { s2 with heap:=g3 } H3) [] (old ++ pick js σ) H' s8 /\ old.length = tgs.length /\ tn i s8.heap /\ (∀ b ∈ fp,H' b = none) /\ H' D = some (.lst acc) /\ W i m acc H':=by
        intro s8 H8 acc' m' K8 h8 hm' w8
        refine ⟨m',hm',i + 1,acc',new,H8,K8.unpinned,hnew,T.keep _ _ _ st5 fun b hb o e => (K8.pin (b,o) (List.mem_append_right _ (List.mem_append_right _ (mem_pinsAt hb e)))).1,fun b hb => ?_,h8,w8⟩
        obtain ⟨o,e,d⟩:=T.obj _ _ st5 b hb
        exact (K8.pin (b,o) (List.mem_append_right _ (List.mem_append_right _ (mem_pinsAt hb e)))).2.1
      cases b with
      | true =>
        refine iteT ?_
        rw [if_pos rfl] at q6'
        refine thn (he fp { s2 with heap:=g3 } H3 _ s6' _ H6' _ K6' q6') fun vv s7 ⟨v,H7,K7,r7,hD7,hlen,m',hm',w7⟩ => ?_
        refine thn (mt_append (X:=cxG X scope cl fp (tgs ++ ns) { s2 with heap:=g3 } H3) _ s7 _ H7 (.ref D) [v] (.ref D) [vv] (fun _ H8 => H8 = upd H7 D (.lst (acc ++ [v]))) K7 rfl (.cons r7 .nil) ⟨D,acc,v,rfl,rfl,hD7,hlen,rfl⟩) fun _ s8 ⟨_,H8,K8,_,e8⟩ => ?_
        subst e8
        exact again K8 upd_same hm' w7
      | false =>
        refine iteF ?_
        have q6f:H6' D = some (.lst acc) /\ ∃ m',m' < n /\ W (i + 1) m' acc H6':=by simpa using q6'
        obtain ⟨hD7,m',hm',w7⟩:=q6f
        exact again K6' hD7 hm' w7
  exact codeAny_compStart_list loop (T.self _ 0 _ _ _ st4 loop)
theorem pe_compG {elt iter tgt:Expr} {ifs:List Expr} {scope:Scope} {pos:Pos} {cl:List (Str × Addr)} {tgs ns:List Str} {js:List Nat} {wi:TI} {g:TG} {tt:TT} {te:TE} (hc:X.N = X.N)
    (hi:PI X tgt iter wi) (hg:∀ (fp:List Addr) (s:Shared) (H:Hp),PG (cxG X scope cl fp (tgs ++ ns) s H) tgt g) (ht:∀ (fp:List Addr) (s:Shared) (H:Hp),PTs (cxG X scope cl fp (tgs ++ ns) s H) ifs tt)
    (he:∀ (fp:List Addr) (s:Shared) (H:Hp),PE (cxG X scope cl fp (tgs ++ ns) s H) elt te)
    (hclos:closureFor scope X.env = pure cl) (hsub:∀ x c,cl.lookup x = some c -> X.env.cells.lookup x = some c)
    (hhas:∀ x,((relabel scope X.env).names.lookup x = some .cell \/ (relabel scope X.env).names.lookup x = some .free) -> ∃ c,cl.lookup x = some c)
    (hjs:js.map (fun j => X.N[j]?) = ns.map some) (hin:∀ y ∈ ns,(relabel scope X.env).names.lookup y = some .cell \/ (relabel scope X.env).names.lookup y = some .free)
    (hout:∀ y ∈ ns,X.env.kindOf y = some .cell \/ X.env.kindOf y = some .free)
    (hcell:∀ y ∈ scope.names,y.2 ≠ .cell:=by decide +kernel) (hkind:scope.kind = .function:=by rfl)
    (hnames:∀ y ∈ scope.names,y.2 = .local -> scope.names.lookup y.1 = some .local:=by decide +kernel)
    (hs:∀ z,foldedSetIterable iter X.env z = pure z:=by intro _; rfl):
    PE X (.ListComp elt [⟨tgt,iter,ifs,0⟩] scope pos) (tCompG wi tgs.length js g tt te):=by
  intro pins s σ H Q I h
  rw [eval_ListComp]
  refine comp_core hc hi hg ht he hclos hsub hhas hjs hin hout hcell hkind hnames hs _ pins s σ H Q I h none _ ?_
  intro D C H' s' q fp hm inv
  obtain ⟨m,hm⟩:=hm
  exact ⟨m,hm,fun h' hs' => ⟨.ref D,H',inv h' hs',rfl,q⟩⟩
theorem ps_compG {y:Str} {py spos:Pos} {iy:Nat} {elt iter tgt:Expr} {ifs:List Expr} {scope:Scope} {pos:Pos} {cl:List (Str × Addr)} {tgs ns:List Str} {js:List Nat} {wi:TI} {g:TG} {tt:TT} {te:TE} (hN:X.N.Nodup) (hi2:X.N[iy]? = some y) (hx2:Loc X.env.scope y) (hc:X.N = X.N)
    (hi:PI X tgt iter wi) (hg:∀ (fp:List Addr) (s:Shared) (H:Hp),PG (cxG X scope cl fp (tgs ++ ns) s H) tgt g) (ht:∀ (fp:List Addr) (s:Shared) (H:Hp),PTs (cxG X scope cl fp (tgs ++ ns) s H) ifs tt)
    (he:∀ (fp:List Addr) (s:Shared) (H:Hp),PE (cxG X scope cl fp (tgs ++ ns) s H) elt te)
    (hclos:closureFor scope X.env = pure cl) (hsub:∀ x c,cl.lookup x = some c -> X.env.cells.lookup x = some c)
    (hhas:∀ x,((relabel scope X.env).names.lookup x = some .cell \/ (relabel scope X.env).names.lookup x = some .free) -> ∃ c,cl.lookup x = some c)
    (hjs:js.map (fun j => X.N[j]?) = ns.map some) (hin:∀ y ∈ ns,(relabel scope X.env).names.lookup y = some .cell \/ (relabel scope X.env).names.lookup y = some .free)
    (hout:∀ y ∈ ns,X.env.kindOf y = some .cell \/ X.env.kindOf y = some .free)
    (hcell:∀ y ∈ scope.names,y.2 ≠ .cell:=by decide +kernel) (hkind:scope.kind = .function:=by rfl)
    (hnames:∀ y ∈ scope.names,y.2 = .local -> scope.names.lookup y.1 = some .local:=by decide +kernel)
    (hs:∀ z,foldedSetIterable iter X.env z = pure z:=by intro _; rfl)
    (hsw:swapsWith (.ListComp elt [⟨tgt,iter,ifs,0⟩] scope pos) (some (.Name y py)) spos.line X.env = pure true:=by rfl) (hf:X.fn y = true \/ X.env.scope.names.lookup y = some .local:=by first | exact .inl rfl | exact .inr rfl | assumption):
    PS X (.Assign [.Name y py] (.ListComp elt [⟨tgt,iter,ifs,0⟩] scope pos) spos) (tAsg (tCompG wi tgs.length js g tt te) (gName iy)):=by
  intro pins s σ H D I h
  rw [exec_Assign_Name_used _ _ _ _ hsw]
  refine wpAny_bind (wpAny_standAt (wpAny_bind ?_))
  show wpAny _ X.A (do let _ <- comprehension (.ListComp elt [⟨tgt,iter,ifs,0⟩] scope pos) scope X.env _ (newList []) false (eval iter X.env) (some (assign (.Name y py) X.env))) _ _ s
  refine wpAny_bind (wpAny_mono (comp_core hc hi hg ht he hclos hsub hhas hjs hin hout hcell hkind hnames hs _ pins s σ H _ I h (some (assign (.Name y py) X.env)) (fun _ s' => SP X pins D .next s') ?_) (fun _ s' hq => wpAny_pure (wpAny_pure hq)) fun _ _ e => e)
  intro E C H' s' q fp ⟨m,hm⟩ inv
  have I1:Inv X pins σ H' s':=inv s'.heap ⟨rfl,fun _ _ => rfl⟩
  show wpAny _ X.A (assign (.Name y py) X.env (.ref E)) _ _ _
  refine wpAny_assign_Name (store_ok2 I1 hN hi2 hx2 (v:=.ref E) rfl (fun s2 I2 hsb => ?_) hf)
  obtain ⟨a,hsb,ha⟩:=hsb
  have aC:a ≠ C:=by
    rcases ha with ha | ha
    . rw [ha]; exact Ne.symm fp.2.1
    . exact fp.2.2.2.2.1 _ _ ha
  refine ⟨m,hm.sameBut hsb (Ne.symm aC),fun h' hs' => ⟨_,H',?_,q⟩⟩
  refine I2.call' (s':={ s2 with heap:=h' }) (ch:=[C]) rfl ⟨fun b o e n hb hx => ?_,fun b o e n hb hx => ?_,fun b o e n hx => n,fun b o e hx => ?_,fun _ _ e => e,fun _ _ _ e => e,fun b ps e => ⟨#[],by simpa using e⟩⟩ ?_ I2.bare ?_
  . exact hs'.extBut b o (by simpa using hx) e
  . exact ⟨o.slots,hs'.extBut b o (by simpa using hx) e⟩
  . exact ⟨o,hs'.extBut b o (by simpa using hx) e⟩
  . have nC:∀ c v,H' c = some v -> c ≠ C:=fun c v e z => by
      rw [z,fp.1] at e
      cases e
    intro b u e
    refine (I2.hok b u e).stay (fun c v hc q => (hs'.2 c ?_).trans q) (fun _ q => q) (fun _ _ q => q) fun _ _ q => q
    rcases hc with z | z
    . rw [z]; exact nC b u e
    . exact nC c _ z
  . intro b hb
    obtain rfl:b = C:=by simpa using hb
    exact ⟨fp.2.2.2.1,fp.2.1,fp.2.2.2.2.1,fp.2.2.2.2.2⟩
end
end L2
namespace L2
open PySem PySem.Spec PyProof.Rows
section
variable {κ:Type} [DecidableEq κ]
noncomputable def valV (kvs:List (κ × V)) (k:κ):Option V:=(kvs.find? fun kv => decide (kv.1 = k)).map (·.2)
noncomputable def putK (kvs:List (κ × V)) (k:κ) (v:V):List (κ × V):=
  if (kvs.any fun kv => decide (kv.1 = k)) = true then kvs.map (fun kv => if kv.1 = k then (kv.1,v) else kv) else kvs ++ [(k,v)]
theorem valV_pos {p:κ × V} {r:List (κ × V)} {k:κ} (e:p.1 = k):valV (p :: r) k = some p.2:=by simp [valV,List.find?_cons,e]
theorem valV_neg {p:κ × V} {r:List (κ × V)} {k:κ} (e:¬ p.1 = k):valV (p :: r) k = valV r k:=by simp [valV,List.find?_cons,e]
theorem valV_any (k:κ):∀ kvs:List (κ × V),(kvs.any fun kv => decide (kv.1 = k)) = (valV kvs k).isSome
  | [] => rfl
  | p :: r => by
    rw [List.any_cons]
    by_cases e:p.1 = k
    . simp only [valV_pos e,decide_eq_true e,Bool.true_or,Option.isSome_some]
    . rw [valV_neg e,decide_eq_false e,Bool.false_or]; exact valV_any k r
theorem length_putK (kvs:List (κ × V)) (k:κ) (v:V):(putK kvs k v).length <= kvs.length + 1:=by
  unfold putK
  split
  . rw [List.length_map]; ac_rfl
  . rw [List.length_append,List.length_cons,List.length_nil]; ac_rfl
theorem RelO.isSome_eq {o:Option V} {u:Option Value} (r:RelO o u):o.isSome = u.isSome:=by
  cases o with
  | none => cases u with
    | none => rfl
    | some _ => exact (show False from r).elim
  | some _ => cases u with
    | none => exact (show False from r).elim
    | some _ => rfl
theorem KV.val {kvs:List (κ × V)} {vs:List (κ × Value)} (r:KV kvs vs) (k:κ):RelO (valV kvs k) (valueAt vs k):=by
  unfold KV at r
  induction r with
  | nil => exact True.intro
  | @cons p q ps qs h t ih =>
    obtain ⟨h1,h2⟩:=h
    by_cases e:p.1 = k
    . have e':q.1 = k:=h1.symm.trans e
      have b:valueAt (q :: qs) k = some q.2:=by simp [valueAt,List.find?_cons,e']
      rw [valV_pos e,b]; exact h2
    . have e':¬ q.1 = k:=fun z => e (h1.trans z)
      have b:valueAt (q :: qs) k = valueAt qs k:=by simp [valueAt,List.find?_cons,e']
      rw [valV_neg e,b]; exact ih
theorem KV.any {kvs:List (κ × V)} {vs:List (κ × Value)} (r:KV kvs vs) (k:κ):(kvs.any fun kv => decide (kv.1 = k)) = vs.any fun kv => decide (kv.1 = k):=by
  unfold KV at r
  induction r with
  | nil => rfl
  | cons h t ih => rw [List.any_cons,List.any_cons,ih,h.1]
theorem KV.repl {kvs:List (κ × V)} {vs:List (κ × Value)} (r:KV kvs vs) (k:κ) {y:V} {u:Value} (ry:RelV y u):
    KV (kvs.map fun kv => if kv.1 = k then (kv.1,y) else kv) (vs.map fun kv => if kv.1 = k then (kv.1,u) else kv):=by
  unfold KV at r ⊢
  induction r with
  | nil => exact .nil
  | @cons p q ps qs h t ih =>
    rw [List.map_cons,List.map_cons]
    refine .cons ?_ ih
    obtain ⟨h1,h2⟩:=h
    by_cases e:p.1 = k
    . rw [if_pos e,if_pos (h1.symm.trans e)]; exact ⟨h1,ry⟩
    . rw [if_neg e,if_neg (fun z => e (h1.trans z))]; exact ⟨h1,h2⟩
theorem KV.put {kvs:List (κ × V)} {vs:List (κ × Value)} (r:KV kvs vs) (k:κ) {y:V} {u:Value} (ry:RelV y u):KV (putK kvs k y) (stored vs k u):=by
  unfold putK stored
  rw [r.any k]
  by_cases e:(vs.any fun kv => decide (kv.1 = k)) = true
  . rw [if_pos e,if_pos e]; exact r.repl k ry
  . rw [if_neg e,if_neg e]; exact Paired.snoc r ⟨rfl,ry⟩
theorem KV.length {kvs:List (κ × V)} {vs:List (κ × Value)} (r:KV kvs vs):kvs.length = vs.length:=Paired.length r
end
theorem kV_is {P:Program} {w:World} {k:Key} {u:Value} (r:RelV (kV k) u):(mixKind P w).is k u = true:=by
  cases k with
  | inl i => obtain ⟨t,e⟩:=(show ∃ t,u = Value.int i t from r); subst e; exact mixKind_int P w i t
  | inr x => obtain ⟨t,e⟩:=(show ∃ t,u = Value.str x t from r); subst e; exact mixKind_str P w x t
theorem items_are {P:Program} {w:World}:∀ {ks:List Key} {us:List Value},Vals (ks.map kV) us -> ItemsAre (mixKind P w) ks us
  | [],_,r => by rw [List.map_nil] at r; cases r; exact .nil
  | k :: ks,_,r => by
    rw [List.map_cons] at r
    cases r with
    | cons h t => exact .cons (kV_is h) (items_are t)
abbrev KT (H:Hp):List (List Key × V) -> List (List Key × Addr × Value) -> Prop:=Paired fun p q => p.1 = q.1 /\ H q.2.1 = some (.tup (p.1.map kV)) /\ RelV p.2 q.2.2
theorem KT.val {H:Hp} {kvs:List (List Key × V)} {xs:List (List Key × Addr × Value)} (r:KT H kvs xs) (k:List Key):RelO (valV kvs k) ((atKey xs k).map (·.2)):=by
  induction r with
  | nil => exact True.intro
  | @cons p q ps qs h t ih =>
    obtain ⟨h1,_,h2⟩:=h
    by_cases e:p.1 = k
    . have e':q.1 = k:=h1.symm.trans e
      have b:atKey (q :: qs) k = some q.2:=by simp [atKey,List.find?_cons,e']
      rw [valV_pos e,b]; exact h2
    . have e':¬ q.1 = k:=fun z => e (h1.trans z)
      have b:atKey (q :: qs) k = atKey qs k:=by simp [atKey,List.find?_cons,e']
      rw [valV_neg e,b]; exact ih
theorem KT.repl {H:Hp} {kvs:List (List Key × V)} {xs:List (List Key × Addr × Value)} (r:KT H kvs xs) (k:List Key) {y:V} {u:Value} (ry:RelV y u):
    KT H (kvs.map fun kv => if kv.1 = k then (kv.1,y) else kv) (xs.map (putAt k u)):=by
  induction r with
  | nil => exact .nil
  | @cons p q ps qs h t ih =>
    rw [List.map_cons,List.map_cons]
    refine .cons ?_ ih
    obtain ⟨h1,h2,h3⟩:=h
    unfold putAt
    by_cases e:p.1 = k
    . rw [if_pos e,if_pos (h1.symm.trans e)]; exact ⟨h1,h2,ry⟩
    . rw [if_neg e,if_neg (fun z => e (h1.trans z))]; exact ⟨h1,h2,h3⟩
theorem KT.put {H:Hp} {kvs:List (List Key × V)} {xs:List (List Key × Addr × Value)} (r:KT H kvs xs) (k:List Key) {b:Addr} {y:V} {u:Value} (hb:H b = some (.tup (k.map kV))) (ry:RelV y u):
    KT H (putK kvs k y) (storedH xs k b u):=by
  have e:(kvs.any fun kv => decide (kv.1 = k)) = (atKey xs k).isSome:=by
    rw [valV_any,(r.val k).isSome_eq,Option.isSome_map]
  unfold putK storedH
  rw [e]
  by_cases q:(atKey xs k).isSome = true
  . rw [if_pos q,if_pos q]; exact r.repl k ry
  . rw [if_neg q,if_neg q]; exact Paired.snoc r ⟨rfl,hb,ry⟩
theorem KT.keeps {H H':Hp} {kvs:List (List Key × V)} {xs:List (List Key × Addr × Value)} (r:KT H kvs xs) (ht:∀ b ys,H b = some (.tup ys) -> H' b = some (.tup ys)):KT H' kvs xs:=
  Paired.mapP r fun _ _ z => ⟨z.1,ht _ _ z.2.1,z.2.2⟩
section
variable {P:Program} {w:World} {H:Hp} {h:Heap} {a:Addr}
theorem rd_of {u:HO} (ok:HOk P w H h) (e:Rd H a u):ObjOk P w H h a u:=e.ok ok
theorem dk_rd {kvs:List (Key × V)} (ok:HOk P w H h) (e:Rd H a (.dK kvs)):kvs.length <= sizeLine /\ (a == sysModules) = false /\ ∃ vs,KV kvs vs /\ h.DictOf (mixKind P w) a vs:=
  show ObjOk P w H h a (.dK kvs) from rd_of ok e
theorem dk_of {kvs:List (Key × V)} (ok:HOk P w H h) (e:H a = some (.dK kvs)):kvs.length <= sizeLine /\ (a == sysModules) = false /\ ∃ vs,KV kvs vs /\ h.DictOf (mixKind P w) a vs:=dk_rd ok (.inl e)
theorem key_of {ks:List Key} (ok:HOk P w H h) (e:H a = some (.tup (ks.map kV))):(tupleKind (mixKind P w)).is h ks a:=by
  obtain ⟨_,its,r,o,h1,h2,n,h3⟩:=(show ObjOk P w H h a (.tup (ks.map kV)) from ok a _ e)
  exact ⟨o,its.toArray,n,h1,h2,h3,by simpa using items_are r⟩
theorem dt_rd {ep:Nat} {kvs:List (List Key × V)} (ok:HOk P w H h) (e:Rd H a (.dT ep kvs)):kvs.length <= sizeLine /\ (a == sysModules) = false /\
    ∃ xs,KT H kvs xs /\ h.DictOfH (tupleKind (mixKind P w)) a xs:=by
  obtain ⟨z,y,xs,r,o,es,h1,h2,h3,h4,h5⟩:=(show ObjOk P w H h a (.dT ep kvs) from rd_of ok e)
  refine ⟨z,y,xs,r,o,es,ep,h1,h2,h3,h4,fun x hx => ?_,h5⟩
  have all:∀ {l:List (List Key × V)} {m:List (List Key × Addr × Value)},KT H l m -> ∀ x ∈ m,(tupleKind (mixKind P w)).is h x.1 x.2.1:=by
    intro l m q
    induction q with
    | nil => intro x hx; exact nomatch hx
    | @cons p q ps qs hq t ih =>
      intro x hx
      rcases List.mem_cons.mp hx with e | hx
      . subst e
        exact key_of ok (by rw [<- hq.1]; exact hq.2.1)
      . exact ih x hx
  exact all r x hx
theorem dt_of {ep:Nat} {kvs:List (List Key × V)} (ok:HOk P w H h) (e:H a = some (.dT ep kvs)):kvs.length <= sizeLine /\ (a == sysModules) = false /\
    ∃ xs,KT H kvs xs /\ h.DictOfH (tupleKind (mixKind P w)) a xs:=dt_rd ok (.inl e)
end
def DGet (H:Hp) (a:Addr) (y:V) (r:Option V):Prop:=
  (∃ kvs k,Rd H a (.dK kvs) /\ y = kV k /\ r = valV kvs k) \/ ∃ ep kvs k b,Rd H a (.dT ep kvs) /\ y = .ref b /\ H b = some (.tup (k.map kV)) /\ r = valV kvs k
def DPut (H:Hp) (a:Addr) (y v:V) (R:Hp -> Prop):Prop:=
  (∃ kvs k,H a = some (.dK kvs) /\ y = kV k /\ kvs.length < sizeLine /\ R (upd H a (.dK (putK kvs k v)))) \/
  ∃ ep kvs k b,H a = some (.dT ep kvs) /\ y = .ref b /\ H b = some (.tup (k.map kV)) /\ kvs.length < sizeLine /\ ∀ ep',R (upd H a (.dT ep' (putK kvs k v)))
theorem DGet.k {H:Hp} {a:Addr} {kvs:List (Key × V)} {k:Key} (e:H a = some (.dK kvs)):DGet H a (kV k) (valV kvs k):=.inl ⟨kvs,k,.inl e,rfl,rfl⟩
theorem DGet.t {H:Hp} {a b:Addr} {ep:Nat} {kvs:List (List Key × V)} {k:List Key} (e:H a = some (.dT ep kvs)) (eb:H b = some (.tup (k.map kV))):DGet H a (.ref b) (valV kvs k):=.inr ⟨ep,kvs,k,b,.inl e,rfl,eb,rfl⟩
theorem DPut.t {H:Hp} {a b:Addr} {ep:Nat} {kvs:List (List Key × V)} {k:List Key} {v:V} {R:Hp -> Prop} (e:H a = some (.dT ep kvs)) (eb:H b = some (.tup (k.map kV))) (hl:kvs.length < sizeLine) (r:∀ ep',R (upd H a (.dT ep' (putK kvs k v)))):DPut H a (.ref b) v R:=.inr ⟨ep,kvs,k,b,e,rfl,eb,hl,r⟩
section
variable {X:Cx} {pins:List (Addr × Obj)} {σ:St} {H:Hp} {s:Shared} {a:Addr} {y v:V} {u r:Value} {o:Option V} {A:Around} {E:Value -> Shared -> Prop}
theorem Inv.big (I:Inv X pins σ H s):sysModules < s.heap.objs.size:=by
  have h:mainGlobals < s.heap.objs.size:=(I.mod.glob.keeps I.bk).lt
  exact Nat.lt_trans (by decide) h
theorem d_getItem {Q:Value -> Shared -> Prop} (hu:A.units + 1 < cLine) (I:Inv X pins σ H s) (g:DGet H a y (some v)) (ry:RelV y u) (h:∀ w' s',Inv X pins σ H s' -> RelV v w' -> Q w' s'):
    wpAny (model X.prog X.w) A (getItem (.ref a) u) Q E s:=by
  rcases g with ⟨kvs,k,e,ey,l⟩ | ⟨_,kvs,k,b,e,ey,eb,l⟩
  . subst ey
    obtain ⟨z,hd,vs,rel,dd⟩:=dk_rd I.hok e
    obtain ⟨w',hw,rw'⟩:=RelO.some_of (v:=v) (o:=valueAt vs k) (by rw [l]; exact rel.val k)
    exact wpAny_getItem_of (kV_is ry) dd.mapOf hw (h w' _ (I.tok _) rw')
  . subst ey
    cases (show u = Value.ref b from ry)
    obtain ⟨z,hd,xs,rel,dd⟩:=dt_rd I.hok e
    obtain ⟨w',hw,rw'⟩:=RelO.some_of (v:=v) (o:=(atKey xs k).map (·.2)) (by rw [l]; exact rel.val k)
    obtain ⟨p,hp,hp2⟩:=Option.map_eq_some_iff.mp hw
    refine wpAny_getItem_heap (tupleKind_room_in1 hu) (key_of I.hok eb) dd hp ?_
    rw [hp2]
    exact h w' _ (I.tok _) rw'
theorem d_write {h':Heap} {t':Nat} {ob:HO} (I:Inv X pins σ H s) (mu:Mut (H a)) (hs:Heap.SameBut a s.heap h') (he:∃ q,h'.get? a = some q) (new:ObjOk X.prog X.w (upd H a ob) h' a ob):
    Inv X pins σ (upd H a ob) { s with heap:=h',toks:=t' }:=
  I.write (x:=a) (e:=a) mu (.inl rfl) (fun b q hb z => (hs.2 b hb).trans z) he new
theorem dk_new {P:Program} {w:World} {H':Hp} {h':Heap} {kvs:List (Key × V)} {vs:List (Key × Value)} (z:kvs.length <= sizeLine) (hd:(a == sysModules) = false) (rel:KV kvs vs) (dd:h'.DictOf (mixKind P w) a vs):
    ObjOk P w H' h' a (.dK kvs):=⟨z,hd,vs,rel,dd⟩
theorem d_setItem {R:Hp -> Prop} {Q:Unit -> Shared -> Prop} (hu:A.units + 1 < cLine) (I:Inv X pins σ H s) (g:DPut H a y v R) (ry:RelV y u) (rv:RelV v r) (h:∀ H' s',R H' -> Inv X pins σ H' s' -> Q () s'):
    wpAny (model X.prog X.w) A (setItem (.ref a) u r) Q E s:=by
  rcases g with ⟨kvs,k,e,ey,l,eH⟩ | ⟨ep0,kvs,k,b,e,ey,eb,l,eH⟩
  . subst ey
    obtain ⟨z,hd,vs,rel,dd⟩:=dk_of I.hok e
    have hz:vs.length <= sizeLine:=by rw [<- rel.length]; exact z
    have hl:(putK kvs k v).length <= sizeLine:=by have:=length_putK kvs k v; ac_rfl
    refine wpAny_setItem_pairs (hsz:=hz) (kV_is ry) dd fun h' dd' hs => h _ _ eH ?_
    have he:∃ q,h'.get? a = some q:=let ⟨q,_,_,hq,_⟩:=dd'; ⟨q,hq⟩
    exact d_write I (by rw [e]; exact True.intro) hs he (dk_new hl hd (rel.put k rv) dd')
  . subst ey
    cases (show u = Value.ref b from ry)
    obtain ⟨z,hd,xs,rel,dd⟩:=dt_of I.hok e
    have hz:xs.length <= sizeLine:=by rw [<- Paired.length rel]; exact z
    have hl:(putK kvs k v).length <= sizeLine:=by have:=length_putK kvs k v; ac_rfl
    refine wpAny_setItem_heap (hsz:=hz) (tupleKind_room_in1 hu) (key_of I.hok eb) dd fun h' dd' hs => ?_
    obtain ⟨q,es,ep,hq,h2,h3,h4,_,h5⟩:=dd'
    refine h _ _ (eH ep) ?_
    refine d_write I (by rw [e]; exact True.intro) hs ⟨q,hq⟩ ⟨hl,hd,_,(rel.put k eb rv).keeps fun c ys ec => ?_,q,es,hq,h2,h3,h4,h5⟩
    rw [upd_ne (ne_of ec e (fun z => nomatch z))]
    exact ec
end
section
variable {X:Cx} {pins:List (Addr × Obj)} {σ:St} {H:Hp} {s:Shared} {a:Addr} {kvs:List (Key × V)} {k:Key} {u:Value} {A:Around} {E:Value -> Shared -> Prop}
theorem d_len {Q:Value -> Shared -> Prop} (I:Inv X pins σ H s) (e:Rd H a (.dK kvs)) (h:∀ t s',Inv X pins σ H s' -> Q (.int kvs.length t) s'):wpAny (model X.prog X.w) A (call (.builtin "len") [.ref a]) Q E s:=by
  obtain ⟨z,hd,vs,rel,dd⟩:=dk_rd I.hok e
  refine call_len_dict hd dd (by rw [<- rel.length]; rw [sizeLine_eq] at z; ac_rfl) ?_
  rw [<- rel.length]
  exact h _ _ (I.tok _)
end
theorem dict_typeIs {X:Cx} {pins:List (Addr × Obj)} {σ:St} {H:Hp} {s:Shared} {a:Addr} {y:V} {o:Option V} (I:Inv X pins σ H s) (g:DGet H a y o):s.TypeIs (.ref a) "dict" := by
  rcases g with ⟨kvs,k,e,_,_⟩ | ⟨_,kvs,k,b,e,_,_,_⟩
  . obtain ⟨_,_,vs,_,dd⟩:=dk_rd I.hok e
    exact dd.typeIs
  . obtain ⟨_,_,xs,_,dd⟩:=dt_rd I.hok e
    exact dd.typeIs
def sDPut (td ty tv:TE):TS:=fun D σ H => tv σ H fun v H1 => td σ H1 fun x H2 => ty σ H2 fun y H3 => ∃ a,x = .ref a /\ DPut H3 a y v (D.nx σ)
section
variable {X:Cx} {o i e value:Expr} {pos pos' tpos:Pos} {td ty tv:TE}
theorem ps_dput (hu:X.A.units + 1 < cLine) (ho:PE X o td) (hi:PE X i ty) (hv:PE X value tv) (hs:swapsWith value (some (.Subscript o i pos')) pos.line X.env = pure false):
    PS X (.Assign [.Subscript o i pos'] value pos) (sDPut td ty tv):=by
  intro pins s σ H D I h
  refine wpAny_Assign_Subscript (thn (hv pins s σ H _ I h) fun r s1 ⟨v,H1,I1,rv,q1⟩ => thn (ho pins s1 σ H1 _ I1 q1) fun u s2 ⟨x,H2,I2,rx,q2⟩ => thn (hi pins s2 σ H2 _ I2 q2) fun iv s3 ⟨y,H3,I3,ry,a,ex,g⟩ => ?_) hs
  subst ex
  obtain rfl:u = Value.ref a:=rx
  exact d_setItem hu I3 g ry rv fun H4 s4 q3 I4 => ⟨σ,H4,I4,q3⟩
end
theorem dt_empty {P:Program} {w:World} {H:Hp} (h:Heap) (hb:sysModules < h.objs.size):ObjOk P w H (h.push { cls:=.type "dict",data:=.dict #[] }) h.objs.size (.dT 0 []):=
  ⟨Nat.zero_le _,beq_eq_false_iff_ne.mpr (Ne.symm (Nat.ne_of_lt hb)),[],.nil,_,#[],Heap.get?_push_size _ rfl,⟨rfl,rfl,rfl⟩,rfl,rfl,List.nodup_nil⟩
def tDNewT:TE:=fun _ H Q => ∀ p,H p = none -> Q (.ref p) (upd H p (.dT 0 []))
section
variable {X:Cx} {pos:Pos}
theorem pe_dnewT:PE X (.Dict [] [] pos) tDNewT:=fun pins s σ H Q I h =>
  wpAny_Dict_empty ⟨.ref s.heap.objs.size,_,I.laid (a:=s.heap.objs.size) (o:=.dT 0 []) (t':=s.toks) (fun _ _ q => Heap.get?_push_of_some _ q) (Nat.le_refl _) (dt_empty s.heap I.big),rfl,h _ (I.hok.fresh (Nat.le_refl _))⟩
end
section
variable {X:Cx} {pins:List (Addr × Obj)} {σ:St} {H:Hp} {s:Shared} {a:Addr} {y d:V} {u r:Value} {o:Option V} {A:Around} {E:Value -> Shared -> Prop}
end
section
variable {X:Cx} {o e f:Expr} {apos cpos:Pos} {td ty tx:TE}
end
section
variable {X:Cx} {pins:List (Addr × Obj)} {σ:St} {H:Hp} {s:Shared} {a:Addr} {kvs:List (Key × V)} {A:Around} {E:Value -> Shared -> Prop}
end
section
variable {X:Cx} {pins:List (Addr × Obj)} {σ:St} {H:Hp} {s:Shared} {a:Addr} {y:V} {u:Value} {A:Around} {E:Value -> Shared -> Prop}
end
end L2
namespace L2
open PySem PySem.Spec PyProof.Rows
section
variable {X:Cx}
theorem call_lenD:CallR X (.builtin "len") (fun xs H Q => ∃ a kvs,xs = [V.ref a] /\ H a = some (.dK kvs) /\ Q (.int kvs.length) H):=by
  intro pins s σ H xs us Q I r h
  obtain ⟨a,kvs,rfl,ha,q⟩:=h
  obtain ⟨u,rfl,ru⟩:=vals1 r
  cases ru
  exact d_len I (.inl ha) fun t s' I' => ⟨.int kvs.length,H,I',⟨t,rfl⟩,q⟩
end
section
variable {κ:Type} [DecidableEq κ]
end
end L2
namespace L2
open PySem PySem.Spec PyProof.Rows
noncomputable abbrev Tk:=Int × Int × List Int
section
variable {prog:Program} {w:World}
noncomputable def tileHash (k:Tk):Int:=reduceHash (Builtin.Tuple.tupleHashOf [hashInt k.1,hashInt k.2.1,reduceHash (Builtin.Tuple.tupleHashOf (k.2.2.map hashInt))])
variable {A:Around} {E:Value -> Shared -> Prop} {s:Shared}
end
noncomputable abbrev entN (x:Tk × Addr):DictEntry:=⟨tileHash x.1,.ref x.2,.bool true⟩
def ndict (a:Addr) (xs:List (Tk × Addr)):Heap -> Prop:=fun h => xs.length <= sizeLine /\ (a == sysModules) = false /\ ∃ o es ep,h.get? a = some o /\ o.ExactDict /\ o.data = .dict es ep /\ es.toList = xs.map entN /\ (xs.map (·.1)).Nodup
noncomputable abbrev HO.dN (a:Addr) (xs:List (Tk × Addr)):HO:=.ext (ndict a xs)
def TileAt (H:Hp) (k:Tk) (b:Addr):Prop:=∃ c,H b = some (.tup [.int k.1,.int k.2.1,.ref c]) /\ H c = some (.tup (k.2.2.map V.int))
section
variable {P:Program} {w:World} {H:Hp} {h:Heap} {a b:Addr}
end
section
variable {X:Cx} {pins:List (Addr × Obj)} {σ:St} {H:Hp} {s:Shared} {a b:Addr} {xs:List (Tk × Addr)} {k:Tk} {A:Around} {E:Value -> Shared -> Prop}
end
section
variable {X:Cx} {pos pos':Pos} {o i value:Expr} {td ty tv:TE}
end
end L2
namespace Z
open PySem PySem.Spec PyProof.Rows L2
noncomputable abbrev St:=L2.St
inductive Dv where
 | non
 | bl (b:Bool)
 | int (i:Int)
 | str (x:Str)
 | tup (xs:List Dv)
 | lst (xs:List Dv)
 | dik (kvs:List (Key × Dv))
 | dit (kvs:List (List Key × Dv))
 | obj (C:Addr) (fs:List (Str × Dv))
 | scr (ns:List Int)
 /-- an exception that was caught,of the class at C -/
 | exc (C:Addr) (p:Option Int)
 /-- a dict by tiles whose values are True -/
 | dns (ks:List Tk)
noncomputable def flatD:Dv -> Bool
 | .lst _ => false
 | .dik _ => false
 | .dit _ => false
 | .obj _ _ => false
 | .dns _ => false
 | .tup xs => flatDs xs
 | _ => true
where flatDs:List Dv -> Bool
 | [] => true
 | d :: r => flatD d && flatDs r
noncomputable abbrev flatDs:=flatD.flatDs
def Scr (K:W.Frag) (H:Hp) (a:Addr) (ns:List Int):Prop:=
 (∃ o,H a = some (.frz o (.lst (ns.map V.int)))) \/
  ∃ (o:Obj) (its:Array Value) (n:Nat),K.lookup a = some o /\ o.cls = .type "list" /\ o.dict = none /\ o.data = .seq its n /\ its.size <= sizeLine /\ Vals (ns.map V.int) its.toList
theorem Scr.sq {K:W.Frag} {H:Hp} {a:Addr} {ns:List Int} (h:Scr K H a ns):SqL K H a (ns.map V.int):=by
 rcases h with ⟨o,h⟩ | h
 ·exact .inl (.inr ⟨o,h⟩)
 ·exact .inr h
def PayAt (H:Hp):Option Int -> Option Addr -> Prop
 | none,none => True
 | some n,some d => ∃ od,H d = some (.frz od (.xd [("step",.int n)]))
 | _,_ => False
theorem PayAt.gen {H H':Hp} (h:∀ a o u,H a = some (.frz o u) -> H' a = some (.frz o u)):∀ {p:Option Int} {d:Option Addr},PayAt H p d -> PayAt H' p d
 | none,none,z => z
 | some _,some _,⟨od,z⟩ => ⟨od,h _ _ _ z⟩
 | none,some _,z => z.elim
 | some _,none,z => z.elim
def ExcAt (H:Hp) (a C:Addr) (p:Option Int):Prop:=∃ o u,H a = some (.frz o u) /\ o.cls = .ref C /\ PayAt H p o.dict /\ Mild o
def NAt (H:Hp) (a:Addr) (ks:List Tk):Prop:=∃ xs,H a = some (.dN a xs) /\ ks = xs.map (·.1) /\ ∀ x ∈ xs,TileAt H x.1 x.2
mutual
inductive Rep (K:W.Frag) (M:Addr -> Prop) (H:Hp):V -> Dv -> Prop
 | non:Rep K M H .non .non
 | bl (b:Bool):Rep K M H (.bl b) (.bl b)
 | int (i:Int):Rep K M H (.int i) (.int i)
 | str (x:Str):Rep K M H (.str x) (.str x)
 | tup {a:Addr} {xs:List V} {ds:List Dv}:H a = some (.tup xs) -> Reps K M H xs ds -> Rep K M H (.ref a) (.tup ds)
 | lst {a:Addr} {xs:List V} {ds:List Dv}:H a = some (.lst xs) -> ¬ M a -> Reps K M H xs ds -> Rep K M H (.ref a) (.lst ds)
 | dik {a:Addr} {kvs:List (Key × V)} {ds:List (Key × Dv)}:H a = some (.dK kvs) -> ¬ M a -> RepK K M H kvs ds -> Rep K M H (.ref a) (.dik ds)
 | dit {a:Addr} {ep:Nat} {kvs:List (List Key × V)} {ds:List (List Key × Dv)}:H a = some (.dT ep kvs) -> ¬ M a -> RepT K M H kvs ds -> Rep K M H (.ref a) (.dit ds)
 | obj {a C dx:Addr} {fs:List (Str × V)} {ds:List (Str × Dv)}:H a = some (.ins C dx fs) -> ¬ M a -> RepF K M H fs ds -> Rep K M H (.ref a) (.obj C ds)
 | scr {a:Addr} {ns:List Int}:Scr K H a ns -> Rep K M H (.ref a) (.scr ns)
 | exc {a C:Addr} {p:Option Int}:ExcAt H a C p -> Rep K M H (.ref a) (.exc C p)
 | dns {a:Addr} {ks:List Tk}:NAt H a ks -> ¬ M a -> Rep K M H (.ref a) (.dns ks)
inductive Reps (K:W.Frag) (M:Addr -> Prop) (H:Hp):List V -> List Dv -> Prop
 | nil:Reps K M H [] []
 | cons {x:V} {d:Dv} {xs:List V} {ds:List Dv}:Rep K M H x d -> Reps K M H xs ds -> Reps K M H (x :: xs) (d :: ds)
inductive RepK (K:W.Frag) (M:Addr -> Prop) (H:Hp):List (Key × V) -> List (Key × Dv) -> Prop
 | nil:RepK K M H [] []
 | cons {k:Key} {x:V} {d:Dv} {xs:List (Key × V)} {ds:List (Key × Dv)}:Rep K M H x d -> RepK K M H xs ds -> RepK K M H ((k,x) :: xs) ((k,d) :: ds)
inductive RepT (K:W.Frag) (M:Addr -> Prop) (H:Hp):List (List Key × V) -> List (List Key × Dv) -> Prop
 | nil:RepT K M H [] []
 | cons {k:List Key} {x:V} {d:Dv} {xs:List (List Key × V)} {ds:List (List Key × Dv)}:Rep K M H x d -> RepT K M H xs ds -> RepT K M H ((k,x) :: xs) ((k,d) :: ds)
inductive RepF (K:W.Frag) (M:Addr -> Prop) (H:Hp):List (Str × V) -> List (Str × Dv) -> Prop
 | nil:RepF K M H [] []
 | cons {k:Str} {x:V} {d:Dv} {xs:List (Str × V)} {ds:List (Str × Dv)}:Rep K M H x d -> RepF K M H xs ds -> RepF K M H ((k,x) :: xs) ((k,d) :: ds)
end
structure Gen (K:W.Frag) (M M':Addr -> Prop) (H H':Hp):Prop where
 l:∀ a o,H a = some o -> Mut (some o) -> ¬ M a -> H' a = some o /\ ¬ M' a
 t:∀ a xs,H a = some (.tup xs) -> H' a = some (.tup xs)
 s:∀ a ns,Scr K H a ns -> Scr K H' a ns
 x:∀ a o u,H a = some (.frz o u) -> H' a = some (.frz o u)
section
variable {K:W.Frag} {M M' M'':Addr -> Prop} {H H' H'':Hp}
theorem Reps.ind {P:List V -> List Dv -> Prop} (h0:P [] []) (h1:∀ (x:V) (d:Dv) (xs:List V) (ds:List Dv),Rep K M H x d -> Reps K M H xs ds -> P xs ds -> P (x :: xs) (d :: ds)) {xs:List V} {ds:List Dv} (r:Reps K M H xs ds):P xs ds:=
 Reps.rec (motive_1:=fun _ _ _ => True) (motive_2:=fun xs ds _ => P xs ds) (motive_3:=fun _ _ _ => True) (motive_4:=fun _ _ _ => True) (motive_5:=fun _ _ _ => True) trivial (fun _ => trivial) (fun _ => trivial) (fun _ => trivial) (fun _ _ _ => trivial) (fun _ _ _ _ => trivial) (fun _ _ _ _ => trivial) (fun _ _ _ _ => trivial) (fun _ _ _ _ => trivial) (fun _ => trivial) (fun _ => trivial) (fun _ _ => trivial) h0 (fun a r _ ih => h1 _ _ _ _ a r ih) trivial (fun _ _ _ _ => trivial) trivial (fun _ _ _ _ => trivial) trivial (fun _ _ _ _ => trivial) r
theorem RepK.ind {P:List (Key × V) -> List (Key × Dv) -> Prop} (h0:P [] []) (h1:∀ (k:Key) (x:V) (d:Dv) (xs:List (Key × V)) (ds:List (Key × Dv)),Rep K M H x d -> RepK K M H xs ds -> P xs ds -> P ((k,x) :: xs) ((k,d) :: ds)) {xs:List (Key × V)} {ds:List (Key × Dv)} (r:RepK K M H xs ds):P xs ds:=
 RepK.rec (motive_1:=fun _ _ _ => True) (motive_2:=fun _ _ _ => True) (motive_3:=fun xs ds _ => P xs ds) (motive_4:=fun _ _ _ => True) (motive_5:=fun _ _ _ => True) trivial (fun _ => trivial) (fun _ => trivial) (fun _ => trivial) (fun _ _ _ => trivial) (fun _ _ _ _ => trivial) (fun _ _ _ _ => trivial) (fun _ _ _ _ => trivial) (fun _ _ _ _ => trivial) (fun _ => trivial) (fun _ => trivial) (fun _ _ => trivial) trivial (fun _ _ _ _ => trivial) h0 (fun a r _ ih => h1 _ _ _ _ _ a r ih) trivial (fun _ _ _ _ => trivial) trivial (fun _ _ _ _ => trivial) r
theorem RepT.ind {P:List (List Key × V) -> List (List Key × Dv) -> Prop} (h0:P [] []) (h1:∀ (k:List Key) (x:V) (d:Dv) (xs:List (List Key × V)) (ds:List (List Key × Dv)),Rep K M H x d -> RepT K M H xs ds -> P xs ds -> P ((k,x) :: xs) ((k,d) :: ds)) {xs:List (List Key × V)} {ds:List (List Key × Dv)} (r:RepT K M H xs ds):P xs ds:=
 RepT.rec (motive_1:=fun _ _ _ => True) (motive_2:=fun _ _ _ => True) (motive_3:=fun _ _ _ => True) (motive_4:=fun xs ds _ => P xs ds) (motive_5:=fun _ _ _ => True) trivial (fun _ => trivial) (fun _ => trivial) (fun _ => trivial) (fun _ _ _ => trivial) (fun _ _ _ _ => trivial) (fun _ _ _ _ => trivial) (fun _ _ _ _ => trivial) (fun _ _ _ _ => trivial) (fun _ => trivial) (fun _ => trivial) (fun _ _ => trivial) trivial (fun _ _ _ _ => trivial) trivial (fun _ _ _ _ => trivial) h0 (fun a r _ ih => h1 _ _ _ _ _ a r ih) trivial (fun _ _ _ _ => trivial) r
theorem RepF.ind {P:List (Str × V) -> List (Str × Dv) -> Prop} (h0:P [] []) (h1:∀ (k:Str) (x:V) (d:Dv) (xs:List (Str × V)) (ds:List (Str × Dv)),Rep K M H x d -> RepF K M H xs ds -> P xs ds -> P ((k,x) :: xs) ((k,d) :: ds)) {xs:List (Str × V)} {ds:List (Str × Dv)} (r:RepF K M H xs ds):P xs ds:=
 RepF.rec (motive_1:=fun _ _ _ => True) (motive_2:=fun _ _ _ => True) (motive_3:=fun _ _ _ => True) (motive_4:=fun _ _ _ => True) (motive_5:=fun xs ds _ => P xs ds) trivial (fun _ => trivial) (fun _ => trivial) (fun _ => trivial) (fun _ _ _ => trivial) (fun _ _ _ _ => trivial) (fun _ _ _ _ => trivial) (fun _ _ _ _ => trivial) (fun _ _ _ _ => trivial) (fun _ => trivial) (fun _ => trivial) (fun _ _ => trivial) trivial (fun _ _ _ _ => trivial) trivial (fun _ _ _ _ => trivial) trivial (fun _ _ _ _ => trivial) h0 (fun a r _ ih => h1 _ _ _ _ _ a r ih) r
theorem _root_.L2.TileAt.gen {k:Tk} {b:Addr} (t:TileAt H k b) (ht:∀ a xs,H a = some (.tup xs) -> H' a = some (.tup xs)):TileAt H' k b:=let ⟨c,e1,e2⟩:=t; ⟨c,ht _ _ e1,ht _ _ e2⟩
theorem Rep.gen (G:Gen K M M' H H') {x:V} {d:Dv} (r:Rep K M H x d):Rep K M' H' x d:=
 Rep.rec (motive_1:=fun x d _ => Rep K M' H' x d) (motive_2:=fun xs ds _ => Reps K M' H' xs ds) (motive_3:=fun xs ds _ => RepK K M' H' xs ds) (motive_4:=fun xs ds _ => RepT K M' H' xs ds) (motive_5:=fun xs ds _ => RepF K M' H' xs ds)
  .non .bl .int .str (fun h _ r => .tup (G.t _ _ h) r) (fun h m _ r => .lst (G.l _ _ h trivial m).1 (G.l _ _ h trivial m).2 r) (fun h m _ r => .dik (G.l _ _ h trivial m).1 (G.l _ _ h trivial m).2 r) (fun h m _ r => .dit (G.l _ _ h trivial m).1 (G.l _ _ h trivial m).2 r)
  (fun h m _ r => .obj (G.l _ _ h trivial m).1 (G.l _ _ h trivial m).2 r) (fun h => .scr (G.s _ _ h)) (fun ⟨o,u,h,z,y,m⟩ => .exc ⟨o,u,G.x _ _ _ h,z,y.gen G.x,m⟩) (fun ⟨xs,h,e,t⟩ m => .dns ⟨xs,(G.l _ _ h trivial m).1,e,fun x hx => (t x hx).gen G.t⟩ (G.l _ _ h trivial m).2) .nil (fun _ _ a r => .cons a r) .nil (fun _ _ a r => .cons a r) .nil (fun _ _ a r => .cons a r) .nil (fun _ _ a r => .cons a r) r
theorem Reps.gen (G:Gen K M M' H H') {xs:List V} {ds:List Dv} (r:Reps K M H xs ds):Reps K M' H' xs ds:=r.ind .nil fun _ _ _ _ a _ ih => .cons (a.gen G) ih
theorem RepK.gen (G:Gen K M M' H H') {xs:List (Key × V)} {ds:List (Key × Dv)} (r:RepK K M H xs ds):RepK K M' H' xs ds:=r.ind .nil fun _ _ _ _ _ a _ ih => .cons (a.gen G) ih
theorem RepT.gen (G:Gen K M M' H H') {xs:List (List Key × V)} {ds:List (List Key × Dv)} (r:RepT K M H xs ds):RepT K M' H' xs ds:=r.ind .nil fun _ _ _ _ _ a _ ih => .cons (a.gen G) ih
theorem RepF.gen (G:Gen K M M' H H') {xs:List (Str × V)} {ds:List (Str × Dv)} (r:RepF K M H xs ds):RepF K M' H' xs ds:=r.ind .nil fun _ _ _ _ _ a _ ih => .cons (a.gen G) ih
theorem Same.scr (S:Same H H') {a:Addr} {ns:List Int} (h:Scr K H a ns):Scr K H' a ns:=by
 rcases h with ⟨o,h⟩ | h
 ·exact .inl ⟨o,S _ _ h⟩
 ·exact .inr h
theorem Gen.mono (S:Same H H'):Gen K M M H H':=⟨fun a o h _ m => ⟨S _ _ h,m⟩,fun _ _ h => S _ _ h,fun _ _ h => Same.scr S h,fun _ _ _ h => S _ _ h⟩
theorem Gen.weak (h:∀ a,M' a -> M a):Gen K M M' H H:=⟨fun a o e _ m => ⟨e,fun z => m (h a z)⟩,fun _ _ h => h,fun _ _ h => h,fun _ _ _ h => h⟩
theorem Gen.fresh {p:Addr} (hp:H p = none):Gen K M (fun b => M b \/ b = p) H H:=
 ⟨fun a o e _ m => ⟨e,fun z => z.elim m fun z => by rw [z,hp] at e; cases e⟩,fun _ _ h => h,fun _ _ h => h,fun _ _ _ h => h⟩
theorem Gen.trans (a:Gen K M M' H H') (b:Gen K M' M'' H' H''):Gen K M M'' H H'':=
 ⟨fun c o e mu m => b.l c o (a.l c o e mu m).1 mu (a.l c o e mu m).2,fun c xs h => b.t c xs (a.t c xs h),fun c ns h => b.s c ns (a.s c ns h),fun c o u h => b.x c o u (a.x c o u h)⟩
theorem mut_ne {p a:Addr} {u:HO} (mu:Mut (H p)) (e:H a = some u) (n:¬ Mut (some u)):a ≠ p:=fun z => by
 subst z
 rw [e] at mu
 exact n mu
theorem Gen.write {p:Addr} {o:HO} (hM:M p) (mu:Mut (H p)):Gen K M M H (upd H p o):=by
 refine ⟨fun a u e _ m => ⟨?_,m⟩,fun a xs h => ?_,fun a ns h => ?_,fun a o u h => by rw [upd_ne (mut_ne mu h fun z => z)]; exact h⟩
 ·rw [upd_ne fun z => m (by rw [z]; exact hM)]
  exact e
 ·rw [upd_ne (mut_ne mu h fun z => z)]
  exact h
 ·rcases h with ⟨u,h⟩ | h
  ·exact .inl ⟨u,by rw [upd_ne (mut_ne mu h fun z => z)]; exact h⟩
  ·exact .inr h
end
section
variable {K:W.Frag} {M M':Addr -> Prop} {H H':Hp}
theorem Rep.mono {x:V} {d:Dv} (S:Same H H') (h:Rep K M H x d):Rep K M H' x d:=h.gen (.mono S)
theorem Rep.weak {x:V} {d:Dv} (w:∀ a,M' a -> M a) (h:Rep K M H x d):Rep K M' H x d:=h.gen (.weak w)
theorem Reps.mono {xs:List V} {ds:List Dv} (S:Same H H') (h:Reps K M H xs ds):Reps K M H' xs ds:=h.gen (.mono S)
theorem Reps.weak {xs:List V} {ds:List Dv} (w:∀ a,M' a -> M a) (h:Reps K M H xs ds):Reps K M' H xs ds:=h.gen (.weak w)
theorem flat_cons {d:Dv} {ds:List Dv} (f:flatDs (d :: ds) = true):flatD d = true /\ flatDs ds = true:=by
 have f':(flatD d && flatDs ds) = true:=f
 rwa [Bool.and_eq_true] at f'
theorem Rep.flat {x:V} {d:Dv} (f:flatD d = true) (r:Rep K M H x d):Rep K M' H x d:=
 Rep.rec (motive_1:=fun x d _ => flatD d = true -> Rep K M' H x d) (motive_2:=fun xs ds _ => flatDs ds = true -> Reps K M' H xs ds) (motive_3:=fun _ _ _ => True) (motive_4:=fun _ _ _ => True) (motive_5:=fun _ _ _ => True)
  (fun _ => .non) (fun b _ => .bl b) (fun i _ => .int i) (fun x _ => .str x) (fun h _ ih f => .tup h (ih (by rw [flatD] at f; exact f))) (fun _ _ _ _ f => by simp [flatD] at f) (fun _ _ _ _ f => by simp [flatD] at f) (fun _ _ _ _ f => by simp [flatD] at f)
  (fun _ _ _ _ f => by simp [flatD] at f) (fun h _ => .scr h) (fun h _ => .exc h) (fun _ _ f => by simp [flatD] at f) (fun _ => .nil) (fun _ _ a r f => .cons (a (flat_cons f).1) (r (flat_cons f).2)) trivial (fun _ _ _ _ => trivial) trivial (fun _ _ _ _ => trivial) trivial (fun _ _ _ _ => trivial) r f
theorem Reps.flat {xs:List V} {ds:List Dv} (f:flatDs ds = true) (r:Reps K M H xs ds):Reps K M' H xs ds:=
 r.ind (P:=fun xs ds => flatDs ds = true -> Reps K M' H xs ds) (fun _ => .nil) (fun _ _ _ _ a _ ih f => .cons (a.flat (flat_cons f).1) (ih (flat_cons f).2)) f
theorem RepF.flat {xs:List (Str × V)} {ds:List (Str × Dv)} (f:flatDs (ds.map (·.2)) = true) (r:RepF K M H xs ds):RepF K M' H xs ds:=
 r.ind (P:=fun xs ds => flatDs (ds.map (·.2)) = true -> RepF K M' H xs ds) (fun _ => .nil) (fun _ _ _ _ _ a _ ih f => .cons (a.flat (flat_cons f).1) (ih (flat_cons f).2)) f
theorem RepK.flat {xs:List (Key × V)} {ds:List (Key × Dv)} (f:flatDs (ds.map (·.2)) = true) (r:RepK K M H xs ds):RepK K M' H xs ds:=
 r.ind (P:=fun xs ds => flatDs (ds.map (·.2)) = true -> RepK K M' H xs ds) (fun _ => .nil) (fun _ _ _ _ _ a _ ih f => .cons (a.flat (flat_cons f).1) (ih (flat_cons f).2)) f
theorem RepT.flat {xs:List (List Key × V)} {ds:List (List Key × Dv)} (f:flatDs (ds.map (·.2)) = true) (r:RepT K M H xs ds):RepT K M' H xs ds:=
 r.ind (P:=fun xs ds => flatDs (ds.map (·.2)) = true -> RepT K M' H xs ds) (fun _ => .nil) (fun _ _ _ _ _ a _ ih f => .cons (a.flat (flat_cons f).1) (ih (flat_cons f).2)) f
theorem Reps.length {xs:List V} {ds:List Dv} (r:Reps K M H xs ds):xs.length = ds.length:=r.ind (P:=fun xs ds => xs.length = ds.length) rfl fun _ _ _ _ _ _ ih => congrArg (· + 1) ih
theorem Reps.append {xs ys:List V} {ds es:List Dv} (r:Reps K M H xs ds) (s:Reps K M H ys es):Reps K M H (xs ++ ys) (ds ++ es):=r.ind (P:=fun xs ds => Reps K M H (xs ++ ys) (ds ++ es)) s fun _ _ _ _ a _ ih => .cons a ih
theorem Reps.get {xs:List V} {ds:List Dv} {i:Nat} {d:Dv} (r:Reps K M H xs ds) (e:ds[i]? = some d):∃ x,xs[i]? = some x /\ Rep K M H x d:=
 r.ind (P:=fun xs ds => ∀ i,ds[i]? = some d -> ∃ x,xs[i]? = some x /\ Rep K M H x d) (fun i e => by rw [List.getElem?_nil] at e; cases e) (fun x y xs ys a _ ih i e => by
  cases i with
  | zero => rw [List.getElem?_cons_zero] at e; cases e; exact ⟨x,rfl,a⟩
  | succ i => exact ih i e) i e
theorem Reps.take {xs:List V} {ds:List Dv} (n:Nat) (r:Reps K M H xs ds):Reps K M H (xs.take n) (ds.take n):=
 r.ind (P:=fun xs ds => ∀ n,Reps K M H (xs.take n) (ds.take n)) (fun n => by cases n <;> exact .nil) (fun _ _ _ _ a r ih n => by cases n with
  | zero => exact .nil
  | succ n => exact .cons a (ih n)) n
theorem Reps.drop {xs:List V} {ds:List Dv} (n:Nat) (r:Reps K M H xs ds):Reps K M H (xs.drop n) (ds.drop n):=
 r.ind (P:=fun xs ds => ∀ n,Reps K M H (xs.drop n) (ds.drop n)) (fun n => by cases n <;> exact .nil) (fun _ _ _ _ a r ih n => by cases n with
  | zero => exact .cons a r
  | succ n => exact ih n) n
theorem Reps.repl {xs:List V} {ds:List Dv} (h:Reps K M H xs ds):∀ n:Nat,Reps K M H (List.replicate n xs).flatten (List.replicate n ds).flatten
 | 0 => .nil
 | n + 1 => by
  rw [List.replicate_succ,List.replicate_succ,List.flatten_cons,List.flatten_cons]
  exact h.append (Reps.repl h n)
theorem Reps.ints:∀ ns:List Int,Reps K M H (ns.map V.int) (ns.map Dv.int)
 | [] => .nil
 | n :: r => .cons (.int n) (Reps.ints r)
end
def OwnAt (K:W.Frag) (M:Addr -> Prop) (H:Hp) (a:Addr):Dv -> Prop
 | .lst ds => ∃ xs,H a = some (.lst xs) /\ Reps K M H xs ds
 | .dik ds => ∃ kvs,H a = some (.dK kvs) /\ RepK K M H kvs ds
 | .dit ds => ∃ ep kvs,H a = some (.dT ep kvs) /\ RepT K M H kvs ds
 | .obj C ds => ∃ dx fs,H a = some (.ins C dx fs) /\ RepF K M H fs ds
 | .dns ks => NAt H a ks
 | _ => False
noncomputable def flatO:Dv -> Bool
 | .lst ds => flatDs ds
 | .dik ds => flatDs (ds.map (·.2))
 | .dit ds => flatDs (ds.map (·.2))
 | .obj _ ds => flatDs (ds.map (·.2))
 | .dns _ => true
 | _ => false
section
variable {K:W.Frag} {M M':Addr -> Prop} {H H':Hp} {a:Addr}
theorem OwnAt.gen {d:Dv} (G:Gen K M M' H H') (ha:∀ o,H a = some o -> H' a = some o) (h:OwnAt K M H a d):OwnAt K M' H' a d:=by
 cases d with
 | lst ds => obtain ⟨xs,e,r⟩:=h; exact ⟨xs,ha _ e,r.gen G⟩
 | dik ds => obtain ⟨xs,e,r⟩:=h; exact ⟨xs,ha _ e,r.gen G⟩
 | dit ds => obtain ⟨ep,xs,e,r⟩:=h; exact ⟨ep,xs,ha _ e,r.gen G⟩
 | obj C ds => obtain ⟨dx,fs,e,r⟩:=h; exact ⟨dx,fs,ha _ e,r.gen G⟩
 | dns ks => obtain ⟨xs,e,k,t⟩:=h; exact ⟨xs,ha _ e,k,fun x hx => (t x hx).gen G.t⟩
 | _ => exact h.elim
theorem OwnAt.mono {d:Dv} (S:Same H H') (h:OwnAt K M H a d):OwnAt K M H' a d:=h.gen (.mono S) fun o e => S _ _ e
theorem OwnAt.weak {d:Dv} (w:∀ a,M' a -> M a) (h:OwnAt K M H a d):OwnAt K M' H a d:=h.gen (.weak w) fun _ e => e
theorem OwnAt.flat {d:Dv} (f:flatO d = true) (h:OwnAt K M H a d):OwnAt K M' H a d:=by
 cases d with
 | lst ds => obtain ⟨xs,e,r⟩:=h; exact ⟨xs,e,r.flat f⟩
 | dik ds => obtain ⟨xs,e,r⟩:=h; exact ⟨xs,e,r.flat f⟩
 | dit ds => obtain ⟨ep,xs,e,r⟩:=h; exact ⟨ep,xs,e,r.flat f⟩
 | obj C ds => obtain ⟨dx,fs,e,r⟩:=h; exact ⟨dx,fs,e,r.flat f⟩
 | dns ks => exact h
 | _ => exact h.elim
theorem OwnAt.mut {d:Dv} (h:OwnAt K M H a d):∃ o,H a = some o /\ Mut (some o):=by
 cases d with
 | lst ds => obtain ⟨xs,e,r⟩:=h; exact ⟨_,e,trivial⟩
 | dik ds => obtain ⟨xs,e,r⟩:=h; exact ⟨_,e,trivial⟩
 | dit ds => obtain ⟨ep,xs,e,r⟩:=h; exact ⟨_,e,trivial⟩
 | obj C ds => obtain ⟨dx,fs,e,r⟩:=h; exact ⟨_,e,trivial⟩
 | dns ks => obtain ⟨xs,e,_⟩:=h; exact ⟨_,e,trivial⟩
 | _ => exact h.elim
theorem OwnAt.rep {d:Dv} (h:OwnAt K M H a d) (m:¬ M a):Rep K M H (.ref a) d:=by
 cases d with
 | lst ds => obtain ⟨xs,e,r⟩:=h; exact .lst e m r
 | dik ds => obtain ⟨xs,e,r⟩:=h; exact .dik e m r
 | dit ds => obtain ⟨ep,xs,e,r⟩:=h; exact .dit e m r
 | obj C ds => obtain ⟨dx,fs,e,r⟩:=h; exact .obj e m r
 | dns ks => exact .dns h m
 | _ => exact h.elim
end
inductive Sl where
 | un
 | v (d:Dv)
 | own (a:Addr) (d:Dv)
def MM (F:Addr -> Prop) (ρ:List Sl):Addr -> Prop:=fun a => F a \/ ∃ d,Sl.own a d ∈ ρ
def SlOk (K:W.Frag) (M:Addr -> Prop) (H:Hp) (o:Option (Option V)):Sl -> Prop
 | .un => True
 | .v d => ∃ x,o = some (some x) /\ Rep K M H x d
 | .own a d => o = some (some (.ref a)) /\ OwnAt K M H a d
noncomputable abbrev lamOn:Bool:=false
def LamTab (K:W.Frag) (P:Addr) (q:Str):Prop:=lamOn = true /\ ∃ (C f:Addr) (o:Value) (od:Option Addr) (fd:FuncData) (sl:Array (Option Value)) (c:Addr) (oc:Value) (odc:Option Addr) (vs:Array Value) (slc:Array (Option Value)),
 W.nsIn K mainGlobals "Sides" = some (some (.ref C)) /\ W.findIn K (.ref C) "last" = some (some (.ref f)) /\ K.lookup f = some ⟨o,od,.func fd,sl⟩ /\ fd.code = .ref c /\ K.lookup c = some ⟨oc,odc,.fields vs,slc⟩ /\ vs[11]? = some (.ref P) /\
 q = "Sides.last" ++ ".<locals>." ++ "<lambda>"
def TabOk (K:W.Frag) (H:Hp):Prop:=∀ P q,LamTab K P q -> H P = some (.lam q)
structure OldF (K:W.Frag) (F:Addr -> Prop) (HZ:Hp):Prop where
 f:∀ a,F a -> HZ a ≠ none
 t:TabOk K HZ
theorem TabOk.mono {K:W.Frag} {H H':Hp} (t:TabOk K H) (S:Same H H'):TabOk K H':=fun P q z => S _ _ (t P q z)
structure Fr (K:W.Frag) (HZ:Hp) (F:Addr -> Prop) (σ:St) (H:Hp) (ρ:List Sl):Prop where
 len:σ.length = ρ.length
 sl:∀ (i:Nat) (s:Sl),ρ[i]? = some s -> SlOk K (MM F ρ) H σ[i]? s
 nd:∀ (i j:Nat) (a:Addr) (d d':Dv),ρ[i]? = some (.own a d) -> ρ[j]? = some (.own a d') -> i = j
 new:∀ (a:Addr) (d:Dv),Sl.own a d ∈ ρ -> HZ a = none
 same:Same HZ H
 old:OldF K F HZ
section
variable {K:W.Frag} {M M':Addr -> Prop} {HZ H H':Hp} {F:Addr -> Prop} {σ:St} {ρ:List Sl}
theorem SlOk.mono {o:Option (Option V)} {s:Sl} (S:Same H H') (h:SlOk K M H o s):SlOk K M H' o s:=by
 cases s with
 | un => trivial
 | v d => obtain ⟨x,e,r⟩:=h; exact ⟨x,e,r.mono S⟩
 | own a d => exact ⟨h.1,h.2.mono S⟩
theorem SlOk.weak {o:Option (Option V)} {s:Sl} (w:∀ a,M' a -> M a) (h:SlOk K M H o s):SlOk K M' H o s:=by
 cases s with
 | un => trivial
 | v d => obtain ⟨x,e,r⟩:=h; exact ⟨x,e,r.weak w⟩
 | own a d => exact ⟨h.1,h.2.weak w⟩
theorem Fr.tab (fr:Fr K HZ F σ H ρ):TabOk K H:=fr.old.t.mono fr.same
theorem Fr.mono (fr:Fr K HZ F σ H ρ) (S:Same H H'):Fr K HZ F σ H' ρ:=⟨fr.len,fun i s e => (fr.sl i s e).mono S,fr.nd,fr.new,fr.same.trans S,fr.old⟩
theorem Fr.at_own (fr:Fr K HZ F σ H ρ) {a:Addr} {d:Dv} (h:Sl.own a d ∈ ρ):∃ i:Nat,ρ[i]? = some (.own a d) /\ σ[i]? = some (some (.ref a)) /\ OwnAt K (MM F ρ) H a d:=by
 obtain ⟨i,e⟩:=List.mem_iff_getElem?.mp h
 have:=fr.sl i _ e
 exact ⟨i,e,this.1,this.2⟩
theorem Fr.dom (fr:Fr K HZ F σ H ρ) {a:Addr} (m:MM F ρ a):H a ≠ none:=by
 rcases m with m | ⟨d,m⟩
 ·intro e
  exact fr.old.f a m (fr.same.free e)
 ·obtain ⟨_,_,_,o⟩:=fr.at_own m
  obtain ⟨u,e,_⟩:=o.mut
  rw [e]
  simp
theorem Fr.fresh (fr:Fr K HZ F σ H ρ) {a:Addr} (e:H a = none):¬ MM F ρ a:=fun m => fr.dom m e
end
inductive R where
 | v (d:Dv)
 | ow (a:Addr) (d:Dv)
 | nw (d:Dv)
noncomputable def R.d:R -> Dv
 | .v d => d
 | .ow _ d => d
 | .nw d => d
noncomputable def R.free:R -> Bool
 | .ow _ _ => false
 | _ => true
def Own (ρ:List Sl):Addr -> Dv -> Prop:=fun a d => Sl.own a d ∈ ρ
def NoOwn:Addr -> Dv -> Prop:=fun _ _ => False
def RRep (K:W.Frag) (M:Addr -> Prop) (O:Addr -> Dv -> Prop) (H:Hp) (x:V) (r:R) (H':Hp):Prop:=match r with
 | .v d => Rep K M H' x d
 | .ow a d => x = .ref a /\ O a d /\ OwnAt K M H' a d
 | .nw d => ∃ a,x = .ref a /\ H a = none /\ OwnAt K (fun b => M b \/ b = a) H' a d
def CRep (K:W.Frag) (M:Addr -> Prop) (H:Hp) (x:V) (d:Dv):Prop:=Rep K M H x d \/ ∃ a,x = .ref a /\ OwnAt K M H a d
section
variable {K:W.Frag} {M M':Addr -> Prop} {O:Addr -> Dv -> Prop} {H H' H'':Hp} {x:V} {r:R}
theorem RRep.mono (h:RRep K M O H x r H') (S:Same H' H''):RRep K M O H x r H'':=by
 cases r with
 | v d => exact Rep.mono S h
 | ow a d => exact ⟨h.1,h.2.1,h.2.2.mono S⟩
 | nw d => obtain ⟨a,e,n,o⟩:=h; exact ⟨a,e,n,o.mono S⟩
theorem RRep.ahead {H1:Hp} (h:RRep K M O H1 x r H') (S:Same H H1):RRep K M O H x r H':=by
 cases r with
 | v d => exact h
 | ow a d => exact h
 | nw d => obtain ⟨a,e,n,o⟩:=h; exact ⟨a,e,S.free n,o⟩
theorem RRep.c (h:RRep K M O H x r H'):CRep K M H' x r.d:=by
 cases r with
 | v d => exact .inl h
 | ow a d => exact .inr ⟨a,h.1,h.2.2⟩
 | nw d => obtain ⟨a,e,n,o⟩:=h; exact .inr ⟨a,e,o.weak fun b z => .inl z⟩
theorem RRep.rep (h:RRep K M O H x r H') (hM:∀ a,M a -> H a ≠ none) (f:r.free = true):Rep K M H' x r.d:=by
 cases r with
 | v d => exact h
 | ow a d => simp [R.free] at f
 | nw d =>
  obtain ⟨a,e,n,o⟩:=h
  subst e
  exact (o.weak fun b z => .inl z).rep fun z => hM a z n
theorem CRep.lst {ds:List Dv} (h:CRep K M H x (.lst ds)):∃ a xs,x = .ref a /\ H a = some (.lst xs) /\ Reps K M H xs ds:=by
 rcases h with h | ⟨a,e,xs,h1,h2⟩
 ·cases h with
  | lst h1 _ h2 => exact ⟨_,_,rfl,h1,h2⟩
 ·exact ⟨a,xs,e,h1,h2⟩
theorem CRep.tup {ds:List Dv} (h:CRep K M H x (.tup ds)):∃ a xs,x = .ref a /\ H a = some (.tup xs) /\ Reps K M H xs ds:=by
 rcases h with h | ⟨a,e,o⟩
 ·cases h with
  | tup h1 h2 => exact ⟨_,_,rfl,h1,h2⟩
 ·exact o.elim
theorem CRep.int {i:Int} (h:CRep K M H x (.int i)):x = .int i:=by
 rcases h with h | ⟨a,e,o⟩
 ·cases h; rfl
 ·exact o.elim
theorem CRep.bl {b:Bool} (h:CRep K M H x (.bl b)):x = .bl b:=by
 rcases h with h | ⟨a,e,o⟩
 ·cases h; rfl
 ·exact o.elim
theorem CRep.non (h:CRep K M H x .non):x = .non:=by
 rcases h with h | ⟨a,e,o⟩
 ·cases h; rfl
 ·exact o.elim
theorem CRep.str {s:Str} (h:CRep K M H x (.str s)):x = .str s:=by
 rcases h with h | ⟨a,e,o⟩
 ·cases h; rfl
 ·exact o.elim
theorem CRep.scr {ns:List Int} (h:CRep K M H x (.scr ns)):∃ a,x = .ref a /\ Scr K H a ns:=by
 rcases h with h | ⟨a,e,o⟩
 ·cases h with
  | scr h => exact ⟨_,rfl,h⟩
 ·exact o.elim
theorem CRep.dik {ds:List (Key × Dv)} (h:CRep K M H x (.dik ds)):∃ a kvs,x = .ref a /\ H a = some (.dK kvs) /\ RepK K M H kvs ds:=by
 rcases h with h | ⟨a,e,xs,h1,h2⟩
 ·cases h with
  | dik h1 _ h2 => exact ⟨_,_,rfl,h1,h2⟩
 ·exact ⟨a,xs,e,h1,h2⟩
theorem CRep.dit {ds:List (List Key × Dv)} (h:CRep K M H x (.dit ds)):∃ a ep kvs,x = .ref a /\ H a = some (.dT ep kvs) /\ RepT K M H kvs ds:=by
 rcases h with h | ⟨a,e,ep0,xs,h1,h2⟩
 ·cases h with
  | dit h1 _ h2 => exact ⟨_,_,_,rfl,h1,h2⟩
 ·exact ⟨a,ep0,xs,e,h1,h2⟩
theorem CRep.obj {C:Addr} {ds:List (Str × Dv)} (h:CRep K M H x (.obj C ds)):∃ a dx fs,x = .ref a /\ H a = some (.ins C dx fs) /\ RepF K M H fs ds:=by
 rcases h with h | ⟨a,e,dx,fs,h1,h2⟩
 ·cases h with
  | obj h1 _ h2 => exact ⟨_,_,_,rfl,h1,h2⟩
 ·exact ⟨a,dx,fs,e,h1,h2⟩
end
end Z
namespace Z
open PySem PySem.Spec PyProof.Rows L2
abbrev TEp:=List Sl -> (R -> Prop) -> Prop
abbrev TAp:=List Sl -> (List R -> Prop) -> Prop
abbrev TTp:=List Sl -> (Bool -> Prop) -> Prop
def RReps (K:W.Frag) (M:Addr -> Prop) (O:Addr -> Dv -> Prop) (H:Hp) (xs:List V) (rs:List R) (H':Hp):Prop:=Paired (fun x r => RRep K M O H x r H') xs rs
def CReps (K:W.Frag) (M:Addr -> Prop) (H:Hp):List V -> List Dv -> Prop:=Paired (CRep K M H)
section
variable {K:W.Frag} {M:Addr -> Prop} {O:Addr -> Dv -> Prop} {H H1 H' H'':Hp}
theorem RReps.ahead {xs:List V} {rs:List R} (h:RReps K M O H1 xs rs H') (S:Same H H1):RReps K M O H xs rs H':=Paired.mapP h fun _ _ q => q.ahead S
theorem RReps.c:∀ {xs:List V} {rs:List R},RReps K M O H xs rs H' -> CReps K M H' xs (rs.map R.d)
 | _,_,.nil => .nil
 | _,_,.cons a t => .cons a.c (RReps.c t)
theorem RReps.reps (hM:∀ a,M a -> H a ≠ none):∀ {xs:List V} {rs:List R},RReps K M O H xs rs H' -> rs.all R.free = true -> Reps K M H' xs (rs.map R.d)
 | _,_,.nil,_ => .nil
 | _,_,.cons a t,f => by
  rw [List.all_cons,Bool.and_eq_true] at f
  exact .cons (a.rep hM f.1) (RReps.reps hM t f.2)
end
inductive lift (K:W.Frag) (HZ:Hp) (F:Addr -> Prop) (t:TEp) (σ:St) (H:Hp) (Q:VK):Prop
 | mk (ρ:List Sl) (fr:Fr K HZ F σ H ρ) (h:t ρ fun r => ∀ x H',Same H H' -> RRep K (MM F ρ) (Own ρ) H x r H' -> Q x H')
inductive liftA (K:W.Frag) (HZ:Hp) (F:Addr -> Prop) (t:TAp) (σ:St) (H:Hp) (Q:List V -> Hp -> Prop):Prop
 | mk (ρ:List Sl) (fr:Fr K HZ F σ H ρ) (h:t ρ fun rs => ∀ xs H',Same H H' -> RReps K (MM F ρ) (Own ρ) H xs rs H' -> Q xs H')
inductive liftT (K:W.Frag) (HZ:Hp) (F:Addr -> Prop) (t:TTp) (σ:St) (H:Hp) (Q:Bool -> Hp -> Prop):Prop
 | mk (ρ:List Sl) (fr:Fr K HZ F σ H ρ) (h:t ρ fun b => ∀ H',Same H H' -> Q b H')
structure QE (X:Cx) (e:Expr) (t:TEp):Prop where
 mono:∀ (ρ:List Sl) (Q Q':R -> Prop),(∀ r,Q r -> Q' r) -> t ρ Q -> t ρ Q'
 run:∀ (HZ:Hp) (F:Addr -> Prop),PE X e (lift X.K HZ F t)
structure QA (X:Cx) (es:List Expr) (t:TAp):Prop where
 mono:∀ (ρ:List Sl) (Q Q':List R -> Prop),(∀ r,Q r -> Q' r) -> t ρ Q -> t ρ Q'
 run:∀ (HZ:Hp) (F:Addr -> Prop),PA X es (liftA X.K HZ F t)
structure QT (X:Cx) (e:Expr) (t:TTp):Prop where
 mono:∀ (ρ:List Sl) (Q Q':Bool -> Prop),(∀ r,Q r -> Q' r) -> t ρ Q -> t ρ Q'
 run:∀ (HZ:Hp) (F:Addr -> Prop),PT X e (liftT X.K HZ F t)
structure QW (X:Cx) (e:Expr) (t:TTp):Prop where
 mono:∀ (ρ:List Sl) (Q Q':Bool -> Prop),(∀ r,Q r -> Q' r) -> t ρ Q -> t ρ Q'
 run:∀ (HZ:Hp) (F:Addr -> Prop),PW X e (liftT X.K HZ F t)
section
variable {X:Cx} {a b e c:Expr} {es:List Expr} {ta tb te tc:TEp} {ts:TAp} {pos:Pos}
theorem PE_imp {t t':TE} (h:PE X e t) (w:∀ σ H Q,t' σ H Q -> t σ H Q):PE X e t':=fun pins s σ H Q I q => h pins s σ H Q I (w σ H Q q)
theorem PA_imp {t t':TA} (h:PA X es t) (w:∀ σ H Q,t' σ H Q -> t σ H Q):PA X es t':=fun pos pins s σ H Q I q => h pos pins s σ H Q I (w σ H Q q)
theorem PT_imp {t t':TT} (h:PT X e t) (w:∀ σ H Q,t' σ H Q -> t σ H Q):PT X e t':=fun pins s σ H Q I q => h pins s σ H Q I (w σ H Q q)
theorem PW_imp {t t':TT} (h:PW X e t) (w:∀ σ H Q,t' σ H Q -> t σ H Q):PW X e t':=fun wh pins s σ H Q I q => h wh pins s σ H Q I (w σ H Q q)
theorem QW.qt {t:TTp} (h:QW X e t):QT X e t:=⟨h.mono,fun HZ F => (h.run HZ F).pt⟩
theorem QE.step {HZ:Hp} {F:Addr -> Prop} {σ:St} {H:Hp} {ρ:List Sl} {Q:R -> Prop} {Q':VK} (h:QE X e te) (fr:Fr X.K HZ F σ H ρ) (q:te ρ Q)
  (k:∀ r x H',Q r -> Same H H' -> RRep X.K (MM F ρ) (Own ρ) H x r H' -> Q' x H'):lift X.K HZ F te σ H Q':=⟨ρ,fr,h.mono _ _ _ (fun r qr x H' S rx => k r x H' qr S rx) q⟩
theorem QA.step {HZ:Hp} {F:Addr -> Prop} {σ:St} {H:Hp} {ρ:List Sl} {Q:List R -> Prop} {Q':List V -> Hp -> Prop} (h:QA X es ts) (fr:Fr X.K HZ F σ H ρ) (q:ts ρ Q)
  (k:∀ rs xs H',Q rs -> Same H H' -> RReps X.K (MM F ρ) (Own ρ) H xs rs H' -> Q' xs H'):liftA X.K HZ F ts σ H Q':=⟨ρ,fr,h.mono _ _ _ (fun r qr x H' S rx => k r x H' qr S rx) q⟩
theorem QT.step {t:TTp} {HZ:Hp} {F:Addr -> Prop} {σ:St} {H:Hp} {ρ:List Sl} {Q:Bool -> Prop} {Q':Bool -> Hp -> Prop} (h:QT X e t) (fr:Fr X.K HZ F σ H ρ) (q:t ρ Q)
  (k:∀ b H',Q b -> Same H H' -> Q' b H'):liftT X.K HZ F t σ H Q':=⟨ρ,fr,h.mono _ _ _ (fun r qr H' S => k r H' qr S) q⟩
def eVar (i:Nat):TEp:=fun ρ Q => match ρ[i]? with
 | some (.v d) => Q (.v d)
 | some (.own a d) => Q (.ow a d)
 | _ => False
theorem q_var (i:Nat) {x:Str} (h:PE X (.Name x pos) (tVar i)):QE X (.Name x pos) (eVar i):=by
 refine ⟨fun ρ Q Q' w h => ?_,fun HZ F => PE_imp h fun σ H Q ⟨ρ,fr,q⟩ => ?_⟩
 ·unfold eVar at *
  split at h
  ·exact w _ h
  ·exact w _ h
  ·exact h
 ·unfold eVar at q
  split at q
  ·rename_i d e
   obtain ⟨x,hx,r⟩:=fr.sl i _ e
   exact ⟨x,hx,q x H (Same.refl _) r⟩
  ·rename_i a d e
   obtain ⟨hx,r⟩:=fr.sl i _ e
   exact ⟨.ref a,hx,q _ H (Same.refl _) ⟨rfl,List.mem_of_getElem? e,r⟩⟩
  ·exact q.elim
def eC (d:Dv):TEp:=fun _ Q => Q (.v d)
theorem q_c {v:V} {d:Dv} (h:PE X e (tC v)) (r:∀ M H,Rep X.K M H v d):QE X e (eC d):=
 ⟨fun _ _ _ w q => w _ q,fun HZ F => PE_imp h fun σ H Q ⟨ρ,fr,q⟩ => q v H (Same.refl _) (r _ _)⟩
theorem q_int {i j pos}:QE X (.Constant (.int i) j pos) (eC (.int i)):=q_c pe_int fun _ _ => .int i
theorem q_bl {b j pos}:QE X (.Constant (.bool b) j pos) (eC (.bl b)):=q_c pe_bl fun _ _ => .bl b
theorem q_globI {x:Str} {n:Int} (hm:∃ t,X.mg x = some (.int n t)) (hg:Gl X x:=by rfl) (hd:(x == ("__debug__" : Str)) = false:=by decide):QE X (.Name x pos) (eC (.int n)):=q_c (pe_globI hm hg hd) fun _ _ => .int n
def eNil:TAp:=fun _ Q => Q []
def eCons (te:TEp) (ts:TAp):TAp:=fun ρ Q => te ρ fun r => ts ρ fun rs => Q (r :: rs)
theorem q_nil:QA X [] eNil:=⟨fun _ _ _ w q => w _ q,fun HZ F => PA_imp pa_nil fun σ H Q ⟨ρ,fr,q⟩ => q [] H (Same.refl _) .nil⟩
theorem q_cons (ha:QE X e te) (hr:QA X es ts) (hs:starEach (e :: es) X.env = (false,eval e X.env) :: starEach es X.env:=by rfl):QA X (e :: es) (eCons te ts):=by
 refine ⟨fun ρ Q Q' w h => ha.mono _ _ _ (fun r q => hr.mono _ _ _ (fun rs q => w _ q) q) h,fun HZ F => PA_imp (pa_cons (ha.run HZ F) (hr.run HZ F) hs) fun σ H Q ⟨ρ,fr,q⟩ => ?_⟩
 refine ha.step fr q fun r x H1 q1 S1 r1 => ?_
 refine hr.step (fr.mono S1) q1 fun rs xs H2 q2 S2 r2 => ?_
 exact q2 _ H2 (S1.trans S2) (.cons (r1.mono S2) (r2.ahead S1))
def OpD (X:Cx) (f:Value -> Value -> Sem Value) (p:Dv -> Dv -> (R -> Prop) -> Prop):Prop:=
 (∀ dx dy (Q Q':R -> Prop),(∀ r,Q r -> Q' r) -> p dx dy Q -> p dx dy Q') /\ ∃ r:R2,OpR X f r /\ ∀ (M:Addr -> Prop) (O:Addr -> Dv -> Prop) (H:Hp) (x y:V) (dx dy:Dv) (Q:VK),CRep X.K M H x dx -> CRep X.K M H y dy ->
  p dx dy (fun rr => ∀ z H',Same H H' -> RRep X.K M O H z rr H' -> Q z H') -> r x y H Q
def eOp (p:Dv -> Dv -> (R -> Prop) -> Prop) (ta tb:TEp):TEp:=fun ρ Q => ta ρ fun x => tb ρ fun y => p x.d y.d Q
theorem eOp_run {p:Dv -> Dv -> (R -> Prop) -> Prop} {r:R2} (ha:QE X a ta) (hb:QE X b tb) (hr:∀ (M:Addr -> Prop) (O:Addr -> Dv -> Prop) (H:Hp) (x y:V) (dx dy:Dv) (Q:VK),CRep X.K M H x dx -> CRep X.K M H y dy ->
  p dx dy (fun rr => ∀ z H',Same H H' -> RRep X.K M O H z rr H' -> Q z H') -> r x y H Q) (mo:∀ dx dy (Q Q':R -> Prop),(∀ r,Q r -> Q' r) -> p dx dy Q -> p dx dy Q') (HZ:Hp) (F:Addr -> Prop) (σ:St) (H:Hp) (Q:VK)
  (h:lift X.K HZ F (eOp p ta tb) σ H Q):tOp r (lift X.K HZ F ta) (lift X.K HZ F tb) σ H Q:=by
 obtain ⟨ρ,fr,q⟩:=h
 refine ha.step fr q fun rx x H1 q1 S1 r1 => ?_
 refine hb.step (fr.mono S1) q1 fun ry y H2 q2 S2 r2 => ?_
 refine hr (MM F ρ) (Own ρ) H2 x y _ _ Q (r1.mono S2).c r2.c (mo _ _ _ _ (fun rr k z H' S rz => ?_) q2)
 exact k z H' ((S1.trans S2).trans S) (rz.ahead (S1.trans S2))
theorem eOp_mono {p:Dv -> Dv -> (R -> Prop) -> Prop} (ha:QE X a ta) (hb:QE X b tb) (mo:∀ dx dy (Q Q':R -> Prop),(∀ r,Q r -> Q' r) -> p dx dy Q -> p dx dy Q') (ρ:List Sl) (Q Q':R -> Prop) (w:∀ r,Q r -> Q' r) (h:eOp p ta tb ρ Q):eOp p ta tb ρ Q':=
 ha.mono _ _ _ (fun rx h => hb.mono _ _ _ (fun ry h => mo _ _ _ _ w h) h) h
theorem q_op {op:Operator} {p:Dv -> Dv -> (R -> Prop) -> Prop} (ho:OpD X (binaryOp op) p) (ha:QE X a ta) (hb:QE X b tb):QE X (.BinOp a op b pos) (eOp p ta tb):=by
 obtain ⟨mo,r,hR,hr⟩:=ho
 exact ⟨eOp_mono ha hb mo,fun HZ F => PE_imp (pe_op hR (ha.run HZ F) (hb.run HZ F)) (eOp_run ha hb hr mo HZ F)⟩
theorem q_cmp {op:CmpOp} {p:Dv -> Dv -> (R -> Prop) -> Prop} (ho:OpD X (compareOp op) p) (ha:QE X a ta) (hb:QE X b tb) (hm:behindInMarks op b = false:=by first | exact nomark _ | rfl):QE X (.Compare a [op] [b] pos) (eOp p ta tb):=by
 obtain ⟨mo,r,hR,hr⟩:=ho
 exact ⟨eOp_mono ha hb mo,fun HZ F => PE_imp (pe_cmpR hR (ha.run HZ F) (hb.run HZ F) hm) (eOp_run ha hb hr mo HZ F)⟩
def eTest (te:TEp):TTp:=fun ρ Q => te ρ fun r => match r.d with
 | .bl c => Q c
 | _ => False
theorem eTest_mono (mo:∀ (ρ:List Sl) (Q Q':R -> Prop),(∀ r,Q r -> Q' r) -> te ρ Q -> te ρ Q') (ρ:List Sl) (Q Q':Bool -> Prop) (w:∀ r,Q r -> Q' r) (h:eTest te ρ Q):eTest te ρ Q':=by
 refine mo _ _ _ (fun r q => ?_) h
 split at q
 ·exact w _ q
 ·exact q.elim
theorem eTest_of {HZ:Hp} {F:Addr -> Prop} {σ:St} {H:Hp} {Q:Bool -> Hp -> Prop} (mo:∀ (ρ:List Sl) (Q Q':R -> Prop),(∀ r,Q r -> Q' r) -> te ρ Q -> te ρ Q') (h:liftT X.K HZ F (eTest te) σ H Q):lift X.K HZ F te σ H fun x H' => ∃ k,x = .bl k /\ Q k H':=by
 obtain ⟨ρ,fr,q⟩:=h
 refine ⟨ρ,fr,mo _ _ _ (fun r q x H' S rx => ?_) q⟩
 split at q
 ·rename_i c e
  have:=rx.c
  rw [e] at this
  exact ⟨c,this.bl,q H' S⟩
 ·exact q.elim
theorem qt_cmp {op:CmpOp} {p:Dv -> Dv -> (R -> Prop) -> Prop} (ho:OpD X (compareOp op) p) (ha:QE X a ta) (hb:QE X b tb) (hm:behindInMarks op b = false:=by first | exact nomark _ | rfl):QT X (.Compare a [op] [b] pos) (eTest (eOp p ta tb)):=by
 obtain ⟨mo,r,hR,hr⟩:=ho
 have m1:=eOp_mono ha hb mo
 exact ⟨eTest_mono m1,fun HZ F => PT_imp (pt_cmpR hR (ha.run HZ F) (hb.run HZ F) hm) fun σ H Q h => eOp_run ha hb hr mo HZ F σ H _ (eTest_of m1 h)⟩
def eAnd (t u:TTp):TTp:=fun ρ Q => t ρ fun c => if c = true then u ρ Q else Q false
def eOr (t u:TTp):TTp:=fun ρ Q => t ρ fun c => if c = true then Q true else u ρ Q
def eNot (t:TTp):TTp:=fun ρ Q => t ρ fun c => Q (!c)
theorem qw_and1 {t:TTp} (h:QT X a t):QW X (.BoolOp .And [a] pos) t:=⟨h.mono,fun HZ F => pw_and1 (h.run HZ F)⟩
theorem qw_or1 {t:TTp} (h:QT X a t):QW X (.BoolOp .Or [a] pos) t:=⟨h.mono,fun HZ F => pw_or1 (h.run HZ F)⟩
theorem qw_and {t u:TTp} {rest:List Expr} (h:QT X a t) (k:QW X (.BoolOp .And (b :: rest) pos) u):QW X (.BoolOp .And (a :: b :: rest) pos) (eAnd t u):=by
 refine ⟨fun ρ Q Q' w q => h.mono _ _ _ (fun c q => ?_) q,fun HZ F => PW_imp (pw_and (h.run HZ F) (k.run HZ F)) fun σ H Q ⟨ρ,fr,q⟩ => ?_⟩
 ·split at q
  ·rw [if_pos ‹_›]; exact k.mono _ _ _ w q
  ·rw [if_neg ‹_›]; exact w _ q
 ·refine h.step fr q fun c H1 q1 S1 => ?_
  cases c with
  | true =>
   simp only [if_true] at q1
   exact iteT ⟨ρ,fr.mono S1,k.mono _ _ _ (fun b q H' S => q H' (S1.trans S)) q1⟩
  | false =>
   simp only [Bool.false_eq_true,if_false] at q1
   exact iteF (q1 H1 S1)
theorem qw_or {t u:TTp} {rest:List Expr} (h:QT X a t) (k:QW X (.BoolOp .Or (b :: rest) pos) u):QW X (.BoolOp .Or (a :: b :: rest) pos) (eOr t u):=by
 refine ⟨fun ρ Q Q' w q => h.mono _ _ _ (fun c q => ?_) q,fun HZ F => PW_imp (pw_or (h.run HZ F) (k.run HZ F)) fun σ H Q ⟨ρ,fr,q⟩ => ?_⟩
 ·split at q
  ·rw [if_pos ‹_›]; exact w _ q
  ·rw [if_neg ‹_›]; exact k.mono _ _ _ w q
 ·refine h.step fr q fun c H1 q1 S1 => ?_
  cases c with
  | true =>
   simp only [if_true] at q1
   exact iteT (q1 H1 S1)
  | false =>
   simp only [Bool.false_eq_true,if_false] at q1
   exact iteF ⟨ρ,fr.mono S1,k.mono _ _ _ (fun b q H' S => q H' (S1.trans S)) q1⟩
theorem qt_not {t:TTp} (h:QT X a t):QT X (.UnaryOp .Not a pos) (eNot t):=
 ⟨fun ρ Q Q' w q => h.mono _ _ _ (fun c q => w _ q) q,fun HZ F => PT_imp (pt_not (h.run HZ F)) fun σ H Q ⟨ρ,fr,q⟩ => h.step fr q fun c H1 q1 S1 => q1 H1 S1⟩
def eAndV (ta tb:TEp):TEp:=fun ρ Q => ta ρ fun r => match r.d with
 | .bl c => if c = true then tb ρ Q else Q (.v (.bl false))
 | _ => False
def eOrV (ta tb:TEp):TEp:=fun ρ Q => ta ρ fun r => match r.d with
 | .bl c => if c = true then Q (.v (.bl true)) else tb ρ Q
 | _ => False
def eNotV (ta:TEp):TEp:=fun ρ Q => ta ρ fun r => match r.d with
 | .bl c => Q (.v (.bl (!c)))
 | _ => False
theorem q_one {op} (h:QE X a ta):QE X (.BoolOp op [a] pos) ta:=⟨h.mono,fun HZ F => pe_one (h.run HZ F)⟩
theorem q_and {rest:List Expr} (h:QE X a ta) (k:QE X (.BoolOp .And (b :: rest) pos) tb):QE X (.BoolOp .And (a :: b :: rest) pos) (eAndV ta tb):=by
 refine ⟨fun ρ Q Q' w q => h.mono _ _ _ (fun c q => ?_) q,fun HZ F => PE_imp (pe_and (h.run HZ F) (k.run HZ F)) fun σ H Q ⟨ρ,fr,q⟩ => ?_⟩
 ·split at q
  ·split at q
   ·rw [if_pos ‹_›]; exact k.mono _ _ _ w q
   ·rw [if_neg ‹_›]; exact w _ q
  ·exact q
 ·refine h.step fr q fun r x H1 q1 S1 r1 => ?_
  split at q1
  ·rename_i c e
   have rc:=r1.c
   rw [e] at rc
   refine ⟨c,rc.bl,?_⟩
   cases c with
   | true =>
    simp only [if_true] at q1
    exact iteT ⟨ρ,fr.mono S1,k.mono _ _ _ (fun b q z H' S rz => q z H' (S1.trans S) (rz.ahead S1)) q1⟩
   | false =>
    simp only [Bool.false_eq_true,if_false] at q1
    exact iteF (q1 _ H1 S1 (Rep.bl false))
  ·exact q1.elim
theorem q_or {rest:List Expr} (h:QE X a ta) (k:QE X (.BoolOp .Or (b :: rest) pos) tb):QE X (.BoolOp .Or (a :: b :: rest) pos) (eOrV ta tb):=by
 refine ⟨fun ρ Q Q' w q => h.mono _ _ _ (fun c q => ?_) q,fun HZ F => PE_imp (pe_or (h.run HZ F) (k.run HZ F)) fun σ H Q ⟨ρ,fr,q⟩ => ?_⟩
 ·split at q
  ·split at q
   ·rw [if_pos ‹_›]; exact w _ q
   ·rw [if_neg ‹_›]; exact k.mono _ _ _ w q
  ·exact q
 ·refine h.step fr q fun r x H1 q1 S1 r1 => ?_
  split at q1
  ·rename_i c e
   have rc:=r1.c
   rw [e] at rc
   refine ⟨c,rc.bl,?_⟩
   cases c with
   | true =>
    simp only [if_true] at q1
    exact iteT (q1 _ H1 S1 (Rep.bl true))
   | false =>
    simp only [Bool.false_eq_true,if_false] at q1
    exact iteF ⟨ρ,fr.mono S1,k.mono _ _ _ (fun b q z H' S rz => q z H' (S1.trans S) (rz.ahead S1)) q1⟩
  ·exact q1.elim
theorem q_not (h:QE X a ta):QE X (.UnaryOp .Not a pos) (eNotV ta):=by
 refine ⟨fun ρ Q Q' w q => h.mono _ _ _ (fun c q => ?_) q,fun HZ F => PE_imp (pe_not (h.run HZ F)) fun σ H Q ⟨ρ,fr,q⟩ => ?_⟩
 ·split at q
  ·exact w _ q
  ·exact q
 ·refine h.step fr q fun r x H1 q1 S1 r1 => ?_
  split at q1
  ·rename_i c e
   have rc:=r1.c
   rw [e] at rc
   exact ⟨c,rc.bl,q1 _ H1 S1 (Rep.bl _)⟩
  ·exact q1.elim
def eIf (t:TTp) (ta tb:TEp):TEp:=fun ρ Q => t ρ fun c => if c = true then ta ρ Q else tb ρ Q
def eTup (ts:TAp):TEp:=fun ρ Q => ts ρ fun rs => rs.all R.free = true /\ rs.length <= 1000 /\ Q (.v (.tup (rs.map R.d)))
def eLst (ts:TAp):TEp:=fun ρ Q => ts ρ fun rs => rs.all R.free = true /\ rs.length <= 1000 /\ Q (.nw (.lst (rs.map R.d)))
theorem small_line' {n:Nat} (h:n <= 1000):n <= sizeLine:=Nat.le_of_lt (small1000 h)
theorem Same.new' {H:Hp} {l:Addr} {o:HO} (hl:H l = none):Same H (upd H l o):=fun b q e => by rw [upd_ne (ne_of_none e hl)]; exact e
theorem q_tup {x1} (h:QA X es ts):QE X (.Tuple es x1 pos) (eTup ts):=by
 refine ⟨fun ρ Q Q' w q => h.mono _ _ _ (fun rs q => ⟨q.1,q.2.1,w _ q.2.2⟩) q,fun HZ F => PE_imp (pe_tup (h.run HZ F)) fun σ H Q ⟨ρ,fr,q⟩ => ?_⟩
 refine h.step fr q fun rs xs H1 ⟨q1,q2,q3⟩ S1 r1 => ?_
 have hl:xs.length = rs.length:=Paired.length r1
 refine ⟨small_line' (by ac_rfl),fun p hp => q3 _ _ (S1.trans (Same.new' hp)) ?_⟩
 exact .tup upd_same ((r1.reps (fun a m => fr.dom m) q1).mono (Same.new' hp))
theorem q_lst (h:QA X es ts):QE X (.List es pos) (eLst ts):=by
 refine ⟨fun ρ Q Q' w q => h.mono _ _ _ (fun rs q => ⟨q.1,q.2.1,w _ q.2.2⟩) q,fun HZ F => PE_imp (pe_lst (h.run HZ F)) fun σ H Q ⟨ρ,fr,q⟩ => ?_⟩
 refine h.step fr q fun rs xs H1 ⟨q1,q2,q3⟩ S1 r1 => ?_
 have hl:xs.length = rs.length:=Paired.length r1
 refine ⟨small_line' (by ac_rfl),fun p hp => q3 _ _ (S1.trans (Same.new' hp)) ?_⟩
 exact ⟨p,rfl,S1.free hp,xs,upd_same,((r1.reps (fun a m => fr.dom m) q1).gen (.fresh hp)).mono (Same.new' hp)⟩
end
end Z
namespace Z
open PySem PySem.Spec PyProof.Rows L2
noncomputable abbrev LIM:Nat:=1000000
theorem lim_line {n:Nat} (h:n <= LIM):n <= sizeLine:=Nat.le_trans h (by rw [sizeLine_eq]; decide)
section
variable {K:W.Frag} {M:Addr -> Prop} {O:Addr -> Dv -> Prop} {H:Hp}
theorem nw_lst {p:Addr} {xs:List V} {ds:List Dv} (hp:H p = none) (r:Reps K M H xs ds):RRep K M O H (.ref p) (.nw (.lst ds)) (upd H p (.lst xs)):=⟨p,rfl,hp,xs,upd_same,(r.gen (.fresh hp)).mono (Same.new' hp)⟩
theorem v_tup {p:Addr} {xs:List V} {ds:List Dv} (hp:H p = none) (r:Reps K M H xs ds):RRep K M O H (.ref p) (.v (.tup ds)) (upd H p (.tup xs)):=Rep.tup upd_same (r.mono (Same.new' hp))
end
def pAdd:Dv -> Dv -> (R -> Prop) -> Prop
 | .int i,.int j,Q => Q (.v (.int (i + j)))
 | .lst xs,.lst ys,Q => xs.length + ys.length <= LIM /\ Q (.nw (.lst (xs ++ ys)))
 | .str x,.str y,Q => x.length + y.length <= LIM /\ Q (.v (.str (x ++ y)))
 | _,_,_ => False
def pSub:Dv -> Dv -> (R -> Prop) -> Prop
 | .int i,.int j,Q => Q (.v (.int (i - j)))
 | _,_,_ => False
def CMulG (i j:Int):Prop:=CMul i j \/ (i.natAbs < 2 ^ 4000 /\ j.natAbs < 2 ^ 4000)
def pMul:Dv -> Dv -> (R -> Prop) -> Prop
 | .int i,.int j,Q => CMulG i j /\ Q (.v (.int (i * j)))
 | .lst xs,.int k,Q => (-(2 ^ 63) <= k /\ k < 2 ^ 63 /\ xs.length * k.toNat <= LIM) /\ Q (.nw (.lst (List.replicate k.toNat xs).flatten))
 | _,_,_ => False
def pDiv:Dv -> Dv -> (R -> Prop) -> Prop
 | .int i,.int j,Q => (0 < j /\ j < 2 ^ 200) /\ Q (.v (.int (i / j)))
 | _,_,_ => False
def pDivG:Dv -> Dv -> (R -> Prop) -> Prop
 | .int i,.int j,Q => (j ≠ 0 /\ j.natAbs < 2 ^ 4000) /\ Q (.v (.int (i.fdiv j)))
 | _,_,_ => False
def pMod:Dv -> Dv -> (R -> Prop) -> Prop
 | .int i,.int j,Q => 0 < j /\ Q (.v (.int (i % j)))
 | _,_,_ => False
def pPow:Dv -> Dv -> (R -> Prop) -> Prop
 | .int i,.int j,Q => CPow i j /\ Q (.v (.int (i ^ j.toNat)))
 | _,_,_ => False
section
variable {X:Cx}
theorem pAdd_mono:∀ dx dy (Q Q':R -> Prop),(∀ r,Q r -> Q' r) -> pAdd dx dy Q -> pAdd dx dy Q':=by
 intro dx dy Q Q' w h
 unfold pAdd at h
 split at h
 ·exact w _ h
 ·exact ⟨h.1,w _ h.2⟩
 ·exact ⟨h.1,w _ h.2⟩
 ·exact h.elim
theorem opd_add:OpD X (binaryOp .Add) pAdd:=by
 refine ⟨pAdd_mono,_,op_add.or (op_cat.or op_add_str),fun M O H x y dx dy Q cx cy h => ?_⟩
 unfold pAdd at h
 split at h
 ·obtain rfl:=cx.int
  obtain rfl:=cy.int
  exact .inl ⟨_,_,rfl,rfl,h _ H (Same.refl _) (Rep.int _)⟩
 ·obtain ⟨a,xs,rfl,ea,ra⟩:=cx.lst
  obtain ⟨b,ys,rfl,eb,rb⟩:=cy.lst
  have l1:=ra.length
  have l2:=rb.length
  exact .inr (.inl ⟨a,b,xs,ys,rfl,rfl,ea,eb,lim_line (by ac_rfl),fun p hp => h.2 _ _ (Same.new' hp) (nw_lst hp (ra.append rb))⟩)
 ·obtain rfl:=cx.str
  obtain rfl:=cy.str
  exact .inr (.inr ⟨_,_,rfl,rfl,lim_line h.1,h.2 _ H (Same.refl _) (Rep.str _)⟩)
 ·exact h.elim
theorem pSub_mono:∀ dx dy (Q Q':R -> Prop),(∀ r,Q r -> Q' r) -> pSub dx dy Q -> pSub dx dy Q':=by
 intro dx dy Q Q' w h
 unfold pSub at h
 split at h
 ·exact w _ h
 ·exact h.elim
theorem opd_sub:OpD X (binaryOp .Sub) pSub:=by
 refine ⟨pSub_mono,_,op_sub,fun M O H x y dx dy Q cx cy h => ?_⟩
 unfold pSub at h
 split at h
 ·obtain rfl:=cx.int
  obtain rfl:=cy.int
  exact ⟨_,_,rfl,rfl,h _ H (Same.refl _) (Rep.int _)⟩
 ·exact h.elim
theorem CMulG.ok {i j:Int} (h:CMulG i j):IntMulOk i j:=by
 rcases h with h | ⟨h1,h2⟩
 ·exact h.ok
 ·have key:∀ {z:Int},z.natAbs < 2 ^ 4000 -> Builtin.Int.intBits z <= 2 ^ 20:=fun {z} hz => by
   have hl:z.natAbs ≠ 0 -> z.natAbs.log2 < 4000:=fun h0 => (Nat.log2_lt h0).mpr hz
   clear hz h1 h2
   unfold Builtin.Int.intBits
   by_cases h0:z = 0
   ·simp [h0]
   ·have:=hl (by ac_rfl)
    simp [h0]
    ac_rfl
  exact IntMulOk.of_bits (key h1) (key h2)
theorem op_mulG:OpR X (binaryOp .Mult) (rI CMulG fun i j => .int (i * j)):=opI fun _ _ _ _ _ _ _ hc q => mul_int q hc.ok
theorem pMul_mono:∀ dx dy (Q Q':R -> Prop),(∀ r,Q r -> Q' r) -> pMul dx dy Q -> pMul dx dy Q':=by
 intro dx dy Q Q' w h
 unfold pMul at h
 split at h
 ·exact ⟨h.1,w _ h.2⟩
 ·exact ⟨h.1,w _ h.2⟩
 ·exact h.elim
theorem opd_mul:OpD X (binaryOp .Mult) pMul:=by
 refine ⟨pMul_mono,_,op_mulG.or op_rep,fun M O H x y dx dy Q cx cy h => ?_⟩
 unfold pMul at h
 split at h
 ·obtain rfl:=cx.int
  obtain rfl:=cy.int
  exact .inl ⟨_,_,rfl,rfl,h.1,h.2 _ H (Same.refl _) (Rep.int _)⟩
 ·obtain ⟨a,xs,rfl,ea,ra⟩:=cx.lst
  obtain rfl:=cy.int
  have l1:=ra.length
  exact .inr ⟨a,_,xs,rfl,rfl,ea,h.1.1,h.1.2.1,lim_line (by rw [l1]; exact h.1.2.2),fun p hp => h.2 _ _ (Same.new' hp) (nw_lst hp (ra.repl _))⟩
 ·exact h.elim
theorem pDiv_mono:∀ dx dy (Q Q':R -> Prop),(∀ r,Q r -> Q' r) -> pDiv dx dy Q -> pDiv dx dy Q':=by
 intro dx dy Q Q' w h
 unfold pDiv at h
 split at h
 ·exact ⟨h.1,w _ h.2⟩
 ·exact h.elim
theorem opd_div:OpD X (binaryOp .FloorDiv) pDiv:=by
 refine ⟨pDiv_mono,_,op_fdivB,fun M O H x y dx dy Q cx cy h => ?_⟩
 unfold pDiv at h
 split at h
 ·obtain rfl:=cx.int
  obtain rfl:=cy.int
  exact ⟨_,_,rfl,rfl,h.1,h.2 _ H (Same.refl _) (Rep.int _)⟩
 ·exact h.elim
theorem pMod_mono:∀ dx dy (Q Q':R -> Prop),(∀ r,Q r -> Q' r) -> pMod dx dy Q -> pMod dx dy Q':=by
 intro dx dy Q Q' w h
 unfold pMod at h
 split at h
 ·exact ⟨h.1,w _ h.2⟩
 ·exact h.elim
theorem opd_mod:OpD X (binaryOp .Mod) pMod:=by
 refine ⟨pMod_mono,_,op_mod,fun M O H x y dx dy Q cx cy h => ?_⟩
 unfold pMod at h
 split at h
 ·obtain rfl:=cx.int
  obtain rfl:=cy.int
  exact ⟨_,_,rfl,rfl,h.1,h.2 _ H (Same.refl _) (Rep.int _)⟩
 ·exact h.elim
def eNeg (ta:TEp):TEp:=fun ρ Q => ta ρ fun r => match r.d with
 | .int i => Q (.v (.int (-i)))
 | _ => False
theorem q_neg {a:Expr} {pos:Pos} {ta:TEp} (h:QE X a ta):QE X (.UnaryOp .USub a pos) (eNeg ta):=by
 refine ⟨fun ρ Q Q' w q => h.mono _ _ _ (fun c q => ?_) q,fun HZ F => PE_imp (pe_un un_neg (h.run HZ F)) fun σ H Q ⟨ρ,fr,q⟩ => ?_⟩
 ·split at q
  ·exact w _ q
  ·exact q
 ·refine h.step fr q fun r x H1 q1 S1 r1 => ?_
  split at q1
  ·rename_i i e
   have rc:=r1.c
   rw [e] at rc
   exact ⟨i,rc.int,q1 _ H1 S1 (Rep.int _)⟩
  ·exact q1.elim
def pI2 (f:Int -> Int -> Bool):Dv -> Dv -> (R -> Prop) -> Prop
 | .int i,.int j,Q => Q (.v (.bl (f i j)))
 | _,_,_ => False
theorem pI2_mono {f:Int -> Int -> Bool}:∀ dx dy (Q Q':R -> Prop),(∀ r,Q r -> Q' r) -> pI2 f dx dy Q -> pI2 f dx dy Q':=by
 intro dx dy Q Q' w h
 unfold pI2 at h
 split at h
 ·exact w _ h
 ·exact h.elim
theorem opd_i2 {g:Value -> Value -> Sem Value} {f:Int -> Int -> Bool} (h:OpR X g (rI0 fun i j => .bl (f i j))):OpD X g (pI2 f):=by
 refine ⟨pI2_mono,_,h,fun M O H x y dx dy Q cx cy h => ?_⟩
 unfold pI2 at h
 split at h
 ·obtain rfl:=cx.int
  obtain rfl:=cy.int
  exact ⟨_,_,rfl,rfl,h _ H (Same.refl _) (Rep.bl _)⟩
 ·exact h.elim
noncomputable abbrev pLt:=pI2 fun i j => decide (i < j)
noncomputable abbrev pLe:=pI2 fun i j => decide (i <= j)
noncomputable abbrev pGt:=pI2 fun i j => decide (j < i)
theorem opd_lt:OpD X (compareOp .Lt) pLt:=opd_i2 op_lt
theorem opd_le:OpD X (compareOp .LtE) pLe:=opd_i2 op_le
theorem opd_gt:OpD X (compareOp .Gt) pGt:=opd_i2 op_gt
def eChain (p p':Dv -> Dv -> (R -> Prop) -> Prop) (ta tb tc:TEp):TEp:=fun ρ Q => ta ρ fun x => tb ρ fun y => p x.d y.d fun z => match z.d with
 | .bl k => if k = true then tc ρ fun w => p' y.d w.d Q else Q (.v (.bl false))
 | _ => False
noncomputable def isN:Dv -> Bool
 | .non => true
 | _ => false
def pIsN:Dv -> Dv -> (R -> Prop) -> Prop
 | d,.non,Q => Q (.v (.bl (isN d)))
 | _,_,_ => False
def pNotN:Dv -> Dv -> (R -> Prop) -> Prop
 | d,.non,Q => Q (.v (.bl (!isN d)))
 | _,_,_ => False
end
noncomputable def pyD:Dv -> PyData
 | .non => .none
 | .bl b => .bool b
 | .int i => .int i
 | .str x => .str x
 | .tup xs => .tuple (pyDs xs)
 | .lst xs => .list (pyDs xs)
 | .scr ns => .list (ns.map .int)
 | _ => .dict []
where pyDs:List Dv -> List PyData
 | [] => []
 | d :: r => pyD d :: pyDs r
noncomputable abbrev pyDs:=pyD.pyDs
noncomputable def okD:Nat -> Dv -> Bool
 | _,.non => true
 | _,.bl _ => true
 | _,.int _ => true
 | _,.str x => PyData.strOk x
 | n + 1,.tup xs => okDs n xs
 | n + 1,.lst xs => okDs n xs
 | _ + 1,.scr _ => true
 | _,_ => false
where okDs:Nat -> List Dv -> Bool
 | _,[] => true
 | n,d :: r => okD n d && okDs n r
noncomputable abbrev okDs:=okD.okDs
noncomputable def eqD (a b:Dv):Bool:=PyData.eqv (pyD a) (pyD b)
theorem canLay_ints (ns:List Int):PyData.canLayAll0 (ns.map .int) = true:=by
 induction ns with
 | nil => rfl
 | cons n r ih => rw [List.map_cons,PyData.canLayAll0,ih]; rfl
theorem depth_ints (ns:List Int):PyData.depthAll (ns.map .int) = 0:=by
 induction ns with
 | nil => rfl
 | cons n r ih => rw [List.map_cons,PyData.depthAll,ih]; rfl
mutual
theorem okD_lay:∀ (n:Nat) (d:Dv),okD n d = true -> (pyD d).canLay0 = true /\ (pyD d).depth <= n
 | _,.non,_ => ⟨by simp [pyD,PyData.canLay0],by simp [pyD,PyData.depth]⟩
 | _,.bl _,_ => ⟨by simp [pyD,PyData.canLay0],by simp [pyD,PyData.depth]⟩
 | _,.int _,_ => ⟨by simp [pyD,PyData.canLay0],by simp [pyD,PyData.depth]⟩
 | _,.str x,h => ⟨by rw [pyD,PyData.canLay0]; cases ‹Nat› <;> simpa [okD] using h,by simp [pyD,PyData.depth]⟩
 | 0,.tup _,h => by simp [okD] at h
 | 0,.lst _,h => by simp [okD] at h
 | 0,.scr _,h => by simp [okD] at h
 | n + 1,.tup xs,h => by
  have:=okDs_lay n xs (by rw [okD] at h; exact h)
  exact ⟨by rw [pyD,PyData.canLay0]; exact this.1,by rw [pyD,PyData.depth]; have h2:PyData.depthAll (pyD.pyDs xs) <= n:=this.2; ac_rfl⟩
 | n + 1,.lst xs,h => by
  have:=okDs_lay n xs (by rw [okD] at h; exact h)
  exact ⟨by rw [pyD,PyData.canLay0]; exact this.1,by rw [pyD,PyData.depth]; have h2:PyData.depthAll (pyD.pyDs xs) <= n:=this.2; ac_rfl⟩
 | n + 1,.scr ns,_ => ⟨by rw [pyD,PyData.canLay0]; exact canLay_ints ns,by rw [pyD,PyData.depth,depth_ints]; ac_rfl⟩
 | 0,.dik _,h => by simp [okD] at h
 | 0,.dit _,h => by simp [okD] at h
 | 0,.obj _ _,h => by simp [okD] at h
 | 0,.exc _ _,h => by simp [okD] at h
 | _ + 1,.exc _ _,h => by simp [okD] at h
 | 0,.dns _,h => by simp [okD] at h
 | _ + 1,.dns _,h => by simp [okD] at h
 | _ + 1,.dik _,h => by simp [okD] at h
 | _ + 1,.dit _,h => by simp [okD] at h
 | _ + 1,.obj _ _,h => by simp [okD] at h
theorem okDs_lay:∀ (n:Nat) (ds:List Dv),okDs n ds = true -> PyData.canLayAll0 (pyDs ds) = true /\ PyData.depthAll (pyDs ds) <= n
 | _,[],_ => ⟨by simp [pyD.pyDs,PyData.canLayAll0],by simp [pyD.pyDs,PyData.depthAll]⟩
 | n,d :: r,h => by
  have h':(okD n d && okDs n r) = true:=h
  rw [Bool.and_eq_true] at h'
  have h1:=okD_lay n d h'.1
  have h2:=okDs_lay n r h'.2
  refine ⟨by show PyData.canLayAll0 (pyD d :: pyDs r) = true; rw [PyData.canLayAll0,h1.1,h2.1]; rfl,?_⟩
  show PyData.depthAll (pyD d :: pyDs r) <= n
  rw [PyData.depthAll]
  ac_rfl
end
theorem okD_shaped {n:Nat} {d:Dv} (h:okD n d = true) (hn:n <= 64):SeqAt.shaped (pyD d) = true:=by
 obtain ⟨h1,h2⟩:=okD_lay n d h
 unfold SeqAt.shaped
 rw [h1,decide_eq_true (by ac_rfl)]
 rfl
section
variable {X:Cx} {M:Addr -> Prop} {pins:List (Addr × Obj)} {σ:St} {H:Hp} {s:Shared}
theorem ints_reads {h:Heap}:∀ {ns:List Int} {us:List Value},Vals (ns.map V.int) us -> ∃ as,ReadsAll h us (ns.map PyData.int) as
 | [],_,.nil => ⟨_,.nil⟩
 | n :: r,_,.cons a t => by
  obtain ⟨tk,rfl⟩:=a
  obtain ⟨as,q⟩:=ints_reads (h:=h) t
  exact ⟨_,.cons (.int n tk) q⟩
theorem ok_cons {n:Nat} {d:Dv} {ds:List Dv} (f:okDs n (d :: ds) = true):okD n d = true /\ okDs n ds = true:=by
 have f':(okD n d && okDs n ds) = true:=f
 rwa [Bool.and_eq_true] at f'
theorem Rep.reads (I:Inv X pins σ H s) {n:Nat} {x:V} {d:Dv} {u:Value} (q:Rep X.K M H x d) (ok:okD n d = true) (r:RelV x u):∃ as,Reads s.heap u (pyD d) as:=by
 refine Rep.rec (motive_1:=fun x d _ => ∀ n u,okD n d = true -> RelV x u -> ∃ as,Reads s.heap u (pyD d) as) (motive_2:=fun xs ds _ => ∀ n us,okDs n ds = true -> Vals xs us -> ∃ as,ReadsAll s.heap us (pyDs ds) as) (motive_3:=fun _ _ _ => True) (motive_4:=fun _ _ _ => True) (motive_5:=fun _ _ _ => True)
  (fun n u _ r => by cases r; exact ⟨_,.none⟩) (fun b n u _ r => by cases r; exact ⟨_,.bool b⟩) (fun i n u _ r => by obtain ⟨t,rfl⟩:=r; exact ⟨_,.int i t⟩) (fun y n u _ r => by obtain ⟨t,rfl⟩:=r; exact ⟨_,.str y t⟩) ?tup ?lst ?dik ?dit ?obj ?scr ?exc ?dns ?nil ?cons
  trivial (fun _ _ _ _ => trivial) trivial (fun _ _ _ _ => trivial) trivial (fun _ _ _ _ => trivial) q n u ok r
 case tup =>
  intro a xs ds e _ ih n u ok r
  cases n with
  | zero => simp [okD] at ok
  | succ n =>
   cases r
   obtain ⟨_,its,rv,o,ho,hc,m,hd⟩:=I.hok _ _ e
   obtain ⟨as,ra⟩:=ih n its (by rw [okD] at ok; exact ok) rv
   exact ⟨_,.tuple ho hc hd ra⟩
 case lst =>
  intro a xs ds e _ _ ih n u ok r
  cases n with
  | zero => simp [okD] at ok
  | succ n =>
   cases r
   obtain ⟨_,its,m,rv,ho⟩:=I.hok _ _ e
   obtain ⟨as,ra⟩:=ih n its (by rw [okD] at ok; exact ok) rv
   exact ⟨_,.list ho rfl rfl ra⟩
 case dik => intro a xs ds _ _ _ _ n u ok; cases n <;> simp [okD] at ok
 case dit => intro a ep xs ds _ _ _ _ n u ok; cases n <;> simp [okD] at ok
 case obj => intro a C dx xs ds _ _ _ _ n u ok; cases n <;> simp [okD] at ok
 case scr =>
  intro a ns e n u _ r
  cases r
  obtain ⟨its,rv,pl,_⟩:=I.list e.sq
  obtain ⟨o,ho,hc,m,hd⟩:=pl.isList
  obtain ⟨as,ra⟩:=ints_reads (h:=s.heap) rv
  exact ⟨_,.list ho hc hd (by simpa using ra)⟩
 case exc => intro a C p _ n u ok; cases n <;> simp [okD] at ok
 case dns => intro a ks _ _ n u ok; cases n <;> simp [okD] at ok
 case nil => intro n us _ r; cases r; exact ⟨_,.nil⟩
 case cons =>
  intro x d xs ds _ _ i1 i2 n us ok r
  cases r with
  | cons r1 r2 =>
   obtain ⟨as,ra⟩:=i1 n _ (ok_cons ok).1 r1
   obtain ⟨bs,rb⟩:=i2 n _ (ok_cons ok).2 r2
   exact ⟨_,.cons ra rb⟩
theorem Reps.reads (I:Inv X pins σ H s) {n:Nat} {xs:List V} {ds:List Dv} {us:List Value} (q:Reps X.K M H xs ds) (ok:okDs n ds = true) (r:Vals xs us):∃ as,ReadsAll s.heap us (pyDs ds) as:=
 q.ind (P:=fun xs ds => ∀ us,okDs n ds = true -> Vals xs us -> ∃ as,ReadsAll s.heap us (pyDs ds) as) (fun us _ r => by cases r; exact ⟨_,.nil⟩) (fun x d xs ds a _ ih us ok r => by
  cases r with
  | cons r1 r2 =>
   obtain ⟨as,ra⟩:=a.reads I (ok_cons ok).1 r1
   obtain ⟨bs,rb⟩:=ih _ (ok_cons ok).2 r2
   exact ⟨_,.cons ra rb⟩) us ok r
theorem CRep.reads (I:Inv X pins σ H s) {n:Nat} {x:V} {d:Dv} {u:Value} (c:CRep X.K M H x d) (ok:okD n d = true) (r:RelV x u):∃ as,Reads s.heap u (pyD d) as:=by
 rcases c with c | ⟨a,rfl,o⟩
 ·exact c.reads I ok r
 ·cases d with
  | lst ds =>
   obtain ⟨xs,e,q⟩:=o
   cases r
   cases n with
   | zero => simp [okD] at ok
   | succ n =>
    obtain ⟨_,its,m,rv,ho⟩:=I.hok _ _ e
    obtain ⟨as,ra⟩:=Reps.reads I q (by rw [okD] at ok; exact ok) rv
    exact ⟨_,.list ho rfl rfl ra⟩
  | dik _ => cases n <;> simp [okD] at ok
  | dit _ => cases n <;> simp [okD] at ok
  | obj _ _ => cases n <;> simp [okD] at ok
  | dns _ => cases n <;> simp [okD] at ok
  | _ => exact o.elim
end
def pEq:Dv -> Dv -> (R -> Prop) -> Prop
 | .int i,.int j,Q => Q (.v (.bl (decide (i = j))))
 | dx,dy,Q => (okD 8 dx = true /\ okD 8 dy = true) /\ Q (.v (.bl (eqD dx dy)))
def pNe:Dv -> Dv -> (R -> Prop) -> Prop
 | .int i,.int j,Q => Q (.v (.bl (!decide (i = j))))
 | dx,dy,Q => (okD 8 dx = true /\ okD 8 dy = true) /\ Q (.v (.bl (!eqD dx dy)))
section
variable {X:Cx}
def rEqZ (K:W.Frag):R2:=fun x y H Q => ∃ M dx dy,CRep K M H x dx /\ CRep K M H y dy /\ okD 8 dx = true /\ okD 8 dy = true /\ Q (.bl (eqD dx dy)) H
def rNeZ (K:W.Frag):R2:=fun x y H Q => ∃ M dx dy,CRep K M H x dx /\ CRep K M H y dy /\ okD 8 dx = true /\ okD 8 dy = true /\ Q (.bl (!eqD dx dy)) H
theorem op_eqZ (hu:X.A.units + 64 < cLine):OpR X (compareOp .Eq) (rEqZ X.K):=by
 intro pins s σ H x y v u Q I rx ry h
 obtain ⟨M,dx,dy,r1,r2,o1,o2,q⟩:=h
 obtain ⟨as,ra⟩:=r1.reads I o1 rx
 obtain ⟨bs,rb⟩:=r2.reads I o2 ry
 exact SeqAt.compareEq_shaped ra rb (okD_shaped o1 (by decide)) (okD_shaped o2 (by decide)) hu ⟨.bl _,H,I,rfl,q⟩
theorem op_neZ (hu:X.A.units + 64 < cLine):OpR X (compareOp .NotEq) (rNeZ X.K):=by
 intro pins s σ H x y v u Q I rx ry h
 obtain ⟨M,dx,dy,r1,r2,o1,o2,q⟩:=h
 obtain ⟨as,ra⟩:=r1.reads I o1 rx
 obtain ⟨bs,rb⟩:=r2.reads I o2 ry
 exact SeqAt.compareNe_shaped ra rb (okD_shaped o1 (by decide)) (okD_shaped o2 (by decide)) hu ⟨.bl _,H,I,rfl,q⟩
theorem eqD_int (i j:Int):eqD (.int i) (.int j) = decide (i = j):=by
 show PyData.eqv (.int i) (.int j) = _
 rw [PyData.eqv]
 exact Bool.beq_eq_decide_eq i j
theorem opd_eq (hu:X.A.units + 64 < cLine):OpD X (compareOp .Eq) pEq:=by
 refine ⟨fun dx dy Q Q' w h => ?_,_,op_eqZ hu,fun M O H x y dx dy Q cx cy h => ?_⟩
 ·unfold pEq at *
  split at h
  ·exact w _ h
  ·exact ⟨h.1,w _ h.2⟩
 ·unfold pEq at h
  split at h
  ·refine ⟨M,_,_,cx,cy,by simp [okD],by simp [okD],?_⟩
   rw [eqD_int]
   exact h _ H (Same.refl _) (Rep.bl _)
  ·exact ⟨M,_,_,cx,cy,h.1.1,h.1.2,h.2 _ H (Same.refl _) (Rep.bl _)⟩
theorem opd_ne (hu:X.A.units + 64 < cLine):OpD X (compareOp .NotEq) pNe:=by
 refine ⟨fun dx dy Q Q' w h => ?_,_,op_neZ hu,fun M O H x y dx dy Q cx cy h => ?_⟩
 ·unfold pNe at *
  split at h
  ·exact w _ h
  ·exact ⟨h.1,w _ h.2⟩
 ·unfold pNe at h
  split at h
  ·refine ⟨M,_,_,cx,cy,by simp [okD],by simp [okD],?_⟩
   rw [eqD_int]
   exact h _ H (Same.refl _) (Rep.bl _)
  ·exact ⟨M,_,_,cx,cy,h.1.1,h.1.2,h.2 _ H (Same.refl _) (Rep.bl _)⟩
end
end Z
namespace Z
open PySem PySem.Spec PyProof.Rows L2
structure En where
 nx:List Sl -> Prop
 rt:R -> Prop
 bk:List Sl -> Prop:=fun _ => False
 ct:List Sl -> Prop:=fun _ => False
abbrev TSp:=En -> List Sl -> Prop
structure EnLe (E E':En):Prop where
 nx:∀ ρ,E.nx ρ -> E'.nx ρ
 rt:∀ r,E.rt r -> E'.rt r
 bk:∀ ρ,E.bk ρ -> E'.bk ρ
 ct:∀ ρ,E.ct ρ -> E'.ct ρ
structure Ent (K:W.Frag) (HZ:Hp) (F:Addr -> Prop) (E:En) (D:Ends):Prop where
 nx:∀ ρ σ H,Fr K HZ F σ H ρ -> E.nx ρ -> D.nx σ H
 bk:∀ ρ σ H,Fr K HZ F σ H ρ -> E.bk ρ -> D.bk σ H
 ct:∀ ρ σ H,Fr K HZ F σ H ρ -> E.ct ρ -> D.ct σ H
 rt:∀ r x H,Same HZ H -> RRep K F NoOwn HZ x r H -> E.rt r -> D.rt x H
inductive liftS (K:W.Frag) (HZ:Hp) (F:Addr -> Prop) (t:TSp) (D:Ends) (σ:St) (H:Hp):Prop
 | mk (ρ:List Sl) (E:En) (fr:Fr K HZ F σ H ρ) (h:t E ρ) (en:Ent K HZ F E D)
structure QS (X:Cx) (st:Stmt) (t:TSp):Prop where
 mono:∀ E E' ρ,EnLe E E' -> t E ρ -> t E' ρ
 run:∀ (HZ:Hp) (F:Addr -> Prop),PS X st (liftS X.K HZ F t)
structure QSs (X:Cx) (sts:List Stmt) (t:TSp):Prop where
 mono:∀ E E' ρ,EnLe E E' -> t E ρ -> t E' ρ
 run:∀ (HZ:Hp) (F:Addr -> Prop),PSs X sts (liftS X.K HZ F t)
section
variable {X:Cx} {st:Stmt} {sts:List Stmt} {t u:TSp} {e c:Expr} {te:TEp} {pos:Pos}
theorem PS_imp {t t':TS} (h:PS X st t) (w:∀ D σ H,t' D σ H -> t D σ H):PS X st t':=fun pins s σ H D I q => h pins s σ H D I (w D σ H q)
theorem PSs_imp {t t':TS} (h:PSs X sts t) (w:∀ D σ H,t' D σ H -> t D σ H):PSs X sts t':=fun pins s σ H D I q => h pins s σ H D I (w D σ H q)
def sNext:TSp:=fun E ρ => E.nx ρ
def sSeq (t u:TSp):TSp:=fun E ρ => t { E with nx:=u E } ρ
theorem q_nilS:QSs X [] sNext:=⟨fun E E' ρ w h => w.nx _ h,fun HZ F => PSs_imp pss_nil fun D σ H ⟨ρ,E,fr,h,en⟩ => en.nx _ _ _ fr h⟩
theorem EnLe.with_nx {E E':En} {a b:List Sl -> Prop} (w:EnLe E E') (h:∀ ρ,a ρ -> b ρ):EnLe { E with nx:=a } { E' with nx:=b }:=⟨h,w.rt,w.bk,w.ct⟩
theorem q_consS (h1:QS X st t) (h2:QSs X sts u):QSs X (st :: sts) (sSeq t u):=by
 refine ⟨fun E E' ρ w h => h1.mono _ _ _ (w.with_nx fun ρ h => h2.mono _ _ _ w h) h,fun HZ F => PSs_imp (pss_cons (h1.run HZ F) (h2.run HZ F)) fun D σ H ⟨ρ,E,fr,h,en⟩ => ?_⟩
 exact ⟨ρ,_,fr,h,fun ρ' σ' H' fr' h' => ⟨ρ',E,fr',h',en⟩,en.bk,en.ct,en.rt⟩
theorem q_oneS (h1:QS X st t):QSs X [st] t:=⟨h1.mono,fun HZ F => pss_one (h1.run HZ F)⟩
def sBreak:TSp:=fun E ρ => E.bk ρ
def sCont:TSp:=fun E ρ => E.ct ρ
def sNever:TSp:=fun _ _ => False
theorem q_never:QS X st sNever:=⟨fun _ _ _ _ h => h,fun HZ F => PS_imp ps_never fun D σ H ⟨ρ,E,fr,h,en⟩ => h⟩
def sDrop (te:TEp):TSp:=fun E ρ => te ρ fun _ => E.nx ρ
theorem q_expr (he:QE X e te) (hs:swapsWith e none pos.line X.env = pure false:=by rfl):QS X (.Expr e pos) (sDrop te):=
 ⟨fun E E' ρ w h => he.mono _ _ _ (fun _ q => w.nx _ q) h,fun HZ F => PS_imp (ps_expr (he.run HZ F) hs) fun D σ H ⟨ρ,E,fr,h,en⟩ => he.step fr h fun r x H1 q S1 _ => en.nx _ _ _ (fr.mono S1) q⟩
noncomputable def R.out:R -> R
 | .ow _ d => .nw d
 | r => r
theorem RRep.out {K:W.Frag} {HZ H H':Hp} {F:Addr -> Prop} {σ:St} {ρ:List Sl} {x:V} {r:R} (fr:Fr K HZ F σ H ρ) (h:RRep K (MM F ρ) (Own ρ) H x r H'):RRep K F NoOwn HZ x r.out H':=by
 cases r with
 | v d => exact Rep.weak (fun a z => .inl z) h
 | nw d =>
  obtain ⟨a,e,n,o⟩:=h
  exact ⟨a,e,fr.same.free n,o.weak fun b z => z.elim (fun z => .inl (.inl z)) .inr⟩
 | ow a d =>
  obtain ⟨e,m,o⟩:=h
  refine ⟨a,e,fr.new a d m,o.weak fun b z => ?_⟩
  rcases z with z | z
  ·exact .inl z
  ·rw [z]; exact .inr ⟨d,m⟩
def sRet (te:TEp):TSp:=fun E ρ => te ρ fun r => E.rt r.out
def sRetN:TSp:=fun E _ => E.rt (.v .non)
theorem q_ret (he:QE X e te):QS X (.Return (some e) pos) (sRet te):=
 ⟨fun E E' ρ w h => he.mono _ _ _ (fun _ q => w.rt _ q) h,fun HZ F => PS_imp (ps_ret (he.run HZ F)) fun D σ H ⟨ρ,E,fr,h,en⟩ => he.step fr h fun r x H1 q S1 r1 => en.rt _ _ _ (fr.same.trans S1) (RRep.out fr r1) q⟩
def sIf (c:TTp) (t u:TSp):TSp:=fun E ρ => c ρ fun b => if b = true then t E ρ else u E ρ
theorem q_if {a b:List Stmt} {tc:TTp} (hc:QT X c tc) (ha:QSs X a t) (hb:QSs X b u):QS X (.If c a b pos) (sIf tc t u):=by
 refine ⟨fun E E' ρ w h => hc.mono _ _ _ (fun k q => ?_) h,fun HZ F => PS_imp (ps_if (hc.run HZ F) (ha.run HZ F) (hb.run HZ F)) fun D σ H ⟨ρ,E,fr,h,en⟩ => ?_⟩
 ·split at q
  ·rw [if_pos ‹_›]; exact ha.mono _ _ _ w q
  ·rw [if_neg ‹_›]; exact hb.mono _ _ _ w q
 ·refine hc.step fr h fun k H1 q S1 => ?_
  cases k with
  | true => exact iteT ⟨ρ,E,fr.mono S1,by simpa using q,en⟩
  | false => exact iteF ⟨ρ,E,fr.mono S1,by simpa using q,en⟩
end
section
variable {K:W.Frag} {HZ H H':Hp} {F:Addr -> Prop} {σ:St} {ρ:List Sl}
theorem get_set {α:Type} {l:List α} {i j:Nat} {a b:α} (h:(l.set i a)[j]? = some b):(i = j /\ i < l.length /\ b = a) \/ (i ≠ j /\ l[j]? = some b):=by
 by_cases e:i = j
 ·subst e
  by_cases hl:i < l.length
  ·rw [List.getElem?_set_self hl] at h
   exact .inl ⟨rfl,hl,(Option.some.inj h).symm⟩
  ·rw [List.getElem?_eq_none (by simp; ac_rfl)] at h
   cases h
 ·rw [List.getElem?_set_ne e] at h
  exact .inr ⟨e,h⟩
theorem MM.set {i:Nat} {s:Sl} (a:Addr) (h:MM F (ρ.set i s) a):MM F ρ a \/ ∃ d,s = .own a d:=by
 rcases h with h | ⟨d,h⟩
 ·exact .inl (.inl h)
 ·rcases List.mem_or_eq_of_mem_set h with h | h
  ·exact .inl (.inr ⟨d,h⟩)
  ·exact .inr ⟨d,h.symm⟩
theorem Fr.setv (fr:Fr K HZ F σ H ρ) {i:Nat} {x:V} {d:Dv} (r:Rep K (MM F ρ) H x d):Fr K HZ F (σ.set i (some x)) H (ρ.set i (.v d)):=by
 have wk:∀ a,MM F (ρ.set i (.v d)) a -> MM F ρ a:=fun a h => by
  rcases MM.set a h with h | ⟨_,h⟩
  ·exact h
  ·cases h
 refine ⟨by simp [fr.len],fun j s e => ?_,fun j k a d1 d2 e1 e2 => ?_,fun a d1 h => ?_,fr.same,fr.old⟩
 ·rcases get_set e with ⟨rfl,hl,rfl⟩ | ⟨ne,e⟩
  ·exact ⟨x,by rw [List.getElem?_set_self (by rw [fr.len]; exact hl)],r.weak wk⟩
  ·rw [List.getElem?_set_ne ne]
   exact (fr.sl j s e).weak wk
 ·rcases get_set e1 with ⟨_,_,z⟩ | ⟨_,e1⟩
  ·cases z
  ·rcases get_set e2 with ⟨_,_,z⟩ | ⟨_,e2⟩
   ·cases z
   ·exact fr.nd j k a d1 d2 e1 e2
 ·rcases List.mem_or_eq_of_mem_set h with h | h
  ·exact fr.new a d1 h
  ·cases h
theorem SlOk.gen {M M':Addr -> Prop} {o:Option (Option V)} {s:Sl} (G:Gen K M M' H H') (hs:∀ a d,s = .own a d -> ∀ u,H a = some u -> H' a = some u) (h:SlOk K M H o s):SlOk K M' H' o s:=by
 cases s with
 | un => trivial
 | v d => obtain ⟨x,e,r⟩:=h; exact ⟨x,e,r.gen G⟩
 | own a d => exact ⟨h.1,h.2.gen G (hs a d rfl)⟩
theorem Fr.seto (fr:Fr K HZ F σ H ρ) (S:Same H H') {i:Nat} {a:Addr} {d:Dv} (ha:H a = none) (o:OwnAt K (fun b => MM F ρ b \/ b = a) H' a d):Fr K HZ F (σ.set i (some (.ref a))) H' (ρ.set i (.own a d)):=by
 have wk:∀ b,MM F (ρ.set i (.own a d)) b -> MM F ρ b \/ b = a:=fun b h => by
  rcases MM.set b h with h | ⟨_,h⟩
  ·exact .inl h
  ·cases h; exact .inr rfl
 have G:Gen K (MM F ρ) (MM F (ρ.set i (.own a d))) H H':=((Gen.fresh ha).trans (.mono S)).trans (.weak wk)
 have ne:∀ (j:Nat) (b:Addr) (d':Dv),ρ[j]? = some (Sl.own b d') -> b ≠ a:=fun j b d' e z => by
  have:=(fr.sl j _ e).2.mut
  obtain ⟨u,hu,_⟩:=this
  rw [z,ha] at hu
  cases hu
 refine ⟨by simp [fr.len],fun j s e => ?_,fun j k b d1 d2 e1 e2 => ?_,fun b d1 h => ?_,fr.same.trans S,fr.old⟩
 ·rcases get_set e with ⟨rfl,hl,rfl⟩ | ⟨hne,e⟩
  ·exact ⟨by rw [List.getElem?_set_self (by rw [fr.len]; exact hl)],o.weak wk⟩
  ·rw [List.getElem?_set_ne hne]
   exact (fr.sl j s e).gen G fun b d' _ u hu => S _ _ hu
 ·rcases get_set e1 with ⟨h1,_,z⟩ | ⟨_,e1⟩
  ·rcases get_set e2 with ⟨h2,_,z'⟩ | ⟨_,e2⟩
   ·ac_rfl
   ·cases z
    exact absurd rfl (ne k _ _ e2)
  ·rcases get_set e2 with ⟨h2,_,z'⟩ | ⟨_,e2⟩
   ·cases z'
    exact absurd rfl (ne j _ _ e1)
   ·exact fr.nd j k b d1 d2 e1 e2
 ·rcases List.mem_or_eq_of_mem_set h with h | h
  ·exact fr.new b d1 h
  ·cases h
   exact fr.same.free ha
theorem Fr.write (fr:Fr K HZ F σ H ρ) {i:Nat} {a:Addr} {d d':Dv} {o:HO} (hi:ρ[i]? = some (.own a d)) (n:OwnAt K (MM F ρ) (upd H a o) a d'):Fr K HZ F σ (upd H a o) (ρ.set i (.own a d')):=by
 have mem:Sl.own a d ∈ ρ:=List.mem_of_getElem? hi
 have wk:∀ b,MM F (ρ.set i (.own a d')) b -> MM F ρ b:=fun b h => by
  rcases MM.set b h with h | ⟨_,h⟩
  ·exact h
  ·cases h; exact .inr ⟨d,mem⟩
 obtain ⟨hs,ow⟩:=fr.sl i _ hi
 obtain ⟨u,hu,mu⟩:=ow.mut
 have mu':Mut (H a):=by rw [hu]; exact mu
 have G:Gen K (MM F ρ) (MM F (ρ.set i (.own a d'))) H (upd H a o):=(Gen.write (.inr ⟨d,mem⟩) mu').trans (.weak wk)
 refine ⟨by simp [fr.len],fun j s e => ?_,fun j k b d1 d2 e1 e2 => ?_,fun b d1 h => ?_,fun b q e => ?_,fr.old⟩
 ·rcases get_set e with ⟨rfl,hl,rfl⟩ | ⟨hne,ej⟩
  ·exact ⟨hs,n.weak wk⟩
  ·refine (fr.sl j s ej).gen G fun b d2 es u hu => ?_
   subst es
   rw [upd_ne fun z => hne ?_]
   ·exact hu
   ·subst z; exact fr.nd i j _ d d2 hi ej
 ·rcases get_set e1 with ⟨h1,_,z⟩ | ⟨_,e1⟩
  ·cases z
   rcases get_set e2 with ⟨h2,_,z'⟩ | ⟨_,e2⟩
   ·ac_rfl
   ·rw [<- h1]; exact fr.nd i k _ d d2 hi e2
  ·rcases get_set e2 with ⟨h2,_,z'⟩ | ⟨_,e2⟩
   ·cases z'
    rw [<- h2]; exact fr.nd j i _ d1 d e1 hi
   ·exact fr.nd j k b d1 d2 e1 e2
 ·rcases List.mem_or_eq_of_mem_set h with h | h
  ·exact fr.new b d1 h
  ·cases h
   exact fr.new _ d mem
 ·rw [upd_ne ?_]
  ·exact fr.same b q e
  ·intro z
   subst z
   rw [fr.new _ d mem] at e
   cases e
noncomputable def freeze (i:Nat) (ρ:List Sl):List Sl:=match ρ[i]? with
 | some (.own _ d) => ρ.set i (.v d)
 | _ => ρ
end
section
variable {X:Cx} {e:Expr} {te:TEp} {pos pos':Pos} {sts:List Stmt} {t:TSp}
def sSet (i:Nat) (te:TEp):TSp:=fun E ρ => te ρ fun r => match r with
 | .v d => E.nx (ρ.set i (.v d))
 | .nw d => E.nx (ρ.set i (.v d))
 | .ow _ _ => False
def sSetO (i:Nat) (te:TEp):TSp:=fun E ρ => te ρ fun r => match r with
 | .v d => E.nx (ρ.set i (.v d))
 | .nw d => ∀ a,E.nx (ρ.set i (.own a d))
 | .ow _ _ => False
def sFrz (i:Nat) (t:TSp):TSp:=fun E ρ => t E (freeze i ρ)
theorem q_set {i:Nat} {x:Str} (hN:X.N.Nodup) (hi:X.N[i]? = some x) (hx:Loc X.env.scope x) (he:QE X e te) (hs:swapsWith e (some (.Name x pos')) pos.line X.env = pure false:=by rfl) (hf:X.fn x = true \/ X.env.scope.names.lookup x = some .local:=by first | exact .inl rfl | exact .inr rfl | assumption):
  QS X (.Assign [.Name x pos'] e pos) (sSet i te):=by
 refine ⟨fun E E' ρ w h => he.mono _ _ _ (fun r q => ?_) h,fun HZ F => PS_imp (ps_set hN hi hx (he.run HZ F) hs hf) fun D σ H ⟨ρ,E,fr,h,en⟩ => ?_⟩
 ·cases r with
  | v d => exact w.nx _ q
  | nw d => exact w.nx _ q
  | ow a d => exact q
 ·refine he.step fr h fun r x H1 q S1 r1 => ?_
  cases r with
  | v d => exact en.nx _ _ _ ((fr.mono S1).setv r1) q
  | nw d => exact en.nx _ _ _ ((fr.mono S1).setv (r1.rep (fun a m => fr.dom m) rfl)) q
  | ow a d => exact q.elim
theorem q_setO {i:Nat} {x:Str} (hN:X.N.Nodup) (hi:X.N[i]? = some x) (hx:Loc X.env.scope x) (he:QE X e te) (hs:swapsWith e (some (.Name x pos')) pos.line X.env = pure false:=by rfl) (hf:X.fn x = true \/ X.env.scope.names.lookup x = some .local:=by first | exact .inl rfl | exact .inr rfl | assumption):
  QS X (.Assign [.Name x pos'] e pos) (sSetO i te):=by
 refine ⟨fun E E' ρ w h => he.mono _ _ _ (fun r q => ?_) h,fun HZ F => PS_imp (ps_set hN hi hx (he.run HZ F) hs hf) fun D σ H ⟨ρ,E,fr,h,en⟩ => ?_⟩
 ·cases r with
  | v d => exact w.nx _ q
  | nw d => exact fun a => w.nx _ (q a)
  | ow a d => exact q
 ·refine he.step fr h fun r x H1 q S1 r1 => ?_
  cases r with
  | v d => exact en.nx _ _ _ ((fr.mono S1).setv r1) q
  | nw d =>
   obtain ⟨a,rfl,ha,o⟩:=r1
   exact en.nx _ _ _ (fr.seto S1 ha o) (q a)
  | ow a d => exact q.elim
def sAug (i:Nat) (p:Dv -> Dv -> (R -> Prop) -> Prop) (te:TEp):TSp:=fun E ρ => match ρ[i]? with
 | some (.v d) => te ρ fun r => p d r.d fun z => match z with
  | .v d' => E.nx (ρ.set i (.v d'))
  | _ => False
 | _ => False
def sApp (i:Nat) (te:TEp):TSp:=fun E ρ => match ρ[i]? with
 | some (.own a (.lst xs)) => te ρ fun r => (r.free = true /\ xs.length < LIM) /\ E.nx (ρ.set i (.own a (.lst (xs ++ [r.d]))))
 | _ => False
theorem lim_lt {n:Nat} (h:n < LIM):n < sizeLine:=Nat.lt_of_lt_of_le h (lim_line (Nat.le_refl _))
theorem q_app {i:Nat} {x:Str} {p1 p2 p3:Pos} (hv:PE X (.Name x p1) (tVar i)) (he:QE X e te) (hs:swapsWith (.Call (.Attribute (.Name x p1) "append" p2) [e] [] p3) none pos.line X.env = pure false:=by rfl)
  (hbase:attributeBase (.Name x p1) "append" X.env (eval (.Name x p1) X.env) = eval (.Name x p1) X.env:=by rfl)
  (hfew:((backTo p3 (starEach [e] X.env)).all (fun x => !x.1) && (backToKw p3 (keywordEach [] X.env)).all (fun x => x.1.isSome)
   && decide ([e].length + ([]:List Keyword).length + (if ([]:List Keyword).isEmpty then 0 else 1) < 30)) = true:=by rfl)
  (hline:(p2.endLine == p3.line) = true:=by rfl) (hst:starEach [e] X.env = (false,eval e X.env) :: starEach [] X.env:=by rfl) (hplain:(backTo p3 (starEach [] X.env)).any (·.1) = false:=by rfl):
  QS X (.Expr (.Call (.Attribute (.Name x p1) "append" p2) [e] [] p3) pos) (sApp i te):=by
 refine ⟨fun E E' ρ w h => ?_,fun HZ F => PS_imp (ps_expr (pe_bm PySem.F.plainAttrs_list PySem.F.slot_list_append PySem.F.type_list_append mt_append hv (pa_cons (he.run HZ F) pa_nil hst) hbase hfew hline hst hplain) hs) fun D σ H ⟨ρ,E,fr,h,en⟩ => ?_⟩
 ·unfold sApp at *
  split at h
  ·exact he.mono _ _ _ (fun r q => ⟨q.1,w.nx _ q.2⟩) h
  ·exact h
 ·unfold sApp at h
  split at h
  ·rename_i a xs hx
   obtain ⟨hs1,vs,hv1,rv1⟩:=fr.sl i _ hx
   refine ⟨_,hs1,.inl ⟨rfl,_,SqL.of hv1⟩,he.step fr h fun r y H1 q S1 r1 => ?_⟩
   obtain ⟨⟨qf,ql⟩,q2⟩:=q
   have rep:=r1.rep (fun a m => fr.dom m) qf
   have hv2:=S1 _ _ hv1
   refine ⟨a,vs,y,rfl,rfl,hv2,by rw [rv1.length]; exact lim_lt ql,?_⟩
   refine en.nx _ _ _ ((fr.mono S1).write (d':=.lst (xs ++ [r.d])) hx ⟨_,upd_same,?_⟩) q2
   have G:Gen X.K (MM F ρ) (MM F ρ) H1 (upd H1 a (.lst (vs ++ [y]))):=Gen.write (.inr ⟨_,List.mem_of_getElem? hx⟩) (by rw [hv2]; trivial)
   exact ((rv1.mono S1).append (.cons rep .nil)).gen G
  ·exact h.elim
end
end Z
namespace Z
open PySem PySem.Spec PyProof.Rows L2
open Classical in
noncomputable def prot (H:Hp) (ρ:List Sl):Hp:=fun b => if ∃ d,Sl.own b d ∈ ρ then none else H b
section
variable {K:W.Frag} {HZ H H1 H':Hp} {F:Addr -> Prop} {σ σ':St} {ρ ρ':List Sl}
theorem prot_own {b:Addr} {d:Dv} (h:Sl.own b d ∈ ρ):prot H ρ b = none:=by unfold prot; rw [if_pos ⟨d,h⟩]
theorem prot_free {b:Addr} (h:¬ ∃ d,Sl.own b d ∈ ρ):prot H ρ b = H b:=by unfold prot; rw [if_neg h]
theorem prot_some {b:Addr} {o:HO} (h:prot H ρ b = some o):H b = some o:=by
 by_cases c:∃ d,Sl.own b d ∈ ρ
 ·obtain ⟨d,c⟩:=c
  rw [prot_own c] at h
  cases h
 ·rw [prot_free c] at h
  exact h
theorem prot_none (h:prot H ρ b = none):(∃ d,Sl.own b d ∈ ρ) \/ H b = none:=by
 by_cases c:∃ d,Sl.own b d ∈ ρ
 ·exact .inl c
 ·rw [prot_free c] at h
  exact .inr h
theorem Fr.prot (fr:Fr K HZ F σ H ρ):Fr K (prot H ρ) F σ H ρ:=by
 refine ⟨fr.len,fr.sl,fr.nd,fun a d h => prot_own h,fun b o h => prot_some h,fun a h => ?_,fun P q z => ?_⟩
 ·rw [prot_free ?_]
  ·exact fr.dom (.inl h)
  ·rintro ⟨d,c⟩
   exact fr.old.f a h (fr.new a d c)
 ·have e:=fr.old.t P q z
  rw [prot_free ?_]
  ·exact fr.same _ _ e
  ·rintro ⟨d,c⟩
   rw [fr.new P d c] at e
   cases e
theorem Fr.free_of (fr:Fr K HZ F σ H ρ) {b:Addr} (h:Z.prot H ρ b = none):HZ b = none:=by
 rcases prot_none h with ⟨d,c⟩ | h
 ·exact fr.new b d c
 ·exact fr.same.free h
theorem Fr.same_of (fr:Fr K HZ F σ H ρ) (S:Same (Z.prot H ρ) H'):Same HZ H':=fun b o e => by
 refine S b o ?_
 rw [prot_free ?_]
 ·exact fr.same b o e
 ·rintro ⟨d,c⟩
  rw [fr.new b d c] at e
  cases e
theorem Fr.unprot (fr:Fr K HZ F σ H ρ) (g:Fr K (Z.prot H ρ) F σ' H' ρ'):Fr K HZ F σ' H' ρ':=
 ⟨g.len,g.sl,g.nd,fun a d h => fr.free_of (g.new a d h),fr.same_of g.same,fr.old⟩
theorem Fr.gen (fr:Fr K HZ F σ H ρ) (g:Fr K (Z.prot H ρ) F σ' H' ρ'):Gen K (MM F ρ) (MM F ρ') H H':=by
 have no:∀ a o,H a = some o -> ¬ MM F ρ a -> Z.prot H ρ a = some o:=fun a o e m => by
  rw [prot_free fun c => m (.inr c)]
  exact e
 have no2:∀ a o,H a = some o -> ¬ Mut (some o) -> Z.prot H ρ a = some o:=fun a o e m => by
  rw [prot_free ?_]
  ·exact e
  ·rintro ⟨d,c⟩
   obtain ⟨_,_,_,ow⟩:=fr.at_own c
   obtain ⟨u,hu,mu⟩:=ow.mut
   rw [e] at hu
   cases hu
   exact m mu
 refine ⟨fun a o e mu m => ⟨g.same _ _ (no a o e m),?_⟩,fun a xs e => g.same _ _ (no2 a _ e fun z => z),fun a ns e => ?_,fun a o u e => g.same _ _ (no2 a _ e fun z => z)⟩
 ·rintro (h | ⟨d,h⟩)
  ·exact m (.inl h)
  ·have:=g.new a d h
   rw [no a o e m] at this
   cases this
 ·rcases e with ⟨o,e⟩ | e
  ·exact .inl ⟨o,g.same _ _ (no2 a _ e fun z => z)⟩
  ·exact .inr e
theorem Ent.prot {E:En} {D:Ends} (fr:Fr K HZ F σ H ρ) (en:Ent K HZ F E D):Ent K (Z.prot H ρ) F E D:=by
 refine ⟨fun ρ' σ' H' g h => en.nx _ _ _ (fr.unprot g) h,fun ρ' σ' H' g h => en.bk _ _ _ (fr.unprot g) h,fun ρ' σ' H' g h => en.ct _ _ _ (fr.unprot g) h,fun r x H' S rr h => en.rt r x H' (fr.same_of S) ?_ h⟩
 cases r with
 | v d => exact rr
 | ow a d => exact rr
 | nw d => obtain ⟨a,e,n,o⟩:=rr; exact ⟨a,e,fr.free_of n,o⟩
end
abbrev TIp:=List Sl -> (List Dv -> List (Addr × List Dv) -> Prop) -> Prop
def guard (ogs:List (Addr × List Dv)) (ρ:List Sl):Prop:=∀ p ∈ ogs,Sl.own p.1 (.lst p.2) ∈ ρ
def ItOk (K:W.Frag) (P:Hp) (M:Addr -> Prop) (H1:Hp) (J:It) (ds:List Dv) (ogs:List (Addr × List Dv)):Prop:=
 ∀ (i:Nat) (H':Hp) (M':Addr -> Prop),Same P H' -> Gen K M M' H1 H' -> (∀ p ∈ ogs,OwnAt K M' H' p.1 (.lst p.2)) ->
  (∀ d,ds[i]? = some d -> J.go i H' /\ ∀ y H'',J.yld i H' y H'' -> Same H' H'' /\ Rep K M' H'' y d) /\ (ds.length <= i -> J.stop i H')
structure QI (X:Cx) (tg iter:Expr) (ti:TIp):Prop where
 mono:∀ (ρ:List Sl) (Q Q':List Dv -> List (Addr × List Dv) -> Prop),(∀ ds g,Q ds g -> Q' ds g) -> ti ρ Q -> ti ρ Q'
 run:∀ (HZ:Hp) (F:Addr -> Prop),∃ wi,PI X tg iter wi /\ ∀ (σ:St) (H:Hp) (ρ:List Sl) (R:It -> Hp -> Prop),Fr X.K HZ F σ H ρ ->
  ti ρ (fun ds ogs => ∀ J H1,Same H H1 -> guard ogs ρ -> ItOk X.K (prot H1 ρ) (MM F ρ) H1 J ds ogs -> R J H1) -> wi σ H R
section
variable {X:Cx} {tg l:Expr} {tl:TEp}
def iSeqL (K:W.Frag) (tl:TE):TI:=fun σ H R => tl σ H fun x H1 => ∃ a,x = .ref a /\ (((∃ xs,SqL K H1 a xs) /\ R (Itl K a) H1) \/ ((∃ xs,SqT K H1 a xs) /\ R (Itt K a) H1))
theorem pi_seq {l:Expr} {tl:TE} (hl:PE X l tl):PI X tg l (iSeqL X.K tl):=by
 intro pins s σ H R I h
 refine thn (hl pins s σ H _ I h) fun v s1 ⟨x,H1,I1,r1,q1⟩ => ?_
 obtain ⟨a,e,q1⟩:=q1
 subst e
 cases r1
 rcases q1 with ⟨⟨xs,hq⟩,q⟩ | ⟨⟨xs,hq⟩,q⟩
 ·obtain ⟨its,rv,p,hz⟩:=I1.list hq
  refine wpAny_pyIter_list p.isList ?_
  refine ⟨s1.heap.objs.size,[s1.heap.objs.size],_,_,H1,rfl,I1.kept (t':=s1.toks) fun b o e => Heap.get?_push_of_some _ e,turn_list a _,⟨_,Heap.get?_push_size _ rfl,rfl,rfl⟩,fun b hb => ?_,q⟩
  have e:b = s1.heap.objs.size:=by simpa using hb
  subst e
  exact I1.fpOk (Nat.le_refl _) (I1.hok.fresh (Nat.le_refl _))
 ·obtain ⟨its,rv,p,hz⟩:=I1.tuple hq
  refine wpAny_pyIter_tuple (show s1.heap.IsTuple a its.toArray from p) ?_
  refine ⟨s1.heap.objs.size,[s1.heap.objs.size],_,_,H1,rfl,I1.kept (t':=s1.toks) fun b o e => Heap.get?_push_of_some _ e,turn_tuple a _,⟨_,Heap.get?_push_size _ rfl,rfl,rfl⟩,fun b hb => ?_,q⟩
  have e:b = s1.heap.objs.size:=by simpa using hb
  subst e
  exact I1.fpOk (Nat.le_refl _) (I1.hok.fresh (Nat.le_refl _))
def iSeq (tl:TEp):TIp:=fun ρ Q => tl ρ fun r => match r with
 | .v (.lst ds) => Q ds []
 | .nw (.lst ds) => Q ds []
 | .ow a (.lst ds) => Q ds [(a,ds)]
 | .v (.tup ds) => Q ds []
 | .v (.scr ns) => Q (ns.map .int) []
 | _ => False
theorem itok_list {K:W.Frag} {P:Hp} {M:Addr -> Prop} {H1:Hp} {a:Addr} {xs:List V} {ds:List Dv} (hP:P a = some (.lst xs)) (r:Reps K M H1 xs ds):ItOk K P M H1 (Itl K a) ds []:=by
 intro i H' M' S G _
 have h':=S _ _ hP
 refine ⟨fun d e => ?_,fun h => ⟨xs,SqL.of h',by rw [r.length]; exact h⟩⟩
 obtain ⟨x,hx,rx⟩:=r.get e
 refine ⟨⟨xs,x,SqL.of h',hx⟩,fun y H'' ⟨e1,e2⟩ => ?_⟩
 subst e1
 have:=e2 xs (SqL.of h')
 rw [hx] at this
 cases this
 exact ⟨Same.refl _,rx.gen G⟩
theorem itok_own {K:W.Frag} {P:Hp} {M:Addr -> Prop} {H1:Hp} {a:Addr} {ds:List Dv}:ItOk K P M H1 (Itl K a) ds [(a,ds)]:=by
 intro i H' M' S G ow
 obtain ⟨xs,h',r⟩:=ow (a,ds) (by simp)
 refine ⟨fun d e => ?_,fun h => ⟨xs,SqL.of h',by rw [r.length]; exact h⟩⟩
 obtain ⟨x,hx,rx⟩:=r.get e
 refine ⟨⟨xs,x,SqL.of h',hx⟩,fun y H'' ⟨e1,e2⟩ => ?_⟩
 subst e1
 have:=e2 xs (SqL.of h')
 rw [hx] at this
 cases this
 exact ⟨Same.refl _,rx⟩
theorem itok_tup {K:W.Frag} {P:Hp} {M:Addr -> Prop} {H1:Hp} {a:Addr} {xs:List V} {ds:List Dv} (hP:P a = some (.tup xs)) (r:Reps K M H1 xs ds):ItOk K P M H1 (Itt K a) ds []:=by
 intro i H' M' S G _
 have h':=S _ _ hP
 refine ⟨fun d e => ?_,fun h => ⟨xs,SqT.of h',by rw [r.length]; exact h⟩⟩
 obtain ⟨x,hx,rx⟩:=r.get e
 refine ⟨⟨xs,x,SqT.of h',hx⟩,fun y H'' ⟨e1,e2⟩ => ?_⟩
 subst e1
 have:=e2 xs (SqT.of h')
 rw [hx] at this
 cases this
 exact ⟨Same.refl _,rx.gen G⟩
theorem itok_scr {K:W.Frag} {P:Hp} {M:Addr -> Prop} {H1:Hp} {a:Addr} {ns:List Int} (hP:Scr K P a ns):ItOk K P M H1 (Itl K a) (ns.map .int) []:=by
 intro i H' M' S G _
 have h':=(Same.scr S hP).sq
 refine ⟨fun d e => ?_,fun h => ⟨_,h',by simpa using h⟩⟩
 have r:Reps K M' H' (ns.map V.int) (ns.map .int):=Reps.ints ns
 obtain ⟨x,hx,rx⟩:=r.get e
 refine ⟨⟨_,x,h',hx⟩,fun y H'' ⟨e1,e2⟩ => ?_⟩
 subst e1
 have:=e2 _ h'
 rw [hx] at this
 cases this
 exact ⟨Same.refl _,rx⟩
theorem not_own {K:W.Frag} {HZ:Hp} {F:Addr -> Prop} {σ:St} {H:Hp} {ρ:List Sl} {a:Addr} {o:HO} (fr:Fr K HZ F σ H ρ) (e:H a = some o) (m:¬ Mut (some o)):¬ ∃ d,Sl.own a d ∈ ρ:=by
 rintro ⟨d,c⟩
 obtain ⟨_,_,_,ow⟩:=fr.at_own c
 obtain ⟨u,hu,mu⟩:=ow.mut
 rw [e] at hu
 cases hu
 exact m mu
theorem q_iSeq (h:QE X l tl):QI X tg l (iSeq tl):=by
 refine ⟨fun ρ Q Q' w q => h.mono _ _ _ (fun r q => ?_) q,fun HZ F => ⟨_,pi_seq (h.run HZ F),fun σ H ρ R fr q => ?_⟩⟩
 ·unfold iSeq at *
  split at q <;> first | exact w _ _ q | exact q
 ·refine h.step fr q fun r x H1 q S1 r1 => ?_
  have fr1:=fr.mono S1
  split at q
  ·rename_i ds
   cases r1 with
   | lst e m rs =>
    exact ⟨_,rfl,.inl ⟨⟨_,SqL.of e⟩,q _ H1 S1 (by intro p hp; simp at hp) (itok_list (by rw [prot_free fun c => m (.inr c)]; exact e) rs)⟩⟩
  ·rename_i ds
   obtain ⟨a,rfl,n,xs,e,rs⟩:=r1
   exact ⟨_,rfl,.inl ⟨⟨_,SqL.of e⟩,q _ H1 S1 (by intro p hp; simp at hp) (itok_list (by rw [prot_free fun c => fr.fresh n (.inr c)]; exact e) (rs.weak fun b z => .inl z))⟩⟩
  ·rename_i a ds
   obtain ⟨rfl,m,xs,e,rs⟩:=r1
   exact ⟨_,rfl,.inl ⟨⟨_,SqL.of e⟩,q _ H1 S1 (by intro p hp; simp at hp; subst hp; exact m) itok_own⟩⟩
  ·rename_i ds
   cases r1 with
   | tup e rs => exact ⟨_,rfl,.inr ⟨⟨_,SqT.of e⟩,q _ H1 S1 (by intro p hp; simp at hp) (itok_tup (by rw [prot_free (not_own fr1 e fun z => z)]; exact e) rs)⟩⟩
  ·rename_i ns
   cases r1 with
   | scr e =>
    refine ⟨_,rfl,.inl ⟨⟨_,e.sq⟩,q _ H1 S1 (by intro p hp; simp at hp) (itok_scr ?_)⟩⟩
    rcases e with ⟨o,e⟩ | e
    ·exact .inl ⟨o,by rw [prot_free (not_own fr1 e fun z => z)]; exact e⟩
    ·exact .inr e
  ·exact q.elim
noncomputable def rangeD (lo:Int) (n:Nat):List Dv:=(List.range n).map fun (k:Nat) => Dv.int (lo + (k:Int))
theorem rangeD_get {lo:Int} {n i:Nat} {d:Dv} (h:(rangeD lo n)[i]? = some d):i < n /\ d = .int (lo + i):=by
 unfold rangeD at h
 rw [List.getElem?_map] at h
 cases e:(List.range n)[i]? with
 | none => rw [e] at h; cases h
 | some k =>
  rw [e] at h
  obtain ⟨h1,h2⟩:=List.getElem?_eq_some_iff.mp e
  simp at h1 h2
  subst h2
  exact ⟨h1,(Option.some.inj h).symm⟩
theorem itok_range {K:W.Frag} {P:Hp} {M:Addr -> Prop} {H1:Hp} {lo:Int} {n:Nat}:ItOk K P M H1 (Itr lo n) (rangeD lo n) []:=by
 intro i H' M' S G _
 refine ⟨fun d e => ?_,fun h => (show n <= i by simpa [rangeD] using h)⟩
 obtain ⟨h1,h2⟩:=rangeD_get e
 subst h2
 refine ⟨h1,fun y H'' ⟨e1,e2⟩ => ?_⟩
 subst e1 e2
 exact ⟨Same.refl _,.int _⟩
def iRange1 (ts:TAp):TIp:=fun ρ Q => ts ρ fun rs => match rs.map R.d with
 | [.int j] => (-(2 ^ 62) <= j /\ j < 2 ^ 62) /\ Q (rangeD 0 j.toNat) []
 | _ => False
def iRange2 (ts:TAp):TIp:=fun ρ Q => ts ρ fun rs => match rs.map R.d with
 | [.int i,.int j] => (-(2 ^ 62) <= i /\ i < 2 ^ 62 /\ -(2 ^ 62) <= j /\ j < 2 ^ 62) /\ Q (rangeD i (j - i).toNat) []
 | _ => False
theorem creps1 {K:W.Frag} {M:Addr -> Prop} {H:Hp} {xs:List V} {d:Dv} (h:CReps K M H xs [d]):∃ x,xs = [x] /\ CRep K M H x d:=by
 cases h with
 | cons a t => cases t; exact ⟨_,rfl,a⟩
theorem creps2 {K:W.Frag} {M:Addr -> Prop} {H:Hp} {xs:List V} {d d':Dv} (h:CReps K M H xs [d,d']):∃ x y,xs = [x,y] /\ CRep K M H x d /\ CRep K M H y d':=by
 cases h with
 | cons a t =>
  obtain ⟨y,rfl,b⟩:=creps1 t
  exact ⟨_,_,rfl,a,b⟩
theorem q_iRange1 {a:Expr} {ts:TAp} {p pos:Pos} (hg:Gl X "range") (hm:X.mg "range" = none) (ha:QA X [a] ts) (hs:starEach [a] X.env = [(false,eval a X.env)]:=by rfl):QI X tg (.Call (.Name "range" p) [a] [] pos) (iRange1 ts):=by
 refine ⟨fun ρ Q Q' w q => ha.mono _ _ _ (fun r q => ?_) q,fun HZ F => ⟨_,pi_range1 hg hm (ha.run HZ F) hs,fun σ H ρ R fr q => ?_⟩⟩
 ·split at q
  ·exact ⟨q.1,w _ _ q.2⟩
  ·exact q
 ·refine ha.step fr q fun rs xs H1 q S1 r1 => ?_
  split at q
  ·rename_i j e
   have c:=r1.c
   rw [e] at c
   obtain ⟨x,rfl,cx⟩:=creps1 c
   obtain rfl:=cx.int
   exact ⟨j,rfl,q.1.1,q.1.2,q.2 _ H1 S1 (by intro p hp; simp at hp) itok_range⟩
  ·exact q.elim
theorem q_iRange2 {a b:Expr} {ts:TAp} {p pos:Pos} (hg:Gl X "range") (hm:X.mg "range" = none) (ha:QA X [a,b] ts) (hs:starEach [a,b] X.env = [(false,eval a X.env),(false,eval b X.env)]:=by rfl) (hs2:starEach [b] X.env = [(false,eval b X.env)]:=by rfl):
  QI X tg (.Call (.Name "range" p) [a,b] [] pos) (iRange2 ts):=by
 refine ⟨fun ρ Q Q' w q => ha.mono _ _ _ (fun r q => ?_) q,fun HZ F => ⟨_,pi_range2 hg hm (ha.run HZ F) hs hs2,fun σ H ρ R fr q => ?_⟩⟩
 ·split at q
  ·exact ⟨q.1,w _ _ q.2⟩
  ·exact q
 ·refine ha.step fr q fun rs xs H1 q S1 r1 => ?_
  split at q
  ·rename_i i j e
   have c:=r1.c
   rw [e] at c
   obtain ⟨x,y,rfl,cx,cy⟩:=creps2 c
   obtain rfl:=cx.int
   obtain rfl:=cy.int
   exact ⟨i,j,rfl,q.1,q.2 _ H1 S1 (by intro p hp; simp at hp) itok_range⟩
  ·exact q.elim
end
abbrev TGp:=Dv -> List Sl -> (List Sl -> Prop) -> Prop
structure QG (X:Cx) (tg:Expr) (k:Nat) (g:TGp):Prop where
 mono:∀ d ρ (Q Q':List Sl -> Prop),(∀ ρ,Q ρ -> Q' ρ) -> g d ρ Q -> g d ρ Q'
 agree:∀ d ρ (Q:List Sl -> Prop),g d ρ Q -> g d ρ fun ρ1 => Q ρ1 /\ ρ1.length = ρ.length /\ ∀ j,k <= j -> ρ1[j]? = ρ[j]?
 run:∃ t,PG X tg t /\ ∀ (HZ:Hp) (F:Addr -> Prop) (v:V) (d:Dv) (σ:St) (H:Hp) (ρ:List Sl) (Q:St -> Hp -> Prop),Fr X.K HZ F σ H ρ -> Rep X.K (MM F ρ) H v d ->
  g d ρ (fun ρ1 => ∀ σ1,Fr X.K HZ F σ1 H ρ1 -> (∀ j,k <= j -> σ1[j]? = σ[j]?) -> Q σ1 H) -> t v σ H Q
def gN (i:Nat):TGp:=fun d ρ Q => Q (ρ.set i (.v d))
noncomputable def setAll:List Nat -> List Dv -> List Sl -> List Sl
 | i :: is,d :: ds,ρ => setAll is ds (ρ.set i (.v d))
 | _,_,ρ => ρ
def gT (is:List Nat):TGp:=fun d ρ Q => match d with
 | .tup ds => ds.length = is.length /\ Q (setAll is ds ρ)
 | _ => False
noncomputable def gsN:List Nat -> TGs
 | [] => gNil
 | i :: is => gCons (gName i) (gsN is)
theorem setAll_len:∀ (is:List Nat) (ds:List Dv) (ρ:List Sl),(setAll is ds ρ).length = ρ.length
 | [],_,_ => rfl
 | _ :: _,[],_ => rfl
 | i :: is,d :: ds,ρ => by rw [setAll,setAll_len is ds]; simp
theorem setAll_get {k:Nat}:∀ (is:List Nat) (ds:List Dv) (ρ:List Sl),(∀ i ∈ is,i < k) -> ∀ j,k <= j -> (setAll is ds ρ)[j]? = ρ[j]?
 | [],_,_,_,_,_ => rfl
 | _ :: _,[],_,_,_,_ => rfl
 | i :: is,d :: ds,ρ,h,j,hj => by
  have:=h i (by simp)
  rw [setAll,setAll_get is ds _ (fun i hi => h i (by simp [hi])) j hj,List.getElem?_set_ne (by ac_rfl)]
section
variable {X:Cx} {pos:Pos}
theorem q_gN {i k:Nat} {x:Str} (hN:X.N.Nodup) (hi:X.N[i]? = some x) (hx:Loc X.env.scope x) (hk:i < k:=by decide) (hf:X.fn x = true \/ X.env.scope.names.lookup x = some .local:=by first | exact .inl rfl | exact .inr rfl | assumption):QG X (.Name x pos) k (gN i):=by
 refine ⟨fun d ρ Q Q' w q => w _ q,fun d ρ Q q => ⟨q,by simp,fun j hj => by rw [List.getElem?_set_ne (by ac_rfl)]⟩,_,pg_name hN hi hx hf,fun HZ F v d σ H ρ Q fr r q => ?_⟩
 exact q _ (fr.setv r) fun j hj => by rw [List.getElem?_set_ne (by ac_rfl)]
theorem gsN_run {K:W.Frag} {HZ:Hp} {F:Addr -> Prop} {H:Hp} {k:Nat}:∀ (is:List Nat) (ds:List Dv) (vs:List V) (σ:St) (ρ:List Sl) (Q:St -> Hp -> Prop),(∀ i ∈ is,i < k) -> ds.length = is.length -> Fr K HZ F σ H ρ -> Reps K (MM F ρ) H vs ds ->
  (∀ σ1,Fr K HZ F σ1 H (setAll is ds ρ) -> (∀ j,k <= j -> σ1[j]? = σ[j]?) -> Q σ1 H) -> gsN is vs σ H Q
 | [],[],_,σ,ρ,Q,_,_,fr,.nil,q => ⟨rfl,q σ fr fun _ _ => rfl⟩
 | i :: is,d :: ds,_,σ,ρ,Q,hk,hl,fr,.cons (x:=x) a r,q => by
  refine ⟨x,_,rfl,?_⟩
  have wk:∀ b,MM F (ρ.set i (.v d)) b -> MM F ρ b:=fun b h => by
   rcases MM.set b h with h | ⟨_,h⟩
   ·exact h
   ·cases h
  refine gsN_run is ds _ _ (ρ.set i (.v d)) Q (fun i hi => hk i (by simp [hi])) (by simpa using hl) (fr.setv a) (r.weak wk) fun σ1 f1 e1 => q σ1 f1 fun j hj => ?_
  have:=hk i (by simp)
  rw [e1 j hj,List.getElem?_set_ne (by ac_rfl)]
theorem q_gT {es:List Expr} {x1 n k:Nat} {is:List Nat} (hc:X.calm = true) (h:PGs X es (gsN is)) (hk:∀ i ∈ is,i < k:=by decide) (hl:is.length = n:=by rfl)
  (hn:(assignEach es X.env).length = n:=by rfl) (hst:(assignEach es X.env).findIdx? (·.1) = none:=by rfl):QG X (.Tuple es x1 pos) k (gT is):=by
 refine ⟨fun d ρ Q Q' w q => ?_,fun d ρ Q q => ?_,_,pg_tup hc h hn hst,fun HZ F v d σ H ρ Q fr r q => ?_⟩
 ·unfold gT at *
  split at q
  ·exact ⟨q.1,w _ q.2⟩
  ·exact q
 ·unfold gT at *
  split at q
  ·exact ⟨q.1,q.2,setAll_len _ _ _,setAll_get _ _ _ hk⟩
  ·exact q
 ·unfold gT at q
  split at q
  ·cases r with
   | tup e rs => exact ⟨_,_,rfl,SqT.of e,by rw [rs.length,q.1,hl],gsN_run is _ _ σ ρ Q hk q.1 fr rs q.2⟩
  ·exact q.elim
end
noncomputable def forGo (g:TGp) (tb:TSp) (ogs:List (Addr × List Dv)):List Dv -> TSp
 | [] => fun E ρ => guard ogs ρ /\ E.nx ρ
 | d :: r => fun E ρ => guard ogs ρ /\ g d ρ fun ρ1 => tb { E with nx:=forGo g tb ogs r E,ct:=forGo g tb ogs r E,bk:=E.nx } ρ1
def sFor (ti:TIp) (g:TGp) (tb:TSp):TSp:=fun E ρ => ti ρ fun ds ogs => forGo g tb ogs ds E ρ
section
variable {X:Cx} {tg iter c:Expr} {ti:TIp} {g:TGp} {tb:TSp} {body:List Stmt} {pos:Pos} {k:Nat}
theorem forGo_mono (mg:∀ d ρ (Q Q':List Sl -> Prop),(∀ ρ,Q ρ -> Q' ρ) -> g d ρ Q -> g d ρ Q') (mb:∀ E E' ρ,EnLe E E' -> tb E ρ -> tb E' ρ) (ogs:List (Addr × List Dv)):∀ (ds:List Dv) (E E':En) (ρ:List Sl),EnLe E E' -> forGo g tb ogs ds E ρ -> forGo g tb ogs ds E' ρ
 | [],E,E',ρ,w,h => ⟨h.1,w.nx _ h.2⟩
 | d :: r,E,E',ρ,w,h => by
  have w2:EnLe { E with nx:=forGo g tb ogs r E,ct:=forGo g tb ogs r E,bk:=E.nx } { E' with nx:=forGo g tb ogs r E',ct:=forGo g tb ogs r E',bk:=E'.nx }:=
   ⟨fun ρ h => forGo_mono mg mb ogs r E E' ρ w h,w.rt,w.nx,fun ρ h => forGo_mono mg mb ogs r E E' ρ w h⟩
  exact ⟨h.1,mg _ _ _ _ (fun ρ1 h => mb _ _ _ w2 h) h.2⟩
theorem forGo_nil (ogs:List (Addr × List Dv)) (E:En) (ρ:List Sl):forGo g tb ogs [] E ρ = (guard ogs ρ /\ E.nx ρ):=rfl
theorem forGo_cons (ogs:List (Addr × List Dv)) (d:Dv) (r:List Dv) (E:En) (ρ:List Sl):forGo g tb ogs (d :: r) E ρ = (guard ogs ρ /\ g d ρ fun ρ1 => tb { E with nx:=forGo g tb ogs r E,ct:=forGo g tb ogs r E,bk:=E.nx } ρ1):=rfl
theorem forGo_guard {ogs:List (Addr × List Dv)} {E:En} {ρ:List Sl}:∀ {ds:List Dv},forGo g tb ogs ds E ρ -> guard ogs ρ
 | [],h => by rw [forGo_nil] at h; exact h.1
 | _ :: _,h => by rw [forGo_cons] at h; exact h.1
theorem q_for (hp:PassesOwn (model X.prog X.w) X.A X.env X.xe) (hc:X.N = X.N) (hi:QI X tg iter ti) (hg:QG X tg k g) (hb:QSs X body tb) (hs:∀ x,foldedSetIterable iter X.env x = pure x:=by intro _; rfl):QS X (.For tg iter body [] pos) (sFor ti g tb):=by
 refine ⟨fun E E' ρ w h => hi.mono _ _ _ (fun ds ogs h => forGo_mono hg.mono hb.mono ogs ds E E' ρ w h) h,fun HZ F => ?_⟩
 obtain ⟨wi,hwi,wiq⟩:=hi.run HZ F
 obtain ⟨tt,htt,ttq⟩:=hg.run
 have hb':PSs X body (fun D σ H => ∃ P,liftS X.K P F tb D σ H):=fun pins s σ H D I ⟨P,q⟩ => hb.run P F pins s σ H D I q
 refine PS_imp (ps_for hp hc hwi htt hb' hs) fun D σ H ⟨ρ,E,fr,h,en⟩ => ?_
 refine wiq σ H ρ _ fr (hi.mono _ _ _ (fun ds ogs q J H2 S2 _ ok => ?_) h)
 have fr2:=fr.mono S2
 have en2:Ent X.K (prot H2 ρ) F E D:=en.prot fr2
 refine ⟨fun i m σ' H' => m = ds.length - i /\ i <= ds.length /\ ∃ ρ',Fr X.K (prot H2 ρ) F σ' H' ρ' /\ forGo g tb ogs (ds.drop i) E ρ',⟨ds.length,by simp,Nat.zero_le _,ρ,fr2.prot,by simpa using q⟩,?_⟩
 rintro i m σ' H' ⟨rfl,hil,ρ',fr',q'⟩
 have gd:guard ogs ρ':=forGo_guard q'
 have Gn:=fr2.gen fr'
 have oks:=ok i H' (MM F ρ') fr'.same Gn fun p hp => let ⟨_,_,_,h⟩:=fr'.at_own (gd p hp); h
 by_cases hlt:i < ds.length
 ·have hd:ds[i]? = some ds[i]:=by simp [hlt]
  have hdr:ds.drop i = ds[i] :: ds.drop (i + 1):=List.drop_eq_getElem_cons hlt
  rw [hdr,forGo_cons] at q'
  obtain ⟨go,yld⟩:=oks.1 _ hd
  refine .inr ⟨go,fun σ2 H2' => ∃ ρ2,Fr X.K (prot H2 ρ) F σ2 H2' ρ2 /\ forGo g tb ogs (ds.drop (i + 1)) E ρ2,fun σ2 H2' ⟨ρ2,f2',q2⟩ => ⟨ds.length - (i + 1),by ac_rfl,rfl,hlt,ρ2,f2',q2⟩,fun y H3 hy => ?_⟩
  obtain ⟨S3,ry⟩:=yld y H3 hy
  refine ttq _ F y _ σ' H3 ρ' _ (fr'.mono S3) ry (hg.mono _ _ _ _ (fun ρ1 q1 σ1 f1 _ => ?_) q'.2)
  exact ⟨_,ρ1,_,f1,q1,fun ρ3 σ3 H3' f3 q3 => ⟨ρ3,f3,q3⟩,en2.nx,fun ρ3 σ3 H3' f3 q3 => ⟨ρ3,f3,q3⟩,en2.rt⟩
 ·have e:i = ds.length:=by ac_rfl
  subst e
  rw [List.drop_length,forGo_nil] at q'
  exact .inl ⟨oks.2 (Nat.le_refl _),en2.nx _ _ _ fr' q'.2⟩
end
end Z
namespace Z
open PySem PySem.Spec PyProof.Rows L2
section
variable {X:Cx} {tg iter c e elt:Expr} {ti:TIp} {g:TGp} {tb:TSp} {body:List Stmt} {pos:Pos} {k:Nat} {tc:TTp} {es:List Expr} {ts:TAp} {te:TEp}
noncomputable def pickP (js:List Nat) (ρ:List Sl):List Sl:=js.map fun j => (ρ[j]?).getD .un
def compGo (ρ0:List Sl) (g:TGp) (tt:TTp) (te:TEp):List Dv -> List Dv -> (R -> Prop) -> Prop
 | [],acc,Q => Q (.nw (.lst acc))
 | d :: r,acc,Q => g d ρ0 fun ρ1 => tt ρ1 fun b => if b = true then te ρ1 fun v => (v.free = true /\ acc.length < LIM) /\ compGo ρ0 g tt te r (acc ++ [v.d]) Q else compGo ρ0 g tt te r acc Q
def eComp (k:Nat) (js:List Nat) (ti:TIp) (g:TGp) (tt:TTp) (te:TEp):TEp:=fun ρ Q => ti ρ fun ds _ => compGo (List.replicate k .un ++ pickP js ρ) g tt te ds [] Q
structure QTs (X:Cx) (ifs:List Expr) (t:TTp):Prop where
 mono:∀ (ρ:List Sl) (Q Q':Bool -> Prop),(∀ r,Q r -> Q' r) -> t ρ Q -> t ρ Q'
 run:∀ (HZ:Hp) (F:Addr -> Prop),PTs X ifs (liftT X.K HZ F t)
def tTrue:TTp:=fun _ Q => Q true
theorem qts_nil:QTs X [] tTrue:=⟨fun _ _ _ w q => w _ q,fun HZ F pins s σ H Q I ⟨ρ,fr,q⟩ => pts_nil pins s σ H Q I (q H (Same.refl _))⟩
theorem qts_one {t:TTp} (h:QT X c t):QTs X [c] t:=⟨h.mono,fun HZ F => pts_one (h.run HZ F)⟩
theorem pickP_get {js:List Nat} {ρ:List Sl} {i:Nat} {s:Sl} (h:(pickP js ρ)[i]? = some s) (hs:s ≠ .un):∃ j,js[i]? = some j /\ ρ[j]? = some s:=by
 unfold pickP at h
 rw [List.getElem?_map] at h
 cases e:js[i]? with
 | none => rw [e] at h; cases h
 | some j =>
  rw [e] at h
  refine ⟨j,rfl,?_⟩
  have h':(ρ[j]?).getD .un = s:=Option.some.inj h
  cases q:ρ[j]? with
  | none => rw [q] at h'; exact absurd h'.symm hs
  | some o => rw [q] at h'; exact congrArg some h'
theorem pick_of {js:List Nat} {σ:St} {i j:Nat} {x:V} (hj:js[i]? = some j) (h:σ[j]? = some (some x)):(pick js σ)[i]? = some (some x):=by
 unfold pick
 rw [List.getElem?_map,hj,Option.map_some,h]
 rfl
theorem compGo_mono {ρ0:List Sl} {tt:TTp} (mg:∀ d ρ (Q Q':List Sl -> Prop),(∀ ρ,Q ρ -> Q' ρ) -> g d ρ Q -> g d ρ Q') (mt:∀ (ρ:List Sl) (Q Q':Bool -> Prop),(∀ r,Q r -> Q' r) -> tt ρ Q -> tt ρ Q') (me:∀ (ρ:List Sl) (Q Q':R -> Prop),(∀ r,Q r -> Q' r) -> te ρ Q -> te ρ Q'):
  ∀ (ds acc:List Dv) (Q Q':R -> Prop),(∀ r,Q r -> Q' r) -> compGo ρ0 g tt te ds acc Q -> compGo ρ0 g tt te ds acc Q'
 | [],acc,Q,Q',w,h => w _ h
 | d :: r,acc,Q,Q',w,h => by
  refine mg _ _ _ _ (fun ρ1 h => mt _ _ _ (fun b h => ?_) h) h
  split at h
  ·rw [if_pos ‹_›]; exact me _ _ _ (fun v h => ⟨h.1,compGo_mono mg mt me r _ Q Q' w h.2⟩) h
  ·rw [if_neg ‹_›]; exact compGo_mono mg mt me r _ Q Q' w h
theorem nodup_ix' {l:List Nat} (hN:l.Nodup) {i j x:Nat} (a:l[i]? = some x) (b:l[j]? = some x):i = j:=by
 obtain ⟨h1,e1⟩:=List.getElem?_eq_some_iff.mp a
 obtain ⟨h2,e2⟩:=List.getElem?_eq_some_iff.mp b
 have P:=List.pairwise_iff_getElem.mp hN
 rcases Nat.lt_trichotomy i j with h | h | h
 ·exact absurd (e1.trans e2.symm) (P i j h1 h2 h)
 ·exact h
 ·exact absurd (e2.trans e1.symm) (P j i h2 h1 h)
theorem Fr.block {K:W.Frag} {HZ H H2:Hp} {F:Addr -> Prop} {σ:St} {ρ:List Sl} {k:Nat} {js:List Nat} {D:Addr} {old:St} (fr:Fr K HZ F σ H ρ) (S:Same H H2) (hD:H D = none) (hD2:H2 D ≠ none) (nd:js.Nodup) (lo:old.length = k):
  ∃ (P:Hp) (F':Addr -> Prop),Fr K P F' (old ++ pick js σ) H2 (List.replicate k .un ++ pickP js ρ) /\ (∀ a,MM F' (List.replicate k .un ++ pickP js ρ) a ↔ MM F ρ a \/ a = D) /\ (∀ a,F' a ↔ (MM F ρ a \/ a = D) /\ ¬ ∃ d,Sl.own a d ∈ pickP js ρ):=by
 have mem:∀ {a:Addr} {d:Dv},Sl.own a d ∈ List.replicate k Sl.un ++ pickP js ρ -> Sl.own a d ∈ pickP js ρ:=fun h => by
  rcases List.mem_append.mp h with h | h
  ·cases List.eq_of_mem_replicate h
  ·exact h
 have sub:∀ {a:Addr} {d:Dv},Sl.own a d ∈ pickP js ρ -> Sl.own a d ∈ ρ:=fun h => by
  obtain ⟨i,e⟩:=List.mem_iff_getElem?.mp h
  obtain ⟨j,_,e2⟩:=pickP_get e (by intro z; cases z)
  exact List.mem_of_getElem? e2
 refine ⟨Z.prot H2 (pickP js ρ),fun a => (MM F ρ a \/ a = D) /\ ¬ ∃ d,Sl.own a d ∈ pickP js ρ,?_,fun a => ⟨fun h => ?_,fun h => ?_⟩,fun a => Iff.rfl⟩
 ·have iff:∀ a,MM (fun a => (MM F ρ a \/ a = D) /\ ¬ ∃ d,Sl.own a d ∈ pickP js ρ) (List.replicate k .un ++ pickP js ρ) a -> MM F ρ a \/ a = D:=fun a h => by
   rcases h with h | ⟨d,h⟩
   ·exact h.1
   ·exact .inl (.inr ⟨d,sub (mem h)⟩)
  have G:Gen K (MM F ρ) (MM (fun a => (MM F ρ a \/ a = D) /\ ¬ ∃ d,Sl.own a d ∈ pickP js ρ) (List.replicate k .un ++ pickP js ρ)) H H2:=((Gen.fresh hD).trans (.mono S)).trans (.weak iff)
  refine ⟨by simp [pick,pickP,lo],fun i s e => ?_,fun i j a d d' e1 e2 => ?_,fun a d h => prot_own (mem h),fun b o h => prot_some h,fun a h => ?_,fun Pt q z => ?_⟩
  ·by_cases hi:i < k
   ·rw [List.getElem?_append_left (by simpa using hi),List.getElem?_replicate,if_pos hi] at e
    cases e
    trivial
   ·rw [List.getElem?_append_right (by simpa using Nat.le_of_not_lt hi),List.length_replicate] at e
    rw [List.getElem?_append_right (by rw [lo]; exact Nat.le_of_not_lt hi),lo]
    cases s with
    | un => trivial
    | v d =>
     obtain ⟨j,hj,e2⟩:=pickP_get e (by intro z; cases z)
     obtain ⟨x,hx,r⟩:=fr.sl j _ e2
     exact ⟨x,pick_of hj hx,r.gen G⟩
    | own a d =>
     obtain ⟨j,hj,e2⟩:=pickP_get e (by intro z; cases z)
     obtain ⟨hx,r⟩:=fr.sl j _ e2
     exact ⟨pick_of hj hx,r.gen G fun o e => S _ _ e⟩
  ·have ge:∀ {i:Nat} {d:Dv},(List.replicate k Sl.un ++ pickP js ρ)[i]? = some (.own a d) -> k <= i /\ (pickP js ρ)[i - k]? = some (.own a d):=fun {i d} e => by
    by_cases hi:i < k
    ·rw [List.getElem?_append_left (by simpa using hi),List.getElem?_replicate,if_pos hi] at e
     cases e
    ·rw [List.getElem?_append_right (by simpa using Nat.le_of_not_lt hi),List.length_replicate] at e
     exact ⟨Nat.le_of_not_lt hi,e⟩
   obtain ⟨k1,e1⟩:=ge e1
   obtain ⟨k2,e2⟩:=ge e2
   obtain ⟨j1,hj1,e1⟩:=pickP_get e1 (by intro z; cases z)
   obtain ⟨j2,hj2,e2⟩:=pickP_get e2 (by intro z; cases z)
   have:=fr.nd j1 j2 a d d' e1 e2
   subst this
   have:=nodup_ix' nd hj1 hj2
   ac_rfl
  ·rw [prot_free h.2]
   rcases h.1 with m | m
   ·intro z
    exact fr.dom m (S.free z)
   ·rw [m]; exact hD2
  ·have e:=fr.old.t Pt q z
   rw [prot_free ?_]
   ·exact S _ _ (fr.same _ _ e)
   ·rintro ⟨d,c⟩
    rw [fr.new Pt d (sub c)] at e
    cases e
 ·rcases h with h | ⟨d,h⟩
  ·exact h.1
  ·exact .inl (.inr ⟨d,sub (mem h)⟩)
 ·by_cases c:∃ d,Sl.own a d ∈ pickP js ρ
  ·obtain ⟨d,c⟩:=c
   exact .inr ⟨d,List.mem_append_right _ c⟩
  ·exact .inl ⟨h,c⟩
end
end Z
namespace Z
open PySem PySem.Spec PyProof.Rows L2
inductive liftG (K:W.Frag) (k:Nat) (g:TGp) (v:V) (σ:St) (H:Hp) (Q:St -> Hp -> Prop):Prop
 | mk (d:Dv) (HZ:Hp) (F:Addr -> Prop) (ρ:List Sl) (fr:Fr K HZ F σ H ρ) (r:Rep K (MM F ρ) H v d) (h:g d ρ (fun ρ1 => ∀ σ1,Fr K HZ F σ1 H ρ1 -> (∀ j,k <= j -> σ1[j]? = σ[j]?) -> Q σ1 H))
theorem QG.pg {X:Cx} {tg:Expr} {k:Nat} {g:TGp} (h:QG X tg k g):PG X tg (liftG X.K k g):=by
 obtain ⟨t,ht,tq⟩:=h.run
 intro pins s σ H v u Q I r ⟨d,HZ,F,ρ,fr,rv,q⟩
 exact ht pins s σ H v u Q I r (tq HZ F v d σ H ρ Q fr rv q)
theorem QE.pe {X:Cx} {e:Expr} {te:TEp} (h:QE X e te):PE X e (fun σ H Q => ∃ HZ F,lift X.K HZ F te σ H Q):=fun pins s σ H Q I ⟨HZ,F,q⟩ => h.run HZ F pins s σ H Q I q
theorem QTs.pt {X:Cx} {ifs:List Expr} {tt:TTp} (h:QTs X ifs tt):PTs X ifs (fun σ H Q => ∃ HZ F,liftT X.K HZ F tt σ H Q):=fun pins s σ H Q I ⟨HZ,F,q⟩ => h.run HZ F pins s σ H Q I q
theorem split_at {α:Type} {l a b:List α} {k:Nat} (ha:a.length = k) (hl:l.length = k + b.length) (h:∀ j,k <= j -> l[j]? = (a ++ b)[j]?):l = l.take k ++ b:=by
 refine List.ext_getElem? fun j => ?_
 by_cases hj:j < k
 ·rw [List.getElem?_append_left (by rw [List.length_take]; ac_rfl),List.getElem?_take_of_lt hj]
 ·rw [h j (by ac_rfl),List.getElem?_append_right (by ac_rfl),List.getElem?_append_right (by rw [List.length_take]; ac_rfl),ha,List.length_take,Nat.min_eq_left (by ac_rfl)]
section
variable {X:Cx} {pos:Pos}
theorem q_comp {elt iter tgt:Expr} {ifs:List Expr} {scope:Scope} {cl:List (Str × Addr)} {tgs ns:List Str} {js:List Nat} {k:Nat} {ti:TIp} {g:TGp} {tt:TTp} {te:TEp} (hc:X.N = X.N) (hk:tgs.length = k)
  (hi:QI X tgt iter ti) (hg:∀ (fp:List Addr) (s:Shared) (H:Hp),QG (cxG X scope cl fp (tgs ++ ns) s H) tgt k g) (ht:∀ (fp:List Addr) (s:Shared) (H:Hp),QTs (cxG X scope cl fp (tgs ++ ns) s H) ifs tt)
  (he:∀ (fp:List Addr) (s:Shared) (H:Hp),QE (cxG X scope cl fp (tgs ++ ns) s H) elt te)
  (hclos:closureFor scope X.env = pure cl) (hsub:∀ x c,cl.lookup x = some c -> X.env.cells.lookup x = some c)
  (hhas:∀ x,((relabel scope X.env).names.lookup x = some .cell \/ (relabel scope X.env).names.lookup x = some .free) -> ∃ c,cl.lookup x = some c)
  (hjs:js.map (fun j => X.N[j]?) = ns.map some) (hin:∀ y ∈ ns,(relabel scope X.env).names.lookup y = some .cell \/ (relabel scope X.env).names.lookup y = some .free)
  (hout:∀ y ∈ ns,X.env.kindOf y = some .cell \/ X.env.kindOf y = some .free) (nd:js.Nodup)
  (hcell:∀ y ∈ scope.names,y.2 ≠ .cell:=by decide +kernel) (hkind:scope.kind = .function:=by rfl)
  (hnames:∀ y ∈ scope.names,y.2 = .local -> scope.names.lookup y.1 = some .local:=by decide +kernel)
  (hs:∀ z,foldedSetIterable iter X.env z = pure z:=by intro _; rfl):
  QE X (.ListComp elt [⟨tgt,iter,ifs,0⟩] scope pos) (eComp k js ti g tt te):=by
 have mg:=(hg [] X.s₀ fun _ => none).mono
 have ag:=(hg [] X.s₀ fun _ => none).agree
 have mt:=(ht [] X.s₀ fun _ => none).mono
 have me:=(he [] X.s₀ fun _ => none).mono
 refine ⟨fun ρ Q Q' w h => hi.mono _ _ _ (fun ds ogs h => compGo_mono mg mt me ds [] Q Q' w h) h,fun HZ F => ?_⟩
 obtain ⟨wi,hwi,wiq⟩:=hi.run HZ F
 refine PE_imp (pe_compG (tgs:=tgs) (ns:=ns) (js:=js) (g:=liftG X.K k g) (tt:=fun σ H Q => ∃ HZ F,liftT X.K HZ F tt σ H Q) (te:=fun σ H Q => ∃ HZ F,lift X.K HZ F te σ H Q) hc hwi (fun fp s H => (hg fp s H).pg) (fun fp s H => (ht fp s H).pt) (fun fp s H => (he fp s H).pe) hclos hsub hhas hjs hin hout hcell hkind hnames hs) fun σ H Q ⟨ρ,fr,h⟩ => ?_
 subst hk
 refine wiq σ H ρ _ fr (hi.mono _ _ _ (fun ds ogs q J H1 S1 gd ok => ?_) h)
 intro D hD
 have fr1:=fr.mono S1
 refine ⟨fun i m acc H2 => m = ds.length - i /\ i <= ds.length /\ Same H1 H2 /\ ∃ accD,Reps X.K (fun a => MM F ρ a \/ a = D) H2 acc accD /\
  compGo (List.replicate tgs.length .un ++ pickP js ρ) g tt te (ds.drop i) accD (fun r => ∀ x H',Same H H' -> RRep X.K (MM F ρ) (Own ρ) H x r H' -> Q x H'),
  ⟨ds.length,by simp,Nat.zero_le _,Same.new' hD,[],.nil,by simpa using q⟩,?_⟩
 rintro i m acc H2 ⟨rfl,hil,S2,accD,ra,q⟩ hDl
 have G2:Gen X.K (MM F ρ) (fun a => MM F ρ a \/ a = D) H1 H2:=(Gen.fresh hD).trans (.mono S2)
 have oks:=ok i H2 (fun a => MM F ρ a \/ a = D) (fun b o e => S2 _ _ (prot_some e)) G2 fun p hp => by
  obtain ⟨_,_,_,ow⟩:=fr1.at_own (gd p hp)
  exact ow.gen G2 fun o e => S2 _ _ e
 by_cases hlt:i < ds.length
 ·have hd:ds[i]? = some ds[i]:=by simp [hlt]
  rw [List.drop_eq_getElem_cons hlt] at q
  obtain ⟨go,yld⟩:=oks.1 _ hd
  refine .inr ⟨go,fun y H3 hy old lo => ?_⟩
  obtain ⟨S3,ry⟩:=yld y H3 hy
  have hD3:=S3 _ _ hDl
  obtain ⟨P,F',fr',iff,iffF⟩:=fr1.block (js:=js) (old:=old) (S2.trans S3) hD (by rw [hD3]; simp) nd lo
  refine ⟨_,P,F',_,fr',ry.weak fun a z => (iff a).mp z,mg _ _ _ _ (fun ρ1 q1 σ1 f1 a1 => ?_) (ag _ _ _ q)⟩
  obtain ⟨q1,l1,b1⟩:=q1
  have up:∀ a,MM F ρ a \/ a = D -> MM F' ρ1 a:=fun a z => by
   rcases (iff a).mpr z with z | ⟨d,z⟩
   ·exact .inl z
   ·refine .inr ⟨d,?_⟩
    obtain ⟨j,e⟩:=List.mem_iff_getElem?.mp z
    have hj:tgs.length <= j:=by
     by_cases hj:j < tgs.length
     ·rw [List.getElem?_append_left (by simpa using hj),List.getElem?_replicate,if_pos hj] at e
      cases e
     ·ac_rfl
    rw [<- b1 j hj] at e
    exact List.mem_of_getElem? e
  have hlen:σ1.length = tgs.length + (pick js σ).length:=by
   have:=f1.len
   rw [l1] at this
   simp [pick,pickP] at this ⊢
   ac_rfl
  refine ⟨⟨σ1.take tgs.length,by rw [List.length_take]; ac_rfl,split_at lo hlen a1⟩,P,F',ρ1,f1,mt _ _ _ (fun b q5 H5 S5 => ?_) q1⟩
  have S25:=(S2.trans S3).trans S5
  cases b with
  | true =>
   simp only [if_true] at q5
   refine iteT ⟨P,F',ρ1,f1.mono S5,me _ _ _ (fun r q6 x H6 S6 rx => ?_) q5⟩
   have hD6:=S6 _ _ (S5 _ _ hD3)
   obtain ⟨⟨rf,rl⟩,q6⟩:=q6
   have rep:=(rx.rep (fun a z => (f1.mono S5).dom z) rf).weak up
   refine ⟨hD6,by rw [ra.length]; exact lim_lt rl,ds.length - (i + 1),by ac_rfl,rfl,hlt,fun b o e => ?_,_,?_,q6⟩
   ·rw [upd_ne (ne_of_none e hD)]
    exact S6 _ _ (S25 _ _ e)
   ·have G6:Gen X.K (fun a => MM F ρ a \/ a = D) (fun a => MM F ρ a \/ a = D) H6 (upd H6 D (.lst (acc ++ [x]))):=Gen.write (.inr rfl) (by rw [hD6]; trivial)
    exact ((ra.mono ((S3.trans S5).trans S6)).append (.cons rep .nil)).gen G6
  | false =>
   simp only [Bool.false_eq_true,if_false] at q5
   exact iteF ⟨S5 _ _ hD3,ds.length - (i + 1),by ac_rfl,rfl,hlt,S25,accD,ra.mono (S3.trans S5),q5⟩
 ·have e:i = ds.length:=by ac_rfl
  subst e
  rw [List.drop_length] at q
  exact .inl ⟨oks.2 (Nat.le_refl _),q (.ref D) H2 (S1.trans S2) ⟨D,rfl,S1.free hD,acc,hDl,ra⟩⟩
end
def CallD (X:Cx) (f:Value) (p:List Dv -> (R -> Prop) -> Prop):Prop:=
 (∀ ds (Q Q':R -> Prop),(∀ r,Q r -> Q' r) -> p ds Q -> p ds Q') /\ ∃ r:List V -> Hp -> VK -> Prop,CallR X f r /\ ∀ (M:Addr -> Prop) (O:Addr -> Dv -> Prop) (H:Hp) (xs:List V) (ds:List Dv) (Q:VK),CReps X.K M H xs ds ->
  p ds (fun rr => ∀ z H',Same H H' -> RRep X.K M O H z rr H' -> Q z H') -> r xs H Q
def eCB (p:List Dv -> (R -> Prop) -> Prop) (ts:TAp):TEp:=fun ρ Q => ts ρ fun rs => p (rs.map R.d) Q
section
variable {X:Cx} {pos p:Pos} {e:Expr} {es:List Expr} {ts:TAp} {x:Str} {id T:String} {pp:List Dv -> (R -> Prop) -> Prop}
theorem eCB_run {r:List V -> Hp -> VK -> Prop} (ha:QA X es ts) (mo:∀ ds (Q Q':R -> Prop),(∀ r,Q r -> Q' r) -> pp ds Q -> pp ds Q')
  (hr:∀ (M:Addr -> Prop) (O:Addr -> Dv -> Prop) (H:Hp) (xs:List V) (ds:List Dv) (Q:VK),CReps X.K M H xs ds -> pp ds (fun rr => ∀ z H',Same H H' -> RRep X.K M O H z rr H' -> Q z H') -> r xs H Q)
  (HZ:Hp) (F:Addr -> Prop) (σ:St) (H:Hp) (Q:VK) (h:lift X.K HZ F (eCB pp ts) σ H Q):tCB r (liftA X.K HZ F ts) σ H Q:=by
 obtain ⟨ρ,fr,h⟩:=h
 refine ha.step fr h fun rs xs H1 q S1 r1 => ?_
 exact hr (MM F ρ) (Own ρ) H1 xs _ Q r1.c (mo _ _ _ (fun rr k z H' S rz => k z H' (S1.trans S) (rz.ahead S1)) q)
theorem q_callB (hc:CallD X (.builtin id) pp) (hg:Gl X x) (hm:X.mg x = none) (hv:bootBuiltins x = some (.builtin id)) (ha:QA X (e :: es) ts) (hn:x ≠ "__name__" := by decide) (hdb:(x == ("__debug__" : Str)) = false:=by decide)
  (he:starEach (e :: es) X.env = (false,eval e X.env) :: starEach es X.env:=by rfl) (hpl:(backTo pos (starEach es X.env)).any (·.1) = false:=by rfl):QE X (.Call (.Name x p) (e :: es) [] pos) (eCB pp ts):=by
 obtain ⟨mo,r,hR,hr⟩:=hc
 exact ⟨fun ρ Q Q' w q => ha.mono _ _ _ (fun rs q => mo _ _ _ w q) q,fun HZ F => PE_imp (pe_callB hR hg hm hv (ha.run HZ F) hn hdb he hpl) (eCB_run ha mo hr HZ F)⟩
theorem q_callTy (hc:CallD X (.type T) pp) (hg:Gl X x) (hm:X.mg x = none) (hv:bootBuiltins x = some (.type T)) (ha:QA X (e :: es) ts) (hn:x ≠ "__name__" := by decide) (hdb:(x == ("__debug__" : Str)) = false:=by decide)
  (he:starEach (e :: es) X.env = (false,eval e X.env) :: starEach es X.env:=by rfl) (hpl:(backTo pos (starEach es X.env)).any (·.1) = false:=by rfl):QE X (.Call (.Name x p) (e :: es) [] pos) (eCB pp ts):=by
 obtain ⟨mo,r,hR,hr⟩:=hc
 exact ⟨fun ρ Q Q' w q => ha.mono _ _ _ (fun rs q => mo _ _ _ w q) q,fun HZ F => PE_imp (pe_callTy hR hg hm hv (ha.run HZ F) hn hdb he hpl) (eCB_run ha mo hr HZ F)⟩
def pLen:List Dv -> (R -> Prop) -> Prop
 | [.lst xs],Q => Q (.v (.int xs.length))
 | [.tup xs],Q => Q (.v (.int xs.length))
 | [.scr ns],Q => Q (.v (.int ns.length))
 | [.str y],Q => y.length <= LIM /\ Q (.v (.int y.length))
 | [.dik kvs],Q => Q (.v (.int kvs.length))
 | _,_ => False
theorem RepK.length {K:W.Frag} {M:Addr -> Prop} {H:Hp} {xs:List (Key × V)} {ds:List (Key × Dv)} (r:RepK K M H xs ds):xs.length = ds.length:=r.ind (P:=fun xs ds => xs.length = ds.length) rfl fun _ _ _ _ _ _ _ ih => congrArg (· + 1) ih
theorem cd_len:CallD X (.builtin "len") pLen:=by
 refine ⟨fun ds Q Q' w h => ?_,_,call_len_seq.or (call_len_str.or call_lenD),fun M O H xs ds Q c h => ?_⟩
 ·unfold pLen at *
  split at h <;> first | exact w _ h | exact ⟨h.1,w _ h.2⟩ | exact h
 ·unfold pLen at h
  split at h
  ·obtain ⟨x,rfl,cx⟩:=creps1 c
   obtain ⟨a,ys,rfl,ea,ra⟩:=cx.lst
   refine .inl ⟨a,ys,rfl,.inl (SqL.of ea),?_⟩
   rw [ra.length]
   exact h _ H (Same.refl _) (Rep.int _)
  ·obtain ⟨x,rfl,cx⟩:=creps1 c
   obtain ⟨a,ys,rfl,ea,ra⟩:=cx.tup
   refine .inl ⟨a,ys,rfl,.inr (SqT.of ea),?_⟩
   rw [ra.length]
   exact h _ H (Same.refl _) (Rep.int _)
  ·obtain ⟨x,rfl,cx⟩:=creps1 c
   obtain ⟨a,rfl,ea⟩:=cx.scr
   refine .inl ⟨a,_,rfl,.inl ea.sq,?_⟩
   rw [List.length_map]
   exact h _ H (Same.refl _) (Rep.int _)
  ·obtain ⟨x,rfl,cx⟩:=creps1 c
   obtain rfl:=cx.str
   exact .inr (.inl ⟨_,rfl,lim_line h.1,h.2 _ H (Same.refl _) (Rep.int _)⟩)
  ·obtain ⟨x,rfl,cx⟩:=creps1 c
   obtain ⟨a,ys,rfl,ea,ra⟩:=cx.dik
   refine .inr (.inr ⟨a,ys,rfl,ea,?_⟩)
   rw [ra.length]
   exact h _ H (Same.refl _) (Rep.int _)
  ·exact h.elim
def pAbs:List Dv -> (R -> Prop) -> Prop
 | [.int i],Q => Q (.v (.int (if i < 0 then -i else i)))
 | _,_ => False
theorem cd_abs:CallD X (.builtin "abs") pAbs:=by
 refine ⟨fun ds Q Q' w h => ?_,_,call_abs,fun M O H xs ds Q c h => ?_⟩
 ·unfold pAbs at *
  split at h <;> first | exact w _ h | exact h
 ·unfold pAbs at h
  split at h
  ·obtain ⟨x,rfl,cx⟩:=creps1 c
   obtain rfl:=cx.int
   exact ⟨_,rfl,h _ H (Same.refl _) (Rep.int _)⟩
  ·exact h.elim
def pMin2:List Dv -> (R -> Prop) -> Prop
 | [.int i,.int j],Q => Q (.v (.int (if j < i then j else i)))
 | _,_ => False
def pMax2:List Dv -> (R -> Prop) -> Prop
 | [.int i,.int j],Q => Q (.v (.int (if j > i then j else i)))
 | _,_ => False
theorem cd_min2 (hc:X.calm = true):CallD X (.builtin "min") pMin2:=by
 refine ⟨fun ds Q Q' w h => ?_,_,call_min2 hc,fun M O H xs ds Q c h => ?_⟩
 ·unfold pMin2 at *
  split at h <;> first | exact w _ h | exact h
 ·unfold pMin2 at h
  split at h
  ·obtain ⟨x,y,rfl,cx,cy⟩:=creps2 c
   obtain rfl:=cx.int
   obtain rfl:=cy.int
   exact ⟨_,_,rfl,h _ H (Same.refl _) (Rep.int _)⟩
  ·exact h.elim
def pSum:List Dv -> (R -> Prop) -> Prop
 | [.lst ds],Q => ∃ ns:List Int,ds = ns.map .int /\ Q (.v (.int ns.sum))
 | _,_ => False
def pAll:List Dv -> (R -> Prop) -> Prop
 | [.lst ds],Q => ∃ bs:List Bool,ds = bs.map .bl /\ Q (.v (.bl (bs.all _root_.id)))
 | _,_ => False
theorem Reps.of_ints {K:W.Frag} {M:Addr -> Prop} {H:Hp}:∀ {xs:List V} {ns:List Int},Reps K M H xs (ns.map .int) -> xs = ns.map V.int
 | _,[],.nil => rfl
 | _,n :: r,.cons a t => by cases a; rw [Reps.of_ints t]; rfl
theorem Reps.of_bls {K:W.Frag} {M:Addr -> Prop} {H:Hp}:∀ {xs:List V} {ns:List Bool},Reps K M H xs (ns.map .bl) -> xs = ns.map V.bl
 | _,[],.nil => rfl
 | _,n :: r,.cons a t => by cases a; rw [Reps.of_bls t]; rfl
theorem cd_sum (hc:X.N = X.N):CallD X (.builtin "sum") pSum:=by
 refine ⟨fun ds Q Q' w h => ?_,_,call_sumL hc,fun M O H xs ds Q c h => ?_⟩
 ·unfold pSum at *
  split at h
  ·obtain ⟨ns,e,h⟩:=h; exact ⟨ns,e,w _ h⟩
  ·exact h
 ·unfold pSum at h
  split at h
  ·obtain ⟨ns,rfl,h⟩:=h
   obtain ⟨x,rfl,cx⟩:=creps1 c
   obtain ⟨a,ys,rfl,ea,ra⟩:=cx.lst
   obtain rfl:=ra.of_ints
   exact ⟨a,ns,rfl,SqL.of ea,h _ H (Same.refl _) (Rep.int _)⟩
  ·exact h.elim
theorem cd_all (hc:X.calm = true):CallD X (.builtin "all") pAll:=by
 refine ⟨fun ds Q Q' w h => ?_,_,call_allL hc,fun M O H xs ds Q c h => ?_⟩
 ·unfold pAll at *
  split at h
  ·obtain ⟨ns,e,h⟩:=h; exact ⟨ns,e,w _ h⟩
  ·exact h
 ·unfold pAll at h
  split at h
  ·obtain ⟨ns,rfl,h⟩:=h
   obtain ⟨x,rfl,cx⟩:=creps1 c
   obtain ⟨a,ys,rfl,ea,ra⟩:=cx.lst
   obtain rfl:=ra.of_bls
   exact ⟨a,ns,rfl,SqL.of ea,h _ H (Same.refl _) (Rep.bl _)⟩
  ·exact h.elim
def pList:List Dv -> (R -> Prop) -> Prop
 | [.lst ds],Q => Q (.nw (.lst ds))
 | [.tup ds],Q => Q (.nw (.lst ds))
 | [.scr ns],Q => Q (.nw (.lst (ns.map .int)))
 | _,_ => False
theorem cd_list:CallD X (.type "list") pList:=by
 refine ⟨fun ds Q Q' w h => ?_,_,call_list_of,fun M O H xs ds Q c h => ?_⟩
 ·unfold pList at *
  split at h <;> first | exact w _ h | exact h
 ·unfold pList at h
  split at h
  ·obtain ⟨x,rfl,cx⟩:=creps1 c
   obtain ⟨a,ys,rfl,ea,ra⟩:=cx.lst
   exact ⟨a,ys,rfl,.inl (SqL.of ea),fun l hl => h _ _ (Same.new' hl) (nw_lst hl ra)⟩
  ·obtain ⟨x,rfl,cx⟩:=creps1 c
   obtain ⟨a,ys,rfl,ea,ra⟩:=cx.tup
   exact ⟨a,ys,rfl,.inr (SqT.of ea),fun l hl => h _ _ (Same.new' hl) (nw_lst hl ra)⟩
  ·obtain ⟨x,rfl,cx⟩:=creps1 c
   obtain ⟨a,rfl,ea⟩:=cx.scr
   exact ⟨a,_,rfl,.inl ea.sq,fun l hl => h _ _ (Same.new' hl) (nw_lst hl (Reps.ints _))⟩
  ·exact h.elim
def pTuple:List Dv -> (R -> Prop) -> Prop
 | [.lst ds],Q => Q (.v (.tup ds))
 | [.tup ds],Q => Q (.v (.tup ds))
 | _,_ => False
theorem cd_tuple:CallD X (.type "tuple") pTuple:=by
 refine ⟨fun ds Q Q' w h => ?_,_,call_tuple_of,fun M O H xs ds Q c h => ?_⟩
 ·unfold pTuple at *
  split at h <;> first | exact w _ h | exact h
 ·unfold pTuple at h
  split at h
  ·obtain ⟨x,rfl,cx⟩:=creps1 c
   obtain ⟨a,ys,rfl,ea,ra⟩:=cx.lst
   exact ⟨a,ys,rfl,.inl ⟨SqL.of ea,fun l hl => h _ _ (Same.new' hl) (v_tup hl ra)⟩⟩
  ·obtain ⟨x,rfl,cx⟩:=creps1 c
   obtain ⟨a,ys,rfl,ea,ra⟩:=cx.tup
   exact ⟨a,ys,rfl,.inr ⟨SqT.of ea,h _ H (Same.refl _) (Rep.tup ea ra)⟩⟩
  ·exact h.elim
noncomputable def tyD:Dv -> String
 | .non => "NoneType"
 | .bl _ => "bool"
 | .int _ => "int"
 | .str _ => "str"
 | .tup _ => "tuple"
 | .lst _ => "list"
 | .scr _ => "list"
 | .dik _ => "dict"
 | .dit _ => "dict"
 | .obj _ _ => ""
 | .exc _ _ => ""
 | .dns _ => ""
noncomputable def isiD (T:String) (d:Dv):Bool:=tyD d == T || (T == "int" && tyD d == "bool")
noncomputable def tyOk:Dv -> Bool
 | .obj _ _ => false
 | .exc _ _ => false
 | .dns _ => false
 | .scr _ => false
 | _ => true
def eIsi (T:String) (te:TEp):TEp:=fun ρ Q => te ρ fun r => tyOk r.d = true /\ Q (.v (.bl (isiD T r.d)))
theorem kit_all {K:W.Frag} {T:String} (hT:T = "int" \/ T = "bool" \/ T = "tuple" \/ T = "list" \/ T = "str") (d:Dv) (ho:tyOk d = true):W.kitOne K (.type (tyD d)) (.type T) = some (isiD T d):=by
 rcases hT with rfl | rfl | rfl | rfl | rfl <;> cases d <;> first | (simp [tyOk] at ho; done) | with_unfolding_all rfl
theorem CRep.ty {K:W.Frag} {M:Addr -> Prop} {H:Hp} {x:V} {d:Dv} (c:CRep K M H x d) (ho:tyOk d = true):TyOf K H x (.type (tyD d)):=by
 cases d with
 | non => obtain rfl:=c.non; exact .non
 | bl b => obtain rfl:=c.bl; exact .bl b
 | int i => obtain rfl:=c.int; exact .int i
 | str y => obtain rfl:=c.str; exact .str y
 | tup ds => obtain ⟨a,xs,rfl,e,_⟩:=c.tup; exact .tup e
 | lst ds => obtain ⟨a,xs,rfl,e,_⟩:=c.lst; exact .lst e
 | dik ds => obtain ⟨a,xs,rfl,e,_⟩:=c.dik; exact .dK e
 | dit ds => obtain ⟨a,ep,xs,rfl,e,_⟩:=c.dit; exact .dT e
 | obj C fs => simp [tyOk] at ho
 | scr ns => simp [tyOk] at ho
 | exc C p => simp [tyOk] at ho
 | dns ks => simp [tyOk] at ho
theorem q_isi {te:TEp} {p2:Pos} (hT:T = "int" \/ T = "bool" \/ T = "tuple" \/ T = "list" \/ T = "str") (hg:Gl X "isinstance") (hm:X.mg "isinstance" = none) (ha:QE X e te) (hty:PE X (.Name x p2) (tC (.ty T)))
  (he:starEach [e,.Name x p2] X.env = (false,eval e X.env) :: starEach [.Name x p2] X.env:=by rfl) (he2:starEach [Expr.Name x p2] X.env = (false,eval (.Name x p2) X.env) :: starEach [] X.env:=by rfl) (hpl:(backTo pos (starEach [.Name x p2] X.env)).any (·.1) = false:=by rfl):
  QE X (.Call (.Name "isinstance" p) [e,.Name x p2] [] pos) (eIsi T te):=by
 refine ⟨fun ρ Q Q' w q => ha.mono _ _ _ (fun r q => ⟨q.1,w _ q.2⟩) q,fun HZ F => PE_imp (pe_callB call_isi hg hm boot_isinstance (pa_cons (ha.run HZ F) (pa_cons hty pa_nil he2) he) (by decide) (by decide) he hpl) fun σ H Q ⟨ρ,fr,h⟩ => ?_⟩
 refine ha.step fr h fun r x H1 q S1 r1 => ?_
 exact ⟨x,T,_,_,rfl,r1.c.ty q.1,kit_all hT _ q.1,q.2 _ H1 S1 (Rep.bl _)⟩
end
end Z
namespace Z
open PySem PySem.Spec PyProof.Rows L2
noncomputable def kD:Key -> Dv
 | .inl i => .int i
 | .inr x => .str x
def pIx:Dv -> Dv -> (R -> Prop) -> Prop
 | .lst xs,.int i,Q => match atI xs i with
  | some d => Q (.v d)
  | none => False
 | .tup xs,.int i,Q => match atI xs i with
  | some d => Q (.v d)
  | none => False
 | .scr ns,.int i,Q => match atI ns i with
  | some n => Q (.v (.int n))
  | none => False
 | .str z,.int i,Q => z.length <= LIM /\ match atI z.cps.toList i with
  | some c => Q (.v (.str ⟨#[c]⟩))
  | none => False
 | .dik kvs,.int i,Q => match kvs.find? (fun kv => decide (kv.1 = Sum.inl i)) with
  | some kv => Q (.v kv.2)
  | none => False
 | .dik kvs,.str x,Q => match kvs.find? (fun kv => decide (kv.1 = Sum.inr x)) with
  | some kv => Q (.v kv.2)
  | none => False
 | .dit kvs,.tup ds,Q => ∃ k:List Key,ds = k.map kD /\ match kvs.find? (fun kv => decide (kv.1 = k)) with
  | some kv => Q (.v kv.2)
  | none => False
 | _,_,_ => False
section
variable {X:Cx} {a b e:Expr} {ta tb te:TEp} {pos:Pos}
theorem Reps.at {K:W.Frag} {M:Addr -> Prop} {H:Hp} {xs:List V} {ds:List Dv} {i:Int} {d:Dv} (r:Reps K M H xs ds) (h:atI ds i = some d):∃ x,atI xs i = some x /\ Rep K M H x d:=by
 unfold atI at *
 rw [r.length]
 cases e:ixN ds.length i with
 | none => rw [e] at h; cases h
 | some j =>
  rw [e] at h
  obtain ⟨x,hx,rx⟩:=r.get (i:=j) h
  exact ⟨x,hx,rx⟩
theorem atI_map {α β:Type} {f:α -> β} {l:List α} {i:Int}:atI (l.map f) i = (atI l i).map f:=by
 unfold atI
 rw [List.length_map]
 cases ixN l.length i with
 | none => rfl
 | some j => simp
theorem RepK.val {K:W.Frag} {M:Addr -> Prop} {H:Hp} {k:Key} {xs:List (Key × V)} {ds:List (Key × Dv)} (r:RepK K M H xs ds):(∀ kv,ds.find? (fun kv => decide (kv.1 = k)) = some kv -> ∃ x,valV xs k = some x /\ Rep K M H x kv.2) /\ (ds.find? (fun kv => decide (kv.1 = k)) = none -> valV xs k = none):=
 r.ind (P:=fun xs ds => (∀ kv,ds.find? (fun kv => decide (kv.1 = k)) = some kv -> ∃ x,valV xs k = some x /\ Rep K M H x kv.2) /\ (ds.find? (fun kv => decide (kv.1 = k)) = none -> valV xs k = none)) ⟨fun _ h => (by cases h),fun _ => rfl⟩ fun k' x d xs ds a _ ih => by
  by_cases e:k' = k
  ·rw [List.find?_cons_of_pos (by simpa using e),valV_pos e]
   exact ⟨fun kv h => by cases h; exact ⟨x,rfl,a⟩,fun h => by cases h⟩
  ·rw [List.find?_cons_of_neg (by simpa using e),valV_neg e]
   exact ih
theorem RepT.val {K:W.Frag} {M:Addr -> Prop} {H:Hp} {k:List Key} {xs:List (List Key × V)} {ds:List (List Key × Dv)} (r:RepT K M H xs ds):(∀ kv,ds.find? (fun kv => decide (kv.1 = k)) = some kv -> ∃ x,valV xs k = some x /\ Rep K M H x kv.2) /\ (ds.find? (fun kv => decide (kv.1 = k)) = none -> valV xs k = none):=
 r.ind (P:=fun xs ds => (∀ kv,ds.find? (fun kv => decide (kv.1 = k)) = some kv -> ∃ x,valV xs k = some x /\ Rep K M H x kv.2) /\ (ds.find? (fun kv => decide (kv.1 = k)) = none -> valV xs k = none)) ⟨fun _ h => (by cases h),fun _ => rfl⟩ fun k' x d xs ds a _ ih => by
  by_cases e:k' = k
  ·rw [List.find?_cons_of_pos (by simpa using e),valV_pos e]
   exact ⟨fun kv h => by cases h; exact ⟨x,rfl,a⟩,fun h => by cases h⟩
  ·rw [List.find?_cons_of_neg (by simpa using e),valV_neg e]
   exact ih
theorem Reps.keys {K:W.Frag} {M:Addr -> Prop} {H:Hp}:∀ {xs:List V} {k:List Key},Reps K M H xs (k.map kD) -> xs = k.map kV
 | _,[],.nil => rfl
 | _,.inl i :: r,.cons a t => by cases a; rw [Reps.keys t]; rfl
 | _,.inr x :: r,.cons a t => by cases a; rw [Reps.keys t]; rfl
def rIxD:R2:=fun x y H Q => ∃ a v,x = .ref a /\ DGet H a y (some v) /\ Q v H
theorem ix_dict (hu:X.A.units + 1 < cLine):IxR X rIxD:=by
 intro value slice pins s σ H x y v u Q I rx ry h hs
 obtain ⟨a,z,rfl,g,q⟩:=h
 cases rx
 have hT:=dict_typeIs I g
 unfold subscriptTail
 refine wpAny_bind ?_
 rw [getitemInPython_of_ne hT.not_modules]
 refine wpAny_bind (wpAny_specialOf hT PySem.F.slot_dict_getitem.lookup ?_)
 have fin:wpAny (model X.prog X.w) X.A (subscripted slice false (.ref a) u) (fun r s₃ => wpAny (model X.prog X.w) X.A (letTemporaryGo value (.ref a) r >>= fun _ => pure r) (EP X pins σ Q) X.xe s₃) X.xe s:=by
  rw [hs]
  exact wpAny_operating (wpAny_mono (d_getItem hu I g ry fun w' s' I' rw' => show EP X pins σ Q w' s' from ⟨z,H,I',rw',q⟩) (fun r s₃ h₃ => wpAny_bind (wpAny_letTemporaryGo (wpAny_pure h₃))) fun _ _ x => x)
 first
  | exact wpAny_pure (wpAny_bind fin)
  | exact wpAny_bind (wpAny_pure (wpAny_bind fin))
  | exact wpAny_bind fin
theorem pIx_mono:∀ dx dy (Q Q':R -> Prop),(∀ r,Q r -> Q' r) -> pIx dx dy Q -> pIx dx dy Q':=by
 intro dx dy Q Q' w h
 unfold pIx at *
 split at h
 ·split at h
  ·exact w _ h
  ·exact h
 ·split at h
  ·exact w _ h
  ·exact h
 ·split at h
  ·exact w _ h
  ·exact h
 ·refine ⟨h.1,?_⟩
  have h2:=h.2
  split at h2
  ·exact w _ h2
  ·exact h2
 ·split at h
  ·exact w _ h
  ·exact h
 ·split at h
  ·exact w _ h
  ·exact h
 ·obtain ⟨k,e,h⟩:=h
  refine ⟨k,e,?_⟩
  split at h
  ·exact w _ h
  ·exact h
 ·exact h
theorem q_ix (hu:X.A.units + 1 < cLine) (ha:QE X a ta) (hb:QE X b tb) (hs:PlainIx b:=by intro _ _; rfl):QE X (.Subscript a b pos) (eOp pIx ta tb):=by
 refine ⟨eOp_mono ha hb pIx_mono,fun HZ F => PE_imp (pe_ix (ix_seq.or (ix_dict hu)) (ha.run HZ F) (hb.run HZ F) hs) (eOp_run ha hb (fun M O H x y dx dy Q cx cy h => ?_) pIx_mono HZ F)⟩
 unfold pIx at h
 split at h
 ·rename_i xs i
  split at h
  ·rename_i d hd
   obtain ⟨p,vs,rfl,ea,ra⟩:=cx.lst
   obtain rfl:=cy.int
   obtain ⟨z,hz,rz⟩:=ra.at hd
   exact .inl (.inl ⟨p,vs,i,z,rfl,rfl,SqL.of ea,hz,h _ H (Same.refl _) rz⟩)
  ·exact h.elim
 ·rename_i xs i
  split at h
  ·rename_i d hd
   obtain ⟨p,vs,rfl,ea,ra⟩:=cx.tup
   obtain rfl:=cy.int
   obtain ⟨z,hz,rz⟩:=ra.at hd
   exact .inl (.inr (.inl ⟨p,vs,i,z,rfl,rfl,SqT.of ea,hz,h _ H (Same.refl _) rz⟩))
  ·exact h.elim
 ·rename_i ns i
  split at h
  ·rename_i n hn
   obtain ⟨p,rfl,ea⟩:=cx.scr
   obtain rfl:=cy.int
   refine .inl (.inl ⟨p,_,i,.int n,rfl,rfl,ea.sq,?_,h _ H (Same.refl _) (Rep.int _)⟩)
   rw [atI_map,hn]
   rfl
  ·exact h.elim
 ·rename_i z i
  obtain ⟨hl,h⟩:=h
  split at h
  ·rename_i c hc
   obtain rfl:=cx.str
   obtain rfl:=cy.int
   exact .inl (.inr (.inr ⟨z,i,c,rfl,rfl,lim_line hl,hc,h _ H (Same.refl _) (Rep.str _)⟩))
  ·exact h.elim
 ·split at h
  ·rename_i kv hk
   obtain ⟨p,kvs,rfl,ea,ra⟩:=cx.dik
   obtain rfl:=cy.int
   obtain ⟨z,hz,rz⟩:=ra.val.1 kv hk
   exact .inr ⟨p,z,rfl,by rw [<- hz]; exact DGet.k (k:=Sum.inl _) ea,h _ H (Same.refl _) rz⟩
  ·exact h.elim
 ·split at h
  ·rename_i kv hk
   obtain ⟨p,kvs,rfl,ea,ra⟩:=cx.dik
   obtain rfl:=cy.str
   obtain ⟨z,hz,rz⟩:=ra.val.1 kv hk
   exact .inr ⟨p,z,rfl,by rw [<- hz]; exact DGet.k (k:=Sum.inr _) ea,h _ H (Same.refl _) rz⟩
  ·exact h.elim
 ·obtain ⟨k,rfl,h⟩:=h
  split at h
  ·rename_i kv hk
   obtain ⟨p,ep,kvs,rfl,ea,ra⟩:=cx.dit
   obtain ⟨b,ys,rfl,eb,rb⟩:=cy.tup
   obtain rfl:=rb.keys
   obtain ⟨z,hz,rz⟩:=ra.val.1 kv hk
   exact .inr ⟨p,z,rfl,by rw [<- hz]; exact DGet.t ea eb,h _ H (Same.refl _) rz⟩
  ·exact h.elim
 ·exact h.elim
abbrev TOp:=List Sl -> (Option Int -> Prop) -> Prop
structure QO (X:Cx) (e:Option Expr) (t:TOp):Prop where
 mono:∀ (ρ:List Sl) (Q Q':Option Int -> Prop),(∀ r,Q r -> Q' r) -> t ρ Q -> t ρ Q'
 run:∀ (HZ:Hp) (F:Addr -> Prop),PO X e (fun σ H Q => ∃ ρ,Fr X.K HZ F σ H ρ /\ t ρ fun o => ∀ H',Same H H' -> Q o H')
noncomputable def eNoPart:TOp:=fun _ Q => Q none
noncomputable def ePart (te:TEp):TOp:=fun ρ Q => te ρ fun r => match r.d with
 | .int i => Q (some i)
 | _ => False
theorem PO_imp {e:Option Expr} {t t':TO} (h:PO X e t) (w:∀ σ H Q,t' σ H Q -> t σ H Q):PO X e t':=fun pins s σ H Q I q => h pins s σ H Q I (w σ H Q q)
theorem qo_none:QO X none eNoPart:=⟨fun _ _ _ w q => w _ q,fun HZ F => PO_imp po_none fun σ H Q ⟨ρ,fr,q⟩ => q H (Same.refl _)⟩
theorem qo_some (h:QE X e te):QO X (some e) (ePart te):=by
 refine ⟨fun ρ Q Q' w q => h.mono _ _ _ (fun r q => ?_) q,fun HZ F => PO_imp (po_some (h.run HZ F)) fun σ H Q ⟨ρ,fr,q⟩ => ?_⟩
 ·split at q
  ·exact w _ q
  ·exact q
 ·refine h.step fr q fun r x H1 q S1 r1 => ?_
  split at q
  ·rename_i i e
   have c:=r1.c
   rw [e] at c
   exact ⟨i,c.int,q H1 S1⟩
  ·exact q.elim
noncomputable def cut {α:Type} (xs:List α) (lo hi:Option Int):List α:=(xs.drop (HT.sIx xs.length 0 lo)).take (HT.sIx xs.length xs.length hi - HT.sIx xs.length 0 lo)
def pSl:Dv -> Option Int -> Option Int -> (R -> Prop) -> Prop
 | .lst xs,lo,hi,Q => Q (.nw (.lst (cut xs lo hi)))
 | .scr ns,lo,hi,Q => Q (.nw (.lst ((cut ns lo hi).map .int)))
 | .tup xs,lo,hi,Q => ¬ (HT.sIx xs.length 0 lo = 0 /\ HT.sIx xs.length xs.length hi = xs.length) /\ Q (.v (.tup (cut xs lo hi)))
 | _,_,_,_ => False
def eSl (te:TEp) (tl th:TOp):TEp:=fun ρ Q => te ρ fun r => tl ρ fun lo => th ρ fun hi => pSl r.d lo hi Q
theorem pSl_mono:∀ d lo hi (Q Q':R -> Prop),(∀ r,Q r -> Q' r) -> pSl d lo hi Q -> pSl d lo hi Q':=by
 intro d lo hi Q Q' w h
 unfold pSl at *
 split at h <;> first | exact w _ h | exact ⟨h.1,w _ h.2⟩ | exact h
theorem Reps.cut {K:W.Frag} {M:Addr -> Prop} {H:Hp} {xs:List V} {ds:List Dv} (r:Reps K M H xs ds) (lo hi:Option Int):Reps K M H (cutV xs lo hi) (Z.cut ds lo hi):=by
 unfold cutV Z.cut
 rw [r.length]
 exact (r.drop _).take _
theorem q_slice {lo hi:Option Expr} {tl th:TOp} {p2:Pos} (he:QE X e te) (hl:QO X lo tl) (hh:QO X hi th):QE X (.Subscript e (.Slice lo hi none p2) pos) (eSl te tl th):=by
 refine ⟨fun ρ Q Q' w q => he.mono _ _ _ (fun r q => hl.mono _ _ _ (fun l q => hh.mono _ _ _ (fun u q => pSl_mono _ _ _ _ _ w q) q) q) q,fun HZ F => PE_imp (pe_slice (sl_list.or sl_tup) (he.run HZ F) (hl.run HZ F) (hh.run HZ F)) fun σ H Q ⟨ρ,fr,q⟩ => ?_⟩
 refine he.step fr q fun r x H1 q S1 r1 => ?_
 refine ⟨ρ,fr.mono S1,hl.mono _ _ _ (fun l q H2 S2 => ?_) q⟩
 refine ⟨ρ,(fr.mono S1).mono S2,hh.mono _ _ _ (fun u q H3 S3 => ?_) q⟩
 have S13:=(S1.trans S2).trans S3
 have c:=(r1.mono (S2.trans S3)).c
 generalize r.d = d at q c
 unfold pSl at q
 split at q
 ·obtain ⟨a,xs,rfl,ea,ra⟩:=c.lst
  exact .inl ⟨a,xs,rfl,SqL.of ea,fun p hp => q _ _ (S13.trans (Same.new' hp)) ((nw_lst hp (ra.cut _ _)).ahead S13)⟩
 ·obtain ⟨a,rfl,ea⟩:=c.scr
  refine .inl ⟨a,_,rfl,ea.sq,fun p hp => q _ _ (S13.trans (Same.new' hp)) (RRep.ahead (nw_lst hp ?_) S13)⟩
  have:∀ (ns:List Int) l u,(Z.cut ns l u).map Dv.int = Z.cut (ns.map Dv.int) l u:=fun ns l u => by
   unfold Z.cut
   simp [List.map_take,List.map_drop]
  rw [this]
  exact (Reps.ints _).cut _ _
 ·obtain ⟨a,xs,rfl,ea,ra⟩:=c.tup
  exact .inr ⟨a,xs,rfl,SqT.of ea,by rw [ra.length]; exact q.1,fun p hp => q.2 _ _ (S13.trans (Same.new' hp)) (RRep.ahead (v_tup hp (ra.cut _ _)) S13)⟩
 ·exact q.elim
end
end Z
namespace Z
open PySem PySem.Spec PyProof.Rows L2
section
variable {X:Cx} {a b c e:Expr} {ta tb tc te:TEp} {pos:Pos}
theorem q_chain {op op':CmpOp} {f f':Int -> Int -> Bool} (ho:OpR X (compareOp op) (rI0 fun i j => .bl (f i j))) (ho':OpR X (compareOp op') (rI0 fun i j => .bl (f' i j))) (ha:QE X a ta) (hb:QE X b tb) (hc:QE X c tc)
  (hm:lastMarks [op,op'] [b,c] = false:=by with_unfolding_all rfl):QE X (.Compare a [op,op'] [b,c] pos) (eChain (pI2 f) (pI2 f') ta tb tc):=by
 refine ⟨fun ρ Q Q' w q => ha.mono _ _ _ (fun rx q => hb.mono _ _ _ (fun ry q => pI2_mono _ _ _ _ (fun z q => ?_) q) q) q,fun HZ F => PE_imp (pe_chain ho ho' (ha.run HZ F) (hb.run HZ F) (hc.run HZ F) hm) fun σ H Q ⟨ρ,fr,q⟩ => ?_⟩
 ·split at q
  ·split at q
   ·rw [if_pos ‹_›]; exact hc.mono _ _ _ (fun w' q => pI2_mono _ _ _ _ w q) q
   ·rw [if_neg ‹_›]; exact w _ q
  ·exact q
 ·refine ha.step fr q fun rx x H1 q1 S1 r1 => ?_
  refine hb.step (fr.mono S1) q1 fun ry y H2 q2 S2 r2 => ?_
  have cx:=(r1.mono S2).c
  have cy:=r2.c
  generalize rx.d = dx at q2 cx
  generalize ry.d = dy at q2 cy
  unfold pI2 at q2
  split at q2
  ·rename_i Q2 i j
   obtain rfl:=cx.int
   obtain rfl:=cy.int
   refine ⟨_,_,rfl,rfl,f i j,rfl,?_⟩
   have S12:=S1.trans S2
   replace q2:=(show (if f i j = true then tc ρ (fun w => pI2 f' (.int j) w.d (fun r => ∀ x H',Same H H' -> RRep X.K (MM F ρ) (Z.Own ρ) H x r H' -> Q x H')) else (∀ x H',Same H H' -> RRep X.K (MM F ρ) (Z.Own ρ) H x (.v (.bl false)) H' -> Q x H')) from q2)
   cases h:f i j with
   | true =>
    rw [h] at q2
    simp only [if_true] at q2
    refine iteT (hc.step ((fr.mono S1).mono S2) q2 fun rw' z H3 q3 S3 r3 => ?_)
    have cz:=r3.c
    generalize rw'.d = dz at q3 cz
    cases dz with
    | int l =>
     obtain rfl:=cz.int
     exact ⟨_,_,rfl,rfl,q3 _ H3 (S12.trans S3) (Rep.bl _)⟩
    | _ => exact (show False from q3).elim
   | false =>
    rw [h] at q2
    simp only [Bool.false_eq_true,if_false] at q2
    exact iteF (q2 _ H2 S12 (Rep.bl _))
  ·exact q2.elim
noncomputable def truD:Dv -> Option Bool
 | .non => some false
 | .bl b => some b
 | .int i => some (i != 0)
 | .lst xs => some (!xs.isEmpty)
 | .tup xs => some (!xs.isEmpty)
 | .dik xs => some (!xs.isEmpty)
 | .scr xs => some (!xs.isEmpty)
 | _ => none
def eTru (te:TEp):TTp:=fun ρ Q => te ρ fun r => match truD r.d with
 | some k => Q k
 | none => False
theorem Reps.empty {K:W.Frag} {M:Addr -> Prop} {H:Hp} {xs:List V} {ds:List Dv} (r:Reps K M H xs ds):xs.isEmpty = ds.isEmpty:=by cases r <;> rfl
theorem qt_tru (h:QE X e te) (he:∀ whole,isTrue e X.env whole = (do let v <- whole; standAt e.pos; holding [v] (truthy v)):=by intro _; rfl):QT X e (eTru te):=by
 refine ⟨fun ρ Q Q' w q => h.mono _ _ _ (fun r q => ?_) q,fun HZ F => PT_imp (pt_truth (h.run HZ F) he) fun σ H Q ⟨ρ,fr,q⟩ => ?_⟩
 ·split at q
  ·exact w _ q
  ·exact q
 ·refine h.step fr q fun r x H1 q S1 r1 => ?_
  have cx:=r1.c
  generalize r.d = d at q cx
  split at q
  ·rename_i k hk
   refine ⟨k,?_,q H1 S1⟩
   cases d with
   | non => obtain rfl:=cx.non; simp only [truD,Option.some.injEq] at hk; subst hk; rfl
   | bl b => obtain rfl:=cx.bl; simp only [truD,Option.some.injEq] at hk; exact hk.symm
   | int i => obtain rfl:=cx.int; simp only [truD,Option.some.injEq] at hk; exact hk.symm
   | lst ds =>
    obtain ⟨a,xs,rfl,ea,ra⟩:=cx.lst
    simp only [truD,Option.some.injEq] at hk
    exact .inl ⟨xs,SqL.of ea,by rw [ra.empty]; exact hk.symm⟩
   | tup ds =>
    obtain ⟨a,xs,rfl,ea,ra⟩:=cx.tup
    simp only [truD,Option.some.injEq] at hk
    exact .inr (.inl ⟨xs,SqT.of ea,by rw [ra.empty]; exact hk.symm⟩)
   | dik ds =>
    obtain ⟨a,xs,rfl,ea,ra⟩:=cx.dik
    simp only [truD,Option.some.injEq] at hk
    exact .inr (.inr ⟨xs,ea,by rw [<- hk]; cases ra <;> rfl⟩)
   | scr ns =>
    obtain ⟨a,rfl,ea⟩:=cx.scr
    simp only [truD,Option.some.injEq] at hk
    exact .inl ⟨_,ea.sq,by rw [<- hk]; cases ns <;> rfl⟩
   | _ => simp [truD] at hk
  ·exact q.elim
end
abbrev Fn:=List Dv -> (R -> Prop) -> Prop
inductive low (K:W.Frag) (sp:Fn) (vs:List V) (H:Hp) (Q:VK) (E:XK):Prop
 | mk (F:Addr -> Prop) (ds:List Dv) (hF:OldF K F H) (r:Reps K F H vs ds) (q:sp ds (fun r => ∀ x H',Same H H' -> RRep K F NoOwn H x r H' -> Q x H'))
structure MonoF (sp:Fn):Prop where
 mo:∀ ds (Q Q':R -> Prop),(∀ r,Q r -> Q' r) -> sp ds Q -> sp ds Q'
structure Def (P:Program) (w:World) (K:W.Frag) (mg:Str -> Option Value) (base:Heap) (k:Nat) (x:Str) (ps:List Str) (sp:Sp):Prop where
 ex:∃ f fd,mg x = some (.ref f) /\ W.keepIn K (.ref f) = true /\ Binds K fd ps [] /\ FnOk P w K mg base CX0 k f fd ps sp
structure At (K:W.Frag) (mg:Str -> Option Value) (x nm:Str) (st:Stmt) (ps:List Str):Prop where
 ex:∃ f fd,mg x = some (.ref f) /\ Fun K nm nm st f fd /\ Binds K fd ps []
structure MDef (P:Program) (w:World) (K:W.Frag) (mg:Str -> Option Value) (base:Heap) (k:Nat) (C:Addr) (m:Str) (ps:List Str) (sp:Sp):Prop where
 ex:∃ f fd,Meth K C m f /\ Binds K fd ps [] /\ FnOk P w K mg base CX0 k f fd ps sp
structure MAt (K:W.Frag) (C:Addr) (m qual:Str) (st:Stmt) (ps:List Str):Prop where
 ex:∃ f fd,Meth K C m f /\ Fun K m qual st f fd /\ Binds K fd ps []
theorem At.ok {P:Program} {w:World} {K:W.Frag} {mg:Str -> Option Value} {base:Heap} {k:Nat} {x nm:Str} {st:Stmt} {ps N:List Str} {sp:Sp} (a:At K mg x nm st ps) (S:FnScope N ps (defScope st)) (len:∀ vs H Q E,sp vs H Q E -> vs.length = ps.length)
  (hbody:∀ (f:Addr) (cdv:Value) (A:Around) (outer:List Env) (s:Shared) (H:Hp) (vs:List V) (Q:VK) (E:XK),Room k (A.deeper (envOfC nm (defScope st) s.heap.objs.size f cdv)) -> sp vs H Q E ->
   ∃ t,PSs (cxOf CX0 P w K mg base N nm (defScope st) f cdv A outer s H E).nox (defBody st) t /\ t { nx:=fun _ H' => Q .non H',rt:=Q } (start N vs) H):Def P w K mg base (k + 1) x ps sp:=by
 obtain ⟨f,fd,hm,F,hb⟩:=a.ex
 exact ⟨f,fd,hm,F.kp,hb,F.ok S len (hbody f)⟩
theorem MAt.ok {P:Program} {w:World} {K:W.Frag} {mg:Str -> Option Value} {base:Heap} {k:Nat} {C:Addr} {m qual:Str} {st:Stmt} {ps N:List Str} {sp:Sp} (a:MAt K C m qual st ps) (S:FnScope N ps (defScope st)) (len:∀ vs H Q E,sp vs H Q E -> vs.length = ps.length)
  (hbody:∀ (f:Addr) (cdv:Value) (A:Around) (outer:List Env) (s:Shared) (H:Hp) (vs:List V) (Q:VK) (E:XK),Room k (A.deeper (envOfC qual (defScope st) s.heap.objs.size f cdv)) -> sp vs H Q E ->
   ∃ t,PSs (cxOf CX0 P w K mg base N qual (defScope st) f cdv A outer s H E).nox (defBody st) t /\ t { nx:=fun _ H' => Q .non H',rt:=Q } (start N vs) H):MDef P w K mg base (k + 1) C m ps sp:=by
 obtain ⟨f,fd,hm,F,hb⟩:=a.ex
 exact ⟨f,fd,hm,hb,F.ok S len (hbody f)⟩
noncomputable def startP (N:List Str) (ds:List Dv):List Sl:=ds.map .v ++ List.replicate (N.length - ds.length) .un
theorem start_fr {K:W.Frag} {F:Addr -> Prop} {H:Hp} {N:List Str} {vs:List V} {ds:List Dv} (hF:OldF K F H) (r:Reps K F H vs ds):Fr K H F (start N vs) H (startP N ds):=by
 have no:∀ {a:Addr} {d:Dv},Sl.own a d ∈ startP N ds -> False:=fun {a d} h => by
  rcases List.mem_append.mp h with h | h
  ·obtain ⟨z,_,e⟩:=List.mem_map.mp h
   cases e
  ·cases List.eq_of_mem_replicate h
 have wk:∀ a,MM F (startP N ds) a -> F a:=fun a h => by
  rcases h with h | ⟨d,h⟩
  ·exact h
  ·exact (no h).elim
 have hl:=r.length
 refine ⟨by simp [L2.start,startP,hl],fun i s e => ?_,fun i j a d d' e _ => (no (List.mem_of_getElem? e)).elim,fun a d h => (no h).elim,Same.refl _,hF⟩
 unfold startP at e
 by_cases hi:i < ds.length
 ·rw [List.getElem?_append_left (by simpa using hi),List.getElem?_map] at e
  cases q:ds[i]? with
  | none => rw [q] at e; cases e
  | some d =>
   rw [q] at e
   cases e
   obtain ⟨x,hx,rx⟩:=r.get q
   refine ⟨x,?_,rx.weak wk⟩
   unfold L2.start
   rw [List.getElem?_append_left (by simpa using (List.getElem?_eq_some_iff.mp hx).1),List.getElem?_map,hx]
   rfl
 ·rw [List.getElem?_append_right (by simpa using Nat.le_of_not_lt hi)] at e
  have:=List.mem_of_getElem? e
  cases List.eq_of_mem_replicate this
  trivial
theorem body_ok {X:Cx} {sts:List Stmt} {t:TSp} {N:List Str} {H:Hp} {vs:List V} {Q:VK} {E:XK} {sp:Fn} (h:QSs X sts t) (hsp:∀ ds Q,sp ds Q -> t { nx:=fun _ => Q (.v .non),rt:=Q } (startP N ds)) (q:low X.K sp vs H Q E):
  ∃ t',PSs X sts t' /\ t' { nx:=fun _ H' => Q .non H',rt:=Q } (start N vs) H:=by
 obtain ⟨F,ds,hF,r,q⟩:=q
 exact ⟨_,h.run H F,startP N ds,_,start_fr hF r,hsp ds _ q,fun ρ σ H' fr q => q .non H' fr.same Rep.non,fun _ _ _ _ z => z.elim,fun _ _ _ _ z => z.elim,fun rr x H' S rx q => q x H' S rx⟩
theorem low_len {K:W.Frag} {sp:Fn} {n:Nat} (h:∀ ds Q,sp ds Q -> ds.length = n):∀ vs H Q E,low K sp vs H Q E -> vs.length = n:=fun vs H Q E ⟨F,ds,_,r,q⟩ => by rw [r.length]; exact h _ _ q
theorem At.okP {P:Program} {w:World} {K:W.Frag} {mg:Str -> Option Value} {base:Heap} {k:Nat} {x nm:Str} {st:Stmt} {ps N:List Str} {sp:Fn} {t:TSp} (a:At K mg x nm st ps) (S:FnScope N ps (defScope st))
  (hq:∀ (f:Addr) (cdv:Value) (A:Around) (outer:List Env) (s:Shared) (H:Hp) (E:XK),Room k (A.deeper (envOfC nm (defScope st) s.heap.objs.size f cdv)) -> QSs (cxOf CX0 P w K mg base N nm (defScope st) f cdv A outer s H E).nox (defBody st) t)
  (len:∀ ds Q,sp ds Q -> ds.length = ps.length) (hsp:∀ ds Q,sp ds Q -> t { nx:=fun _ => Q (.v .non),rt:=Q } (startP N ds)):Def P w K mg base (k + 1) x ps (low K sp):=
 a.ok S (low_len len) fun f cdv A outer s H vs Q E hr q => body_ok (hq f cdv A outer s H E hr) hsp q
theorem MAt.okP {P:Program} {w:World} {K:W.Frag} {mg:Str -> Option Value} {base:Heap} {k:Nat} {C:Addr} {m qual:Str} {st:Stmt} {ps N:List Str} {sp:Fn} {t:TSp} (a:MAt K C m qual st ps) (S:FnScope N ps (defScope st))
  (hq:∀ (f:Addr) (cdv:Value) (A:Around) (outer:List Env) (s:Shared) (H:Hp) (E:XK),Room k (A.deeper (envOfC qual (defScope st) s.heap.objs.size f cdv)) -> QSs (cxOf CX0 P w K mg base N qual (defScope st) f cdv A outer s H E).nox (defBody st) t)
  (len:∀ ds Q,sp ds Q -> ds.length = ps.length) (hsp:∀ ds Q,sp ds Q -> t { nx:=fun _ => Q (.v .non),rt:=Q } (startP N ds)):MDef P w K mg base (k + 1) C m ps (low K sp):=
 a.ok S (low_len len) fun f cdv A outer s H vs Q E hr q => body_ok (hq f cdv A outer s H E hr) hsp q
noncomputable def R.flat:R -> Bool
 | .v d => flatD d
 | .nw d => flatO d
 | .ow _ _ => false
def back (rs:List R) (Q:R -> Prop):R -> Prop:=fun r => (rs.all R.free = true \/ r.flat = true) /\ Q r
def eCall (sp:Fn) (ts:TAp):TEp:=fun ρ Q => ts ρ fun rs => sp (rs.map R.d) (back rs Q)
section
variable {K:W.Frag} {HZ H H1:Hp} {F:Addr -> Prop} {σ:St} {ρ:List Sl}
def lent (M:Addr -> Prop) (rs:List R):Addr -> Prop:=fun a => M a /\ ∀ d,R.ow a d ∉ rs
theorem lent_reps (fr:Fr K HZ F σ H ρ) {all:List R}:∀ {xs:List V} {rs:List R},(∀ r ∈ rs,r ∈ all) -> Paired (fun x r => RRep K (MM F ρ) (Z.Own ρ) H x r H1) xs rs -> Reps K (lent (MM F ρ) all) H1 xs (rs.map R.d)
 | _,_,_,.nil => .nil
 | _,r :: _,hs,.cons a t => by
  refine .cons ?_ (lent_reps fr (fun r hr => hs r (by simp [hr])) t)
  have wk:∀ a,lent (MM F ρ) all a -> MM F ρ a:=fun a z => z.1
  cases r with
  | v d => exact Rep.weak wk a
  | nw d => exact (RRep.rep a (fun a m => fr.dom m) rfl).weak wk
  | ow b d =>
   obtain ⟨rfl,_,o⟩:=a
   exact (o.weak wk).rep fun z => z.2 d (hs _ (by simp))
theorem all_free {rs:List R} (h:rs.all R.free = true) (a:Addr) (d:Dv):R.ow a d ∉ rs:=fun z => by
 have:=List.all_eq_true.mp h _ z
 simp [R.free] at this
theorem lent_back {rs:List R} {x:V} {r:R} {H':Hp} {O:Addr -> Dv -> Prop} (fr:Fr K HZ F σ H ρ) (S1:Same H H1) (h:RRep K (lent (MM F ρ) rs) NoOwn H1 x r H') (f:rs.all R.free = true \/ r.flat = true):RRep K (MM F ρ) O H x r H':=by
 rcases f with f | f
 ·have wk:∀ a,MM F ρ a -> lent (MM F ρ) rs a:=fun a z => ⟨z,fun d => all_free f a d⟩
  cases r with
  | v d => exact Rep.weak wk h
  | ow a d => exact h.2.1.elim
  | nw d =>
   obtain ⟨a,e,n,o⟩:=h
   exact ⟨a,e,S1.free n,o.weak fun b z => z.elim (fun z => .inl (wk b z)) .inr⟩
 ·cases r with
  | v d => exact Rep.flat f h
  | ow a d => exact h.2.1.elim
  | nw d =>
   obtain ⟨a,e,n,o⟩:=h
   exact ⟨a,e,S1.free n,o.flat f⟩
end
section
variable {X:Cx} {k:Nat} {x:Str} {ps:List Str} {sp:Fn} {e o:Expr} {es:List Expr} {ts:TAp} {to:TEp} {p pos apos:Pos} {C:Addr} {m:Str}
theorem call_low {rs:List R} {xs:List V} {HZ H H1:Hp} {F:Addr -> Prop} {σ:St} {ρ:List Sl} {Q:VK} {E:XK} {Q':R -> Prop} (mo:MonoF sp) (fr:Fr X.K HZ F σ H ρ) (S1:Same H H1) (r1:RReps X.K (MM F ρ) (Z.Own ρ) H xs rs H1) (q:sp (rs.map R.d) (back rs Q'))
  (w:∀ r,Q' r -> ∀ x H',Same H H' -> RRep X.K (MM F ρ) (Z.Own ρ) H x r H' -> Q x H'):low X.K sp xs H1 Q E:=by
 refine ⟨lent (MM F ρ) rs,_,⟨fun a z => (fr.mono S1).dom z.1,(fr.mono S1).tab⟩,lent_reps fr (fun _ h => h) r1,mo.mo _ _ _ (fun r q x H' S rx => ?_) q⟩
 exact w r q.2 x H' (S1.trans S) (lent_back fr S1 rx q.1)
theorem back_mono {rs:List R} {Q Q':R -> Prop} (w:∀ r,Q r -> Q' r):∀ r,back rs Q r -> back rs Q' r:=fun r h => ⟨h.1,w r h.2⟩
theorem q_call (d:Def X.prog X.w X.K X.mg X.base k x ps (low X.K sp)) (mo:MonoF sp) (hr:Room k X.A) (ha:QA X (e :: es) ts) (hg:Gl X x:=by rfl)
  (hdb:(x == ("__debug__" : Str)) = false:=by decide) (he:starEach (e :: es) X.env = (false,eval e X.env) :: starEach es X.env:=by rfl) (hpl:(backTo pos (starEach es X.env)).any (·.1) = false:=by rfl):
  QE X (.Call (.Name x p) (e :: es) [] pos) (eCall sp ts):=by
 obtain ⟨f,fd,hm,hk,hb,FO⟩:=d.ex
 refine ⟨fun ρ Q Q' w q => ha.mono _ _ _ (fun rs q => mo.mo _ _ _ (back_mono w) q) q,fun HZ F => PE_imp (pe_call FO hr hg hm hk hb .nil pass0 (ha.run HZ F) hdb he hpl) fun σ H Q ⟨ρ,fr,h⟩ => ?_⟩
 refine ha.step fr h fun rs xs H1 q S1 r1 => ?_
 rw [List.append_nil]
 exact call_low mo fr S1 r1 q fun r z => z
def eMeth (C:Addr) (m:Str) (sp:Fn) (to:TEp) (ts:TAp):TEp:=fun ρ Q => to ρ fun ro => match ro.d with
 | .obj C' fs => (C' = C /\ fs.lookup m = none) /\ ts ρ fun rs => sp (ro.d :: rs.map R.d) (back (ro :: rs) Q)
 | _ => False
theorem RepF.lookup {K:W.Frag} {M:Addr -> Prop} {H:Hp} {f:Str} {xs:List (Str × V)} {ds:List (Str × Dv)} (r:RepF K M H xs ds):(ds.lookup f = none -> xs.lookup f = none) /\ ∀ d,ds.lookup f = some d -> ∃ x,xs.lookup f = some x /\ Rep K M H x d:=
 r.ind (P:=fun xs ds => (ds.lookup f = none -> xs.lookup f = none) /\ ∀ d,ds.lookup f = some d -> ∃ x,xs.lookup f = some x /\ Rep K M H x d) ⟨fun _ => rfl,fun d h => by cases h⟩ fun k x d xs ds a _ ih => by
  rw [List.lookup_cons,List.lookup_cons]
  cases h:f == k with
  | true =>
   refine ⟨fun z => ?_,fun d' z => ?_⟩
   ·cases z
   ·cases z; exact ⟨x,rfl,a⟩
  | false => exact ih
theorem q_meth (c:Cls X.K C) (d:MDef X.prog X.w X.K X.mg X.base k C m ps (low X.K sp)) (mo:MonoF sp) (hr:Room k X.A) (ho:QE X o to) (ha:QA X (e :: es) ts) {pl:Sem Bool}
  (hst:starEach (e :: es) X.env = (false,eval e X.env) :: starEach es X.env:=by rfl) (hpl:(backTo pos (starEach es X.env)).any (·.1) = false:=by rfl)
  (ht:eval (.Call (.Attribute o m apos) (e :: es) [] pos) X.env = (do
   let ov <- eval o X.env
   standAt apos.atName
   let (f,first) <- holding [ov] (getMethod ov m pl)
   callWith pos f first (backTo pos (starEach (e :: es) X.env)) (backToKw pos (keywordEach [] X.env))):=by rfl):
  QE X (.Call (.Attribute o m apos) (e :: es) [] pos) (eMeth C m sp to ts):=by
 obtain ⟨f,fd,hm,hb,FO⟩:=d.ex
 refine ⟨fun ρ Q Q' w q => ho.mono _ _ _ (fun ro q => ?_) q,fun HZ F => PE_imp (pe_meth (pl:=pl) (ho.run HZ F) c hm FO hr hb .nil pass0 (ha.run HZ F) hst hpl ht) fun σ H Q ⟨ρ,fr,h⟩ => ?_⟩
 ·split at q
  ·exact ⟨q.1,ha.mono _ _ _ (fun rs q => mo.mo _ _ _ (back_mono w) q) q.2⟩
  ·exact q
 ·refine ho.step fr h fun ro x H1 q S1 r1 => ?_
  split at q
  ·rename_i C' fs e
   obtain ⟨⟨rfl,hl⟩,q⟩:=q
   have cx:=r1.c
   rw [e] at cx
   obtain ⟨a,dx,fs',rfl,ea,ra⟩:=cx.obj
   refine ⟨a,dx,fs',rfl,ea,ra.lookup.1 hl,ha.step (fr.mono S1) q fun rs xs H2 q S2 r2 => ?_⟩
   rw [List.append_nil]
   exact call_low (rs:=ro :: rs) (xs:=.ref a :: xs) mo fr (S1.trans S2) (.cons (r1.mono S2) (r2.ahead S1)) q fun r z => z
  ·exact q.elim
theorem q_meth0 (c:Cls X.K C) (d:MDef X.prog X.w X.K X.mg X.base k C m ps (low X.K sp)) (mo:MonoF sp) (hr:Room k X.A) (ho:QE X o to) {pl:Sem Bool}
  (ht:eval (.Call (.Attribute o m apos) [] [] pos) X.env = (do
   let ov <- eval o X.env
   standAt apos.atName
   let (f,first) <- holding [ov] (getMethod ov m pl)
   callWith pos f first (backTo pos (starEach [] X.env)) (backToKw pos (keywordEach [] X.env))):=by rfl):
  QE X (.Call (.Attribute o m apos) [] [] pos) (eMeth C m sp to eNil):=by
 obtain ⟨f,fd,hm,hb,FO⟩:=d.ex
 refine ⟨fun ρ Q Q' w q => ho.mono _ _ _ (fun ro q => ?_) q,fun HZ F => PE_imp (pe_meth0 (pl:=pl) (ho.run HZ F) c hm FO hr hb .nil pass0 ht) fun σ H Q ⟨ρ,fr,h⟩ => ?_⟩
 ·split at q
  ·exact ⟨q.1,mo.mo _ _ _ (back_mono w) q.2⟩
  ·exact q
 ·refine ho.step fr h fun ro x H1 q S1 r1 => ?_
  split at q
  ·rename_i C' fs e
   obtain ⟨⟨rfl,hl⟩,q⟩:=q
   have cx:=r1.c
   rw [e] at cx
   obtain ⟨a,dx,fs',rfl,ea,ra⟩:=cx.obj
   refine ⟨a,dx,fs',rfl,ea,ra.lookup.1 hl,?_⟩
   exact call_low (rs:=[ro]) (xs:=[.ref a]) (E:=E0) mo fr S1 (.cons r1 .nil) q fun r z => z
  ·exact q.elim
def eFld (C:Addr) (f:Str) (to:TEp):TEp:=fun ρ Q => to ρ fun ro => match ro.d with
 | .obj C' fs => C' = C /\ match fs.lookup f with
  | some d => Q (.v d)
  | none => False
 | _ => False
theorem q_fld {f:Str} (c:Cls X.K C) (n:NoAttr X.K C f) (ho:QE X o to) (hb:attributeBase o f X.env (eval o X.env) = eval o X.env:=by rfl):QE X (.Attribute o f pos) (eFld C f to):=by
 refine ⟨fun ρ Q Q' w q => ho.mono _ _ _ (fun ro q => ?_) q,fun HZ F => PE_imp (pe_fld (ho.run HZ F) hb) fun σ H Q ⟨ρ,fr,h⟩ => ?_⟩
 ·split at q
  ·refine ⟨q.1,?_⟩
   have q2:=q.2
   split at q2
   ·exact w _ q2
   ·exact q2
  ·exact q
 ·refine ho.step fr h fun ro x H1 q S1 r1 => ?_
  split at q
  ·rename_i C' fs e
   obtain ⟨rfl,q⟩:=q
   have cx:=r1.c
   rw [e] at cx
   obtain ⟨a,dx,fs',rfl,ea,ra⟩:=cx.obj
   split at q
   ·rename_i d hd
    obtain ⟨z,hz,rz⟩:=ra.lookup.2 d hd
    exact ⟨a,_,dx,fs',z,rfl,ea,c,n,hz,q _ H1 S1 rz⟩
   ·exact q.elim
  ·exact q.elim
end
end Z
namespace L2
open PySem PySem.Spec PyProof.Rows
section
variable {X:Cx} {tg:Expr}
noncomputable def ItrC (lo c:Int) (n:Nat):It:=⟨fun i _ => i < n,fun i H x H' => H' = H /\ x = .int (lo + i * c),fun i _ => n <= i⟩
theorem turn_rangeC {P:Program} {w:World} {K:W.Frag} {tg:Expr} (it:Addr) (lo c:Int) (n:Nat):Turn P w K tg (ItrC lo c n) [it] it (fun i h => IsRangeIter h it (lo + (i:Nat) * c) ((n:Int) - (i:Nat)) c) where
 mem:=by simp
 obj:=fun i h st b hb => by
  have e:b = it:=by simpa using hb
  subst e
  exact ⟨_,st,fun v z => by
   have z':Data.fields _ = Data.cell v:=z
   cases z'⟩
 keep:=fun i h h' st k => k it (by simp) _ st
 item:=by
  intro X hP hw hK hc i pins s σ H E I hf st hg
  subst hP hw hK
  obtain ⟨f0,f1,f2,f3,f4,f5⟩:=hf it (by simp)
  refine item_range hg st fun v h' tk hv st' kk => ?_
  obtain ⟨t,rfl⟩:=hv
  have I1:Inv X pins σ H { s with heap:=h',toks:=tk }:=I.turned (fun b o hb e => kk b o (by simpa using hb) e) f0 f1 f3 f4 f5
  exact ⟨_,rfl,go_of (s:={ s with heap:=h',toks:=tk }) (n:="range_iterator") st' rfl rfl (by decide) ⟨.int (lo + i * c),H,I1,⟨t,rfl⟩,⟨rfl,rfl⟩,st',fun b hb => (hf b hb).1⟩⟩
 done:=by
  intro X hP hw hK hc i pins s σ H E I hf st hg
  subst hP hw hK
  obtain ⟨f0,f1,f2,f3,f4,f5⟩:=hf it (by simp)
  exact end_range I.qu st (by have:n <= i:=hg; ac_rfl) fun h' eb => ⟨rfl,I.turned (t':=s.toks) (fun b o hb e => eb b o hb e) f0 f1 f3 f4 f5⟩
 self:=fun _ _ _ _ _ st h => wpAny_pyIter_rangeiter st h
def iRng3 (ta:TA):TI:=fun σ H R => ta σ H fun vs H1 => ∃ i j c:Int,vs = [.int i,.int j,.int c] /\ c ≠ 0 /\ c.natAbs < 1000 /\ Builtin.Range.small i j c = true /\ 0 <= Builtin.Range.rangeSize i j c /\ R (ItrC i c (Builtin.Range.rangeSize i j c).toNat) H1
theorem pi_range3 {a b c:Expr} {ta:TA} {p pos:Pos} (hg:Gl X "range") (hm:X.mg "range" = none) (ha:PA X [a,b,c] ta) (hs:starEach [a,b,c] X.env = [(false,eval a X.env),(false,eval b X.env),(false,eval c X.env)]:=by rfl)
  (hs2:starEach [b,c] X.env = [(false,eval b X.env),(false,eval c X.env)]:=by rfl):PI X tg (.Call (.Name "range" p) [a,b,c] [] pos) (iRng3 ta):=by
 intro pins s σ H R I h
 refine Call_ (ld_blt I hg hm boot_range (PyProof.Rows.callWith_type1 (thn (ha pos pins s σ H _ I h) fun us s1 ⟨vs,H1,I1,r1,q1⟩ => ?_) (by rw [hs,hs2]) (by rw [hs2]; rfl)))
 obtain ⟨i,j,c,e,q0,qs,q1,q2,q⟩:=q1
 subst e
 cases r1 with
 | cons r rr =>
  cases rr with
  | cons r' rr =>
   cases rr with
   | cons r'' rr =>
    cases rr
    obtain ⟨t,rfl⟩:=r
    obtain ⟨t',rfl⟩:=r'
    obtain ⟨t'',rfl⟩:=r''
    refine call_range_3 q0 ?_ (.inl (PyProof.noPylong_small (by ac_rfl)))
    refine wpAny_pyIter_range (IsRange.new ..) q1 ?_
    have I2:Inv X pins σ H1 { s1 with heap:=s1.heap.push { cls:=.type "range",data:=.fields #[.int i t,.int j t',.int c t''] },toks:=s1.toks }:=I1.kept fun b o e => Heap.get?_push_of_some _ e
    refine ⟨_,[_],_,_,H1,rfl,I2.kept (t':=s1.toks) fun b o e => Heap.get?_push_of_some _ e,turn_rangeC _ i c (Builtin.Range.rangeSize i j c).toNat,?_,fun b hb => ?_,q⟩
    ·show IsRangeIter _ _ (i + ((0:Nat):Int) * c) ((((Builtin.Range.rangeSize i j c).toNat:Nat):Int) - ((0:Nat):Int)) c
     have e1:i + ((0:Nat):Int) * c = i:=by simp
     have e2:(((Builtin.Range.rangeSize i j c).toNat:Nat):Int) - ((0:Nat):Int) = Builtin.Range.rangeSize i j c:=by ac_rfl
     rw [e1,e2]
     exact Heap.get?_push_size _ rfl
    ·have e:b = _:=List.mem_singleton.mp hb
     subst e
     exact I2.fpOk (Nat.le_refl _) (I2.hok.fresh (Nat.le_refl _))
noncomputable def intsV (lo:Int) (n:Nat):List V:=(List.range n).map fun (k:Nat) => V.int (lo + (k:Int))
theorem call_rng1:CallR X (.type "range") (fun xs H Q => ∃ j:Int,xs = [.int j] /\ ∀ p,H p = none -> Q (.ref p) (upd H p (.rng 0 j))):=by
 intro pins s σ H xs us Q I r h
 obtain ⟨j,rfl,q⟩:=h
 obtain ⟨u,rfl,ru⟩:=vals1 r
 obtain ⟨t,rfl⟩:=ru
 exact call_range_1 ⟨.ref s.heap.objs.size,_,I.laid (o:=.rng 0 j) (fun b o e => Heap.get?_push_of_some _ e) (Nat.le_refl _) ⟨_,_,_,Heap.get?_push_size _ rfl⟩,rfl,q _ (I.hok.fresh (Nat.le_refl _))⟩
theorem call_list_rng (hc:X.calm = true):CallR X (.type "list") (fun xs H Q => ∃ p lo hi,xs = [.ref p] /\ H p = some (.rng lo hi) /\ (-(2 ^ 62) <= lo /\ lo < 2 ^ 62 /\ -(2 ^ 62) <= hi /\ hi < 2 ^ 62) /\ (hi - lo).toNat <= 1000000 /\ ∀ l,H l = none -> Q (.ref l) (upd H l (.lst (intsV lo (hi - lo).toNat)))):=by
 intro pins s σ H xs us Q I r h
 obtain ⟨p,lo,hi,rfl,hp,⟨b1,b2,b3,b4⟩,hn,q⟩:=h
 obtain ⟨u,rfl,ru⟩:=vals1 r
 cases ru
 obtain ⟨t,t2,t3,e⟩:=I.hok _ _ hp
 refine call_list_range (n:=(hi - lo).toNat) (I.ok.hd hc) e (small_one b1 b2 b3 b4) (by rw [rangeSize_one]; split <;> ac_rfl) (by ac_rfl) fun h' tk acc c' hk hS hacc => ?_
 refine ⟨.ref s.heap.objs.size,_,I.laid (o:=.lst (intsV lo (hi - lo).toNat)) hk (Nat.le_refl _) ?_,rfl,q _ (I.hok.fresh (Nat.le_refl _))⟩
 have hl:acc.size = (hi - lo).toNat:=hacc.1
 refine ⟨by simp only [intsV,List.length_map,List.length_range]; rw [sizeLine_eq]; ac_rfl,acc.toList,c',?_,by simpa using hS⟩
 have key:∀ (n:Nat) (l:List Value),l.length = n -> (∀ (i:Nat) (v:Value),l[i]? = some v -> ∃ t,v = Value.int (lo + (i:Int) * 1) t) -> Vals (intsV lo n) l:=by
  intro n
  induction n with
  | zero => intro l hl _; rw [List.length_eq_zero_iff.mp hl]; exact .nil
  | succ n ih =>
   intro l hl hi
   have hne:l ≠ []:=by intro z; rw [z] at hl; cases hl
   have e1:l = l.dropLast ++ [l.getLast hne]:=(List.dropLast_concat_getLast hne).symm
   rw [e1]
   unfold intsV
   rw [List.range_succ,List.map_append]
   have l1:l.dropLast.length = n:=by simp [hl]
   refine Vals.append (ih l.dropLast l1 fun i v hv => hi i v ?_) (.cons ?_ .nil)
   ·have hlt:i < l.dropLast.length:=(List.getElem?_eq_some_iff.mp hv).1
    rw [e1,List.getElem?_append_left hlt]
    exact hv
   ·obtain ⟨t,ht⟩:=hi n (l.getLast hne) (by simp [List.getLast_eq_getElem,hl])
    rw [ht,Int.mul_one]
    exact ⟨t,rfl⟩
 refine key _ _ (by simpa using hl) fun i v hv => ?_
 exact hacc.2 i v (by simpa using hv)
end
end L2
namespace Z
open PySem PySem.Spec PyProof.Rows L2
section
variable {X:Cx} {tg a b c e:Expr} {ta tb te:TEp} {ts:TAp} {pos p p2:Pos}
noncomputable def rangeC (lo c:Int) (n:Nat):List Dv:=(List.range n).map fun (k:Nat) => Dv.int (lo + (k:Int) * c)
def iRange3 (ts:TAp):TIp:=fun ρ Q => ts ρ fun rs => match rs.map R.d with
 | [.int i,.int j,.int c] => (c ≠ 0 /\ c.natAbs < 1000 /\ Builtin.Range.small i j c = true /\ 0 <= Builtin.Range.rangeSize i j c) /\ Q (rangeC i c (Builtin.Range.rangeSize i j c).toNat) []
 | _ => False
theorem rangeC_get {lo c:Int} {n i:Nat} {d:Dv} (h:(rangeC lo c n)[i]? = some d):i < n /\ d = .int (lo + i * c):=by
 unfold rangeC at h
 rw [List.getElem?_map] at h
 cases e:(List.range n)[i]? with
 | none => rw [e] at h; cases h
 | some k =>
  rw [e] at h
  obtain ⟨h1,h2⟩:=List.getElem?_eq_some_iff.mp e
  simp at h1 h2
  subst h2
  exact ⟨h1,(Option.some.inj h).symm⟩
theorem itok_rangeC {K:W.Frag} {P:Hp} {M:Addr -> Prop} {H1:Hp} {lo c:Int} {n:Nat}:ItOk K P M H1 (ItrC lo c n) (rangeC lo c n) []:=by
 intro i H' M' S G _
 refine ⟨fun d e => ?_,fun h => (show n <= i by simpa [rangeC] using h)⟩
 obtain ⟨h1,h2⟩:=rangeC_get e
 subst h2
 refine ⟨h1,fun y H'' ⟨e1,e2⟩ => ?_⟩
 subst e1 e2
 exact ⟨Same.refl _,.int _⟩
theorem creps3 {K:W.Frag} {M:Addr -> Prop} {H:Hp} {xs:List V} {d d' d'':Dv} (h:CReps K M H xs [d,d',d'']):∃ x y z,xs = [x,y,z] /\ CRep K M H x d /\ CRep K M H y d' /\ CRep K M H z d'':=by
 cases h with
 | cons a t =>
  obtain ⟨y,z,rfl,b,c⟩:=creps2 t
  exact ⟨_,_,_,rfl,a,b,c⟩
theorem q_iRange3 (hg:Gl X "range") (hm:X.mg "range" = none) (ha:QA X [a,b,c] ts) (hs:starEach [a,b,c] X.env = [(false,eval a X.env),(false,eval b X.env),(false,eval c X.env)]:=by rfl)
  (hs2:starEach [b,c] X.env = [(false,eval b X.env),(false,eval c X.env)]:=by rfl):QI X tg (.Call (.Name "range" p) [a,b,c] [] pos) (iRange3 ts):=by
 refine ⟨fun ρ Q Q' w q => ha.mono _ _ _ (fun r q => ?_) q,fun HZ F => ⟨_,pi_range3 hg hm (ha.run HZ F) hs hs2,fun σ H ρ R fr q => ?_⟩⟩
 ·split at q
  ·exact ⟨q.1,w _ _ q.2⟩
  ·exact q
 ·refine ha.step fr q fun rs xs H1 q S1 r1 => ?_
  split at q
  ·rename_i i j c e
   have cc:=r1.c
   rw [e] at cc
   obtain ⟨x,y,z,rfl,cx,cy,cz⟩:=creps3 cc
   obtain rfl:=cx.int
   obtain rfl:=cy.int
   obtain rfl:=cz.int
   exact ⟨i,j,c,rfl,q.1.1,q.1.2.1,q.1.2.2.1,q.1.2.2.2,q.2 _ H1 S1 (by intro p hp; simp at hp) itok_rangeC⟩
  ·exact q.elim
def eLR1 (ts:TAp):TEp:=fun ρ Q => ts ρ fun rs => match rs.map R.d with
 | [.int j] => (-(2 ^ 62) <= j /\ j < 2 ^ 62 /\ j.toNat <= 1000000) /\ Q (.nw (.lst (rangeD 0 j.toNat)))
 | _ => False
def eLR2 (ts:TAp):TEp:=fun ρ Q => ts ρ fun rs => match rs.map R.d with
 | [.int i,.int j] => ((-(2 ^ 62) <= i /\ i < 2 ^ 62 /\ -(2 ^ 62) <= j /\ j < 2 ^ 62) /\ (j - i).toNat <= 1000000) /\ Q (.nw (.lst (rangeD i (j - i).toNat)))
 | _ => False
theorem reps_range {K:W.Frag} {M:Addr -> Prop} {H:Hp} (lo:Int) (n:Nat):Reps K M H (intsV lo n) (rangeD lo n):=by
 unfold intsV rangeD
 induction (List.range n) with
 | nil => exact .nil
 | cons k r ih => exact .cons (.int _) ih
theorem q_listRange1 {pos2:Pos} (hc:X.calm = true) (hg:Gl X "list") (hm:X.mg "list" = none) (hg2:Gl X "range") (hm2:X.mg "range" = none) (ha:QA X [a] ts)
  (h1:starEach [.Call (.Name "range" p2) [a] [] pos2] X.env = (false,eval (.Call (.Name "range" p2) [a] [] pos2) X.env) :: starEach [] X.env:=by rfl) (h2:(backTo pos (starEach [] X.env)).any (·.1) = false:=by rfl)
  (h3:starEach [a] X.env = (false,eval a X.env) :: starEach [] X.env:=by rfl) (h4:(backTo pos2 (starEach [] X.env)).any (·.1) = false:=by rfl):
  QE X (.Call (.Name "list" p) [.Call (.Name "range" p2) [a] [] pos2] [] pos) (eLR1 ts):=by
 refine ⟨fun ρ Q Q' w q => ha.mono _ _ _ (fun r q => ?_) q,fun HZ F => PE_imp (pe_callTy (call_list_rng hc) hg hm boot_list (pa_cons (pe_callTy call_rng1 hg2 hm2 boot_range (ha.run HZ F) (by decide) (by decide) h3 h4) pa_nil h1) (by decide) (by decide) h1 h2) fun σ H Q ⟨ρ,fr,q⟩ => ?_⟩
 ·split at q
  ·exact ⟨q.1,w _ q.2⟩
  ·exact q
 ·refine ha.step fr q fun rs xs H1 q S1 r1 => ?_
  split at q
  ·rename_i j e
   have cc:=r1.c
   rw [e] at cc
   obtain ⟨x,rfl,cx⟩:=creps1 cc
   obtain rfl:=cx.int
   obtain ⟨⟨b1,b2,b3⟩,q⟩:=q
   refine ⟨j,rfl,fun r hr => ⟨r,0,j,rfl,upd_same,⟨by ac_rfl,by ac_rfl,b1,b2⟩,by rw [Int.sub_zero]; exact b3,fun l hl => ?_⟩⟩
   have S2:Same H (upd (upd H1 r (.rng 0 j)) l (.lst (intsV 0 (j - 0).toNat))):=(S1.trans (Same.new' hr)).trans (Same.new' hl)
   rw [Int.sub_zero] at S2 ⊢
   exact q _ _ S2 (RRep.ahead (nw_lst hl (reps_range 0 _)) (S1.trans (Same.new' hr)))
  ·exact q.elim
noncomputable def enumD (ds:List Dv):List Dv:=(ds.zipIdx).map fun q => .tup [.int (q.2:Int),q.1]
theorem enumD_get {ds:List Dv} {i:Nat} {d:Dv} (h:(enumD ds)[i]? = some d):∃ d0,ds[i]? = some d0 /\ d = .tup [.int i,d0]:=by
 unfold enumD at h
 rw [List.getElem?_map,List.getElem?_zipIdx] at h
 cases e:ds[i]? with
 | none => rw [e] at h; cases h
 | some d0 =>
  rw [e] at h
  refine ⟨d0,rfl,?_⟩
  simp at h
  exact h.symm
def iEnumP (ts:TAp):TIp:=fun ρ Q => ts ρ fun rs => match rs with
 | [.v (.lst ds)] => Q (enumD ds) []
 | [.nw (.lst ds)] => Q (enumD ds) []
 | [.ow a (.lst ds)] => Q (enumD ds) [(a,ds)]
 | _ => False
structure Walked (K:W.Frag) (P:Hp) (M:Addr -> Prop) (H1:Hp) (a:Addr) (ds:List Dv) (ogs:List (Addr × List Dv)):Prop where
 at_:∀ (H':Hp) (M':Addr -> Prop),Same P H' -> Gen K M M' H1 H' -> (∀ p ∈ ogs,OwnAt K M' H' p.1 (.lst p.2)) -> ∃ xs,H' a = some (.lst xs) /\ Reps K M' H' xs ds
noncomputable def ogsOf:R -> List (Addr × List Dv)
 | .ow a (.lst ds) => [(a,ds)]
 | _ => []
theorem walked {K:W.Frag} {HZ H H1:Hp} {F:Addr -> Prop} {σ:St} {ρ:List Sl} {x:V} {r:R} {ds:List Dv} (fr:Fr K HZ F σ H ρ) (S1:Same H H1) (r1:RRep K (MM F ρ) (Z.Own ρ) H x r H1) (hd:r.d = .lst ds):
  ∃ a xs,x = .ref a /\ H1 a = some (.lst xs) /\ guard (ogsOf r) ρ /\ Walked K (prot H1 ρ) (MM F ρ) H1 a ds (ogsOf r):=by
 cases r with
 | v d =>
  have e:d = .lst ds:=hd
  subst e
  cases r1 with
  | lst e m rs =>
   refine ⟨_,_,rfl,e,by intro p hp; simp [ogsOf] at hp,⟨fun H' M' S G _ => ⟨_,S _ _ (by rw [prot_free fun c => m (.inr c)]; exact e),rs.gen G⟩⟩⟩
 | nw d =>
  have e:d = .lst ds:=hd
  subst e
  obtain ⟨a,rfl,n,xs,e,rs⟩:=r1
  exact ⟨_,_,rfl,e,by intro p hp; simp [ogsOf] at hp,⟨fun H' M' S G _ => ⟨_,S _ _ (by rw [prot_free fun c => fr.fresh n (.inr c)]; exact e),(rs.weak fun b z => .inl z).gen G⟩⟩⟩
 | ow a d =>
  have e:d = .lst ds:=hd
  subst e
  obtain ⟨rfl,m,xs,e,rs⟩:=r1
  refine ⟨_,_,rfl,e,by intro p hp; simp [ogsOf] at hp; subst hp; exact m,⟨fun H' M' S G ow => ?_⟩⟩
  exact ow (a,ds) (by simp [ogsOf])
theorem itok_enum {K:W.Frag} {P:Hp} {M:Addr -> Prop} {H1:Hp} {a:Addr} {ds:List Dv} {ogs:List (Addr × List Dv)} (w:Walked K P M H1 a ds ogs):ItOk K P M H1 (ItE K a) (enumD ds) ogs:=by
 intro i H' M' S G ow
 obtain ⟨xs,h',r⟩:=w.at_ H' M' S G ow
 refine ⟨fun d e => ?_,fun h => ⟨xs,SqL.of h',by rw [r.length]; simpa [enumD] using h⟩⟩
 obtain ⟨d0,e0,rfl⟩:=enumD_get e
 obtain ⟨x,hx,rx⟩:=r.get e0
 refine ⟨⟨xs,x,SqL.of h',hx⟩,fun y H'' ⟨T,z,hT,e1,e2,hz⟩ => ?_⟩
 subst e1 e2
 have:=hz xs (SqL.of h')
 rw [hx] at this
 cases this
 exact ⟨Same.new' hT,.tup upd_same (.cons (.int _) (.cons (rx.mono (Same.new' hT)) .nil))⟩
theorem q_iEnum {elts:List Expr} {x1:Nat} {tp:Pos} (hg:Gl X "enumerate") (hm:X.mg "enumerate" = none) (ha:QA X [a] ts) (hs:starEach [a] X.env = [(false,eval a X.env)]:=by rfl):QI X (.Tuple elts x1 tp) (.Call (.Name "enumerate" p) [a] [] pos) (iEnumP ts):=by
 refine ⟨fun ρ Q Q' w q => ha.mono _ _ _ (fun r q => ?_) q,fun HZ F => ⟨_,pi_enum hg hm (ha.run HZ F) hs,fun σ H ρ R fr q => ?_⟩⟩
 ·split at q <;> first | exact w _ _ q | exact q
 ·refine ha.step fr q fun rs xs H1 q S1 r1 => ?_
  have one:∀ {r:Z.R} {ds:List Dv},rs = [r] -> r.d = .lst ds -> (∀ J H1',Same H H1' -> guard (ogsOf r) ρ -> ItOk X.K (prot H1' ρ) (MM F ρ) H1' J (enumD ds) (ogsOf r) -> R J H1') -> ∃ a,xs = [V.ref a] /\ (∃ xs,SqL X.K H1 a xs) /\ R (ItE X.K a) H1:=by
   intro r ds e hd k
   subst e
   cases r1 with
   | cons a1 t1 =>
    cases t1
    obtain ⟨a,ys,rfl,ea,gd,wk⟩:=walked fr S1 a1 hd
    exact ⟨a,rfl,⟨ys,SqL.of ea⟩,k _ H1 S1 gd (itok_enum wk)⟩
  split at q
  ·exact one rfl rfl q
  ·exact one rfl rfl q
  ·exact one rfl rfl q
  ·exact q.elim
noncomputable def zipD (xs ys:List Dv):List Dv:=List.zipWith (fun x y => .tup [x,y]) xs ys
def iZipP (ts:TAp):TIp:=fun ρ Q => ts ρ fun rs => match rs with
 | [r,r'] => match r.d,r'.d with
  | .lst xs,.lst ys => Q (zipD xs ys) (ogsOf r ++ ogsOf r')
  | _,_ => False
 | _ => False
theorem itok_zip {K:W.Frag} {P:Hp} {M:Addr -> Prop} {H1:Hp} {a b:Addr} {ds es:List Dv} {o1 o2:List (Addr × List Dv)} (w1:Walked K P M H1 a ds o1) (w2:Walked K P M H1 b es o2):ItOk K P M H1 (ItZ a b) (zipD ds es) (o1 ++ o2):=by
 intro i H' M' S G ow
 obtain ⟨xs,h1,r1⟩:=w1.at_ H' M' S G fun p hp => ow p (List.mem_append_left _ hp)
 obtain ⟨ys,h2,r2⟩:=w2.at_ H' M' S G fun p hp => ow p (List.mem_append_right _ hp)
 refine ⟨fun d e => ?_,fun h => ⟨xs,ys,h1,h2,?_⟩⟩
 ·unfold zipD at e
  rw [List.getElem?_zipWith] at e
  cases e1:ds[i]? with
  | none => rw [e1] at e; cases e
  | some d1 =>
   cases e2:es[i]? with
   | none => rw [e1,e2] at e; cases e
   | some d2 =>
    rw [e1,e2] at e
    cases e
    obtain ⟨x,hx,rx⟩:=r1.get e1
    obtain ⟨y,hy,ry⟩:=r2.get e2
    refine ⟨⟨xs,ys,x,y,h1,h2,hx,hy⟩,fun z H'' ⟨T,z1,z2,hT,e3,e4,k1,k2⟩ => ?_⟩
    subst e3 e4
    have q1:=k1 xs h1
    have q2:=k2 ys h2
    rw [hx] at q1
    rw [hy] at q2
    cases q1
    cases q2
    exact ⟨Same.new' hT,.tup upd_same (.cons (rx.mono (Same.new' hT)) (.cons (ry.mono (Same.new' hT)) .nil))⟩
 ·rw [r1.length,r2.length]
  simp only [zipD,List.length_zipWith] at h
  ac_rfl
theorem q_iZip {elts:List Expr} {x1:Nat} {tp:Pos} (hg:Gl X "zip") (hm:X.mg "zip" = none) (ha:QA X [a,b] ts) (hs:starEach [a,b] X.env = [(false,eval a X.env),(false,eval b X.env)]:=by rfl) (hs2:starEach [b] X.env = [(false,eval b X.env)]:=by rfl):
  QI X (.Tuple elts x1 tp) (.Call (.Name "zip" p) [a,b] [] pos) (iZipP ts):=by
 refine ⟨fun ρ Q Q' w q => ha.mono _ _ _ (fun r q => ?_) q,fun HZ F => ⟨_,pi_zip hg hm (ha.run HZ F) hs hs2,fun σ H ρ R fr q => ?_⟩⟩
 ·split at q
  ·split at q
   ·exact w _ _ q
   ·exact q
  ·exact q
 ·refine ha.step fr q fun rs xs H1 q S1 r1 => ?_
  split at q
  ·rename_i r r'
   split at q
   ·rename_i ds es h1 h2
    cases r1 with
    | cons a1 t1 =>
     cases t1 with
     | cons a2 t2 =>
      cases t2
      obtain ⟨a,ys,rfl,ea,gd,wk⟩:=walked fr S1 a1 h1
      obtain ⟨b,zs,rfl,eb,gd2,wk2⟩:=walked fr S1 a2 h2
      refine ⟨a,b,rfl,⟨ys,ea⟩,⟨zs,eb⟩,q _ H1 S1 (fun p hp => ?_) (itok_zip wk wk2)⟩
      rcases List.mem_append.mp hp with h | h
      ·exact gd p h
      ·exact gd2 p h
   ·exact q.elim
  ·exact q.elim
end
end Z
namespace Z
open PySem PySem.Spec PyProof.Rows L2
noncomputable def closGo (env:Env):List (Str × NameKind) -> List (Str × Addr) -> List (Str × Addr)
 | [],acc => acc
 | (n,k) :: r,acc => if (k == .free) = true then (match env.cells.lookup n with | some c => closGo env r ((n,c) :: acc) | none => closGo env r acc) else closGo env r acc
theorem closureFor_eq {scope:Scope} {env:Env} (h:(scope.names.all fun y => !(y.2 == .free) || (env.cells.lookup y.1).isSome) = true):closureFor scope env = pure (closGo env scope.names []):=by
 unfold closureFor
 have key:∀ (l:List (Str × NameKind)) (acc:List (Str × Addr)),(l.all fun y => !(y.2 == .free) || (env.cells.lookup y.1).isSome) = true ->
   (forIn (m:=Sem) l acc fun x r => (match x with | (name,kind) => if (kind == NameKind.free) = true then (do let c <- cellOf env name; pure (ForInStep.yield ((name,c) :: r))) else pure (ForInStep.yield r))) = pure (closGo env l acc):=by
  intro l
  induction l with
  | nil => intro acc _; rfl
  | cons y r ih =>
   intro acc hl
   obtain ⟨n,k⟩:=y
   rw [List.all_cons,Bool.and_eq_true] at hl
   rw [List.forIn_cons]
   unfold closGo
   by_cases hk:(k == NameKind.free) = true
   ·rw [if_pos hk]
    have h1:(env.cells.lookup n).isSome = true:=by
     have:=hl.1
     simpa [hk] using this
    obtain ⟨c,hc⟩:=Option.isSome_iff_exists.mp h1
    have e:cellOf env n = pure c:=by unfold cellOf; rw [hc]
    simp only [hk,if_true,e,hc]
    exact ih _ hl.2
   ·rw [if_neg hk]
    simp only [hk]
    exact ih _ hl.2
 dsimp only
 have h2:=key scope.names [] h
 refine Eq.trans (congrArg (fun t:Sem (List (Str × Addr)) => t >>= fun r => pure r) h2) ?_
 rfl
theorem closGo_ok {env:Env}:∀ (l:List (Str × NameKind)) (acc:List (Str × Addr)),(∀ q ∈ acc,env.cells.lookup q.1 = some q.2) -> ∀ q ∈ closGo env l acc,env.cells.lookup q.1 = some q.2
 | [],acc,h,q,hq => h q hq
 | (n,k) :: r,acc,h,q,hq => by
  unfold closGo at hq
  split at hq
  ·split at hq
   ·rename_i c hc
    refine closGo_ok r _ (fun q' hq' => ?_) q hq
    rcases List.mem_cons.mp hq' with e | e
    ·rw [e]; exact hc
    ·exact h q' e
   ·exact closGo_ok r acc h q hq
  ·exact closGo_ok r acc h q hq
theorem closGo_acc {env:Env}:∀ (l:List (Str × NameKind)) (acc:List (Str × Addr)),∀ q ∈ acc,q ∈ closGo env l acc
 | [],acc,q,hq => hq
 | (n,k) :: r,acc,q,hq => by
  unfold closGo
  split
  ·split
   ·exact closGo_acc r _ q (List.mem_cons_of_mem _ hq)
   ·exact closGo_acc r acc q hq
  ·exact closGo_acc r acc q hq
theorem closGo_has {env:Env} {x:Str}:∀ (l:List (Str × NameKind)) (acc:List (Str × Addr)),(l.all fun y => !(y.2 == .free) || (env.cells.lookup y.1).isSome) = true -> (x,NameKind.free) ∈ l -> ∃ c,(x,c) ∈ closGo env l acc
 | [],_,_,h => by simp at h
 | (n,k) :: r,acc,hl,h => by
  rw [List.all_cons,Bool.and_eq_true] at hl
  unfold closGo
  rcases List.mem_cons.mp h with e | e
  ·cases e
   rw [if_pos (by rfl)]
   have h1:(env.cells.lookup x).isSome = true:=by simpa using hl.1
   obtain ⟨c,hc⟩:=Option.isSome_iff_exists.mp h1
   rw [hc]
   exact ⟨c,closGo_acc r _ _ (by simp)⟩
  ·split
   ·split
    ·exact closGo_has r _ hl.2 e
    ·exact closGo_has r _ hl.2 e
   ·exact closGo_has r _ hl.2 e
theorem lookup_of_mem {α:Type} {x:Str} {c:α}:∀ {l:List (Str × α)},(x,c) ∈ l -> ∃ c',l.lookup x = some c'
 | (n,d) :: r,h => by
  rw [List.lookup_cons]
  cases e:x == n with
  | true => exact ⟨d,rfl⟩
  | false =>
   rcases List.mem_cons.mp h with z | z
   ·cases z
    simp at e
   ·exact lookup_of_mem z
theorem relabel_free {scope:Scope} {env:Env} {x:Str} (hcell:∀ y ∈ scope.names,y.2 ≠ .cell) (h:(relabel scope env).names.lookup x = some .cell \/ (relabel scope env).names.lookup x = some .free):(x,NameKind.free) ∈ scope.names:=by
 have:(x,NameKind.cell) ∈ (relabel scope env).names \/ (x,NameKind.free) ∈ (relabel scope env).names:=h.imp PySem.mem_of_lookup PySem.mem_of_lookup
 rcases this with h | h
 ·obtain ⟨⟨n,k⟩,hm,e⟩:=List.mem_map.mp h
  dsimp only at e
  split at e
  ·rename_i hc
   rw [Bool.and_eq_true,Bool.and_eq_true,beq_iff_eq] at hc
   cases e
   rw [hc.1.1] at hm
   exact hm
  ·cases e
   exact absurd rfl (hcell _ hm)
 ·obtain ⟨⟨n,k⟩,hm,e⟩:=List.mem_map.mp h
  dsimp only at e
  split at e
  ·cases e
  ·cases e
   exact hm
section
variable {X:Cx} {pos:Pos}
theorem q_lc {elt iter tgt:Expr} {ifs:List Expr} {scope:Scope} (tgs ns:List Str) (js:List Nat) {k:Nat} {ti:TIp} {g:TGp} {tt:TTp} {te:TEp} (hc:X.N = X.N) (hi:QI X tgt iter ti)
  (hg:∀ (fp:List Addr) (s:Shared) (H:Hp),QG (cxG X scope (closGo X.env scope.names []) fp (tgs ++ ns) s H) tgt k g) (ht:∀ (fp:List Addr) (s:Shared) (H:Hp),QTs (cxG X scope (closGo X.env scope.names []) fp (tgs ++ ns) s H) ifs tt)
  (he:∀ (fp:List Addr) (s:Shared) (H:Hp),QE (cxG X scope (closGo X.env scope.names []) fp (tgs ++ ns) s H) elt te) (hk:tgs.length = k:=by rfl)
  (hall:(scope.names.all fun y => !(y.2 == .free) || (X.env.cells.lookup y.1).isSome) = true:=by rfl) (hjs:js.map (fun j => X.N[j]?) = ns.map some:=by rfl)
  (hin:(ns.all fun y => (relabel scope X.env).names.lookup y == some .cell || (relabel scope X.env).names.lookup y == some .free) = true:=by rfl) (hout:(ns.all fun y => X.env.kindOf y == some .cell || X.env.kindOf y == some .free) = true:=by rfl)
  (nd:js.Nodup:=by decide) (hcell:∀ y ∈ scope.names,y.2 ≠ .cell:=by decide +kernel) (hkind:scope.kind = .function:=by rfl)
  (hnames:∀ y ∈ scope.names,y.2 = .local -> scope.names.lookup y.1 = some .local:=by decide +kernel) (hs:∀ z,foldedSetIterable iter X.env z = pure z:=by intro _; rfl):
  QE X (.ListComp elt [⟨tgt,iter,ifs,0⟩] scope pos) (eComp k js ti g tt te):=by
 refine q_comp hc hk hi hg ht he (closureFor_eq hall) (fun x c e => closGo_ok scope.names [] (by simp) (x,c) (PySem.mem_of_lookup e)) (fun x h => ?_) hjs (fun y hy => ?_) (fun y hy => ?_) nd hcell hkind hnames hs
 ·obtain ⟨c,hc⟩:=closGo_has scope.names [] hall (relabel_free hcell h)
  exact lookup_of_mem hc
 ·have:=List.all_eq_true.mp hin y hy
  simpa using this
 ·have:=List.all_eq_true.mp hout y hy
  simpa using this
end
open Classical in
noncomputable def eqOf (h:Heap) (db:PyData) (u:Value):Bool:=if q:∃ d as,Reads h u d as then PyData.eqv (choose q) db else false
section
variable {X:Cx} {M:Addr -> Prop} {pins:List (Addr × Obj)} {σ:St} {H:Hp} {s:Shared}
theorem eqOf_eq {h:Heap} {db d:PyData} {u:Value} {as:List Addr} (ok:d.canLay0 = true) (r:Reads h u d as):eqOf h db u = PyData.eqv d db:=by
 unfold eqOf
 have q:∃ d as,Reads h u d as:=⟨d,as,r⟩
 rw [dif_pos q]
 obtain ⟨as',r'⟩:=Classical.choose_spec q
 rw [SeqAt.Reads.unique d _ u as as' ok r r']
theorem any_eqOf (I:Inv X pins σ H s) {db:PyData} {dx:Dv} (hb:db = pyD dx):∀ {xs:List V} {ds:List Dv} {us:List Value},Reps X.K M H xs ds -> okDs 8 ds = true -> Vals xs us -> us.any (eqOf s.heap db) = ds.any fun d => eqD d dx
 | _,_,_,.nil,_,r => by cases r; rfl
 | _,_,_,.cons a q,ok,r => by
  have ok':(okD 8 _ && okDs 8 _) = true:=ok
  rw [Bool.and_eq_true] at ok'
  cases r with
  | cons r1 r2 =>
   obtain ⟨as,ra⟩:=Rep.reads I a ok'.1 r1
   rw [List.any_cons,List.any_cons,any_eqOf I hb q ok'.2 r2,eqOf_eq (okD_lay 8 _ ok'.1).1 ra,hb]
   rfl
theorem mem_eqOf (I:Inv X pins σ H s) {A:Around} {v:Value} {dx:Dv} {bs:List Addr} (rb:Reads s.heap v (pyD dx) bs) (ob:okD 8 dx = true) (hu:A.units + 64 < cLine):∀ {xs:List V} {ds:List Dv} {us:List Value},Reps X.K M H xs ds -> okDs 8 ds = true -> Vals xs us -> ∀ u ∈ us,SeqAt.EqAt A s u v (eqOf s.heap (pyD dx) u)
 | _,_,_,.nil,_,r,u,hm => by cases r; simp at hm
 | _,_,_,.cons a q,ok,r,u,hm => by
  have ok':(okD 8 _ && okDs 8 _) = true:=ok
  rw [Bool.and_eq_true] at ok'
  cases r with
  | cons r1 r2 =>
   rcases List.mem_cons.mp hm with e | hm
   ·subst e
    obtain ⟨as,ra⟩:=Rep.reads I a ok'.1 r1
    obtain ⟨l1,l2⟩:=okD_lay 8 _ ok'.1
    obtain ⟨m1,m2⟩:=okD_lay 8 _ ob
    rw [eqOf_eq l1 ra]
    exact SeqAt.eqAt_reads _ _ A s u v as bs ra rb l1 m1 (by ac_rfl)
   ·exact mem_eqOf I rb ob hu q ok'.2 r2 u hm
end
def rInZ (K:W.Frag) (neg:Bool):R2:=fun x y H Q => ∃ M dx ds p xs,CRep K M H x dx /\ y = .ref p /\ (SqL K H p xs \/ SqT K H p xs) /\ Reps K M H xs ds /\ okD 8 dx = true /\ okDs 8 ds = true /\
 Q (.bl (if neg then !(ds.any fun d => eqD d dx) else ds.any fun d => eqD d dx)) H
section
variable {X:Cx}
theorem in1_units {A:Around} (h:A.units + 65 < cLine):A.in1.units + 64 < cLine:=by
 have:A.in1.units <= A.units + 1:=by unfold Around.in1; simp [Around.units]
 ac_rfl
theorem op_inZ (hu:X.A.units + 65 < cLine):OpR X (compareOp .In) (rInZ X.K false):=by
 intro pins s σ H x y v u Q I rx ry h
 obtain ⟨M,dx,ds,p,xs,cx,rfl,hq,rs,o1,o2,q⟩:=h
 cases ry
 obtain ⟨bs,rb⟩:=cx.reads I o1 rx
 rcases hq with hq | hq
 ·obtain ⟨its,r,pl,hz⟩:=I.list hq
  refine SeqAt.in_listAt (eqOf s.heap (pyD dx)) pl.isList (fun w hw => mem_eqOf I rb o1 (in1_units hu) rs o2 r w (by simpa using hw)) ⟨.bl _,H,I,rfl,?_⟩
  rw [show its.toArray.any (eqOf s.heap (pyD dx)) = its.any (eqOf s.heap (pyD dx)) by simp,any_eqOf I rfl rs o2 r]
  exact q
 ·obtain ⟨its,r,pl,hz⟩:=I.tuple hq
  refine SeqAt.in_tupleAt (eqOf s.heap (pyD dx)) pl (fun w hw => mem_eqOf I rb o1 (in1_units hu) rs o2 r w (by simpa using hw)) ⟨.bl _,H,I,rfl,?_⟩
  rw [show its.toArray.any (eqOf s.heap (pyD dx)) = its.any (eqOf s.heap (pyD dx)) by simp,any_eqOf I rfl rs o2 r]
  exact q
theorem op_notInZ (hu:X.A.units + 65 < cLine):OpR X (compareOp .NotIn) (rInZ X.K true):=by
 intro pins s σ H x y v u Q I rx ry h
 obtain ⟨M,dx,ds,p,xs,cx,rfl,hq,rs,o1,o2,q⟩:=h
 cases ry
 obtain ⟨bs,rb⟩:=cx.reads I o1 rx
 rcases hq with hq | hq
 ·obtain ⟨its,r,pl,hz⟩:=I.list hq
  refine SeqAt.notIn_listAt (eqOf s.heap (pyD dx)) pl.isList (fun w hw => mem_eqOf I rb o1 (in1_units hu) rs o2 r w (by simpa using hw)) ⟨.bl _,H,I,rfl,?_⟩
  rw [show its.toArray.any (eqOf s.heap (pyD dx)) = its.any (eqOf s.heap (pyD dx)) by simp,any_eqOf I rfl rs o2 r]
  exact q
 ·obtain ⟨its,r,pl,hz⟩:=I.tuple hq
  refine SeqAt.notIn_tupleAt (eqOf s.heap (pyD dx)) pl (fun w hw => mem_eqOf I rb o1 (in1_units hu) rs o2 r w (by simpa using hw)) ⟨.bl _,H,I,rfl,?_⟩
  rw [show its.toArray.any (eqOf s.heap (pyD dx)) = its.any (eqOf s.heap (pyD dx)) by simp,any_eqOf I rfl rs o2 r]
  exact q
end
end Z
namespace Z
open PySem PySem.Spec PyProof.Rows L2
theorem units65 {k:Nat} {A:Around} (r:Room k A):A.units + 65 < cLine:=by have:=r.un; ac_rfl
def pModG:Dv -> Dv -> (R -> Prop) -> Prop
 | .int i,.int j,Q => j ≠ 0 /\ Q (.v (.int (i.fmod j)))
 | _,_,_ => False
noncomputable def isB (b:Bool):Dv -> Bool
 | .bl c => c == b
 | _ => false
def pIsB:Dv -> Dv -> (R -> Prop) -> Prop
 | d,.bl b,Q => Q (.v (.bl (isB b d)))
 | _,_,_ => False
def pNotB:Dv -> Dv -> (R -> Prop) -> Prop
 | d,.bl b,Q => Q (.v (.bl (!isB b d)))
 | _,_,_ => False
section
variable {X:Cx}
def sSetI (i:Nat) (tk tv:TEp):TSp:=fun E ρ => match ρ[i]? with
 | some (.own a (.lst xs)) => tv ρ fun r => tk ρ fun k => match k.d with
  | .int n => match ixN xs.length n with
   | some j => r.free = true /\ E.nx (ρ.set i (.own a (.lst (xs.set j r.d))))
   | none => False
  | _ => False
 | _ => False
noncomputable def inD (d:Dv) (ds:List Dv):Bool:=ds.any fun e => eqD e d
def pIn:Dv -> Dv -> (R -> Prop) -> Prop
 | d,.lst ds,Q => (okD 8 d = true /\ okDs 8 ds = true) /\ Q (.v (.bl (inD d ds)))
 | d,.tup ds,Q => (okD 8 d = true /\ okDs 8 ds = true) /\ Q (.v (.bl (inD d ds)))
 | _,_,_ => False
def pNotIn:Dv -> Dv -> (R -> Prop) -> Prop
 | d,.lst ds,Q => (okD 8 d = true /\ okDs 8 ds = true) /\ Q (.v (.bl (!inD d ds)))
 | d,.tup ds,Q => (okD 8 d = true /\ okDs 8 ds = true) /\ Q (.v (.bl (!inD d ds)))
 | _,_,_ => False
theorem opd_in (hu:X.A.units + 65 < cLine) (_hu1:X.A.units + 1 < cLine):OpD X (compareOp .In) pIn:=by
 refine ⟨fun dx dy Q Q' w h => ?_,_,op_inZ hu,fun M O H x y dx dy Q cx cy h => ?_⟩
 ·unfold pIn at h
  split at h
  ·exact ⟨h.1,w _ h.2⟩
  ·exact ⟨h.1,w _ h.2⟩
  ·exact h.elim
 ·unfold pIn at h
  split at h
  ·obtain ⟨a,xs,rfl,ea,ra⟩:=cy.lst
   exact ⟨M,_,_,a,xs,cx,rfl,.inl (SqL.of ea),ra,h.1.1,h.1.2,h.2 _ H (Same.refl _) (Rep.bl _)⟩
  ·obtain ⟨a,xs,rfl,ea,ra⟩:=cy.tup
   exact ⟨M,_,_,a,xs,cx,rfl,.inr (SqT.of ea),ra,h.1.1,h.1.2,h.2 _ H (Same.refl _) (Rep.bl _)⟩
  ·exact h.elim
theorem opd_notIn (hu:X.A.units + 65 < cLine) (_hu1:X.A.units + 1 < cLine):OpD X (compareOp .NotIn) pNotIn:=by
 refine ⟨fun dx dy Q Q' w h => ?_,_,op_notInZ hu,fun M O H x y dx dy Q cx cy h => ?_⟩
 ·unfold pNotIn at h
  split at h
  ·exact ⟨h.1,w _ h.2⟩
  ·exact ⟨h.1,w _ h.2⟩
  ·exact h.elim
 ·unfold pNotIn at h
  split at h
  ·obtain ⟨a,xs,rfl,ea,ra⟩:=cy.lst
   exact ⟨M,_,_,a,xs,cx,rfl,.inl (SqL.of ea),ra,h.1.1,h.1.2,h.2 _ H (Same.refl _) (Rep.bl _)⟩
  ·obtain ⟨a,xs,rfl,ea,ra⟩:=cy.tup
   exact ⟨M,_,_,a,xs,cx,rfl,.inr (SqT.of ea),ra,h.1.1,h.1.2,h.2 _ H (Same.refl _) (Rep.bl _)⟩
  ·exact h.elim
end
end Z
namespace Z
open PySem PySem.Spec PyProof.Rows L2
structure QX (X:Cx) (st:Stmt) (i:Nat) (te:TEp):Prop where
 mono:∀ (ρ:List Sl) (Q Q':R -> Prop),(∀ r,Q r -> Q' r) -> te ρ Q -> te ρ Q'
 run:∀ (HZ:Hp) (F:Addr -> Prop),PS X st (tAsg (lift X.K HZ F te) (gName i))
section
variable {X:Cx} {pos:Pos} {st:Stmt} {te:TEp} {i:Nat}
theorem QX.step {HZ:Hp} {F:Addr -> Prop} {σ:St} {H:Hp} {ρ:List Sl} {Q:R -> Prop} {Q':VK} (h:QX X st i te) (fr:Fr X.K HZ F σ H ρ) (q:te ρ Q)
  (k:∀ r x H',Q r -> Same H H' -> RRep X.K (MM F ρ) (Own ρ) H x r H' -> Q' x H'):lift X.K HZ F te σ H Q':=⟨ρ,fr,h.mono _ _ _ (fun r qr x H' S rx => k r x H' qr S rx) q⟩
theorem q_setX (he:QX X st i te):QS X st (sSet i te):=by
 refine ⟨fun E E' ρ w h => he.mono _ _ _ (fun r q => ?_) h,fun HZ F => PS_imp (he.run HZ F) fun D σ H ⟨ρ,E,fr,h,en⟩ => ?_⟩
 ·cases r with
  | v d => exact w.nx _ q
  | nw d => exact w.nx _ q
  | ow a d => exact q
 ·refine he.step fr h fun r x H1 q S1 r1 => ?_
  cases r with
  | v d => exact en.nx _ _ _ ((fr.mono S1).setv r1) q
  | nw d => exact en.nx _ _ _ ((fr.mono S1).setv (r1.rep (fun a m => fr.dom m) rfl)) q
  | ow a d => exact q.elim
end
section
variable {X:Cx} {pos:Pos}
theorem q_compX {y:Str} {py spos:Pos} {iy:Nat} {elt iter tgt:Expr} {ifs:List Expr} {scope:Scope} {cl:List (Str × Addr)} {tgs ns:List Str} {js:List Nat} {k:Nat} {ti:TIp} {g:TGp} {tt:TTp} {te:TEp} (hN:X.N.Nodup) (hi2:X.N[iy]? = some y) (hx2:Loc X.env.scope y) (hc:X.N = X.N) (hk:tgs.length = k)
  (hi:QI X tgt iter ti) (hg:∀ (fp:List Addr) (s:Shared) (H:Hp),QG (cxG X scope cl fp (tgs ++ ns) s H) tgt k g) (ht:∀ (fp:List Addr) (s:Shared) (H:Hp),QTs (cxG X scope cl fp (tgs ++ ns) s H) ifs tt)
  (he:∀ (fp:List Addr) (s:Shared) (H:Hp),QE (cxG X scope cl fp (tgs ++ ns) s H) elt te)
  (hclos:closureFor scope X.env = pure cl) (hsub:∀ x c,cl.lookup x = some c -> X.env.cells.lookup x = some c)
  (hhas:∀ x,((relabel scope X.env).names.lookup x = some .cell \/ (relabel scope X.env).names.lookup x = some .free) -> ∃ c,cl.lookup x = some c)
  (hjs:js.map (fun j => X.N[j]?) = ns.map some) (hin:∀ y ∈ ns,(relabel scope X.env).names.lookup y = some .cell \/ (relabel scope X.env).names.lookup y = some .free)
  (hout:∀ y ∈ ns,X.env.kindOf y = some .cell \/ X.env.kindOf y = some .free) (nd:js.Nodup)
  (hcell:∀ y ∈ scope.names,y.2 ≠ .cell:=by decide +kernel) (hkind:scope.kind = .function:=by rfl)
  (hnames:∀ y ∈ scope.names,y.2 = .local -> scope.names.lookup y.1 = some .local:=by decide +kernel)
  (hs:∀ z,foldedSetIterable iter X.env z = pure z:=by intro _; rfl)
  (hsw:swapsWith (.ListComp elt [⟨tgt,iter,ifs,0⟩] scope pos) (some (.Name y py)) spos.line X.env = pure true:=by rfl) (hf:X.fn y = true \/ X.env.scope.names.lookup y = some .local:=by first | exact .inl rfl | exact .inr rfl | assumption):
  QX X (.Assign [.Name y py] (.ListComp elt [⟨tgt,iter,ifs,0⟩] scope pos) spos) iy (eComp k js ti g tt te):=by
 have mg:=(hg [] X.s₀ fun _ => none).mono
 have ag:=(hg [] X.s₀ fun _ => none).agree
 have mt:=(ht [] X.s₀ fun _ => none).mono
 have me:=(he [] X.s₀ fun _ => none).mono
 refine ⟨fun ρ Q Q' w h => hi.mono _ _ _ (fun ds ogs h => compGo_mono mg mt me ds [] Q Q' w h) h,fun HZ F => ?_⟩
 obtain ⟨wi,hwi,wiq⟩:=hi.run HZ F
 suffices key:∀ σ H Q,lift X.K HZ F (eComp k js ti g tt te) σ H Q -> tCompG wi tgs.length js (liftG X.K k g) (fun σ H Q => ∃ HZ F,liftT X.K HZ F tt σ H Q) (fun σ H Q => ∃ HZ F,lift X.K HZ F te σ H Q) σ H Q from
  PS_imp (ps_compG (tgs:=tgs) (ns:=ns) (js:=js) (g:=liftG X.K k g) (tt:=fun σ H Q => ∃ HZ F,liftT X.K HZ F tt σ H Q) (te:=fun σ H Q => ∃ HZ F,lift X.K HZ F te σ H Q) hN hi2 hx2 hc hwi (fun fp s H => (hg fp s H).pg) (fun fp s H => (ht fp s H).pt) (fun fp s H => (he fp s H).pe) hclos hsub hhas hjs hin hout hcell hkind hnames hs hsw hf) fun D σ H h => key σ H _ h
 intro σ H Q ⟨ρ,fr,h⟩
 subst hk
 refine wiq σ H ρ _ fr (hi.mono _ _ _ (fun ds ogs q J H1 S1 gd ok => ?_) h)
 intro D hD
 have fr1:=fr.mono S1
 refine ⟨fun i m acc H2 => m = ds.length - i /\ i <= ds.length /\ Same H1 H2 /\ ∃ accD,Reps X.K (fun a => MM F ρ a \/ a = D) H2 acc accD /\
  compGo (List.replicate tgs.length .un ++ pickP js ρ) g tt te (ds.drop i) accD (fun r => ∀ x H',Same H H' -> RRep X.K (MM F ρ) (Own ρ) H x r H' -> Q x H'),
  ⟨ds.length,by simp,Nat.zero_le _,Same.new' hD,[],.nil,by simpa using q⟩,?_⟩
 rintro i m acc H2 ⟨rfl,hil,S2,accD,ra,q⟩ hDl
 have G2:Gen X.K (MM F ρ) (fun a => MM F ρ a \/ a = D) H1 H2:=(Gen.fresh hD).trans (.mono S2)
 have oks:=ok i H2 (fun a => MM F ρ a \/ a = D) (fun b o e => S2 _ _ (prot_some e)) G2 fun p hp => by
  obtain ⟨_,_,_,ow⟩:=fr1.at_own (gd p hp)
  exact ow.gen G2 fun o e => S2 _ _ e
 by_cases hlt:i < ds.length
 ·have hd:ds[i]? = some ds[i]:=by simp [hlt]
  rw [List.drop_eq_getElem_cons hlt] at q
  obtain ⟨go,yld⟩:=oks.1 _ hd
  refine .inr ⟨go,fun y H3 hy old lo => ?_⟩
  obtain ⟨S3,ry⟩:=yld y H3 hy
  have hD3:=S3 _ _ hDl
  obtain ⟨P,F',fr',iff,iffF⟩:=fr1.block (js:=js) (old:=old) (S2.trans S3) hD (by rw [hD3]; simp) nd lo
  refine ⟨_,P,F',_,fr',ry.weak fun a z => (iff a).mp z,mg _ _ _ _ (fun ρ1 q1 σ1 f1 a1 => ?_) (ag _ _ _ q)⟩
  obtain ⟨q1,l1,b1⟩:=q1
  have up:∀ a,MM F ρ a \/ a = D -> MM F' ρ1 a:=fun a z => by
   rcases (iff a).mpr z with z | ⟨d,z⟩
   ·exact .inl z
   ·refine .inr ⟨d,?_⟩
    obtain ⟨j,e⟩:=List.mem_iff_getElem?.mp z
    have hj:tgs.length <= j:=by
     by_cases hj:j < tgs.length
     ·rw [List.getElem?_append_left (by simpa using hj),List.getElem?_replicate,if_pos hj] at e
      cases e
     ·ac_rfl
    rw [<- b1 j hj] at e
    exact List.mem_of_getElem? e
  have hlen:σ1.length = tgs.length + (pick js σ).length:=by
   have:=f1.len
   rw [l1] at this
   simp [pick,pickP] at this ⊢
   ac_rfl
  refine ⟨⟨σ1.take tgs.length,by rw [List.length_take]; ac_rfl,split_at lo hlen a1⟩,P,F',ρ1,f1,mt _ _ _ (fun b q5 H5 S5 => ?_) q1⟩
  have S25:=(S2.trans S3).trans S5
  cases b with
  | true =>
   simp only [if_true] at q5
   refine iteT ⟨P,F',ρ1,f1.mono S5,me _ _ _ (fun r q6 x H6 S6 rx => ?_) q5⟩
   have hD6:=S6 _ _ (S5 _ _ hD3)
   obtain ⟨⟨rf,rl⟩,q6⟩:=q6
   have rep:=(rx.rep (fun a z => (f1.mono S5).dom z) rf).weak up
   refine ⟨hD6,by rw [ra.length]; exact lim_lt rl,ds.length - (i + 1),by ac_rfl,rfl,hlt,fun b o e => ?_,_,?_,q6⟩
   ·rw [upd_ne (ne_of_none e hD)]
    exact S6 _ _ (S25 _ _ e)
   ·have G6:Gen X.K (fun a => MM F ρ a \/ a = D) (fun a => MM F ρ a \/ a = D) H6 (upd H6 D (.lst (acc ++ [x]))):=Gen.write (.inr rfl) (by rw [hD6]; trivial)
    exact ((ra.mono ((S3.trans S5).trans S6)).append (.cons rep .nil)).gen G6
  | false =>
   simp only [Bool.false_eq_true,if_false] at q5
   exact iteF ⟨S5 _ _ hD3,ds.length - (i + 1),by ac_rfl,rfl,hlt,S25,accD,ra.mono (S3.trans S5),q5⟩
 ·have e:i = ds.length:=by ac_rfl
  subst e
  rw [List.drop_length] at q
  exact .inl ⟨oks.2 (Nat.le_refl _),q (.ref D) H2 (S1.trans S2) ⟨D,rfl,S1.free hD,acc,hDl,ra⟩⟩
theorem q_lcX {y:Str} {py spos:Pos} {iy:Nat} {elt iter tgt:Expr} {ifs:List Expr} {scope:Scope} (tgs ns:List Str) (js:List Nat) {k:Nat} {ti:TIp} {g:TGp} {tt:TTp} {te:TEp} (hN:X.N.Nodup) (hi2:X.N[iy]? = some y) (hx2:Loc X.env.scope y) (hc:X.N = X.N) (hi:QI X tgt iter ti)
  (hg:∀ (fp:List Addr) (s:Shared) (H:Hp),QG (cxG X scope (closGo X.env scope.names []) fp (tgs ++ ns) s H) tgt k g) (ht:∀ (fp:List Addr) (s:Shared) (H:Hp),QTs (cxG X scope (closGo X.env scope.names []) fp (tgs ++ ns) s H) ifs tt)
  (he:∀ (fp:List Addr) (s:Shared) (H:Hp),QE (cxG X scope (closGo X.env scope.names []) fp (tgs ++ ns) s H) elt te) (hk:tgs.length = k:=by rfl)
  (hall:(scope.names.all fun y => !(y.2 == .free) || (X.env.cells.lookup y.1).isSome) = true:=by rfl) (hjs:js.map (fun j => X.N[j]?) = ns.map some:=by rfl)
  (hin:(ns.all fun y => (relabel scope X.env).names.lookup y == some .cell || (relabel scope X.env).names.lookup y == some .free) = true:=by rfl) (hout:(ns.all fun y => X.env.kindOf y == some .cell || X.env.kindOf y == some .free) = true:=by rfl)
  (nd:js.Nodup:=by decide) (hcell:∀ y ∈ scope.names,y.2 ≠ .cell:=by decide +kernel) (hkind:scope.kind = .function:=by rfl)
  (hnames:∀ y ∈ scope.names,y.2 = .local -> scope.names.lookup y.1 = some .local:=by decide +kernel) (hs:∀ z,foldedSetIterable iter X.env z = pure z:=by intro _; rfl)
  (hsw:swapsWith (.ListComp elt [⟨tgt,iter,ifs,0⟩] scope pos) (some (.Name y py)) spos.line X.env = pure true:=by rfl) (hf:X.fn y = true \/ X.env.scope.names.lookup y = some .local:=by first | exact .inl rfl | exact .inr rfl | assumption):
  QX X (.Assign [.Name y py] (.ListComp elt [⟨tgt,iter,ifs,0⟩] scope pos) spos) iy (eComp k js ti g tt te):=by
 refine q_compX hN hi2 hx2 hc hk hi hg ht he (closureFor_eq hall) (fun x c e => closGo_ok scope.names [] (by simp) (x,c) (PySem.mem_of_lookup e)) (fun x h => ?_) hjs (fun y hy => ?_) (fun y hy => ?_) nd hcell hkind hnames hs hsw hf
 ·obtain ⟨c,hc⟩:=closGo_has scope.names [] hall (relabel_free hcell h)
  exact lookup_of_mem hc
 ·have:=List.all_eq_true.mp hin y hy
  simpa using this
 ·have:=List.all_eq_true.mp hout y hy
  simpa using this
end
end Z
namespace Z
open PySem PySem.Spec PyProof.Rows L2
def pIAdd:Dv -> Dv -> (R -> Prop) -> Prop
 | .int i,.int j,Q => Q (.v (.int (i + j)))
 | .str x,.str y,Q => x.length + y.length <= LIM /\ Q (.v (.str (x ++ y)))
 | _,_,_ => False
def pISub:Dv -> Dv -> (R -> Prop) -> Prop
 | .int i,.int j,Q => Q (.v (.int (i - j)))
 | _,_,_ => False
def pIMul:Dv -> Dv -> (R -> Prop) -> Prop
 | .int i,.int j,Q => CMulG i j /\ Q (.v (.int (i * j)))
 | _,_,_ => False
section
variable {X:Cx}
def sAsg (te:TEp) (g:TGp):TSp:=fun E ρ => te ρ fun r => r.free = true /\ g r.d ρ E.nx
theorem qt_chain {a b c:Expr} {ta tb tc:TEp} {pos:Pos} {op op':CmpOp} {f f':Int -> Int -> Bool} (ho:OpR X (compareOp op) (rI0 fun i j => .bl (f i j))) (ho':OpR X (compareOp op') (rI0 fun i j => .bl (f' i j))) (ha:QE X a ta) (hb:QE X b tb) (hc:QE X c tc)
  (hm:lastMarks [op,op'] [b,c] = false:=by with_unfolding_all rfl):QT X (.Compare a [op,op'] [b,c] pos) (eTest (eChain (pI2 f) (pI2 f') ta tb tc)):=by
 have Q0:=q_chain (pos:=pos) ho ho' ha hb hc hm
 have low:∀ (HZ:Hp) (F:Addr -> Prop) (σ:St) (H:Hp) (Q:VK),lift X.K HZ F (eChain (pI2 f) (pI2 f') ta tb tc) σ H Q -> tChain (rI0 fun i j => .bl (f i j)) (rI0 fun i j => .bl (f' i j)) (lift X.K HZ F ta) (lift X.K HZ F tb) (lift X.K HZ F tc) σ H Q:=by
  rintro HZ F σ H Q ⟨ρ,fr,q⟩
  refine ha.step fr q fun rx x H1 q1 S1 r1 => ?_
  refine hb.step (fr.mono S1) q1 fun ry y H2 q2 S2 r2 => ?_
  have cx:=(r1.mono S2).c
  have cy:=r2.c
  generalize rx.d = dx at q2 cx
  generalize ry.d = dy at q2 cy
  unfold pI2 at q2
  split at q2
  ·rename_i Q2 i j
   obtain rfl:=cx.int
   obtain rfl:=cy.int
   refine ⟨_,_,rfl,rfl,f i j,rfl,?_⟩
   have S12:=S1.trans S2
   replace q2:=(show (if f i j = true then tc ρ (fun w => pI2 f' (.int j) w.d (fun r => ∀ x H',Same H H' -> RRep X.K (MM F ρ) (Z.Own ρ) H x r H' -> Q x H')) else (∀ x H',Same H H' -> RRep X.K (MM F ρ) (Z.Own ρ) H x (.v (.bl false)) H' -> Q x H')) from q2)
   cases h:f i j with
   | true =>
    rw [h] at q2
    simp only [if_true] at q2
    refine iteT (hc.step ((fr.mono S1).mono S2) q2 fun rw' z H3 q3 S3 r3 => ?_)
    have cz:=r3.c
    generalize rw'.d = dz at q3 cz
    cases dz with
    | int l =>
     obtain rfl:=cz.int
     exact ⟨_,_,rfl,rfl,q3 _ H3 (S12.trans S3) (Rep.bl _)⟩
    | _ => exact (show False from q3).elim
   | false =>
    rw [h] at q2
    simp only [Bool.false_eq_true,if_false] at q2
    exact iteF (q2 _ H2 S12 (Rep.bl _))
  ·exact q2.elim
 refine ⟨fun ρ Q Q' w q => eTest_mono Q0.mono ρ Q Q' w q,fun HZ F => PT_imp (pt_chain ho ho' (ha.run HZ F) (hb.run HZ F) (hc.run HZ F) hm) fun σ H Q ⟨ρ,fr,q⟩ => ?_⟩
 refine low HZ F σ H _ (Q0.step fr q fun r x H1 q S1 r1 => ?_)
 have cx:=r1.c
 generalize r.d = d at q cx
 split at q
 ·obtain rfl:=cx.bl
  exact ⟨_,rfl,q H1 S1⟩
 ·exact q.elim
end
end Z
namespace Z
open PySem PySem.Spec PyProof.Rows L2
section
variable {X:Cx} {e:Expr} {te:TEp} {pos:Pos}
def sExt (i:Nat) (te:TEp):TSp:=fun E ρ => match ρ[i]? with
 | some (.own a (.lst xs)) => te ρ fun r => match r.d with
  | .lst ys => xs.length + ys.length <= LIM /\ E.nx (ρ.set i (.own a (.lst (xs ++ ys))))
  | _ => False
 | _ => False
theorem q_ext {i:Nat} {x:Str} {p1 p2 p3:Pos} (hv:PE X (.Name x p1) (tVar i)) (he:QE X e te) (hs:swapsWith (.Call (.Attribute (.Name x p1) "extend" p2) [e] [] p3) none pos.line X.env = pure false:=by rfl)
  (hbase:attributeBase (.Name x p1) "extend" X.env (eval (.Name x p1) X.env) = eval (.Name x p1) X.env:=by rfl)
  (hfew:((backTo p3 (starEach [e] X.env)).all (fun x => !x.1) && (backToKw p3 (keywordEach [] X.env)).all (fun x => x.1.isSome)
   && decide ([e].length + ([]:List Keyword).length + (if ([]:List Keyword).isEmpty then 0 else 1) < 30)) = true:=by rfl)
  (hline:(p2.endLine == p3.line) = true:=by rfl) (hst:starEach [e] X.env = (false,eval e X.env) :: starEach [] X.env:=by rfl) (hplain:(backTo p3 (starEach [] X.env)).any (·.1) = false:=by rfl):
  QS X (.Expr (.Call (.Attribute (.Name x p1) "extend" p2) [e] [] p3) pos) (sExt i te):=by
 refine ⟨fun E E' ρ w h => ?_,fun HZ F => PS_imp (ps_expr (pe_bm PySem.F.plainAttrs_list PySem.F.slot_list_extend PySem.F.type_list_extend mt_extend hv (pa_cons (he.run HZ F) pa_nil hst) hbase hfew hline hst hplain) hs) fun D σ H ⟨ρ,E,fr,h,en⟩ => ?_⟩
 ·unfold sExt at *
  split at h
  ·refine he.mono _ _ _ (fun r q => ?_) h
   split at q
   ·exact ⟨q.1,w.nx _ q.2⟩
   ·exact q
  ·exact h
 ·unfold sExt at h
  split at h
  ·rename_i a xs hx
   obtain ⟨hs1,vs,hv1,rv1⟩:=fr.sl i _ hx
   refine ⟨_,hs1,.inl ⟨rfl,_,SqL.of hv1⟩,he.step fr h fun r y H1 q S1 r1 => ?_⟩
   have cy:=r1.c
   generalize r.d = d at q cy
   split at q
   ·rename_i ys
    obtain ⟨b,zs,rfl,eb,rb⟩:=cy.lst
    obtain ⟨ql,q2⟩:=q
    have hv2:=S1 _ _ hv1
    refine ⟨a,b,vs,zs,rfl,rfl,hv2,eb,lim_line (by rw [rv1.length,rb.length]; exact ql),?_⟩
    refine en.nx _ _ _ ((fr.mono S1).write (d':=.lst (xs ++ ys)) hx ⟨_,upd_same,?_⟩) q2
    have G:Gen X.K (MM F ρ) (MM F ρ) H1 (upd H1 a (.lst (vs ++ zs))):=Gen.write (.inr ⟨_,List.mem_of_getElem? hx⟩) (by rw [hv2]; trivial)
    exact ((rv1.mono S1).append rb).gen G
   ·exact q.elim
  ·exact h.elim
noncomputable def putD (f:Str) (d:Dv):List (Str × Dv) -> List (Str × Dv)
 | [] => [(f,d)]
 | (g,x) :: r => if g = f then (g,d) :: r else (g,x) :: putD f d r
theorem RepF.put {K:W.Frag} {M:Addr -> Prop} {H:Hp} {f:Str} {x:V} {d:Dv} (a:Rep K M H x d) {xs:List (Str × V)} {ds:List (Str × Dv)} (r:RepF K M H xs ds):RepF K M H (putF f x xs) (putD f d ds):=
 r.ind (P:=fun xs ds => RepF K M H (putF f x xs) (putD f d ds)) (.cons a .nil) fun k _ _ _ _ b r ih => by
  show RepF K M H (if k = f then _ else _) (if k = f then _ else _)
  split
  ·exact .cons a r
  ·exact .cons b ih
theorem RepF.length {K:W.Frag} {M:Addr -> Prop} {H:Hp} {xs:List (Str × V)} {ds:List (Str × Dv)} (r:RepF K M H xs ds):xs.length = ds.length:=r.ind (P:=fun xs ds => xs.length = ds.length) rfl fun _ _ _ _ _ _ _ ih => congrArg (· + 1) ih
def sAttr (C:Addr) (i:Nat) (f:Str) (te:TEp):TSp:=fun E ρ => match ρ[i]? with
 | some (.own a (.obj C' fs)) => te ρ fun r => (C' = C /\ r.free = true /\ fs.length < 1000) /\ E.nx (ρ.set i (.own a (.obj C' (putD f r.d fs))))
 | _ => False
theorem q_attr {C:Addr} {i:Nat} {x f:Str} {p1 p2:Pos} (c:Cls X.K C) (n:NoAttr X.K C f) (hv:PE X (.Name x p1) (tVar i)) (he:QE X e te)
  (hs:swapsWith e (some (.Attribute (.Name x p1) f p2)) pos.line X.env = pure false:=by rfl):QS X (.Assign [.Attribute (.Name x p1) f p2] e pos) (sAttr C i f te):=by
 refine ⟨fun E E' ρ w h => ?_,fun HZ F => PS_imp (ps_fld hv he.pe hs) fun D σ H ⟨ρ,E,fr,h,en⟩ => ?_⟩
 ·unfold sAttr at *
  split at h
  ·exact he.mono _ _ _ (fun r q => ⟨q.1,w.nx _ q.2⟩) h
  ·exact h
 ·unfold sAttr at h
  split at h
  ·rename_i a C' fs hx
   refine ⟨HZ,F,he.step fr h fun r y H1 q S1 r1 => ?_⟩
   obtain ⟨⟨rfl,qf,ql⟩,q2⟩:=q
   have fr1:=fr.mono S1
   obtain ⟨hs1,dx,fs1,hv1,rv1⟩:=fr1.sl i _ hx
   have rep:=r1.rep (fun a m => fr.dom m) qf
   refine ⟨_,hs1,a,C',dx,fs1,rfl,hv1,c,n,by rw [rv1.length]; exact ql,?_⟩
   refine en.nx _ _ _ (fr1.write (d':=.obj C' (putD f r.d fs)) hx ⟨dx,_,upd_same,?_⟩) q2
   have G:Gen X.K (MM F ρ) (MM F ρ) H1 (upd H1 a (.ins C' dx (putF f y fs1))):=Gen.write (.inr ⟨_,List.mem_of_getElem? hx⟩) (by rw [hv1]; trivial)
   exact (RepF.put rep rv1).gen G
  ·exact h.elim
end
def lowI (K:W.Frag) (C:Addr) (sp:Fn):Sp:=fun vs H Q _ => ∃ (x dx:Addr) (vs':List V) (H0:Hp) (F:Addr -> Prop) (ds:List Dv),vs = .ref x :: vs' /\ H = upd (upd H0 dx (.own x)) x (.ins C dx []) /\ H0 x = none /\ H0 dx = none /\ dx ≠ x /\ OldF K F H0 /\ Reps K F H0 vs' ds /\
 sp ds (fun r => ∀ H',Same H0 H' -> RRep K F NoOwn H0 (.ref x) r H' -> Q .non H')
structure IDef (P:Program) (w:World) (K:W.Frag) (mg:Str -> Option Value) (base:Heap) (k:Nat) (x:Str) (C:Addr) (ps:List Str) (sp:Fn):Prop where
 ex:∃ f fd,Mk K C f /\ mg x = some (.ref C) /\ Binds K fd ps [] /\ FnOk P w K mg base CX0 k f fd ps (lowI K C sp)
structure IAt (K:W.Frag) (mg:Str -> Option Value) (x:Str) (C:Addr) (qual:Str) (st:Stmt) (ps:List Str):Prop where
 ex:∃ f fd,Mk K C f /\ mg x = some (.ref C) /\ Fun K "__init__" qual st f fd /\ Binds K fd ps []
noncomputable def startI (C a:Addr) (N:List Str) (ds:List Dv):List Sl:=.own a (.obj C []) :: (ds.map .v ++ List.replicate (N.length - (ds.length + 1)) .un)
theorem same_two {H0:Hp} {x dx:Addr} {o o':HO} (hx:H0 x = none) (hd:H0 dx = none):Same H0 (upd (upd H0 dx o) x o'):=fun b q e => by
 rw [upd_ne (ne_of_none e hx),upd_ne (ne_of_none e hd)]
 exact e
theorem startI_fr {K:W.Frag} {C x dx:Addr} {F:Addr -> Prop} {H0:Hp} {N:List Str} {vs:List V} {ds:List Dv} (hx:H0 x = none) (hd:H0 dx = none) (hF:OldF K F H0) (r:Reps K F H0 vs ds):
  Fr K H0 F (start N (.ref x :: vs)) (upd (upd H0 dx (.own x)) x (.ins C dx [])) (startI C x N ds):=by
 have S:Same H0 (upd (upd H0 dx (.own x)) x (.ins C dx [])):=same_two hx hd
 have only:∀ {a:Addr} {d:Dv},Sl.own a d ∈ startI C x N ds -> a = x:=fun {a d} h => by
  rcases List.mem_cons.mp h with h | h
  ·cases h; rfl
  ·rcases List.mem_append.mp h with h | h
   ·obtain ⟨z,_,e⟩:=List.mem_map.mp h
    cases e
   ·cases List.eq_of_mem_replicate h
 have wk:∀ a,MM F (startI C x N ds) a -> F a \/ a = x:=fun a h => by
  rcases h with h | ⟨d,h⟩
  ·exact .inl h
  ·exact .inr (only h)
 have G:Gen K F (MM F (startI C x N ds)) H0 (upd (upd H0 dx (.own x)) x (.ins C dx [])):=((Gen.fresh hx).trans (.mono S)).trans (.weak wk)
 have hl:=r.length
 have r':=r.gen G
 have zero:∀ (i:Nat) (a:Addr) (d:Dv),(startI C x N ds)[i]? = some (.own a d) -> i = 0:=fun i a d e => by
  cases i with
  | zero => rfl
  | succ i =>
   have e':(ds.map Sl.v ++ List.replicate (N.length - (ds.length + 1)) Sl.un)[i]? = some (.own a d):=e
   have:=List.mem_of_getElem? e'
   rcases List.mem_append.mp this with h | h
   ·obtain ⟨z,_,e⟩:=List.mem_map.mp h
    cases e
   ·cases List.eq_of_mem_replicate h
 refine ⟨by simp [L2.start,startI,hl],fun i s e => ?_,fun i j a d d' e1 e2 => ?_,fun a d h => by rw [only h]; exact hx,S,hF⟩
 ·cases i with
  | zero =>
   cases e
   exact ⟨rfl,dx,[],upd_same,.nil⟩
  | succ i =>
   have e':(ds.map Sl.v ++ List.replicate (N.length - (ds.length + 1)) Sl.un)[i]? = some s:=e
   have es:(start N (.ref x :: vs))[i + 1]? = (vs.map some ++ List.replicate (N.length - (vs.length + 1)) none)[i]?:=by simp [L2.start]
   rw [es]
   by_cases hi:i < ds.length
   ·rw [List.getElem?_append_left (by simpa using hi),List.getElem?_map] at e'
    cases q:ds[i]? with
    | none => rw [q] at e'; cases e'
    | some d =>
     rw [q] at e'
     cases e'
     obtain ⟨y,hy,ry⟩:=r'.get q
     refine ⟨y,?_,ry⟩
     rw [List.getElem?_append_left (by simpa using (List.getElem?_eq_some_iff.mp hy).1),List.getElem?_map,hy]
     rfl
   ·rw [List.getElem?_append_right (by simpa using Nat.le_of_not_lt hi)] at e'
    have:=List.mem_of_getElem? e'
    cases List.eq_of_mem_replicate this
    trivial
 ·rw [zero i a d e1,zero j a d' e2]
theorem IAt.okP {P:Program} {w:World} {K:W.Frag} {mg:Str -> Option Value} {base:Heap} {k:Nat} {x qual:Str} {C:Addr} {st:Stmt} {ps N:List Str} {sp:Fn} {t:TSp} (m:IAt K mg x C qual st ps) (S:FnScope N ps (defScope st))
  (hq:∀ (f:Addr) (cdv:Value) (A:Around) (outer:List Env) (s:Shared) (H:Hp) (E:XK),Room k (A.deeper (envOfC qual (defScope st) s.heap.objs.size f cdv)) -> QSs (cxOf CX0 P w K mg base N qual (defScope st) f cdv A outer s H E).nox (defBody st) t)
  (len:∀ ds Q,sp ds Q -> ds.length + 1 = ps.length) (hsp:∀ ds Q,sp ds Q -> ∀ a,t { nx:=fun ρ => ∃ d,ρ[0]? = some (.own a d) /\ Q (.nw d),rt:=fun _ => False } (startI C a N ds)):IDef P w K mg base (k + 1) x C ps sp:=by
 obtain ⟨f,fd,M,hm,FF,hb⟩:=m.ex
 refine ⟨f,fd,M,hm,hb,FF.ok S (fun vs H Q E ⟨a,dx,vs',H0,F,ds,e,_,_,_,_,_,r,q⟩ => ?_) fun cdv A outer s H vs Q E hr q => ?_⟩
 ·rw [e,List.length_cons,r.length]
  exact len _ _ q
 ·obtain ⟨a,dx,vs',H0,F,ds,rfl,rfl,hx,hd,hn,hF,r,q⟩:=q
  refine ⟨_,(hq f cdv A outer s _ E hr).run H0 F,startI C a N ds,_,startI_fr hx hd hF r,hsp ds _ q a,?_,fun _ _ _ _ z => z.elim,fun _ _ _ _ z => z.elim,fun _ _ _ _ _ z => z.elim⟩
  rintro ρ σ H' fr ⟨d,hd',q⟩
  have mem:Sl.own a d ∈ ρ:=List.mem_of_getElem? hd'
  exact q H' fr.same ⟨a,rfl,hx,(fr.sl 0 _ hd').2.weak fun b z => z.elim .inl fun z => .inr ⟨d,by rw [z]; exact mem⟩⟩
def eMake (sp:Fn) (ts:TAp):TEp:=fun ρ Q => ts ρ fun rs => sp (rs.map R.d) (back rs Q)
section
variable {X:Cx} {k:Nat} {x:Str} {ps:List Str} {sp:Fn} {e:Expr} {es:List Expr} {ts:TAp} {p pos:Pos} {C:Addr}
theorem q_make (d:IDef X.prog X.w X.K X.mg X.base k x C ps sp) (mo:MonoF sp) (hr:Room (k + 1) X.A) (ha:QA X (e :: es) ts) (hg:Gl X x:=by rfl)
  (hdb:(x == ("__debug__" : Str)) = false:=by decide) (he:starEach (e :: es) X.env = (false,eval e X.env) :: starEach es X.env:=by rfl) (hpl:(backTo pos (starEach es X.env)).any (·.1) = false:=by rfl):
  QE X (.Call (.Name x p) (e :: es) [] pos) (eMake sp ts):=by
 obtain ⟨f,fd,M,hm,hb,FO⟩:=d.ex
 refine ⟨fun ρ Q Q' w q => ha.mono _ _ _ (fun rs q => mo.mo _ _ _ (back_mono w) q) q,fun HZ F => PE_imp (pe_make M FO hr hg hm hb .nil pass0 (ha.run HZ F) hdb he hpl) fun σ H Q ⟨ρ,fr,h⟩ => ?_⟩
 refine ha.step fr h fun rs xs H1 q S1 r1 => ?_
 intro a dx hx hd hn
 rw [List.append_nil]
 refine ⟨a,dx,xs,H1,lent (MM F ρ) rs,rs.map R.d,rfl,rfl,hx,hd,hn,⟨fun b z => (fr.mono S1).dom z.1,(fr.mono S1).tab⟩,lent_reps fr (fun _ h => h) r1,mo.mo _ _ _ (fun r q H' S rx => ?_) q⟩
 exact ⟨rfl,q.2 _ H' (S1.trans S) (lent_back fr S1 rx q.1)⟩
end
end Z
namespace Z
open PySem PySem.Spec PyProof.Rows L2
section
variable {K:W.Frag} {HZ H1 H':Hp} {F:Addr -> Prop} {σ:St} {ρ:List Sl} {a b:Addr}
end
noncomputable def startM (a:Addr) (N:List Str):List Dv -> List Sl
 | [] => []
 | d :: ds => .own a d :: (ds.map .v ++ List.replicate (N.length - (ds.length + 1)) .un)
def sMov (i:Nat) (sp:Fn) (ts:TAp):TSp:=fun E ρ => ts ρ fun rs => match rs with
 | .ow a d :: rest => ρ[i]? = some (.own a d) /\ rest.all R.free = true /\ sp (d :: rest.map R.d) (fun r => match r with | .nw d' => ∀ b,E.nx (ρ.set i (.own b d')) | _ => False)
 | _ => False
section
variable {X:Cx} {k i:Nat} {x y:Str} {ps:List Str} {sp:Fn} {e:Expr} {es:List Expr} {ts:TAp} {p pos pos2 py:Pos}
end
end Z
namespace Z
open PySem PySem.Spec PyProof.Rows L2
def pShl:Dv -> Dv -> (R -> Prop) -> Prop
 | .int i,.int j,Q => CPow i j /\ Q (.v (.int (i * 2 ^ j.toNat)))
 | _,_,_ => False
section
variable {X:Cx}
end
end Z
namespace L2
open PySem PySem.Spec PyProof.Rows AutoSeq1
section
variable {prog:Program} {w:World} {A:Around} {E:Value -> Shared -> Prop} {s:Shared} {r:Addr} {a b c:Int} {t u v:Tok} {n:Nat}
end
section
variable {prog:Program} {w:World} {A:Around} {E:Value -> Shared -> Prop} {s:Shared} {r:Addr} {a b c:Int} {t u v:Tok} {n:Nat}
end
end L2
namespace L2
open PySem PySem.Spec PyProof.Rows
section
variable {X:Cx}
end
end L2
namespace Z
open PySem PySem.Spec PyProof.Rows L2
section
variable {X:Cx} {a:Expr} {ts:TAp} {p p2 pos:Pos}
def eTR1 (ts:TAp):TEp:=fun ρ Q => ts ρ fun rs => match rs.map R.d with
 | [.int j] => (-(2 ^ 62) <= j /\ j < 2 ^ 62 /\ j.toNat <= 1000000) /\ Q (.v (.tup (rangeD 0 j.toNat)))
 | _ => False
end
end Z
namespace Tim
open PySem PySem.W PyProof.Rows
def ask (lt:Nat -> Nat -> Bool) (N:Nat) {α:Type}:KasT α -> (α -> Prop) -> Prop
 | .ret a,Q => Q a
 | .ask i j k,Q => (i < N /\ j < N /\ i ≠ j) /\ ask lt N (k (lt i j)) Q
theorem ask_bind {lt:Nat -> Nat -> Bool} {N:Nat} {α β:Type} {f:α -> KasT β} {Q:β -> Prop}:∀ (t:KasT α),ask lt N t (fun a => ask lt N (f a) Q) -> ask lt N (t.bind f) Q
 | .ret _,h => h
 | .ask i j k,h => ⟨h.1,ask_bind (k (lt i j)) h.2⟩
theorem ask_wp {lt:Nat -> Nat -> Bool} {N:Nat} {α:Type} {cmp:Nat -> Nat -> (Bool -> Shared -> Prop) -> Shared -> Prop} {s:Shared} (hc:∀ i j C,i < N -> j < N -> i ≠ j -> C (lt i j) s -> cmp i j C s) {Q:α -> Shared -> Prop}:
  ∀ (t:KasT α),ask lt N t (fun a => Q a s) -> t.kasWp cmp Q s
 | .ret _,h => h
 | .ask i j k,h => hc i j _ h.1.1 h.1.2.1 h.1.2.2 (ask_wp hc (k (lt i j)) h.2)
structure Weak (lt:Nat -> Nat -> Bool):Prop where
 irr:∀ a,lt a a = false
 tr:∀ a b c,lt a b = true -> lt b c = true -> lt a c = true
 nt:∀ a b c,lt a c = true -> lt a b = true \/ lt b c = true
noncomputable def at' (p:Array Nat) (k:Nat):Nat:=p.getD k 0
theorem at_of {p q:Array Nat} {i j:Nat} (h:p[i]? = q[j]?):at' p i = at' q j:=by
 unfold at'
 rw [Array.getD_eq_getD_getElem?,Array.getD_eq_getD_getElem?,h]
theorem at_rev {p:Array Nat} {i j:Nat} (hj:j <= p.size) (k:Nat):at' (kas_rev p i j) k = if i <= k /\ k < j then at' p (i + j - 1 - k) else at' p k:=by
 have e:=getElem?_mirror_all (i:=i) hj k
 split
 ·rename_i h
  rw [if_pos h] at e
  exact at_of e
 ·rename_i h
  rw [if_neg h] at e
  exact at_of e
theorem at_bub {p:Array Nat} {k d:Nat} (hs:k < p.size) (hd:d <= k) (u:Nat):at' (bubble p k d) u = if u = k - d then at' p k else if k - d < u /\ u <= k then at' p (u - 1) else at' p u:=by
 have e:=getElem?_bubble hs d hd u
 by_cases h1:u = k - d
 ·rw [if_pos h1] at e ⊢
  exact at_of e
 ·rw [if_neg h1] at e ⊢
  by_cases h2:k - d < u /\ u <= k
  ·rw [if_pos h2] at e ⊢
   exact at_of e
  ·rw [if_neg h2] at e ⊢
   exact at_of e
def Pm (N:Nat) (p:Array Nat):Prop:=p.Perm (List.toArray (List.range N))
section
variable {lt:Nat -> Nat -> Bool} {N:Nat} {p:Array Nat}
theorem Pm.size (h:Pm N p):p.size = N:=by
 have:=Array.Perm.size_eq h
 simpa using this
theorem Pm.list (h:Pm N p):p.toList.Perm (List.range N):=by
 have:=Array.perm_iff_toList_perm.mp h
 simpa using this
theorem at_get {k:Nat} (hk:k < p.size):at' p k = p.toList[k]'(by simpa using hk):=by
 unfold at'
 simp [Array.getD,hk]
theorem Pm.ltN (h:Pm N p) {k:Nat} (hk:k < N):at' p k < N:=by
 have hs:k < p.size:=by rw [h.size]; exact hk
 rw [at_get hs]
 exact List.mem_range.mp (h.list.mem_iff.mp (List.getElem_mem _))
theorem Pm.ne (h:Pm N p) {i j:Nat} (hi:i < N) (hj:j < N) (n:i ≠ j):at' p i ≠ at' p j:=by
 have nd:p.toList.Nodup:=h.list.nodup_iff.mpr List.nodup_range
 rw [at_get (by rw [h.size]; exact hi),at_get (by rw [h.size]; exact hj)]
 intro e
 rcases Nat.lt_or_gt_of_ne n with z | z
 ·exact List.pairwise_iff_getElem.mp nd i j _ _ z e
 ·exact List.pairwise_iff_getElem.mp nd j i _ _ z e.symm
theorem Pm.rev (h:Pm N p) (i j:Nat):Pm N (kas_rev p i j):=Array.Perm.trans (mirror_perm _ _ _ _) h
theorem Pm.bub (h:Pm N p) (i j:Nat):Pm N (bubble p i j):=Array.Perm.trans (bubble_perm _ _ _) h
def Tl (N:Nat) (p:Array Nat) (k:Nat):Prop:=∀ i,k <= i -> i < N -> at' p i = i
theorem Tl.up {k m:Nat} (h:Tl N p k) (hm:k <= m):Tl N p m:=fun i hi hn => h i (Nat.le_trans hm hi) hn
theorem Tl.below {k i:Nat} (h:Tl N p k) (P:Pm N p) (hk:i < k) (hn:i < N):at' p i < k:=by
 have:=P.ltN hn
 apply Nat.lt_of_not_le
 intro z
 have e:=h _ z this
 exact P.ne hn this (by ac_rfl) e.symm
theorem Tl.rev {k i j:Nat} (h:Tl N p k) (P:Pm N p) (hj:j <= k) (hN:j <= N):Tl N (kas_rev p i j) k:=fun u hu hn => by
 rw [at_rev (by rw [P.size]; exact hN),if_neg (by ac_rfl)]
 exact h u hu hn
def Bef (lt:Nat -> Nat -> Bool) (a b:Nat):Prop:=lt b a = false /\ (lt a b = true \/ a < b)
theorem Bef.trans (W:Weak lt) {a b c:Nat} (h:Bef lt a b) (k:Bef lt b c):Bef lt a c:=by
 have n1:lt c a = false:=by
  cases e:lt c a with
  | false => rfl
  | true =>
   rcases W.nt c b a e with z | z
   ·rw [k.1] at z; cases z
   ·rw [h.1] at z; cases z
 refine ⟨n1,?_⟩
 rcases h.2 with x | x
 ·rcases W.nt a c b x with z | z
  ·exact .inl z
  ·rw [k.1] at z; cases z
 ·rcases k.2 with y | y
  ·rcases W.nt b a c y with z | z
   ·rw [h.1] at z; cases z
   ·exact .inl z
  ·exact .inr (Nat.lt_trans x y)
theorem Weak.asym (W:Weak lt) {a b:Nat} (h:lt a b = true):lt b a = false:=by
 cases e:lt b a with
 | false => rfl
 | true => have:=W.tr _ _ _ h e; rw [W.irr] at this; cases this
theorem Bef.of (W:Weak lt) {a b:Nat} (h:lt a b = true):Bef lt a b:=⟨W.asym h,.inl h⟩
def Up (lt:Nat -> Nat -> Bool) (p:Array Nat) (k:Nat):Prop:=∀ u v,u < v -> v < k -> Bef lt (at' p u) (at' p v)
def Dn (lt:Nat -> Nat -> Bool) (p:Array Nat) (k:Nat):Prop:=∀ u v,u < v -> v < k -> Bef lt (at' p v) (at' p u)
theorem Up.rev {k:Nat} (h:Up lt p k) (hk:k <= p.size):Dn lt (kas_rev p 0 k) k:=fun u v huv hv => by
 rw [at_rev hk,at_rev hk,if_pos (by ac_rfl),if_pos (by ac_rfl)]
 exact h _ _ (by ac_rfl) (by ac_rfl)
theorem Dn.rev {k:Nat} (h:Dn lt p k) (hk:k <= p.size):Up lt (kas_rev p 0 k) k:=fun u v huv hv => by
 rw [at_rev hk,at_rev hk,if_pos (by ac_rfl),if_pos (by ac_rfl)]
 exact h _ _ (by ac_rfl) (by ac_rfl)
theorem Up.snoc (W:Weak lt) {k:Nat} (h:Up lt p k) (t:Tl N p k) (P:Pm N p) (h1:1 <= k) (hk:k < N) (n:lt (at' p k) (at' p (k - 1)) = false):Up lt p (k + 1):=fun u v huv hv => by
 by_cases e:v = k
 ·subst e
  have one:Bef lt (at' p (v - 1)) (at' p v):=⟨n,.inr (by rw [t v (Nat.le_refl _) hk]; exact t.below P (by ac_rfl) (by ac_rfl))⟩
  by_cases e2:u = v - 1
  ·rw [e2]; exact one
  ·exact (h u (v - 1) (by ac_rfl) (by ac_rfl)).trans W one
 ·exact h u v huv (by ac_rfl)
theorem asc_ask (W:Weak lt) (P:Pm N p) {Q:Nat -> Prop}:∀ (f n:Nat),1 <= n -> n + f <= N -> Up lt p n -> Tl N p n ->
  (∀ m,n <= m -> m <= n + f -> Up lt p m -> (m = n + f \/ m < N /\ lt (at' p m) (at' p (m - 1)) = true) -> Q m) -> ask lt N (kas_asc p f n) Q
 | 0,n,_,hn,u,t,k => k n (Nat.le_refl _) (Nat.le_refl _) u (.inl rfl)
 | f + 1,n,h1,hn,u,t,k => by
  refine ⟨⟨P.ltN (by ac_rfl),P.ltN (by ac_rfl),P.ne (by ac_rfl) (by ac_rfl) (by ac_rfl)⟩,?_⟩
  show ask lt N (if lt (at' p n) (at' p (n - 1)) = true then KasT.ret n else kas_asc p f (n + 1)) Q
  cases e:lt (at' p n) (at' p (n - 1)) with
  | true =>
   rw [if_pos rfl]
   exact k n (Nat.le_refl _) (by ac_rfl) u (.inr ⟨by ac_rfl,e⟩)
  | false =>
   rw [if_neg (by simp)]
   exact asc_ask W P f (n + 1) (by ac_rfl) (by ac_rfl) (u.snoc W t P h1 (by ac_rfl) e) (t.up (by ac_rfl)) fun m a b c d => k m (by ac_rfl) (by ac_rfl) c (d.elim (fun z => .inl (by ac_rfl)) .inr)
structure Run (lt:Nat -> Nat -> Bool) (N:Nat) (p:Array Nat) (n q:Nat):Prop where
 pm:Pm N p
 tl:Tl N p n
 le:q + 1 <= n
 hi:n <= N
 dn:Dn lt p (n - (q + 1))
 same:∀ u v,n - (q + 1) <= u -> u < v -> v < n -> lt (at' p u) (at' p v) = false /\ lt (at' p v) (at' p u) = false /\ at' p u < at' p v
 less:∀ u v,u < n - (q + 1) -> n - (q + 1) <= v -> v < n -> lt (at' p v) (at' p u) = true
theorem Run.turn (W:Weak lt) {n q:Nat} (h:Run lt N p n q):Dn lt (kas_rev p (n - (q + 1)) n) n:=fun u v huv hv => by
 have hs:n <= p.size:=by rw [h.pm.size]; exact h.hi
 have hl:=h.le
 rw [at_rev hs,at_rev hs]
 by_cases c:n - (q + 1) <= v
 ·rw [if_pos ⟨c,hv⟩]
  by_cases d:n - (q + 1) <= u
  ·rw [if_pos ⟨d,by ac_rfl⟩]
   obtain ⟨a,b,e⟩:=h.same (n - (q + 1) + n - 1 - v) (n - (q + 1) + n - 1 - u) (by ac_rfl) (by ac_rfl) (by ac_rfl)
   exact ⟨b,.inr e⟩
  ·rw [if_neg (by ac_rfl)]
   exact Bef.of W (h.less u _ (by ac_rfl) (by ac_rfl) (by ac_rfl))
 ·rw [if_neg (by ac_rfl),if_neg (by ac_rfl)]
  exact h.dn u v huv (by ac_rfl)
theorem Run.flat (W:Weak lt) {n:Nat} (h:Run lt N p n 0):Dn lt p n:=fun u v huv hv => by
 by_cases c:n - 1 <= v
 ·exact Bef.of W (h.less u v (by ac_rfl) (by ac_rfl) hv)
 ·exact h.dn u v huv (by ac_rfl)
theorem Run.done (W:Weak lt) {n q:Nat} (h:Run lt N p n q):∃ p',(if q > 0 then kas_rev p (n - (q + 1)) n else p) = p' /\ Pm N p' /\ Tl N p' n /\ Dn lt p' n /\ ∀ u,u < n -> ∃ w,w < n /\ at' p' u = at' p w:=by
 by_cases c:q > 0
 ·refine ⟨_,if_pos c,h.pm.rev _ _,h.tl.rev h.pm (Nat.le_refl _) h.hi,h.turn W,fun u hu => ?_⟩
  have hl:=h.le
  rw [at_rev (by rw [h.pm.size]; exact h.hi)]
  split
  ·exact ⟨_,by ac_rfl,rfl⟩
  ·exact ⟨u,hu,rfl⟩
 ·have:q = 0:=by ac_rfl
  subst this
  exact ⟨_,if_neg c,h.pm,h.tl,h.flat W,fun u hu => ⟨u,hu,rfl⟩⟩
theorem Run.next (W:Weak lt) {n q:Nat} (h:Run lt N p n q) (hn:n < N) (e:lt (at' p n) (at' p (n - 1)) = true):Run lt N (if q > 0 then kas_rev p (n - (q + 1)) n else p) (n + 1) 0:=by
 have hl:=h.le
 have all:∀ w,w < n -> lt (at' p n) (at' p w) = true:=fun w hw => by
  by_cases c:w = n - 1
  ·rw [c]; exact e
  ·by_cases d:w < n - (q + 1)
   ·exact W.tr _ _ _ e (h.less w (n - 1) d (by ac_rfl) (by ac_rfl))
   ·rcases W.nt _ (at' p w) _ e with z | z
    ·exact z
    ·rw [(h.same w (n - 1) (by ac_rfl) (by ac_rfl) (by ac_rfl)).1] at z; cases z
 obtain ⟨p',ep,P,T,D,A⟩:=h.done W
 rw [ep]
 have en:at' p' n = at' p n:=by rw [T n (Nat.le_refl _) hn,h.tl n (Nat.le_refl _) hn]
 refine ⟨P,T.up (by ac_rfl),by ac_rfl,hn,by simpa using D,fun u v a b c => by ac_rfl,fun u v a b c => ?_⟩
 have:v = n:=by ac_rfl
 subst this
 obtain ⟨w,hw,ew⟩:=A u (by ac_rfl)
 rw [en,ew]
 exact all w hw
theorem Run.more (W:Weak lt) {n q:Nat} (h:Run lt N p n q) (hn:n < N) (e:lt (at' p n) (at' p (n - 1)) = false) (d:lt (at' p (n - 1)) (at' p n) = false):Run lt N p (n + 1) (q + 1):=by
 have hl:=h.le
 have en:=h.tl n (Nat.le_refl _) hn
 have sz:n + 1 - (q + 1 + 1) = n - (q + 1):=by ac_rfl
 refine ⟨h.pm,h.tl.up (by ac_rfl),by ac_rfl,hn,by rw [sz]; exact h.dn,fun u v a b c => ?_,fun u v a b c => ?_⟩
 ·rw [sz] at a
  by_cases z:v = n
  ·subst z
   have lw:at' p u < at' p v:=by rw [en]; exact h.tl.below h.pm b (by ac_rfl)
   by_cases y:u = v - 1
   ·subst y; exact ⟨d,e,lw⟩
   ·obtain ⟨s1,s2,_⟩:=h.same u (v - 1) a (by ac_rfl) (by ac_rfl)
    refine ⟨?_,?_,lw⟩
    ·cases q1:lt (at' p u) (at' p v) with
     | false => rfl
     | true =>
      rcases W.nt _ (at' p (v - 1)) _ q1 with x | x
      ·rw [s1] at x; cases x
      ·rw [d] at x; cases x
    ·cases q1:lt (at' p v) (at' p u) with
     | false => rfl
     | true =>
      rcases W.nt _ (at' p (v - 1)) _ q1 with x | x
      ·rw [e] at x; cases x
      ·rw [s2] at x; cases x
  ·exact h.same u v a b (by ac_rfl)
 ·rw [sz] at a b
  by_cases z:v = n
  ·subst z
   rcases W.nt _ (at' p v) _ (h.less u (v - 1) a (by ac_rfl) (by ac_rfl)) with x | x
   ·rw [d] at x; cases x
   ·exact x
  ·exact h.less u v a b (by ac_rfl)
theorem desc_ask (W:Weak lt) {Q:Array Nat × Nat × Nat -> Prop}:∀ (f:Nat) (p:Array Nat) (n q:Nat),n + f <= N -> Run lt N p n q -> (∀ p' n' q',n <= n' -> n' <= n + f -> Run lt N p' n' q' -> Q (p',n',q')) -> ask lt N (kas_desc f p n q) Q
 | 0,p,n,q,hn,r,k => k p n q (Nat.le_refl _) (Nat.le_refl _) r
 | f + 1,p,n,q,hn,r,k => by
  have hl:=r.le
  refine ⟨⟨r.pm.ltN (by ac_rfl),r.pm.ltN (by ac_rfl),r.pm.ne (by ac_rfl) (by ac_rfl) (by ac_rfl)⟩,?_⟩
  show ask lt N (if lt (at' p n) (at' p (n - 1)) = true then (if q > 0 then kas_desc f (kas_rev p (n - (q + 1)) n) (n + 1) 0 else kas_desc f p (n + 1) 0)
   else .ask (p.getD (n - 1) 0) (p.getD n 0) fun d => if d = true then .ret (p,n,q) else kas_desc f p (n + 1) (q + 1)) Q
  cases e:lt (at' p n) (at' p (n - 1)) with
  | true =>
   rw [if_pos rfl]
   have r':=r.next W (by ac_rfl) e
   by_cases c:q > 0
   ·rw [if_pos c] at r' ⊢
    exact desc_ask W f _ (n + 1) 0 (by ac_rfl) r' fun p' n' q' a b c => k p' n' q' (by ac_rfl) (by ac_rfl) c
   ·rw [if_neg c] at r' ⊢
    exact desc_ask W f _ (n + 1) 0 (by ac_rfl) r' fun p' n' q' a b c => k p' n' q' (by ac_rfl) (by ac_rfl) c
  | false =>
   rw [if_neg (by simp)]
   refine ⟨⟨r.pm.ltN (by ac_rfl),r.pm.ltN (by ac_rfl),r.pm.ne (by ac_rfl) (by ac_rfl) (by ac_rfl)⟩,?_⟩
   show ask lt N (if lt (at' p (n - 1)) (at' p n) = true then .ret (p,n,q) else kas_desc f p (n + 1) (q + 1)) Q
   cases d:lt (at' p (n - 1)) (at' p n) with
   | true =>
    rw [if_pos rfl]
    exact k p n q (Nat.le_refl _) (by ac_rfl) r
   | false =>
    rw [if_neg (by simp)]
    exact desc_ask W f _ (n + 1) (q + 1) (by ac_rfl) (r.more W (by ac_rfl) e d) fun p' n' q' a b c => k p' n' q' (by ac_rfl) (by ac_rfl) c
def Got (lt:Nat -> Nat -> Bool) (N:Nat) (r:Nat × Array Nat):Prop:=1 <= r.1 /\ r.1 <= N /\ Pm N r.2 /\ Up lt r.2 r.1 /\ Tl N r.2 r.1
theorem tail_ask (W:Weak lt) {n:Nat} {Q:Nat × Array Nat -> Prop} (P:Pm N p) (h1:1 <= n) (hn:n <= N) (D:Dn lt p n) (T:Tl N p n) (k:∀ r,Got lt N r -> Q r):ask lt N (kas_tail3 n N p) Q:=by
 unfold kas_tail3
 have P':=P.rev 0 n
 have T':Tl N (kas_rev p 0 n) n:=T.rev P (Nat.le_refl _) hn
 refine ask_bind _ (asc_ask W P' (N - n) n h1 (by ac_rfl) (D.rev (by rw [P.size]; exact hn)) T' fun m a b c d => ?_)
 exact k _ ⟨by show 1 <= m; ac_rfl,by show m <= N; ac_rfl,P',c,T'.up a⟩
theorem part_ask (W:Weak lt) {n:Nat} {Q:Nat × Array Nat -> Prop} (P:Pm N p) (h1:1 <= n) (hn:n < N) (D:Dn lt p n) (T:Tl N p n) (e:∀ w,w < n -> lt (at' p n) (at' p w) = true) (k:∀ r,Got lt N r -> Q r):ask lt N (kas_descPart n N p) Q:=by
 unfold kas_descPart
 have r0:Run lt N p (n + 1) 0:=⟨P,T.up (by ac_rfl),by ac_rfl,hn,by simpa using D,fun u v a b c => by ac_rfl,fun u v a b c => by
  have:v = n:=by ac_rfl
  subst this
  exact e u (by ac_rfl)⟩
 refine ask_bind _ (desc_ask W _ p (n + 1) 0 (by ac_rfl) r0 fun p' n' q' a b r => ?_)
 obtain ⟨p2,ep,P2,T2,D2,_⟩:=r.done W
 show ask lt N (if q' > 0 then kas_tail3 n' N (kas_rev p' (n' - (q' + 1)) n') else kas_tail3 n' N p') Q
 by_cases c:q' > 0
 ·rw [if_pos c] at ep ⊢
  rw [ep]
  exact tail_ask W P2 (by ac_rfl) (by ac_rfl) D2 T2 k
 ·rw [if_neg c] at ep ⊢
  rw [ep]
  exact tail_ask W P2 (by ac_rfl) (by ac_rfl) D2 T2 k
theorem count_ask (W:Weak lt) {Q:Nat × Array Nat -> Prop} (P:Pm N p) (h1:1 <= N) (T:Tl N p 0) (k:∀ r,Got lt N r -> Q r):ask lt N (kas_count N p) Q:=by
 unfold kas_count
 refine ask_bind _ (asc_ask W P (N - 1) 1 (Nat.le_refl _) (by ac_rfl) (fun u v a b => by ac_rfl) (T.up (by ac_rfl)) fun m a b c d => ?_)
 by_cases z:m = N
 ·rw [if_pos (by simpa using z)]
  exact k _ ⟨a,by show m <= N; ac_rfl,P,c,T.up (by ac_rfl)⟩
 ·rw [if_neg (by simpa using z)]
  have hm:m < N /\ lt (at' p m) (at' p (m - 1)) = true:=d.resolve_left (by ac_rfl)
  by_cases y:m > 1
  ·rw [if_pos y]
   refine ⟨⟨P.ltN (by ac_rfl),P.ltN (by ac_rfl),P.ne (by ac_rfl) (by ac_rfl) (by ac_rfl)⟩,?_⟩
   show ask lt N (if lt (at' p 0) (at' p (m - 1)) = true then .ret (m,p) else kas_descPart m N (kas_rev p 0 m)) Q
   cases e:lt (at' p 0) (at' p (m - 1)) with
   | true =>
    rw [if_pos rfl]
    exact k _ ⟨a,by show m <= N; ac_rfl,P,c,T.up (by ac_rfl)⟩
   | false =>
    rw [if_neg (by simp)]
    have hs:m <= p.size:=by rw [P.size]; ac_rfl
    refine part_ask W (P.rev _ _) a hm.1 (c.rev hs) ((T.up (Nat.zero_le m)).rev P (Nat.le_refl _) (by ac_rfl)) (fun w hw => ?_) k
    rw [at_rev hs,at_rev hs,if_neg (by ac_rfl),if_pos (by ac_rfl)]
    have m0:lt (at' p m) (at' p 0) = true:=by
     rcases W.nt _ (at' p 0) _ hm.2 with x | x
     ·exact x
     ·rw [e] at x; cases x
    by_cases w0:0 + m - 1 - w = 0
    ·rw [w0]; exact m0
    ·rcases W.nt _ (at' p (0 + m - 1 - w)) _ m0 with x | x
     ·exact x
     ·rw [(c 0 (0 + m - 1 - w) (by ac_rfl) (by ac_rfl)).1] at x; cases x
  ·rw [if_neg y]
   have:m = 1:=by ac_rfl
   subst this
   refine part_ask W P a hm.1 (fun u v a b => by ac_rfl) (T.up (by ac_rfl)) (fun w hw => ?_) k
   have:w = 0:=by ac_rfl
   subst this
   exact hm.2
theorem place_ask (W:Weak lt) (P:Pm N p) {k:Nat} (hk:k < N) (U:Up lt p k) {Q:Nat -> Prop}:∀ (f l r:Nat),l <= r -> r <= k -> r - l <= f -> (∀ u,u < l -> lt (at' p k) (at' p u) = false) -> (∀ u,r <= u -> u < k -> lt (at' p k) (at' p u) = true) ->
  (∀ l',l' <= k -> (∀ u,u < l' -> lt (at' p k) (at' p u) = false) -> (∀ u,l' <= u -> u < k -> lt (at' p k) (at' p u) = true) -> Q l') -> ask lt N (kas_place p k f l r) Q
 | 0,l,r,hl,hr,hf,a,b,g => by
  have:r = l:=by ac_rfl
  subst this
  exact g r hr a b
 | f + 1,l,r,hl,hr,hf,a,b,g => by
  unfold kas_place
  by_cases c:l >= r
  ·rw [if_pos c]
   have:r = l:=by ac_rfl
   subst this
   exact g r hr a b
  ·rw [if_neg c]
   have hm:(l + r) / 2 < r:=by ac_rfl
   have hm2:l <= (l + r) / 2:=by ac_rfl
   generalize (l + r) / 2 = mid at *
   refine ⟨⟨P.ltN hk,P.ltN (by ac_rfl),P.ne hk (by ac_rfl) (by ac_rfl)⟩,?_⟩
   show ask lt N (if lt (at' p k) (at' p mid) = true then kas_place p k f l mid else kas_place p k f (mid + 1) r) Q
   cases e:lt (at' p k) (at' p mid) with
   | true =>
    rw [if_pos rfl]
    refine place_ask W P hk U f l mid hm2 (by ac_rfl) (by ac_rfl) a (fun u h1 h2 => ?_) g
    by_cases z:u = mid
    ·rw [z]; exact e
    ·rcases W.nt _ (at' p u) _ e with x | x
     ·exact x
     ·rw [(U mid u (by ac_rfl) h2).1] at x; cases x
   | false =>
    rw [if_neg (by simp)]
    refine place_ask W P hk U f (mid + 1) r (by ac_rfl) hr (by ac_rfl) (fun u hu => ?_) b g
    by_cases z:u = mid
    ·rw [z]; exact e
    ·cases q:lt (at' p k) (at' p u) with
     | false => rfl
     | true =>
      rcases W.nt _ (at' p mid) _ q with x | x
      ·rw [e] at x; cases x
      ·rw [(U u mid (by ac_rfl) (by ac_rfl)).1] at x; cases x
theorem bin_ask (W:Weak lt) {Q:Array Nat -> Prop}:∀ (f:Nat) (p:Array Nat) (k:Nat),k + f = N -> Pm N p -> Up lt p k -> Tl N p k -> (∀ p',Pm N p' -> Up lt p' N -> Q p') -> ask lt N (kas_bin f p k) Q
 | 0,p,k,hk,P,U,T,g => by
  have:k = N:=by ac_rfl
  subst this
  exact g p P U
 | f + 1,p,k,hk,P,U,T,g => by
  refine ask_bind _ (place_ask W P (by ac_rfl) U k 0 k (Nat.zero_le _) (Nat.le_refl _) (by ac_rfl) (fun u h => by ac_rfl) (fun u h1 h2 => by ac_rfl) fun l hl a b => ?_)
  have hs:k < p.size:=by rw [P.size]; ac_rfl
  have e:∀ u,at' (bubble p k (k - l)) u = if u = l then at' p k else if l < u /\ u <= k then at' p (u - 1) else at' p u:=fun u => by
   rw [at_bub hs (by ac_rfl) u,show k - (k - l) = l by ac_rfl]
  refine bin_ask W f _ (k + 1) (by ac_rfl) (P.bub _ _) (fun u v huv hv => ?_) (fun i hi hn => ?_) g
  ·have tk:=T k (Nat.le_refl _) (by ac_rfl)
   rw [e u,e v]
   by_cases u1:u = l
   ·rw [if_pos u1,if_neg (by ac_rfl),if_pos (by ac_rfl)]
    exact Bef.of W (b (v - 1) (by ac_rfl) (by ac_rfl))
   ·rw [if_neg u1]
    by_cases v1:v = l
    ·rw [if_pos v1,if_neg (by ac_rfl)]
     exact ⟨a u (by ac_rfl),.inr (by rw [tk]; exact T.below P (by ac_rfl) (by ac_rfl))⟩
    ·rw [if_neg v1]
     by_cases u2:l < u
     ·rw [if_pos (by ac_rfl),if_pos (by ac_rfl)]
      exact U _ _ (by ac_rfl) (by ac_rfl)
     ·rw [if_neg (by ac_rfl)]
      by_cases v2:l < v
      ·rw [if_pos (by ac_rfl)]
       exact U _ _ (by ac_rfl) (by ac_rfl)
      ·rw [if_neg (by ac_rfl)]
       exact U _ _ (by ac_rfl) (by ac_rfl)
  ·rw [e i,if_neg (by ac_rfl),if_neg (by ac_rfl)]
   exact T i (by ac_rfl) hn
theorem sort_ask (W:Weak lt) (h1:1 <= N) {Q:Array Nat -> Prop} (k:∀ p',Pm N p' -> Up lt p' N -> Q p'):ask lt N (kas_sort N) Q:=by
 unfold kas_sort
 refine ask_bind _ (count_ask W (Array.Perm.refl _) h1 (fun i _ hi => by simp [at',Array.getD,hi]) fun r g => ?_)
 obtain ⟨a,b,c,d,e⟩:=g
 by_cases z:r.1 < N
 ·rw [if_pos z]
  have:max r.1 1 = r.1:=by ac_rfl
  rw [this]
  exact bin_ask W _ r.2 r.1 (by ac_rfl) c d e k
 ·rw [if_neg z]
  have:r.1 = N:=by ac_rfl
  rw [this] at d
  exact k _ c d
end
end Tim
namespace L2
open PySem PySem.Spec PySem.W PyProof.Rows Tim
noncomputable abbrev picked (vs:List Value) (p:Array Nat):List Value:=p.toList.map fun i => vs.getD i Value.none
structure Cmp (prog:Program) (w:World) (s:Shared) (a:Addr) (vs:List Value) (lt:Nat -> Nat -> Bool) (κ:SortKind):Prop where
 wk:Weak lt
 kind:∀ (A:Around) (h:Heap) (Q:SortKind -> Shared -> Prop),(∀ b o,b ≠ a -> s.heap.get? b = some o -> h.get? b = some o) -> Q κ { s with heap:=h } -> wpAny (model prog w) A (keyKind' vs.toArray) Q (fun _ _ => False) { s with heap:=h }
 less:∀ (A:Around) (h:Heap) (i j:Nat) (C:Bool -> Shared -> Prop),(∀ b o,b ≠ a -> s.heap.get? b = some o -> h.get? b = some o) -> i < vs.length -> j < vs.length -> i ≠ j -> C (lt i j) { s with heap:=h } ->
  wpAny (model prog w) A (keyLt' κ (vs.getD i Value.none) (vs.getD j Value.none)) C (fun _ _ => False) { s with heap:=h }
section
variable {prog:Program} {w:World} {A:Around} {E:Value -> Shared -> Prop} {s:Shared}
theorem picked_id (vs:List Value):picked vs (List.toArray (List.range vs.length)) = vs:=by
 apply List.ext_getElem?
 intro i
 by_cases h:i < vs.length
 ·simp [picked,h]
 ·simp [picked,h]
theorem sort_here {a:Addr} {vs:List Value} {n:Nat} {lt:Nat -> Nat -> Bool} {κ:SortKind} {P:Fin -> Shared -> Prop} (ho:s.heap.get? a = some (seqObj "list" vs.toArray n)) (h64:vs.length < 64) (c:2 <= vs.length -> Cmp prog w s a vs lt κ)
  (k:∀ p,Pm vs.length p -> Up lt p vs.length -> P (.done (.ret .none)) { s with heap:=sortedHeap s.heap a vs (picked vs p).toArray }):wpAny (model prog w) A (Builtin.«list.sort» ⟨[.ref a],[]⟩) P E s:=by
 have la:a < s.heap.objs.size:=Heap.lt_size ho
 let h1:=s.heap.update a (Obj.mapSeq fun _ => #[])
 let h2:=h1.push (seqObj "tuple" vs.toArray 0)
 let h3:=h2.push (seqObj "list" #[] 0)
 obtain ⟨m,g1⟩:∃ m,h1.get? a = some (seqObj "list" #[] m):=⟨_,get?_update_seq ho fun _ => #[]⟩
 have sz1:h1.objs.size = s.heap.objs.size:=Heap.size_update ..
 have keep:∀ b o,b ≠ a -> s.heap.get? b = some o -> h3.get? b = some o:=fun b o hb e =>
  Heap.get?_push_of_some _ (Heap.get?_push_of_some _ ((Heap.get?_update_ne _ _ _ _ hb).trans e))
 have g3:h3.get? a = some (seqObj "list" #[] m):=Heap.get?_push_of_some _ (Heap.get?_push_of_some _ g1)
 have line:vs.length <= sizeLine:=by rw [sizeLine_eq]; ac_rfl
 have fin:∀ p,Pm vs.length p -> Up lt p vs.length -> wpAny (model prog w) A (do
   let touched:=(<- seqEpoch a) != m
   Builtin.List.listUpdate (.ref a) fun _ => (picked vs p).toArray
   if touched then rule "list.sort.modified"; raiseError "ValueError" "list modified during sort"
   ret .none) P E { s with heap:=h3 }:=fun p pm up => by
  have sz:(picked vs p).toArray.size = vs.length:=by simp [picked,pm.size]
  refine wpAny_bind (seqEpoch_at g3 rfl (wpAny_bind (listUpdate_at g3 rfl ?_ (Nat.zero_le _) (by rw [sz]; ac_rfl))))
  rw [show (m != m) = false by simp]
  exact wpAny_pure (k p pm up)
 rw [list_sort_plain]
 refine wpAny_bind (listItems_at ho rfl (wpAny_bind (listUpdate_at ho rfl ?_ (by simpa using line) (Nat.zero_le _))))
 refine wpAny_bind (seqEpoch_at g1 rfl (wpAny_bind (wpAny_newTuple (wpAny_bind (wpAny_newList (wpAny_holding ?_) (Nat.zero_le _))) (by simpa using line))))
 show wpAny (model prog w) A _ P E { s with heap:=h3 }
 dsimp only
 by_cases two:2 <= vs.length
 ·have big:¬ vs.toArray.size < 2:=by simpa using two
  rw [if_neg big,if_neg big]
  have cc:=c two
  refine wpAny_bind (wpAny_mono (cc.kind A h3 (fun x s' => x = κ /\ s' = { s with heap:=h3 }) keep ⟨rfl,rfl⟩) (fun x s' e => ?_) fun _ _ z => z.elim)
  obtain ⟨rfl,rfl⟩:=e
  have tree:(kas_sort vs.length).kasWp (kas_ask prog w A x vs) (fun p s' => (Pm vs.length p /\ Up lt p vs.length) /\ s' = { s with heap:=h3 }) { s with heap:=h3 }:=
   ask_wp (lt:=lt) (N:=vs.length) (fun i j C hi hj hn q => cc.less A h3 i j C keep hi hj hn q) _ (sort_ask cc.wk (by ac_rfl) fun p a b => ⟨⟨a,b⟩,rfl⟩)
  refine wpAny_bind (wpAny_mono (kat_run (E:=E) (Q:=fun st' s' => ∃ p,(Pm vs.length p /\ Up lt p vs.length) /\ arrOf st' = p.map (kas_item (vs.toArray.zip vs.toArray)) /\ failedOf st' = none /\ s' = { s with heap:=h3 })
   rfl two h64 (fun p st' s' _ a b q => ⟨p,q.1,a,b,q.2⟩) tree) (fun r s' q => ?_) fun _ _ z => z)
  obtain ⟨⟨⟩,st'⟩:=r
  obtain ⟨p,⟨pm,up⟩,e1,e2,rfl⟩:=q
  dsimp only at e1 e2 ⊢
  rw [kat_snds rfl e1,e2]
  exact fin p pm up
 ·have few:vs.toArray.size < 2:=by simp; ac_rfl
  rw [if_pos few,if_pos few]
  refine wpAny_bind (wpAny_pure ?_)
  rw [StateT.run_pure]
  refine wpAny_bind (wpAny_pure ?_)
  dsimp only
  have e:((arrOf (SortSt.mk' general' (vs.toArray.zip vs.toArray) #[] 7 none)).map fun x => x.2) = (picked vs (List.toArray (List.range vs.length))).toArray:=by
   rw [picked_id]
   apply Array.toList_inj.mp
   show ((vs.toArray.zip vs.toArray).map fun x => x.2).toList = _
   simp
   apply List.ext_getElem?
   intro i
   by_cases hi:i < vs.length
   ·simp [hi]
   ·simp [hi]
  rw [e]
  exact fin _ (Array.Perm.refl _) fun u v h1 h2 => by ac_rfl
theorem sorted_by {l:Addr} {vs:List Value} {lt:Nat -> Nat -> Bool} {κ:SortKind} {Q:Value -> Shared -> Prop} (hl:s.heap.IsList l vs.toArray) (h64:vs.length < 64) (c:2 <= vs.length -> Cmp prog w s s.heap.objs.size vs lt κ)
  (k:∀ p,Pm vs.length p -> Up lt p vs.length -> Q (.ref (s.heap.objs.size + 1)) { s with heap:=sortedAll s.heap vs (picked vs p).toArray }):wpAny (model prog w) A (call (.builtin "sorted") [.ref l]) Q E s:=by
 have line:vs.length <= sizeLine:=by rw [sizeLine_eq]; ac_rfl
 let h1:=(s.heap.push (seqObj "list" #[] 0)).update s.heap.objs.size (Obj.mapSeq (· ++ vs.toArray))
 let h2:=h1.push (seqObj "list" vs.toArray 0)
 have sz:h1.objs.size = s.heap.objs.size + 1:=(Heap.size_update ..).trans (size_push' _ _)
 have old:∀ b o,s.heap.get? b = some o -> h2.get? b = some o:=fun b o e =>
  Heap.get?_push_of_some _ ((Heap.get?_update_ne _ _ _ _ (Nat.ne_of_lt (Heap.lt_size e))).trans (Heap.get?_push_of_some _ e))
 have mine:h2.get? (s.heap.objs.size + 1) = some (seqObj "list" vs.toArray 0):=sz ▸ Heap.get?_push_size h1 rfl
 refine Calls.call_function_entry kind_sorted plain_sorted entry_sorted (args_sorted1 _) ?_
 unfold Builtin.«sorted»
 refine wpAny_bind (m:=checkCount "sorted" 1 1 _) (wpAny_pure (wpAny_bind (collect_list hl (wpAny_bind (wpAny_newList ?_ line)) line)))
 show wpAny _ _ _ _ _ { s with heap:=h2 }
 rw [show ((s.heap.push (seqObj "list" #[] 0)).update s.heap.objs.size (Obj.mapSeq (· ++ vs.toArray))).objs.size = s.heap.objs.size + 1 from sz]
 refine wpAny_bind (wpAny_holding (wpAny_call_entry slot_list_sort ⟨_,mine,rfl⟩ entry_list_sort ?_ (args_list_sort _)))
 refine sort_here (s:={ s with heap:=h2 }) (lt:=lt) (κ:=κ) mine h64 (fun two => ?_) fun p a b => ⟨_,rfl,wpAny_pure ⟨_,rfl,k p a b⟩⟩
 ·have cc:=c two
  exact ⟨cc.wk,fun A h Q hk q => cc.kind A h Q (fun b o hb e => hk b o (fun z => by have y:=Heap.lt_size e; rw [z] at y; exact Nat.not_succ_lt_self y) (old b o e)) q,
   fun A h i j C hk hi hj hn q => cc.less A h i j C (fun b o hb e => hk b o (fun z => by have y:=Heap.lt_size e; rw [z] at y; exact Nat.not_succ_lt_self y) (old b o e)) hi hj hn q⟩
end
noncomputable def lexB:List Int -> List Int -> Bool
 | [],[] => false
 | [],_ :: _ => true
 | _ :: _,[] => false
 | a :: r,b :: t => if a = b then lexB r t else decide (a < b)
theorem lexB_irr:∀ a,lexB a a = false
 | [] => rfl
 | a :: r => by rw [lexB,if_pos rfl]; exact lexB_irr r
theorem lexB_tr:∀ a b c,lexB a b = true -> lexB b c = true -> lexB a c = true
 | [],[],_,h,_ => by cases h
 | [],_ :: _,[],_,k => by cases k
 | [],_ :: _,_ :: _,_,_ => rfl
 | _ :: _,[],_,h,_ => by cases h
 | _ :: _,_ :: _,[],_,k => by cases k
 | a :: r,b :: t,c :: u,h,k => by
  unfold lexB at h k ⊢
  by_cases e:a = b
  ·rw [if_pos e] at h
   subst e
   by_cases e2:a = c
   ·rw [if_pos e2] at k ⊢
    exact lexB_tr r t u h k
   ·rw [if_neg e2] at k ⊢
    exact k
  ·rw [if_neg e] at h
   have h1:=of_decide_eq_true h
   by_cases e2:b = c
   ·subst e2
    rw [if_neg e]
    exact h
   ·rw [if_neg e2] at k
    have h2:=of_decide_eq_true k
    rw [if_neg (by ac_rfl)]
    exact decide_eq_true (by ac_rfl)
theorem lexB_tot:∀ a b,a ≠ b -> lexB a b = true \/ lexB b a = true
 | [],[],h => absurd rfl h
 | [],_ :: _,_ => .inl rfl
 | _ :: _,[],_ => .inr rfl
 | a :: r,b :: t,h => by
  unfold lexB
  by_cases e:a = b
  ·subst e
   rw [if_pos rfl,if_pos rfl]
   exact lexB_tot r t fun z => h (by rw [z])
  ·rw [if_neg e,if_neg (Ne.symm e)]
   rcases Int.lt_or_gt_of_ne e with z | z
   ·exact .inl (decide_eq_true z)
   ·exact .inr (decide_eq_true z)
theorem lexB_weak (f:Nat -> List Int):Weak fun i j => lexB (f i) (f j):=by
 refine ⟨fun a => lexB_irr _,fun a b c => lexB_tr _ _ _,fun a b c h => ?_⟩
 by_cases e:f a = f b
 ·exact .inr (by rw [<- e]; exact h)
 ·rcases lexB_tot _ _ e with z | z
  ·exact .inl z
  ·exact .inr (lexB_tr _ _ _ z h)
section
variable {prog:Program} {w:World} {A:Around} {s:Shared} {C:Bool -> Shared -> Prop} {fin:Bool}
theorem lex_ints:∀ (ns ms:List Int) (us vs ru rv:List Value) (i:Nat),IntsAre us ns -> IntsAre vs ms -> ns.length = ms.length -> ns ≠ ms -> C (lexB ns ms) s -> KatLex prog w A true fin C ((us ++ ru).zip (vs ++ rv)) i s
 | [],[],_,_,_,_,_,_,_,_,n,_ => absurd rfl n
 | [],_ :: _,_,_,_,_,_,_,_,l,_,_ => by cases l
 | _ :: _,[],_,_,_,_,_,_,_,l,_,_ => by cases l
 | a :: r,b :: t,_,_,ru,rv,i,.cons _ x hu,.cons _ y hv,l,n,q => by
  unfold lexB at q
  refine kat_cons (wpAny_eqBool_int (kat_go (fun e => kat_yes ?_) fun e => kat_no ?_))
  ·have e':a = b:=by simpa using e
   rw [if_pos e'] at q
   exact lex_ints r t _ _ ru rv (i + 1) hu hv (by simpa using l) (fun z => n (by rw [e',z])) q
  ·have e':¬ a = b:=by simpa using e
   rw [if_neg e'] at q
   by_cases z:i = 0
   ·rw [show (true && i == 0) = true by simp [z]]
    exact oneLt_int q
   ·rw [show (true && i == 0) = false by simp [z]]
    exact kat_one _ _ (lt_int q)
end
section
variable {X:Cx}
noncomputable abbrev SIt:=Addr × List Int × List V
theorem perm_of {α:Type} {N:Nat} {p:Array Nat} (P:Pm N p) (xs:List α) (hl:xs.length = N) (d:α):(p.toList.map fun i => xs.getD i d).Perm xs:=by
 have e:(List.range N).map (fun i => xs.getD i d) = xs:=by
  apply List.ext_getElem?
  intro i
  by_cases h:i < N
  ·simp [h,hl]
  ·simp [h,hl]
 have:=P.list.map fun i => xs.getD i d
 rwa [e] at this
theorem up_pairwise {α:Type} {N:Nat} {p:Array Nat} {lt:Nat -> Nat -> Bool} (P:Pm N p) (U:Up lt p N) (xs:List α) (d:α) (Rel:α -> α -> Prop) (hR:∀ i j,i < N -> j < N -> Bef lt i j -> Rel (xs.getD i d) (xs.getD j d)):
  (p.toList.map fun i => xs.getD i d).Pairwise Rel:=by
 rw [List.pairwise_map]
 rw [List.pairwise_iff_getElem]
 intro i j hi hj hij
 have si:i < p.size:=by simpa using hi
 have sj:j < p.size:=by simpa using hj
 have b:=U i j hij (by rw [<- P.size]; exact sj)
 rw [at_get si,at_get sj] at b
 have:=P.ltN (k:=i) (by rw [<- P.size]; exact si)
 have:=P.ltN (k:=j) (by rw [<- P.size]; exact sj)
 rw [at_get si] at *
 rw [at_get sj] at *
 exact hR _ _ (by assumption) (by assumption) b
theorem call_sortedT:CallR X (.builtin "sorted") (fun xs H Q => ∃ (p:Addr) (its:List SIt) (k:Nat),xs = [.ref p] /\ SqL X.K H p (its.map fun t => V.ref t.1) /\ its.length < 64 /\ (∀ t ∈ its,SqT X.K H t.1 (t.2.1.map V.int ++ t.2.2) /\ t.2.1.length = k + 1) /\
  its.Pairwise (fun t u => t.2.1 ≠ u.2.1) /\ ∀ its':List SIt,its'.Perm its -> its'.Pairwise (fun t u => lexB t.2.1 u.2.1 = true) -> ∀ l,H l = none -> Q (.ref l) (upd H l (.lst (its'.map fun t => V.ref t.1)))):=by
 intro pins s σ H xs us Q I r h
 obtain ⟨p,its,k,rfl,hl,h64,hits,hd,q⟩:=h
 obtain ⟨u,rfl,ru⟩:=vals1 r
 cases ru
 obtain ⟨vs,rv,pl,hz⟩:=I.list hl
 have ev:vs = its.map fun t => Value.ref t.1:=by
  clear hl hz h64 hits hd q pl
  induction its generalizing vs with
  | nil => cases rv; rfl
  | cons t r ih =>
   cases rv with
   | cons a b => rw [List.map_cons,<- ih _ b]; cases a; rfl
 subst ev
 have len:(its.map fun t => Value.ref t.1).length = its.length:=by simp
 let num:Nat -> List Int:=fun i => (its.getD i (0,[],[])).2.1
 have get:∀ i,i < its.length -> (its.map fun t => Value.ref t.1).getD i Value.none = Value.ref (its.getD i (0,[],[])).1:=fun i hi => by simp [hi]
 have mem:∀ i,i < its.length -> its.getD i (0,[],[]) ∈ its:=fun i hi => by
  rw [List.getD_eq_getElem?_getD,List.getElem?_eq_getElem hi]
  exact List.getElem_mem hi
 have ne:∀ i j,i < its.length -> j < its.length -> i ≠ j -> num i ≠ num j:=fun i j hi hj n => by
  have e:∀ i,i < its.length -> num i = (its[i]!).2.1:=fun i hi => by simp [num,hi]
  have pw:=List.pairwise_iff_getElem.mp hd
  have ei:its.getD i (0,[],[]) = its[i]:=by simp [hi]
  have ej:its.getD j (0,[],[]) = its[j]:=by simp [hj]
  show (its.getD i (0,[],[])).2.1 ≠ (its.getD j (0,[],[])).2.1
  rw [ei,ej]
  rcases Nat.lt_or_gt_of_ne n with z | z
  ·exact pw i j hi hj z
  ·exact (pw j i hj hi z).symm
 have tup:∀ t ∈ its,∃ (o:Obj) (a b:List Value) (n:Nat),s.heap.get? t.1 = some o /\ o.cls = .type "tuple" /\ o.data = .seq (a ++ b).toArray n /\ IntsAre a t.2.1:=fun t ht => by
  obtain ⟨z,r',⟨o,ho,hc,n,hd'⟩,_⟩:=I.tuple (hits t ht).1
  obtain ⟨a,b,rfl,ra,rb⟩:∃ a b,z = a ++ b /\ Vals (t.2.1.map V.int) a /\ Vals t.2.2 b:=by
   clear hd' ho hc
   generalize t.2.1.map V.int = m at r'
   induction m generalizing z with
   | nil => exact ⟨[],z,rfl,.nil,r'⟩
   | cons x y ih =>
    cases r' with
    | cons x1 x2 =>
     obtain ⟨a,b,rfl,ra,rb⟩:=ih _ x2
     exact ⟨_ :: a,b,rfl,.cons x1 ra,rb⟩
  exact ⟨o,a,b,n,ho,hc,hd',intsAre_of ra⟩
 have cmp:2 <= (its.map fun t => Value.ref t.1).length -> Cmp X.prog X.w s s.heap.objs.size (its.map fun t => Value.ref t.1) (fun i j => lexB (num i) (num j)) (tuples' true):=fun two => by
  have far:∀ {b o},s.heap.get? b = some o -> b ≠ s.heap.objs.size:=fun e => Nat.ne_of_lt (Heap.lt_size e)
  refine ⟨lexB_weak num,fun A h Q' hk q' => ?_,fun A h i j C hk hi hj hn q' => ?_⟩
  ·have go:∀ l:List SIt,(∀ t ∈ l,t ∈ its) -> ∃ fs:List Value,KatTups h (l.map fun t => Value.ref t.1) fs /\ fs.length = l.length /\ ∀ v ∈ fs,∃ x y,v = Value.int x y:=by
    intro l
    induction l with
    | nil => intro _; exact ⟨[],.nil,rfl,fun v hv => by cases hv⟩
    | cons t r ih =>
     intro hm
     obtain ⟨fs,kt,e,al⟩:=ih fun u hu => hm u (List.mem_cons_of_mem _ hu)
     have ht:=hm t (List.mem_cons_self ..)
     obtain ⟨o,a,b,n,ho,hc,hd',ia⟩:=tup t ht
     obtain ⟨x,rest,ex⟩:∃ x rest,t.2.1 = x :: rest:=by
      have:=(hits t ht).2
      cases e':t.2.1 with
      | nil => rw [e'] at this; cases this
      | cons x rest => exact ⟨x,rest,rfl⟩
     rw [ex] at ia
     cases ia with
     | cons _ y ia' =>
      refine ⟨Value.int x y :: fs,KatTups.cons (hk _ _ (far ho) ho) hc hd' (by simp) kt,by simp [e],fun v hv => ?_⟩
      rcases List.mem_cons.mp hv with rfl | hv
      ·exact ⟨x,y,rfl⟩
      ·exact al v hv
   obtain ⟨fs,kt,e,al⟩:=go its fun _ h => h
   refine kat_kind (s:={ s with heap:=h }) (T:=.type "int") kt (by rw [e]; simp at two; ac_rfl) (fun v hv => ?_) (by decide) q'
   obtain ⟨x,y,rfl⟩:=al v hv
   exact Looks.of_pure rfl
  ·rw [len] at hi hj
   rw [get i hi,get j hj]
   obtain ⟨o,a,b,n,ho,hc,hd',ia⟩:=tup _ (mem i hi)
   obtain ⟨o2,a2,b2,n2,ho2,hc2,hd2,ia2⟩:=tup _ (mem j hj)
   refine kat_lt (s:={ s with heap:=h }) (hk _ _ (far ho) ho) hd' (hk _ _ (far ho2) ho2) hd2 ?_
   exact lex_ints _ _ a a2 b b2 0 ia ia2 (by rw [(hits _ (mem i hi)).2,(hits _ (mem j hj)).2]) (ne i j hi hj hn) q'
 refine sorted_by (lt:=fun i j => lexB (num i) (num j)) (κ:=tuples' true) pl.isList (by rw [len]; exact h64) cmp fun p' pm up => ?_
 rw [len] at pm up
 let its':=p'.toList.map fun i => its.getD i (0,[],[])
 have perm:its'.Perm its:=perm_of pm its rfl _
 have pw:its'.Pairwise (fun t u => lexB t.2.1 u.2.1 = true):=up_pairwise pm up its _ _ fun i j hi hj b => by
  rcases b.2 with z | z
  ·exact z
  ·rcases lexB_tot _ _ (ne i j hi hj (Nat.ne_of_lt z)) with y | y
   ·exact y
   ·have b1:lexB (num j) (num i) = false:=b.1
    rw [b1] at y; cases y
 have ep:picked (its.map fun t => Value.ref t.1) p' = its'.map fun t => Value.ref t.1:=by
  unfold picked
  rw [List.map_map]
  apply List.map_congr_left
  intro i hi
  exact get i (List.mem_range.mp (pm.list.mem_iff.mp hi))
 rw [ep]
 obtain ⟨c,at1⟩:=sortedAll_at s.heap (its.map fun t => Value.ref t.1) (its'.map fun t => Value.ref t.1).toArray
 have rel:∀ l:List SIt,Vals (l.map fun t => V.ref t.1) (l.map fun t => Value.ref t.1):=fun l => by
  induction l with
  | nil => exact .nil
  | cons t r ih => exact .cons rfl ih
 have hle:(its'.map fun t => V.ref t.1).length <= sizeLine:=by rw [sizeLine_eq,List.length_map,perm.length_eq]; ac_rfl
 exact ⟨.ref (s.heap.objs.size + 1),_,I.laid (t':=s.toks) (fun b o e => sortedAll_old e) (Nat.le_succ _) (show ObjOk X.prog X.w _ _ _ (.lst _) from ⟨hle,_,c,rel its',at1⟩),rfl,q its' perm pw _ (I.hok.fresh (Nat.le_succ _))⟩
theorem call_sortedI:CallR X (.builtin "sorted") (fun xs H Q => ∃ (p:Addr) (ns:List Int),xs = [.ref p] /\ SqL X.K H p (ns.map V.int) /\ ns.length < 64 /\ ∀ ms:List Int,ms.Perm ns -> ms.Pairwise (· <= ·) -> ∀ l,H l = none -> Q (.ref l) (upd H l (.lst (ms.map V.int)))):=by
 intro pins s σ H xs us Q I r h
 obtain ⟨p,ns,rfl,hl,h64,q⟩:=h
 obtain ⟨u,rfl,ru⟩:=vals1 r
 cases ru
 obtain ⟨vs,rv,pl,hz⟩:=I.list hl
 have ia:=intsAre_of rv
 refine sorted_ints pl.isList ia (by rw [ia.length]; exact h64) fun out ms hi hp hs => ?_
 obtain ⟨c,at1⟩:=sortedAll_at s.heap vs out
 have back:∀ {us:List Value} {ns:List Int},IntsAre us ns -> Vals (ns.map V.int) us:=fun h => by
  induction h with
  | nil => exact .nil
  | cons a t _ ih => exact .cons ⟨t,rfl⟩ ih
 have ea:out.toList.toArray = out:=by cases out; rfl
 have hle:(ms.map V.int).length <= sizeLine:=by rw [sizeLine_eq,List.length_map,hp.length_eq]; ac_rfl
 exact ⟨.ref (s.heap.objs.size + 1),_,I.laid (t':=s.toks) (fun b o e => sortedAll_old e) (Nat.le_succ _) (show ObjOk X.prog X.w _ _ _ (.lst _) from ⟨hle,out.toList,c,back hi,by rw [ea]; exact at1⟩),rfl,q ms hp hs _ (I.hok.fresh (Nat.le_succ _))⟩
end
end L2
namespace Z
open PySem PySem.Spec PyProof.Rows L2
section
variable {X:Cx} {e:Expr} {te:TEp} {pos:Pos}
def eDT:TEp:=fun _ Q => Q (.nw (.dit []))
theorem q_dnewT:QE X (.Dict [] [] pos) eDT:=
 ⟨fun ρ Q Q' w q => w _ q,fun HZ F => PE_imp pe_dnewT fun σ H Q ⟨ρ,fr,q⟩ p hp => q _ _ (Same.new' hp) ⟨p,rfl,hp,0,[],upd_same,.nil⟩⟩
noncomputable def putT (kvs:List (List Key × Dv)) (k:List Key) (d:Dv):List (List Key × Dv):=
 if kvs.any (fun kv => decide (kv.1 = k)) then kvs.map (fun kv => if kv.1 = k then (kv.1,d) else kv) else kvs ++ [(k,d)]
theorem RepT.any {K:W.Frag} {M:Addr -> Prop} {H:Hp} {k:List Key} {xs:List (List Key × V)} {ds:List (List Key × Dv)} (r:RepT K M H xs ds):xs.any (fun kv => decide (kv.1 = k)) = ds.any (fun kv => decide (kv.1 = k)):=
 r.ind (P:=fun xs ds => xs.any (fun kv => decide (kv.1 = k)) = ds.any (fun kv => decide (kv.1 = k))) rfl fun _ _ _ _ _ _ _ ih => by rw [List.any_cons,List.any_cons,ih]
theorem RepT.len {K:W.Frag} {M:Addr -> Prop} {H:Hp} {xs:List (List Key × V)} {ds:List (List Key × Dv)} (r:RepT K M H xs ds):xs.length = ds.length:=r.ind (P:=fun xs ds => xs.length = ds.length) rfl fun _ _ _ _ _ _ _ ih => congrArg (· + 1) ih
theorem RepT.snoc {K:W.Frag} {M:Addr -> Prop} {H:Hp} {k:List Key} {x:V} {d:Dv} (a:Rep K M H x d) {xs:List (List Key × V)} {ds:List (List Key × Dv)} (r:RepT K M H xs ds):RepT K M H (xs ++ [(k,x)]) (ds ++ [(k,d)]):=
 r.ind (P:=fun xs ds => RepT K M H (xs ++ [(k,x)]) (ds ++ [(k,d)])) (.cons a .nil) fun _ _ _ _ _ b _ ih => .cons b ih
theorem RepT.repl {K:W.Frag} {M:Addr -> Prop} {H:Hp} {k:List Key} {x:V} {d:Dv} (a:Rep K M H x d) {xs:List (List Key × V)} {ds:List (List Key × Dv)} (r:RepT K M H xs ds):
  RepT K M H (xs.map fun kv => if kv.1 = k then (kv.1,x) else kv) (ds.map fun kv => if kv.1 = k then (kv.1,d) else kv):=
 r.ind (P:=fun xs ds => RepT K M H (xs.map fun kv => if kv.1 = k then (kv.1,x) else kv) (ds.map fun kv => if kv.1 = k then (kv.1,d) else kv)) .nil fun k' _ _ _ _ b _ ih => by
  rw [List.map_cons,List.map_cons]
  by_cases e:k' = k
  ·rw [if_pos e,if_pos e]; exact .cons a ih
  ·rw [if_neg e,if_neg e]; exact .cons b ih
theorem RepT.put {K:W.Frag} {M:Addr -> Prop} {H:Hp} {k:List Key} {x:V} {d:Dv} {xs:List (List Key × V)} {ds:List (List Key × Dv)} (r:RepT K M H xs ds) (a:Rep K M H x d):RepT K M H (putK xs k x) (putT ds k d):=by
 unfold putK putT
 rw [r.any (k:=k)]
 split
 ·exact r.repl a
 ·exact r.snoc a
def sPut (i:Nat) (tk tv:TEp):TSp:=fun E ρ => match ρ[i]? with
 | some (.own a (.dit kvs)) => tv ρ fun r => tk ρ fun kk => ∃ k:List Key,kk.d = .tup (k.map kD) /\ (r.free = true /\ kvs.length < LIM) /\ E.nx (ρ.set i (.own a (.dit (putT kvs k r.d))))
 | _ => False
theorem q_put {i:Nat} {x:Str} {p1 p2:Pos} {k:Expr} {tk:TEp} (hu:X.A.units + 1 < cLine) (hv:PE X (.Name x p1) (tVar i)) (hk:QE X k tk) (he:QE X e te)
  (hs:swapsWith e (some (.Subscript (.Name x p1) k p2)) pos.line X.env = pure false:=by rfl):QS X (.Assign [.Subscript (.Name x p1) k p2] e pos) (sPut i tk te):=by
 refine ⟨fun E E' ρ w h => ?_,fun HZ F => PS_imp (ps_dput hu hv (hk.run HZ F) (he.run HZ F) hs) fun D σ H ⟨ρ,E,fr,h,en⟩ => ?_⟩
 ·unfold sPut at *
  split at h
  ·exact he.mono _ _ _ (fun r q => hk.mono _ _ _ (fun kk ⟨k,a,b,c⟩ => ⟨k,a,b,w.nx _ c⟩) q) h
  ·exact h
 ·unfold sPut at h
  split at h
  ·rename_i a kvs hx
   refine he.step fr h fun r y H1 q S1 r1 => ?_
   have fr1:=fr.mono S1
   obtain ⟨hs1,ep,vs,hv1,rv1⟩:=fr1.sl i _ hx
   refine ⟨_,hs1,hk.step fr1 q fun kk z H2 q S2 rk => ?_⟩
   obtain ⟨ks,ek,⟨qf,ql⟩,q2⟩:=q
   have ck:=rk.c
   rw [ek] at ck
   obtain ⟨b,zs,rfl,eb,rb⟩:=ck.tup
   have ez:zs = ks.map kV:=rb.keys
   have rep:=(r1.rep (fun a m => fr.dom m) qf).mono S2
   have hv2:=S2 _ _ hv1
   refine ⟨a,rfl,DPut.t hv2 (ez ▸ eb) (by rw [rv1.len]; exact lim_lt ql) fun ep2 => ?_⟩
   refine en.nx _ _ _ ((fr1.mono S2).write (d':=.dit (putT kvs ks r.d)) hx ⟨_,_,upd_same,?_⟩) q2
   have G:Gen X.K (MM F ρ) (MM F ρ) H2 (upd H2 a (.dT ep2 (putK vs ks y))):=Gen.write (.inr ⟨_,List.mem_of_getElem? hx⟩) (by rw [hv2]; trivial)
   exact ((rv1.gen (.mono S2)).put rep).gen G
  ·exact h.elim
def sClear (i:Nat):TSp:=fun E ρ => match ρ[i]? with
 | some (.own a (.lst _)) => E.nx (ρ.set i (.own a (.lst [])))
 | _ => False
theorem q_clear {i:Nat} {x:Str} {p1 p2 p3:Pos} (hv:PE X (.Name x p1) (tVar i)) (hs:swapsWith (.Call (.Attribute (.Name x p1) "clear" p2) [] [] p3) none pos.line X.env = pure false:=by rfl)
  (hbase:attributeBase (.Name x p1) "clear" X.env (eval (.Name x p1) X.env) = eval (.Name x p1) X.env:=by rfl) (hline:(p2.endLine == p3.line) = true:=by rfl):
  QS X (.Expr (.Call (.Attribute (.Name x p1) "clear" p2) [] [] p3) pos) (sClear i):=by
 refine ⟨fun E E' ρ w h => ?_,fun HZ F => PS_imp (ps_expr (pe_bm0 PySem.F.plainAttrs_list PySem.F.slot_list_clear PySem.F.type_list_clear mt_clear hv hbase hline) hs) fun D σ H ⟨ρ,E,fr,h,en⟩ => ?_⟩
 ·unfold sClear at *
  split at h
  ·exact w.nx _ h
  ·exact h
 ·unfold sClear at h
  split at h
  ·rename_i a xs hx
   obtain ⟨hs1,vs,hv1,rv1⟩:=fr.sl i _ hx
   refine ⟨_,hs1,.inl ⟨rfl,_,SqL.of hv1⟩,a,vs,rfl,rfl,hv1,?_⟩
   exact en.nx _ _ _ (fr.write (d':=.lst []) hx ⟨_,upd_same,.nil⟩) h
  ·exact h.elim
def sReverse (i:Nat):TSp:=fun E ρ => match ρ[i]? with
 | some (.own a (.lst xs)) => E.nx (ρ.set i (.own a (.lst xs.reverse)))
 | _ => False
noncomputable abbrev tI (t:List Int × List Dv):Dv:=.tup (t.1.map .int ++ t.2)
def pSorted:List Dv -> (R -> Prop) -> Prop
 | [.lst xs],Q => (∃ ns:List Int,xs = ns.map .int /\ ns.length < 64 /\ ∀ ms:List Int,ms.Perm ns -> ms.Pairwise (· <= ·) -> Q (.nw (.lst (ms.map .int)))) \/
  ∃ (ts:List (List Int × List Dv)) (k:Nat),xs = ts.map tI /\ ts.length < 64 /\ (∀ t ∈ ts,t.1.length = k + 1) /\ ts.Pairwise (fun t u => t.1 ≠ u.1) /\ ∀ ts':List (List Int × List Dv),ts'.Perm ts -> ts'.Pairwise (fun t u => lexB t.1 u.1 = true) -> Q (.nw (.lst (ts'.map tI)))
 | _,_ => False
theorem Reps.fore {K:W.Frag} {M:Addr -> Prop} {H:Hp}:∀ {ns:List Int} {xs:List V} {ds:List Dv},Reps K M H xs (ns.map .int ++ ds) -> ∃ ys,xs = ns.map V.int ++ ys /\ Reps K M H ys ds
 | [],xs,ds,r => ⟨xs,rfl,r⟩
 | n :: ns,_,ds,.cons a r => by
  obtain ⟨ys,e,r'⟩:=Reps.fore (ns:=ns) r
  cases a
  exact ⟨ys,by rw [e]; rfl,r'⟩
theorem perm_lift {α β:Type} {f:α -> β} {zs ws:List β} (hp:zs.Perm ws):∀ {its:List α},its.map f = ws -> ∃ jts:List α,jts.Perm its /\ zs = jts.map f:=by
 induction hp with
 | nil => intro its hz; exact ⟨its,.refl _,hz.symm⟩
 | cons x p ih =>
  intro its hz
  cases its with
  | nil => cases hz
  | cons t r =>
   rw [List.map_cons] at hz
   injection hz with h1 h2
   obtain ⟨j,hj,e⟩:=ih h2
   exact ⟨t :: j,hj.cons t,by rw [List.map_cons,h1,e]⟩
 | swap x y l =>
  intro its hz
  match its,hz with
  | t :: u :: r,hz =>
   simp only [List.map_cons,List.cons.injEq] at hz
   obtain ⟨h1,h2,h3⟩:=hz
   exact ⟨u :: t :: r,.swap _ _ _,by simp only [List.map_cons,h1,h2,h3]⟩
 | trans p1 p2 ih1 ih2 =>
  intro its hz
  obtain ⟨j,hj,e⟩:=ih2 hz
  obtain ⟨j2,hj2,e2⟩:=ih1 e.symm
  exact ⟨j2,hj2.trans hj,e2⟩
theorem cd_sorted:CallD X (.builtin "sorted") pSorted:=by
 refine ⟨fun ds Q Q' w h => ?_,_,call_sortedI.or call_sortedT,fun M O H xs ds Q c h => ?_⟩
 ·unfold pSorted at *
  split at h
  ·rcases h with ⟨ns,a,b,q⟩ | ⟨ts,k,a,b,c,d,q⟩
   ·exact .inl ⟨ns,a,b,fun ms x y => w _ (q ms x y)⟩
   ·exact .inr ⟨ts,k,a,b,c,d,fun ts' x y => w _ (q ts' x y)⟩
  ·exact h
 ·unfold pSorted at h
  split at h
  ·obtain ⟨x,rfl,cx⟩:=creps1 c
   obtain ⟨a,ys,rfl,ea,ra⟩:=cx.lst
   rcases h with ⟨ns,rfl,hl,q⟩ | ⟨ts,k,rfl,hl,hk,hd,q⟩
   ·have ey:ys = ns.map V.int:=by
     have ra':Reps X.K M H ys (ns.map .int ++ []):=by simpa using ra
     obtain ⟨zs,e,r'⟩:=ra'.fore
     cases r'
     simpa using e
    subst ey
    exact .inl ⟨a,ns,rfl,SqL.of ea,hl,fun ms hp hs l hl => q ms hp hs _ _ (Same.new' hl) (nw_lst hl (Reps.ints _))⟩
   ·-- what each item is,by its place
    have go:∀ {ys:List V} {ts:List (List Int × List Dv)},Reps X.K M H ys (ts.map tI) -> ∃ its:List (SIt × List Dv),ys = its.map (fun t => V.ref t.1.1) /\ ts = its.map (fun t => (t.1.2.1,t.2)) /\
      ∀ t ∈ its,H t.1.1 = some (.tup (t.1.2.1.map V.int ++ t.1.2.2)) /\ Reps X.K M H t.1.2.2 t.2:=by
     intro ys ts r
     induction ts generalizing ys with
     | nil => cases r; exact ⟨[],rfl,rfl,fun t ht => by cases ht⟩
     | cons t ts ih =>
      cases r with
      | cons u r =>
       obtain ⟨its,e1,e2,e3⟩:=ih r
       cases u with
       | tup hb rb =>
        obtain ⟨zs,e,rz⟩:=rb.fore
        subst e
        refine ⟨((_,t.1,zs),t.2) :: its,by rw [e1]; rfl,by rw [e2]; rfl,fun y hy => ?_⟩
        rcases List.mem_cons.mp hy with rfl | hy
        ·exact ⟨hb,rz⟩
        ·exact e3 y hy
    obtain ⟨its,rfl,rfl,al⟩:=go ra
    refine .inr ⟨a,its.map (·.1),k,rfl,by rw [List.map_map]; exact SqL.of ea,by simpa using hl,fun t ht => ?_,?_,fun its' hp hs l hl => ?_⟩
    ·obtain ⟨u,hu,rfl⟩:=List.mem_map.mp ht
     exact ⟨SqT.of (al u hu).1,hk _ (List.mem_map.mpr ⟨u,hu,rfl⟩)⟩
    ·rw [List.pairwise_map] at hd ⊢
     exact hd
    ·-- bring the plain parts along
     obtain ⟨jts,hj,rfl⟩:=perm_lift hp rfl
     have rr:∀ jts:List (SIt × List Dv),(∀ t ∈ jts,t ∈ its) -> Reps X.K M H (jts.map fun t => V.ref t.1.1) ((jts.map fun t => (t.1.2.1,t.2)).map tI):=by
      intro jts
      induction jts with
      | nil => intro _; exact .nil
      | cons t r ih =>
       intro hm
       have ht:=al t (hm t (List.mem_cons_self ..))
       have one:Reps X.K M H (t.1.2.1.map V.int ++ t.1.2.2) (t.1.2.1.map .int ++ t.2):=(Reps.ints _).append ht.2
       exact .cons (.tup ht.1 one) (ih fun u hu => hm u (List.mem_cons_of_mem _ hu))
     rw [List.map_map]
     show Q _ (upd H l (.lst (jts.map fun t => V.ref t.1.1)))
     refine q (jts.map fun t => (t.1.2.1,t.2)) (hj.map _) ?_ _ _ (Same.new' hl) (nw_lst hl (rr jts fun t ht => hj.mem_iff.mp ht))
     rw [List.pairwise_map] at hs ⊢
     exact hs
  ·exact h.elim
end
end Z
namespace Z
open PySem PySem.Spec PyProof.Rows L2
theorem pAdd_ii {i j:Int} {Q:R -> Prop}:(pAdd (.int i) (.int j) Q) = (Q (.v (.int (i + j)))):=rfl
theorem pSub_ii {i j:Int} {Q:R -> Prop}:(pSub (.int i) (.int j) Q) = (Q (.v (.int (i - j)))):=rfl
theorem pMul_ii {i j:Int} {Q:R -> Prop}:(pMul (.int i) (.int j) Q) = (CMulG i j /\ Q (.v (.int (i * j)))):=rfl
theorem pDiv_ii {i j:Int} {Q:R -> Prop}:(pDiv (.int i) (.int j) Q) = ((0 < j /\ j < 2 ^ 200) /\ Q (.v (.int (i / j)))):=rfl
theorem pDivG_ii {i j:Int} {Q:R -> Prop}:(pDivG (.int i) (.int j) Q) = ((j ≠ 0 /\ j.natAbs < 2 ^ 4000) /\ Q (.v (.int (i.fdiv j)))):=rfl
theorem pMod_ii {i j:Int} {Q:R -> Prop}:(pMod (.int i) (.int j) Q) = (0 < j /\ Q (.v (.int (i % j)))):=rfl
theorem pModG_ii {i j:Int} {Q:R -> Prop}:(pModG (.int i) (.int j) Q) = (j ≠ 0 /\ Q (.v (.int (i.fmod j)))):=rfl
theorem pPow_ii {i j:Int} {Q:R -> Prop}:(pPow (.int i) (.int j) Q) = (CPow i j /\ Q (.v (.int (i ^ j.toNat)))):=rfl
theorem pAdd_ll {xs ys:List Dv} {Q:R -> Prop}:(pAdd (.lst xs) (.lst ys) Q) = ((xs.length + ys.length <= LIM /\ Q (.nw (.lst (xs ++ ys))))):=rfl
theorem pAdd_ss {x y:Str} {Q:R -> Prop}:(pAdd (.str x) (.str y) Q) = ((x.length + y.length <= LIM /\ Q (.v (.str (x ++ y))))):=rfl
theorem pMul_li {xs:List Dv} {k:Int} {Q:R -> Prop}:(pMul (.lst xs) (.int k) Q) = (((-(2 ^ 63) <= k /\ k < 2 ^ 63 /\ xs.length * k.toNat <= LIM) /\ Q (.nw (.lst (List.replicate k.toNat xs).flatten)))):=rfl
theorem pI2_ii {f:Int -> Int -> Bool} {i j:Int} {Q:R -> Prop}:(pI2 f (.int i) (.int j) Q) = (Q (.v (.bl (f i j)))):=rfl
theorem pIsN_n {d:Dv} {Q:R -> Prop}:(pIsN d .non Q) = (Q (.v (.bl (isN d)))):=rfl
theorem pNotN_n {d:Dv} {Q:R -> Prop}:(pNotN d .non Q) = (Q (.v (.bl (!isN d)))):=rfl
theorem pIsB_b {d:Dv} {b:Bool} {Q:R -> Prop}:(pIsB d (.bl b) Q) = (Q (.v (.bl (isB b d)))):=rfl
theorem pNotB_b {d:Dv} {b:Bool} {Q:R -> Prop}:(pNotB d (.bl b) Q) = (Q (.v (.bl (!isB b d)))):=rfl
theorem pEq_ii {i j:Int} {Q:R -> Prop}:(pEq (.int i) (.int j) Q) = (Q (.v (.bl (decide (i = j))))):=rfl
theorem pNe_ii {i j:Int} {Q:R -> Prop}:(pNe (.int i) (.int j) Q) = (Q (.v (.bl (!decide (i = j))))):=rfl
theorem pEq_bl {x:Bool} {d:Dv} {Q:R -> Prop}:(pEq (.bl x) d Q) = (((okD 8 (.bl x) = true /\ okD 8 d = true) /\ Q (.v (.bl (eqD (.bl x) d))))):=rfl
theorem pNe_bl {x:Bool} {d:Dv} {Q:R -> Prop}:(pNe (.bl x) d Q) = (((okD 8 (.bl x) = true /\ okD 8 d = true) /\ Q (.v (.bl (!eqD (.bl x) d))))):=rfl
theorem pEq_tup {x:List Dv} {d:Dv} {Q:R -> Prop}:(pEq (.tup x) d Q) = (((okD 8 (.tup x) = true /\ okD 8 d = true) /\ Q (.v (.bl (eqD (.tup x) d))))):=rfl
theorem pNe_tup {x:List Dv} {d:Dv} {Q:R -> Prop}:(pNe (.tup x) d Q) = (((okD 8 (.tup x) = true /\ okD 8 d = true) /\ Q (.v (.bl (!eqD (.tup x) d))))):=rfl
theorem pEq_lst {x:List Dv} {d:Dv} {Q:R -> Prop}:(pEq (.lst x) d Q) = (((okD 8 (.lst x) = true /\ okD 8 d = true) /\ Q (.v (.bl (eqD (.lst x) d))))):=rfl
theorem pNe_lst {x:List Dv} {d:Dv} {Q:R -> Prop}:(pNe (.lst x) d Q) = (((okD 8 (.lst x) = true /\ okD 8 d = true) /\ Q (.v (.bl (!eqD (.lst x) d))))):=rfl
theorem pEq_str {x:Str} {d:Dv} {Q:R -> Prop}:(pEq (.str x) d Q) = (((okD 8 (.str x) = true /\ okD 8 d = true) /\ Q (.v (.bl (eqD (.str x) d))))):=rfl
theorem pNe_str {x:Str} {d:Dv} {Q:R -> Prop}:(pNe (.str x) d Q) = (((okD 8 (.str x) = true /\ okD 8 d = true) /\ Q (.v (.bl (!eqD (.str x) d))))):=rfl
theorem pEq_scr {x:List Int} {d:Dv} {Q:R -> Prop}:(pEq (.scr x) d Q) = (((okD 8 (.scr x) = true /\ okD 8 d = true) /\ Q (.v (.bl (eqD (.scr x) d))))):=rfl
theorem pNe_scr {x:List Int} {d:Dv} {Q:R -> Prop}:(pNe (.scr x) d Q) = (((okD 8 (.scr x) = true /\ okD 8 d = true) /\ Q (.v (.bl (!eqD (.scr x) d))))):=rfl
theorem pIx_l {xs:List Dv} {i:Int} {Q:R -> Prop}:(pIx (.lst xs) (.int i) Q) = ((match atI xs i with | some d => Q (.v d) | none => False)):=rfl
theorem pIx_t {xs:List Dv} {i:Int} {Q:R -> Prop}:(pIx (.tup xs) (.int i) Q) = ((match atI xs i with | some d => Q (.v d) | none => False)):=rfl
theorem pIx_s {ns:List Int} {i:Int} {Q:R -> Prop}:(pIx (.scr ns) (.int i) Q) = ((match atI ns i with | some n => Q (.v (.int n)) | none => False)):=rfl
theorem pSl_l {xs:List Dv} {lo hi:Option Int} {Q:R -> Prop}:(pSl (.lst xs) lo hi Q) = (Q (.nw (.lst (cut xs lo hi)))):=rfl
theorem pSl_s {ns:List Int} {lo hi:Option Int} {Q:R -> Prop}:(pSl (.scr ns) lo hi Q) = (Q (.nw (.lst ((cut ns lo hi).map .int)))):=rfl
theorem pSl_t {xs:List Dv} {lo hi:Option Int} {Q:R -> Prop}:(pSl (.tup xs) lo hi Q) = ((¬ (HT.sIx xs.length 0 lo = 0 /\ HT.sIx xs.length xs.length hi = xs.length) /\ Q (.v (.tup (cut xs lo hi))))):=rfl
theorem pLen_l {xs:List Dv} {Q:R -> Prop}:(pLen [(.lst xs)] Q) = (Q (.v (.int xs.length))):=rfl
theorem pLen_t {xs:List Dv} {Q:R -> Prop}:(pLen [(.tup xs)] Q) = (Q (.v (.int xs.length))):=rfl
theorem pLen_s {ns:List Int} {Q:R -> Prop}:(pLen [.scr ns] Q) = (Q (.v (.int ns.length))):=rfl
theorem pAbs_i {i:Int} {Q:R -> Prop}:(pAbs [.int i] Q) = (Q (.v (.int (if i < 0 then -i else i)))):=rfl
theorem pMin_i {i j:Int} {Q:R -> Prop}:(pMin2 [.int i,.int j] Q) = (Q (.v (.int (if j < i then j else i)))):=rfl
theorem pMax_i {i j:Int} {Q:R -> Prop}:(pMax2 [.int i,.int j] Q) = (Q (.v (.int (if j > i then j else i)))):=rfl
theorem pTuple_l {xs:List Dv} {Q:R -> Prop}:(pTuple [.lst xs] Q) = (Q (.v (.tup xs))):=rfl
theorem pTuple_t {xs:List Dv} {Q:R -> Prop}:(pTuple [.tup xs] Q) = (Q (.v (.tup xs))):=rfl
theorem pList_l {xs:List Dv} {Q:R -> Prop}:(pList [.lst xs] Q) = (Q (.nw (.lst xs))):=rfl
theorem pList_t {xs:List Dv} {Q:R -> Prop}:(pList [.tup xs] Q) = (Q (.nw (.lst xs))):=rfl
theorem pAll_l {ds:List Dv} {Q:R -> Prop}:(pAll [.lst ds] Q) = ((∃ bs:List Bool,ds = bs.map .bl /\ Q (.v (.bl (bs.all _root_.id))))):=rfl
theorem pSum_l {ds:List Dv} {Q:R -> Prop}:(pSum [.lst ds] Q) = ((∃ ns:List Int,ds = ns.map .int /\ Q (.v (.int ns.sum)))):=rfl
theorem Rd_v {d:Dv}:(R.d (.v d)) = (d):=rfl
theorem Rd_n {d:Dv}:(R.d (.nw d)) = (d):=rfl
theorem Rd_o {a:Addr} {d:Dv}:(R.d (.ow a d)) = (d):=rfl
theorem Ro_v {d:Dv}:(R.out (.v d)) = (.v d):=rfl
theorem Ro_n {d:Dv}:(R.out (.nw d)) = (.nw d):=rfl
theorem Ro_o {a:Addr} {d:Dv}:(R.out (.ow a d)) = (.nw d):=rfl
theorem Rf_v {d:Dv}:(R.free (.v d)) = (true):=rfl
theorem Rf_n {d:Dv}:(R.free (.nw d)) = (true):=rfl
theorem Rf_o {a:Addr} {d:Dv}:(R.free (.ow a d)) = (false):=rfl
theorem Rl_v {d:Dv}:(R.flat (.v d)) = (flatD d):=rfl
theorem Rl_n {d:Dv}:(R.flat (.nw d)) = (flatO d):=rfl
theorem Rl_o {a:Addr} {d:Dv}:(R.flat (.ow a d)) = (false):=rfl
theorem eqD_bb {a b:Bool}:(eqD (.bl a) (.bl b)) = ((a == b)):=by cases a <;> cases b <;> simp [eqD,pyD,PyData.eqv]
theorem compGo_nil {ρ0:List Sl} {g:TGp} {tt:TTp} {te:TEp} {acc:List Dv} {Q:R -> Prop}:(compGo ρ0 g tt te [] acc Q) = (Q (.nw (.lst acc))):=rfl
theorem compGo_cons {ρ0:List Sl} {g:TGp} {tt:TTp} {te:TEp} {d:Dv} {r acc:List Dv} {Q:R -> Prop}:(compGo ρ0 g tt te (d :: r) acc Q) = ((g d ρ0 fun ρ1 => tt ρ1 fun b => if b = true then te ρ1 fun v => (v.free = true /\ acc.length < LIM) /\ compGo ρ0 g tt te r (acc ++ [v.d]) Q else compGo ρ0 g tt te r acc Q)):=rfl
theorem atI_nat {α:Type} {xs:List α} {i:Int} (h0:0 <= i) (h1:i < xs.length):atI xs i = xs[i.toNat]?:=by
 unfold atI ixN
 rw [if_pos h0,if_pos h1]
 rfl
theorem atI_0 {α:Type} {x:α} {r:List α}:atI (x :: r) 0 = some x:=by rw [atI_nat (by decide) (by simp <;> ac_rfl)]; rfl
theorem atI_1 {α:Type} {x y:α} {r:List α}:atI (x :: y :: r) 1 = some y:=by rw [atI_nat (by decide) (by simp <;> ac_rfl)]; rfl
theorem atI_2 {α:Type} {x y z:α} {r:List α}:atI (x :: y :: z :: r) 2 = some z:=by rw [atI_nat (by decide) (by simp <;> ac_rfl)]; rfl
theorem atI_3 {α:Type} {x y z w:α} {r:List α}:atI (x :: y :: z :: w :: r) 3 = some w:=by rw [atI_nat (by decide) (by simp <;> ac_rfl)]; rfl
theorem atI_4 {α:Type} {x y z w v:α} {r:List α}:atI (x :: y :: z :: w :: v :: r) 4 = some v:=by rw [atI_nat (by decide) (by simp <;> ac_rfl)]; rfl
theorem isB_bb {b c:Bool}:isB b (.bl c) = (c == b):=rfl
theorem isB_int {b:Bool} {i:Int}:isB b (.int i) = false:=rfl
theorem isN_n:isN .non = true:=rfl
theorem isN_b {b:Bool}:isN (.bl b) = false:=rfl
theorem isN_i {i:Int}:isN (.int i) = false:=rfl
theorem isN_s {i:Str}:isN (.str i) = false:=rfl
theorem isN_t {i:List Dv}:isN (.tup i) = false:=rfl
theorem isN_l {i:List Dv}:isN (.lst i) = false:=rfl
theorem isN_o {C:Addr} {i:List (Str × Dv)}:isN (.obj C i) = false:=rfl
theorem truD_b {b:Bool}:truD (.bl b) = some b:=rfl
theorem truD_n:truD .non = some false:=rfl
theorem truD_i {i:Int}:truD (.int i) = some (i != 0):=rfl
theorem truD_l {xs:List Dv}:truD (.lst xs) = some (!xs.isEmpty):=rfl
theorem truD_t {xs:List Dv}:truD (.tup xs) = some (!xs.isEmpty):=rfl
theorem truD_k {xs:List (Key × Dv)}:truD (.dik xs) = some (!xs.isEmpty):=rfl
theorem truD_s {xs:List Int}:truD (.scr xs) = some (!xs.isEmpty):=rfl
theorem ixN_10:ixN 1 0 = some 0:=rfl
theorem ixN_20:ixN 2 0 = some 0:=rfl
theorem ixN_21:ixN 2 1 = some 1:=rfl
theorem ixN_30:ixN 3 0 = some 0:=rfl
theorem ixN_31:ixN 3 1 = some 1:=rfl
theorem ixN_32:ixN 3 2 = some 2:=rfl
theorem ixN_40:ixN 4 0 = some 0:=rfl
theorem ixN_41:ixN 4 1 = some 1:=rfl
theorem ixN_42:ixN 4 2 = some 2:=rfl
theorem ixN_43:ixN 4 3 = some 3:=rfl
theorem ixN_50:ixN 5 0 = some 0:=rfl
theorem ixN_51:ixN 5 1 = some 1:=rfl
theorem ixN_52:ixN 5 2 = some 2:=rfl
theorem ixN_53:ixN 5 3 = some 3:=rfl
theorem ixN_54:ixN 5 4 = some 4:=rfl
theorem rangeD_nil {lo:Int}:rangeD lo 0 = []:=rfl
theorem rangeD_cons {lo:Int} {n:Nat}:rangeD lo (n + 1) = .int lo :: rangeD (lo + 1) n:=by
 unfold rangeD
 rw [List.range_succ_eq_map,List.map_cons,List.map_map]
 congr 1
 ·simp
 ·apply List.map_congr_left
  intro k _
  show Dv.int _ = Dv.int _
  congr 1
  show lo + ((k + 1:Nat):Int) = lo + 1 + k
  ac_rfl
theorem pIAdd_ii {i j:Int} {Q:R -> Prop}:(pIAdd (.int i) (.int j) Q) = (Q (.v (.int (i + j)))):=rfl
theorem pISub_ii {i j:Int} {Q:R -> Prop}:(pISub (.int i) (.int j) Q) = (Q (.v (.int (i - j)))):=rfl
theorem pIMul_ii {i j:Int} {Q:R -> Prop}:(pIMul (.int i) (.int j) Q) = (CMulG i j /\ Q (.v (.int (i * j)))):=rfl
theorem cut_from {α:Type} {xs:List α} {k:Int} (h0:0 <= k):cut xs (some k) none = xs.drop k.toNat:=by
 unfold cut
 have e:HT.sIx xs.length 0 (some k) = min k.toNat xs.length:=by show (if k < 0 then _ else _) = _; rw [if_neg (by ac_rfl)]
 rw [e,HT.sIx_none]
 rcases Nat.le_total k.toNat xs.length with h | h
 ·rw [Nat.min_eq_left h]
  exact List.take_of_length_le (by rw [List.length_drop]; exact Nat.le_refl _)
 ·rw [Nat.min_eq_right h,List.drop_of_length_le (Nat.le_refl _),List.drop_of_length_le h,List.take_nil]
theorem cut_to {α:Type} {xs:List α} {k:Int} (h0:0 <= k):cut xs none (some k) = xs.take k.toNat:=by
 unfold cut
 have e:HT.sIx xs.length xs.length (some k) = min k.toNat xs.length:=by show (if k < 0 then _ else _) = _; rw [if_neg (by ac_rfl)]
 rw [e,HT.sIx_none,List.drop_zero,Nat.sub_zero]
 rcases Nat.le_total k.toNat xs.length with h | h
 ·rw [Nat.min_eq_left h]
 ·rw [Nat.min_eq_right h,List.take_of_length_le (Nat.le_refl _),List.take_of_length_le h]
theorem startM_c {a:Addr} {N:List Str} {d:Dv} {ds:List Dv}:startM a N (d :: ds) = .own a d :: (ds.map .v ++ List.replicate (N.length - (ds.length + 1)) .un):=rfl
theorem pShl_ii {i j:Int} {Q:R -> Prop}:(pShl (.int i) (.int j) Q) = (CPow i j /\ Q (.v (.int (i * 2 ^ j.toNat)))):=rfl
theorem pSorted_I {ns:List Int} {Q:R -> Prop} (h:ns.length < 64) (q:∀ ms:List Int,ms.Perm ns -> ms.Pairwise (· <= ·) -> Q (.nw (.lst (ms.map .int)))):pSorted [.lst (ns.map .int)] Q:=.inl ⟨ns,rfl,h,q⟩
theorem pSorted_T {ts:List (List Int × List Dv)} {k:Nat} {Q:R -> Prop} (h:ts.length < 64) (hk:∀ t ∈ ts,t.1.length = k + 1) (hd:ts.Pairwise (fun t u => t.1 ≠ u.1))
  (q:∀ ts':List (List Int × List Dv),ts'.Perm ts -> ts'.Pairwise (fun t u => lexB t.1 u.1 = true) -> Q (.nw (.lst (ts'.map tI)))):pSorted [.lst (ts.map tI)] Q:=.inr ⟨ts,k,rfl,h,hk,hd,q⟩
theorem kD_inj:∀ {a b:List Key},a.map kD = b.map kD -> a = b
 | [],[],_ => rfl
 | [],_ :: _,h => by cases h
 | _ :: _,[],h => by cases h
 | a :: r,b :: t,h => by
  rw [List.map_cons,List.map_cons] at h
  injection h with h1 h2
  have e:a = b:=by cases a <;> cases b <;> first | (injection h1 with h1; rw [h1]) | cases h1
  rw [e,kD_inj h2]
theorem pIx_d2 {kvs:List (List Key × Dv)} {a b:Int} {Q:R -> Prop}:(pIx (.dit kvs) (.tup [.int a,.int b]) Q) = (match kvs.find? (fun kv => decide (kv.1 = [Sum.inl a,Sum.inl b])) with | some kv => Q (.v kv.2) | none => False):=by
 apply propext
 constructor
 ·rintro ⟨k,e,h⟩
  have:k = [Sum.inl a,Sum.inl b]:=kD_inj (e.symm.trans rfl)
  subst this
  exact h
 ·exact fun h => ⟨[Sum.inl a,Sum.inl b],rfl,h⟩
theorem zc:(type_of% @beq_self_eq_true.{0}) /\ (type_of% @List.getElem?_cons_zero.{0}) /\ (type_of% @List.getElem?_cons_succ.{0}) /\ (type_of% @List.set_cons_zero.{0}) /\ (type_of% @List.set_cons_succ.{0}) /\ (type_of% @List.map_cons.{0,0}) /\ (type_of% @List.map_nil.{0,0}) /\ (type_of% @List.cons_append.{0}) /\ (type_of% @List.nil_append.{0}) /\ (type_of% @List.append_nil.{0}) /\ (type_of% @List.length_cons.{0}) /\ (type_of% @List.length_nil.{0}) /\ (type_of% @List.replicate_succ.{0}) /\ (type_of% @List.replicate_zero.{0}) /\ (type_of% @List.all_cons.{0}) /\ (type_of% @List.all_nil.{0}) /\ (type_of% @Option.getD_some.{0}) /\ (type_of% @Bool.and_true) /\ (type_of% @Bool.true_and) /\ (type_of% @if_true.{1}) /\ (type_of% @Bool.false_eq_true) /\ (type_of% @if_false.{1}) /\ (type_of% @true_and) /\ (type_of% @and_true) /\ (type_of% @true_or) /\ (type_of% @decide_eq_true_eq) /\ (type_of% @decide_true) /\ (type_of% @decide_false) /\ (type_of% @Bool.not_true) /\ (type_of% @Bool.not_false) /\ (type_of% @List.not_mem_nil.{0}) /\ (type_of% @false_imp_iff) /\ (type_of% @implies_true.{1}):=
 ⟨@beq_self_eq_true.{0},@List.getElem?_cons_zero.{0},@List.getElem?_cons_succ.{0},@List.set_cons_zero.{0},@List.set_cons_succ.{0},@List.map_cons.{0,0},@List.map_nil.{0,0},@List.cons_append.{0},@List.nil_append.{0},@List.append_nil.{0},@List.length_cons.{0},@List.length_nil.{0},@List.replicate_succ.{0},@List.replicate_zero.{0},@List.all_cons.{0},@List.all_nil.{0},@Option.getD_some.{0},@Bool.and_true,@Bool.true_and,@if_true.{1},@Bool.false_eq_true,@if_false.{1},@true_and,@and_true,@true_or,@decide_eq_true_eq,@decide_true,@decide_false,@Bool.not_true,@Bool.not_false,@List.not_mem_nil.{0},@false_imp_iff,@implies_true.{1}⟩
theorem zt:(type_of% @eDT.eq_1) /\ (type_of% @sPut.eq_1) /\ (type_of% @sClear.eq_1) /\ (type_of% @sReverse.eq_1) /\ (type_of% @pIx_d2) /\ (type_of% @eTR1.eq_1) /\ (type_of% @pShl_ii) /\ (type_of% @sExt.eq_1) /\ (type_of% @sAttr.eq_1) /\ (type_of% @eMake.eq_1) /\ (type_of% @sMov.eq_1) /\ (type_of% @eMeth.eq_1) /\ (type_of% @eFld.eq_1) /\ (type_of% @startI.eq_1) /\ (type_of% @startM_c) /\ (type_of% @sAsg.eq_1) /\ (type_of% @pIAdd_ii) /\ (type_of% @pISub_ii) /\ (type_of% @pIMul_ii) /\ (type_of% @iRange3.eq_1) /\ (type_of% @iEnumP.eq_1) /\ (type_of% @iZipP.eq_1) /\ (type_of% @eLR1.eq_1) /\ (type_of% @eLR2.eq_1) /\ (type_of% @sSeq.eq_1) /\ (type_of% @sNext.eq_1) /\ (type_of% @sBreak.eq_1) /\ (type_of% @sCont.eq_1) /\ (type_of% @sNever.eq_1) /\ (type_of% @sDrop.eq_1) /\ (type_of% @sRet.eq_1) /\ (type_of% @sRetN.eq_1) /\ (type_of% @sIf.eq_1) /\ (type_of% @sSet.eq_1) /\ (type_of% @sSetO.eq_1) /\ (type_of% @sFrz.eq_1) /\ (type_of% @freeze.eq_1) /\ (type_of% @sAug.eq_1) /\ (type_of% @sApp.eq_1) /\ (type_of% @sSetI.eq_1) /\ (type_of% @sFor.eq_1) /\ (type_of% @eVar.eq_1) /\ (type_of% @eC.eq_1) /\ (type_of% @eCons.eq_1) /\ (type_of% @eNil.eq_1) /\ (type_of% @eOp.eq_1) /\ (type_of% @eTest.eq_1) /\ (type_of% @eAnd.eq_1) /\ (type_of% @eOr.eq_1) /\ (type_of% @eNot.eq_1) /\ (type_of% @eAndV.eq_1) /\ (type_of% @eOrV.eq_1) /\ (type_of% @eNotV.eq_1) /\ (type_of% @eIf.eq_1) /\ (type_of% @eTup.eq_1) /\ (type_of% @eLst.eq_1) /\ (type_of% @eNeg.eq_1) /\ (type_of% @eTru.eq_1) /\ (type_of% @eCall.eq_1) /\ (type_of% @back.eq_1) /\ (type_of% @eCB.eq_1) /\ (type_of% @eIsi.eq_1) /\ (type_of% @eComp.eq_1) /\ (type_of% @tTrue.eq_1) /\ (type_of% @eSl.eq_1) /\ (type_of% @ePart.eq_1) /\ (type_of% @eNoPart.eq_1) /\ (type_of% @iSeq.eq_1) /\ (type_of% @iRange1.eq_1) /\ (type_of% @iRange2.eq_1) /\ (type_of% @gN.eq_1) /\ (type_of% @gT.eq_1) /\ (type_of% @startP.eq_1) /\ (type_of% @eChain.eq_1) /\ (type_of% @pAdd_ii) /\ (type_of% @pSub_ii) /\ (type_of% @pMul_ii) /\ (type_of% @pDiv_ii) /\ (type_of% @pDivG_ii) /\ (type_of% @pMod_ii) /\ (type_of% @pModG_ii) /\ (type_of% @pPow_ii) /\ (type_of% @pAdd_ll) /\ (type_of% @pAdd_ss) /\ (type_of% @pMul_li) /\ (type_of% @pI2_ii) /\ (type_of% @pIsN_n) /\ (type_of% @pNotN_n) /\ (type_of% @pIsB_b) /\ (type_of% @pNotB_b) /\ (type_of% @pEq_ii) /\ (type_of% @pNe_ii) /\ (type_of% @pEq_bl) /\ (type_of% @pNe_bl) /\ (type_of% @pEq_tup) /\ (type_of% @pNe_tup) /\ (type_of% @pEq_lst) /\ (type_of% @pNe_lst) /\ (type_of% @pEq_str) /\ (type_of% @pNe_str) /\ (type_of% @pEq_scr) /\ (type_of% @pNe_scr) /\ (type_of% @pIx_l) /\ (type_of% @pIx_t) /\ (type_of% @pIx_s) /\ (type_of% @pSl_l) /\ (type_of% @pSl_s) /\ (type_of% @pSl_t) /\ (type_of% @pLen_l) /\ (type_of% @pLen_t) /\ (type_of% @pLen_s) /\ (type_of% @pAbs_i) /\ (type_of% @pMin_i) /\ (type_of% @pMax_i) /\ (type_of% @pTuple_l) /\ (type_of% @pTuple_t) /\ (type_of% @pList_l) /\ (type_of% @pList_t) /\ (type_of% @pAll_l) /\ (type_of% @pSum_l) /\ (type_of% @compGo_nil) /\ (type_of% @compGo_cons) /\ (type_of% @pickP.eq_1):=
 ⟨@eDT.eq_1,@sPut.eq_1,@sClear.eq_1,@sReverse.eq_1,@pIx_d2,@eTR1.eq_1,@pShl_ii,@sExt.eq_1,@sAttr.eq_1,@eMake.eq_1,@sMov.eq_1,@eMeth.eq_1,@eFld.eq_1,@startI.eq_1,@startM_c,@sAsg.eq_1,@pIAdd_ii,@pISub_ii,@pIMul_ii,@iRange3.eq_1,@iEnumP.eq_1,@iZipP.eq_1,@eLR1.eq_1,@eLR2.eq_1,@sSeq.eq_1,@sNext.eq_1,@sBreak.eq_1,@sCont.eq_1,@sNever.eq_1,@sDrop.eq_1,@sRet.eq_1,@sRetN.eq_1,@sIf.eq_1,@sSet.eq_1,@sSetO.eq_1,@sFrz.eq_1,@freeze.eq_1,@sAug.eq_1,@sApp.eq_1,@sSetI.eq_1,@sFor.eq_1,@eVar.eq_1,@eC.eq_1,@eCons.eq_1,@eNil.eq_1,@eOp.eq_1,@eTest.eq_1,@eAnd.eq_1,@eOr.eq_1,@eNot.eq_1,@eAndV.eq_1,@eOrV.eq_1,@eNotV.eq_1,@eIf.eq_1,@eTup.eq_1,@eLst.eq_1,@eNeg.eq_1,@eTru.eq_1,@eCall.eq_1,@back.eq_1,@eCB.eq_1,@eIsi.eq_1,@eComp.eq_1,@tTrue.eq_1,@eSl.eq_1,@ePart.eq_1,@eNoPart.eq_1,@iSeq.eq_1,@iRange1.eq_1,@iRange2.eq_1,@gN.eq_1,@gT.eq_1,@startP.eq_1,@eChain.eq_1,@pAdd_ii,@pSub_ii,@pMul_ii,@pDiv_ii,@pDivG_ii,@pMod_ii,@pModG_ii,@pPow_ii,@pAdd_ll,@pAdd_ss,@pMul_li,@pI2_ii,@pIsN_n,@pNotN_n,@pIsB_b,@pNotB_b,@pEq_ii,@pNe_ii,@pEq_bl,@pNe_bl,@pEq_tup,@pNe_tup,@pEq_lst,@pNe_lst,@pEq_str,@pNe_str,@pEq_scr,@pNe_scr,@pIx_l,@pIx_t,@pIx_s,@pSl_l,@pSl_s,@pSl_t,@pLen_l,@pLen_t,@pLen_s,@pAbs_i,@pMin_i,@pMax_i,@pTuple_l,@pTuple_t,@pList_l,@pList_t,@pAll_l,@pSum_l,@compGo_nil,@compGo_cons,@pickP.eq_1⟩
theorem zo:(type_of% @Rd_v) /\ (type_of% @Rd_n) /\ (type_of% @Rd_o) /\ (type_of% @Ro_v) /\ (type_of% @Ro_n) /\ (type_of% @Ro_o) /\ (type_of% @Rf_v) /\ (type_of% @Rf_n) /\ (type_of% @Rf_o) /\ (type_of% @Rl_v) /\ (type_of% @Rl_n) /\ (type_of% @Rl_o) /\ (type_of% @eqD_bb) /\ (type_of% @forGo_nil) /\ (type_of% @forGo_cons) /\ (type_of% @isB_bb) /\ (type_of% @isB_int) /\ (type_of% @isN_n) /\ (type_of% @isN_b) /\ (type_of% @isN_i) /\ (type_of% @isN_s) /\ (type_of% @isN_t) /\ (type_of% @isN_l) /\ (type_of% @isN_o) /\ (type_of% @truD_b) /\ (type_of% @truD_n) /\ (type_of% @truD_i) /\ (type_of% @truD_l) /\ (type_of% @truD_t) /\ (type_of% @truD_k) /\ (type_of% @truD_s) /\ (type_of% @atI_0) /\ (type_of% @atI_1) /\ (type_of% @atI_2) /\ (type_of% @atI_3) /\ (type_of% @atI_4) /\ (type_of% @ixN_10) /\ (type_of% @ixN_20) /\ (type_of% @ixN_21) /\ (type_of% @ixN_30) /\ (type_of% @ixN_31) /\ (type_of% @ixN_32) /\ (type_of% @ixN_40) /\ (type_of% @ixN_41) /\ (type_of% @ixN_42) /\ (type_of% @ixN_43) /\ (type_of% @ixN_50) /\ (type_of% @ixN_51) /\ (type_of% @ixN_52) /\ (type_of% @ixN_53) /\ (type_of% @ixN_54):=
 ⟨@Rd_v,@Rd_n,@Rd_o,@Ro_v,@Ro_n,@Ro_o,@Rf_v,@Rf_n,@Rf_o,@Rl_v,@Rl_n,@Rl_o,@eqD_bb,@forGo_nil,@forGo_cons,@isB_bb,@isB_int,@isN_n,@isN_b,@isN_i,@isN_s,@isN_t,@isN_l,@isN_o,@truD_b,@truD_n,@truD_i,@truD_l,@truD_t,@truD_k,@truD_s,@atI_0,@atI_1,@atI_2,@atI_3,@atI_4,@ixN_10,@ixN_20,@ixN_21,@ixN_30,@ixN_31,@ixN_32,@ixN_40,@ixN_41,@ixN_42,@ixN_43,@ixN_50,@ixN_51,@ixN_52,@ixN_53,@ixN_54⟩
end Z
namespace Sf
structure Rw where
 x:Int
 y:Int
 m:Int
def Rw.up (r:Rw):Prop:=0 < r.y \/ (r.y = 0 /\ 0 < r.x)
noncomputable def crs (a b:Rw):Int:=a.x * b.y - b.x * a.y
noncomputable def place (v:Rw) (rows:List Rw):Nat:=rows.countP fun r => decide (0 < crs r v)
def Srt (rows:List Rw):Prop:=rows.Pairwise fun a b => 0 < crs a b
structure Pre (s:Int) (rows:List Rw):Prop where
 srt:Srt rows
 ok:∀ r ∈ rows,r.up /\ -s <= r.x /\ r.x <= s /\ r.y <= s /\ 1 <= r.m
noncomputable def many (rows:List Rw):Int:=(rows.map (·.m)).sum
structure Good (rows:List Rw):Prop where
 lo:2 <= rows.length
 hi:rows.length <= 6
 srt:Srt rows
 ok:∀ r ∈ rows,r.up /\ -999999999999 <= r.x /\ r.x <= 999999999999 /\ r.y <= 999999999999 /\ 1 <= r.m
 tot:many rows <= 12
noncomputable def kindsFrom:Nat -> List Rw -> List Int
 | _,[] => []
 | k,r :: rs => List.replicate r.m.toNat (k:Int) ++ kindsFrom (k + 1) rs
noncomputable abbrev kinds (rows:List Rw):List Int:=kindsFrom 0 rows
end Sf
namespace L2
open PySem PySem.Spec PyProof.Rows
section
variable {D:Ends} {σ:St} {H:Hp} {Q:VK} {t u:TS} {te ta tb tc:TE} {g:TG} {K:W.Frag}
end
end L2
namespace Z
open PySem PySem.Spec PyProof.Rows L2
theorem start_low {K:W.Frag} {H:Hp} {a:Addr} {ns:List Int} {sp:Fn} (h:∀ Q:R -> Prop,Q (.v (.bl true)) -> sp [.scr ns] Q) (hO:Only H) (hT:TabOk K H) (hS:SqL K H a (ns.map V.int)):low K sp [.ref a] H (fun v _ => v = .bl true) (fun _ _ _ => False):=by
 refine ⟨fun _ => False,[.scr ns],⟨fun _ z => z.elim,hT⟩,.cons (.scr ?_) .nil,h _ fun x H' S r => ?_⟩
 ·rcases hS with (h | h) | h
  ·rcases hO a with z | ⟨o,xs,z⟩
   ·rw [z] at h; cases h
   ·rw [z] at h; cases h
  ·exact .inl h
  ·exact .inr h
 ·have r':Rep K (fun _ => False) H' x (.bl true):=r
  cases r'
  rfl
end Z
namespace L2
open PySem PySem.Spec PyProof.Rows
section
variable {prog:Program} {w:World} {A:Around} {E:Value -> Shared -> Prop} {s:Shared}
end
section
variable {X:Cx}
end
end L2
namespace Z
open PySem PySem.Spec PyProof.Rows L2
section
variable {X:Cx}
end
end Z
namespace L2
open PySem PySem.Spec PyProof.Rows
section
variable {prog:Program} {w:World} {A:Around} {E:Value -> Shared -> Prop} {s:Shared}
end
end L2
namespace Z
open PySem PySem.Spec PyProof.Rows L2
section
variable {X:Cx} {tg l:Expr} {tl:TEp}
end
end Z
namespace L2
open PySem PySem.Spec PyProof.Rows PySem.W
noncomputable def gal:Bool -> Keyed -> Array Keyed -> Nat -> Nat -> Nat -> StateT SortSt Sem (Option Nat):=sortPriv% PySem.Builtin.gallop
noncomputable def mgLo:Array Keyed -> Array Keyed -> StateT SortSt Sem (Array Keyed):=sortPriv% PySem.Builtin.mergeLo
noncomputable def mgHi:Array Keyed -> Array Keyed -> StateT SortSt Sem (Array Keyed):=sortPriv% PySem.Builtin.mergeHi
section
variable {M:Model} {A:Around} {E:Value -> Shared -> Prop} {s:Shared}
structure Tm (M:Model) (A:Around) (E:Value -> Shared -> Prop) (s:Shared) (N:Nat) (lt:Nat -> Nat -> Bool) (it:Nat -> Keyed) (κ:SortKind):Prop where
 cmp:∀ i j,i < N -> j < N -> i ≠ j -> ∀ (st:SortSt) (Q:Option Bool -> SortSt -> Prop),kindOf st = κ -> Q (some (lt i j)) st -> wpS M A E s (lt' (it i) (it j)) Q st
 tot:∀ i j,i < N -> j < N -> i ≠ j -> lt i j = !lt j i
 tr:∀ i j k,i < N -> j < N -> k < N -> lt i j = true -> lt j k = true -> lt i k = true
theorem wpS_el {arr:Array Keyed} {i:Nat} {x:Keyed} {st:SortSt} {Q:Keyed -> SortSt -> Prop} (h:arr[i]? = some x) (q:Q x st):wpS M A E s (elem' arr i) Q st:=by
 rw [elem'_eq,h]
 exact wpS_pure q
theorem gal_ok {N:Nat} {lt:Nat -> Nat -> Bool} {it:Nat -> Keyed} {κ:SortKind} (T:Tm M A E s N lt it κ) {left:Bool} {x:Nat} {arr:Array Keyed} {base n hint:Nat} {f:Nat -> Nat} {st:SortSt} {Q:Option Nat -> SortSt -> Prop} (hk:kindOf st = κ) (hx:x < N)
  (ha:∀ i,i < n -> arr[base + i]? = some (it (f i))) (hf:∀ i,i < n -> f i < N /\ f i ≠ x) (up:∀ i j,i < j -> j < n -> lt (f i) (f j) = true) (hh:hint < n)
  (q:∀ k,k <= n -> (∀ i,i < k -> lt (f i) x = true) -> (∀ i,k <= i -> i < n -> lt x (f i) = true) -> Q (some k) st):wpS M A E s (gal left (it x) arr base n hint) Q st:=by
 have b1:∀ i (Q:Option Bool -> SortSt -> Prop),i < n -> Q (some (lt (f i) x)) st -> wpS M A E s (do
   let y <- elem' arr (base + i)
   if left = true then lt' y (it x) else do
    let r <- lt' (it x) y
    pure (r.map fun b => !b)) Q st:=fun i Q hi q => by
  obtain ⟨h1,h2⟩:=hf i hi
  refine wpS_bind (wpS_el (ha i hi) ?_)
  cases left with
  | true => exact T.cmp _ _ h1 hx h2 st Q hk q
  | false =>
   refine wpS_bind (T.cmp _ _ hx h1 (Ne.symm h2) st _ hk (wpS_pure ?_))
   rw [T.tot _ _ hx h1 (Ne.symm h2)]
   simpa using q
 have mon:∀ i j,i <= j -> j < n -> lt (f j) x = true -> lt (f i) x = true:=fun i j hij hj z => by
  by_cases e:i = j
  ·rw [e]; exact z
  ·exact T.tr _ _ _ (hf i (by ac_rfl)).1 (hf j hj).1 hx (up i j (by ac_rfl) hj) z
 show wpS M A E s (gal left (it x) arr base n hint) Q st
 unfold gal
 refine wpS_bind (b1 hint _ hh ?_)
 dsimp only
 cases y0:lt (f hint) x with
 | true =>
  rw [if_pos rfl]
  refine wpS_bind (wpS_mono (wpS_forRange (I:=fun i c st' => st = st' /\ ∃ l o,c = (none,l,o) /\ l < o /\ i + 1 <= o /\ hint + l < n /\ lt (f (hint + l)) x = true)
   (Q:=fun c st' => st = st' /\ ∃ l o,c = (none,l,o) /\ l < o /\ hint + l < n /\ lt (f (hint + l)) x = true /\ (hint + o < n -> lt (f (hint + o)) x = false)) ?_ ?_ ?_) ?_)
  ·rintro i c st' _ hi ⟨rfl,l,o,rfl,l1,l2,l3,l4⟩
   dsimp only
   by_cases z:o >= n - hint
   ·rw [if_pos z]
    exact wpS_pure ⟨rfl,l,o,rfl,l1,l3,l4,fun h => by ac_rfl⟩
   ·rw [if_neg z]
    refine wpS_bind (b1 (hint + o) _ (by ac_rfl) ?_)
    cases y:lt (f (hint + o)) x with
    | true =>
     dsimp only
     rw [if_neg (by decide)]
     exact wpS_pure ⟨rfl,_,_,rfl,by ac_rfl,by ac_rfl,by ac_rfl,y⟩
    | false =>
     dsimp only
     rw [if_pos (by decide)]
     exact wpS_pure ⟨rfl,l,o,rfl,l1,l3,l4,fun _ => y⟩
  ·rintro c st' ⟨rfl,l,o,rfl,l1,l2,l3,l4⟩
   exact ⟨rfl,l,o,rfl,l1,l3,l4,fun h => by ac_rfl⟩
  ·exact ⟨rfl,0,1,rfl,by ac_rfl,by ac_rfl,by ac_rfl,y0⟩
  rintro c st' ⟨rfl,l,o,rfl,l1,l3,l4,l5⟩
  dsimp only
  refine wpS_bind (wpS_mono (wpS_forRange (I:=fun i c st' => st = st' /\ ∃ lo hi,c = (none,lo,hi) /\ lo <= hi /\ hi <= n /\ hi - lo + i <= n /\ (∀ i,i < lo -> lt (f i) x = true) /\ (∀ i,hi <= i -> i < n -> lt (f i) x = false))
   (Q:=fun c st' => st = st' /\ ∃ k,c = (none,k,k) /\ k <= n /\ (∀ i,i < k -> lt (f i) x = true) /\ (∀ i,k <= i -> i < n -> lt (f i) x = false)) ?_ ?_ ?_) ?_)
  ·rintro i c st' _ hi ⟨rfl,lo,h,rfl,l1,l2,l3,l4,l5⟩
   dsimp only
   by_cases z:lo >= h
   ·rw [if_pos z]
    have e:lo = h:=by ac_rfl
    subst e
    exact wpS_pure ⟨rfl,lo,rfl,l2,l4,l5⟩
   ·rw [if_neg z]
    refine wpS_bind (b1 (lo + (h - lo) / 2) _ (by ac_rfl) ?_)
    cases y:lt (f (lo + (h - lo) / 2)) x with
    | true =>
     dsimp only
     rw [if_pos rfl]
     exact wpS_pure ⟨rfl,_,_,rfl,by ac_rfl,by ac_rfl,by ac_rfl,fun j hj => mon j _ (by ac_rfl) (by ac_rfl) y,l5⟩
    | false =>
     dsimp only
     rw [if_neg (by decide)]
     refine wpS_pure ⟨rfl,_,_,rfl,by ac_rfl,by ac_rfl,by ac_rfl,l4,fun j hj hn => ?_⟩
     cases y2:lt (f j) x with
     | false => rfl
     | true => rw [mon _ j hj hn y2] at y; cases y
  ·rintro c st' ⟨rfl,lo,h,rfl,l1,l2,l3,l4,l5⟩
   have e:lo = h:=by ac_rfl
   subst e
   exact ⟨rfl,lo,rfl,l2,l4,l5⟩
  ·exact ⟨rfl,_,_,rfl,by ac_rfl,by ac_rfl,by ac_rfl,fun j hj => mon j _ (by ac_rfl) l3 l4,fun j hj hn => by
    cases y2:lt (f j) x with
    | false => rfl
    | true => have z:=mon (hint + o) j (by ac_rfl) hn y2; rw [l5 (by ac_rfl)] at z; cases z⟩
  ·rintro c st' ⟨rfl,k,rfl,l2,l4,l5⟩
   exact wpS_pure (q k l2 l4 fun i hi hn => by rw [T.tot _ _ hx (hf i hn).1 (Ne.symm (hf i hn).2),l5 i hi hn]; rfl)
 | false =>
  rw [if_neg (by decide)]
  refine wpS_bind (wpS_mono (wpS_forRange (I:=fun i c st' => st = st' /\ ∃ l o,c = (none,l,o) /\ l < o /\ i + 1 <= o /\ l <= hint /\ lt (f (hint - l)) x = false)
   (Q:=fun c st' => st = st' /\ ∃ l o,c = (none,l,o) /\ l < o /\ l <= hint /\ lt (f (hint - l)) x = false /\ (o <= hint -> lt (f (hint - o)) x = true)) ?_ ?_ ?_) ?_)
  ·rintro i c st' _ hi ⟨rfl,l,o,rfl,l1,l2,l3,l4⟩
   dsimp only
   by_cases z:o >= hint + 1
   ·rw [if_pos z]
    exact wpS_pure ⟨rfl,l,o,rfl,l1,l3,l4,fun h => by ac_rfl⟩
   ·rw [if_neg z]
    refine wpS_bind (b1 (hint - o) _ (by ac_rfl) ?_)
    cases y:lt (f (hint - o)) x with
    | true =>
     dsimp only
     rw [if_pos rfl]
     exact wpS_pure ⟨rfl,l,o,rfl,l1,l3,l4,fun _ => y⟩
    | false =>
     dsimp only
     rw [if_neg (by decide)]
     exact wpS_pure ⟨rfl,_,_,rfl,by ac_rfl,by ac_rfl,by ac_rfl,y⟩
  ·rintro c st' ⟨rfl,l,o,rfl,l1,l2,l3,l4⟩
   exact ⟨rfl,l,o,rfl,l1,l3,l4,fun h => by ac_rfl⟩
  ·exact ⟨rfl,0,1,rfl,by ac_rfl,by ac_rfl,by ac_rfl,y0⟩
  rintro c st' ⟨rfl,l,o,rfl,l1,l3,l4,l5⟩
  dsimp only
  refine wpS_bind (wpS_mono (wpS_forRange (I:=fun i c st' => st = st' /\ ∃ lo hi,c = (none,lo,hi) /\ lo <= hi /\ hi <= n /\ hi - lo + i <= n /\ (∀ i,i < lo -> lt (f i) x = true) /\ (∀ i,hi <= i -> i < n -> lt (f i) x = false))
   (Q:=fun c st' => st = st' /\ ∃ k,c = (none,k,k) /\ k <= n /\ (∀ i,i < k -> lt (f i) x = true) /\ (∀ i,k <= i -> i < n -> lt (f i) x = false)) ?_ ?_ ?_) ?_)
  ·rintro i c st' _ hi ⟨rfl,lo,h,rfl,l1,l2,l3,l4,l5⟩
   dsimp only
   by_cases z:lo >= h
   ·rw [if_pos z]
    have e:lo = h:=by ac_rfl
    subst e
    exact wpS_pure ⟨rfl,lo,rfl,l2,l4,l5⟩
   ·rw [if_neg z]
    refine wpS_bind (b1 (lo + (h - lo) / 2) _ (by ac_rfl) ?_)
    cases y:lt (f (lo + (h - lo) / 2)) x with
    | true =>
     dsimp only
     rw [if_pos rfl]
     exact wpS_pure ⟨rfl,_,_,rfl,by ac_rfl,by ac_rfl,by ac_rfl,fun j hj => mon j _ (by ac_rfl) (by ac_rfl) y,l5⟩
    | false =>
     dsimp only
     rw [if_neg (by decide)]
     refine wpS_pure ⟨rfl,_,_,rfl,by ac_rfl,by ac_rfl,by ac_rfl,l4,fun j hj hn => ?_⟩
     cases y2:lt (f j) x with
     | false => rfl
     | true => rw [mon _ j hj hn y2] at y; cases y
  ·rintro c st' ⟨rfl,lo,h,rfl,l1,l2,l3,l4,l5⟩
   have e:lo = h:=by ac_rfl
   subst e
   exact ⟨rfl,lo,rfl,l2,l4,l5⟩
  ·exact ⟨rfl,_,_,rfl,by ac_rfl,by ac_rfl,by ac_rfl,fun j hj => mon j (hint - o) (by ac_rfl) (by ac_rfl) (l5 (by ac_rfl)),fun j hj hn => by
    cases y2:lt (f j) x with
    | false => rfl
    | true => have z:=mon (hint - l) j (by ac_rfl) hn y2; rw [l4] at z; cases z⟩
  ·rintro c st' ⟨rfl,k,rfl,l2,l4,l5⟩
   exact wpS_pure (q k l2 l4 fun i hi hn => by rw [T.tot _ _ hx (hf i hn).1 (Ne.symm (hf i hn).2),l5 i hi hn]; rfl)
end
end L2
namespace L2
open PySem PySem.Spec PyProof.Rows PySem.W
structure Mg (lt:Nat -> Nat -> Bool) (la lb lo:List Nat) (ia ib:Nat):Prop where
 pm:(lo ++ (la.drop ia ++ lb.drop ib)).Perm (la ++ lb)
 up:lo.Pairwise fun x y => lt x y = true
 lo:∀ o ∈ lo,∀ r ∈ la.drop ia ++ lb.drop ib,lt o r = true
structure Two (N:Nat) (lt:Nat -> Nat -> Bool) (la lb:List Nat):Prop where
 ua:la.Pairwise fun x y => lt x y = true
 ub:lb.Pairwise fun x y => lt x y = true
 nd:(la ++ lb).Nodup
 bd:∀ x ∈ la ++ lb,x < N
section
variable {N:Nat} {lt:Nat -> Nat -> Bool} {la lb lo:List Nat} {ia ib:Nat}
theorem Two.symm (T:Two N lt la lb):Two N lt lb la:=⟨T.ub,T.ua,(List.perm_append_comm.nodup_iff).mp T.nd,fun x hx => T.bd x (List.perm_append_comm.mem_iff.mp hx)⟩
theorem Mg.symm (m:Mg lt la lb lo ia ib):Mg lt lb la lo ib ia:=
 ⟨((List.perm_append_comm (l₁:=lb.drop ib) (l₂:=la.drop ia)).append_left lo).trans (m.pm.trans List.perm_append_comm),m.up,fun o ho r hr => m.lo o ho r (List.perm_append_comm.mem_iff.mp hr)⟩
theorem Mg.takeA (T:Two N lt la lb) (m:Mg lt la lb lo ia ib) (k:Nat) (h:∀ x ∈ (la.drop ia).take k,∀ r ∈ lb.drop ib,lt x r = true):Mg lt la lb (lo ++ (la.drop ia).take k) (ia + k) ib:=by
 have e:(la.drop ia).take k ++ la.drop (ia + k) = la.drop ia:=by rw [<- List.drop_drop,List.take_append_drop]
 have ud:(la.drop ia).Pairwise fun x y => lt x y = true:=T.ua.sublist (List.drop_sublist _ _)
 rw [<- e] at ud
 have ud2:=List.pairwise_append.mp ud
 refine ⟨?_,List.pairwise_append.mpr ⟨m.up,ud2.1,fun o ho x hx => m.lo o ho x ?_⟩,fun o ho r hr => ?_⟩
 ·have:=m.pm
  rw [<- e] at this
  simpa [List.append_assoc] using this
 ·exact List.mem_append_left _ (List.mem_of_mem_take hx)
 ·rcases List.mem_append.mp ho with ho | ho
  ·refine m.lo o ho r ?_
   rcases List.mem_append.mp hr with hr | hr
   ·exact List.mem_append_left _ (by rw [<- e]; exact List.mem_append_right _ hr)
   ·exact List.mem_append_right _ hr
  ·rcases List.mem_append.mp hr with hr | hr
   ·exact ud2.2.2 o ho r hr
   ·exact h o ho r hr
theorem Mg.takeB (T:Two N lt la lb) (m:Mg lt la lb lo ia ib) (k:Nat) (h:∀ x ∈ (lb.drop ib).take k,∀ r ∈ la.drop ia,lt x r = true):Mg lt la lb (lo ++ (lb.drop ib).take k) ia (ib + k):=
 (m.symm.takeA T.symm k h).symm
def Dn2 (lt:Nat -> Nat -> Bool) (la lb l:List Nat):Prop:=l.Perm (la ++ lb) /\ l.Pairwise fun x y => lt x y = true
theorem Mg.endA (T:Two N lt la lb) (m:Mg lt la lb lo ia ib) (h:∀ x ∈ la.drop ia,∀ r ∈ lb.drop ib,lt x r = true):Dn2 lt la lb (lo ++ la.drop ia ++ lb.drop ib):=by
 refine ⟨by rw [List.append_assoc]; exact m.pm,?_⟩
 rw [List.append_assoc]
 refine List.pairwise_append.mpr ⟨m.up,List.pairwise_append.mpr ⟨T.ua.sublist (List.drop_sublist _ _),T.ub.sublist (List.drop_sublist _ _),h⟩,m.lo⟩
theorem Mg.endB (T:Two N lt la lb) (m:Mg lt la lb lo ia ib) (h:∀ x ∈ lb.drop ib,∀ r ∈ la.drop ia,lt x r = true):Dn2 lt la lb (lo ++ lb.drop ib ++ la.drop ia):=by
 have:=m.symm.endA T.symm h
 exact ⟨this.1.trans List.perm_append_comm,this.2⟩
theorem drop_get {l:List Nat} {i:Nat} (h:i < l.length):l.drop i = l.getD i 0 :: l.drop (i + 1):=by
 rw [List.drop_eq_getElem_cons h]
 simp [List.getD,h]
theorem Two.headA (T:Two N lt la lb) (tr:∀ i j k,i < N -> j < N -> k < N -> lt i j = true -> lt j k = true -> lt i k = true) {x:Nat} (hx:x < N) (hi:ia < la.length) (h:lt x (la.getD ia 0) = true):∀ r ∈ la.drop ia,lt x r = true:=fun r hr => by
 rw [drop_get hi] at hr
 rcases List.mem_cons.mp hr with e | hr
 ·rw [e]; exact h
 ·have ud:(la.drop ia).Pairwise fun x y => lt x y = true:=T.ua.sublist (List.drop_sublist _ _)
  rw [drop_get hi] at ud
  have b1:la.getD ia 0 < N:=T.bd _ (List.mem_append_left _ (by rw [List.getD_eq_getElem?_getD,List.getElem?_eq_getElem hi]; exact List.getElem_mem hi))
  have b2:r < N:=T.bd r (List.mem_append_left _ (List.mem_of_mem_drop hr))
  exact tr _ _ _ hx b1 b2 h ((List.pairwise_cons.mp ud).1 r hr)
end
end L2
namespace L2
open PySem PySem.Spec PyProof.Rows PySem.W
section
variable {M:Model} {A:Around} {E:Value -> Shared -> Prop} {s:Shared} {N:Nat} {lt:Nat -> Nat -> Bool} {it:Nat -> Keyed} {κ:SortKind} {la lb:List Nat}
structure SEq (st st':SortSt):Prop where
 k:kindOf st' = kindOf st
 a:arrOf st' = arrOf st
 p:pendingOf st' = pendingOf st
 f:failedOf st' = failedOf st
theorem SEq.refl (st:SortSt):SEq st st:=⟨rfl,rfl,rfl,rfl⟩
noncomputable abbrev arK (it:Nat -> Keyed) (l:List Nat):Array Keyed:=(l.map it).toArray
theorem arK_get {l:List Nat} {i:Nat} (h:i < l.length):(arK it l)[i]? = some (it (l.getD i 0)):=by
 simp [List.getD,h]
theorem arK_push {l:List Nat} {x:Nat}:(arK it l).push (it x) = arK it (l ++ [x]):=by simp [arK]
theorem arK_app {l m:List Nat}:arK it l ++ arK it m = arK it (l ++ m):=by simp [arK]
theorem arK_size {l:List Nat}:(arK it l).size = l.length:=by simp [arK]
theorem arK_cut {l:List Nat} {i j:Nat}:(arK it l).extract i j = arK it ((l.drop i).take (j - i)):=by
 simp [arK,List.map_take,List.map_drop]
theorem arK_tail {l:List Nat} {i:Nat}:(arK it l).extract i l.length = arK it (l.drop i):=by
 rw [arK_cut,List.take_of_length_le (by simp)]
theorem Two.neAB (W:Two N lt la lb) {i j:Nat} (hi:i < la.length) (hj:j < lb.length):la.getD i 0 ≠ lb.getD j 0:=by
 have e1:la.getD i 0 = la[i]:=by simp [List.getD,hi]
 have e2:lb.getD j 0 = lb[j]:=by simp [List.getD,hj]
 rw [e1,e2]
 exact (List.nodup_append.mp W.nd).2.2 _ (List.getElem_mem hi) _ (List.getElem_mem hj)
theorem Two.ltA (W:Two N lt la lb) {i:Nat} (hi:i < la.length):la.getD i 0 < N:=W.bd _ (List.mem_append_left _ (by rw [List.getD_eq_getElem?_getD,List.getElem?_eq_getElem hi]; exact List.getElem_mem hi))
theorem Two.upA (W:Two N lt la lb) {i j:Nat} (hij:i < j) (hj:j < la.length):lt (la.getD i 0) (la.getD j 0) = true:=by
 have e1:la.getD i 0 = la[i]'(by ac_rfl):=by simp [List.getD,show i < la.length by ac_rfl]
 have e2:la.getD j 0 = la[j]:=by simp [List.getD,hj]
 rw [e1,e2]
 exact List.pairwise_iff_getElem.mp W.ua i j (by ac_rfl) hj hij
variable {lo:List Nat} {ia ib:Nat}
structure Trn (N:Nat) (lt:Nat -> Nat -> Bool):Prop where
 tr:∀ i j k,i < N -> j < N -> k < N -> lt i j = true -> lt j k = true -> lt i k = true
theorem _root_.L2.Tm.trn (T:Tm M A E s N lt it κ):Trn N lt:=⟨T.tr⟩
theorem Mg.stepB (T:Trn N lt) (W:Two N lt la lb) (m:Mg lt la lb lo ia ib) (hi:ia < la.length) (hj:ib < lb.length) (h:lt (lb.getD ib 0) (la.getD ia 0) = true):Mg lt la lb (lo ++ [lb.getD ib 0]) ia (ib + 1):=by
 have e:(lb.drop ib).take 1 = [lb.getD ib 0]:=by rw [drop_get hj]; rfl
 have:=m.takeB W 1 (by
  rw [e]
  intro x hx
  rw [List.mem_singleton.mp hx]
  exact W.headA T.tr (W.symm.ltA hj) hi h)
 rwa [e] at this
theorem Mg.stepA (T:Trn N lt) (W:Two N lt la lb) (m:Mg lt la lb lo ia ib) (hi:ia < la.length) (hj:ib < lb.length) (h:lt (la.getD ia 0) (lb.getD ib 0) = true):Mg lt la lb (lo ++ [la.getD ia 0]) (ia + 1) ib:=(m.symm.stepB T W.symm hj hi h).symm
theorem Mg.galA (T:Trn N lt) (W:Two N lt la lb) (m:Mg lt la lb lo ia ib) {k:Nat} (hj:ib < lb.length) (hk:k <= la.length - ia) (h:∀ i,i < k -> lt (la.getD (ia + i) 0) (lb.getD ib 0) = true):Mg lt la lb (lo ++ (la.drop ia).take k) (ia + k) ib:=
 m.takeA W k fun x hx r hr => by
  obtain ⟨i,hi,e⟩:=List.mem_iff_getElem.mp hx
  simp at hi
  have e2:x = la.getD (ia + i) 0:=by
   rw [<- e]
   simp [List.getD,show ia + i < la.length by ac_rfl]
  subst e2
  exact W.symm.headA T.tr (W.ltA (by ac_rfl)) hj (h i (by ac_rfl)) r hr
theorem Mg.galB (T:Trn N lt) (W:Two N lt la lb) (m:Mg lt la lb lo ia ib) {k:Nat} (hi:ia < la.length) (hk:k <= lb.length - ib) (h:∀ i,i < k -> lt (lb.getD (ib + i) 0) (la.getD ia 0) = true):Mg lt la lb (lo ++ (lb.drop ib).take k) ia (ib + k):=
 (m.symm.galA T W.symm hi hk h).symm
theorem Mg.doneA (W:Two N lt la lb) (m:Mg lt la lb lo ia ib) (h:ia = la.length \/ ib = lb.length):Dn2 lt la lb (lo ++ la.drop ia ++ lb.drop ib):=m.endA W fun x hx r hr => by
 rcases h with h | h
 ·rw [h,List.drop_length] at hx; cases hx
 ·rw [h,List.drop_length] at hr; cases hr
theorem Mg.lastA (W:Two N lt la lb) (m:Mg lt la lb lo ia ib) (hz:∀ r ∈ lb,lt r (la.getD (la.length - 1) 0) = true) (h:ia + 1 = la.length):Dn2 lt la lb (lo ++ lb.drop ib ++ la.drop ia):=m.endB W fun x hx r hr => by
 rw [drop_get (by ac_rfl),h,List.drop_length] at hr
 rw [List.mem_singleton.mp hr,show ia = la.length - 1 by ac_rfl]
 exact hz x (List.mem_of_mem_drop hx)
theorem gal_in (T:Tm M A E s N lt it κ) (W:Two N lt la lb) {left:Bool} {st:SortSt} {Q:Option Nat -> SortSt -> Prop} (hk:kindOf st = κ) (hi:ia < la.length) (hj:ib < lb.length)
  (q:∀ k,k <= la.length - ia -> (∀ i,i < k -> lt (la.getD (ia + i) 0) (lb.getD ib 0) = true) -> (∀ i,k <= i -> i < la.length - ia -> lt (lb.getD ib 0) (la.getD (ia + i) 0) = true) -> Q (some k) st):
  wpS M A E s (gal left (it (lb.getD ib 0)) (arK it la) ia (la.length - ia) 0) Q st:=
 gal_ok T (f:=fun i => la.getD (ia + i) 0) hk (W.symm.ltA hj) (fun i h => arK_get (by ac_rfl)) (fun i h => ⟨W.ltA (by ac_rfl),W.neAB (by ac_rfl) hj⟩) (fun i j h h2 => W.upA (by ac_rfl) (by ac_rfl)) (by ac_rfl) q
theorem mgLo_ok (T:Tm M A E s N lt it κ) (W:Two N lt la lb) {st:SortSt} {Q:Array Keyed -> SortSt -> Prop} (hk:kindOf st = κ) (ha:0 < la.length) (hb:0 < lb.length) (h0:lt (lb.getD 0 0) (la.getD 0 0) = true) (hz:∀ r ∈ lb,lt r (la.getD (la.length - 1) 0) = true)
  (q:∀ l st',Dn2 lt la lb l -> SEq st st' -> Q (arK it l) st'):wpS M A E s (mgLo (arK it la) (arK it lb)) Q st:=by
 have m0:Mg lt la lb [] 0 0:=⟨by simp,.nil,fun o ho => by cases ho⟩
 have m1:=m0.stepB T.trn W ha hb h0
 unfold mgLo
 refine wpS_bind (wpS_lift (wpAny_rule ⟨rfl,?_⟩))
 refine wpS_bind (wpS_el (arK_get hb) ?_)
 dsimp only
 simp only [arK_size,arK_tail,beq_iff_eq]
 rw [show #[it (lb.getD 0 0)] = arK it ([] ++ [lb.getD 0 0]) from rfl]
 simp only [arK_app]
 by_cases c1:1 = lb.length
 ·rw [if_pos c1]
  exact wpS_pure (q _ _ (by have:=m1.doneA W (.inr c1); simpa using this) (.refl st))
 rw [if_neg c1]
 by_cases c2:0 + 1 = la.length
 ·rw [if_pos c2]
  exact wpS_pure (q _ _ (by have:=m1.lastA W hz c2; simpa using this) (.refl st))
 rw [if_neg c2]
 refine wpS_bind (wpS_get ?_)
 refine wpS_bind (wpS_mono (wpS_forRange
  (I:=fun x c st' => SEq st st' /\ ∃ lo ia ib g,c = (none,arK it lo,ia,ib,g) /\ Mg lt la lb lo ia ib /\ ia + 1 < la.length /\ ib < lb.length /\ x + 1 <= ia + ib)
  (Q:=fun c st' => SEq st st' /\ ∃ l c',c = (some (arK it l),c') /\ Dn2 lt la lb l) ?step ?fin ?init) ?post)
 case fin =>
  rintro c st' ⟨_,lo,ia,ib,g,rfl,m,h1,h2,h3⟩
  ac_rfl
 case init => exact ⟨.refl st,_,_,_,_,rfl,m1,by ac_rfl,by ac_rfl,by ac_rfl⟩
 case post =>
  rintro c st' ⟨e,l,c',rfl,d⟩
  exact wpS_pure (q l st' d e)
 case step =>
  rintro x c st' _ hx ⟨e,lo,ia,ib,g,rfl,m,h1,h2,h3⟩
  dsimp only
  refine wpS_bind (wpS_mono (wpS_forRange
   (I:=fun y c st' => SEq st st' /\ ∃ lo ia' ib' ac bc,c = (none,arK it lo,ia',ib',ac,bc) /\ Mg lt la lb lo ia' ib' /\ ia' + 1 < la.length /\ ib' < lb.length /\ ia + ib + y <= ia' + ib')
   (Q:=fun c st' => SEq st st' /\ ((∃ l c',c = (some (arK it l),c') /\ Dn2 lt la lb l) \/ ∃ lo ia' ib' ac bc,c = (none,arK it lo,ia',ib',ac,bc) /\ Mg lt la lb lo ia' ib' /\ ia' + 1 < la.length /\ ib' < lb.length /\ ia + ib + 1 <= ia' + ib')) ?s1 ?f1 ?i1) ?p1)
  case i1 => exact ⟨e,_,_,_,_,_,rfl,m,h1,h2,Nat.le_refl _⟩
  case f1 =>
   rintro c st2 ⟨e2,lo2,ia2,ib2,ac,bc,rfl,m2,a1,a2,a3⟩
   exact ⟨e2,.inr ⟨_,_,_,_,_,rfl,m2,a1,a2,by ac_rfl⟩⟩
  case s1 =>
   rintro y c st2 _ hy ⟨e2,lo2,ia2,ib2,ac,bc,rfl,m2,a1,a2,a3⟩
   dsimp only
   refine wpS_bind (wpS_el (arK_get a2) (wpS_bind (wpS_el (arK_get (by ac_rfl)) (wpS_bind (T.cmp _ _ (W.symm.ltA a2) (W.ltA (by ac_rfl)) (Ne.symm (W.neAB (by ac_rfl) a2)) _ _ (e2.k.trans hk) ?_)))))
   cases y0:lt (lb.getD ib2 0) (la.getD ia2 0) with
   | true =>
    dsimp only
    rw [if_pos rfl]
    refine wpS_bind (wpS_el (arK_get a2) ?_)
    have m3:=m2.stepB T.trn W (by ac_rfl) a2 y0
    simp only [arK_push,arK_app]
    by_cases z:ib2 + 1 = lb.length
    ·rw [if_pos z]
     exact wpS_pure ⟨e2,.inl ⟨_,_,rfl,m3.doneA W (.inr z)⟩⟩
    ·rw [if_neg z]
     split
     ·exact wpS_pure ⟨e2,.inr ⟨_,_,_,_,_,rfl,m3,a1,by ac_rfl,by ac_rfl⟩⟩
     ·exact wpS_pure ⟨e2,_,_,_,_,_,rfl,m3,a1,by ac_rfl,by ac_rfl⟩
   | false =>
    dsimp only
    rw [if_neg (by decide)]
    refine wpS_bind (wpS_el (arK_get (by ac_rfl)) ?_)
    have y1:lt (la.getD ia2 0) (lb.getD ib2 0) = true:=by rw [T.tot _ _ (W.ltA (by ac_rfl)) (W.symm.ltA a2) (W.neAB (by ac_rfl) a2),y0]; rfl
    have m3:=m2.stepA T.trn W (by ac_rfl) a2 y1
    simp only [arK_push,arK_app]
    by_cases z:ia2 + 1 + 1 = la.length
    ·rw [if_pos z]
     exact wpS_pure ⟨e2,.inl ⟨_,_,rfl,m3.lastA W hz z⟩⟩
    ·rw [if_neg z]
     split
     ·exact wpS_pure ⟨e2,.inr ⟨_,_,_,_,_,rfl,m3,by ac_rfl,a2,by ac_rfl⟩⟩
     ·exact wpS_pure ⟨e2,_,_,_,_,_,rfl,m3,by ac_rfl,a2,by ac_rfl⟩
  case p1 =>
   rintro c st2 ⟨e2,⟨l,c',rfl,d⟩ | ⟨lo2,ia2,ib2,ac,bc,rfl,m2,a1,a2,a3⟩⟩
   ·exact wpS_pure ⟨e2,l,_,rfl,d⟩
   dsimp only
   refine wpS_bind (wpS_lift (wpAny_rule ⟨rfl,?_⟩))
   refine wpS_bind (wpS_mono (wpS_forRange
    (I:=fun y c st' => SEq st st' /\ ∃ lo ia' ib' g' ac bc,c = (none,arK it lo,ia',ib',g',ac,bc) /\ Mg lt la lb lo ia' ib' /\ ia' + 1 < la.length /\ ib' < lb.length /\ ia2 + ib2 + y <= ia' + ib')
    (Q:=fun c st' => SEq st st' /\ ((∃ l c',c = (some (arK it l),c') /\ Dn2 lt la lb l) \/ ∃ lo ia' ib' g' ac bc,c = (none,arK it lo,ia',ib',g',ac,bc) /\ Mg lt la lb lo ia' ib' /\ ia' + 1 < la.length /\ ib' < lb.length /\ ia2 + ib2 <= ia' + ib')) ?s2 ?f2 ?i2) ?p2)
   case i2 => exact ⟨e2,_,_,_,_,_,_,rfl,m2,a1,a2,Nat.le_refl _⟩
   case f2 =>
    rintro c st3 ⟨e3,lo3,ia3,ib3,g3,ac3,bc3,rfl,m3,b1,b2,b3⟩
    exact ⟨e3,.inr ⟨_,_,_,_,_,_,rfl,m3,b1,b2,by ac_rfl⟩⟩
   case p2 =>
    rintro c st3 ⟨e3,⟨l,c',rfl,d⟩ | ⟨lo3,ia3,ib3,g3,ac3,bc3,rfl,m3,b1,b2,b3⟩⟩
    ·exact wpS_pure ⟨e3,l,_,rfl,d⟩
    dsimp only
    refine wpS_bind (wpS_modify ?_)
    exact wpS_pure ⟨⟨e3.k,e3.a,e3.p,e3.f⟩,_,_,_,_,rfl,m3,b1,b2,by ac_rfl⟩
   case s2 =>
    rintro y c st3 _ hy ⟨e3,lo3,ia3,ib3,g3,ac3,bc3,rfl,m3,b1,b2,b3⟩
    dsimp only
    by_cases hg:g3 > 1
    ·rw [if_pos hg]
     refine wpS_bind (wpS_modify ?_)
     refine wpS_bind (wpS_el (arK_get b2) ?_)
     refine wpS_bind (gal_in (left:=false) (ia:=ia3) (ib:=ib3) T W (e3.k.trans hk) (by ac_rfl) b2 fun k k1 k2 k3 => ?_)
     dsimp only
     by_cases kz:k > 0
     ·rw [if_pos kz]
      have m4:=m3.galA T.trn W b2 k1 k2
      simp only [arK_cut,arK_app,show ia3 + k - ia3 = k by ac_rfl]
      by_cases z1:ia3 + k + 1 = la.length
      ·rw [if_pos z1]
       exact wpS_pure ⟨⟨e3.k,e3.a,e3.p,e3.f⟩,.inl ⟨_,_,rfl,m4.lastA W hz z1⟩⟩
      rw [if_neg z1]
      by_cases z2:ia3 + k = la.length
      ·rw [if_pos z2]
       exact wpS_pure ⟨⟨e3.k,e3.a,e3.p,e3.f⟩,.inl ⟨_,_,rfl,m4.doneA W (.inl z2)⟩⟩
      rw [if_neg z2]
      have hl:=k3 k (Nat.le_refl _) (by ac_rfl)
      refine wpS_bind (wpS_el (arK_get b2) ?_)
      have m5:=m4.stepB T.trn W (by ac_rfl) b2 hl
      simp only [arK_push,arK_app]
      by_cases z1:ib3 + 1 = lb.length
      ·rw [if_pos z1]
       exact wpS_pure ⟨⟨e3.k,e3.a,e3.p,e3.f⟩,.inl ⟨_,_,rfl,m5.doneA W (.inr z1)⟩⟩
      rw [if_neg z1]
      refine wpS_bind (wpS_el (arK_get (by ac_rfl)) ?_)
      refine wpS_bind (gal_in (left:=true) (ia:=ib3 + 1) (ib:=ia3 + k) T W.symm (e3.k.trans hk) (by ac_rfl) (by ac_rfl) fun j j1 j2 j3 => ?_)
      dsimp only
      by_cases jz:j > 0
      ·rw [if_pos jz]
       have m6:=m5.galB T.trn W (by ac_rfl) j1 j2
       simp only [arK_cut,arK_app,show ib3 + 1 + j - (ib3 + 1) = j by ac_rfl]
       by_cases z4:ib3 + 1 + j = lb.length
       ·rw [if_pos z4]
        exact wpS_pure ⟨⟨e3.k,e3.a,e3.p,e3.f⟩,.inl ⟨_,_,rfl,m6.doneA W (.inr z4)⟩⟩
       rw [if_neg z4]
       have hl2:=j3 j (Nat.le_refl _) (by ac_rfl)
       have m7:=m6.stepA T.trn W (by ac_rfl) (by ac_rfl) hl2
       refine wpS_bind (wpS_el (arK_get (by ac_rfl)) ?_)
       simp only [arK_push,arK_app]
       by_cases z3:ia3 + k + 1 + 1 = la.length
       ·rw [if_pos z3]
        exact wpS_pure ⟨⟨e3.k,e3.a,e3.p,e3.f⟩,.inl ⟨_,_,rfl,m7.lastA W hz z3⟩⟩
       rw [if_neg z3]
       by_cases z5:(decide (k < 7) && decide (j < 7)) = true
       ·rw [if_pos z5]
        exact wpS_pure ⟨⟨e3.k,e3.a,e3.p,e3.f⟩,.inr ⟨_,_,_,_,_,_,rfl,m7,by ac_rfl,by ac_rfl,by ac_rfl⟩⟩
       ·rw [if_neg z5]
        exact wpS_pure ⟨⟨e3.k,e3.a,e3.p,e3.f⟩,_,_,_,_,_,_,rfl,m7,by ac_rfl,by ac_rfl,by ac_rfl⟩
      ·rw [if_neg jz]
       have m6:=m5
       have hl2:=j3 0 (by ac_rfl) (by ac_rfl)
       rw [Nat.add_zero] at hl2
       have m7:=m6.stepA T.trn W (by ac_rfl) (by ac_rfl) hl2
       refine wpS_bind (wpS_el (arK_get (by ac_rfl)) ?_)
       simp only [arK_push,arK_app]
       by_cases z3:ia3 + k + 1 + 1 = la.length
       ·rw [if_pos z3]
        exact wpS_pure ⟨⟨e3.k,e3.a,e3.p,e3.f⟩,.inl ⟨_,_,rfl,m7.lastA W hz z3⟩⟩
       rw [if_neg z3]
       by_cases z5:(decide (k < 7) && decide (j < 7)) = true
       ·rw [if_pos z5]
        exact wpS_pure ⟨⟨e3.k,e3.a,e3.p,e3.f⟩,.inr ⟨_,_,_,_,_,_,rfl,m7,by ac_rfl,by ac_rfl,by ac_rfl⟩⟩
       ·rw [if_neg z5]
        exact wpS_pure ⟨⟨e3.k,e3.a,e3.p,e3.f⟩,_,_,_,_,_,_,rfl,m7,by ac_rfl,by ac_rfl,by ac_rfl⟩
     ·rw [if_neg kz]
      have m4:=m3
      have hl:=k3 0 (by ac_rfl) (by ac_rfl)
      rw [Nat.add_zero] at hl
      refine wpS_bind (wpS_el (arK_get b2) ?_)
      have m5:=m4.stepB T.trn W (by ac_rfl) b2 hl
      simp only [arK_push,arK_app]
      by_cases z1:ib3 + 1 = lb.length
      ·rw [if_pos z1]
       exact wpS_pure ⟨⟨e3.k,e3.a,e3.p,e3.f⟩,.inl ⟨_,_,rfl,m5.doneA W (.inr z1)⟩⟩
      rw [if_neg z1]
      refine wpS_bind (wpS_el (arK_get (by ac_rfl)) ?_)
      refine wpS_bind (gal_in (left:=true) (ia:=ib3 + 1) (ib:=ia3) T W.symm (e3.k.trans hk) (by ac_rfl) (by ac_rfl) fun j j1 j2 j3 => ?_)
      dsimp only
      by_cases jz:j > 0
      ·rw [if_pos jz]
       have m6:=m5.galB T.trn W (by ac_rfl) j1 j2
       simp only [arK_cut,arK_app,show ib3 + 1 + j - (ib3 + 1) = j by ac_rfl]
       by_cases z4:ib3 + 1 + j = lb.length
       ·rw [if_pos z4]
        exact wpS_pure ⟨⟨e3.k,e3.a,e3.p,e3.f⟩,.inl ⟨_,_,rfl,m6.doneA W (.inr z4)⟩⟩
       rw [if_neg z4]
       have hl2:=j3 j (Nat.le_refl _) (by ac_rfl)
       have m7:=m6.stepA T.trn W (by ac_rfl) (by ac_rfl) hl2
       refine wpS_bind (wpS_el (arK_get (by ac_rfl)) ?_)
       simp only [arK_push,arK_app]
       by_cases z3:ia3 + 1 + 1 = la.length
       ·rw [if_pos z3]
        exact wpS_pure ⟨⟨e3.k,e3.a,e3.p,e3.f⟩,.inl ⟨_,_,rfl,m7.lastA W hz z3⟩⟩
       rw [if_neg z3]
       by_cases z5:(decide (k < 7) && decide (j < 7)) = true
       ·rw [if_pos z5]
        exact wpS_pure ⟨⟨e3.k,e3.a,e3.p,e3.f⟩,.inr ⟨_,_,_,_,_,_,rfl,m7,by ac_rfl,by ac_rfl,by ac_rfl⟩⟩
       ·rw [if_neg z5]
        exact wpS_pure ⟨⟨e3.k,e3.a,e3.p,e3.f⟩,_,_,_,_,_,_,rfl,m7,by ac_rfl,by ac_rfl,by ac_rfl⟩
      ·rw [if_neg jz]
       have m6:=m5
       have hl2:=j3 0 (by ac_rfl) (by ac_rfl)
       rw [Nat.add_zero] at hl2
       have m7:=m6.stepA T.trn W (by ac_rfl) (by ac_rfl) hl2
       refine wpS_bind (wpS_el (arK_get (by ac_rfl)) ?_)
       simp only [arK_push,arK_app]
       by_cases z3:ia3 + 1 + 1 = la.length
       ·rw [if_pos z3]
        exact wpS_pure ⟨⟨e3.k,e3.a,e3.p,e3.f⟩,.inl ⟨_,_,rfl,m7.lastA W hz z3⟩⟩
       rw [if_neg z3]
       by_cases z5:(decide (k < 7) && decide (j < 7)) = true
       ·rw [if_pos z5]
        exact wpS_pure ⟨⟨e3.k,e3.a,e3.p,e3.f⟩,.inr ⟨_,_,_,_,_,_,rfl,m7,by ac_rfl,by ac_rfl,by ac_rfl⟩⟩
       ·rw [if_neg z5]
        exact wpS_pure ⟨⟨e3.k,e3.a,e3.p,e3.f⟩,_,_,_,_,_,_,rfl,m7,by ac_rfl,by ac_rfl,by ac_rfl⟩
    ·rw [if_neg hg]
     refine wpS_bind (wpS_modify ?_)
     refine wpS_bind (wpS_el (arK_get b2) ?_)
     refine wpS_bind (gal_in (left:=false) (ia:=ia3) (ib:=ib3) T W (e3.k.trans hk) (by ac_rfl) b2 fun k k1 k2 k3 => ?_)
     dsimp only
     by_cases kz:k > 0
     ·rw [if_pos kz]
      have m4:=m3.galA T.trn W b2 k1 k2
      simp only [arK_cut,arK_app,show ia3 + k - ia3 = k by ac_rfl]
      by_cases z1:ia3 + k + 1 = la.length
      ·rw [if_pos z1]
       exact wpS_pure ⟨⟨e3.k,e3.a,e3.p,e3.f⟩,.inl ⟨_,_,rfl,m4.lastA W hz z1⟩⟩
      rw [if_neg z1]
      by_cases z2:ia3 + k = la.length
      ·rw [if_pos z2]
       exact wpS_pure ⟨⟨e3.k,e3.a,e3.p,e3.f⟩,.inl ⟨_,_,rfl,m4.doneA W (.inl z2)⟩⟩
      rw [if_neg z2]
      have hl:=k3 k (Nat.le_refl _) (by ac_rfl)
      refine wpS_bind (wpS_el (arK_get b2) ?_)
      have m5:=m4.stepB T.trn W (by ac_rfl) b2 hl
      simp only [arK_push,arK_app]
      by_cases z1:ib3 + 1 = lb.length
      ·rw [if_pos z1]
       exact wpS_pure ⟨⟨e3.k,e3.a,e3.p,e3.f⟩,.inl ⟨_,_,rfl,m5.doneA W (.inr z1)⟩⟩
      rw [if_neg z1]
      refine wpS_bind (wpS_el (arK_get (by ac_rfl)) ?_)
      refine wpS_bind (gal_in (left:=true) (ia:=ib3 + 1) (ib:=ia3 + k) T W.symm (e3.k.trans hk) (by ac_rfl) (by ac_rfl) fun j j1 j2 j3 => ?_)
      dsimp only
      by_cases jz:j > 0
      ·rw [if_pos jz]
       have m6:=m5.galB T.trn W (by ac_rfl) j1 j2
       simp only [arK_cut,arK_app,show ib3 + 1 + j - (ib3 + 1) = j by ac_rfl]
       by_cases z4:ib3 + 1 + j = lb.length
       ·rw [if_pos z4]
        exact wpS_pure ⟨⟨e3.k,e3.a,e3.p,e3.f⟩,.inl ⟨_,_,rfl,m6.doneA W (.inr z4)⟩⟩
       rw [if_neg z4]
       have hl2:=j3 j (Nat.le_refl _) (by ac_rfl)
       have m7:=m6.stepA T.trn W (by ac_rfl) (by ac_rfl) hl2
       refine wpS_bind (wpS_el (arK_get (by ac_rfl)) ?_)
       simp only [arK_push,arK_app]
       by_cases z3:ia3 + k + 1 + 1 = la.length
       ·rw [if_pos z3]
        exact wpS_pure ⟨⟨e3.k,e3.a,e3.p,e3.f⟩,.inl ⟨_,_,rfl,m7.lastA W hz z3⟩⟩
       rw [if_neg z3]
       by_cases z5:(decide (k < 7) && decide (j < 7)) = true
       ·rw [if_pos z5]
        exact wpS_pure ⟨⟨e3.k,e3.a,e3.p,e3.f⟩,.inr ⟨_,_,_,_,_,_,rfl,m7,by ac_rfl,by ac_rfl,by ac_rfl⟩⟩
       ·rw [if_neg z5]
        exact wpS_pure ⟨⟨e3.k,e3.a,e3.p,e3.f⟩,_,_,_,_,_,_,rfl,m7,by ac_rfl,by ac_rfl,by ac_rfl⟩
      ·rw [if_neg jz]
       have m6:=m5
       have hl2:=j3 0 (by ac_rfl) (by ac_rfl)
       rw [Nat.add_zero] at hl2
       have m7:=m6.stepA T.trn W (by ac_rfl) (by ac_rfl) hl2
       refine wpS_bind (wpS_el (arK_get (by ac_rfl)) ?_)
       simp only [arK_push,arK_app]
       by_cases z3:ia3 + k + 1 + 1 = la.length
       ·rw [if_pos z3]
        exact wpS_pure ⟨⟨e3.k,e3.a,e3.p,e3.f⟩,.inl ⟨_,_,rfl,m7.lastA W hz z3⟩⟩
       rw [if_neg z3]
       by_cases z5:(decide (k < 7) && decide (j < 7)) = true
       ·rw [if_pos z5]
        exact wpS_pure ⟨⟨e3.k,e3.a,e3.p,e3.f⟩,.inr ⟨_,_,_,_,_,_,rfl,m7,by ac_rfl,by ac_rfl,by ac_rfl⟩⟩
       ·rw [if_neg z5]
        exact wpS_pure ⟨⟨e3.k,e3.a,e3.p,e3.f⟩,_,_,_,_,_,_,rfl,m7,by ac_rfl,by ac_rfl,by ac_rfl⟩
     ·rw [if_neg kz]
      have m4:=m3
      have hl:=k3 0 (by ac_rfl) (by ac_rfl)
      rw [Nat.add_zero] at hl
      refine wpS_bind (wpS_el (arK_get b2) ?_)
      have m5:=m4.stepB T.trn W (by ac_rfl) b2 hl
      simp only [arK_push,arK_app]
      by_cases z1:ib3 + 1 = lb.length
      ·rw [if_pos z1]
       exact wpS_pure ⟨⟨e3.k,e3.a,e3.p,e3.f⟩,.inl ⟨_,_,rfl,m5.doneA W (.inr z1)⟩⟩
      rw [if_neg z1]
      refine wpS_bind (wpS_el (arK_get (by ac_rfl)) ?_)
      refine wpS_bind (gal_in (left:=true) (ia:=ib3 + 1) (ib:=ia3) T W.symm (e3.k.trans hk) (by ac_rfl) (by ac_rfl) fun j j1 j2 j3 => ?_)
      dsimp only
      by_cases jz:j > 0
      ·rw [if_pos jz]
       have m6:=m5.galB T.trn W (by ac_rfl) j1 j2
       simp only [arK_cut,arK_app,show ib3 + 1 + j - (ib3 + 1) = j by ac_rfl]
       by_cases z4:ib3 + 1 + j = lb.length
       ·rw [if_pos z4]
        exact wpS_pure ⟨⟨e3.k,e3.a,e3.p,e3.f⟩,.inl ⟨_,_,rfl,m6.doneA W (.inr z4)⟩⟩
       rw [if_neg z4]
       have hl2:=j3 j (Nat.le_refl _) (by ac_rfl)
       have m7:=m6.stepA T.trn W (by ac_rfl) (by ac_rfl) hl2
       refine wpS_bind (wpS_el (arK_get (by ac_rfl)) ?_)
       simp only [arK_push,arK_app]
       by_cases z3:ia3 + 1 + 1 = la.length
       ·rw [if_pos z3]
        exact wpS_pure ⟨⟨e3.k,e3.a,e3.p,e3.f⟩,.inl ⟨_,_,rfl,m7.lastA W hz z3⟩⟩
       rw [if_neg z3]
       by_cases z5:(decide (k < 7) && decide (j < 7)) = true
       ·rw [if_pos z5]
        exact wpS_pure ⟨⟨e3.k,e3.a,e3.p,e3.f⟩,.inr ⟨_,_,_,_,_,_,rfl,m7,by ac_rfl,by ac_rfl,by ac_rfl⟩⟩
       ·rw [if_neg z5]
        exact wpS_pure ⟨⟨e3.k,e3.a,e3.p,e3.f⟩,_,_,_,_,_,_,rfl,m7,by ac_rfl,by ac_rfl,by ac_rfl⟩
      ·rw [if_neg jz]
       have m6:=m5
       have hl2:=j3 0 (by ac_rfl) (by ac_rfl)
       rw [Nat.add_zero] at hl2
       have m7:=m6.stepA T.trn W (by ac_rfl) (by ac_rfl) hl2
       refine wpS_bind (wpS_el (arK_get (by ac_rfl)) ?_)
       simp only [arK_push,arK_app]
       by_cases z3:ia3 + 1 + 1 = la.length
       ·rw [if_pos z3]
        exact wpS_pure ⟨⟨e3.k,e3.a,e3.p,e3.f⟩,.inl ⟨_,_,rfl,m7.lastA W hz z3⟩⟩
       rw [if_neg z3]
       by_cases z5:(decide (k < 7) && decide (j < 7)) = true
       ·rw [if_pos z5]
        exact wpS_pure ⟨⟨e3.k,e3.a,e3.p,e3.f⟩,.inr ⟨_,_,_,_,_,_,rfl,m7,by ac_rfl,by ac_rfl,by ac_rfl⟩⟩
       ·rw [if_neg z5]
        exact wpS_pure ⟨⟨e3.k,e3.a,e3.p,e3.f⟩,_,_,_,_,_,_,rfl,m7,by ac_rfl,by ac_rfl,by ac_rfl⟩
end
end L2
namespace L2
open PySem PySem.Spec PyProof.Rows PySem.W
noncomputable abbrev fl (lt:Nat -> Nat -> Bool):Nat -> Nat -> Bool:=fun x y => lt y x
section
variable {M:Model} {A:Around} {E:Value -> Shared -> Prop} {s:Shared} {N:Nat} {lt:Nat -> Nat -> Bool} {it:Nat -> Keyed} {κ:SortKind} {la lb lo:List Nat} {na nb:Nat}
theorem Trn.fl (T:Trn N lt):Trn N (fl lt):=⟨fun i j k a b c h1 h2 => T.tr k j i c b a h2 h1⟩
theorem Two.fl (W:Two N lt la lb):Two N (fl lt) la.reverse lb.reverse where
 ua:=List.pairwise_reverse.mpr W.ua
 ub:=List.pairwise_reverse.mpr W.ub
 nd:=by
  have:=W.nd
  refine (List.Perm.nodup_iff ?_).mp this
  exact (List.reverse_perm la).symm.append (List.reverse_perm lb).symm
 bd:=fun x hx => W.bd x (by simpa using hx)
structure Hg (lt:Nat -> Nat -> Bool) (la lb lo:List Nat) (na nb:Nat):Prop where
 m:Mg (fl lt) la.reverse lb.reverse lo (la.length - na) (lb.length - nb)
 a:na <= la.length
 b:nb <= lb.length
theorem rev_get {l:List Nat} {n:Nat} (h0:0 < n) (h:n <= l.length):l.reverse.getD (l.length - n) 0 = l.getD (n - 1) 0:=by
 simp only [List.getD_eq_getElem?_getD]
 rw [List.getElem?_reverse (by ac_rfl)]
 congr 2
 ac_rfl
theorem rev_drop {l:List Nat} {n:Nat} (h:n <= l.length):l.reverse.drop (l.length - n) = (l.take n).reverse:=by
 rw [List.drop_reverse]
 congr 2
 ac_rfl
theorem rev_cut {l:List Nat} {t n:Nat} (h1:t <= n) (h:n <= l.length):(l.reverse.drop (l.length - n)).take (n - t) = ((l.drop t).take (n - t)).reverse:=by
 rw [rev_drop h,List.take_reverse,List.length_take,Nat.min_eq_left h]
 congr 1
 rw [show n - (n - t) = t by ac_rfl,List.drop_take]
theorem Hg.symm (h:Hg lt la lb lo na nb):Hg lt lb la lo nb na:=⟨h.m.symm,h.b,h.a⟩
theorem Hg.stepA (T:Trn N lt) (W:Two N lt la lb) (h:Hg lt la lb lo na nb) (h1:0 < na) (h2:0 < nb) (z:lt (lb.getD (nb - 1) 0) (la.getD (na - 1) 0) = true):Hg lt la lb (lo ++ [la.getD (na - 1) 0]) (na - 1) nb:=by
 have a:=h.a
 have b:=h.b
 have:=h.m.stepA T.fl W.fl (by simp; ac_rfl) (by simp; ac_rfl) (by rw [rev_get h1 h.a,rev_get h2 h.b]; exact z)
 rw [rev_get h1 h.a,show la.length - na + 1 = la.length - (na - 1) by ac_rfl] at this
 exact ⟨this,by ac_rfl,h.b⟩
theorem Hg.stepB (T:Trn N lt) (W:Two N lt la lb) (h:Hg lt la lb lo na nb) (h1:0 < na) (h2:0 < nb) (z:lt (la.getD (na - 1) 0) (lb.getD (nb - 1) 0) = true):Hg lt la lb (lo ++ [lb.getD (nb - 1) 0]) na (nb - 1):=(h.symm.stepA T W.symm h2 h1 z).symm
theorem Hg.galA (T:Trn N lt) (W:Two N lt la lb) (h:Hg lt la lb lo na nb) {t:Nat} (h2:0 < nb) (ht:t <= na) (z:∀ i,t <= i -> i < na -> lt (lb.getD (nb - 1) 0) (la.getD i 0) = true):Hg lt la lb (lo ++ ((la.drop t).take (na - t)).reverse) t nb:=by
 have a:=h.a
 have b:=h.b
 have:=h.m.galA T.fl W.fl (k:=na - t) (by simp; ac_rfl) (by simp; ac_rfl) (fun i hi => by
  rw [rev_get h2 h.b,show la.length - na + i = la.length - (na - i) by ac_rfl,rev_get (by ac_rfl) (by ac_rfl)]
  exact z (na - i - 1) (by ac_rfl) (by ac_rfl))
 rw [rev_cut ht h.a,show la.length - na + (na - t) = la.length - t by ac_rfl] at this
 exact ⟨this,by ac_rfl,h.b⟩
theorem Hg.galB (T:Trn N lt) (W:Two N lt la lb) (h:Hg lt la lb lo na nb) {t:Nat} (h1:0 < na) (ht:t <= nb) (z:∀ i,t <= i -> i < nb -> lt (la.getD (na - 1) 0) (lb.getD i 0) = true):Hg lt la lb (lo ++ ((lb.drop t).take (nb - t)).reverse) na t:=(h.symm.galA T W.symm h1 ht z).symm
theorem Dn2.rev {l:List Nat} (d:Dn2 (fl lt) la.reverse lb.reverse l):Dn2 lt la lb l.reverse:=
 ⟨(List.reverse_perm l).trans (d.1.trans ((List.reverse_perm la).append (List.reverse_perm lb))),List.pairwise_reverse.mpr d.2⟩
theorem Hg.first (W:Two N lt la lb) (h:Hg lt la lb lo na nb) (z:∀ x ∈ la.take na,∀ r ∈ lb.take nb,lt r x = true):Dn2 lt la lb (lb.take nb ++ la.take na ++ lo.reverse):=by
 have:=(h.m.endA W.fl (by rw [rev_drop h.a,rev_drop h.b]; intro x hx r hr; exact z x (by simpa using hx) r (by simpa using hr))).rev
 rw [rev_drop h.a,rev_drop h.b] at this
 simpa using this
theorem Hg.done (W:Two N lt la lb) (h:Hg lt la lb lo na nb) (z:na = 0 \/ nb = 0):Dn2 lt la lb (la.take na ++ lb.take nb ++ lo.reverse):=by
 have:=h.first W (fun x hx r hr => by rcases z with z | z <;> subst z <;> first | (simp at hx; done) | (simp at hr; done))
 rcases z with z | z
 ·subst z
  simpa using this
 ·subst z
  simpa using this
end
end L2
namespace L2
open PySem PySem.Spec PyProof.Rows PySem.W
section
variable {M:Model} {A:Around} {E:Value -> Shared -> Prop} {s:Shared} {N:Nat} {lt:Nat -> Nat -> Bool} {it:Nat -> Keyed} {κ:SortKind} {la lb lo:List Nat} {na nb:Nat}
theorem arK_rev {l:List Nat}:(arK it l).reverse = arK it l.reverse:=by simp [arK]
theorem arK_head {l:List Nat} {n:Nat}:(arK it l).extract 0 n = arK it (l.take n):=by rw [arK_cut]; simp
theorem gal_hi (T:Tm M A E s N lt it κ) (W:Two N lt la lb) {left:Bool} {st:SortSt} {Q:Option Nat -> SortSt -> Prop} (hk:kindOf st = κ) (h1:0 < na) (ha:na <= la.length) (h2:0 < nb) (hb:nb <= lb.length)
  (q:∀ t,t <= na -> (∀ i,i < t -> lt (la.getD i 0) (lb.getD (nb - 1) 0) = true) -> (∀ i,t <= i -> i < na -> lt (lb.getD (nb - 1) 0) (la.getD i 0) = true) -> Q (some t) st):
  wpS M A E s (gal left (it (lb.getD (nb - 1) 0)) (arK it la) 0 na (na - 1)) Q st:=
 gal_ok T (f:=fun i => la.getD i 0) hk (W.symm.ltA (by ac_rfl)) (fun i h => by rw [Nat.zero_add]; exact arK_get (by ac_rfl)) (fun i h => ⟨W.ltA (by ac_rfl),W.neAB (by ac_rfl) (by ac_rfl)⟩) (fun i j h h2 => W.upA h (by ac_rfl)) (by ac_rfl) q
theorem mgHi_ok (T:Tm M A E s N lt it κ) (W:Two N lt la lb) {st:SortSt} {Q:Array Keyed -> SortSt -> Prop} (hk:kindOf st = κ) (ha:0 < la.length) (hb:0 < lb.length) (h0:∀ x ∈ la,lt (lb.getD 0 0) x = true) (hz:lt (lb.getD (lb.length - 1) 0) (la.getD (la.length - 1) 0) = true)
  (q:∀ l st',Dn2 lt la lb l -> SEq st st' -> Q (arK it l) st'):wpS M A E s (mgHi (arK it la) (arK it lb)) Q st:=by
 have m0:Hg lt la lb [] la.length lb.length:=⟨⟨by simpa using (List.reverse_perm la).append (List.reverse_perm lb) |>.trans (List.Perm.refl _) |>.symm.symm.trans ((List.reverse_perm la).append (List.reverse_perm lb)).symm,.nil,fun o ho => by cases ho⟩,Nat.le_refl _,Nat.le_refl _⟩
 have m1:=m0.stepA T.trn W ha hb hz
 have fst:∀ {lo na nb},Hg lt la lb lo na nb -> nb = 1 -> Dn2 lt la lb (lb.take nb ++ la.take na ++ lo.reverse):=fun {lo na nb} m e => m.first W fun x hx r hr => by
  subst e
  have er:r = lb.getD 0 0:=by
   cases lb with
   | nil => simp at hb
   | cons b l => simpa using hr
  rw [er]
  exact h0 x (List.mem_of_mem_take hx)
 unfold mgHi
 refine wpS_bind (wpS_lift (wpAny_rule ⟨rfl,?_⟩))
 simp only [arK_size]
 refine wpS_bind (wpS_el (arK_get (by ac_rfl)) ?_)
 simp only [arK_head,beq_iff_eq]
 rw [show #[it (la.getD (la.length - 1) 0)] = arK it ([] ++ [la.getD (la.length - 1) 0]) from rfl]
 simp only [arK_rev,arK_app]
 by_cases c1:la.length - 1 = 0
 ·rw [if_pos c1]
  exact wpS_pure (q _ _ (m1.done W (.inl c1)) (.refl st))
 rw [if_neg c1]
 by_cases c2:lb.length = 1
 ·rw [if_pos c2]
  exact wpS_pure (q _ _ (fst m1 c2) (.refl st))
 rw [if_neg c2]
 refine wpS_bind (wpS_get ?_)
 refine wpS_bind (wpS_mono (wpS_forRange
  (I:=fun x c st' => SEq st st' /\ ∃ lo na nb g,c = (none,na,nb,arK it lo,g) /\ Hg lt la lb lo na nb /\ 0 < na /\ 1 < nb /\ na + nb + x + 1 <= la.length + lb.length)
  (Q:=fun c st' => SEq st st' /\ ∃ l c',c = (some (arK it l),c') /\ Dn2 lt la lb l) ?step ?fin ?init) ?post)
 case fin =>
  rintro c st' ⟨_,lo,na,nb,g,rfl,m,h1,h2,h3⟩
  ac_rfl
 case init => exact ⟨.refl st,_,_,_,_,rfl,m1,by ac_rfl,by ac_rfl,by ac_rfl⟩
 case post =>
  rintro c st' ⟨e,l,c',rfl,d⟩
  exact wpS_pure (q l st' d e)
 case step =>
  rintro x c st' _ hx ⟨e,lo,na,nb,g,rfl,m,h1,h2,h3⟩
  dsimp only
  refine wpS_bind (wpS_mono (wpS_forRange
   (I:=fun y c st' => SEq st st' /\ ∃ lo na' nb' ac bc,c = (none,na',nb',arK it lo,ac,bc) /\ Hg lt la lb lo na' nb' /\ 0 < na' /\ 1 < nb' /\ na' + nb' + y <= na + nb)
   (Q:=fun c st' => SEq st st' /\ ((∃ l c',c = (some (arK it l),c') /\ Dn2 lt la lb l) \/ ∃ lo na' nb' ac bc,c = (none,na',nb',arK it lo,ac,bc) /\ Hg lt la lb lo na' nb' /\ 0 < na' /\ 1 < nb' /\ na' + nb' + 1 <= na + nb)) ?s1 ?f1 ?i1) ?p1)
  case i1 => exact ⟨e,_,_,_,_,_,rfl,m,h1,h2,Nat.le_refl _⟩
  case f1 =>
   rintro c st2 ⟨e2,lo2,na2,nb2,ac,bc,rfl,m2,a1,a2,a3⟩
   exact ⟨e2,.inr ⟨_,_,_,_,_,rfl,m2,a1,a2,by ac_rfl⟩⟩
  case s1 =>
   rintro y c st2 _ hy ⟨e2,lo2,na2,nb2,ac,bc,rfl,m2,a1,a2,a3⟩
   have pa:=m2.a
   have pb:=m2.b
   dsimp only
   refine wpS_bind (wpS_el (arK_get (by ac_rfl)) (wpS_bind (wpS_el (arK_get (by ac_rfl)) (wpS_bind (T.cmp _ _ (W.symm.ltA (by ac_rfl)) (W.ltA (by ac_rfl)) (Ne.symm (W.neAB (by ac_rfl) (by ac_rfl))) _ _ (e2.k.trans hk) ?_)))))
   cases y0:lt (lb.getD (nb2 - 1) 0) (la.getD (na2 - 1) 0) with
   | true =>
    dsimp only
    rw [if_pos rfl]
    refine wpS_bind (wpS_el (arK_get (by ac_rfl)) ?_)
    have m3:=m2.stepA T.trn W a1 (by ac_rfl) y0
    simp only [arK_push,arK_rev,arK_app]
    by_cases z:na2 - 1 = 0
    ·rw [if_pos z]
     exact wpS_pure ⟨e2,.inl ⟨_,_,rfl,m3.done W (.inl z)⟩⟩
    ·rw [if_neg z]
     split
     ·exact wpS_pure ⟨e2,.inr ⟨_,_,_,_,_,rfl,m3,by ac_rfl,a2,by ac_rfl⟩⟩
     ·exact wpS_pure ⟨e2,_,_,_,_,_,rfl,m3,by ac_rfl,a2,by ac_rfl⟩
   | false =>
    dsimp only
    rw [if_neg (by decide)]
    refine wpS_bind (wpS_el (arK_get (by ac_rfl)) ?_)
    have y1:lt (la.getD (na2 - 1) 0) (lb.getD (nb2 - 1) 0) = true:=by rw [T.tot _ _ (W.ltA (by ac_rfl)) (W.symm.ltA (by ac_rfl)) (W.neAB (by ac_rfl) (by ac_rfl)),y0]; rfl
    have m3:=m2.stepB T.trn W a1 (by ac_rfl) y1
    simp only [arK_push,arK_rev,arK_app]
    by_cases z:nb2 - 1 = 1
    ·rw [if_pos z]
     exact wpS_pure ⟨e2,.inl ⟨_,_,rfl,fst m3 z⟩⟩
    ·rw [if_neg z]
     split
     ·exact wpS_pure ⟨e2,.inr ⟨_,_,_,_,_,rfl,m3,a1,by ac_rfl,by ac_rfl⟩⟩
     ·exact wpS_pure ⟨e2,_,_,_,_,_,rfl,m3,a1,by ac_rfl,by ac_rfl⟩
  case p1 =>
   rintro c st2 ⟨e2,⟨l,c',rfl,d⟩ | ⟨lo2,na2,nb2,ac,bc,rfl,m2,a1,a2,a3⟩⟩
   ·exact wpS_pure ⟨e2,l,_,rfl,d⟩
   dsimp only
   refine wpS_bind (wpS_lift (wpAny_rule ⟨rfl,?_⟩))
   refine wpS_bind (wpS_mono (wpS_forRange
    (I:=fun y c st' => SEq st st' /\ ∃ lo na' nb' g' ac bc,c = (none,na',nb',arK it lo,g',ac,bc) /\ Hg lt la lb lo na' nb' /\ 0 < na' /\ 1 < nb' /\ na' + nb' + y <= na2 + nb2)
    (Q:=fun c st' => SEq st st' /\ ((∃ l c',c = (some (arK it l),c') /\ Dn2 lt la lb l) \/ ∃ lo na' nb' g' ac bc,c = (none,na',nb',arK it lo,g',ac,bc) /\ Hg lt la lb lo na' nb' /\ 0 < na' /\ 1 < nb' /\ na' + nb' <= na2 + nb2)) ?s2 ?f2 ?i2) ?p2)
   case i2 => exact ⟨e2,_,_,_,_,_,_,rfl,m2,a1,a2,Nat.le_refl _⟩
   case f2 =>
    rintro c st3 ⟨e3,lo3,na3,nb3,g3,ac3,bc3,rfl,m3,b1,b2,b3⟩
    exact ⟨e3,.inr ⟨_,_,_,_,_,_,rfl,m3,b1,b2,by ac_rfl⟩⟩
   case p2 =>
    rintro c st3 ⟨e3,⟨l,c',rfl,d⟩ | ⟨lo3,na3,nb3,g3,ac3,bc3,rfl,m3,b1,b2,b3⟩⟩
    ·exact wpS_pure ⟨e3,l,_,rfl,d⟩
    dsimp only
    refine wpS_bind (wpS_modify ?_)
    exact wpS_pure ⟨⟨e3.k,e3.a,e3.p,e3.f⟩,_,_,_,_,rfl,m3,b1,b2,by ac_rfl⟩
   case s2 =>
    rintro y c st3 _ hy ⟨e3,lo3,na3,nb3,g3,ac3,bc3,rfl,m3,b1,b2,b3⟩
    have pa:=m3.a
    have pb:=m3.b
    dsimp only
    by_cases hg:g3 > 1
    ·rw [if_pos hg]
     refine wpS_bind (wpS_modify ?_)
     refine wpS_bind (wpS_el (arK_get (by ac_rfl)) ?_)
     refine wpS_bind (gal_hi (left:=false) (na:=na3) (nb:=nb3) T W (e3.k.trans hk) b1 pa (by ac_rfl) pb fun t k1 k2 k3 => ?_)
     dsimp only
     by_cases kz:na3 - t > 0
     ·rw [if_pos kz]
      have m4:=m3.galA T.trn W (by ac_rfl) k1 k3
      try simp only [arK_cut,arK_rev,arK_app]
      by_cases z0:t = 0
      ·rw [if_pos z0]
       exact wpS_pure ⟨⟨e3.k,e3.a,e3.p,e3.f⟩,.inl ⟨_,_,rfl,m4.done W (.inl z0)⟩⟩
      rw [if_neg z0]
      have hl:=k2 (t - 1) (by ac_rfl)
      refine wpS_bind (wpS_el (arK_get (by ac_rfl)) ?_)
      have m5:=m4.stepB T.trn W (by ac_rfl) (by ac_rfl) hl
      simp only [arK_push,arK_rev,arK_app]
      by_cases z1:nb3 - 1 = 1
      ·rw [if_pos z1]
       exact wpS_pure ⟨⟨e3.k,e3.a,e3.p,e3.f⟩,.inl ⟨_,_,rfl,fst m5 z1⟩⟩
      rw [if_neg z1]
      refine wpS_bind (wpS_el (arK_get (by ac_rfl)) ?_)
      refine wpS_bind (gal_hi (left:=true) (na:=nb3 - 1) (nb:=t) T W.symm (e3.k.trans hk) (by ac_rfl) (by ac_rfl) (by ac_rfl) (by ac_rfl) fun u j1 j2 j3 => ?_)
      dsimp only
      by_cases jz:nb3 - 1 - u > 0
      ·rw [if_pos jz]
       have m6:=m5.galB T.trn W (by ac_rfl) j1 j3
       try simp only [arK_cut,arK_rev,arK_app]
       by_cases z4:u = 1
       ·rw [if_pos z4]
        exact wpS_pure ⟨⟨e3.k,e3.a,e3.p,e3.f⟩,.inl ⟨_,_,rfl,fst m6 z4⟩⟩
       rw [if_neg z4]
       by_cases z6:u = 0
       ·rw [if_pos z6]
        exact wpS_pure ⟨⟨e3.k,e3.a,e3.p,e3.f⟩,.inl ⟨_,_,rfl,m6.done W (.inr z6)⟩⟩
       rw [if_neg z6]
       have hl2:=j2 (u - 1) (by ac_rfl)
       have m7:=m6.stepA T.trn W (by ac_rfl) (by ac_rfl) hl2
       refine wpS_bind (wpS_el (arK_get (by ac_rfl)) ?_)
       simp only [arK_push,arK_rev,arK_app]
       by_cases z3:t - 1 = 0
       ·rw [if_pos z3]
        exact wpS_pure ⟨⟨e3.k,e3.a,e3.p,e3.f⟩,.inl ⟨_,_,rfl,m7.done W (.inl z3)⟩⟩
       rw [if_neg z3]
       by_cases z5:(decide (na3 - t < 7) && decide (nb3 - 1 - u < 7)) = true
       ·rw [if_pos z5]
        exact wpS_pure ⟨⟨e3.k,e3.a,e3.p,e3.f⟩,.inr ⟨_,_,_,_,_,_,rfl,m7,by ac_rfl,by ac_rfl,by ac_rfl⟩⟩
       ·rw [if_neg z5]
        exact wpS_pure ⟨⟨e3.k,e3.a,e3.p,e3.f⟩,_,_,_,_,_,_,rfl,m7,by ac_rfl,by ac_rfl,by ac_rfl⟩
      ·rw [if_neg jz]
       have eu:u = nb3 - 1:=by ac_rfl
       have m6:=m5
       have hl2:=j2 (nb3 - 1 - 1) (by ac_rfl)
       have m7:=m6.stepA T.trn W (by ac_rfl) (by ac_rfl) hl2
       refine wpS_bind (wpS_el (arK_get (by ac_rfl)) ?_)
       simp only [arK_push,arK_rev,arK_app]
       by_cases z3:t - 1 = 0
       ·rw [if_pos z3]
        exact wpS_pure ⟨⟨e3.k,e3.a,e3.p,e3.f⟩,.inl ⟨_,_,rfl,m7.done W (.inl z3)⟩⟩
       rw [if_neg z3]
       by_cases z5:(decide (na3 - t < 7) && decide (nb3 - 1 - u < 7)) = true
       ·rw [if_pos z5]
        exact wpS_pure ⟨⟨e3.k,e3.a,e3.p,e3.f⟩,.inr ⟨_,_,_,_,_,_,rfl,m7,by ac_rfl,by ac_rfl,by ac_rfl⟩⟩
       ·rw [if_neg z5]
        exact wpS_pure ⟨⟨e3.k,e3.a,e3.p,e3.f⟩,_,_,_,_,_,_,rfl,m7,by ac_rfl,by ac_rfl,by ac_rfl⟩
     ·rw [if_neg kz]
      have et:t = na3:=by ac_rfl
      have m4:=m3
      have hl:=k2 (na3 - 1) (by ac_rfl)
      refine wpS_bind (wpS_el (arK_get (by ac_rfl)) ?_)
      have m5:=m4.stepB T.trn W (by ac_rfl) (by ac_rfl) hl
      simp only [arK_push,arK_rev,arK_app]
      by_cases z1:nb3 - 1 = 1
      ·rw [if_pos z1]
       exact wpS_pure ⟨⟨e3.k,e3.a,e3.p,e3.f⟩,.inl ⟨_,_,rfl,fst m5 z1⟩⟩
      rw [if_neg z1]
      refine wpS_bind (wpS_el (arK_get (by ac_rfl)) ?_)
      refine wpS_bind (gal_hi (left:=true) (na:=nb3 - 1) (nb:=na3) T W.symm (e3.k.trans hk) (by ac_rfl) (by ac_rfl) (by ac_rfl) (by ac_rfl) fun u j1 j2 j3 => ?_)
      dsimp only
      by_cases jz:nb3 - 1 - u > 0
      ·rw [if_pos jz]
       have m6:=m5.galB T.trn W (by ac_rfl) j1 j3
       try simp only [arK_cut,arK_rev,arK_app]
       by_cases z4:u = 1
       ·rw [if_pos z4]
        exact wpS_pure ⟨⟨e3.k,e3.a,e3.p,e3.f⟩,.inl ⟨_,_,rfl,fst m6 z4⟩⟩
       rw [if_neg z4]
       by_cases z6:u = 0
       ·rw [if_pos z6]
        exact wpS_pure ⟨⟨e3.k,e3.a,e3.p,e3.f⟩,.inl ⟨_,_,rfl,m6.done W (.inr z6)⟩⟩
       rw [if_neg z6]
       have hl2:=j2 (u - 1) (by ac_rfl)
       have m7:=m6.stepA T.trn W (by ac_rfl) (by ac_rfl) hl2
       refine wpS_bind (wpS_el (arK_get (by ac_rfl)) ?_)
       simp only [arK_push,arK_rev,arK_app]
       by_cases z3:na3 - 1 = 0
       ·rw [if_pos z3]
        exact wpS_pure ⟨⟨e3.k,e3.a,e3.p,e3.f⟩,.inl ⟨_,_,rfl,m7.done W (.inl z3)⟩⟩
       rw [if_neg z3]
       by_cases z5:(decide (na3 - t < 7) && decide (nb3 - 1 - u < 7)) = true
       ·rw [if_pos z5]
        exact wpS_pure ⟨⟨e3.k,e3.a,e3.p,e3.f⟩,.inr ⟨_,_,_,_,_,_,rfl,m7,by ac_rfl,by ac_rfl,by ac_rfl⟩⟩
       ·rw [if_neg z5]
        exact wpS_pure ⟨⟨e3.k,e3.a,e3.p,e3.f⟩,_,_,_,_,_,_,rfl,m7,by ac_rfl,by ac_rfl,by ac_rfl⟩
      ·rw [if_neg jz]
       have eu:u = nb3 - 1:=by ac_rfl
       have m6:=m5
       have hl2:=j2 (nb3 - 1 - 1) (by ac_rfl)
       have m7:=m6.stepA T.trn W (by ac_rfl) (by ac_rfl) hl2
       refine wpS_bind (wpS_el (arK_get (by ac_rfl)) ?_)
       simp only [arK_push,arK_rev,arK_app]
       by_cases z3:na3 - 1 = 0
       ·rw [if_pos z3]
        exact wpS_pure ⟨⟨e3.k,e3.a,e3.p,e3.f⟩,.inl ⟨_,_,rfl,m7.done W (.inl z3)⟩⟩
       rw [if_neg z3]
       by_cases z5:(decide (na3 - t < 7) && decide (nb3 - 1 - u < 7)) = true
       ·rw [if_pos z5]
        exact wpS_pure ⟨⟨e3.k,e3.a,e3.p,e3.f⟩,.inr ⟨_,_,_,_,_,_,rfl,m7,by ac_rfl,by ac_rfl,by ac_rfl⟩⟩
       ·rw [if_neg z5]
        exact wpS_pure ⟨⟨e3.k,e3.a,e3.p,e3.f⟩,_,_,_,_,_,_,rfl,m7,by ac_rfl,by ac_rfl,by ac_rfl⟩
    ·rw [if_neg hg]
     refine wpS_bind (wpS_modify ?_)
     refine wpS_bind (wpS_el (arK_get (by ac_rfl)) ?_)
     refine wpS_bind (gal_hi (left:=false) (na:=na3) (nb:=nb3) T W (e3.k.trans hk) b1 pa (by ac_rfl) pb fun t k1 k2 k3 => ?_)
     dsimp only
     by_cases kz:na3 - t > 0
     ·rw [if_pos kz]
      have m4:=m3.galA T.trn W (by ac_rfl) k1 k3
      try simp only [arK_cut,arK_rev,arK_app]
      by_cases z0:t = 0
      ·rw [if_pos z0]
       exact wpS_pure ⟨⟨e3.k,e3.a,e3.p,e3.f⟩,.inl ⟨_,_,rfl,m4.done W (.inl z0)⟩⟩
      rw [if_neg z0]
      have hl:=k2 (t - 1) (by ac_rfl)
      refine wpS_bind (wpS_el (arK_get (by ac_rfl)) ?_)
      have m5:=m4.stepB T.trn W (by ac_rfl) (by ac_rfl) hl
      simp only [arK_push,arK_rev,arK_app]
      by_cases z1:nb3 - 1 = 1
      ·rw [if_pos z1]
       exact wpS_pure ⟨⟨e3.k,e3.a,e3.p,e3.f⟩,.inl ⟨_,_,rfl,fst m5 z1⟩⟩
      rw [if_neg z1]
      refine wpS_bind (wpS_el (arK_get (by ac_rfl)) ?_)
      refine wpS_bind (gal_hi (left:=true) (na:=nb3 - 1) (nb:=t) T W.symm (e3.k.trans hk) (by ac_rfl) (by ac_rfl) (by ac_rfl) (by ac_rfl) fun u j1 j2 j3 => ?_)
      dsimp only
      by_cases jz:nb3 - 1 - u > 0
      ·rw [if_pos jz]
       have m6:=m5.galB T.trn W (by ac_rfl) j1 j3
       try simp only [arK_cut,arK_rev,arK_app]
       by_cases z4:u = 1
       ·rw [if_pos z4]
        exact wpS_pure ⟨⟨e3.k,e3.a,e3.p,e3.f⟩,.inl ⟨_,_,rfl,fst m6 z4⟩⟩
       rw [if_neg z4]
       by_cases z6:u = 0
       ·rw [if_pos z6]
        exact wpS_pure ⟨⟨e3.k,e3.a,e3.p,e3.f⟩,.inl ⟨_,_,rfl,m6.done W (.inr z6)⟩⟩
       rw [if_neg z6]
       have hl2:=j2 (u - 1) (by ac_rfl)
       have m7:=m6.stepA T.trn W (by ac_rfl) (by ac_rfl) hl2
       refine wpS_bind (wpS_el (arK_get (by ac_rfl)) ?_)
       simp only [arK_push,arK_rev,arK_app]
       by_cases z3:t - 1 = 0
       ·rw [if_pos z3]
        exact wpS_pure ⟨⟨e3.k,e3.a,e3.p,e3.f⟩,.inl ⟨_,_,rfl,m7.done W (.inl z3)⟩⟩
       rw [if_neg z3]
       by_cases z5:(decide (na3 - t < 7) && decide (nb3 - 1 - u < 7)) = true
       ·rw [if_pos z5]
        exact wpS_pure ⟨⟨e3.k,e3.a,e3.p,e3.f⟩,.inr ⟨_,_,_,_,_,_,rfl,m7,by ac_rfl,by ac_rfl,by ac_rfl⟩⟩
       ·rw [if_neg z5]
        exact wpS_pure ⟨⟨e3.k,e3.a,e3.p,e3.f⟩,_,_,_,_,_,_,rfl,m7,by ac_rfl,by ac_rfl,by ac_rfl⟩
      ·rw [if_neg jz]
       have eu:u = nb3 - 1:=by ac_rfl
       have m6:=m5
       have hl2:=j2 (nb3 - 1 - 1) (by ac_rfl)
       have m7:=m6.stepA T.trn W (by ac_rfl) (by ac_rfl) hl2
       refine wpS_bind (wpS_el (arK_get (by ac_rfl)) ?_)
       simp only [arK_push,arK_rev,arK_app]
       by_cases z3:t - 1 = 0
       ·rw [if_pos z3]
        exact wpS_pure ⟨⟨e3.k,e3.a,e3.p,e3.f⟩,.inl ⟨_,_,rfl,m7.done W (.inl z3)⟩⟩
       rw [if_neg z3]
       by_cases z5:(decide (na3 - t < 7) && decide (nb3 - 1 - u < 7)) = true
       ·rw [if_pos z5]
        exact wpS_pure ⟨⟨e3.k,e3.a,e3.p,e3.f⟩,.inr ⟨_,_,_,_,_,_,rfl,m7,by ac_rfl,by ac_rfl,by ac_rfl⟩⟩
       ·rw [if_neg z5]
        exact wpS_pure ⟨⟨e3.k,e3.a,e3.p,e3.f⟩,_,_,_,_,_,_,rfl,m7,by ac_rfl,by ac_rfl,by ac_rfl⟩
     ·rw [if_neg kz]
      have et:t = na3:=by ac_rfl
      have m4:=m3
      have hl:=k2 (na3 - 1) (by ac_rfl)
      refine wpS_bind (wpS_el (arK_get (by ac_rfl)) ?_)
      have m5:=m4.stepB T.trn W (by ac_rfl) (by ac_rfl) hl
      simp only [arK_push,arK_rev,arK_app]
      by_cases z1:nb3 - 1 = 1
      ·rw [if_pos z1]
       exact wpS_pure ⟨⟨e3.k,e3.a,e3.p,e3.f⟩,.inl ⟨_,_,rfl,fst m5 z1⟩⟩
      rw [if_neg z1]
      refine wpS_bind (wpS_el (arK_get (by ac_rfl)) ?_)
      refine wpS_bind (gal_hi (left:=true) (na:=nb3 - 1) (nb:=na3) T W.symm (e3.k.trans hk) (by ac_rfl) (by ac_rfl) (by ac_rfl) (by ac_rfl) fun u j1 j2 j3 => ?_)
      dsimp only
      by_cases jz:nb3 - 1 - u > 0
      ·rw [if_pos jz]
       have m6:=m5.galB T.trn W (by ac_rfl) j1 j3
       try simp only [arK_cut,arK_rev,arK_app]
       by_cases z4:u = 1
       ·rw [if_pos z4]
        exact wpS_pure ⟨⟨e3.k,e3.a,e3.p,e3.f⟩,.inl ⟨_,_,rfl,fst m6 z4⟩⟩
       rw [if_neg z4]
       by_cases z6:u = 0
       ·rw [if_pos z6]
        exact wpS_pure ⟨⟨e3.k,e3.a,e3.p,e3.f⟩,.inl ⟨_,_,rfl,m6.done W (.inr z6)⟩⟩
       rw [if_neg z6]
       have hl2:=j2 (u - 1) (by ac_rfl)
       have m7:=m6.stepA T.trn W (by ac_rfl) (by ac_rfl) hl2
       refine wpS_bind (wpS_el (arK_get (by ac_rfl)) ?_)
       simp only [arK_push,arK_rev,arK_app]
       by_cases z3:na3 - 1 = 0
       ·rw [if_pos z3]
        exact wpS_pure ⟨⟨e3.k,e3.a,e3.p,e3.f⟩,.inl ⟨_,_,rfl,m7.done W (.inl z3)⟩⟩
       rw [if_neg z3]
       by_cases z5:(decide (na3 - t < 7) && decide (nb3 - 1 - u < 7)) = true
       ·rw [if_pos z5]
        exact wpS_pure ⟨⟨e3.k,e3.a,e3.p,e3.f⟩,.inr ⟨_,_,_,_,_,_,rfl,m7,by ac_rfl,by ac_rfl,by ac_rfl⟩⟩
       ·rw [if_neg z5]
        exact wpS_pure ⟨⟨e3.k,e3.a,e3.p,e3.f⟩,_,_,_,_,_,_,rfl,m7,by ac_rfl,by ac_rfl,by ac_rfl⟩
      ·rw [if_neg jz]
       have eu:u = nb3 - 1:=by ac_rfl
       have m6:=m5
       have hl2:=j2 (nb3 - 1 - 1) (by ac_rfl)
       have m7:=m6.stepA T.trn W (by ac_rfl) (by ac_rfl) hl2
       refine wpS_bind (wpS_el (arK_get (by ac_rfl)) ?_)
       simp only [arK_push,arK_rev,arK_app]
       by_cases z3:na3 - 1 = 0
       ·rw [if_pos z3]
        exact wpS_pure ⟨⟨e3.k,e3.a,e3.p,e3.f⟩,.inl ⟨_,_,rfl,m7.done W (.inl z3)⟩⟩
       rw [if_neg z3]
       by_cases z5:(decide (na3 - t < 7) && decide (nb3 - 1 - u < 7)) = true
       ·rw [if_pos z5]
        exact wpS_pure ⟨⟨e3.k,e3.a,e3.p,e3.f⟩,.inr ⟨_,_,_,_,_,_,rfl,m7,by ac_rfl,by ac_rfl,by ac_rfl⟩⟩
       ·rw [if_neg z5]
        exact wpS_pure ⟨⟨e3.k,e3.a,e3.p,e3.f⟩,_,_,_,_,_,_,rfl,m7,by ac_rfl,by ac_rfl,by ac_rfl⟩
end
end L2
namespace L2
open PySem PySem.Spec PyProof.Rows PySem.W
section
variable {M:Model} {A:Around} {E:Value -> Shared -> Prop} {s:Shared} {N:Nat} {lt:Nat -> Nat -> Bool} {it:Nat -> Keyed} {κ:SortKind} {p p':List Nat}
noncomputable abbrev g (p:List Nat) (u:Nat):Nat:=p.getD u 0
structure Sp1 (it:Nat -> Keyed) (κ:SortKind) (st:SortSt) (p:List Nat):Prop where
 k:kindOf st = κ
 a:arrOf st = arK it p
 f:failedOf st = none
abbrev Pm1 (N:Nat) (p:List Nat):Prop:=p.Perm (List.range N)
theorem pm_len (h:Pm1 N p):p.length = N:=by rw [h.length_eq,List.length_range]
theorem pm_lt (h:Pm1 N p) {u:Nat} (hu:u < N):g p u < N:=by
 have hl:=pm_len h
 have e:g p u = p[u]'(by ac_rfl):=by simp [g,List.getD,show u < p.length by ac_rfl]
 rw [e]
 exact List.mem_range.mp (h.mem_iff.mp (List.getElem_mem _))
theorem pm_ne (h:Pm1 N p) {u v:Nat} (hu:u < N) (hv:v < N) (n:u ≠ v):g p u ≠ g p v:=by
 have hl:=pm_len h
 have nd:p.Nodup:=h.nodup_iff.mpr List.nodup_range
 have e1:g p u = p[u]'(by ac_rfl):=by simp [g,List.getD,show u < p.length by ac_rfl]
 have e2:g p v = p[v]'(by ac_rfl):=by simp [g,List.getD,show v < p.length by ac_rfl]
 rw [e1,e2]
 rcases Nat.lt_or_gt_of_ne n with z | z
 ·exact List.pairwise_iff_getElem.mp nd u v (by ac_rfl) (by ac_rfl) z
 ·exact Ne.symm (List.pairwise_iff_getElem.mp nd v u (by ac_rfl) (by ac_rfl) z)
def Sg (lt:Nat -> Nat -> Bool) (p:List Nat) (lo hi:Nat):Prop:=∀ u v,lo <= u -> u < v -> v < hi -> lt (g p u) (g p v) = true
def Ou (p p':List Nat) (lo hi:Nat):Prop:=∀ u,(u < lo \/ hi <= u) -> g p' u = g p u
theorem wpS_at (T:Tm M A E s N lt it κ) {st:SortSt} {i j:Nat} {Q:Option Bool -> SortSt -> Prop} (S:Sp1 it κ st p) (P:Pm1 N p) (hi:i < N) (hj:j < N) (hn:i ≠ j) (q:Q (some (lt (g p i) (g p j))) st):wpS M A E s (ltAt' i j) Q st:=by
 have hl:=pm_len P
 unfold ltAt'
 refine wpS_bind (wpS_get ?_)
 refine wpS_bind (wpS_el (x:=it (g p i)) (by rw [show (sortPriv% PySem.Builtin.SortState.a) st = arK it p from S.a]; exact arK_get (by ac_rfl)) (wpS_bind (wpS_el (x:=it (g p j)) (by rw [show (sortPriv% PySem.Builtin.SortState.a) st = arK it p from S.a]; exact arK_get (by ac_rfl)) ?_)))
 exact T.cmp _ _ (pm_lt P hi) (pm_lt P hj) (pm_ne P hi hj hn) st Q S.k q
theorem getD_arr {p:List Nat} {q:Array Nat} {u v:Nat} (h:q[u]? = p[v]?):g q.toList u = g p v:=by
 unfold g
 rw [List.getD_eq_getElem?_getD,List.getD_eq_getElem?_getD,Array.getElem?_toList,h]
theorem rev_arr {p:List Nat} {i j:Nat} (hj:j <= p.length):∃ p',mirror (arK it p) i j ((j - i) / 2) = arK it p' /\ p'.Perm p /\ ∀ u,g p' u = if i <= u /\ u < j then g p (i + j - 1 - u) else g p u:=by
 refine ⟨(mirror p.toArray i j ((j - i) / 2)).toList,?_,?_,fun u => ?_⟩
 ·apply Array.ext_getElem?
  intro u
  rw [getElem?_mirror_all (by simpa using hj)]
  simp only [arK,List.getElem?_toArray,List.getElem?_map,Array.getElem?_toList]
  rw [getElem?_mirror_all (by simpa using hj)]
  split <;> simp
 ·have:=mirror_perm p.toArray i j ((j - i) / 2)
  simpa using this.toList
 ·have e:=getElem?_mirror_all (xs:=p.toArray) (i:=i) (j:=j) (by simpa using hj) u
  split
  ·rename_i h
   rw [if_pos h] at e
   exact getD_arr (by rw [e]; simp)
  ·rename_i h
   rw [if_neg h] at e
   exact getD_arr (by rw [e]; simp)
theorem bub_arr {p:List Nat} {src d:Nat} (hs:src < p.length) (hd:d <= src):∃ p',bubble (arK it p) src d = arK it p' /\ p'.Perm p /\ ∀ u,g p' u = if u = src - d then g p src else if src - d < u /\ u <= src then g p (u - 1) else g p u:=by
 refine ⟨(bubble p.toArray src d).toList,?_,?_,fun u => ?_⟩
 ·apply Array.ext_getElem?
  intro u
  rw [getElem?_bubble (by simpa using hs) d hd]
  simp only [arK,List.getElem?_toArray,List.getElem?_map,Array.getElem?_toList]
  rw [getElem?_bubble (by simpa using hs) d hd]
  repeat' split
  all_goals simp
 ·have:=bubble_perm p.toArray src d
  simpa using this.toList
 ·have e:=getElem?_bubble (xs:=p.toArray) (src:=src) (by simpa using hs) d hd u
  by_cases h1:u = src - d
  ·rw [if_pos h1] at e ⊢
   exact getD_arr (by rw [e]; simp)
  ·rw [if_neg h1] at e ⊢
   by_cases h2:src - d < u /\ u <= src
   ·rw [if_pos h2] at e ⊢
    exact getD_arr (by rw [e]; simp)
   ·rw [if_neg h2] at e ⊢
    exact getD_arr (by rw [e]; simp)
theorem count_ok (T:Tm M A E s N lt it κ) {st:SortSt} {lo n:Nat} {Q:Option Nat -> SortSt -> Prop} (S:Sp1 it κ st p) (P:Pm1 N p) (h1:0 < n) (hn:lo + n <= N)
  (q:∀ m st' p',1 <= m -> m <= n -> Sp1 it κ st' p' -> pendingOf st' = pendingOf st -> Pm1 N p' -> Sg lt p' lo (lo + m) -> Ou p p' lo (lo + m) -> Q (some m) st'):wpS M A E s (countRun' lo n) Q st:=by
 have grow:∀ {p:List Nat} {m:Nat},Pm1 N p -> 1 <= m -> lo + m < N -> Sg lt p lo (lo + m) -> lt (g p (lo + m)) (g p (lo + m - 1)) = false -> Sg lt p lo (lo + (m + 1)):=fun {p m} P hm hN sg z u v hu huv hv => by
  have last:lt (g p (lo + m - 1)) (g p (lo + m)) = true:=by rw [T.tot _ _ (pm_lt P (by ac_rfl)) (pm_lt P (by ac_rfl)) (pm_ne P (by ac_rfl) (by ac_rfl) (by ac_rfl)),z]; rfl
  by_cases e:v = lo + m
  ·subst e
   by_cases e2:u = lo + m - 1
   ·rw [e2]; exact last
   ·exact T.tr _ _ _ (pm_lt P (by ac_rfl)) (pm_lt P (by ac_rfl)) (pm_lt P (by ac_rfl)) (sg u (lo + m - 1) hu (by ac_rfl) (by ac_rfl)) last
  ·exact sg u v hu huv (by ac_rfl)
 unfold countRun'
 refine wpS_bind (wpS_mono (wpS_forRange
  (I:=fun x c st' => st = st' /\ c = (none,x) /\ Sg lt p lo (lo + x))
  (Q:=fun c st' => st = st' /\ ∃ m,c = (none,m) /\ 1 <= m /\ m <= n /\ Sg lt p lo (lo + m) /\ (m < n -> lt (g p (lo + m)) (g p (lo + m - 1)) = true)) ?s1 ?f1 ?i1) ?p1)
 case i1 => exact ⟨rfl,rfl,fun u v a b c => by ac_rfl⟩
 case f1 =>
  rintro c st' ⟨rfl,rfl,sg⟩
  exact ⟨rfl,_,rfl,by ac_rfl,by ac_rfl,by rw [show max 1 n = n by ac_rfl] at sg ⊢; exact sg,fun h => by ac_rfl⟩
 case s1 =>
  rintro x c st' hx1 hx ⟨rfl,rfl,sg⟩
  dsimp only
  refine wpS_bind (wpS_at T S P (by ac_rfl) (by ac_rfl) (by ac_rfl) ?_)
  cases y:lt (g p (lo + x)) (g p (lo + x - 1)) with
  | true =>
   dsimp only
   rw [if_pos rfl]
   exact wpS_pure ⟨rfl,x,rfl,hx1,by ac_rfl,sg,fun _ => y⟩
  | false =>
   dsimp only
   rw [if_neg (by decide)]
   exact wpS_pure ⟨rfl,rfl,grow P hx1 (by ac_rfl) sg y⟩
 case p1 =>
  rintro c st' ⟨rfl,m,rfl,m1,m2,sg,fall⟩
  dsimp only
  by_cases z:m = n
  ·rw [if_pos (by simpa using z)]
   exact wpS_pure (q m st p m1 m2 S rfl P sg fun u h => rfl)
  rw [if_neg (by simpa using z)]
  have fa:=fall (by ac_rfl)
  by_cases z2:m > 1
  ·rw [if_pos z2]
   refine wpS_bind (wpS_at T S P (by ac_rfl) (by ac_rfl) (by ac_rfl) ?_)
   rw [sg lo (lo + m - 1) (Nat.le_refl _) (by ac_rfl) (by ac_rfl)]
   dsimp only
   rw [if_pos rfl]
   exact wpS_pure (q m st p m1 m2 S rfl P sg fun u h => rfl)
  rw [if_neg z2]
  obtain rfl:m = 1:=by ac_rfl
  refine wpS_bind (wpS_lift (wpAny_rule ⟨rfl,?_⟩))
  refine wpS_bind (wpS_mono (wpS_forRange
   (I:=fun x c st' => st = st' /\ c = (none,x,0) /\ ∀ u v,lo <= u -> u < v -> v < lo + x -> lt (g p v) (g p u) = true)
   (Q:=fun c st' => st = st' /\ ∃ k,c = (none,k,0) /\ 2 <= k /\ k <= n /\ ∀ u v,lo <= u -> u < v -> v < lo + k -> lt (g p v) (g p u) = true) ?s2 ?f2 ?i2) ?p2)
  case i2 =>
   refine ⟨rfl,rfl,fun u v a b c => ?_⟩
   rw [show u = lo by ac_rfl,show v = lo + 1 by ac_rfl]
   exact fa
  case f2 =>
   rintro c st' ⟨rfl,rfl,d⟩
   exact ⟨rfl,_,rfl,by ac_rfl,by ac_rfl,d⟩
  case s2 =>
   rintro x c st' hx1 hx ⟨rfl,rfl,d⟩
   dsimp only
   refine wpS_bind (wpS_at T S P (by ac_rfl) (by ac_rfl) (by ac_rfl) ?_)
   cases y:lt (g p (lo + x)) (g p (lo + x - 1)) with
   | true =>
    dsimp only
    rw [if_pos rfl,if_neg (by decide)]
    refine wpS_pure ⟨rfl,rfl,fun u v hu huv hv => ?_⟩
    by_cases e:v = lo + x
    ·subst e
     by_cases e2:u = lo + x - 1
     ·rw [e2]; exact y
     ·exact T.tr _ _ _ (pm_lt P (by ac_rfl)) (pm_lt P (by ac_rfl)) (pm_lt P (by ac_rfl)) y (d u (lo + x - 1) hu (by ac_rfl) (by ac_rfl))
    ·exact d u v hu huv (by ac_rfl)
   | false =>
    dsimp only
    rw [if_neg (by decide)]
    refine wpS_bind (wpS_at T S P (by ac_rfl) (by ac_rfl) (by ac_rfl) ?_)
    rw [show lt (g p (lo + x - 1)) (g p (lo + x)) = true by rw [T.tot _ _ (pm_lt P (by ac_rfl)) (pm_lt P (by ac_rfl)) (pm_ne P (by ac_rfl) (by ac_rfl) (by ac_rfl)),y]; rfl]
    dsimp only
    rw [if_pos rfl]
    exact wpS_pure ⟨rfl,x,rfl,hx1,by ac_rfl,d⟩
  case p2 =>
   rintro c st' ⟨rfl,k,rfl,k1,k2,d⟩
   dsimp only
   rw [if_neg (by decide)]
   have hl:=pm_len P
   obtain ⟨p2,e2,pp2,gp2⟩:=rev_arr (it:=it) (p:=p) (i:=lo) (j:=lo + k) (by ac_rfl)
   have S2:Sp1 it κ (setArr st (mirror (arrOf st) lo (lo + k) ((lo + k - lo) / 2))) p2:=⟨S.k,by show mirror (arrOf st) lo (lo + k) ((lo + k - lo) / 2) = _; rw [S.a]; exact e2,S.f⟩
   have P2:Pm1 N p2:=pp2.trans P
   have sg2:Sg lt p2 lo (lo + k):=fun u v hu huv hv => by
    rw [gp2 u,gp2 v,if_pos (by ac_rfl),if_pos (by ac_rfl)]
    exact d _ _ (by ac_rfl) (by ac_rfl) (by ac_rfl)
   refine wpS_bind (wpS_modify ?_)
   show wpS M A E s _ Q (setArr st (mirror (arrOf st) lo (lo + k) ((lo + k - lo) / 2)))
   generalize hst:setArr st (mirror (arrOf st) lo (lo + k) ((lo + k - lo) / 2)) = st2 at S2 ⊢
   have pe:pendingOf st2 = pendingOf st:=by rw [<- hst]
   refine wpS_bind (wpS_mono (wpS_forRange
    (I:=fun x c st' => st2 = st' /\ c = (none,x) /\ Sg lt p2 lo (lo + x))
    (Q:=fun c st' => st2 = st' /\ ∃ m,c = (none,m) /\ k <= m /\ m <= n /\ Sg lt p2 lo (lo + m)) ?s3 ?f3 ?i3) ?p3)
   case i3 => exact ⟨rfl,rfl,sg2⟩
   case f3 =>
    rintro c st' ⟨rfl,rfl,sg3⟩
    exact ⟨rfl,_,rfl,by ac_rfl,by ac_rfl,sg3⟩
   case s3 =>
    rintro x c st' hx1 hx ⟨rfl,rfl,sg3⟩
    dsimp only
    refine wpS_bind (wpS_at T S2 P2 (by ac_rfl) (by ac_rfl) (by ac_rfl) ?_)
    cases y:lt (g p2 (lo + x)) (g p2 (lo + x - 1)) with
    | true =>
     dsimp only
     rw [if_pos rfl]
     exact wpS_pure ⟨rfl,x,rfl,hx1,by ac_rfl,sg3⟩
    | false =>
     dsimp only
     rw [if_neg (by decide)]
     exact wpS_pure ⟨rfl,rfl,grow P2 (by ac_rfl) (by ac_rfl) sg3 y⟩
   case p3 =>
    rintro c st' ⟨rfl,m,rfl,m1,m2,sg3⟩
    exact wpS_pure (q m st2 p2 (by ac_rfl) m2 S2 pe P2 sg3 fun u h => by rw [gp2 u,if_neg (by ac_rfl)])
theorem bin_ok (T:Tm M A E s N lt it κ) {st:SortSt} {lo n ok:Nat} {Q:Bool -> SortSt -> Prop} (S:Sp1 it κ st p) (P:Pm1 N p) (h1:1 <= ok) (ho:ok <= n) (hn:lo + n <= N) (sg:Sg lt p lo (lo + ok))
  (q:∀ st' p',Sp1 it κ st' p' -> pendingOf st' = pendingOf st -> Pm1 N p' -> Sg lt p' lo (lo + n) -> Ou p p' lo (lo + n) -> Q true st'):wpS M A E s (binarySort' lo n ok) Q st:=by
 unfold binarySort'
 refine wpS_bind (wpS_mono (wpS_forRange
  (I:=fun k c st' => c = (none,()) /\ ∃ p',Sp1 it κ st' p' /\ pendingOf st' = pendingOf st /\ Pm1 N p' /\ Sg lt p' lo (lo + k) /\ Ou p p' lo (lo + n))
  (Q:=fun c st' => c = (none,()) /\ ∃ p',Sp1 it κ st' p' /\ pendingOf st' = pendingOf st /\ Pm1 N p' /\ Sg lt p' lo (lo + n) /\ Ou p p' lo (lo + n)) ?s1 ?f1 ?i1) ?p1)
 case i1 => exact ⟨rfl,p,S,rfl,P,by rw [show max ok 1 = ok by ac_rfl]; exact sg,fun u h => rfl⟩
 case f1 =>
  rintro c st' ⟨rfl,p',S',e,P',sg',o⟩
  exact ⟨rfl,p',S',e,P',by rw [show max (max ok 1) n = n by ac_rfl] at sg'; exact sg',o⟩
 case p1 =>
  rintro c st' ⟨rfl,p',S',e,P',sg',o⟩
  exact wpS_pure (q st' p' S' e P' sg' o)
 case s1 =>
  rintro k c st' hk1 hk ⟨rfl,p',S',e,P',sg',o⟩
  dsimp only
  refine wpS_bind (wpS_mono (wpS_forRange
   (I:=fun x c st2 => st' = st2 /\ ∃ l r,c = (none,l,r) /\ l <= r /\ r <= k /\ r - l + x <= k /\ (∀ u,u < l -> lt (g p' (lo + u)) (g p' (lo + k)) = true) /\ ∀ u,r <= u -> u < k -> lt (g p' (lo + k)) (g p' (lo + u)) = true)
   (Q:=fun c st2 => st' = st2 /\ ∃ l,c = (none,l,l) /\ l <= k /\ (∀ u,u < l -> lt (g p' (lo + u)) (g p' (lo + k)) = true) /\ ∀ u,l <= u -> u < k -> lt (g p' (lo + k)) (g p' (lo + u)) = true) ?s2 ?f2 ?i2) ?p2)
  case i2 => exact ⟨rfl,0,k,rfl,by ac_rfl,by ac_rfl,by ac_rfl,fun u h => by ac_rfl,fun u h h2 => by ac_rfl⟩
  case f2 =>
   rintro c st2 ⟨rfl,l,r,rfl,l1,l2,l3,l4,l5⟩
   obtain rfl:l = r:=by ac_rfl
   exact ⟨rfl,l,rfl,l2,l4,l5⟩
  case s2 =>
   rintro x c st2 _ hx ⟨rfl,l,r,rfl,l1,l2,l3,l4,l5⟩
   dsimp only
   by_cases z:l >= r
   ·rw [if_pos z]
    obtain rfl:l = r:=by ac_rfl
    exact wpS_pure ⟨rfl,l,rfl,l2,l4,l5⟩
   rw [if_neg z]
   refine wpS_bind (wpS_at T S' P' (by ac_rfl) (by ac_rfl) (by ac_rfl) ?_)
   cases y:lt (g p' (lo + k)) (g p' (lo + (l + r) / 2)) with
   | true =>
    dsimp only
    rw [if_pos rfl]
    refine wpS_pure ⟨rfl,_,_,rfl,by ac_rfl,by ac_rfl,by ac_rfl,l4,fun u hu hk2 => ?_⟩
    by_cases e2:u = (l + r) / 2
    ·rw [e2]; exact y
    ·exact T.tr _ _ _ (pm_lt P' (by ac_rfl)) (pm_lt P' (by ac_rfl)) (pm_lt P' (by ac_rfl)) y (sg' _ _ (by ac_rfl) (by ac_rfl) (by ac_rfl))
   | false =>
    dsimp only
    rw [if_neg (by decide)]
    have y1:lt (g p' (lo + (l + r) / 2)) (g p' (lo + k)) = true:=by rw [T.tot _ _ (pm_lt P' (by ac_rfl)) (pm_lt P' (by ac_rfl)) (pm_ne P' (by ac_rfl) (by ac_rfl) (by ac_rfl)),y]; rfl
    refine wpS_pure ⟨rfl,_,_,rfl,by ac_rfl,by ac_rfl,by ac_rfl,fun u hu => ?_,l5⟩
    by_cases e2:u = (l + r) / 2
    ·rw [e2]; exact y1
    ·exact T.tr _ _ _ (pm_lt P' (by ac_rfl)) (pm_lt P' (by ac_rfl)) (pm_lt P' (by ac_rfl)) (sg' _ _ (by ac_rfl) (by ac_rfl) (by ac_rfl)) y1
  case p2 =>
   rintro c st2 ⟨rfl,l,rfl,l2,l4,l5⟩
   dsimp only
   have hl:=pm_len P'
   obtain ⟨p2,e2,pp2,gp2⟩:=bub_arr (it:=it) (p:=p') (src:=lo + k) (d:=lo + k - (lo + l)) (by ac_rfl) (by ac_rfl)
   have S2:Sp1 it κ (setArr st' (bubble (arrOf st') (lo + k) (lo + k - (lo + l)))) p2:=⟨S'.k,by show bubble (arrOf st') (lo + k) (lo + k - (lo + l)) = _; rw [S'.a]; exact e2,S'.f⟩
   refine wpS_bind (wpS_modify ?_)
   refine wpS_pure ⟨rfl,p2,S2,e,pp2.trans P',fun u v hu huv hv => ?_,fun u h => ?_⟩
   ·rw [gp2 u,gp2 v]
    by_cases c1:u = lo + k - (lo + k - (lo + l))
    ·rw [if_pos c1,if_neg (by ac_rfl),if_pos (by ac_rfl)]
     have:=l5 (v - 1 - lo) (by ac_rfl) (by ac_rfl)
     rw [show lo + (v - 1 - lo) = v - 1 by ac_rfl] at this
     exact this
    ·rw [if_neg c1]
     by_cases c2:v = lo + k - (lo + k - (lo + l))
     ·rw [if_pos c2,if_neg (by ac_rfl)]
      have:=l4 (u - lo) (by ac_rfl)
      rw [show lo + (u - lo) = u by ac_rfl] at this
      exact this
     ·rw [if_neg c2]
      split
      ·split
       ·exact sg' _ _ (by ac_rfl) (by ac_rfl) (by ac_rfl)
       ·ac_rfl
      ·split
       ·exact sg' _ _ (by ac_rfl) (by ac_rfl) (by ac_rfl)
       ·exact sg' _ _ (by ac_rfl) (by ac_rfl) (by ac_rfl)
   ·rw [gp2 u,if_neg (by ac_rfl),if_neg (by ac_rfl)]
    exact o u h
end
end L2
namespace L2
open PySem PySem.Spec PyProof.Rows PySem.W
theorem fold_set {α:Type} {b:Nat}:∀ (l:List α) (j0:Nat) (xs:Array α),b + j0 + l.length <= xs.size -> ∀ u,((l.zipIdx j0).foldl (fun a (q:α × Nat) => a.setIfInBounds (b + q.2) q.1) xs)[u]? = if b + j0 <= u /\ u < b + j0 + l.length then l[u - (b + j0)]? else xs[u]?:=by
 intro l
 induction l with
 | nil =>
  intro j0 xs h u
  rw [if_neg (by simp only [List.length_nil]; ac_rfl)]
  rfl
 | cons x l ih =>
  intro j0 xs h u
  simp only [List.length_cons] at h ⊢
  rw [List.zipIdx_cons,List.foldl_cons,ih (j0 + 1) _ (by simp; ac_rfl) u]
  by_cases c:u = b + j0
  ·subst c
   rw [if_neg (by ac_rfl),if_pos (by ac_rfl)]
   simp [show b + j0 < xs.size by ac_rfl]
  ·by_cases c2:b + (j0 + 1) <= u /\ u < b + (j0 + 1) + l.length
   ·rw [if_pos c2,if_pos (by ac_rfl),show u - (b + j0) = u - (b + (j0 + 1)) + 1 by ac_rfl]
    rfl
   ·rw [if_neg c2,if_neg (by ac_rfl),Array.getElem?_setIfInBounds_ne (by ac_rfl)]
section
variable {M:Model} {A:Around} {E:Value -> Shared -> Prop} {s:Shared} {N:Nat} {lt:Nat -> Nat -> Bool} {it:Nat -> Keyed} {κ:SortKind} {p p':List Nat}
theorem put_arr {l:List Nat} {b:Nat} (h:b + l.length <= p.length):((arK it l).toList.zipIdx.foldl (fun a (q:Keyed × Nat) => a.setIfInBounds (b + q.2) q.1) (arK it p)) = arK it (p.take b ++ l ++ p.drop (b + l.length)):=by
 apply Array.ext_getElem?
 intro u
 have:=fold_set (b:=b) (arK it l).toList 0 (arK it p) (by simpa [arK] using h) u
 rw [this]
 simp only [arK,List.toList_toArray,List.length_map,Nat.add_zero,List.getElem?_toArray,List.getElem?_map]
 by_cases c:b <= u /\ u < b + l.length
 ·rw [if_pos c,List.append_assoc,List.getElem?_append_right (by simp; ac_rfl),List.getElem?_append_left (by simp; ac_rfl)]
  simp [List.length_take,Nat.min_eq_left (show b <= p.length by ac_rfl)]
 ·rw [if_neg c]
  by_cases c2:u < b
  ·rw [List.append_assoc,List.getElem?_append_left (by simp; ac_rfl),List.getElem?_take_of_lt c2]
  ·rw [List.getElem?_append_right (by simp; ac_rfl)]
   simp only [List.length_append,List.length_take,List.getElem?_drop]
   congr 2
   ac_rfl
theorem get_put {l:List Nat} {b u:Nat} (h:b + l.length <= p.length):g (p.take b ++ l ++ p.drop (b + l.length)) u = if u < b then g p u else if u < b + l.length then g l (u - b) else g p u:=by
 unfold g
 simp only [List.getD_eq_getElem?_getD]
 by_cases c2:u < b
 ·rw [if_pos c2,List.append_assoc,List.getElem?_append_left (by simp; ac_rfl),List.getElem?_take_of_lt c2]
 ·rw [if_neg c2]
  by_cases c:u < b + l.length
  ·rw [if_pos c,List.append_assoc,List.getElem?_append_right (by simp; ac_rfl),List.getElem?_append_left (by simp; ac_rfl)]
   simp [List.length_take,Nat.min_eq_left (show b <= p.length by ac_rfl)]
  ·rw [if_neg c,List.getElem?_append_right (by simp; ac_rfl)]
   simp only [List.length_append,List.length_take,List.getElem?_drop]
   congr 2
   ac_rfl
theorem seg_mem {x b n:Nat} (h:b + n <= p.length) (hx:x ∈ (p.drop b).take n):∃ u,b <= u /\ u < b + n /\ x = g p u:=by
 obtain ⟨i,hi,e⟩:=List.mem_iff_getElem.mp hx
 simp at hi
 refine ⟨b + i,by ac_rfl,by ac_rfl,?_⟩
 rw [<- e]
 simp [g,List.getD,show b + i < p.length by ac_rfl]
theorem seg_get {b n i:Nat} (hi:i < n) (h:b + n <= p.length):((p.drop b).take n).getD i 0 = g p (b + i):=by
 unfold g
 simp only [List.getD_eq_getElem?_getD]
 rw [List.getElem?_take_of_lt hi,List.getElem?_drop]
theorem seg_up {b n:Nat} (h:b + n <= p.length) (sg:Sg lt p b (b + n)):((p.drop b).take n).Pairwise fun x y => lt x y = true:=by
 rw [List.pairwise_iff_getElem]
 intro i j hi hj hij
 simp at hi hj
 have e1:((p.drop b).take n)[i]'(by simp; ac_rfl) = g p (b + i):=by simp [g,List.getD,show b + i < p.length by ac_rfl]
 have e2:((p.drop b).take n)[j]'(by simp; ac_rfl) = g p (b + j):=by simp [g,List.getD,show b + j < p.length by ac_rfl]
 rw [e1,e2]
 exact sg _ _ (by ac_rfl) (by ac_rfl) (by ac_rfl)
theorem seg_split {a m b:Nat}:(p.drop a).take m ++ (p.drop (a + m)).take b = (p.drop a).take (m + b):=by
 rw [List.take_add,List.drop_drop]
theorem put_perm {l:List Nat} {b n:Nat} (h:b + n <= p.length) (d:l.Perm ((p.drop b).take n)):(p.take b ++ l ++ p.drop (b + l.length)).Perm p:=by
 have el:l.length = n:=by rw [d.length_eq]; simp; ac_rfl
 rw [el]
 have e:p.take b ++ (p.drop b).take n ++ p.drop (b + n) = p:=by
  rw [List.append_assoc,<- List.drop_drop,List.take_append_drop,List.take_append_drop]
 refine List.Perm.trans ?_ (List.Perm.of_eq e)
 exact (d.append_left _).append_right _
theorem wpS_put {σ:Type} {a:σ} {Q:PUnit -> σ -> Prop} {st:σ} (h:Q ⟨⟩ a):wpS M A E s (set a:StateT σ Sem PUnit) Q st:=by
 unfold wpS
 rw [StateT.run_set]
 exact wpAny_pure ⟨rfl,h⟩
theorem at_ok (T:Tm M A E s N lt it κ) {st:SortSt} {i sa na sb nb pw x:Nat} {Q:Bool -> SortSt -> Prop} (S:Sp1 it κ st p) (P:Pm1 N p) (e1:(pendingOf st)[i]? = some (sa,na,pw)) (e2:(pendingOf st)[i + 1]? = some (sb,nb,x)) (hs:sb = sa + na) (ha:0 < na) (hb:0 < nb) (hN:sb + nb <= N)
  (ga:Sg lt p sa (sa + na)) (gb:Sg lt p sb (sb + nb))
  (q:∀ st' p',Sp1 it κ st' p' -> pendingOf st' = ((pendingOf st).setIfInBounds i (sa,na + nb,pw)).eraseIdxIfInBounds (i + 1) -> Pm1 N p' -> Sg lt p' sa (sa + (na + nb)) -> Ou p p' sa (sa + (na + nb)) -> Q true st'):wpS M A E s (mergeAt' i) Q st:=by
 have hl:=pm_len P
 subst hs
 unfold mergeAt'
 refine wpS_bind (wpS_get ?_)
 have e1':((sortPriv% PySem.Builtin.SortState.pending) st)[i]? = some (sa,na,pw):=e1
 have e2':((sortPriv% PySem.Builtin.SortState.pending) st)[i + 1]? = some (sa + na,nb,x):=e2
 have ea:(sortPriv% PySem.Builtin.SortState.a) st = arK it p:=S.a
 dsimp only
 rw [e1',e2']
 dsimp only
 refine wpS_bind (wpS_put ?_)
 have S1:Sp1 it κ (SortSt.mk' (kindOf st) (arrOf st) (((pendingOf st).setIfInBounds i (sa,na + nb,pw)).eraseIdxIfInBounds (i + 1)) (gallopOf st) (failedOf st)) p:=⟨S.k,S.a,S.f⟩
 show wpS M A E s _ Q (SortSt.mk' (kindOf st) (arrOf st) (((pendingOf st).setIfInBounds i (sa,na + nb,pw)).eraseIdxIfInBounds (i + 1)) (gallopOf st) (failedOf st))
 generalize hst:SortSt.mk' (kindOf st) (arrOf st) (((pendingOf st).setIfInBounds i (sa,na + nb,pw)).eraseIdxIfInBounds (i + 1)) (gallopOf st) (failedOf st) = st1 at S1 ⊢
 have hp1:pendingOf st1 = ((pendingOf st).setIfInBounds i (sa,na + nb,pw)).eraseIdxIfInBounds (i + 1):=by rw [<- hst]
 rw [ea]
 refine wpS_bind (wpS_el (arK_get (by ac_rfl)) ?_)
 refine wpS_bind (gal_ok T (left:=false) (f:=fun i => g p (sa + i)) S1.k (pm_lt P (by ac_rfl)) (fun i h => arK_get (by ac_rfl)) (fun i h => ⟨pm_lt P (by ac_rfl),pm_ne P (by ac_rfl) (by ac_rfl) (by ac_rfl)⟩) (fun i j h h2 => ga _ _ (by ac_rfl) (by ac_rfl) (by ac_rfl)) (by ac_rfl) fun k k1 k2 k3 => ?_)
 have bAll:∀ v,sa + na <= v -> v < sa + na + nb -> ∀ y,y < N -> lt y (g p (sa + na)) = true -> lt y (g p v) = true:=fun v h1 h2 y hy z => by
  by_cases c:v = sa + na
  ·rw [c]; exact z
  ·exact T.tr _ _ _ hy (pm_lt P (by ac_rfl)) (pm_lt P (by ac_rfl)) z (gb _ _ (by ac_rfl) (by ac_rfl) (by ac_rfl))
 dsimp only
 by_cases z:na - k = 0
 ·rw [if_pos (by simpa using z)]
  refine wpS_pure (q st1 p S1 hp1 P (fun u v hu huv hv => ?_) fun u h => rfl)
  by_cases c:v < sa + na
  ·exact ga u v hu huv c
  ·by_cases c2:sa + na <= u
   ·exact gb u v c2 huv (by ac_rfl)
   ·refine bAll v (by ac_rfl) (by ac_rfl) _ (pm_lt P (by ac_rfl)) ?_
    have:=k2 (u - sa) (by ac_rfl)
    rw [show sa + (u - sa) = u by ac_rfl] at this
    exact this
 rw [if_neg (by simpa using z),show sa + k + (na - k) - 1 = sa + na - 1 by ac_rfl]
 refine wpS_bind (wpS_el (arK_get (by ac_rfl)) ?_)
 refine wpS_bind (gal_ok T (left:=true) (f:=fun i => g p (sa + na + i)) S1.k (pm_lt P (by ac_rfl)) (fun i h => arK_get (by ac_rfl)) (fun i h => ⟨pm_lt P (by ac_rfl),pm_ne P (by ac_rfl) (by ac_rfl) (by ac_rfl)⟩) (fun i j h h2 => gb _ _ (by ac_rfl) (by ac_rfl) (by ac_rfl)) (by ac_rfl) fun m j1 j2 j3 => ?_)
 dsimp only
 have z2:m ≠ 0:=fun c => by
  have y1:=j3 0 (by ac_rfl) (by ac_rfl)
  have y2:=k3 (na - 1) (by ac_rfl) (by ac_rfl)
  rw [show sa + (na - 1) = sa + na - 1 by ac_rfl] at y2
  have y3:lt (g p (sa + na)) (g p (sa + na - 1)) = true:=y2
  have y4:lt (g p (sa + na - 1)) (g p (sa + na)) = true:=y1
  rw [T.tot _ _ (pm_lt P (by ac_rfl)) (pm_lt P (by ac_rfl)) (pm_ne P (by ac_rfl) (by ac_rfl) (by ac_rfl)),y3] at y4
  cases y4
 rw [if_neg (by simpa using z2),arK_cut,arK_cut,show sa + na - (sa + k) = na - k by ac_rfl,show sa + na + m - (sa + na) = m by ac_rfl]
 have wh:(p.drop (sa + k)).take (na - k) ++ (p.drop (sa + na)).take m = (p.drop (sa + k)).take (na - k + m):=by
  have:=seg_split (p:=p) (a:=sa + k) (m:=na - k) (b:=m)
  rw [show sa + k + (na - k) = sa + na by ac_rfl] at this
  exact this
 have nd:p.Nodup:=P.nodup_iff.mpr List.nodup_range
 have W:Two N lt ((p.drop (sa + k)).take (na - k)) ((p.drop (sa + na)).take m):=by
  refine ⟨seg_up (by ac_rfl) fun u v a b c => ga u v (by ac_rfl) b (by ac_rfl),seg_up (by ac_rfl) fun u v a b c => gb u v (by ac_rfl) b (by ac_rfl),?_,fun y hy => ?_⟩
  ·rw [wh]
   exact nd.sublist ((List.take_sublist _ _).trans (List.drop_sublist _ _))
  ·rw [wh] at hy
   obtain ⟨u,h1,h2,rfl⟩:=seg_mem (by ac_rfl) hy
   exact pm_lt P (by ac_rfl)
 have la0:0 < ((p.drop (sa + k)).take (na - k)).length:=by simp; ac_rfl
 have lb0:0 < ((p.drop (sa + na)).take m).length:=by simp; ac_rfl
 have ll:((p.drop (sa + k)).take (na - k)).length = na - k:=by simp; ac_rfl
 have lm:((p.drop (sa + na)).take m).length = m:=by simp; ac_rfl
 have fin:∀ l,Dn2 lt ((p.drop (sa + k)).take (na - k)) ((p.drop (sa + na)).take m) l -> ∃ p2,(arK it l).toList.zipIdx.foldl (fun a (q:Keyed × Nat) => a.setIfInBounds (sa + k + q.2) q.1) (arK it p) = arK it p2 /\ Pm1 N p2 /\ Sg lt p2 sa (sa + (na + nb)) /\ Ou p p2 sa (sa + (na + nb)):=fun l d => by
  have d1:=d.1
  rw [wh] at d1
  have el:l.length = na - k + m:=by rw [d1.length_eq]; simp; ac_rfl
  have mem:∀ y ∈ l,∃ u,sa + k <= u /\ u < sa + na + m /\ y = g p u:=fun y hy => by
   obtain ⟨u,h1,h2,h3⟩:=seg_mem (by ac_rfl) (d1.mem_iff.mp hy)
   exact ⟨u,h1,by ac_rfl,h3⟩
  have lg:∀ u,u < l.length -> g l u ∈ l:=fun u hu => by
   have e:g l u = l[u]:=by simp [g,List.getD,hu]
   rw [e]
   exact List.getElem_mem hu
  refine ⟨_,put_arr (by ac_rfl),(put_perm (n:=na - k + m) (by ac_rfl) d1).trans P,fun u v hu huv hv => ?_,fun u h => ?_⟩
  ·have A1:∀ u,sa <= u -> u < sa + k -> lt (g p u) (g p (sa + na)) = true:=fun u h1 h2 => by
    have:=k2 (u - sa) (by ac_rfl)
    rw [show sa + (u - sa) = u by ac_rfl] at this
    exact this
   have B1:∀ w,sa + na + m <= w -> w < sa + na + nb -> lt (g p (sa + na - 1)) (g p w) = true:=fun w h1 h2 => by
    have:=j3 (w - (sa + na)) (by ac_rfl) (by ac_rfl)
    rw [show sa + na + (w - (sa + na)) = w by ac_rfl] at this
    exact this
   rw [get_put (by ac_rfl),get_put (by ac_rfl)]
   by_cases cu:u < sa + k
   ·rw [if_pos cu]
    by_cases cv:v < sa + k
    ·rw [if_pos cv]
     exact ga u v hu huv (by ac_rfl)
    ·rw [if_neg cv]
     by_cases cv2:v < sa + k + l.length
     ·rw [if_pos cv2]
      obtain ⟨w,w1,w2,w3⟩:=mem _ (lg (v - (sa + k)) (by ac_rfl))
      rw [w3]
      by_cases cw:w < sa + na
      ·exact ga u w hu (by ac_rfl) cw
      ·exact bAll w (by ac_rfl) (by ac_rfl) _ (pm_lt P (by ac_rfl)) (A1 u hu cu)
     ·rw [if_neg cv2]
      exact bAll v (by ac_rfl) (by ac_rfl) _ (pm_lt P (by ac_rfl)) (A1 u hu cu)
   ·rw [if_neg cu,if_neg (by ac_rfl:¬ v < sa + k)]
    by_cases cu2:u < sa + k + l.length
    ·rw [if_pos cu2]
     by_cases cv2:v < sa + k + l.length
     ·rw [if_pos cv2]
      have e1:g l (u - (sa + k)) = l[u - (sa + k)]'(by ac_rfl):=by simp [g,List.getD,show u - (sa + k) < l.length by ac_rfl]
      have e2:g l (v - (sa + k)) = l[v - (sa + k)]'(by ac_rfl):=by simp [g,List.getD,show v - (sa + k) < l.length by ac_rfl]
      rw [e1,e2]
      exact List.pairwise_iff_getElem.mp d.2 _ _ (by ac_rfl) (by ac_rfl) (by ac_rfl)
     ·rw [if_neg cv2]
      obtain ⟨w,w1,w2,w3⟩:=mem _ (lg (u - (sa + k)) (by ac_rfl))
      rw [w3]
      by_cases cw:w < sa + na
      ·by_cases c3:w = sa + na - 1
       ·rw [c3]
        exact B1 v (by ac_rfl) (by ac_rfl)
       ·exact T.tr _ _ _ (pm_lt P (by ac_rfl)) (pm_lt P (by ac_rfl)) (pm_lt P (by ac_rfl)) (ga w (sa + na - 1) (by ac_rfl) (by ac_rfl) (by ac_rfl)) (B1 v (by ac_rfl) (by ac_rfl))
      ·exact gb w v (by ac_rfl) (by ac_rfl) (by ac_rfl)
    ·rw [if_neg cu2,if_neg (by ac_rfl)]
     exact gb u v (by ac_rfl) huv (by ac_rfl)
  ·rw [get_put (by ac_rfl)]
   by_cases cu:u < sa + k
   ·rw [if_pos cu]
   ·rw [if_neg cu,if_neg (by ac_rfl)]
 have xl:∀ y ∈ (p.drop (sa + k)).take (na - k),lt (g p (sa + na)) y = true:=fun y hy => by
  obtain ⟨u,h1,h2,rfl⟩:=seg_mem (by ac_rfl) hy
  have:=k3 (u - sa) (by ac_rfl) (by ac_rfl)
  rw [show sa + (u - sa) = u by ac_rfl] at this
  exact this
 have yl:∀ y ∈ (p.drop (sa + na)).take m,lt y (g p (sa + na - 1)) = true:=fun y hy => by
  obtain ⟨u,h1,h2,rfl⟩:=seg_mem (by ac_rfl) hy
  have:=j2 (u - (sa + na)) (by ac_rfl)
  rw [show sa + na + (u - (sa + na)) = u by ac_rfl] at this
  exact this
 have b0:((p.drop (sa + na)).take m).getD 0 0 = g p (sa + na):=seg_get (by ac_rfl) (by ac_rfl)
 have a0:((p.drop (sa + k)).take (na - k)).getD 0 0 = g p (sa + k):=seg_get (by ac_rfl) (by ac_rfl)
 have aL:((p.drop (sa + k)).take (na - k)).getD (((p.drop (sa + k)).take (na - k)).length - 1) 0 = g p (sa + na - 1):=by
  rw [ll,seg_get (by ac_rfl) (by ac_rfl)]
  congr 1
  ac_rfl
 split
 ·refine wpS_bind (mgLo_ok T W S1.k la0 lb0 (by rw [b0]; exact xl _ (by rw [a0,<- a0,List.getD_eq_getElem?_getD,List.getElem?_eq_getElem la0]; exact List.getElem_mem la0)) (by rw [aL]; exact yl) fun l st' d se => ?_)
  obtain ⟨p2,f1,f2,f3,f4⟩:=fin l d
  refine wpS_bind (wpS_modify (wpS_bind (wpS_get ?_)))
  have hf:(failedOf st').isNone = true:=by rw [se.f,S1.f]; rfl
  have S2:arrOf st' = arK it p:=by rw [se.a,S1.a]
  refine wpS_pure ?_
  refine (congrArg (fun b => Q b _) hf).mpr (q _ p2 ⟨se.k.trans S1.k,?_,se.f.trans S1.f⟩ (se.p.trans hp1) f2 f3 f4)
  show List.foldl _ (arrOf st') _ = _
  rw [S2]
  exact f1
 ·refine wpS_bind (mgHi_ok T W S1.k la0 lb0 (by rw [b0]; exact xl) (by rw [aL]; exact yl _ (by rw [List.getD_eq_getElem?_getD,List.getElem?_eq_getElem (by ac_rfl)]; exact List.getElem_mem _)) fun l st' d se => ?_)
  obtain ⟨p2,f1,f2,f3,f4⟩:=fin l d
  refine wpS_bind (wpS_modify (wpS_bind (wpS_get ?_)))
  have hf:(failedOf st').isNone = true:=by rw [se.f,S1.f]; rfl
  have S2:arrOf st' = arK it p:=by rw [se.a,S1.a]
  refine wpS_pure ?_
  refine (congrArg (fun b => Q b _) hf).mpr (q _ p2 ⟨se.k.trans S1.k,?_,se.f.trans S1.f⟩ (se.p.trans hp1) f2 f3 f4)
  show List.foldl _ (arrOf st') _ = _
  rw [S2]
  exact f1
end
end L2
namespace L2
open PySem PySem.Spec PyProof.Rows PySem.W
section
variable {M:Model} {A:Around} {E:Value -> Shared -> Prop} {s:Shared} {N:Nat} {lt:Nat -> Nat -> Bool} {it:Nat -> Keyed} {κ:SortKind} {p p':List Nat}
def Chn (lt:Nat -> Nat -> Bool) (p:List Nat):Nat -> List (Nat × Nat × Nat) -> Nat -> Prop
 | b,[],e => b = e
 | b,(a,n,_) :: r,e => a = b /\ 0 < n /\ Sg lt p b (b + n) /\ Chn lt p (b + n) r e
theorem Chn.le:∀ {r:List (Nat × Nat × Nat)} {b e:Nat},Chn lt p b r e -> b + r.length <= e
 | [],b,e,h => by have:b = e:=h; simp; ac_rfl
 | (a,n,w) :: r,b,e,h => by
  have:=h.2.2.2.le
  have:=h.2.1
  simp
  ac_rfl
theorem Chn.split:∀ {xs ys:List (Nat × Nat × Nat)} {b e:Nat},Chn lt p b (xs ++ ys) e -> ∃ m,Chn lt p b xs m /\ Chn lt p m ys e
 | [],ys,b,e,h => ⟨b,rfl,h⟩
 | (a,n,w) :: xs,ys,b,e,h => by
  obtain ⟨m,h1,h2⟩:=Chn.split (xs:=xs) h.2.2.2
  exact ⟨m,⟨h.1,h.2.1,h.2.2.1,h1⟩,h2⟩
theorem Chn.join:∀ {xs ys:List (Nat × Nat × Nat)} {b m e:Nat},Chn lt p b xs m -> Chn lt p m ys e -> Chn lt p b (xs ++ ys) e
 | [],ys,b,m,e,h1,h2 => by have z:b = m:=h1; subst z; exact h2
 | (a,n,w) :: xs,ys,b,m,e,h1,h2 => ⟨h1.1,h1.2.1,h1.2.2.1,h1.2.2.2.join h2⟩
theorem Chn.same:∀ {xs:List (Nat × Nat × Nat)} {b e:Nat},Chn lt p b xs e -> (∀ u,b <= u -> u < e -> g p' u = g p u) -> Chn lt p' b xs e
 | [],b,e,h,_ => h
 | (a,n,w) :: xs,b,e,h,z => by
  have l:=h.2.2.2.le
  refine ⟨h.1,h.2.1,fun u v hu huv hv => ?_,h.2.2.2.same fun u h1 h2 => z u (by ac_rfl) h2⟩
  rw [z u hu (by ac_rfl),z v (by ac_rfl) (by ac_rfl)]
  exact h.2.2.1 u v hu huv hv
theorem list_at2 {α:Type} {l:List α} {i:Nat} (h:i + 1 < l.length):∃ xs x y ys,l = xs ++ x :: y :: ys /\ xs.length = i:=
 ⟨l.take i,l[i]'(by ac_rfl),l[i + 1],l.drop (i + 2),by
  rw [<- List.drop_eq_getElem_cons h,<- List.drop_eq_getElem_cons (by ac_rfl:i < l.length),List.take_append_drop],by simp; ac_rfl⟩
theorem mrg_ok (T:Tm M A E s N lt it κ) {st:SortSt} {i lo:Nat} {Q:Bool -> SortSt -> Prop} (S:Sp1 it κ st p) (P:Pm1 N p) (hi:i + 1 < (pendingOf st).size) (hN:lo <= N) (c:Chn lt p 0 (pendingOf st).toList lo)
  (q:∀ st' p',Sp1 it κ st' p' -> Pm1 N p' -> Chn lt p' 0 (pendingOf st').toList lo -> (pendingOf st').size + 1 = (pendingOf st).size -> Ou p p' 0 lo -> Q true st'):wpS M A E s (mergeAt' i) Q st:=by
 obtain ⟨xs,⟨a,n,w⟩,⟨b,m,x⟩,ys,e,el⟩:=list_at2 (l:=(pendingOf st).toList) (i:=i) (by simpa using hi)
 rw [e] at c
 obtain ⟨k,c1,c2⟩:=c.split
 obtain ⟨rfl,n0,sg,rfl,m0,sg2,c3⟩:=c2
 have l1:=c1.le
 have l3:=c3.le
 have e1:(pendingOf st)[i]? = some (a,n,w):=by rw [<- Array.getElem?_toList,e,List.getElem?_append_right (by ac_rfl),el]; simp
 have e2:(pendingOf st)[i + 1]? = some (a + n,m,x):=by rw [<- Array.getElem?_toList,e,List.getElem?_append_right (by ac_rfl),el]; simp
 refine at_ok T S P e1 e2 rfl n0 m0 (by ac_rfl) sg sg2 fun st' p' S' hp P' sg' o => ?_
 have ep:(pendingOf st').toList = xs ++ (a,n + m,w) :: ys:=by
  rw [hp]
  simp only [Array.toList_eraseIdxIfInBounds,Array.toList_setIfInBounds,e]
  rw [List.set_append_right _ _ (by ac_rfl),el,Nat.sub_self,List.set_cons_zero,List.eraseIdx_append_of_length_le (by ac_rfl),el]
  simp
 refine q st' p' S' P' ?_ ?_ fun u h => o u (by ac_rfl)
 ·rw [ep]
  exact (c1.same fun u h1 h2 => o u (.inl h2)).join ⟨rfl,by ac_rfl,sg',by
   rw [<- Nat.add_assoc]
   exact c3.same fun u h1 h2 => o u (.inr (by ac_rfl))⟩
 ·rw [<- Array.length_toList,ep,<- Array.length_toList,e]
  simp
  ac_rfl
end
end L2
namespace L2
open PySem PySem.Spec PyProof.Rows PySem.W
section
variable {M:Model} {A:Around} {E:Value -> Shared -> Prop} {s:Shared} {N:Nat} {lt:Nat -> Nat -> Bool} {it:Nat -> Keyed} {κ:SortKind} {p p':List Nat}
theorem Chn.power {pd:Array (Nat × Nat × Nat)} {i b e w:Nat} (c:Chn lt p b pd.toList e):Chn lt p b (pd.modify i fun x => (x.1,x.2.1,w)).toList e:=by
 rw [Array.toList_modify]
 generalize pd.toList = l at c
 induction l generalizing i b with
 | nil => cases i <;> exact c
 | cons x l ih =>
  obtain ⟨a,n,v⟩:=x
  cases i with
  | zero => exact c
  | succ i => exact ⟨c.1,c.2.1,c.2.2.1,ih c.2.2.2⟩
theorem Chn.push {pd:Array (Nat × Nat × Nat)} {lo n:Nat} (c:Chn lt p 0 pd.toList lo) (h:0 < n) (sg:Sg lt p lo (lo + n)):Chn lt p 0 (pd.push (lo,n,0)).toList (lo + n):=by
 rw [Array.toList_push]
 exact c.join ⟨rfl,h,sg,rfl⟩
theorem tim_ok (T:Tm M A E s N lt it κ) {st:SortSt} {Q:Unit -> SortSt -> Prop} (S:Sp1 it κ st p) (P:Pm1 N p) (hp:pendingOf st = #[])
  (q:∀ st' p',Sp1 it κ st' p' -> Pm1 N p' -> Sg lt p' 0 N -> Q () st'):wpS M A E s sortRuns' Q st:=by
 have hl:=pm_len P
 rw [sortRuns'_eq]
 refine wpS_bind (wpS_get ?_)
 dsimp only
 have hsz:(arrOf st).size = N:=by rw [S.a,arK_size,hl]
 simp only [hsz]
 generalize minRun' N N 0 = mr
 refine wpS_bind (wpS_mono (wpS_forRange
  (I:=fun x c st' => ∃ lo p',c = (none,lo) /\ Sp1 it κ st' p' /\ Pm1 N p' /\ Chn lt p' 0 (pendingOf st').toList lo /\ lo <= N /\ x <= lo)
  (Q:=fun c st' => ∃ p',c = (none,N) /\ Sp1 it κ st' p' /\ Pm1 N p' /\ Chn lt p' 0 (pendingOf st').toList N) ?step ?fin ?init) ?post)
 case init => exact ⟨0,p,rfl,S,P,by rw [hp]; rfl,by ac_rfl,by ac_rfl⟩
 case fin =>
  rintro c st' ⟨lo,p',rfl,S',P',c',h1,h2⟩
  obtain rfl:lo = N:=by ac_rfl
  exact ⟨p',rfl,S',P',c'⟩
 case post =>
  rintro c st' ⟨p',rfl,S',P',c'⟩
  dsimp only
  have cl:=c'.le
  refine wpS_bind (wpS_mono (wpS_forRange
   (I:=fun x c st2 => c = (none,()) /\ ∃ p2,Sp1 it κ st2 p2 /\ Pm1 N p2 /\ Chn lt p2 0 (pendingOf st2).toList N /\ (pendingOf st2).size + x <= N)
   (Q:=fun c st2 => c = (none,()) /\ ∃ p2,Sp1 it κ st2 p2 /\ Pm1 N p2 /\ Chn lt p2 0 (pendingOf st2).toList N /\ (pendingOf st2).size <= 1) ?s2 ?f2 ?i2) ?p2)
  case i2 => exact ⟨rfl,p',S',P',c',by rw [<- Array.length_toList]; ac_rfl⟩
  case f2 =>
   rintro c st2 ⟨rfl,p2,S2,P2,c2,h⟩
   exact ⟨rfl,p2,S2,P2,c2,by ac_rfl⟩
  case s2 =>
   rintro x c st2 _ hx ⟨rfl,p2,S2,P2,c2,h⟩
   refine wpS_bind (wpS_get ?_)
   by_cases z:(pendingOf st2).size <= 1
   ·rw [if_pos z]
    exact wpS_pure ⟨rfl,p2,S2,P2,c2,z⟩
   rw [if_neg z]
   refine wpS_bind (mrg_ok T S2 P2 ?hj (Nat.le_refl _) c2 fun st3 p3 S3 P3 c3 h3 _ => ?_)
   case hj =>
    repeat' split
    all_goals ac_rfl
   rw [if_neg (by decide)]
   exact wpS_pure ⟨rfl,p3,S3,P3,c3,by ac_rfl⟩
  case p2 =>
   rintro c st2 ⟨rfl,p2,S2,P2,c2,h⟩
   refine wpS_pure (q st2 p2 S2 P2 ?_)
   have:(pendingOf st2).toList.length = (pendingOf st2).size:=by simp
   match hl2:(pendingOf st2).toList,c2 with
   | [],c2 =>
    have z:0 = N:=c2
    intro u v a b c
    ac_rfl
   | [(a,n,w)],c2 =>
    obtain ⟨rfl,n0,sg,z⟩:=c2
    have z':0 + n = N:=z
    rw [<- z']
    exact sg
   | _ :: _ :: _,_ =>
    rw [hl2] at this
    simp at this
    ac_rfl
 case step =>
  rintro x c st' _ hx ⟨lo,p',rfl,S',P',c',h1,h2⟩
  dsimp only
  by_cases z:lo >= N
  ·rw [if_pos z]
   obtain rfl:lo = N:=by ac_rfl
   exact wpS_pure ⟨p',rfl,S',P',c'⟩
  rw [if_neg z]
  refine wpS_bind (count_ok T S' P' (by ac_rfl) (by ac_rfl) fun m st2 p2 m1 m2 S2 e2 P2 sg2 o2 => ?_)
  have c2:Chn lt p2 0 (pendingOf st2).toList lo:=by rw [e2]; exact c'.same fun u a b => o2 u (.inl b)
  dsimp only
  by_cases zm:m < mr
  ·rw [if_pos zm]
   refine wpS_bind (wpS_lift (wpAny_rule ⟨rfl,?_⟩))
   have hf:min (N - lo) mr <= N - lo:=Nat.min_le_left _ _
   have hf2:m <= min (N - lo) mr:=by ac_rfl
   refine wpS_bind (bin_ok T S2 P2 m1 hf2 (by ac_rfl) sg2 fun st3 p3 S3 e3 P3 sg3 o3 => ?_)
   have c3:Chn lt p3 0 (pendingOf st3).toList lo:=by rw [e3]; exact c2.same fun u a b => o3 u (.inl b)
   generalize min (N - lo) mr = fo at *
   rw [if_neg (by decide)]
   refine wpS_bind (wpS_get ?_)
   cases hb:(pendingOf st3).back? with
   | none =>
    dsimp only
    exact wpS_bind (wpS_modify (wpS_pure ⟨lo + fo,p3,rfl,⟨S3.k,S3.a,S3.f⟩,P3,c3.push (by ac_rfl) sg3,by ac_rfl,by ac_rfl⟩))
   | some t =>
    obtain ⟨s1,n1,w1⟩:=t
    dsimp only
    refine wpS_bind (wpS_mono (wpS_forRange
     (I:=fun y c st4 => c = (none,()) /\ ∃ p4,Sp1 it κ st4 p4 /\ Pm1 N p4 /\ Chn lt p4 0 (pendingOf st4).toList lo /\ Sg lt p4 lo (lo + fo))
     (Q:=fun c st4 => c = (none,()) /\ ∃ p4,Sp1 it κ st4 p4 /\ Pm1 N p4 /\ Chn lt p4 0 (pendingOf st4).toList lo /\ Sg lt p4 lo (lo + fo)) ?_ (fun _ _ h => h) ⟨rfl,p3,S3,P3,c3,sg3⟩) ?_)
    ·rintro y c st4 _ hy ⟨rfl,p4,S4,P4,c4,sg4⟩
     refine wpS_bind (wpS_get ?_)
     by_cases zz:(pendingOf st4).size > 1
     ·rw [if_pos zz]
      cases ho:(pendingOf st4)[(pendingOf st4).size - 2]? with
      | none => exact wpS_pure ⟨rfl,p4,S4,P4,c4,sg4⟩
      | some t =>
       obtain ⟨t1,t2,older⟩:=t
       dsimp only
       split
       ·exact wpS_pure ⟨rfl,p4,S4,P4,c4,sg4⟩
       ·refine wpS_bind (mrg_ok T S4 P4 (by ac_rfl) (by ac_rfl) c4 fun st5 p5 S5 P5 c5 h5 o5 => ?_)
        rw [if_neg (by decide)]
        exact wpS_pure ⟨rfl,p5,S5,P5,c5,fun u v hu huv hv => by rw [o5 u (.inr hu),o5 v (.inr (by ac_rfl))]; exact sg4 u v hu huv hv⟩
     ·rw [if_neg zz]
      exact wpS_pure ⟨rfl,p4,S4,P4,c4,sg4⟩
    ·rintro c st4 ⟨rfl,p4,S4,P4,c4,sg4⟩
     dsimp only
     exact wpS_bind (wpS_modify (wpS_bind (wpS_modify (wpS_pure ⟨lo + fo,p4,rfl,⟨S4.k,S4.a,S4.f⟩,P4,(Chn.power c4).push (by ac_rfl) sg4,by ac_rfl,by ac_rfl⟩))))
  ·rw [if_neg zm]
   refine wpS_bind (wpS_get ?_)
   cases hb:(pendingOf st2).back? with
   | none =>
    dsimp only
    exact wpS_bind (wpS_modify (wpS_pure ⟨lo + m,p2,rfl,⟨S2.k,S2.a,S2.f⟩,P2,c2.push (by ac_rfl) sg2,by ac_rfl,by ac_rfl⟩))
   | some t =>
    obtain ⟨s1,n1,w1⟩:=t
    dsimp only
    refine wpS_bind (wpS_mono (wpS_forRange
     (I:=fun y c st4 => c = (none,()) /\ ∃ p4,Sp1 it κ st4 p4 /\ Pm1 N p4 /\ Chn lt p4 0 (pendingOf st4).toList lo /\ Sg lt p4 lo (lo + m))
     (Q:=fun c st4 => c = (none,()) /\ ∃ p4,Sp1 it κ st4 p4 /\ Pm1 N p4 /\ Chn lt p4 0 (pendingOf st4).toList lo /\ Sg lt p4 lo (lo + m)) ?_ (fun _ _ h => h) ⟨rfl,p2,S2,P2,c2,sg2⟩) ?_)
    ·rintro y c st4 _ hy ⟨rfl,p4,S4,P4,c4,sg4⟩
     refine wpS_bind (wpS_get ?_)
     by_cases zz:(pendingOf st4).size > 1
     ·rw [if_pos zz]
      cases ho:(pendingOf st4)[(pendingOf st4).size - 2]? with
      | none => exact wpS_pure ⟨rfl,p4,S4,P4,c4,sg4⟩
      | some t =>
       obtain ⟨t1,t2,older⟩:=t
       dsimp only
       split
       ·exact wpS_pure ⟨rfl,p4,S4,P4,c4,sg4⟩
       ·refine wpS_bind (mrg_ok T S4 P4 (by ac_rfl) (by ac_rfl) c4 fun st5 p5 S5 P5 c5 h5 o5 => ?_)
        rw [if_neg (by decide)]
        exact wpS_pure ⟨rfl,p5,S5,P5,c5,fun u v hu huv hv => by rw [o5 u (.inr hu),o5 v (.inr (by ac_rfl))]; exact sg4 u v hu huv hv⟩
     ·rw [if_neg zz]
      exact wpS_pure ⟨rfl,p4,S4,P4,c4,sg4⟩
    ·rintro c st4 ⟨rfl,p4,S4,P4,c4,sg4⟩
     dsimp only
     exact wpS_bind (wpS_modify (wpS_bind (wpS_modify (wpS_pure ⟨lo + m,p4,rfl,⟨S4.k,S4.a,S4.f⟩,P4,(Chn.power c4).push (by ac_rfl) sg4,by ac_rfl,by ac_rfl⟩))))
end
end L2
namespace L2
open PySem PySem.Spec PySem.W PyProof.Rows Tim
section
variable {prog:Program} {w:World} {A:Around} {E:Value -> Shared -> Prop} {s:Shared}
theorem sort_hereL {a:Addr} {vs:List Value} {n:Nat} {lt:Nat -> Nat -> Bool} {κ:SortKind} {P:Fin -> Shared -> Prop} (ho:s.heap.get? a = some (seqObj "list" vs.toArray n)) (h64:vs.length <= 10000) (ht:∀ i j,i < vs.length -> j < vs.length -> i ≠ j -> lt i j = true \/ lt j i = true) (c:2 <= vs.length -> Cmp prog w s a vs lt κ)
  (k:∀ p,Pm vs.length p -> Up lt p vs.length -> P (.done (.ret .none)) { s with heap:=sortedHeap s.heap a vs (picked vs p).toArray }):wpAny (model prog w) A (Builtin.«list.sort» ⟨[.ref a],[]⟩) P E s:=by
 have la:a < s.heap.objs.size:=Heap.lt_size ho
 let h1:=s.heap.update a (Obj.mapSeq fun _ => #[])
 let h2:=h1.push (seqObj "tuple" vs.toArray 0)
 let h3:=h2.push (seqObj "list" #[] 0)
 obtain ⟨m,g1⟩:∃ m,h1.get? a = some (seqObj "list" #[] m):=⟨_,get?_update_seq ho fun _ => #[]⟩
 have sz1:h1.objs.size = s.heap.objs.size:=Heap.size_update ..
 have keep:∀ b o,b ≠ a -> s.heap.get? b = some o -> h3.get? b = some o:=fun b o hb e =>
  Heap.get?_push_of_some _ (Heap.get?_push_of_some _ ((Heap.get?_update_ne _ _ _ _ hb).trans e))
 have g3:h3.get? a = some (seqObj "list" #[] m):=Heap.get?_push_of_some _ (Heap.get?_push_of_some _ g1)
 have line:vs.length <= sizeLine:=by rw [sizeLine_eq]; ac_rfl
 have fin:∀ p,Pm vs.length p -> Up lt p vs.length -> wpAny (model prog w) A (do
   let touched:=(<- seqEpoch a) != m
   Builtin.List.listUpdate (.ref a) fun _ => (picked vs p).toArray
   if touched then rule "list.sort.modified"; raiseError "ValueError" "list modified during sort"
   ret .none) P E { s with heap:=h3 }:=fun p pm up => by
  have sz:(picked vs p).toArray.size = vs.length:=by simp [picked,pm.size]
  refine wpAny_bind (seqEpoch_at g3 rfl (wpAny_bind (listUpdate_at g3 rfl ?_ (Nat.zero_le _) (by rw [sz]; ac_rfl))))
  rw [show (m != m) = false by simp]
  exact wpAny_pure (k p pm up)
 rw [list_sort_plain]
 refine wpAny_bind (listItems_at ho rfl (wpAny_bind (listUpdate_at ho rfl ?_ (by simpa using line) (Nat.zero_le _))))
 refine wpAny_bind (seqEpoch_at g1 rfl (wpAny_bind (wpAny_newTuple (wpAny_bind (wpAny_newList (wpAny_holding ?_) (Nat.zero_le _))) (by simpa using line))))
 show wpAny (model prog w) A _ P E { s with heap:=h3 }
 dsimp only
 by_cases two:2 <= vs.length
 ·have big:¬ vs.toArray.size < 2:=by simpa using two
  rw [if_neg big,if_neg big]
  have cc:=c two
  refine wpAny_bind (wpAny_mono (cc.kind A h3 (fun x s' => x = κ /\ s' = { s with heap:=h3 }) keep ⟨rfl,rfl⟩) (fun x s' e => ?_) fun _ _ z => z.elim)
  obtain ⟨rfl,rfl⟩:=e
  have W:=cc.wk
  have T:Tm (model prog w) A E { s with heap:=h3 } vs.length lt (kas_item (vs.toArray.zip vs.toArray)) x:=by
   have tot:∀ i j,i < vs.length -> j < vs.length -> i ≠ j -> lt i j = !lt j i:=fun i j hi hj n => by
    rcases ht i j hi hj n with z | z
    ·rw [z,W.asym z]; rfl
    ·rw [z,W.asym z]; rfl
   refine ⟨fun i j hi hj hn st Q hk q => ?_,tot,fun i j k _ _ _ => W.tr i j k⟩
   have it1:∀ i,i < vs.length -> (kas_item (vs.toArray.zip vs.toArray) i).1 = vs.getD i Value.none:=fun i hi => by simp [kas_item,Array.getD,hi]
   rw [lt'_eq]
   refine wpS_bind (wpS_get ?_)
   refine wpS_bind (wpS_lift (wpAny_attempt (wpAny_mono (?_:wpAny (model prog w) A _ (fun b s' => s' = { s with heap:=h3 } /\ b = lt i j) (fun _ _ => False) _) (fun b s' z => ?_) fun _ _ z => z.elim)))
   ·rw [hk,it1 i hi,it1 j hj]
    exact cc.less A h3 i j _ keep hi hj hn ⟨rfl,rfl⟩
   ·obtain ⟨rfl,rfl⟩:=z
    exact ⟨rfl,wpS_pure q⟩
  have est:vs.toArray.zip vs.toArray = arK (kas_item (vs.toArray.zip vs.toArray)) (List.range vs.length):=by
   apply Array.ext_getElem?
   intro u
   by_cases hu:u < vs.length
   ·simp [arK,kas_item,Array.getD,hu]
   ·simp [arK,hu]
  have run:=tim_ok T (st:=SortSt.mk' x (vs.toArray.zip vs.toArray) #[] 7 none) (p:=List.range vs.length) (Q:=fun _ st' => ∃ p,(Pm vs.length p /\ Up lt p vs.length) /\ arrOf st' = p.map (kas_item (vs.toArray.zip vs.toArray)) /\ failedOf st' = none) ⟨rfl,est,rfl⟩ (List.Perm.refl _) rfl fun st' p' S P sg => by
   have hlp:=pm_len P
   have ag:∀ u,at' p'.toArray u = g p' u:=fun u => by
    by_cases hu:u < p'.length
    ·simp [at',g,List.getD,Array.getD,hu]
    ·simp [at',g,List.getD,Array.getD,hu]
   refine ⟨p'.toArray,⟨?_,fun u v huv hv => ?_⟩,by rw [S.a]; simp [arK],S.f⟩
   ·exact Array.perm_iff_toList_perm.mpr (by simpa using P)
   ·rw [ag,ag]
    exact Bef.of W (sg u v (Nat.zero_le _) huv hv)
  refine wpAny_bind (wpAny_mono run (fun r s' q => ?_) fun _ _ z => z)
  obtain ⟨⟨⟩,st'⟩:=r
  obtain ⟨rfl,p,⟨pm,up⟩,e1,e2⟩:=q
  dsimp only at e1 e2 ⊢
  rw [kat_snds rfl e1,e2]
  exact fin p pm up
 ·have few:vs.toArray.size < 2:=by simp; ac_rfl
  rw [if_pos few,if_pos few]
  refine wpAny_bind (wpAny_pure ?_)
  rw [StateT.run_pure]
  refine wpAny_bind (wpAny_pure ?_)
  dsimp only
  have e:((arrOf (SortSt.mk' general' (vs.toArray.zip vs.toArray) #[] 7 none)).map fun x => x.2) = (picked vs (List.toArray (List.range vs.length))).toArray:=by
   rw [picked_id]
   apply Array.toList_inj.mp
   show ((vs.toArray.zip vs.toArray).map fun x => x.2).toList = _
   simp
   apply List.ext_getElem?
   intro i
   by_cases hi:i < vs.length
   ·simp [hi]
   ·simp [hi]
  rw [e]
  exact fin _ (Array.Perm.refl _) fun u v h1 h2 => by ac_rfl
theorem sorted_byL {l:Addr} {vs:List Value} {lt:Nat -> Nat -> Bool} {κ:SortKind} {Q:Value -> Shared -> Prop} (hl:s.heap.IsList l vs.toArray) (h64:vs.length <= 10000) (ht:∀ i j,i < vs.length -> j < vs.length -> i ≠ j -> lt i j = true \/ lt j i = true) (c:2 <= vs.length -> Cmp prog w s s.heap.objs.size vs lt κ)
  (k:∀ p,Pm vs.length p -> Up lt p vs.length -> Q (.ref (s.heap.objs.size + 1)) { s with heap:=sortedAll s.heap vs (picked vs p).toArray }):wpAny (model prog w) A (call (.builtin "sorted") [.ref l]) Q E s:=by
 have line:vs.length <= sizeLine:=by rw [sizeLine_eq]; ac_rfl
 let h1:=(s.heap.push (seqObj "list" #[] 0)).update s.heap.objs.size (Obj.mapSeq (· ++ vs.toArray))
 let h2:=h1.push (seqObj "list" vs.toArray 0)
 have sz:h1.objs.size = s.heap.objs.size + 1:=(Heap.size_update ..).trans (size_push' _ _)
 have old:∀ b o,s.heap.get? b = some o -> h2.get? b = some o:=fun b o e =>
  Heap.get?_push_of_some _ ((Heap.get?_update_ne _ _ _ _ (Nat.ne_of_lt (Heap.lt_size e))).trans (Heap.get?_push_of_some _ e))
 have mine:h2.get? (s.heap.objs.size + 1) = some (seqObj "list" vs.toArray 0):=sz ▸ Heap.get?_push_size h1 rfl
 refine Calls.call_function_entry kind_sorted plain_sorted entry_sorted (args_sorted1 _) ?_
 unfold Builtin.«sorted»
 refine wpAny_bind (m:=checkCount "sorted" 1 1 _) (wpAny_pure (wpAny_bind (collect_list hl (wpAny_bind (wpAny_newList ?_ line)) line)))
 show wpAny _ _ _ _ _ { s with heap:=h2 }
 rw [show ((s.heap.push (seqObj "list" #[] 0)).update s.heap.objs.size (Obj.mapSeq (· ++ vs.toArray))).objs.size = s.heap.objs.size + 1 from sz]
 refine wpAny_bind (wpAny_holding (wpAny_call_entry slot_list_sort ⟨_,mine,rfl⟩ entry_list_sort ?_ (args_list_sort _)))
 refine sort_hereL (s:={ s with heap:=h2 }) (lt:=lt) (κ:=κ) mine h64 ht (fun two => ?_) fun p a b => ⟨_,rfl,wpAny_pure ⟨_,rfl,k p a b⟩⟩
 ·have cc:=c two
  exact ⟨cc.wk,fun A h Q hk q => cc.kind A h Q (fun b o hb e => hk b o (fun z => by have y:=Heap.lt_size e; rw [z] at y; exact Nat.not_succ_lt_self y) (old b o e)) q,
   fun A h i j C hk hi hj hn q => cc.less A h i j C (fun b o hb e => hk b o (fun z => by have y:=Heap.lt_size e; rw [z] at y; exact Nat.not_succ_lt_self y) (old b o e)) hi hj hn q⟩
end
section
variable {X:Cx}
theorem call_sortedL:CallR X (.builtin "sorted") (fun xs H Q => ∃ (p:Addr) (its:List SIt) (k:Nat),xs = [.ref p] /\ SqL X.K H p (its.map fun t => V.ref t.1) /\ its.length <= 10000 /\ (∀ t ∈ its,SqT X.K H t.1 (t.2.1.map V.int ++ t.2.2) /\ t.2.1.length = k + 1) /\
  its.Pairwise (fun t u => t.2.1 ≠ u.2.1) /\ ∀ its':List SIt,its'.Perm its -> its'.Pairwise (fun t u => lexB t.2.1 u.2.1 = true) -> ∀ l,H l = none -> Q (.ref l) (upd H l (.lst (its'.map fun t => V.ref t.1)))):=by
 intro pins s σ H xs us Q I r h
 obtain ⟨p,its,k,rfl,hl,h64,hits,hd,q⟩:=h
 obtain ⟨u,rfl,ru⟩:=vals1 r
 cases ru
 obtain ⟨vs,rv,pl,hz⟩:=I.list hl
 have ev:vs = its.map fun t => Value.ref t.1:=by
  clear hl hz h64 hits hd q pl
  induction its generalizing vs with
  | nil => cases rv; rfl
  | cons t r ih =>
   cases rv with
   | cons a b => rw [List.map_cons,<- ih _ b]; cases a; rfl
 subst ev
 have len:(its.map fun t => Value.ref t.1).length = its.length:=by simp
 let num:Nat -> List Int:=fun i => (its.getD i (0,[],[])).2.1
 have get:∀ i,i < its.length -> (its.map fun t => Value.ref t.1).getD i Value.none = Value.ref (its.getD i (0,[],[])).1:=fun i hi => by simp [hi]
 have mem:∀ i,i < its.length -> its.getD i (0,[],[]) ∈ its:=fun i hi => by
  rw [List.getD_eq_getElem?_getD,List.getElem?_eq_getElem hi]
  exact List.getElem_mem hi
 have ne:∀ i j,i < its.length -> j < its.length -> i ≠ j -> num i ≠ num j:=fun i j hi hj n => by
  have e:∀ i,i < its.length -> num i = (its[i]!).2.1:=fun i hi => by simp [num,hi]
  have pw:=List.pairwise_iff_getElem.mp hd
  have ei:its.getD i (0,[],[]) = its[i]:=by simp [hi]
  have ej:its.getD j (0,[],[]) = its[j]:=by simp [hj]
  show (its.getD i (0,[],[])).2.1 ≠ (its.getD j (0,[],[])).2.1
  rw [ei,ej]
  rcases Nat.lt_or_gt_of_ne n with z | z
  ·exact pw i j hi hj z
  ·exact (pw j i hj hi z).symm
 have tup:∀ t ∈ its,∃ (o:Obj) (a b:List Value) (n:Nat),s.heap.get? t.1 = some o /\ o.cls = .type "tuple" /\ o.data = .seq (a ++ b).toArray n /\ IntsAre a t.2.1:=fun t ht => by
  obtain ⟨z,r',⟨o,ho,hc,n,hd'⟩,_⟩:=I.tuple (hits t ht).1
  obtain ⟨a,b,rfl,ra,rb⟩:∃ a b,z = a ++ b /\ Vals (t.2.1.map V.int) a /\ Vals t.2.2 b:=by
   clear hd' ho hc
   generalize t.2.1.map V.int = m at r'
   induction m generalizing z with
   | nil => exact ⟨[],z,rfl,.nil,r'⟩
   | cons x y ih =>
    cases r' with
    | cons x1 x2 =>
     obtain ⟨a,b,rfl,ra,rb⟩:=ih _ x2
     exact ⟨_ :: a,b,rfl,.cons x1 ra,rb⟩
  exact ⟨o,a,b,n,ho,hc,hd',intsAre_of ra⟩
 have cmp:2 <= (its.map fun t => Value.ref t.1).length -> Cmp X.prog X.w s s.heap.objs.size (its.map fun t => Value.ref t.1) (fun i j => lexB (num i) (num j)) (tuples' true):=fun two => by
  have far:∀ {b o},s.heap.get? b = some o -> b ≠ s.heap.objs.size:=fun e => Nat.ne_of_lt (Heap.lt_size e)
  refine ⟨lexB_weak num,fun A h Q' hk q' => ?_,fun A h i j C hk hi hj hn q' => ?_⟩
  ·have go:∀ l:List SIt,(∀ t ∈ l,t ∈ its) -> ∃ fs:List Value,KatTups h (l.map fun t => Value.ref t.1) fs /\ fs.length = l.length /\ ∀ v ∈ fs,∃ x y,v = Value.int x y:=by
    intro l
    induction l with
    | nil => intro _; exact ⟨[],.nil,rfl,fun v hv => by cases hv⟩
    | cons t r ih =>
     intro hm
     obtain ⟨fs,kt,e,al⟩:=ih fun u hu => hm u (List.mem_cons_of_mem _ hu)
     have ht:=hm t (List.mem_cons_self ..)
     obtain ⟨o,a,b,n,ho,hc,hd',ia⟩:=tup t ht
     obtain ⟨x,rest,ex⟩:∃ x rest,t.2.1 = x :: rest:=by
      have:=(hits t ht).2
      cases e':t.2.1 with
      | nil => rw [e'] at this; cases this
      | cons x rest => exact ⟨x,rest,rfl⟩
     rw [ex] at ia
     cases ia with
     | cons _ y ia' =>
      refine ⟨Value.int x y :: fs,KatTups.cons (hk _ _ (far ho) ho) hc hd' (by simp) kt,by simp [e],fun v hv => ?_⟩
      rcases List.mem_cons.mp hv with rfl | hv
      ·exact ⟨x,y,rfl⟩
      ·exact al v hv
   obtain ⟨fs,kt,e,al⟩:=go its fun _ h => h
   refine kat_kind (s:={ s with heap:=h }) (T:=.type "int") kt (by rw [e]; simp at two; ac_rfl) (fun v hv => ?_) (by decide) q'
   obtain ⟨x,y,rfl⟩:=al v hv
   exact Looks.of_pure rfl
  ·rw [len] at hi hj
   rw [get i hi,get j hj]
   obtain ⟨o,a,b,n,ho,hc,hd',ia⟩:=tup _ (mem i hi)
   obtain ⟨o2,a2,b2,n2,ho2,hc2,hd2,ia2⟩:=tup _ (mem j hj)
   refine kat_lt (s:={ s with heap:=h }) (hk _ _ (far ho) ho) hd' (hk _ _ (far ho2) ho2) hd2 ?_
   exact lex_ints _ _ a a2 b b2 0 ia ia2 (by rw [(hits _ (mem i hi)).2,(hits _ (mem j hj)).2]) (ne i j hi hj hn) q'
 refine sorted_byL (lt:=fun i j => lexB (num i) (num j)) (κ:=tuples' true) pl.isList (by rw [len]; exact h64) (fun i j hi hj n => by rw [len] at hi hj; exact lexB_tot _ _ (ne i j hi hj n)) cmp fun p' pm up => ?_
 rw [len] at pm up
 let its':=p'.toList.map fun i => its.getD i (0,[],[])
 have perm:its'.Perm its:=perm_of pm its rfl _
 have pw:its'.Pairwise (fun t u => lexB t.2.1 u.2.1 = true):=up_pairwise pm up its _ _ fun i j hi hj b => by
  rcases b.2 with z | z
  ·exact z
  ·rcases lexB_tot _ _ (ne i j hi hj (Nat.ne_of_lt z)) with y | y
   ·exact y
   ·have b1:lexB (num j) (num i) = false:=b.1
    rw [b1] at y; cases y
 have ep:picked (its.map fun t => Value.ref t.1) p' = its'.map fun t => Value.ref t.1:=by
  unfold picked
  rw [List.map_map]
  apply List.map_congr_left
  intro i hi
  exact get i (List.mem_range.mp (pm.list.mem_iff.mp hi))
 rw [ep]
 obtain ⟨c,at1⟩:=sortedAll_at s.heap (its.map fun t => Value.ref t.1) (its'.map fun t => Value.ref t.1).toArray
 have rel:∀ l:List SIt,Vals (l.map fun t => V.ref t.1) (l.map fun t => Value.ref t.1):=fun l => by
  induction l with
  | nil => exact .nil
  | cons t r ih => exact .cons rfl ih
 have hle:(its'.map fun t => V.ref t.1).length <= sizeLine:=by rw [sizeLine_eq,List.length_map,perm.length_eq]; ac_rfl
 exact ⟨.ref (s.heap.objs.size + 1),_,I.laid (t':=s.toks) (fun b o e => sortedAll_old e) (Nat.le_succ _) (show ObjOk X.prog X.w _ _ _ (.lst _) from ⟨hle,_,c,rel its',at1⟩),rfl,q its' perm pw _ (I.hok.fresh (Nat.le_succ _))⟩
end
end L2
namespace Z
open PySem PySem.Spec PyProof.Rows L2
section
variable {X:Cx}
def pSortedL:List Dv -> (R -> Prop) -> Prop
 | [.lst xs],Q => ∃ (ts:List (List Int × List Dv)) (k:Nat),xs = ts.map tI /\ ts.length <= 10000 /\ (∀ t ∈ ts,t.1.length = k + 1) /\ ts.Pairwise (fun t u => t.1 ≠ u.1) /\ ∀ ts':List (List Int × List Dv),ts'.Perm ts -> ts'.Pairwise (fun t u => lexB t.1 u.1 = true) -> Q (.nw (.lst (ts'.map tI)))
 | _,_ => False
theorem pSortedL_T {ts:List (List Int × List Dv)} {k:Nat} {Q:R -> Prop} (h:ts.length <= 10000) (hk:∀ t ∈ ts,t.1.length = k + 1) (hd:ts.Pairwise (fun t u => t.1 ≠ u.1))
  (q:∀ ts':List (List Int × List Dv),ts'.Perm ts -> ts'.Pairwise (fun t u => lexB t.1 u.1 = true) -> Q (.nw (.lst (ts'.map tI)))):pSortedL [.lst (ts.map tI)] Q:=⟨ts,k,rfl,h,hk,hd,q⟩
theorem cd_sortedL:CallD X (.builtin "sorted") pSortedL:=by
 refine ⟨fun ds Q Q' w h => ?_,_,call_sortedL,fun M O H xs ds Q c h => ?_⟩
 ·unfold pSortedL at *
  split at h
  ·obtain ⟨ts,k,a,b,c,d,q⟩:=h
   exact ⟨ts,k,a,b,c,d,fun ts' x y => w _ (q ts' x y)⟩
  ·exact h
 ·unfold pSortedL at h
  split at h
  ·obtain ⟨x,rfl,cx⟩:=creps1 c
   obtain ⟨a,ys,rfl,ea,ra⟩:=cx.lst
   obtain ⟨ts,k,rfl,hl,hk,hd,q⟩:=h
   have go:∀ {ys:List V} {ts:List (List Int × List Dv)},Reps X.K M H ys (ts.map tI) -> ∃ its:List (SIt × List Dv),ys = its.map (fun t => V.ref t.1.1) /\ ts = its.map (fun t => (t.1.2.1,t.2)) /\
     ∀ t ∈ its,H t.1.1 = some (.tup (t.1.2.1.map V.int ++ t.1.2.2)) /\ Reps X.K M H t.1.2.2 t.2:=by
    intro ys ts r
    induction ts generalizing ys with
    | nil => cases r; exact ⟨[],rfl,rfl,fun t ht => by cases ht⟩
    | cons t ts ih =>
     cases r with
     | cons u r =>
      obtain ⟨its,e1,e2,e3⟩:=ih r
      cases u with
      | tup hb rb =>
       obtain ⟨zs,e,rz⟩:=rb.fore
       subst e
       refine ⟨((_,t.1,zs),t.2) :: its,by rw [e1]; rfl,by rw [e2]; rfl,fun y hy => ?_⟩
       rcases List.mem_cons.mp hy with rfl | hy
       ·exact ⟨hb,rz⟩
       ·exact e3 y hy
   obtain ⟨its,rfl,rfl,al⟩:=go ra
   refine ⟨a,its.map (·.1),k,rfl,by rw [List.map_map]; exact SqL.of ea,by simpa using hl,fun t ht => ?_,?_,fun its' hp hs l hl => ?_⟩
   ·obtain ⟨u,hu,rfl⟩:=List.mem_map.mp ht
    exact ⟨SqT.of (al u hu).1,hk _ (List.mem_map.mpr ⟨u,hu,rfl⟩)⟩
   ·rw [List.pairwise_map] at hd ⊢
    exact hd
   ·-- bring the plain parts along
    obtain ⟨jts,hj,rfl⟩:=perm_lift hp rfl
    have rr:∀ jts:List (SIt × List Dv),(∀ t ∈ jts,t ∈ its) -> Reps X.K M H (jts.map fun t => V.ref t.1.1) ((jts.map fun t => (t.1.2.1,t.2)).map tI):=by
     intro jts
     induction jts with
     | nil => intro _; exact .nil
     | cons t r ih =>
      intro hm
      have ht:=al t (hm t (List.mem_cons_self ..))
      have one:Reps X.K M H (t.1.2.1.map V.int ++ t.1.2.2) (t.1.2.1.map .int ++ t.2):=(Reps.ints _).append ht.2
      exact .cons (.tup ht.1 one) (ih fun u hu => hm u (List.mem_cons_of_mem _ hu))
    rw [List.map_map]
    show Q _ (upd H l (.lst (jts.map fun t => V.ref t.1.1)))
    refine q (jts.map fun t => (t.1.2.1,t.2)) (hj.map _) ?_ _ _ (Same.new' hl) (nw_lst hl (rr jts fun t ht => hj.mem_iff.mp ht))
    rw [List.pairwise_map] at hs ⊢
    exact hs
  ·exact h.elim
end
end Z
local macro_rules | `(tactic| ac_nf) => `(tactic| simp only [↓Z.zt,Z.zo,Z.zc,Z.setAll,Nat.reduceSub,Nat.reduceAdd,↓reduceIte,Int.reduceEq,Int.reduceMul,Int.reduceAdd,Int.reduceSub,Int.reduceNeg,Z.guard,Int.reduceLT,Int.reduceLE,Int.reduceToNat,Int.reducePow,Nat.reduceLT,Nat.reduceLeDiff,Nat.reducePow,Z.LIM])
local macro_rules | `(tactic| push_cast [$xs,*]) => `(tactic| simp only [↓Z.zt,Z.zo,Z.zc,Z.setAll,Nat.reduceSub,Nat.reduceAdd,↓reduceIte,Int.reduceEq,Int.reduceMul,Int.reduceAdd,Int.reduceSub,Int.reduceNeg,Z.guard,Int.reduceLT,Int.reduceLE,Int.reduceToNat,Int.reducePow,Nat.reduceLT,Nat.reduceLeDiff,Nat.reducePow,Z.LIM,$xs,*])
namespace Lw
open PySem PySem.Spec PyProof.Rows L2 Z
noncomputable def top (i:Nat):Stmt:=PySem.Challenge.pw_slantfloor_k51_unlike_threes.main.body.getD i (.Pass ⟨0,0,0,0⟩)
abbrev b_belows_0:TSp:=
 (sPut 1 (eTup (eCons (eVar 2) (eCons (eVar 3) eNil))) (eVar 4))
abbrev t_belows:TSp:=
 (sSeq (sSetO 1 eDT)
 (sSeq (sFor (iSeq (eVar 0)) (gT [2,3,4]) b_belows_0)
 (sRet (eVar 1))))
section
variable {P:Program} {w:World} {K:W.Frag} {mg:Str -> Option Value} {base:Heap}
local macro_rules | `(tactic| norm_cast) => `(tactic| exact ⟨rfl,rfl,rfl,by decide +kernel,rfl,by decide +kernel,by decide +kernel⟩)
theorem dq_belows {sp:Fn} (m:At K mg "belows" "belows" (top 5) ["floor"])  (len:∀ ds Q,sp ds Q -> ds.length = 1) (hsp:∀ ds Q,sp ds Q -> t_belows  { nx:=fun _ => Q (.v .non),rt:=Q } (startP ["floor", "told", "a", "b", "below"] ds)):Def P w K mg base 1 "belows" ["floor"] (low K sp):=by
 have sc:FnScope ["floor", "told", "a", "b", "below"] ["floor"] (defScope (top 5)):=by norm_cast
 refine m.okP (k:=0) (t:=t_belows ) sc (fun f cdv A outer s H E hr => ?_) len hsp
 ·
  have hu1:=hu_of hr
  exact (q_consS (q_setO (i:=1) sc.nd rfl (Or.inl rfl) q_dnewT)
 (q_consS (q_for PassesOwn.never rfl (q_iSeq (q_var 0 (pv 0))) (q_gT (k:=5) (is:=[2,3,4]) rfl (pgs_cons (pg_name (i:=2) sc.nd rfl (Or.inl rfl)) (pgs_cons (pg_name (i:=3) sc.nd rfl (Or.inl rfl)) (pgs_cons (pg_name (i:=4) sc.nd rfl (Or.inl rfl)) pgs_nil)))) (q_oneS (q_put hu1 (i:=1) (pv 1) (q_tup (q_cons (q_var 2 (pv 2)) (q_cons (q_var 3 (pv 3)) q_nil))) (q_var 4 (pv 4)))))
 (q_oneS (q_ret (q_var 1 (pv 1))))))
abbrev t_is_whole:TSp:=
 (sRet (eAndV (eIsi "int" (eVar 0)) (eNotV (eIsi "bool" (eVar 0)))))
theorem dq_is_whole {sp:Fn} (m:At K mg "is_whole" "is_whole" (top 12) ["thing"]) (w_isinstance:mg "isinstance" = none) (w_int:mg "int" = none) (w_bool:mg "bool" = none) (len:∀ ds Q,sp ds Q -> ds.length = 1) (hsp:∀ ds Q,sp ds Q -> t_is_whole  { nx:=fun _ => Q (.v .non),rt:=Q } (startP ["thing"] ds)):Def P w K mg base 1 "is_whole" ["thing"] (low K sp):=by
 have sc:FnScope ["thing"] ["thing"] (defScope (top 12)):=by norm_cast
 refine m.okP (k:=0) (t:=t_is_whole ) sc (fun f cdv A outer s H E hr => ?_) len hsp
 ·
  exact (q_oneS (q_ret (q_and (q_isi (.inl rfl) rfl w_isinstance (q_var 0 (pv 0)) (pe_bltn (v:=.ty "int") rfl w_int boot_int rfl)) (q_one (q_not (q_isi (.inr (.inl rfl)) rfl w_isinstance (q_var 0 (pv 0)) (pe_bltn (v:=.ty "bool") rfl w_bool boot_bool rfl)))))))
abbrev t_has_three_wholes (c_is_whole:Fn):TSp:=
 (sSeq (sIf (eOr (eNot (eTru (eIsi "tuple" (eVar 0)))) (eTest (eOp pNe (eCB pLen (eCons (eVar 0) eNil)) (eC (.int 3))))) (sRet (eC (.bl false))) sNext)
 (sRet (eCB pAll (eCons (eComp 1 [] (iSeq (eVar 0)) (gN 0) tTrue (eCall c_is_whole (eCons (eVar 0) eNil))) eNil))))
theorem dq_has_three_wholes {c_is_whole:Fn} {sp:Fn} (m:At K mg "has_three_wholes" "has_three_wholes" (top 18) ["direction"]) (w_isinstance:mg "isinstance" = none) (w_tuple:mg "tuple" = none) (w_len:mg "len" = none) (w_all:mg "all" = none) (d_is_whole:Def P w K mg base 1 "is_whole" ["thing"] (low K c_is_whole)) (mo_is_whole:MonoF c_is_whole) (len:∀ ds Q,sp ds Q -> ds.length = 1) (hsp:∀ ds Q,sp ds Q -> t_has_three_wholes c_is_whole { nx:=fun _ => Q (.v .non),rt:=Q } (startP ["direction"] ds)):Def P w K mg base 2 "has_three_wholes" ["direction"] (low K sp):=by
 have sc:FnScope ["direction"] ["direction"] (defScope (top 18)):=by norm_cast
 refine m.okP (k:=1) (t:=t_has_three_wholes c_is_whole) sc (fun f cdv A outer s H E hr => ?_) len hsp
 ·
  have hu:=hr.units
  exact (q_consS (q_if (QW.qt (qw_or (qt_not (qt_tru (q_isi (.inr (.inr (.inl rfl))) rfl w_isinstance (q_var 0 (pv 0)) (pe_bltn (v:=.ty "tuple") rfl w_tuple boot_tuple rfl)))) (qw_or1 (qt_cmp (opd_ne hu) (q_callB cd_len rfl w_len boot_len (q_cons (q_var 0 (pv 0)) q_nil)) q_int)))) (q_oneS (q_ret q_bl)) q_nilS)
 (q_oneS (q_ret (q_callB (cd_all rfl) rfl w_all boot_all (q_cons (q_lc ["part"] [] [] rfl (q_iSeq (q_var 0 (pv 0))) (fun fp s H => (q_gN (i:=0) (k:=1) (show List.Nodup (["part"]:List Str) by decide +kernel) rfl (Or.inl rfl))) (fun fp s H => qts_nil) (fun fp s H => (q_call d_is_whole mo_is_whole (hr.mono (by decide)) (q_cons (q_var 0 (pv 0)) q_nil)))) q_nil)))))
abbrev t_has_few_figures:TSp:=
 (sRet (eAndV (eOp pLe (eCB pAbs (eCons (eOp pIx (eVar 0) (eC (.int 0))) eNil)) (eC (.int 999999999999))) (eOp pLe (eCB pAbs (eCons (eOp pIx (eVar 0) (eC (.int 1))) eNil)) (eC (.int 999999999999)))))
theorem dq_has_few_figures {sp:Fn} (m:At K mg "has_few_figures" "has_few_figures" (top 19) ["direction"]) (w_abs:mg "abs" = none) (v_LARGEST_PART:∃ t,mg "LARGEST_PART" = some (.int 999999999999 t)) (len:∀ ds Q,sp ds Q -> ds.length = 1) (hsp:∀ ds Q,sp ds Q -> t_has_few_figures  { nx:=fun _ => Q (.v .non),rt:=Q } (startP ["direction"] ds)):Def P w K mg base 1 "has_few_figures" ["direction"] (low K sp):=by
 have sc:FnScope ["direction"] ["direction"] (defScope (top 19)):=by norm_cast
 refine m.okP (k:=0) (t:=t_has_few_figures ) sc (fun f cdv A outer s H E hr => ?_) len hsp
 ·
  have hu1:=hu_of hr
  exact (q_oneS (q_ret (q_and (q_cmp opd_le (q_callB cd_abs rfl w_abs boot_abs (q_cons (q_ix hu1 (q_var 0 (pv 0)) q_int) q_nil)) (q_globI v_LARGEST_PART)) (q_one (q_cmp opd_le (q_callB cd_abs rfl w_abs boot_abs (q_cons (q_ix hu1 (q_var 0 (pv 0)) q_int) q_nil)) (q_globI v_LARGEST_PART))))))
abbrev t_points_up:TSp:=
 (sRet (eOrV (eOp pGt (eOp pIx (eVar 0) (eC (.int 1))) (eC (.int 0))) (eAndV (eOp pEq (eOp pIx (eVar 0) (eC (.int 1))) (eC (.int 0))) (eOp pGt (eOp pIx (eVar 0) (eC (.int 0))) (eC (.int 0))))))
theorem dq_points_up {sp:Fn} (m:At K mg "points_up" "points_up" (top 20) ["direction"])  (len:∀ ds Q,sp ds Q -> ds.length = 1) (hsp:∀ ds Q,sp ds Q -> t_points_up  { nx:=fun _ => Q (.v .non),rt:=Q } (startP ["direction"] ds)):Def P w K mg base 1 "points_up" ["direction"] (low K sp):=by
 have sc:FnScope ["direction"] ["direction"] (defScope (top 20)):=by norm_cast
 refine m.okP (k:=0) (t:=t_points_up ) sc (fun f cdv A outer s H E hr => ?_) len hsp
 ·
  have hu:=hr.units
  have hu1:=hu_of hr
  exact (q_oneS (q_ret (q_or (q_cmp opd_gt (q_ix hu1 (q_var 0 (pv 0)) q_int) q_int) (q_one (q_and (q_cmp (opd_eq hu) (q_ix hu1 (q_var 0 (pv 0)) q_int) q_int) (q_one (q_cmp opd_gt (q_ix hu1 (q_var 0 (pv 0)) q_int) q_int)))))))
abbrev t_lies_left:TSp:=
 (sRet (eOp pGt (eOp pSub (eOp pMul (eOp pIx (eVar 1) (eC (.int 0))) (eOp pIx (eVar 0) (eC (.int 1)))) (eOp pMul (eOp pIx (eVar 0) (eC (.int 0))) (eOp pIx (eVar 1) (eC (.int 1))))) (eC (.int 0))))
theorem dq_lies_left {sp:Fn} (m:At K mg "lies_left" "lies_left" (top 21) ["direction", "ahead"])  (len:∀ ds Q,sp ds Q -> ds.length = 2) (hsp:∀ ds Q,sp ds Q -> t_lies_left  { nx:=fun _ => Q (.v .non),rt:=Q } (startP ["direction", "ahead"] ds)):Def P w K mg base 1 "lies_left" ["direction", "ahead"] (low K sp):=by
 have sc:FnScope ["direction", "ahead"] ["direction", "ahead"] (defScope (top 21)):=by norm_cast
 refine m.okP (k:=0) (t:=t_lies_left ) sc (fun f cdv A outer s H E hr => ?_) len hsp
 ·
  have hu1:=hu_of hr
  exact (q_oneS (q_ret (q_cmp opd_gt (q_op opd_sub (q_op opd_mul (q_ix hu1 (q_var 1 (pv 1)) q_int) (q_ix hu1 (q_var 0 (pv 0)) q_int)) (q_op opd_mul (q_ix hu1 (q_var 0 (pv 0)) q_int) (q_ix hu1 (q_var 1 (pv 1)) q_int))) q_int)))
abbrev t_check_direction (c_has_three_wholes c_has_few_figures c_points_up:Fn):TSp:=
 (sSeq (sIf (eNot (eTru (eCall c_has_three_wholes (eCons (eVar 0) eNil)))) sNever sNext)
 (sSeq (sIf (eNot (eTru (eCall c_has_few_figures (eCons (eVar 0) eNil)))) sNever sNext)
 (sSeq (sIf (eNot (eTru (eCall c_points_up (eCons (eVar 0) eNil)))) sNever sNext)
 (sIf (eTest (eOp pLt (eOp pIx (eVar 0) (eC (.int 2))) (eC (.int 1)))) sNever sNext))))
theorem dq_check_direction {c_has_three_wholes c_has_few_figures c_points_up:Fn} {sp:Fn} (m:At K mg "check_direction" "check_direction" (top 22) ["direction"]) (d_has_three_wholes:Def P w K mg base 2 "has_three_wholes" ["direction"] (low K c_has_three_wholes)) (mo_has_three_wholes:MonoF c_has_three_wholes) (d_has_few_figures:Def P w K mg base 1 "has_few_figures" ["direction"] (low K c_has_few_figures)) (mo_has_few_figures:MonoF c_has_few_figures) (d_points_up:Def P w K mg base 1 "points_up" ["direction"] (low K c_points_up)) (mo_points_up:MonoF c_points_up) (len:∀ ds Q,sp ds Q -> ds.length = 1) (hsp:∀ ds Q,sp ds Q -> t_check_direction c_has_three_wholes c_has_few_figures c_points_up { nx:=fun _ => Q (.v .non),rt:=Q } (startP ["direction"] ds)):Def P w K mg base 3 "check_direction" ["direction"] (low K sp):=by
 have sc:FnScope ["direction"] ["direction"] (defScope (top 22)):=by norm_cast
 refine m.okP (k:=2) (t:=t_check_direction c_has_three_wholes c_has_few_figures c_points_up) sc (fun f cdv A outer s H E hr => ?_) len hsp
 ·
  have hu1:=hu_of hr
  exact (q_consS (q_if (qt_not (qt_tru (q_call d_has_three_wholes mo_has_three_wholes (hr.mono (by decide)) (q_cons (q_var 0 (pv 0)) q_nil)))) (q_oneS q_never) q_nilS)
 (q_consS (q_if (qt_not (qt_tru (q_call d_has_few_figures mo_has_few_figures (hr.mono (by decide)) (q_cons (q_var 0 (pv 0)) q_nil)))) (q_oneS q_never) q_nilS)
 (q_consS (q_if (qt_not (qt_tru (q_call d_points_up mo_points_up (hr.mono (by decide)) (q_cons (q_var 0 (pv 0)) q_nil)))) (q_oneS q_never) q_nilS)
 (q_oneS (q_if (qt_cmp opd_lt (q_ix hu1 (q_var 0 (pv 0)) q_int) q_int) (q_oneS q_never) q_nilS)))))
abbrev b_check_directions_0 (c_check_direction c_lies_left:Fn):TSp:=
 (sDrop (eCall c_check_direction (eCons (eVar 1) eNil)))
abbrev b_check_directions_1 (c_check_direction c_lies_left:Fn):TSp:=
 (sIf (eNot (eTru (eCall c_lies_left (eCons (eVar 1) (eCons (eVar 2) eNil))))) sNever sNext)
abbrev t_check_directions (c_check_direction c_lies_left:Fn):TSp:=
 (sSeq (sIf (eNot (eTru (eIsi "list" (eVar 0)))) sNever sNext)
 (sSeq (sIf (eNot (eTest (eChain pLe pLe (eC (.int 2)) (eCB pLen (eCons (eVar 0) eNil)) (eC (.int 6))))) sNever sNext)
 (sSeq (sFor (iSeq (eVar 0)) (gN 1) (b_check_directions_0 c_check_direction c_lies_left))
 (sSeq (sIf (eTest (eOp pGt (eCB pSum (eCons (eComp 1 [] (iSeq (eVar 0)) (gN 0) tTrue (eOp pIx (eVar 0) (eC (.int 2)))) eNil)) (eC (.int 12)))) sNever sNext)
 (sFor (iZipP (eCons (eVar 0) (eCons (eSl (eVar 0) (ePart (eC (.int 1))) eNoPart) eNil))) (gT [2,1]) (b_check_directions_1 c_check_direction c_lies_left))))))
theorem dq_check_directions {c_check_direction c_lies_left:Fn} {sp:Fn} (m:At K mg "check_directions" "check_directions" (top 23) ["directions"]) (w_isinstance:mg "isinstance" = none) (w_list:mg "list" = none) (w_len:mg "len" = none) (w_sum:mg "sum" = none) (w_zip:mg "zip" = none) (v_FEWEST_DIRECTIONS:∃ t,mg "FEWEST_DIRECTIONS" = some (.int 2 t)) (v_MOST_DIRECTIONS:∃ t,mg "MOST_DIRECTIONS" = some (.int 6 t)) (v_MOST_BANDS:∃ t,mg "MOST_BANDS" = some (.int 12 t)) (d_check_direction:Def P w K mg base 3 "check_direction" ["direction"] (low K c_check_direction)) (mo_check_direction:MonoF c_check_direction) (d_lies_left:Def P w K mg base 1 "lies_left" ["direction", "ahead"] (low K c_lies_left)) (mo_lies_left:MonoF c_lies_left) (len:∀ ds Q,sp ds Q -> ds.length = 1) (hsp:∀ ds Q,sp ds Q -> t_check_directions c_check_direction c_lies_left { nx:=fun _ => Q (.v .non),rt:=Q } (startP ["directions", "direction", "ahead"] ds)):Def P w K mg base 4 "check_directions" ["directions"] (low K sp):=by
 have sc:FnScope ["directions", "direction", "ahead"] ["directions"] (defScope (top 23)):=by norm_cast
 refine m.okP (k:=3) (t:=t_check_directions c_check_direction c_lies_left) sc (fun f cdv A outer s H E hr => ?_) len hsp
 ·
  have hu1:=hu_of hr
  exact (q_consS (q_if (qt_not (qt_tru (q_isi (.inr (.inr (.inr (.inl rfl)))) rfl w_isinstance (q_var 0 (pv 0)) (pe_bltn (v:=.ty "list") rfl w_list boot_list rfl)))) (q_oneS q_never) q_nilS)
 (q_consS (q_if (qt_not (qt_chain op_le op_le (q_globI v_FEWEST_DIRECTIONS) (q_callB cd_len rfl w_len boot_len (q_cons (q_var 0 (pv 0)) q_nil)) (q_globI v_MOST_DIRECTIONS))) (q_oneS q_never) q_nilS)
 (q_consS (q_for PassesOwn.never rfl (q_iSeq (q_var 0 (pv 0))) (q_gN (i:=1) (k:=3) sc.nd rfl (Or.inl rfl)) (q_oneS (q_expr (q_call d_check_direction mo_check_direction (hr.mono (by decide)) (q_cons (q_var 1 (pv 1)) q_nil)))))
 (q_consS (q_if (qt_cmp opd_gt (q_callB (cd_sum rfl) rfl w_sum boot_sum (q_cons (q_lc ["direction"] [] [] rfl (q_iSeq (q_var 0 (pv 0))) (fun fp s H => (q_gN (i:=0) (k:=1) (show List.Nodup (["direction"]:List Str) by decide +kernel) rfl (Or.inl rfl))) (fun fp s H => qts_nil) (fun fp s H => (q_ix hu1 (q_var 0 (pv 0)) q_int))) q_nil)) (q_globI v_MOST_BANDS)) (q_oneS q_never) q_nilS)
 (q_oneS (q_for PassesOwn.never rfl (q_iZip rfl w_zip (q_cons (q_var 0 (pv 0)) (q_cons (q_slice (q_var 0 (pv 0)) (qo_some q_int) qo_none) q_nil))) (q_gT (k:=3) (is:=[2,1]) rfl (pgs_cons (pg_name (i:=2) sc.nd rfl (Or.inl rfl)) (pgs_cons (pg_name (i:=1) sc.nd rfl (Or.inl rfl)) pgs_nil))) (q_oneS (q_if (qt_not (qt_tru (q_call d_lies_left mo_lies_left (hr.mono (by decide)) (q_cons (q_var 1 (pv 1)) (q_cons (q_var 2 (pv 2)) q_nil))))) (q_oneS q_never) q_nilS))))))))
abbrev b_init_0 (C:Addr) (c_check_directions:Fn):TSp:=
 (sExt 2 (eOp pMul (eLst (eCons (eVar 3) eNil)) (eOp pIx (eVar 4) (eC (.int 2)))))
abbrev t_init (C:Addr) (c_check_directions:Fn):TSp:=
 (sSeq (sDrop (eCall c_check_directions (eCons (eVar 1) eNil)))
 (sSeq (sSetO 2 (eLst eNil))
 (sSeq (sFor (iEnumP (eCons (eVar 1) eNil)) (gT [3,4]) (b_init_0 C c_check_directions))
 (sSeq (sAttr C 0 "kinds" (eCB pTuple (eCons (eVar 2) eNil)))
 (sAttr C 0 "vectors" (eCB pTuple (eCons (eComp 1 [] (iSeq (eVar 1)) (gN 0) tTrue (eTup (eCons (eOp pIx (eVar 0) (eC (.int 0))) (eCons (eOp pIx (eVar 0) (eC (.int 1))) eNil)))) eNil)))))))
theorem dq_init {C:Addr} {c_check_directions:Fn} {sp:Fn} (m:IAt K mg "Sides" C "Sides.__init__" (inClass (top 24) 0) ["self", "directions"]) (w_enumerate:mg "enumerate" = none) (w_tuple:mg "tuple" = none) (cl:Cls K C) (n_kinds:NoAttr K C "kinds") (n_vectors:NoAttr K C "vectors") (d_check_directions:Def P w K mg base 4 "check_directions" ["directions"] (low K c_check_directions)) (mo_check_directions:MonoF c_check_directions) (len:∀ ds Q,sp ds Q -> ds.length + 1 = 2) (hsp:∀ ds Q,sp ds Q -> ∀ a,t_init C c_check_directions { nx:=fun ρ => ∃ d,ρ[0]? = some (.own a d) /\ Q (.nw d),rt:=fun _ => False } (startI C a ["self", "directions", "kinds", "number", "direction"] ds)):IDef P w K mg base 5 "Sides" C ["self", "directions"] sp:=by
 have sc:FnScope ["self", "directions", "kinds", "number", "direction"] ["self", "directions"] (defScope (inClass (top 24) 0)):=by norm_cast
 refine m.okP (k:=4) (t:=t_init C c_check_directions) sc (fun f cdv A outer s H E hr => ?_) len hsp
 ·
  have hu1:=hu_of hr
  exact (q_consS (q_expr (q_call d_check_directions mo_check_directions (hr.mono (by decide)) (q_cons (q_var 1 (pv 1)) q_nil)))
 (q_consS (q_setO (i:=2) sc.nd rfl (Or.inl rfl) (q_lst q_nil))
 (q_consS (q_for PassesOwn.never rfl (q_iEnum rfl w_enumerate (q_cons (q_var 1 (pv 1)) q_nil)) (q_gT (k:=5) (is:=[3,4]) rfl (pgs_cons (pg_name (i:=3) sc.nd rfl (Or.inl rfl)) (pgs_cons (pg_name (i:=4) sc.nd rfl (Or.inl rfl)) pgs_nil))) (q_oneS (q_ext (i:=2) (pv 2) (q_op opd_mul (q_lst (q_cons (q_var 3 (pv 3)) q_nil)) (q_ix hu1 (q_var 4 (pv 4)) q_int)))))
 (q_consS (q_attr (i:=0) cl n_kinds (pv 0) (q_callTy cd_tuple rfl w_tuple boot_tuple (q_cons (q_var 2 (pv 2)) q_nil)))
 (q_oneS (q_attr (i:=0) cl n_vectors (pv 0) (q_callTy cd_tuple rfl w_tuple boot_tuple (q_cons (q_lc ["direction"] [] [] rfl (q_iSeq (q_var 1 (pv 1))) (fun fp s H => (q_gN (i:=0) (k:=1) (show List.Nodup (["direction"]:List Str) by decide +kernel) rfl (Or.inl rfl))) (fun fp s H => qts_nil) (fun fp s H => (q_tup (q_cons (q_ix hu1 (q_var 0 (pv 0)) q_int) (q_cons (q_ix hu1 (q_var 0 (pv 0)) q_int) q_nil))))) q_nil))))))))
abbrev t_many (C:Addr):TSp:=
 (sRet (eCB pLen (eCons (eFld C "kinds" (eVar 0)) eNil)))
theorem dq_many {C:Addr} {sp:Fn} (m:MAt K C "many" "Sides.many" (inClass (top 24) 1) ["self"]) (w_len:mg "len" = none) (cl:Cls K C) (n_kinds:NoAttr K C "kinds") (len:∀ ds Q,sp ds Q -> ds.length = 1) (hsp:∀ ds Q,sp ds Q -> t_many C  { nx:=fun _ => Q (.v .non),rt:=Q } (startP ["self"] ds)):MDef P w K mg base 1 C "many" ["self"] (low K sp):=by
 have sc:FnScope ["self"] ["self"] (defScope (inClass (top 24) 1)):=by norm_cast
 refine m.okP (k:=0) (t:=t_many C ) sc (fun f cdv A outer s H E hr => ?_) len hsp
 ·
  exact (q_oneS (q_ret (q_callB cd_len rfl w_len boot_len (q_cons (q_fld cl n_kinds (q_var 0 (pv 0))) q_nil))))
abbrev t_kind (C:Addr):TSp:=
 (sRet (eOp pIx (eFld C "kinds" (eVar 0)) (eVar 1)))
theorem dq_kind {C:Addr} {sp:Fn} (m:MAt K C "kind" "Sides.kind" (inClass (top 24) 2) ["self", "band"]) (cl:Cls K C) (n_kinds:NoAttr K C "kinds") (len:∀ ds Q,sp ds Q -> ds.length = 2) (hsp:∀ ds Q,sp ds Q -> t_kind C  { nx:=fun _ => Q (.v .non),rt:=Q } (startP ["self", "band"] ds)):MDef P w K mg base 1 C "kind" ["self", "band"] (low K sp):=by
 have sc:FnScope ["self", "band"] ["self", "band"] (defScope (inClass (top 24) 2)):=by norm_cast
 refine m.okP (k:=0) (t:=t_kind C ) sc (fun f cdv A outer s H E hr => ?_) len hsp
 ·
  have hu1:=hu_of hr
  exact (q_oneS (q_ret (q_ix hu1 (q_fld cl n_kinds (q_var 0 (pv 0))) (q_var 1 (pv 1)))))
abbrev b_pairs_0 (C:Addr) (c_many c_kind:Fn):TSp:=
 (sIf (eTest (eOp pNe (eMeth C "kind" c_kind (eVar 0) (eCons (eVar 2) eNil)) (eMeth C "kind" c_kind (eVar 0) (eCons (eVar 3) eNil)))) (sApp 1 (eTup (eCons (eVar 2) (eCons (eVar 3) eNil)))) sNext)
abbrev b_pairs_1 (C:Addr) (c_many c_kind:Fn):TSp:=
 (sFor (iRange2 (eCons (eOp pAdd (eVar 2) (eC (.int 1))) (eCons (eMeth C "many" c_many (eVar 0) eNil) eNil))) (gN 3) (b_pairs_0 C c_many c_kind))
abbrev t_pairs (C:Addr) (c_many c_kind:Fn):TSp:=
 (sSeq (sSetO 1 (eLst eNil))
 (sSeq (sFor (iRange1 (eCons (eMeth C "many" c_many (eVar 0) eNil) eNil)) (gN 2) (b_pairs_1 C c_many c_kind))
 (sRet (eVar 1))))
theorem dq_pairs {C:Addr} {c_many c_kind:Fn} {sp:Fn} (m:MAt K C "pairs" "Sides.pairs" (inClass (top 24) 4) ["self"]) (w_range:mg "range" = none) (cl:Cls K C) (d_many:MDef P w K mg base 1 C "many" ["self"] (low K c_many)) (mo_many:MonoF c_many) (d_kind:MDef P w K mg base 1 C "kind" ["self", "band"] (low K c_kind)) (mo_kind:MonoF c_kind) (len:∀ ds Q,sp ds Q -> ds.length = 1) (hsp:∀ ds Q,sp ds Q -> t_pairs C c_many c_kind { nx:=fun _ => Q (.v .non),rt:=Q } (startP ["self", "found", "a", "b"] ds)):MDef P w K mg base 2 C "pairs" ["self"] (low K sp):=by
 have sc:FnScope ["self", "found", "a", "b"] ["self"] (defScope (inClass (top 24) 4)):=by norm_cast
 refine m.okP (k:=1) (t:=t_pairs C c_many c_kind) sc (fun f cdv A outer s H E hr => ?_) len hsp
 ·
  have hu:=hr.units
  exact (q_consS (q_setO (i:=1) sc.nd rfl (Or.inl rfl) (q_lst q_nil))
 (q_consS (q_for PassesOwn.never rfl (q_iRange1 rfl w_range (q_cons (q_meth0 cl d_many mo_many (hr.mono (by decide)) (q_var 0 (pv 0))) q_nil)) (q_gN (i:=2) (k:=4) sc.nd rfl (Or.inl rfl)) (q_oneS (q_for PassesOwn.never rfl (q_iRange2 rfl w_range (q_cons (q_op opd_add (q_var 2 (pv 2)) q_int) (q_cons (q_meth0 cl d_many mo_many (hr.mono (by decide)) (q_var 0 (pv 0))) q_nil))) (q_gN (i:=3) (k:=4) sc.nd rfl (Or.inl rfl)) (q_oneS (q_if (qt_cmp (opd_ne hu) (q_meth cl d_kind mo_kind (hr.mono (by decide)) (q_var 0 (pv 0)) (q_cons (q_var 2 (pv 2)) q_nil)) (q_meth cl d_kind mo_kind (hr.mono (by decide)) (q_var 0 (pv 0)) (q_cons (q_var 3 (pv 3)) q_nil))) (q_oneS (q_app (i:=1) (pv 1) (q_tup (q_cons (q_var 2 (pv 2)) (q_cons (q_var 3 (pv 3)) q_nil))))) q_nilS)))))
 (q_oneS (q_ret (q_var 1 (pv 1))))))
abbrev b_threes_0 (C:Addr) (c_pairs c_many c_kind:Fn):TSp:=
 (sIf (eTest (eOp pNe (eMeth C "kind" c_kind (eVar 0) (eCons (eVar 4) eNil)) (eMeth C "kind" c_kind (eVar 0) (eCons (eVar 3) eNil)))) (sApp 1 (eTup (eCons (eVar 2) (eCons (eVar 3) (eCons (eVar 4) eNil))))) sNext)
abbrev b_threes_1 (C:Addr) (c_pairs c_many c_kind:Fn):TSp:=
 (sFor (iRange2 (eCons (eOp pAdd (eVar 3) (eC (.int 1))) (eCons (eMeth C "many" c_many (eVar 0) eNil) eNil))) (gN 4) (b_threes_0 C c_pairs c_many c_kind))
abbrev t_threes (C:Addr) (c_pairs c_many c_kind:Fn):TSp:=
 (sSeq (sSetO 1 (eLst eNil))
 (sSeq (sFor (iSeq (eMeth C "pairs" c_pairs (eVar 0) eNil)) (gT [2,3]) (b_threes_1 C c_pairs c_many c_kind))
 (sRet (eVar 1))))
theorem dq_threes {C:Addr} {c_pairs c_many c_kind:Fn} {sp:Fn} (m:At K mg "threes" "threes" (top 7) ["sides"]) (w_range:mg "range" = none) (cl:Cls K C) (d_pairs:MDef P w K mg base 2 C "pairs" ["self"] (low K c_pairs)) (mo_pairs:MonoF c_pairs) (d_many:MDef P w K mg base 1 C "many" ["self"] (low K c_many)) (mo_many:MonoF c_many) (d_kind:MDef P w K mg base 1 C "kind" ["self", "band"] (low K c_kind)) (mo_kind:MonoF c_kind) (len:∀ ds Q,sp ds Q -> ds.length = 1) (hsp:∀ ds Q,sp ds Q -> t_threes C c_pairs c_many c_kind { nx:=fun _ => Q (.v .non),rt:=Q } (startP ["sides", "told", "a", "b", "c"] ds)):Def P w K mg base 3 "threes" ["sides"] (low K sp):=by
 have sc:FnScope ["sides", "told", "a", "b", "c"] ["sides"] (defScope (top 7)):=by norm_cast
 refine m.okP (k:=2) (t:=t_threes C c_pairs c_many c_kind) sc (fun f cdv A outer s H E hr => ?_) len hsp
 ·
  have hu:=hr.units
  exact (q_consS (q_setO (i:=1) sc.nd rfl (Or.inl rfl) (q_lst q_nil))
 (q_consS (q_for PassesOwn.never rfl (q_iSeq (q_meth0 cl d_pairs mo_pairs (hr.mono (by decide)) (q_var 0 (pv 0)))) (q_gT (k:=5) (is:=[2,3]) rfl (pgs_cons (pg_name (i:=2) sc.nd rfl (Or.inl rfl)) (pgs_cons (pg_name (i:=3) sc.nd rfl (Or.inl rfl)) pgs_nil))) (q_oneS (q_for PassesOwn.never rfl (q_iRange2 rfl w_range (q_cons (q_op opd_add (q_var 3 (pv 3)) q_int) (q_cons (q_meth0 cl d_many mo_many (hr.mono (by decide)) (q_var 0 (pv 0))) q_nil))) (q_gN (i:=4) (k:=5) sc.nd rfl (Or.inl rfl)) (q_oneS (q_if (qt_cmp (opd_ne hu) (q_meth cl d_kind mo_kind (hr.mono (by decide)) (q_var 0 (pv 0)) (q_cons (q_var 4 (pv 4)) q_nil)) (q_meth cl d_kind mo_kind (hr.mono (by decide)) (q_var 0 (pv 0)) (q_cons (q_var 3 (pv 3)) q_nil))) (q_oneS (q_app (i:=1) (pv 1) (q_tup (q_cons (q_var 2 (pv 2)) (q_cons (q_var 3 (pv 3)) (q_cons (q_var 4 (pv 4)) q_nil)))))) q_nilS)))))
 (q_oneS (q_ret (q_var 1 (pv 1))))))
abbrev t_up (c_belows c_threes:Fn):TSp:=
 (sSeq (sSet 2 (eCall c_belows (eCons (eVar 1) eNil)))
 (sRet (eComp 1 [2] (iSeq (eCall c_threes (eCons (eVar 0) eNil))) (gN 0) (eTest (eOp pIn (eOp pIx (eVar 0) (eC (.int 1))) (eOp pIx (eVar 1) (eTup (eCons (eOp pIx (eVar 0) (eC (.int 0))) (eCons (eOp pIx (eVar 0) (eC (.int 2))) eNil)))))) (eVar 0))))
theorem dq_up {c_belows c_threes:Fn} {sp:Fn} (m:At K mg "up" "up" (top 8) ["sides", "floor"]) (d_belows:Def P w K mg base 1 "belows" ["floor"] (low K c_belows)) (mo_belows:MonoF c_belows) (d_threes:Def P w K mg base 3 "threes" ["sides"] (low K c_threes)) (mo_threes:MonoF c_threes) (len:∀ ds Q,sp ds Q -> ds.length = 2) (hsp:∀ ds Q,sp ds Q -> t_up c_belows c_threes { nx:=fun _ => Q (.v .non),rt:=Q } (startP ["sides", "floor", "below"] ds)):Def P w K mg base 4 "up" ["sides", "floor"] (low K sp):=by
 have sc:FnScope ["sides", "floor", "below"] ["sides", "floor"] (defScope (top 8)):=by norm_cast
 refine m.okP (k:=3) (t:=t_up c_belows c_threes) sc (fun f cdv A outer s H E hr => ?_) len hsp
 ·
  have hu1:=hu_of hr
  have hu65:=units65 hr
  exact (q_consS (q_set (i:=2) sc.nd rfl (Or.inr rfl) (q_call d_belows mo_belows (hr.mono (by decide)) (q_cons (q_var 1 (pv 1)) q_nil)))
 (q_oneS (q_ret (q_lc ["three"] ["below"] [2] rfl (q_iSeq (q_call d_threes mo_threes (hr.mono (by decide)) (q_cons (q_var 0 (pv 0)) q_nil))) (fun fp s H => (q_gN (i:=0) (k:=1) (show List.Nodup (["three", "below"]:List Str) by decide +kernel) rfl (Or.inl rfl))) (fun fp s H => (qts_one (qt_cmp (opd_in hu65 hu1) (q_ix hu1 (q_var 0 (pv 0)) q_int) (q_ix hu1 (q_var 1 (pv 1)) (q_tup (q_cons (q_ix hu1 (q_var 0 (pv 0)) q_int) (q_cons (q_ix hu1 (q_var 0 (pv 0)) q_int) q_nil))))))) (fun fp s H => (q_var 0 (pv 0)))))))
abbrev t_unlike (c_up:Fn):TSp:=
 (sSeq (sSet 3 (eCall c_up (eCons (eVar 0) (eCons (eVar 1) eNil))))
 (sSeq (sSet 4 (eCall c_up (eCons (eVar 0) (eCons (eVar 2) eNil))))
 (sRet (eCB pSortedL (eCons (eOp pAdd (eComp 1 [4] (iSeq (eVar 3)) (gN 0) (eTest (eOp pNotIn (eVar 0) (eVar 1))) (eVar 0)) (eComp 1 [3] (iSeq (eVar 4)) (gN 0) (eTest (eOp pNotIn (eVar 0) (eVar 1))) (eVar 0))) eNil)))))
theorem dq_unlike {c_up:Fn} {sp:Fn} (m:At K mg "unlike" "unlike" (top 10) ["sides", "one", "other"]) (w_sorted:mg "sorted" = none) (d_up:Def P w K mg base 4 "up" ["sides", "floor"] (low K c_up)) (mo_up:MonoF c_up) (len:∀ ds Q,sp ds Q -> ds.length = 3) (hsp:∀ ds Q,sp ds Q -> t_unlike c_up { nx:=fun _ => Q (.v .non),rt:=Q } (startP ["sides", "one", "other", "ups", "others"] ds)):Def P w K mg base 5 "unlike" ["sides", "one", "other"] (low K sp):=by
 have sc:FnScope ["sides", "one", "other", "ups", "others"] ["sides", "one", "other"] (defScope (top 10)):=by norm_cast
 refine m.okP (k:=4) (t:=t_unlike c_up) sc (fun f cdv A outer s H E hr => ?_) len hsp
 ·
  have hu1:=hu_of hr
  have hu65:=units65 hr
  exact (q_consS (q_set (i:=3) sc.nd rfl (Or.inr rfl) (q_call d_up mo_up (hr.mono (by decide)) (q_cons (q_var 0 (pv 0)) (q_cons (q_var 1 (pv 1)) q_nil))))
 (q_consS (q_set (i:=4) sc.nd rfl (Or.inr rfl) (q_call d_up mo_up (hr.mono (by decide)) (q_cons (q_var 0 (pv 0)) (q_cons (q_var 2 (pv 2)) q_nil))))
 (q_oneS (q_ret (q_callB cd_sortedL rfl w_sorted boot_sorted (q_cons (q_op opd_add (q_lc ["three"] ["others"] [4] rfl (q_iSeq (q_var 3 (pv 3))) (fun fp s H => (q_gN (i:=0) (k:=1) (show List.Nodup (["three", "others"]:List Str) by decide +kernel) rfl (Or.inl rfl))) (fun fp s H => (qts_one (qt_cmp (opd_notIn hu65 hu1) (q_var 0 (pv 0)) (q_var 1 (pv 1))))) (fun fp s H => (q_var 0 (pv 0)))) (q_lc ["three"] ["ups"] [3] rfl (q_iSeq (q_var 4 (pv 4))) (fun fp s H => (q_gN (i:=0) (k:=1) (show List.Nodup (["three", "ups"]:List Str) by decide +kernel) rfl (Or.inl rfl))) (fun fp s H => (qts_one (qt_cmp (opd_notIn hu65 hu1) (q_var 0 (pv 0)) (q_var 1 (pv 1))))) (fun fp s H => (q_var 0 (pv 0))))) q_nil))))))
abbrev t_law_cell_at:TSp:=
 (sSeq (sIf (eTest (eOp pLt (eVar 1) (eCB pLen (eCons (eVar 0) eNil)))) (sRet (eOp pIx (eVar 0) (eVar 1))) sNext)
 (sRet (eC (.int 5))))
theorem dq_law_cell_at {sp:Fn} (m:At K mg "_law_cell_at" "_law_cell_at" (top 26) ["_law_script", "_law_k"]) (w_len:mg "len" = none) (len:∀ ds Q,sp ds Q -> ds.length = 2) (hsp:∀ ds Q,sp ds Q -> t_law_cell_at  { nx:=fun _ => Q (.v .non),rt:=Q } (startP ["_law_script", "_law_k"] ds)):Def P w K mg base 1 "_law_cell_at" ["_law_script", "_law_k"] (low K sp):=by
 have sc:FnScope ["_law_script", "_law_k"] ["_law_script", "_law_k"] (defScope (top 26)):=by norm_cast
 refine m.okP (k:=0) (t:=t_law_cell_at ) sc (fun f cdv A outer s H E hr => ?_) len hsp
 ·
  have hu1:=hu_of hr
  exact (q_consS (q_if (qt_cmp opd_lt (q_var 1 (pv 1)) (q_callB cd_len rfl w_len boot_len (q_cons (q_var 0 (pv 0)) q_nil))) (q_oneS (q_ret (q_ix hu1 (q_var 0 (pv 0)) (q_var 1 (pv 1))))) q_nilS)
 (q_oneS (q_ret q_int)))
abbrev t_law_whole:TSp:=
 (sRet (eAndV (eIsi "int" (eVar 0)) (eNotV (eIsi "bool" (eVar 0)))))
theorem dq_law_whole {sp:Fn} (m:At K mg "_law_whole" "_law_whole" (top 27) ["_law_found"]) (w_isinstance:mg "isinstance" = none) (w_int:mg "int" = none) (w_bool:mg "bool" = none) (len:∀ ds Q,sp ds Q -> ds.length = 1) (hsp:∀ ds Q,sp ds Q -> t_law_whole  { nx:=fun _ => Q (.v .non),rt:=Q } (startP ["_law_found"] ds)):Def P w K mg base 1 "_law_whole" ["_law_found"] (low K sp):=by
 have sc:FnScope ["_law_found"] ["_law_found"] (defScope (top 27)):=by norm_cast
 refine m.okP (k:=0) (t:=t_law_whole ) sc (fun f cdv A outer s H E hr => ?_) len hsp
 ·
  exact (q_oneS (q_ret (q_and (q_isi (.inl rfl) rfl w_isinstance (q_var 0 (pv 0)) (pe_bltn (v:=.ty "int") rfl w_int boot_int rfl)) (q_one (q_not (q_isi (.inr (.inl rfl)) rfl w_isinstance (q_var 0 (pv 0)) (pe_bltn (v:=.ty "bool") rfl w_bool boot_bool rfl)))))))
abbrev b_law_wholes_0 (c_law_whole:Fn):TSp:=
 (sIf (eNot (eTru (eCall c_law_whole (eCons (eVar 1) eNil)))) (sRet (eC (.bl false))) sNext)
abbrev t_law_wholes (c_law_whole:Fn):TSp:=
 (sSeq (sIf (eNot (eTru (eIsi "tuple" (eVar 0)))) (sRet (eC (.bl false))) sNext)
 (sSeq (sFor (iSeq (eVar 0)) (gN 1) (b_law_wholes_0 c_law_whole))
 (sRet (eC (.bl true)))))
theorem dq_law_wholes {c_law_whole:Fn} {sp:Fn} (m:At K mg "_law_wholes" "_law_wholes" (top 28) ["_law_found"]) (w_isinstance:mg "isinstance" = none) (w_tuple:mg "tuple" = none) (d_law_whole:Def P w K mg base 1 "_law_whole" ["_law_found"] (low K c_law_whole)) (mo_law_whole:MonoF c_law_whole) (len:∀ ds Q,sp ds Q -> ds.length = 1) (hsp:∀ ds Q,sp ds Q -> t_law_wholes c_law_whole { nx:=fun _ => Q (.v .non),rt:=Q } (startP ["_law_found", "_law_number"] ds)):Def P w K mg base 2 "_law_wholes" ["_law_found"] (low K sp):=by
 have sc:FnScope ["_law_found", "_law_number"] ["_law_found"] (defScope (top 28)):=by norm_cast
 refine m.okP (k:=1) (t:=t_law_wholes c_law_whole) sc (fun f cdv A outer s H E hr => ?_) len hsp
 ·
  exact (q_consS (q_if (qt_not (qt_tru (q_isi (.inr (.inr (.inl rfl))) rfl w_isinstance (q_var 0 (pv 0)) (pe_bltn (v:=.ty "tuple") rfl w_tuple boot_tuple rfl)))) (q_oneS (q_ret q_bl)) q_nilS)
 (q_consS (q_for PassesOwn.never rfl (q_iSeq (q_var 0 (pv 0))) (q_gN (i:=1) (k:=2) sc.nd rfl (Or.inl rfl)) (q_oneS (q_if (qt_not (qt_tru (q_call d_law_whole mo_law_whole (hr.mono (by decide)) (q_cons (q_var 1 (pv 1)) q_nil)))) (q_oneS (q_ret q_bl)) q_nilS)))
 (q_oneS (q_ret q_bl))))
abbrev t_law_most (c_law_cell_at:Fn):TSp:=
 (sSeq (sIf (eAnd (eTest (eOp pEq (eVar 1) (eC (.int 0)))) (eTest (eOp pEq (eOp pMod (eOp pMod (eOp pMul (eCall c_law_cell_at (eCons (eVar 0) (eCons (eC (.int 0)) eNil))) (eC (.int 48271))) (eC (.int 2147483647))) (eC (.int 4))) (eC (.int 1))))) (sRet (eC (.int 12))) sNext)
 (sRet (eVar 2)))
theorem dq_law_most {c_law_cell_at:Fn} {sp:Fn} (m:At K mg "_law_most" "_law_most" (top 29) ["_law_script", "_law_k", "_law_usual"]) (d_law_cell_at:Def P w K mg base 1 "_law_cell_at" ["_law_script", "_law_k"] (low K c_law_cell_at)) (mo_law_cell_at:MonoF c_law_cell_at) (len:∀ ds Q,sp ds Q -> ds.length = 3) (hsp:∀ ds Q,sp ds Q -> t_law_most c_law_cell_at { nx:=fun _ => Q (.v .non),rt:=Q } (startP ["_law_script", "_law_k", "_law_usual"] ds)):Def P w K mg base 2 "_law_most" ["_law_script", "_law_k", "_law_usual"] (low K sp):=by
 have sc:FnScope ["_law_script", "_law_k", "_law_usual"] ["_law_script", "_law_k", "_law_usual"] (defScope (top 29)):=by norm_cast
 refine m.okP (k:=1) (t:=t_law_most c_law_cell_at) sc (fun f cdv A outer s H E hr => ?_) len hsp
 ·
  have hu:=hr.units
  exact (q_consS (q_if (QW.qt (qw_and (qt_cmp (opd_eq hu) (q_var 1 (pv 1)) q_int) (qw_and1 (qt_cmp (opd_eq hu) (q_op opd_mod (q_op opd_mod (q_op opd_mul (q_call d_law_cell_at mo_law_cell_at (hr.mono (by decide)) (q_cons (q_var 0 (pv 0)) (q_cons q_int q_nil))) q_int) q_int) q_int) q_int)))) (q_oneS (q_ret q_int)) q_nilS)
 (q_oneS (q_ret (q_var 2 (pv 2)))))
abbrev b_law_bands_0:TSp:=
 (sSeq (sSet 6 (eOp pSub (eOp pSub (eVar 1) (eCB pLen (eCons (eVar 4) eNil))) (eOp pSub (eOp pSub (eVar 2) (eVar 5)) (eC (.int 1)))))
 (sSeq (sSet 7 (eOp pAdd (eC (.int 1)) (eOp pMod (eOp pMod (eOp pMul (eOp pMod (eOp pMul (eOp pAdd (eVar 0) (eOp pMul (eC (.int 31)) (eVar 5))) (eC (.int 48271))) (eC (.int 2147483647))) (eOp pAdd (eOp pMul (eVar 5) (eVar 5)) (eC (.int 17)))) (eC (.int 99991))) (eCB pMin2 (eCons (eVar 6) (eCons (eC (.int 3)) eNil))))))
 (sSeq (sIf (eTest (eOp pGt (eVar 3) (eC (.int 1)))) (sSeq (sSet 7 (eOp pAdd (eC (.int 1)) (eOp pMod (eVar 3) (eVar 6))))
 (sSet 3 (eOp pDiv (eVar 3) (eVar 6)))) sNext)
 (sSet 4 (eOp pAdd (eVar 4) (eOp pMul (eLst (eCons (eVar 5) eNil)) (eVar 7)))))))
abbrev t_law_bands:TSp:=
 (sSeq (sSet 2 (eOp pAdd (eC (.int 2)) (eOp pMod (eVar 0) (eC (.int 5)))))
 (sSeq (sSet 3 (eOp pDiv (eVar 0) (eC (.int 5))))
 (sSeq (sSet 4 (eLst eNil))
 (sSeq (sFor (iRange1 (eCons (eVar 2) eNil)) (gN 5) b_law_bands_0)
 (sRet (eVar 4))))))
theorem dq_law_bands {sp:Fn} (m:At K mg "_law_bands" "_law_bands" (top 30) ["_law_cell", "_law_most_here"]) (w_range:mg "range" = none) (w_len:mg "len" = none) (w_min:mg "min" = none) (len:∀ ds Q,sp ds Q -> ds.length = 2) (hsp:∀ ds Q,sp ds Q -> t_law_bands  { nx:=fun _ => Q (.v .non),rt:=Q } (startP ["_law_cell", "_law_most_here", "_law_kinds", "_law_rest", "_law_bands_here", "_law_k", "_law_spare", "_law_count"] ds)):Def P w K mg base 1 "_law_bands" ["_law_cell", "_law_most_here"] (low K sp):=by
 have sc:FnScope ["_law_cell", "_law_most_here", "_law_kinds", "_law_rest", "_law_bands_here", "_law_k", "_law_spare", "_law_count"] ["_law_cell", "_law_most_here"] (defScope (top 30)):=by norm_cast
 refine m.okP (k:=0) (t:=t_law_bands ) sc (fun f cdv A outer s H E hr => ?_) len hsp
 ·
  exact (q_consS (q_set (i:=2) sc.nd rfl (Or.inl rfl) (q_op opd_add q_int (q_op opd_mod (q_var 0 (pv 0)) q_int)))
 (q_consS (q_set (i:=3) sc.nd rfl (Or.inl rfl) (q_op opd_div (q_var 0 (pv 0)) q_int))
 (q_consS (q_set (i:=4) sc.nd rfl (Or.inl rfl) (q_lst q_nil))
 (q_consS (q_for PassesOwn.never rfl (q_iRange1 rfl w_range (q_cons (q_var 2 (pv 2)) q_nil)) (q_gN (i:=5) (k:=8) sc.nd rfl (Or.inl rfl)) (q_consS (q_set (i:=6) sc.nd rfl (Or.inl rfl) (q_op opd_sub (q_op opd_sub (q_var 1 (pv 1)) (q_callB cd_len rfl w_len boot_len (q_cons (q_var 4 (pv 4)) q_nil))) (q_op opd_sub (q_op opd_sub (q_var 2 (pv 2)) (q_var 5 (pv 5))) q_int)))
 (q_consS (q_set (i:=7) sc.nd rfl (Or.inl rfl) (q_op opd_add q_int (q_op opd_mod (q_op opd_mod (q_op opd_mul (q_op opd_mod (q_op opd_mul (q_op opd_add (q_var 0 (pv 0)) (q_op opd_mul q_int (q_var 5 (pv 5)))) q_int) q_int) (q_op opd_add (q_op opd_mul (q_var 5 (pv 5)) (q_var 5 (pv 5))) q_int)) q_int) (q_callB (cd_min2 rfl) rfl w_min boot_min (q_cons (q_var 6 (pv 6)) (q_cons q_int q_nil))))))
 (q_consS (q_if (qt_cmp opd_gt (q_var 3 (pv 3)) q_int) (q_consS (q_set (i:=7) sc.nd rfl (Or.inl rfl) (q_op opd_add q_int (q_op opd_mod (q_var 3 (pv 3)) (q_var 6 (pv 6)))))
 (q_oneS (q_set (i:=3) sc.nd rfl (Or.inl rfl) (q_op opd_div (q_var 3 (pv 3)) (q_var 6 (pv 6)))))) q_nilS)
 (q_oneS (q_set (i:=4) sc.nd rfl (Or.inl rfl) (q_op opd_add (q_var 4 (pv 4)) (q_op opd_mul (q_lst (q_cons (q_var 5 (pv 5)) q_nil)) (q_var 7 (pv 7))))))))))
 (q_oneS (q_ret (q_var 4 (pv 4))))))))
abbrev t_law_pick:TSp:=
 (sRet (eOp pMod (eOp pMod (eOp pMul (eOp pMod (eOp pMul (eOp pAdd (eVar 0) (eOp pMul (eC (.int 31)) (eVar 1))) (eC (.int 48271))) (eC (.int 2147483647))) (eOp pAdd (eOp pMul (eVar 1) (eVar 1)) (eC (.int 17)))) (eC (.int 99991))) (eVar 2)))
theorem dq_law_pick {sp:Fn} (m:At K mg "_law_pick" "_law_pick" (top 31) ["_law_cell", "_law_step", "_law_many_here"])  (len:∀ ds Q,sp ds Q -> ds.length = 3) (hsp:∀ ds Q,sp ds Q -> t_law_pick  { nx:=fun _ => Q (.v .non),rt:=Q } (startP ["_law_cell", "_law_step", "_law_many_here"] ds)):Def P w K mg base 1 "_law_pick" ["_law_cell", "_law_step", "_law_many_here"] (low K sp):=by
 have sc:FnScope ["_law_cell", "_law_step", "_law_many_here"] ["_law_cell", "_law_step", "_law_many_here"] (defScope (top 31)):=by norm_cast
 refine m.okP (k:=0) (t:=t_law_pick ) sc (fun f cdv A outer s H E hr => ?_) len hsp
 ·
  exact (q_oneS (q_ret (q_op opd_mod (q_op opd_mod (q_op opd_mul (q_op opd_mod (q_op opd_mul (q_op opd_add (q_var 0 (pv 0)) (q_op opd_mul q_int (q_var 1 (pv 1)))) q_int) q_int) (q_op opd_add (q_op opd_mul (q_var 1 (pv 1)) (q_var 1 (pv 1))) q_int)) q_int) (q_var 2 (pv 2)))))
abbrev t_law_exchanged:TSp:=
 (sRet (eOp pAdd (eOp pAdd (eSl (eVar 0) eNoPart (ePart (eVar 1))) (eLst (eCons (eOp pIx (eVar 0) (eOp pAdd (eVar 1) (eC (.int 1)))) (eCons (eOp pIx (eVar 0) (eVar 1)) eNil)))) (eSl (eVar 0) (ePart (eOp pAdd (eVar 1) (eC (.int 2)))) eNoPart)))
theorem dq_law_exchanged {sp:Fn} (m:At K mg "_law_exchanged" "_law_exchanged" (top 32) ["_law_path", "_law_p"])  (len:∀ ds Q,sp ds Q -> ds.length = 2) (hsp:∀ ds Q,sp ds Q -> t_law_exchanged  { nx:=fun _ => Q (.v .non),rt:=Q } (startP ["_law_path", "_law_p"] ds)):Def P w K mg base 1 "_law_exchanged" ["_law_path", "_law_p"] (low K sp):=by
 have sc:FnScope ["_law_path", "_law_p"] ["_law_path", "_law_p"] (defScope (top 32)):=by norm_cast
 refine m.okP (k:=0) (t:=t_law_exchanged ) sc (fun f cdv A outer s H E hr => ?_) len hsp
 ·
  have hu1:=hu_of hr
  exact (q_oneS (q_ret (q_op opd_add (q_op opd_add (q_slice (q_var 0 (pv 0)) qo_none (qo_some (q_var 1 (pv 1)))) (q_lst (q_cons (q_ix hu1 (q_var 0 (pv 0)) (q_op opd_add (q_var 1 (pv 1)) q_int)) (q_cons (q_ix hu1 (q_var 0 (pv 0)) (q_var 1 (pv 1))) q_nil)))) (q_slice (q_var 0 (pv 0)) (qo_some (q_op opd_add (q_var 1 (pv 1)) q_int)) qo_none))))
abbrev b_law_row_0 (c_law_pick c_law_exchanged:Fn):TSp:=
 (sSeq (sSet 6 (eOp pSub (eCB pLen (eCons (eVar 2) eNil)) (eC (.int 1))))
 (sSeq (sSet 7 (eComp 1 [0,2] (iRange1 (eCons (eVar 6) eNil)) (gN 0) (eTest (eOp pLt (eOp pIx (eVar 1) (eOp pIx (eVar 2) (eVar 0))) (eOp pIx (eVar 1) (eOp pIx (eVar 2) (eOp pAdd (eVar 0) (eC (.int 1))))))) (eVar 0)))
 (sSeq (sIf (eTest (eOp pEq (eVar 7) (eLst eNil))) (sRet (eVar 3)) sNext)
 (sSeq (sSet 8 (eCall c_law_pick (eCons (eVar 1) (eCons (eVar 5) (eCons (eCB pLen (eCons (eVar 7) eNil)) eNil)))))
 (sSeq (sIf (eTest (eOp pGt (eVar 4) (eC (.int 1)))) (sSeq (sSet 8 (eOp pMod (eVar 4) (eCB pLen (eCons (eVar 7) eNil))))
 (sSet 4 (eOp pDiv (eVar 4) (eCB pLen (eCons (eVar 7) eNil))))) sNext)
 (sSeq (sApp 3 (eOp pIx (eVar 7) (eVar 8)))
 (sSet 2 (eCall c_law_exchanged (eCons (eVar 2) (eCons (eOp pIx (eVar 7) (eVar 8)) eNil))))))))))
abbrev t_law_row (c_law_pick c_law_exchanged:Fn):TSp:=
 (sSeq (sSet 2 (eLR1 (eCons (eCB pLen (eCons (eVar 0) eNil)) eNil)))
 (sSeq (sSetO 3 (eLst eNil))
 (sSeq (sSet 4 (eVar 1))
 (sSeq (sFor (iRange1 (eCons (eOp pMul (eCB pLen (eCons (eVar 0) eNil)) (eCB pLen (eCons (eVar 0) eNil))) eNil)) (gN 5) (b_law_row_0 c_law_pick c_law_exchanged))
 (sRet (eVar 3))))))
theorem dq_law_row {c_law_pick c_law_exchanged:Fn} {sp:Fn} (m:At K mg "_law_row" "_law_row" (top 33) ["_law_bands_here", "_law_cell"]) (w_len:mg "len" = none) (w_list:mg "list" = none) (w_range:mg "range" = none) (d_law_pick:Def P w K mg base 1 "_law_pick" ["_law_cell", "_law_step", "_law_many_here"] (low K c_law_pick)) (mo_law_pick:MonoF c_law_pick) (d_law_exchanged:Def P w K mg base 1 "_law_exchanged" ["_law_path", "_law_p"] (low K c_law_exchanged)) (mo_law_exchanged:MonoF c_law_exchanged) (len:∀ ds Q,sp ds Q -> ds.length = 2) (hsp:∀ ds Q,sp ds Q -> t_law_row c_law_pick c_law_exchanged { nx:=fun _ => Q (.v .non),rt:=Q } (startP ["_law_bands_here", "_law_cell", "_law_path", "_law_row_here", "_law_rest", "_law_step", "_law_last", "_law_spots", "_law_pick_here"] ds)):Def P w K mg base 2 "_law_row" ["_law_bands_here", "_law_cell"] (low K sp):=by
 have sc:FnScope ["_law_bands_here", "_law_cell", "_law_path", "_law_row_here", "_law_rest", "_law_step", "_law_last", "_law_spots", "_law_pick_here"] ["_law_bands_here", "_law_cell"] (defScope (top 33)):=by norm_cast
 refine m.okP (k:=1) (t:=t_law_row c_law_pick c_law_exchanged) sc (fun f cdv A outer s H E hr => ?_) len hsp
 ·
  have hu:=hr.units
  have hu1:=hu_of hr
  exact (q_consS (q_set (i:=2) sc.nd rfl (Or.inr rfl) (q_listRange1 rfl rfl w_list rfl w_range (q_cons (q_callB cd_len rfl w_len boot_len (q_cons (q_var 0 (pv 0)) q_nil)) q_nil)))
 (q_consS (q_setO (i:=3) sc.nd rfl (Or.inl rfl) (q_lst q_nil))
 (q_consS (q_set (i:=4) sc.nd rfl (Or.inl rfl) (q_var 1 (pv 1)))
 (q_consS (q_for PassesOwn.never rfl (q_iRange1 rfl w_range (q_cons (q_op opd_mul (q_callB cd_len rfl w_len boot_len (q_cons (q_var 0 (pv 0)) q_nil)) (q_callB cd_len rfl w_len boot_len (q_cons (q_var 0 (pv 0)) q_nil))) q_nil)) (q_gN (i:=5) (k:=9) sc.nd rfl (Or.inl rfl)) (q_consS (q_set (i:=6) sc.nd rfl (Or.inl rfl) (q_op opd_sub (q_callB cd_len rfl w_len boot_len (q_cons (q_var 2 (pv 2)) q_nil)) q_int))
 (q_consS (q_setX (q_lcX (iy:=7) ["_law_p"] ["_law_bands_here", "_law_path"] [0,2] sc.nd rfl (Or.inl rfl) rfl (q_iRange1 rfl w_range (q_cons (q_var 6 (pv 6)) q_nil)) (fun fp s H => (q_gN (i:=0) (k:=1) (show List.Nodup (["_law_p", "_law_bands_here", "_law_path"]:List Str) by decide +kernel) rfl (Or.inl rfl))) (fun fp s H => (qts_one (qt_cmp opd_lt (q_ix hu1 (q_var 1 (pv 1)) (q_ix hu1 (q_var 2 (pv 2)) (q_var 0 (pv 0)))) (q_ix hu1 (q_var 1 (pv 1)) (q_ix hu1 (q_var 2 (pv 2)) (q_op opd_add (q_var 0 (pv 0)) q_int)))))) (fun fp s H => (q_var 0 (pv 0)))))
 (q_consS (q_if (qt_cmp (opd_eq hu) (q_var 7 (pv 7)) (q_lst q_nil)) (q_oneS (q_ret (q_var 3 (pv 3)))) q_nilS)
 (q_consS (q_set (i:=8) sc.nd rfl (Or.inl rfl) (q_call d_law_pick mo_law_pick (hr.mono (by decide)) (q_cons (q_var 1 (pv 1)) (q_cons (q_var 5 (pv 5)) (q_cons (q_callB cd_len rfl w_len boot_len (q_cons (q_var 7 (pv 7)) q_nil)) q_nil)))))
 (q_consS (q_if (qt_cmp opd_gt (q_var 4 (pv 4)) q_int) (q_consS (q_set (i:=8) sc.nd rfl (Or.inl rfl) (q_op opd_mod (q_var 4 (pv 4)) (q_callB cd_len rfl w_len boot_len (q_cons (q_var 7 (pv 7)) q_nil))))
 (q_oneS (q_set (i:=4) sc.nd rfl (Or.inl rfl) (q_op opd_div (q_var 4 (pv 4)) (q_callB cd_len rfl w_len boot_len (q_cons (q_var 7 (pv 7)) q_nil)))))) q_nilS)
 (q_consS (q_app (i:=3) (pv 3) (q_ix hu1 (q_var 7 (pv 7)) (q_var 8 (pv 8))))
 (q_oneS (q_set (i:=2) sc.nd rfl (Or.inr rfl) (q_call d_law_exchanged mo_law_exchanged (hr.mono (by decide)) (q_cons (q_var 2 (pv 2)) (q_cons (q_ix hu1 (q_var 7 (pv 7)) (q_var 8 (pv 8))) q_nil))))))))))))
 (q_oneS (q_ret (q_var 3 (pv 3))))))))
abbrev b_law_floor_0 (c_law_exchanged:Fn):TSp:=
 (sSeq (sApp 3 (eTup (eCons (eOp pIx (eVar 2) (eVar 4)) (eCons (eOp pIx (eVar 2) (eOp pAdd (eVar 4) (eC (.int 1)))) (eCons (eCB pTuple (eCons (eCB pSorted (eCons (eSl (eVar 2) eNoPart (ePart (eVar 4))) eNil)) eNil)) eNil)))))
 (sSet 2 (eCall c_law_exchanged (eCons (eVar 2) (eCons (eVar 4) eNil)))))
abbrev t_law_floor (c_law_exchanged:Fn):TSp:=
 (sSeq (sSet 2 (eLR1 (eCons (eCB pLen (eCons (eVar 0) eNil)) eNil)))
 (sSeq (sSetO 3 (eLst eNil))
 (sSeq (sFor (iSeq (eVar 1)) (gN 4) (b_law_floor_0 c_law_exchanged))
 (sRet (eCB pSorted (eCons (eVar 3) eNil))))))
theorem dq_law_floor {c_law_exchanged:Fn} {sp:Fn} (m:At K mg "_law_floor" "_law_floor" (top 34) ["_law_bands_here", "_law_row_here"]) (w_len:mg "len" = none) (w_list:mg "list" = none) (w_range:mg "range" = none) (w_sorted:mg "sorted" = none) (w_tuple:mg "tuple" = none) (d_law_exchanged:Def P w K mg base 1 "_law_exchanged" ["_law_path", "_law_p"] (low K c_law_exchanged)) (mo_law_exchanged:MonoF c_law_exchanged) (len:∀ ds Q,sp ds Q -> ds.length = 2) (hsp:∀ ds Q,sp ds Q -> t_law_floor c_law_exchanged { nx:=fun _ => Q (.v .non),rt:=Q } (startP ["_law_bands_here", "_law_row_here", "_law_path", "_law_tiles", "_law_p"] ds)):Def P w K mg base 2 "_law_floor" ["_law_bands_here", "_law_row_here"] (low K sp):=by
 have sc:FnScope ["_law_bands_here", "_law_row_here", "_law_path", "_law_tiles", "_law_p"] ["_law_bands_here", "_law_row_here"] (defScope (top 34)):=by norm_cast
 refine m.okP (k:=1) (t:=t_law_floor c_law_exchanged) sc (fun f cdv A outer s H E hr => ?_) len hsp
 ·
  have hu1:=hu_of hr
  exact (q_consS (q_set (i:=2) sc.nd rfl (Or.inl rfl) (q_listRange1 rfl rfl w_list rfl w_range (q_cons (q_callB cd_len rfl w_len boot_len (q_cons (q_var 0 (pv 0)) q_nil)) q_nil)))
 (q_consS (q_setO (i:=3) sc.nd rfl (Or.inl rfl) (q_lst q_nil))
 (q_consS (q_for PassesOwn.never rfl (q_iSeq (q_var 1 (pv 1))) (q_gN (i:=4) (k:=5) sc.nd rfl (Or.inl rfl)) (q_consS (q_app (i:=3) (pv 3) (q_tup (q_cons (q_ix hu1 (q_var 2 (pv 2)) (q_var 4 (pv 4))) (q_cons (q_ix hu1 (q_var 2 (pv 2)) (q_op opd_add (q_var 4 (pv 4)) q_int)) (q_cons (q_callTy cd_tuple rfl w_tuple boot_tuple (q_cons (q_callB cd_sorted rfl w_sorted boot_sorted (q_cons (q_slice (q_var 2 (pv 2)) qo_none (qo_some (q_var 4 (pv 4)))) q_nil)) q_nil)) q_nil)))))
 (q_oneS (q_set (i:=2) sc.nd rfl (Or.inl rfl) (q_call d_law_exchanged mo_law_exchanged (hr.mono (by decide)) (q_cons (q_var 2 (pv 2)) (q_cons (q_var 4 (pv 4)) q_nil)))))))
 (q_oneS (q_ret (q_callB cd_sorted rfl w_sorted boot_sorted (q_cons (q_var 3 (pv 3)) q_nil)))))))
abbrev t_law_many:TSp:=
 (sRet (eCB pLen (eCons (eComp 1 [1] (iSeq (eVar 0)) (gN 0) (eTest (eOp pEq (eVar 0) (eVar 1))) (eVar 0)) eNil)))
theorem dq_law_many {sp:Fn} (m:At K mg "_law_many" "_law_many" (top 35) ["_law_bands_here", "_law_kind"]) (w_len:mg "len" = none) (len:∀ ds Q,sp ds Q -> ds.length = 2) (hsp:∀ ds Q,sp ds Q -> t_law_many  { nx:=fun _ => Q (.v .non),rt:=Q } (startP ["_law_bands_here", "_law_kind"] ds)):Def P w K mg base 1 "_law_many" ["_law_bands_here", "_law_kind"] (low K sp):=by
 have sc:FnScope ["_law_bands_here", "_law_kind"] ["_law_bands_here", "_law_kind"] (defScope (top 35)):=by norm_cast
 refine m.okP (k:=0) (t:=t_law_many ) sc (fun f cdv A outer s H E hr => ?_) len hsp
 ·
  have hu:=hr.units
  exact (q_oneS (q_ret (q_callB cd_len rfl w_len boot_len (q_cons (q_lc ["_law_band"] ["_law_kind"] [1] rfl (q_iSeq (q_var 0 (pv 0))) (fun fp s H => (q_gN (i:=0) (k:=1) (show List.Nodup (["_law_band", "_law_kind"]:List Str) by decide +kernel) rfl (Or.inl rfl))) (fun fp s H => (qts_one (qt_cmp (opd_eq hu) (q_var 0 (pv 0)) (q_var 1 (pv 1))))) (fun fp s H => (q_var 0 (pv 0)))) q_nil))))
abbrev t_law_sides (c_law_many c_Sides:Fn):TSp:=
 (sRet (eMake c_Sides (eCons (eComp 1 [0] (iRange1 (eCons (eOp pAdd (eOp pIx (eVar 0) (eNeg (eC (.int 1)))) (eC (.int 1))) eNil)) (gN 0) tTrue (eTup (eCons (eOp pSub (eC (.int 6)) (eOp pMul (eC (.int 2)) (eVar 0))) (eCons (eC (.int 1)) (eCons (eCall c_law_many (eCons (eVar 1) (eCons (eVar 0) eNil))) eNil))))) eNil)))
theorem dq_law_sides {C:Addr} {c_law_many c_Sides:Fn} {sp:Fn} (m:At K mg "_law_sides" "_law_sides" (top 36) ["_law_bands_here"]) (w_range:mg "range" = none) (d_law_many:Def P w K mg base 1 "_law_many" ["_law_bands_here", "_law_kind"] (low K c_law_many)) (mo_law_many:MonoF c_law_many) (d_Sides:IDef P w K mg base 5 "Sides" C ["self", "directions"] c_Sides) (mo_Sides:MonoF c_Sides) (len:∀ ds Q,sp ds Q -> ds.length = 1) (hsp:∀ ds Q,sp ds Q -> t_law_sides c_law_many c_Sides { nx:=fun _ => Q (.v .non),rt:=Q } (startP ["_law_bands_here"] ds)):Def P w K mg base 7 "_law_sides" ["_law_bands_here"] (low K sp):=by
 have sc:FnScope ["_law_bands_here"] ["_law_bands_here"] (defScope (top 36)):=by norm_cast
 refine m.okP (k:=6) (t:=t_law_sides c_law_many c_Sides) sc (fun f cdv A outer s H E hr => ?_) len hsp
 ·
  have hu1:=hu_of hr
  exact (q_oneS (q_ret (q_make d_Sides mo_Sides (hr.mono (by decide)) (q_cons (q_lc ["_law_k"] ["_law_bands_here"] [0] rfl (q_iRange1 rfl w_range (q_cons (q_op opd_add (q_ix hu1 (q_var 0 (pv 0)) (q_neg q_int)) q_int) q_nil)) (fun fp s H => (q_gN (i:=0) (k:=1) (show List.Nodup (["_law_k", "_law_bands_here"]:List Str) by decide +kernel) rfl (Or.inl rfl))) (fun fp s H => qts_nil) (fun fp s H => (q_tup (q_cons (q_op opd_sub q_int (q_op opd_mul q_int (q_var 0 (pv 0)))) (q_cons q_int (q_cons (q_call d_law_many mo_law_many (hr.mono (by decide)) (q_cons (q_var 1 (pv 1)) (q_cons (q_var 0 (pv 0)) q_nil))) q_nil)))))) q_nil))))
abbrev b_law_threes_0:TSp:=
 (sSeq (sSet 3 (eOp pDiv (eVar 2) (eOp pMul (eCB pLen (eCons (eVar 0) eNil)) (eCB pLen (eCons (eVar 0) eNil)))))
 (sSeq (sSet 4 (eOp pMod (eOp pDiv (eVar 2) (eCB pLen (eCons (eVar 0) eNil))) (eCB pLen (eCons (eVar 0) eNil))))
 (sSeq (sSet 5 (eOp pMod (eVar 2) (eCB pLen (eCons (eVar 0) eNil))))
 (sIf (eAnd (eTest (eChain pLt pLt (eVar 3) (eVar 4) (eVar 5))) (eAnd (eTest (eOp pLt (eOp pIx (eVar 0) (eVar 3)) (eOp pIx (eVar 0) (eVar 4)))) (eTest (eOp pLt (eOp pIx (eVar 0) (eVar 4)) (eOp pIx (eVar 0) (eVar 5)))))) (sApp 1 (eTup (eCons (eVar 3) (eCons (eVar 4) (eCons (eVar 5) eNil))))) sNext))))
abbrev t_law_threes:TSp:=
 (sSeq (sSetO 1 (eLst eNil))
 (sSeq (sFor (iRange1 (eCons (eOp pMul (eOp pMul (eCB pLen (eCons (eVar 0) eNil)) (eCB pLen (eCons (eVar 0) eNil))) (eCB pLen (eCons (eVar 0) eNil))) eNil)) (gN 2) b_law_threes_0)
 (sRet (eVar 1))))
theorem dq_law_threes {sp:Fn} (m:At K mg "_law_threes" "_law_threes" (top 37) ["_law_bands_here"]) (w_len:mg "len" = none) (w_range:mg "range" = none) (len:∀ ds Q,sp ds Q -> ds.length = 1) (hsp:∀ ds Q,sp ds Q -> t_law_threes  { nx:=fun _ => Q (.v .non),rt:=Q } (startP ["_law_bands_here", "_law_found", "_law_k", "_law_a", "_law_b", "_law_c"] ds)):Def P w K mg base 1 "_law_threes" ["_law_bands_here"] (low K sp):=by
 have sc:FnScope ["_law_bands_here", "_law_found", "_law_k", "_law_a", "_law_b", "_law_c"] ["_law_bands_here"] (defScope (top 37)):=by norm_cast
 refine m.okP (k:=0) (t:=t_law_threes ) sc (fun f cdv A outer s H E hr => ?_) len hsp
 ·
  have hu1:=hu_of hr
  exact (q_consS (q_setO (i:=1) sc.nd rfl (Or.inl rfl) (q_lst q_nil))
 (q_consS (q_for PassesOwn.never rfl (q_iRange1 rfl w_range (q_cons (q_op opd_mul (q_op opd_mul (q_callB cd_len rfl w_len boot_len (q_cons (q_var 0 (pv 0)) q_nil)) (q_callB cd_len rfl w_len boot_len (q_cons (q_var 0 (pv 0)) q_nil))) (q_callB cd_len rfl w_len boot_len (q_cons (q_var 0 (pv 0)) q_nil))) q_nil)) (q_gN (i:=2) (k:=6) sc.nd rfl (Or.inl rfl)) (q_consS (q_set (i:=3) sc.nd rfl (Or.inl rfl) (q_op opd_div (q_var 2 (pv 2)) (q_op opd_mul (q_callB cd_len rfl w_len boot_len (q_cons (q_var 0 (pv 0)) q_nil)) (q_callB cd_len rfl w_len boot_len (q_cons (q_var 0 (pv 0)) q_nil)))))
 (q_consS (q_set (i:=4) sc.nd rfl (Or.inl rfl) (q_op opd_mod (q_op opd_div (q_var 2 (pv 2)) (q_callB cd_len rfl w_len boot_len (q_cons (q_var 0 (pv 0)) q_nil))) (q_callB cd_len rfl w_len boot_len (q_cons (q_var 0 (pv 0)) q_nil))))
 (q_consS (q_set (i:=5) sc.nd rfl (Or.inl rfl) (q_op opd_mod (q_var 2 (pv 2)) (q_callB cd_len rfl w_len boot_len (q_cons (q_var 0 (pv 0)) q_nil))))
 (q_oneS (q_if (QW.qt (qw_and (qt_chain op_lt op_lt (q_var 3 (pv 3)) (q_var 4 (pv 4)) (q_var 5 (pv 5))) (qw_and (qt_cmp opd_lt (q_ix hu1 (q_var 0 (pv 0)) (q_var 3 (pv 3))) (q_ix hu1 (q_var 0 (pv 0)) (q_var 4 (pv 4)))) (qw_and1 (qt_cmp opd_lt (q_ix hu1 (q_var 0 (pv 0)) (q_var 4 (pv 4))) (q_ix hu1 (q_var 0 (pv 0)) (q_var 5 (pv 5)))))))) (q_oneS (q_app (i:=1) (pv 1) (q_tup (q_cons (q_var 3 (pv 3)) (q_cons (q_var 4 (pv 4)) (q_cons (q_var 5 (pv 5)) q_nil)))))) q_nilS))))))
 (q_oneS (q_ret (q_var 1 (pv 1))))))
abbrev b_law_belows_0:TSp:=
 (sPut 1 (eTup (eCons (eVar 2) (eCons (eVar 3) eNil))) (eVar 4))
abbrev t_law_belows:TSp:=
 (sSeq (sSetO 1 eDT)
 (sSeq (sFor (iSeq (eVar 0)) (gT [2,3,4]) b_law_belows_0)
 (sRet (eVar 1))))
theorem dq_law_belows {sp:Fn} (m:At K mg "_law_belows" "_law_belows" (top 38) ["_law_tiles"])  (len:∀ ds Q,sp ds Q -> ds.length = 1) (hsp:∀ ds Q,sp ds Q -> t_law_belows  { nx:=fun _ => Q (.v .non),rt:=Q } (startP ["_law_tiles", "_law_belows_here", "_law_a", "_law_b", "_law_below"] ds)):Def P w K mg base 1 "_law_belows" ["_law_tiles"] (low K sp):=by
 have sc:FnScope ["_law_tiles", "_law_belows_here", "_law_a", "_law_b", "_law_below"] ["_law_tiles"] (defScope (top 38)):=by norm_cast
 refine m.okP (k:=0) (t:=t_law_belows ) sc (fun f cdv A outer s H E hr => ?_) len hsp
 ·
  have hu1:=hu_of hr
  exact (q_consS (q_setO (i:=1) sc.nd rfl (Or.inl rfl) q_dnewT)
 (q_consS (q_for PassesOwn.never rfl (q_iSeq (q_var 0 (pv 0))) (q_gT (k:=5) (is:=[2,3,4]) rfl (pgs_cons (pg_name (i:=2) sc.nd rfl (Or.inl rfl)) (pgs_cons (pg_name (i:=3) sc.nd rfl (Or.inl rfl)) (pgs_cons (pg_name (i:=4) sc.nd rfl (Or.inl rfl)) pgs_nil)))) (q_oneS (q_put hu1 (i:=1) (pv 1) (q_tup (q_cons (q_var 2 (pv 2)) (q_cons (q_var 3 (pv 3)) q_nil))) (q_var 4 (pv 4)))))
 (q_oneS (q_ret (q_var 1 (pv 1))))))
abbrev b_law_is_threes_0 (c_law_wholes:Fn):TSp:=
 (sIf (eOr (eNot (eTru (eCall c_law_wholes (eCons (eVar 1) eNil)))) (eTest (eOp pNe (eCB pLen (eCons (eVar 1) eNil)) (eC (.int 3))))) (sRet (eC (.bl false))) sNext)
abbrev t_law_is_threes (c_law_wholes:Fn):TSp:=
 (sSeq (sIf (eNot (eTru (eIsi "list" (eVar 0)))) (sRet (eC (.bl false))) sNext)
 (sSeq (sFor (iSeq (eVar 0)) (gN 1) (b_law_is_threes_0 c_law_wholes))
 (sRet (eC (.bl true)))))
theorem dq_law_is_threes {c_law_wholes:Fn} {sp:Fn} (m:At K mg "_law_is_threes" "_law_is_threes" (top 40) ["_law_found"]) (w_isinstance:mg "isinstance" = none) (w_list:mg "list" = none) (w_len:mg "len" = none) (d_law_wholes:Def P w K mg base 2 "_law_wholes" ["_law_found"] (low K c_law_wholes)) (mo_law_wholes:MonoF c_law_wholes) (len:∀ ds Q,sp ds Q -> ds.length = 1) (hsp:∀ ds Q,sp ds Q -> t_law_is_threes c_law_wholes { nx:=fun _ => Q (.v .non),rt:=Q } (startP ["_law_found", "_law_three"] ds)):Def P w K mg base 3 "_law_is_threes" ["_law_found"] (low K sp):=by
 have sc:FnScope ["_law_found", "_law_three"] ["_law_found"] (defScope (top 40)):=by norm_cast
 refine m.okP (k:=2) (t:=t_law_is_threes c_law_wholes) sc (fun f cdv A outer s H E hr => ?_) len hsp
 ·
  have hu:=hr.units
  exact (q_consS (q_if (qt_not (qt_tru (q_isi (.inr (.inr (.inr (.inl rfl)))) rfl w_isinstance (q_var 0 (pv 0)) (pe_bltn (v:=.ty "list") rfl w_list boot_list rfl)))) (q_oneS (q_ret q_bl)) q_nilS)
 (q_consS (q_for PassesOwn.never rfl (q_iSeq (q_var 0 (pv 0))) (q_gN (i:=1) (k:=2) sc.nd rfl (Or.inl rfl)) (q_oneS (q_if (QW.qt (qw_or (qt_not (qt_tru (q_call d_law_wholes mo_law_wholes (hr.mono (by decide)) (q_cons (q_var 1 (pv 1)) q_nil)))) (qw_or1 (qt_cmp (opd_ne hu) (q_callB cd_len rfl w_len boot_len (q_cons (q_var 1 (pv 1)) q_nil)) q_int)))) (q_oneS (q_ret q_bl)) q_nilS)))
 (q_oneS (q_ret q_bl))))
abbrev b_law_0 (c_law_most c_law_cell_at c_law_bands c_law_sides c_law_row c_law_floor c_law_belows c_law_threes c_unlike c_law_is_threes:Fn):TSp:=
 (sSeq (sSet 10 (eTup (eCons (eOp pIx (eVar 9) (eC (.int 0))) (eCons (eOp pIx (eVar 9) (eC (.int 2))) eNil))))
 (sIf (eTest (eOp pNe (eOp pIn (eOp pIx (eVar 9) (eC (.int 1))) (eOp pIx (eVar 6) (eVar 10))) (eOp pIn (eOp pIx (eVar 9) (eC (.int 1))) (eOp pIx (eVar 7) (eVar 10))))) (sApp 8 (eVar 9)) sNext))
abbrev b_law_1 (c_law_most c_law_cell_at c_law_bands c_law_sides c_law_row c_law_floor c_law_belows c_law_threes c_unlike c_law_is_threes:Fn):TSp:=
 (sSeq (sSet 2 (eCall c_law_bands (eCons (eCall c_law_cell_at (eCons (eVar 0) (eCons (eVar 1) eNil))) (eCons (eCall c_law_most (eCons (eVar 0) (eCons (eVar 1) (eCons (eC (.int 9)) eNil)))) eNil))))
 (sSeq (sSet 3 (eCall c_law_sides (eCons (eVar 2) eNil)))
 (sSeq (sSet 4 (eCall c_law_floor (eCons (eVar 2) (eCons (eCall c_law_row (eCons (eVar 2) (eCons (eCall c_law_cell_at (eCons (eVar 0) (eCons (eOp pAdd (eVar 1) (eC (.int 1))) eNil))) eNil))) eNil))))
 (sSeq (sSet 5 (eCall c_law_floor (eCons (eVar 2) (eCons (eCall c_law_row (eCons (eVar 2) (eCons (eCall c_law_cell_at (eCons (eVar 0) (eCons (eOp pAdd (eVar 1) (eC (.int 2))) eNil))) eNil))) eNil))))
 (sSeq (sSet 6 (eCall c_law_belows (eCons (eVar 4) eNil)))
 (sSeq (sSet 7 (eCall c_law_belows (eCons (eVar 5) eNil)))
 (sSeq (sSetO 8 (eLst eNil))
 (sSeq (sFor (iSeq (eCall c_law_threes (eCons (eVar 2) eNil))) (gN 9) (b_law_0 c_law_most c_law_cell_at c_law_bands c_law_sides c_law_row c_law_floor c_law_belows c_law_threes c_unlike c_law_is_threes))
 (sSeq (sSet 11 (eCB pList (eCons (eVar 4) eNil)))
 (sSeq (sSet 12 (eCB pList (eCons (eVar 5) eNil)))
 (sSeq (sSetO 13 (eCall c_unlike (eCons (eVar 3) (eCons (eVar 11) (eCons (eVar 12) eNil)))))
 (sSeq (sIf (eOr (eNot (eTru (eCall c_law_is_threes (eCons (eVar 13) eNil)))) (eOr (eTest (eOp pNe (eVar 13) (eVar 8))) (eOr (eTest (eOp pNe (eVar 11) (eVar 4))) (eTest (eOp pNe (eVar 12) (eVar 5)))))) (sRet (eC (.bl false))) sNext)
 (sSeq (sClear 13)
 (sIf (eOr (eTest (eOp pNe (eCall c_unlike (eCons (eVar 3) (eCons (eVar 12) (eCons (eVar 11) eNil)))) (eVar 8))) (eTest (eOp pNe (eCall c_unlike (eCons (eVar 3) (eCons (eVar 11) (eCons (eCB pList (eCons (eVar 4) eNil)) eNil)))) (eLst eNil)))) (sRet (eC (.bl false))) sNext))))))))))))))
abbrev t_law (c_law_most c_law_cell_at c_law_bands c_law_sides c_law_row c_law_floor c_law_belows c_law_threes c_unlike c_law_is_threes:Fn):TSp:=
 (sSeq (sFor (iRange3 (eCons (eC (.int 0)) (eCons (eOp pAdd (eCB pMin2 (eCons (eC (.int 21)) (eCons (eCB pLen (eCons (eVar 0) eNil)) eNil))) (eC (.int 1))) (eCons (eC (.int 3)) eNil)))) (gN 1) (b_law_1 c_law_most c_law_cell_at c_law_bands c_law_sides c_law_row c_law_floor c_law_belows c_law_threes c_unlike c_law_is_threes))
 (sRet (eC (.bl true))))
theorem dq_law {c_law_most c_law_cell_at c_law_bands c_law_sides c_law_row c_law_floor c_law_belows c_law_threes c_unlike c_law_is_threes:Fn} {sp:Fn} {fL:Addr} {fdL:FuncData} (F:Fun K "law" "law" (top 41) fL fdL) (w_len:mg "len" = none) (w_min:mg "min" = none) (w_range:mg "range" = none) (w_list:mg "list" = none) (d_law_most:Def P w K mg base 2 "_law_most" ["_law_script", "_law_k", "_law_usual"] (low K c_law_most)) (mo_law_most:MonoF c_law_most) (d_law_cell_at:Def P w K mg base 1 "_law_cell_at" ["_law_script", "_law_k"] (low K c_law_cell_at)) (mo_law_cell_at:MonoF c_law_cell_at) (d_law_bands:Def P w K mg base 1 "_law_bands" ["_law_cell", "_law_most_here"] (low K c_law_bands)) (mo_law_bands:MonoF c_law_bands) (d_law_sides:Def P w K mg base 7 "_law_sides" ["_law_bands_here"] (low K c_law_sides)) (mo_law_sides:MonoF c_law_sides) (d_law_row:Def P w K mg base 2 "_law_row" ["_law_bands_here", "_law_cell"] (low K c_law_row)) (mo_law_row:MonoF c_law_row) (d_law_floor:Def P w K mg base 2 "_law_floor" ["_law_bands_here", "_law_row_here"] (low K c_law_floor)) (mo_law_floor:MonoF c_law_floor) (d_law_belows:Def P w K mg base 1 "_law_belows" ["_law_tiles"] (low K c_law_belows)) (mo_law_belows:MonoF c_law_belows) (d_law_threes:Def P w K mg base 1 "_law_threes" ["_law_bands_here"] (low K c_law_threes)) (mo_law_threes:MonoF c_law_threes) (d_unlike:Def P w K mg base 5 "unlike" ["sides", "one", "other"] (low K c_unlike)) (mo_unlike:MonoF c_unlike) (d_law_is_threes:Def P w K mg base 3 "_law_is_threes" ["_law_found"] (low K c_law_is_threes)) (mo_law_is_threes:MonoF c_law_is_threes) (len:∀ ds Q,sp ds Q -> ds.length = 1) (hsp:∀ ds Q,sp ds Q -> t_law c_law_most c_law_cell_at c_law_bands c_law_sides c_law_row c_law_floor c_law_belows c_law_threes c_unlike c_law_is_threes { nx:=fun _ => Q (.v .non),rt:=Q } (startP ["_law_script", "_law_k", "_law_bands_here", "_law_sides_here", "_law_one", "_law_other", "_law_here", "_law_there", "_law_due", "_law_three", "_law_ends", "_law_first", "_law_second", "_law_found"] ds)):FnOk P w K mg base CX0 8 fL fdL ["_law_script"] (low K sp):=by
 have sc:FnScope ["_law_script", "_law_k", "_law_bands_here", "_law_sides_here", "_law_one", "_law_other", "_law_here", "_law_there", "_law_due", "_law_three", "_law_ends", "_law_first", "_law_second", "_law_found"] ["_law_script"] (defScope (top 41)):=by norm_cast
 refine F.ok (k:=7) sc (low_len len) fun cdv A outer s H vs Q E hr qq => body_ok (N:=["_law_script", "_law_k", "_law_bands_here", "_law_sides_here", "_law_one", "_law_other", "_law_here", "_law_there", "_law_due", "_law_three", "_law_ends", "_law_first", "_law_second", "_law_found"]) (t:=t_law c_law_most c_law_cell_at c_law_bands c_law_sides c_law_row c_law_floor c_law_belows c_law_threes c_unlike c_law_is_threes) ?_ hsp qq
 ·
  have hu:=hr.units
  have hu1:=hu_of hr
  have hu65:=units65 hr
  exact (q_consS (q_for PassesOwn.never rfl (q_iRange3 rfl w_range (q_cons q_int (q_cons (q_op opd_add (q_callB (cd_min2 rfl) rfl w_min boot_min (q_cons q_int (q_cons (q_callB cd_len rfl w_len boot_len (q_cons (q_var 0 (pv 0)) q_nil)) q_nil))) q_int) (q_cons q_int q_nil)))) (q_gN (i:=1) (k:=14) sc.nd rfl (Or.inl rfl)) (q_consS (q_set (i:=2) sc.nd rfl (Or.inl rfl) (q_call d_law_bands mo_law_bands (hr.mono (by decide)) (q_cons (q_call d_law_cell_at mo_law_cell_at (hr.mono (by decide)) (q_cons (q_var 0 (pv 0)) (q_cons (q_var 1 (pv 1)) q_nil))) (q_cons (q_call d_law_most mo_law_most (hr.mono (by decide)) (q_cons (q_var 0 (pv 0)) (q_cons (q_var 1 (pv 1)) (q_cons q_int q_nil)))) q_nil))))
 (q_consS (q_set (i:=3) sc.nd rfl (Or.inl rfl) (q_call d_law_sides mo_law_sides (hr.mono (by decide)) (q_cons (q_var 2 (pv 2)) q_nil)))
 (q_consS (q_set (i:=4) sc.nd rfl (Or.inl rfl) (q_call d_law_floor mo_law_floor (hr.mono (by decide)) (q_cons (q_var 2 (pv 2)) (q_cons (q_call d_law_row mo_law_row (hr.mono (by decide)) (q_cons (q_var 2 (pv 2)) (q_cons (q_call d_law_cell_at mo_law_cell_at (hr.mono (by decide)) (q_cons (q_var 0 (pv 0)) (q_cons (q_op opd_add (q_var 1 (pv 1)) q_int) q_nil))) q_nil))) q_nil))))
 (q_consS (q_set (i:=5) sc.nd rfl (Or.inl rfl) (q_call d_law_floor mo_law_floor (hr.mono (by decide)) (q_cons (q_var 2 (pv 2)) (q_cons (q_call d_law_row mo_law_row (hr.mono (by decide)) (q_cons (q_var 2 (pv 2)) (q_cons (q_call d_law_cell_at mo_law_cell_at (hr.mono (by decide)) (q_cons (q_var 0 (pv 0)) (q_cons (q_op opd_add (q_var 1 (pv 1)) q_int) q_nil))) q_nil))) q_nil))))
 (q_consS (q_set (i:=6) sc.nd rfl (Or.inl rfl) (q_call d_law_belows mo_law_belows (hr.mono (by decide)) (q_cons (q_var 4 (pv 4)) q_nil)))
 (q_consS (q_set (i:=7) sc.nd rfl (Or.inl rfl) (q_call d_law_belows mo_law_belows (hr.mono (by decide)) (q_cons (q_var 5 (pv 5)) q_nil)))
 (q_consS (q_setO (i:=8) sc.nd rfl (Or.inl rfl) (q_lst q_nil))
 (q_consS (q_for PassesOwn.never rfl (q_iSeq (q_call d_law_threes mo_law_threes (hr.mono (by decide)) (q_cons (q_var 2 (pv 2)) q_nil))) (q_gN (i:=9) (k:=14) sc.nd rfl (Or.inl rfl)) (q_consS (q_set (i:=10) sc.nd rfl (Or.inl rfl) (q_tup (q_cons (q_ix hu1 (q_var 9 (pv 9)) q_int) (q_cons (q_ix hu1 (q_var 9 (pv 9)) q_int) q_nil))))
 (q_oneS (q_if (qt_cmp (opd_ne hu) (q_cmp (opd_in hu65 hu1) (q_ix hu1 (q_var 9 (pv 9)) q_int) (q_ix hu1 (q_var 6 (pv 6)) (q_var 10 (pv 10)))) (q_cmp (opd_in hu65 hu1) (q_ix hu1 (q_var 9 (pv 9)) q_int) (q_ix hu1 (q_var 7 (pv 7)) (q_var 10 (pv 10))))) (q_oneS (q_app (i:=8) (pv 8) (q_var 9 (pv 9)))) q_nilS))))
 (q_consS (q_set (i:=11) sc.nd rfl (Or.inl rfl) (q_callTy cd_list rfl w_list boot_list (q_cons (q_var 4 (pv 4)) q_nil)))
 (q_consS (q_set (i:=12) sc.nd rfl (Or.inl rfl) (q_callTy cd_list rfl w_list boot_list (q_cons (q_var 5 (pv 5)) q_nil)))
 (q_consS (q_setO (i:=13) sc.nd rfl (Or.inl rfl) (q_call d_unlike mo_unlike (hr.mono (by decide)) (q_cons (q_var 3 (pv 3)) (q_cons (q_var 11 (pv 11)) (q_cons (q_var 12 (pv 12)) q_nil)))))
 (q_consS (q_if (QW.qt (qw_or (qt_not (qt_tru (q_call d_law_is_threes mo_law_is_threes (hr.mono (by decide)) (q_cons (q_var 13 (pv 13)) q_nil)))) (qw_or (qt_cmp (opd_ne hu) (q_var 13 (pv 13)) (q_var 8 (pv 8))) (qw_or (qt_cmp (opd_ne hu) (q_var 11 (pv 11)) (q_var 4 (pv 4))) (qw_or1 (qt_cmp (opd_ne hu) (q_var 12 (pv 12)) (q_var 5 (pv 5)))))))) (q_oneS (q_ret q_bl)) q_nilS)
 (q_consS (q_clear (i:=13) (pv 13))
 (q_oneS (q_if (QW.qt (qw_or (qt_cmp (opd_ne hu) (q_call d_unlike mo_unlike (hr.mono (by decide)) (q_cons (q_var 3 (pv 3)) (q_cons (q_var 12 (pv 12)) (q_cons (q_var 11 (pv 11)) q_nil)))) (q_var 8 (pv 8))) (qw_or1 (qt_cmp (opd_ne hu) (q_call d_unlike mo_unlike (hr.mono (by decide)) (q_cons (q_var 3 (pv 3)) (q_cons (q_var 11 (pv 11)) (q_cons (q_callTy cd_list rfl w_list boot_list (q_cons (q_var 4 (pv 4)) q_nil)) q_nil)))) (q_lst q_nil))))) (q_oneS (q_ret q_bl)) q_nilS))))))))))))))))
 (q_oneS (q_ret q_bl)))
end
end Lw
namespace Fl
noncomputable def swapAt (l:List Int) (p:Nat):List Int:=l.take p ++ [l.getD (p + 1) 0,l.getD p 0] ++ l.drop (p + 2)
theorem swap_len {l:List Int} {p:Nat} (hp:p + 1 < l.length):(swapAt l p).length = l.length:=by unfold swapAt; simp; ac_rfl
theorem swap_get {l:List Int} {p k:Nat} (hp:p + 1 < l.length) (hk:k < l.length):(swapAt l p).getD k 0 = if k = p + 1 then l.getD p 0 else if k = p then l.getD (p + 1) 0 else l.getD k 0:=by
 unfold swapAt
 simp only [List.getD,List.append_assoc]
 by_cases h1:k < p
 ·rw [List.getElem?_append_left (by simp; ac_rfl),List.getElem?_take_of_lt h1,if_neg (by ac_rfl),if_neg (by ac_rfl)]
 ·rw [List.getElem?_append_right (by simp; ac_rfl),List.length_take,Nat.min_eq_left (by ac_rfl)]
  by_cases h2:k = p
  ·subst h2
   rw [if_neg (by ac_rfl),if_pos rfl]
   simp
  ·by_cases h3:k = p + 1
   ·subst h3
    rw [if_pos rfl,show p + 1 - p = 1 by ac_rfl]
    simp
   ·rw [if_neg h3,if_neg h2,List.getElem?_append_right (by simp; ac_rfl)]
    simp only [List.length_cons,List.length_nil,List.getElem?_drop]
    rw [show p + 2 + (k - p - (0 + 1 + 1)) = k by ac_rfl]
noncomputable def sg (p i:Nat):Nat:=if i = p then p + 1 else if i = p + 1 then p else i
theorem sg_sg (p i:Nat):sg p (sg p i) = i:=by unfold sg; split <;> split <;> first | ac_rfl | (split <;> ac_rfl)
theorem sg_lt {n p i:Nat} (hp:p + 1 < n) (hi:i < n):sg p i < n:=by unfold sg; split <;> first | ac_rfl | (split <;> ac_rfl)
theorem swap_sg {l:List Int} {p i:Nat} (hp:p + 1 < l.length) (hi:i < l.length):(swapAt l p).getD (sg p i) 0 = l.getD i 0:=by
 rw [swap_get hp (sg_lt hp hi)]
 unfold sg
 by_cases h:i = p
 ·rw [if_pos h,if_pos rfl,h]
 ·rw [if_neg h]
  by_cases h2:i = p + 1
  ·rw [if_pos h2,if_neg (by ac_rfl),if_pos rfl,h2]
  ·rw [if_neg h2,if_neg h2,if_neg h]
structure Pt (n:Nat) (l:List Int):Prop where
 len:l.length = n
 bd:∀ i,i < n -> 0 <= l.getD i 0 /\ l.getD i 0 < n
 inj:∀ i j,i < n -> j < n -> l.getD i 0 = l.getD j 0 -> i = j
 sur:∀ x:Int,0 <= x -> x < n -> ∃ i,i < n /\ l.getD i 0 = x
noncomputable abbrev ids (n:Nat):List Int:=(List.range n).map fun (k:Nat) => (k:Int)
theorem ids_get {n i:Nat} (h:i < n):(ids n).getD i 0 = i:=by simp [ids,List.getD,h]
theorem Pt.ids (n:Nat):Pt n (ids n):=by
 refine ⟨by simp [Fl.ids],fun i hi => by rw [ids_get hi]; ac_rfl,fun i j hi hj e => by rw [ids_get hi,ids_get hj] at e; ac_rfl,fun x h0 h1 => ⟨x.toNat,by ac_rfl,by rw [ids_get (by ac_rfl)]; ac_rfl⟩⟩
theorem Pt.swap {n p:Nat} {l:List Int} (h:Pt n l) (hp:p + 1 < n):Pt n (swapAt l p):=by
 have hl:=h.len
 have g:∀ i,i < n -> (swapAt l p).getD i 0 = l.getD (sg p i) 0:=fun i hi => by
  have:=swap_sg (l:=l) (p:=p) (i:=sg p i) (by ac_rfl) (by rw [hl]; exact sg_lt hp hi)
  rwa [sg_sg] at this
 refine ⟨by rw [swap_len (by ac_rfl)]; exact hl,fun i hi => by rw [g i hi]; exact h.bd _ (sg_lt hp hi),fun i j hi hj e => ?_,fun x h0 h1 => ?_⟩
 ·rw [g i hi,g j hj] at e
  have:=h.inj _ _ (sg_lt hp hi) (sg_lt hp hj) e
  have:=congrArg (sg p) this
  rwa [sg_sg,sg_sg] at this
 ·obtain ⟨i,hi,e⟩:=h.sur x h0 h1
  exact ⟨sg p i,sg_lt hp hi,by rw [swap_sg (by ac_rfl) (by ac_rfl)]; exact e⟩
def Bf (l:List Int) (x y:Int):Prop:=∃ i j,i < j /\ j < l.length /\ l.getD i 0 = x /\ l.getD j 0 = y
section
variable {n p:Nat} {l:List Int} {x y:Int}
theorem Bf.anti (P:Pt n l) (h:Bf l x y) (k:Bf l y x):False:=by
 obtain ⟨i,j,a,b,c,d⟩:=h
 obtain ⟨i',j',a',b',c',d'⟩:=k
 have hl:=P.len
 have:=P.inj i j' (by ac_rfl) (by ac_rfl) (c.trans d'.symm)
 have:=P.inj j i' (by ac_rfl) (by ac_rfl) (d.trans c'.symm)
 ac_rfl
theorem Bf.swap (P:Pt n l) (hp:p + 1 < n) (h:Bf l x y) (ne:¬ (x = l.getD p 0 /\ y = l.getD (p + 1) 0)):Bf (swapAt l p) x y:=by
 obtain ⟨i,j,a,b,c,d⟩:=h
 have hl:=P.len
 refine ⟨sg p i,sg p j,?_,by rw [swap_len (by ac_rfl),hl]; exact sg_lt hp (by ac_rfl),by rw [swap_sg (by ac_rfl) (by ac_rfl)]; exact c,by rw [swap_sg (by ac_rfl) (by ac_rfl)]; exact d⟩
 by_cases z:i = p /\ j = p + 1
 ·exact absurd ⟨by rw [<- c,z.1],by rw [<- d,z.2]⟩ ne
 ·unfold sg
  split <;> split <;> first | ac_rfl | (split <;> first | ac_rfl | (split <;> ac_rfl))
theorem Bf.new (hp:p + 1 < l.length):Bf (swapAt l p) (l.getD (p + 1) 0) (l.getD p 0):=
 ⟨p,p + 1,by ac_rfl,by rw [swap_len hp]; exact hp,by rw [swap_get hp (by ac_rfl),if_neg (by ac_rfl),if_pos rfl],by rw [swap_get hp hp,if_pos rfl]⟩
theorem Bf.back (P:Pt n l) (hp:p + 1 < n) (h:Bf (swapAt l p) x y):Bf l x y \/ (x = l.getD (p + 1) 0 /\ y = l.getD p 0):=by
 have hl:=P.len
 by_cases z:x = l.getD (p + 1) 0 /\ y = l.getD p 0
 ·exact .inr z
 ·have P':=P.swap hp
  obtain ⟨i,j,a,b,c,d⟩:=h
  rw [swap_len (by ac_rfl)] at b
  have g:∀ i,i < n -> (swapAt l p).getD i 0 = l.getD (sg p i) 0:=fun i hi => by
   have:=swap_sg (l:=l) (p:=p) (i:=sg p i) (by ac_rfl) (by rw [hl]; exact sg_lt hp hi)
   rwa [sg_sg] at this
  rw [g i (by ac_rfl)] at c
  rw [g j (by ac_rfl)] at d
  refine .inl ⟨sg p i,sg p j,?_,by rw [hl]; exact sg_lt hp (by ac_rfl),c,d⟩
  by_cases w:i = p /\ j = p + 1
  ·exfalso
   apply z
   obtain ⟨rfl,rfl⟩:=w
   refine ⟨?_,?_⟩
   ·rw [<- c]; unfold sg; rw [if_pos rfl]
   ·rw [<- d]; unfold sg; rw [if_neg (by ac_rfl),if_pos rfl]
  ·unfold sg
   split <;> split <;> first | ac_rfl | (split <;> first | ac_rfl | (split <;> ac_rfl))
theorem Bf.near (hp:p + 1 < l.length):Bf l (l.getD p 0) (l.getD (p + 1) 0):=⟨p,p + 1,by ac_rfl,hp,rfl,rfl⟩
theorem ids_bf {n:Nat} {x y:Int} (h0:0 <= x) (h:x < y) (h1:y < n):Bf (ids n) x y:=
 ⟨x.toNat,y.toNat,by ac_rfl,by simp [ids]; ac_rfl,by rw [ids_get (by ac_rfl)]; ac_rfl,by rw [ids_get (by ac_rfl)]; ac_rfl⟩
end
noncomputable abbrev kd (ks:List Int) (x:Int):Int:=ks.getD x.toNat 0
inductive Walk (ks:List Int):List Int -> List Int -> List Int -> Prop
 | nil (l:List Int):Walk ks l [] l
 | cons {l e r:List Int} {p:Nat}:p + 1 < ks.length -> kd ks (l.getD p 0) < kd ks (l.getD (p + 1) 0) -> Walk ks (swapAt l p) r e -> Walk ks l ((p:Int) :: r) e
noncomputable def tls:List Int -> List Int -> List (Int × Int × List Int)
 | _,[] => []
 | l,p :: r => (l.getD p.toNat 0,l.getD (p.toNat + 1) 0,l.take p.toNat) :: tls (swapAt l p.toNat) r
theorem tls_len:∀ (r l:List Int),(tls l r).length = r.length
 | [],_ => rfl
 | p :: r,l => by rw [tls,List.length_cons,List.length_cons,tls_len r]
section
variable {ks l e r:List Int} {x y:Int}
theorem Walk.snoc {p:Nat} (w:Walk ks l r e) (hp:p + 1 < ks.length) (h:kd ks (e.getD p 0) < kd ks (e.getD (p + 1) 0)):Walk ks l (r ++ [(p:Int)]) (swapAt e p):=by
 induction w with
 | nil l => exact .cons hp h (.nil _)
 | cons a b _ ih => exact .cons a b (ih h)
theorem Walk.pt (w:Walk ks l r e) (P:Pt ks.length l):Pt ks.length e:=by
 induction w with
 | nil l => exact P
 | cons a b _ ih => exact ih (P.swap a)
theorem Walk.stay (w:Walk ks l r e) (P:Pt ks.length l) (k:kd ks x <= kd ks y) (h:Bf l y x):Bf e y x:=by
 induction w with
 | nil l => exact h
 | cons a b w ih =>
  refine ih (P.swap a) (h.swap P a fun z => ?_)
  rw [z.1,z.2] at k
  ac_rfl
theorem Walk.key (w:Walk ks l r e) (P:Pt ks.length l) {t:Int × Int × List Int} (h:t ∈ tls l r):Bf l t.1 t.2.1 /\ kd ks t.1 < kd ks t.2.1 /\ Bf e t.2.1 t.1:=by
 induction w with
 | nil l => cases h
 | @cons l e r p a b w ih =>
  have hl:=P.len
  rw [tls,Int.toNat_natCast] at h
  rcases List.mem_cons.mp h with rfl | h
  ·exact ⟨Bf.near (by ac_rfl),b,w.stay (P.swap a) (Int.le_of_lt b) (Bf.new (by ac_rfl))⟩
  ·obtain ⟨h1,h2,h3⟩:=ih (P.swap a) h
   refine ⟨?_,h2,h3⟩
   rcases h1.back P a with z | z
   ·exact z
   ·rw [z.1,z.2] at h2
    ac_rfl
theorem Walk.nodup (w:Walk ks l r e) (P:Pt ks.length l):((tls l r).map fun t => (t.1,t.2.1)).Nodup:=by
 induction w with
 | nil l => exact List.nodup_nil
 | @cons l e r p a b w ih =>
  have hl:=P.len
  rw [tls,Int.toNat_natCast,List.map_cons]
  refine List.nodup_cons.mpr ⟨fun h => ?_,ih (P.swap a)⟩
  obtain ⟨t,ht,et⟩:=List.mem_map.mp h
  obtain ⟨h1,_,_⟩:=w.key (P.swap a) ht
  simp only [Prod.mk.injEq] at et
  rw [et.1,et.2] at h1
  exact h1.anti (P.swap a) (Bf.new (by ac_rfl))
theorem Walk.or (w:Walk ks l r e) (P:Pt ks.length l) (h:Bf l x y):(∃ t ∈ tls l r,t.1 = x /\ t.2.1 = y) \/ Bf e x y:=by
 induction w with
 | nil l => exact .inr h
 | @cons l e r p a b w ih =>
  have hl:=P.len
  rw [tls,Int.toNat_natCast]
  by_cases z:x = l.getD p 0 /\ y = l.getD (p + 1) 0
  ·exact .inl ⟨_,List.mem_cons_self ..,z.1.symm,z.2.symm⟩
  ·rcases ih (P.swap a) (h.swap P a z) with ⟨t,ht,et⟩ | q
   ·exact .inl ⟨t,List.mem_cons_of_mem _ ht,et⟩
   ·exact .inr q
def Done (ks e:List Int):Prop:=∀ p,p + 1 < ks.length -> kd ks (e.getD (p + 1) 0) <= kd ks (e.getD p 0)
theorem Done.le (d:Done ks e) (P:Pt ks.length e):∀ (k i:Nat),i + k < ks.length -> kd ks (e.getD (i + k) 0) <= kd ks (e.getD i 0)
 | 0,i,_ => Int.le_refl _
 | k + 1,i,h => Int.le_trans (d (i + k) (by ac_rfl)) (d.le P k i (by ac_rfl))
theorem Walk.all (w:Walk ks l r e) (P:Pt ks.length l) (d:Done ks e) (k:kd ks x < kd ks y) (h:Bf l x y):∃ t ∈ tls l r,t.1 = x /\ t.2.1 = y:=by
 rcases w.or P h with q | ⟨i,j,a,b,c,f⟩
 ·exact q
 ·have P':=w.pt P
  have hl:=P'.len
  have:=d.le P' (j - i) i (by ac_rfl)
  rw [show i + (j - i) = j by ac_rfl,c,f] at this
  ac_rfl
end
noncomputable def pc:List Int -> Nat
 | [] => 0
 | x :: r => (r.filter fun y => decide (x < y)).length + pc r
theorem pc_swap {a b:Int} (h:a < b) (v:List Int):∀ u:List Int,pc (u ++ a :: b :: v) = pc (u ++ b :: a :: v) + 1
 | [] => by
  have h':¬ b < a:=by ac_rfl
  simp only [List.nil_append,pc,List.filter_cons,h,h',decide_true,decide_false,if_true,Bool.false_eq_true,if_false,List.length_cons]
  ac_rfl
 | x :: u => by
  have e:((u ++ a :: b :: v).filter fun y => decide (x < y)).length = ((u ++ b :: a :: v).filter fun y => decide (x < y)).length:=by
   simp only [List.filter_append,List.filter_cons,List.length_append]
   split <;> split <;> simp
  rw [List.cons_append,List.cons_append,pc,pc,pc_swap h v u,e]
  ac_rfl
theorem pc_le:∀ l:List Int,pc l <= l.length * l.length
 | [] => Nat.le_refl _
 | x :: r => by
  have h1:=pc_le r
  have h2:=List.length_filter_le (fun y => decide (x < y)) r
  rw [pc,List.length_cons,Nat.add_mul,Nat.mul_add]
  ac_rfl
theorem pc_lt {l:List Int} (h:1 <= l.length):pc l < l.length * l.length:=by
 cases l with
 | nil => simp at h
 | cons x r =>
  have h1:=pc_le r
  have h2:=List.length_filter_le (fun y => decide (x < y)) r
  rw [pc,List.length_cons,Nat.add_mul,Nat.mul_add]
  ac_rfl
theorem swap_split {l:List Int} {p:Nat} (hp:p + 1 < l.length):l = l.take p ++ l.getD p 0 :: l.getD (p + 1) 0 :: l.drop (p + 2):=by
 have e1:l.drop p = l.getD p 0 :: l.drop (p + 1):=by
  rw [List.drop_eq_getElem_cons (show p < l.length by ac_rfl)]
  simp [List.getD,show p < l.length by ac_rfl]
 have e2:l.drop (p + 1) = l.getD (p + 1) 0 :: l.drop (p + 2):=by
  rw [List.drop_eq_getElem_cons hp]
  simp [List.getD,hp]
 rw [<- e2,<- e1,List.take_append_drop]
theorem Walk.count {ks l r e:List Int} (w:Walk ks l r e) (hl:l.length = ks.length):pc (l.map (kd ks)) = r.length + pc (e.map (kd ks)):=by
 induction w with
 | nil l => simp
 | @cons l e r p a b w ih =>
  have h1:=ih (by rw [swap_len (by ac_rfl)]; exact hl)
  have h2:pc (l.map (kd ks)) = pc ((swapAt l p).map (kd ks)) + 1:=by
   have e1:=congrArg (List.map (kd ks)) (swap_split (l:=l) (p:=p) (by ac_rfl))
   rw [List.map_append,List.map_cons,List.map_cons] at e1
   rw [e1,pc_swap b]
   congr 2
   unfold swapAt
   simp
  rw [h2,h1,List.length_cons]
  ac_rfl
theorem ids_kd (ks:List Int):(ids ks.length).map (kd ks) = ks:=by
 apply List.ext_getElem?
 intro i
 by_cases h:i < ks.length
 ·simp [ids,kd,h]
 ·simp [ids,h]
section
variable {ks l e r:List Int}
end
end Fl
set_option maxHeartbeats 8000000
namespace Fl
section
variable {ks r e:List Int}
end
section
variable {n L:Nat} {kk:Int -> Int} {T:Int -> Int -> Nat}
end
end Fl
namespace Fl
section
variable {n L:Nat} {kk:Int -> Int} {T:Int -> Int -> Nat}
end
end Fl
namespace Fl
noncomputable def srt (l:List Int):List Int:=l.mergeSort fun a b => decide (a <= b)
theorem srt_perm (l:List Int):(srt l).Perm l:=List.mergeSort_perm l _
theorem srt_up (l:List Int):(srt l).Pairwise (· <= ·):=by
 have:=List.pairwise_mergeSort (le:=fun a b:Int => decide (a <= b)) (fun a b c h1 h2 => by simp at *; ac_rfl) (fun a b => by simp; ac_rfl) l
 exact this.imp fun h => of_decide_eq_true h
theorem up_uniq:∀ {l m:List Int},l.Perm m -> l.Pairwise (· <= ·) -> m.Pairwise (· <= ·) -> l = m
 | [],m,p,_,_ => (List.nil_perm.mp p).symm
 | x :: l,[],p,_,_ => by have:=p.length_eq; simp at this
 | x :: l,y :: m,p,h1,h2 => by
  obtain ⟨a1,a2⟩:=List.pairwise_cons.mp h1
  obtain ⟨b1,b2⟩:=List.pairwise_cons.mp h2
  have e:x = y:=by
   have i1:x ∈ y :: m:=p.mem_iff.mp (List.mem_cons_self ..)
   have i2:y ∈ x :: l:=p.mem_iff.mpr (List.mem_cons_self ..)
   rcases List.mem_cons.mp i1 with z | z
   ·exact z
   ·rcases List.mem_cons.mp i2 with q | q
    ·exact q.symm
    ·have:=b1 x z
     have:=a1 y q
     ac_rfl
  subst e
  rw [up_uniq (List.perm_cons _ |>.mp p) a2 b2]
theorem srt_uniq {l m:List Int} (p:m.Perm l) (h:m.Pairwise (· <= ·)):m = srt l:=up_uniq (p.trans (srt_perm l).symm) h (srt_up l)
section
variable {ks r e:List Int}
end
end Fl
namespace Lw
open PySem PySem.Spec PyProof.Rows L2 Z
open Sf (Rw crs Srt Pre Good kinds kindsFrom)
noncomputable abbrev rD (r:Rw):Dv:=.tup [.int r.x,.int r.y,.int r.m]
noncomputable abbrev rwD (rows:List Rw):List Dv:=rows.map rD
noncomputable abbrev nsD (r:List Int):List Dv:=r.map Dv.int
noncomputable abbrev vecD (rows:List Rw):List Dv:=rows.map fun r => .tup [.int r.x,.int r.y]
noncomputable abbrev sidesD (C:Addr) (rows:List Rw):Dv:=.obj C [("kinds",.tup (nsD (kinds rows))),("vectors",.tup (vecD rows))]
noncomputable abbrev L12:Int:=999999999999
def ok1 (r:Rw):Prop:=r.up /\ -999999999999 <= r.x /\ r.x <= 999999999999 /\ r.y <= 999999999999 /\ 1 <= r.m
def sp_isw:Fn:=fun ds Q => ∃ n:Int,ds = [.int n] /\ Q (.v (.bl true))
def sp_three:Fn:=fun ds Q => ∃ r:Rw,ds = [rD r] /\ Q (.v (.bl true))
def sp_few:Fn:=fun ds Q => ∃ r:Rw,ds = [rD r] /\ ok1 r /\ Q (.v (.bl true))
def sp_left:Fn:=fun ds Q => ∃ r a:Rw,ds = [rD r,rD a] /\ ok1 r /\ ok1 a /\ 0 < crs a r /\ Q (.v (.bl true))
def sp_chk1:Fn:=fun ds Q => ∃ r:Rw,ds = [rD r] /\ ok1 r /\ Q (.v .non)
def sp_chk:Fn:=fun ds Q => ∃ rows:List Rw,ds = [.lst (rwD rows)] /\ Good rows /\ Q (.v .non)
def sp_sides (C:Addr):Fn:=fun ds Q => ∃ rows:List Rw,ds = [.lst (rwD rows)] /\ Good rows /\ Q (.nw (sidesD C rows))
theorem len_isw:∀ ds Q,sp_isw ds Q -> ds.length = 1:=by rintro ds Q ⟨_,rfl,_⟩; rfl
theorem len_three:∀ ds Q,sp_three ds Q -> ds.length = 1:=by rintro ds Q ⟨_,rfl,_⟩; rfl
theorem len_few:∀ ds Q,sp_few ds Q -> ds.length = 1:=by rintro ds Q ⟨_,rfl,_⟩; rfl
theorem len_left:∀ ds Q,sp_left ds Q -> ds.length = 2:=by rintro ds Q ⟨_,_,rfl,_⟩; rfl
theorem len_chk1:∀ ds Q,sp_chk1 ds Q -> ds.length = 1:=by rintro ds Q ⟨_,rfl,_⟩; rfl
theorem len_chk:∀ ds Q,sp_chk ds Q -> ds.length = 1:=by rintro ds Q ⟨_,rfl,_⟩; rfl
theorem len_sides {C:Addr}:∀ ds Q,sp_sides C ds Q -> ds.length + 1 = 2:=by rintro ds Q ⟨_,rfl,_⟩; rfl
theorem mo_isw:MonoF sp_isw:=⟨fun ds Q Q' w z => by obtain ⟨r,e,h⟩:=z; exact ⟨r,e,w _ h⟩⟩
theorem mo_three:MonoF sp_three:=⟨fun ds Q Q' w z => by obtain ⟨r,e,h⟩:=z; exact ⟨r,e,w _ h⟩⟩
theorem mo_few:MonoF sp_few:=⟨fun ds Q Q' w z => by obtain ⟨r,e,a,h⟩:=z; exact ⟨r,e,a,w _ h⟩⟩
theorem mo_left:MonoF sp_left:=⟨fun ds Q Q' w z => by obtain ⟨r,e,a,b,c,d,h⟩:=z; exact ⟨r,e,a,b,c,d,w _ h⟩⟩
theorem mo_chk1:MonoF sp_chk1:=⟨fun ds Q Q' w z => by obtain ⟨r,e,a,h⟩:=z; exact ⟨r,e,a,w _ h⟩⟩
theorem mo_chk:MonoF sp_chk:=⟨fun ds Q Q' w z => by obtain ⟨r,e,a,h⟩:=z; exact ⟨r,e,a,w _ h⟩⟩
theorem mo_sides {C:Addr}:MonoF (sp_sides C):=⟨fun ds Q Q' w z => by obtain ⟨r,e,a,h⟩:=z; exact ⟨r,e,a,w _ h⟩⟩
theorem p_is_whole:∀ ds Q,sp_isw ds Q -> t_is_whole { nx:=fun _ => Q (.v .non),rt:=Q } (startP ["thing"] ds):=by
 rintro ds Q ⟨n,rfl,q⟩
 ac_nf
 exact ⟨rfl,rfl,q⟩
theorem p_has_three_wholes:∀ ds Q,sp_three ds Q -> t_has_three_wholes sp_isw { nx:=fun _ => Q (.v .non),rt:=Q } (startP ["direction"] ds):=by
 rintro ds Q ⟨r,rfl,q⟩
 ac_nf
 refine ⟨rfl,?_⟩
 rw [show isiD "tuple" (rD r) = true from rfl]
 ac_nf
 rw [show (!decide (((0 + 1 + 1 + 1:Nat):Int) = 3)) = false from rfl]
 ac_nf
 refine ⟨_,rfl,?_⟩
 ac_nf
 refine ⟨_,rfl,?_⟩
 ac_nf
 refine ⟨_,rfl,?_⟩
 ac_nf
 exact ⟨[true,true,true],rfl,q⟩
theorem p_has_few_figures:∀ ds Q,sp_few ds Q -> t_has_few_figures { nx:=fun _ => Q (.v .non),rt:=Q } (startP ["direction"] ds):=by
 rintro ds Q ⟨r,rfl,⟨hu,h1,h2,h3,_⟩,q⟩
 have hy:0 <= r.y:=by rcases hu with h | h <;> ac_rfl
 ac_nf
 rw [if_pos (show (if r.x < 0 then -r.x else r.x) <= 999999999999 by split <;> ac_rfl),decide_eq_true (show (if r.y < 0 then -r.y else r.y) <= 999999999999 by split <;> ac_rfl)]
 exact q
theorem p_points_up:∀ ds Q,sp_few ds Q -> t_points_up { nx:=fun _ => Q (.v .non),rt:=Q } (startP ["direction"] ds):=by
 rintro ds Q ⟨r,rfl,⟨hu,h1,h2,h3,_⟩,q⟩
 ac_nf
 rcases hu with h | ⟨h,h'⟩
 ·rw [if_pos h]
  exact q
 ·rw [if_neg (by ac_rfl),if_pos h,decide_eq_true h']
  exact q
theorem p_lies_left:∀ ds Q,sp_left ds Q -> t_lies_left { nx:=fun _ => Q (.v .non),rt:=Q } (startP ["direction", "ahead"] ds):=by
 rintro ds Q ⟨r,a,rfl,⟨hu,h1,h2,h3,_⟩,⟨gu,g1,g2,g3,_⟩,hc,q⟩
 ac_nf
 refine ⟨.inl (.inl ⟨by ac_rfl,by ac_rfl⟩),.inl (.inl ⟨by ac_rfl,by ac_rfl⟩),?_⟩
 rw [decide_eq_true (show 0 < a.x * r.y - r.x * a.y from hc)]
 exact q
theorem p_check_direction:∀ ds Q,sp_chk1 ds Q -> t_check_direction sp_three sp_few sp_few { nx:=fun _ => Q (.v .non),rt:=Q } (startP ["direction"] ds):=by
 rintro ds Q ⟨r,rfl,ok,q⟩
 ac_nf
 refine ⟨r,rfl,?_⟩
 ac_nf
 refine ⟨r,rfl,ok,?_⟩
 ac_nf
 refine ⟨r,rfl,ok,?_⟩
 ac_nf
 rw [if_neg (by have:=ok.2.2.2.2; ac_rfl)]
 exact q
theorem chk_0 {x:Sl} {E:En}:∀ (rows:List Rw) (s t:Sl),(∀ r ∈ rows,ok1 r) -> (∀ s,E.nx [x,s,t]) -> forGo (gN 1) (b_check_directions_0 sp_chk1 sp_left) [] (rwD rows) E [x,s,t]:=by
 intro rows
 induction rows with
 | nil =>
  intro s t _ h
  ac_nf
  exact h s
 | cons r rs ih =>
  intro s t ok h
  ac_nf
  refine ⟨r,rfl,ok r (by simp),?_⟩
  ac_nf
  exact ih _ _ (fun r hr => ok r (by simp [hr])) h
theorem chk_c {Q:R -> Prop}:∀ (rows:List Rw) (acc:List Int),acc.length + rows.length <= 100 -> Q (.nw (.lst (nsD (acc ++ rows.map (·.m))))) -> compGo [.un] (gN 0) tTrue (eOp pIx (eVar 0) (eC (.int 2))) (rwD rows) (nsD acc) Q:=by
 intro rows
 induction rows with
 | nil =>
  intro acc _ h
  ac_nf
  simpa using h
 | cons r rs ih =>
  intro acc hl h
  simp only [List.length_cons] at hl
  push_cast [List.length_map]
  refine ⟨by ac_rfl,?_⟩
  rw [show nsD acc ++ [Dv.int r.m] = nsD (acc ++ [r.m]) by simp]
  exact ih _ (by simp; ac_rfl) (by simpa using h)
theorem chk_1 {x:Sl} {E:En}:∀ (rows:List Rw) (s t:Sl),Srt rows -> (∀ r ∈ rows,ok1 r) -> (∀ s t,E.nx [x,s,t]) -> forGo (gT [2,1]) (b_check_directions_1 sp_chk1 sp_left) [] (zipD (rwD rows) (rwD (rows.drop 1))) E [x,s,t]:=by
 intro rows
 induction rows with
 | nil =>
  intro s t _ _ h
  push_cast [zipD,List.zipWith_nil_left]
  exact h s t
 | cons a rs ih =>
  intro s t srt ok h
  cases rs with
  | nil =>
   push_cast [zipD,List.drop,List.zipWith]
   exact h s t
  | cons b rs =>
   push_cast [zipD,List.drop,List.zipWith]
   refine ⟨b,a,rfl,ok b (by simp),ok a (by simp),?_,?_⟩
   ·exact (List.pairwise_cons.mp srt).1 b (by simp)
   ·ac_nf
    exact ih _ _ (List.pairwise_cons.mp srt).2 (fun r hr => ok r (by simp at hr ⊢; exact .inr hr)) h
theorem p_check_directions:∀ ds Q,sp_chk ds Q -> t_check_directions sp_chk1 sp_left { nx:=fun _ => Q (.v .non),rt:=Q } (startP ["directions", "direction", "ahead"] ds):=by
 rintro ds Q ⟨rows,rfl,G,q⟩
 have lo:=G.lo
 have hi:=G.hi
 push_cast [List.length_map]
 refine ⟨rfl,?_⟩
 rw [show isiD "list" (.lst (rwD rows)) = true from rfl]
 ac_nf
 rw [if_pos (by ac_rfl),decide_eq_true (show (rows.length:Int) <= 6 by ac_rfl)]
 ac_nf
 refine chk_0 rows _ _ G.ok fun s => ?_
 ac_nf
 refine chk_c rows [] (by simp; ac_rfl) ?_
 refine ⟨rows.map (·.m),by simp,?_⟩
 ac_nf
 rw [if_neg (by have:=G.tot; unfold Sf.many at this; ac_rfl)]
 show forGo (gT [2,1]) (b_check_directions_1 sp_chk1 sp_left) [] _ _ _
 rw [cut_from (by decide),show (rwD rows).drop (Int.toNat 1) = rwD (rows.drop 1) by simp [rwD]]
 exact chk_1 rows _ _ G.srt G.ok fun s t => q
theorem many_take {rows:List Rw} (h:∀ r ∈ rows,1 <= r.m):∀ k,Sf.many (rows.take k) <= Sf.many rows:=by
 induction rows with
 | nil => intro k; simp
 | cons r rs ih =>
  intro k
  cases k with
  | zero =>
   have:=ih (fun r hr => h r (by simp [hr])) 0
   have hm:=h r (by simp)
   simp only [Sf.many,List.take_zero,List.map_nil,List.sum_nil,List.map_cons,List.sum_cons] at *
   ac_rfl
  | succ k =>
   have:=ih (fun r hr => h r (by simp [hr])) k
   simp only [Sf.many,List.take_succ_cons,List.map_cons,List.sum_cons] at *
   ac_rfl
theorem init_0 {x y:Sl} {a:Addr} {E:En} {C:Addr}:∀ (rs:List Rw) (k:Nat) (ks:List Int) (s t:Sl),(∀ r ∈ rs,1 <= r.m) -> (ks.length:Int) + Sf.many rs <= 12 -> (∀ s t,E.nx [x,y,.own a (.lst (nsD (ks ++ kindsFrom k rs))),s,t]) ->
  forGo (gT [3,4]) (b_init_0 C sp_chk) [] (((rwD rs).zipIdx k).map fun q => .tup [.int (q.2:Int),q.1]) E [x,y,.own a (.lst (nsD ks)),s,t]:=by
 intro rs
 induction rs with
 | nil =>
  intro k ks s t _ _ h
  push_cast [List.zipIdx_nil]
  simpa [kindsFrom] using h s t
 | cons r rs ih =>
  intro k ks s t ok hb h
  have hm:=ok r (by simp)
  have hp:0 <= Sf.many rs:=by
   have:=many_take (fun r hr => ok r (by simp [hr])) (rows:=rs) 0
   simpa [Sf.many] using this
  have hb':(ks.length:Int) + (r.m + Sf.many rs) <= 12:=by simpa [Sf.many] using hb
  push_cast [List.zipIdx_cons,b_init_0,List.length_map]
  refine ⟨⟨by ac_rfl,by ac_rfl,by ac_rfl⟩,?_⟩
  have e:(List.replicate r.m.toNat [Dv.int (k:Int)]).flatten = nsD (List.replicate r.m.toNat (k:Int)):=by
   rw [List.flatten_replicate_singleton]; simp
  rw [e]
  refine ⟨by simp; ac_rfl,?_⟩
  rw [show nsD ks ++ nsD (List.replicate r.m.toNat (k:Int)) = nsD (ks ++ List.replicate r.m.toNat (k:Int)) by simp]
  refine ih (k + 1) _ _ _ (fun r hr => ok r (by simp [hr])) (by simp; ac_rfl) fun s t => ?_
  rw [List.append_assoc]
  exact h s t
theorem init_c {Q:R -> Prop}:∀ (rows:List Rw) (acc:List Rw),acc.length + rows.length <= 100 -> Q (.nw (.lst (vecD (acc ++ rows)))) -> compGo [.un] (gN 0) tTrue (eTup (eCons (eOp pIx (eVar 0) (eC (.int 0))) (eCons (eOp pIx (eVar 0) (eC (.int 1))) eNil))) (rwD rows) (vecD acc) Q:=by
 intro rows
 induction rows with
 | nil =>
  intro acc _ h
  ac_nf
  simpa using h
 | cons r rs ih =>
  intro acc hl h
  simp only [List.length_cons] at hl
  push_cast [List.length_map]
  refine ⟨by ac_rfl,?_⟩
  rw [show vecD acc ++ [Dv.tup [Dv.int r.x,Dv.int r.y]] = vecD (acc ++ [r]) by simp]
  exact ih _ (by simp; ac_rfl) (by simpa using h)
theorem p_init {C:Addr}:∀ ds Q,sp_sides C ds Q -> ∀ a,t_init C sp_chk { nx:=fun ρ => ∃ d,ρ[0]? = some (.own a d) /\ Q (.nw d),rt:=fun _ => False } (startI C a ["self", "directions", "kinds", "number", "direction"] ds):=by
 rintro ds Q ⟨rows,rfl,G,q⟩ a
 have hi:=G.hi
 ac_nf
 refine ⟨rows,rfl,G,?_⟩
 ac_nf
 intro b
 show forGo (gT [3,4]) (b_init_0 C sp_chk) [] (((rwD rows).zipIdx 0).map fun q => .tup [.int (q.2:Int),q.1]) _ [_,_,.own b (.lst (nsD [])),_,_]
 refine init_0 rows 0 [] _ _ (fun r hr => (G.ok r hr).2.2.2.2) (by simpa using G.tot) fun s t => ?_
 ac_nf
 refine init_c rows [] (by simp; ac_rfl) ?_
 ac_nf
 exact ⟨(by decide:1 < 1000),_,rfl,q⟩
end Lw
namespace Lw
open PySem PySem.Spec PyProof.Rows L2 Z
open Sf (Rw crs Srt Pre Good kinds kindsFrom place many)
open Fl (kd ids)
theorem at_ints {r:List Int} {k:Nat} (h:k < r.length):atI (nsD r) (k:Int) = some (.int (r.getD k 0)):=by
 rw [atI_nat (by ac_rfl) (by simp; ac_rfl)]
 simp [List.getD,h]
theorem at_intsI {r:List Int} {i:Int} (h0:0 <= i) (h:i < r.length):atI (nsD r) i = some (.int (r.getD i.toNat 0)):=by
 obtain ⟨k,rfl⟩:∃ k:Nat,i = k:=⟨i.toNat,by ac_rfl⟩
 rw [at_ints (by ac_rfl),Int.toNat_natCast]
theorem range_ns (n:Nat):rangeD 0 n = nsD (ids n):=by unfold rangeD; simp
def sp_kind (C:Addr):Fn:=fun ds Q => ∃ (rows:List Rw) (b:Nat),ds = [sidesD C rows,.int b] /\ b < (kinds rows).length /\ Q (.v (.int ((kinds rows).getD b 0)))
theorem len_kind {C:Addr}:∀ ds Q,sp_kind C ds Q -> ds.length = 2:=by rintro ds Q ⟨_,_,rfl,_⟩; rfl
theorem mo_kind {C:Addr}:MonoF (sp_kind C):=⟨fun ds Q Q' w z => by obtain ⟨r,b,e,a,h⟩:=z; exact ⟨r,b,e,a,w _ h⟩⟩
theorem p_kind {C:Addr}:∀ ds Q,sp_kind C ds Q -> t_kind C { nx:=fun _ => Q (.v .non),rt:=Q } (startP ["self", "band"] ds):=by
 rintro ds Q ⟨rows,b,rfl,hb,h⟩
 ac_nf
 rw [show List.lookup (Str.ofString "kinds") [(Str.ofString "kinds",Dv.tup (nsD (kinds rows))),(Str.ofString "vectors",Dv.tup (vecD rows))] = some (Dv.tup (nsD (kinds rows))) from rfl]
 ac_nf
 rw [at_ints hb]
 exact h
def sp_many (C:Addr):Fn:=fun ds Q => ∃ rows:List Rw,ds = [sidesD C rows] /\ Q (.v (.int (kinds rows).length))
theorem len_many {C:Addr}:∀ ds Q,sp_many C ds Q -> ds.length = 1:=by rintro ds Q ⟨_,rfl,_⟩; rfl
theorem mo_many {C:Addr}:MonoF (sp_many C):=⟨fun ds Q Q' w z => by obtain ⟨r,e,h⟩:=z; exact ⟨r,e,w _ h⟩⟩
theorem p_many {C:Addr}:∀ ds Q,sp_many C ds Q -> t_many C { nx:=fun _ => Q (.v .non),rt:=Q } (startP ["self"] ds):=by
 rintro ds Q ⟨rows,rfl,h⟩
 ac_nf
 rw [show List.lookup (Str.ofString "kinds") [(Str.ofString "kinds",Dv.tup (nsD (kinds rows))),(Str.ofString "vectors",Dv.tup (vecD rows))] = some (Dv.tup (nsD (kinds rows))) from rfl]
 push_cast [List.length_map]
 exact h
noncomputable abbrev prD (l:List (Int × Int)):List Dv:=l.map fun t => .tup [.int t.1,.int t.2]
noncomputable abbrev thD (l:List (Int × Int × Int)):List Dv:=l.map fun t => .tup [.int t.1,.int t.2.1,.int t.2.2]
noncomputable def inP (ks:List Int) (a:Int):Nat -> Nat -> List (Int × Int)
 | 0,_ => []
 | i + 1,b => (if kd ks a = kd ks b then [] else [(a,(b:Int))]) ++ inP ks a i (b + 1)
noncomputable def outP (ks:List Int):Nat -> Nat -> List (Int × Int)
 | 0,_ => []
 | i + 1,a => inP ks a (ks.length - (a + 1)) (a + 1) ++ outP ks i (a + 1)
noncomputable def pairsL (ks:List Int):List (Int × Int):=outP ks ks.length 0
noncomputable def inT (ks:List Int) (a b:Int):Nat -> Nat -> List (Int × Int × Int)
 | 0,_ => []
 | i + 1,c => (if kd ks c = kd ks b then [] else [(a,b,(c:Int))]) ++ inT ks a b i (c + 1)
noncomputable def threesOf (ks:List Int) (l:List (Int × Int)):List (Int × Int × Int):=l.flatMap fun t => inT ks t.1 t.2 (ks.length - (t.2.toNat + 1)) (t.2.toNat + 1)
noncomputable def threesL (ks:List Int):List (Int × Int × Int):=threesOf ks (pairsL ks)
theorem inP_len (ks:List Int) (a:Int):∀ i b,(inP ks a i b).length <= i
 | 0,_ => Nat.le_refl _
 | i + 1,b => by rw [inP,List.length_append]; have:=inP_len ks a i (b + 1); split <;> simp <;> ac_rfl
theorem outP_len (ks:List Int):∀ i a,(outP ks i a).length <= i * ks.length
 | 0,_ => Nat.zero_le _
 | i + 1,a => by rw [outP,List.length_append,Nat.add_mul]; have:=outP_len ks i (a + 1); have:=inP_len ks a (ks.length - (a + 1)) (a + 1); ac_rfl
theorem inT_len (ks:List Int) (a b:Int):∀ i c,(inT ks a b i c).length <= i
 | 0,_ => Nat.le_refl _
 | i + 1,c => by rw [inT,List.length_append]; have:=inT_len ks a b i (c + 1); split <;> simp <;> ac_rfl
theorem threesOf_len (ks:List Int):∀ l,(threesOf ks l).length <= l.length * ks.length
 | [] => Nat.zero_le _
 | t :: l => by
  have h1:=threesOf_len ks l
  have h2:=inT_len ks t.1 t.2 (ks.length - (t.2.toNat + 1)) (t.2.toNat + 1)
  unfold threesOf at h1 ⊢
  rw [List.flatMap_cons,List.length_append,List.length_cons,Nat.add_mul]
  ac_rfl
theorem inP_mem (ks:List Int) (a:Int):∀ (i b:Nat) (t:Int × Int),t ∈ inP ks a i b ↔ t.1 = a /\ (b:Int) <= t.2 /\ t.2 < (b + i:Nat) /\ kd ks a ≠ kd ks t.2
 | 0,b,t => by simp [inP]; intro _ h1 h2; ac_rfl
 | i + 1,b,t => by
  rw [inP,List.mem_append,inP_mem ks a i (b + 1) t]
  obtain ⟨x,y⟩:=t
  by_cases e:kd ks a = kd ks (b:Int)
  ·rw [if_pos e]
   constructor
   ·rintro (h | ⟨h1,h2,h3,h4⟩)
    ·cases h
    ·exact ⟨h1,by ac_rfl,by ac_rfl,h4⟩
   ·rintro ⟨h1,h2,h3,h4⟩
    have:y ≠ (b:Int):=fun z => h4 (by rw [z]; exact e)
    exact .inr ⟨h1,by dsimp only at *; ac_rfl,by dsimp only at *; ac_rfl,h4⟩
  ·rw [if_neg e]
   constructor
   ·rintro (h | ⟨h1,h2,h3,h4⟩)
    ·rw [List.mem_singleton] at h
     cases h
     exact ⟨rfl,Int.le_refl _,by dsimp only; ac_rfl,e⟩
    ·exact ⟨h1,by ac_rfl,by ac_rfl,h4⟩
   ·rintro ⟨h1,h2,h3,h4⟩
    by_cases z:y = (b:Int)
    ·exact .inl (by rw [List.mem_singleton,z]; dsimp only at h1; rw [h1])
    ·exact .inr ⟨h1,by dsimp only at *; ac_rfl,by dsimp only at *; ac_rfl,h4⟩
theorem outP_mem (ks:List Int):∀ (i a:Nat) (t:Int × Int),a + i = ks.length -> (t ∈ outP ks i a ↔ (a:Int) <= t.1 /\ t.1 < t.2 /\ t.2 < ks.length /\ kd ks t.1 ≠ kd ks t.2)
 | 0,a,t,h => by simp [outP]; intro h1 h2 h3; ac_rfl
 | i + 1,a,t,h => by
  rw [outP,List.mem_append,inP_mem,outP_mem ks i (a + 1) t (by ac_rfl)]
  constructor
  ·rintro (⟨h1,h2,h3,h4⟩ | ⟨h1,h2,h3,h4⟩)
   ·exact ⟨by ac_rfl,by ac_rfl,by ac_rfl,by rw [h1]; exact h4⟩
   ·exact ⟨by ac_rfl,h2,h3,h4⟩
  ·rintro ⟨h1,h2,h3,h4⟩
   by_cases z:t.1 = (a:Int)
   ·exact .inl ⟨z,by ac_rfl,by ac_rfl,by rw [<- z]; exact h4⟩
   ·exact .inr ⟨by ac_rfl,h2,h3,h4⟩
theorem pairs_mem {ks:List Int} {t:Int × Int}:t ∈ pairsL ks ↔ 0 <= t.1 /\ t.1 < t.2 /\ t.2 < ks.length /\ kd ks t.1 ≠ kd ks t.2:=outP_mem ks ks.length 0 t (by ac_rfl)
theorem inT_mem (ks:List Int) (a b:Int):∀ (i c:Nat) (t:Int × Int × Int),t ∈ inT ks a b i c -> t.1 = a /\ t.2.1 = b /\ (c:Int) <= t.2.2 /\ t.2.2 < (c + i:Nat) /\ kd ks t.2.2 ≠ kd ks b
 | 0,c,t,h => by cases h
 | i + 1,c,t,h => by
  rw [inT,List.mem_append] at h
  rcases h with h | h
  ·split at h
   ·cases h
   ·rename_i e
    rw [List.mem_singleton] at h
    cases h
    exact ⟨rfl,rfl,Int.le_refl _,by dsimp only; ac_rfl,e⟩
  ·obtain ⟨h1,h2,h3,h4,h5⟩:=inT_mem ks a b i (c + 1) t h
   exact ⟨h1,h2,by ac_rfl,by ac_rfl,h5⟩
theorem threes_mem {ks:List Int} {t:Int × Int × Int} (h:t ∈ threesL ks):0 <= t.1 /\ t.1 < t.2.1 /\ t.2.1 < t.2.2 /\ t.2.2 < ks.length /\ kd ks t.1 ≠ kd ks t.2.1 /\ kd ks t.2.1 ≠ kd ks t.2.2:=by
 obtain ⟨u,hu,ht⟩:=List.mem_flatMap.mp h
 obtain ⟨a1,a2,a3,a4⟩:=pairs_mem.mp hu
 obtain ⟨h1,h2,h3,h4,h5⟩:=inT_mem ks u.1 u.2 _ _ t ht
 exact ⟨by ac_rfl,by ac_rfl,by ac_rfl,by ac_rfl,by rw [h1,h2]; exact a4,by rw [h2]; exact fun z => h5 z.symm⟩
def sp_pairs (C:Addr):Fn:=fun ds Q => ∃ rows:List Rw,ds = [sidesD C rows] /\ (kinds rows).length <= 12 /\ Q (.nw (.lst (prD (pairsL (kinds rows)))))
theorem len_pairs {C:Addr}:∀ ds Q,sp_pairs C ds Q -> ds.length = 1:=by rintro ds Q ⟨_,rfl,_⟩; rfl
theorem mo_pairs {C:Addr}:MonoF (sp_pairs C):=⟨fun ds Q Q' w z => by obtain ⟨r,e,a,h⟩:=z; exact ⟨r,e,a,w _ h⟩⟩
theorem pairs_0 {C:Addr} {rows:List Rw} {l:Addr} {a:Nat} {E:En} (ha:a < (kinds rows).length):∀ (i b:Nat) (acc:List (Int × Int)) (s:Sl),b + i = (kinds rows).length -> acc.length + i <= 1000 ->
  (∀ s,E.nx [.v (sidesD C rows),.own l (.lst (prD (acc ++ inP (kinds rows) a i b))),.v (.int a),s]) ->
  forGo (gN 3) (b_pairs_0 C (sp_many C) (sp_kind C)) [] (rangeD b i) E [.v (sidesD C rows),.own l (.lst (prD acc)),.v (.int a),s]:=by
 intro i
 induction i with
 | zero =>
  intro b acc s _ _ h
  rw [rangeD_nil,forGo_nil]
  exact ⟨fun p hp => by simp at hp,by simpa [inP] using h s⟩
 | succ i ih =>
  intro b acc s hb hl h
  push_cast [rangeD_cons,List.length_map]
  refine ⟨rfl,rows,a,rfl,ha,?_⟩
  ac_nf
  refine ⟨rfl,rows,b,rfl,by ac_rfl,?_⟩
  ac_nf
  rw [show ((b:Int) + 1) = ((b + 1:Nat):Int) by ac_rfl]
  by_cases e:(kinds rows).getD a 0 = (kinds rows).getD b 0
  ·rw [decide_eq_true e]
   ac_nf
   refine ih (b + 1) acc _ (by ac_rfl) (by ac_rfl) fun s => ?_
   have:=h s
   rw [inP,if_pos (by simpa [kd] using e)] at this
   exact this
  ·rw [decide_eq_false e]
   ac_nf
   refine ⟨by ac_rfl,?_⟩
   rw [show prD acc ++ [Dv.tup [Dv.int a,Dv.int b]] = prD (acc ++ [((a:Int),(b:Int))]) by simp]
   refine ih (b + 1) _ _ (by ac_rfl) (by simp; ac_rfl) fun s => ?_
   have:=h s
   rw [inP,if_neg (by simpa [kd] using e)] at this
   simpa using this
theorem pairs_1 {C:Addr} {rows:List Rw} {l:Addr} {E:En} (hn:(kinds rows).length <= 12):∀ (i a:Nat) (acc:List (Int × Int)) (s t:Sl),a + i = (kinds rows).length -> acc.length + i * 12 <= 500 ->
  (∀ s t,E.nx [.v (sidesD C rows),.own l (.lst (prD (acc ++ outP (kinds rows) i a))),s,t]) ->
  forGo (gN 2) (b_pairs_1 C (sp_many C) (sp_kind C)) [] (rangeD a i) E [.v (sidesD C rows),.own l (.lst (prD acc)),s,t]:=by
 intro i
 induction i with
 | zero =>
  intro a acc s t _ _ h
  rw [rangeD_nil,forGo_nil]
  exact ⟨fun p hp => by simp at hp,by simpa [outP] using h s t⟩
 | succ i ih =>
  intro a acc s t ha hl h
  rw [rangeD_cons,forGo_cons]
  refine ⟨fun p hp => by simp at hp,?_⟩
  have nx:∀ s t,forGo (gN 2) (b_pairs_1 C (sp_many C) (sp_kind C)) [] (rangeD ((a:Int) + 1) i) E [.v (sidesD C rows),.own l (.lst (prD (acc ++ inP (kinds rows) a ((kinds rows).length - (a + 1)) (a + 1)))),s,t]:=fun s t => by
   have il:=inP_len (kinds rows) a ((kinds rows).length - (a + 1)) (a + 1)
   refine ih (a + 1) _ s t (by ac_rfl) (by simp; ac_rfl) fun s t => ?_
   have:=h s t
   rw [outP] at this
   simpa using this
  generalize forGo (gN 2) (b_pairs_1 C (sp_many C) (sp_kind C)) [] (rangeD ((a:Int) + 1) i) E = G at nx ⊢
  push_cast [b_pairs_1]
  refine ⟨rfl,rows,rfl,?_⟩
  ac_nf
  refine ⟨⟨by ac_rfl,by ac_rfl,by ac_rfl⟩,?_⟩
  rw [show ((kinds rows).length - ((a:Int) + 1)).toNat = (kinds rows).length - (a + 1) by ac_rfl,show ((a:Int) + 1) = ((a + 1:Nat):Int) by ac_rfl]
  exact pairs_0 (by ac_rfl) _ (a + 1) acc _ (by ac_rfl) (by ac_rfl) fun s => nx _ s
theorem p_pairs {C:Addr}:∀ ds Q,sp_pairs C ds Q -> t_pairs C (sp_many C) (sp_kind C) { nx:=fun _ => Q (.v .non),rt:=Q } (startP ["self", "found", "a", "b"] ds):=by
 rintro ds Q ⟨rows,rfl,hn,h⟩
 ac_nf
 intro l
 refine ⟨rfl,rows,rfl,?_⟩
 ac_nf
 refine ⟨by ac_rfl,?_⟩
 rw [show ((kinds rows).length:Int).toNat = (kinds rows).length by ac_rfl]
 refine pairs_1 hn _ 0 [] _ _ (by ac_rfl) (by simp; ac_rfl) fun s t => ?_
 ac_nf
 exact h
end Lw
namespace Lw
open PySem PySem.Spec PyProof.Rows L2 Z
open Sf (Rw crs Srt Pre Good kinds kindsFrom place many)
open Fl (kd ids)
def sp_threes (C:Addr):Fn:=fun ds Q => ∃ rows:List Rw,ds = [sidesD C rows] /\ (kinds rows).length <= 12 /\ Q (.nw (.lst (thD (threesL (kinds rows)))))
theorem len_threes {C:Addr}:∀ ds Q,sp_threes C ds Q -> ds.length = 1:=by rintro ds Q ⟨_,rfl,_⟩; rfl
theorem mo_threes {C:Addr}:MonoF (sp_threes C):=⟨fun ds Q Q' w z => by obtain ⟨r,e,a,h⟩:=z; exact ⟨r,e,a,w _ h⟩⟩
theorem threes_0 {C:Addr} {rows:List Rw} {l:Addr} {a b:Int} {E:En} (hb:0 <= b /\ b < (kinds rows).length):∀ (i c:Nat) (acc:List (Int × Int × Int)) (s:Sl),c + i = (kinds rows).length -> acc.length + i <= 10000 ->
  (∀ s,E.nx [.v (sidesD C rows),.own l (.lst (thD (acc ++ inT (kinds rows) a b i c))),.v (.int a),.v (.int b),s]) ->
  forGo (gN 4) (b_threes_0 C (sp_pairs C) (sp_many C) (sp_kind C)) [] (rangeD c i) E [.v (sidesD C rows),.own l (.lst (thD acc)),.v (.int a),.v (.int b),s]:=by
 intro i
 induction i with
 | zero =>
  intro c acc s _ _ h
  rw [rangeD_nil,forGo_nil]
  exact ⟨fun p hp => by simp at hp,by simpa [inT] using h s⟩
 | succ i ih =>
  intro c acc s hc hl h
  push_cast [rangeD_cons,List.length_map]
  refine ⟨rfl,rows,c,rfl,by ac_rfl,?_⟩
  ac_nf
  refine ⟨rfl,rows,b.toNat,by rw [Int.toNat_of_nonneg hb.1],by ac_rfl,?_⟩
  ac_nf
  rw [show ((c:Int) + 1) = ((c + 1:Nat):Int) by ac_rfl]
  by_cases e:(kinds rows).getD c 0 = (kinds rows).getD b.toNat 0
  ·rw [decide_eq_true e]
   ac_nf
   refine ih (c + 1) acc _ (by ac_rfl) (by ac_rfl) fun s => ?_
   have:=h s
   rw [inT,if_pos (by simpa [kd] using e)] at this
   exact this
  ·rw [decide_eq_false e]
   ac_nf
   refine ⟨by ac_rfl,?_⟩
   rw [show thD acc ++ [Dv.tup [Dv.int a,Dv.int b,Dv.int c]] = thD (acc ++ [(a,b,(c:Int))]) by simp]
   refine ih (c + 1) _ _ (by ac_rfl) (by simp; ac_rfl) fun s => ?_
   have:=h s
   rw [inT,if_neg (by simpa [kd] using e)] at this
   simpa using this
theorem threes_1 {C:Addr} {rows:List Rw} {l:Addr} {E:En} (hn:(kinds rows).length <= 12):∀ (ps:List (Int × Int)) (acc:List (Int × Int × Int)) (s t u:Sl),(∀ t ∈ ps,0 <= t.2 /\ t.2 < (kinds rows).length) -> acc.length + ps.length * 12 <= 5000 ->
  (∀ s t u,E.nx [.v (sidesD C rows),.own l (.lst (thD (acc ++ threesOf (kinds rows) ps))),s,t,u]) ->
  forGo (gT [2,3]) (b_threes_1 C (sp_pairs C) (sp_many C) (sp_kind C)) [] (prD ps) E [.v (sidesD C rows),.own l (.lst (thD acc)),s,t,u]:=by
 intro ps
 induction ps with
 | nil =>
  intro acc s t u _ _ h
  rw [show prD [] = [] from rfl,forGo_nil]
  exact ⟨fun p hp => by simp at hp,by simpa [threesOf] using h s t u⟩
 | cons p ps ih =>
  intro acc s t u hp hl h
  have h0:=hp p (by simp)
  rw [show prD (p :: ps) = .tup [.int p.1,.int p.2] :: prD ps from rfl,forGo_cons]
  refine ⟨fun p hp => by simp at hp,?_⟩
  have il:=inT_len (kinds rows) p.1 p.2 ((kinds rows).length - (p.2.toNat + 1)) (p.2.toNat + 1)
  have nx:∀ s t u,forGo (gT [2,3]) (b_threes_1 C (sp_pairs C) (sp_many C) (sp_kind C)) [] (prD ps) E [.v (sidesD C rows),.own l (.lst (thD (acc ++ inT (kinds rows) p.1 p.2 ((kinds rows).length - (p.2.toNat + 1)) (p.2.toNat + 1)))),s,t,u]:=fun s t u => by
   simp only [List.length_cons] at hl
   refine ih _ s t u (fun t ht => hp t (List.mem_cons_of_mem _ ht)) (by simp; ac_rfl) fun s t u => ?_
   have:=h s t u
   unfold threesOf at this ⊢
   rw [List.flatMap_cons] at this
   simpa using this
  generalize forGo (gT [2,3]) (b_threes_1 C (sp_pairs C) (sp_many C) (sp_kind C)) [] (prD ps) E = G at nx ⊢
  push_cast [b_threes_1]
  refine ⟨rfl,rows,rfl,?_⟩
  ac_nf
  refine ⟨⟨by ac_rfl,by ac_rfl,by ac_rfl⟩,?_⟩
  rw [show ((kinds rows).length - (p.2 + 1)).toNat = (kinds rows).length - (p.2.toNat + 1) by ac_rfl,show (p.2 + 1) = ((p.2.toNat + 1:Nat):Int) by ac_rfl]
  simp only [List.length_cons] at hl
  exact threes_0 h0 _ (p.2.toNat + 1) acc _ (by ac_rfl) (by ac_rfl) fun s => nx _ _ s
theorem p_threes {C:Addr}:∀ ds Q,sp_threes C ds Q -> t_threes C (sp_pairs C) (sp_many C) (sp_kind C) { nx:=fun _ => Q (.v .non),rt:=Q } (startP ["sides", "told", "a", "b", "c"] ds):=by
 rintro ds Q ⟨rows,rfl,hn,h⟩
 have pl:=outP_len (kinds rows) (kinds rows).length 0
 have sq:(kinds rows).length * (kinds rows).length <= 12 * 12:=Nat.mul_le_mul hn hn
 ac_nf
 intro l
 refine ⟨rfl,rows,rfl,hn,?_⟩
 ac_nf
 refine threes_1 hn (pairsL (kinds rows)) [] _ _ _ (fun t ht => ?_) (by unfold pairsL; simp; ac_rfl) fun s t u => ?_
 ·obtain ⟨a1,a2,a3,a4⟩:=pairs_mem.mp ht
  exact ⟨by ac_rfl,a3⟩
 ac_nf
 exact h
noncomputable abbrev Ti:=Int × Int × List Int
noncomputable abbrev tiD (t:Ti):Dv:=.tup [.int t.1,.int t.2.1,.tup (nsD t.2.2)]
noncomputable abbrev flD (l:List Ti):List Dv:=l.map tiD
noncomputable abbrev keyT (t:Ti):List Key:=[Sum.inl t.1,Sum.inl t.2.1]
noncomputable abbrev dcD (l:List Ti):List (List Key × Dv):=l.map fun t => (keyT t,.tup (nsD t.2.2))
def Keys (l:List Ti):Prop:=l.Pairwise fun t u => ¬ (t.1 = u.1 /\ t.2.1 = u.2.1)
def sp_belows:Fn:=fun ds Q => ∃ fl:List Ti,ds = [.lst (flD fl)] /\ fl.length <= 1000 /\ Keys fl /\ Q (.nw (.dit (dcD fl)))
theorem len_belows:∀ ds Q,sp_belows ds Q -> ds.length = 1:=by rintro ds Q ⟨_,rfl,_⟩; rfl
theorem mo_belows:MonoF sp_belows:=⟨fun ds Q Q' w z => by obtain ⟨r,e,a,b,h⟩:=z; exact ⟨r,e,a,b,w _ h⟩⟩
theorem put_new {l:List Ti} {t:Ti} (h:∀ u ∈ l,¬ (u.1 = t.1 /\ u.2.1 = t.2.1)):putT (dcD l) (keyT t) (.tup (nsD t.2.2)) = dcD (l ++ [t]):=by
 unfold putT
 have e:(dcD l).any (fun kv => decide (kv.1 = keyT t)) = false:=by
  rw [List.any_eq_false]
  intro kv hkv
  obtain ⟨u,hu,rfl⟩:=List.mem_map.mp hkv
  have:=h u hu
  simp only [decide_eq_true_eq]
  intro z
  apply this
  simp only [keyT,List.cons.injEq,Sum.inl.injEq,and_true] at z
  exact z
 rw [e]
 simp
theorem belows_0 {x:Sl} {a:Addr} {E:En}:∀ (fl acc:List Ti) (s t u:Sl),Keys (acc ++ fl) -> acc.length + fl.length <= 1000 -> (∀ s t u,E.nx [x,.own a (.dit (dcD (acc ++ fl))),s,t,u]) ->
  forGo (gT [2,3,4]) b_belows_0 [] (flD fl) E [x,.own a (.dit (dcD acc)),s,t,u]:=by
 intro fl
 induction fl with
 | nil =>
  intro acc s t u _ _ h
  rw [show flD [] = [] from rfl,forGo_nil]
  exact ⟨fun p hp => by simp at hp,by simpa using h s t u⟩
 | cons p fl ih =>
  intro acc s t u hk hl h
  simp only [List.length_cons] at hl
  rw [show flD (p :: fl) = .tup [.int p.1,.int p.2.1,.tup (nsD p.2.2)] :: flD fl from rfl]
  push_cast [b_belows_0,List.length_map]
  refine ⟨keyT p,rfl,by ac_rfl,?_⟩
  rw [put_new fun u hu => (List.pairwise_append.mp hk).2.2 u hu p (by simp)]
  exact ih _ _ _ _ (by simpa using hk) (by simp; ac_rfl) (by simpa using h)
theorem p_belows:∀ ds Q,sp_belows ds Q -> t_belows { nx:=fun _ => Q (.v .non),rt:=Q } (startP ["floor", "told", "a", "b", "below"] ds):=by
 rintro ds Q ⟨fl,rfl,hl,hk,h⟩
 ac_nf
 intro a
 refine belows_0 fl [] _ _ _ (by simpa using hk) (by simp; ac_rfl) fun s t u => ?_
 ac_nf
 exact h
noncomputable def mOf (l:List Ti) (a c:Int):List Int:=((l.find? fun t => decide (t.1 = a /\ t.2.1 = c)).map fun t => t.2.2).getD []
def Cov (ks:List Int) (l:List Ti):Prop:=∀ a c:Int,0 <= a -> a < c -> c < ks.length -> kd ks a ≠ kd ks c -> ∃ t ∈ l,t.1 = a /\ t.2.1 = c
theorem find_dc (l:List Ti) (a c:Int):(dcD l).find? (fun kv => decide (kv.1 = [Sum.inl a,Sum.inl c])) = (l.find? fun t => decide (t.1 = a /\ t.2.1 = c)).map fun t => (keyT t,.tup (nsD t.2.2)):=by
 induction l with
 | nil => rfl
 | cons t l ih =>
  rw [show dcD (t :: l) = (keyT t,.tup (nsD t.2.2)) :: dcD l from rfl]
  by_cases e:t.1 = a /\ t.2.1 = c
  ·rw [List.find?_cons_of_pos (by simpa using e),List.find?_cons_of_pos (by simpa using e)]
   rfl
  ·rw [List.find?_cons_of_neg (by simpa using e),List.find?_cons_of_neg (by simpa using e)]
   exact ih
theorem find_cov {l:List Ti} {a c:Int} (h:∃ t ∈ l,t.1 = a /\ t.2.1 = c):∃ t,(l.find? fun t => decide (t.1 = a /\ t.2.1 = c)) = some t /\ t ∈ l /\ t.1 = a /\ t.2.1 = c /\ mOf l a c = t.2.2:=by
 obtain ⟨t,ht,e⟩:=h
 cases q:l.find? fun t => decide (t.1 = a /\ t.2.1 = c) with
 | none => exact absurd (decide_eq_true e) (List.find?_eq_none.mp q t ht)
 | some u =>
  have:=List.find?_some q
  refine ⟨u,rfl,List.mem_of_find?_eq_some q,(of_decide_eq_true this).1,(of_decide_eq_true this).2,?_⟩
  unfold mOf
  rw [q]
  rfl
def Mono (ks:List Int):Prop:=∀ a b:Int,0 <= a -> a <= b -> b < ks.length -> kd ks a <= kd ks b
theorem ok_i (n:Nat) (i:Int):okD n (.int i) = true:=by cases n <;> rfl
theorem ok_ns (n:Nat):∀ l:List Int,okDs n (nsD l) = true
 | [] => rfl
 | i :: r => by
  show (okD n (.int i) && okDs n (nsD r)) = true
  rw [ok_ns n r]
  cases n <;> rfl
theorem threesL_len {ks:List Int} (hn:ks.length <= 12):(threesL ks).length <= 1728:=by
 have h1:=outP_len ks ks.length 0
 have h2:=threesOf_len ks (pairsL ks)
 have sq:ks.length * ks.length <= 12 * 12:=Nat.mul_le_mul hn hn
 have h3:(pairsL ks).length * ks.length <= 144 * 12:=Nat.mul_le_mul (by unfold pairsL; ac_rfl) hn
 unfold threesL
 ac_rfl
noncomputable def upB (l:List Ti) (t:Int × Int × Int):Bool:=decide (t.2.1 ∈ mOf l t.1 t.2.2)
def sp_up (C:Addr):Fn:=fun ds Q => ∃ (rows:List Rw) (fl:List Ti),ds = [sidesD C rows,.lst (flD fl)] /\ (kinds rows).length <= 12 /\ fl.length <= 1000 /\ Keys fl /\ Cov (kinds rows) fl /\ Mono (kinds rows) /\ Q (.nw (.lst (thD ((threesL (kinds rows)).filter (upB fl)))))
theorem len_up {C:Addr}:∀ ds Q,sp_up C ds Q -> ds.length = 2:=by rintro ds Q ⟨_,_,rfl,_⟩; rfl
theorem mo_up {C:Addr}:MonoF (sp_up C):=⟨fun ds Q Q' w z => by obtain ⟨r,e,a,b,c,d,f,g,h⟩:=z; exact ⟨r,e,a,b,c,d,f,g,w _ h⟩⟩
theorem in_ns (i:Int):∀ l:List Int,inD (.int i) (nsD l) = decide (i ∈ l)
 | [] => rfl
 | j :: l => by
  have ih:=in_ns i l
  unfold inD at ih ⊢
  rw [show nsD (j :: l) = .int j :: nsD l from rfl,List.any_cons,ih]
  by_cases e:i = j
  ·subst e
   simp [eqD,pyD,PyData.eqv]
  ·have:eqD (.int i) (.int j) = false:=by simp [eqD,pyD,PyData.eqv,e]
   have:eqD (.int j) (.int i) = false:=by simp [eqD,pyD,PyData.eqv,Ne.symm e]
   simp [*]
theorem up_c {ks:List Int} {fl:List Ti} {Q:R -> Prop} (cov:Cov ks fl) (mono:Mono ks):∀ (l acc:List (Int × Int × Int)),(∀ t ∈ l,t ∈ threesL ks) -> acc.length + l.length <= 10000 -> Q (.nw (.lst (thD (acc ++ l.filter (upB fl))))) ->
  compGo [.un,.v (.dit (dcD fl))] (gN 0) (eTest (eOp pIn (eOp pIx (eVar 0) (eC (.int 1))) (eOp pIx (eVar 1) (eTup (eCons (eOp pIx (eVar 0) (eC (.int 0))) (eCons (eOp pIx (eVar 0) (eC (.int 2))) eNil)))))) (eVar 0) (thD l) (thD acc) Q:=by
 intro l
 induction l with
 | nil =>
  intro acc _ _ h
  rw [show thD [] = [] from rfl,compGo_nil]
  simpa using h
 | cons t l ih =>
  intro acc hm hl h
  simp only [List.length_cons] at hl
  obtain ⟨m1,m2,m3,m4,m5,m6⟩:=threes_mem (hm t (by simp))
  have k1:=mono t.1 t.2.1 m1 (by ac_rfl) (by ac_rfl)
  have k2:=mono t.2.1 t.2.2 (by ac_rfl) (by ac_rfl) m4
  obtain ⟨u,hu,_,_,_,eu⟩:=find_cov (cov t.1 t.2.2 m1 (by ac_rfl) m4 (by ac_rfl))
  rw [show thD (t :: l) = .tup [.int t.1,.int t.2.1,.int t.2.2] :: thD l from rfl]
  push_cast [find_dc,hu,Option.map_some,pIn,in_ns,List.length_map]
  refine ⟨⟨ok_i _ _,ok_ns _ _⟩,?_⟩
  rw [<- eu]
  have e:upB fl t = decide (t.2.1 ∈ mOf fl t.1 t.2.2):=rfl
  by_cases z:t.2.1 ∈ mOf fl t.1 t.2.2
  ·rw [if_pos z]
   refine ⟨by ac_rfl,?_⟩
   rw [show thD acc ++ [Dv.tup [Dv.int t.1,Dv.int t.2.1,Dv.int t.2.2]] = thD (acc ++ [t]) by simp]
   rw [List.filter_cons_of_pos (by rw [e]; simpa using z)] at h
   exact ih _ (fun t ht => hm t (List.mem_cons_of_mem _ ht)) (by simp; ac_rfl) (by simpa using h)
  ·rw [if_neg z]
   rw [List.filter_cons_of_neg (by rw [e]; simpa using z)] at h
   exact ih _ (fun t ht => hm t (List.mem_cons_of_mem _ ht)) (by ac_rfl) h
theorem p_up {C:Addr}:∀ ds Q,sp_up C ds Q -> t_up sp_belows (sp_threes C) { nx:=fun _ => Q (.v .non),rt:=Q } (startP ["sides", "floor", "below"] ds):=by
 rintro ds Q ⟨rows,fl,rfl,hn,hl,hk,cov,mono,h⟩
 have tl:=threesL_len hn
 ac_nf
 refine ⟨fl,rfl,hl,hk,?_⟩
 ac_nf
 refine ⟨rows,rfl,hn,?_⟩
 ac_nf
 exact up_c cov mono (threesL (kinds rows)) [] (fun t ht => ht) (by simp; ac_rfl) h
theorem lbelows_0 {x:Sl} {a:Addr} {E:En}:∀ (fl acc:List Ti) (s t u:Sl),Keys (acc ++ fl) -> acc.length + fl.length <= 1000 -> (∀ s t u,E.nx [x,.own a (.dit (dcD (acc ++ fl))),s,t,u]) ->
  forGo (gT [2,3,4]) b_law_belows_0 [] (flD fl) E [x,.own a (.dit (dcD acc)),s,t,u]:=by
 intro fl
 induction fl with
 | nil =>
  intro acc s t u _ _ h
  rw [show flD [] = [] from rfl,forGo_nil]
  exact ⟨fun p hp => by simp at hp,by simpa using h s t u⟩
 | cons p fl ih =>
  intro acc s t u hk hl h
  simp only [List.length_cons] at hl
  rw [show flD (p :: fl) = .tup [.int p.1,.int p.2.1,.tup (nsD p.2.2)] :: flD fl from rfl]
  push_cast [b_law_belows_0,List.length_map]
  refine ⟨keyT p,rfl,by ac_rfl,?_⟩
  rw [put_new fun u hu => (List.pairwise_append.mp hk).2.2 u hu p (by simp)]
  exact ih _ _ _ _ (by simpa using hk) (by simp; ac_rfl) (by simpa using h)
theorem p_law_belows:∀ ds Q,sp_belows ds Q -> t_law_belows { nx:=fun _ => Q (.v .non),rt:=Q } (startP ["_law_tiles", "_law_belows_here", "_law_a", "_law_b", "_law_below"] ds):=by
 rintro ds Q ⟨fl,rfl,hl,hk,h⟩
 ac_nf
 intro a
 refine lbelows_0 fl [] _ _ _ (by simpa using hk) (by simp; ac_rfl) fun s t u => ?_
 ac_nf
 exact h
end Lw
namespace Lw
open PySem PySem.Spec PyProof.Rows L2 Z
open Sf (Rw crs Srt Pre Good kinds kindsFrom place many)
open Fl (kd ids Walk Done tls pc swapAt Pt)
theorem sm_d {u k:Int} (h0:-1000000 < k) (hk:k < 1000000):CMulG u k:=.inl (.inr ⟨by ac_rfl,by ac_rfl⟩)
def sp_cell:Fn:=fun ds Q => ∃ (ns:List Int) (k:Int),ds = [.scr ns,.int k] /\ 0 <= k /\ ∀ c:Int,Q (.v (.int c))
theorem len_cell:∀ ds Q,sp_cell ds Q -> ds.length = 2:=by rintro ds Q ⟨_,_,rfl,_⟩; rfl
theorem mo_cell:MonoF sp_cell:=⟨fun ds Q Q' w z => by obtain ⟨r,e,a,b,h⟩:=z; exact ⟨r,e,a,b,fun c => w _ (h c)⟩⟩
theorem p_law_cell_at:∀ ds Q,sp_cell ds Q -> t_law_cell_at { nx:=fun _ => Q (.v .non),rt:=Q } (startP ["_law_script", "_law_k"] ds):=by
 rintro ds Q ⟨ns,k,rfl,h0,h⟩
 ac_nf
 by_cases hk:k < (ns.length:Int)
 ·rw [if_pos hk,atI_nat h0 hk,List.getElem?_eq_getElem (by ac_rfl)]
  exact h _
 ·rw [if_neg hk]
  exact h 5
def sp_lw:Fn:=fun ds Q => ∃ n:Int,ds = [.int n] /\ Q (.v (.bl true))
theorem len_lw:∀ ds Q,sp_lw ds Q -> ds.length = 1:=by rintro ds Q ⟨_,rfl,_⟩; rfl
theorem mo_lw:MonoF sp_lw:=⟨fun ds Q Q' w z => by obtain ⟨r,e,h⟩:=z; exact ⟨r,e,w _ h⟩⟩
theorem p_law_whole:∀ ds Q,sp_lw ds Q -> t_law_whole { nx:=fun _ => Q (.v .non),rt:=Q } (startP ["_law_found"] ds):=by
 rintro ds Q ⟨n,rfl,q⟩
 ac_nf
 exact ⟨rfl,rfl,q⟩
def sp_wholes:Fn:=fun ds Q => ∃ l:List Int,ds = [.tup (nsD l)] /\ Q (.v (.bl true))
theorem len_wholes:∀ ds Q,sp_wholes ds Q -> ds.length = 1:=by rintro ds Q ⟨_,rfl,_⟩; rfl
theorem mo_wholes:MonoF sp_wholes:=⟨fun ds Q Q' w z => by obtain ⟨r,e,h⟩:=z; exact ⟨r,e,w _ h⟩⟩
theorem wholes_0 {x:Sl} {E:En}:∀ (l:List Int) (s:Sl),(∀ s,E.nx [x,s]) -> forGo (gN 1) (b_law_wholes_0 sp_lw) [] (nsD l) E [x,s]:=by
 intro l
 induction l with
 | nil =>
  intro s h
  rw [show nsD [] = [] from rfl,forGo_nil]
  exact ⟨fun p hp => by simp at hp,h s⟩
 | cons i l ih =>
  intro s h
  ac_nf
  refine ⟨i,rfl,?_⟩
  ac_nf
  exact ih _ h
theorem p_law_wholes:∀ ds Q,sp_wholes ds Q -> t_law_wholes sp_lw { nx:=fun _ => Q (.v .non),rt:=Q } (startP ["_law_found", "_law_number"] ds):=by
 rintro ds Q ⟨l,rfl,q⟩
 ac_nf
 refine ⟨rfl,?_⟩
 rw [show isiD "tuple" (.tup (nsD l)) = true from rfl]
 ac_nf
 exact wholes_0 l _ fun s => q
def sp_is3:Fn:=fun ds Q => ∃ l:List (Int × Int × Int),ds = [.lst (thD l)] /\ Q (.v (.bl true))
theorem len_is3:∀ ds Q,sp_is3 ds Q -> ds.length = 1:=by rintro ds Q ⟨_,rfl,_⟩; rfl
theorem mo_is3:MonoF sp_is3:=⟨fun ds Q Q' w z => by obtain ⟨r,e,h⟩:=z; exact ⟨r,e,w _ h⟩⟩
theorem is3_0 {x:Sl} {E:En}:∀ (l:List (Int × Int × Int)) (s:Sl),(∀ s,E.nx [x,s]) -> forGo (gN 1) (b_law_is_threes_0 sp_wholes) [] (thD l) E [x,s]:=by
 intro l
 induction l with
 | nil =>
  intro s h
  rw [show thD [] = [] from rfl,forGo_nil]
  exact ⟨fun p hp => by simp at hp,h s⟩
 | cons t l ih =>
  intro s h
  rw [show thD (t :: l) = .tup [.int t.1,.int t.2.1,.int t.2.2] :: thD l from rfl]
  ac_nf
  refine ⟨[t.1,t.2.1,t.2.2],rfl,?_⟩
  ac_nf
  exact ih _ h
theorem p_law_is_threes:∀ ds Q,sp_is3 ds Q -> t_law_is_threes sp_wholes { nx:=fun _ => Q (.v .non),rt:=Q } (startP ["_law_found", "_law_three"] ds):=by
 rintro ds Q ⟨l,rfl,q⟩
 ac_nf
 refine ⟨rfl,?_⟩
 rw [show isiD "list" (.lst (thD l)) = true from rfl]
 ac_nf
 exact is3_0 l _ fun s => q
def sp_most:Fn:=fun ds Q => ∃ (ns:List Int) (k:Int),ds = [.scr ns,.int k,.int 9] /\ ∀ m:Int,6 <= m -> m <= 12 -> Q (.v (.int m))
theorem len_most:∀ ds Q,sp_most ds Q -> ds.length = 3:=by rintro ds Q ⟨_,_,rfl,_⟩; rfl
theorem mo_most:MonoF sp_most:=⟨fun ds Q Q' w z => by obtain ⟨r,e,a,h⟩:=z; exact ⟨r,e,a,fun m x y => w _ (h m x y)⟩⟩
theorem p_law_most:∀ ds Q,sp_most ds Q -> t_law_most sp_cell { nx:=fun _ => Q (.v .non),rt:=Q } (startP ["_law_script", "_law_k", "_law_usual"] ds):=by
 rintro ds Q ⟨ns,k,rfl,h⟩
 ac_nf
 by_cases hk:k = 0
 ·rw [if_pos hk]
  refine ⟨ns,0,rfl,by ac_rfl,fun c => ?_⟩
  ac_nf
  refine ⟨sm_d (by decide) (by decide),?_⟩
  split
  ·exact h 12 (by ac_rfl) (by ac_rfl)
  ·exact h 9 (by ac_rfl) (by ac_rfl)
 ·rw [if_neg hk]
  exact h 9 (by ac_rfl) (by ac_rfl)
def sp_pick:Fn:=fun ds Q => ∃ (c step m:Int),ds = [.int c,.int step,.int m] /\ 0 <= step /\ step <= 500 /\ 0 < m /\ ∀ q:Int,0 <= q -> q < m -> Q (.v (.int q))
theorem len_pick:∀ ds Q,sp_pick ds Q -> ds.length = 3:=by rintro ds Q ⟨_,_,_,rfl,_⟩; rfl
theorem mo_pick:MonoF sp_pick:=⟨fun ds Q Q' w z => by obtain ⟨r,e,a,b,c,d,f,h⟩:=z; exact ⟨r,e,a,b,c,d,f,fun m x y => w _ (h m x y)⟩⟩
theorem p_law_pick:∀ ds Q,sp_pick ds Q -> t_law_pick { nx:=fun _ => Q (.v .non),rt:=Q } (startP ["_law_cell", "_law_step", "_law_many_here"] ds):=by
 rintro ds Q ⟨c,k,m,rfl,h0,h1,hm,h⟩
 have hkk:0 <= k * k /\ k * k <= 500 * 500:=⟨Int.mul_nonneg h0 h0,Int.mul_le_mul h1 h1 h0 (by ac_rfl)⟩
 ac_nf
 refine ⟨.inl (.inl ⟨by decide,by decide⟩),sm_d (by decide) (by decide),sm_d (by ac_rfl) (by ac_rfl),sm_d (by ac_rfl) (by ac_rfl),hm,?_⟩
 exact h _ (Int.emod_nonneg _ (by ac_rfl)) (Int.emod_lt_of_pos _ hm)
theorem swapD {l:List Int} {p:Nat}:nsD (l.take p) ++ [.int (l.getD (p + 1) 0),.int (l.getD p 0)] ++ nsD (l.drop (p + 2)) = nsD (swapAt l p):=by unfold swapAt; simp
def sp_exch:Fn:=fun ds Q => ∃ (path:List Int) (p:Nat),ds = [.lst (nsD path),.int p] /\ path.length <= 100 /\ p + 1 < path.length /\ Q (.nw (.lst (nsD (swapAt path p))))
theorem len_exch:∀ ds Q,sp_exch ds Q -> ds.length = 2:=by rintro ds Q ⟨_,_,rfl,_⟩; rfl
theorem mo_exch:MonoF sp_exch:=⟨fun ds Q Q' w z => by obtain ⟨a,b,c,d,e,h⟩:=z; exact ⟨a,b,c,d,e,w _ h⟩⟩
theorem p_law_exchanged:∀ ds Q,sp_exch ds Q -> t_law_exchanged { nx:=fun _ => Q (.v .non),rt:=Q } (startP ["_law_path", "_law_p"] ds):=by
 rintro ds Q ⟨path,p,rfl,hn,hp,h⟩
 have e1:((p:Int) + 1) = ((p + 1:Nat):Int):=by ac_rfl
 have e2:((p:Int) + 2) = ((p + 2:Nat):Int):=by ac_rfl
 ac_nf
 rw [e1,e2,at_ints (by ac_rfl),at_ints (by ac_rfl),cut_to (by ac_rfl),cut_from (by ac_rfl)]
 simp only [Int.toNat_natCast,<- List.map_take,<- List.map_drop]
 push_cast [List.length_map,List.length_take,List.length_drop,List.length_append]
 refine ⟨by ac_rfl,by ac_rfl,?_⟩
 have:=swapD (l:=path) (p:=p)
 simp only [List.append_assoc,List.cons_append,List.nil_append] at this ⊢
 rw [this]
 exact h
noncomputable def bandsOf:Nat -> List Nat -> List Int
 | _,[] => []
 | k,c :: cs => List.replicate c (k:Int) ++ bandsOf (k + 1) cs
theorem bands_snoc:∀ (k:Nat) (cs:List Nat) (c:Nat),bandsOf k (cs ++ [c]) = bandsOf k cs ++ List.replicate c ((k + cs.length:Nat):Int)
 | _,[],_ => by simp [bandsOf]
 | k,a :: rs,c => by
  simp only [List.cons_append,bandsOf,bands_snoc (k + 1) rs c,List.append_assoc,List.length_cons]
  congr 3
  ac_rfl
theorem bands_len:∀ (k:Nat) (cs:List Nat),(bandsOf k cs).length = cs.sum
 | _,[] => rfl
 | k,c :: cs => by simp [bandsOf,bands_len (k + 1) cs]
structure Cnt (cs:List Nat):Prop where
 lo:2 <= cs.length
 hi:cs.length <= 6
 ok:∀ c ∈ cs,1 <= c
 tot:cs.sum <= 12
theorem ban_1 {c M rest:Int} {n k:Nat} {l:List Int} {tl:TSp} {E:En} {x6 x7:Sl} (hk:k <= 10) (sp:Int) (hs:M - (l.length:Int) - ((n:Int) - (k:Int) - 1) = sp) (h1:1 <= sp) (h2:sp <= 12)
  (h:∀ cnt:Int,1 <= cnt -> cnt <= sp -> tl E [.v (.int c),.v (.int M),.v (.int n),.v (.int rest),.v (.lst (nsD l)),.v (.int k),.v (.int sp),.v (.int cnt)]):
  sSeq (sSet 6 (eOp pSub (eOp pSub (eVar 1) (eCB pLen (eCons (eVar 4) eNil))) (eOp pSub (eOp pSub (eVar 2) (eVar 5)) (eC (.int 1)))))
 (sSeq (sSet 7 (eOp pAdd (eC (.int 1)) (eOp pMod (eOp pMod (eOp pMul (eOp pMod (eOp pMul (eOp pAdd (eVar 0) (eOp pMul (eC (.int 31)) (eVar 5))) (eC (.int 48271))) (eC (.int 2147483647))) (eOp pAdd (eOp pMul (eVar 5) (eVar 5)) (eC (.int 17)))) (eC (.int 99991))) (eCB pMin2 (eCons (eVar 6) (eCons (eC (.int 3)) eNil)))))) tl) E [.v (.int c),.v (.int M),.v (.int n),.v (.int rest),.v (.lst (nsD l)),.v (.int k),x6,x7]:=by
 push_cast [List.length_map,hs]
 generalize hm:(if 3 < sp then 3 else sp) = mn
 have hmn:1 <= mn /\ mn <= sp:=by rw [<- hm]; split <;> ac_rfl
 have kk:(k:Int) * k <= 10 * 10:=Int.mul_le_mul (by ac_rfl) (by ac_rfl) (by ac_rfl) (by ac_rfl)
 have kk0:0 <= (k:Int) * k:=Int.mul_nonneg (by ac_rfl) (by ac_rfl)
 refine ⟨.inl (.inl ⟨by decide,by decide⟩),sm_d (by decide) (by decide),sm_d (by ac_rfl) (by ac_rfl),sm_d (by ac_rfl) (by ac_rfl),by ac_rfl,?_⟩
 generalize (c + 31 * (k:Int)) * 48271 % 2147483647 * ((k:Int) * k + 17) % 99991 = q
 have a1:=Int.emod_nonneg q (show mn ≠ 0 by ac_rfl)
 have a2:=Int.emod_lt_of_pos q (show 0 < mn by ac_rfl)
 exact h _ (by ac_rfl) (by ac_rfl)
theorem ban_2 {rest sp cnt k:Int} {l:List Int} {E:En} {x0 x1 x2:Sl} (h1:1 <= sp) (h2:sp <= 12) (c1:1 <= cnt) (c2:cnt <= sp) (ll:l.length <= 100)
  (h:∀ rest cnt:Int,1 <= cnt -> cnt <= sp -> E.nx [x0,x1,x2,.v (.int rest),.v (.lst (nsD l ++ (List.replicate cnt.toNat [Dv.int k]).flatten)),.v (.int k),.v (.int sp),.v (.int cnt)]):
  sSeq (sIf (eTest (eOp pGt (eVar 3) (eC (.int 1)))) (sSeq (sSet 7 (eOp pAdd (eC (.int 1)) (eOp pMod (eVar 3) (eVar 6))))
 (sSet 3 (eOp pDiv (eVar 3) (eVar 6)))) sNext)
 (sSet 4 (eOp pAdd (eVar 4) (eOp pMul (eLst (eCons (eVar 5) eNil)) (eVar 7)))) E [x0,x1,x2,.v (.int rest),.v (.lst (nsD l)),.v (.int k),.v (.int sp),.v (.int cnt)]:=by
 have fl:∀ m:Nat,(List.replicate m [Dv.int k]).flatten.length = m:=fun m => by rw [List.flatten_replicate_singleton]; simp
 push_cast [List.length_map,fl]
 split
 ·have a1:=Int.emod_nonneg rest (show sp ≠ 0 by ac_rfl)
  have a2:=Int.emod_lt_of_pos rest (show 0 < sp by ac_rfl)
  exact ⟨by ac_rfl,by ac_rfl,by ac_rfl,by ac_rfl,h _ _ (by ac_rfl) (by ac_rfl)⟩
 ·exact ⟨by ac_rfl,by ac_rfl,h _ _ c1 c2⟩
theorem gN5b {d:Dv} {x0 x1 x2 x3 x4 x5 x6 x7:Sl} {Q:List Sl -> Prop} (h:Q [x0,x1,x2,x3,x4,.v d,x6,x7]):gN 5 d [x0,x1,x2,x3,x4,x5,x6,x7] Q:=by
 ac_nf
 exact h
theorem bands_0 {c M:Int} {n:Nat} {E:En} (hn:n <= 6) (hM:M <= 12):∀ (i k:Nat) (rest:Int) (cs:List Nat) (s5 s6 s7:Sl),k + i = n -> cs.length = k -> (∀ x ∈ cs,1 <= x) -> (cs.sum:Int) + i <= M ->
  (∀ (rest:Int) (cs:List Nat) (s5 s6 s7:Sl),cs.length = n -> (∀ x ∈ cs,1 <= x) -> (cs.sum:Int) <= M -> E.nx [.v (.int c),.v (.int M),.v (.int n),.v (.int rest),.v (.lst (nsD (bandsOf 0 cs))),s5,s6,s7]) ->
  forGo (gN 5) b_law_bands_0 [] (rangeD k i) E [.v (.int c),.v (.int M),.v (.int n),.v (.int rest),.v (.lst (nsD (bandsOf 0 cs))),s5,s6,s7]:=by
 intro i
 induction i with
 | zero =>
  intro k rest cs s5 s6 s7 hk hl ok ht h
  rw [rangeD_nil,forGo_nil]
  exact ⟨fun p hp => by simp at hp,h _ _ _ _ _ (by ac_rfl) ok (by ac_rfl)⟩
 | succ i ih =>
  intro k rest cs s5 s6 s7 hk hl ok ht h
  rw [rangeD_cons,forGo_cons]
  refine ⟨fun p hp => by simp at hp,?_⟩
  have next:∀ (rest cnt:Int) (s5 s6 s7:Sl),1 <= cnt -> cnt + cs.sum + i <= M -> forGo (gN 5) b_law_bands_0 [] (rangeD ((k:Int) + 1) i) E [.v (.int c),.v (.int M),.v (.int n),.v (.int rest),.v (.lst (nsD (bandsOf 0 cs) ++ (List.replicate cnt.toNat [Dv.int (k:Int)]).flatten)),s5,s6,s7]:=fun rest cnt s5 s6 s7 c1 c2 => by
   have e2:(List.replicate cnt.toNat [Dv.int (k:Int)]).flatten = nsD (List.replicate cnt.toNat (k:Int)):=by
    rw [List.flatten_replicate_singleton]; simp
   have e3:nsD (bandsOf 0 cs) ++ nsD (List.replicate cnt.toNat (k:Int)) = nsD (bandsOf 0 (cs ++ [cnt.toNat])):=by
    rw [bands_snoc,hl,Nat.zero_add]; simp
   rw [e2,e3]
   exact ih (k + 1) rest (cs ++ [cnt.toNat]) s5 s6 s7 (by ac_rfl) (by simp; ac_rfl) (fun x hx => by
    rcases List.mem_append.mp hx with hx | hx
    ·exact ok x hx
    ·rw [List.mem_singleton.mp hx]; ac_rfl) (by simp; ac_rfl) h
  generalize forGo (gN 5) b_law_bands_0 [] (rangeD ((k:Int) + 1) i) E = nx at *
  have bl:=bands_len 0 cs
  exact gN5b (ban_1 (by ac_rfl) _ rfl (by ac_rfl) (by ac_rfl) fun cnt c1 c2 => ban_2 (by ac_rfl) (by ac_rfl) c1 c2 (by ac_rfl) fun rest cnt d1 d2 => next rest cnt _ _ _ d1 (by ac_rfl))
def sp_bands:Fn:=fun ds Q => ∃ c M:Int,ds = [.int c,.int M] /\ 6 <= M /\ M <= 12 /\ ∀ cs,Cnt cs -> Q (.v (.lst (nsD (bandsOf 0 cs))))
theorem len_bands:∀ ds Q,sp_bands ds Q -> ds.length = 2:=by rintro ds Q ⟨_,_,rfl,_⟩; rfl
theorem mo_bands:MonoF sp_bands:=⟨fun ds Q Q' w z => by obtain ⟨c,M,e,a,b,h⟩:=z; exact ⟨c,M,e,a,b,fun r g => w _ (h r g)⟩⟩
theorem p_law_bands:∀ ds Q,sp_bands ds Q -> t_law_bands { nx:=fun _ => Q (.v .non),rt:=Q } (startP ["_law_cell", "_law_most_here", "_law_kinds", "_law_rest", "_law_bands_here", "_law_k", "_law_spare", "_law_count"] ds):=by
 rintro ds Q ⟨c,M,rfl,M6,M12,h⟩
 ac_nf
 obtain ⟨n,hn,h2,h6⟩:∃ n:Nat,2 + c % 5 = (n:Int) /\ 2 <= n /\ n <= 6:=⟨(2 + c % 5).toNat,by ac_rfl,by ac_rfl,by ac_rfl⟩
 rw [hn]
 refine ⟨by ac_rfl,?_⟩
 rw [Int.toNat_natCast]
 refine bands_0 h6 M12 n 0 _ [] _ _ _ (by ac_rfl) rfl (fun x hx => by simp at hx) (by simp; ac_rfl) fun rest cs s5 s6 s7 l ok t => ?_
 ac_nf
 exact h cs ⟨by ac_rfl,by ac_rfl,ok,by ac_rfl⟩
theorem bands_mono (k:Nat) (cs:List Nat):(bandsOf k cs).Pairwise (· <= ·) /\ ∀ x ∈ bandsOf k cs,(k:Int) <= x:=by
 induction cs generalizing k with
 | nil => exact ⟨List.Pairwise.nil,fun x hx => by cases hx⟩
 | cons c cs ih =>
  obtain ⟨i1,i2⟩:=ih (k + 1)
  rw [bandsOf]
  refine ⟨List.pairwise_append.mpr ⟨?_,i1,fun a ha b hb => ?_⟩,fun x hx => ?_⟩
  ·rw [List.pairwise_iff_getElem]
   intro i j hi hj _
   simp
  ·rw [List.eq_of_mem_replicate ha]
   have:=i2 b hb
   ac_rfl
  ·rcases List.mem_append.mp hx with hx | hx
   ·rw [List.eq_of_mem_replicate hx]; exact Int.le_refl _
   ·have:=i2 x hx
    ac_rfl
theorem bands_Mono (cs:List Nat):Mono (bandsOf 0 cs):=fun a b h0 hab hb => by
 have pw:=List.pairwise_iff_getElem.mp (bands_mono 0 cs).1
 show (bandsOf 0 cs).getD a.toNat 0 <= (bandsOf 0 cs).getD b.toNat 0
 have e1:(bandsOf 0 cs).getD a.toNat 0 = (bandsOf 0 cs)[a.toNat]'(by ac_rfl):=by simp [List.getD,show a.toNat < (bandsOf 0 cs).length by ac_rfl]
 have e2:(bandsOf 0 cs).getD b.toNat 0 = (bandsOf 0 cs)[b.toNat]'(by ac_rfl):=by simp [List.getD,show b.toNat < (bandsOf 0 cs).length by ac_rfl]
 rw [e1,e2]
 rcases Nat.lt_or_ge a.toNat b.toNat with h | h
 ·exact pw _ _ _ _ h
 ·have:a.toNat = b.toNat:=by ac_rfl
  simp [this]
noncomputable def crossN:List Nat -> Nat
 | [] => 0
 | c :: cs => c * cs.sum + crossN cs
noncomputable def sqN:List Nat -> Nat
 | [] => 0
 | c :: cs => c * c + sqN cs
theorem pc_bands:∀ (k:Nat) (cs:List Nat),pc (bandsOf k cs) = crossN cs
 | _,[] => rfl
 | k,c :: cs => by
  rw [bandsOf,crossN,<- pc_bands (k + 1) cs,<- bands_len (k + 1) cs]
  have hi:=(bands_mono (k + 1) cs).2
  generalize bandsOf (k + 1) cs = B at hi
  induction c with
  | zero => simp
  | succ c ih =>
   rw [List.replicate_succ,List.cons_append,pc,ih,List.filter_append]
   have e1:(List.replicate c (k:Int)).filter (fun y => decide ((k:Int) < y)) = []:=List.filter_eq_nil_iff.mpr fun x hx => by rw [List.eq_of_mem_replicate hx]; simp
   have e2:B.filter (fun y => decide ((k:Int) < y)) = B:=List.filter_eq_self.mpr fun x hx => by have:=hi x hx; simp; ac_rfl
   rw [e1,e2,Nat.add_mul]
   simp
   ac_rfl
theorem cross_sq:∀ cs:List Nat,2 * crossN cs + sqN cs = cs.sum * cs.sum
 | [] => rfl
 | c :: cs => by
  have ih:=cross_sq cs
  rw [crossN,sqN,List.sum_cons,Nat.add_mul,Nat.mul_add c,Nat.mul_add cs.sum,<- ih,Nat.mul_comm cs.sum c]
  ac_rfl
theorem sq_four:∀ cs:List Nat,4 * cs.sum <= sqN cs + 4 * cs.length
 | [] => Nat.le_refl _
 | c :: cs => by
  have ih:=sq_four cs
  have h:4 * c <= c * c + 4:=by
   rcases Nat.lt_or_ge c 4 with z | z
   ·have:c = 0 \/ c = 1 \/ c = 2 \/ c = 3:=by ac_rfl
    rcases this with rfl | rfl | rfl | rfl <;> decide
   ·have:=Nat.mul_le_mul_right c z
    ac_rfl
  rw [sqN,List.sum_cons,List.length_cons]
  ac_rfl
theorem cnt_pc {cs:List Nat} (C:Cnt cs):pc (bandsOf 0 cs) <= 60:=by
 rw [pc_bands]
 have h1:=cross_sq cs
 have h2:=sq_four cs
 have h3:=C.tot
 have h4:=C.hi
 generalize cs.sum = S at *
 have h5:S * S <= 12 * S:=Nat.mul_le_mul_right S h3
 ac_rfl
theorem cnt_len {cs:List Nat} (C:Cnt cs):2 <= (bandsOf 0 cs).length /\ (bandsOf 0 cs).length <= 12:=by
 rw [bands_len]
 have h:∀ cs:List Nat,(∀ c ∈ cs,1 <= c) -> cs.length <= cs.sum:=by
  intro cs
  induction cs with
  | nil => intro _; simp
  | cons c cs ih =>
   intro h
   have h1:=h c (by simp)
   have h2:=ih fun x hx => h x (by simp [hx])
   simp only [List.length_cons,List.sum_cons]
   ac_rfl
 have:=h cs C.ok
 have:=C.lo
 have:=C.tot
 ac_rfl
end Lw
namespace Lw
open PySem PySem.Spec PyProof.Rows L2 Z
open Sf (Rw crs Srt Pre Good kinds kindsFrom place many)
open Fl (kd ids Walk Done tls pc swapAt Pt)
noncomputable def ascs (ks path:List Int):Nat -> Nat -> List Int
 | 0,_ => []
 | m + 1,j => (if kd ks (path.getD j 0) < kd ks (path.getD (j + 1) 0) then [(j:Int)] else []) ++ ascs ks path m (j + 1)
theorem ascs_mem (ks path:List Int):∀ (m j:Nat) (x:Int),x ∈ ascs ks path m j -> ∃ p:Nat,x = p /\ p < j + m /\ kd ks (path.getD p 0) < kd ks (path.getD (p + 1) 0)
 | 0,_,_,h => by cases h
 | m + 1,j,x,h => by
  rw [ascs,List.mem_append] at h
  rcases h with h | h
  ·split at h
   ·rw [List.mem_singleton] at h
    exact ⟨j,h,by ac_rfl,by assumption⟩
   ·cases h
  ·obtain ⟨p,e,l,k⟩:=ascs_mem ks path m (j + 1) x h
   exact ⟨p,e,by ac_rfl,k⟩
theorem ascs_nil (ks path:List Int):∀ (m j:Nat),ascs ks path m j = [] -> ∀ p,j <= p -> p < j + m -> kd ks (path.getD (p + 1) 0) <= kd ks (path.getD p 0)
 | 0,_,_,p,h1,h2 => by ac_rfl
 | m + 1,j,h,p,h1,h2 => by
  rw [ascs,List.append_eq_nil_iff] at h
  by_cases e:p = j
  ·subst e
   have:=h.1
   split at this
   ·cases this
   ·ac_rfl
  ·exact ascs_nil ks path m (j + 1) h.2 p (by ac_rfl) (by ac_rfl)
theorem ascs_len (ks path:List Int):∀ (m j:Nat),(ascs ks path m j).length <= m
 | 0,_ => Nat.le_refl _
 | m + 1,j => by rw [ascs,List.length_append]; have:=ascs_len ks path m (j + 1); split <;> simp <;> ac_rfl
theorem row_c {ks path:List Int} {Q:R -> Prop} (hn:ks.length <= 12) (P:Pt ks.length path):∀ (m j:Nat) (acc:List Int),j + m + 1 = ks.length -> acc.length + m <= 100 -> Q (.nw (.lst (nsD (acc ++ ascs ks path m j)))) ->
  compGo [.un,.v (.lst (nsD ks)),.v (.lst (nsD path))] (gN 0) (eTest (eOp pLt (eOp pIx (eVar 1) (eOp pIx (eVar 2) (eVar 0))) (eOp pIx (eVar 1) (eOp pIx (eVar 2) (eOp pAdd (eVar 0) (eC (.int 1))))))) (eVar 0) (rangeD j m) (nsD acc) Q:=by
 have hl:=P.len
 intro m
 induction m with
 | zero =>
  intro j acc _ ha h
  push_cast [rangeD_nil]
  simpa [ascs] using h
 | succ m ih =>
  intro j acc hj ha h
  have b1:=P.bd j (by ac_rfl)
  have b2:=P.bd (j + 1) (by ac_rfl)
  push_cast [rangeD_cons,at_ints (show j < path.length by ac_rfl),show ((j:Int) + 1) = ((j + 1:Nat):Int) by ac_rfl,at_ints (show j + 1 < path.length by ac_rfl),at_intsI b1.1 (show path.getD j 0 < ks.length by ac_rfl),at_intsI b2.1 (show path.getD (j + 1) 0 < ks.length by ac_rfl),List.length_map]
  rw [ascs] at h
  by_cases e:kd ks (path.getD j 0) < kd ks (path.getD (j + 1) 0)
  ·rw [if_pos e]
   rw [if_pos e] at h
   refine ⟨by ac_rfl,?_⟩
   rw [show nsD acc ++ [Dv.int (j:Int)] = nsD (acc ++ [(j:Int)]) by simp]
   exact ih (j + 1) _ (by ac_rfl) (by simp; ac_rfl) (by simpa using h)
  ·rw [if_neg e]
   rw [if_neg e] at h
   exact ih (j + 1) _ (by ac_rfl) (by ac_rfl) (by simpa using h)
theorem eq_nil:∀ l:List Int,eqD (.lst (nsD l)) (.lst []) = l.isEmpty
 | [] => by simp [eqD,pyD,pyD.pyDs,PyData.eqv,PyData.eqvAll]
 | i :: l => by simp [eqD,pyD,pyD.pyDs,PyData.eqv,PyData.eqvAll]
theorem okL (l:List Int):okD 8 (.lst (nsD l)) = true:=ok_ns 7 l
def sp_row:Fn:=fun ds Q => ∃ (ks:List Int) (c:Int),ds = [.lst (nsD ks),.int c] /\ 2 <= ks.length /\ ks.length <= 12 /\ pc ks <= 60 /\ ∀ row e,Walk ks (ids ks.length) row e -> Done ks e -> row.length <= 60 -> Q (.nw (.lst (nsD row)))
theorem len_row:∀ ds Q,sp_row ds Q -> ds.length = 2:=by rintro ds Q ⟨_,_,rfl,_⟩; rfl
theorem mo_row:MonoF sp_row:=⟨fun ds Q Q' w z => by obtain ⟨a,b,c,d,e,f,h⟩:=z; exact ⟨a,b,c,d,e,f,fun r x y z u => w _ (h r x y z u)⟩⟩
theorem row_6 {ks path:List Int} {tl:TSp} {E:En} {x0 x1 x3 x4 x5 x6 x7 x8:Sl} (hl:path.length = ks.length) (h:tl E [x0,x1,.v (.lst (nsD path)),x3,x4,x5,.v (.int ((ks.length:Int) - 1)),x7,x8]):
  sSeq (sSet 6 (eOp pSub (eCB pLen (eCons (eVar 2) eNil)) (eC (.int 1)))) tl E [x0,x1,.v (.lst (nsD path)),x3,x4,x5,x6,x7,x8]:=by
 push_cast [List.length_map,hl]
 exact h
theorem row_7 {ks path:List Int} {tl:TSp} {E:En} {x1 x3 x4 x5 x7 x8:Sl} (h2:2 <= ks.length) (hn:ks.length <= 12) (P:Pt ks.length path) (h:tl E [.v (.lst (nsD ks)),x1,.v (.lst (nsD path)),x3,x4,x5,.v (.int ((ks.length:Int) - 1)),.v (.lst (nsD (ascs ks path (ks.length - 1) 0))),x8]):
  sSeq (sSet 7 (eComp 1 [0,2] (iRange1 (eCons (eVar 6) eNil)) (gN 0) (eTest (eOp pLt (eOp pIx (eVar 1) (eOp pIx (eVar 2) (eVar 0))) (eOp pIx (eVar 1) (eOp pIx (eVar 2) (eOp pAdd (eVar 0) (eC (.int 1))))))) (eVar 0))) tl E [.v (.lst (nsD ks)),x1,.v (.lst (nsD path)),x3,x4,x5,.v (.int ((ks.length:Int) - 1)),x7,x8]:=by
 ac_nf
 refine ⟨by ac_rfl,?_⟩
 rw [show ((ks.length:Int) - 1).toNat = ks.length - 1 by ac_rfl]
 exact row_c hn P (ks.length - 1) 0 [] (by ac_rfl) (by simp; ac_rfl) h
theorem row_8 {l row:List Int} {a:Addr} {tl:TSp} {E:En} {x0 x1 x2 x4 x5 x6 x8:Sl} (h0:l = [] -> E.rt (.nw (.lst (nsD row)))) (h1:l ≠ [] -> tl E [x0,x1,x2,.own a (.lst (nsD row)),x4,x5,x6,.v (.lst (nsD l)),x8]):
  sSeq (sIf (eTest (eOp pEq (eVar 7) (eLst eNil))) (sRet (eVar 3)) sNext) tl E [x0,x1,x2,.own a (.lst (nsD row)),x4,x5,x6,.v (.lst (nsD l)),x8]:=by
 push_cast [eq_nil,okL]
 refine ⟨rfl,?_⟩
 cases l with
 | nil => exact h0 rfl
 | cons i l => exact h1 (by simp)
theorem row_9 {l:List Int} {c k:Int} {tl:TSp} {E:En} {x0 x2 x3 x4 x6 x8:Sl} (hl:l ≠ []) (hk:0 <= k /\ k <= 500) (h:∀ q:Int,0 <= q -> q < l.length -> tl E [x0,.v (.int c),x2,x3,x4,.v (.int k),x6,.v (.lst (nsD l)),.v (.int q)]):
  sSeq (sSet 8 (eCall sp_pick (eCons (eVar 1) (eCons (eVar 5) (eCons (eCB pLen (eCons (eVar 7) eNil)) eNil))))) tl E [x0,.v (.int c),x2,x3,x4,.v (.int k),x6,.v (.lst (nsD l)),x8]:=by
 have hpos:(0:Int) < l.length:=by cases l with | nil => exact absurd rfl hl | cons => simp <;> ac_rfl
 push_cast [List.length_map]
 refine ⟨c,k,l.length,rfl,hk.1,hk.2,hpos,fun q q0 q1 => ?_⟩
 ac_nf
 exact h q q0 q1
theorem row_a {l:List Int} {rest q:Int} {tl:TSp} {E:En} {x0 x1 x2 x3 x5 x6:Sl} (hl:l ≠ []) (ll:l.length <= 100) (q0:0 <= q) (q1:q < l.length) (h:∀ rest q:Int,0 <= q -> q < l.length -> tl E [x0,x1,x2,x3,.v (.int rest),x5,x6,.v (.lst (nsD l)),.v (.int q)]):
  sSeq (sIf (eTest (eOp pGt (eVar 4) (eC (.int 1)))) (sSeq (sSet 8 (eOp pMod (eVar 4) (eCB pLen (eCons (eVar 7) eNil)))) (sSet 4 (eOp pDiv (eVar 4) (eCB pLen (eCons (eVar 7) eNil))))) sNext) tl E [x0,x1,x2,x3,.v (.int rest),x5,x6,.v (.lst (nsD l)),.v (.int q)]:=by
 have hpos:(0:Int) < l.length:=by cases l with | nil => exact absurd rfl hl | cons => simp <;> ac_rfl
 push_cast [List.length_map]
 split
 ·exact ⟨hpos,⟨hpos,by ac_rfl⟩,h _ _ (Int.emod_nonneg rest (by ac_rfl)) (Int.emod_lt_of_pos rest hpos)⟩
 ·exact h _ _ q0 q1
theorem row_b {l path row:List Int} {a:Addr} {q:Int} {p:Nat} {E:En} {x0 x1 x4 x5 x6:Sl} (q0:0 <= q) (q1:q < l.length) (ep:l.getD q.toNat 0 = p) (hp:p + 1 < path.length) (pl:path.length <= 100) (rl:row.length <= 200) (h:E.nx [x0,x1,.v (.lst (nsD (swapAt path p))),.own a (.lst (nsD row ++ [Dv.int (p:Int)])),x4,x5,x6,.v (.lst (nsD l)),.v (.int q)]):
  sSeq (sApp 3 (eOp pIx (eVar 7) (eVar 8))) (sSet 2 (eCall sp_exch (eCons (eVar 2) (eCons (eOp pIx (eVar 7) (eVar 8)) eNil)))) E [x0,x1,.v (.lst (nsD path)),.own a (.lst (nsD row)),x4,x5,x6,.v (.lst (nsD l)),.v (.int q)]:=by
 push_cast [at_intsI q0 q1,ep,List.length_map]
 refine ⟨by ac_rfl,path,p,rfl,pl,hp,?_⟩
 ac_nf
 exact h
theorem gN5 {d:Dv} {x0 x1 x2 x3 x4 x5 x6 x7 x8:Sl} {Q:List Sl -> Prop} (h:Q [x0,x1,x2,x3,x4,.v d,x6,x7,x8]):gN 5 d [x0,x1,x2,x3,x4,x5,x6,x7,x8] Q:=by
 ac_nf
 exact h
theorem row_0 {ks:List Int} {c:Int} {a:Addr} {E:En} {Q:R -> Prop} (h2:2 <= ks.length) (hn:ks.length <= 12) (hp:pc ks <= 60) (hQ:∀ row e,Walk ks (ids ks.length) row e -> Done ks e -> row.length <= 60 -> Q (.nw (.lst (nsD row)))) (hE:E.rt = Q):
  ∀ (i k:Nat) (rest:Int) (path row:List Int) (s5 s6 s7 s8:Sl),k + i = ks.length * ks.length -> row.length = k -> Walk ks (ids ks.length) row path ->
  forGo (gN 5) (b_law_row_0 sp_pick sp_exch) [] (rangeD k i) E [.v (.lst (nsD ks)),.v (.int c),.v (.lst (nsD path)),.own a (.lst (nsD row)),.v (.int rest),s5,s6,s7,s8]:=by
 have sq:ks.length * ks.length <= 12 * 12:=Nat.mul_le_mul hn hn
 have pl:=Fl.pc_lt (l:=ks) (by ac_rfl)
 have cnt:∀ {row path},Walk ks (ids ks.length) row path -> row.length <= pc ks:=fun w => by
  have:=w.count (by simp)
  rw [Fl.ids_kd] at this
  ac_rfl
 intro i
 induction i with
 | zero =>
  intro k rest path row s5 s6 s7 s8 hk rl w
  have:=cnt w
  ac_rfl
 | succ i ih =>
  intro k rest path row s5 s6 s7 s8 hk rl w
  rw [rangeD_cons,forGo_cons]
  refine ⟨fun p hp => by simp at hp,?_⟩
  have P:=w.pt (Pt.ids _)
  have hl:=P.len
  have rw60:=cnt w
  have next:∀ (rest:Int) (p:Nat) (s5 s6 s7 s8:Sl),p + 1 < ks.length -> kd ks (path.getD p 0) < kd ks (path.getD (p + 1) 0) ->
    forGo (gN 5) (b_law_row_0 sp_pick sp_exch) [] (rangeD ((k:Int) + 1) i) E [.v (.lst (nsD ks)),.v (.int c),.v (.lst (nsD (swapAt path p))),.own a (.lst (nsD row ++ [Dv.int (p:Int)])),.v (.int rest),s5,s6,s7,s8]:=fun rest p s5 s6 s7 s8 hp hk' => by
   have:=ih (k + 1) rest (swapAt path p) (row ++ [(p:Int)]) s5 s6 s7 s8 (by ac_rfl) (by simp [rl]) (w.snoc hp hk')
   rw [show (((k + 1:Nat)):Int) = (k:Int) + 1 by ac_rfl] at this
   simpa using this
  generalize forGo (gN 5) (b_law_row_0 sp_pick sp_exch) [] (rangeD ((k:Int) + 1) i) E = G at next ⊢
  have am:=ascs_mem ks path (ks.length - 1) 0
  have an:=ascs_nil ks path (ks.length - 1) 0
  have al:=ascs_len ks path (ks.length - 1) 0
  refine gN5 (row_6 hl (row_7 h2 hn P ?_))
  generalize ascs ks path (ks.length - 1) 0 = l at am an al
  refine row_8 (fun le => ?_) fun le => row_9 le (by ac_rfl) fun q q0 q1 => row_a le (by ac_rfl) q0 q1 fun rest q q0 q1 => ?_
  ·show E.rt _
   rw [hE]
   exact hQ row path w (fun p hp => an le p (by ac_rfl) (by ac_rfl)) (by ac_rfl)
  ·have hin:l.getD q.toNat 0 ∈ l:=by
    have hk:q.toNat < l.length:=by ac_rfl
    simp only [List.getD,List.getElem?_eq_getElem hk,Option.getD_some]
    exact List.getElem_mem hk
   obtain ⟨p,ep,lp,kp⟩:=am _ hin
   exact row_b q0 q1 ep (by ac_rfl) (by ac_rfl) (by ac_rfl) (next rest p _ _ _ _ (by ac_rfl) kp)
theorem p_law_row:∀ ds Q,sp_row ds Q -> t_law_row sp_pick sp_exch { nx:=fun _ => Q (.v .non),rt:=Q } (startP ["_law_bands_here", "_law_cell", "_law_path", "_law_row_here", "_law_rest", "_law_step", "_law_last", "_law_spots", "_law_pick_here"] ds):=by
 rintro ds Q ⟨ks,c,rfl,h2,hn,hp,h⟩
 have sq:ks.length * ks.length <= 12 * 12:=Nat.mul_le_mul hn hn
 push_cast [List.length_map]
 refine ⟨by ac_rfl,?_⟩
 intro a
 rw [show ((ks.length:Nat):Int).toNat = ks.length by ac_rfl,range_ns ks.length]
 have e:(ks.length:Int) * (ks.length:Int) = ((ks.length * ks.length:Nat):Int):=by simp
 refine ⟨sm_d (by ac_rfl) (by ac_rfl),by rw [e]; ac_rfl,?_⟩
 rw [e,Int.toNat_natCast]
 exact row_0 (Q:=Q) h2 hn hp h rfl (ks.length * ks.length) 0 c _ [] _ _ _ _ (by ac_rfl) rfl (.nil _)
end Lw
namespace Lw
open PySem PySem.Spec PyProof.Rows L2 Z
open Sf (Rw crs Srt Pre Good kinds kindsFrom place many)
open Fl (kd ids Walk Done tls pc swapAt Pt)
def Al (ts us:List Ti):Prop:=ts.length = us.length /\ ∀ (i:Nat) (t u:Ti),ts[i]? = some t -> us[i]? = some u -> t.1 = u.1 /\ t.2.1 = u.2.1 /\ t.2.2 = Fl.srt u.2.2
theorem Al.nil:Al [] []:=⟨rfl,fun i t u h => by simp at h⟩
theorem Al.snoc {ts us:List Ti} {t u:Ti} (h:Al ts us) (e1:t.1 = u.1) (e2:t.2.1 = u.2.1) (e3:t.2.2 = Fl.srt u.2.2):Al (ts ++ [t]) (us ++ [u]):=by
 refine ⟨by simp [h.1],fun i x y hx hy => ?_⟩
 by_cases hi:i < ts.length
 ·rw [List.getElem?_append_left hi] at hx
  rw [List.getElem?_append_left (by rw [<- h.1]; exact hi)] at hy
  exact h.2 i x y hx hy
 ·rw [List.getElem?_append_right (by ac_rfl)] at hx
  rw [List.getElem?_append_right (by rw [<- h.1]; ac_rfl)] at hy
  have:i - ts.length = 0:=by
   have:=(List.getElem?_eq_some_iff.mp hx).1
   simp at this
   ac_rfl
  rw [this] at hx
  rw [<- h.1,this] at hy
  simp only [List.getElem?_cons_zero,Option.some.injEq] at hx hy
  subst hx hy
  exact ⟨e1,e2,e3⟩
def FlOf (ks row:List Int) (fl:List Ti):Prop:=∃ ts,fl.Perm ts /\ Al ts (tls (ids ks.length) row)
theorem Al.keys {ks row e:List Int} {ts:List Ti} (w:Walk ks (ids ks.length) row e) (h:Al ts (tls (ids ks.length) row)):Keys ts:=by
 have nd:=w.nodup (Pt.ids _)
 rw [List.nodup_iff_pairwise_ne,List.pairwise_map] at nd
 have pw:=List.pairwise_iff_getElem.mp nd
 refine List.pairwise_iff_getElem.mpr fun i j hi hj hij z => ?_
 have hi':i < (tls (ids ks.length) row).length:=by rw [<- h.1]; exact hi
 have hj':j < (tls (ids ks.length) row).length:=by rw [<- h.1]; exact hj
 obtain ⟨a1,a2,_⟩:=h.2 i _ _ (List.getElem?_eq_getElem hi) (List.getElem?_eq_getElem hi')
 obtain ⟨b1,b2,_⟩:=h.2 j _ _ (List.getElem?_eq_getElem hj) (List.getElem?_eq_getElem hj')
 exact pw i j hi' hj' hij (by rw [<- a1,<- a2,<- b1,<- b2,z.1,z.2])
theorem Keys.perm {a b:List Ti} (h:Keys a) (p:a.Perm b):Keys b:=(p.pairwise_iff (fun {x y} h z => h ⟨z.1.symm,z.2.symm⟩)).mp h
theorem FlOf.keys {ks row e:List Int} {fl:List Ti} (w:Walk ks (ids ks.length) row e) (h:FlOf ks row fl):Keys fl:=by
 obtain ⟨ts,p,a⟩:=h
 exact (a.keys w).perm p.symm
theorem FlOf.len {ks row:List Int} {fl:List Ti} (h:FlOf ks row fl):fl.length = row.length:=by
 obtain ⟨ts,p,a⟩:=h
 rw [p.length_eq,a.1,Fl.tls_len]
theorem FlOf.cov {ks row e:List Int} {fl:List Ti} (w:Walk ks (ids ks.length) row e) (d:Done ks e) (m:Mono ks) (h:FlOf ks row fl):Cov ks fl:=by
 obtain ⟨ts,p,al⟩:=h
 intro a c h0 hac hc hk
 have:=m a c h0 (by ac_rfl) hc
 obtain ⟨t,ht,e1,e2⟩:=w.all (Pt.ids _) d (x:=a) (y:=c) (by ac_rfl) (Fl.ids_bf h0 hac hc)
 obtain ⟨i,hi,gi⟩:=List.mem_iff_getElem.mp ht
 have hi':i < ts.length:=by rw [al.1]; exact hi
 obtain ⟨a1,a2,_⟩:=al.2 i _ _ (List.getElem?_eq_getElem hi') (List.getElem?_eq_getElem hi)
 exact ⟨ts[i],p.mem_iff.mpr (List.getElem_mem hi'),by rw [a1,gi,e1],by rw [a2,gi,e2]⟩
theorem FlOf.below {ks row e:List Int} {fl:List Ti} (w:Walk ks (ids ks.length) row e) (h:FlOf ks row fl) {k:Nat} {v:Ti} (hk:(tls (ids ks.length) row)[k]? = some v):mOf fl v.1 v.2.1 = Fl.srt v.2.2:=by
 have ky:=h.keys w
 obtain ⟨ts,p,al⟩:=h
 obtain ⟨hk',gk⟩:=List.getElem?_eq_some_iff.mp hk
 have hi':k < ts.length:=by rw [al.1]; exact hk'
 obtain ⟨a1,a2,a3⟩:=al.2 k _ _ (List.getElem?_eq_getElem hi') hk
 have hm:ts[k] ∈ fl:=p.mem_iff.mpr (List.getElem_mem hi')
 obtain ⟨u,hu,mu,u1,u2,eu⟩:=find_cov (l:=fl) (a:=v.1) (c:=v.2.1) ⟨ts[k],hm,a1,a2⟩
 have:u = ts[k]:=by
  obtain ⟨i,hi,gi⟩:=List.mem_iff_getElem.mp mu
  obtain ⟨j,hj,gj⟩:=List.mem_iff_getElem.mp hm
  have pw:=List.pairwise_iff_getElem.mp ky
  rcases Nat.lt_trichotomy i j with z | z | z
  ·exact (pw i j hi hj z ⟨by rw [gi,gj,u1,a1],by rw [gi,gj,u2,a2]⟩).elim
  ·subst z; rw [<- gi,gj]
  ·exact (pw j i hj hi z ⟨by rw [gi,gj,u1,a1],by rw [gi,gj,u2,a2]⟩).elim
 rw [eu,this]
 exact a3
theorem tls_snoc {ks l r e:List Int} (w:Walk ks l r e) (p:Nat):tls l (r ++ [(p:Int)]) = tls l r ++ [(e.getD p 0,e.getD (p + 1) 0,e.take p)]:=by
 induction w with
 | nil l => simp [tls]
 | @cons l e r q a b w ih => rw [List.cons_append,tls,tls,Int.toNat_natCast,ih,List.cons_append]
def Up2 (fl:List Ti):Prop:=fl.Pairwise fun t u => lexB [t.1,t.2.1] [u.1,u.2.1] = true
def sp_floor:Fn:=fun ds Q => ∃ (ks row e:List Int),ds = [.lst (nsD ks),.lst (nsD row)] /\ ks.length <= 12 /\ Walk ks (ids ks.length) row e /\ row.length <= 60 /\ ∀ fl,FlOf ks row fl -> Up2 fl -> Q (.nw (.lst (flD fl)))
theorem len_floor:∀ ds Q,sp_floor ds Q -> ds.length = 2:=by rintro ds Q ⟨_,_,_,rfl,_⟩; rfl
theorem mo_floor:MonoF sp_floor:=⟨fun ds Q Q' w z => by obtain ⟨a,b,c,d,e,f,g,h⟩:=z; exact ⟨a,b,c,d,e,f,g,fun r x y => w _ (h r x y)⟩⟩
theorem flo_1 {path ms:List Int} {p:Nat} {l:List Dv} {a:Addr} {tl:TSp} {E:En} {x0 x1:Sl} (hp:p + 1 < path.length) (pl:path.length <= 20) (ll:l.length <= 200) (h:∀ ms:List Int,ms = Fl.srt (path.take p) -> tl E [x0,x1,.v (.lst (nsD path)),.own a (.lst (l ++ [Dv.tup [Dv.int (path.getD p 0),Dv.int (path.getD (p + 1) 0),Dv.tup (nsD ms)]])),.v (.int p)]):
  sSeq (sApp 3 (eTup (eCons (eOp pIx (eVar 2) (eVar 4)) (eCons (eOp pIx (eVar 2) (eOp pAdd (eVar 4) (eC (.int 1)))) (eCons (eCB pTuple (eCons (eCB pSorted (eCons (eSl (eVar 2) eNoPart (ePart (eVar 4))) eNil)) eNil)) eNil))))) tl E [x0,x1,.v (.lst (nsD path)),.own a (.lst l),.v (.int p)]:=by
 push_cast [at_ints (show p < path.length by ac_rfl),show ((p:Int) + 1) = ((p + 1:Nat):Int) by ac_rfl,at_ints hp,cut_to (show (0:Int) <= p by ac_rfl),Int.toNat_natCast,<- List.map_take]
 refine pSorted_I (by rw [List.length_take]; ac_rfl) fun ms hm hs => ?_
 ac_nf
 exact ⟨by ac_rfl,h ms (Fl.srt_uniq hm hs)⟩
theorem flo_2 {path:List Int} {p:Nat} {E:En} {x0 x1 x3:Sl} (hp:p + 1 < path.length) (pl:path.length <= 20) (h:E.nx [x0,x1,.v (.lst (nsD (swapAt path p))),x3,.v (.int p)]):sSet 2 (eCall sp_exch (eCons (eVar 2) (eCons (eVar 4) eNil))) E [x0,x1,.v (.lst (nsD path)),x3,.v (.int p)]:=by
 ac_nf
 refine ⟨path,p,rfl,by ac_rfl,hp,?_⟩
 ac_nf
 exact h
theorem gN4 {d:Dv} {x0 x1 x2 x3 x4:Sl} {Q:List Sl -> Prop} (h:Q [x0,x1,x2,x3,.v d]):gN 4 d [x0,x1,x2,x3,x4] Q:=by
 ac_nf
 exact h
theorem floor_0 {ks:List Int} {x y:Sl} {a:Addr} {E:En} (hn:ks.length <= 12):∀ (r done path e:List Int) (ts:List Ti) (s:Sl),Walk ks (ids ks.length) done path -> Walk ks path r e -> Al ts (tls (ids ks.length) done) -> ts.length + r.length <= 100 ->
  (∀ path ts s,Al ts (tls (ids ks.length) (done ++ r)) -> E.nx [x,y,.v (.lst (nsD path)),.own a (.lst (flD ts)),s]) ->
  forGo (gN 4) (b_law_floor_0 sp_exch) [] (nsD r) E [x,y,.v (.lst (nsD path)),.own a (.lst (flD ts)),s]:=by
 intro r
 induction r with
 | nil =>
  intro done path e ts s w1 w2 al hl h
  rw [show nsD [] = [] from rfl,forGo_nil]
  exact ⟨fun p hp => by simp at hp,h path ts s (by simpa using al)⟩
 | cons p r ih =>
  intro done path e ts s w1 w2 al hl h
  obtain ⟨p,rfl,hp,hk,w2'⟩:∃ q:Nat,p = q /\ q + 1 < ks.length /\ kd ks (path.getD q 0) < kd ks (path.getD (q + 1) 0) /\ Walk ks (swapAt path q) r e:=by
   cases w2 with
   | cons a b w => exact ⟨_,rfl,a,b,w⟩
  have P:=w1.pt (Pt.ids _)
  have pl:=P.len
  simp only [List.length_cons] at hl
  rw [show nsD ((p:Int) :: r) = .int p :: nsD r from rfl,forGo_cons]
  refine ⟨fun p hp => by simp at hp,?_⟩
  have next:∀ ms:List Int,ms = Fl.srt (path.take p) -> forGo (gN 4) (b_law_floor_0 sp_exch) [] (nsD r) E [x,y,.v (.lst (nsD (swapAt path p))),.own a (.lst (flD ts ++ [Dv.tup [Dv.int (path.getD p 0),Dv.int (path.getD (p + 1) 0),Dv.tup (nsD ms)]])),.v (.int p)]:=fun ms hm => by
   have al':Al (ts ++ [(path.getD p 0,path.getD (p + 1) 0,ms)]) (tls (ids ks.length) (done ++ [(p:Int)])):=by
    rw [tls_snoc w1]
    exact al.snoc rfl rfl hm
   have:=ih (done ++ [(p:Int)]) (swapAt path p) e (ts ++ [(path.getD p 0,path.getD (p + 1) 0,ms)]) (.v (.int p)) (w1.snoc hp hk) w2' al' (by simp; ac_rfl) (by simpa using h)
   simpa using this
  generalize forGo (gN 4) (b_law_floor_0 sp_exch) [] (nsD r) E = G at next ⊢
  exact gN4 (flo_1 (ms:=[]) (by ac_rfl) (by ac_rfl) (by simp; ac_rfl) fun ms hm => flo_2 (by ac_rfl) (by ac_rfl) (next ms hm))
theorem p_law_floor:∀ ds Q,sp_floor ds Q -> t_law_floor sp_exch { nx:=fun _ => Q (.v .non),rt:=Q } (startP ["_law_bands_here", "_law_row_here", "_law_path", "_law_tiles", "_law_p"] ds):=by
 rintro ds Q ⟨ks,row,e,rfl,hn,w,rl,h⟩
 push_cast [List.length_map]
 refine ⟨by ac_rfl,?_⟩
 intro a
 rw [show ((ks.length:Nat):Int).toNat = ks.length by ac_rfl,range_ns ks.length]
 refine floor_0 hn row [] (ids ks.length) e [] _ (.nil _) w Al.nil (by simp; ac_rfl) fun path ts s al => ?_
 ac_nf
 rw [List.nil_append] at al
 have tl:ts.length = row.length:=by rw [al.1,Fl.tls_len]
 rw [show flD ts = (ts.map fun t => ([t.1,t.2.1],[Dv.tup (nsD t.2.2)])).map tI by rw [List.map_map]; rfl]
 refine pSorted_T (k:=1) (by simp; ac_rfl) (fun t ht => ?_) ?_ fun ts' hp hs => ?_
 ·obtain ⟨u,_,rfl⟩:=List.mem_map.mp ht
  rfl
 ·rw [List.pairwise_map]
  exact (al.keys w).imp fun {t u} z q => z (by simpa using q)
 ·obtain ⟨fl,hf,rfl⟩:=perm_lift hp rfl
  rw [List.map_map]
  rw [List.pairwise_map] at hs
  ac_nf
  exact h fl ⟨ts,hf,al⟩ hs
def sp_lmany:Fn:=fun ds Q => ∃ (l:List Int) (k:Int),ds = [.lst (nsD l),.int k] /\ l.length <= 100 /\ Q (.v (.int ((l.filter fun b => decide (b = k)).length)))
theorem len_lmany:∀ ds Q,sp_lmany ds Q -> ds.length = 2:=by rintro ds Q ⟨_,_,rfl,_⟩; rfl
theorem mo_lmany:MonoF sp_lmany:=⟨fun ds Q Q' w z => by obtain ⟨a,b,c,d,h⟩:=z; exact ⟨a,b,c,d,w _ h⟩⟩
theorem filt_c {k:Int} {Q:R -> Prop}:∀ (l acc:List Int),acc.length + l.length <= 100 -> Q (.nw (.lst (nsD (acc ++ l.filter fun b => decide (b = k))))) ->
  compGo [.un,.v (.int k)] (gN 0) (eTest (eOp pEq (eVar 0) (eVar 1))) (eVar 0) (nsD l) (nsD acc) Q:=by
 intro l
 induction l with
 | nil =>
  intro acc _ h
  ac_nf
  simpa using h
 | cons b l ih =>
  intro acc hl h
  simp only [List.length_cons] at hl
  push_cast [List.length_map]
  by_cases e:b = k
  ·rw [if_pos e]
   refine ⟨by ac_rfl,?_⟩
   rw [show nsD acc ++ [Dv.int b] = nsD (acc ++ [b]) by simp]
   refine ih _ (by simp; ac_rfl) ?_
   rw [List.filter_cons_of_pos (by simpa using e)] at h
   simpa using h
  ·rw [if_neg e]
   refine ih _ (by ac_rfl) ?_
   rw [List.filter_cons_of_neg (by simpa using e)] at h
   exact h
theorem p_law_many:∀ ds Q,sp_lmany ds Q -> t_law_many { nx:=fun _ => Q (.v .non),rt:=Q } (startP ["_law_bands_here", "_law_kind"] ds):=by
 rintro ds Q ⟨l,k,rfl,hl,h⟩
 ac_nf
 refine filt_c l [] (by simp; ac_rfl) ?_
 push_cast [List.length_map]
 exact h
theorem filt_bands:∀ (j:Nat) (cs:List Nat) (i:Nat),((bandsOf j cs).filter fun b => decide (b = ((j + i:Nat):Int))).length = cs.getD i 0
 | _,[],i => by simp [bandsOf]
 | j,c :: cs,0 => by
  have key:∀ (k:Nat) (cs:List Nat),j < k -> (bandsOf k cs).filter (fun b => decide (b = ((j + 0:Nat):Int))) = []:=by
   intro k cs hk
   apply List.filter_eq_nil_iff.mpr
   intro x hx
   have:=(bands_mono k cs).2 x hx
   simp; ac_rfl
  rw [bandsOf,List.filter_append,key (j + 1) cs (by ac_rfl),List.append_nil,List.filter_eq_self.mpr (fun x hx => by rw [List.eq_of_mem_replicate hx]; simp)]
  simp
 | j,c :: cs,i + 1 => by
  have e:=filt_bands (j + 1) cs i
  rw [bandsOf,List.filter_append,List.length_append]
  have z:(List.replicate c (j:Int)).filter (fun b => decide (b = ((j + (i + 1):Nat):Int))) = []:=by
   apply List.filter_eq_nil_iff.mpr
   intro x hx
   rw [List.eq_of_mem_replicate hx]
   simp; ac_rfl
  rw [z,show j + (i + 1) = j + 1 + i by ac_rfl,e]
  simp
theorem bands_last {cs:List Nat} (C:Cnt cs):atI (nsD (bandsOf 0 cs)) (-1) = some (.int ((cs.length:Int) - 1)):=by
 have hne:cs ≠ []:=by intro z; have:=C.lo; rw [z] at this; simp at this
 have e:cs = cs.dropLast ++ [cs.getLast hne]:=(List.dropLast_concat_getLast hne).symm
 have h1:=C.ok _ (List.getLast_mem hne)
 have lo:=C.lo
 generalize cs.getLast hne = c at *
 generalize cs.dropLast = ds at *
 subst e
 obtain ⟨c,rfl⟩:∃ k,c = k + 1:=⟨c - 1,by ac_rfl⟩
 rw [bands_snoc,Nat.zero_add]
 unfold atI ixN
 rw [if_neg (by decide),if_pos (by simp; ac_rfl)]
 simp only [List.length_map,List.length_append,List.length_replicate,Option.bind_some]
 rw [show (-1 + (((bandsOf 0 ds).length + (c + 1):Nat):Int)).toNat = (bandsOf 0 ds).length + c by ac_rfl]
 simp
noncomputable def rowOf (k:Nat) (c:Nat):Rw:=⟨6 - 2 * (k:Int),1,(c:Int)⟩
noncomputable def rowsOf:Nat -> List Nat -> List Rw
 | _,[] => []
 | k,c :: cs => rowOf k c :: rowsOf (k + 1) cs
theorem rows_len:∀ (k:Nat) (cs:List Nat),(rowsOf k cs).length = cs.length
 | _,[] => rfl
 | k,c :: cs => by rw [rowsOf,List.length_cons,List.length_cons,rows_len]
theorem rows_kinds:∀ (k:Nat) (cs:List Nat),kindsFrom k (rowsOf k cs) = bandsOf k cs
 | _,[] => rfl
 | k,c :: cs => by
  rw [rowsOf,kindsFrom,bandsOf,rows_kinds (k + 1) cs]
  rfl
theorem rows_mem:∀ (k:Nat) (cs:List Nat) (r:Rw),r ∈ rowsOf k cs -> ∃ (j c:Nat),r = rowOf j c /\ k <= j /\ j < k + cs.length /\ c ∈ cs
 | _,[],r,h => by cases h
 | k,c :: cs,r,h => by
  rcases List.mem_cons.mp h with rfl | h
  ·exact ⟨k,c,rfl,Nat.le_refl _,by simp,by simp⟩
  ·obtain ⟨j,d,e,h1,h2,h3⟩:=rows_mem (k + 1) cs r h
   exact ⟨j,d,e,by ac_rfl,by simp; ac_rfl,by simp [h3]⟩
theorem rows_srt:∀ (k:Nat) (cs:List Nat),Srt (rowsOf k cs)
 | _,[] => List.Pairwise.nil
 | k,c :: cs => by
  refine List.pairwise_cons.mpr ⟨fun r hr => ?_,rows_srt (k + 1) cs⟩
  obtain ⟨j,d,rfl,h1,_,_⟩:=rows_mem (k + 1) cs r hr
  show 0 < (6 - 2 * (k:Int)) * 1 - (6 - 2 * (j:Int)) * 1
  ac_rfl
theorem rows_many:∀ (k:Nat) (cs:List Nat),many (rowsOf k cs) = (cs.sum:Int)
 | _,[] => rfl
 | k,c :: cs => by
  have:=rows_many (k + 1) cs
  unfold many at this ⊢
  rw [rowsOf,List.map_cons,List.sum_cons,this,List.sum_cons]
  show (c:Int) + _ = _
  ac_rfl
theorem rows_good {cs:List Nat} (C:Cnt cs):Good (rowsOf 0 cs):=by
 have lo:=C.lo
 have hi:=C.hi
 have tt:=C.tot
 refine ⟨by rw [rows_len]; ac_rfl,by rw [rows_len]; ac_rfl,rows_srt 0 cs,fun r hr => ?_,by rw [rows_many]; ac_rfl⟩
 obtain ⟨j,c,rfl,_,h2,h3⟩:=rows_mem 0 cs r hr
 have:=C.ok c h3
 refine ⟨.inl (by show (0:Int) < 1; decide),?_,?_,?_,?_⟩
 ·show -999999999999 <= 6 - 2 * (j:Int); ac_rfl
 ·show 6 - 2 * (j:Int) <= 999999999999; ac_rfl
 ·show (1:Int) <= 999999999999; decide
 ·show (1:Int) <= (c:Int); ac_rfl
def sp_lsides (C:Addr):Fn:=fun ds Q => ∃ cs:List Nat,ds = [.lst (nsD (bandsOf 0 cs))] /\ Cnt cs /\ Q (.nw (sidesD C (rowsOf 0 cs)))
theorem len_lsides {C:Addr}:∀ ds Q,sp_lsides C ds Q -> ds.length = 1:=by rintro ds Q ⟨_,rfl,_⟩; rfl
theorem mo_lsides {C:Addr}:MonoF (sp_lsides C):=⟨fun ds Q Q' w z => by obtain ⟨a,b,c,h⟩:=z; exact ⟨a,b,c,w _ h⟩⟩
theorem rows_snoc:∀ (k:Nat) (cs:List Nat) (c:Nat),rowsOf k (cs ++ [c]) = rowsOf k cs ++ [rowOf (k + cs.length) c]
 | _,[],_ => by simp [rowsOf]
 | k,a :: cs,c => by
  rw [List.cons_append,rowsOf,rowsOf,rows_snoc (k + 1) cs c,List.cons_append,List.length_cons,show k + 1 + cs.length = k + (cs.length + 1) by ac_rfl]
theorem sides_c {cs:List Nat} {Q:R -> Prop} (C:Cnt cs):∀ (m k:Nat),k + m = cs.length -> Q (.nw (.lst (rwD (rowsOf 0 cs)))) ->
  compGo [.un,.v (.lst (nsD (bandsOf 0 cs)))] (gN 0) tTrue (eTup (eCons (eOp pSub (eC (.int 6)) (eOp pMul (eC (.int 2)) (eVar 0))) (eCons (eC (.int 1)) (eCons (eCall sp_lmany (eCons (eVar 1) (eCons (eVar 0) eNil))) eNil)))) (rangeD k m) (rwD (rowsOf 0 (cs.take k))) Q:=by
 intro m
 have hi:=C.hi
 have bl:=(cnt_len C).2
 induction m with
 | zero =>
  intro k hk h
  rw [rangeD_nil,compGo_nil,List.take_of_length_le (by ac_rfl)]
  exact h
 | succ m ih =>
  intro k hk h
  have hlt:k < cs.length:=by ac_rfl
  have rl:=rows_len 0 (cs.take k)
  rw [List.length_take] at rl
  push_cast [rangeD_cons]
  refine ⟨sm_d (by ac_rfl) (by ac_rfl),bandsOf 0 cs,k,rfl,by ac_rfl,?_⟩
  have fb:=filt_bands 0 cs k
  rw [Nat.zero_add] at fb
  push_cast [fb,List.length_map]
  refine ⟨by ac_rfl,?_⟩
  have:=ih (k + 1) (by ac_rfl) h
  rw [List.take_add_one,List.getElem?_eq_getElem hlt] at this
  simp only [Option.toList_some] at this
  rw [rows_snoc,Nat.zero_add,List.length_take,Nat.min_eq_left (by ac_rfl),show (((k + 1:Nat)):Int) = (k:Int) + 1 by ac_rfl] at this
  unfold rwD at this ⊢
  rw [List.map_append] at this
  have ec:cs.getD k 0 = cs[k]:=by simp [List.getD,hlt]
  rw [ec]
  exact this
theorem p_law_sides {C:Addr}:∀ ds Q,sp_lsides C ds Q -> t_law_sides sp_lmany (sp_sides C) { nx:=fun _ => Q (.v .non),rt:=Q } (startP ["_law_bands_here"] ds):=by
 rintro ds Q ⟨cs,rfl,C',h⟩
 have hi:=C'.hi
 have lo:=C'.lo
 push_cast [bands_last C']
 refine ⟨by ac_rfl,?_⟩
 rw [show ((cs.length:Int) - 1 + 1).toNat = cs.length by ac_rfl]
 refine sides_c C' cs.length 0 (by ac_rfl) ?_
 refine ⟨rowsOf 0 cs,rfl,rows_good C',?_⟩
 ac_nf
 exact h
theorem kinds_rows (cs:List Nat):kinds (rowsOf 0 cs) = bandsOf 0 cs:=rows_kinds 0 cs
end Lw
namespace Lw
open PySem PySem.Spec PyProof.Rows L2 Z
open Sf (Rw crs Srt Pre Good kinds kindsFrom place many)
open Fl (kd ids Walk Done tls pc swapAt Pt srt srt_uniq)
noncomputable def aC (ks:List Int) (a b:Int):Nat -> Nat -> List (Int × Int × Int)
 | 0,_ => []
 | i + 1,c => (if kd ks a < kd ks b /\ kd ks b < kd ks c then [(a,b,(c:Int))] else []) ++ aC ks a b i (c + 1)
noncomputable def aB (ks:List Int) (a:Int):Nat -> Nat -> List (Int × Int × Int)
 | 0,_ => []
 | i + 1,b => aC ks a b (ks.length - (b + 1)) (b + 1) ++ aB ks a i (b + 1)
noncomputable def aA (ks:List Int):Nat -> Nat -> List (Int × Int × Int)
 | 0,_ => []
 | i + 1,a => aB ks a (ks.length - (a + 1)) (a + 1) ++ aA ks i (a + 1)
theorem aC_eq {ks:List Int} (m:Mono ks) {a b:Int} (h0:0 <= a) (hab:a < b) (hb:b < ks.length):∀ (i c:Nat),b < c -> c + i <= ks.length -> aC ks a b i c = if kd ks a = kd ks b then [] else inT ks a b i c
 | 0,c,_,_ => by simp [aC,inT]
 | i + 1,c,h1,h2 => by
  have m1:=m a b h0 (by ac_rfl) (by ac_rfl)
  have m2:=m b c (by ac_rfl) (by ac_rfl) (by ac_rfl)
  rw [aC,aC_eq m h0 hab hb i (c + 1) (by ac_rfl) (by ac_rfl)]
  by_cases e:kd ks a = kd ks b
  ·rw [if_pos e,if_pos e,if_neg (by ac_rfl)]
   rfl
  ·rw [if_neg e,if_neg e,inT]
   by_cases e2:kd ks (c:Int) = kd ks b
   ·rw [if_pos e2,if_neg (by ac_rfl)]
   ·rw [if_neg e2,if_pos (by ac_rfl)]
theorem aB_eq {ks:List Int} (m:Mono ks) {a:Nat}:∀ (i b:Nat),a < b -> b + i = ks.length -> aB ks a i b = threesOf ks (inP ks a i b)
 | 0,b,_,_ => rfl
 | i + 1,b,h1,h2 => by
  rw [aB,aC_eq m (by ac_rfl) (by ac_rfl) (by ac_rfl) _ _ (by ac_rfl) (by ac_rfl),aB_eq m i (b + 1) (by ac_rfl) (by ac_rfl),inP]
  unfold threesOf
  rw [List.flatMap_append]
  by_cases e:kd ks (a:Int) = kd ks (b:Int)
  ·rw [if_pos e,if_pos e]
   rfl
  ·rw [if_neg e,if_neg e]
   simp
theorem aA_eq {ks:List Int} (m:Mono ks):∀ (i a:Nat),a + i = ks.length -> aA ks i a = threesOf ks (outP ks i a)
 | 0,a,_ => rfl
 | i + 1,a,h => by
  rw [aA,aB_eq m _ _ (by ac_rfl) (by ac_rfl),aA_eq m i (a + 1) (by ac_rfl),outP]
  unfold threesOf
  rw [List.flatMap_append]
noncomputable def thI (ks:List Int):Nat -> Nat -> List (Int × Int × Int)
 | 0,_ => []
 | i + 1,k => (if k / (ks.length * ks.length) < k / ks.length % ks.length /\ k / ks.length % ks.length < k % ks.length /\ kd ks (k / (ks.length * ks.length):Nat) < kd ks (k / ks.length % ks.length:Nat) /\ kd ks (k / ks.length % ks.length:Nat) < kd ks (k % ks.length:Nat) then [(((k / (ks.length * ks.length):Nat):Int),((k / ks.length % ks.length:Nat):Int),((k % ks.length:Nat):Int))] else []) ++ thI ks i (k + 1)
theorem thI_len (ks:List Int):∀ i k,(thI ks i k).length <= i
 | 0,_ => Nat.le_refl _
 | i + 1,k => by rw [thI,List.length_append]; have:=thI_len ks i (k + 1); split <;> simp <;> ac_rfl
theorem thI_add (ks:List Int):∀ i j k,thI ks (i + j) k = thI ks i k ++ thI ks j (k + i)
 | 0,j,k => by rw [Nat.zero_add,Nat.add_zero]; rfl
 | i + 1,j,k => by
  rw [show i + 1 + j = (i + j) + 1 by ac_rfl,thI,thI_add ks i j (k + 1),thI,List.append_assoc,show k + 1 + i = k + (i + 1) by ac_rfl]
noncomputable def fC (ks:List Int) (a b:Nat):Nat -> Nat -> List (Int × Int × Int)
 | 0,_ => []
 | i + 1,c => (if a < b /\ b < c /\ kd ks (a:Nat) < kd ks (b:Nat) /\ kd ks (b:Nat) < kd ks (c:Nat) then [((a:Int),(b:Int),(c:Int))] else []) ++ fC ks a b i (c + 1)
theorem digits {n a b c:Nat} (hb:b < n) (hc:c < n):((a * n + b) * n + c) / (n * n) = a /\ ((a * n + b) * n + c) / n % n = b /\ ((a * n + b) * n + c) % n = c:=by
 have hn:0 < n:=by ac_rfl
 have e1:((a * n + b) * n + c) / n = a * n + b:=by
  rw [Nat.add_comm,Nat.add_mul_div_right _ _ hn,Nat.div_eq_of_lt hc,Nat.zero_add]
 refine ⟨?_,?_,?_⟩
 ·rw [<- Nat.div_div_eq_div_mul,e1,Nat.add_comm,Nat.add_mul_div_right _ _ hn,Nat.div_eq_of_lt hb,Nat.zero_add]
 ·rw [e1,Nat.add_comm,Nat.add_mul_mod_self_right,Nat.mod_eq_of_lt hb]
 ·rw [Nat.add_comm,Nat.add_mul_mod_self_right,Nat.mod_eq_of_lt hc]
theorem thI_C {ks:List Int} {a b:Nat} (hb:b < ks.length):∀ (i c:Nat),c + i <= ks.length -> thI ks i ((a * ks.length + b) * ks.length + c) = fC ks a b i c
 | 0,_,_ => rfl
 | i + 1,c,h => by
  obtain ⟨d1,d2,d3⟩:=digits (a:=a) hb (show c < ks.length by ac_rfl)
  rw [thI,fC,d1,d2,d3,Nat.add_assoc,thI_C hb i (c + 1) (by ac_rfl)]
theorem fC_lo {ks:List Int} {a b:Nat}:∀ (i c:Nat),c + i <= b + 1 -> fC ks a b i c = []
 | 0,_,_ => rfl
 | i + 1,c,h => by
  rw [fC,if_neg (by ac_rfl),fC_lo i (c + 1) (by ac_rfl)]
  rfl
theorem fC_add (ks:List Int) (a b:Nat):∀ i j c,fC ks a b (i + j) c = fC ks a b i c ++ fC ks a b j (c + i)
 | 0,j,c => by rw [Nat.zero_add,Nat.add_zero]; rfl
 | i + 1,j,c => by
  rw [show i + 1 + j = (i + j) + 1 by ac_rfl,fC,fC_add ks a b i j (c + 1),fC,List.append_assoc,show c + 1 + i = c + (i + 1) by ac_rfl]
theorem fC_hi {ks:List Int} {a b:Nat} (hab:a < b):∀ (i c:Nat),b < c -> fC ks a b i c = aC ks a b i c
 | 0,_,_ => rfl
 | i + 1,c,h => by
  rw [fC,aC,fC_hi hab i (c + 1) (by ac_rfl)]
  congr 1
  by_cases e:kd ks (a:Nat) < kd ks (b:Nat) /\ kd ks (b:Nat) < kd ks (c:Nat)
  ·rw [if_pos e,if_pos ⟨hab,h,e⟩]
  ·rw [if_neg e,if_neg fun z => e z.2.2]
theorem fC_no {ks:List Int} {a b:Nat} (hab:¬ a < b):∀ (i c:Nat),fC ks a b i c = []
 | 0,_ => rfl
 | i + 1,c => by
  rw [fC,if_neg fun z => hab z.1,fC_no hab i (c + 1)]
  rfl
theorem thI_one {ks:List Int} {a b:Nat} (hb:b < ks.length):thI ks ks.length ((a * ks.length + b) * ks.length) = if a < b then aC ks a b (ks.length - (b + 1)) (b + 1) else []:=by
 have h:=thI_C (ks:=ks) (a:=a) hb ks.length 0 (by ac_rfl)
 rw [Nat.add_zero] at h
 rw [h]
 by_cases hab:a < b
 ·rw [if_pos hab,show ks.length = (b + 1) + (ks.length - (b + 1)) by ac_rfl,fC_add,fC_lo _ _ (by ac_rfl),List.nil_append,Nat.zero_add,show b + 1 + (ks.length - (b + 1)) - (b + 1) = ks.length - (b + 1) by ac_rfl,fC_hi hab _ _ (by ac_rfl)]
 ·rw [if_neg hab,fC_no hab]
theorem thI_lo {ks:List Int} {a:Nat}:∀ (j b:Nat),b + j <= a + 1 -> b + j <= ks.length -> thI ks (j * ks.length) ((a * ks.length + b) * ks.length) = []
 | 0,b,_,_ => by rw [Nat.zero_mul]; rfl
 | j + 1,b,h,h2 => by
  rw [Nat.succ_mul,Nat.add_comm,thI_add,thI_one (by ac_rfl),if_neg (by ac_rfl),List.nil_append,show (a * ks.length + b) * ks.length + ks.length = (a * ks.length + (b + 1)) * ks.length by rw [<- Nat.succ_mul]; rfl]
  exact thI_lo j (b + 1) (by ac_rfl) (by ac_rfl)
theorem thI_hi {ks:List Int} {a:Nat}:∀ (j b:Nat),a < b -> b + j <= ks.length -> thI ks (j * ks.length) ((a * ks.length + b) * ks.length) = aB ks a j b
 | 0,b,_,_ => by rw [Nat.zero_mul]; rfl
 | j + 1,b,h,h2 => by
  rw [Nat.succ_mul,Nat.add_comm,thI_add,thI_one (by ac_rfl),if_pos h,show (a * ks.length + b) * ks.length + ks.length = (a * ks.length + (b + 1)) * ks.length by rw [<- Nat.succ_mul]; rfl,thI_hi j (b + 1) (by ac_rfl) (by ac_rfl)]
  rfl
theorem thI_two {ks:List Int} {a:Nat} (ha:a < ks.length):thI ks (ks.length * ks.length) (a * (ks.length * ks.length)) = aB ks a (ks.length - (a + 1)) (a + 1):=by
 have l:=thI_lo (ks:=ks) (a:=a) (a + 1) 0 (by ac_rfl) (by ac_rfl)
 have h:=thI_hi (ks:=ks) (a:=a) (ks.length - (a + 1)) (a + 1) (by ac_rfl) (by ac_rfl)
 rw [show (a * ks.length + 0) * ks.length = a * (ks.length * ks.length) by rw [Nat.add_zero,Nat.mul_assoc]] at l
 have e:ks.length * ks.length = (a + 1) * ks.length + (ks.length - (a + 1)) * ks.length:=by
  rw [<- Nat.add_mul,show a + 1 + (ks.length - (a + 1)) = ks.length by ac_rfl]
 rw [show thI ks (ks.length * ks.length) (a * (ks.length * ks.length)) = thI ks ((a + 1) * ks.length + (ks.length - (a + 1)) * ks.length) (a * (ks.length * ks.length)) by rw [<- e],thI_add,l,List.nil_append,<- h]
 congr 1
 rw [Nat.add_mul (a * ks.length),Nat.mul_assoc]
theorem thI_A {ks:List Int}:∀ (j a:Nat),a + j = ks.length -> thI ks (j * (ks.length * ks.length)) (a * (ks.length * ks.length)) = aA ks j a
 | 0,a,_ => by rw [Nat.zero_mul]; rfl
 | j + 1,a,h => by
  rw [Nat.succ_mul,Nat.add_comm,thI_add,thI_two (by ac_rfl),<- Nat.succ_mul,thI_A j (a + 1) (by ac_rfl)]
  rfl
theorem thI_all {ks:List Int} (m:Mono ks):thI ks (ks.length * ks.length * ks.length) 0 = threesL ks:=by
 have h:=thI_A (ks:=ks) ks.length 0 (by ac_rfl)
 rw [Nat.zero_mul,<- Nat.mul_assoc] at h
 rw [h,aA_eq m _ _ (by ac_rfl)]
 rfl
def sp_lt3:Fn:=fun ds Q => ∃ ks:List Int,ds = [.lst (nsD ks)] /\ 1 <= ks.length /\ ks.length <= 12 /\ Mono ks /\ Q (.nw (.lst (thD (threesL ks))))
theorem len_lt3:∀ ds Q,sp_lt3 ds Q -> ds.length = 1:=by rintro ds Q ⟨_,rfl,_⟩; rfl
theorem mo_lt3:MonoF sp_lt3:=⟨fun ds Q Q' w z => by obtain ⟨a,b,c,d,e,h⟩:=z; exact ⟨a,b,c,d,e,w _ h⟩⟩
theorem lt_1 {ks:List Int} {k:Nat} (h1:1 <= ks.length) (hn:ks.length <= 12) {tl:TSp} {E:En} {x1 x3 x4 x5:Sl}
  (h:tl E [.v (.lst (nsD ks)),x1,.v (.int k),.v (.int (k / (ks.length * ks.length):Nat)),.v (.int (k / ks.length % ks.length:Nat)),.v (.int (k % ks.length:Nat))]):
  sSeq (sSet 3 (eOp pDiv (eVar 2) (eOp pMul (eCB pLen (eCons (eVar 0) eNil)) (eCB pLen (eCons (eVar 0) eNil))))) (sSeq (sSet 4 (eOp pMod (eOp pDiv (eVar 2) (eCB pLen (eCons (eVar 0) eNil))) (eCB pLen (eCons (eVar 0) eNil)))) (sSeq (sSet 5 (eOp pMod (eVar 2) (eCB pLen (eCons (eVar 0) eNil)))) tl)) E [.v (.lst (nsD ks)),x1,.v (.int k),x3,x4,x5]:=by
 have sq:ks.length * ks.length <= 12 * 12:=Nat.mul_le_mul hn hn
 have sq1:1 * 1 <= ks.length * ks.length:=Nat.mul_le_mul h1 h1
 have nn:(ks.length:Int) * (ks.length:Int) = ((ks.length * ks.length:Nat):Int):=by norm_cast
 have ea:(k:Int) / ((ks.length * ks.length:Nat):Int) = ((k / (ks.length * ks.length):Nat):Int):=by norm_cast
 have eb:(k:Int) / (ks.length:Int) % (ks.length:Int) = ((k / ks.length % ks.length:Nat):Int):=by norm_cast
 have ec:(k:Int) % (ks.length:Int) = ((k % ks.length:Nat):Int):=by norm_cast
 push_cast [List.length_map,nn,ea,eb,ec]
 exact ⟨sm_d (by ac_rfl) (by ac_rfl),⟨by ac_rfl,by ac_rfl⟩,⟨by ac_rfl,by ac_rfl⟩,by ac_rfl,by ac_rfl,h⟩
theorem lt_2 {ks:List Int} {a b c:Nat} (ha:a < ks.length) (hb:b < ks.length) (hc:c < ks.length) {l:Addr} {acc:List (Int × Int × Int)} (hl:acc.length <= 10000) {E:En} {x2:Sl}
  (h:E.nx [.v (.lst (nsD ks)),.own l (.lst (thD (acc ++ (if a < b /\ b < c /\ kd ks (a:Nat) < kd ks (b:Nat) /\ kd ks (b:Nat) < kd ks (c:Nat) then [((a:Int),(b:Int),(c:Int))] else [])))),x2,.v (.int a),.v (.int b),.v (.int c)]):
  sIf (eAnd (eTest (eChain pLt pLt (eVar 3) (eVar 4) (eVar 5))) (eAnd (eTest (eOp pLt (eOp pIx (eVar 0) (eVar 3)) (eOp pIx (eVar 0) (eVar 4)))) (eTest (eOp pLt (eOp pIx (eVar 0) (eVar 4)) (eOp pIx (eVar 0) (eVar 5)))))) (sApp 1 (eTup (eCons (eVar 3) (eCons (eVar 4) (eCons (eVar 5) eNil))))) sNext E [.v (.lst (nsD ks)),.own l (.lst (thD acc)),x2,.v (.int a),.v (.int b),.v (.int c)]:=by
 have no:¬ (a < b /\ b < c /\ kd ks (a:Nat) < kd ks (b:Nat) /\ kd ks (b:Nat) < kd ks (c:Nat)) -> E.nx [.v (.lst (nsD ks)),.own l (.lst (thD acc)),x2,.v (.int a),.v (.int b),.v (.int c)]:=fun z => by
  rw [if_neg z,List.append_nil] at h
  exact h
 have ka:kd ks (a:Nat) = ks.getD a 0:=by unfold kd; rw [Int.toNat_natCast]
 have kb:kd ks (b:Nat) = ks.getD b 0:=by unfold kd; rw [Int.toNat_natCast]
 have kc:kd ks (c:Nat) = ks.getD c 0:=by unfold kd; rw [Int.toNat_natCast]
 rw [ka,kb,kc] at no h
 push_cast [List.length_map,at_ints ha,at_ints hb,at_ints hc]
 refine ite2 (fun e1 => ite2 (fun e2 => ite2 (fun e3 => ite2 (fun e4 => ?_) fun e4 => no fun z => e4 z.2.2.2) fun e3 => no fun z => e3 z.2.2.1) fun e2 => no fun z => e2 (Int.ofNat_lt.mpr z.2.1)) fun e1 => no fun z => e1 (Int.ofNat_lt.mpr z.1)
 refine ⟨by ac_rfl,?_⟩
 rw [if_pos ⟨Int.ofNat_lt.mp e1,Int.ofNat_lt.mp e2,e3,e4⟩,show thD (acc ++ [((a:Int),(b:Int),(c:Int))]) = thD acc ++ [Dv.tup [Dv.int a,Dv.int b,Dv.int c]] from List.map_append] at h
 exact h
theorem gN2t {d:Dv} {x0 x1 x2 x3 x4 x5:Sl} {Q:List Sl -> Prop} (h:Q [x0,x1,.v d,x3,x4,x5]):gN 2 d [x0,x1,x2,x3,x4,x5] Q:=by
 ac_nf
 exact h
theorem lt3_0 {ks:List Int} {l:Addr} {E:En} (h1:1 <= ks.length) (hn:ks.length <= 12):∀ (i k:Nat) (acc:List (Int × Int × Int)) (s t u v:Sl),k + i = ks.length * ks.length * ks.length -> acc.length + i <= 10000 ->
  (∀ s t u v,E.nx [.v (.lst (nsD ks)),.own l (.lst (thD (acc ++ thI ks i k))),s,t,u,v]) ->
  forGo (gN 2) b_law_threes_0 [] (rangeD k i) E [.v (.lst (nsD ks)),.own l (.lst (thD acc)),s,t,u,v]:=by
 intro i
 induction i with
 | zero =>
  intro k acc s t u v _ _ h
  rw [rangeD_nil,forGo_nil]
  exact ⟨fun p hp => by simp at hp,by simpa [thI] using h s t u v⟩
 | succ i ih =>
  intro k acc s t u v hk hl h
  have sq1:1 * 1 <= ks.length * ks.length:=Nat.mul_le_mul h1 h1
  have ha:k / (ks.length * ks.length) < ks.length:=by rw [Nat.div_lt_iff_lt_mul (by ac_rfl),<- Nat.mul_assoc]; ac_rfl
  rw [rangeD_cons,forGo_cons]
  refine ⟨fun p hp => by simp at hp,?_⟩
  rw [show ((k:Int) + 1) = ((k + 1:Nat):Int) by ac_rfl]
  refine gN2t (lt_1 h1 hn (lt_2 ha (Nat.mod_lt _ (by ac_rfl)) (Nat.mod_lt _ (by ac_rfl)) (by ac_rfl) ?_))
  refine ih (k + 1) _ _ _ _ _ (by ac_rfl) (by rw [List.length_append]; split <;> simp <;> ac_rfl) fun s t u v => ?_
  have:=h s t u v
  rw [thI,<- List.append_assoc] at this
  exact this
theorem p_law_threes:∀ ds Q,sp_lt3 ds Q -> t_law_threes { nx:=fun _ => Q (.v .non),rt:=Q } (startP ["_law_bands_here", "_law_found", "_law_k", "_law_a", "_law_b", "_law_c"] ds):=by
 rintro ds Q ⟨ks,rfl,h1,hn,m,h⟩
 have sq:ks.length * ks.length <= 12 * 12:=Nat.mul_le_mul hn hn
 have cb:ks.length * ks.length * ks.length <= 144 * 12:=Nat.mul_le_mul sq hn
 have nn:(ks.length:Int) * (ks.length:Int) = ((ks.length * ks.length:Nat):Int):=by norm_cast
 have nnn:((ks.length * ks.length:Nat):Int) * (ks.length:Int) = ((ks.length * ks.length * ks.length:Nat):Int):=by norm_cast
 push_cast [List.length_map,nn,nnn]
 intro l
 refine ⟨sm_d (by ac_rfl) (by ac_rfl),sm_d (by ac_rfl) (by ac_rfl),by ac_rfl,?_⟩
 rw [Int.toNat_natCast]
 refine lt3_0 h1 hn _ 0 [] _ _ _ _ (by ac_rfl) (by simp; ac_rfl) fun s t u v => ?_
 ac_nf
 rw [thI_all m]
 exact h
end Lw
namespace Lw
open PySem PySem.Spec PyProof.Rows L2 Z
open Sf (Rw crs Srt Pre Good kinds kindsFrom place many)
open Fl (kd ids Walk Done tls pc swapAt Pt)
def lt2 (t u:Int × Int):Prop:=t.1 < u.1 \/ (t.1 = u.1 /\ t.2 < u.2)
theorem inP_up (ks:List Int) (a:Int):∀ i b,(inP ks a i b).Pairwise lt2
 | 0,_ => .nil
 | i + 1,b => by
  rw [inP]
  refine List.pairwise_append.mpr ⟨?_,inP_up ks a i (b + 1),fun t ht u hu => ?_⟩
  ·split
   ·exact .nil
   ·exact List.pairwise_singleton _ _
  ·have h2:=(inP_mem ks a i (b + 1) u).mp hu
   split at ht
   ·cases ht
   ·rw [List.mem_singleton] at ht
    subst ht
    exact .inr ⟨h2.1.symm,by have:=h2.2.1; dsimp only; ac_rfl⟩
theorem outP_up (ks:List Int):∀ i a,a + i = ks.length -> (outP ks i a).Pairwise lt2
 | 0,_,_ => .nil
 | i + 1,a,h => by
  rw [outP]
  refine List.pairwise_append.mpr ⟨inP_up ..,outP_up ks i (a + 1) (by ac_rfl),fun t ht u hu => .inl ?_⟩
  have h1:=((inP_mem ks a _ _ t).mp ht).1
  have h2:=((outP_mem ks i (a + 1) u (by ac_rfl)).mp hu).1
  ac_rfl
theorem pairs_up (ks:List Int):(pairsL ks).Pairwise lt2:=outP_up ks ks.length 0 (by ac_rfl)
theorem eqv_map {α:Type} (f:α -> Dv) (hf:∀ a b,eqD (f a) (f b) = true ↔ a = b):∀ l m:List α,PyData.eqvAll (pyDs (l.map f)) (pyDs (m.map f)) = true ↔ l = m
 | [],[] => by simp [pyD.pyDs,PyData.eqvAll]
 | [],_ :: _ => by simp [pyD.pyDs,PyData.eqvAll]
 | _ :: _,[] => by simp [pyD.pyDs,PyData.eqvAll]
 | a :: l,b :: m => by
  show PyData.eqvAll (pyD (f a) :: pyDs (l.map f)) (pyD (f b) :: pyDs (m.map f)) = true ↔ _
  have h:=hf a b
  unfold eqD at h
  rw [PyData.eqvAll,Bool.and_eq_true,eqv_map f hf l m,h,List.cons.injEq]
theorem eqD_lstm {α:Type} (f:α -> Dv) (hf:∀ a b,eqD (f a) (f b) = true ↔ a = b) (l m:List α):eqD (.lst (l.map f)) (.lst (m.map f)) = true ↔ l = m:=by
 unfold eqD
 show PyData.eqv (.list (pyDs _)) (.list (pyDs _)) = true ↔ _
 rw [PyData.eqv]
 exact eqv_map f hf l m
theorem eqD_tupm {α:Type} (f:α -> Dv) (hf:∀ a b,eqD (f a) (f b) = true ↔ a = b) (l m:List α):eqD (.tup (l.map f)) (.tup (m.map f)) = true ↔ l = m:=by
 unfold eqD
 show PyData.eqv (.tuple (pyDs _)) (.tuple (pyDs _)) = true ↔ _
 rw [PyData.eqv]
 exact eqv_map f hf l m
theorem eqD_i (a b:Int):eqD (.int a) (.int b) = true ↔ a = b:=by rw [Z.eqD_int,decide_eq_true_eq]
theorem eqD_nst (l m:List Int):eqD (.tup (nsD l)) (.tup (nsD m)) = decide (l = m):=by
 rw [Bool.eq_iff_iff,decide_eq_true_eq]
 exact eqD_tupm _ eqD_i l m
theorem eqD_ti (t u:Ti):eqD (tiD t) (tiD u) = true ↔ t = u:=by
 have h1:=eqD_i t.1 u.1
 have h2:=eqD_i t.2.1 u.2.1
 have h3:=eqD_tupm Dv.int eqD_i t.2.2 u.2.2
 unfold eqD at h1 h2 h3 ⊢
 show PyData.eqv (.tuple [pyD (.int t.1),pyD (.int t.2.1),pyD (.tup (nsD t.2.2))]) (.tuple [pyD (.int u.1),pyD (.int u.2.1),pyD (.tup (nsD u.2.2))]) = true ↔ _
 rw [PyData.eqv,PyData.eqvAll,PyData.eqvAll,PyData.eqvAll,PyData.eqvAll,Bool.and_eq_true,Bool.and_eq_true,Bool.and_eq_true,h1,h2,h3]
 obtain ⟨a,b,c⟩:=t
 obtain ⟨x,y,z⟩:=u
 simp
theorem eqD_flm (l m:List Ti):eqD (.lst (flD l)) (.lst (flD m)) = decide (l = m):=by
 rw [Bool.eq_iff_iff,decide_eq_true_eq]
 exact eqD_lstm _ eqD_ti l m
theorem eqD_thm (l m:List (Int × Int × Int)):eqD (.lst (thD l)) (.lst (thD m)) = decide (l = m):=by
 rw [Bool.eq_iff_iff,decide_eq_true_eq]
 refine eqD_lstm _ (fun t u => ?_) l m
 rw [show Dv.tup [Dv.int t.1,Dv.int t.2.1,Dv.int t.2.2] = .tup (nsD [t.1,t.2.1,t.2.2]) from rfl,show Dv.tup [Dv.int u.1,Dv.int u.2.1,Dv.int u.2.2] = .tup (nsD [u.1,u.2.1,u.2.2]) from rfl,eqD_nst,decide_eq_true_eq]
 obtain ⟨a,b,c⟩:=t
 obtain ⟨x,y,z⟩:=u
 simp
theorem okDs_of (n:Nat):∀ l:List Dv,(∀ d ∈ l,okD n d = true) -> okDs n l = true
 | [],_ => rfl
 | d :: r,h => by
  show (okD n d && okDs n r) = true
  rw [h d (by simp),okDs_of n r fun x hx => h x (by simp [hx])]
  rfl
theorem ok_th (l:List (Int × Int × Int)):okD 8 (.lst (thD l)) = true:=okDs_of 7 _ fun d hd => by
 obtain ⟨t,_,rfl⟩:=List.mem_map.mp hd
 exact ok_ns 6 [t.1,t.2.1,t.2.2]
theorem ok_fl (l:List Ti):okD 8 (.lst (flD l)) = true:=okDs_of 7 _ fun d hd => by
 obtain ⟨t,_,rfl⟩:=List.mem_map.mp hd
 refine okDs_of 6 _ fun d hd => ?_
 simp only [List.mem_cons,List.not_mem_nil,or_false] at hd
 rcases hd with rfl | rfl | rfl
 ·rfl
 ·rfl
 ·exact ok_ns 5 _
theorem in_th (t:Int × Int × Int):∀ l:List (Int × Int × Int),inD (.tup [.int t.1,.int t.2.1,.int t.2.2]) (thD l) = decide (t ∈ l)
 | [] => rfl
 | u :: l => by
  have ih:=in_th t l
  unfold inD at ih ⊢
  have e:=eqD_nst [u.1,u.2.1,u.2.2] [t.1,t.2.1,t.2.2]
  rw [show thD (u :: l) = .tup (nsD [u.1,u.2.1,u.2.2]) :: thD l from rfl,List.any_cons,ih,show Dv.tup [Dv.int t.1,Dv.int t.2.1,Dv.int t.2.2] = .tup (nsD [t.1,t.2.1,t.2.2]) from rfl,e,<- Bool.decide_or]
  refine decide_eq_decide.mpr ?_
  obtain ⟨a,b,c⟩:=t
  obtain ⟨x,y,z⟩:=u
  simp only [List.cons.injEq,and_true,List.mem_cons,Prod.mk.injEq]
  constructor
  ·rintro (⟨p,q,r⟩ | h)
   ·exact .inl ⟨p.symm,q.symm,r.symm⟩
   ·exact .inr h
  ·rintro (⟨p,q,r⟩ | h)
   ·exact .inl ⟨p.symm,q.symm,r.symm⟩
   ·exact .inr h
theorem okDs_th (l:List (Int × Int × Int)):okDs 8 (thD l) = true:=okDs_of 8 _ fun d hd => by
 obtain ⟨t,_,rfl⟩:=List.mem_map.mp hd
 exact ok_ns 7 [t.1,t.2.1,t.2.2]
noncomputable abbrev Th:=Int × Int × Int
noncomputable abbrev k3 (t:Th):List Int:=[t.1,t.2.1,t.2.2]
theorem inT_up (ks:List Int) (a b:Int):∀ (i c:Nat),(inT ks a b i c).Pairwise fun t u => lexB (k3 t) (k3 u) = true
 | 0,c => .nil
 | i + 1,c => by
  rw [inT]
  refine List.pairwise_append.mpr ⟨by split <;> simp,inT_up ks a b i (c + 1),fun t ht u hu => ?_⟩
  obtain ⟨e1,e2,e3,_⟩:=inT_mem _ _ _ _ _ _ hu
  split at ht
  ·cases ht
  ·rw [List.mem_singleton.mp ht]
   simp [lexB,e1,e2]
   ac_rfl
theorem threes_up (ks:List Int):(threesL ks).Pairwise fun t u => lexB (k3 t) (k3 u) = true:=by
 unfold threesL threesOf
 rw [List.pairwise_flatMap]
 refine ⟨fun t _ => inT_up _ _ _ _ _,(pairs_up ks).imp fun {a b} h x hx y hy => ?_⟩
 obtain ⟨e1,e2,_⟩:=inT_mem _ _ _ _ _ _ hx
 obtain ⟨f1,f2,_⟩:=inT_mem _ _ _ _ _ _ hy
 unfold lt2 at h
 simp only [lexB,e1,e2,f1,f2]
 rcases h with h | ⟨h,h2⟩
 ·rw [if_neg (by ac_rfl)]
  exact decide_eq_true h
 ·rw [if_pos h,if_neg (by ac_rfl)]
  exact decide_eq_true h2
theorem uniq_lex:∀ {l m:List Th},l.Perm m -> l.Pairwise (fun t u => lexB (k3 t) (k3 u) = true) -> m.Pairwise (fun t u => lexB (k3 t) (k3 u) = true) -> l = m
 | [],m,p,_,_ => by rw [List.nil_perm.mp p]
 | a :: l,[],p,_,_ => by cases List.perm_nil.mp p
 | a :: l,b :: m,p,h1,h2 => by
  have h1':=List.pairwise_cons.mp h1
  have h2':=List.pairwise_cons.mp h2
  have e:a = b:=by
   rcases List.mem_cons.mp (p.mem_iff.mp (List.mem_cons_self ..)) with e | ha
   ·exact e
   ·rcases List.mem_cons.mp (p.symm.mem_iff.mp (List.mem_cons_self ..)) with e | hb
    ·exact e.symm
    ·have:=lexB_tr _ _ _ (h1'.1 b hb) (h2'.1 a ha)
     rw [lexB_irr] at this
     cases this
  subst e
  rw [uniq_lex (List.perm_cons a |>.mp p) h1'.2 h2'.2]
noncomputable def dueL (ks:List Int) (one other:List Ti):List Th:=(threesL ks).filter fun t => upB one t != upB other t
theorem filt_perm {p q:Th -> Bool}:∀ l:List Th,(l.filter (fun t => p t && !q t) ++ l.filter (fun t => q t && !p t)).Perm (l.filter fun t => p t != q t)
 | [] => .nil
 | t :: l => by
  have ih:=filt_perm (p:=p) (q:=q) l
  cases hp:p t <;> cases hq:q t <;> simp [List.filter_cons,hp,hq]
  ·simpa using ih
  ·exact List.perm_middle.trans (.cons _ (by simpa using ih))
  ·simpa using ih
  ·simpa using ih
theorem not_c {B:List Th} {Q:R -> Prop}:∀ (l acc:List Th),acc.length + l.length <= 10000 -> Q (.nw (.lst (thD (acc ++ l.filter fun t => !decide (t ∈ B))))) ->
  compGo [.un,.v (.lst (thD B))] (gN 0) (eTest (eOp pNotIn (eVar 0) (eVar 1))) (eVar 0) (thD l) (thD acc) Q:=by
 intro l
 induction l with
 | nil =>
  intro acc _ h
  rw [show thD [] = [] from rfl,compGo_nil]
  simpa using h
 | cons t l ih =>
  intro acc hl h
  simp only [List.length_cons] at hl
  rw [show thD (t :: l) = .tup [.int t.1,.int t.2.1,.int t.2.2] :: thD l from rfl]
  push_cast [pNotIn,in_th,List.length_map]
  refine ⟨⟨rfl,okDs_th B⟩,?_⟩
  by_cases z:t ∈ B
  ·rw [decide_eq_true z,if_neg (by decide)]
   rw [List.filter_cons_of_neg (by simpa using z)] at h
   exact ih _ (by ac_rfl) h
  ·rw [decide_eq_false z,if_pos (by decide)]
   refine ⟨by ac_rfl,?_⟩
   rw [show thD acc ++ [Dv.tup [Dv.int t.1,Dv.int t.2.1,Dv.int t.2.2]] = thD (acc ++ [t]) by simp]
   rw [List.filter_cons_of_pos (by simpa using z)] at h
   exact ih _ (by simp; ac_rfl) (by simpa using h)
theorem thD_tI (l:List Th):thD l = (l.map fun t => (k3 t,([]:List Dv))).map tI:=by rw [List.map_map]; rfl
def sp_unlike (C:Addr):Fn:=fun ds Q => ∃ (rows:List Rw) (one other:List Ti),ds = [sidesD C rows,.lst (flD one),.lst (flD other)] /\ (kinds rows).length <= 12 /\ one.length <= 1000 /\ other.length <= 1000 /\ Keys one /\ Keys other /\ Cov (kinds rows) one /\ Cov (kinds rows) other /\ Mono (kinds rows) /\ Q (.nw (.lst (thD (dueL (kinds rows) one other))))
theorem len_unlike {C:Addr}:∀ ds Q,sp_unlike C ds Q -> ds.length = 3:=by rintro ds Q ⟨_,_,_,rfl,_⟩; rfl
theorem mo_unlike {C:Addr}:MonoF (sp_unlike C):=⟨fun ds Q Q' w z => by obtain ⟨a,b,c,d,e,f,g,i,j,k,l,m,h⟩:=z; exact ⟨a,b,c,d,e,f,g,i,j,k,l,m,w _ h⟩⟩
theorem p_unlike {C:Addr}:∀ ds Q,sp_unlike C ds Q -> t_unlike (sp_up C) { nx:=fun _ => Q (.v .non),rt:=Q } (startP ["sides", "one", "other", "ups", "others"] ds):=by
 rintro ds Q ⟨rows,one,other,rfl,hn,l1,l2,k1,k2,c1,c2,m,q⟩
 have tl:=threesL_len hn
 ac_nf
 refine ⟨rows,one,rfl,hn,l1,k1,c1,m,?_⟩
 ac_nf
 refine ⟨rows,other,rfl,hn,l2,k2,c2,m,?_⟩
 ac_nf
 have f1:=List.length_filter_le (upB one) (threesL (kinds rows))
 have f2:=List.length_filter_le (upB other) (threesL (kinds rows))
 have key:∀ a b:List Ti,((threesL (kinds rows)).filter (upB a)).filter (fun t => !decide (t ∈ (threesL (kinds rows)).filter (upB b))) = (threesL (kinds rows)).filter fun t => upB a t && !upB b t:=fun a b => by
  rw [List.filter_filter]
  apply List.filter_congr
  intro t ht
  simp [List.mem_filter,ht,Bool.and_comm]
 refine not_c _ [] (by simp; ac_rfl) ?_
 refine not_c _ [] (by simp; ac_rfl) ?_
 rw [List.nil_append,List.nil_append,key,key]
 have g1:=List.length_filter_le (fun t => upB one t && !upB other t) (threesL (kinds rows))
 have g2:=List.length_filter_le (fun t => upB other t && !upB one t) (threesL (kinds rows))
 have pm:=filt_perm (p:=upB one) (q:=upB other) (threesL (kinds rows))
 have up:(dueL (kinds rows) one other).Pairwise fun t u => lexB (k3 t) (k3 u) = true:=(threes_up _).filter _
 push_cast [List.length_map]
 refine ⟨by ac_rfl,?_⟩
 rw [<- List.map_append]
 show pSortedL [.lst (thD (List.filter (fun t => upB one t && !upB other t) (threesL (kinds rows)) ++ List.filter (fun t => upB other t && !upB one t) (threesL (kinds rows))))] _
 rw [thD_tI]
 have ne:∀ l:List Th,l.Perm (dueL (kinds rows) one other) -> l.Pairwise fun t u => k3 t ≠ k3 u:=fun l hp => by
  have:(dueL (kinds rows) one other).Pairwise fun t u => k3 t ≠ k3 u:=up.imp fun {t u} h e => by rw [e,lexB_irr] at h; cases h
  exact (hp.pairwise_iff (fun {a b} h => Ne.symm h)).mpr this
 refine pSortedL_T (k:=2) (by simp; ac_rfl) (fun t ht => ?_) ?_ fun ts' hp hs => ?_
 ·obtain ⟨u,_,rfl⟩:=List.mem_map.mp ht
  rfl
 ·rw [List.pairwise_map]
  exact ne _ pm
 ·obtain ⟨fl,hf,rfl⟩:=perm_lift hp rfl
  rw [List.pairwise_map] at hs
  have e:fl = dueL (kinds rows) one other:=uniq_lex (hf.trans pm) hs up
  rw [e,List.map_map]
  exact q
end Lw
namespace Lw
open PySem PySem.Spec PyProof.Rows L2 Z
open Sf (Rw crs Srt Pre Good kinds kindsFrom place many)
open Fl (kd ids Walk Done tls pc swapAt Pt)
abbrev B0 (C:Addr):TSp:=b_law_0 sp_most sp_cell sp_bands (sp_lsides C) sp_row sp_floor sp_belows sp_lt3 (sp_unlike C) sp_is3
abbrev B1 (C:Addr):TSp:=b_law_1 sp_most sp_cell sp_bands (sp_lsides C) sp_row sp_floor sp_belows sp_lt3 (sp_unlike C) sp_is3
theorem eq_bl (p q:Bool):eqD (.bl p) (.bl q) = (p == q):=by cases p <;> cases q <;> rfl
theorem due_0 {C:Addr} {ks:List Int} {one other:List Ti} {a:Addr} {E:En} {x0 x1 x2 x3 x4 x5 x11 x12 x13:Sl} (c1:Cov ks one) (c2:Cov ks other) (mono:Mono ks):∀ (l acc:List Th) (s9 s10:Sl),(∀ t ∈ l,t ∈ threesL ks) -> acc.length + l.length <= 10000 ->
  (∀ s9 s10,E.nx [x0,x1,x2,x3,x4,x5,.v (.dit (dcD one)),.v (.dit (dcD other)),.own a (.lst (thD (acc ++ l.filter fun t => upB one t != upB other t))),s9,s10,x11,x12,x13]) ->
  forGo (gN 9) (B0 C) [] (thD l) E [x0,x1,x2,x3,x4,x5,.v (.dit (dcD one)),.v (.dit (dcD other)),.own a (.lst (thD acc)),s9,s10,x11,x12,x13]:=by
 intro l
 induction l with
 | nil =>
  intro acc s9 s10 _ _ h
  rw [show thD [] = [] from rfl,forGo_nil]
  exact ⟨fun p hp => by simp at hp,by simpa using h s9 s10⟩
 | cons t l ih =>
  intro acc s9 s10 hm hl h
  simp only [List.length_cons] at hl
  obtain ⟨m1,m2,m3,m4,m5,m6⟩:=threes_mem (hm t (by simp))
  have k1:=mono t.1 t.2.1 m1 (by ac_rfl) (by ac_rfl)
  have k2:=mono t.2.1 t.2.2 (by ac_rfl) (by ac_rfl) m4
  obtain ⟨u,hu,_,_,_,eu⟩:=find_cov (c1 t.1 t.2.2 m1 (by ac_rfl) m4 (by ac_rfl))
  obtain ⟨v,hv,_,_,_,ev⟩:=find_cov (c2 t.1 t.2.2 m1 (by ac_rfl) m4 (by ac_rfl))
  rw [show thD (t :: l) = .tup [.int t.1,.int t.2.1,.int t.2.2] :: thD l from rfl,forGo_cons]
  refine ⟨fun p hp => by simp at hp,?_⟩
  have nx:=fun acc s9 s10 => ih acc s9 s10 (fun t ht => hm t (List.mem_cons_of_mem _ ht))
  generalize forGo (gN 9) (B0 C) [] (thD l) E = G at nx ⊢
  push_cast [b_law_0,find_dc,hu,hv,Option.map_some,pIn,in_ns,List.length_map,eq_bl]
  refine ⟨⟨ok_i _ _,ok_ns _ _⟩,⟨ok_i _ _,ok_ns _ _⟩,⟨rfl,rfl⟩,?_⟩
  rw [<- eu,<- ev]
  have e1:upB one t = decide (t.2.1 ∈ mOf one t.1 t.2.2):=rfl
  have e2:upB other t = decide (t.2.1 ∈ mOf other t.1 t.2.2):=rfl
  rw [<- e1,<- e2]
  by_cases z:(!(upB one t == upB other t)) = true
  ·rw [if_pos z]
   refine ⟨by ac_rfl,?_⟩
   rw [show thD acc ++ [Dv.tup [Dv.int t.1,Dv.int t.2.1,Dv.int t.2.2]] = thD (acc ++ [t]) by simp]
   refine nx _ _ _ (by simp; ac_rfl) fun s9 s10 => ?_
   have:=h s9 s10
   rw [List.filter_cons_of_pos (by simpa [bne] using z)] at this
   simpa using this
  ·rw [if_neg z]
   refine nx _ _ _ (by ac_rfl) fun s9 s10 => ?_
   have:=h s9 s10
   rw [List.filter_cons_of_neg (by simpa [bne] using z)] at this
   exact this
structure Fl1 (cs:List Nat) (fl:List Ti):Prop where
 key:Keys fl
 cov:Cov (bandsOf 0 cs) fl
 len:fl.length <= 60
theorem la_1 {C:Addr} {ns:List Int} {k:Nat} {tl:TSp} {E:En} {s2 s3 s4 s5 s6 s7 s8 s9 s10 s11 s12 s13:Sl}
  (h:∀ (cs:List Nat) (one other:List Ti),Cnt cs -> Fl1 cs one -> Fl1 cs other -> tl E [.v (.scr ns),.v (.int k),.v (.lst (nsD (bandsOf 0 cs))),.v (sidesD C (rowsOf 0 cs)),.v (.lst (flD one)),.v (.lst (flD other)),s6,s7,s8,s9,s10,s11,s12,s13]):
  (sSeq (sSet 2 (eCall sp_bands (eCons (eCall sp_cell (eCons (eVar 0) (eCons (eVar 1) eNil))) (eCons (eCall sp_most (eCons (eVar 0) (eCons (eVar 1) (eCons (eC (.int 9)) eNil)))) eNil))))
 (sSeq (sSet 3 (eCall (sp_lsides C) (eCons (eVar 2) eNil)))
 (sSeq (sSet 4 (eCall sp_floor (eCons (eVar 2) (eCons (eCall sp_row (eCons (eVar 2) (eCons (eCall sp_cell (eCons (eVar 0) (eCons (eOp pAdd (eVar 1) (eC (.int 1))) eNil))) eNil))) eNil))))
 (sSeq (sSet 5 (eCall sp_floor (eCons (eVar 2) (eCons (eCall sp_row (eCons (eVar 2) (eCons (eCall sp_cell (eCons (eVar 0) (eCons (eOp pAdd (eVar 1) (eC (.int 2))) eNil))) eNil))) eNil)))) tl)))) E [.v (.scr ns),.v (.int k),s2,s3,s4,s5,s6,s7,s8,s9,s10,s11,s12,s13]:=by
 ac_nf
 refine ⟨ns,k,rfl,by ac_rfl,fun c => ?_⟩
 ac_nf
 refine ⟨ns,k,rfl,fun mm m1 m2 => ?_⟩
 ac_nf
 refine ⟨c,mm,rfl,m1,m2,fun cs hc => ?_⟩
 ac_nf
 refine ⟨cs,rfl,hc,?_⟩
 ac_nf
 have cl:=cnt_len hc
 have ok:∀ row e fl,Walk (bandsOf 0 cs) (ids (bandsOf 0 cs).length) row e -> Done (bandsOf 0 cs) e -> row.length <= 60 -> FlOf (bandsOf 0 cs) row fl -> Fl1 cs fl:=fun row e fl w d rl F => ⟨F.keys w,F.cov w d (bands_Mono cs),by rw [F.len]; exact rl⟩
 refine ⟨ns,_,rfl,by ac_rfl,fun c1 => ?_⟩
 ac_nf
 refine ⟨bandsOf 0 cs,c1,rfl,cl.1,cl.2,cnt_pc hc,fun row e w d rl => ?_⟩
 ac_nf
 refine ⟨_,row,e,rfl,cl.2,w,rl,fun one F _ => ?_⟩
 ac_nf
 refine ⟨ns,_,rfl,by ac_rfl,fun c2 => ?_⟩
 ac_nf
 refine ⟨bandsOf 0 cs,c2,rfl,cl.1,cl.2,cnt_pc hc,fun row2 e2 w2 d2 rl2 => ?_⟩
 ac_nf
 refine ⟨_,row2,e2,rfl,cl.2,w2,rl2,fun other F2 _ => ?_⟩
 ac_nf
 exact h cs one other hc (ok _ _ _ w d rl F) (ok _ _ _ w2 d2 rl2 F2)
theorem la_2 {C:Addr} {cs:List Nat} {one other:List Ti} {tl:TSp} {E:En} {s0 s1 s3 s6 s7 s8 s9 s10 s11 s12 s13:Sl} (hc:Cnt cs) (F1:Fl1 cs one) (F2:Fl1 cs other)
  (h:∀ a s9 s10,tl E [s0,s1,.v (.lst (nsD (bandsOf 0 cs))),s3,.v (.lst (flD one)),.v (.lst (flD other)),.v (.dit (dcD one)),.v (.dit (dcD other)),.own a (.lst (thD (dueL (bandsOf 0 cs) one other))),s9,s10,.v (.lst (flD one)),.v (.lst (flD other)),s13]):
  (sSeq (sSet 6 (eCall sp_belows (eCons (eVar 4) eNil)))
 (sSeq (sSet 7 (eCall sp_belows (eCons (eVar 5) eNil)))
 (sSeq (sSetO 8 (eLst eNil))
 (sSeq (sFor (iSeq (eCall sp_lt3 (eCons (eVar 2) eNil))) (gN 9) (B0 C))
 (sSeq (sSet 11 (eCB pList (eCons (eVar 4) eNil)))
 (sSeq (sSet 12 (eCB pList (eCons (eVar 5) eNil))) tl)))))) E [s0,s1,.v (.lst (nsD (bandsOf 0 cs))),s3,.v (.lst (flD one)),.v (.lst (flD other)),s6,s7,s8,s9,s10,s11,s12,s13]:=by
 have cl:=cnt_len hc
 have l1:=F1.len
 have l2:=F2.len
 have t3:=threesL_len cl.2
 generalize hB:B0 C = B
 ac_nf
 refine ⟨one,rfl,by ac_rfl,F1.key,?_⟩
 ac_nf
 refine ⟨other,rfl,by ac_rfl,F2.key,?_⟩
 ac_nf
 intro a
 refine ⟨bandsOf 0 cs,rfl,by ac_rfl,cl.2,bands_Mono cs,?_⟩
 ac_nf
 subst hB
 refine due_0 (C:=C) F1.cov F2.cov (bands_Mono cs) (threesL (bandsOf 0 cs)) [] _ _ (fun t h => h) (by simp; ac_rfl) fun s9 s10 => ?_
 ac_nf
 exact h a s9 s10
theorem la_3 {C:Addr} {cs:List Nat} {one other:List Ti} {a:Addr} {E:En} {s0 s1 s2 s6 s7 s9 s10 s13:Sl} (hc:Cnt cs) (F1:Fl1 cs one) (F2:Fl1 cs other)
  (h:∀ s13,E.nx [s0,s1,s2,.v (sidesD C (rowsOf 0 cs)),.v (.lst (flD one)),.v (.lst (flD other)),s6,s7,.own a (.lst (thD (dueL (bandsOf 0 cs) one other))),s9,s10,.v (.lst (flD one)),.v (.lst (flD other)),s13]):
  (sSeq (sSetO 13 (eCall (sp_unlike C) (eCons (eVar 3) (eCons (eVar 11) (eCons (eVar 12) eNil)))))
 (sSeq (sIf (eOr (eNot (eTru (eCall sp_is3 (eCons (eVar 13) eNil)))) (eOr (eTest (eOp pNe (eVar 13) (eVar 8))) (eOr (eTest (eOp pNe (eVar 11) (eVar 4))) (eTest (eOp pNe (eVar 12) (eVar 5)))))) (sRet (eC (.bl false))) sNext)
 (sSeq (sClear 13)
 (sIf (eOr (eTest (eOp pNe (eCall (sp_unlike C) (eCons (eVar 3) (eCons (eVar 12) (eCons (eVar 11) eNil)))) (eVar 8))) (eTest (eOp pNe (eCall (sp_unlike C) (eCons (eVar 3) (eCons (eVar 11) (eCons (eCB pList (eCons (eVar 4) eNil)) eNil)))) (eLst eNil)))) (sRet (eC (.bl false))) sNext)))) E
  [s0,s1,s2,.v (sidesD C (rowsOf 0 cs)),.v (.lst (flD one)),.v (.lst (flD other)),s6,s7,.own a (.lst (thD (dueL (bandsOf 0 cs) one other))),s9,s10,.v (.lst (flD one)),.v (.lst (flD other)),s13]:=by
 have cl:=cnt_len hc
 have ek:=kinds_rows cs
 have l1:=F1.len
 have l2:=F2.len
 have un:∀ (x y:List Ti) (Q:R -> Prop),Fl1 cs x -> Fl1 cs y -> Q (.nw (.lst (thD (dueL (bandsOf 0 cs) x y)))) -> sp_unlike C [sidesD C (rowsOf 0 cs),.lst (flD x),.lst (flD y)] Q:=fun x y Q a b q => by
  have m1:=a.len
  have m2:=b.len
  exact ⟨rowsOf 0 cs,x,y,rfl,by rw [ek]; exact cl.2,by ac_rfl,by ac_rfl,a.key,b.key,by rw [ek]; exact a.cov,by rw [ek]; exact b.cov,by rw [ek]; exact bands_Mono cs,by rw [ek]; exact q⟩
 have sw:dueL (bandsOf 0 cs) other one = dueL (bandsOf 0 cs) one other:=by
  unfold dueL
  apply List.filter_congr
  intro t _
  cases upB one t <;> cases upB other t <;> rfl
 have no:dueL (bandsOf 0 cs) one one = []:=by
  unfold dueL
  rw [List.filter_eq_nil_iff]
  intro t _
  cases upB one t <;> decide
 have e0:eqD (.lst []) (.lst []) = true:=eqD_thm [] []
 ac_nf
 refine un one other _ F1 F2 ?_
 ac_nf
 intro b
 refine ⟨_,rfl,?_⟩
 push_cast [eqD_thm,eqD_flm]
 refine ⟨.inr rfl,⟨ok_th _,ok_th _⟩,⟨ok_fl _,ok_fl _⟩,⟨ok_fl _,ok_fl _⟩,?_⟩
 refine un other one _ F2 F1 ?_
 rw [sw]
 push_cast [eqD_thm,eqD_flm]
 refine ⟨⟨ok_th _,ok_th _⟩,?_⟩
 refine un one one _ F1 F1 ?_
 rw [no]
 push_cast [e0]
 exact ⟨⟨rfl,rfl⟩,h _⟩
theorem gN1 {d:Dv} {x0 x1 x2 x3 x4 x5 x6 x7 x8 x9 x10 x11 x12 x13:Sl} {Q:List Sl -> Prop} (h:Q [x0,.v d,x2,x3,x4,x5,x6,x7,x8,x9,x10,x11,x12,x13]):gN 1 d [x0,x1,x2,x3,x4,x5,x6,x7,x8,x9,x10,x11,x12,x13] Q:=by
 ac_nf
 exact h
theorem law_0 {C:Addr} {ns:List Int} {E:En}:∀ (l:List Nat) (s1 s2 s3 s4 s5 s6 s7 s8 s9 s10 s11 s12 s13:Sl),(∀ s1 s2 s3 s4 s5 s6 s7 s8 s9 s10 s11 s12 s13,E.nx [.v (.scr ns),s1,s2,s3,s4,s5,s6,s7,s8,s9,s10,s11,s12,s13]) ->
  forGo (gN 1) (B1 C) [] (l.map fun (m:Nat) => Dv.int (m:Int)) E [.v (.scr ns),s1,s2,s3,s4,s5,s6,s7,s8,s9,s10,s11,s12,s13]:=by
 intro l
 induction l with
 | nil =>
  intro s1 s2 s3 s4 s5 s6 s7 s8 s9 s10 s11 s12 s13 h
  rw [List.map_nil,forGo_nil]
  exact ⟨fun p hp => by simp at hp,h _ _ _ _ _ _ _ _ _ _ _ _ _⟩
 | cons k ks ih =>
  intro s1 s2 s3 s4 s5 s6 s7 s8 s9 s10 s11 s12 s13 h
  rw [List.map_cons,forGo_cons]
  refine ⟨fun p hp => by simp at hp,?_⟩
  have next:=fun s1 s2 s3 s4 s5 s6 s7 s8 s9 s10 s11 s12 s13 => ih s1 s2 s3 s4 s5 s6 s7 s8 s9 s10 s11 s12 s13 h
  generalize forGo (gN 1) (B1 C) [] (ks.map fun (m:Nat) => Dv.int (m:Int)) E = G at next ⊢
  refine gN1 (la_1 (C:=C) fun cs one other hc F1 F2 => la_2 (C:=C) hc F1 F2 fun a s9 s10 => la_3 (C:=C) hc F1 F2 fun s13 => ?_)
  exact next _ _ _ _ _ _ _ _ _ _ _ _ _
def spLaw:Fn:=fun ds Q => ∃ ns:List Int,ds = [.scr ns] /\ ns.length <= 63 /\ Q (.v (.bl true))
theorem len_law:∀ ds Q,spLaw ds Q -> ds.length = 1:=by rintro ds Q ⟨d,rfl,_⟩; rfl
theorem p_law {C:Addr}:∀ ds Q,spLaw ds Q -> t_law sp_most sp_cell sp_bands (sp_lsides C) sp_row sp_floor sp_belows sp_lt3 (sp_unlike C) sp_is3 { nx:=fun _ => Q (.v .non),rt:=Q } (startP ["_law_script", "_law_k", "_law_bands_here", "_law_sides_here", "_law_one", "_law_other", "_law_here", "_law_there", "_law_due", "_law_three", "_law_ends", "_law_first", "_law_second", "_law_found"] ds):=by
 rintro ds Q ⟨ns,rfl,hl,h⟩
 ac_nf
 obtain ⟨m,hm,m22⟩:∃ m:Nat,(if (ns.length:Int) < 21 then (ns.length:Int) else 21) + 1 = m /\ m < 23:=⟨((if (ns.length:Int) < 21 then (ns.length:Int) else 21) + 1).toNat,by split <;> ac_rfl,by split <;> ac_rfl⟩
 rw [hm]
 have sm:∀ m:Nat,m < 23 -> Builtin.Range.small 0 (m:Int) 3 = true /\ 0 <= Builtin.Range.rangeSize 0 (m:Int) 3 /\ (Builtin.Range.rangeSize 0 (m:Int) 3).toNat <= 23:=by decide +kernel
 obtain ⟨q1,q2,q3⟩:=sm m m22
 refine ⟨⟨by decide,by decide,q1,q2⟩,?_⟩
 have e:rangeC 0 3 (Builtin.Range.rangeSize 0 (m:Int) 3).toNat = ((List.range (Builtin.Range.rangeSize 0 (m:Int) 3).toNat).map fun (k:Nat) => 3 * k).map fun (m:Nat) => Dv.int (m:Int):=by
  unfold rangeC
  rw [List.map_map]
  apply List.map_congr_left
  intro k _
  show Dv.int (0 + (k:Int) * 3) = Dv.int ((3 * k:Nat):Int)
  rw [show 0 + (k:Int) * 3 = ((3 * k:Nat):Int) by ac_rfl]
 rw [e]
 refine law_0 _ _ _ _ _ _ _ _ _ _ _ _ _ _ fun s1 s2 s3 s4 s5 s6 s7 s8 s9 s10 s11 s12 s13 => ?_
 ac_nf
 exact h
end Lw
namespace Hd
open PySem PySem.W
noncomputable def ofL:List Obj -> Nat -> BT -> Option (BT × Nat)
 | [],n,t => some (t,n)
 | o :: r,n,t => match ((t.ins n o).get n).isSome with
  | true => ofL r (n + 1) (t.ins n o)
  | false => none
theorem ofL_spec {life:Life}:∀ (l:List Obj) (n:Nat) (t:BT) {t':BT} {n':Nat},ofL l n t = some (t',n') -> absHeap t' n' life = ⟨((absHeap t n life).objs.toList ++ l).toArray,life⟩
 | [],n,t,t',n',h => by
  cases h
  rw [List.append_nil]
  rfl
 | o :: r,n,t,t',n',h => by
  rw [ofL] at h
  cases g:((t.ins n o).get n).isSome with
  | false => rw [g] at h; cases h
  | true =>
   rw [g] at h
   rw [ofL_spec r (n + 1) (t.ins n o) h,absHeap_ins g]
   show Heap.mk _ _ = Heap.mk _ _
   congr 1
   show (((absHeap t n life).objs.push o).toList ++ r).toArray = _
   simp
theorem ofL_heap {h:Heap} {t:BT} {n:Nat} (e:ofL h.objs.toList 0 .nil = some (t,n)):absHeap t n h.life = h:=by
 rw [ofL_spec (life:=h.life) _ _ _ e]
 rfl
noncomputable def topRunT (st:SharedT -> Thread -> Option (SharedT × Thread)) (th:Thread -> Bool) (ok:Thread -> Bool):Nat -> SharedT -> Thread -> Option SharedT
 | 0,_,_ => none
 | n + 1,s,t => match th t with
  | true => some s
  | false => match ok t with
   | false => none
   | true => match Nat.ble s.toks 1000000 with
    | false => none
    | true => match st s t with
     | some (s',t') => topRunT st th ok n s' t'
     | none => none
theorem topRunT_spec {tb:String -> Option Builtin} {p:Program} {w:World} {n₀:Nat} {ann:Option Value}:∀ (n:Nat) (s:SharedT) (t:Thread) {s':SharedT},topRunT (stepT (denote tb) p w) through (stepOk n₀ ann) n s t = some s' -> topRun tb p w n₀ ann n s.abs t = some s'.abs
 | 0,_,_,_,h => by cases h
 | n + 1,s,t,s',h => by
  unfold topRunT at h
  unfold topRun
  cases ht:through t with
  | true => rw [ht] at h; cases h; rfl
  | false =>
   rw [ht] at h
   cases hk:stepOk n₀ ann t with
   | false => rw [hk] at h; cases h
   | true =>
    rw [hk] at h
    dsimp only at h ⊢
    cases hb:Nat.ble s.toks 1000000 with
    | false => rw [hb] at h; cases h
    | true =>
     rw [hb] at h
     dsimp only at h
     cases hs:stepT (denote tb) p w s t with
     | none => rw [hs] at h; cases h
     | some x =>
      obtain ⟨s1,t1⟩:=x
      rw [hs] at h
      rw [stepT_spec hs]
      exact topRunT_spec n s1 t1 h
noncomputable def runAll (st:SharedT -> Thread -> Option (SharedT × Thread)) (th:Thread -> Bool) (ok:Thread -> Bool) (M:Nat) (h:Heap) (gs:Array GenState) (d:Drawn) (k:Nat) (os:OsState) (t:Thread):Option SharedT:=
 match ofL h.objs.toList 0 .nil with
 | some (b,n) => topRunT st th ok M ⟨b,n,h.life,gs,d,k,os⟩ t
 | none => none
theorem runAll_spec {tb:String -> Option Builtin} {p:Program} {w:World} {n₀:Nat} {ann:Option Value} {M:Nat} {h:Heap} {gs:Array GenState} {d:Drawn} {k:Nat} {os:OsState} {t:Thread} {s':SharedT}
  (e:runAll (stepT (denote tb) p w) through (stepOk n₀ ann) M h gs d k os t = some s'):topRun tb p w n₀ ann M ⟨h,gs,d,k,os⟩ t = some s'.abs:=by
 unfold runAll at e
 cases q:ofL h.objs.toList 0 .nil with
 | none => rw [q] at e; cases e
 | some x =>
  obtain ⟨b,n⟩:=x
  rw [q] at e
  have:=topRunT_spec M _ _ e
  unfold SharedT.abs at this
  dsimp only at this
  rw [ofL_heap q] at this
  exact this
theorem left_of {p q:Program} {loose:List Str} {Xt:Shared -> Bool} {α:Type} {Yf:Shared -> α} {Ya:World -> α} {N:Nat} {g0:Bool} {HZ:Params -> Heap} {gs₀:Array GenState} {d₀:Drawn} {k₀:Nat} {m₀:Nat} {ann:Option Value} {M:Nat}
  (open_:∀ w:World,(fencedOpening treeTable p w N).map (fun s => (s.heap,s.gens,s.drawn,s.toks)) = some (HZ w.params,gs₀,d₀,k₀))
  (size:∀ w:World,((HZ w.params).isNs mainGlobals && gs₀.size == 0,(HZ w.params).objs.size,(HZ w.params).nsMap mainGlobals "__annotations__") = (true,m₀,ann)) (le:Nat.ble M N = true)
  (run:∀ (w:World) (os:OsState),(runAll (stepT (denote treeTable) p w) through (stepOk m₀ ann) M (HZ w.params) gs₀ d₀ k₀ os (topStub p)).map (fun s =>
    ((staticsOk (importedModules p.main.body) (HZ w.params) s.abs.heap && namesBound p s.abs.heap && gensDone s.abs && laidKept (HZ w.params) s.abs.heap),openSeen q loose (importedModules p.main.body) Xt g0 s.abs,Yf s.abs)) = some (true,openGood q loose,Ya w)):
  LeftO p q loose Xt Yf Ya N g0:=fun w => by
 obtain ⟨⟨h,gs,d,k,os⟩,e,e'⟩:=Option.map_eq_some_iff.mp (open_ w)
 obtain ⟨rfl,rfl,rfl,rfl⟩:h = HZ w.params /\ gs = gs₀ /\ d = d₀ /\ k = k₀:=by simpa using e'
 obtain ⟨z1,z2,z3⟩:_ /\ _ /\ _:=by simpa only [Prod.mk.injEq] using size w
 obtain ⟨s',r,l⟩:=Option.map_eq_some_iff.mp (run w os)
 obtain ⟨l1,l2,l3⟩:_ /\ _ /\ _:=by simpa only [Prod.mk.injEq] using l
 have r:=topRun_mono (N - M) _ _ _ _ (runAll_spec r)
 rw [show M + (N - M) = N by have:=Nat.le_of_ble_eq_true le; ac_rfl] at r
 have t:topFrom treeTable p w N ⟨HZ w.params,gs,d,k,os⟩ = some s'.abs:=by
  unfold topFrom
  dsimp only
  rw [z1,z2,z3,r]
  show (match staticsOk (importedModules p.main.body) (HZ w.params) s'.abs.heap && namesBound p s'.abs.heap && gensDone s'.abs && laidKept (HZ w.params) s'.abs.heap with | true => _ | false => _) = _
  rw [l1]
 unfold openEnds
 rw [e]
 show (topFrom treeTable p w N _).map _ = _
 rw [t]
 exact congrArg some (Prod.ext l2 l3)
end Hd
namespace Lw
open PySem PySem.Spec PyProof.Rows L2 Z
theorem law_start {K:W.Frag} {H:Hp} {a:Addr} {ns:List Int} (hl:ns.length <= 63) (hO:Only H) (hS:SqL K H a (ns.map V.int)):low K spLaw [.ref a] H (fun v _ => v = .bl true) (fun _ _ _ => False):=
 start_low (fun Q q => ⟨ns,rfl,hl,q⟩) hO (fun P q z => nomatch z.1) hS
theorem us1 {us:List Value} (h:us.length = 1):∃ a0,us = [a0]:=by
 cases us with
 | nil => cases h
 | cons a r => obtain ⟨rfl⟩:=List.length_eq_zero_iff.mp (Nat.succ.inj h); exact ⟨a,rfl⟩
theorem us2 {us:List Value} (h:us.length = 2):∃ a0 a1,us = [a0,a1]:=by
 cases us with
 | nil => cases h
 | cons a r => obtain ⟨a1,rfl⟩:=us1 (Nat.succ.inj h); exact ⟨a,a1,rfl⟩
theorem us3 {us:List Value} (h:us.length = 3):∃ a0 a1 a2,us = [a0,a1,a2]:=by
 cases us with
 | nil => cases h
 | cons a r => obtain ⟨a1,a2,rfl⟩:=us2 (Nat.succ.inj h); exact ⟨a,a1,a2,rfl⟩
theorem all_mk {l:W.OpenLaw} {w:World} {K:W.Frag} {h:Heap} {mg:Str -> Option Value} {fa:Addr} (X:K.In h) (G:h.Ns mainGlobals mg) (hfa:mg "law" = some (.ref fa))
  {C:Addr}
  {f0:Addr} {od0 an0:Option Addr} {sl0:Array (Option Value)} {oc0 kV0 dc0 pm0 cd0 ct0:Value}
  {f1:Addr} {od1 an1:Option Addr} {sl1:Array (Option Value)} {oc1 kV1 dc1 pm1 cd1 ct1:Value}
  {f2:Addr} {od2 an2:Option Addr} {sl2:Array (Option Value)} {oc2 kV2 dc2 pm2 cd2 ct2:Value}
  {f3:Addr} {od3 an3:Option Addr} {sl3:Array (Option Value)} {oc3 kV3 dc3 pm3 cd3 ct3:Value}
  {f4:Addr} {od4 an4:Option Addr} {sl4:Array (Option Value)} {oc4 kV4 dc4 pm4 cd4 ct4:Value}
  {f5:Addr} {od5 an5:Option Addr} {sl5:Array (Option Value)} {oc5 kV5 dc5 pm5 cd5 ct5:Value}
  {f6:Addr} {od6 an6:Option Addr} {sl6:Array (Option Value)} {oc6 kV6 dc6 pm6 cd6 ct6:Value}
  {f7:Addr} {od7 an7:Option Addr} {sl7:Array (Option Value)} {oc7 kV7 dc7 pm7 cd7 ct7:Value}
  {f8:Addr} {od8 an8:Option Addr} {sl8:Array (Option Value)} {oc8 kV8 dc8 pm8 cd8 ct8:Value}
  {f9:Addr} {od9 an9:Option Addr} {sl9:Array (Option Value)} {oc9 kV9 dc9 pm9 cd9 ct9:Value}
  {f10:Addr} {od10 an10:Option Addr} {sl10:Array (Option Value)} {oc10 kV10 dc10 pm10 cd10 ct10:Value}
  {f11:Addr} {od11 an11:Option Addr} {sl11:Array (Option Value)} {oc11 kV11 dc11 pm11 cd11 ct11:Value}
  {f12:Addr} {od12 an12:Option Addr} {sl12:Array (Option Value)} {oc12 kV12 dc12 pm12 cd12 ct12:Value}
  {f13:Addr} {od13 an13:Option Addr} {sl13:Array (Option Value)} {oc13 kV13 dc13 pm13 cd13 ct13:Value}
  {f14:Addr} {od14 an14:Option Addr} {sl14:Array (Option Value)} {oc14 kV14 dc14 pm14 cd14 ct14:Value}
  {f15:Addr} {od15 an15:Option Addr} {sl15:Array (Option Value)} {oc15 kV15 dc15 pm15 cd15 ct15:Value}
  {f16:Addr} {od16 an16:Option Addr} {sl16:Array (Option Value)} {oc16 kV16 dc16 pm16 cd16 ct16:Value}
  {f17:Addr} {od17 an17:Option Addr} {sl17:Array (Option Value)} {oc17 kV17 dc17 pm17 cd17 ct17:Value}
  {f18:Addr} {od18 an18:Option Addr} {sl18:Array (Option Value)} {oc18 kV18 dc18 pm18 cd18 ct18:Value}
  {f19:Addr} {od19 an19:Option Addr} {sl19:Array (Option Value)} {oc19 kV19 dc19 pm19 cd19 ct19:Value}
  {f20:Addr} {od20 an20:Option Addr} {sl20:Array (Option Value)} {oc20 kV20 dc20 pm20 cd20 ct20:Value}
  {f21:Addr} {od21 an21:Option Addr} {sl21:Array (Option Value)} {oc21 kV21 dc21 pm21 cd21 ct21:Value}
  {f22:Addr} {od22 an22:Option Addr} {sl22:Array (Option Value)} {oc22 kV22 dc22 pm22 cd22 ct22:Value}
  {f23:Addr} {od23 an23:Option Addr} {sl23:Array (Option Value)} {oc23 kV23 dc23 pm23 cd23 ct23:Value}
  {f24:Addr} {od24 an24:Option Addr} {sl24:Array (Option Value)} {oc24 kV24 dc24 pm24 cd24 ct24:Value}
  {f25:Addr} {od25 an25:Option Addr} {sl25:Array (Option Value)} {oc25 kV25 dc25 pm25 cd25 ct25:Value}
  {f26:Addr} {od26 an26:Option Addr} {sl26:Array (Option Value)} {oc26 kV26 dc26 pm26 cd26 ct26:Value}
  {f27:Addr} {od27 an27:Option Addr} {sl27:Array (Option Value)} {oc27 kV27 dc27 pm27 cd27 ct27:Value}
  {f28:Addr} {od28 an28:Option Addr} {sl28:Array (Option Value)} {oc28 kV28 dc28 pm28 cd28 ct28:Value}
  {f29:Addr} {od29 an29:Option Addr} {sl29:Array (Option Value)} {oc29 kV29 dc29 pm29 cd29 ct29:Value}
  {t_FEWEST_DIRECTIONS:Tok}
  {t_MOST_DIRECTIONS:Tok}
  {t_MOST_BANDS:Tok}
  {t_LARGEST_PART:Tok}
  (aC:W.nsIn K mainGlobals "Sides" = some (some (.ref C)))
  (a0:W.findIn K (.ref C) "__init__" = some (some (.ref f0))) (i0:W.isFn K (.ref f0) = true)
  (l0:K.lookup f0 = some ⟨oc0,od0,.func (W.fnOf "__init__" "Sides.__init__" (defArgs (inClass (top 24) 0)) (defBody (inClass (top 24) 0)) (defScope (inClass (top 24) 0)) .none kV0 dc0 pm0 an0 cd0 ct0),sl0⟩) (c0:W.codeIn K cd0 "Sides.__init__" = true) (k0:W.keepIn K (.ref f0) = true)
  (a1:W.findIn K (.ref C) "many" = some (some (.ref f1))) (i1:W.isFn K (.ref f1) = true)
  (l1:K.lookup f1 = some ⟨oc1,od1,.func (W.fnOf "many" "Sides.many" (defArgs (inClass (top 24) 1)) (defBody (inClass (top 24) 1)) (defScope (inClass (top 24) 1)) .none kV1 dc1 pm1 an1 cd1 ct1),sl1⟩) (c1:W.codeIn K cd1 "Sides.many" = true) (k1:W.keepIn K (.ref f1) = true)
  (a2:W.findIn K (.ref C) "kind" = some (some (.ref f2))) (i2:W.isFn K (.ref f2) = true)
  (l2:K.lookup f2 = some ⟨oc2,od2,.func (W.fnOf "kind" "Sides.kind" (defArgs (inClass (top 24) 2)) (defBody (inClass (top 24) 2)) (defScope (inClass (top 24) 2)) .none kV2 dc2 pm2 an2 cd2 ct2),sl2⟩) (c2:W.codeIn K cd2 "Sides.kind" = true) (k2:W.keepIn K (.ref f2) = true)
  (a3:W.findIn K (.ref C) "pairs" = some (some (.ref f3))) (i3:W.isFn K (.ref f3) = true)
  (l3:K.lookup f3 = some ⟨oc3,od3,.func (W.fnOf "pairs" "Sides.pairs" (defArgs (inClass (top 24) 4)) (defBody (inClass (top 24) 4)) (defScope (inClass (top 24) 4)) .none kV3 dc3 pm3 an3 cd3 ct3),sl3⟩) (c3:W.codeIn K cd3 "Sides.pairs" = true) (k3:W.keepIn K (.ref f3) = true)
  (pg:W.plainGet K C Str.empty = true) (hd:W.hasDictIn K C = true) (po:W.plainOver K C = true) (sa:W.findIn K (.ref C) "__setattr__" = some (some (.builtin "object.__setattr__"))) (mk:W.makesIn K C = true) (kc:W.keepIn K (.ref C) = true)
  (n_kinds:W.findIn K (.ref C) "kinds" = some none)
  (n_vectors:W.findIn K (.ref C) "vectors" = some none)
  (a4:W.nsIn K mainGlobals "belows" = some (some (.ref f4)))
  (l4:K.lookup f4 = some ⟨oc4,od4,.func (W.fnOf "belows" "belows" (defArgs (top 5)) (defBody (top 5)) (defScope (top 5)) .none kV4 dc4 pm4 an4 cd4 ct4),sl4⟩) (c4:W.codeIn K cd4 "belows" = true) (k4:W.keepIn K (.ref f4) = true)
  (a5:W.nsIn K mainGlobals "threes" = some (some (.ref f5)))
  (l5:K.lookup f5 = some ⟨oc5,od5,.func (W.fnOf "threes" "threes" (defArgs (top 7)) (defBody (top 7)) (defScope (top 7)) .none kV5 dc5 pm5 an5 cd5 ct5),sl5⟩) (c5:W.codeIn K cd5 "threes" = true) (k5:W.keepIn K (.ref f5) = true)
  (a6:W.nsIn K mainGlobals "up" = some (some (.ref f6)))
  (l6:K.lookup f6 = some ⟨oc6,od6,.func (W.fnOf "up" "up" (defArgs (top 8)) (defBody (top 8)) (defScope (top 8)) .none kV6 dc6 pm6 an6 cd6 ct6),sl6⟩) (c6:W.codeIn K cd6 "up" = true) (k6:W.keepIn K (.ref f6) = true)
  (a7:W.nsIn K mainGlobals "unlike" = some (some (.ref f7)))
  (l7:K.lookup f7 = some ⟨oc7,od7,.func (W.fnOf "unlike" "unlike" (defArgs (top 10)) (defBody (top 10)) (defScope (top 10)) .none kV7 dc7 pm7 an7 cd7 ct7),sl7⟩) (c7:W.codeIn K cd7 "unlike" = true) (k7:W.keepIn K (.ref f7) = true)
  (a8:W.nsIn K mainGlobals "is_whole" = some (some (.ref f8)))
  (l8:K.lookup f8 = some ⟨oc8,od8,.func (W.fnOf "is_whole" "is_whole" (defArgs (top 12)) (defBody (top 12)) (defScope (top 12)) .none kV8 dc8 pm8 an8 cd8 ct8),sl8⟩) (c8:W.codeIn K cd8 "is_whole" = true) (k8:W.keepIn K (.ref f8) = true)
  (a9:W.nsIn K mainGlobals "has_three_wholes" = some (some (.ref f9)))
  (l9:K.lookup f9 = some ⟨oc9,od9,.func (W.fnOf "has_three_wholes" "has_three_wholes" (defArgs (top 18)) (defBody (top 18)) (defScope (top 18)) .none kV9 dc9 pm9 an9 cd9 ct9),sl9⟩) (c9:W.codeIn K cd9 "has_three_wholes" = true) (k9:W.keepIn K (.ref f9) = true)
  (a10:W.nsIn K mainGlobals "has_few_figures" = some (some (.ref f10)))
  (l10:K.lookup f10 = some ⟨oc10,od10,.func (W.fnOf "has_few_figures" "has_few_figures" (defArgs (top 19)) (defBody (top 19)) (defScope (top 19)) .none kV10 dc10 pm10 an10 cd10 ct10),sl10⟩) (c10:W.codeIn K cd10 "has_few_figures" = true) (k10:W.keepIn K (.ref f10) = true)
  (a11:W.nsIn K mainGlobals "points_up" = some (some (.ref f11)))
  (l11:K.lookup f11 = some ⟨oc11,od11,.func (W.fnOf "points_up" "points_up" (defArgs (top 20)) (defBody (top 20)) (defScope (top 20)) .none kV11 dc11 pm11 an11 cd11 ct11),sl11⟩) (c11:W.codeIn K cd11 "points_up" = true) (k11:W.keepIn K (.ref f11) = true)
  (a12:W.nsIn K mainGlobals "lies_left" = some (some (.ref f12)))
  (l12:K.lookup f12 = some ⟨oc12,od12,.func (W.fnOf "lies_left" "lies_left" (defArgs (top 21)) (defBody (top 21)) (defScope (top 21)) .none kV12 dc12 pm12 an12 cd12 ct12),sl12⟩) (c12:W.codeIn K cd12 "lies_left" = true) (k12:W.keepIn K (.ref f12) = true)
  (a13:W.nsIn K mainGlobals "check_direction" = some (some (.ref f13)))
  (l13:K.lookup f13 = some ⟨oc13,od13,.func (W.fnOf "check_direction" "check_direction" (defArgs (top 22)) (defBody (top 22)) (defScope (top 22)) .none kV13 dc13 pm13 an13 cd13 ct13),sl13⟩) (c13:W.codeIn K cd13 "check_direction" = true) (k13:W.keepIn K (.ref f13) = true)
  (a14:W.nsIn K mainGlobals "check_directions" = some (some (.ref f14)))
  (l14:K.lookup f14 = some ⟨oc14,od14,.func (W.fnOf "check_directions" "check_directions" (defArgs (top 23)) (defBody (top 23)) (defScope (top 23)) .none kV14 dc14 pm14 an14 cd14 ct14),sl14⟩) (c14:W.codeIn K cd14 "check_directions" = true) (k14:W.keepIn K (.ref f14) = true)
  (a15:W.nsIn K mainGlobals "_law_cell_at" = some (some (.ref f15)))
  (l15:K.lookup f15 = some ⟨oc15,od15,.func (W.fnOf "_law_cell_at" "_law_cell_at" (defArgs (top 26)) (defBody (top 26)) (defScope (top 26)) .none kV15 dc15 pm15 an15 cd15 ct15),sl15⟩) (c15:W.codeIn K cd15 "_law_cell_at" = true) (k15:W.keepIn K (.ref f15) = true)
  (a16:W.nsIn K mainGlobals "_law_whole" = some (some (.ref f16)))
  (l16:K.lookup f16 = some ⟨oc16,od16,.func (W.fnOf "_law_whole" "_law_whole" (defArgs (top 27)) (defBody (top 27)) (defScope (top 27)) .none kV16 dc16 pm16 an16 cd16 ct16),sl16⟩) (c16:W.codeIn K cd16 "_law_whole" = true) (k16:W.keepIn K (.ref f16) = true)
  (a17:W.nsIn K mainGlobals "_law_wholes" = some (some (.ref f17)))
  (l17:K.lookup f17 = some ⟨oc17,od17,.func (W.fnOf "_law_wholes" "_law_wholes" (defArgs (top 28)) (defBody (top 28)) (defScope (top 28)) .none kV17 dc17 pm17 an17 cd17 ct17),sl17⟩) (c17:W.codeIn K cd17 "_law_wholes" = true) (k17:W.keepIn K (.ref f17) = true)
  (a18:W.nsIn K mainGlobals "_law_most" = some (some (.ref f18)))
  (l18:K.lookup f18 = some ⟨oc18,od18,.func (W.fnOf "_law_most" "_law_most" (defArgs (top 29)) (defBody (top 29)) (defScope (top 29)) .none kV18 dc18 pm18 an18 cd18 ct18),sl18⟩) (c18:W.codeIn K cd18 "_law_most" = true) (k18:W.keepIn K (.ref f18) = true)
  (a19:W.nsIn K mainGlobals "_law_bands" = some (some (.ref f19)))
  (l19:K.lookup f19 = some ⟨oc19,od19,.func (W.fnOf "_law_bands" "_law_bands" (defArgs (top 30)) (defBody (top 30)) (defScope (top 30)) .none kV19 dc19 pm19 an19 cd19 ct19),sl19⟩) (c19:W.codeIn K cd19 "_law_bands" = true) (k19:W.keepIn K (.ref f19) = true)
  (a20:W.nsIn K mainGlobals "_law_pick" = some (some (.ref f20)))
  (l20:K.lookup f20 = some ⟨oc20,od20,.func (W.fnOf "_law_pick" "_law_pick" (defArgs (top 31)) (defBody (top 31)) (defScope (top 31)) .none kV20 dc20 pm20 an20 cd20 ct20),sl20⟩) (c20:W.codeIn K cd20 "_law_pick" = true) (k20:W.keepIn K (.ref f20) = true)
  (a21:W.nsIn K mainGlobals "_law_exchanged" = some (some (.ref f21)))
  (l21:K.lookup f21 = some ⟨oc21,od21,.func (W.fnOf "_law_exchanged" "_law_exchanged" (defArgs (top 32)) (defBody (top 32)) (defScope (top 32)) .none kV21 dc21 pm21 an21 cd21 ct21),sl21⟩) (c21:W.codeIn K cd21 "_law_exchanged" = true) (k21:W.keepIn K (.ref f21) = true)
  (a22:W.nsIn K mainGlobals "_law_row" = some (some (.ref f22)))
  (l22:K.lookup f22 = some ⟨oc22,od22,.func (W.fnOf "_law_row" "_law_row" (defArgs (top 33)) (defBody (top 33)) (defScope (top 33)) .none kV22 dc22 pm22 an22 cd22 ct22),sl22⟩) (c22:W.codeIn K cd22 "_law_row" = true) (k22:W.keepIn K (.ref f22) = true)
  (a23:W.nsIn K mainGlobals "_law_floor" = some (some (.ref f23)))
  (l23:K.lookup f23 = some ⟨oc23,od23,.func (W.fnOf "_law_floor" "_law_floor" (defArgs (top 34)) (defBody (top 34)) (defScope (top 34)) .none kV23 dc23 pm23 an23 cd23 ct23),sl23⟩) (c23:W.codeIn K cd23 "_law_floor" = true) (k23:W.keepIn K (.ref f23) = true)
  (a24:W.nsIn K mainGlobals "_law_many" = some (some (.ref f24)))
  (l24:K.lookup f24 = some ⟨oc24,od24,.func (W.fnOf "_law_many" "_law_many" (defArgs (top 35)) (defBody (top 35)) (defScope (top 35)) .none kV24 dc24 pm24 an24 cd24 ct24),sl24⟩) (c24:W.codeIn K cd24 "_law_many" = true) (k24:W.keepIn K (.ref f24) = true)
  (a25:W.nsIn K mainGlobals "_law_sides" = some (some (.ref f25)))
  (l25:K.lookup f25 = some ⟨oc25,od25,.func (W.fnOf "_law_sides" "_law_sides" (defArgs (top 36)) (defBody (top 36)) (defScope (top 36)) .none kV25 dc25 pm25 an25 cd25 ct25),sl25⟩) (c25:W.codeIn K cd25 "_law_sides" = true) (k25:W.keepIn K (.ref f25) = true)
  (a26:W.nsIn K mainGlobals "_law_threes" = some (some (.ref f26)))
  (l26:K.lookup f26 = some ⟨oc26,od26,.func (W.fnOf "_law_threes" "_law_threes" (defArgs (top 37)) (defBody (top 37)) (defScope (top 37)) .none kV26 dc26 pm26 an26 cd26 ct26),sl26⟩) (c26:W.codeIn K cd26 "_law_threes" = true) (k26:W.keepIn K (.ref f26) = true)
  (a27:W.nsIn K mainGlobals "_law_belows" = some (some (.ref f27)))
  (l27:K.lookup f27 = some ⟨oc27,od27,.func (W.fnOf "_law_belows" "_law_belows" (defArgs (top 38)) (defBody (top 38)) (defScope (top 38)) .none kV27 dc27 pm27 an27 cd27 ct27),sl27⟩) (c27:W.codeIn K cd27 "_law_belows" = true) (k27:W.keepIn K (.ref f27) = true)
  (a28:W.nsIn K mainGlobals "_law_is_threes" = some (some (.ref f28)))
  (l28:K.lookup f28 = some ⟨oc28,od28,.func (W.fnOf "_law_is_threes" "_law_is_threes" (defArgs (top 40)) (defBody (top 40)) (defScope (top 40)) .none kV28 dc28 pm28 an28 cd28 ct28),sl28⟩) (c28:W.codeIn K cd28 "_law_is_threes" = true) (k28:W.keepIn K (.ref f28) = true)
  (a29:W.nsIn K mainGlobals "law" = some (some (.ref f29)))
  (l29:K.lookup f29 = some ⟨oc29,od29,.func (W.fnOf "law" "law" (defArgs (top 41)) (defBody (top 41)) (defScope (top 41)) .none kV29 dc29 pm29 an29 cd29 ct29),sl29⟩) (c29:W.codeIn K cd29 "law" = true) (k29:W.keepIn K (.ref f29) = true)
  (z_FEWEST_DIRECTIONS:W.nsIn K mainGlobals "FEWEST_DIRECTIONS" = some (some (.int 2 t_FEWEST_DIRECTIONS)))
  (z_MOST_DIRECTIONS:W.nsIn K mainGlobals "MOST_DIRECTIONS" = some (some (.int 6 t_MOST_DIRECTIONS)))
  (z_MOST_BANDS:W.nsIn K mainGlobals "MOST_BANDS" = some (some (.int 12 t_MOST_BANDS)))
  (z_LARGEST_PART:W.nsIn K mainGlobals "LARGEST_PART" = some (some (.int 999999999999 t_LARGEST_PART)))
  (o_ValueError:W.nsIn K mainGlobals "ValueError" = some none)
  (o_abs:W.nsIn K mainGlobals "abs" = some none)
  (o_all:W.nsIn K mainGlobals "all" = some none)
  (o_bool:W.nsIn K mainGlobals "bool" = some none)
  (o_enumerate:W.nsIn K mainGlobals "enumerate" = some none)
  (o_int:W.nsIn K mainGlobals "int" = some none)
  (o_isinstance:W.nsIn K mainGlobals "isinstance" = some none)
  (o_len:W.nsIn K mainGlobals "len" = some none)
  (o_list:W.nsIn K mainGlobals "list" = some none)
  (o_min:W.nsIn K mainGlobals "min" = some none)
  (o_range:W.nsIn K mainGlobals "range" = some none)
  (o_sorted:W.nsIn K mainGlobals "sorted" = some none)
  (o_sum:W.nsIn K mainGlobals "sum" = some none)
  (o_tuple:W.nsIn K mainGlobals "tuple" = some none)
  (o_zip:W.nsIn K mainGlobals "zip" = some none):
  ∃ fd:FuncData,(∀ (s:Shared) (v:Value),BindsTo s fd ⟨[v],[]⟩ [("_law_script",v)]) /\ ∀ base:Heap,K.In base -> base.Ns mainGlobals mg -> FnOk l.prog w K mg base CX0 8 fa fd ["_law_script"] ((low K spLaw)):=by
 have e:=hfa.symm.trans (W.mg_of X G a29)
 cases e
 have F0:=fun_mk (st:=(inClass (top 24) 0)) l0 c0 k0
 have b0:=F0.binds (ps:=["self", "directions"]) fun _ _ _ _ _ _ us hl => by obtain ⟨_,_,rfl⟩:=us2 hl; rfl
 have m0:MAt K C "__init__" "Sides.__init__" (inClass (top 24) 0) ["self", "directions"]:=⟨_,_,⟨a0,i0,k0⟩,F0,b0⟩
 have F1:=fun_mk (st:=(inClass (top 24) 1)) l1 c1 k1
 have b1:=F1.binds (ps:=["self"]) fun _ _ _ _ _ _ us hl => by obtain ⟨_,rfl⟩:=us1 hl; rfl
 have m1:MAt K C "many" "Sides.many" (inClass (top 24) 1) ["self"]:=⟨_,_,⟨a1,i1,k1⟩,F1,b1⟩
 have F2:=fun_mk (st:=(inClass (top 24) 2)) l2 c2 k2
 have b2:=F2.binds (ps:=["self", "band"]) fun _ _ _ _ _ _ us hl => by obtain ⟨_,_,rfl⟩:=us2 hl; rfl
 have m2:MAt K C "kind" "Sides.kind" (inClass (top 24) 2) ["self", "band"]:=⟨_,_,⟨a2,i2,k2⟩,F2,b2⟩
 have F3:=fun_mk (st:=(inClass (top 24) 4)) l3 c3 k3
 have b3:=F3.binds (ps:=["self"]) fun _ _ _ _ _ _ us hl => by obtain ⟨_,rfl⟩:=us1 hl; rfl
 have m3:MAt K C "pairs" "Sides.pairs" (inClass (top 24) 4) ["self"]:=⟨_,_,⟨a3,i3,k3⟩,F3,b3⟩
 have F4:=fun_mk (st:=(top 5)) l4 c4 k4
 have b4:=F4.binds (ps:=["floor"]) fun _ _ _ _ _ _ us hl => by obtain ⟨_,rfl⟩:=us1 hl; rfl
 have m4:At K mg "belows" "belows" (top 5) ["floor"]:=⟨_,_,W.mg_of X G a4,F4,b4⟩
 have F5:=fun_mk (st:=(top 7)) l5 c5 k5
 have b5:=F5.binds (ps:=["sides"]) fun _ _ _ _ _ _ us hl => by obtain ⟨_,rfl⟩:=us1 hl; rfl
 have m5:At K mg "threes" "threes" (top 7) ["sides"]:=⟨_,_,W.mg_of X G a5,F5,b5⟩
 have F6:=fun_mk (st:=(top 8)) l6 c6 k6
 have b6:=F6.binds (ps:=["sides", "floor"]) fun _ _ _ _ _ _ us hl => by obtain ⟨_,_,rfl⟩:=us2 hl; rfl
 have m6:At K mg "up" "up" (top 8) ["sides", "floor"]:=⟨_,_,W.mg_of X G a6,F6,b6⟩
 have F7:=fun_mk (st:=(top 10)) l7 c7 k7
 have b7:=F7.binds (ps:=["sides", "one", "other"]) fun _ _ _ _ _ _ us hl => by obtain ⟨_,_,_,rfl⟩:=us3 hl; rfl
 have m7:At K mg "unlike" "unlike" (top 10) ["sides", "one", "other"]:=⟨_,_,W.mg_of X G a7,F7,b7⟩
 have F8:=fun_mk (st:=(top 12)) l8 c8 k8
 have b8:=F8.binds (ps:=["thing"]) fun _ _ _ _ _ _ us hl => by obtain ⟨_,rfl⟩:=us1 hl; rfl
 have m8:At K mg "is_whole" "is_whole" (top 12) ["thing"]:=⟨_,_,W.mg_of X G a8,F8,b8⟩
 have F9:=fun_mk (st:=(top 18)) l9 c9 k9
 have b9:=F9.binds (ps:=["direction"]) fun _ _ _ _ _ _ us hl => by obtain ⟨_,rfl⟩:=us1 hl; rfl
 have m9:At K mg "has_three_wholes" "has_three_wholes" (top 18) ["direction"]:=⟨_,_,W.mg_of X G a9,F9,b9⟩
 have F10:=fun_mk (st:=(top 19)) l10 c10 k10
 have b10:=F10.binds (ps:=["direction"]) fun _ _ _ _ _ _ us hl => by obtain ⟨_,rfl⟩:=us1 hl; rfl
 have m10:At K mg "has_few_figures" "has_few_figures" (top 19) ["direction"]:=⟨_,_,W.mg_of X G a10,F10,b10⟩
 have F11:=fun_mk (st:=(top 20)) l11 c11 k11
 have b11:=F11.binds (ps:=["direction"]) fun _ _ _ _ _ _ us hl => by obtain ⟨_,rfl⟩:=us1 hl; rfl
 have m11:At K mg "points_up" "points_up" (top 20) ["direction"]:=⟨_,_,W.mg_of X G a11,F11,b11⟩
 have F12:=fun_mk (st:=(top 21)) l12 c12 k12
 have b12:=F12.binds (ps:=["direction", "ahead"]) fun _ _ _ _ _ _ us hl => by obtain ⟨_,_,rfl⟩:=us2 hl; rfl
 have m12:At K mg "lies_left" "lies_left" (top 21) ["direction", "ahead"]:=⟨_,_,W.mg_of X G a12,F12,b12⟩
 have F13:=fun_mk (st:=(top 22)) l13 c13 k13
 have b13:=F13.binds (ps:=["direction"]) fun _ _ _ _ _ _ us hl => by obtain ⟨_,rfl⟩:=us1 hl; rfl
 have m13:At K mg "check_direction" "check_direction" (top 22) ["direction"]:=⟨_,_,W.mg_of X G a13,F13,b13⟩
 have F14:=fun_mk (st:=(top 23)) l14 c14 k14
 have b14:=F14.binds (ps:=["directions"]) fun _ _ _ _ _ _ us hl => by obtain ⟨_,rfl⟩:=us1 hl; rfl
 have m14:At K mg "check_directions" "check_directions" (top 23) ["directions"]:=⟨_,_,W.mg_of X G a14,F14,b14⟩
 have F15:=fun_mk (st:=(top 26)) l15 c15 k15
 have b15:=F15.binds (ps:=["_law_script", "_law_k"]) fun _ _ _ _ _ _ us hl => by obtain ⟨_,_,rfl⟩:=us2 hl; rfl
 have m15:At K mg "_law_cell_at" "_law_cell_at" (top 26) ["_law_script", "_law_k"]:=⟨_,_,W.mg_of X G a15,F15,b15⟩
 have F16:=fun_mk (st:=(top 27)) l16 c16 k16
 have b16:=F16.binds (ps:=["_law_found"]) fun _ _ _ _ _ _ us hl => by obtain ⟨_,rfl⟩:=us1 hl; rfl
 have m16:At K mg "_law_whole" "_law_whole" (top 27) ["_law_found"]:=⟨_,_,W.mg_of X G a16,F16,b16⟩
 have F17:=fun_mk (st:=(top 28)) l17 c17 k17
 have b17:=F17.binds (ps:=["_law_found"]) fun _ _ _ _ _ _ us hl => by obtain ⟨_,rfl⟩:=us1 hl; rfl
 have m17:At K mg "_law_wholes" "_law_wholes" (top 28) ["_law_found"]:=⟨_,_,W.mg_of X G a17,F17,b17⟩
 have F18:=fun_mk (st:=(top 29)) l18 c18 k18
 have b18:=F18.binds (ps:=["_law_script", "_law_k", "_law_usual"]) fun _ _ _ _ _ _ us hl => by obtain ⟨_,_,_,rfl⟩:=us3 hl; rfl
 have m18:At K mg "_law_most" "_law_most" (top 29) ["_law_script", "_law_k", "_law_usual"]:=⟨_,_,W.mg_of X G a18,F18,b18⟩
 have F19:=fun_mk (st:=(top 30)) l19 c19 k19
 have b19:=F19.binds (ps:=["_law_cell", "_law_most_here"]) fun _ _ _ _ _ _ us hl => by obtain ⟨_,_,rfl⟩:=us2 hl; rfl
 have m19:At K mg "_law_bands" "_law_bands" (top 30) ["_law_cell", "_law_most_here"]:=⟨_,_,W.mg_of X G a19,F19,b19⟩
 have F20:=fun_mk (st:=(top 31)) l20 c20 k20
 have b20:=F20.binds (ps:=["_law_cell", "_law_step", "_law_many_here"]) fun _ _ _ _ _ _ us hl => by obtain ⟨_,_,_,rfl⟩:=us3 hl; rfl
 have m20:At K mg "_law_pick" "_law_pick" (top 31) ["_law_cell", "_law_step", "_law_many_here"]:=⟨_,_,W.mg_of X G a20,F20,b20⟩
 have F21:=fun_mk (st:=(top 32)) l21 c21 k21
 have b21:=F21.binds (ps:=["_law_path", "_law_p"]) fun _ _ _ _ _ _ us hl => by obtain ⟨_,_,rfl⟩:=us2 hl; rfl
 have m21:At K mg "_law_exchanged" "_law_exchanged" (top 32) ["_law_path", "_law_p"]:=⟨_,_,W.mg_of X G a21,F21,b21⟩
 have F22:=fun_mk (st:=(top 33)) l22 c22 k22
 have b22:=F22.binds (ps:=["_law_bands_here", "_law_cell"]) fun _ _ _ _ _ _ us hl => by obtain ⟨_,_,rfl⟩:=us2 hl; rfl
 have m22:At K mg "_law_row" "_law_row" (top 33) ["_law_bands_here", "_law_cell"]:=⟨_,_,W.mg_of X G a22,F22,b22⟩
 have F23:=fun_mk (st:=(top 34)) l23 c23 k23
 have b23:=F23.binds (ps:=["_law_bands_here", "_law_row_here"]) fun _ _ _ _ _ _ us hl => by obtain ⟨_,_,rfl⟩:=us2 hl; rfl
 have m23:At K mg "_law_floor" "_law_floor" (top 34) ["_law_bands_here", "_law_row_here"]:=⟨_,_,W.mg_of X G a23,F23,b23⟩
 have F24:=fun_mk (st:=(top 35)) l24 c24 k24
 have b24:=F24.binds (ps:=["_law_bands_here", "_law_kind"]) fun _ _ _ _ _ _ us hl => by obtain ⟨_,_,rfl⟩:=us2 hl; rfl
 have m24:At K mg "_law_many" "_law_many" (top 35) ["_law_bands_here", "_law_kind"]:=⟨_,_,W.mg_of X G a24,F24,b24⟩
 have F25:=fun_mk (st:=(top 36)) l25 c25 k25
 have b25:=F25.binds (ps:=["_law_bands_here"]) fun _ _ _ _ _ _ us hl => by obtain ⟨_,rfl⟩:=us1 hl; rfl
 have m25:At K mg "_law_sides" "_law_sides" (top 36) ["_law_bands_here"]:=⟨_,_,W.mg_of X G a25,F25,b25⟩
 have F26:=fun_mk (st:=(top 37)) l26 c26 k26
 have b26:=F26.binds (ps:=["_law_bands_here"]) fun _ _ _ _ _ _ us hl => by obtain ⟨_,rfl⟩:=us1 hl; rfl
 have m26:At K mg "_law_threes" "_law_threes" (top 37) ["_law_bands_here"]:=⟨_,_,W.mg_of X G a26,F26,b26⟩
 have F27:=fun_mk (st:=(top 38)) l27 c27 k27
 have b27:=F27.binds (ps:=["_law_tiles"]) fun _ _ _ _ _ _ us hl => by obtain ⟨_,rfl⟩:=us1 hl; rfl
 have m27:At K mg "_law_belows" "_law_belows" (top 38) ["_law_tiles"]:=⟨_,_,W.mg_of X G a27,F27,b27⟩
 have F28:=fun_mk (st:=(top 40)) l28 c28 k28
 have b28:=F28.binds (ps:=["_law_found"]) fun _ _ _ _ _ _ us hl => by obtain ⟨_,rfl⟩:=us1 hl; rfl
 have m28:At K mg "_law_is_threes" "_law_is_threes" (top 40) ["_law_found"]:=⟨_,_,W.mg_of X G a28,F28,b28⟩
 have F29:=fun_mk (st:=(top 41)) l29 c29 k29
 have b29:=F29.binds (ps:=["_law_script"]) fun _ _ _ _ _ _ us hl => by obtain ⟨_,rfl⟩:=us1 hl; rfl
 have m29:At K mg "law" "law" (top 41) ["_law_script"]:=⟨_,_,W.mg_of X G a29,F29,b29⟩
 have v_FEWEST_DIRECTIONS:∃ t,mg "FEWEST_DIRECTIONS" = some (.int 2 t):=⟨_,W.mg_of X G z_FEWEST_DIRECTIONS⟩
 have v_MOST_DIRECTIONS:∃ t,mg "MOST_DIRECTIONS" = some (.int 6 t):=⟨_,W.mg_of X G z_MOST_DIRECTIONS⟩
 have v_MOST_BANDS:∃ t,mg "MOST_BANDS" = some (.int 12 t):=⟨_,W.mg_of X G z_MOST_BANDS⟩
 have v_LARGEST_PART:∃ t,mg "LARGEST_PART" = some (.int 999999999999 t):=⟨_,W.mg_of X G z_LARGEST_PART⟩
 have w_ValueError:mg "ValueError" = none:=W.mg_none_of X G o_ValueError
 have w_abs:mg "abs" = none:=W.mg_none_of X G o_abs
 have w_all:mg "all" = none:=W.mg_none_of X G o_all
 have w_bool:mg "bool" = none:=W.mg_none_of X G o_bool
 have w_enumerate:mg "enumerate" = none:=W.mg_none_of X G o_enumerate
 have w_int:mg "int" = none:=W.mg_none_of X G o_int
 have w_isinstance:mg "isinstance" = none:=W.mg_none_of X G o_isinstance
 have w_len:mg "len" = none:=W.mg_none_of X G o_len
 have w_list:mg "list" = none:=W.mg_none_of X G o_list
 have w_min:mg "min" = none:=W.mg_none_of X G o_min
 have w_range:mg "range" = none:=W.mg_none_of X G o_range
 have w_sorted:mg "sorted" = none:=W.mg_none_of X G o_sorted
 have w_sum:mg "sum" = none:=W.mg_none_of X G o_sum
 have w_tuple:mg "tuple" = none:=W.mg_none_of X G o_tuple
 have w_zip:mg "zip" = none:=W.mg_none_of X G o_zip
 refine ⟨W.fnOf "law" "law" (defArgs (top 41)) (defBody (top 41)) (defScope (top 41)) .none kV29 dc29 pm29 an29 cd29 ct29,fun s v => .of_eq rfl,fun base _ _ => ?_⟩
 have cl:Cls K C:=⟨pg,hd,po,sa⟩
 have mI:IAt K mg "Sides" C "Sides.__init__" (inClass (top 24) 0) ["self", "directions"]:=⟨_,_,⟨mk,a0,i0,kc⟩,W.mg_of X G aC,F0,b0⟩
 have d_belows:=dq_belows (P:=l.prog) (w:=w) (base:=base) m4  len_belows p_belows
 have d_is_whole:=dq_is_whole (P:=l.prog) (w:=w) (base:=base) m8 w_isinstance w_int w_bool len_isw p_is_whole
 have d_has_three_wholes:=dq_has_three_wholes (P:=l.prog) (w:=w) (base:=base) m9 w_isinstance w_tuple w_len w_all d_is_whole mo_isw len_three p_has_three_wholes
 have d_has_few_figures:=dq_has_few_figures (P:=l.prog) (w:=w) (base:=base) m10 w_abs v_LARGEST_PART len_few p_has_few_figures
 have d_points_up:=dq_points_up (P:=l.prog) (w:=w) (base:=base) m11  len_few p_points_up
 have d_lies_left:=dq_lies_left (P:=l.prog) (w:=w) (base:=base) m12  len_left p_lies_left
 have d_check_direction:=dq_check_direction (P:=l.prog) (w:=w) (base:=base) m13 d_has_three_wholes mo_three d_has_few_figures mo_few d_points_up mo_few len_chk1 p_check_direction
 have d_check_directions:=dq_check_directions (P:=l.prog) (w:=w) (base:=base) m14 w_isinstance w_list w_len w_sum w_zip v_FEWEST_DIRECTIONS v_MOST_DIRECTIONS v_MOST_BANDS d_check_direction mo_chk1 d_lies_left mo_left len_chk p_check_directions
 have d_Sides:=dq_init (P:=l.prog) (w:=w) (base:=base) mI w_enumerate w_tuple cl n_kinds n_vectors d_check_directions mo_chk len_sides p_init
 have d_many:=dq_many (P:=l.prog) (w:=w) (mg:=mg) (base:=base) m1 w_len cl n_kinds len_many p_many
 have d_kind:=dq_kind (P:=l.prog) (w:=w) (mg:=mg) (base:=base) m2 cl n_kinds len_kind p_kind
 have d_pairs:=dq_pairs (P:=l.prog) (w:=w) (mg:=mg) (base:=base) m3 w_range cl d_many mo_many d_kind mo_kind len_pairs p_pairs
 have d_threes:=dq_threes (P:=l.prog) (w:=w) (base:=base) m5 w_range cl d_pairs mo_pairs d_many mo_many d_kind mo_kind len_threes p_threes
 have d_up:=dq_up (P:=l.prog) (w:=w) (base:=base) m6 d_belows mo_belows d_threes mo_threes len_up p_up
 have d_unlike:=dq_unlike (P:=l.prog) (w:=w) (base:=base) m7 w_sorted d_up mo_up len_unlike p_unlike
 have d_law_cell_at:=dq_law_cell_at (P:=l.prog) (w:=w) (base:=base) m15 w_len len_cell p_law_cell_at
 have d_law_whole:=dq_law_whole (P:=l.prog) (w:=w) (base:=base) m16 w_isinstance w_int w_bool len_lw p_law_whole
 have d_law_wholes:=dq_law_wholes (P:=l.prog) (w:=w) (base:=base) m17 w_isinstance w_tuple d_law_whole mo_lw len_wholes p_law_wholes
 have d_law_most:=dq_law_most (P:=l.prog) (w:=w) (base:=base) m18 d_law_cell_at mo_cell len_most p_law_most
 have d_law_bands:=dq_law_bands (P:=l.prog) (w:=w) (base:=base) m19 w_range w_len w_min len_bands p_law_bands
 have d_law_pick:=dq_law_pick (P:=l.prog) (w:=w) (base:=base) m20  len_pick p_law_pick
 have d_law_exchanged:=dq_law_exchanged (P:=l.prog) (w:=w) (base:=base) m21  len_exch p_law_exchanged
 have d_law_row:=dq_law_row (P:=l.prog) (w:=w) (base:=base) m22 w_len w_list w_range d_law_pick mo_pick d_law_exchanged mo_exch len_row p_law_row
 have d_law_floor:=dq_law_floor (P:=l.prog) (w:=w) (base:=base) m23 w_len w_list w_range w_sorted w_tuple d_law_exchanged mo_exch len_floor p_law_floor
 have d_law_many:=dq_law_many (P:=l.prog) (w:=w) (base:=base) m24 w_len len_lmany p_law_many
 have d_law_sides:=dq_law_sides (P:=l.prog) (w:=w) (base:=base) m25 w_range d_law_many mo_lmany d_Sides mo_sides len_lsides p_law_sides
 have d_law_threes:=dq_law_threes (P:=l.prog) (w:=w) (base:=base) m26 w_len w_range len_lt3 p_law_threes
 have d_law_belows:=dq_law_belows (P:=l.prog) (w:=w) (base:=base) m27  len_belows p_law_belows
 have d_law_is_threes:=dq_law_is_threes (P:=l.prog) (w:=w) (base:=base) m28 w_isinstance w_list w_len d_law_wholes mo_wholes len_is3 p_law_is_threes
 exact dq_law F29 w_len w_min w_range w_list d_law_most mo_most d_law_cell_at mo_cell d_law_bands mo_bands d_law_sides mo_lsides d_law_row mo_row d_law_floor mo_floor d_law_belows mo_belows d_law_threes mo_lt3 d_unlike mo_unlike d_law_is_threes mo_is3 len_law p_law
theorem walk {l:W.OpenLaw} {q:Program} {loose:List Str} {XP:(Str -> Option Value) -> Heap -> Prop} {YP:World -> Heap -> Prop} {d:DefRec} {K:Params -> W.Frag} (hn:l.most = some 63) (hdf:d.params.defaults = [])
  (hY:∀ (w:World) (h:Heap),YP w h -> (K w.params).In h)
  (F:∀ (w:World) (mg:Str -> Option Value) (fa:Addr) (h:Heap),(K w.params).In h -> h.Ns mainGlobals mg -> mg d.name = some (.ref fa) ->
   ∃ fd:FuncData,(∀ (s:Shared) (u:Value),BindsTo s fd ⟨[u],[]⟩ [("_law_script",u)]) /\ ∀ base:Heap,(K w.params).In base -> base.Ns mainGlobals mg -> FnOk l.prog w (K w.params) mg base CX0 8 fa fd ["_law_script"] ((low (K w.params) spLaw))):
  W.WalkO q loose XP YP l.row.toRowW d [] (fun f vs => PySem.call f vs):=
 L2.walk_of (n:=63) (k:=8) (x:="_law_script") (CX:=fun _ => CX0) (sp:=fun w => (low (K w.params) spLaw)) hn (by decide) hdf ⟨rfl,by decide,by decide⟩ hY F (fun _ H a ns hl hO hS => law_start hl hO hS) fun _ _ _ _ _ z => z
end Lw
noncomputable def Hd.QV:PySem.Program:=PySem.W.view PySem.Challenge.pw_slantfloor_k51_unlike_threes [0,2,3,5,7,8,10,12,14,15,16,17,18,19,20,21,22,23,24,26,27,28,29,30,31,32,33,34,35,36,37,38,39,40,41]
open PySem PySem.W PyProof.Rows
local macro_rules | `(tactic| o_head $H) => `(tactic| refine holds_open (q:=Hd.QV) (loose:=[]) (Xt:=fun s => xlAt Hd.QV [] s && recOk (RowW.records (OpenRow.toRowW (OpenLaw.row PySem.Challenge.rw_slantfloor_k51_unlike_threes))) s) (XP:=XL Hd.QV []) (Yf:=Hook.obs $H) (Ya:=Hook.val $H) (YP:=Hook.says $H) (N:=3618) ?hl (Hook.of $H) (Hook.keeps $H) (fun s e => xl_of s (Bool.and_eq_true_iff.mp e).1) XL.keeps (by rfl) (by rfl) (by rfl) (fun s e => recFacts_of (Bool.and_eq_true_iff.mp e).2) (by rfl) (by first | assumption | decide +kernel) (by decide +kernel) ⟨rfl,rfl,rfl,rfl,rfl,by decide +kernel⟩ ?hw ?hc)
set_option maxRecDepth 100000 in
set_option maxHeartbeats 0 in
theorem PySem.Challenge.cw_slantfloor_k51_unlike_threes_holds : PySem.Challenge.rw_slantfloor_k51_unlike_threes.Holds := by
 w_on; o_law; k_head
 (case hl => exact Hd.left_of (HZ:=boot_heap) (gs₀:=Array.mk []) (d₀:=boot_drawn) (k₀:=boot_toks) (m₀:=11) (ann:=some (.ref 6)) (M:=3618) (boot_open (by kernel_rfl) rfl (fun s => by kernel_rfl)) (fun w => by kernel_rfl) rfl (fun w os => by rw [PySem.W.Fast.te10156331382660048174,PySem.W.Fast.te11892475500146522536,PySem.W.Fast.te14364793385576792824,PySem.W.Fast.te6613529449190102663,PySem.W.Fast.te4187177175401517315]; kernel_rfl))
 (case hw => w_witness2)
 k_fill
 refine Lw.walk (l:=PySem.Challenge.rw_slantfloor_k51_unlike_threes) rfl rfl (fun w h Y => by first | exact PySem.W.kIn_of Y | exact PySem.W.km_in_of Y) ?F
 case F =>
  intro w mg fa h KX G hmg
  refine' Lw.all_mk KX G hmg ?aC ?a0 ?i0 ?l0 ?c0 ?k0 ?a1 ?i1 ?l1 ?c1 ?k1 ?a2 ?i2 ?l2 ?c2 ?k2 ?a3 ?i3 ?l3 ?c3 ?k3 ?pg ?hd ?po ?sa ?mk ?kc ?n_kinds ?n_vectors ?a4 ?l4 ?c4 ?k4 ?a5 ?l5 ?c5 ?k5 ?a6 ?l6 ?c6 ?k6 ?a7 ?l7 ?c7 ?k7 ?a8 ?l8 ?c8 ?k8 ?a9 ?l9 ?c9 ?k9 ?a10 ?l10 ?c10 ?k10 ?a11 ?l11 ?c11 ?k11 ?a12 ?l12 ?c12 ?k12 ?a13 ?l13 ?c13 ?k13 ?a14 ?l14 ?c14 ?k14 ?a15 ?l15 ?c15 ?k15 ?a16 ?l16 ?c16 ?k16 ?a17 ?l17 ?c17 ?k17 ?a18 ?l18 ?c18 ?k18 ?a19 ?l19 ?c19 ?k19 ?a20 ?l20 ?c20 ?k20 ?a21 ?l21 ?c21 ?k21 ?a22 ?l22 ?c22 ?k22 ?a23 ?l23 ?c23 ?k23 ?a24 ?l24 ?c24 ?k24 ?a25 ?l25 ?c25 ?k25 ?a26 ?l26 ?c26 ?k26 ?a27 ?l27 ?c27 ?k27 ?a28 ?l28 ?c28 ?k28 ?a29 ?l29 ?c29 ?k29 ?z_FEWEST_DIRECTIONS ?z_MOST_DIRECTIONS ?z_MOST_BANDS ?z_LARGEST_PART ?o_ValueError ?o_abs ?o_all ?o_bool ?o_enumerate ?o_int ?o_isinstance ?o_len ?o_list ?o_min ?o_range ?o_sorted ?o_sum ?o_tuple ?o_zip
  any_goals k_is
